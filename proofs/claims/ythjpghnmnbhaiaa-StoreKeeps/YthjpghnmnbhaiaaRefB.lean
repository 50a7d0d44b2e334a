/- The document's store: Lay, Size, New, Clone. -/
import Derived.Test.YthjpghnmnbhaiaaRef
import Derived.Deep.RegionWith
import Derived.Deep.RegionHeld3
import Derived.Deep.DrawnRows
namespace Go.Proofs.Ythjpghnmnbhaiaa
open Go Go.RowKit
set_option linter.unusedVariables false
set_option maxHeartbeats 1000000
set_option maxRecDepth 20000

theorem below_drew {B : Nat} {a w : World} (h : Below B a w) : Below B a w.drew := ⟨h.os, h.tape, h.output, h.size, h.block⟩
theorem Blk.lay {x y : World} {g n : Nat} {Y Z : Nat → Int} {p len : Nat} {cur : Array Value} (h1 : cur.size = n) (h2 : ∀ j, j < n → cur[j]? = some (.int .u8 (Z j))) (hy : y.heap[g]? = some (.cells (splice cur.toList p (rowOf len Y)).toArray 5 (0, 0))) (hp : p + len ≤ n) : Blk y g n (fun k => if p ≤ k ∧ k < p + len then Y (k - p) else Z k) := by
  refine ⟨_, hy, ?_, fun j hj => ?_⟩
  · have := length_splice cur.toList p (rowOf len Y) (by rw [rowOf_len]; simp; omega)
    simpa [h1] using this
  · rw [List.getElem?_toArray, length_lay _ _ _ (by rw [rowOf_len]; simp; omega), rowOf_len]
    show _ = some (Value.int .u8 (if p ≤ j ∧ j < p + len then Y (j - p) else Z j))
    split
    · rw [rowOf_at _ _ _ (by omega)]
    · rw [Array.getElem?_toList, h2 j hj]

theorem rlay_some (w : World) (r m f : Nat) (S : St) (ok : S.ok) (h : Ref w r m f S) (p : Nat) (sp : Option Addr) (len cap : Nat) (hp : p + len ≤ S.n) (Y : Nat → Int) (hY : Hid (Lies w sp len Y)) :
    Calls Try.prog 26 #[.pointer (some ⟨r, 0, none⟩), .int .i64 (p : Int), .slice sp len cap] w fun e w' => e = .returned (.int .i64 0) ∧ Ref w' r m f (S.lay p len Y) ∧ Upd (· = m) w w' := by
  have n1 := ok.hi
  have c0 := h.c0
  obtain ⟨cur, hC, hcs, hcc⟩ := h.mem
  have cut := cutAt m p S.n S.n (by omega) (Nat.le_refl _)
  have hh : Hid (Ref w r m f S) := h
  have hC' : Hid (w.heap[m]? = some (.cells cur 5 (0, 0)) ∧ cur.size = S.n ∧ ∀ j, j < S.n → cur[j]? = some (.int .u8 (S.ram j))) := ⟨hC, hcs, hcc⟩
  obtain ⟨n, hn⟩ : ∃ n, Hid (S.n = n) := ⟨_, (rfl : S.n = S.n)⟩
  rw [hn.out] at cut c0 hp n1
  have hlen : Hid (p + len ≤ n) := hp
  have d1 : decide ((p : Int) < 0) = false := by simp
  have d2 : (p : Int) ≤ (n : Int) := by omega
  have d4 : (len : Int) ≤ (n : Int) - (p : Int) := by omega
  have b1 : (n : Int) ≤ 32768 := by omega
  have b2 : (len : Int) ≤ 32768 := by omega
  clear hC hcs hcc ok hp n1 h
  go_enter Try.func26, Try.ntmps26
  go_wp2_with (first
    | (refine wpList_copy_upd rfl (.tmp 37) (.tmp 38) 23 23 rfl 5 Try.underlying23 (by kernel_rfl) (some (cutAd m p n)) sp (n - p) (n - p) len cap rfl rfl m p cur.toList 5 ?g1 (rowOf len Y) ?g2 ?g3 ?g4 (rowOf_one _ _) ?_))
  case g1 => rw [Array.toArray_toList]; exact hC'.out.1
  case g2 => rw [rowOf_len]; have := hlen.out; show len = min len (n - p); omega
  case g3 =>
    intro hp
    rw [rowOf_len] at hp
    have := hlen.out
    obtain ⟨ad, e, hc⟩ := hY.out.src (Nat.le_refl _) hp
    have e1 : cutAd m p n = ⟨m, p, none⟩ := by unfold cutAd; rw [if_neg (by omega)]
    rw [e1]
    first | exact ⟨rfl, ad, e, hc⟩ | exact ⟨ad, e, hc⟩
  case g4 => rw [rowOf_len, Array.length_toList, hC'.out.2.1, hn.out]; exact hlen.out
  intro w1 hw1
  have fin : Hid (Ref w1 r m f (S.lay p len Y) ∧ Upd (· = m) w w1) := by
    have u := hw1.out.2
    refine ⟨⟨u.at hh.out.box hh.out.rm.1, ?_, hh.out.fix.keep u (fun e => hh.out.ne e.symm), hh.out.ne⟩, u⟩
    exact Blk.lay (x := w) hC'.out.2.1 hC'.out.2.2 hw1.out.1 (by show p + len ≤ S.n; rw [hn.out]; exact hlen.out)
  clear hw1 hlen hC' hh cut hn
  go_wp2
  go_ret
  exact ⟨rfl, fin.out⟩

theorem rlay_none (w : World) (r m f : Nat) (S : St) (ok : S.ok) (h : Ref w r m f S) (p : Int) (hp1 : -9223372036854775808 ≤ p) (hp2 : p ≤ 9223372036854775807) (sp : Option Addr) (len cap : Nat) (hlen : len ≤ maxLen) (hp : ¬ (0 ≤ p ∧ p + len ≤ S.n)) :
    Calls Try.prog 26 #[.pointer (some ⟨r, 0, none⟩), .int .i64 p, .slice sp len cap] w fun e w' => e = .returned (.int .i64 32) ∧ w' = w := by
  have n1 := ok.hi
  have c0 := h.c0
  obtain ⟨n, hn⟩ : ∃ n, S.n = n := ⟨_, rfl⟩
  rw [hn] at c0 hp n1
  have b1 : (n : Int) ≤ 32768 := by omega
  have b2 : (len : Int) ≤ 9223372036854775807 := by unfold maxLen at hlen; omega
  clear ok h hn n1 hlen
  by_cases h0 : p < 0
  · clear hp
    go_enter Try.func26, Try.ntmps26
    go_wp2
    go_ret
    exact ⟨rfl, rfl⟩
  have d1 : decide (p < 0) = false := by simpa using h0
  by_cases h1 : (n : Int) < p
  · clear hp h0
    go_enter Try.func26, Try.ntmps26
    go_wp2
    go_ret
    exact ⟨rfl, rfl⟩
  · have d2 : p ≤ (n : Int) := by omega
    have d4 : (n : Int) - p < (len : Int) := by omega
    clear hp h0 h1
    go_enter Try.func26, Try.ntmps26
    go_wp2
    go_ret
    exact ⟨rfl, rfl⟩

theorem rsize_any (w : World) (n : Int) : Calls Try.prog 32 #[.int .i64 n] w fun e w' => e = .returned (.bool (decide (2048 ≤ n ∧ n ≤ 32768 ∧ n.tmod 2048 = 0))) ∧ w' = w := by
  by_cases h1 : n < 2048
  · have e : decide (2048 ≤ n ∧ n ≤ 32768 ∧ n.tmod 2048 = 0) = false := by simp; omega
    rw [e]
    have h1' : decide (2048 ≤ n) = false := by simpa using h1
    clear e h1
    go_enter Try.func32, Try.ntmps32
    go_wp2
    go_ret
    exact ⟨by first | rfl | simp, rfl⟩
  have h1' : (2048 : Int) ≤ n := by omega
  by_cases h2 : 32768 < n
  · have e : decide (2048 ≤ n ∧ n ≤ 32768 ∧ n.tmod 2048 = 0) = false := by simp; omega
    rw [e]
    have h2' : decide (n ≤ 32768) = false := by simpa using h2
    clear e h1 h2
    go_enter Try.func32, Try.ntmps32
    go_wp2
    go_ret
    exact ⟨by first | rfl | simp, rfl⟩
  have h2' : decide (n ≤ 32768) = true := by simp; omega
  clear h1
  by_cases h3 : n.tmod 2048 = 0
  · have e : decide (2048 ≤ n ∧ n ≤ 32768 ∧ n.tmod 2048 = 0) = true := by simp; omega
    rw [e]
    clear e h2
    go_enter Try.func32, Try.ntmps32
    go_wp2
    go_ret
    exact ⟨by first | rfl | simp, rfl⟩
  · have e : decide (2048 ≤ n ∧ n ≤ 32768 ∧ n.tmod 2048 = 0) = false := by simp; omega
    rw [e]
    have h3' : (n.tmod 2048 == 0) = false := by simpa using h3
    clear e h2 h3
    go_enter Try.func32, Try.ntmps32
    go_wp2
    go_ret
    exact ⟨by first | rfl | (simp; rw [Int.tmod_eq_emod_of_nonneg (by omega)] at h3'; simpa using h3'), rfl⟩
end Go.Proofs.Ythjpghnmnbhaiaa
