/- The lines of a program, one by one, each handed to whatever is done with it: the function to range over. -/
import Derived.Test.YtfdikiafbfljaaaDoorPc0
import Derived.RangeFuncNested
import Derived.RangeFuncBound
import Derived.RangeFuncCalls
import Derived.RangeFuncLeaves
import Derived.Shelf.Abstract
import Derived.Shelf.RegionOpen
import Derived.WalkKit
import Derived.OwnWalkIn
import Derived.TacticsInMore
import Derived.LoopNIn
import Derived.LoopIn
namespace Go.Proofs.YtfdikiafbfljaaaDoor
open Go Go.RowKit Go.Shelf
set_option linter.unusedVariables false
set_option maxHeartbeats 1000000
set_option maxRecDepth 100000
attribute [local go_sem] Oper.semAt_some

theorem cut_is (s : ByteArray) (c0 : UInt8) (hs : s.size ≤ 1000000) : ∃ (a b : ByteArray) (f : Bool), ((a = s ∧ b = ⟨#[]⟩ ∧ (∀ x ∈ strL s, x ≠ c0)) ∨ (strL s = strL a ++ c0 :: strL b ∧ (∀ x ∈ strL a, x ≠ c0) ∧ a.size + b.size + 1 = s.size)) ∧
    ∀ (w : World) (mx : Int), Tm mx w → Calls Tryd.prog 41 #[.string s, .string ⟨#[c0]⟩] w fun e w' => e = .returned (.tuple #[.string a, .string b, .bool f]) ∧ Below w.heap.size w w' := by
  refine ⟨⟨(Lib.cut (strL s) [c0]).1.toArray⟩, ⟨(Lib.cut (strL s) [c0]).2.1.toArray⟩, (Lib.cut (strL s) [c0]).2.2, ?_, fun w mx hm => ?_⟩
  · rcases cutC c0 (strL s) with ⟨h1, h2⟩ | ⟨a, b, h1, h2, h3⟩
    · rw [h2]
      exact .inl ⟨strL_mk s, rfl, h1⟩
    · rw [h3]
      refine .inr ⟨by simpa [strL] using h1, by simpa [strL] using h2, ?_⟩
      have := congrArg List.length h1
      rw [strL_len] at this
      rw [this]
      show a.length + b.length + 1 = _
      simp
      omega
  · refine (Tryd.strings_Cut s ⟨#[c0]⟩ mx w (by omega) hm).mono ?_
    rintro e w' ⟨rfl, n, rfl⟩
    exact ⟨rfl, ⟨rfl, rfl, rfl, Nat.le_refl _, fun _ _ => rfl⟩⟩
theorem lns_len (l : List UInt8) : ∀ cur : List UInt8, (lnsG l cur).length ≤ l.length + min 1 cur.length := by
  induction l with
  | nil =>
    intro cur
    unfold lnsG
    split
    · simp
    · rename_i h
      rcases cur with _ | ⟨c, r⟩
      · exact absurd rfl h
      · simp
  | cons c r ih =>
    intro cur
    unfold lnsG
    split
    · have := ih []
      simp only [List.length_cons, List.length_nil] at *
      omega
    · have := ih (cur ++ [c])
      simp only [List.length_cons, List.length_append, List.length_nil] at *
      omega
def szV : Value → Nat
  | .string r => r.size
  | _ => 0
/-- Where the lines have come to. -/
structure At (s : ByteArray) (k : Nat) (r : ByteArray) : Prop where
  sz : r.size + k ≤ 65536
  ln : ∃ pre, lnsG (strL s) [] = pre ++ lnsG (strL r) [] ∧ pre.length = k
theorem strL_ne {r : ByteArray} (h : 0 < r.size) : strL r ≠ [] := fun e => by
  have := strL_len r
  rw [e] at this
  simp at this
  omega
theorem At.step {s r a b : ByteArray} {k : Nat} (h : At s k r) (hr : 0 < r.size) (hc : (a = r ∧ b = ⟨#[]⟩ ∧ (∀ x ∈ strL r, x ≠ 10)) ∨ (strL r = strL a ++ 10 :: strL b ∧ (∀ x ∈ strL a, x ≠ 10) ∧ a.size + b.size + 1 = r.size)) :
    At s (k + 1) b ∧ b.size < r.size ∧ a.size ≤ 65536 ∧ (lnsG (strL s) [])[k]? = some (strL a) := by
  obtain ⟨h1, pre, h2, h3⟩ := h
  have key : lnsG (strL r) [] = strL a :: lnsG (strL b) [] := by
    rcases hc with ⟨rfl, rfl, h⟩ | ⟨h, h', _⟩
    · rw [lns_no _ h (strL_ne hr)]
      rfl
    · rw [h, lns_hit _ _ h']
  have hb : b.size < r.size ∧ a.size ≤ r.size := by
    rcases hc with ⟨rfl, rfl, _⟩ | ⟨_, _, h⟩
    · exact ⟨hr, Nat.le_refl _⟩
    · omega
  refine ⟨⟨by omega, pre ++ [strL a], by rw [h2, key]; simp, by simp [h3]⟩, hb.1, by omega, ?_⟩
  rw [h2, key, List.getElem?_append_right (by omega), h3, Nat.sub_self]
  rfl
theorem At.done {s : ByteArray} {k : Nat} (h : At s k ⟨#[]⟩) : (lnsG (strL s) []).length = k := by
  obtain ⟨h1, pre, h2, h3⟩ := h
  rw [h2, show lnsG (strL ⟨#[]⟩) [] = [] from rfl, List.append_nil, h3]
theorem lines1_in (m : Nat) (hm : 1 ≤ m) (l bk : Nat) (mx : Int) (s : ByteArray) (hs : Hid (s.size ≤ 65536)) (J : Nat → World → Prop) (Jx : World → Prop)
    (hJ : Hid (∀ (k : Nat) (W W' : World), J k W → Below W.heap.size W W' → J k W')) (hT : Hid (∀ (k : Nat) (W : World), J k W → Tm mx W))
    (hS : Hid (∀ (k : Nat) (L : List UInt8) (W : World), (lnsG (strL s) [])[k]? = some L → wordsA L = [] → J k W → J (k + 1) W))
    (hY : Hid (∀ (k N : Nat) (L : List UInt8) (W : World) (gx c : Nat), k + 1 = N → (lnsG (strL s) [])[k]? = some L → L.length ≤ 65536 → J k W → WdsAt W gx 0 (wordsA L) → (wordsA L).length = c → 0 < c →
      YieldAt Fence.wide (m - 1) Tryd.prog l #[.int .i64 (N : Int), .slice (some ⟨gx, 0, none⟩) c c] W fun e W' => (e = .returned (.bool true) ∧ J (k + 1) W') ∨ (e = .returned (.bool false) ∧ Jx W')))
    (W : World) (hbk : Hid (Bx W bk #[.string s] 9)) (h0 : Hid (J 0 W)) :
    CallsIn Fence.wide m Tryd.prog 40 #[.func (.yield l) #[] #[], .pointer (some ⟨bk, 0, none⟩)] W fun e W' => (∃ v, e = .returned v) ∧ (J (lnsG (strL s) []).length W' ∨ Jx W') := by
  have ck := hbk.out.c 0 (.string s) rfl
  refine callsIn_of_wp Tryd.func40 rfl trivial ?_ rfl
  simp only [Tryd.ntmps40, List.size_toArray, List.length_cons, List.length_nil, Nat.reduceAdd, Nat.reduceSub, Array.replicate_succ, Array.replicate_zero, List.push_toArray, List.append_toArray, List.nil_append, List.cons_append]
  gi_wp2
  gi_loopw [3, 4] (fun f g wz => ∃ (k N : Nat) (r : ByteArray) (y : World), y = wz ∧ f = .string r ∧ g = .int .i64 (N : Int) ∧ Hid (k + 1 = N ∧ At s k r) ∧ Hid (J k y)) (fun f _ _ => szV f)
  case atStart => exact ⟨0, 1, s, W, rfl, rfl, rfl, ⟨rfl, ⟨hs.out, [], rfl, rfl⟩⟩, h0⟩
  case round =>
    obtain ⟨k, N, r, y, rfl, rfl, rfl, R, HJ⟩ := hrel
    by_cases hr : 0 < r.size
    · have e1 : r.toList.isEmpty = false := by
        rw [toList_eq]
        have := strL_ne hr
        unfold strL at this
        rcases h : r.data.toList with _ | ⟨c, t⟩
        · exact absurd h this
        · rfl
      have e2 : (r.toList == ([] : List UInt8)) = false := by
        rcases h : r.toList with _ | ⟨c, t⟩
        · rw [h] at e1; cases e1
        · rfl
      have hNi : (N : Int) ≤ 65537 := by have := R.out.1; have := R.out.2.sz; omega
      have hw : IntKind.i64.wrap ((N : Int) + 1) = ((N + 1 : Nat) : Int) := by rw [IntKind.wrap_i64]; omega
      obtain ⟨N1, hN1⟩ : ∃ N1, N + 1 = N1 := ⟨_, rfl⟩
      rw [hN1] at hw
      obtain ⟨a, b, f, hab, hC⟩ := cut_is r 10 (by have := R.out.2.sz; omega)
      obtain ⟨A1, hb, ha, hk⟩ := R.out.2.step hr hab
      have hR : Hid (k + 1 + 1 = N1 ∧ At s (k + 1) b ∧ b.size < r.size) := ⟨by have := R.out.1; omega, A1, hb⟩
      obtain ⟨c, hc⟩ : ∃ c, (wordsA (strL a)).length = c := ⟨_, rfl⟩
      have hci : (c : Int) ≤ 65536 := by have := wordsA_len (strL a); rw [strL_len] at this; omega
      have hW1 : Hid (∀ (z : World), Tm mx z → Calls Tryd.prog 42 #[.string a] z fun e w' => ∃ A, e = .returned (.slice (some ⟨A, 0, none⟩) c c) ∧ Hid (WdsAt w' A 0 (wordsA (strL a)) ∧ Below z.heap.size z w')) := fun z hz => by
        have h := words_any z mx hz a (by omega)
        rw [hc] at h
        exact h.mono fun e w' ⟨A, he, hK⟩ => ⟨A, he, KT.wds hK.out, hK.out.2⟩
      have hC' : Hid (∀ (z : World), Tm mx z → Calls Tryd.prog 41 #[.string r, .string ⟨#[10]⟩] z fun e w' => e = .returned (.tuple #[.string a, .string b, .bool f]) ∧ Below z.heap.size z w') := fun z hz => hC z mx hz
      have hk' : Hid ((lnsG (strL s) [])[k]? = some (strL a) ∧ (strL a).length ≤ 65536 ∧ (wordsA (strL a)).length = c ∧ k + 1 = N) := ⟨hk, by rw [strL_len]; exact ha, hc, R.out.1⟩
      clear hC hab A1 hb ha hk hc hr R hN1
      by_cases hc0 : 0 < c
      · have g1 : decide (0 < c) = true := decide_eq_true hc0
        have hc0' : Hid (0 < c) := hc0
        clear hc0
        gi_wp2_with (first
          | (refine ⟨trivial, ?_⟩; gi_at_call 42; refine (callsIn_wide.2 (hW1.out z (hT.out _ _ Jz.out))).mono ?_; rintro e z2 ⟨A, rfl, HK⟩; have Jz2 : Hid (J k z2) := hJ.out _ _ _ Jz.out HK.out.2; obtain ⟨fn, tmps, assign, body, hy, hRr⟩ := hY.out k N (strL a) z2 A c hk'.out.2.2.2 hk'.out.1 hk'.out.2.1 Jz2.out HK.out.1 hk'.out.2.2.1 hc0'.out)
          | (refine ⟨trivial, ?_⟩; gi_at_call 41; refine (callsIn_wide.2 (hC'.out y (hT.out _ _ HJ.out))).mono ?_; rintro e z ⟨rfl, hbz⟩; have Jz : Hid (J k z) := hJ.out _ _ _ HJ.out hbz; clear hbz))
        refine hRr.mono ?_
        rintro e z3 (⟨rfl, hJ2⟩ | ⟨rfl, hJx2⟩)
        · gi_wp2
          go_roundw
          case rel => exact ⟨k + 1, N1, b, z3, rfl, rfl, rfl, ⟨hR.out.1, hR.out.2.1⟩, hJ2⟩
          case measure => exact hR.out.2.2
        · gi_wp2
          refine bodyPost_ret (results_none rfl _ _ _) rfl ?_
          exact ⟨⟨_, rfl⟩, .inr hJx2⟩
      · have hce : c = 0 := by omega
        subst hce
        have hnil : Hid (wordsA (strL a) = []) := List.eq_nil_of_length_eq_zero hk'.out.2.2.1
        clear hc0
        gi_wp2_with (first
          | (refine ⟨trivial, ?_⟩; gi_at_call 42; refine (callsIn_wide.2 (hW1.out z (hT.out _ _ Jz.out))).mono ?_; rintro e z2 ⟨A, rfl, HK⟩; have Jz2 : Hid (J (k + 1) z2) := hS.out _ _ _ hk'.out.1 hnil.out (hJ.out _ _ _ Jz.out HK.out.2))
          | (refine ⟨trivial, ?_⟩; gi_at_call 41; refine (callsIn_wide.2 (hC'.out y (hT.out _ _ HJ.out))).mono ?_; rintro e z ⟨rfl, hbz⟩; have Jz : Hid (J k z) := hJ.out _ _ _ HJ.out hbz; clear hbz))
        refine ⟨fun _ _ => trivial, ?_⟩
        rename_i K9 hK9 _ _ _ _
        refine hK9 _ _ ?_
        clear hK9
        gi_wp2
        go_roundw
        case rel => exact ⟨k + 1, N1, b, z2, rfl, rfl, rfl, ⟨hR.out.1, hR.out.2.1⟩, Jz2⟩
        case measure => exact hR.out.2.2
    · have hre : r = ⟨#[]⟩ := size_zero (by omega)
      subst hre
      have fin : Hid (J (lnsG (strL s) []).length y) := by rw [R.out.2.done]; exact HJ.out
      clear hr
      gi_wp2
      go_end0
      exact ⟨⟨_, rfl⟩, .inl fin.out⟩
theorem lines_in (m : Nat) (s : ByteArray) (w : World) :
    CallsIn Fence.wide m Tryd.prog 25 #[.string s] w fun e w' => e = .returned (.func (.func 40) #[] #[.pointer (some ⟨w.heap.size, 0, none⟩)]) ∧ w' = w.alloc (.cells #[.string s] 9) := by
  refine callsIn_of_wp Tryd.func25 rfl trivial ?_ rfl
  simp only [Tryd.ntmps25, List.size_toArray, List.length_cons, List.length_nil, Nat.reduceAdd, Nat.reduceSub, Array.replicate_succ, Array.replicate_zero, List.push_toArray, List.append_toArray, List.nil_append, List.cons_append]
  gi_wp2
  go_ret
  exact ⟨rfl, rfl⟩
end Go.Proofs.YtfdikiafbfljaaaDoor
