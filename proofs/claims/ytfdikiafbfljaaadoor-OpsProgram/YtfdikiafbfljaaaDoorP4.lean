/- Which row takes a word. -/
import Derived.Test.YtfdikiafbfljaaaDoorP3
namespace Go.Proofs.YtfdikiafbfljaaaDoor
open Go Go.RowKit
set_option linter.unusedVariables false
set_option maxHeartbeats 1000000
set_option maxRecDepth 20000

theorem fn_bool {a b : Bool} (h : a = b) : Ending.returned (.bool a) = .returned (.bool b) := by rw [h]
theorem clrF_take (v : Nat) (fs : List Nat) (p k : Nat) (h : fs[p]? = some k) : clrF v (fs.take (p + 1)) = clrF v (fs.take p) &&& (65535 - mskK k) := by
  rw [List.take_add_one, h]
  simp [clrF]
theorem mskK_lt (k : Nat) (hk : k < 5) : mskK k < 65536 := by
  rcases (show k = 0 ∨ k = 1 ∨ k = 2 ∨ k = 3 ∨ k = 4 by omega) with rfl | rfl | rfl | rfl | rfl <;> decide
theorem takes_gen (op wd : Nat) (nm : ByteArray) (S : Option Addr) (fs : List Nat) (n v : Nat) (hn : Hid (fs.length = n)) (h3 : (n : Int) ≤ 3) (hk : Hid (∀ k ∈ fs, k < 5)) (hv : Hid (v < 65536)) (w : World) (hl : Hid (LiesL 5 fdC w S fs)) :
    Calls Tryd.prog 21 #[.agg #[.int .u8 (op : Int), .int .u16 (wd : Int), .string nm, .slice S n n], .int .u16 (v : Int)] w fun e w' => e = .returned (.bool (clrF v fs == wd)) ∧ Below w.heap.size w w' := by
  obtain ⟨R, hR⟩ : ∃ R, Hid (R = (clrF v fs == wd)) := ⟨_, (rfl : _ = (clrF v fs == wd))⟩
  rw [← hR.out]
  have hB : Hid (Fm w [(w.heap.size, #[.int .u8 (op : Int), .int .u16 (wd : Int), .string nm, .slice S n n], 54)] (w.alloc (.cells #[.int .u8 (op : Int), .int .u16 (wd : Int), .string nm, .slice S n n] 54))) := Fm.one w _ _
  go_enter Tryd.func21, Tryd.ntmps21
  go_wp2_with ((with_reducible refine gen_world (w.alloc (.cells #[.int .u8 (op : Int), .int .u16 (wd : Int), .string nm, .slice S n n] 54)) (Fm w [(w.heap.size, #[.int .u8 (op : Int), .int .u16 (wd : Int), .string nm, .slice S n n], 54)]) hB.out ?_); intro y K1; have d3 := (K1.out.bx 0 _ _ _ rfl).c 3 (.slice S n n) rfl)
  clear hB
  go_loopw [10, 1] (fun j x wz => ∃ p u : Nat, p ≤ n ∧ j = .int .i64 (p : Int) ∧ x = .int .u16 (u : Int) ∧ Hid (u = clrF v (fs.take p)) ∧ Hid (u < 65536) ∧ Hid (Fm w [(w.heap.size, #[.int .u8 (op : Int), .int .u16 (wd : Int), .string nm, .slice S n n], 54)] wz)) (fun j _ _ => (n - intOf j).toNat)
  case atStart => exact ⟨0, v, by omega, rfl, rfl, (rfl : v = v), hv, K1⟩
  case round =>
    obtain ⟨p, u, hpn, rfl, rfl, hu, hu6, K⟩ := hrel
    by_cases hlt : p < n
    · obtain ⟨k, hpk⟩ : ∃ k, fs[p]? = some k := ⟨_, List.getElem?_eq_getElem (by rw [hn.out]; exact hlt)⟩
      have hk5 : Hid (k < 5) := hk.out k (List.mem_of_getElem? hpk)
      obtain ⟨gb, ob, hS, hr⟩ := hl.out p k hpk
      subst hS
      have hr' : Hid (wr.rangeAt gb (ob + p * 5) (fdC k)) := range_keep hr K.out.low
      have hix := fun w' => idxP (P := Tryd.prog) (t := 52) (e := 62) (s := 5) (g := gb) (off := ob) (len := n) (cap := n) Tryd.underlying52 (by kernel_rfl) .i64 p w' hlt
      have hbt : bits .andNot .u16 (u : Int) ((mskK k : Nat) : Int) = ((u &&& (65535 - mskK k) : Nat) : Int) := u16_andNot_nat u (mskK k) hu6.out (mskK_lt k hk5.out)
      have hpi : (p : Int) < n := by omega
      have fin : Hid ((u &&& (65535 - mskK k)) = clrF v (fs.take (p + 1)) ∧ (u &&& (65535 - mskK k)) < 65536) := ⟨by rw [clrF_take v fs p k hpk, ← hu.out], Nat.lt_of_le_of_lt Nat.and_le_left hu6.out⟩
      have hm := fun z => mask_any k hk5.out z
      have hlt' : Hid (p < n) := hlt
      generalize mskK k = mk at hbt fin hm
      generalize hzz : (u &&& (65535 - mk)) = uu at hbt fin
      clear hlt hr hl hpk hzz
      go_wp2_with (first
        | (go_at_call 22; refine (hm _).mono ?_; rintro e z3 ⟨rfl, hb3⟩; have K3 : Hid (Fm w [(w.heap.size, #[.int .u8 (op : Int), .int .u16 (wd : Int), .string nm, .slice (some ⟨gb, ob, none⟩) n n], 54), (wr.heap.size, (fdC k).toArray, 62)] z3) := K2.out.below hb3)
        | ((with_reducible refine at_load rtF wr.heap.size (fdC k).toArray ?_ ?_ (.tmp 6) ?_ ?_ ?_ ?_); exact K2.out.bx 1 _ _ _ rfl; rfl; rfl; rfl; rfl)
        | ((with_reducible refine at_st rtF wr.heap.size #[.string ⟨#[]⟩, .int .i64 0, .int .i64 0, .nilFunc, .nilFunc] (fdC k).toArray ?_ ?_ ?_ ?_ (.tmp 6) (.tmp 13) ?_ ?_ ?_ ?_ ?_); exact M.out.bx 1 _ _ _ rfl; rfl; rfl; simp [fdC, Value.oneCell']; rfl; rfl; rfl; rfl; intro z2 hw2; have K2 : Hid (Fm w [(w.heap.size, #[.int .u8 (op : Int), .int .u16 (wd : Int), .string nm, .slice (some ⟨gb, ob, none⟩) n n], 54), (wr.heap.size, (fdC k).toArray, 62)] z2) := M.out.put 1 _ _ _ _ rfl hw2.out)
        | ((with_reducible refine gen_world (wr.alloc (.cells #[.string ⟨#[]⟩, .int .i64 0, .int .i64 0, .nilFunc, .nilFunc] 62)) (Fm w [(w.heap.size, #[.int .u8 (op : Int), .int .u16 (wd : Int), .string nm, .slice (some ⟨gb, ob, none⟩) n n], 54), (wr.heap.size, #[.string ⟨#[]⟩, .int .i64 0, .int .i64 0, .nilFunc, .nilFunc], 62)]) ?_ ?_); exact K.out.new _ _; intro z M)
        | ((with_reducible refine at_loadm rtF gb (ob + p * 5) (fdC k).toArray ?_ ?_ (.tmp 12) ?_ ?_ ?_ ?_); exact hr'.out; rfl; rfl; rfl; rfl))
      go_roundw
      case rel => exact ⟨p + 1, uu, by have := hlt'.out; omega, by simp, rfl, fin.out.1, fin.out.2, K3.out.pre (l' := [_])⟩
      case measure => have := hlt'.out; simp [intOf]; omega
    · have hpe : p = n := by omega
      subst hpe
      have d1 := (K.out.bx 0 _ _ _ rfl).c 1 (.int .u16 (wd : Int)) rfl
      have fin : Hid (((u : Int) == (wd : Int)) = R) := by
        show _ = _
        rw [hR.out, hu.out, List.take_of_length_le (by rw [hn.out]; exact Nat.le_refl _), Bool.eq_iff_iff]
        simp
        omega
      go_wp2
      go_ret
      exact ⟨fn_bool fin.out, K.out.low⟩
theorem fs_len (i : Nat) (hi : i < 31) : ((fsR i).length : Int) ≤ 3 := by
  rcases fs_pats i hi with e | e | e | e | e | e <;> rw [e] <;> decide
theorem fs_lt (i : Nat) (hi : i < 31) : ∀ k ∈ fsR i, k < 5 := by
  rcases fs_pats i hi with e | e | e | e | e | e <;> rw [e] <;> decide
/-- Does the i-th row take the word? -/
theorem takes_any (i : Nat) (hi : i < 31) (sp : Nat → Option Addr) (v : Nat) (hv : v < 65536) (w : World) (hl : LiesL 5 fdC w (sp i) (fsR i)) :
    Calls Tryd.prog 21 #[.agg (rwC sp i).toArray, .int .u16 (v : Int)] w fun e w' => e = .returned (.bool (takR i v)) ∧ Below w.heap.size w w' :=
  takes_gen (opR i) (wdR i) ⟨(nmR i).toArray⟩ (sp i) (fsR i) (fsR i).length v (rfl : (fsR i).length = _) (fs_len i hi) (fs_lt i hi) hv w hl
end Go.Proofs.YtfdikiafbfljaaaDoor
