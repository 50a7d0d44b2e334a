/- A span's line: the program's. -/
import Derived.Test.YthpahpfnpapoiaaDoorVt
import Derived.Test.YthpahpfnpapoiaaDoorHex
namespace Go.Proofs.YthpahpfnpapoiaaDoor
open Go Go.RowKit
set_option linter.unusedVariables false
set_option maxHeartbeats 1000000
set_option maxRecDepth 20000

theorem pieces_take : ∀ (j : Nat) (ps : List (List UInt8 × Nat)) (vs : List Int) (p : List UInt8 × Nat) (v : Int), ps[j]? = some p → vs[j]? = some v → piecesW (ps.take (j + 1)) (vs.take (j + 1)) = piecesW (ps.take j) (vs.take j) ++ pieceW p v := by
  intro j
  induction j with
  | zero =>
    intro ps vs p v hp hv
    cases ps with
    | nil => simp at hp
    | cons a ps =>
      cases vs with
      | nil => simp at hv
      | cons b vs =>
        simp at hp hv
        subst hp
        subst hv
        simp [piecesW]
  | succ j ih =>
    intro ps vs p v hp hv
    cases ps with
    | nil => simp at hp
    | cons a ps =>
      cases vs with
      | nil => simp at hv
      | cons b vs =>
        simp only [List.getElem?_cons_succ] at hp hv
        simp only [List.take_succ_cons, piecesW, List.append_assoc]
        rw [ih ps vs p v hp hv]
theorem okV_at : ∀ (j : Nat) (ps : List (List UInt8 × Nat)) (vs : List Int) (p : List UInt8 × Nat) (v : Int), OkV ps vs → ps[j]? = some p → vs[j]? = some v → 0 ≤ v ∧ v < (if p.2 = 0 then 2 else 16 ^ p.2) := by
  intro j
  induction j with
  | zero =>
    intro ps vs p v h hp hv
    cases ps with
    | nil => simp at hp
    | cons a ps =>
      cases vs with
      | nil => simp at hv
      | cons b vs =>
        simp at hp hv
        subst hp
        subst hv
        exact h.1
  | succ j ih =>
    intro ps vs p v h hp hv
    cases ps with
    | nil => simp at hp
    | cons a ps =>
      cases vs with
      | nil => simp at hv
      | cons b vs =>
        simp only [List.getElem?_cons_succ] at hp hv
        exact ih ps vs p v h.2 hp hv
theorem part_at (j : Nat) (h : j < 9) : ∃ (pw : ByteArray) (dg : Nat), partC[j * 2]? = some (.string pw) ∧ partC[j * 2 + 1]? = some (.int .i64 (dg : Int)) ∧ partsL[j]? = some (strL pw, dg) ∧ pw.size ≤ 5 ∧ dg ≤ 4 := by
  match j, h with
  | 0, _ => exact ⟨_, 4, rfl, rfl, rfl, by decide, by decide⟩
  | 1, _ => exact ⟨_, 0, rfl, rfl, rfl, by decide, by decide⟩
  | 2, _ => exact ⟨_, 0, rfl, rfl, rfl, by decide, by decide⟩
  | 3, _ => exact ⟨_, 0, rfl, rfl, rfl, by decide, by decide⟩
  | 4, _ => exact ⟨_, 0, rfl, rfl, rfl, by decide, by decide⟩
  | 5, _ => exact ⟨_, 0, rfl, rfl, rfl, by decide, by decide⟩
  | 6, _ => exact ⟨_, 0, rfl, rfl, rfl, by decide, by decide⟩
  | 7, _ => exact ⟨_, 0, rfl, rfl, rfl, by decide, by decide⟩
  | 8, _ => exact ⟨_, 2, rfl, rfl, rfl, by decide, by decide⟩
theorem idxW (a : At) (j : Nat) (h : j < 9) : ∃ v, (worV a)[j]? = some v ∧ ∀ w, (Instr.index 74 (.agg (wC a)) (.int .i64 (j : Int))).run Tryd.prog w = .ok (.int .i64 v) w := by
  match j, h with
  | 0, _ => exact ⟨_, rfl, fun w => by kernel_rfl⟩
  | 1, _ => exact ⟨_, rfl, fun w => by kernel_rfl⟩
  | 2, _ => exact ⟨_, rfl, fun w => by kernel_rfl⟩
  | 3, _ => exact ⟨_, rfl, fun w => by kernel_rfl⟩
  | 4, _ => exact ⟨_, rfl, fun w => by kernel_rfl⟩
  | 5, _ => exact ⟨_, rfl, fun w => by kernel_rfl⟩
  | 6, _ => exact ⟨_, rfl, fun w => by kernel_rfl⟩
  | 7, _ => exact ⟨_, rfl, fun w => by kernel_rfl⟩
  | 8, _ => exact ⟨_, rfl, fun w => by kernel_rfl⟩
theorem idxPt (j : Nat) (h : j < 9) (w : World) : (Instr.indexAt 78 (.pointer (some ⟨0, 0, none⟩)) (.int .i64 (j : Int))).run Tryd.prog w = .ok (.pointer (some ⟨0, j * 2, none⟩)) w := by
  have := idx (P := Tryd.prog) (g := 0) (off := 0) (N := 9) (s := 2) Tryd.underlying78 (by kernel_rfl) .i64 j w h
  rw [Nat.zero_add] at this
  exact this
def lineP (s : Sn) (j : Nat) : List UInt8 := Lib.itoa s.c ++ joinT (piecesW (partsL.take j) ((worV s.a).take j))
theorem lineP_nine (s : Sn) : lineP s 9 = lineL s := by
  unfold lineP lineL
  rw [rest_pieces]
  rfl
theorem lineP_step (s : Sn) (j : Nat) (p : List UInt8 × Nat) (v : Int) (hp : partsL[j]? = some p) (hv : (worV s.a)[j]? = some v) : lineP s (j + 1) = lineP s j ++ joinT (pieceW p v) := by
  unfold lineP
  rw [pieces_take j _ _ p v hp hv, joinT_app, List.append_assoc]
theorem join_one (w : List UInt8) : joinT [w] = 32 :: w := by simp [joinT]
theorem join_two (w x : List UInt8) : joinT [w, x] = 32 :: w ++ 32 :: x := by simp [joinT]
theorem blank_L : strL ⟨#[32]⟩ = [32] := rfl
theorem app_size (a b : ByteArray) : (a ++ b).size = a.size + b.size := by
  have h := strL_len (a ++ b)
  rw [strL_app, List.length_append, strL_len, strL_len] at h
  omega

theorem line_any (w : World) (tb : Hid (Tp w)) (s : Sn) (g : Good s) : Calls Tryd.prog 38 #[.agg (spC s)] w fun e w' => ∃ st, e = .returned (.string st) ∧ Hid (strL st = lineL s ++ [10] ∧ st.size ≤ 200 ∧ Below w.heap.size w w') := by
  have hF : Hid (Fm w [(w.heap.size, spC s, 34)] (w.alloc (.cells (spC s) 34))) := Fm.one w _ _
  have hI := itoa_any s.c (by have := g.c0; omega) (by have := g.c1; omega)
  obtain ⟨i1, i2, i3⟩ := itoa_dec s.c g.c0 g.c1
  obtain ⟨IT, hIT⟩ : ∃ x : ByteArray, (⟨(Lib.itoa s.c).toArray⟩ : ByteArray) = x := ⟨_, rfl⟩
  rw [hIT] at hI
  have it : Hid (IT.size ≤ 7 ∧ strL IT = lineP s 0) := by
    have e : strL IT = Lib.itoa s.c := by rw [← hIT]; simp [strL]
    exact ⟨by rw [str_size IT _ e]; exact i2, by rw [e]; simp [lineP, piecesW, joinT]⟩
  have hW := fun y => worths_any y s g.k0 g.k1 g.b0 g.b1
  have ok : Hid (OkV partsL (worV s.a)) := ok_wor s.a g.k0 g.k1 g.b0 g.b1
  clear i1 i2 i3 hIT g
  go_enter Tryd.func38, Tryd.ntmps38
  go_wp2_with (first
    | ((with_reducible refine gen_world (w.alloc (.cells (spC s) 34)) (Fm w [(w.heap.size, spC s, 34)]) hF.out ?_); intro y0 K0; have d0 := (K0.out.bx 0 _ _ _ rfl).c 0 _ (spC_c s))
    | (go_at_call 46; refine (hI y0 (tb.out.below K0.out.low)).mono ?_; rintro e y1 ⟨rfl, hb1⟩; have K1 : Hid (Fm w [(w.heap.size, spC s, 34)] y1) := K0.out.below hb1)
    | ((with_reducible refine at_load rtS w.heap.size (spC s) ?_ ?_ (.tmp 1) ?_ ?_ ?_ ?_); exact K1.out.bx 0 _ _ _ rfl; rfl; kernel_rfl; rfl; rfl)
    | (go_at_call 47; refine (hW y1).mono ?_; rintro e y2 ⟨rfl, hb2⟩; have K2 : Hid (Fm w [(w.heap.size, spC s, 34)] y2) := K1.out.below hb2))
  go_loopw [3, 12] (fun t i wz => ∃ (j : Nat) (st : ByteArray) (y : World), y = wz ∧ t = .string st ∧ i = .int .i64 (j : Int) ∧ j ≤ 9 ∧ st.size ≤ 7 + 12 * j ∧ Hid (strL st = lineP s j) ∧ Hid (Fm w [(w.heap.size, spC s, 34)] y)) (fun _ i _ => (9 - intOf i).toNat)
  case atStart => exact ⟨0, IT, y2, rfl, rfl, rfl, by decide, it.out.1, it.out.2, K2⟩
  case round =>
    obtain ⟨j, st, y, rfl, rfl, rfl, j9, sz, J, K⟩ := hrel
    clear K0 K1 K2 hI hW it hb1 hb2 d0 hF
    by_cases hlt : j < 9
    · obtain ⟨pw, dg, p1, p2, p3, p4, p5⟩ := part_at j hlt
      obtain ⟨v, v1, ix⟩ := idxW s.a j hlt
      have ia := idxPt j hlt
      have hT := tb.out.below K.out.low
      have cw := hT.part _ _ p1
      have cd := hT.part _ _ p2
      have hv := okV_at j _ _ _ _ ok.out p3 v1
      have hstep := lineP_step s j _ _ p3 v1
      have hji : (j : Int) < 9 := by omega
      have szi : (st.size : Int) ≤ 115 := by omega
      have pwi : (pw.size : Int) ≤ 5 := by omega
      by_cases hz : v = 0
      · subst hz
        have fin : Hid (strL st = lineP s (j + 1)) := by
          show _ = _
          rw [hstep, J.out]
          simp [pieceW, joinT]
        clear hstep hv p3 v1 hlt
        go_wp2
        go_roundw
        case rel => exact ⟨j + 1, st, _, rfl, rfl, by simp, by omega, by omega, fin, K⟩
        case measure => simp [intOf]; omega
      · have q : (v == 0) = false := by simpa using hz
        by_cases hd : dg = 0
        · subst hd
          have fin : Hid (strL (st ++ (⟨#[32]⟩ ++ pw)) = lineP s (j + 1)) := by
            show _ = _
            rw [hstep, strL_app, strL_app, J.out]
            unfold pieceW
            rw [if_neg hz, if_pos rfl, join_one]
            rfl
          have fsz : Hid ((st ++ (⟨#[32]⟩ ++ pw)).size ≤ 7 + 12 * (j + 1)) := by
            show _ ≤ _
            rw [app_size, app_size]
            have : (ByteArray.mk #[32]).size = 1 := rfl
            omega
          clear hstep hv p3 v1 hlt hz
          go_wp2
          go_roundw
          case rel => exact ⟨j + 1, _, _, rfl, rfl, by simp, by omega, fsz.out, fin, K⟩
          case measure => simp [intOf]; omega
        · have q2 : 0 < dg := by omega
          rw [if_neg hd] at hv
          dsimp only at hv
          have h16 : (16 : Int) ^ dg ≤ 65536 := by
            rcases (show dg = 1 ∨ dg = 2 ∨ dg = 3 ∨ dg = 4 by omega) with h | h | h | h <;> subst h <;> decide
          have hv2 : v ≤ 9223372036854775807 := by have := hv.2; omega
          have hX := fun y => hex_any v (dg : Int) y hv2
          obtain ⟨x1, x2⟩ := hexOf_small v dg hv.1 hv.2 ⟨by omega, by omega⟩
          obtain ⟨HX, hHX⟩ : ∃ x, hexOf v (dg : Int) = x := ⟨_, rfl⟩
          rw [hHX] at hX x1 x2
          have hxi : (HX.size : Int) ≤ 4 := by omega
          have fin : Hid (strL (st ++ (⟨#[32]⟩ ++ pw) ++ (⟨#[32]⟩ ++ HX)) = lineP s (j + 1)) := by
            show _ = _
            rw [hstep, strL_app, strL_app, strL_app, strL_app, J.out, x1]
            unfold pieceW
            rw [if_neg hz, if_neg hd, join_two]
            simp [blank_L]
          have fsz0 : ((st ++ (⟨#[32]⟩ ++ pw)).size : Int) ≤ 121 := by
            rw [app_size, app_size]
            have : (ByteArray.mk #[32]).size = 1 := rfl
            omega
          have fsz : Hid ((st ++ (⟨#[32]⟩ ++ pw) ++ (⟨#[32]⟩ ++ HX)).size ≤ 7 + 12 * (j + 1)) := by
            show _ ≤ _
            rw [app_size, app_size, app_size, app_size]
            have : (ByteArray.mk #[32]).size = 1 := rfl
            omega
          clear hstep hv p3 v1 hlt hz hd x1 x2 hHX h16 hv2
          go_wp2_with (go_at_call 48; refine (hX y).mono ?_; rintro e y3 ⟨rfl, hb3⟩; have K3 : Hid (Fm w [(w.heap.size, spC s, 34)] y3) := K.out.below hb3)
          go_roundw
          case rel => exact ⟨j + 1, _, _, rfl, rfl, by simp, by omega, fsz.out, fin, K3⟩
          case measure => simp [intOf]; omega
    · have hje : j = 9 := by omega
      subst hje
      have fin : Hid (strL (st ++ ⟨#[10]⟩) = lineL s ++ [10] ∧ (st ++ ⟨#[10]⟩).size ≤ 200) := by
        refine ⟨by rw [strL_app, J.out, lineP_nine]; rfl, ?_⟩
        rw [app_size]
        have : (ByteArray.mk #[10]).size = 1 := rfl
        omega
      have szi : (st.size : Int) ≤ 115 := by omega
      clear hlt j9
      go_wp2
      go_ret
      exact ⟨_, rfl, ⟨fin.out.1, fin.out.2, K.out.low⟩⟩
end Go.Proofs.YthpahpfnpapoiaaDoor
