/- The statements' own awake; OpsThere, OpsLines: the walks. -/
import Derived.Test.YtenlkihbffbniaaDoorPa4
namespace Go.Proofs.YtenlkihbffbniaaDoor
open Go Go.RowKit
set_option linter.unusedVariables false
set_option maxHeartbeats 1000000
set_option maxRecDepth 20000

theorem fldV_word (k w : Nat) (hw : w < 65536) : fldV k w < 65536 := by
  unfold fldV
  rw [Nat.shiftRight_eq_div_pow]
  exact Nat.lt_of_le_of_lt (Nat.div_le_self _ _) (Nat.lt_of_le_of_lt Nat.and_le_left hw)
theorem OdR.ord (w : Nat) (hw : w < 65536) : ∀ (fs : List Nat) (o : Od), OdR o → OdR (ordF o w fs) := by
  intro fs
  induction fs with
  | nil => intro o h; exact h
  | cons k fs ih => intro o h; exact ih _ (h.put k _ (fldV_word k w hw))
theorem wrdF_lt (o : Od) (fs : List Nat) : ∀ u, u < 65536 → wrdF u o fs < 65536 := by
  induction fs with
  | nil => intro u h; exact h
  | cons k fs ih => intro u h; exact ih _ (Nat.or_lt_two_pow (n := 16) h (Nat.mod_lt _ (by decide)))
theorem enc_lt {o : Od} {x : Nat} (h : encW o = some x) : x < 65536 := by
  obtain ⟨i, h1, rfl, _⟩ := encW_of h
  exact wrdF_lt o _ _ (wd_bnd i (fstI_of h1).1)
theorem enc_R {o : Od} {x : Nat} (h : encW o = some x) : OdR o := by
  obtain ⟨i, hi, _, _, _, ho⟩ := enc_row h
  rw [ho]
  exact OdR.ord x (enc_lt h) _ _ (OdR.zero _ (Nat.lt_of_le_of_lt (op_bnd i hi).2 (by decide)))
theorem lineB_sz (o : Od) : (lineB o).size ≤ 40 := by
  unfold lineB
  split
  · rename_i i hi
    have h1 := (fstI_of hi).1
    have h2 := linB_sz (nmB i) o (fsR i)
    have h3 := nmB_sz i h1
    have h4 := fs_len3 i h1
    omega
  · decide
theorem aw_enc : encW ⟨20, 1, 2, 15, 0, 0⟩ = some 53551 := by kernel_rfl
theorem aw_enc2 : encW ⟨9, 10, 0, 0, 5, 0⟩ = some 27141 := by kernel_rfl
theorem aw_line : (lineB ⟨9, 10, 0, 0, 5, 0⟩).data.toList = [115, 101, 116, 32, 118, 97, 32, 48, 53] := by kernel_rfl
theorem aw_parse : parseO [115, 101, 116, 32, 118, 97, 32, 48, 53] = some ⟨9, 10, 0, 0, 5, 0⟩ := by
  have h := parse_line aw_enc2
  rwa [aw_line] at h
/-- The length that the library's search asks for stands. -/
def Tm (mx : Int) (w : World) : Prop := w.cell? ⟨0, 0, none⟩ = some (.int .i64 mx)
theorem Tm.below {mx : Int} {w y : World} (h : Tm mx w) (hb : Below w.heap.size w y) : Tm mx y := (hb.cell (World.block_lt_of_cell? w _ h)).trans h
theorem awake_any (w : World) (mx : Int) (T : Hid (Tm mx w)) : Calls Tryd.prog 9 #[] w fun e w' => e = .returned (.bool true) ∧ Below w.heap.size w w' := by
  have hEn := fun z => encode_any z ⟨20, 1, 2, 15, 0, 0⟩ ⟨by decide, by decide, by decide, by decide, by decide, by decide⟩
  rw [aw_enc] at hEn
  simp only [Option.getD_some, Option.isSome_some, if_true] at hEn
  have hPa := fun z (hz : Tm mx z) => parse_any ⟨#[115, 101, 116, 32, 118, 97, 32, 48, 53]⟩ z mx hz (by decide)
  rw [show (⟨#[115, 101, 116, 32, 118, 97, 32, 48, 53]⟩ : ByteArray).data.toList = [115, 101, 116, 32, 118, 97, 32, 48, 53] from rfl, aw_parse] at hPa
  simp only [Option.getD_some, Option.isSome_some, if_true] at hPa
  have hE : Hid (Eqs Tryd.prog 30 (o6 ⟨9, 10, 0, 0, 5, 0⟩) (o6 ⟨9, 10, 0, 0, 5, 0⟩) true) := eqO _ _
  have K0 : Hid (Fm w [] w) := Fm.nil w
  go_enter Tryd.func9, Tryd.ntmps9
  go_wp2_with (first
    | ((with_reducible refine at_eq hE.out (.tmp 21) (.tmp 22) 30 ?_ ?_ ?_ ?_ ?_); kernel_rfl; rfl; rfl; rfl)
    | ((with_reducible refine at_load rtO y2.heap.size (o6 ⟨9, 10, 0, 0, 5, 0⟩) ?_ ?_ (.tmp 3) ?_ ?_ ?_ ?_); exact K4.out.bx 0 _ _ _ rfl; rfl; kernel_rfl; rfl; rfl)
    | ((with_reducible refine at_st rtO y2.heap.size (o6 od0) (o6 ⟨9, 10, 0, 0, 5, 0⟩) ?_ ?_ ?_ ?_ (.tmp 3) (.tmp 12) ?_ ?_ ?_ ?_ ?_); exact K3.out.bx 0 _ _ _ rfl; rfl; rfl; exact o6_one _; rfl; rfl; rfl; rfl; intro y4 hw4; have K4 : Hid (Fm w [(y2.heap.size, o6 ⟨9, 10, 0, 0, 5, 0⟩, 30)] y4) := K3.out.put 0 _ _ _ _ rfl hw4.out)
    | ((with_reducible refine gen_world (y2.alloc (.cells #[.int .u8 0, .int .u8 0, .int .u8 0, .int .u8 0, .int .u8 0, .int .u16 0] 30)) (Fm w [(y2.heap.size, o6 od0, 30)]) ?_ ?_); exact K2.out.new _ _; intro y3 K3)
    | (go_at_call 13; refine (hPa _ (T.out.below K1.out.low)).mono ?_; rintro e y2 ⟨rfl, hb2⟩; have K2 : Hid (Fm w [] y2) := K1.out.below hb2)
    | (go_at_call 10; refine (hEn _).mono ?_; rintro e y1 ⟨rfl, hb1⟩; have K1 : Hid (Fm w [] y1) := K0.out.below hb1))
  go_ret
  exact ⟨rfl, K4.out.low⟩
theorem there_walk (w : World) (mx : Int) (T : Hid (Tm mx w)) (o : Od) (ho : OdR o) : Calls Tryd.prog 4 #[.agg (o6 o)] w fun e w' => e = .returned (.bool true) ∧ Below w.heap.size w w' := by
  have hF : Hid (Fm w [(w.heap.size, o6 o, 30)] (w.alloc (.cells (o6 o) 30))) := Fm.one w _ _
  have hA := fun z (hz : Hid (Tm mx z)) => awake_any z mx hz
  have hEn := fun z => encode_any z o ho
  have hPr := fun z => print_any z o ho
  rcases he : encW o with _ | x
  · rw [he] at hEn hPr
    simp only [Option.getD_none, Option.isSome_none, Bool.false_eq_true, if_false] at hEn hPr
    clear he ho
    go_enter Tryd.func4, Tryd.ntmps4
    go_wp2_with (first
      | (go_at_call 11; refine (hPr _).mono ?_; rintro e y3 ⟨rfl, hb3⟩; have K3 : Hid (Fm w [(w.heap.size, o6 o, 30)] y3) := K2.out.below hb3)
      | ((with_reducible refine at_load rtO w.heap.size (o6 o) ?_ ?_ (.tmp 1) ?_ ?_ ?_ ?_); exact K2.out.bx 0 _ _ _ rfl; rfl; kernel_rfl; rfl; rfl)
      | (go_at_call 10; refine (hEn _).mono ?_; rintro e y2 ⟨rfl, hb2⟩; have K2 : Hid (Fm w [(w.heap.size, o6 o, 30)] y2) := K1.out.below hb2)
      | ((with_reducible refine at_load rtO w.heap.size (o6 o) ?_ ?_ (.tmp 1) ?_ ?_ ?_ ?_); exact K1.out.bx 0 _ _ _ rfl; rfl; kernel_rfl; rfl; rfl)
      | (go_at_call 9; refine (hA _ (T.out.below hF.out.low)).mono ?_; rintro e y1 ⟨rfl, hb1⟩; have K1 : Hid (Fm w [(w.heap.size, o6 o, 30)] y1) := hF.out.below hb1))
    go_ret
    exact ⟨rfl, K3.out.low⟩
  · obtain ⟨i, _, hx, hdb, hdo⟩ := encW_of he
    have hx6 := enc_lt he
    have hDe := fun z => decode_any z x hx6
    rw [hdb, hdo] at hDe
    have hls := lineB_sz o
    have hPa := fun z (hz : Tm mx z) => parse_any (lineB o) z mx hz (by omega)
    rw [parse_line he] at hPa
    simp only [Option.getD_some, Option.isSome_some, if_true] at hPa
    rw [he] at hEn hPr
    simp only [Option.getD_some, Option.isSome_some, if_true] at hEn hPr
    have hE : Hid (Eqs Tryd.prog 30 (o6 o) (o6 o) true) := by
      have := eqO o o
      rwa [Od.same_iff.2 rfl] at this
    generalize lineB o = LB at hPa hPr
    clear he ho hx hdb hdo hx6 hls
    go_enter Tryd.func4, Tryd.ntmps4
    go_wp2_with (first
      | ((with_reducible refine at_eq hE.out (.tmp 68) (.tmp 69) 30 ?_ ?_ ?_ ?_ ?_); kernel_rfl; rfl; rfl; rfl)
      | ((with_reducible refine at_eq hE.out (.tmp 63) (.tmp 64) 30 ?_ ?_ ?_ ?_ ?_); kernel_rfl; rfl; rfl; rfl)
      | ((with_reducible refine at_load rtO y7.heap.size (o6 o) ?_ ?_ (.tmp 10) ?_ ?_ ?_ ?_); exact K9.out.bx 2 _ _ _ rfl; rfl; kernel_rfl; rfl; rfl)
      | ((with_reducible refine at_load rtO y4.heap.size (o6 o) ?_ ?_ (.tmp 8) ?_ ?_ ?_ ?_); exact K9.out.bx 1 _ _ _ rfl; rfl; kernel_rfl; rfl; rfl)
      | ((with_reducible refine at_load rtO w.heap.size (o6 o) ?_ ?_ (.tmp 1) ?_ ?_ ?_ ?_); exact K9.out.bx 0 _ _ _ rfl; rfl; kernel_rfl; rfl; rfl)
      | ((with_reducible refine at_st rtO y7.heap.size (o6 od0) (o6 o) ?_ ?_ ?_ ?_ (.tmp 10) (.tmp 55) ?_ ?_ ?_ ?_ ?_); exact K8.out.bx 2 _ _ _ rfl; rfl; rfl; exact o6_one _; rfl; rfl; rfl; rfl; intro y9 hw9; have K9 : Hid (Fm w [(w.heap.size, o6 o, 30), (y4.heap.size, o6 o, 30), (y7.heap.size, o6 o, 30)] y9) := K8.out.put 2 _ _ _ _ rfl hw9.out)
      | ((with_reducible refine gen_world (y7.alloc (.cells #[.int .u8 0, .int .u8 0, .int .u8 0, .int .u8 0, .int .u8 0, .int .u16 0] 30)) (Fm w [(w.heap.size, o6 o, 30), (y4.heap.size, o6 o, 30), (y7.heap.size, o6 od0, 30)]) ?_ ?_); exact K7.out.new _ _; intro y8 K8)
      | (go_at_call 13; refine (hPa _ (T.out.below K6.out.low)).mono ?_; rintro e y7 ⟨rfl, hb7⟩; have K7 : Hid (Fm w [(w.heap.size, o6 o, 30), (y4.heap.size, o6 o, 30)] y7) := K6.out.below hb7)
      | ((with_reducible refine at_st rtO y4.heap.size (o6 od0) (o6 o) ?_ ?_ ?_ ?_ (.tmp 8) (.tmp 50) ?_ ?_ ?_ ?_ ?_); exact K5.out.bx 1 _ _ _ rfl; rfl; rfl; exact o6_one _; rfl; rfl; rfl; rfl; intro y6 hw6; have K6 : Hid (Fm w [(w.heap.size, o6 o, 30), (y4.heap.size, o6 o, 30)] y6) := K5.out.put 1 _ _ _ _ rfl hw6.out)
      | ((with_reducible refine gen_world (y4.alloc (.cells #[.int .u8 0, .int .u8 0, .int .u8 0, .int .u8 0, .int .u8 0, .int .u16 0] 30)) (Fm w [(w.heap.size, o6 o, 30), (y4.heap.size, o6 od0, 30)]) ?_ ?_); exact K4.out.new _ _; intro y5 K5)
      | (go_at_call 12; refine (hDe _).mono ?_; rintro e y4 ⟨rfl, hb4⟩; have K4 : Hid (Fm w [(w.heap.size, o6 o, 30)] y4) := K3.out.below hb4)
      | (go_at_call 11; refine (hPr _).mono ?_; rintro e y3 ⟨rfl, hb3⟩; have K3 : Hid (Fm w [(w.heap.size, o6 o, 30)] y3) := K2.out.below hb3)
      | ((with_reducible refine at_load rtO w.heap.size (o6 o) ?_ ?_ (.tmp 1) ?_ ?_ ?_ ?_); exact K2.out.bx 0 _ _ _ rfl; rfl; kernel_rfl; rfl; rfl)
      | (go_at_call 10; refine (hEn _).mono ?_; rintro e y2 ⟨rfl, hb2⟩; have K2 : Hid (Fm w [(w.heap.size, o6 o, 30)] y2) := K1.out.below hb2)
      | ((with_reducible refine at_load rtO w.heap.size (o6 o) ?_ ?_ (.tmp 1) ?_ ?_ ?_ ?_); exact K1.out.bx 0 _ _ _ rfl; rfl; kernel_rfl; rfl; rfl)
      | (go_at_call 9; refine (hA _ (T.out.below hF.out.low)).mono ?_; rintro e y1 ⟨rfl, hb1⟩; have K1 : Hid (Fm w [(w.heap.size, o6 o, 30)] y1) := hF.out.below hb1))
    go_ret
    exact ⟨rfl, K9.out.low⟩
theorem lines_walk (w : World) (mx : Int) (T : Hid (Tm mx w)) (s : ByteArray) (hs : s.size ≤ 9223372036854775807) : Calls Tryd.prog 5 #[.string s] w fun e w' => e = .returned (.bool true) ∧ Below w.heap.size w w' := by
  have hA := awake_any w mx T
  have K0 : Hid (Fm w [] w) := Fm.nil w
  by_cases hl : s.size ≤ 2147483647
  · have hl' : ¬ (2147483647 : Int) < s.size := by omega
    have hPa := fun z (hz : Tm mx z) => parse_any s z mx hz (by omega)
    rcases hp : parseO s.data.toList with _ | o
    · rw [hp] at hPa
      simp only [Option.getD_none, Option.isSome_none, Bool.false_eq_true, if_false] at hPa
      have hE : Hid (Eqs Tryd.prog 30 (o6 od0) (o6 od0) true) := eqO _ _
      clear hp hl hs
      go_enter Tryd.func5, Tryd.ntmps5
      go_wp2_with (first
        | ((with_reducible refine at_eq hE.out (.tmp 29) (.tmp 30) 30 ?_ ?_ ?_ ?_ ?_); kernel_rfl; rfl; rfl; rfl)
        | ((with_reducible refine at_load rtO y2.heap.size (o6 od0) ?_ ?_ (.tmp 4) ?_ ?_ ?_ ?_); exact K4.out.bx 0 _ _ _ rfl; rfl; kernel_rfl; rfl; rfl)
        | ((with_reducible refine at_st rtO y2.heap.size (o6 od0) (o6 od0) ?_ ?_ ?_ ?_ (.tmp 4) (.tmp 15) ?_ ?_ ?_ ?_ ?_); exact K3.out.bx 0 _ _ _ rfl; rfl; rfl; exact o6_one _; rfl; rfl; rfl; rfl; intro y4 hw4; have K4 : Hid (Fm w [(y2.heap.size, o6 od0, 30)] y4) := K3.out.put 0 _ _ _ _ rfl hw4.out)
        | ((with_reducible refine gen_world (y2.alloc (.cells #[.int .u8 0, .int .u8 0, .int .u8 0, .int .u8 0, .int .u8 0, .int .u16 0] 30)) (Fm w [(y2.heap.size, o6 od0, 30)]) ?_ ?_); exact K2.out.new _ _; intro y3 K3)
        | (go_at_call 13; refine (hPa _ (T.out.below K1.out.low)).mono ?_; rintro e y2 ⟨rfl, hb2⟩; have K2 : Hid (Fm w [] y2) := K1.out.below hb2)
        | (go_at_call 9; refine hA.mono ?_; rintro e y1 ⟨rfl, hb1⟩; have K1 : Hid (Fm w [] y1) := K0.out.below hb1))
      go_ret
      exact ⟨rfl, K4.out.low⟩
    · obtain ⟨x, hx⟩ := parse_R hp
      have hPr := fun z => print_any z o (enc_R hx)
      have hle : lineB o = s := by
        have := (line_parse hp).2
        cases hs' : lineB o
        cases s
        rw [hs'] at this
        simp at this
        rw [this]
      rw [hx, hle] at hPr
      rw [hp] at hPa
      simp only [Option.getD_some, Option.isSome_some, if_true] at hPr hPa
      have hb1 : (s.toList == s.toList) = true := str_eq rfl
      clear hp hl hs hx hle
      go_enter Tryd.func5, Tryd.ntmps5
      go_wp2_with (first
        | (go_at_call 11; refine (hPr _).mono ?_; rintro e y5 ⟨rfl, hb5⟩; have K5 : Hid (Fm w [(y2.heap.size, o6 o, 30)] y5) := K4.out.below hb5)
        | ((with_reducible refine at_load rtO y2.heap.size (o6 o) ?_ ?_ (.tmp 4) ?_ ?_ ?_ ?_); exact K4.out.bx 0 _ _ _ rfl; rfl; kernel_rfl; rfl; rfl)
        | ((with_reducible refine at_st rtO y2.heap.size (o6 od0) (o6 o) ?_ ?_ ?_ ?_ (.tmp 4) (.tmp 15) ?_ ?_ ?_ ?_ ?_); exact K3.out.bx 0 _ _ _ rfl; rfl; rfl; exact o6_one _; rfl; rfl; rfl; rfl; intro y4 hw4; have K4 : Hid (Fm w [(y2.heap.size, o6 o, 30)] y4) := K3.out.put 0 _ _ _ _ rfl hw4.out)
        | ((with_reducible refine gen_world (y2.alloc (.cells #[.int .u8 0, .int .u8 0, .int .u8 0, .int .u8 0, .int .u8 0, .int .u16 0] 30)) (Fm w [(y2.heap.size, o6 od0, 30)]) ?_ ?_); exact K2.out.new _ _; intro y3 K3)
        | (go_at_call 13; refine (hPa _ (T.out.below K1.out.low)).mono ?_; rintro e y2 ⟨rfl, hb2⟩; have K2 : Hid (Fm w [] y2) := K1.out.below hb2)
        | (go_at_call 9; refine hA.mono ?_; rintro e y1 ⟨rfl, hb1⟩; have K1 : Hid (Fm w [] y1) := K0.out.below hb1))
      go_ret
      exact ⟨rfl, K5.out.low⟩
  · have hl' : (2147483647 : Int) < s.size := by omega
    clear hl hs
    go_enter Tryd.func5, Tryd.ntmps5
    go_wp2_with (go_at_call 9; refine hA.mono ?_; rintro e y1 ⟨rfl, hb1⟩; have K1 : Hid (Fm w [] y1) := K0.out.below hb1)
    go_ret
    exact ⟨rfl, K1.out.low⟩
end Go.Proofs.YtenlkihbffbniaaDoor
