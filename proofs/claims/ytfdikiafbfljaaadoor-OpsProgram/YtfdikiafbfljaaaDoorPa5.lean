/- The statements' own awake; OpsThere, OpsLines: the walks. -/
import Derived.Test.YtfdikiafbfljaaaDoorPa4
namespace Go.Proofs.YtfdikiafbfljaaaDoor
open Go Go.RowKit
set_option linter.unusedVariables false
set_option maxHeartbeats 1000000
set_option maxRecDepth 20000

theorem fldV_word (k w : Nat) (hw : w < 65536) : fldV k w < 65536 := by
  unfold fldV
  rw [Nat.shiftRight_eq_div_pow]
  exact Nat.lt_of_le_of_lt (Nat.div_le_self _ _) (Nat.lt_of_le_of_lt Nat.and_le_left hw)
theorem OdR.ord (w : Nat) (hw : w < 65536) : ∀ (fs : List Nat) (o : Od), OdR o → OdR (ordF o w fs) := by
  intro fs
  induction fs with
  | nil => intro o h; exact h
  | cons k fs ih => intro o h; exact ih _ (h.put k _ (fldV_word k w hw))
theorem wrdF_lt (o : Od) (fs : List Nat) : ∀ u, u < 65536 → wrdF u o fs < 65536 := by
  induction fs with
  | nil => intro u h; exact h
  | cons k fs ih => intro u h; exact ih _ (Nat.or_lt_two_pow (n := 16) h (Nat.mod_lt _ (by decide)))
theorem enc_lt {o : Od} {x : Nat} (h : encW o = some x) : x < 65536 := by
  obtain ⟨i, h1, rfl, _⟩ := encW_of h
  exact wrdF_lt o _ _ (wd_bnd i (fstI_of h1).1)
theorem enc_R {o : Od} {x : Nat} (h : encW o = some x) : OdR o := by
  obtain ⟨i, hi, _, _, _, ho⟩ := enc_row h
  rw [ho]
  exact OdR.ord x (enc_lt h) _ _ (OdR.zero _ (Nat.lt_of_le_of_lt (op_bnd i hi).2 (by decide)))
theorem lineB_sz (o : Od) : (lineB o).size ≤ 40 := by
  unfold lineB
  split
  · rename_i i hi
    have h1 := (fstI_of hi).1
    have h2 := linB_sz (nmB i) o (fsR i)
    have h3 := nmB_sz i h1
    have h4 := fs_len3 i h1
    omega
  · decide
theorem aw_enc : encW ⟨20, 1, 2, 15, 0, 0⟩ = some 53551 := by kernel_rfl
theorem aw_enc2 : encW ⟨9, 10, 0, 0, 5, 0⟩ = some 27141 := by kernel_rfl
theorem aw_line : (lineB ⟨9, 10, 0, 0, 5, 0⟩).data.toList = [115, 101, 116, 32, 118, 97, 32, 48, 53] := by kernel_rfl
theorem aw_parse : parseO [115, 101, 116, 32, 118, 97, 32, 48, 53] = some ⟨9, 10, 0, 0, 5, 0⟩ := by
  have h := parse_line aw_enc2
  rwa [aw_line] at h
/-- The length that the library's search asks for stands. -/
def Tm (mx : Int) (w : World) : Prop := w.cell? ⟨0, 0, none⟩ = some (.int .i64 mx)
theorem Tm.below {mx : Int} {w y : World} (h : Tm mx w) (hb : Below w.heap.size w y) : Tm mx y := (hb.cell (World.block_lt_of_cell? w _ h)).trans h
theorem awake_any (w : World) (mx : Int) (T : Hid (Tm mx w)) : Calls Tryd.prog 9 #[] w fun e w' => e = .returned (.bool true) ∧ Below w.heap.size w w' := by
  have hEn := fun z => encode_any z ⟨20, 1, 2, 15, 0, 0⟩ ⟨by decide, by decide, by decide, by decide, by decide, by decide⟩
  rw [aw_enc] at hEn
  simp only [Option.getD_some, Option.isSome_some, if_true] at hEn
  have hPa := fun z (hz : Tm mx z) => parse_any ⟨#[115, 101, 116, 32, 118, 97, 32, 48, 53]⟩ z mx hz (by decide)
  rw [show (⟨#[115, 101, 116, 32, 118, 97, 32, 48, 53]⟩ : ByteArray).data.toList = [115, 101, 116, 32, 118, 97, 32, 48, 53] from rfl, aw_parse] at hPa
  simp only [Option.getD_some, Option.isSome_some, if_true] at hPa
  have hE : Hid (Eqs Tryd.prog 30 (o6 ⟨9, 10, 0, 0, 5, 0⟩) (o6 ⟨9, 10, 0, 0, 5, 0⟩) true) := eqO _ _
  have K0 : Hid (Fm w [] w) := Fm.nil w
  go_enter Tryd.func9, Tryd.ntmps9
  go_wp2_with (first
    | ((with_reducible refine at_eq hE.out (.tmp 21) (.tmp 22) 30 ?_ ?_ ?_ ?_ ?_); kernel_rfl; rfl; rfl; rfl)
    | ((with_reducible refine at_load rtO y2.heap.size (o6 ⟨9, 10, 0, 0, 5, 0⟩) ?_ ?_ (.tmp 3) ?_ ?_ ?_ ?_); exact K4.out.bx 0 _ _ _ rfl; rfl; kernel_rfl; rfl; rfl)
    | ((with_reducible refine at_st rtO y2.heap.size (o6 od0) (o6 ⟨9, 10, 0, 0, 5, 0⟩) ?_ ?_ ?_ ?_ (.tmp 3) (.tmp 12) ?_ ?_ ?_ ?_ ?_); exact K3.out.bx 0 _ _ _ rfl; rfl; rfl; exact o6_one _; rfl; rfl; rfl; rfl; intro y4 hw4; have K4 : Hid (Fm w [(y2.heap.size, o6 ⟨9, 10, 0, 0, 5, 0⟩, 30)] y4) := K3.out.put 0 _ _ _ _ rfl hw4.out)
    | ((with_reducible refine gen_world (y2.alloc (.cells #[.int .u8 0, .int .u8 0, .int .u8 0, .int .u8 0, .int .u8 0, .int .u16 0] 30)) (Fm w [(y2.heap.size, o6 od0, 30)]) ?_ ?_); exact K2.out.new _ _; intro y3 K3)
    | (go_at_call 16; refine (hPa _ (T.out.below K1.out.low)).mono ?_; rintro e y2 ⟨rfl, hb2⟩; have K2 : Hid (Fm w [] y2) := K1.out.below hb2)
    | (go_at_call 13; refine (hEn _).mono ?_; rintro e y1 ⟨rfl, hb1⟩; have K1 : Hid (Fm w [] y1) := K0.out.below hb1))
  go_ret
  exact ⟨rfl, K4.out.low⟩
end Go.Proofs.YtfdikiafbfljaaaDoor
