/- The document's own: an order's word, plain. -/
import Derived.Test.YtdbdcehdlegdiaaDoorB6b
import Derived.Test.YtdbdcehdlegdiaaDoorP8
namespace Go.Proofs.YtdbdcehdlegdiaaDoor
open Go Go.RowKit
set_option linter.unusedVariables false
set_option maxHeartbeats 1000000
set_option maxRecDepth 100000

/-- The document's sum for an order of a row. -/
def wD (i : Nat) (o : Od) : Nat := wdR i + (if fsR i = [] then 0 else if fsR i = [0] then o.x * 256 else if fsR i = [4] then o.a else if fsR i = [0, 1] then o.x * 256 + o.y * 16 else if fsR i = [0, 3] then o.x * 256 + o.b else o.x * 256 + o.y * 16 + o.n)
/-- Its fields are no greater than they may be. -/
def smO (o : Od) : Bool := Nat.ble o.x 15 && (Nat.ble o.y 15 && (Nat.ble o.n 15 && Nat.ble o.a 4095))
theorem smO_iff {o : Od} : smO o = true ↔ o.x < 16 ∧ o.y < 16 ∧ o.n < 16 ∧ o.a < 4096 := by
  unfold smO
  simp only [Bool.and_eq_true, Nat.ble_eq]
  omega
theorem wrdO_any (i : Nat) (o : Od) (hi : i < 31) (ho : OdR o) (hs : smO o = true) : wD i o < 65536 ∧ ∀ w, Calls Tryd.prog 8 #[.agg (dwC i).toArray, .agg (o6 o)] w fun e w' => e = .returned (.int .u16 (wD i o : Int)) ∧ Below w.heap.size w w' := by
  have hr := wd_room i hi
  have hb := wd_bnd i hi
  have hs' := smO_iff.1 hs
  have h4 := ho.b
  have hh : o.x < 16 ∧ o.y < 16 ∧ o.n < 16 ∧ o.b < 256 ∧ o.a < 65536 ∧ wdR i < 65536 := by omega
  rcases fs_pats i hi with e | e | e | e | e | e <;> rw [e] at hr <;> simp at hr
  · have hV : wD i o = wdR i := by simp [wD, e]
    rw [hV]
    unfold dwC
    rw [e]
    exact ⟨by omega, fun w => wrd_0 w (opR i) (wdR i) ⟨(nmR i).toArray⟩ o.op o.x o.y o.n o.b o.a hh ⟩
  · have hV : wD i o = wdR i + o.x * 256 := by simp [wD, e]
    rw [hV]
    unfold dwC
    rw [e]
    exact ⟨by omega, fun w => wrd_x w (opR i) (wdR i) ⟨(nmR i).toArray⟩ o.op o.x o.y o.n o.b o.a hh _ rfl _ rfl (by omega)⟩
  · have hV : wD i o = wdR i + o.a := by simp [wD, e]
    rw [hV]
    unfold dwC
    rw [e]
    exact ⟨by omega, fun w => wrd_a w (opR i) (wdR i) ⟨(nmR i).toArray⟩ o.op o.x o.y o.n o.b o.a hh _ rfl (by omega)⟩
  · have hV : wD i o = wdR i + o.x * 256 + o.y * 16 := by simp [wD, e]; omega
    rw [hV]
    unfold dwC
    rw [e]
    exact ⟨by omega, fun w => wrd_xy w (opR i) (wdR i) ⟨(nmR i).toArray⟩ o.op o.x o.y o.n o.b o.a hh _ rfl _ rfl (by omega) _ rfl _ rfl (by omega)⟩
  · have hV : wD i o = wdR i + o.x * 256 + o.b := by simp [wD, e]; omega
    rw [hV]
    unfold dwC
    rw [e]
    exact ⟨by omega, fun w => wrd_xb w (opR i) (wdR i) ⟨(nmR i).toArray⟩ o.op o.x o.y o.n o.b o.a hh _ rfl _ rfl (by omega) _ rfl (by omega)⟩
  · have hV : wD i o = wdR i + o.x * 256 + o.y * 16 + o.n := by simp [wD, e]; omega
    rw [hV]
    unfold dwC
    rw [e]
    exact ⟨by omega, fun w => wrd_xyn w (opR i) (wdR i) ⟨(nmR i).toArray⟩ o.op o.x o.y o.n o.b o.a hh _ rfl _ rfl (by omega) _ rfl _ rfl (by omega) _ rfl (by omega)⟩
theorem wrdR_lt (i : Nat) (o : Od) (hi : i < 31) : wrdR i o < 65536 := by
  have hb := wd_bnd i hi
  have h : ∀ (fs : List Nat) (u : Nat), u < 65536 → wrdF u o fs < 65536 := fun fs => by
    induction fs with
    | nil => exact fun u hu => hu
    | cons k t ih => exact fun u hu => ih _ (Nat.or_lt_two_pow (n := 16) hu (Nat.mod_lt _ (by decide)))
  exact h _ _ hb
theorem encD_of {o : Od} {w : Nat} (h : encW o = some w) : ∃ i, i < 31 ∧ o.op = opR i ∧ smO o = true ∧ wD i o = w := by
  obtain ⟨i, h1, h2, h3, h4⟩ := encW_of h
  obtain ⟨i1, i2, _⟩ := fstI_of h1
  have hw : w < 65536 := by rw [h2]; exact wrdR_lt i o i1
  obtain ⟨j, hj⟩ := Option.isSome_iff_exists.1 h3
  obtain ⟨j1, j2, _⟩ := fstI_of hj
  have e := decO_some hj
  have eo : o.op = opR j := by rw [← h4, e]; exact ordR_op j w j1
  have eo2 : o = ordR j w := by rw [← h4, e]
  refine ⟨j, j1, eo, ?_⟩
  unfold wD
  rcases fs_pats j j1 with f | f | f | f | f | f
  · have := (tak_0 j w hw f).1.2 j2
    rw [ordR_0 j w hw f] at eo2
    rw [f, eo2, smO_iff]
    simp
    omega
  · have := (tak_x j w hw f).1.2 j2
    rw [ordR_x j w hw f] at eo2
    rw [f, eo2, smO_iff]
    simp
    omega
  · have := (tak_a j w hw f).1.2 j2
    rw [ordR_a j w hw f] at eo2
    rw [f, eo2, smO_iff]
    simp
    omega
  · have := (tak_xy j w hw f).1.2 j2
    rw [ordR_xy j w hw f] at eo2
    rw [f, eo2, smO_iff]
    simp
    omega
  · have := (tak_xb j w hw f).1.2 j2
    rw [ordR_xb j w hw f] at eo2
    rw [f, eo2, smO_iff]
    simp
    omega
  · have := (tak_xyn j w hw f).1.2 j2
    rw [ordR_xyn j w hw f] at eo2
    rw [f, eo2, smO_iff]
    simp
    omega
theorem encD_row {o : Od} {w : Nat} (h : encW o = some w) (i : Nat) (hi : i < 31) (ho : o.op = opR i) : smO o = true ∧ wD i o = w := by
  obtain ⟨j, j1, j2, j3, j4⟩ := encD_of h
  have : i = j := op_row j j1 i hi (by rw [← ho, j2])
  subst this
  exact ⟨j3, j4⟩
theorem encD_big {o : Od} (h : smO o = false) : encW o = none := by
  rcases e : encW o with _ | w
  · rfl
  · obtain ⟨j, j1, j2, j3, j4⟩ := encD_of e
    rw [h] at j3
    cases j3
theorem encD_none {o : Od} (h : ∀ j, j < 31 → o.op ≠ opR (dR j)) : encW o = none := by
  rcases e : encW o with _ | w
  · rfl
  · obtain ⟨j, j1, j2, j3, j4⟩ := encD_of e
    obtain ⟨i, i1, i2⟩ := dR_inv j j1
    exact absurd (by rw [i2]; exact j2) (h i i1)
theorem encD_good {o : Od} (i : Nat) (hi : i < 31) (ho : o.op = opR i) (hw : wD i o < 65536) (h : (decO (wD i o)).same o = true) : encW o = some (wD i o) := by
  have e := Od.same_iff.1 h
  have hb : decB (wD i o) = true := by
    rcases hd : decB (wD i o) with _ | _
    · rw [dec_none _ hd] at e
      rw [← e] at ho
      have := (op_bnd i hi).1
      have h0 : (od0).op = 0 := rfl
      omega
    · rfl
  have := enc_dec _ hw hb
  rwa [e] at this
theorem encD_bad {o : Od} (i : Nat) (hi : i < 31) (ho : o.op = opR i) (h : (decO (wD i o)).same o = false) : encW o = none := by
  rcases e : encW o with _ | w
  · rfl
  · obtain ⟨_, h2⟩ := encD_row e i hi ho
    obtain ⟨_, _, _, _, h4⟩ := encW_of e
    rw [h2, h4, Od.same_iff.2 rfl] at h
    cases h
end Go.Proofs.YtdbdcehdlegdiaaDoor
