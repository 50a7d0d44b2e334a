/- The document's own: Decode. The document's own: an order's word, plain. -/
import Derived.Test.YthaijjehplomfaaDoorJ21
import Derived.Test.YthaijjehplomfaaDoorJ9
namespace Go.Proofs.YthaijjehplomfaaDoor
open Go Go.RowKit
set_option linter.unusedVariables false
set_option maxHeartbeats 1000000
set_option maxRecDepth 100000

theorem fv_x (w : Nat) (hw : w < 65536) : (((w &&& 3840) >>> 8) % 256 == w / 256 % 16) = true := all_words (fun w => ((w &&& 3840) >>> 8) % 256 == w / 256 % 16) (by decide +kernel) w hw
theorem fv_y (w : Nat) (hw : w < 65536) : (((w &&& 240) >>> 4) % 256 == w / 16 % 16) = true := all_words (fun w => ((w &&& 240) >>> 4) % 256 == w / 16 % 16) (by decide +kernel) w hw
theorem fv_n (w : Nat) (hw : w < 65536) : (((w &&& 15) >>> 0) % 256 == w % 16) = true := all_words (fun w => ((w &&& 15) >>> 0) % 256 == w % 16) (by decide +kernel) w hw
theorem fv_b (w : Nat) (hw : w < 65536) : (((w &&& 255) >>> 0) % 256 == w % 256) = true := all_words (fun w => ((w &&& 255) >>> 0) % 256 == w % 256) (by decide +kernel) w hw
theorem fv_a (w : Nat) (hw : w < 65536) : ((w &&& 4095) >>> 0 == w % 4096) = true := all_words (fun w => (w &&& 4095) >>> 0 == w % 4096) (by decide +kernel) w hw
theorem cl_x (w : Nat) (hw : w < 65536) : ((w &&& 61695) + w / 256 % 16 * 256 == w && (w &&& 61695) / 4096 == w / 4096) = true := all_words (fun w => (w &&& 61695) + w / 256 % 16 * 256 == w && (w &&& 61695) / 4096 == w / 4096) (by decide +kernel) w hw
theorem cl_a (w : Nat) (hw : w < 65536) : ((w &&& 61440) + w % 4096 == w && (w &&& 61440) / 4096 == w / 4096) = true := all_words (fun w => (w &&& 61440) + w % 4096 == w && (w &&& 61440) / 4096 == w / 4096) (by decide +kernel) w hw
theorem cl_xy (w : Nat) (hw : w < 65536) : ((w &&& 61695 &&& 65295) + w / 256 % 16 * 256 + w / 16 % 16 * 16 == w && (w &&& 61695 &&& 65295) / 4096 == w / 4096) = true := all_words (fun w => (w &&& 61695 &&& 65295) + w / 256 % 16 * 256 + w / 16 % 16 * 16 == w && (w &&& 61695 &&& 65295) / 4096 == w / 4096) (by decide +kernel) w hw
theorem cl_xb (w : Nat) (hw : w < 65536) : ((w &&& 61695 &&& 65280) + w / 256 % 16 * 256 + w % 256 == w && (w &&& 61695 &&& 65280) / 4096 == w / 4096) = true := all_words (fun w => (w &&& 61695 &&& 65280) + w / 256 % 16 * 256 + w % 256 == w && (w &&& 61695 &&& 65280) / 4096 == w / 4096) (by decide +kernel) w hw
theorem cl_xyn (w : Nat) (hw : w < 65536) : ((w &&& 61695 &&& 65295 &&& 65520) + w / 256 % 16 * 256 + w / 16 % 16 * 16 + w % 16 == w && (w &&& 61695 &&& 65295 &&& 65520) / 4096 == w / 4096) = true := all_words (fun w => (w &&& 61695 &&& 65295 &&& 65520) + w / 256 % 16 * 256 + w / 16 % 16 * 16 + w % 16 == w && (w &&& 61695 &&& 65295 &&& 65520) / 4096 == w / 4096) (by decide +kernel) w hw
theorem ordR_0 (i v : Nat) (hv : v < 65536) (e : fsR i = []) : ordR i v = ⟨opR i, 0, 0, 0, 0, 0⟩ := by
  have h : ordR i v = ⟨opR i, 0, 0, 0, 0, 0⟩ := by
    unfold ordR
    rw [e]
    rfl
  rw [h]
theorem tak_0 (i v : Nat) (hv : v < 65536) (e : fsR i = []) : (wdR i + 0 = v ↔ takR i v = true) ∧ clrF v (fsR i) / 4096 = v / 4096 := by
  have h : clrF v (fsR i) = v := by rw [e]; rfl
  unfold takR
  rw [h]
  simp
  omega
theorem ordR_x (i v : Nat) (hv : v < 65536) (e : fsR i = [0]) : ordR i v = ⟨opR i, v / 256 % 16, 0, 0, 0, 0⟩ := by
  have h : ordR i v = ⟨opR i, ((v &&& 3840) >>> 8) % 256, 0, 0, 0, 0⟩ := by
    unfold ordR
    rw [e]
    rfl
  rw [h, eq_of_beq (fv_x v hv)]
theorem tak_x (i v : Nat) (hv : v < 65536) (e : fsR i = [0]) : (wdR i + (v / 256 % 16 * 256) = v ↔ takR i v = true) ∧ clrF v (fsR i) / 4096 = v / 4096 := by
  have h : clrF v (fsR i) = v &&& 61695 := by rw [e]; rfl
  have hc := cl_x v hv
  simp only [Bool.and_eq_true, beq_iff_eq] at hc
  unfold takR
  rw [h]
  refine ⟨?_, hc.2⟩
  rw [beq_iff_eq]
  omega
theorem ordR_a (i v : Nat) (hv : v < 65536) (e : fsR i = [4]) : ordR i v = ⟨opR i, 0, 0, 0, 0, v % 4096⟩ := by
  have h : ordR i v = ⟨opR i, 0, 0, 0, 0, (v &&& 4095) >>> 0⟩ := by
    unfold ordR
    rw [e]
    rfl
  rw [h, eq_of_beq (fv_a v hv)]
theorem tak_a (i v : Nat) (hv : v < 65536) (e : fsR i = [4]) : (wdR i + (v % 4096) = v ↔ takR i v = true) ∧ clrF v (fsR i) / 4096 = v / 4096 := by
  have h : clrF v (fsR i) = v &&& 61440 := by rw [e]; rfl
  have hc := cl_a v hv
  simp only [Bool.and_eq_true, beq_iff_eq] at hc
  unfold takR
  rw [h]
  refine ⟨?_, hc.2⟩
  rw [beq_iff_eq]
  omega
theorem ordR_xy (i v : Nat) (hv : v < 65536) (e : fsR i = [0, 1]) : ordR i v = ⟨opR i, v / 256 % 16, v / 16 % 16, 0, 0, 0⟩ := by
  have h : ordR i v = ⟨opR i, ((v &&& 3840) >>> 8) % 256, ((v &&& 240) >>> 4) % 256, 0, 0, 0⟩ := by
    unfold ordR
    rw [e]
    rfl
  rw [h, eq_of_beq (fv_x v hv), eq_of_beq (fv_y v hv)]
theorem tak_xy (i v : Nat) (hv : v < 65536) (e : fsR i = [0, 1]) : (wdR i + (v / 256 % 16 * 256 + v / 16 % 16 * 16) = v ↔ takR i v = true) ∧ clrF v (fsR i) / 4096 = v / 4096 := by
  have h : clrF v (fsR i) = v &&& 61695 &&& 65295 := by rw [e]; rfl
  have hc := cl_xy v hv
  simp only [Bool.and_eq_true, beq_iff_eq] at hc
  unfold takR
  rw [h]
  refine ⟨?_, hc.2⟩
  rw [beq_iff_eq]
  omega
theorem ordR_xb (i v : Nat) (hv : v < 65536) (e : fsR i = [0, 3]) : ordR i v = ⟨opR i, v / 256 % 16, 0, 0, v % 256, 0⟩ := by
  have h : ordR i v = ⟨opR i, ((v &&& 3840) >>> 8) % 256, 0, 0, ((v &&& 255) >>> 0) % 256, 0⟩ := by
    unfold ordR
    rw [e]
    rfl
  rw [h, eq_of_beq (fv_x v hv), eq_of_beq (fv_b v hv)]
theorem tak_xb (i v : Nat) (hv : v < 65536) (e : fsR i = [0, 3]) : (wdR i + (v / 256 % 16 * 256 + v % 256) = v ↔ takR i v = true) ∧ clrF v (fsR i) / 4096 = v / 4096 := by
  have h : clrF v (fsR i) = v &&& 61695 &&& 65280 := by rw [e]; rfl
  have hc := cl_xb v hv
  simp only [Bool.and_eq_true, beq_iff_eq] at hc
  unfold takR
  rw [h]
  refine ⟨?_, hc.2⟩
  rw [beq_iff_eq]
  omega
theorem ordR_xyn (i v : Nat) (hv : v < 65536) (e : fsR i = [0, 1, 2]) : ordR i v = ⟨opR i, v / 256 % 16, v / 16 % 16, v % 16, 0, 0⟩ := by
  have h : ordR i v = ⟨opR i, ((v &&& 3840) >>> 8) % 256, ((v &&& 240) >>> 4) % 256, ((v &&& 15) >>> 0) % 256, 0, 0⟩ := by
    unfold ordR
    rw [e]
    rfl
  rw [h, eq_of_beq (fv_x v hv), eq_of_beq (fv_y v hv), eq_of_beq (fv_n v hv)]
theorem tak_xyn (i v : Nat) (hv : v < 65536) (e : fsR i = [0, 1, 2]) : (wdR i + (v / 256 % 16 * 256 + v / 16 % 16 * 16 + v % 16) = v ↔ takR i v = true) ∧ clrF v (fsR i) / 4096 = v / 4096 := by
  have h : clrF v (fsR i) = v &&& 61695 &&& 65295 &&& 65520 := by rw [e]; rfl
  have hc := cl_xyn v hv
  simp only [Bool.and_eq_true, beq_iff_eq] at hc
  unfold takR
  rw [h]
  refine ⟨?_, hc.2⟩
  rw [beq_iff_eq]
  omega
theorem wd_room : ∀ i, i < 31 → wdR i + (if fsR i = [] then 0 else if fsR i = [4] then 4095 else if fsR i = [0] then 3840 else if fsR i = [0, 1] then 4080 else 4095) < 65536 := by decide +kernel
theorem wd_pairsB : ∀ i, i < 31 → ∀ j, j < 31 → (wdR i / 4096 != wdR j / 4096 || (i == j || ((i == 2 && Nat.blt j 2) || ((j == 2 && Nat.blt i 2) || (fsR i == fsR j && wdR i != wdR j))))) = true := by decide +kernel
theorem wd_pairs (i : Nat) (hi : i < 31) (j : Nat) (hj : j < 31) (h : wdR i / 4096 = wdR j / 4096) : i = j ∨ (i = 2 ∧ j < 2) ∨ (j = 2 ∧ i < 2) ∨ (fsR i = fsR j ∧ wdR i ≠ wdR j) := by
  have := wd_pairsB i hi j hj
  simpa [h, Nat.blt_eq] using this
theorem tak_nib (i v : Nat) (hi : i < 31) (hv : v < 65536) (h : takR i v = true) : wdR i / 4096 = v / 4096 := by
  have h1 : clrF v (fsR i) = wdR i := by unfold takR at h; exact eq_of_beq h
  rw [← h1]
  rcases fs_pats i hi with e | e | e | e | e | e
  · exact (tak_0 i v hv e).2
  · exact (tak_x i v hv e).2
  · exact (tak_a i v hv e).2
  · exact (tak_xy i v hv e).2
  · exact (tak_xb i v hv e).2
  · exact (tak_xyn i v hv e).2
theorem tak_one (i j v : Nat) (hi : i < 31) (hj : j < 31) (hv : v < 65536) (h : takR i v = true) (h2 : takR j v = true) : i = j ∨ (i = 2 ∧ j < 2) ∨ (j = 2 ∧ i < 2) := by
  rcases wd_pairs i hi j hj ((tak_nib i v hi hv h).trans (tak_nib j v hj hv h2).symm) with e | e | e | ⟨e1, e2⟩
  · exact .inl e
  · exact .inr (.inl e)
  · exact .inr (.inr e)
  · refine absurd ?_ e2
    unfold takR at h h2
    rw [← eq_of_beq h, ← eq_of_beq h2, e1]
theorem dR_lt (i : Nat) (h : i < 31) : dR i < 31 := by unfold dR; split <;> (try split) <;> (try split) <;> omega
theorem dR_inv (j : Nat) (h : j < 31) : ∃ i, i < 31 ∧ dR i = j := by
  by_cases h0 : j = 0
  · exact ⟨1, by decide, by rw [h0]; rfl⟩
  by_cases h1 : j = 1
  · exact ⟨2, by decide, by rw [h1]; rfl⟩
  by_cases h2 : j = 2
  · exact ⟨0, by decide, by rw [h2]; rfl⟩
  · exact ⟨j, h, by unfold dR; rw [if_neg h0, if_neg h1, if_neg h2]⟩
theorem dec_found (v m : Nat) (hv : v < 65536) (hm : m < 31) (h : takR (dR m) v = true) (hn : ∀ j, m < j → j < 31 → takR (dR j) v = false) : decO v = ordR (dR m) v ∧ decB v = true := by
  have e : decR v = some (dR m) := by
    refine fstI_some (dR_lt m hm) h fun j hj => ?_
    rcases hb : takR j v with _ | _
    · rfl
    · exfalso
      have hj31 : j < 31 := Nat.lt_trans hj (dR_lt m hm)
      rcases tak_one (dR m) j v (dR_lt m hm) hj31 hv h hb with e | ⟨e1, e2⟩ | ⟨e1, e2⟩
      · omega
      · have hm0 : m = 0 := by
          unfold dR at e1
          split at e1
          · assumption
          · split at e1
            · omega
            · split at e1 <;> omega
        rcases (show j = 0 ∨ j = 1 by omega) with rfl | rfl
        · exact absurd hb (by rw [show (0 : Nat) = dR 1 from rfl, hn 1 (by omega) (by omega)]; simp)
        · exact absurd hb (by rw [show (1 : Nat) = dR 2 from rfl, hn 2 (by omega) (by omega)]; simp)
      · omega
  exact ⟨decO_some e, by unfold decB; rw [e]; rfl⟩
theorem dec_notf (v : Nat) (hn : ∀ j, j < 31 → takR (dR j) v = false) : decO v = od0 ∧ decB v = false := by
  have e : decR v = none := fstI_none fun j hj => by
    obtain ⟨i, hi, rfl⟩ := dR_inv j hj
    exact hn i hi
  exact ⟨by unfold decO; rw [e], by unfold decB; rw [e]; rfl⟩
theorem ord_any (w : World) (i v : Nat) (hi : i < 31) (hv : v < 65536) : Calls Tryd.prog 22 #[.agg (dwC i).toArray, .int .u16 (v : Int)] w fun e w' => e = .returned (.agg (o6 (ordR i v))) ∧ Below w.heap.size w w' := by
  unfold dwC
  rcases fs_pats i hi with e | e | e | e | e | e
  · rw [ordR_0 i v hv e, e]
    exact ord_0 w (opR i) (wdR i) ⟨(nmR i).toArray⟩ v hv
  · rw [ordR_x i v hv e, e]
    exact ord_x w (opR i) (wdR i) ⟨(nmR i).toArray⟩ v hv _ _ rfl rfl
  · rw [ordR_a i v hv e, e]
    exact ord_a w (opR i) (wdR i) ⟨(nmR i).toArray⟩ v hv _ rfl
  · rw [ordR_xy i v hv e, e]
    exact ord_xy w (opR i) (wdR i) ⟨(nmR i).toArray⟩ v hv _ _ rfl rfl _ _ rfl rfl
  · rw [ordR_xb i v hv e, e]
    exact ord_xb w (opR i) (wdR i) ⟨(nmR i).toArray⟩ v hv _ _ rfl rfl _ rfl
  · rw [ordR_xyn i v hv e, e]
    exact ord_xyn w (opR i) (wdR i) ⟨(nmR i).toArray⟩ v hv _ _ rfl rfl _ _ rfl rfl _ rfl
theorem wrd_any (i v : Nat) (hi : i < 31) (hv : v < 65536) : ∃ V : Nat, (V = v ↔ takR i v = true) ∧ ∀ w, Calls Tryd.prog 23 #[.agg (dwC i).toArray, .agg (o6 (ordR i v))] w fun e w' => e = .returned (.int .u16 (V : Int)) ∧ Below w.heap.size w w' := by
  have hr := wd_room i hi
  have hb := wd_bnd i hi
  unfold dwC
  rcases fs_pats i hi with e | e | e | e | e | e
  · rw [ordR_0 i v hv e, e]
    rw [e] at hr
    simp at hr
    refine ⟨wdR i, ?_, fun w => ?_⟩
    · have := (tak_0 i v hv e).1
      exact ⟨fun h => this.1 (by omega), fun h => by have := this.2 h; omega⟩
    · exact wrd_0 w (opR i) (wdR i) ⟨(nmR i).toArray⟩ (opR i) 0 0 0 0 0 (by omega)
  · rw [ordR_x i v hv e, e]
    rw [e] at hr
    simp at hr
    refine ⟨wdR i + v / 256 % 16 * 256, ?_, fun w => ?_⟩
    · have := (tak_x i v hv e).1
      exact ⟨fun h => this.1 (by omega), fun h => by have := this.2 h; omega⟩
    · exact wrd_x w (opR i) (wdR i) ⟨(nmR i).toArray⟩ (opR i) (v / 256 % 16) 0 0 0 0 (by omega) _ rfl _ rfl (by omega)
  · rw [ordR_a i v hv e, e]
    rw [e] at hr
    simp at hr
    refine ⟨wdR i + v % 4096, ?_, fun w => ?_⟩
    · have := (tak_a i v hv e).1
      exact ⟨fun h => this.1 (by omega), fun h => by have := this.2 h; omega⟩
    · exact wrd_a w (opR i) (wdR i) ⟨(nmR i).toArray⟩ (opR i) 0 0 0 0 (v % 4096) (by omega) _ rfl (by omega)
  · rw [ordR_xy i v hv e, e]
    rw [e] at hr
    simp at hr
    refine ⟨wdR i + v / 256 % 16 * 256 + v / 16 % 16 * 16, ?_, fun w => ?_⟩
    · have := (tak_xy i v hv e).1
      exact ⟨fun h => this.1 (by omega), fun h => by have := this.2 h; omega⟩
    · exact wrd_xy w (opR i) (wdR i) ⟨(nmR i).toArray⟩ (opR i) (v / 256 % 16) (v / 16 % 16) 0 0 0 (by omega) _ rfl _ rfl (by omega) _ rfl _ rfl (by omega)
  · rw [ordR_xb i v hv e, e]
    rw [e] at hr
    simp at hr
    refine ⟨wdR i + v / 256 % 16 * 256 + v % 256, ?_, fun w => ?_⟩
    · have := (tak_xb i v hv e).1
      exact ⟨fun h => this.1 (by omega), fun h => by have := this.2 h; omega⟩
    · exact wrd_xb w (opR i) (wdR i) ⟨(nmR i).toArray⟩ (opR i) (v / 256 % 16) 0 0 (v % 256) 0 (by omega) _ rfl _ rfl (by omega) _ rfl (by omega)
  · rw [ordR_xyn i v hv e, e]
    rw [e] at hr
    simp at hr
    refine ⟨wdR i + v / 256 % 16 * 256 + v / 16 % 16 * 16 + v % 16, ?_, fun w => ?_⟩
    · have := (tak_xyn i v hv e).1
      exact ⟨fun h => this.1 (by omega), fun h => by have := this.2 h; omega⟩
    · exact wrd_xyn w (opR i) (wdR i) ⟨(nmR i).toArray⟩ (opR i) (v / 256 % 16) (v / 16 % 16) (v % 16) 0 0 (by omega) _ rfl _ rfl (by omega) _ rfl _ rfl (by omega) _ rfl (by omega)
theorem dw_at {y : World} {g : Nat} (h : Bx y g (rowL dwC ((List.range 31).map dR)).toArray 64) (k : Nat) (hk : k < 31) : y.rangeAt g (k * 4) (dwC (dR k)).toArray.toList := fun i v hv => by
  have hv' : (dwC (dR k))[i]? = some v := by simpa using hv
  have hi : i < 4 := (List.getElem?_eq_some_iff.1 hv').1
  refine h.c (k * 4 + i) v ?_
  rw [List.getElem?_toArray, rowL_at (s := 4) (fun _ => rfl) _ k i (dR k) (by simp [hk]) hi]
  exact hv'
end Go.Proofs.YthaijjehplomfaaDoor

namespace Go.Proofs.YthaijjehplomfaaDoor
open Go Go.RowKit
set_option linter.unusedVariables false
set_option maxHeartbeats 1000000
set_option maxRecDepth 100000

/-- The document's sum for an order of a row. -/
def wD (i : Nat) (o : Od) : Nat := wdR i + (if fsR i = [] then 0 else if fsR i = [0] then o.x * 256 else if fsR i = [4] then o.a else if fsR i = [0, 1] then o.x * 256 + o.y * 16 else if fsR i = [0, 3] then o.x * 256 + o.b else o.x * 256 + o.y * 16 + o.n)
/-- Its fields are no greater than they may be. -/
def smO (o : Od) : Bool := Nat.ble o.x 15 && (Nat.ble o.y 15 && (Nat.ble o.n 15 && Nat.ble o.a 4095))
theorem smO_iff {o : Od} : smO o = true ↔ o.x < 16 ∧ o.y < 16 ∧ o.n < 16 ∧ o.a < 4096 := by
  unfold smO
  simp only [Bool.and_eq_true, Nat.ble_eq]
  omega
theorem wrdO_any (i : Nat) (o : Od) (hi : i < 31) (ho : OdR o) (hs : smO o = true) : wD i o < 65536 ∧ ∀ w, Calls Tryd.prog 23 #[.agg (dwC i).toArray, .agg (o6 o)] w fun e w' => e = .returned (.int .u16 (wD i o : Int)) ∧ Below w.heap.size w w' := by
  have hr := wd_room i hi
  have hb := wd_bnd i hi
  have hs' := smO_iff.1 hs
  have h4 := ho.b
  have hh : o.x < 16 ∧ o.y < 16 ∧ o.n < 16 ∧ o.b < 256 ∧ o.a < 65536 ∧ wdR i < 65536 := by omega
  rcases fs_pats i hi with e | e | e | e | e | e <;> rw [e] at hr <;> simp at hr
  · have hV : wD i o = wdR i := by simp [wD, e]
    rw [hV]
    unfold dwC
    rw [e]
    exact ⟨by omega, fun w => wrd_0 w (opR i) (wdR i) ⟨(nmR i).toArray⟩ o.op o.x o.y o.n o.b o.a hh ⟩
  · have hV : wD i o = wdR i + o.x * 256 := by simp [wD, e]
    rw [hV]
    unfold dwC
    rw [e]
    exact ⟨by omega, fun w => wrd_x w (opR i) (wdR i) ⟨(nmR i).toArray⟩ o.op o.x o.y o.n o.b o.a hh _ rfl _ rfl (by omega)⟩
  · have hV : wD i o = wdR i + o.a := by simp [wD, e]
    rw [hV]
    unfold dwC
    rw [e]
    exact ⟨by omega, fun w => wrd_a w (opR i) (wdR i) ⟨(nmR i).toArray⟩ o.op o.x o.y o.n o.b o.a hh _ rfl (by omega)⟩
  · have hV : wD i o = wdR i + o.x * 256 + o.y * 16 := by simp [wD, e]; omega
    rw [hV]
    unfold dwC
    rw [e]
    exact ⟨by omega, fun w => wrd_xy w (opR i) (wdR i) ⟨(nmR i).toArray⟩ o.op o.x o.y o.n o.b o.a hh _ rfl _ rfl (by omega) _ rfl _ rfl (by omega)⟩
  · have hV : wD i o = wdR i + o.x * 256 + o.b := by simp [wD, e]; omega
    rw [hV]
    unfold dwC
    rw [e]
    exact ⟨by omega, fun w => wrd_xb w (opR i) (wdR i) ⟨(nmR i).toArray⟩ o.op o.x o.y o.n o.b o.a hh _ rfl _ rfl (by omega) _ rfl (by omega)⟩
  · have hV : wD i o = wdR i + o.x * 256 + o.y * 16 + o.n := by simp [wD, e]; omega
    rw [hV]
    unfold dwC
    rw [e]
    exact ⟨by omega, fun w => wrd_xyn w (opR i) (wdR i) ⟨(nmR i).toArray⟩ o.op o.x o.y o.n o.b o.a hh _ rfl _ rfl (by omega) _ rfl _ rfl (by omega) _ rfl (by omega)⟩
theorem wrdR_lt (i : Nat) (o : Od) (hi : i < 31) : wrdR i o < 65536 := by
  have hb := wd_bnd i hi
  have h : ∀ (fs : List Nat) (u : Nat), u < 65536 → wrdF u o fs < 65536 := fun fs => by
    induction fs with
    | nil => exact fun u hu => hu
    | cons k t ih => exact fun u hu => ih _ (Nat.or_lt_two_pow (n := 16) hu (Nat.mod_lt _ (by decide)))
  exact h _ _ hb
theorem encD_of {o : Od} {w : Nat} (h : encW o = some w) : ∃ i, i < 31 ∧ o.op = opR i ∧ smO o = true ∧ wD i o = w := by
  obtain ⟨i, h1, h2, h3, h4⟩ := encW_of h
  obtain ⟨i1, i2, _⟩ := fstI_of h1
  have hw : w < 65536 := by rw [h2]; exact wrdR_lt i o i1
  obtain ⟨j, hj⟩ := Option.isSome_iff_exists.1 h3
  obtain ⟨j1, j2, _⟩ := fstI_of hj
  have e := decO_some hj
  have eo : o.op = opR j := by rw [← h4, e]; exact ordR_op j w j1
  have eo2 : o = ordR j w := by rw [← h4, e]
  refine ⟨j, j1, eo, ?_⟩
  unfold wD
  rcases fs_pats j j1 with f | f | f | f | f | f
  · have := (tak_0 j w hw f).1.2 j2
    rw [ordR_0 j w hw f] at eo2
    rw [f, eo2, smO_iff]
    simp
    omega
  · have := (tak_x j w hw f).1.2 j2
    rw [ordR_x j w hw f] at eo2
    rw [f, eo2, smO_iff]
    simp
    omega
  · have := (tak_a j w hw f).1.2 j2
    rw [ordR_a j w hw f] at eo2
    rw [f, eo2, smO_iff]
    simp
    omega
  · have := (tak_xy j w hw f).1.2 j2
    rw [ordR_xy j w hw f] at eo2
    rw [f, eo2, smO_iff]
    simp
    omega
  · have := (tak_xb j w hw f).1.2 j2
    rw [ordR_xb j w hw f] at eo2
    rw [f, eo2, smO_iff]
    simp
    omega
  · have := (tak_xyn j w hw f).1.2 j2
    rw [ordR_xyn j w hw f] at eo2
    rw [f, eo2, smO_iff]
    simp
    omega
theorem encD_row {o : Od} {w : Nat} (h : encW o = some w) (i : Nat) (hi : i < 31) (ho : o.op = opR i) : smO o = true ∧ wD i o = w := by
  obtain ⟨j, j1, j2, j3, j4⟩ := encD_of h
  have : i = j := op_row j j1 i hi (by rw [← ho, j2])
  subst this
  exact ⟨j3, j4⟩
theorem encD_big {o : Od} (h : smO o = false) : encW o = none := by
  rcases e : encW o with _ | w
  · rfl
  · obtain ⟨j, j1, j2, j3, j4⟩ := encD_of e
    rw [h] at j3
    cases j3
theorem encD_none {o : Od} (h : ∀ j, j < 31 → o.op ≠ opR (dR j)) : encW o = none := by
  rcases e : encW o with _ | w
  · rfl
  · obtain ⟨j, j1, j2, j3, j4⟩ := encD_of e
    obtain ⟨i, i1, i2⟩ := dR_inv j j1
    exact absurd (by rw [i2]; exact j2) (h i i1)
theorem encD_good {o : Od} (i : Nat) (hi : i < 31) (ho : o.op = opR i) (hw : wD i o < 65536) (h : (decO (wD i o)).same o = true) : encW o = some (wD i o) := by
  have e := Od.same_iff.1 h
  have hb : decB (wD i o) = true := by
    rcases hd : decB (wD i o) with _ | _
    · rw [dec_none _ hd] at e
      rw [← e] at ho
      have := (op_bnd i hi).1
      have h0 : (od0).op = 0 := rfl
      omega
    · rfl
  have := enc_dec _ hw hb
  rwa [e] at this
theorem encD_bad {o : Od} (i : Nat) (hi : i < 31) (ho : o.op = opR i) (h : (decO (wD i o)).same o = false) : encW o = none := by
  rcases e : encW o with _ | w
  · rfl
  · obtain ⟨_, h2⟩ := encD_row e i hi ho
    obtain ⟨_, _, _, _, h4⟩ := encW_of e
    rw [h2, h4, Od.same_iff.2 rfl] at h
    cases h
end Go.Proofs.YthaijjehplomfaaDoor
