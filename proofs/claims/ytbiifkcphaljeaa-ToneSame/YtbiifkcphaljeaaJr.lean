/- Records that came in as arguments, opened. -/
import Derived.Test.YtbiifkcphaljeaaKd
import Derived.WalkKit
import Derived.ProofKit
import Derived.OpenShut
import Derived.ChangeArms
import Derived.ChangeShapes
import Derived.ChangeSlices
import Derived.SizedLaws
import Derived.Deep.Slices
namespace Go.Proofs.Ytbiifkcphaljeaa
open Go Go.RowKit Go.ChangeShapes Go.WideShapes
set_option linter.unusedVariables false
set_option maxHeartbeats 1000000
set_option maxRecDepth 20000

theorem wf_u8 {z : Int} (h : (Lit.int .u8 z).wf = true) : 0 ≤ z ∧ z < 256 := by
  have a : IntKind.min .u8 = 0 := by decide
  have b : IntKind.max .u8 = 255 := by decide
  simp only [Lit.wf, a, b, Bool.and_eq_true, decide_eq_true_eq] at h
  omega
theorem wf_u16 {z : Int} (h : (Lit.int .u16 z).wf = true) : 0 ≤ z ∧ z < 65536 := by
  have a : IntKind.min .u16 = 0 := by decide
  have b : IntKind.max .u16 = 65535 := by decide
  simp only [Lit.wf, a, b, Bool.and_eq_true, decide_eq_true_eq] at h
  omega
theorem list8 {α : Type} {l : List α} (h : l.length = 8) : ∃ a0 a1 a2 a3 a4 a5 a6 a7, l = [a0, a1, a2, a3, a4, a5, a6, a7] := by
  match l, h with
  | [a0, a1, a2, a3, a4, a5, a6, a7], _ => exact ⟨a0, a1, a2, a3, a4, a5, a6, a7, rfl⟩
theorem some_of {α : Type} {l : List α} {k i : Nat} (h : l.length = k) (hi : i < k) : ∃ y, l[i]? = some y := ⟨_, List.getElem?_eq_getElem (by omega)⟩
theorem addM (g off i : Nat) : (⟨g, off, none⟩ : Addr).add i = ⟨g, off + i, none⟩ := by unfold Addr.add; split <;> simp_all
theorem openR {H : Type} {enc : TypeId × Value → H} {w : World} {m : Nat} {cs : List Value} {x : DataW H × List MemPlace} (h : DataW.trod enc Try.prog w 0 (fun _ => true) true m 41 cs = some x) : ∃ s : Rc, Rr s ∧ cs = (rcC s).toList := by
  obtain ⟨xs, n, _, rfl, hl, hxl, hf⟩ := DataW.trod_struct Try.underlying41 h
  obtain ⟨c0, c1, c2, c3, c4, c5, c6, c7, rfl⟩ := list8 (hl.trans (by kernel_rfl))
  have ku8 : Try.prog.cellsOf 5 = 1 := by kernel_rfl
  have kb : Try.prog.cellsOf 4 = 1 := by kernel_rfl
  have ku16 : Try.prog.cellsOf 38 = 1 := by kernel_rfl
  have km : Try.prog.cellsOf 39 = 1 := by kernel_rfl
  have g0 := hf 0 _ rfl
  have g1 := hf 1 _ rfl
  have g2 := hf 2 _ rfl
  have g3 := hf 3 _ rfl
  have g4 := hf 4 _ rfl
  have g5 := hf 5 _ rfl
  have g6 := hf 6 _ rfl
  have g7 := hf 7 _ rfl
  simp [ku8] at g0
  simp [ku16] at g1
  simp [ku8] at g2
  simp [kb] at g3
  simp [kb] at g4
  simp [ku8] at g5
  simp [kb] at g6
  simp [km] at g7
  obtain ⟨y0, e0⟩ := some_of (show xs.length = 8 from hxl) (show 0 < 8 by decide)
  obtain ⟨z0, q0, _, w0⟩ := DataW.trod_int Try.underlying5 (g0.trans e0)
  simp at q0
  subst q0
  obtain ⟨y1, e1⟩ := some_of (show xs.length = 8 from hxl) (show 1 < 8 by decide)
  obtain ⟨z1, q1, _, w1⟩ := DataW.trod_int Try.underlying38 (g1.trans e1)
  simp at q1
  subst q1
  obtain ⟨y2, e2⟩ := some_of (show xs.length = 8 from hxl) (show 2 < 8 by decide)
  obtain ⟨z2, q2, _, w2⟩ := DataW.trod_int Try.underlying5 (g2.trans e2)
  simp at q2
  subst q2
  obtain ⟨y3, e3⟩ := some_of (show xs.length = 8 from hxl) (show 3 < 8 by decide)
  obtain ⟨z3, q3, _⟩ := DataW.trod_bool Try.underlying4 (g3.trans e3)
  simp at q3
  subst q3
  obtain ⟨y4, e4⟩ := some_of (show xs.length = 8 from hxl) (show 4 < 8 by decide)
  obtain ⟨z4, q4, _⟩ := DataW.trod_bool Try.underlying4 (g4.trans e4)
  simp at q4
  subst q4
  obtain ⟨y5, e5⟩ := some_of (show xs.length = 8 from hxl) (show 5 < 8 by decide)
  obtain ⟨z5, q5, _, w5⟩ := DataW.trod_int Try.underlying5 (g5.trans e5)
  simp at q5
  subst q5
  obtain ⟨y6, e6⟩ := some_of (show xs.length = 8 from hxl) (show 6 < 8 by decide)
  obtain ⟨z6, q6, _⟩ := DataW.trod_bool Try.underlying4 (g6.trans e6)
  simp at q6
  subst q6
  obtain ⟨y7, e7⟩ := some_of (show xs.length = 8 from hxl) (show 7 < 8 by decide)
  obtain ⟨z7, q7, _, w7⟩ := DataW.trod_int Try.underlying39 (g7.trans e7)
  simp at q7
  subst q7
  have r0 := wf_u8 w0
  have r1 := wf_u16 w1
  have r2 := wf_u8 w2
  have r5 := wf_u8 w5
  have r7 := wf_u8 w7
  exact ⟨⟨z0, z1, z2, z3, z4, z5, z6, z7⟩, ⟨by show 0 ≤ z0; omega, by show z0 ≤ 255; omega, by show 0 ≤ z1; omega, by show z1 ≤ 65535; omega, by show 0 ≤ z2; omega, by show z2 ≤ 255; omega, by show 0 ≤ z5; omega, by show z5 ≤ 255; omega, by show 0 ≤ z7; omega, by show z7 ≤ 255; omega⟩, rfl⟩
theorem recs_list {w : World} {sp : Option Addr} : ∀ (len : Nat), (∀ k, k < len → ∃ (gb ob : Nat) (s : Rc), sp = some ⟨gb, ob, none⟩ ∧ Rr s ∧ w.rangeAt gb (ob + k * 8) (rcC s).toList) → ∃ l : List Rc, l.length = len ∧ LiesR w sp l ∧ ∀ s ∈ l, Rr s
  | 0, _ => ⟨[], rfl, fun j s hj => by simp at hj, fun s hs => by simp at hs⟩
  | len + 1, h => by
    obtain ⟨l, h1, h2, h3⟩ := recs_list len (fun k hk => h k (by omega))
    obtain ⟨gb, ob, s, e, r, c⟩ := h len (by omega)
    refine ⟨l ++ [s], by simp [h1], fun j t hj => ?_, fun t ht => ?_⟩
    · rcases Nat.lt_or_ge j l.length with hlt | hge
      · rw [List.getElem?_append_left hlt] at hj
        exact h2 j t hj
      · rw [List.getElem?_append_right hge] at hj
        have hj0 : j = len := by
          have := (List.getElem?_eq_some_iff.1 hj).1
          simp at this
          omega
        subst hj0
        rw [h1, Nat.sub_self] at hj
        simp at hj
        subst hj
        exact ⟨gb, ob, e, c⟩
    · rcases List.mem_append.1 ht with ht | ht
      · exact h3 t ht
      · simp at ht
        subst ht
        exact r
theorem recs_open {H : Type} {enc : TypeId × Value → H} {w : World} {m : Nat} {a : Option Addr} {len cap : Nat} {x : DataW H × List MemPlace} (h : DataW.trod enc Try.prog w 0 (fun _ => true) true m 22 [.slice a len cap] = some x) : len ≤ maxLen ∧ ∃ l : List Rc, l.length = len ∧ LiesR w a l ∧ ∀ s ∈ l, Rr s := by
  rcases Go.Deep.open_slice Try.underlying22 h with ⟨hcs, _⟩ | ⟨ad, len', cap', M, n, D, Pl, hcs, _, hl, hm, hM, rfl, hx⟩
  · simp at hcs
    obtain ⟨rfl, rfl, rfl⟩ := hcs
    exact ⟨Nat.zero_le _, [], rfl, fun j s hj => by simp at hj, fun s hs => by simp at hs⟩
  · simp at hcs
    obtain ⟨rfl, rfl, rfl⟩ := hcs
    simp at hM
    subst hM
    have hC : Try.prog.cellsOf 41 = 8 := by kernel_rfl
    rw [hC] at hx
    refine ⟨by omega, recs_list len fun k hk => ?_⟩
    obtain ⟨g, off, spot⟩ := ad
    have each : ∀ j, j < len → ∃ s : Rc, Rr s ∧ ∀ i v, (rcC s).toList[i]? = some v → w.cell? ((⟨g, off, spot⟩ : Addr).add (j * 8 + i)) = some v := fun j hj => by
      obtain ⟨cs, h1, h2⟩ := hx j (by omega)
      obtain ⟨s, hs, rfl⟩ := openR h2
      obtain ⟨_, _, hc⟩ := World.cells?_some h1
      refine ⟨s, hs, fun i v hv => ?_⟩
      have hi : i < 8 := by
        rcases Nat.lt_or_ge i 8 with h | h
        · exact h
        · rw [List.getElem?_eq_none (by simpa [rcC] using h)] at hv; cases hv
      rw [← Go.Deep.add_add, hc i hi, hv]
    have hs : spot = none := by
      obtain ⟨s, _, ho⟩ := each 0 (by omega)
      have c0 := ho 0 _ rfl
      rw [show (⟨g, off, spot⟩ : Addr).add (0 * 8 + 0) = ⟨g, off, spot⟩ from rfl] at c0
      cases spot with
      | none => rfl
      | some s =>
        exfalso
        unfold World.cell? at c0
        split at c0 <;> simp at c0
    subst hs
    obtain ⟨s, hs, ho⟩ := each k hk
    exact ⟨g, off, s, rfl, hs, fun i v hv => by have := ho i v hv; rw [addM, ← Nat.add_assoc] at this; exact this⟩
end Go.Proofs.Ytbiifkcphaljeaa
