/- Bytes and strokes that came in as arguments, opened. -/
import Derived.Test.YtfkifppadngmdaaD1
import Derived.WalkKit
import Derived.ProofKit
import Derived.OpenShut
import Derived.ChangeArms
import Derived.ChangeShapes
import Derived.ChangeSlices
import Derived.SizedLaws
import Derived.Deep.Slices
namespace Go.Proofs.Ytfkifppadngmdaa
open Go Go.RowKit Go.ChangeShapes Go.WideShapes
set_option linter.unusedVariables false
set_option maxHeartbeats 1000000
set_option maxRecDepth 20000

theorem wf_u8 {z : Int} (h : (Lit.int .u8 z).wf = true) : 0 ≤ z ∧ z < 256 := by
  have a : IntKind.min .u8 = 0 := by decide
  have b : IntKind.max .u8 = 255 := by decide
  simp only [Lit.wf, a, b, Bool.and_eq_true, decide_eq_true_eq] at h
  omega
theorem some_of {α : Type} {l : List α} {k i : Nat} (h : l.length = k) (hi : i < k) : ∃ y, l[i]? = some y := ⟨_, List.getElem?_eq_getElem (by omega)⟩
theorem addM (g off i : Nat) : (⟨g, off, none⟩ : Addr).add i = ⟨g, off + i, none⟩ := by unfold Addr.add; split <;> simp_all
section
variable {H : Type} {enc : TypeId × Value → H} {w : World}
theorem rows_list {α : Type} {s : Nat} {c : α → List Value} {Q : α → Prop} {sp : Option Addr} : ∀ (len : Nat), (∀ k, k < len → ∃ (gb ob : Nat) (a : α), sp = some ⟨gb, ob, none⟩ ∧ w.rangeAt gb (ob + k * s) (c a) ∧ Q a) → ∃ l : List α, l.length = len ∧ LiesL s c w sp l ∧ ∀ a ∈ l, Q a
  | 0, _ => ⟨[], rfl, fun j a hj => by simp at hj, fun a ha => by cases ha⟩
  | len + 1, h => by
    obtain ⟨l, h1, h2, h3⟩ := rows_list len (fun k hk => h k (by omega))
    obtain ⟨gb, ob, a, e, hc, hq⟩ := h len (by omega)
    refine ⟨l ++ [a], by simp [h1], fun j t hj => ?_, fun x hx => ?_⟩
    · rcases Nat.lt_or_ge j l.length with hlt | hge
      · rw [List.getElem?_append_left hlt] at hj
        exact h2 j t hj
      · rw [List.getElem?_append_right hge] at hj
        have hj0 : j = len := by
          have := (List.getElem?_eq_some_iff.1 hj).1
          simp at this
          omega
        subst hj0
        rw [h1, Nat.sub_self] at hj
        simp at hj
        subst hj
        exact ⟨gb, ob, e, hc⟩
    · rcases List.mem_append.1 hx with hx | hx
      · exact h3 x hx
      · rw [List.mem_singleton.1 hx]
        exact hq
/-- A row that came in: what lies there, how long it is. -/
theorem rows_open {α : Type} {T t : TypeId} {s : Nat} {c : α → List Value} {Q : α → Prop} (u : Try.prog.underlying T = some (.slice t)) (len6 : ∀ x, (c x).length = s) (hs0 : 0 < s) (hC : Try.prog.cellsOf t = s) (ho : ∀ (m : Nat) (cs : List Value) (x : DataW H × List MemPlace), DataW.trod enc Try.prog w 0 (fun _ => true) true m t cs = some x → ∃ a, cs = c a ∧ Q a)
    {m : Nat} {a : Option Addr} {len cap : Nat} {x : DataW H × List MemPlace} (h : DataW.trod enc Try.prog w 0 (fun _ => true) true m T [.slice a len cap] = some x) : len ≤ maxLen ∧ len ≤ cap ∧ (a = none → cap = 0) ∧ ∃ l : List α, l.length = len ∧ LiesL s c w a l ∧ ∀ x ∈ l, Q x := by
  rcases Go.Deep.open_slice u h with ⟨hcs, _⟩ | ⟨ad, len', cap', M, n, D, Pl, hcs, _, hl, hm, hM, rfl, hx⟩
  · simp at hcs
    obtain ⟨rfl, rfl, rfl⟩ := hcs
    exact ⟨Nat.zero_le _, Nat.zero_le _, fun _ => rfl, [], rfl, fun j a hj => by simp at hj, fun a ha => by cases ha⟩
  · simp at hcs
    obtain ⟨rfl, rfl, rfl⟩ := hcs
    simp at hM
    subst hM
    rw [hC] at hx
    refine ⟨by omega, by omega, (fun h => by cases h), rows_list len fun k hk => ?_⟩
    obtain ⟨g, off, spot⟩ := ad
    have each : ∀ j, j < len → ∃ a : α, (∀ i v, (c a)[i]? = some v → w.cell? ((⟨g, off, spot⟩ : Addr).add (j * s + i)) = some v) ∧ Q a := fun j hj => by
      obtain ⟨cs, h1, h2⟩ := hx j (by omega)
      obtain ⟨a, rfl, hq⟩ := ho _ _ _ h2
      obtain ⟨_, _, hc⟩ := World.cells?_some h1
      refine ⟨a, fun i v hv => ?_, hq⟩
      have hi : i < s := by
        have := (List.getElem?_eq_some_iff.1 hv).1
        rw [len6] at this
        exact this
      rw [← Go.Deep.add_add, hc i hi, hv]
    have hs : spot = none := by
      obtain ⟨a, ho, _⟩ := each 0 (by omega)
      obtain ⟨v, hv⟩ := some_of (len6 a) hs0
      have c0 := ho 0 v hv
      rw [show (⟨g, off, spot⟩ : Addr).add (0 * s + 0) = ⟨g, off, spot⟩ from by rw [Nat.zero_mul]; rfl] at c0
      cases spot with
      | none => rfl
      | some s =>
        exfalso
        unfold World.cell? at c0
        split at c0 <;> simp at c0
    subst hs
    obtain ⟨a, ho, hq⟩ := each k hk
    exact ⟨g, off, a, rfl, fun i v hv => by have := ho i v hv; rw [addM, ← Nat.add_assoc] at this; exact this, hq⟩
theorem openBy {m : Nat} {cs : List Value} {x : DataW H × List MemPlace} (h : DataW.trod enc Try.prog w 0 (fun _ => true) true m 5 cs = some x) : ∃ b : UInt8, cs = [byV b] ∧ True := by
  obtain ⟨z, q, _, hw⟩ := DataW.trod_int Try.underlying5 h
  have := wf_u8 hw
  subst q
  refine ⟨UInt8.ofNat z.toNat, ?_, trivial⟩
  unfold byV
  rw [UInt8.toNat_ofNat', show ((z.toNat % 2 ^ 8 : Nat) : Int) = z by omega]
theorem bytes_open {m : Nat} {a : Option Addr} {len cap : Nat} {x : DataW H × List MemPlace} (h : DataW.trod enc Try.prog w 0 (fun _ => true) true m 22 [.slice a len cap] = some x) : len ≤ maxLen ∧ len ≤ cap ∧ (a = none → cap = 0) ∧ ∃ l : List UInt8, l.length = len ∧ LB w a l := by
  obtain ⟨h1, h2, h3, l, h4, h5, _⟩ := rows_open (s := 1) (c := cB) (Q := fun _ => True) Try.underlying22 (fun _ => rfl) (by decide) (by kernel_rfl) (fun _ _ _ h => openBy h) h
  exact ⟨h1, h2, h3, l, h4, h5⟩
theorem list3 {α : Type} {l : List α} (h : l.length = 3) : ∃ a b c, l = [a, b, c] := by
  match l, h with
  | [a, b, c], _ => exact ⟨a, b, c, rfl⟩
/-- A stroke as it came in. -/
structure St where
  x : UInt8
  y : UInt8
  sp : Option Addr
  rows : List UInt8
  cap : Nat
/-- A stroke's cells, in a row. -/
def cSt (s : St) : List Value := [.int .u8 (s.x.toNat : Int), .int .u8 (s.y.toNat : Int), .slice s.sp s.rows.length s.cap]
end
end Go.Proofs.Ytfkifppadngmdaa
