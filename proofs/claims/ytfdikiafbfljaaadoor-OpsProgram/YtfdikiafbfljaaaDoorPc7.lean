/- Words that came in as an argument, opened. -/
import Derived.Test.YtfdikiafbfljaaaDoorPc6
import Derived.Test.YtfdikiafbfljaaaDoorZt16
import Derived.ChangeSlices
import Derived.Deep.Slices
namespace Go.Proofs.YtfdikiafbfljaaaDoor
open Go Go.RowKit Go.ChangeShapes Go.WideShapes
set_option linter.unusedVariables false
set_option maxHeartbeats 1000000
set_option maxRecDepth 20000

theorem addM (g off i : Nat) : (⟨g, off, none⟩ : Addr).add i = ⟨g, off + i, none⟩ := by unfold Addr.add; split <;> simp_all
section
variable {H : Type} {enc : TypeId × Value → H} {w : World}
theorem rows_list {α : Type} {s : Nat} {c : α → List Value} {Q : α → Prop} {sp : Option Addr} : ∀ (len : Nat), (∀ k, k < len → ∃ (gb ob : Nat) (a : α), sp = some ⟨gb, ob, none⟩ ∧ w.rangeAt gb (ob + k * s) (c a) ∧ Q a) → ∃ l : List α, l.length = len ∧ LiesL s c w sp l ∧ ∀ a ∈ l, Q a
  | 0, _ => ⟨[], rfl, fun j a hj => by simp at hj, fun a ha => by cases ha⟩
  | len + 1, h => by
    obtain ⟨l, h1, h2, h3⟩ := rows_list len (fun k hk => h k (by omega))
    obtain ⟨gb, ob, a, e, hc, hq⟩ := h len (by omega)
    refine ⟨l ++ [a], by simp [h1], fun j t hj => ?_, fun x hx => ?_⟩
    · rcases Nat.lt_or_ge j l.length with hlt | hge
      · rw [List.getElem?_append_left hlt] at hj
        exact h2 j t hj
      · rw [List.getElem?_append_right hge] at hj
        have hj0 : j = len := by
          have := (List.getElem?_eq_some_iff.1 hj).1
          simp at this
          omega
        subst hj0
        rw [h1, Nat.sub_self] at hj
        simp at hj
        subst hj
        exact ⟨gb, ob, e, hc⟩
    · rcases List.mem_append.1 hx with hx | hx
      · exact h3 x hx
      · rw [List.mem_singleton.1 hx]
        exact hq
/-- A row that came in: what lies there, how long it is. -/
theorem rows_open {α : Type} {T t : TypeId} {s : Nat} {c : α → List Value} {Q : α → Prop} (u : Tryd.prog.underlying T = some (.slice t)) (len6 : ∀ x, (c x).length = s) (hs0 : 0 < s) (hC : Tryd.prog.cellsOf t = s) (ho : ∀ (m : Nat) (cs : List Value) (x : DataW H × List MemPlace), DataW.trod enc Tryd.prog w 0 (fun _ => true) true m t cs = some x → ∃ a, cs = c a ∧ Q a)
    {m : Nat} {a : Option Addr} {len cap : Nat} {x : DataW H × List MemPlace} (h : DataW.trod enc Tryd.prog w 0 (fun _ => true) true m T [.slice a len cap] = some x) : len ≤ maxLen ∧ len ≤ cap ∧ (a = none → cap = 0) ∧ ∃ l : List α, l.length = len ∧ LiesL s c w a l ∧ ∀ x ∈ l, Q x := by
  rcases Go.Deep.open_slice u h with ⟨hcs, _⟩ | ⟨ad, len', cap', M, n, D, Pl, hcs, _, hl, hm, hM, rfl, hx⟩
  · simp at hcs
    obtain ⟨rfl, rfl, rfl⟩ := hcs
    exact ⟨Nat.zero_le _, Nat.zero_le _, fun _ => rfl, [], rfl, fun j a hj => by simp at hj, fun a ha => by cases ha⟩
  · simp at hcs
    obtain ⟨rfl, rfl, rfl⟩ := hcs
    simp at hM
    subst hM
    rw [hC] at hx
    refine ⟨by omega, by omega, (fun h => by cases h), rows_list len fun k hk => ?_⟩
    obtain ⟨g, off, spot⟩ := ad
    have each : ∀ j, j < len → ∃ a : α, (∀ i v, (c a)[i]? = some v → w.cell? ((⟨g, off, spot⟩ : Addr).add (j * s + i)) = some v) ∧ Q a := fun j hj => by
      obtain ⟨cs, h1, h2⟩ := hx j (by omega)
      obtain ⟨a, rfl, hq⟩ := ho _ _ _ h2
      obtain ⟨_, _, hc⟩ := World.cells?_some h1
      refine ⟨a, fun i v hv => ?_, hq⟩
      have hi : i < s := by
        have := (List.getElem?_eq_some_iff.1 hv).1
        rw [len6] at this
        exact this
      rw [← Go.Deep.add_add, hc i hi, hv]
    have hs : spot = none := by
      obtain ⟨a, ho, _⟩ := each 0 (by omega)
      obtain ⟨v, hv⟩ := some_of (len6 a) hs0
      have c0 := ho 0 v hv
      rw [show (⟨g, off, spot⟩ : Addr).add (0 * s + 0) = ⟨g, off, spot⟩ from by rw [Nat.zero_mul]; rfl] at c0
      cases spot with
      | none => rfl
      | some s =>
        exfalso
        unfold World.cell? at c0
        split at c0 <;> simp at c0
    subst hs
    obtain ⟨a, ho, hq⟩ := each k hk
    exact ⟨g, off, a, rfl, fun i v hv => by have := ho i v hv; rw [addM, ← Nat.add_assoc] at this; exact this, hq⟩
theorem openWd {m : Nat} {cs : List Value} {x : DataW H × List MemPlace} (h : DataW.trod enc Tryd.prog w 0 (fun _ => true) true m 27 cs = some x) : ∃ n : Nat, cs = cW16 n ∧ n < 65536 := by
  obtain ⟨z, q, _, hw⟩ := DataW.trod_int Tryd.underlying27 h
  have := wf_u16 hw
  subst q
  refine ⟨z.toNat, ?_, by omega⟩
  unfold cW16
  rw [show ((z.toNat : Nat) : Int) = z by omega]
theorem words_open {m : Nat} {a : Option Addr} {len cap : Nat} {x : DataW H × List MemPlace} (h : DataW.trod enc Tryd.prog w 0 (fun _ => true) true m 36 [.slice a len cap] = some x) : len ≤ maxLen ∧ len ≤ cap ∧ (a = none → cap = 0) ∧ ∃ l : List Nat, l.length = len ∧ LiesL 1 cW16 w a l ∧ ∀ s ∈ l, s < 65536 :=
  rows_open (s := 1) (c := cW16) (Q := fun s => s < 65536) Tryd.underlying36 (fun _ => rfl) (by decide) (by kernel_rfl) (fun _ _ _ h => openWd h) h
end
end Go.Proofs.YtfdikiafbfljaaaDoor
