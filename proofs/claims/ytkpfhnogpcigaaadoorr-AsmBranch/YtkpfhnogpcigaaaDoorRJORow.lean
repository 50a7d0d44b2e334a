/- The law's own comparing of two rows of bytes: of two that are the same it says so, and turns nothing. -/
import Derived.Test.YtkpfhnogpcigaaaDoorRJOHolds
import Derived.Test.YtkpfhnogpcigaaaDoorRJOSum
namespace Go.Proofs.YtkpfhnogpcigaaaDoorR
open Go.RowKit
set_option linter.unusedVariables false
set_option maxHeartbeats 400000

end Go.Proofs.YtkpfhnogpcigaaaDoorR
/- A row of bytes that came in, opened; what Encode and Decode say of its bytes. -/
namespace Go.Proofs.YtkpfhnogpcigaaaDoorR
open Go.RowKit
set_option linter.unusedVariables false
set_option maxHeartbeats 400000

/-- What is known of a row of bytes that came in: it is nil; or it leads to 'cap' cells, the numbers 'zs'. -/
def IsRow (k : IntKind) (w : World) (a : Option Addr) (len cap : Nat) (zs : List Int) : Prop :=
  (a = none ∧ len = 0 ∧ cap = 0 ∧ zs = []) ∨
  ∃ x, a = some x ∧ len ≤ cap ∧ cap ≤ maxLen ∧ zs.length = cap ∧ (∀ i, i < zs.length → w.cell? (x.add i) = some (.int k (zs.getD i 0))) ∧ ∀ n ∈ zs, (Lit.int k n).wf = true

/-- Opened, where it has a byte. -/
theorem IsRow.open1 {w : World} {a : Option Addr} {len cap : Nat} {zs : List Int} (h : IsRow .u8 w a len cap zs) (hl : 0 < len) :
    ∃ (g off : Nat) (B : Nat → Nat), a = some ⟨g, off, none⟩ ∧ len ≤ cap ∧ cap ≤ maxLen ∧ (∀ i, B i < 256) ∧ g < w.heap.size ∧ ∀ i, i < len → w.cell? ⟨g, off + i, none⟩ = some (.int .u8 (B i : Nat)) := by
  rcases h with ⟨_, rfl, _⟩ | ⟨x, rfl, h1, h2, h3, h4, h5⟩
  · omega
  · obtain ⟨g, off, spot⟩ := x
    have c0 := h4 0 (by omega)
    have e0 : (⟨g, off, spot⟩ : Addr).add 0 = ⟨g, off, spot⟩ := rfl
    rw [e0] at c0
    have hs : spot = none := by
      cases spot with
      | none => rfl
      | some s =>
        exfalso
        unfold World.cell? at c0
        split at c0 <;> simp at c0
    subst hs
    have hwf : ∀ i, i < zs.length → 0 ≤ zs.getD i 0 ∧ zs.getD i 0 ≤ 255 := fun i hi => by
      have hm : zs.getD i 0 ∈ zs := by rw [List.getD_eq_getElem?_getD, List.getElem?_eq_getElem hi]; exact List.getElem_mem hi
      exact bounds_u8 (h5 _ hm)
    refine ⟨g, off, fun i => if i < zs.length then (zs.getD i 0).toNat else 0, rfl, h1, h2, fun i => ?_, own_size c0, fun i hi => ?_⟩
    · by_cases hi : i < zs.length
      · have := hwf i hi
        simp only [if_pos hi]
        omega
      · simp only [if_neg hi]; omega
    · have hi' : i < zs.length := by omega
      have hc := h4 i hi'
      have e : (⟨g, off, none⟩ : Addr).add i = ⟨g, off + i, none⟩ := by
        unfold Addr.add
        split
        · rename_i h0; rw [h0]; rfl
        · rfl
      rw [e] at hc
      rw [hc]
      have := hwf i hi'
      simp only [if_pos hi']
      congr 2
      omega

theorem rowOf_get (n p q j : Nat) (h : n < 256) (hj : j < by1 n) : (rowOf n p q)[j]? = some (if j = 0 then (n : Int) else if j = 1 then p else q) := by
  have hy := by1_eq n h
  unfold rowOf
  split
  · have : j = 0 := by omega
    subst this; rfl
  · split
    · have : j = 0 ∨ j = 1 := by omega
      rcases this with rfl | rfl <;> rfl
    · have : j = 0 ∨ j = 1 ∨ j = 2 := by
        split at hy
        · omega
        · split at hy <;> omega
      rcases this with rfl | rfl | rfl <;> rfl

/-- Encode of what was decoded: the bytes that were read. -/
theorem enc_rowB (n p q : Nat) (h : n < 256) (hp : p < 256) (hq : q < 256) (w : World) (T : Tabs w) :
    Calls Tryd.prog 54 #[.agg #[.string (nm n), .int .i64 (argOf n p q)]] w fun e w' => ∃ b, w.heap.size ≤ b ∧ e = .returned (.tuple #[.slice (some ⟨b, 0, none⟩) (by1 n) (by1 n), .int .i64 0]) ∧
      (∀ j, j < by1 n → w'.cell? ⟨b, j, none⟩ = some (.int .u8 (if j = 0 then (n : Int) else if j = 1 then p else q))) ∧ Below w.heap.size w w' := by
  refine (enc_row n p q h hp hq w T).mono ?_
  rintro e w' ⟨b, hb, rfl, hc, hB⟩
  rw [rowOf_len n p q h]
  refine ⟨b, hb, rfl, fun j hj => ?_, hB⟩
  unfold World.cell?
  simp only [hc]
  have := rowOf_get n p q j h hj
  simp [this]
end Go.Proofs.YtkpfhnogpcigaaaDoorR
