/- Waves a little longer or shorter, one bit turned: the statement's walk. -/
import Derived.Test.YtdfjfacilbahkabDoorUm
import Derived.Test.YtdfjfacilbahkabDoorUv
import Derived.Test.YtdfjfacilbahkabDoorUy
import Derived.Deep.MidRow
import Derived.Deep.QuietTactic
import Derived.BigQuiet
import Derived.StillTail
namespace Go.Proofs.YtdfjfacilbahkabDoor
open Go Go.RowKit
set_option linter.unusedVariables false
set_option maxHeartbeats 2000000
set_option maxRecDepth 20000

def cI (x : Int) : List Value := [.int .i64 x]
theorem and_lowN (x : Int) (K : Nat) (hK : K < 9223372036854775808) (h : (BitVec.ofInt 64 (K : Int)).toNat = K) : 0 ≤ bits .and .i64 x (K : Int) ∧ bits .and .i64 x (K : Int) ≤ K := by
  have h : (BitVec.ofInt 64 x &&& BitVec.ofInt 64 (K : Int)).toNat ≤ K := by
    rw [BitVec.toNat_and, h]
    exact Nat.and_le_right
  show 0 ≤ IntKind.i64.wrap ((BitVec.ofInt 64 x &&& BitVec.ofInt 64 (K : Int)).toNat : Int) ∧ IntKind.i64.wrap ((BitVec.ofInt 64 x &&& BitVec.ofInt 64 (K : Int)).toNat : Int) ≤ K
  rw [IntKind.wrap_i64]
  omega
theorem and_20 (x : Int) : 0 ≤ bits .and .i64 x 1048575 ∧ bits .and .i64 x 1048575 ≤ 1048575 := by
  have e : (BitVec.ofInt 64 ((1048575 : Nat) : Int)).toNat = 1048575 := by kernel_rfl
  exact and_lowN x 1048575 (by omega) e
section
variable {α : Type} {t : TypeId} {s : Nat} {c : α → List Value}
theorem rowL_put1 (hc : ∀ x, (c x).length = s) (i : Nat) (v : Value) (hi : i < s) (x : List α) : ∀ (k : Nat) (a e : α), x[k]? = some a → c e = (c a).set i v → rowL c (x.set k e) = (rowL c x).set (k * s + i) v := by
  induction x with
  | nil => intro k a e h; simp at h
  | cons y x ih =>
    intro k a e h he
    cases k with
    | zero =>
      simp at h
      subst h
      rw [List.set_cons_zero, rowL_cons, rowL_cons, he, Nat.zero_mul, Nat.zero_add, List.set_append_left _ _ (by rw [hc]; exact hi)]
    | succ k =>
      simp only [List.getElem?_cons_succ] at h
      rw [List.set_cons_succ, rowL_cons, rowL_cons, ih k a e h he, List.set_append_right _ _ (by rw [hc, Nat.succ_mul]; omega), hc, show (k + 1) * s + i - s = k * s + i by rw [Nat.succ_mul]; omega]
/-- One cell of an owned row is set. -/
theorem KL.put1 (hc : ∀ x, (c x).length = s) {w y : World} {g n cap : Nat} {x : List α} (h : KL t s c w (.slice (some ⟨g, 0, none⟩) n cap) x y) (k i : Nat) (a e : α) (v : Value) (hk : x[k]? = some a) (hi : i < s) (he : c e = (c a).set i v) : KL t s c w (.slice (some ⟨g, 0, none⟩) n cap) (x.set k e) (y.setCell ⟨g, k * s + i, none⟩ v) ∧ y.frozen? ⟨g, k * s + i, none⟩ = false := by
  obtain ⟨⟨h1, h2⟩, low⟩ := h
  rcases h2 with ⟨h0, _⟩ | ⟨g', cap', cur, hv, hb, hg, hn, hm, hs, ht⟩
  · simp at h0
  · simp at hv
    obtain ⟨rfl, hn', rfl⟩ := hv
    refine ⟨⟨⟨by rw [rowL_len hc], .inr ⟨g, cap, _, by rw [List.length_set, hn'], hb, heap_setCell_same y g (k * s + i) cur t v hg, by rw [List.length_set]; exact hn, hm, ?_, ?_⟩⟩, low.trans ((Below.refl _ _).setCell (p := ⟨g, k * s + i, none⟩) hb v)⟩, frozen_heap hg _⟩
    · rw [Array.size_setIfInBounds]; exact hs
    · rw [List.length_set, rowL_put1 hc i v hi x k a e hk he, ← ht, Array.toList_setIfInBounds, List.take_set]
end
/-- The waves so far: the bits as they were, what is still to come untouched. -/
structure Nr (W P : List (Int × Int)) (i : Nat) : Prop where
  bits : P.map bitW = W.map bitW
  rest : ∀ j, i ≤ j → P[j]? = W[j]?
theorem Nr.next {W P : List (Int × Int)} {i : Nat} (h : Nr W P i) (b : Int) (hb : b = 0 ∨ b = 1) (hW : W[i]? = some (wv b)) (x y : Int) (hx : 0 ≤ x ∧ x ≤ 31) (hy : 0 ≤ y ∧ y ≤ 15) : Nr W (P.set i ((wv b).1 + x - 16, (wv b).2 - y)) (i + 1) := by
  refine ⟨?_, fun j hj => by rw [List.getElem?_set_ne (by omega)]; exact h.rest j (by omega)⟩
  rw [List.map_set, near_bit b hb x y hx hy, h.bits]
  have hlt := (List.getElem?_eq_some_iff.1 hW).1
  apply List.ext_getElem?
  intro j
  by_cases hj : j = i
  · subst hj
    rw [List.getElem?_set_self (by simpa using hlt), List.getElem?_map, hW]
    simp [bitW_wv b hb]
  · rw [List.getElem?_set_ne (fun e => hj e.symm)]
theorem writeL_wv (b : List UInt8) (m i : Nat) (h : i < (writeL b m).length) : ∃ c, (c = 0 ∨ c = 1) ∧ (writeL b m)[i]? = some (wv c) := by
  have hall : ∀ p ∈ writeL b m, ∃ c, (c = 0 ∨ c = 1) ∧ p = wv c := fun p hp => by
    unfold writeL at hp
    rcases List.mem_append.1 hp with h | h
    · exact ⟨0, .inl rfl, (List.eq_of_mem_replicate h)⟩
    · obtain ⟨x, _, h2⟩ := List.mem_flatMap.1 h
      rw [byteW_nine] at h2
      rcases List.mem_cons.1 h2 with h3 | h3
      · exact ⟨1, .inr rfl, h3⟩
      · obtain ⟨c, h4, h5⟩ := List.mem_map.1 h3
        exact ⟨c, nineN_bit _ c h4, h5.symm⟩
  obtain ⟨c, h1, h2⟩ := hall _ (List.getElem_mem h)
  exact ⟨c, h1, by rw [List.getElem?_eq_getElem h, h2]⟩
end Go.Proofs.YtdfjfacilbahkabDoor
