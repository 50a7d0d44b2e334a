/- When two texts are the same. -/
import Derived.WalkKit
namespace Go.Proofs.YtfdikiafbfljaaaDoor
theorem loop_eq (b : ByteArray) : ∀ (k i : Nat) (r : List UInt8), b.size - i = k → ByteArray.toList.loop b i r = r.reverse ++ b.data.toList.drop i
  | 0, i, r, h => by
    unfold ByteArray.toList.loop
    rw [if_neg (by omega), List.drop_eq_nil_of_le (by simpa using (by omega : b.size ≤ i))]
    simp
  | k + 1, i, r, h => by
    have hi : i < b.size := by omega
    unfold ByteArray.toList.loop
    rw [if_pos hi, loop_eq b k (i + 1) _ (by omega)]
    have e : b.data.toList.drop i = b.data.toList[i]'(by simpa using hi) :: b.data.toList.drop (i + 1) := List.drop_eq_getElem_cons _
    rw [e]
    simp only [List.reverse_cons, List.append_assoc, List.singleton_append]
    congr 2
    unfold ByteArray.get!
    simp
    rw [getElem!_pos b.data i (by simpa using hi)]
theorem toList_eq (b : ByteArray) : b.toList = b.data.toList := by
  unfold ByteArray.toList
  rw [loop_eq b _ 0 [] rfl]
  simp
theorem str_ne {a b : ByteArray} (h : ¬ a = b) : (a.toList == b.toList) = false := by
  rw [toList_eq, toList_eq]
  rw [beq_eq_false_iff_ne]
  intro e
  apply h
  cases a; cases b
  simp at e
  rw [e]
theorem str_eq {a b : ByteArray} (h : a = b) : (a.toList == b.toList) = true := by rw [h]; simp
end Go.Proofs.YtfdikiafbfljaaaDoor
