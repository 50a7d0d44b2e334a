/- A source written as a text, by the document. -/
import Derived.Test.YtfdjifgmlgpjgabDoorJIg
namespace Go.Proofs.YtfdjifgmlgpjgabDoor
open Go Go.RowKit
set_option linter.unusedVariables false
set_option maxHeartbeats 2000000
set_option maxRecDepth 20000

theorem isNm_le {s : ByteArray} (h : isNm s = true) : s.size ≤ 16 := (of_decide_eq_true h).2.1
theorem mayI_small {r : Ri} (h : mayI r = true) : r.n.size ≤ 16 ∧ r.l.size ≤ 16 ∧ r.m ≤ 256 := by
  unfold mayI at h
  by_cases h2 : r.k = 2
  · rw [if_pos h2] at h
    unfold codeI at h
    rcases e : opOf r.n with _ | n
    · rw [e] at h; cases h
    · rw [e] at h
      have h4 := opOf_small e
      have h' : codeF (fm n) r = true := h
      unfold codeF at h'
      rw [Bool.and_eq_true, decide_eq_true_iff] at h'
      obtain ⟨m0, h'⟩ := h'
      refine ⟨by omega, ?_, by omega⟩
      by_cases hp : r.p = 0
      · rw [if_pos hp, Bool.and_eq_true, decide_eq_true_iff] at h'
        omega
      · rw [if_neg hp, Bool.and_eq_true] at h'
        exact isNm_le h'.1
  · rw [if_neg h2] at h
    by_cases hp : r.p = 0
    · rw [if_neg (by omega)] at h
      by_cases h1 : r.k = 1
      · rw [if_pos h1] at h
        simp only [Bool.and_eq_true, decide_eq_true_iff] at h
        exact ⟨isNm_le h.1, by omega, by omega⟩
      rw [if_neg h1] at h
      by_cases h3 : r.k = 3
      · rw [if_pos h3] at h
        simp only [Bool.and_eq_true, decide_eq_true_iff] at h
        omega
      rw [if_neg h3] at h
      by_cases h4 : r.k = 4
      · rw [if_pos h4] at h
        simp only [Bool.and_eq_true, decide_eq_true_iff] at h
        omega
      rw [if_neg h4] at h
      by_cases h5 : r.k = 5
      · rw [if_pos h5] at h
        simp only [Bool.and_eq_true, decide_eq_true_iff] at h
        exact ⟨by omega, isNm_le h.1, by omega⟩
      rw [if_neg h5] at h
      cases h
    · rw [if_pos hp] at h
      cases h
theorem line_small {r : Ri} {b : List UInt8} (h1 : r.n.size ≤ 16) (h2 : r.l.size ≤ 16) (h3 : b.length ≤ 256) : (lineI r b).size ≤ 1000 := by
  have c1 := hexOf_le r.a 4
  have c2 := printS_le r.n r.a
  unfold lineI
  split
  · rw [ByteArray.size_append]; show _ + 1 ≤ _; omega
  split
  · show ([32, 100, 97, 116, 97] ++ dataL b).toArray.size ≤ _
    rw [List.size_toArray, List.length_append, dataL_len]
    show 5 + _ ≤ _
    omega
  split
  · rw [ByteArray.size_append]; show 4 + _ ≤ _; omega
  split
  · rw [ByteArray.size_append]; show 9 + _ ≤ _; omega
  split
  · rw [ByteArray.size_append, ByteArray.size_append, ByteArray.size_append]; show 1 + _ + 4 + _ ≤ _; omega
  split
  · rw [ByteArray.size_append, ByteArray.size_append, ByteArray.size_append]; show 1 + _ + 6 + _ ≤ _; omega
  split
  · rw [ByteArray.size_append, ByteArray.size_append, ByteArray.size_append]; show 1 + _ + 5 + _ ≤ _; omega
  · rw [ByteArray.size_append]; show 1 + _ ≤ _; omega

/-- An item with its bytes. -/
abbrev Itm := Ri × List UInt8
def printL (L : List Itm) : List UInt8 := L.flatMap fun x => strL (lineI x.1 x.2) ++ [10]
def printIE (L : List Itm) : Int := if ¬ checkE (L.map (·.1)) = 0 then checkE (L.map (·.1)) else if 65536 < (printL L).length then 2 else 0
def printIB (L : List Itm) : ByteArray := if printIE L = 0 then ⟨(printL L).toArray⟩ else ⟨#[]⟩
/-- Items whose bytes lie where they say. -/
def Good (w : World) (x : Itm) : Prop := LB8 w x.1.sp x.2 ∧ x.2.length = x.1.m ∧ x.1.a ≤ 9223372036854775807
theorem checkE_ok {l : List Ri} (h : checkE l = 0) : l.length ≤ 4096 ∧ ∀ r ∈ l, mayI r = true := by
  unfold checkE at h
  split at h
  · cases h
  · rename_i hl
    split at h
    · cases h
    · rename_i hb
      refine ⟨by omega, fun r hr => ?_⟩
      have : badI l = none := by simpa using hb
      unfold badI at this
      rw [List.findIdx?_eq_none_iff] at this
      have := this r hr
      simpa using this

theorem at_listL {α : Type} {l : List α} {n i : Nat} (h : l.length = n) (hi : i < n) : ∃ s, l[i]? = some s ∧ l.drop i = s :: l.drop (i + 1) :=
  ⟨l[i]'(by omega), List.getElem?_eq_getElem (by omega), List.drop_eq_getElem_cons (by omega)⟩
end Go.Proofs.YtfdjifgmlgpjgabDoor
