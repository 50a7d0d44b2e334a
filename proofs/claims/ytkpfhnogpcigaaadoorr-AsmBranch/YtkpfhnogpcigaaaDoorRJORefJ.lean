/- The document's answer: Parse, walked. -/
import Derived.Test.YtkpfhnogpcigaaaDoorRJORefG
import Derived.Test.YtkpfhnogpcigaaaDoorRJOBack
namespace Go.Proofs.YtkpfhnogpcigaaaDoorR
open Go.RowKit
set_option linter.unusedVariables false
set_option maxHeartbeats 1000000
set_option maxRecDepth 20000

theorem ne32 {s : ByteArray} {k : Nat} {h : k < s.size} (hn : s[k] ≠ 32) : (((s[k]'h).toNat : Int) != 32) = true := by
  rw [bne_iff_ne]
  intro e
  apply hn
  apply UInt8.toNat_inj.1
  have : (32 : UInt8).toNat = 32 := rfl
  omega
end Go.Proofs.YtkpfhnogpcigaaaDoorR
/- The document's answer: Parse where there are as many digits as there must be. -/
namespace Go.Proofs.YtkpfhnogpcigaaaDoorR
open Go.RowKit
set_option linter.unusedVariables false
set_option maxHeartbeats 1000000
set_option maxRecDepth 20000

theorem valI_none {c : Int} (h : digV c = none) : valI c = -1 := by unfold valI; rw [h]
theorem valI_some {c v : Int} (h : digV c = some v) : valI c = v := by unfold valI; rw [h]
theorem acc_small {acc : Int} {p : Nat} (h : acc < 16 ^ (p - 1)) (hp : p ≤ 5) : acc < 268435456 := by
  have h3 : (16 : Int) ^ (p - 1) ≤ 16 ^ 7 := by
    have := Nat.pow_le_pow_right (show 0 < 16 by decide) (show p - 1 ≤ 7 by omega)
    have e1 : ((16 ^ (p - 1) : Nat) : Int) = (16 : Int) ^ (p - 1) := by simp
    omega
  omega
end Go.Proofs.YtkpfhnogpcigaaaDoorR
/- The document's answer: Print and Parse, whole: they say what the program's say. -/
namespace Go.Proofs.YtkpfhnogpcigaaaDoorR
open Go.RowKit
set_option linter.unusedVariables false
set_option maxHeartbeats 400000

theorem digs_lt (n : Nat) (h : n < 256) : fm n ≠ 1 → 1 ≤ digs n ∧ digs n ≤ 4 ∧ lay (fm n * 3 + 2) < 16 ^ digs n := by revert n; decide +kernel
theorem digs_bare (n : Nat) (h : n < 256) : fm n = 1 → digs n = 0 ∧ mayB n 0 = true := by revert n; decide +kernel

theorem hexOf_S (a D : Nat) (h1 : a < 16 ^ D) (hD : 1 ≤ D) (hD' : D ≤ 8) : hexOf (a : Int) (D : Nat) = hexS D a := hexOf_yes a D hD hD' (by rw [Nat.sub_zero]; exact Nat.div_eq_of_lt h1)
theorem hexS_size (D a : Nat) : (hexS D a).size = D := by show (hexL D a).toArray.size = _; simp [hexL_len]
theorem may_nat {n : Nat} {A : Int} (hn : n < 256) (hm : may n A) (h1 : fm n ≠ 1) : ∃ a : Nat, A = a ∧ a < 16 ^ digs n ∧ a ≤ 65535 := by
  have h0 : 0 ≤ A := by have := hm.1; omega
  obtain ⟨a, rfl⟩ := Int.eq_ofNat_of_zero_le h0
  have h2 := hm.2
  have h3 := (digs_lt n hn h1).2.2
  have h4 := most_le n hn
  exact ⟨a, rfl, by omega, by omega⟩

/-- Where the first blank stands; behind the end, if there is none. -/
def fstB (s : ByteArray) : Nat := s.data.toList.findIdx (· == 32)
theorem fstB_le (s : ByteArray) : fstB s ≤ s.size := by
  have := List.findIdx_le_length (xs := s.data.toList) (p := (· == 32))
  unfold fstB
  simpa using this
theorem fstB_no (s : ByteArray) (j : Nat) (hj : j < s.size) (h : j < fstB s) : s[j] ≠ 32 := by
  have := List.not_of_lt_findIdx h
  intro e
  apply absurd this
  have e' : s.data.toList[j]'(by simpa using hj) = s[j] := by simp; rfl
  simp only [e', e]
  simp
theorem fstB_at (s : ByteArray) (h : fstB s < s.size) : s[fstB s] = 32 := by
  have := List.findIdx_getElem (xs := s.data.toList) (p := (· == 32)) (w := by have h' := h; unfold fstB at h'; simpa using h')
  have e' : s.data.toList[fstB s]'(by simpa using h) = s[fstB s] := by simp; rfl
  have h2 : (s[fstB s] == 32) = true := by rw [← e']; exact this
  simpa using h2
theorem data_at (s : ByteArray) (j : Nat) (hj : j < s.size) : s.data[j]? = some s[j] := by
  rw [Array.getElem?_eq_getElem (by simpa using hj)]; rfl

theorem blk_here (s : ByteArray) (h : fstB s < s.size) (h4 : fstB s ≤ 4) : blk s = some (fstB s) := by
  unfold blk
  rw [List.find?_range_eq_some]
  refine ⟨?_, by simp; omega, fun j hj => ?_⟩
  · rw [data_at s _ h, fstB_at s h]; rfl
  · rw [data_at s j (by omega)]
    have := fstB_no s j (by omega) hj
    simpa using this
theorem blk_far (s : ByteArray) (h : fstB s = s.size ∨ 4 < fstB s) : blk s = none := by
  unfold blk
  rw [List.find?_range_eq_none]
  intro j hj
  rcases Nat.lt_or_ge j s.size with hl | hl
  · rw [data_at s j hl]
    have := fstB_no s j hl (by omega)
    simpa using this
  · rw [Array.getElem?_eq_none (by simpa using hl)]; rfl
theorem opOf_small {S : ByteArray} {n : Nat} (h : opOf S = some n) : S.size ≤ 4 := by
  obtain ⟨hn, hS⟩ := opOf_lt h
  rw [← hS]; exact nm_size n hn
theorem opOf_long {S : ByteArray} (h : 4 < S.size) : opOf S = none := by
  rcases e : opOf S with _ | n
  · rfl
  · have := opOf_small e; omega
theorem extract_all (s : ByteArray) : s.extract 0 s.size = s := by
  apply ba_ext
  simp []
theorem split_at (s : ByteArray) (h : fstB s < s.size) : s = s.extract 0 (fstB s) ++ ⟨#[32]⟩ ++ s.extract (fstB s + 1) s.size := by
  apply ba_ext
  have h1 := data_at s _ h
  rw [fstB_at s h] at h1
  have h2 : s.data.toList[fstB s]? = some 32 := by simpa using h1
  simp only [ByteArray.data_append, ByteArray.data_extract, Array.toList_append, Array.toList_extract]
  simp
  have h3 : s.data.toList.drop (fstB s) = 32 :: s.data.toList.drop (fstB s + 1) := by
    rw [List.drop_eq_getElem_cons (by simpa using h)]
    congr 1
    rw [List.getElem?_eq_getElem (by simpa using h)] at h2
    exact Option.some.inj h2
  have h4 : List.take (s.size - (fstB s + 1)) (s.data.toList.drop (fstB s + 1)) = s.data.toList.drop (fstB s + 1) := List.take_of_length_le (by simp)
  rw [h4, ← h3, List.take_append_drop]

theorem ext_size (s : ByteArray) (a : Nat) (h : a ≤ s.size) : (s.extract a s.size).size = s.size - a := by rw [ByteArray.size_extract]; omega
theorem ext_size0 (s : ByteArray) (a : Nat) (h : a ≤ s.size) : (s.extract 0 a).size = a := by rw [ByteArray.size_extract]; omega
theorem ok_iff {s : ByteArray} {n : Nat} (hn : n < 256) (hb : bs n = n) : okS s n = true ↔ may n (argS s) ∧ textOf n (argS s) = s := by
  unfold okS printE printS
  rw [opOf_nm n hn, hb]
  simp only [Bool.and_eq_true, decide_eq_true_eq]
  by_cases hm : may n (argS s)
  · simp [(mayB_iff n _).2 hm, hm]
  · simp [mayB_no hm, hm]
theorem ok_no {s : ByteArray} {n : Nat} (h : ¬ okS s n = true) : okS s n = false := by
  rcases e : okS s n with _ | _
  · rfl
  · exact absurd e h
theorem numFrom_R (s : ByteArray) (h : fstB s < s.size) : numFrom (s.extract (fstB s) s.size) 1 0 = numGo (s.extract (fstB s + 1) s.size).data.toList 0 := by
  unfold numFrom
  congr 1
  simp [ByteArray.data_extract]
  rw [List.take_of_length_le (by simp), List.take_of_length_le (by simp), List.tail_drop]

theorem parse_of (s : ByteArray) (n : Nat) (ho : opOf (cutN s) = some n) : (okS s n = true → parseN s = nm n ∧ parseA s = argS s ∧ parseE s = 0) ∧ (okS s n = false → parseN s = ⟨#[]⟩ ∧ parseA s = 0 ∧ parseE s = 21) := by
  unfold parseN parseA parseE
  rw [ho]
  constructor
  · intro h; simp [h]
  · intro h; simp [h]
theorem parse_none' (s : ByteArray) (ho : opOf (cutN s) = none) : parseN s = ⟨#[]⟩ ∧ parseA s = 0 ∧ parseE s = 20 := by
  unfold parseN parseA parseE
  rw [ho]
  exact ⟨rfl, rfl, rfl⟩

end Go.Proofs.YtkpfhnogpcigaaaDoorR
