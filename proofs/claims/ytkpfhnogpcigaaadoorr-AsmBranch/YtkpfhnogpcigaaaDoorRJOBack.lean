/- A line that was printed is cut and read again as it was. -/
import Derived.Test.YtkpfhnogpcigaaaDoorRJORefC
namespace Go.Proofs.YtkpfhnogpcigaaaDoorR
open Go.RowKit
set_option linter.unusedVariables false
set_option maxHeartbeats 400000

theorem ba_ext {a b : ByteArray} (h : a.data.toList = b.data.toList) : a = b := by
  cases a; cases b
  simp at h
  rw [h]
theorem nmB_noblank (n : Nat) (h : n < 256) : (nmB n).all (· != 32) = true := by revert n; decide +kernel
theorem nm_data (n : Nat) : (nm n).data.toList = nmB n := by rw [nm_eq]

theorem nm_len (n : Nat) : (nm n).size = (nmB n).length := by rw [nm_eq]; show (nmB n).toArray.size = _; simp

/-- A line that opens with a name and a blank is cut there. -/
theorem cut_text (n : Nat) (h : n < 256) (r : ByteArray) : blk (nm n ++ ⟨#[32]⟩ ++ r) = some (nmB n).length := by
  have hs := nmB_small n h
  have hn := nmB_noblank n h
  have hd : (nm n ++ ⟨#[32]⟩ ++ r).data.toList = nmB n ++ (32 :: r.data.toList) := by
    simp [ByteArray.data_append, nm_data]
  have hat : ∀ j : Nat, (nm n ++ ⟨#[32]⟩ ++ r).data[j]? = (nmB n ++ (32 :: r.data.toList))[j]? := fun j => by
    rw [← hd, Array.getElem?_toList]
  unfold blk
  rw [List.find?_range_eq_some]
  refine ⟨?_, by simp; omega, fun j hj => ?_⟩
  · rw [hat]; simp
  · rw [hat, List.getElem?_append_left hj, List.getElem?_eq_getElem hj]
    have := List.all_eq_true.1 hn _ (List.getElem_mem hj)
    simpa using this
theorem cut_bare (n : Nat) (h : n < 256) : blk (nm n) = none := by
  have hn := nmB_noblank n h
  unfold blk
  rw [List.find?_range_eq_none]
  intro j hj
  have hat : (nm n).data[j]? = (nmB n)[j]? := by rw [← nm_data]; simp
  rw [hat]
  rcases Nat.lt_or_ge j (nmB n).length with hl | hl
  · rw [List.getElem?_eq_getElem hl]
    have := List.all_eq_true.1 hn _ (List.getElem_mem hl)
    simpa using this
  · rw [List.getElem?_eq_none hl]; rfl

theorem cutN_text (n : Nat) (h : n < 256) (r : ByteArray) : cutN (nm n ++ ⟨#[32]⟩ ++ r) = nm n := by
  unfold cutN
  rw [cut_text n h r]
  apply ba_ext
  simp [ByteArray.data_extract, ByteArray.data_append, nm_data, nm_len]
theorem cutB_text (n : Nat) (h : n < 256) (r : ByteArray) : cutB (nm n ++ ⟨#[32]⟩ ++ r) = r := by
  unfold cutB
  rw [cut_text n h r]
  apply ba_ext
  have e : (nm n ++ ⟨#[32]⟩ ++ r).size = (nmB n).length + 1 + r.data.toList.length := by
    rw [ByteArray.size_append, ByteArray.size_append]
    have h1 := nm_len n
    have h2 : (ByteArray.mk #[32]).size = 1 := rfl
    have h3 : r.size = r.data.toList.length := by simp
    omega
  simp [ByteArray.data_extract, ByteArray.data_append, nm_data, nm_len, e]
  exact List.take_of_length_le (by simp)

theorem digs_ok (n : Nat) (h : n < 256) : fm n ≠ 1 → 1 ≤ digs n ∧ digs n ≤ 8 ∧ lay (fm n * 3 + 2) < 16 ^ digs n := by revert n; decide +kernel
theorem bare_zero (n : Nat) (h : n < 256) : fm n = 1 → lay (fm n * 3 + 2) = 0 := by revert n; decide +kernel

theorem hexOf_back (A : Int) (D : Nat) (h0 : 0 ≤ A) (h1 : A < 16 ^ D) (hD : 1 ≤ D) (hD' : D ≤ 8) : hexOf A (D : Nat) ≠ ⟨#[]⟩ ∧ numV (hexOf A (D : Nat)) = A := by
  obtain ⟨N, rfl⟩ := Int.eq_ofNat_of_zero_le h0
  have hN : N < 16 ^ D := by
    have e : ((16 ^ D : Nat) : Int) = (16 : Int) ^ D := by simp
    omega
  have e : hexOf (N : Int) (D : Nat) = hexS D N := hexOf_yes N D hD hD' (by rw [Nat.sub_zero]; exact Nat.div_eq_of_lt hN)
  rw [e]
  have hsz : (hexS D N).size = D := by
    show (hexL D N).toArray.size = _
    simp [hexL_len]
  constructor
  · intro h
    rw [h] at hsz
    have : (ByteArray.mk #[]).size = 0 := rfl
    omega
  · unfold numV numOf
    rw [if_pos (by omega)]
    have : (hexS D N).data.toList = hexL D N := by simp [hexS]
    rw [this, numGo_hexL D N hN]
    rfl

/-- Parse of what Print writes. -/
theorem parse_text (S : ByteArray) (n : Nat) (A : Int) (ho : opOf S = some n) (hm : may n A) : parseN (textOf n A) = S ∧ parseA (textOf n A) = A ∧ parseE (textOf n A) = 0 := by
  obtain ⟨hn, hS⟩ := opOf_lt ho
  have hp : printE (nm n) A = 0 ∧ printS (nm n) A = textOf n A := by
    unfold printE printS
    rw [hS, ho]
    simp [(mayB_iff n A).2 hm]
  have h0 : 0 ≤ A := by have := hm.1; omega
  have hc : cutN (textOf n A) = nm n ∧ argS (textOf n A) = A := by
    unfold textOf
    by_cases h1 : fm n = 1
    · rw [if_pos h1]
      have hA : A = 0 := by have := hm.2; have := bare_zero n hn h1; omega
      unfold argS cutN cutB
      rw [cut_bare n hn]
      simp [hA]
    · rw [if_neg h1]
      refine ⟨cutN_text n hn _, ?_⟩
      unfold argS
      rw [cutB_text n hn]
      obtain ⟨d1, d2, d3⟩ := digs_ok n hn h1
      have hA : A < 16 ^ digs n := by
        have := hm.2
        have e : ((16 ^ digs n : Nat) : Int) = (16 : Int) ^ digs n := by simp
        omega
      have hb := hexOf_back A (digs n) h0 hA d1 d2
      rw [if_neg hb.1, hb.2]
  have hok : okS (textOf n A) n = true := by
    unfold okS
    rw [hc.2, hp.1, hp.2]
    simp
  unfold parseN parseA parseE
  rw [hc.1, hS, ho]
  simp [hok, hc.2, hS]
end Go.Proofs.YtkpfhnogpcigaaaDoorR
