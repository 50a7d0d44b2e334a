/- An instruction that can be encoded is what its bytes are read as, whatever stands behind them. -/
import Derived.Test.YtkpfhnogpcigaaaDoorRJORow
import Derived.Laws.AppendOwn
namespace Go.Proofs.YtkpfhnogpcigaaaDoorR
open Go.RowKit
set_option linter.unusedVariables false
set_option maxHeartbeats 400000

def sameB (f n a : Nat) : Bool := !(fm n == f && bs n == n && decide (held n f ≤ a)) || (decide (n + (a - held n f) < 256) && fm (n + (a - held n f)) == f && nmB (n + (a - held n f)) == nmB n && held (n + (a - held n f)) f == a)
theorem reg_all : (List.range 256).all (fun n => (List.range 16).all fun a => sameB 2 n a) = true := by decide +kernel
theorem port_all : (List.range 256).all (fun n => (List.range 8).all fun a => sameB 3 n a) = true := by decide +kernel
theorem same_of (f n a : Nat) (h : sameB f n a = true) (h1 : fm n = f) (h2 : bs n = n) (h3 : held n f ≤ a) : n + (a - held n f) < 256 ∧ fm (n + (a - held n f)) = f ∧ nmB (n + (a - held n f)) = nmB n ∧ held (n + (a - held n f)) f = a := by
  unfold sameB at h
  rw [h1, h2] at h
  simp [h3] at h
  exact ⟨h.1.1.1, h.1.1.2, h.1.2, h.2⟩
theorem reg_there (n : Nat) (hn : n < 256) (a : Nat) (ha : a < 16) (h1 : fm n = 2) (h2 : bs n = n) (h3 : held n 2 ≤ a) : n + (a - held n 2) < 256 ∧ fm (n + (a - held n 2)) = 2 ∧ nmB (n + (a - held n 2)) = nmB n ∧ held (n + (a - held n 2)) 2 = a :=
  same_of 2 n a (List.all_eq_true.1 (List.all_eq_true.1 reg_all n (List.mem_range.2 hn)) a (List.mem_range.2 ha)) h1 h2 h3
theorem port_there (n : Nat) (hn : n < 256) (a : Nat) (ha : a < 8) (h1 : fm n = 3) (h2 : bs n = n) (h3 : held n 3 ≤ a) : n + (a - held n 3) < 256 ∧ fm (n + (a - held n 3)) = 3 ∧ nmB (n + (a - held n 3)) = nmB n ∧ held (n + (a - held n 3)) 3 = a :=
  same_of 3 n a (List.all_eq_true.1 (List.all_eq_true.1 port_all n (List.mem_range.2 hn)) a (List.mem_range.2 ha)) h1 h2 h3

theorem there_row (n : Nat) (hn : n < 256) (hb : bs n = n) (A : Int) (hm : may n A) :
    ∃ n' p q : Nat, n' < 256 ∧ p < 256 ∧ q < 256 ∧ rowOf n' p q = encB n A ∧ nm n' = nm n ∧ argOf n' p q = A ∧ by1 n' = by1 n := by
  have hf := fm_le n hn
  have hh := held_lt n (fm n)
  unfold may at hm
  have h0 : 0 ≤ A := by omega
  obtain ⟨a, rfl⟩ := Int.eq_ofNat_of_zero_le h0
  have l1 : lay (1 * 3 + 2) = 0 := by decide
  have l2 : lay (2 * 3 + 2) = 15 := by decide
  have l3 : lay (3 * 3 + 2) = 7 := by decide
  have l4 : lay (4 * 3 + 2) = 255 := by decide
  have l5 : lay (5 * 3 + 2) = 255 := by decide
  have l6 : lay (6 * 3 + 2) = 65535 := by decide
  have hd : fm n = 1 ∨ fm n = 2 ∨ fm n = 3 ∨ fm n = 4 ∨ fm n = 5 ∨ fm n = 6 := by omega
  have hy := by1_eq n hn
  rcases hd with e | e | e | e | e | e
  · rw [e] at hm hh hy
    simp at hy
    refine ⟨n, 0, 0, hn, by omega, by omega, ?_, rfl, ?_, rfl⟩
    · unfold rowOf encB; simp [hy, e]
    · unfold argOf; simp [hy, e]; omega
  · rw [e] at hm
    obtain ⟨t1, t2, t3, t4⟩ := reg_there n hn a (by omega) e hb (by omega)
    have hy' := by1_eq _ t1
    rw [t2] at hy'
    rw [e] at hy
    simp at hy hy'
    refine ⟨n + (a - held n 2), 0, 0, t1, by omega, by omega, ?_, by rw [nm_eq, nm_eq, t3], ?_, by rw [hy, hy']⟩
    · unfold rowOf encB; simp [hy', e]; omega
    · unfold argOf; simp [hy', t2, t4]
  · rw [e] at hm
    obtain ⟨t1, t2, t3, t4⟩ := port_there n hn a (by omega) e hb (by omega)
    have hy' := by1_eq _ t1
    rw [t2] at hy'
    rw [e] at hy
    simp at hy hy'
    refine ⟨n + (a - held n 3), 0, 0, t1, by omega, by omega, ?_, by rw [nm_eq, nm_eq, t3], ?_, by rw [hy, hy']⟩
    · unfold rowOf encB; simp [hy', e]; omega
    · unfold argOf; simp [hy', t2, t4]
  · rw [e] at hm hy
    simp at hy
    refine ⟨n, a, 0, hn, by omega, by omega, ?_, rfl, ?_, rfl⟩
    · unfold rowOf encB; simp [hy, e]
    · unfold argOf; simp [hy]
  · rw [e] at hm hy
    simp at hy
    refine ⟨n, a, 0, hn, by omega, by omega, ?_, rfl, ?_, rfl⟩
    · unfold rowOf encB; simp [hy, e]
    · unfold argOf; simp [hy]
  · rw [e] at hm hy
    simp at hy
    refine ⟨n, a / 256, a % 256, hn, by omega, by omega, ?_, rfl, ?_, rfl⟩
    · unfold rowOf encB; simp [hy, e]
    · unfold argOf; simp [hy]; omega

theorem opOf_bs {S : ByteArray} {n : Nat} (h : opOf S = some n) : bs n = n := by
  obtain ⟨hn, hS⟩ := opOf_lt h
  have := opOf_nm n hn
  rw [hS, h] at this
  exact (Option.some.inj this).symm

/-- Decode of an instruction's bytes and whatever stands behind. -/
theorem dec_there (S : ByteArray) (n : Nat) (A : Int) (ho : opOf S = some n) (hm : may n A) (w : World) (T : Tabs w) (g len cap : Nat) (hlen : by1 n ≤ len)
    (hc : ∀ j u, ((encB n A).map (Value.int .u8))[j]? = some u → w.cell? ⟨g, j, none⟩ = some u) :
    Calls Tryd.prog 73 #[.slice (some ⟨g, 0, none⟩) len cap] w fun e w' => e = .returned (.tuple #[.agg #[.string S, .int .i64 A], .int .i64 (by1 n : Nat), .int .i64 0]) ∧ Below w.heap.size w w' := by
  obtain ⟨hn, hS⟩ := opOf_lt ho
  obtain ⟨n', p, q, h1, h2, h3, h4, h5, h6, h7⟩ := there_row n hn (opOf_bs ho) A hm
  rw [← h4] at hc
  have hat : ∀ j, j < by1 n' → w.cell? ⟨g, j, none⟩ = some (.int .u8 (if j = 0 then (n' : Int) else if j = 1 then p else q)) := fun j hj => by
    refine hc j _ ?_
    rw [List.getElem?_map, rowOf_get n' p q j h1 hj]
    rfl
  have hL : 1 ≤ by1 n' := by
    have := by1_eq n' h1
    split at this
    · omega
    · split at this <;> omega
  have := dec_row w T g 0 len cap n' p q h1 h2 h3 (hat 0 (by omega)) (fun h => hat 1 (by omega)) (fun h => hat 2 (by omega)) (by omega)
  rw [h5, hS, h6, h7] at this
  exact this

theorem encB_len (n : Nat) (hn : n < 256) (A : Int) : (encB n A).length = by1 n := by
  have hy := by1_eq n hn
  have hf := fm_le n hn
  have hd : fm n = 1 ∨ fm n = 2 ∨ fm n = 3 ∨ fm n = 4 ∨ fm n = 5 ∨ fm n = 6 := by omega
  unfold encB
  rcases hd with e | e | e | e | e | e <;> rw [e] at hy ⊢ <;> simp at hy ⊢ <;> omega
end Go.Proofs.YtkpfhnogpcigaaaDoorR
