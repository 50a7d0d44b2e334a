/- The document's own: the rows of words; has, order, word. The document's own: Decode. The document's own: Decode, its walk. -/
import Derived.Test.YtigiebfdaiccdaaH0
namespace Go.Proofs.Ytigiebfdaiccdaa
open Go Go.RowKit Go.Shelf
set_option linter.unusedVariables false
set_option maxHeartbeats 1000000
set_option maxRecDepth 100000

def chK (k : Nat) : UInt8 := if k = 0 then 120 else if k = 1 then 121 else if k = 2 then 110 else if k = 3 then 98 else 97
def dwC (i : Nat) : List Value := [.int .u8 (opR i : Nat), .int .u16 (wdR i : Nat), .string ⟨((fsR i).map chK).toArray⟩, .string ⟨(nmR i).toArray⟩]
/-- The document's row, as one of ours. -/
def dR (i : Nat) : Nat := if i = 0 then 2 else if i = 1 then 0 else if i = 2 then 1 else i
theorem rtW : Rt Try.prog 88 4 := ⟨⟨_, Try.underlying88, rfl⟩, by kernel_rfl⟩
theorem riW : ∃ i z, Try.prog.info? 88 = some i ∧ i.zero = some z ∧ i.size = 4 ∧ z.cells = #[.int .u8 0, .int .u16 0, .string ⟨#[]⟩, .string ⟨#[]⟩] := by
  obtain ⟨i, h⟩ : ∃ i, Try.prog.info? 88 = some i := by
    rcases h : Try.prog.info? 88 with _ | i
    · have := rtW.i
      rw [h] at this
      cases this
    · exact ⟨i, rfl⟩
  have hz : (Try.prog.info? 88).bind (·.zero) = some (.agg #[.int .u8 0, .int .u16 0, .string ⟨#[]⟩, .string ⟨#[]⟩]) := by kernel_rfl
  have hs := rtW.i
  rw [h] at hz hs
  exact ⟨i, _, h, hz, by simpa using hs, rfl⟩
def partsW : Array (Nat × Operand) := #[(0, .tmp 1), (1, .tmp 2), (2, .tmp 3), (3, .tmp 4), (4, .tmp 5), (5, .tmp 6), (6, .tmp 7), (7, .tmp 8), (8, .tmp 9), (9, .tmp 10), (10, .tmp 11), (11, .tmp 12), (12, .tmp 13), (13, .tmp 14), (14, .tmp 15), (15, .tmp 16), (16, .tmp 17), (17, .tmp 18), (18, .tmp 19), (19, .tmp 20), (20, .tmp 21), (21, .tmp 22), (22, .tmp 23), (23, .tmp 24), (24, .tmp 25), (25, .tmp 26), (26, .tmp 27), (27, .tmp 28), (28, .tmp 29), (29, .tmp 30), (30, .tmp 31)]
theorem words_any (w : World) : Calls Try.prog 38 #[] w fun e w' => e = .returned (.slice (some ⟨w.heap.size, 0, none⟩) 31 31) ∧ Hid (Bx w' w.heap.size (rowL dwC ((List.range 31).map dR)).toArray 88 ∧ Below w.heap.size w w') := by
  obtain ⟨ii, zz, q1, q2, q3, q4⟩ := riW
  go_enter Try.func38, Try.ntmps38
  go_wp2_with ((with_reducible refine wpList_buildSlice ?_ 85 88 31 partsW ?_ (rowL dwC ((List.range 31).map dR)).toArray ii zz Try.underlying85 q1 q2 ?_ ?_ ?_ ?_); rfl; rfl; (rw [q3]; decide); (rw [q3]; decide); (rw [q3, q4]; show _ = _; kernel_rfl))
  go_ret
  exact ⟨rfl, ⟨alloc_last' w _, below1 w _⟩⟩
theorem has_any (w : World) (op fx : Nat) (L : List UInt8) (M : ByteArray) (f : Nat) (hf : (f : Int) < 256) (hL : L.length ≤ 100) :
    Calls Try.prog 72 #[.agg #[.int .u8 (op : Int), .int .u16 (fx : Int), .string ⟨L.toArray⟩, .string M], .int .u8 (f : Int)] w fun e w' => e = .returned (.bool (L.any fun b => b.toNat == f)) ∧ Below w.heap.size w w' := by
  obtain ⟨S, hS⟩ : ∃ S : ByteArray, S = ⟨L.toArray⟩ := ⟨_, rfl⟩
  rw [← hS]
  obtain ⟨n, hn⟩ : ∃ n, L.length = n := ⟨_, rfl⟩
  have hSn : S.size = n := by rw [hS, ← hn]; rfl
  have hix : Hid (∀ (k : Nat) (v : World), k < n → (Instr.index 9 (.string S) (.int .i64 (k : Int))).run Try.prog v = .ok (.int .u8 ((L.getD k 0).toNat : Int)) v) := fun k v hk => by
    have hb : (k : Int) < S.size := by rw [hSn]; omega
    rw [run_index_string v _ S _ _ Try.underlying9, dif_pos ⟨by omega, hb⟩]
    have e1 : S[((k : Int)).toNat]'(by omega) = L.getD k 0 := by
      subst hS
      simp [List.getD, hn, hk]
      rfl
    rw [e1]
  obtain ⟨R, hR⟩ : ∃ R, (L.any fun b => b.toNat == f) = R := ⟨_, rfl⟩
  rw [hR]
  have hR' : Hid ((L.any fun b => b.toNat == f) = R) := hR
  have hnn : Hid (L.length = n) := hn
  have ni : (n : Int) ≤ 100 := by omega
  have hSi : (S.size : Int) = (n : Int) := by omega
  have K0 : Hid (Fm w [(w.heap.size, #[.int .u8 (op : Int), .int .u16 (fx : Int), .string S, .string M], 88)] (w.alloc (.cells #[.int .u8 (op : Int), .int .u16 (fx : Int), .string S, .string M] 88))) := Fm.one w _ _
  clear hS hR hn hL
  go_enter Try.func72, Try.ntmps72
  go_wp2_with ((with_reducible refine gen_world (w.alloc (.cells #[.int .u8 (op : Int), .int .u16 (fx : Int), .string S, .string M] 88)) (Fm w [(w.heap.size, #[.int .u8 (op : Int), .int .u16 (fx : Int), .string S, .string M], 88)]) ?_ ?_); exact K0.out; intro y Y)
  go_loopw [5] (fun kv wz => ∃ (k : Nat) (u : World), u = wz ∧ k ≤ n ∧ kv = .int .i64 (k : Int) ∧ Hid (Fm w [(w.heap.size, #[.int .u8 (op : Int), .int .u16 (fx : Int), .string S, .string M], 88)] u ∧ ∀ j, j < k → (L.getD j 0).toNat ≠ f)) (fun kv _ => (n - intOf kv).toNat)
  case atStart => exact ⟨0, _, rfl, Nat.zero_le _, rfl, ⟨by first | exact Y.out | exact K0.out, fun j hj => by omega⟩⟩
  case round =>
    obtain ⟨k, u, rfl, hk, rfl, K⟩ := hrel
    have c2 := (K.out.1.bx 0 _ _ _ rfl).c 2 (.string S) rfl
    by_cases hlt : k < n
    · have hki : (k : Int) < (n : Int) := by omega
      have hks : (k : Int) < (S.size : Int) := by omega
      have hksn : k < S.size := by omega
      have hlt' : Hid (k < n) := hlt
      have ix := fun v => hix.out k v hlt
      obtain ⟨b, hb⟩ : ∃ b, (L.getD k 0).toNat = b := ⟨_, rfl⟩
      rw [hb] at ix
      by_cases he : b = f
      · have r1 : ((b : Int) == (f : Int)) = true := by simp; omega
        have fin : Hid (R = true) := by
          show R = true
          rw [← hR'.out, List.any_eq_true]
          exact ⟨L.getD k 0, by have := hnn.out; simp [List.getD, this, hlt], by rw [hb, he]; simp⟩
        clear hk hlt hb he
        go_wp2
        go_ret
        exact ⟨by rw [fin.out]; rfl, K.out.1.low⟩
      · have r1 : ((b : Int) == (f : Int)) = false := by simp; omega
        have K2 : Hid (Fm w [(w.heap.size, #[.int .u8 (op : Int), .int .u16 (fx : Int), .string S, .string M], 88)] u ∧ ∀ j, j < k + 1 → (L.getD j 0).toNat ≠ f) := ⟨K.out.1, fun j hj => by
          rcases Nat.lt_or_ge j k with c | c
          · exact K.out.2 j c
          · rw [show j = k by omega, hb]; exact he⟩
        clear hk hlt hb he
        go_wp2
        go_roundw
        case rel => exact ⟨k + 1, _, rfl, hlt'.out, by simp, K2⟩
        case measure => have := hlt'.out; simp [intOf]; omega
    · obtain rfl : k = n := by omega
      have fin : Hid (R = false) := by
        show R = false
        rw [← hR'.out, List.any_eq_false]
        intro x hx
        obtain ⟨j, hj, e⟩ := List.getElem_of_mem hx
        have := K.out.2 j (by rw [← hnn.out]; exact hj)
        simp only [List.getD_eq_getElem?_getD, List.getElem?_eq_getElem hj, Option.getD_some, e] at this
        simpa using this
      have hend : ¬ (k : Int) < (S.size : Int) := by omega
      have hend2 : ¬ k < S.size := by omega
      clear hk hlt
      go_wp2
      go_ret
      exact ⟨by rw [fin.out]; rfl, K.out.1.low⟩

theorem has_0_x (w : World) (op fx : Nat) (M : ByteArray) : Calls Try.prog 72 #[.agg #[.int .u8 (op : Int), .int .u16 (fx : Int), .string ⟨([] : List UInt8).toArray⟩, .string M], .int .u8 120] w fun e w' => e = .returned (.bool false) ∧ Below w.heap.size w w' := by
  have h := has_any w op fx [] M 120 (by decide) (by decide)
  exact h
theorem has_0_y (w : World) (op fx : Nat) (M : ByteArray) : Calls Try.prog 72 #[.agg #[.int .u8 (op : Int), .int .u16 (fx : Int), .string ⟨([] : List UInt8).toArray⟩, .string M], .int .u8 121] w fun e w' => e = .returned (.bool false) ∧ Below w.heap.size w w' := by
  have h := has_any w op fx [] M 121 (by decide) (by decide)
  exact h
theorem has_0_n (w : World) (op fx : Nat) (M : ByteArray) : Calls Try.prog 72 #[.agg #[.int .u8 (op : Int), .int .u16 (fx : Int), .string ⟨([] : List UInt8).toArray⟩, .string M], .int .u8 110] w fun e w' => e = .returned (.bool false) ∧ Below w.heap.size w w' := by
  have h := has_any w op fx [] M 110 (by decide) (by decide)
  exact h
theorem has_0_b (w : World) (op fx : Nat) (M : ByteArray) : Calls Try.prog 72 #[.agg #[.int .u8 (op : Int), .int .u16 (fx : Int), .string ⟨([] : List UInt8).toArray⟩, .string M], .int .u8 98] w fun e w' => e = .returned (.bool false) ∧ Below w.heap.size w w' := by
  have h := has_any w op fx [] M 98 (by decide) (by decide)
  exact h
theorem has_0_a (w : World) (op fx : Nat) (M : ByteArray) : Calls Try.prog 72 #[.agg #[.int .u8 (op : Int), .int .u16 (fx : Int), .string ⟨([] : List UInt8).toArray⟩, .string M], .int .u8 97] w fun e w' => e = .returned (.bool false) ∧ Below w.heap.size w w' := by
  have h := has_any w op fx [] M 97 (by decide) (by decide)
  exact h
theorem has_x_x (w : World) (op fx : Nat) (M : ByteArray) : Calls Try.prog 72 #[.agg #[.int .u8 (op : Int), .int .u16 (fx : Int), .string ⟨([120] : List UInt8).toArray⟩, .string M], .int .u8 120] w fun e w' => e = .returned (.bool true) ∧ Below w.heap.size w w' := by
  have h := has_any w op fx [120] M 120 (by decide) (by decide)
  exact h
theorem has_x_y (w : World) (op fx : Nat) (M : ByteArray) : Calls Try.prog 72 #[.agg #[.int .u8 (op : Int), .int .u16 (fx : Int), .string ⟨([120] : List UInt8).toArray⟩, .string M], .int .u8 121] w fun e w' => e = .returned (.bool false) ∧ Below w.heap.size w w' := by
  have h := has_any w op fx [120] M 121 (by decide) (by decide)
  exact h
theorem has_x_n (w : World) (op fx : Nat) (M : ByteArray) : Calls Try.prog 72 #[.agg #[.int .u8 (op : Int), .int .u16 (fx : Int), .string ⟨([120] : List UInt8).toArray⟩, .string M], .int .u8 110] w fun e w' => e = .returned (.bool false) ∧ Below w.heap.size w w' := by
  have h := has_any w op fx [120] M 110 (by decide) (by decide)
  exact h
theorem has_x_b (w : World) (op fx : Nat) (M : ByteArray) : Calls Try.prog 72 #[.agg #[.int .u8 (op : Int), .int .u16 (fx : Int), .string ⟨([120] : List UInt8).toArray⟩, .string M], .int .u8 98] w fun e w' => e = .returned (.bool false) ∧ Below w.heap.size w w' := by
  have h := has_any w op fx [120] M 98 (by decide) (by decide)
  exact h
theorem has_x_a (w : World) (op fx : Nat) (M : ByteArray) : Calls Try.prog 72 #[.agg #[.int .u8 (op : Int), .int .u16 (fx : Int), .string ⟨([120] : List UInt8).toArray⟩, .string M], .int .u8 97] w fun e w' => e = .returned (.bool false) ∧ Below w.heap.size w w' := by
  have h := has_any w op fx [120] M 97 (by decide) (by decide)
  exact h
theorem has_a_x (w : World) (op fx : Nat) (M : ByteArray) : Calls Try.prog 72 #[.agg #[.int .u8 (op : Int), .int .u16 (fx : Int), .string ⟨([97] : List UInt8).toArray⟩, .string M], .int .u8 120] w fun e w' => e = .returned (.bool false) ∧ Below w.heap.size w w' := by
  have h := has_any w op fx [97] M 120 (by decide) (by decide)
  exact h
theorem has_a_y (w : World) (op fx : Nat) (M : ByteArray) : Calls Try.prog 72 #[.agg #[.int .u8 (op : Int), .int .u16 (fx : Int), .string ⟨([97] : List UInt8).toArray⟩, .string M], .int .u8 121] w fun e w' => e = .returned (.bool false) ∧ Below w.heap.size w w' := by
  have h := has_any w op fx [97] M 121 (by decide) (by decide)
  exact h
theorem has_a_n (w : World) (op fx : Nat) (M : ByteArray) : Calls Try.prog 72 #[.agg #[.int .u8 (op : Int), .int .u16 (fx : Int), .string ⟨([97] : List UInt8).toArray⟩, .string M], .int .u8 110] w fun e w' => e = .returned (.bool false) ∧ Below w.heap.size w w' := by
  have h := has_any w op fx [97] M 110 (by decide) (by decide)
  exact h
theorem has_a_b (w : World) (op fx : Nat) (M : ByteArray) : Calls Try.prog 72 #[.agg #[.int .u8 (op : Int), .int .u16 (fx : Int), .string ⟨([97] : List UInt8).toArray⟩, .string M], .int .u8 98] w fun e w' => e = .returned (.bool false) ∧ Below w.heap.size w w' := by
  have h := has_any w op fx [97] M 98 (by decide) (by decide)
  exact h
theorem has_a_a (w : World) (op fx : Nat) (M : ByteArray) : Calls Try.prog 72 #[.agg #[.int .u8 (op : Int), .int .u16 (fx : Int), .string ⟨([97] : List UInt8).toArray⟩, .string M], .int .u8 97] w fun e w' => e = .returned (.bool true) ∧ Below w.heap.size w w' := by
  have h := has_any w op fx [97] M 97 (by decide) (by decide)
  exact h
theorem has_xy_x (w : World) (op fx : Nat) (M : ByteArray) : Calls Try.prog 72 #[.agg #[.int .u8 (op : Int), .int .u16 (fx : Int), .string ⟨([120, 121] : List UInt8).toArray⟩, .string M], .int .u8 120] w fun e w' => e = .returned (.bool true) ∧ Below w.heap.size w w' := by
  have h := has_any w op fx [120, 121] M 120 (by decide) (by decide)
  exact h
theorem has_xy_y (w : World) (op fx : Nat) (M : ByteArray) : Calls Try.prog 72 #[.agg #[.int .u8 (op : Int), .int .u16 (fx : Int), .string ⟨([120, 121] : List UInt8).toArray⟩, .string M], .int .u8 121] w fun e w' => e = .returned (.bool true) ∧ Below w.heap.size w w' := by
  have h := has_any w op fx [120, 121] M 121 (by decide) (by decide)
  exact h
theorem has_xy_n (w : World) (op fx : Nat) (M : ByteArray) : Calls Try.prog 72 #[.agg #[.int .u8 (op : Int), .int .u16 (fx : Int), .string ⟨([120, 121] : List UInt8).toArray⟩, .string M], .int .u8 110] w fun e w' => e = .returned (.bool false) ∧ Below w.heap.size w w' := by
  have h := has_any w op fx [120, 121] M 110 (by decide) (by decide)
  exact h
theorem has_xy_b (w : World) (op fx : Nat) (M : ByteArray) : Calls Try.prog 72 #[.agg #[.int .u8 (op : Int), .int .u16 (fx : Int), .string ⟨([120, 121] : List UInt8).toArray⟩, .string M], .int .u8 98] w fun e w' => e = .returned (.bool false) ∧ Below w.heap.size w w' := by
  have h := has_any w op fx [120, 121] M 98 (by decide) (by decide)
  exact h
theorem has_xy_a (w : World) (op fx : Nat) (M : ByteArray) : Calls Try.prog 72 #[.agg #[.int .u8 (op : Int), .int .u16 (fx : Int), .string ⟨([120, 121] : List UInt8).toArray⟩, .string M], .int .u8 97] w fun e w' => e = .returned (.bool false) ∧ Below w.heap.size w w' := by
  have h := has_any w op fx [120, 121] M 97 (by decide) (by decide)
  exact h
theorem has_xb_x (w : World) (op fx : Nat) (M : ByteArray) : Calls Try.prog 72 #[.agg #[.int .u8 (op : Int), .int .u16 (fx : Int), .string ⟨([120, 98] : List UInt8).toArray⟩, .string M], .int .u8 120] w fun e w' => e = .returned (.bool true) ∧ Below w.heap.size w w' := by
  have h := has_any w op fx [120, 98] M 120 (by decide) (by decide)
  exact h
theorem has_xb_y (w : World) (op fx : Nat) (M : ByteArray) : Calls Try.prog 72 #[.agg #[.int .u8 (op : Int), .int .u16 (fx : Int), .string ⟨([120, 98] : List UInt8).toArray⟩, .string M], .int .u8 121] w fun e w' => e = .returned (.bool false) ∧ Below w.heap.size w w' := by
  have h := has_any w op fx [120, 98] M 121 (by decide) (by decide)
  exact h
theorem has_xb_n (w : World) (op fx : Nat) (M : ByteArray) : Calls Try.prog 72 #[.agg #[.int .u8 (op : Int), .int .u16 (fx : Int), .string ⟨([120, 98] : List UInt8).toArray⟩, .string M], .int .u8 110] w fun e w' => e = .returned (.bool false) ∧ Below w.heap.size w w' := by
  have h := has_any w op fx [120, 98] M 110 (by decide) (by decide)
  exact h
theorem has_xb_b (w : World) (op fx : Nat) (M : ByteArray) : Calls Try.prog 72 #[.agg #[.int .u8 (op : Int), .int .u16 (fx : Int), .string ⟨([120, 98] : List UInt8).toArray⟩, .string M], .int .u8 98] w fun e w' => e = .returned (.bool true) ∧ Below w.heap.size w w' := by
  have h := has_any w op fx [120, 98] M 98 (by decide) (by decide)
  exact h
theorem has_xb_a (w : World) (op fx : Nat) (M : ByteArray) : Calls Try.prog 72 #[.agg #[.int .u8 (op : Int), .int .u16 (fx : Int), .string ⟨([120, 98] : List UInt8).toArray⟩, .string M], .int .u8 97] w fun e w' => e = .returned (.bool false) ∧ Below w.heap.size w w' := by
  have h := has_any w op fx [120, 98] M 97 (by decide) (by decide)
  exact h
theorem has_xyn_x (w : World) (op fx : Nat) (M : ByteArray) : Calls Try.prog 72 #[.agg #[.int .u8 (op : Int), .int .u16 (fx : Int), .string ⟨([120, 121, 110] : List UInt8).toArray⟩, .string M], .int .u8 120] w fun e w' => e = .returned (.bool true) ∧ Below w.heap.size w w' := by
  have h := has_any w op fx [120, 121, 110] M 120 (by decide) (by decide)
  exact h
theorem has_xyn_y (w : World) (op fx : Nat) (M : ByteArray) : Calls Try.prog 72 #[.agg #[.int .u8 (op : Int), .int .u16 (fx : Int), .string ⟨([120, 121, 110] : List UInt8).toArray⟩, .string M], .int .u8 121] w fun e w' => e = .returned (.bool true) ∧ Below w.heap.size w w' := by
  have h := has_any w op fx [120, 121, 110] M 121 (by decide) (by decide)
  exact h
theorem has_xyn_n (w : World) (op fx : Nat) (M : ByteArray) : Calls Try.prog 72 #[.agg #[.int .u8 (op : Int), .int .u16 (fx : Int), .string ⟨([120, 121, 110] : List UInt8).toArray⟩, .string M], .int .u8 110] w fun e w' => e = .returned (.bool true) ∧ Below w.heap.size w w' := by
  have h := has_any w op fx [120, 121, 110] M 110 (by decide) (by decide)
  exact h
theorem has_xyn_b (w : World) (op fx : Nat) (M : ByteArray) : Calls Try.prog 72 #[.agg #[.int .u8 (op : Int), .int .u16 (fx : Int), .string ⟨([120, 121, 110] : List UInt8).toArray⟩, .string M], .int .u8 98] w fun e w' => e = .returned (.bool false) ∧ Below w.heap.size w w' := by
  have h := has_any w op fx [120, 121, 110] M 98 (by decide) (by decide)
  exact h
theorem has_xyn_a (w : World) (op fx : Nat) (M : ByteArray) : Calls Try.prog 72 #[.agg #[.int .u8 (op : Int), .int .u16 (fx : Int), .string ⟨([120, 121, 110] : List UInt8).toArray⟩, .string M], .int .u8 97] w fun e w' => e = .returned (.bool false) ∧ Below w.heap.size w w' := by
  have h := has_any w op fx [120, 121, 110] M 97 (by decide) (by decide)
  exact h
theorem builtO1 (op : Nat) : Try.prog.built 45 [(0, .int .u8 (op : Int))] = some #[.int .u8 (op : Int), .int .u8 0, .int .u8 0, .int .u8 0, .int .u8 0, .int .u16 0] := by kernel_rfl
theorem ord_0 (w : World) (op fx : Nat) (M : ByteArray) (v : Nat) (hv : v < 65536) :
    Calls Try.prog 39 #[.agg #[.int .u8 (op : Int), .int .u16 (fx : Int), .string ⟨([] : List UInt8).toArray⟩, .string M], .int .u16 (v : Int)] w fun e w' => e = .returned (.agg #[.int .u8 (op : Int), .int .u8 0, .int .u8 0, .int .u8 0, .int .u8 0, .int .u16 0]) ∧ Below w.heap.size w w' := by
  obtain ⟨WCp, hW⟩ : ∃ x : Array Value, Hid (x = #[.int .u8 (op : Int), .int .u16 (fx : Int), .string ⟨([] : List UInt8).toArray⟩, .string M]) := ⟨(#[.int .u8 (op : Int), .int .u16 (fx : Int), .string ⟨([] : List UInt8).toArray⟩, .string M] : Array Value), (rfl : (#[.int .u8 (op : Int), .int .u16 (fx : Int), .string ⟨([] : List UInt8).toArray⟩, .string M] : Array Value) = #[.int .u8 (op : Int), .int .u16 (fx : Int), .string ⟨([] : List UInt8).toArray⟩, .string M])⟩
  have hh_x : Hid (∀ u, Calls Try.prog 72 #[.agg WCp, .int .u8 120] u fun e w' => e = .returned (.bool false) ∧ Below u.heap.size u w') := fun u => by rw [hW.out]; exact has_0_x u op fx M
  have hh_y : Hid (∀ u, Calls Try.prog 72 #[.agg WCp, .int .u8 121] u fun e w' => e = .returned (.bool false) ∧ Below u.heap.size u w') := fun u => by rw [hW.out]; exact has_0_y u op fx M
  have hh_n : Hid (∀ u, Calls Try.prog 72 #[.agg WCp, .int .u8 110] u fun e w' => e = .returned (.bool false) ∧ Below u.heap.size u w') := fun u => by rw [hW.out]; exact has_0_n u op fx M
  have hh_b : Hid (∀ u, Calls Try.prog 72 #[.agg WCp, .int .u8 98] u fun e w' => e = .returned (.bool false) ∧ Below u.heap.size u w') := fun u => by rw [hW.out]; exact has_0_b u op fx M
  have hh_a : Hid (∀ u, Calls Try.prog 72 #[.agg WCp, .int .u8 97] u fun e w' => e = .returned (.bool false) ∧ Below u.heap.size u w') := fun u => by rw [hW.out]; exact has_0_a u op fx M
  have i0 : (v : Int) < 65536 := by omega

  clear hv
  go_enter Try.func39, Try.ntmps39
  go_wp2_with (first
    | ((with_reducible refine at_st rtO (w.heap.size + 1) #[.int .u8 0, .int .u8 0, .int .u8 0, .int .u8 0, .int .u8 0, .int .u16 0] #[.int .u8 (op : Int), .int .u8 0, .int .u8 0, .int .u8 0, .int .u8 0, .int .u16 0] ?_ ?_ ?_ ?_ (.tmp 4) (.tmp 40) ?_ ?_ ?_ ?_ ?_); exact K7.out.bx 1 _ _ _ rfl; rfl; rfl; (simp [Value.oneCell']); rfl; rfl; rfl; rfl; intro yE HE; have KE : Hid (Fm w [(w.heap.size, WCp, 88), (w.heap.size + 1, #[.int .u8 (op : Int), .int .u8 0, .int .u8 0, .int .u8 0, .int .u8 0, .int .u16 0], 45), (y0.heap.size, #[.int .u8 (op : Int), .int .u8 0, .int .u8 0, .int .u8 0, .int .u8 0, .int .u16 0], 45)] yE) := K7.out.put 1 _ _ _ _ rfl HE.out; clear HE)
    | (go_at_call 72; (with_reducible refine (hh_a.out y6).mono ?_); rintro e y7 ⟨rfl, H⟩; have K7 : Hid (Fm w [(w.heap.size, WCp, 88), (w.heap.size + 1, #[.int .u8 0, .int .u8 0, .int .u8 0, .int .u8 0, .int .u8 0, .int .u16 0], 45), (y0.heap.size, #[.int .u8 (op : Int), .int .u8 0, .int .u8 0, .int .u8 0, .int .u8 0, .int .u16 0], 45)] y7) := K6.out.below H; clear H hh_a)
    | (go_at_call 72; (with_reducible refine (hh_b.out y5).mono ?_); rintro e y6 ⟨rfl, H⟩; have K6 : Hid (Fm w [(w.heap.size, WCp, 88), (w.heap.size + 1, #[.int .u8 0, .int .u8 0, .int .u8 0, .int .u8 0, .int .u8 0, .int .u16 0], 45), (y0.heap.size, #[.int .u8 (op : Int), .int .u8 0, .int .u8 0, .int .u8 0, .int .u8 0, .int .u16 0], 45)] y6) := K5.out.below H; clear H hh_b)
    | (go_at_call 72; (with_reducible refine (hh_n.out y4).mono ?_); rintro e y5 ⟨rfl, H⟩; have K5 : Hid (Fm w [(w.heap.size, WCp, 88), (w.heap.size + 1, #[.int .u8 0, .int .u8 0, .int .u8 0, .int .u8 0, .int .u8 0, .int .u16 0], 45), (y0.heap.size, #[.int .u8 (op : Int), .int .u8 0, .int .u8 0, .int .u8 0, .int .u8 0, .int .u16 0], 45)] y5) := K4.out.below H; clear H hh_n)
    | (go_at_call 72; (with_reducible refine (hh_y.out y3).mono ?_); rintro e y4 ⟨rfl, H⟩; have K4 : Hid (Fm w [(w.heap.size, WCp, 88), (w.heap.size + 1, #[.int .u8 0, .int .u8 0, .int .u8 0, .int .u8 0, .int .u8 0, .int .u16 0], 45), (y0.heap.size, #[.int .u8 (op : Int), .int .u8 0, .int .u8 0, .int .u8 0, .int .u8 0, .int .u16 0], 45)] y4) := K3.out.below H; clear H hh_y)
    | (go_at_call 72; (with_reducible refine (hh_x.out y2).mono ?_); rintro e y3 ⟨rfl, H⟩; have K3 : Hid (Fm w [(w.heap.size, WCp, 88), (w.heap.size + 1, #[.int .u8 0, .int .u8 0, .int .u8 0, .int .u8 0, .int .u8 0, .int .u16 0], 45), (y0.heap.size, #[.int .u8 (op : Int), .int .u8 0, .int .u8 0, .int .u8 0, .int .u8 0, .int .u16 0], 45)] y3) := K2.out.below H; clear H hh_x)
    | ((with_reducible refine at_st rtO y0.heap.size #[.int .u8 0, .int .u8 0, .int .u8 0, .int .u8 0, .int .u8 0, .int .u16 0] #[.int .u8 (op : Int), .int .u8 0, .int .u8 0, .int .u8 0, .int .u8 0, .int .u16 0] ?_ ?_ ?_ ?_ (.tmp 5) (.tmp 8) ?_ ?_ ?_ ?_ ?_); exact K1.out.bx 2 _ _ _ rfl; rfl; rfl; (simp [Value.oneCell']); rfl; rfl; rfl; rfl; intro y2 H2; have K2 : Hid (Fm w [(w.heap.size, WCp, 88), (w.heap.size + 1, #[.int .u8 0, .int .u8 0, .int .u8 0, .int .u8 0, .int .u8 0, .int .u16 0], 45), (y0.heap.size, #[.int .u8 (op : Int), .int .u8 0, .int .u8 0, .int .u8 0, .int .u8 0, .int .u16 0], 45)] y2) := K1.out.put 2 _ _ _ _ rfl H2.out; clear H2)
    | ((with_reducible refine gen_world (y0.alloc (.cells #[.int .u8 0, .int .u8 0, .int .u8 0, .int .u8 0, .int .u8 0, .int .u16 0] 45)) (Fm w [(w.heap.size, WCp, 88), (w.heap.size + 1, #[.int .u8 0, .int .u8 0, .int .u8 0, .int .u8 0, .int .u8 0, .int .u16 0], 45), (y0.heap.size, #[.int .u8 0, .int .u8 0, .int .u8 0, .int .u8 0, .int .u8 0, .int .u16 0], 45)]) ?_ ?_); exact K0.out.new _ _; intro y1 K1)
    | ((with_reducible refine at_bu #[(0, .tmp 7)] [(0, .int .u8 (op : Int))] #[.int .u8 (op : Int), .int .u8 0, .int .u8 0, .int .u8 0, .int .u8 0, .int .u16 0] ?_ ?_ ?_ (builtO1 op) ?_); kernel_rfl; rfl; kernel_rfl)
    | ((with_reducible refine gen_world ((w.alloc (.cells #[.int .u8 (op : Int), .int .u16 (fx : Int), .string ⟨([] : List UInt8).toArray⟩, .string M] 88)).alloc (.cells #[.int .u8 0, .int .u8 0, .int .u8 0, .int .u8 0, .int .u8 0, .int .u16 0] 45)) (Fm w [(w.heap.size, WCp, 88), (w.heap.size + 1, #[.int .u8 0, .int .u8 0, .int .u8 0, .int .u8 0, .int .u8 0, .int .u16 0], 45)]) ?_ ?_); (rw [hW.out]; exact Fm.two w _ _ _ _); intro y0 K0; have c0 := (K0.out.bx 0 _ _ _ rfl).c 0 (.int .u8 (op : Int)) (by rw [hW.out]; rfl))
    | ((with_reducible refine at_load rtW w.heap.size WCp ?_ ?_ (.tmp 2) ?_ ?_ ?_ ?_); (first | exact K6.out.bx 0 _ _ _ rfl | exact K5.out.bx 0 _ _ _ rfl | exact K4.out.bx 0 _ _ _ rfl | exact K3.out.bx 0 _ _ _ rfl | exact K2.out.bx 0 _ _ _ rfl); (rw [hW.out]; rfl); kernel_rfl; rfl; rfl)
    | ((with_reducible refine at_load rtO y0.heap.size #[.int .u8 (op : Int), .int .u8 0, .int .u8 0, .int .u8 0, .int .u8 0, .int .u16 0] ?_ ?_ (.tmp 5) ?_ ?_ ?_ ?_); exact K7.out.bx 2 _ _ _ rfl; rfl; kernel_rfl; rfl; rfl))
  exact ret_row rtO rfl rfl (KE.out.bx 1 _ _ _ rfl) rfl rfl ⟨rfl, KE.out.low⟩
theorem wrd_0 (w : World) (op fx : Nat) (M : ByteArray) (oo x y n b a : Nat) (hr : x < 16 ∧ y < 16 ∧ n < 16 ∧ b < 256 ∧ a < 65536 ∧ fx < 65536) :
    Calls Try.prog 40 #[.agg #[.int .u8 (op : Int), .int .u16 (fx : Int), .string ⟨([] : List UInt8).toArray⟩, .string M], .agg #[.int .u8 (oo : Int), .int .u8 (x : Int), .int .u8 (y : Int), .int .u8 (n : Int), .int .u8 (b : Int), .int .u16 (a : Int)]] w fun e w' => e = .returned (.int .u16 (fx : Int)) ∧ Below w.heap.size w w' := by
  obtain ⟨WCp, hW⟩ : ∃ x : Array Value, Hid (x = #[.int .u8 (op : Int), .int .u16 (fx : Int), .string ⟨([] : List UInt8).toArray⟩, .string M]) := ⟨(#[.int .u8 (op : Int), .int .u16 (fx : Int), .string ⟨([] : List UInt8).toArray⟩, .string M] : Array Value), (rfl : (#[.int .u8 (op : Int), .int .u16 (fx : Int), .string ⟨([] : List UInt8).toArray⟩, .string M] : Array Value) = #[.int .u8 (op : Int), .int .u16 (fx : Int), .string ⟨([] : List UInt8).toArray⟩, .string M])⟩
  obtain ⟨OC, hO⟩ : ∃ q : Array Value, Hid (q = #[.int .u8 (oo : Int), .int .u8 (x : Int), .int .u8 (y : Int), .int .u8 (n : Int), .int .u8 (b : Int), .int .u16 (a : Int)]) := ⟨(#[.int .u8 (oo : Int), .int .u8 (x : Int), .int .u8 (y : Int), .int .u8 (n : Int), .int .u8 (b : Int), .int .u16 (a : Int)] : Array Value), (rfl : (#[.int .u8 (oo : Int), .int .u8 (x : Int), .int .u8 (y : Int), .int .u8 (n : Int), .int .u8 (b : Int), .int .u16 (a : Int)] : Array Value) = #[.int .u8 (oo : Int), .int .u8 (x : Int), .int .u8 (y : Int), .int .u8 (n : Int), .int .u8 (b : Int), .int .u16 (a : Int)])⟩
  have hh_x : Hid (∀ u, Calls Try.prog 72 #[.agg WCp, .int .u8 120] u fun e w' => e = .returned (.bool false) ∧ Below u.heap.size u w') := fun u => by rw [hW.out]; exact has_0_x u op fx M
  have hh_y : Hid (∀ u, Calls Try.prog 72 #[.agg WCp, .int .u8 121] u fun e w' => e = .returned (.bool false) ∧ Below u.heap.size u w') := fun u => by rw [hW.out]; exact has_0_y u op fx M
  have hh_n : Hid (∀ u, Calls Try.prog 72 #[.agg WCp, .int .u8 110] u fun e w' => e = .returned (.bool false) ∧ Below u.heap.size u w') := fun u => by rw [hW.out]; exact has_0_n u op fx M
  have hh_b : Hid (∀ u, Calls Try.prog 72 #[.agg WCp, .int .u8 98] u fun e w' => e = .returned (.bool false) ∧ Below u.heap.size u w') := fun u => by rw [hW.out]; exact has_0_b u op fx M
  have hh_a : Hid (∀ u, Calls Try.prog 72 #[.agg WCp, .int .u8 97] u fun e w' => e = .returned (.bool false) ∧ Below u.heap.size u w') := fun u => by rw [hW.out]; exact has_0_a u op fx M
  have i0 : (fx : Int) < 65536 := by omega

  clear hr
  go_enter Try.func40, Try.ntmps40
  go_wp2_with (first
    | (go_at_call 72; (with_reducible refine (hh_a.out y4).mono ?_); rintro e y5 ⟨rfl, H⟩; have K5 : Hid (Fm w [(w.heap.size, WCp, 88), (w.heap.size + 1, OC, 45)] y5) := K4.out.below H; clear H hh_a)
    | (go_at_call 72; (with_reducible refine (hh_b.out y3).mono ?_); rintro e y4 ⟨rfl, H⟩; have K4 : Hid (Fm w [(w.heap.size, WCp, 88), (w.heap.size + 1, OC, 45)] y4) := K3.out.below H; clear H hh_b)
    | (go_at_call 72; (with_reducible refine (hh_n.out y2).mono ?_); rintro e y3 ⟨rfl, H⟩; have K3 : Hid (Fm w [(w.heap.size, WCp, 88), (w.heap.size + 1, OC, 45)] y3) := K2.out.below H; clear H hh_n)
    | (go_at_call 72; (with_reducible refine (hh_y.out y1).mono ?_); rintro e y2 ⟨rfl, H⟩; have K2 : Hid (Fm w [(w.heap.size, WCp, 88), (w.heap.size + 1, OC, 45)] y2) := K1.out.below H; clear H hh_y)
    | (go_at_call 72; (with_reducible refine (hh_x.out y0).mono ?_); rintro e y1 ⟨rfl, H⟩; have K1 : Hid (Fm w [(w.heap.size, WCp, 88), (w.heap.size + 1, OC, 45)] y1) := K0.out.below H; clear H hh_x)
    | ((with_reducible refine gen_world ((w.alloc (.cells #[.int .u8 (op : Int), .int .u16 (fx : Int), .string ⟨([] : List UInt8).toArray⟩, .string M] 88)).alloc (.cells #[.int .u8 (oo : Int), .int .u8 (x : Int), .int .u8 (y : Int), .int .u8 (n : Int), .int .u8 (b : Int), .int .u16 (a : Int)] 45)) (Fm w [(w.heap.size, WCp, 88), (w.heap.size + 1, OC, 45)]) ?_ ?_); (rw [hW.out, hO.out]; exact Fm.two w _ _ _ _); intro y0 K0; have c1 := (K0.out.bx 0 _ _ _ rfl).c 1 (.int .u16 (fx : Int)) (by rw [hW.out]; rfl))
    | ((with_reducible refine at_load rtW w.heap.size WCp ?_ ?_ (.tmp 2) ?_ ?_ ?_ ?_); (first | exact K4.out.bx 0 _ _ _ rfl | exact K3.out.bx 0 _ _ _ rfl | exact K2.out.bx 0 _ _ _ rfl | exact K1.out.bx 0 _ _ _ rfl | exact K0.out.bx 0 _ _ _ rfl); (rw [hW.out]; rfl); kernel_rfl; rfl; rfl))
  go_ret
  exact ⟨rfl, K5.out.low⟩
theorem ord_x (w : World) (op fx : Nat) (M : ByteArray) (v : Nat) (hv : v < 65536) (v1 x : Nat) (hv1 : v / 256 = v1) (hx : v1 % 16 = x) :
    Calls Try.prog 39 #[.agg #[.int .u8 (op : Int), .int .u16 (fx : Int), .string ⟨([120] : List UInt8).toArray⟩, .string M], .int .u16 (v : Int)] w fun e w' => e = .returned (.agg #[.int .u8 (op : Int), .int .u8 (x : Int), .int .u8 0, .int .u8 0, .int .u8 0, .int .u16 0]) ∧ Below w.heap.size w w' := by
  obtain ⟨WCp, hW⟩ : ∃ x : Array Value, Hid (x = #[.int .u8 (op : Int), .int .u16 (fx : Int), .string ⟨([120] : List UInt8).toArray⟩, .string M]) := ⟨(#[.int .u8 (op : Int), .int .u16 (fx : Int), .string ⟨([120] : List UInt8).toArray⟩, .string M] : Array Value), (rfl : (#[.int .u8 (op : Int), .int .u16 (fx : Int), .string ⟨([120] : List UInt8).toArray⟩, .string M] : Array Value) = #[.int .u8 (op : Int), .int .u16 (fx : Int), .string ⟨([120] : List UInt8).toArray⟩, .string M])⟩
  have hh_x : Hid (∀ u, Calls Try.prog 72 #[.agg WCp, .int .u8 120] u fun e w' => e = .returned (.bool true) ∧ Below u.heap.size u w') := fun u => by rw [hW.out]; exact has_x_x u op fx M
  have hh_y : Hid (∀ u, Calls Try.prog 72 #[.agg WCp, .int .u8 121] u fun e w' => e = .returned (.bool false) ∧ Below u.heap.size u w') := fun u => by rw [hW.out]; exact has_x_y u op fx M
  have hh_n : Hid (∀ u, Calls Try.prog 72 #[.agg WCp, .int .u8 110] u fun e w' => e = .returned (.bool false) ∧ Below u.heap.size u w') := fun u => by rw [hW.out]; exact has_x_n u op fx M
  have hh_b : Hid (∀ u, Calls Try.prog 72 #[.agg WCp, .int .u8 98] u fun e w' => e = .returned (.bool false) ∧ Below u.heap.size u w') := fun u => by rw [hW.out]; exact has_x_b u op fx M
  have hh_a : Hid (∀ u, Calls Try.prog 72 #[.agg WCp, .int .u8 97] u fun e w' => e = .returned (.bool false) ∧ Below u.heap.size u w') := fun u => by rw [hW.out]; exact has_x_a u op fx M
  have i0 : (v : Int) < 65536 := by omega
  have a1 : (v : Int) / 256 = (v1 : Int) := by omega
  have a1' : Int.tdiv (v : Int) 256 = (v1 : Int) := by rw [Int.tdiv_eq_ediv_of_nonneg (by omega)]; exact a1
  have a2 : (v1 : Int) % 16 = (x : Int) := by omega
  have a2' : Int.tmod (v1 : Int) 16 = (x : Int) := by rw [Int.tmod_eq_emod_of_nonneg (by omega)]; exact a2
  have a3 : (x : Int) < 16 := by omega
  have a4 : (v1 : Int) < 256 := by omega
  clear hv hv1 hx
  go_enter Try.func39, Try.ntmps39
  go_wp2_with (first
    | ((with_reducible refine at_st rtO (w.heap.size + 1) #[.int .u8 0, .int .u8 0, .int .u8 0, .int .u8 0, .int .u8 0, .int .u16 0] #[.int .u8 (op : Int), .int .u8 (x : Int), .int .u8 0, .int .u8 0, .int .u8 0, .int .u16 0] ?_ ?_ ?_ ?_ (.tmp 4) (.tmp 40) ?_ ?_ ?_ ?_ ?_); exact K8.out.bx 1 _ _ _ rfl; rfl; rfl; (simp [Value.oneCell']); rfl; rfl; rfl; rfl; intro yE HE; have KE : Hid (Fm w [(w.heap.size, WCp, 88), (w.heap.size + 1, #[.int .u8 (op : Int), .int .u8 (x : Int), .int .u8 0, .int .u8 0, .int .u8 0, .int .u16 0], 45), (y0.heap.size, #[.int .u8 (op : Int), .int .u8 (x : Int), .int .u8 0, .int .u8 0, .int .u8 0, .int .u16 0], 45)] yE) := K8.out.put 1 _ _ _ _ rfl HE.out; clear HE)
    | (go_at_call 72; (with_reducible refine (hh_a.out y7).mono ?_); rintro e y8 ⟨rfl, H⟩; have K8 : Hid (Fm w [(w.heap.size, WCp, 88), (w.heap.size + 1, #[.int .u8 0, .int .u8 0, .int .u8 0, .int .u8 0, .int .u8 0, .int .u16 0], 45), (y0.heap.size, #[.int .u8 (op : Int), .int .u8 (x : Int), .int .u8 0, .int .u8 0, .int .u8 0, .int .u16 0], 45)] y8) := K7.out.below H; clear H hh_a)
    | (go_at_call 72; (with_reducible refine (hh_b.out y6).mono ?_); rintro e y7 ⟨rfl, H⟩; have K7 : Hid (Fm w [(w.heap.size, WCp, 88), (w.heap.size + 1, #[.int .u8 0, .int .u8 0, .int .u8 0, .int .u8 0, .int .u8 0, .int .u16 0], 45), (y0.heap.size, #[.int .u8 (op : Int), .int .u8 (x : Int), .int .u8 0, .int .u8 0, .int .u8 0, .int .u16 0], 45)] y7) := K6.out.below H; clear H hh_b)
    | (go_at_call 72; (with_reducible refine (hh_n.out y5).mono ?_); rintro e y6 ⟨rfl, H⟩; have K6 : Hid (Fm w [(w.heap.size, WCp, 88), (w.heap.size + 1, #[.int .u8 0, .int .u8 0, .int .u8 0, .int .u8 0, .int .u8 0, .int .u16 0], 45), (y0.heap.size, #[.int .u8 (op : Int), .int .u8 (x : Int), .int .u8 0, .int .u8 0, .int .u8 0, .int .u16 0], 45)] y6) := K5.out.below H; clear H hh_n)
    | (go_at_call 72; (with_reducible refine (hh_y.out y4).mono ?_); rintro e y5 ⟨rfl, H⟩; have K5 : Hid (Fm w [(w.heap.size, WCp, 88), (w.heap.size + 1, #[.int .u8 0, .int .u8 0, .int .u8 0, .int .u8 0, .int .u8 0, .int .u16 0], 45), (y0.heap.size, #[.int .u8 (op : Int), .int .u8 (x : Int), .int .u8 0, .int .u8 0, .int .u8 0, .int .u16 0], 45)] y5) := K4.out.below H; clear H hh_y)
    | ((with_reducible refine gen_world (y3.setCell ⟨y0.heap.size, 1, none⟩ (.int .u8 (x : Int))) (Fm w [(w.heap.size, WCp, 88), (w.heap.size + 1, #[.int .u8 0, .int .u8 0, .int .u8 0, .int .u8 0, .int .u8 0, .int .u16 0], 45), (y0.heap.size, #[.int .u8 (op : Int), .int .u8 (x : Int), .int .u8 0, .int .u8 0, .int .u8 0, .int .u16 0], 45)]) ?_ ?_); exact K3.out.setCell 2 _ _ _ _ rfl 1 _ rfl; intro y4 K4; clear cS zS)
    | (go_at_call 72; (with_reducible refine (hh_x.out y2).mono ?_); rintro e y3 ⟨rfl, H⟩; have K3 : Hid (Fm w [(w.heap.size, WCp, 88), (w.heap.size + 1, #[.int .u8 0, .int .u8 0, .int .u8 0, .int .u8 0, .int .u8 0, .int .u16 0], 45), (y0.heap.size, #[.int .u8 (op : Int), .int .u8 0, .int .u8 0, .int .u8 0, .int .u8 0, .int .u16 0], 45)] y3) := K2.out.below H; clear H hh_x; have cS := (K3.out.bx 2 _ _ _ rfl).c 1 (.int .u8 0) rfl; have zS := (K3.out.bx 2 _ _ _ rfl).fz 1)
    | ((with_reducible refine at_st rtO y0.heap.size #[.int .u8 0, .int .u8 0, .int .u8 0, .int .u8 0, .int .u8 0, .int .u16 0] #[.int .u8 (op : Int), .int .u8 0, .int .u8 0, .int .u8 0, .int .u8 0, .int .u16 0] ?_ ?_ ?_ ?_ (.tmp 5) (.tmp 8) ?_ ?_ ?_ ?_ ?_); exact K1.out.bx 2 _ _ _ rfl; rfl; rfl; (simp [Value.oneCell']); rfl; rfl; rfl; rfl; intro y2 H2; have K2 : Hid (Fm w [(w.heap.size, WCp, 88), (w.heap.size + 1, #[.int .u8 0, .int .u8 0, .int .u8 0, .int .u8 0, .int .u8 0, .int .u16 0], 45), (y0.heap.size, #[.int .u8 (op : Int), .int .u8 0, .int .u8 0, .int .u8 0, .int .u8 0, .int .u16 0], 45)] y2) := K1.out.put 2 _ _ _ _ rfl H2.out; clear H2)
    | ((with_reducible refine gen_world (y0.alloc (.cells #[.int .u8 0, .int .u8 0, .int .u8 0, .int .u8 0, .int .u8 0, .int .u16 0] 45)) (Fm w [(w.heap.size, WCp, 88), (w.heap.size + 1, #[.int .u8 0, .int .u8 0, .int .u8 0, .int .u8 0, .int .u8 0, .int .u16 0], 45), (y0.heap.size, #[.int .u8 0, .int .u8 0, .int .u8 0, .int .u8 0, .int .u8 0, .int .u16 0], 45)]) ?_ ?_); exact K0.out.new _ _; intro y1 K1)
    | ((with_reducible refine at_bu #[(0, .tmp 7)] [(0, .int .u8 (op : Int))] #[.int .u8 (op : Int), .int .u8 0, .int .u8 0, .int .u8 0, .int .u8 0, .int .u16 0] ?_ ?_ ?_ (builtO1 op) ?_); kernel_rfl; rfl; kernel_rfl)
    | ((with_reducible refine gen_world ((w.alloc (.cells #[.int .u8 (op : Int), .int .u16 (fx : Int), .string ⟨([120] : List UInt8).toArray⟩, .string M] 88)).alloc (.cells #[.int .u8 0, .int .u8 0, .int .u8 0, .int .u8 0, .int .u8 0, .int .u16 0] 45)) (Fm w [(w.heap.size, WCp, 88), (w.heap.size + 1, #[.int .u8 0, .int .u8 0, .int .u8 0, .int .u8 0, .int .u8 0, .int .u16 0], 45)]) ?_ ?_); (rw [hW.out]; exact Fm.two w _ _ _ _); intro y0 K0; have c0 := (K0.out.bx 0 _ _ _ rfl).c 0 (.int .u8 (op : Int)) (by rw [hW.out]; rfl))
    | ((with_reducible refine at_load rtW w.heap.size WCp ?_ ?_ (.tmp 2) ?_ ?_ ?_ ?_); (first | exact K7.out.bx 0 _ _ _ rfl | exact K6.out.bx 0 _ _ _ rfl | exact K5.out.bx 0 _ _ _ rfl | exact K4.out.bx 0 _ _ _ rfl | exact K2.out.bx 0 _ _ _ rfl); (rw [hW.out]; rfl); kernel_rfl; rfl; rfl)
    | ((with_reducible refine at_load rtO y0.heap.size #[.int .u8 (op : Int), .int .u8 (x : Int), .int .u8 0, .int .u8 0, .int .u8 0, .int .u16 0] ?_ ?_ (.tmp 5) ?_ ?_ ?_ ?_); exact K8.out.bx 2 _ _ _ rfl; rfl; kernel_rfl; rfl; rfl))
  exact ret_row rtO rfl rfl (KE.out.bx 1 _ _ _ rfl) rfl rfl ⟨rfl, KE.out.low⟩
theorem wrd_x (w : World) (op fx : Nat) (M : ByteArray) (oo x y n b a : Nat) (hr : x < 16 ∧ y < 16 ∧ n < 16 ∧ b < 256 ∧ a < 65536 ∧ fx < 65536) (mx : Nat) (hmx : x * 256 = mx) (sx : Nat) (hsx : fx + mx = sx) (gsx : sx < 65536) :
    Calls Try.prog 40 #[.agg #[.int .u8 (op : Int), .int .u16 (fx : Int), .string ⟨([120] : List UInt8).toArray⟩, .string M], .agg #[.int .u8 (oo : Int), .int .u8 (x : Int), .int .u8 (y : Int), .int .u8 (n : Int), .int .u8 (b : Int), .int .u16 (a : Int)]] w fun e w' => e = .returned (.int .u16 (sx : Int)) ∧ Below w.heap.size w w' := by
  obtain ⟨WCp, hW⟩ : ∃ x : Array Value, Hid (x = #[.int .u8 (op : Int), .int .u16 (fx : Int), .string ⟨([120] : List UInt8).toArray⟩, .string M]) := ⟨(#[.int .u8 (op : Int), .int .u16 (fx : Int), .string ⟨([120] : List UInt8).toArray⟩, .string M] : Array Value), (rfl : (#[.int .u8 (op : Int), .int .u16 (fx : Int), .string ⟨([120] : List UInt8).toArray⟩, .string M] : Array Value) = #[.int .u8 (op : Int), .int .u16 (fx : Int), .string ⟨([120] : List UInt8).toArray⟩, .string M])⟩
  obtain ⟨OC, hO⟩ : ∃ q : Array Value, Hid (q = #[.int .u8 (oo : Int), .int .u8 (x : Int), .int .u8 (y : Int), .int .u8 (n : Int), .int .u8 (b : Int), .int .u16 (a : Int)]) := ⟨(#[.int .u8 (oo : Int), .int .u8 (x : Int), .int .u8 (y : Int), .int .u8 (n : Int), .int .u8 (b : Int), .int .u16 (a : Int)] : Array Value), (rfl : (#[.int .u8 (oo : Int), .int .u8 (x : Int), .int .u8 (y : Int), .int .u8 (n : Int), .int .u8 (b : Int), .int .u16 (a : Int)] : Array Value) = #[.int .u8 (oo : Int), .int .u8 (x : Int), .int .u8 (y : Int), .int .u8 (n : Int), .int .u8 (b : Int), .int .u16 (a : Int)])⟩
  have hh_x : Hid (∀ u, Calls Try.prog 72 #[.agg WCp, .int .u8 120] u fun e w' => e = .returned (.bool true) ∧ Below u.heap.size u w') := fun u => by rw [hW.out]; exact has_x_x u op fx M
  have hh_y : Hid (∀ u, Calls Try.prog 72 #[.agg WCp, .int .u8 121] u fun e w' => e = .returned (.bool false) ∧ Below u.heap.size u w') := fun u => by rw [hW.out]; exact has_x_y u op fx M
  have hh_n : Hid (∀ u, Calls Try.prog 72 #[.agg WCp, .int .u8 110] u fun e w' => e = .returned (.bool false) ∧ Below u.heap.size u w') := fun u => by rw [hW.out]; exact has_x_n u op fx M
  have hh_b : Hid (∀ u, Calls Try.prog 72 #[.agg WCp, .int .u8 98] u fun e w' => e = .returned (.bool false) ∧ Below u.heap.size u w') := fun u => by rw [hW.out]; exact has_x_b u op fx M
  have hh_a : Hid (∀ u, Calls Try.prog 72 #[.agg WCp, .int .u8 97] u fun e w' => e = .returned (.bool false) ∧ Below u.heap.size u w') := fun u => by rw [hW.out]; exact has_x_a u op fx M
  have i0 : (fx : Int) < 65536 := by omega
  have a1 : (x : Int) * 256 = (mx : Int) := by omega
  have a2 : (mx : Int) < 65536 := by omega
  have a3 : (x : Int) < 256 := by omega
  have esx : (fx : Int) + (mx : Int) = (sx : Int) := by omega
  have fsx : (sx : Int) < 65536 := by omega
  clear hr hmx hsx gsx
  go_enter Try.func40, Try.ntmps40
  go_wp2_with (first
    | (go_at_call 72; (with_reducible refine (hh_a.out y4).mono ?_); rintro e y5 ⟨rfl, H⟩; have K5 : Hid (Fm w [(w.heap.size, WCp, 88), (w.heap.size + 1, OC, 45)] y5) := K4.out.below H; clear H hh_a)
    | (go_at_call 72; (with_reducible refine (hh_b.out y3).mono ?_); rintro e y4 ⟨rfl, H⟩; have K4 : Hid (Fm w [(w.heap.size, WCp, 88), (w.heap.size + 1, OC, 45)] y4) := K3.out.below H; clear H hh_b)
    | (go_at_call 72; (with_reducible refine (hh_n.out y2).mono ?_); rintro e y3 ⟨rfl, H⟩; have K3 : Hid (Fm w [(w.heap.size, WCp, 88), (w.heap.size + 1, OC, 45)] y3) := K2.out.below H; clear H hh_n)
    | (go_at_call 72; (with_reducible refine (hh_y.out y1).mono ?_); rintro e y2 ⟨rfl, H⟩; have K2 : Hid (Fm w [(w.heap.size, WCp, 88), (w.heap.size + 1, OC, 45)] y2) := K1.out.below H; clear H hh_y)
    | (go_at_call 72; (with_reducible refine (hh_x.out y0).mono ?_); rintro e y1 ⟨rfl, H⟩; have K1 : Hid (Fm w [(w.heap.size, WCp, 88), (w.heap.size + 1, OC, 45)] y1) := K0.out.below H; clear H hh_x; have cFx := (K1.out.bx 1 _ _ _ rfl).c 1 (.int .u8 (x : Int)) (by rw [hO.out]; rfl))
    | ((with_reducible refine gen_world ((w.alloc (.cells #[.int .u8 (op : Int), .int .u16 (fx : Int), .string ⟨([120] : List UInt8).toArray⟩, .string M] 88)).alloc (.cells #[.int .u8 (oo : Int), .int .u8 (x : Int), .int .u8 (y : Int), .int .u8 (n : Int), .int .u8 (b : Int), .int .u16 (a : Int)] 45)) (Fm w [(w.heap.size, WCp, 88), (w.heap.size + 1, OC, 45)]) ?_ ?_); (rw [hW.out, hO.out]; exact Fm.two w _ _ _ _); intro y0 K0; have c1 := (K0.out.bx 0 _ _ _ rfl).c 1 (.int .u16 (fx : Int)) (by rw [hW.out]; rfl))
    | ((with_reducible refine at_load rtW w.heap.size WCp ?_ ?_ (.tmp 2) ?_ ?_ ?_ ?_); (first | exact K4.out.bx 0 _ _ _ rfl | exact K3.out.bx 0 _ _ _ rfl | exact K2.out.bx 0 _ _ _ rfl | exact K1.out.bx 0 _ _ _ rfl | exact K0.out.bx 0 _ _ _ rfl); (rw [hW.out]; rfl); kernel_rfl; rfl; rfl))
  go_ret
  exact ⟨rfl, K5.out.low⟩
theorem ord_a (w : World) (op fx : Nat) (M : ByteArray) (v : Nat) (hv : v < 65536) (a : Nat) (ha : v % 4096 = a) :
    Calls Try.prog 39 #[.agg #[.int .u8 (op : Int), .int .u16 (fx : Int), .string ⟨([97] : List UInt8).toArray⟩, .string M], .int .u16 (v : Int)] w fun e w' => e = .returned (.agg #[.int .u8 (op : Int), .int .u8 0, .int .u8 0, .int .u8 0, .int .u8 0, .int .u16 (a : Int)]) ∧ Below w.heap.size w w' := by
  obtain ⟨WCp, hW⟩ : ∃ x : Array Value, Hid (x = #[.int .u8 (op : Int), .int .u16 (fx : Int), .string ⟨([97] : List UInt8).toArray⟩, .string M]) := ⟨(#[.int .u8 (op : Int), .int .u16 (fx : Int), .string ⟨([97] : List UInt8).toArray⟩, .string M] : Array Value), (rfl : (#[.int .u8 (op : Int), .int .u16 (fx : Int), .string ⟨([97] : List UInt8).toArray⟩, .string M] : Array Value) = #[.int .u8 (op : Int), .int .u16 (fx : Int), .string ⟨([97] : List UInt8).toArray⟩, .string M])⟩
  have hh_x : Hid (∀ u, Calls Try.prog 72 #[.agg WCp, .int .u8 120] u fun e w' => e = .returned (.bool false) ∧ Below u.heap.size u w') := fun u => by rw [hW.out]; exact has_a_x u op fx M
  have hh_y : Hid (∀ u, Calls Try.prog 72 #[.agg WCp, .int .u8 121] u fun e w' => e = .returned (.bool false) ∧ Below u.heap.size u w') := fun u => by rw [hW.out]; exact has_a_y u op fx M
  have hh_n : Hid (∀ u, Calls Try.prog 72 #[.agg WCp, .int .u8 110] u fun e w' => e = .returned (.bool false) ∧ Below u.heap.size u w') := fun u => by rw [hW.out]; exact has_a_n u op fx M
  have hh_b : Hid (∀ u, Calls Try.prog 72 #[.agg WCp, .int .u8 98] u fun e w' => e = .returned (.bool false) ∧ Below u.heap.size u w') := fun u => by rw [hW.out]; exact has_a_b u op fx M
  have hh_a : Hid (∀ u, Calls Try.prog 72 #[.agg WCp, .int .u8 97] u fun e w' => e = .returned (.bool true) ∧ Below u.heap.size u w') := fun u => by rw [hW.out]; exact has_a_a u op fx M
  have i0 : (v : Int) < 65536 := by omega
  have e2 : (v : Int) % 4096 = (a : Int) := by omega
  have e2' : Int.tmod (v : Int) 4096 = (a : Int) := by rw [Int.tmod_eq_emod_of_nonneg (by omega)]; exact e2
  have e3 : (a : Int) < 4096 := by omega
  clear hv ha
  go_enter Try.func39, Try.ntmps39
  go_wp2_with (first
    | ((with_reducible refine at_st rtO (w.heap.size + 1) #[.int .u8 0, .int .u8 0, .int .u8 0, .int .u8 0, .int .u8 0, .int .u16 0] #[.int .u8 (op : Int), .int .u8 0, .int .u8 0, .int .u8 0, .int .u8 0, .int .u16 (a : Int)] ?_ ?_ ?_ ?_ (.tmp 4) (.tmp 40) ?_ ?_ ?_ ?_ ?_); exact K8.out.bx 1 _ _ _ rfl; rfl; rfl; (simp [Value.oneCell']); rfl; rfl; rfl; rfl; intro yE HE; have KE : Hid (Fm w [(w.heap.size, WCp, 88), (w.heap.size + 1, #[.int .u8 (op : Int), .int .u8 0, .int .u8 0, .int .u8 0, .int .u8 0, .int .u16 (a : Int)], 45), (y0.heap.size, #[.int .u8 (op : Int), .int .u8 0, .int .u8 0, .int .u8 0, .int .u8 0, .int .u16 (a : Int)], 45)] yE) := K8.out.put 1 _ _ _ _ rfl HE.out; clear HE)
    | ((with_reducible refine gen_world (y7.setCell ⟨y0.heap.size, 5, none⟩ (.int .u16 (a : Int))) (Fm w [(w.heap.size, WCp, 88), (w.heap.size + 1, #[.int .u8 0, .int .u8 0, .int .u8 0, .int .u8 0, .int .u8 0, .int .u16 0], 45), (y0.heap.size, #[.int .u8 (op : Int), .int .u8 0, .int .u8 0, .int .u8 0, .int .u8 0, .int .u16 (a : Int)], 45)]) ?_ ?_); exact K7.out.setCell 2 _ _ _ _ rfl 5 _ rfl; intro y8 K8; clear cS zS)
    | (go_at_call 72; (with_reducible refine (hh_a.out y6).mono ?_); rintro e y7 ⟨rfl, H⟩; have K7 : Hid (Fm w [(w.heap.size, WCp, 88), (w.heap.size + 1, #[.int .u8 0, .int .u8 0, .int .u8 0, .int .u8 0, .int .u8 0, .int .u16 0], 45), (y0.heap.size, #[.int .u8 (op : Int), .int .u8 0, .int .u8 0, .int .u8 0, .int .u8 0, .int .u16 0], 45)] y7) := K6.out.below H; clear H hh_a; have cS := (K7.out.bx 2 _ _ _ rfl).c 5 (.int .u16 0) rfl; have zS := (K7.out.bx 2 _ _ _ rfl).fz 5)
    | (go_at_call 72; (with_reducible refine (hh_b.out y5).mono ?_); rintro e y6 ⟨rfl, H⟩; have K6 : Hid (Fm w [(w.heap.size, WCp, 88), (w.heap.size + 1, #[.int .u8 0, .int .u8 0, .int .u8 0, .int .u8 0, .int .u8 0, .int .u16 0], 45), (y0.heap.size, #[.int .u8 (op : Int), .int .u8 0, .int .u8 0, .int .u8 0, .int .u8 0, .int .u16 0], 45)] y6) := K5.out.below H; clear H hh_b)
    | (go_at_call 72; (with_reducible refine (hh_n.out y4).mono ?_); rintro e y5 ⟨rfl, H⟩; have K5 : Hid (Fm w [(w.heap.size, WCp, 88), (w.heap.size + 1, #[.int .u8 0, .int .u8 0, .int .u8 0, .int .u8 0, .int .u8 0, .int .u16 0], 45), (y0.heap.size, #[.int .u8 (op : Int), .int .u8 0, .int .u8 0, .int .u8 0, .int .u8 0, .int .u16 0], 45)] y5) := K4.out.below H; clear H hh_n)
    | (go_at_call 72; (with_reducible refine (hh_y.out y3).mono ?_); rintro e y4 ⟨rfl, H⟩; have K4 : Hid (Fm w [(w.heap.size, WCp, 88), (w.heap.size + 1, #[.int .u8 0, .int .u8 0, .int .u8 0, .int .u8 0, .int .u8 0, .int .u16 0], 45), (y0.heap.size, #[.int .u8 (op : Int), .int .u8 0, .int .u8 0, .int .u8 0, .int .u8 0, .int .u16 0], 45)] y4) := K3.out.below H; clear H hh_y)
    | (go_at_call 72; (with_reducible refine (hh_x.out y2).mono ?_); rintro e y3 ⟨rfl, H⟩; have K3 : Hid (Fm w [(w.heap.size, WCp, 88), (w.heap.size + 1, #[.int .u8 0, .int .u8 0, .int .u8 0, .int .u8 0, .int .u8 0, .int .u16 0], 45), (y0.heap.size, #[.int .u8 (op : Int), .int .u8 0, .int .u8 0, .int .u8 0, .int .u8 0, .int .u16 0], 45)] y3) := K2.out.below H; clear H hh_x)
    | ((with_reducible refine at_st rtO y0.heap.size #[.int .u8 0, .int .u8 0, .int .u8 0, .int .u8 0, .int .u8 0, .int .u16 0] #[.int .u8 (op : Int), .int .u8 0, .int .u8 0, .int .u8 0, .int .u8 0, .int .u16 0] ?_ ?_ ?_ ?_ (.tmp 5) (.tmp 8) ?_ ?_ ?_ ?_ ?_); exact K1.out.bx 2 _ _ _ rfl; rfl; rfl; (simp [Value.oneCell']); rfl; rfl; rfl; rfl; intro y2 H2; have K2 : Hid (Fm w [(w.heap.size, WCp, 88), (w.heap.size + 1, #[.int .u8 0, .int .u8 0, .int .u8 0, .int .u8 0, .int .u8 0, .int .u16 0], 45), (y0.heap.size, #[.int .u8 (op : Int), .int .u8 0, .int .u8 0, .int .u8 0, .int .u8 0, .int .u16 0], 45)] y2) := K1.out.put 2 _ _ _ _ rfl H2.out; clear H2)
    | ((with_reducible refine gen_world (y0.alloc (.cells #[.int .u8 0, .int .u8 0, .int .u8 0, .int .u8 0, .int .u8 0, .int .u16 0] 45)) (Fm w [(w.heap.size, WCp, 88), (w.heap.size + 1, #[.int .u8 0, .int .u8 0, .int .u8 0, .int .u8 0, .int .u8 0, .int .u16 0], 45), (y0.heap.size, #[.int .u8 0, .int .u8 0, .int .u8 0, .int .u8 0, .int .u8 0, .int .u16 0], 45)]) ?_ ?_); exact K0.out.new _ _; intro y1 K1)
    | ((with_reducible refine at_bu #[(0, .tmp 7)] [(0, .int .u8 (op : Int))] #[.int .u8 (op : Int), .int .u8 0, .int .u8 0, .int .u8 0, .int .u8 0, .int .u16 0] ?_ ?_ ?_ (builtO1 op) ?_); kernel_rfl; rfl; kernel_rfl)
    | ((with_reducible refine gen_world ((w.alloc (.cells #[.int .u8 (op : Int), .int .u16 (fx : Int), .string ⟨([97] : List UInt8).toArray⟩, .string M] 88)).alloc (.cells #[.int .u8 0, .int .u8 0, .int .u8 0, .int .u8 0, .int .u8 0, .int .u16 0] 45)) (Fm w [(w.heap.size, WCp, 88), (w.heap.size + 1, #[.int .u8 0, .int .u8 0, .int .u8 0, .int .u8 0, .int .u8 0, .int .u16 0], 45)]) ?_ ?_); (rw [hW.out]; exact Fm.two w _ _ _ _); intro y0 K0; have c0 := (K0.out.bx 0 _ _ _ rfl).c 0 (.int .u8 (op : Int)) (by rw [hW.out]; rfl))
    | ((with_reducible refine at_load rtW w.heap.size WCp ?_ ?_ (.tmp 2) ?_ ?_ ?_ ?_); (first | exact K6.out.bx 0 _ _ _ rfl | exact K5.out.bx 0 _ _ _ rfl | exact K4.out.bx 0 _ _ _ rfl | exact K3.out.bx 0 _ _ _ rfl | exact K2.out.bx 0 _ _ _ rfl); (rw [hW.out]; rfl); kernel_rfl; rfl; rfl)
    | ((with_reducible refine at_load rtO y0.heap.size #[.int .u8 (op : Int), .int .u8 0, .int .u8 0, .int .u8 0, .int .u8 0, .int .u16 (a : Int)] ?_ ?_ (.tmp 5) ?_ ?_ ?_ ?_); exact K8.out.bx 2 _ _ _ rfl; rfl; kernel_rfl; rfl; rfl))
  exact ret_row rtO rfl rfl (KE.out.bx 1 _ _ _ rfl) rfl rfl ⟨rfl, KE.out.low⟩
theorem wrd_a (w : World) (op fx : Nat) (M : ByteArray) (oo x y n b a : Nat) (hr : x < 16 ∧ y < 16 ∧ n < 16 ∧ b < 256 ∧ a < 65536 ∧ fx < 65536) (sa : Nat) (hsa : fx + a = sa) (gsa : sa < 65536) :
    Calls Try.prog 40 #[.agg #[.int .u8 (op : Int), .int .u16 (fx : Int), .string ⟨([97] : List UInt8).toArray⟩, .string M], .agg #[.int .u8 (oo : Int), .int .u8 (x : Int), .int .u8 (y : Int), .int .u8 (n : Int), .int .u8 (b : Int), .int .u16 (a : Int)]] w fun e w' => e = .returned (.int .u16 (sa : Int)) ∧ Below w.heap.size w w' := by
  obtain ⟨WCp, hW⟩ : ∃ x : Array Value, Hid (x = #[.int .u8 (op : Int), .int .u16 (fx : Int), .string ⟨([97] : List UInt8).toArray⟩, .string M]) := ⟨(#[.int .u8 (op : Int), .int .u16 (fx : Int), .string ⟨([97] : List UInt8).toArray⟩, .string M] : Array Value), (rfl : (#[.int .u8 (op : Int), .int .u16 (fx : Int), .string ⟨([97] : List UInt8).toArray⟩, .string M] : Array Value) = #[.int .u8 (op : Int), .int .u16 (fx : Int), .string ⟨([97] : List UInt8).toArray⟩, .string M])⟩
  obtain ⟨OC, hO⟩ : ∃ q : Array Value, Hid (q = #[.int .u8 (oo : Int), .int .u8 (x : Int), .int .u8 (y : Int), .int .u8 (n : Int), .int .u8 (b : Int), .int .u16 (a : Int)]) := ⟨(#[.int .u8 (oo : Int), .int .u8 (x : Int), .int .u8 (y : Int), .int .u8 (n : Int), .int .u8 (b : Int), .int .u16 (a : Int)] : Array Value), (rfl : (#[.int .u8 (oo : Int), .int .u8 (x : Int), .int .u8 (y : Int), .int .u8 (n : Int), .int .u8 (b : Int), .int .u16 (a : Int)] : Array Value) = #[.int .u8 (oo : Int), .int .u8 (x : Int), .int .u8 (y : Int), .int .u8 (n : Int), .int .u8 (b : Int), .int .u16 (a : Int)])⟩
  have hh_x : Hid (∀ u, Calls Try.prog 72 #[.agg WCp, .int .u8 120] u fun e w' => e = .returned (.bool false) ∧ Below u.heap.size u w') := fun u => by rw [hW.out]; exact has_a_x u op fx M
  have hh_y : Hid (∀ u, Calls Try.prog 72 #[.agg WCp, .int .u8 121] u fun e w' => e = .returned (.bool false) ∧ Below u.heap.size u w') := fun u => by rw [hW.out]; exact has_a_y u op fx M
  have hh_n : Hid (∀ u, Calls Try.prog 72 #[.agg WCp, .int .u8 110] u fun e w' => e = .returned (.bool false) ∧ Below u.heap.size u w') := fun u => by rw [hW.out]; exact has_a_n u op fx M
  have hh_b : Hid (∀ u, Calls Try.prog 72 #[.agg WCp, .int .u8 98] u fun e w' => e = .returned (.bool false) ∧ Below u.heap.size u w') := fun u => by rw [hW.out]; exact has_a_b u op fx M
  have hh_a : Hid (∀ u, Calls Try.prog 72 #[.agg WCp, .int .u8 97] u fun e w' => e = .returned (.bool true) ∧ Below u.heap.size u w') := fun u => by rw [hW.out]; exact has_a_a u op fx M
  have i0 : (fx : Int) < 65536 := by omega
  have c1a : (a : Int) < 65536 := by omega
  have esa : (fx : Int) + (a : Int) = (sa : Int) := by omega
  have fsa : (sa : Int) < 65536 := by omega
  clear hr hsa gsa
  go_enter Try.func40, Try.ntmps40
  go_wp2_with (first
    | (go_at_call 72; (with_reducible refine (hh_a.out y4).mono ?_); rintro e y5 ⟨rfl, H⟩; have K5 : Hid (Fm w [(w.heap.size, WCp, 88), (w.heap.size + 1, OC, 45)] y5) := K4.out.below H; clear H hh_a; have cFa := (K5.out.bx 1 _ _ _ rfl).c 5 (.int .u16 (a : Int)) (by rw [hO.out]; rfl))
    | (go_at_call 72; (with_reducible refine (hh_b.out y3).mono ?_); rintro e y4 ⟨rfl, H⟩; have K4 : Hid (Fm w [(w.heap.size, WCp, 88), (w.heap.size + 1, OC, 45)] y4) := K3.out.below H; clear H hh_b)
    | (go_at_call 72; (with_reducible refine (hh_n.out y2).mono ?_); rintro e y3 ⟨rfl, H⟩; have K3 : Hid (Fm w [(w.heap.size, WCp, 88), (w.heap.size + 1, OC, 45)] y3) := K2.out.below H; clear H hh_n)
    | (go_at_call 72; (with_reducible refine (hh_y.out y1).mono ?_); rintro e y2 ⟨rfl, H⟩; have K2 : Hid (Fm w [(w.heap.size, WCp, 88), (w.heap.size + 1, OC, 45)] y2) := K1.out.below H; clear H hh_y)
    | (go_at_call 72; (with_reducible refine (hh_x.out y0).mono ?_); rintro e y1 ⟨rfl, H⟩; have K1 : Hid (Fm w [(w.heap.size, WCp, 88), (w.heap.size + 1, OC, 45)] y1) := K0.out.below H; clear H hh_x)
    | ((with_reducible refine gen_world ((w.alloc (.cells #[.int .u8 (op : Int), .int .u16 (fx : Int), .string ⟨([97] : List UInt8).toArray⟩, .string M] 88)).alloc (.cells #[.int .u8 (oo : Int), .int .u8 (x : Int), .int .u8 (y : Int), .int .u8 (n : Int), .int .u8 (b : Int), .int .u16 (a : Int)] 45)) (Fm w [(w.heap.size, WCp, 88), (w.heap.size + 1, OC, 45)]) ?_ ?_); (rw [hW.out, hO.out]; exact Fm.two w _ _ _ _); intro y0 K0; have c1 := (K0.out.bx 0 _ _ _ rfl).c 1 (.int .u16 (fx : Int)) (by rw [hW.out]; rfl))
    | ((with_reducible refine at_load rtW w.heap.size WCp ?_ ?_ (.tmp 2) ?_ ?_ ?_ ?_); (first | exact K4.out.bx 0 _ _ _ rfl | exact K3.out.bx 0 _ _ _ rfl | exact K2.out.bx 0 _ _ _ rfl | exact K1.out.bx 0 _ _ _ rfl | exact K0.out.bx 0 _ _ _ rfl); (rw [hW.out]; rfl); kernel_rfl; rfl; rfl))
  go_ret
  exact ⟨rfl, K5.out.low⟩
theorem ord_xy (w : World) (op fx : Nat) (M : ByteArray) (v : Nat) (hv : v < 65536) (v1 x : Nat) (hv1 : v / 256 = v1) (hx : v1 % 16 = x) (v2 y : Nat) (hv2 : v / 16 = v2) (hy : v2 % 16 = y) :
    Calls Try.prog 39 #[.agg #[.int .u8 (op : Int), .int .u16 (fx : Int), .string ⟨([120, 121] : List UInt8).toArray⟩, .string M], .int .u16 (v : Int)] w fun e w' => e = .returned (.agg #[.int .u8 (op : Int), .int .u8 (x : Int), .int .u8 (y : Int), .int .u8 0, .int .u8 0, .int .u16 0]) ∧ Below w.heap.size w w' := by
  obtain ⟨WCp, hW⟩ : ∃ x : Array Value, Hid (x = #[.int .u8 (op : Int), .int .u16 (fx : Int), .string ⟨([120, 121] : List UInt8).toArray⟩, .string M]) := ⟨(#[.int .u8 (op : Int), .int .u16 (fx : Int), .string ⟨([120, 121] : List UInt8).toArray⟩, .string M] : Array Value), (rfl : (#[.int .u8 (op : Int), .int .u16 (fx : Int), .string ⟨([120, 121] : List UInt8).toArray⟩, .string M] : Array Value) = #[.int .u8 (op : Int), .int .u16 (fx : Int), .string ⟨([120, 121] : List UInt8).toArray⟩, .string M])⟩
  have hh_x : Hid (∀ u, Calls Try.prog 72 #[.agg WCp, .int .u8 120] u fun e w' => e = .returned (.bool true) ∧ Below u.heap.size u w') := fun u => by rw [hW.out]; exact has_xy_x u op fx M
  have hh_y : Hid (∀ u, Calls Try.prog 72 #[.agg WCp, .int .u8 121] u fun e w' => e = .returned (.bool true) ∧ Below u.heap.size u w') := fun u => by rw [hW.out]; exact has_xy_y u op fx M
  have hh_n : Hid (∀ u, Calls Try.prog 72 #[.agg WCp, .int .u8 110] u fun e w' => e = .returned (.bool false) ∧ Below u.heap.size u w') := fun u => by rw [hW.out]; exact has_xy_n u op fx M
  have hh_b : Hid (∀ u, Calls Try.prog 72 #[.agg WCp, .int .u8 98] u fun e w' => e = .returned (.bool false) ∧ Below u.heap.size u w') := fun u => by rw [hW.out]; exact has_xy_b u op fx M
  have hh_a : Hid (∀ u, Calls Try.prog 72 #[.agg WCp, .int .u8 97] u fun e w' => e = .returned (.bool false) ∧ Below u.heap.size u w') := fun u => by rw [hW.out]; exact has_xy_a u op fx M
  have i0 : (v : Int) < 65536 := by omega
  have a1 : (v : Int) / 256 = (v1 : Int) := by omega
  have a1' : Int.tdiv (v : Int) 256 = (v1 : Int) := by rw [Int.tdiv_eq_ediv_of_nonneg (by omega)]; exact a1
  have a2 : (v1 : Int) % 16 = (x : Int) := by omega
  have a2' : Int.tmod (v1 : Int) 16 = (x : Int) := by rw [Int.tmod_eq_emod_of_nonneg (by omega)]; exact a2
  have a3 : (x : Int) < 16 := by omega
  have a4 : (v1 : Int) < 256 := by omega
  have b1 : (v : Int) / 16 = (v2 : Int) := by omega
  have b1' : Int.tdiv (v : Int) 16 = (v2 : Int) := by rw [Int.tdiv_eq_ediv_of_nonneg (by omega)]; exact b1
  have b2 : (v2 : Int) % 16 = (y : Int) := by omega
  have b2' : Int.tmod (v2 : Int) 16 = (y : Int) := by rw [Int.tmod_eq_emod_of_nonneg (by omega)]; exact b2
  have b3 : (y : Int) < 16 := by omega
  have b4 : (v2 : Int) < 4096 := by omega
  clear hv hv1 hx hv2 hy
  go_enter Try.func39, Try.ntmps39
  go_wp2_with (first
    | ((with_reducible refine at_st rtO (w.heap.size + 1) #[.int .u8 0, .int .u8 0, .int .u8 0, .int .u8 0, .int .u8 0, .int .u16 0] #[.int .u8 (op : Int), .int .u8 (x : Int), .int .u8 (y : Int), .int .u8 0, .int .u8 0, .int .u16 0] ?_ ?_ ?_ ?_ (.tmp 4) (.tmp 40) ?_ ?_ ?_ ?_ ?_); exact K9.out.bx 1 _ _ _ rfl; rfl; rfl; (simp [Value.oneCell']); rfl; rfl; rfl; rfl; intro yE HE; have KE : Hid (Fm w [(w.heap.size, WCp, 88), (w.heap.size + 1, #[.int .u8 (op : Int), .int .u8 (x : Int), .int .u8 (y : Int), .int .u8 0, .int .u8 0, .int .u16 0], 45), (y0.heap.size, #[.int .u8 (op : Int), .int .u8 (x : Int), .int .u8 (y : Int), .int .u8 0, .int .u8 0, .int .u16 0], 45)] yE) := K9.out.put 1 _ _ _ _ rfl HE.out; clear HE)
    | (go_at_call 72; (with_reducible refine (hh_a.out y8).mono ?_); rintro e y9 ⟨rfl, H⟩; have K9 : Hid (Fm w [(w.heap.size, WCp, 88), (w.heap.size + 1, #[.int .u8 0, .int .u8 0, .int .u8 0, .int .u8 0, .int .u8 0, .int .u16 0], 45), (y0.heap.size, #[.int .u8 (op : Int), .int .u8 (x : Int), .int .u8 (y : Int), .int .u8 0, .int .u8 0, .int .u16 0], 45)] y9) := K8.out.below H; clear H hh_a)
    | (go_at_call 72; (with_reducible refine (hh_b.out y7).mono ?_); rintro e y8 ⟨rfl, H⟩; have K8 : Hid (Fm w [(w.heap.size, WCp, 88), (w.heap.size + 1, #[.int .u8 0, .int .u8 0, .int .u8 0, .int .u8 0, .int .u8 0, .int .u16 0], 45), (y0.heap.size, #[.int .u8 (op : Int), .int .u8 (x : Int), .int .u8 (y : Int), .int .u8 0, .int .u8 0, .int .u16 0], 45)] y8) := K7.out.below H; clear H hh_b)
    | (go_at_call 72; (with_reducible refine (hh_n.out y6).mono ?_); rintro e y7 ⟨rfl, H⟩; have K7 : Hid (Fm w [(w.heap.size, WCp, 88), (w.heap.size + 1, #[.int .u8 0, .int .u8 0, .int .u8 0, .int .u8 0, .int .u8 0, .int .u16 0], 45), (y0.heap.size, #[.int .u8 (op : Int), .int .u8 (x : Int), .int .u8 (y : Int), .int .u8 0, .int .u8 0, .int .u16 0], 45)] y7) := K6.out.below H; clear H hh_n)
    | ((with_reducible refine gen_world (y5.setCell ⟨y0.heap.size, 2, none⟩ (.int .u8 (y : Int))) (Fm w [(w.heap.size, WCp, 88), (w.heap.size + 1, #[.int .u8 0, .int .u8 0, .int .u8 0, .int .u8 0, .int .u8 0, .int .u16 0], 45), (y0.heap.size, #[.int .u8 (op : Int), .int .u8 (x : Int), .int .u8 (y : Int), .int .u8 0, .int .u8 0, .int .u16 0], 45)]) ?_ ?_); exact K5.out.setCell 2 _ _ _ _ rfl 2 _ rfl; intro y6 K6; clear cS zS)
    | (go_at_call 72; (with_reducible refine (hh_y.out y4).mono ?_); rintro e y5 ⟨rfl, H⟩; have K5 : Hid (Fm w [(w.heap.size, WCp, 88), (w.heap.size + 1, #[.int .u8 0, .int .u8 0, .int .u8 0, .int .u8 0, .int .u8 0, .int .u16 0], 45), (y0.heap.size, #[.int .u8 (op : Int), .int .u8 (x : Int), .int .u8 0, .int .u8 0, .int .u8 0, .int .u16 0], 45)] y5) := K4.out.below H; clear H hh_y; have cS := (K5.out.bx 2 _ _ _ rfl).c 2 (.int .u8 0) rfl; have zS := (K5.out.bx 2 _ _ _ rfl).fz 2)
    | ((with_reducible refine gen_world (y3.setCell ⟨y0.heap.size, 1, none⟩ (.int .u8 (x : Int))) (Fm w [(w.heap.size, WCp, 88), (w.heap.size + 1, #[.int .u8 0, .int .u8 0, .int .u8 0, .int .u8 0, .int .u8 0, .int .u16 0], 45), (y0.heap.size, #[.int .u8 (op : Int), .int .u8 (x : Int), .int .u8 0, .int .u8 0, .int .u8 0, .int .u16 0], 45)]) ?_ ?_); exact K3.out.setCell 2 _ _ _ _ rfl 1 _ rfl; intro y4 K4; clear cS zS)
    | (go_at_call 72; (with_reducible refine (hh_x.out y2).mono ?_); rintro e y3 ⟨rfl, H⟩; have K3 : Hid (Fm w [(w.heap.size, WCp, 88), (w.heap.size + 1, #[.int .u8 0, .int .u8 0, .int .u8 0, .int .u8 0, .int .u8 0, .int .u16 0], 45), (y0.heap.size, #[.int .u8 (op : Int), .int .u8 0, .int .u8 0, .int .u8 0, .int .u8 0, .int .u16 0], 45)] y3) := K2.out.below H; clear H hh_x; have cS := (K3.out.bx 2 _ _ _ rfl).c 1 (.int .u8 0) rfl; have zS := (K3.out.bx 2 _ _ _ rfl).fz 1)
    | ((with_reducible refine at_st rtO y0.heap.size #[.int .u8 0, .int .u8 0, .int .u8 0, .int .u8 0, .int .u8 0, .int .u16 0] #[.int .u8 (op : Int), .int .u8 0, .int .u8 0, .int .u8 0, .int .u8 0, .int .u16 0] ?_ ?_ ?_ ?_ (.tmp 5) (.tmp 8) ?_ ?_ ?_ ?_ ?_); exact K1.out.bx 2 _ _ _ rfl; rfl; rfl; (simp [Value.oneCell']); rfl; rfl; rfl; rfl; intro y2 H2; have K2 : Hid (Fm w [(w.heap.size, WCp, 88), (w.heap.size + 1, #[.int .u8 0, .int .u8 0, .int .u8 0, .int .u8 0, .int .u8 0, .int .u16 0], 45), (y0.heap.size, #[.int .u8 (op : Int), .int .u8 0, .int .u8 0, .int .u8 0, .int .u8 0, .int .u16 0], 45)] y2) := K1.out.put 2 _ _ _ _ rfl H2.out; clear H2)
    | ((with_reducible refine gen_world (y0.alloc (.cells #[.int .u8 0, .int .u8 0, .int .u8 0, .int .u8 0, .int .u8 0, .int .u16 0] 45)) (Fm w [(w.heap.size, WCp, 88), (w.heap.size + 1, #[.int .u8 0, .int .u8 0, .int .u8 0, .int .u8 0, .int .u8 0, .int .u16 0], 45), (y0.heap.size, #[.int .u8 0, .int .u8 0, .int .u8 0, .int .u8 0, .int .u8 0, .int .u16 0], 45)]) ?_ ?_); exact K0.out.new _ _; intro y1 K1)
    | ((with_reducible refine at_bu #[(0, .tmp 7)] [(0, .int .u8 (op : Int))] #[.int .u8 (op : Int), .int .u8 0, .int .u8 0, .int .u8 0, .int .u8 0, .int .u16 0] ?_ ?_ ?_ (builtO1 op) ?_); kernel_rfl; rfl; kernel_rfl)
    | ((with_reducible refine gen_world ((w.alloc (.cells #[.int .u8 (op : Int), .int .u16 (fx : Int), .string ⟨([120, 121] : List UInt8).toArray⟩, .string M] 88)).alloc (.cells #[.int .u8 0, .int .u8 0, .int .u8 0, .int .u8 0, .int .u8 0, .int .u16 0] 45)) (Fm w [(w.heap.size, WCp, 88), (w.heap.size + 1, #[.int .u8 0, .int .u8 0, .int .u8 0, .int .u8 0, .int .u8 0, .int .u16 0], 45)]) ?_ ?_); (rw [hW.out]; exact Fm.two w _ _ _ _); intro y0 K0; have c0 := (K0.out.bx 0 _ _ _ rfl).c 0 (.int .u8 (op : Int)) (by rw [hW.out]; rfl))
    | ((with_reducible refine at_load rtW w.heap.size WCp ?_ ?_ (.tmp 2) ?_ ?_ ?_ ?_); (first | exact K8.out.bx 0 _ _ _ rfl | exact K7.out.bx 0 _ _ _ rfl | exact K6.out.bx 0 _ _ _ rfl | exact K4.out.bx 0 _ _ _ rfl | exact K2.out.bx 0 _ _ _ rfl); (rw [hW.out]; rfl); kernel_rfl; rfl; rfl)
    | ((with_reducible refine at_load rtO y0.heap.size #[.int .u8 (op : Int), .int .u8 (x : Int), .int .u8 (y : Int), .int .u8 0, .int .u8 0, .int .u16 0] ?_ ?_ (.tmp 5) ?_ ?_ ?_ ?_); exact K9.out.bx 2 _ _ _ rfl; rfl; kernel_rfl; rfl; rfl))
  exact ret_row rtO rfl rfl (KE.out.bx 1 _ _ _ rfl) rfl rfl ⟨rfl, KE.out.low⟩
theorem wrd_xy (w : World) (op fx : Nat) (M : ByteArray) (oo x y n b a : Nat) (hr : x < 16 ∧ y < 16 ∧ n < 16 ∧ b < 256 ∧ a < 65536 ∧ fx < 65536) (mx : Nat) (hmx : x * 256 = mx) (sx : Nat) (hsx : fx + mx = sx) (gsx : sx < 65536) (my : Nat) (hmy : y * 16 = my) (sy : Nat) (hsy : sx + my = sy) (gsy : sy < 65536) :
    Calls Try.prog 40 #[.agg #[.int .u8 (op : Int), .int .u16 (fx : Int), .string ⟨([120, 121] : List UInt8).toArray⟩, .string M], .agg #[.int .u8 (oo : Int), .int .u8 (x : Int), .int .u8 (y : Int), .int .u8 (n : Int), .int .u8 (b : Int), .int .u16 (a : Int)]] w fun e w' => e = .returned (.int .u16 (sy : Int)) ∧ Below w.heap.size w w' := by
  obtain ⟨WCp, hW⟩ : ∃ x : Array Value, Hid (x = #[.int .u8 (op : Int), .int .u16 (fx : Int), .string ⟨([120, 121] : List UInt8).toArray⟩, .string M]) := ⟨(#[.int .u8 (op : Int), .int .u16 (fx : Int), .string ⟨([120, 121] : List UInt8).toArray⟩, .string M] : Array Value), (rfl : (#[.int .u8 (op : Int), .int .u16 (fx : Int), .string ⟨([120, 121] : List UInt8).toArray⟩, .string M] : Array Value) = #[.int .u8 (op : Int), .int .u16 (fx : Int), .string ⟨([120, 121] : List UInt8).toArray⟩, .string M])⟩
  obtain ⟨OC, hO⟩ : ∃ q : Array Value, Hid (q = #[.int .u8 (oo : Int), .int .u8 (x : Int), .int .u8 (y : Int), .int .u8 (n : Int), .int .u8 (b : Int), .int .u16 (a : Int)]) := ⟨(#[.int .u8 (oo : Int), .int .u8 (x : Int), .int .u8 (y : Int), .int .u8 (n : Int), .int .u8 (b : Int), .int .u16 (a : Int)] : Array Value), (rfl : (#[.int .u8 (oo : Int), .int .u8 (x : Int), .int .u8 (y : Int), .int .u8 (n : Int), .int .u8 (b : Int), .int .u16 (a : Int)] : Array Value) = #[.int .u8 (oo : Int), .int .u8 (x : Int), .int .u8 (y : Int), .int .u8 (n : Int), .int .u8 (b : Int), .int .u16 (a : Int)])⟩
  have hh_x : Hid (∀ u, Calls Try.prog 72 #[.agg WCp, .int .u8 120] u fun e w' => e = .returned (.bool true) ∧ Below u.heap.size u w') := fun u => by rw [hW.out]; exact has_xy_x u op fx M
  have hh_y : Hid (∀ u, Calls Try.prog 72 #[.agg WCp, .int .u8 121] u fun e w' => e = .returned (.bool true) ∧ Below u.heap.size u w') := fun u => by rw [hW.out]; exact has_xy_y u op fx M
  have hh_n : Hid (∀ u, Calls Try.prog 72 #[.agg WCp, .int .u8 110] u fun e w' => e = .returned (.bool false) ∧ Below u.heap.size u w') := fun u => by rw [hW.out]; exact has_xy_n u op fx M
  have hh_b : Hid (∀ u, Calls Try.prog 72 #[.agg WCp, .int .u8 98] u fun e w' => e = .returned (.bool false) ∧ Below u.heap.size u w') := fun u => by rw [hW.out]; exact has_xy_b u op fx M
  have hh_a : Hid (∀ u, Calls Try.prog 72 #[.agg WCp, .int .u8 97] u fun e w' => e = .returned (.bool false) ∧ Below u.heap.size u w') := fun u => by rw [hW.out]; exact has_xy_a u op fx M
  have i0 : (fx : Int) < 65536 := by omega
  have a1 : (x : Int) * 256 = (mx : Int) := by omega
  have a2 : (mx : Int) < 65536 := by omega
  have a3 : (x : Int) < 256 := by omega
  have esx : (fx : Int) + (mx : Int) = (sx : Int) := by omega
  have fsx : (sx : Int) < 65536 := by omega
  have b1 : (y : Int) * 16 = (my : Int) := by omega
  have b2 : (my : Int) < 65536 := by omega
  have b3 : (y : Int) < 256 := by omega
  have esy : (sx : Int) + (my : Int) = (sy : Int) := by omega
  have fsy : (sy : Int) < 65536 := by omega
  clear hr hmx hsx gsx hmy hsy gsy
  go_enter Try.func40, Try.ntmps40
  go_wp2_with (first
    | (go_at_call 72; (with_reducible refine (hh_a.out y4).mono ?_); rintro e y5 ⟨rfl, H⟩; have K5 : Hid (Fm w [(w.heap.size, WCp, 88), (w.heap.size + 1, OC, 45)] y5) := K4.out.below H; clear H hh_a)
    | (go_at_call 72; (with_reducible refine (hh_b.out y3).mono ?_); rintro e y4 ⟨rfl, H⟩; have K4 : Hid (Fm w [(w.heap.size, WCp, 88), (w.heap.size + 1, OC, 45)] y4) := K3.out.below H; clear H hh_b)
    | (go_at_call 72; (with_reducible refine (hh_n.out y2).mono ?_); rintro e y3 ⟨rfl, H⟩; have K3 : Hid (Fm w [(w.heap.size, WCp, 88), (w.heap.size + 1, OC, 45)] y3) := K2.out.below H; clear H hh_n)
    | (go_at_call 72; (with_reducible refine (hh_y.out y1).mono ?_); rintro e y2 ⟨rfl, H⟩; have K2 : Hid (Fm w [(w.heap.size, WCp, 88), (w.heap.size + 1, OC, 45)] y2) := K1.out.below H; clear H hh_y; have cFy := (K2.out.bx 1 _ _ _ rfl).c 2 (.int .u8 (y : Int)) (by rw [hO.out]; rfl))
    | (go_at_call 72; (with_reducible refine (hh_x.out y0).mono ?_); rintro e y1 ⟨rfl, H⟩; have K1 : Hid (Fm w [(w.heap.size, WCp, 88), (w.heap.size + 1, OC, 45)] y1) := K0.out.below H; clear H hh_x; have cFx := (K1.out.bx 1 _ _ _ rfl).c 1 (.int .u8 (x : Int)) (by rw [hO.out]; rfl))
    | ((with_reducible refine gen_world ((w.alloc (.cells #[.int .u8 (op : Int), .int .u16 (fx : Int), .string ⟨([120, 121] : List UInt8).toArray⟩, .string M] 88)).alloc (.cells #[.int .u8 (oo : Int), .int .u8 (x : Int), .int .u8 (y : Int), .int .u8 (n : Int), .int .u8 (b : Int), .int .u16 (a : Int)] 45)) (Fm w [(w.heap.size, WCp, 88), (w.heap.size + 1, OC, 45)]) ?_ ?_); (rw [hW.out, hO.out]; exact Fm.two w _ _ _ _); intro y0 K0; have c1 := (K0.out.bx 0 _ _ _ rfl).c 1 (.int .u16 (fx : Int)) (by rw [hW.out]; rfl))
    | ((with_reducible refine at_load rtW w.heap.size WCp ?_ ?_ (.tmp 2) ?_ ?_ ?_ ?_); (first | exact K4.out.bx 0 _ _ _ rfl | exact K3.out.bx 0 _ _ _ rfl | exact K2.out.bx 0 _ _ _ rfl | exact K1.out.bx 0 _ _ _ rfl | exact K0.out.bx 0 _ _ _ rfl); (rw [hW.out]; rfl); kernel_rfl; rfl; rfl))
  go_ret
  exact ⟨rfl, K5.out.low⟩
theorem ord_xb (w : World) (op fx : Nat) (M : ByteArray) (v : Nat) (hv : v < 65536) (v1 x : Nat) (hv1 : v / 256 = v1) (hx : v1 % 16 = x) (b : Nat) (hb : v % 256 = b) :
    Calls Try.prog 39 #[.agg #[.int .u8 (op : Int), .int .u16 (fx : Int), .string ⟨([120, 98] : List UInt8).toArray⟩, .string M], .int .u16 (v : Int)] w fun e w' => e = .returned (.agg #[.int .u8 (op : Int), .int .u8 (x : Int), .int .u8 0, .int .u8 0, .int .u8 (b : Int), .int .u16 0]) ∧ Below w.heap.size w w' := by
  obtain ⟨WCp, hW⟩ : ∃ x : Array Value, Hid (x = #[.int .u8 (op : Int), .int .u16 (fx : Int), .string ⟨([120, 98] : List UInt8).toArray⟩, .string M]) := ⟨(#[.int .u8 (op : Int), .int .u16 (fx : Int), .string ⟨([120, 98] : List UInt8).toArray⟩, .string M] : Array Value), (rfl : (#[.int .u8 (op : Int), .int .u16 (fx : Int), .string ⟨([120, 98] : List UInt8).toArray⟩, .string M] : Array Value) = #[.int .u8 (op : Int), .int .u16 (fx : Int), .string ⟨([120, 98] : List UInt8).toArray⟩, .string M])⟩
  have hh_x : Hid (∀ u, Calls Try.prog 72 #[.agg WCp, .int .u8 120] u fun e w' => e = .returned (.bool true) ∧ Below u.heap.size u w') := fun u => by rw [hW.out]; exact has_xb_x u op fx M
  have hh_y : Hid (∀ u, Calls Try.prog 72 #[.agg WCp, .int .u8 121] u fun e w' => e = .returned (.bool false) ∧ Below u.heap.size u w') := fun u => by rw [hW.out]; exact has_xb_y u op fx M
  have hh_n : Hid (∀ u, Calls Try.prog 72 #[.agg WCp, .int .u8 110] u fun e w' => e = .returned (.bool false) ∧ Below u.heap.size u w') := fun u => by rw [hW.out]; exact has_xb_n u op fx M
  have hh_b : Hid (∀ u, Calls Try.prog 72 #[.agg WCp, .int .u8 98] u fun e w' => e = .returned (.bool true) ∧ Below u.heap.size u w') := fun u => by rw [hW.out]; exact has_xb_b u op fx M
  have hh_a : Hid (∀ u, Calls Try.prog 72 #[.agg WCp, .int .u8 97] u fun e w' => e = .returned (.bool false) ∧ Below u.heap.size u w') := fun u => by rw [hW.out]; exact has_xb_a u op fx M
  have i0 : (v : Int) < 65536 := by omega
  have a1 : (v : Int) / 256 = (v1 : Int) := by omega
  have a1' : Int.tdiv (v : Int) 256 = (v1 : Int) := by rw [Int.tdiv_eq_ediv_of_nonneg (by omega)]; exact a1
  have a2 : (v1 : Int) % 16 = (x : Int) := by omega
  have a2' : Int.tmod (v1 : Int) 16 = (x : Int) := by rw [Int.tmod_eq_emod_of_nonneg (by omega)]; exact a2
  have a3 : (x : Int) < 16 := by omega
  have a4 : (v1 : Int) < 256 := by omega
  have d2 : (v : Int) % 256 = (b : Int) := by omega
  have d2' : Int.tmod (v : Int) 256 = (b : Int) := by rw [Int.tmod_eq_emod_of_nonneg (by omega)]; exact d2
  have d3 : (b : Int) < 256 := by omega
  clear hv hv1 hx hb
  go_enter Try.func39, Try.ntmps39
  go_wp2_with (first
    | ((with_reducible refine at_st rtO (w.heap.size + 1) #[.int .u8 0, .int .u8 0, .int .u8 0, .int .u8 0, .int .u8 0, .int .u16 0] #[.int .u8 (op : Int), .int .u8 (x : Int), .int .u8 0, .int .u8 0, .int .u8 (b : Int), .int .u16 0] ?_ ?_ ?_ ?_ (.tmp 4) (.tmp 40) ?_ ?_ ?_ ?_ ?_); exact K9.out.bx 1 _ _ _ rfl; rfl; rfl; (simp [Value.oneCell']); rfl; rfl; rfl; rfl; intro yE HE; have KE : Hid (Fm w [(w.heap.size, WCp, 88), (w.heap.size + 1, #[.int .u8 (op : Int), .int .u8 (x : Int), .int .u8 0, .int .u8 0, .int .u8 (b : Int), .int .u16 0], 45), (y0.heap.size, #[.int .u8 (op : Int), .int .u8 (x : Int), .int .u8 0, .int .u8 0, .int .u8 (b : Int), .int .u16 0], 45)] yE) := K9.out.put 1 _ _ _ _ rfl HE.out; clear HE)
    | (go_at_call 72; (with_reducible refine (hh_a.out y8).mono ?_); rintro e y9 ⟨rfl, H⟩; have K9 : Hid (Fm w [(w.heap.size, WCp, 88), (w.heap.size + 1, #[.int .u8 0, .int .u8 0, .int .u8 0, .int .u8 0, .int .u8 0, .int .u16 0], 45), (y0.heap.size, #[.int .u8 (op : Int), .int .u8 (x : Int), .int .u8 0, .int .u8 0, .int .u8 (b : Int), .int .u16 0], 45)] y9) := K8.out.below H; clear H hh_a)
    | ((with_reducible refine gen_world (y7.setCell ⟨y0.heap.size, 4, none⟩ (.int .u8 (b : Int))) (Fm w [(w.heap.size, WCp, 88), (w.heap.size + 1, #[.int .u8 0, .int .u8 0, .int .u8 0, .int .u8 0, .int .u8 0, .int .u16 0], 45), (y0.heap.size, #[.int .u8 (op : Int), .int .u8 (x : Int), .int .u8 0, .int .u8 0, .int .u8 (b : Int), .int .u16 0], 45)]) ?_ ?_); exact K7.out.setCell 2 _ _ _ _ rfl 4 _ rfl; intro y8 K8; clear cS zS)
    | (go_at_call 72; (with_reducible refine (hh_b.out y6).mono ?_); rintro e y7 ⟨rfl, H⟩; have K7 : Hid (Fm w [(w.heap.size, WCp, 88), (w.heap.size + 1, #[.int .u8 0, .int .u8 0, .int .u8 0, .int .u8 0, .int .u8 0, .int .u16 0], 45), (y0.heap.size, #[.int .u8 (op : Int), .int .u8 (x : Int), .int .u8 0, .int .u8 0, .int .u8 0, .int .u16 0], 45)] y7) := K6.out.below H; clear H hh_b; have cS := (K7.out.bx 2 _ _ _ rfl).c 4 (.int .u8 0) rfl; have zS := (K7.out.bx 2 _ _ _ rfl).fz 4)
    | (go_at_call 72; (with_reducible refine (hh_n.out y5).mono ?_); rintro e y6 ⟨rfl, H⟩; have K6 : Hid (Fm w [(w.heap.size, WCp, 88), (w.heap.size + 1, #[.int .u8 0, .int .u8 0, .int .u8 0, .int .u8 0, .int .u8 0, .int .u16 0], 45), (y0.heap.size, #[.int .u8 (op : Int), .int .u8 (x : Int), .int .u8 0, .int .u8 0, .int .u8 0, .int .u16 0], 45)] y6) := K5.out.below H; clear H hh_n)
    | (go_at_call 72; (with_reducible refine (hh_y.out y4).mono ?_); rintro e y5 ⟨rfl, H⟩; have K5 : Hid (Fm w [(w.heap.size, WCp, 88), (w.heap.size + 1, #[.int .u8 0, .int .u8 0, .int .u8 0, .int .u8 0, .int .u8 0, .int .u16 0], 45), (y0.heap.size, #[.int .u8 (op : Int), .int .u8 (x : Int), .int .u8 0, .int .u8 0, .int .u8 0, .int .u16 0], 45)] y5) := K4.out.below H; clear H hh_y)
    | ((with_reducible refine gen_world (y3.setCell ⟨y0.heap.size, 1, none⟩ (.int .u8 (x : Int))) (Fm w [(w.heap.size, WCp, 88), (w.heap.size + 1, #[.int .u8 0, .int .u8 0, .int .u8 0, .int .u8 0, .int .u8 0, .int .u16 0], 45), (y0.heap.size, #[.int .u8 (op : Int), .int .u8 (x : Int), .int .u8 0, .int .u8 0, .int .u8 0, .int .u16 0], 45)]) ?_ ?_); exact K3.out.setCell 2 _ _ _ _ rfl 1 _ rfl; intro y4 K4; clear cS zS)
    | (go_at_call 72; (with_reducible refine (hh_x.out y2).mono ?_); rintro e y3 ⟨rfl, H⟩; have K3 : Hid (Fm w [(w.heap.size, WCp, 88), (w.heap.size + 1, #[.int .u8 0, .int .u8 0, .int .u8 0, .int .u8 0, .int .u8 0, .int .u16 0], 45), (y0.heap.size, #[.int .u8 (op : Int), .int .u8 0, .int .u8 0, .int .u8 0, .int .u8 0, .int .u16 0], 45)] y3) := K2.out.below H; clear H hh_x; have cS := (K3.out.bx 2 _ _ _ rfl).c 1 (.int .u8 0) rfl; have zS := (K3.out.bx 2 _ _ _ rfl).fz 1)
    | ((with_reducible refine at_st rtO y0.heap.size #[.int .u8 0, .int .u8 0, .int .u8 0, .int .u8 0, .int .u8 0, .int .u16 0] #[.int .u8 (op : Int), .int .u8 0, .int .u8 0, .int .u8 0, .int .u8 0, .int .u16 0] ?_ ?_ ?_ ?_ (.tmp 5) (.tmp 8) ?_ ?_ ?_ ?_ ?_); exact K1.out.bx 2 _ _ _ rfl; rfl; rfl; (simp [Value.oneCell']); rfl; rfl; rfl; rfl; intro y2 H2; have K2 : Hid (Fm w [(w.heap.size, WCp, 88), (w.heap.size + 1, #[.int .u8 0, .int .u8 0, .int .u8 0, .int .u8 0, .int .u8 0, .int .u16 0], 45), (y0.heap.size, #[.int .u8 (op : Int), .int .u8 0, .int .u8 0, .int .u8 0, .int .u8 0, .int .u16 0], 45)] y2) := K1.out.put 2 _ _ _ _ rfl H2.out; clear H2)
    | ((with_reducible refine gen_world (y0.alloc (.cells #[.int .u8 0, .int .u8 0, .int .u8 0, .int .u8 0, .int .u8 0, .int .u16 0] 45)) (Fm w [(w.heap.size, WCp, 88), (w.heap.size + 1, #[.int .u8 0, .int .u8 0, .int .u8 0, .int .u8 0, .int .u8 0, .int .u16 0], 45), (y0.heap.size, #[.int .u8 0, .int .u8 0, .int .u8 0, .int .u8 0, .int .u8 0, .int .u16 0], 45)]) ?_ ?_); exact K0.out.new _ _; intro y1 K1)
    | ((with_reducible refine at_bu #[(0, .tmp 7)] [(0, .int .u8 (op : Int))] #[.int .u8 (op : Int), .int .u8 0, .int .u8 0, .int .u8 0, .int .u8 0, .int .u16 0] ?_ ?_ ?_ (builtO1 op) ?_); kernel_rfl; rfl; kernel_rfl)
    | ((with_reducible refine gen_world ((w.alloc (.cells #[.int .u8 (op : Int), .int .u16 (fx : Int), .string ⟨([120, 98] : List UInt8).toArray⟩, .string M] 88)).alloc (.cells #[.int .u8 0, .int .u8 0, .int .u8 0, .int .u8 0, .int .u8 0, .int .u16 0] 45)) (Fm w [(w.heap.size, WCp, 88), (w.heap.size + 1, #[.int .u8 0, .int .u8 0, .int .u8 0, .int .u8 0, .int .u8 0, .int .u16 0], 45)]) ?_ ?_); (rw [hW.out]; exact Fm.two w _ _ _ _); intro y0 K0; have c0 := (K0.out.bx 0 _ _ _ rfl).c 0 (.int .u8 (op : Int)) (by rw [hW.out]; rfl))
    | ((with_reducible refine at_load rtW w.heap.size WCp ?_ ?_ (.tmp 2) ?_ ?_ ?_ ?_); (first | exact K8.out.bx 0 _ _ _ rfl | exact K6.out.bx 0 _ _ _ rfl | exact K5.out.bx 0 _ _ _ rfl | exact K4.out.bx 0 _ _ _ rfl | exact K2.out.bx 0 _ _ _ rfl); (rw [hW.out]; rfl); kernel_rfl; rfl; rfl)
    | ((with_reducible refine at_load rtO y0.heap.size #[.int .u8 (op : Int), .int .u8 (x : Int), .int .u8 0, .int .u8 0, .int .u8 (b : Int), .int .u16 0] ?_ ?_ (.tmp 5) ?_ ?_ ?_ ?_); exact K9.out.bx 2 _ _ _ rfl; rfl; kernel_rfl; rfl; rfl))
  exact ret_row rtO rfl rfl (KE.out.bx 1 _ _ _ rfl) rfl rfl ⟨rfl, KE.out.low⟩
theorem wrd_xb (w : World) (op fx : Nat) (M : ByteArray) (oo x y n b a : Nat) (hr : x < 16 ∧ y < 16 ∧ n < 16 ∧ b < 256 ∧ a < 65536 ∧ fx < 65536) (mx : Nat) (hmx : x * 256 = mx) (sx : Nat) (hsx : fx + mx = sx) (gsx : sx < 65536) (sb : Nat) (hsb : sx + b = sb) (gsb : sb < 65536) :
    Calls Try.prog 40 #[.agg #[.int .u8 (op : Int), .int .u16 (fx : Int), .string ⟨([120, 98] : List UInt8).toArray⟩, .string M], .agg #[.int .u8 (oo : Int), .int .u8 (x : Int), .int .u8 (y : Int), .int .u8 (n : Int), .int .u8 (b : Int), .int .u16 (a : Int)]] w fun e w' => e = .returned (.int .u16 (sb : Int)) ∧ Below w.heap.size w w' := by
  obtain ⟨WCp, hW⟩ : ∃ x : Array Value, Hid (x = #[.int .u8 (op : Int), .int .u16 (fx : Int), .string ⟨([120, 98] : List UInt8).toArray⟩, .string M]) := ⟨(#[.int .u8 (op : Int), .int .u16 (fx : Int), .string ⟨([120, 98] : List UInt8).toArray⟩, .string M] : Array Value), (rfl : (#[.int .u8 (op : Int), .int .u16 (fx : Int), .string ⟨([120, 98] : List UInt8).toArray⟩, .string M] : Array Value) = #[.int .u8 (op : Int), .int .u16 (fx : Int), .string ⟨([120, 98] : List UInt8).toArray⟩, .string M])⟩
  obtain ⟨OC, hO⟩ : ∃ q : Array Value, Hid (q = #[.int .u8 (oo : Int), .int .u8 (x : Int), .int .u8 (y : Int), .int .u8 (n : Int), .int .u8 (b : Int), .int .u16 (a : Int)]) := ⟨(#[.int .u8 (oo : Int), .int .u8 (x : Int), .int .u8 (y : Int), .int .u8 (n : Int), .int .u8 (b : Int), .int .u16 (a : Int)] : Array Value), (rfl : (#[.int .u8 (oo : Int), .int .u8 (x : Int), .int .u8 (y : Int), .int .u8 (n : Int), .int .u8 (b : Int), .int .u16 (a : Int)] : Array Value) = #[.int .u8 (oo : Int), .int .u8 (x : Int), .int .u8 (y : Int), .int .u8 (n : Int), .int .u8 (b : Int), .int .u16 (a : Int)])⟩
  have hh_x : Hid (∀ u, Calls Try.prog 72 #[.agg WCp, .int .u8 120] u fun e w' => e = .returned (.bool true) ∧ Below u.heap.size u w') := fun u => by rw [hW.out]; exact has_xb_x u op fx M
  have hh_y : Hid (∀ u, Calls Try.prog 72 #[.agg WCp, .int .u8 121] u fun e w' => e = .returned (.bool false) ∧ Below u.heap.size u w') := fun u => by rw [hW.out]; exact has_xb_y u op fx M
  have hh_n : Hid (∀ u, Calls Try.prog 72 #[.agg WCp, .int .u8 110] u fun e w' => e = .returned (.bool false) ∧ Below u.heap.size u w') := fun u => by rw [hW.out]; exact has_xb_n u op fx M
  have hh_b : Hid (∀ u, Calls Try.prog 72 #[.agg WCp, .int .u8 98] u fun e w' => e = .returned (.bool true) ∧ Below u.heap.size u w') := fun u => by rw [hW.out]; exact has_xb_b u op fx M
  have hh_a : Hid (∀ u, Calls Try.prog 72 #[.agg WCp, .int .u8 97] u fun e w' => e = .returned (.bool false) ∧ Below u.heap.size u w') := fun u => by rw [hW.out]; exact has_xb_a u op fx M
  have i0 : (fx : Int) < 65536 := by omega
  have a1 : (x : Int) * 256 = (mx : Int) := by omega
  have a2 : (mx : Int) < 65536 := by omega
  have a3 : (x : Int) < 256 := by omega
  have esx : (fx : Int) + (mx : Int) = (sx : Int) := by omega
  have fsx : (sx : Int) < 65536 := by omega
  have c1b : (b : Int) < 256 := by omega
  have esb : (sx : Int) + (b : Int) = (sb : Int) := by omega
  have fsb : (sb : Int) < 65536 := by omega
  clear hr hmx hsx gsx hsb gsb
  go_enter Try.func40, Try.ntmps40
  go_wp2_with (first
    | (go_at_call 72; (with_reducible refine (hh_a.out y4).mono ?_); rintro e y5 ⟨rfl, H⟩; have K5 : Hid (Fm w [(w.heap.size, WCp, 88), (w.heap.size + 1, OC, 45)] y5) := K4.out.below H; clear H hh_a)
    | (go_at_call 72; (with_reducible refine (hh_b.out y3).mono ?_); rintro e y4 ⟨rfl, H⟩; have K4 : Hid (Fm w [(w.heap.size, WCp, 88), (w.heap.size + 1, OC, 45)] y4) := K3.out.below H; clear H hh_b; have cFb := (K4.out.bx 1 _ _ _ rfl).c 4 (.int .u8 (b : Int)) (by rw [hO.out]; rfl))
    | (go_at_call 72; (with_reducible refine (hh_n.out y2).mono ?_); rintro e y3 ⟨rfl, H⟩; have K3 : Hid (Fm w [(w.heap.size, WCp, 88), (w.heap.size + 1, OC, 45)] y3) := K2.out.below H; clear H hh_n)
    | (go_at_call 72; (with_reducible refine (hh_y.out y1).mono ?_); rintro e y2 ⟨rfl, H⟩; have K2 : Hid (Fm w [(w.heap.size, WCp, 88), (w.heap.size + 1, OC, 45)] y2) := K1.out.below H; clear H hh_y)
    | (go_at_call 72; (with_reducible refine (hh_x.out y0).mono ?_); rintro e y1 ⟨rfl, H⟩; have K1 : Hid (Fm w [(w.heap.size, WCp, 88), (w.heap.size + 1, OC, 45)] y1) := K0.out.below H; clear H hh_x; have cFx := (K1.out.bx 1 _ _ _ rfl).c 1 (.int .u8 (x : Int)) (by rw [hO.out]; rfl))
    | ((with_reducible refine gen_world ((w.alloc (.cells #[.int .u8 (op : Int), .int .u16 (fx : Int), .string ⟨([120, 98] : List UInt8).toArray⟩, .string M] 88)).alloc (.cells #[.int .u8 (oo : Int), .int .u8 (x : Int), .int .u8 (y : Int), .int .u8 (n : Int), .int .u8 (b : Int), .int .u16 (a : Int)] 45)) (Fm w [(w.heap.size, WCp, 88), (w.heap.size + 1, OC, 45)]) ?_ ?_); (rw [hW.out, hO.out]; exact Fm.two w _ _ _ _); intro y0 K0; have c1 := (K0.out.bx 0 _ _ _ rfl).c 1 (.int .u16 (fx : Int)) (by rw [hW.out]; rfl))
    | ((with_reducible refine at_load rtW w.heap.size WCp ?_ ?_ (.tmp 2) ?_ ?_ ?_ ?_); (first | exact K4.out.bx 0 _ _ _ rfl | exact K3.out.bx 0 _ _ _ rfl | exact K2.out.bx 0 _ _ _ rfl | exact K1.out.bx 0 _ _ _ rfl | exact K0.out.bx 0 _ _ _ rfl); (rw [hW.out]; rfl); kernel_rfl; rfl; rfl))
  go_ret
  exact ⟨rfl, K5.out.low⟩
theorem ord_xyn (w : World) (op fx : Nat) (M : ByteArray) (v : Nat) (hv : v < 65536) (v1 x : Nat) (hv1 : v / 256 = v1) (hx : v1 % 16 = x) (v2 y : Nat) (hv2 : v / 16 = v2) (hy : v2 % 16 = y) (n : Nat) (hn : v % 16 = n) :
    Calls Try.prog 39 #[.agg #[.int .u8 (op : Int), .int .u16 (fx : Int), .string ⟨([120, 121, 110] : List UInt8).toArray⟩, .string M], .int .u16 (v : Int)] w fun e w' => e = .returned (.agg #[.int .u8 (op : Int), .int .u8 (x : Int), .int .u8 (y : Int), .int .u8 (n : Int), .int .u8 0, .int .u16 0]) ∧ Below w.heap.size w w' := by
  obtain ⟨WCp, hW⟩ : ∃ x : Array Value, Hid (x = #[.int .u8 (op : Int), .int .u16 (fx : Int), .string ⟨([120, 121, 110] : List UInt8).toArray⟩, .string M]) := ⟨(#[.int .u8 (op : Int), .int .u16 (fx : Int), .string ⟨([120, 121, 110] : List UInt8).toArray⟩, .string M] : Array Value), (rfl : (#[.int .u8 (op : Int), .int .u16 (fx : Int), .string ⟨([120, 121, 110] : List UInt8).toArray⟩, .string M] : Array Value) = #[.int .u8 (op : Int), .int .u16 (fx : Int), .string ⟨([120, 121, 110] : List UInt8).toArray⟩, .string M])⟩
  have hh_x : Hid (∀ u, Calls Try.prog 72 #[.agg WCp, .int .u8 120] u fun e w' => e = .returned (.bool true) ∧ Below u.heap.size u w') := fun u => by rw [hW.out]; exact has_xyn_x u op fx M
  have hh_y : Hid (∀ u, Calls Try.prog 72 #[.agg WCp, .int .u8 121] u fun e w' => e = .returned (.bool true) ∧ Below u.heap.size u w') := fun u => by rw [hW.out]; exact has_xyn_y u op fx M
  have hh_n : Hid (∀ u, Calls Try.prog 72 #[.agg WCp, .int .u8 110] u fun e w' => e = .returned (.bool true) ∧ Below u.heap.size u w') := fun u => by rw [hW.out]; exact has_xyn_n u op fx M
  have hh_b : Hid (∀ u, Calls Try.prog 72 #[.agg WCp, .int .u8 98] u fun e w' => e = .returned (.bool false) ∧ Below u.heap.size u w') := fun u => by rw [hW.out]; exact has_xyn_b u op fx M
  have hh_a : Hid (∀ u, Calls Try.prog 72 #[.agg WCp, .int .u8 97] u fun e w' => e = .returned (.bool false) ∧ Below u.heap.size u w') := fun u => by rw [hW.out]; exact has_xyn_a u op fx M
  have i0 : (v : Int) < 65536 := by omega
  have a1 : (v : Int) / 256 = (v1 : Int) := by omega
  have a1' : Int.tdiv (v : Int) 256 = (v1 : Int) := by rw [Int.tdiv_eq_ediv_of_nonneg (by omega)]; exact a1
  have a2 : (v1 : Int) % 16 = (x : Int) := by omega
  have a2' : Int.tmod (v1 : Int) 16 = (x : Int) := by rw [Int.tmod_eq_emod_of_nonneg (by omega)]; exact a2
  have a3 : (x : Int) < 16 := by omega
  have a4 : (v1 : Int) < 256 := by omega
  have b1 : (v : Int) / 16 = (v2 : Int) := by omega
  have b1' : Int.tdiv (v : Int) 16 = (v2 : Int) := by rw [Int.tdiv_eq_ediv_of_nonneg (by omega)]; exact b1
  have b2 : (v2 : Int) % 16 = (y : Int) := by omega
  have b2' : Int.tmod (v2 : Int) 16 = (y : Int) := by rw [Int.tmod_eq_emod_of_nonneg (by omega)]; exact b2
  have b3 : (y : Int) < 16 := by omega
  have b4 : (v2 : Int) < 4096 := by omega
  have c2 : (v : Int) % 16 = (n : Int) := by omega
  have c2' : Int.tmod (v : Int) 16 = (n : Int) := by rw [Int.tmod_eq_emod_of_nonneg (by omega)]; exact c2
  have c3 : (n : Int) < 16 := by omega
  clear hv hv1 hx hv2 hy hn
  go_enter Try.func39, Try.ntmps39
  go_wp2_with (first
    | ((with_reducible refine at_st rtO (w.heap.size + 1) #[.int .u8 0, .int .u8 0, .int .u8 0, .int .u8 0, .int .u8 0, .int .u16 0] #[.int .u8 (op : Int), .int .u8 (x : Int), .int .u8 (y : Int), .int .u8 (n : Int), .int .u8 0, .int .u16 0] ?_ ?_ ?_ ?_ (.tmp 4) (.tmp 40) ?_ ?_ ?_ ?_ ?_); exact K10.out.bx 1 _ _ _ rfl; rfl; rfl; (simp [Value.oneCell']); rfl; rfl; rfl; rfl; intro yE HE; have KE : Hid (Fm w [(w.heap.size, WCp, 88), (w.heap.size + 1, #[.int .u8 (op : Int), .int .u8 (x : Int), .int .u8 (y : Int), .int .u8 (n : Int), .int .u8 0, .int .u16 0], 45), (y0.heap.size, #[.int .u8 (op : Int), .int .u8 (x : Int), .int .u8 (y : Int), .int .u8 (n : Int), .int .u8 0, .int .u16 0], 45)] yE) := K10.out.put 1 _ _ _ _ rfl HE.out; clear HE)
    | (go_at_call 72; (with_reducible refine (hh_a.out y9).mono ?_); rintro e y10 ⟨rfl, H⟩; have K10 : Hid (Fm w [(w.heap.size, WCp, 88), (w.heap.size + 1, #[.int .u8 0, .int .u8 0, .int .u8 0, .int .u8 0, .int .u8 0, .int .u16 0], 45), (y0.heap.size, #[.int .u8 (op : Int), .int .u8 (x : Int), .int .u8 (y : Int), .int .u8 (n : Int), .int .u8 0, .int .u16 0], 45)] y10) := K9.out.below H; clear H hh_a)
    | (go_at_call 72; (with_reducible refine (hh_b.out y8).mono ?_); rintro e y9 ⟨rfl, H⟩; have K9 : Hid (Fm w [(w.heap.size, WCp, 88), (w.heap.size + 1, #[.int .u8 0, .int .u8 0, .int .u8 0, .int .u8 0, .int .u8 0, .int .u16 0], 45), (y0.heap.size, #[.int .u8 (op : Int), .int .u8 (x : Int), .int .u8 (y : Int), .int .u8 (n : Int), .int .u8 0, .int .u16 0], 45)] y9) := K8.out.below H; clear H hh_b)
    | ((with_reducible refine gen_world (y7.setCell ⟨y0.heap.size, 3, none⟩ (.int .u8 (n : Int))) (Fm w [(w.heap.size, WCp, 88), (w.heap.size + 1, #[.int .u8 0, .int .u8 0, .int .u8 0, .int .u8 0, .int .u8 0, .int .u16 0], 45), (y0.heap.size, #[.int .u8 (op : Int), .int .u8 (x : Int), .int .u8 (y : Int), .int .u8 (n : Int), .int .u8 0, .int .u16 0], 45)]) ?_ ?_); exact K7.out.setCell 2 _ _ _ _ rfl 3 _ rfl; intro y8 K8; clear cS zS)
    | (go_at_call 72; (with_reducible refine (hh_n.out y6).mono ?_); rintro e y7 ⟨rfl, H⟩; have K7 : Hid (Fm w [(w.heap.size, WCp, 88), (w.heap.size + 1, #[.int .u8 0, .int .u8 0, .int .u8 0, .int .u8 0, .int .u8 0, .int .u16 0], 45), (y0.heap.size, #[.int .u8 (op : Int), .int .u8 (x : Int), .int .u8 (y : Int), .int .u8 0, .int .u8 0, .int .u16 0], 45)] y7) := K6.out.below H; clear H hh_n; have cS := (K7.out.bx 2 _ _ _ rfl).c 3 (.int .u8 0) rfl; have zS := (K7.out.bx 2 _ _ _ rfl).fz 3)
    | ((with_reducible refine gen_world (y5.setCell ⟨y0.heap.size, 2, none⟩ (.int .u8 (y : Int))) (Fm w [(w.heap.size, WCp, 88), (w.heap.size + 1, #[.int .u8 0, .int .u8 0, .int .u8 0, .int .u8 0, .int .u8 0, .int .u16 0], 45), (y0.heap.size, #[.int .u8 (op : Int), .int .u8 (x : Int), .int .u8 (y : Int), .int .u8 0, .int .u8 0, .int .u16 0], 45)]) ?_ ?_); exact K5.out.setCell 2 _ _ _ _ rfl 2 _ rfl; intro y6 K6; clear cS zS)
    | (go_at_call 72; (with_reducible refine (hh_y.out y4).mono ?_); rintro e y5 ⟨rfl, H⟩; have K5 : Hid (Fm w [(w.heap.size, WCp, 88), (w.heap.size + 1, #[.int .u8 0, .int .u8 0, .int .u8 0, .int .u8 0, .int .u8 0, .int .u16 0], 45), (y0.heap.size, #[.int .u8 (op : Int), .int .u8 (x : Int), .int .u8 0, .int .u8 0, .int .u8 0, .int .u16 0], 45)] y5) := K4.out.below H; clear H hh_y; have cS := (K5.out.bx 2 _ _ _ rfl).c 2 (.int .u8 0) rfl; have zS := (K5.out.bx 2 _ _ _ rfl).fz 2)
    | ((with_reducible refine gen_world (y3.setCell ⟨y0.heap.size, 1, none⟩ (.int .u8 (x : Int))) (Fm w [(w.heap.size, WCp, 88), (w.heap.size + 1, #[.int .u8 0, .int .u8 0, .int .u8 0, .int .u8 0, .int .u8 0, .int .u16 0], 45), (y0.heap.size, #[.int .u8 (op : Int), .int .u8 (x : Int), .int .u8 0, .int .u8 0, .int .u8 0, .int .u16 0], 45)]) ?_ ?_); exact K3.out.setCell 2 _ _ _ _ rfl 1 _ rfl; intro y4 K4; clear cS zS)
    | (go_at_call 72; (with_reducible refine (hh_x.out y2).mono ?_); rintro e y3 ⟨rfl, H⟩; have K3 : Hid (Fm w [(w.heap.size, WCp, 88), (w.heap.size + 1, #[.int .u8 0, .int .u8 0, .int .u8 0, .int .u8 0, .int .u8 0, .int .u16 0], 45), (y0.heap.size, #[.int .u8 (op : Int), .int .u8 0, .int .u8 0, .int .u8 0, .int .u8 0, .int .u16 0], 45)] y3) := K2.out.below H; clear H hh_x; have cS := (K3.out.bx 2 _ _ _ rfl).c 1 (.int .u8 0) rfl; have zS := (K3.out.bx 2 _ _ _ rfl).fz 1)
    | ((with_reducible refine at_st rtO y0.heap.size #[.int .u8 0, .int .u8 0, .int .u8 0, .int .u8 0, .int .u8 0, .int .u16 0] #[.int .u8 (op : Int), .int .u8 0, .int .u8 0, .int .u8 0, .int .u8 0, .int .u16 0] ?_ ?_ ?_ ?_ (.tmp 5) (.tmp 8) ?_ ?_ ?_ ?_ ?_); exact K1.out.bx 2 _ _ _ rfl; rfl; rfl; (simp [Value.oneCell']); rfl; rfl; rfl; rfl; intro y2 H2; have K2 : Hid (Fm w [(w.heap.size, WCp, 88), (w.heap.size + 1, #[.int .u8 0, .int .u8 0, .int .u8 0, .int .u8 0, .int .u8 0, .int .u16 0], 45), (y0.heap.size, #[.int .u8 (op : Int), .int .u8 0, .int .u8 0, .int .u8 0, .int .u8 0, .int .u16 0], 45)] y2) := K1.out.put 2 _ _ _ _ rfl H2.out; clear H2)
    | ((with_reducible refine gen_world (y0.alloc (.cells #[.int .u8 0, .int .u8 0, .int .u8 0, .int .u8 0, .int .u8 0, .int .u16 0] 45)) (Fm w [(w.heap.size, WCp, 88), (w.heap.size + 1, #[.int .u8 0, .int .u8 0, .int .u8 0, .int .u8 0, .int .u8 0, .int .u16 0], 45), (y0.heap.size, #[.int .u8 0, .int .u8 0, .int .u8 0, .int .u8 0, .int .u8 0, .int .u16 0], 45)]) ?_ ?_); exact K0.out.new _ _; intro y1 K1)
    | ((with_reducible refine at_bu #[(0, .tmp 7)] [(0, .int .u8 (op : Int))] #[.int .u8 (op : Int), .int .u8 0, .int .u8 0, .int .u8 0, .int .u8 0, .int .u16 0] ?_ ?_ ?_ (builtO1 op) ?_); kernel_rfl; rfl; kernel_rfl)
    | ((with_reducible refine gen_world ((w.alloc (.cells #[.int .u8 (op : Int), .int .u16 (fx : Int), .string ⟨([120, 121, 110] : List UInt8).toArray⟩, .string M] 88)).alloc (.cells #[.int .u8 0, .int .u8 0, .int .u8 0, .int .u8 0, .int .u8 0, .int .u16 0] 45)) (Fm w [(w.heap.size, WCp, 88), (w.heap.size + 1, #[.int .u8 0, .int .u8 0, .int .u8 0, .int .u8 0, .int .u8 0, .int .u16 0], 45)]) ?_ ?_); (rw [hW.out]; exact Fm.two w _ _ _ _); intro y0 K0; have c0 := (K0.out.bx 0 _ _ _ rfl).c 0 (.int .u8 (op : Int)) (by rw [hW.out]; rfl))
    | ((with_reducible refine at_load rtW w.heap.size WCp ?_ ?_ (.tmp 2) ?_ ?_ ?_ ?_); (first | exact K9.out.bx 0 _ _ _ rfl | exact K8.out.bx 0 _ _ _ rfl | exact K6.out.bx 0 _ _ _ rfl | exact K4.out.bx 0 _ _ _ rfl | exact K2.out.bx 0 _ _ _ rfl); (rw [hW.out]; rfl); kernel_rfl; rfl; rfl)
    | ((with_reducible refine at_load rtO y0.heap.size #[.int .u8 (op : Int), .int .u8 (x : Int), .int .u8 (y : Int), .int .u8 (n : Int), .int .u8 0, .int .u16 0] ?_ ?_ (.tmp 5) ?_ ?_ ?_ ?_); exact K10.out.bx 2 _ _ _ rfl; rfl; kernel_rfl; rfl; rfl))
  exact ret_row rtO rfl rfl (KE.out.bx 1 _ _ _ rfl) rfl rfl ⟨rfl, KE.out.low⟩
theorem wrd_xyn (w : World) (op fx : Nat) (M : ByteArray) (oo x y n b a : Nat) (hr : x < 16 ∧ y < 16 ∧ n < 16 ∧ b < 256 ∧ a < 65536 ∧ fx < 65536) (mx : Nat) (hmx : x * 256 = mx) (sx : Nat) (hsx : fx + mx = sx) (gsx : sx < 65536) (my : Nat) (hmy : y * 16 = my) (sy : Nat) (hsy : sx + my = sy) (gsy : sy < 65536) (sn : Nat) (hsn : sy + n = sn) (gsn : sn < 65536) :
    Calls Try.prog 40 #[.agg #[.int .u8 (op : Int), .int .u16 (fx : Int), .string ⟨([120, 121, 110] : List UInt8).toArray⟩, .string M], .agg #[.int .u8 (oo : Int), .int .u8 (x : Int), .int .u8 (y : Int), .int .u8 (n : Int), .int .u8 (b : Int), .int .u16 (a : Int)]] w fun e w' => e = .returned (.int .u16 (sn : Int)) ∧ Below w.heap.size w w' := by
  obtain ⟨WCp, hW⟩ : ∃ x : Array Value, Hid (x = #[.int .u8 (op : Int), .int .u16 (fx : Int), .string ⟨([120, 121, 110] : List UInt8).toArray⟩, .string M]) := ⟨(#[.int .u8 (op : Int), .int .u16 (fx : Int), .string ⟨([120, 121, 110] : List UInt8).toArray⟩, .string M] : Array Value), (rfl : (#[.int .u8 (op : Int), .int .u16 (fx : Int), .string ⟨([120, 121, 110] : List UInt8).toArray⟩, .string M] : Array Value) = #[.int .u8 (op : Int), .int .u16 (fx : Int), .string ⟨([120, 121, 110] : List UInt8).toArray⟩, .string M])⟩
  obtain ⟨OC, hO⟩ : ∃ q : Array Value, Hid (q = #[.int .u8 (oo : Int), .int .u8 (x : Int), .int .u8 (y : Int), .int .u8 (n : Int), .int .u8 (b : Int), .int .u16 (a : Int)]) := ⟨(#[.int .u8 (oo : Int), .int .u8 (x : Int), .int .u8 (y : Int), .int .u8 (n : Int), .int .u8 (b : Int), .int .u16 (a : Int)] : Array Value), (rfl : (#[.int .u8 (oo : Int), .int .u8 (x : Int), .int .u8 (y : Int), .int .u8 (n : Int), .int .u8 (b : Int), .int .u16 (a : Int)] : Array Value) = #[.int .u8 (oo : Int), .int .u8 (x : Int), .int .u8 (y : Int), .int .u8 (n : Int), .int .u8 (b : Int), .int .u16 (a : Int)])⟩
  have hh_x : Hid (∀ u, Calls Try.prog 72 #[.agg WCp, .int .u8 120] u fun e w' => e = .returned (.bool true) ∧ Below u.heap.size u w') := fun u => by rw [hW.out]; exact has_xyn_x u op fx M
  have hh_y : Hid (∀ u, Calls Try.prog 72 #[.agg WCp, .int .u8 121] u fun e w' => e = .returned (.bool true) ∧ Below u.heap.size u w') := fun u => by rw [hW.out]; exact has_xyn_y u op fx M
  have hh_n : Hid (∀ u, Calls Try.prog 72 #[.agg WCp, .int .u8 110] u fun e w' => e = .returned (.bool true) ∧ Below u.heap.size u w') := fun u => by rw [hW.out]; exact has_xyn_n u op fx M
  have hh_b : Hid (∀ u, Calls Try.prog 72 #[.agg WCp, .int .u8 98] u fun e w' => e = .returned (.bool false) ∧ Below u.heap.size u w') := fun u => by rw [hW.out]; exact has_xyn_b u op fx M
  have hh_a : Hid (∀ u, Calls Try.prog 72 #[.agg WCp, .int .u8 97] u fun e w' => e = .returned (.bool false) ∧ Below u.heap.size u w') := fun u => by rw [hW.out]; exact has_xyn_a u op fx M
  have i0 : (fx : Int) < 65536 := by omega
  have a1 : (x : Int) * 256 = (mx : Int) := by omega
  have a2 : (mx : Int) < 65536 := by omega
  have a3 : (x : Int) < 256 := by omega
  have esx : (fx : Int) + (mx : Int) = (sx : Int) := by omega
  have fsx : (sx : Int) < 65536 := by omega
  have b1 : (y : Int) * 16 = (my : Int) := by omega
  have b2 : (my : Int) < 65536 := by omega
  have b3 : (y : Int) < 256 := by omega
  have esy : (sx : Int) + (my : Int) = (sy : Int) := by omega
  have fsy : (sy : Int) < 65536 := by omega
  have c1n : (n : Int) < 256 := by omega
  have esn : (sy : Int) + (n : Int) = (sn : Int) := by omega
  have fsn : (sn : Int) < 65536 := by omega
  clear hr hmx hsx gsx hmy hsy gsy hsn gsn
  go_enter Try.func40, Try.ntmps40
  go_wp2_with (first
    | (go_at_call 72; (with_reducible refine (hh_a.out y4).mono ?_); rintro e y5 ⟨rfl, H⟩; have K5 : Hid (Fm w [(w.heap.size, WCp, 88), (w.heap.size + 1, OC, 45)] y5) := K4.out.below H; clear H hh_a)
    | (go_at_call 72; (with_reducible refine (hh_b.out y3).mono ?_); rintro e y4 ⟨rfl, H⟩; have K4 : Hid (Fm w [(w.heap.size, WCp, 88), (w.heap.size + 1, OC, 45)] y4) := K3.out.below H; clear H hh_b)
    | (go_at_call 72; (with_reducible refine (hh_n.out y2).mono ?_); rintro e y3 ⟨rfl, H⟩; have K3 : Hid (Fm w [(w.heap.size, WCp, 88), (w.heap.size + 1, OC, 45)] y3) := K2.out.below H; clear H hh_n; have cFn := (K3.out.bx 1 _ _ _ rfl).c 3 (.int .u8 (n : Int)) (by rw [hO.out]; rfl))
    | (go_at_call 72; (with_reducible refine (hh_y.out y1).mono ?_); rintro e y2 ⟨rfl, H⟩; have K2 : Hid (Fm w [(w.heap.size, WCp, 88), (w.heap.size + 1, OC, 45)] y2) := K1.out.below H; clear H hh_y; have cFy := (K2.out.bx 1 _ _ _ rfl).c 2 (.int .u8 (y : Int)) (by rw [hO.out]; rfl))
    | (go_at_call 72; (with_reducible refine (hh_x.out y0).mono ?_); rintro e y1 ⟨rfl, H⟩; have K1 : Hid (Fm w [(w.heap.size, WCp, 88), (w.heap.size + 1, OC, 45)] y1) := K0.out.below H; clear H hh_x; have cFx := (K1.out.bx 1 _ _ _ rfl).c 1 (.int .u8 (x : Int)) (by rw [hO.out]; rfl))
    | ((with_reducible refine gen_world ((w.alloc (.cells #[.int .u8 (op : Int), .int .u16 (fx : Int), .string ⟨([120, 121, 110] : List UInt8).toArray⟩, .string M] 88)).alloc (.cells #[.int .u8 (oo : Int), .int .u8 (x : Int), .int .u8 (y : Int), .int .u8 (n : Int), .int .u8 (b : Int), .int .u16 (a : Int)] 45)) (Fm w [(w.heap.size, WCp, 88), (w.heap.size + 1, OC, 45)]) ?_ ?_); (rw [hW.out, hO.out]; exact Fm.two w _ _ _ _); intro y0 K0; have c1 := (K0.out.bx 0 _ _ _ rfl).c 1 (.int .u16 (fx : Int)) (by rw [hW.out]; rfl))
    | ((with_reducible refine at_load rtW w.heap.size WCp ?_ ?_ (.tmp 2) ?_ ?_ ?_ ?_); (first | exact K4.out.bx 0 _ _ _ rfl | exact K3.out.bx 0 _ _ _ rfl | exact K2.out.bx 0 _ _ _ rfl | exact K1.out.bx 0 _ _ _ rfl | exact K0.out.bx 0 _ _ _ rfl); (rw [hW.out]; rfl); kernel_rfl; rfl; rfl))
  go_ret
  exact ⟨rfl, K5.out.low⟩
end Go.Proofs.Ytigiebfdaiccdaa

namespace Go.Proofs.Ytigiebfdaiccdaa
open Go Go.RowKit Go.Shelf
set_option linter.unusedVariables false
set_option maxHeartbeats 1000000
set_option maxRecDepth 100000

theorem fv_x (w : Nat) (hw : w < 65536) : (((w &&& 3840) >>> 8) % 256 == w / 256 % 16) = true := all_words (fun w => ((w &&& 3840) >>> 8) % 256 == w / 256 % 16) (by decide +kernel) w hw
theorem fv_y (w : Nat) (hw : w < 65536) : (((w &&& 240) >>> 4) % 256 == w / 16 % 16) = true := all_words (fun w => ((w &&& 240) >>> 4) % 256 == w / 16 % 16) (by decide +kernel) w hw
theorem fv_n (w : Nat) (hw : w < 65536) : (((w &&& 15) >>> 0) % 256 == w % 16) = true := all_words (fun w => ((w &&& 15) >>> 0) % 256 == w % 16) (by decide +kernel) w hw
theorem fv_b (w : Nat) (hw : w < 65536) : (((w &&& 255) >>> 0) % 256 == w % 256) = true := all_words (fun w => ((w &&& 255) >>> 0) % 256 == w % 256) (by decide +kernel) w hw
theorem fv_a (w : Nat) (hw : w < 65536) : ((w &&& 4095) >>> 0 == w % 4096) = true := all_words (fun w => (w &&& 4095) >>> 0 == w % 4096) (by decide +kernel) w hw
theorem cl_x (w : Nat) (hw : w < 65536) : ((w &&& 61695) + w / 256 % 16 * 256 == w && (w &&& 61695) / 4096 == w / 4096) = true := all_words (fun w => (w &&& 61695) + w / 256 % 16 * 256 == w && (w &&& 61695) / 4096 == w / 4096) (by decide +kernel) w hw
theorem cl_a (w : Nat) (hw : w < 65536) : ((w &&& 61440) + w % 4096 == w && (w &&& 61440) / 4096 == w / 4096) = true := all_words (fun w => (w &&& 61440) + w % 4096 == w && (w &&& 61440) / 4096 == w / 4096) (by decide +kernel) w hw
theorem cl_xy (w : Nat) (hw : w < 65536) : ((w &&& 61695 &&& 65295) + w / 256 % 16 * 256 + w / 16 % 16 * 16 == w && (w &&& 61695 &&& 65295) / 4096 == w / 4096) = true := all_words (fun w => (w &&& 61695 &&& 65295) + w / 256 % 16 * 256 + w / 16 % 16 * 16 == w && (w &&& 61695 &&& 65295) / 4096 == w / 4096) (by decide +kernel) w hw
theorem cl_xb (w : Nat) (hw : w < 65536) : ((w &&& 61695 &&& 65280) + w / 256 % 16 * 256 + w % 256 == w && (w &&& 61695 &&& 65280) / 4096 == w / 4096) = true := all_words (fun w => (w &&& 61695 &&& 65280) + w / 256 % 16 * 256 + w % 256 == w && (w &&& 61695 &&& 65280) / 4096 == w / 4096) (by decide +kernel) w hw
theorem cl_xyn (w : Nat) (hw : w < 65536) : ((w &&& 61695 &&& 65295 &&& 65520) + w / 256 % 16 * 256 + w / 16 % 16 * 16 + w % 16 == w && (w &&& 61695 &&& 65295 &&& 65520) / 4096 == w / 4096) = true := all_words (fun w => (w &&& 61695 &&& 65295 &&& 65520) + w / 256 % 16 * 256 + w / 16 % 16 * 16 + w % 16 == w && (w &&& 61695 &&& 65295 &&& 65520) / 4096 == w / 4096) (by decide +kernel) w hw
theorem ordR_0 (i v : Nat) (hv : v < 65536) (e : fsR i = []) : ordR i v = ⟨opR i, 0, 0, 0, 0, 0⟩ := by
  have h : ordR i v = ⟨opR i, 0, 0, 0, 0, 0⟩ := by
    unfold ordR
    rw [e]
    rfl
  rw [h]
theorem tak_0 (i v : Nat) (hv : v < 65536) (e : fsR i = []) : (wdR i + 0 = v ↔ takR i v = true) ∧ clrF v (fsR i) / 4096 = v / 4096 := by
  have h : clrF v (fsR i) = v := by rw [e]; rfl
  unfold takR
  rw [h]
  simp
  omega
theorem ordR_x (i v : Nat) (hv : v < 65536) (e : fsR i = [0]) : ordR i v = ⟨opR i, v / 256 % 16, 0, 0, 0, 0⟩ := by
  have h : ordR i v = ⟨opR i, ((v &&& 3840) >>> 8) % 256, 0, 0, 0, 0⟩ := by
    unfold ordR
    rw [e]
    rfl
  rw [h, eq_of_beq (fv_x v hv)]
theorem tak_x (i v : Nat) (hv : v < 65536) (e : fsR i = [0]) : (wdR i + (v / 256 % 16 * 256) = v ↔ takR i v = true) ∧ clrF v (fsR i) / 4096 = v / 4096 := by
  have h : clrF v (fsR i) = v &&& 61695 := by rw [e]; rfl
  have hc := cl_x v hv
  simp only [Bool.and_eq_true, beq_iff_eq] at hc
  unfold takR
  rw [h]
  refine ⟨?_, hc.2⟩
  rw [beq_iff_eq]
  omega
theorem ordR_a (i v : Nat) (hv : v < 65536) (e : fsR i = [4]) : ordR i v = ⟨opR i, 0, 0, 0, 0, v % 4096⟩ := by
  have h : ordR i v = ⟨opR i, 0, 0, 0, 0, (v &&& 4095) >>> 0⟩ := by
    unfold ordR
    rw [e]
    rfl
  rw [h, eq_of_beq (fv_a v hv)]
theorem tak_a (i v : Nat) (hv : v < 65536) (e : fsR i = [4]) : (wdR i + (v % 4096) = v ↔ takR i v = true) ∧ clrF v (fsR i) / 4096 = v / 4096 := by
  have h : clrF v (fsR i) = v &&& 61440 := by rw [e]; rfl
  have hc := cl_a v hv
  simp only [Bool.and_eq_true, beq_iff_eq] at hc
  unfold takR
  rw [h]
  refine ⟨?_, hc.2⟩
  rw [beq_iff_eq]
  omega
theorem ordR_xy (i v : Nat) (hv : v < 65536) (e : fsR i = [0, 1]) : ordR i v = ⟨opR i, v / 256 % 16, v / 16 % 16, 0, 0, 0⟩ := by
  have h : ordR i v = ⟨opR i, ((v &&& 3840) >>> 8) % 256, ((v &&& 240) >>> 4) % 256, 0, 0, 0⟩ := by
    unfold ordR
    rw [e]
    rfl
  rw [h, eq_of_beq (fv_x v hv), eq_of_beq (fv_y v hv)]
theorem tak_xy (i v : Nat) (hv : v < 65536) (e : fsR i = [0, 1]) : (wdR i + (v / 256 % 16 * 256 + v / 16 % 16 * 16) = v ↔ takR i v = true) ∧ clrF v (fsR i) / 4096 = v / 4096 := by
  have h : clrF v (fsR i) = v &&& 61695 &&& 65295 := by rw [e]; rfl
  have hc := cl_xy v hv
  simp only [Bool.and_eq_true, beq_iff_eq] at hc
  unfold takR
  rw [h]
  refine ⟨?_, hc.2⟩
  rw [beq_iff_eq]
  omega
theorem ordR_xb (i v : Nat) (hv : v < 65536) (e : fsR i = [0, 3]) : ordR i v = ⟨opR i, v / 256 % 16, 0, 0, v % 256, 0⟩ := by
  have h : ordR i v = ⟨opR i, ((v &&& 3840) >>> 8) % 256, 0, 0, ((v &&& 255) >>> 0) % 256, 0⟩ := by
    unfold ordR
    rw [e]
    rfl
  rw [h, eq_of_beq (fv_x v hv), eq_of_beq (fv_b v hv)]
theorem tak_xb (i v : Nat) (hv : v < 65536) (e : fsR i = [0, 3]) : (wdR i + (v / 256 % 16 * 256 + v % 256) = v ↔ takR i v = true) ∧ clrF v (fsR i) / 4096 = v / 4096 := by
  have h : clrF v (fsR i) = v &&& 61695 &&& 65280 := by rw [e]; rfl
  have hc := cl_xb v hv
  simp only [Bool.and_eq_true, beq_iff_eq] at hc
  unfold takR
  rw [h]
  refine ⟨?_, hc.2⟩
  rw [beq_iff_eq]
  omega
theorem ordR_xyn (i v : Nat) (hv : v < 65536) (e : fsR i = [0, 1, 2]) : ordR i v = ⟨opR i, v / 256 % 16, v / 16 % 16, v % 16, 0, 0⟩ := by
  have h : ordR i v = ⟨opR i, ((v &&& 3840) >>> 8) % 256, ((v &&& 240) >>> 4) % 256, ((v &&& 15) >>> 0) % 256, 0, 0⟩ := by
    unfold ordR
    rw [e]
    rfl
  rw [h, eq_of_beq (fv_x v hv), eq_of_beq (fv_y v hv), eq_of_beq (fv_n v hv)]
theorem tak_xyn (i v : Nat) (hv : v < 65536) (e : fsR i = [0, 1, 2]) : (wdR i + (v / 256 % 16 * 256 + v / 16 % 16 * 16 + v % 16) = v ↔ takR i v = true) ∧ clrF v (fsR i) / 4096 = v / 4096 := by
  have h : clrF v (fsR i) = v &&& 61695 &&& 65295 &&& 65520 := by rw [e]; rfl
  have hc := cl_xyn v hv
  simp only [Bool.and_eq_true, beq_iff_eq] at hc
  unfold takR
  rw [h]
  refine ⟨?_, hc.2⟩
  rw [beq_iff_eq]
  omega
theorem wd_room : ∀ i, i < 31 → wdR i + (if fsR i = [] then 0 else if fsR i = [4] then 4095 else if fsR i = [0] then 3840 else if fsR i = [0, 1] then 4080 else 4095) < 65536 := by decide +kernel
theorem wd_pairsB : ∀ i, i < 31 → ∀ j, j < 31 → (wdR i / 4096 != wdR j / 4096 || (i == j || ((i == 2 && Nat.blt j 2) || ((j == 2 && Nat.blt i 2) || (fsR i == fsR j && wdR i != wdR j))))) = true := by decide +kernel
theorem wd_pairs (i : Nat) (hi : i < 31) (j : Nat) (hj : j < 31) (h : wdR i / 4096 = wdR j / 4096) : i = j ∨ (i = 2 ∧ j < 2) ∨ (j = 2 ∧ i < 2) ∨ (fsR i = fsR j ∧ wdR i ≠ wdR j) := by
  have := wd_pairsB i hi j hj
  simpa [h, Nat.blt_eq] using this
theorem tak_nib (i v : Nat) (hi : i < 31) (hv : v < 65536) (h : takR i v = true) : wdR i / 4096 = v / 4096 := by
  have h1 : clrF v (fsR i) = wdR i := by unfold takR at h; exact eq_of_beq h
  rw [← h1]
  rcases fs_pats i hi with e | e | e | e | e | e
  · exact (tak_0 i v hv e).2
  · exact (tak_x i v hv e).2
  · exact (tak_a i v hv e).2
  · exact (tak_xy i v hv e).2
  · exact (tak_xb i v hv e).2
  · exact (tak_xyn i v hv e).2
theorem tak_one (i j v : Nat) (hi : i < 31) (hj : j < 31) (hv : v < 65536) (h : takR i v = true) (h2 : takR j v = true) : i = j ∨ (i = 2 ∧ j < 2) ∨ (j = 2 ∧ i < 2) := by
  rcases wd_pairs i hi j hj ((tak_nib i v hi hv h).trans (tak_nib j v hj hv h2).symm) with e | e | e | ⟨e1, e2⟩
  · exact .inl e
  · exact .inr (.inl e)
  · exact .inr (.inr e)
  · refine absurd ?_ e2
    unfold takR at h h2
    rw [← eq_of_beq h, ← eq_of_beq h2, e1]
theorem dR_lt (i : Nat) (h : i < 31) : dR i < 31 := by unfold dR; split <;> (try split) <;> (try split) <;> omega
theorem dR_inv (j : Nat) (h : j < 31) : ∃ i, i < 31 ∧ dR i = j := by
  by_cases h0 : j = 0
  · exact ⟨1, by decide, by rw [h0]; rfl⟩
  by_cases h1 : j = 1
  · exact ⟨2, by decide, by rw [h1]; rfl⟩
  by_cases h2 : j = 2
  · exact ⟨0, by decide, by rw [h2]; rfl⟩
  · exact ⟨j, h, by unfold dR; rw [if_neg h0, if_neg h1, if_neg h2]⟩
theorem dec_found (v m : Nat) (hv : v < 65536) (hm : m < 31) (h : takR (dR m) v = true) (hn : ∀ j, m < j → j < 31 → takR (dR j) v = false) : decO v = ordR (dR m) v ∧ decB v = true := by
  have e : decR v = some (dR m) := by
    refine fstI_some (dR_lt m hm) h fun j hj => ?_
    rcases hb : takR j v with _ | _
    · rfl
    · exfalso
      have hj31 : j < 31 := Nat.lt_trans hj (dR_lt m hm)
      rcases tak_one (dR m) j v (dR_lt m hm) hj31 hv h hb with e | ⟨e1, e2⟩ | ⟨e1, e2⟩
      · omega
      · have hm0 : m = 0 := by
          unfold dR at e1
          split at e1
          · assumption
          · split at e1
            · omega
            · split at e1 <;> omega
        rcases (show j = 0 ∨ j = 1 by omega) with rfl | rfl
        · exact absurd hb (by rw [show (0 : Nat) = dR 1 from rfl, hn 1 (by omega) (by omega)]; simp)
        · exact absurd hb (by rw [show (1 : Nat) = dR 2 from rfl, hn 2 (by omega) (by omega)]; simp)
      · omega
  exact ⟨decO_some e, by unfold decB; rw [e]; rfl⟩
theorem dec_notf (v : Nat) (hn : ∀ j, j < 31 → takR (dR j) v = false) : decO v = od0 ∧ decB v = false := by
  have e : decR v = none := fstI_none fun j hj => by
    obtain ⟨i, hi, rfl⟩ := dR_inv j hj
    exact hn i hi
  exact ⟨by unfold decO; rw [e], by unfold decB; rw [e]; rfl⟩
theorem ord_any (w : World) (i v : Nat) (hi : i < 31) (hv : v < 65536) : Calls Try.prog 39 #[.agg (dwC i).toArray, .int .u16 (v : Int)] w fun e w' => e = .returned (.agg (o6 (ordR i v))) ∧ Below w.heap.size w w' := by
  unfold dwC
  rcases fs_pats i hi with e | e | e | e | e | e
  · rw [ordR_0 i v hv e, e]
    exact ord_0 w (opR i) (wdR i) ⟨(nmR i).toArray⟩ v hv
  · rw [ordR_x i v hv e, e]
    exact ord_x w (opR i) (wdR i) ⟨(nmR i).toArray⟩ v hv _ _ rfl rfl
  · rw [ordR_a i v hv e, e]
    exact ord_a w (opR i) (wdR i) ⟨(nmR i).toArray⟩ v hv _ rfl
  · rw [ordR_xy i v hv e, e]
    exact ord_xy w (opR i) (wdR i) ⟨(nmR i).toArray⟩ v hv _ _ rfl rfl _ _ rfl rfl
  · rw [ordR_xb i v hv e, e]
    exact ord_xb w (opR i) (wdR i) ⟨(nmR i).toArray⟩ v hv _ _ rfl rfl _ rfl
  · rw [ordR_xyn i v hv e, e]
    exact ord_xyn w (opR i) (wdR i) ⟨(nmR i).toArray⟩ v hv _ _ rfl rfl _ _ rfl rfl _ rfl
theorem wrd_any (i v : Nat) (hi : i < 31) (hv : v < 65536) : ∃ V : Nat, (V = v ↔ takR i v = true) ∧ ∀ w, Calls Try.prog 40 #[.agg (dwC i).toArray, .agg (o6 (ordR i v))] w fun e w' => e = .returned (.int .u16 (V : Int)) ∧ Below w.heap.size w w' := by
  have hr := wd_room i hi
  have hb := wd_bnd i hi
  unfold dwC
  rcases fs_pats i hi with e | e | e | e | e | e
  · rw [ordR_0 i v hv e, e]
    rw [e] at hr
    simp at hr
    refine ⟨wdR i, ?_, fun w => ?_⟩
    · have := (tak_0 i v hv e).1
      exact ⟨fun h => this.1 (by omega), fun h => by have := this.2 h; omega⟩
    · exact wrd_0 w (opR i) (wdR i) ⟨(nmR i).toArray⟩ (opR i) 0 0 0 0 0 (by omega)
  · rw [ordR_x i v hv e, e]
    rw [e] at hr
    simp at hr
    refine ⟨wdR i + v / 256 % 16 * 256, ?_, fun w => ?_⟩
    · have := (tak_x i v hv e).1
      exact ⟨fun h => this.1 (by omega), fun h => by have := this.2 h; omega⟩
    · exact wrd_x w (opR i) (wdR i) ⟨(nmR i).toArray⟩ (opR i) (v / 256 % 16) 0 0 0 0 (by omega) _ rfl _ rfl (by omega)
  · rw [ordR_a i v hv e, e]
    rw [e] at hr
    simp at hr
    refine ⟨wdR i + v % 4096, ?_, fun w => ?_⟩
    · have := (tak_a i v hv e).1
      exact ⟨fun h => this.1 (by omega), fun h => by have := this.2 h; omega⟩
    · exact wrd_a w (opR i) (wdR i) ⟨(nmR i).toArray⟩ (opR i) 0 0 0 0 (v % 4096) (by omega) _ rfl (by omega)
  · rw [ordR_xy i v hv e, e]
    rw [e] at hr
    simp at hr
    refine ⟨wdR i + v / 256 % 16 * 256 + v / 16 % 16 * 16, ?_, fun w => ?_⟩
    · have := (tak_xy i v hv e).1
      exact ⟨fun h => this.1 (by omega), fun h => by have := this.2 h; omega⟩
    · exact wrd_xy w (opR i) (wdR i) ⟨(nmR i).toArray⟩ (opR i) (v / 256 % 16) (v / 16 % 16) 0 0 0 (by omega) _ rfl _ rfl (by omega) _ rfl _ rfl (by omega)
  · rw [ordR_xb i v hv e, e]
    rw [e] at hr
    simp at hr
    refine ⟨wdR i + v / 256 % 16 * 256 + v % 256, ?_, fun w => ?_⟩
    · have := (tak_xb i v hv e).1
      exact ⟨fun h => this.1 (by omega), fun h => by have := this.2 h; omega⟩
    · exact wrd_xb w (opR i) (wdR i) ⟨(nmR i).toArray⟩ (opR i) (v / 256 % 16) 0 0 (v % 256) 0 (by omega) _ rfl _ rfl (by omega) _ rfl (by omega)
  · rw [ordR_xyn i v hv e, e]
    rw [e] at hr
    simp at hr
    refine ⟨wdR i + v / 256 % 16 * 256 + v / 16 % 16 * 16 + v % 16, ?_, fun w => ?_⟩
    · have := (tak_xyn i v hv e).1
      exact ⟨fun h => this.1 (by omega), fun h => by have := this.2 h; omega⟩
    · exact wrd_xyn w (opR i) (wdR i) ⟨(nmR i).toArray⟩ (opR i) (v / 256 % 16) (v / 16 % 16) (v % 16) 0 0 (by omega) _ rfl _ rfl (by omega) _ rfl _ rfl (by omega) _ rfl (by omega)
theorem dw_at {y : World} {g : Nat} (h : Bx y g (rowL dwC ((List.range 31).map dR)).toArray 88) (k : Nat) (hk : k < 31) : y.rangeAt g (k * 4) (dwC (dR k)).toArray.toList := fun i v hv => by
  have hv' : (dwC (dR k))[i]? = some v := by simpa using hv
  have hi : i < 4 := (List.getElem?_eq_some_iff.1 hv').1
  refine h.c (k * 4 + i) v ?_
  rw [List.getElem?_toArray, rowL_at (s := 4) (fun _ => rfl) _ k i (dR k) (by simp [hk]) hi]
  exact hv'
end Go.Proofs.Ytigiebfdaiccdaa

namespace Go.Proofs.Ytigiebfdaiccdaa
open Go Go.RowKit Go.Shelf
set_option linter.unusedVariables false
set_option maxHeartbeats 2000000
set_option maxRecDepth 100000

theorem rdec_any (w : World) (v : Nat) (hv : v < 65536) : Calls Try.prog 29 #[.int .u16 (v : Int)] w fun e w' => e = .returned (.tuple #[.agg (o6 (decO v)), .bool (decB v)]) ∧ Below w.heap.size w w' := by
  have hv' : Hid (v < 65536) := hv
  have vi : (v : Int) < 65536 := by omega
  obtain ⟨WT, hWT⟩ : ∃ x : Array Value, Hid (x = (rowL dwC ((List.range 31).map dR)).toArray) := ⟨_, (rfl : (rowL dwC ((List.range 31).map dR)).toArray = (rowL dwC ((List.range 31).map dR)).toArray)⟩
  obtain ⟨RO, hRO⟩ : ∃ x, Hid (o6 (decO v) = x) := ⟨_, (rfl : o6 (decO v) = _)⟩
  obtain ⟨RB, hRB⟩ : ∃ x, Hid (decB v = x) := ⟨_, (rfl : decB v = _)⟩
  rw [hRO.out, hRB.out]
  clear hv
  go_enter Try.func29, Try.ntmps29
  go_wp2_with (first
    | ((with_reducible refine gen_world (w.alloc (.cells #[.int .u8 0, .int .u8 0, .int .u8 0, .int .u8 0, .int .u8 0, .int .u16 0] 45)) (Fm w [(w.heap.size, #[.int .u8 0, .int .u8 0, .int .u8 0, .int .u8 0, .int .u8 0, .int .u16 0], 45)]) ?_ ?_); exact Fm.one w _ _; intro y0 K0)
    | (go_at_call 38; refine (words_any y0).mono ?_; rintro e y1 ⟨rfl, H⟩; have K1 : Hid (Fm w [(w.heap.size, #[.int .u8 0, .int .u8 0, .int .u8 0, .int .u8 0, .int .u8 0, .int .u16 0], 45), (y0.heap.size, WT, 88)] y1) := K0.out.add H.out.2 (Nat.le_refl _) (by rw [hWT.out]; exact H.out.1); clear H))
  generalize y0.heap.size = gW at K1 ⊢
  go_loopw [5] (fun kv wz => ∃ (k : Nat) (z : Int) (u : World), u = wz ∧ kv = .int .i64 z ∧ Hid (z = (k : Int) - 1 ∧ k ≤ 31) ∧ Hid (Fm w [(w.heap.size, #[.int .u8 0, .int .u8 0, .int .u8 0, .int .u8 0, .int .u8 0, .int .u16 0], 45), (gW, WT, 88)] u ∧ ∀ j, k ≤ j → j < 31 → takR (dR j) v = false)) (fun kv _ => (intOf kv + 1).toNat)
  case atStart => exact ⟨31, 30, _, rfl, rfl, ⟨by decide, by decide⟩, ⟨K1.out, fun j h1 h2 => by omega⟩⟩
  case round =>
    obtain ⟨k, z, u0, rfl, rfl, hz, K⟩ := hrel
    obtain ⟨hz1, hk31⟩ := hz.out
    clear hz K0
    rcases k with _ | m
    · obtain rfl : z = -1 := by omega
      have fin : Hid (o6 (decO v) = #[.int .u8 0, .int .u8 0, .int .u8 0, .int .u8 0, .int .u8 0, .int .u16 0] ∧ decB v = false) := by
        have h := dec_notf v (fun j hj => K.out.2 j (by omega) hj)
        exact ⟨by rw [h.1]; rfl, h.2⟩
      clear hz1 hk31
      go_wp2_with (first
        | ((with_reducible refine at_bu #[] [] #[.int .u8 0, .int .u8 0, .int .u8 0, .int .u8 0, .int .u8 0, .int .u16 0] ?_ ?_ ?_ builtO0 ?_); kernel_rfl; rfl; rfl)
        | ((with_reducible refine at_st rtO w.heap.size #[.int .u8 0, .int .u8 0, .int .u8 0, .int .u8 0, .int .u8 0, .int .u16 0] #[.int .u8 0, .int .u8 0, .int .u8 0, .int .u8 0, .int .u8 0, .int .u16 0] ?_ ?_ ?_ ?_ (.tmp 2) (.tmp 42) ?_ ?_ ?_ ?_ ?_); exact K.out.1.bx 0 _ _ _ rfl; rfl; rfl; (simp [Value.oneCell']); rfl; rfl; rfl; rfl; intro yE HE; have KE : Hid (Fm w [(w.heap.size, #[.int .u8 0, .int .u8 0, .int .u8 0, .int .u8 0, .int .u8 0, .int .u16 0], 45), (gW, WT, 88)] yE) := K.out.1.put 0 _ _ _ _ rfl HE.out))
      exact ret_two rtO rfl rfl rfl (KE.out.bx 0 _ _ _ rfl) rfl rfl ⟨by rw [← hRO.out, ← hRB.out, fin.out.1, fin.out.2]; rfl, KE.out.low⟩
    · obtain rfl : z = (m : Int) := by omega
      have hm31 : m < 31 := by omega
      have hm' : Hid (m < 31) := hm31
      have mi : (m : Int) < 31 := by omega
      have q0 : decide ((0 : Int) ≤ (m : Int)) = true := by simp
      have hgW : Hid (gW < u0.heap.size) := heap_lt (K.out.1.bx 1 _ _ _ rfl)
      obtain ⟨p, hp⟩ : ∃ x, m * 4 = x := ⟨_, rfl⟩
      have ix := fun v => idxP (g := gW) (off := 0) (len := 31) (cap := 31) Try.underlying85 (s := 4) (by kernel_rfl) .i64 m v hm31
      simp only [Nat.zero_add] at ix
      rw [hp] at ix
      obtain ⟨V, hV, hw0⟩ := wrd_any (dR m) v (dR_lt m hm31) hv'.out
      have ho0 := fun u => ord_any u (dR m) v (dR_lt m hm31) hv'.out
      obtain ⟨op, hop⟩ : ∃ x, opR (dR m) = x := ⟨_, rfl⟩
      obtain ⟨DC, hD0⟩ : ∃ x, x = (dwC (dR m)).toArray := ⟨_, rfl⟩
      obtain ⟨OC, hO0⟩ : ∃ x, x = o6 (ordR (dR m) v) := ⟨_, rfl⟩
      have hR : Hid (∀ u, Bx u gW WT 88 → u.rangeAt gW p DC.toList) := fun u h => by rw [hD0, ← hp]; rw [hWT.out] at h; exact dw_at h m hm'.out
      have hR0 : Hid (∀ u, Bx u gW WT 88 → u.cell? ⟨gW, p, none⟩ = some (.int .u8 (op : Int))) := fun u h => by
        have := hR.out u h 0 (.int .u8 (op : Int)) (by rw [hD0, ← hop]; rfl)
        exact this
      have hDC : Hid (True ∧ DC.size = 4) := ⟨trivial, by rw [hD0]; rfl⟩
      have hOC : Hid (OC.size = 6) := by rw [hO0]; exact (rfl : _ = _)
      have hOC1 : Hid (OC.all (·.oneCell') = true) := by rw [hO0]; exact o6_one _
      have hw : Hid (∀ w, Calls Try.prog 40 #[.agg DC, .agg OC] w fun e w' => e = .returned (.int .u16 (V : Int)) ∧ Below w.heap.size w w') := by rw [hD0, hO0]; exact hw0
      have ho : Hid (∀ w, Calls Try.prog 39 #[.agg DC, .int .u16 (v : Int)] w fun e w' => e = .returned (.agg OC) ∧ Below w.heap.size w w') := by rw [hD0, hO0]; exact ho0
      have hrow : Hid (takR (dR m) v = true → o6 (decO v) = OC ∧ decB v = true) := fun h => by
        have := dec_found v m hv'.out hm'.out h (fun j h1 h2 => K.out.2 j (by omega) h2)
        exact ⟨by rw [this.1, hO0], this.2⟩
      have hmach : Hid (takR (dR m) v = true → op = 1 → v < 4096) := fun h h1 => by
        have hi2 : dR m = 2 := by
          have := op_row 2 (by decide) (dR m) (dR_lt m hm'.out) (by rw [hop, h1]; rfl)
          exact this
        rw [hi2] at h
        have := tak_nib 2 v (by decide) hv'.out h
        have h0 : wdR 2 = 0 := rfl
        rw [h0] at this
        omega
      clear hD0 hO0 hw0 ho0 hop hp hm31 hz1 hk31
      have nx0 : Hid (takR (dR m) v = false → ∀ j, m ≤ j → j < 31 → takR (dR j) v = false) := fun h j h1 h2 => by
        rcases Nat.eq_or_lt_of_le h1 with e | e
        · rw [← e]; exact h
        · exact K.out.2 j e h2
      go_upto_region 6 with (first
        | ((with_reducible refine at_st rtO u1.heap.size #[.int .u8 0, .int .u8 0, .int .u8 0, .int .u8 0, .int .u8 0, .int .u16 0] OC ?_ ?_ ?_ ?_ (.tmp 6) (.tmp 20) ?_ ?_ ?_ ?_ ?_); exact K2.out.bx 2 _ _ _ rfl; rfl; exact hOC.out; exact hOC1.out; rfl; rfl; rfl; rfl; intro u3 H3; have K3 : Hid (Fm w [(w.heap.size, #[.int .u8 0, .int .u8 0, .int .u8 0, .int .u8 0, .int .u8 0, .int .u16 0], 45), (gW, WT, 88), (u1.heap.size, OC, 45)] u3) := K2.out.put 2 _ _ _ _ rfl H3.out; clear H3)
        | ((with_reducible refine gen_world (u1.alloc (.cells #[.int .u8 0, .int .u8 0, .int .u8 0, .int .u8 0, .int .u8 0, .int .u16 0] 45)) (Fm w [(w.heap.size, #[.int .u8 0, .int .u8 0, .int .u8 0, .int .u8 0, .int .u8 0, .int .u16 0], 45), (gW, WT, 88), (u1.heap.size, #[.int .u8 0, .int .u8 0, .int .u8 0, .int .u8 0, .int .u8 0, .int .u16 0], 45)]) ?_ ?_); exact Ku.out.new _ _; intro u2 K2)
        | (go_at_call 39; refine (ho.out u0).mono ?_; rintro e u1 ⟨rfl, H⟩; have Ku : Hid (Fm w [(w.heap.size, #[.int .u8 0, .int .u8 0, .int .u8 0, .int .u8 0, .int .u8 0, .int .u16 0], 45), (gW, WT, 88)] u1) := K.out.1.below H; clear H)
        | ((with_reducible refine at_loadm rtW gW p DC ?_ ?_ (.tmp 17) ?_ ?_ ?_ ?_); exact hR.out _ (K.out.1.bx 1 _ _ _ rfl); exact hDC.out.2; kernel_rfl; rfl; rfl))
      rcases ht : takR (dR m) v with _ | _
      · have r1 : ((V : Int) == (v : Int)) = false := by
          have : V ≠ v := fun e => by rw [hV.1 e] at ht; cases ht
          simp; omega
        have nxt : Hid (∀ j, m ≤ j → j < 31 → takR (dR j) v = false) := nx0.out ht
        clear ht hV
        refine region_class_tail 19 (Fm w [(w.heap.size, #[.int .u8 0, .int .u8 0, .int .u8 0, .int .u8 0, .int .u8 0, .int .u16 0], 45), (gW, WT, 88), (u1.heap.size, OC, 45)]) (by kernel_rfl) (by kernel_rfl) K3.out.drew ?_
        simp only [List.take_succ_cons, List.take_zero, List.drop_succ_cons, List.drop_zero]
        with_reducible refine quiet_one (.slice (some ⟨gW, 0, none⟩) 31 31) ?_ ?_ ?_
        · kernel_rfl
        · intro u hy
          go_simp
        with_reducible refine quiet_one (.int .i64 (m : Int)) ?_ ?_ ?_
        · kernel_rfl
        · intro u hy
          go_simp
        with_reducible refine quiet_one (.pointer (some ⟨gW, p, none⟩)) ?_ ?_ ?_
        · kernel_rfl
        · intro u hy
          go_simp
        with_reducible refine quiet_one (.agg DC) ?_ ?_ ?_
        · kernel_rfl
        · intro u hy
          generalize hA : Act.put _ _ _ = A
          have e1 : A.eval (.tmp 23) = .pointer (some ⟨gW, p, none⟩) := by rw [← hA]; go_simp
          clear hA
          exact q_loadm (C := Fm w [(w.heap.size, #[.int .u8 0, .int .u8 0, .int .u8 0, .int .u8 0, .int .u8 0, .int .u16 0], 45), (gW, WT, 88), (u1.heap.size, OC, 45)]) rtW gW p DC (fun _ h => hR.out _ (h.bx 1 _ _ _ rfl)) hDC.out.2 (.tmp 23) rfl e1 u hy
        with_reducible refine quiet_one (.agg OC) ?_ ?_ ?_
        · kernel_rfl
        · intro u hy
          generalize hA : Act.put _ _ _ = A
          have e1 : A.eval (.tmp 6) = .pointer (some ⟨u1.heap.size, 0, none⟩) := by rw [← hA]; go_simp
          clear hA
          exact q_load (C := Fm w [(w.heap.size, #[.int .u8 0, .int .u8 0, .int .u8 0, .int .u8 0, .int .u8 0, .int .u16 0], 45), (gW, WT, 88), (u1.heap.size, OC, 45)]) rtO u1.heap.size OC (fun u' h' => h'.bx 2 _ _ _ rfl) hOC.out (.tmp 6) rfl e1 u hy
        with_reducible refine quiet_one (.int .u16 (V : Int)) ?_ ?_ ?_
        · kernel_rfl
        · intro u hy
          go_simp
          exact (hw.out u).mono fun e u' h' => ⟨h'.1, hy.below h'.2⟩
        with_reducible refine quiet_one (.int .u16 (v : Int)) ?_ ?_ ?_
        · kernel_rfl
        · intro u hy
          go_simp
        with_reducible refine quiet_one (.bool false) ?_ ?_ ?_
        · kernel_rfl
        · intro u hy
          go_simp
        with_reducible refine quiet_one (.bool false) ?_ ?_ ?_
        · kernel_rfl
        · intro u hy
          go_simp
        with_reducible refine quiet_skip ?_ ?_
        · kernel_rfl
        with_reducible refine quiet_skip ?_ ?_
        · kernel_rfl
        with_reducible refine quiet_skip ?_ ?_
        · kernel_rfl
        with_reducible refine quiet_skip ?_ ?_
        · kernel_rfl
        with_reducible refine quiet_skip ?_ ?_
        · kernel_rfl
        with_reducible refine quiet_skip ?_ ?_
        · kernel_rfl
        with_reducible refine quiet_skip ?_ ?_
        · kernel_rfl
        with_reducible refine quiet_skip ?_ ?_
        · kernel_rfl
        with_reducible refine quiet_skip ?_ ?_
        · kernel_rfl
        with_reducible refine quiet_skip ?_ ?_
        · kernel_rfl
        refine wpQuiet_nil ?_
        intro z3 K4
        replace K4 : Hid (Fm w [(w.heap.size, #[.int .u8 0, .int .u8 0, .int .u8 0, .int .u8 0, .int .u8 0, .int .u16 0], 45), (gW, WT, 88), (u1.heap.size, OC, 45)] z3) := K4
        go_simp
        go_wp2
        go_roundw
        case rel => exact ⟨m, (m : Int) - 1, z3, rfl, rfl, ⟨rfl, by have := hm'.out; omega⟩, ⟨K4.out.pre (l' := [_]), nxt.out⟩⟩
        case measure => simp [intOf]
      have r1 : ((V : Int) == (v : Int)) = true := by
        have := hV.2 ht
        simp; omega
      have fin : Hid (RO = OC ∧ RB = true) := by
        have := hrow.out ht
        exact ⟨by rw [← hRO.out]; exact this.1, by rw [← hRB.out]; exact this.2⟩
      by_cases h1 : op = 1
      · have r2 : ((op : Int) != 1) = false := by simp; omega
        have r3 : decide ((v : Int) < 4096) = true := by have := hmach.out ht h1; simp; omega
        have r3' : (v : Int) < 4096 := by have := hmach.out ht h1; omega
        clear ht hV h1
        refine region_class_tail 19 (Fm w [(w.heap.size, #[.int .u8 0, .int .u8 0, .int .u8 0, .int .u8 0, .int .u8 0, .int .u16 0], 45), (gW, WT, 88), (u1.heap.size, OC, 45)]) (by kernel_rfl) (by kernel_rfl) K3.out.drew ?_
        simp only [List.take_succ_cons, List.take_zero, List.drop_succ_cons, List.drop_zero]
        with_reducible refine quiet_one (.slice (some ⟨gW, 0, none⟩) 31 31) ?_ ?_ ?_
        · kernel_rfl
        · intro u hy
          go_simp
        with_reducible refine quiet_one (.int .i64 (m : Int)) ?_ ?_ ?_
        · kernel_rfl
        · intro u hy
          go_simp
        with_reducible refine quiet_one (.pointer (some ⟨gW, p, none⟩)) ?_ ?_ ?_
        · kernel_rfl
        · intro u hy
          go_simp
        with_reducible refine quiet_one (.agg DC) ?_ ?_ ?_
        · kernel_rfl
        · intro u hy
          generalize hA : Act.put _ _ _ = A
          have e1 : A.eval (.tmp 23) = .pointer (some ⟨gW, p, none⟩) := by rw [← hA]; go_simp
          clear hA
          exact q_loadm (C := Fm w [(w.heap.size, #[.int .u8 0, .int .u8 0, .int .u8 0, .int .u8 0, .int .u8 0, .int .u16 0], 45), (gW, WT, 88), (u1.heap.size, OC, 45)]) rtW gW p DC (fun _ h => hR.out _ (h.bx 1 _ _ _ rfl)) hDC.out.2 (.tmp 23) rfl e1 u hy
        with_reducible refine quiet_one (.agg OC) ?_ ?_ ?_
        · kernel_rfl
        · intro u hy
          generalize hA : Act.put _ _ _ = A
          have e1 : A.eval (.tmp 6) = .pointer (some ⟨u1.heap.size, 0, none⟩) := by rw [← hA]; go_simp
          clear hA
          exact q_load (C := Fm w [(w.heap.size, #[.int .u8 0, .int .u8 0, .int .u8 0, .int .u8 0, .int .u8 0, .int .u16 0], 45), (gW, WT, 88), (u1.heap.size, OC, 45)]) rtO u1.heap.size OC (fun u' h' => h'.bx 2 _ _ _ rfl) hOC.out (.tmp 6) rfl e1 u hy
        with_reducible refine quiet_one (.int .u16 (V : Int)) ?_ ?_ ?_
        · kernel_rfl
        · intro u hy
          go_simp
          exact (hw.out u).mono fun e u' h' => ⟨h'.1, hy.below h'.2⟩
        with_reducible refine quiet_one (.int .u16 (v : Int)) ?_ ?_ ?_
        · kernel_rfl
        · intro u hy
          go_simp
        with_reducible refine quiet_one (.bool true) ?_ ?_ ?_
        · kernel_rfl
        · intro u hy
          go_simp
        with_reducible refine quiet_one (.bool true) ?_ ?_ ?_
        · kernel_rfl
        · intro u hy
          go_simp
        with_reducible refine quiet_one (.slice (some ⟨gW, 0, none⟩) 31 31) ?_ ?_ ?_
        · kernel_rfl
        · intro u hy
          go_simp
        with_reducible refine quiet_one (.int .i64 (m : Int)) ?_ ?_ ?_
        · kernel_rfl
        · intro u hy
          go_simp
        with_reducible refine quiet_one (.pointer (some ⟨gW, p, none⟩)) ?_ ?_ ?_
        · kernel_rfl
        · intro u hy
          go_simp
        with_reducible refine quiet_one (.pointer (some ⟨gW, p, none⟩)) ?_ ?_ ?_
        · kernel_rfl
        · intro u hy
          go_simp
        with_reducible refine quiet_one (.int .u8 (op : Int)) ?_ ?_ ?_
        · kernel_rfl
        · intro u hy
          have x := hR0.out _ (hy.bx 1 _ _ _ rfl)
          go_simp
        with_reducible refine quiet_one (.bool false) ?_ ?_ ?_
        · kernel_rfl
        · intro u hy
          go_simp
        with_reducible refine quiet_one (.bool false) ?_ ?_ ?_
        · kernel_rfl
        · intro u hy
          go_simp
        with_reducible refine quiet_one (.int .u16 (v : Int)) ?_ ?_ ?_
        · kernel_rfl
        · intro u hy
          go_simp
        with_reducible refine quiet_one (.bool true) ?_ ?_ ?_
        · kernel_rfl
        · intro u hy
          go_simp
        with_reducible refine quiet_one (.bool true) ?_ ?_ ?_
        · kernel_rfl
        · intro u hy
          go_simp
        refine wpQuiet_nil ?_
        intro z3 K4
        replace K4 : Hid (Fm w [(w.heap.size, #[.int .u8 0, .int .u8 0, .int .u8 0, .int .u8 0, .int .u8 0, .int .u16 0], 45), (gW, WT, 88), (u1.heap.size, OC, 45)] z3) := K4
        go_simp
        go_wp2_with (first
          | ((with_reducible refine at_load rtO u1.heap.size OC ?_ ?_ (.tmp 6) ?_ ?_ ?_ ?_); exact K4.out.bx 2 _ _ _ rfl; exact hOC.out; kernel_rfl; rfl; rfl)
          | ((with_reducible refine at_st rtO w.heap.size #[.int .u8 0, .int .u8 0, .int .u8 0, .int .u8 0, .int .u8 0, .int .u16 0] OC ?_ ?_ ?_ ?_ (.tmp 2) (.tmp 41) ?_ ?_ ?_ ?_ ?_); exact K4.out.bx 0 _ _ _ rfl; rfl; exact hOC.out; exact hOC1.out; rfl; rfl; rfl; rfl; intro yE HE; have KE : Hid (Fm w [(w.heap.size, OC, 45), (gW, WT, 88), (u1.heap.size, OC, 45)] yE) := K4.out.put 0 _ _ _ _ rfl HE.out))
        exact ret_two rtO rfl rfl rfl (KE.out.bx 0 _ _ _ rfl) hOC.out rfl ⟨by rw [fin.out.1, fin.out.2]; rfl, KE.out.low⟩
      obtain ⟨N, hN⟩ : ∃ N, ((op : Int) != 1) = N := ⟨_, rfl⟩
      have hNt : Hid (N = true) := by show N = true; rw [← hN]; simp; omega
      clear ht hV h1
      refine region_class_tail 19 (Fm w [(w.heap.size, #[.int .u8 0, .int .u8 0, .int .u8 0, .int .u8 0, .int .u8 0, .int .u16 0], 45), (gW, WT, 88), (u1.heap.size, OC, 45)]) (by kernel_rfl) (by kernel_rfl) K3.out.drew ?_
      simp only [List.take_succ_cons, List.take_zero, List.drop_succ_cons, List.drop_zero]
      with_reducible refine quiet_one (.slice (some ⟨gW, 0, none⟩) 31 31) ?_ ?_ ?_
      · kernel_rfl
      · intro u hy
        go_simp
      with_reducible refine quiet_one (.int .i64 (m : Int)) ?_ ?_ ?_
      · kernel_rfl
      · intro u hy
        go_simp
      with_reducible refine quiet_one (.pointer (some ⟨gW, p, none⟩)) ?_ ?_ ?_
      · kernel_rfl
      · intro u hy
        go_simp
      with_reducible refine quiet_one (.agg DC) ?_ ?_ ?_
      · kernel_rfl
      · intro u hy
        generalize hA : Act.put _ _ _ = A
        have e1 : A.eval (.tmp 23) = .pointer (some ⟨gW, p, none⟩) := by rw [← hA]; go_simp
        clear hA
        exact q_loadm (C := Fm w [(w.heap.size, #[.int .u8 0, .int .u8 0, .int .u8 0, .int .u8 0, .int .u8 0, .int .u16 0], 45), (gW, WT, 88), (u1.heap.size, OC, 45)]) rtW gW p DC (fun _ h => hR.out _ (h.bx 1 _ _ _ rfl)) hDC.out.2 (.tmp 23) rfl e1 u hy
      with_reducible refine quiet_one (.agg OC) ?_ ?_ ?_
      · kernel_rfl
      · intro u hy
        generalize hA : Act.put _ _ _ = A
        have e1 : A.eval (.tmp 6) = .pointer (some ⟨u1.heap.size, 0, none⟩) := by rw [← hA]; go_simp
        clear hA
        exact q_load (C := Fm w [(w.heap.size, #[.int .u8 0, .int .u8 0, .int .u8 0, .int .u8 0, .int .u8 0, .int .u16 0], 45), (gW, WT, 88), (u1.heap.size, OC, 45)]) rtO u1.heap.size OC (fun u' h' => h'.bx 2 _ _ _ rfl) hOC.out (.tmp 6) rfl e1 u hy
      with_reducible refine quiet_one (.int .u16 (V : Int)) ?_ ?_ ?_
      · kernel_rfl
      · intro u hy
        go_simp
        exact (hw.out u).mono fun e u' h' => ⟨h'.1, hy.below h'.2⟩
      with_reducible refine quiet_one (.int .u16 (v : Int)) ?_ ?_ ?_
      · kernel_rfl
      · intro u hy
        go_simp
      with_reducible refine quiet_one (.bool true) ?_ ?_ ?_
      · kernel_rfl
      · intro u hy
        go_simp
      with_reducible refine quiet_one (.bool true) ?_ ?_ ?_
      · kernel_rfl
      · intro u hy
        go_simp
      with_reducible refine quiet_one (.slice (some ⟨gW, 0, none⟩) 31 31) ?_ ?_ ?_
      · kernel_rfl
      · intro u hy
        go_simp
      with_reducible refine quiet_one (.int .i64 (m : Int)) ?_ ?_ ?_
      · kernel_rfl
      · intro u hy
        go_simp
      with_reducible refine quiet_one (.pointer (some ⟨gW, p, none⟩)) ?_ ?_ ?_
      · kernel_rfl
      · intro u hy
        go_simp
      with_reducible refine quiet_one (.pointer (some ⟨gW, p, none⟩)) ?_ ?_ ?_
      · kernel_rfl
      · intro u hy
        go_simp
      with_reducible refine quiet_one (.int .u8 (op : Int)) ?_ ?_ ?_
      · kernel_rfl
      · intro u hy
        have x := hR0.out _ (hy.bx 1 _ _ _ rfl)
        go_simp
      with_reducible refine quiet_one (.bool N) ?_ ?_ ?_
      · kernel_rfl
      · intro u hy
        go_simp
      have hNt' : N = true := hNt.out
      subst hNt'
      with_reducible refine quiet_one (.bool true) ?_ ?_ ?_
      · kernel_rfl
      · intro u hy
        go_simp
      with_reducible refine quiet_skip ?_ ?_
      · kernel_rfl
      with_reducible refine quiet_skip ?_ ?_
      · kernel_rfl
      with_reducible refine quiet_one (.bool true) ?_ ?_ ?_
      · kernel_rfl
      · intro u hy
        go_simp
      refine wpQuiet_nil ?_
      intro z3 K4
      replace K4 : Hid (Fm w [(w.heap.size, #[.int .u8 0, .int .u8 0, .int .u8 0, .int .u8 0, .int .u8 0, .int .u16 0], 45), (gW, WT, 88), (u1.heap.size, OC, 45)] z3) := K4
      go_simp
      go_wp2_with (first
        | ((with_reducible refine at_load rtO u1.heap.size OC ?_ ?_ (.tmp 6) ?_ ?_ ?_ ?_); exact K4.out.bx 2 _ _ _ rfl; exact hOC.out; kernel_rfl; rfl; rfl)
        | ((with_reducible refine at_st rtO w.heap.size #[.int .u8 0, .int .u8 0, .int .u8 0, .int .u8 0, .int .u8 0, .int .u16 0] OC ?_ ?_ ?_ ?_ (.tmp 2) (.tmp 41) ?_ ?_ ?_ ?_ ?_); exact K4.out.bx 0 _ _ _ rfl; rfl; exact hOC.out; exact hOC1.out; rfl; rfl; rfl; rfl; intro yE HE; have KE : Hid (Fm w [(w.heap.size, OC, 45), (gW, WT, 88), (u1.heap.size, OC, 45)] yE) := K4.out.put 0 _ _ _ _ rfl HE.out))
      exact ret_two rtO rfl rfl rfl (KE.out.bx 0 _ _ _ rfl) hOC.out rfl ⟨by rw [fin.out.1, fin.out.2]; rfl, KE.out.low⟩
end Go.Proofs.Ytigiebfdaiccdaa
