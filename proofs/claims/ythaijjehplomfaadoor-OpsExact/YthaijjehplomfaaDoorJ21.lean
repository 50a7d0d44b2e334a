/- The document's own: the rows of words; has, order, word. -/
import Derived.Test.YthaijjehplomfaaDoorJ9
namespace Go.Proofs.YthaijjehplomfaaDoor
open Go Go.RowKit
set_option linter.unusedVariables false
set_option maxHeartbeats 1000000
set_option maxRecDepth 100000

def chK (k : Nat) : UInt8 := if k = 0 then 120 else if k = 1 then 121 else if k = 2 then 110 else if k = 3 then 98 else 97
def dwC (i : Nat) : List Value := [.int .u8 (opR i : Nat), .int .u16 (wdR i : Nat), .string ⟨((fsR i).map chK).toArray⟩, .string ⟨(nmR i).toArray⟩]
/-- The document's row, as one of ours. -/
def dR (i : Nat) : Nat := if i = 0 then 2 else if i = 1 then 0 else if i = 2 then 1 else i
theorem rtW : Rt Tryd.prog 64 4 := ⟨⟨_, Tryd.underlying64, rfl⟩, by kernel_rfl⟩
theorem riW : ∃ i z, Tryd.prog.info? 64 = some i ∧ i.zero = some z ∧ i.size = 4 ∧ z.cells = #[.int .u8 0, .int .u16 0, .string ⟨#[]⟩, .string ⟨#[]⟩] := by
  obtain ⟨i, h⟩ : ∃ i, Tryd.prog.info? 64 = some i := by
    rcases h : Tryd.prog.info? 64 with _ | i
    · have := rtW.i
      rw [h] at this
      cases this
    · exact ⟨i, rfl⟩
  have hz : (Tryd.prog.info? 64).bind (·.zero) = some (.agg #[.int .u8 0, .int .u16 0, .string ⟨#[]⟩, .string ⟨#[]⟩]) := by kernel_rfl
  have hs := rtW.i
  rw [h] at hz hs
  exact ⟨i, _, h, hz, by simpa using hs, rfl⟩
def partsW : Array (Nat × Operand) := #[(0, .tmp 1), (1, .tmp 2), (2, .tmp 3), (3, .tmp 4), (4, .tmp 5), (5, .tmp 6), (6, .tmp 7), (7, .tmp 8), (8, .tmp 9), (9, .tmp 10), (10, .tmp 11), (11, .tmp 12), (12, .tmp 13), (13, .tmp 14), (14, .tmp 15), (15, .tmp 16), (16, .tmp 17), (17, .tmp 18), (18, .tmp 19), (19, .tmp 20), (20, .tmp 21), (21, .tmp 22), (22, .tmp 23), (23, .tmp 24), (24, .tmp 25), (25, .tmp 26), (26, .tmp 27), (27, .tmp 28), (28, .tmp 29), (29, .tmp 30), (30, .tmp 31)]
theorem rWords_any (w : World) : Calls Tryd.prog 21 #[] w fun e w' => e = .returned (.slice (some ⟨w.heap.size, 0, none⟩) 31 31) ∧ Hid (Bx w' w.heap.size (rowL dwC ((List.range 31).map dR)).toArray 64 ∧ Below w.heap.size w w') := by
  obtain ⟨ii, zz, q1, q2, q3, q4⟩ := riW
  go_enter Tryd.func21, Tryd.ntmps21
  go_wp2_with ((with_reducible refine wpList_buildSlice ?_ 61 64 31 partsW ?_ (rowL dwC ((List.range 31).map dR)).toArray ii zz Tryd.underlying61 q1 q2 ?_ ?_ ?_ ?_); rfl; rfl; (rw [q3]; decide); (rw [q3]; decide); (rw [q3, q4]; show _ = _; kernel_rfl))
  go_ret
  exact ⟨rfl, ⟨alloc_last' w _, below1 w _⟩⟩
theorem has_any (w : World) (op fx : Nat) (L : List UInt8) (M : ByteArray) (f : Nat) (hf : (f : Int) < 256) (hL : L.length ≤ 100) :
    Calls Tryd.prog 37 #[.agg #[.int .u8 (op : Int), .int .u16 (fx : Int), .string ⟨L.toArray⟩, .string M], .int .u8 (f : Int)] w fun e w' => e = .returned (.bool (L.any fun b => b.toNat == f)) ∧ Below w.heap.size w w' := by
  obtain ⟨S, hS⟩ : ∃ S : ByteArray, S = ⟨L.toArray⟩ := ⟨_, rfl⟩
  rw [← hS]
  obtain ⟨n, hn⟩ : ∃ n, L.length = n := ⟨_, rfl⟩
  have hSn : S.size = n := by rw [hS, ← hn]; rfl
  have hix : Hid (∀ (k : Nat) (v : World), k < n → (Instr.index 9 (.string S) (.int .i64 (k : Int))).run Tryd.prog v = .ok (.int .u8 ((L.getD k 0).toNat : Int)) v) := fun k v hk => by
    have hb : (k : Int) < S.size := by rw [hSn]; omega
    rw [run_index_string v _ S _ _ Tryd.underlying9, dif_pos ⟨by omega, hb⟩]
    have e1 : S[((k : Int)).toNat]'(by omega) = L.getD k 0 := by
      subst hS
      simp [List.getD, hn, hk]
      rfl
    rw [e1]
  obtain ⟨R, hR⟩ : ∃ R, (L.any fun b => b.toNat == f) = R := ⟨_, rfl⟩
  rw [hR]
  have hR' : Hid ((L.any fun b => b.toNat == f) = R) := hR
  have hnn : Hid (L.length = n) := hn
  have ni : (n : Int) ≤ 100 := by omega
  have hSi : (S.size : Int) = (n : Int) := by omega
  have K0 : Hid (Fm w [(w.heap.size, #[.int .u8 (op : Int), .int .u16 (fx : Int), .string S, .string M], 64)] (w.alloc (.cells #[.int .u8 (op : Int), .int .u16 (fx : Int), .string S, .string M] 64))) := Fm.one w _ _
  clear hS hR hn hL
  go_enter Tryd.func37, Tryd.ntmps37
  go_wp2_with ((with_reducible refine gen_world (w.alloc (.cells #[.int .u8 (op : Int), .int .u16 (fx : Int), .string S, .string M] 64)) (Fm w [(w.heap.size, #[.int .u8 (op : Int), .int .u16 (fx : Int), .string S, .string M], 64)]) ?_ ?_); exact K0.out; intro y Y)
  go_loopw [5] (fun kv wz => ∃ (k : Nat) (u : World), u = wz ∧ k ≤ n ∧ kv = .int .i64 (k : Int) ∧ Hid (Fm w [(w.heap.size, #[.int .u8 (op : Int), .int .u16 (fx : Int), .string S, .string M], 64)] u ∧ ∀ j, j < k → (L.getD j 0).toNat ≠ f)) (fun kv _ => (n - intOf kv).toNat)
  case atStart => exact ⟨0, _, rfl, Nat.zero_le _, rfl, ⟨by first | exact Y.out | exact K0.out, fun j hj => by omega⟩⟩
  case round =>
    obtain ⟨k, u, rfl, hk, rfl, K⟩ := hrel
    have c2 := (K.out.1.bx 0 _ _ _ rfl).c 2 (.string S) rfl
    by_cases hlt : k < n
    · have hki : (k : Int) < (n : Int) := by omega
      have hks : (k : Int) < (S.size : Int) := by omega
      have hksn : k < S.size := by omega
      have hlt' : Hid (k < n) := hlt
      have ix := fun v => hix.out k v hlt
      obtain ⟨b, hb⟩ : ∃ b, (L.getD k 0).toNat = b := ⟨_, rfl⟩
      rw [hb] at ix
      by_cases he : b = f
      · have r1 : ((b : Int) == (f : Int)) = true := by simp; omega
        have fin : Hid (R = true) := by
          show R = true
          rw [← hR'.out, List.any_eq_true]
          exact ⟨L.getD k 0, by have := hnn.out; simp [List.getD, this, hlt], by rw [hb, he]; simp⟩
        clear hk hlt hb he
        go_wp2
        go_ret
        exact ⟨by rw [fin.out]; rfl, K.out.1.low⟩
      · have r1 : ((b : Int) == (f : Int)) = false := by simp; omega
        have K2 : Hid (Fm w [(w.heap.size, #[.int .u8 (op : Int), .int .u16 (fx : Int), .string S, .string M], 64)] u ∧ ∀ j, j < k + 1 → (L.getD j 0).toNat ≠ f) := ⟨K.out.1, fun j hj => by
          rcases Nat.lt_or_ge j k with c | c
          · exact K.out.2 j c
          · rw [show j = k by omega, hb]; exact he⟩
        clear hk hlt hb he
        go_wp2
        go_roundw
        case rel => exact ⟨k + 1, _, rfl, hlt'.out, by simp, K2⟩
        case measure => have := hlt'.out; simp [intOf]; omega
    · obtain rfl : k = n := by omega
      have fin : Hid (R = false) := by
        show R = false
        rw [← hR'.out, List.any_eq_false]
        intro x hx
        obtain ⟨j, hj, e⟩ := List.getElem_of_mem hx
        have := K.out.2 j (by rw [← hnn.out]; exact hj)
        simp only [List.getD_eq_getElem?_getD, List.getElem?_eq_getElem hj, Option.getD_some, e] at this
        simpa using this
      have hend : ¬ (k : Int) < (S.size : Int) := by omega
      have hend2 : ¬ k < S.size := by omega
      clear hk hlt
      go_wp2
      go_ret
      exact ⟨by rw [fin.out]; rfl, K.out.1.low⟩

theorem has_0_x (w : World) (op fx : Nat) (M : ByteArray) : Calls Tryd.prog 37 #[.agg #[.int .u8 (op : Int), .int .u16 (fx : Int), .string ⟨([] : List UInt8).toArray⟩, .string M], .int .u8 120] w fun e w' => e = .returned (.bool false) ∧ Below w.heap.size w w' := by
  have h := has_any w op fx [] M 120 (by decide) (by decide)
  exact h
theorem has_0_y (w : World) (op fx : Nat) (M : ByteArray) : Calls Tryd.prog 37 #[.agg #[.int .u8 (op : Int), .int .u16 (fx : Int), .string ⟨([] : List UInt8).toArray⟩, .string M], .int .u8 121] w fun e w' => e = .returned (.bool false) ∧ Below w.heap.size w w' := by
  have h := has_any w op fx [] M 121 (by decide) (by decide)
  exact h
theorem has_0_n (w : World) (op fx : Nat) (M : ByteArray) : Calls Tryd.prog 37 #[.agg #[.int .u8 (op : Int), .int .u16 (fx : Int), .string ⟨([] : List UInt8).toArray⟩, .string M], .int .u8 110] w fun e w' => e = .returned (.bool false) ∧ Below w.heap.size w w' := by
  have h := has_any w op fx [] M 110 (by decide) (by decide)
  exact h
theorem has_0_b (w : World) (op fx : Nat) (M : ByteArray) : Calls Tryd.prog 37 #[.agg #[.int .u8 (op : Int), .int .u16 (fx : Int), .string ⟨([] : List UInt8).toArray⟩, .string M], .int .u8 98] w fun e w' => e = .returned (.bool false) ∧ Below w.heap.size w w' := by
  have h := has_any w op fx [] M 98 (by decide) (by decide)
  exact h
theorem has_0_a (w : World) (op fx : Nat) (M : ByteArray) : Calls Tryd.prog 37 #[.agg #[.int .u8 (op : Int), .int .u16 (fx : Int), .string ⟨([] : List UInt8).toArray⟩, .string M], .int .u8 97] w fun e w' => e = .returned (.bool false) ∧ Below w.heap.size w w' := by
  have h := has_any w op fx [] M 97 (by decide) (by decide)
  exact h
theorem has_x_x (w : World) (op fx : Nat) (M : ByteArray) : Calls Tryd.prog 37 #[.agg #[.int .u8 (op : Int), .int .u16 (fx : Int), .string ⟨([120] : List UInt8).toArray⟩, .string M], .int .u8 120] w fun e w' => e = .returned (.bool true) ∧ Below w.heap.size w w' := by
  have h := has_any w op fx [120] M 120 (by decide) (by decide)
  exact h
theorem has_x_y (w : World) (op fx : Nat) (M : ByteArray) : Calls Tryd.prog 37 #[.agg #[.int .u8 (op : Int), .int .u16 (fx : Int), .string ⟨([120] : List UInt8).toArray⟩, .string M], .int .u8 121] w fun e w' => e = .returned (.bool false) ∧ Below w.heap.size w w' := by
  have h := has_any w op fx [120] M 121 (by decide) (by decide)
  exact h
theorem has_x_n (w : World) (op fx : Nat) (M : ByteArray) : Calls Tryd.prog 37 #[.agg #[.int .u8 (op : Int), .int .u16 (fx : Int), .string ⟨([120] : List UInt8).toArray⟩, .string M], .int .u8 110] w fun e w' => e = .returned (.bool false) ∧ Below w.heap.size w w' := by
  have h := has_any w op fx [120] M 110 (by decide) (by decide)
  exact h
theorem has_x_b (w : World) (op fx : Nat) (M : ByteArray) : Calls Tryd.prog 37 #[.agg #[.int .u8 (op : Int), .int .u16 (fx : Int), .string ⟨([120] : List UInt8).toArray⟩, .string M], .int .u8 98] w fun e w' => e = .returned (.bool false) ∧ Below w.heap.size w w' := by
  have h := has_any w op fx [120] M 98 (by decide) (by decide)
  exact h
theorem has_x_a (w : World) (op fx : Nat) (M : ByteArray) : Calls Tryd.prog 37 #[.agg #[.int .u8 (op : Int), .int .u16 (fx : Int), .string ⟨([120] : List UInt8).toArray⟩, .string M], .int .u8 97] w fun e w' => e = .returned (.bool false) ∧ Below w.heap.size w w' := by
  have h := has_any w op fx [120] M 97 (by decide) (by decide)
  exact h
theorem has_a_x (w : World) (op fx : Nat) (M : ByteArray) : Calls Tryd.prog 37 #[.agg #[.int .u8 (op : Int), .int .u16 (fx : Int), .string ⟨([97] : List UInt8).toArray⟩, .string M], .int .u8 120] w fun e w' => e = .returned (.bool false) ∧ Below w.heap.size w w' := by
  have h := has_any w op fx [97] M 120 (by decide) (by decide)
  exact h
theorem has_a_y (w : World) (op fx : Nat) (M : ByteArray) : Calls Tryd.prog 37 #[.agg #[.int .u8 (op : Int), .int .u16 (fx : Int), .string ⟨([97] : List UInt8).toArray⟩, .string M], .int .u8 121] w fun e w' => e = .returned (.bool false) ∧ Below w.heap.size w w' := by
  have h := has_any w op fx [97] M 121 (by decide) (by decide)
  exact h
theorem has_a_n (w : World) (op fx : Nat) (M : ByteArray) : Calls Tryd.prog 37 #[.agg #[.int .u8 (op : Int), .int .u16 (fx : Int), .string ⟨([97] : List UInt8).toArray⟩, .string M], .int .u8 110] w fun e w' => e = .returned (.bool false) ∧ Below w.heap.size w w' := by
  have h := has_any w op fx [97] M 110 (by decide) (by decide)
  exact h
theorem has_a_b (w : World) (op fx : Nat) (M : ByteArray) : Calls Tryd.prog 37 #[.agg #[.int .u8 (op : Int), .int .u16 (fx : Int), .string ⟨([97] : List UInt8).toArray⟩, .string M], .int .u8 98] w fun e w' => e = .returned (.bool false) ∧ Below w.heap.size w w' := by
  have h := has_any w op fx [97] M 98 (by decide) (by decide)
  exact h
theorem has_a_a (w : World) (op fx : Nat) (M : ByteArray) : Calls Tryd.prog 37 #[.agg #[.int .u8 (op : Int), .int .u16 (fx : Int), .string ⟨([97] : List UInt8).toArray⟩, .string M], .int .u8 97] w fun e w' => e = .returned (.bool true) ∧ Below w.heap.size w w' := by
  have h := has_any w op fx [97] M 97 (by decide) (by decide)
  exact h
theorem has_xy_x (w : World) (op fx : Nat) (M : ByteArray) : Calls Tryd.prog 37 #[.agg #[.int .u8 (op : Int), .int .u16 (fx : Int), .string ⟨([120, 121] : List UInt8).toArray⟩, .string M], .int .u8 120] w fun e w' => e = .returned (.bool true) ∧ Below w.heap.size w w' := by
  have h := has_any w op fx [120, 121] M 120 (by decide) (by decide)
  exact h
theorem has_xy_y (w : World) (op fx : Nat) (M : ByteArray) : Calls Tryd.prog 37 #[.agg #[.int .u8 (op : Int), .int .u16 (fx : Int), .string ⟨([120, 121] : List UInt8).toArray⟩, .string M], .int .u8 121] w fun e w' => e = .returned (.bool true) ∧ Below w.heap.size w w' := by
  have h := has_any w op fx [120, 121] M 121 (by decide) (by decide)
  exact h
theorem has_xy_n (w : World) (op fx : Nat) (M : ByteArray) : Calls Tryd.prog 37 #[.agg #[.int .u8 (op : Int), .int .u16 (fx : Int), .string ⟨([120, 121] : List UInt8).toArray⟩, .string M], .int .u8 110] w fun e w' => e = .returned (.bool false) ∧ Below w.heap.size w w' := by
  have h := has_any w op fx [120, 121] M 110 (by decide) (by decide)
  exact h
theorem has_xy_b (w : World) (op fx : Nat) (M : ByteArray) : Calls Tryd.prog 37 #[.agg #[.int .u8 (op : Int), .int .u16 (fx : Int), .string ⟨([120, 121] : List UInt8).toArray⟩, .string M], .int .u8 98] w fun e w' => e = .returned (.bool false) ∧ Below w.heap.size w w' := by
  have h := has_any w op fx [120, 121] M 98 (by decide) (by decide)
  exact h
theorem has_xy_a (w : World) (op fx : Nat) (M : ByteArray) : Calls Tryd.prog 37 #[.agg #[.int .u8 (op : Int), .int .u16 (fx : Int), .string ⟨([120, 121] : List UInt8).toArray⟩, .string M], .int .u8 97] w fun e w' => e = .returned (.bool false) ∧ Below w.heap.size w w' := by
  have h := has_any w op fx [120, 121] M 97 (by decide) (by decide)
  exact h
theorem has_xb_x (w : World) (op fx : Nat) (M : ByteArray) : Calls Tryd.prog 37 #[.agg #[.int .u8 (op : Int), .int .u16 (fx : Int), .string ⟨([120, 98] : List UInt8).toArray⟩, .string M], .int .u8 120] w fun e w' => e = .returned (.bool true) ∧ Below w.heap.size w w' := by
  have h := has_any w op fx [120, 98] M 120 (by decide) (by decide)
  exact h
theorem has_xb_y (w : World) (op fx : Nat) (M : ByteArray) : Calls Tryd.prog 37 #[.agg #[.int .u8 (op : Int), .int .u16 (fx : Int), .string ⟨([120, 98] : List UInt8).toArray⟩, .string M], .int .u8 121] w fun e w' => e = .returned (.bool false) ∧ Below w.heap.size w w' := by
  have h := has_any w op fx [120, 98] M 121 (by decide) (by decide)
  exact h
theorem has_xb_n (w : World) (op fx : Nat) (M : ByteArray) : Calls Tryd.prog 37 #[.agg #[.int .u8 (op : Int), .int .u16 (fx : Int), .string ⟨([120, 98] : List UInt8).toArray⟩, .string M], .int .u8 110] w fun e w' => e = .returned (.bool false) ∧ Below w.heap.size w w' := by
  have h := has_any w op fx [120, 98] M 110 (by decide) (by decide)
  exact h
theorem has_xb_b (w : World) (op fx : Nat) (M : ByteArray) : Calls Tryd.prog 37 #[.agg #[.int .u8 (op : Int), .int .u16 (fx : Int), .string ⟨([120, 98] : List UInt8).toArray⟩, .string M], .int .u8 98] w fun e w' => e = .returned (.bool true) ∧ Below w.heap.size w w' := by
  have h := has_any w op fx [120, 98] M 98 (by decide) (by decide)
  exact h
theorem has_xb_a (w : World) (op fx : Nat) (M : ByteArray) : Calls Tryd.prog 37 #[.agg #[.int .u8 (op : Int), .int .u16 (fx : Int), .string ⟨([120, 98] : List UInt8).toArray⟩, .string M], .int .u8 97] w fun e w' => e = .returned (.bool false) ∧ Below w.heap.size w w' := by
  have h := has_any w op fx [120, 98] M 97 (by decide) (by decide)
  exact h
theorem has_xyn_x (w : World) (op fx : Nat) (M : ByteArray) : Calls Tryd.prog 37 #[.agg #[.int .u8 (op : Int), .int .u16 (fx : Int), .string ⟨([120, 121, 110] : List UInt8).toArray⟩, .string M], .int .u8 120] w fun e w' => e = .returned (.bool true) ∧ Below w.heap.size w w' := by
  have h := has_any w op fx [120, 121, 110] M 120 (by decide) (by decide)
  exact h
theorem has_xyn_y (w : World) (op fx : Nat) (M : ByteArray) : Calls Tryd.prog 37 #[.agg #[.int .u8 (op : Int), .int .u16 (fx : Int), .string ⟨([120, 121, 110] : List UInt8).toArray⟩, .string M], .int .u8 121] w fun e w' => e = .returned (.bool true) ∧ Below w.heap.size w w' := by
  have h := has_any w op fx [120, 121, 110] M 121 (by decide) (by decide)
  exact h
theorem has_xyn_n (w : World) (op fx : Nat) (M : ByteArray) : Calls Tryd.prog 37 #[.agg #[.int .u8 (op : Int), .int .u16 (fx : Int), .string ⟨([120, 121, 110] : List UInt8).toArray⟩, .string M], .int .u8 110] w fun e w' => e = .returned (.bool true) ∧ Below w.heap.size w w' := by
  have h := has_any w op fx [120, 121, 110] M 110 (by decide) (by decide)
  exact h
theorem has_xyn_b (w : World) (op fx : Nat) (M : ByteArray) : Calls Tryd.prog 37 #[.agg #[.int .u8 (op : Int), .int .u16 (fx : Int), .string ⟨([120, 121, 110] : List UInt8).toArray⟩, .string M], .int .u8 98] w fun e w' => e = .returned (.bool false) ∧ Below w.heap.size w w' := by
  have h := has_any w op fx [120, 121, 110] M 98 (by decide) (by decide)
  exact h
theorem has_xyn_a (w : World) (op fx : Nat) (M : ByteArray) : Calls Tryd.prog 37 #[.agg #[.int .u8 (op : Int), .int .u16 (fx : Int), .string ⟨([120, 121, 110] : List UInt8).toArray⟩, .string M], .int .u8 97] w fun e w' => e = .returned (.bool false) ∧ Below w.heap.size w w' := by
  have h := has_any w op fx [120, 121, 110] M 97 (by decide) (by decide)
  exact h
theorem builtO1 (op : Nat) : Tryd.prog.built 30 [(0, .int .u8 (op : Int))] = some #[.int .u8 (op : Int), .int .u8 0, .int .u8 0, .int .u8 0, .int .u8 0, .int .u16 0] := by kernel_rfl
theorem ord_0 (w : World) (op fx : Nat) (M : ByteArray) (v : Nat) (hv : v < 65536) :
    Calls Tryd.prog 22 #[.agg #[.int .u8 (op : Int), .int .u16 (fx : Int), .string ⟨([] : List UInt8).toArray⟩, .string M], .int .u16 (v : Int)] w fun e w' => e = .returned (.agg #[.int .u8 (op : Int), .int .u8 0, .int .u8 0, .int .u8 0, .int .u8 0, .int .u16 0]) ∧ Below w.heap.size w w' := by
  obtain ⟨WCp, hW⟩ : ∃ x : Array Value, Hid (x = #[.int .u8 (op : Int), .int .u16 (fx : Int), .string ⟨([] : List UInt8).toArray⟩, .string M]) := ⟨(#[.int .u8 (op : Int), .int .u16 (fx : Int), .string ⟨([] : List UInt8).toArray⟩, .string M] : Array Value), (rfl : (#[.int .u8 (op : Int), .int .u16 (fx : Int), .string ⟨([] : List UInt8).toArray⟩, .string M] : Array Value) = #[.int .u8 (op : Int), .int .u16 (fx : Int), .string ⟨([] : List UInt8).toArray⟩, .string M])⟩
  have hh_x : Hid (∀ u, Calls Tryd.prog 37 #[.agg WCp, .int .u8 120] u fun e w' => e = .returned (.bool false) ∧ Below u.heap.size u w') := fun u => by rw [hW.out]; exact has_0_x u op fx M
  have hh_y : Hid (∀ u, Calls Tryd.prog 37 #[.agg WCp, .int .u8 121] u fun e w' => e = .returned (.bool false) ∧ Below u.heap.size u w') := fun u => by rw [hW.out]; exact has_0_y u op fx M
  have hh_n : Hid (∀ u, Calls Tryd.prog 37 #[.agg WCp, .int .u8 110] u fun e w' => e = .returned (.bool false) ∧ Below u.heap.size u w') := fun u => by rw [hW.out]; exact has_0_n u op fx M
  have hh_b : Hid (∀ u, Calls Tryd.prog 37 #[.agg WCp, .int .u8 98] u fun e w' => e = .returned (.bool false) ∧ Below u.heap.size u w') := fun u => by rw [hW.out]; exact has_0_b u op fx M
  have hh_a : Hid (∀ u, Calls Tryd.prog 37 #[.agg WCp, .int .u8 97] u fun e w' => e = .returned (.bool false) ∧ Below u.heap.size u w') := fun u => by rw [hW.out]; exact has_0_a u op fx M
  have i0 : (v : Int) < 65536 := by omega

  clear hv
  go_enter Tryd.func22, Tryd.ntmps22
  go_wp2_with (first
    | ((with_reducible refine at_st rtO (w.heap.size + 1) #[.int .u8 0, .int .u8 0, .int .u8 0, .int .u8 0, .int .u8 0, .int .u16 0] #[.int .u8 (op : Int), .int .u8 0, .int .u8 0, .int .u8 0, .int .u8 0, .int .u16 0] ?_ ?_ ?_ ?_ (.tmp 4) (.tmp 40) ?_ ?_ ?_ ?_ ?_); exact K7.out.bx 1 _ _ _ rfl; rfl; rfl; (simp [Value.oneCell']); rfl; rfl; rfl; rfl; intro yE HE; have KE : Hid (Fm w [(w.heap.size, WCp, 64), (w.heap.size + 1, #[.int .u8 (op : Int), .int .u8 0, .int .u8 0, .int .u8 0, .int .u8 0, .int .u16 0], 30), (y0.heap.size, #[.int .u8 (op : Int), .int .u8 0, .int .u8 0, .int .u8 0, .int .u8 0, .int .u16 0], 30)] yE) := K7.out.put 1 _ _ _ _ rfl HE.out; clear HE)
    | (go_at_call 37; (with_reducible refine (hh_a.out y6).mono ?_); rintro e y7 ⟨rfl, H⟩; have K7 : Hid (Fm w [(w.heap.size, WCp, 64), (w.heap.size + 1, #[.int .u8 0, .int .u8 0, .int .u8 0, .int .u8 0, .int .u8 0, .int .u16 0], 30), (y0.heap.size, #[.int .u8 (op : Int), .int .u8 0, .int .u8 0, .int .u8 0, .int .u8 0, .int .u16 0], 30)] y7) := K6.out.below H; clear H hh_a)
    | (go_at_call 37; (with_reducible refine (hh_b.out y5).mono ?_); rintro e y6 ⟨rfl, H⟩; have K6 : Hid (Fm w [(w.heap.size, WCp, 64), (w.heap.size + 1, #[.int .u8 0, .int .u8 0, .int .u8 0, .int .u8 0, .int .u8 0, .int .u16 0], 30), (y0.heap.size, #[.int .u8 (op : Int), .int .u8 0, .int .u8 0, .int .u8 0, .int .u8 0, .int .u16 0], 30)] y6) := K5.out.below H; clear H hh_b)
    | (go_at_call 37; (with_reducible refine (hh_n.out y4).mono ?_); rintro e y5 ⟨rfl, H⟩; have K5 : Hid (Fm w [(w.heap.size, WCp, 64), (w.heap.size + 1, #[.int .u8 0, .int .u8 0, .int .u8 0, .int .u8 0, .int .u8 0, .int .u16 0], 30), (y0.heap.size, #[.int .u8 (op : Int), .int .u8 0, .int .u8 0, .int .u8 0, .int .u8 0, .int .u16 0], 30)] y5) := K4.out.below H; clear H hh_n)
    | (go_at_call 37; (with_reducible refine (hh_y.out y3).mono ?_); rintro e y4 ⟨rfl, H⟩; have K4 : Hid (Fm w [(w.heap.size, WCp, 64), (w.heap.size + 1, #[.int .u8 0, .int .u8 0, .int .u8 0, .int .u8 0, .int .u8 0, .int .u16 0], 30), (y0.heap.size, #[.int .u8 (op : Int), .int .u8 0, .int .u8 0, .int .u8 0, .int .u8 0, .int .u16 0], 30)] y4) := K3.out.below H; clear H hh_y)
    | (go_at_call 37; (with_reducible refine (hh_x.out y2).mono ?_); rintro e y3 ⟨rfl, H⟩; have K3 : Hid (Fm w [(w.heap.size, WCp, 64), (w.heap.size + 1, #[.int .u8 0, .int .u8 0, .int .u8 0, .int .u8 0, .int .u8 0, .int .u16 0], 30), (y0.heap.size, #[.int .u8 (op : Int), .int .u8 0, .int .u8 0, .int .u8 0, .int .u8 0, .int .u16 0], 30)] y3) := K2.out.below H; clear H hh_x)
    | ((with_reducible refine at_st rtO y0.heap.size #[.int .u8 0, .int .u8 0, .int .u8 0, .int .u8 0, .int .u8 0, .int .u16 0] #[.int .u8 (op : Int), .int .u8 0, .int .u8 0, .int .u8 0, .int .u8 0, .int .u16 0] ?_ ?_ ?_ ?_ (.tmp 5) (.tmp 8) ?_ ?_ ?_ ?_ ?_); exact K1.out.bx 2 _ _ _ rfl; rfl; rfl; (simp [Value.oneCell']); rfl; rfl; rfl; rfl; intro y2 H2; have K2 : Hid (Fm w [(w.heap.size, WCp, 64), (w.heap.size + 1, #[.int .u8 0, .int .u8 0, .int .u8 0, .int .u8 0, .int .u8 0, .int .u16 0], 30), (y0.heap.size, #[.int .u8 (op : Int), .int .u8 0, .int .u8 0, .int .u8 0, .int .u8 0, .int .u16 0], 30)] y2) := K1.out.put 2 _ _ _ _ rfl H2.out; clear H2)
    | ((with_reducible refine gen_world (y0.alloc (.cells #[.int .u8 0, .int .u8 0, .int .u8 0, .int .u8 0, .int .u8 0, .int .u16 0] 30)) (Fm w [(w.heap.size, WCp, 64), (w.heap.size + 1, #[.int .u8 0, .int .u8 0, .int .u8 0, .int .u8 0, .int .u8 0, .int .u16 0], 30), (y0.heap.size, #[.int .u8 0, .int .u8 0, .int .u8 0, .int .u8 0, .int .u8 0, .int .u16 0], 30)]) ?_ ?_); exact K0.out.new _ _; intro y1 K1)
    | ((with_reducible refine at_bu #[(0, .tmp 7)] [(0, .int .u8 (op : Int))] #[.int .u8 (op : Int), .int .u8 0, .int .u8 0, .int .u8 0, .int .u8 0, .int .u16 0] ?_ ?_ ?_ (builtO1 op) ?_); kernel_rfl; rfl; kernel_rfl)
    | ((with_reducible refine gen_world ((w.alloc (.cells #[.int .u8 (op : Int), .int .u16 (fx : Int), .string ⟨([] : List UInt8).toArray⟩, .string M] 64)).alloc (.cells #[.int .u8 0, .int .u8 0, .int .u8 0, .int .u8 0, .int .u8 0, .int .u16 0] 30)) (Fm w [(w.heap.size, WCp, 64), (w.heap.size + 1, #[.int .u8 0, .int .u8 0, .int .u8 0, .int .u8 0, .int .u8 0, .int .u16 0], 30)]) ?_ ?_); (rw [hW.out]; exact Fm.two w _ _ _ _); intro y0 K0; have c0 := (K0.out.bx 0 _ _ _ rfl).c 0 (.int .u8 (op : Int)) (by rw [hW.out]; rfl))
    | ((with_reducible refine at_load rtW w.heap.size WCp ?_ ?_ (.tmp 2) ?_ ?_ ?_ ?_); (first | exact K6.out.bx 0 _ _ _ rfl | exact K5.out.bx 0 _ _ _ rfl | exact K4.out.bx 0 _ _ _ rfl | exact K3.out.bx 0 _ _ _ rfl | exact K2.out.bx 0 _ _ _ rfl); (rw [hW.out]; rfl); kernel_rfl; rfl; rfl)
    | ((with_reducible refine at_load rtO y0.heap.size #[.int .u8 (op : Int), .int .u8 0, .int .u8 0, .int .u8 0, .int .u8 0, .int .u16 0] ?_ ?_ (.tmp 5) ?_ ?_ ?_ ?_); exact K7.out.bx 2 _ _ _ rfl; rfl; kernel_rfl; rfl; rfl))
  exact ret_row rtO rfl rfl (KE.out.bx 1 _ _ _ rfl) rfl rfl ⟨rfl, KE.out.low⟩
theorem wrd_0 (w : World) (op fx : Nat) (M : ByteArray) (oo x y n b a : Nat) (hr : x < 16 ∧ y < 16 ∧ n < 16 ∧ b < 256 ∧ a < 65536 ∧ fx < 65536) :
    Calls Tryd.prog 23 #[.agg #[.int .u8 (op : Int), .int .u16 (fx : Int), .string ⟨([] : List UInt8).toArray⟩, .string M], .agg #[.int .u8 (oo : Int), .int .u8 (x : Int), .int .u8 (y : Int), .int .u8 (n : Int), .int .u8 (b : Int), .int .u16 (a : Int)]] w fun e w' => e = .returned (.int .u16 (fx : Int)) ∧ Below w.heap.size w w' := by
  obtain ⟨WCp, hW⟩ : ∃ x : Array Value, Hid (x = #[.int .u8 (op : Int), .int .u16 (fx : Int), .string ⟨([] : List UInt8).toArray⟩, .string M]) := ⟨(#[.int .u8 (op : Int), .int .u16 (fx : Int), .string ⟨([] : List UInt8).toArray⟩, .string M] : Array Value), (rfl : (#[.int .u8 (op : Int), .int .u16 (fx : Int), .string ⟨([] : List UInt8).toArray⟩, .string M] : Array Value) = #[.int .u8 (op : Int), .int .u16 (fx : Int), .string ⟨([] : List UInt8).toArray⟩, .string M])⟩
  obtain ⟨OC, hO⟩ : ∃ q : Array Value, Hid (q = #[.int .u8 (oo : Int), .int .u8 (x : Int), .int .u8 (y : Int), .int .u8 (n : Int), .int .u8 (b : Int), .int .u16 (a : Int)]) := ⟨(#[.int .u8 (oo : Int), .int .u8 (x : Int), .int .u8 (y : Int), .int .u8 (n : Int), .int .u8 (b : Int), .int .u16 (a : Int)] : Array Value), (rfl : (#[.int .u8 (oo : Int), .int .u8 (x : Int), .int .u8 (y : Int), .int .u8 (n : Int), .int .u8 (b : Int), .int .u16 (a : Int)] : Array Value) = #[.int .u8 (oo : Int), .int .u8 (x : Int), .int .u8 (y : Int), .int .u8 (n : Int), .int .u8 (b : Int), .int .u16 (a : Int)])⟩
  have hh_x : Hid (∀ u, Calls Tryd.prog 37 #[.agg WCp, .int .u8 120] u fun e w' => e = .returned (.bool false) ∧ Below u.heap.size u w') := fun u => by rw [hW.out]; exact has_0_x u op fx M
  have hh_y : Hid (∀ u, Calls Tryd.prog 37 #[.agg WCp, .int .u8 121] u fun e w' => e = .returned (.bool false) ∧ Below u.heap.size u w') := fun u => by rw [hW.out]; exact has_0_y u op fx M
  have hh_n : Hid (∀ u, Calls Tryd.prog 37 #[.agg WCp, .int .u8 110] u fun e w' => e = .returned (.bool false) ∧ Below u.heap.size u w') := fun u => by rw [hW.out]; exact has_0_n u op fx M
  have hh_b : Hid (∀ u, Calls Tryd.prog 37 #[.agg WCp, .int .u8 98] u fun e w' => e = .returned (.bool false) ∧ Below u.heap.size u w') := fun u => by rw [hW.out]; exact has_0_b u op fx M
  have hh_a : Hid (∀ u, Calls Tryd.prog 37 #[.agg WCp, .int .u8 97] u fun e w' => e = .returned (.bool false) ∧ Below u.heap.size u w') := fun u => by rw [hW.out]; exact has_0_a u op fx M
  have i0 : (fx : Int) < 65536 := by omega

  clear hr
  go_enter Tryd.func23, Tryd.ntmps23
  go_wp2_with (first
    | (go_at_call 37; (with_reducible refine (hh_a.out y4).mono ?_); rintro e y5 ⟨rfl, H⟩; have K5 : Hid (Fm w [(w.heap.size, WCp, 64), (w.heap.size + 1, OC, 30)] y5) := K4.out.below H; clear H hh_a)
    | (go_at_call 37; (with_reducible refine (hh_b.out y3).mono ?_); rintro e y4 ⟨rfl, H⟩; have K4 : Hid (Fm w [(w.heap.size, WCp, 64), (w.heap.size + 1, OC, 30)] y4) := K3.out.below H; clear H hh_b)
    | (go_at_call 37; (with_reducible refine (hh_n.out y2).mono ?_); rintro e y3 ⟨rfl, H⟩; have K3 : Hid (Fm w [(w.heap.size, WCp, 64), (w.heap.size + 1, OC, 30)] y3) := K2.out.below H; clear H hh_n)
    | (go_at_call 37; (with_reducible refine (hh_y.out y1).mono ?_); rintro e y2 ⟨rfl, H⟩; have K2 : Hid (Fm w [(w.heap.size, WCp, 64), (w.heap.size + 1, OC, 30)] y2) := K1.out.below H; clear H hh_y)
    | (go_at_call 37; (with_reducible refine (hh_x.out y0).mono ?_); rintro e y1 ⟨rfl, H⟩; have K1 : Hid (Fm w [(w.heap.size, WCp, 64), (w.heap.size + 1, OC, 30)] y1) := K0.out.below H; clear H hh_x)
    | ((with_reducible refine gen_world ((w.alloc (.cells #[.int .u8 (op : Int), .int .u16 (fx : Int), .string ⟨([] : List UInt8).toArray⟩, .string M] 64)).alloc (.cells #[.int .u8 (oo : Int), .int .u8 (x : Int), .int .u8 (y : Int), .int .u8 (n : Int), .int .u8 (b : Int), .int .u16 (a : Int)] 30)) (Fm w [(w.heap.size, WCp, 64), (w.heap.size + 1, OC, 30)]) ?_ ?_); (rw [hW.out, hO.out]; exact Fm.two w _ _ _ _); intro y0 K0; have c1 := (K0.out.bx 0 _ _ _ rfl).c 1 (.int .u16 (fx : Int)) (by rw [hW.out]; rfl))
    | ((with_reducible refine at_load rtW w.heap.size WCp ?_ ?_ (.tmp 2) ?_ ?_ ?_ ?_); (first | exact K4.out.bx 0 _ _ _ rfl | exact K3.out.bx 0 _ _ _ rfl | exact K2.out.bx 0 _ _ _ rfl | exact K1.out.bx 0 _ _ _ rfl | exact K0.out.bx 0 _ _ _ rfl); (rw [hW.out]; rfl); kernel_rfl; rfl; rfl))
  go_ret
  exact ⟨rfl, K5.out.low⟩
theorem ord_x (w : World) (op fx : Nat) (M : ByteArray) (v : Nat) (hv : v < 65536) (v1 x : Nat) (hv1 : v / 256 = v1) (hx : v1 % 16 = x) :
    Calls Tryd.prog 22 #[.agg #[.int .u8 (op : Int), .int .u16 (fx : Int), .string ⟨([120] : List UInt8).toArray⟩, .string M], .int .u16 (v : Int)] w fun e w' => e = .returned (.agg #[.int .u8 (op : Int), .int .u8 (x : Int), .int .u8 0, .int .u8 0, .int .u8 0, .int .u16 0]) ∧ Below w.heap.size w w' := by
  obtain ⟨WCp, hW⟩ : ∃ x : Array Value, Hid (x = #[.int .u8 (op : Int), .int .u16 (fx : Int), .string ⟨([120] : List UInt8).toArray⟩, .string M]) := ⟨(#[.int .u8 (op : Int), .int .u16 (fx : Int), .string ⟨([120] : List UInt8).toArray⟩, .string M] : Array Value), (rfl : (#[.int .u8 (op : Int), .int .u16 (fx : Int), .string ⟨([120] : List UInt8).toArray⟩, .string M] : Array Value) = #[.int .u8 (op : Int), .int .u16 (fx : Int), .string ⟨([120] : List UInt8).toArray⟩, .string M])⟩
  have hh_x : Hid (∀ u, Calls Tryd.prog 37 #[.agg WCp, .int .u8 120] u fun e w' => e = .returned (.bool true) ∧ Below u.heap.size u w') := fun u => by rw [hW.out]; exact has_x_x u op fx M
  have hh_y : Hid (∀ u, Calls Tryd.prog 37 #[.agg WCp, .int .u8 121] u fun e w' => e = .returned (.bool false) ∧ Below u.heap.size u w') := fun u => by rw [hW.out]; exact has_x_y u op fx M
  have hh_n : Hid (∀ u, Calls Tryd.prog 37 #[.agg WCp, .int .u8 110] u fun e w' => e = .returned (.bool false) ∧ Below u.heap.size u w') := fun u => by rw [hW.out]; exact has_x_n u op fx M
  have hh_b : Hid (∀ u, Calls Tryd.prog 37 #[.agg WCp, .int .u8 98] u fun e w' => e = .returned (.bool false) ∧ Below u.heap.size u w') := fun u => by rw [hW.out]; exact has_x_b u op fx M
  have hh_a : Hid (∀ u, Calls Tryd.prog 37 #[.agg WCp, .int .u8 97] u fun e w' => e = .returned (.bool false) ∧ Below u.heap.size u w') := fun u => by rw [hW.out]; exact has_x_a u op fx M
  have i0 : (v : Int) < 65536 := by omega
  have a1 : (v : Int) / 256 = (v1 : Int) := by omega
  have a1' : Int.tdiv (v : Int) 256 = (v1 : Int) := by rw [Int.tdiv_eq_ediv_of_nonneg (by omega)]; exact a1
  have a2 : (v1 : Int) % 16 = (x : Int) := by omega
  have a2' : Int.tmod (v1 : Int) 16 = (x : Int) := by rw [Int.tmod_eq_emod_of_nonneg (by omega)]; exact a2
  have a3 : (x : Int) < 16 := by omega
  have a4 : (v1 : Int) < 256 := by omega
  clear hv hv1 hx
  go_enter Tryd.func22, Tryd.ntmps22
  go_wp2_with (first
    | ((with_reducible refine at_st rtO (w.heap.size + 1) #[.int .u8 0, .int .u8 0, .int .u8 0, .int .u8 0, .int .u8 0, .int .u16 0] #[.int .u8 (op : Int), .int .u8 (x : Int), .int .u8 0, .int .u8 0, .int .u8 0, .int .u16 0] ?_ ?_ ?_ ?_ (.tmp 4) (.tmp 40) ?_ ?_ ?_ ?_ ?_); exact K8.out.bx 1 _ _ _ rfl; rfl; rfl; (simp [Value.oneCell']); rfl; rfl; rfl; rfl; intro yE HE; have KE : Hid (Fm w [(w.heap.size, WCp, 64), (w.heap.size + 1, #[.int .u8 (op : Int), .int .u8 (x : Int), .int .u8 0, .int .u8 0, .int .u8 0, .int .u16 0], 30), (y0.heap.size, #[.int .u8 (op : Int), .int .u8 (x : Int), .int .u8 0, .int .u8 0, .int .u8 0, .int .u16 0], 30)] yE) := K8.out.put 1 _ _ _ _ rfl HE.out; clear HE)
    | (go_at_call 37; (with_reducible refine (hh_a.out y7).mono ?_); rintro e y8 ⟨rfl, H⟩; have K8 : Hid (Fm w [(w.heap.size, WCp, 64), (w.heap.size + 1, #[.int .u8 0, .int .u8 0, .int .u8 0, .int .u8 0, .int .u8 0, .int .u16 0], 30), (y0.heap.size, #[.int .u8 (op : Int), .int .u8 (x : Int), .int .u8 0, .int .u8 0, .int .u8 0, .int .u16 0], 30)] y8) := K7.out.below H; clear H hh_a)
    | (go_at_call 37; (with_reducible refine (hh_b.out y6).mono ?_); rintro e y7 ⟨rfl, H⟩; have K7 : Hid (Fm w [(w.heap.size, WCp, 64), (w.heap.size + 1, #[.int .u8 0, .int .u8 0, .int .u8 0, .int .u8 0, .int .u8 0, .int .u16 0], 30), (y0.heap.size, #[.int .u8 (op : Int), .int .u8 (x : Int), .int .u8 0, .int .u8 0, .int .u8 0, .int .u16 0], 30)] y7) := K6.out.below H; clear H hh_b)
    | (go_at_call 37; (with_reducible refine (hh_n.out y5).mono ?_); rintro e y6 ⟨rfl, H⟩; have K6 : Hid (Fm w [(w.heap.size, WCp, 64), (w.heap.size + 1, #[.int .u8 0, .int .u8 0, .int .u8 0, .int .u8 0, .int .u8 0, .int .u16 0], 30), (y0.heap.size, #[.int .u8 (op : Int), .int .u8 (x : Int), .int .u8 0, .int .u8 0, .int .u8 0, .int .u16 0], 30)] y6) := K5.out.below H; clear H hh_n)
    | (go_at_call 37; (with_reducible refine (hh_y.out y4).mono ?_); rintro e y5 ⟨rfl, H⟩; have K5 : Hid (Fm w [(w.heap.size, WCp, 64), (w.heap.size + 1, #[.int .u8 0, .int .u8 0, .int .u8 0, .int .u8 0, .int .u8 0, .int .u16 0], 30), (y0.heap.size, #[.int .u8 (op : Int), .int .u8 (x : Int), .int .u8 0, .int .u8 0, .int .u8 0, .int .u16 0], 30)] y5) := K4.out.below H; clear H hh_y)
    | ((with_reducible refine gen_world (y3.setCell ⟨y0.heap.size, 1, none⟩ (.int .u8 (x : Int))) (Fm w [(w.heap.size, WCp, 64), (w.heap.size + 1, #[.int .u8 0, .int .u8 0, .int .u8 0, .int .u8 0, .int .u8 0, .int .u16 0], 30), (y0.heap.size, #[.int .u8 (op : Int), .int .u8 (x : Int), .int .u8 0, .int .u8 0, .int .u8 0, .int .u16 0], 30)]) ?_ ?_); exact K3.out.setCell 2 _ _ _ _ rfl 1 _ rfl; intro y4 K4; clear cS zS)
    | (go_at_call 37; (with_reducible refine (hh_x.out y2).mono ?_); rintro e y3 ⟨rfl, H⟩; have K3 : Hid (Fm w [(w.heap.size, WCp, 64), (w.heap.size + 1, #[.int .u8 0, .int .u8 0, .int .u8 0, .int .u8 0, .int .u8 0, .int .u16 0], 30), (y0.heap.size, #[.int .u8 (op : Int), .int .u8 0, .int .u8 0, .int .u8 0, .int .u8 0, .int .u16 0], 30)] y3) := K2.out.below H; clear H hh_x; have cS := (K3.out.bx 2 _ _ _ rfl).c 1 (.int .u8 0) rfl; have zS := (K3.out.bx 2 _ _ _ rfl).fz 1)
    | ((with_reducible refine at_st rtO y0.heap.size #[.int .u8 0, .int .u8 0, .int .u8 0, .int .u8 0, .int .u8 0, .int .u16 0] #[.int .u8 (op : Int), .int .u8 0, .int .u8 0, .int .u8 0, .int .u8 0, .int .u16 0] ?_ ?_ ?_ ?_ (.tmp 5) (.tmp 8) ?_ ?_ ?_ ?_ ?_); exact K1.out.bx 2 _ _ _ rfl; rfl; rfl; (simp [Value.oneCell']); rfl; rfl; rfl; rfl; intro y2 H2; have K2 : Hid (Fm w [(w.heap.size, WCp, 64), (w.heap.size + 1, #[.int .u8 0, .int .u8 0, .int .u8 0, .int .u8 0, .int .u8 0, .int .u16 0], 30), (y0.heap.size, #[.int .u8 (op : Int), .int .u8 0, .int .u8 0, .int .u8 0, .int .u8 0, .int .u16 0], 30)] y2) := K1.out.put 2 _ _ _ _ rfl H2.out; clear H2)
    | ((with_reducible refine gen_world (y0.alloc (.cells #[.int .u8 0, .int .u8 0, .int .u8 0, .int .u8 0, .int .u8 0, .int .u16 0] 30)) (Fm w [(w.heap.size, WCp, 64), (w.heap.size + 1, #[.int .u8 0, .int .u8 0, .int .u8 0, .int .u8 0, .int .u8 0, .int .u16 0], 30), (y0.heap.size, #[.int .u8 0, .int .u8 0, .int .u8 0, .int .u8 0, .int .u8 0, .int .u16 0], 30)]) ?_ ?_); exact K0.out.new _ _; intro y1 K1)
    | ((with_reducible refine at_bu #[(0, .tmp 7)] [(0, .int .u8 (op : Int))] #[.int .u8 (op : Int), .int .u8 0, .int .u8 0, .int .u8 0, .int .u8 0, .int .u16 0] ?_ ?_ ?_ (builtO1 op) ?_); kernel_rfl; rfl; kernel_rfl)
    | ((with_reducible refine gen_world ((w.alloc (.cells #[.int .u8 (op : Int), .int .u16 (fx : Int), .string ⟨([120] : List UInt8).toArray⟩, .string M] 64)).alloc (.cells #[.int .u8 0, .int .u8 0, .int .u8 0, .int .u8 0, .int .u8 0, .int .u16 0] 30)) (Fm w [(w.heap.size, WCp, 64), (w.heap.size + 1, #[.int .u8 0, .int .u8 0, .int .u8 0, .int .u8 0, .int .u8 0, .int .u16 0], 30)]) ?_ ?_); (rw [hW.out]; exact Fm.two w _ _ _ _); intro y0 K0; have c0 := (K0.out.bx 0 _ _ _ rfl).c 0 (.int .u8 (op : Int)) (by rw [hW.out]; rfl))
    | ((with_reducible refine at_load rtW w.heap.size WCp ?_ ?_ (.tmp 2) ?_ ?_ ?_ ?_); (first | exact K7.out.bx 0 _ _ _ rfl | exact K6.out.bx 0 _ _ _ rfl | exact K5.out.bx 0 _ _ _ rfl | exact K4.out.bx 0 _ _ _ rfl | exact K2.out.bx 0 _ _ _ rfl); (rw [hW.out]; rfl); kernel_rfl; rfl; rfl)
    | ((with_reducible refine at_load rtO y0.heap.size #[.int .u8 (op : Int), .int .u8 (x : Int), .int .u8 0, .int .u8 0, .int .u8 0, .int .u16 0] ?_ ?_ (.tmp 5) ?_ ?_ ?_ ?_); exact K8.out.bx 2 _ _ _ rfl; rfl; kernel_rfl; rfl; rfl))
  exact ret_row rtO rfl rfl (KE.out.bx 1 _ _ _ rfl) rfl rfl ⟨rfl, KE.out.low⟩
theorem wrd_x (w : World) (op fx : Nat) (M : ByteArray) (oo x y n b a : Nat) (hr : x < 16 ∧ y < 16 ∧ n < 16 ∧ b < 256 ∧ a < 65536 ∧ fx < 65536) (mx : Nat) (hmx : x * 256 = mx) (sx : Nat) (hsx : fx + mx = sx) (gsx : sx < 65536) :
    Calls Tryd.prog 23 #[.agg #[.int .u8 (op : Int), .int .u16 (fx : Int), .string ⟨([120] : List UInt8).toArray⟩, .string M], .agg #[.int .u8 (oo : Int), .int .u8 (x : Int), .int .u8 (y : Int), .int .u8 (n : Int), .int .u8 (b : Int), .int .u16 (a : Int)]] w fun e w' => e = .returned (.int .u16 (sx : Int)) ∧ Below w.heap.size w w' := by
  obtain ⟨WCp, hW⟩ : ∃ x : Array Value, Hid (x = #[.int .u8 (op : Int), .int .u16 (fx : Int), .string ⟨([120] : List UInt8).toArray⟩, .string M]) := ⟨(#[.int .u8 (op : Int), .int .u16 (fx : Int), .string ⟨([120] : List UInt8).toArray⟩, .string M] : Array Value), (rfl : (#[.int .u8 (op : Int), .int .u16 (fx : Int), .string ⟨([120] : List UInt8).toArray⟩, .string M] : Array Value) = #[.int .u8 (op : Int), .int .u16 (fx : Int), .string ⟨([120] : List UInt8).toArray⟩, .string M])⟩
  obtain ⟨OC, hO⟩ : ∃ q : Array Value, Hid (q = #[.int .u8 (oo : Int), .int .u8 (x : Int), .int .u8 (y : Int), .int .u8 (n : Int), .int .u8 (b : Int), .int .u16 (a : Int)]) := ⟨(#[.int .u8 (oo : Int), .int .u8 (x : Int), .int .u8 (y : Int), .int .u8 (n : Int), .int .u8 (b : Int), .int .u16 (a : Int)] : Array Value), (rfl : (#[.int .u8 (oo : Int), .int .u8 (x : Int), .int .u8 (y : Int), .int .u8 (n : Int), .int .u8 (b : Int), .int .u16 (a : Int)] : Array Value) = #[.int .u8 (oo : Int), .int .u8 (x : Int), .int .u8 (y : Int), .int .u8 (n : Int), .int .u8 (b : Int), .int .u16 (a : Int)])⟩
  have hh_x : Hid (∀ u, Calls Tryd.prog 37 #[.agg WCp, .int .u8 120] u fun e w' => e = .returned (.bool true) ∧ Below u.heap.size u w') := fun u => by rw [hW.out]; exact has_x_x u op fx M
  have hh_y : Hid (∀ u, Calls Tryd.prog 37 #[.agg WCp, .int .u8 121] u fun e w' => e = .returned (.bool false) ∧ Below u.heap.size u w') := fun u => by rw [hW.out]; exact has_x_y u op fx M
  have hh_n : Hid (∀ u, Calls Tryd.prog 37 #[.agg WCp, .int .u8 110] u fun e w' => e = .returned (.bool false) ∧ Below u.heap.size u w') := fun u => by rw [hW.out]; exact has_x_n u op fx M
  have hh_b : Hid (∀ u, Calls Tryd.prog 37 #[.agg WCp, .int .u8 98] u fun e w' => e = .returned (.bool false) ∧ Below u.heap.size u w') := fun u => by rw [hW.out]; exact has_x_b u op fx M
  have hh_a : Hid (∀ u, Calls Tryd.prog 37 #[.agg WCp, .int .u8 97] u fun e w' => e = .returned (.bool false) ∧ Below u.heap.size u w') := fun u => by rw [hW.out]; exact has_x_a u op fx M
  have i0 : (fx : Int) < 65536 := by omega
  have a1 : (x : Int) * 256 = (mx : Int) := by omega
  have a2 : (mx : Int) < 65536 := by omega
  have a3 : (x : Int) < 256 := by omega
  have esx : (fx : Int) + (mx : Int) = (sx : Int) := by omega
  have fsx : (sx : Int) < 65536 := by omega
  clear hr hmx hsx gsx
  go_enter Tryd.func23, Tryd.ntmps23
  go_wp2_with (first
    | (go_at_call 37; (with_reducible refine (hh_a.out y4).mono ?_); rintro e y5 ⟨rfl, H⟩; have K5 : Hid (Fm w [(w.heap.size, WCp, 64), (w.heap.size + 1, OC, 30)] y5) := K4.out.below H; clear H hh_a)
    | (go_at_call 37; (with_reducible refine (hh_b.out y3).mono ?_); rintro e y4 ⟨rfl, H⟩; have K4 : Hid (Fm w [(w.heap.size, WCp, 64), (w.heap.size + 1, OC, 30)] y4) := K3.out.below H; clear H hh_b)
    | (go_at_call 37; (with_reducible refine (hh_n.out y2).mono ?_); rintro e y3 ⟨rfl, H⟩; have K3 : Hid (Fm w [(w.heap.size, WCp, 64), (w.heap.size + 1, OC, 30)] y3) := K2.out.below H; clear H hh_n)
    | (go_at_call 37; (with_reducible refine (hh_y.out y1).mono ?_); rintro e y2 ⟨rfl, H⟩; have K2 : Hid (Fm w [(w.heap.size, WCp, 64), (w.heap.size + 1, OC, 30)] y2) := K1.out.below H; clear H hh_y)
    | (go_at_call 37; (with_reducible refine (hh_x.out y0).mono ?_); rintro e y1 ⟨rfl, H⟩; have K1 : Hid (Fm w [(w.heap.size, WCp, 64), (w.heap.size + 1, OC, 30)] y1) := K0.out.below H; clear H hh_x; have cFx := (K1.out.bx 1 _ _ _ rfl).c 1 (.int .u8 (x : Int)) (by rw [hO.out]; rfl))
    | ((with_reducible refine gen_world ((w.alloc (.cells #[.int .u8 (op : Int), .int .u16 (fx : Int), .string ⟨([120] : List UInt8).toArray⟩, .string M] 64)).alloc (.cells #[.int .u8 (oo : Int), .int .u8 (x : Int), .int .u8 (y : Int), .int .u8 (n : Int), .int .u8 (b : Int), .int .u16 (a : Int)] 30)) (Fm w [(w.heap.size, WCp, 64), (w.heap.size + 1, OC, 30)]) ?_ ?_); (rw [hW.out, hO.out]; exact Fm.two w _ _ _ _); intro y0 K0; have c1 := (K0.out.bx 0 _ _ _ rfl).c 1 (.int .u16 (fx : Int)) (by rw [hW.out]; rfl))
    | ((with_reducible refine at_load rtW w.heap.size WCp ?_ ?_ (.tmp 2) ?_ ?_ ?_ ?_); (first | exact K4.out.bx 0 _ _ _ rfl | exact K3.out.bx 0 _ _ _ rfl | exact K2.out.bx 0 _ _ _ rfl | exact K1.out.bx 0 _ _ _ rfl | exact K0.out.bx 0 _ _ _ rfl); (rw [hW.out]; rfl); kernel_rfl; rfl; rfl))
  go_ret
  exact ⟨rfl, K5.out.low⟩
theorem ord_a (w : World) (op fx : Nat) (M : ByteArray) (v : Nat) (hv : v < 65536) (a : Nat) (ha : v % 4096 = a) :
    Calls Tryd.prog 22 #[.agg #[.int .u8 (op : Int), .int .u16 (fx : Int), .string ⟨([97] : List UInt8).toArray⟩, .string M], .int .u16 (v : Int)] w fun e w' => e = .returned (.agg #[.int .u8 (op : Int), .int .u8 0, .int .u8 0, .int .u8 0, .int .u8 0, .int .u16 (a : Int)]) ∧ Below w.heap.size w w' := by
  obtain ⟨WCp, hW⟩ : ∃ x : Array Value, Hid (x = #[.int .u8 (op : Int), .int .u16 (fx : Int), .string ⟨([97] : List UInt8).toArray⟩, .string M]) := ⟨(#[.int .u8 (op : Int), .int .u16 (fx : Int), .string ⟨([97] : List UInt8).toArray⟩, .string M] : Array Value), (rfl : (#[.int .u8 (op : Int), .int .u16 (fx : Int), .string ⟨([97] : List UInt8).toArray⟩, .string M] : Array Value) = #[.int .u8 (op : Int), .int .u16 (fx : Int), .string ⟨([97] : List UInt8).toArray⟩, .string M])⟩
  have hh_x : Hid (∀ u, Calls Tryd.prog 37 #[.agg WCp, .int .u8 120] u fun e w' => e = .returned (.bool false) ∧ Below u.heap.size u w') := fun u => by rw [hW.out]; exact has_a_x u op fx M
  have hh_y : Hid (∀ u, Calls Tryd.prog 37 #[.agg WCp, .int .u8 121] u fun e w' => e = .returned (.bool false) ∧ Below u.heap.size u w') := fun u => by rw [hW.out]; exact has_a_y u op fx M
  have hh_n : Hid (∀ u, Calls Tryd.prog 37 #[.agg WCp, .int .u8 110] u fun e w' => e = .returned (.bool false) ∧ Below u.heap.size u w') := fun u => by rw [hW.out]; exact has_a_n u op fx M
  have hh_b : Hid (∀ u, Calls Tryd.prog 37 #[.agg WCp, .int .u8 98] u fun e w' => e = .returned (.bool false) ∧ Below u.heap.size u w') := fun u => by rw [hW.out]; exact has_a_b u op fx M
  have hh_a : Hid (∀ u, Calls Tryd.prog 37 #[.agg WCp, .int .u8 97] u fun e w' => e = .returned (.bool true) ∧ Below u.heap.size u w') := fun u => by rw [hW.out]; exact has_a_a u op fx M
  have i0 : (v : Int) < 65536 := by omega
  have e2 : (v : Int) % 4096 = (a : Int) := by omega
  have e2' : Int.tmod (v : Int) 4096 = (a : Int) := by rw [Int.tmod_eq_emod_of_nonneg (by omega)]; exact e2
  have e3 : (a : Int) < 4096 := by omega
  clear hv ha
  go_enter Tryd.func22, Tryd.ntmps22
  go_wp2_with (first
    | ((with_reducible refine at_st rtO (w.heap.size + 1) #[.int .u8 0, .int .u8 0, .int .u8 0, .int .u8 0, .int .u8 0, .int .u16 0] #[.int .u8 (op : Int), .int .u8 0, .int .u8 0, .int .u8 0, .int .u8 0, .int .u16 (a : Int)] ?_ ?_ ?_ ?_ (.tmp 4) (.tmp 40) ?_ ?_ ?_ ?_ ?_); exact K8.out.bx 1 _ _ _ rfl; rfl; rfl; (simp [Value.oneCell']); rfl; rfl; rfl; rfl; intro yE HE; have KE : Hid (Fm w [(w.heap.size, WCp, 64), (w.heap.size + 1, #[.int .u8 (op : Int), .int .u8 0, .int .u8 0, .int .u8 0, .int .u8 0, .int .u16 (a : Int)], 30), (y0.heap.size, #[.int .u8 (op : Int), .int .u8 0, .int .u8 0, .int .u8 0, .int .u8 0, .int .u16 (a : Int)], 30)] yE) := K8.out.put 1 _ _ _ _ rfl HE.out; clear HE)
    | ((with_reducible refine gen_world (y7.setCell ⟨y0.heap.size, 5, none⟩ (.int .u16 (a : Int))) (Fm w [(w.heap.size, WCp, 64), (w.heap.size + 1, #[.int .u8 0, .int .u8 0, .int .u8 0, .int .u8 0, .int .u8 0, .int .u16 0], 30), (y0.heap.size, #[.int .u8 (op : Int), .int .u8 0, .int .u8 0, .int .u8 0, .int .u8 0, .int .u16 (a : Int)], 30)]) ?_ ?_); exact K7.out.setCell 2 _ _ _ _ rfl 5 _ rfl; intro y8 K8; clear cS zS)
    | (go_at_call 37; (with_reducible refine (hh_a.out y6).mono ?_); rintro e y7 ⟨rfl, H⟩; have K7 : Hid (Fm w [(w.heap.size, WCp, 64), (w.heap.size + 1, #[.int .u8 0, .int .u8 0, .int .u8 0, .int .u8 0, .int .u8 0, .int .u16 0], 30), (y0.heap.size, #[.int .u8 (op : Int), .int .u8 0, .int .u8 0, .int .u8 0, .int .u8 0, .int .u16 0], 30)] y7) := K6.out.below H; clear H hh_a; have cS := (K7.out.bx 2 _ _ _ rfl).c 5 (.int .u16 0) rfl; have zS := (K7.out.bx 2 _ _ _ rfl).fz 5)
    | (go_at_call 37; (with_reducible refine (hh_b.out y5).mono ?_); rintro e y6 ⟨rfl, H⟩; have K6 : Hid (Fm w [(w.heap.size, WCp, 64), (w.heap.size + 1, #[.int .u8 0, .int .u8 0, .int .u8 0, .int .u8 0, .int .u8 0, .int .u16 0], 30), (y0.heap.size, #[.int .u8 (op : Int), .int .u8 0, .int .u8 0, .int .u8 0, .int .u8 0, .int .u16 0], 30)] y6) := K5.out.below H; clear H hh_b)
    | (go_at_call 37; (with_reducible refine (hh_n.out y4).mono ?_); rintro e y5 ⟨rfl, H⟩; have K5 : Hid (Fm w [(w.heap.size, WCp, 64), (w.heap.size + 1, #[.int .u8 0, .int .u8 0, .int .u8 0, .int .u8 0, .int .u8 0, .int .u16 0], 30), (y0.heap.size, #[.int .u8 (op : Int), .int .u8 0, .int .u8 0, .int .u8 0, .int .u8 0, .int .u16 0], 30)] y5) := K4.out.below H; clear H hh_n)
    | (go_at_call 37; (with_reducible refine (hh_y.out y3).mono ?_); rintro e y4 ⟨rfl, H⟩; have K4 : Hid (Fm w [(w.heap.size, WCp, 64), (w.heap.size + 1, #[.int .u8 0, .int .u8 0, .int .u8 0, .int .u8 0, .int .u8 0, .int .u16 0], 30), (y0.heap.size, #[.int .u8 (op : Int), .int .u8 0, .int .u8 0, .int .u8 0, .int .u8 0, .int .u16 0], 30)] y4) := K3.out.below H; clear H hh_y)
    | (go_at_call 37; (with_reducible refine (hh_x.out y2).mono ?_); rintro e y3 ⟨rfl, H⟩; have K3 : Hid (Fm w [(w.heap.size, WCp, 64), (w.heap.size + 1, #[.int .u8 0, .int .u8 0, .int .u8 0, .int .u8 0, .int .u8 0, .int .u16 0], 30), (y0.heap.size, #[.int .u8 (op : Int), .int .u8 0, .int .u8 0, .int .u8 0, .int .u8 0, .int .u16 0], 30)] y3) := K2.out.below H; clear H hh_x)
    | ((with_reducible refine at_st rtO y0.heap.size #[.int .u8 0, .int .u8 0, .int .u8 0, .int .u8 0, .int .u8 0, .int .u16 0] #[.int .u8 (op : Int), .int .u8 0, .int .u8 0, .int .u8 0, .int .u8 0, .int .u16 0] ?_ ?_ ?_ ?_ (.tmp 5) (.tmp 8) ?_ ?_ ?_ ?_ ?_); exact K1.out.bx 2 _ _ _ rfl; rfl; rfl; (simp [Value.oneCell']); rfl; rfl; rfl; rfl; intro y2 H2; have K2 : Hid (Fm w [(w.heap.size, WCp, 64), (w.heap.size + 1, #[.int .u8 0, .int .u8 0, .int .u8 0, .int .u8 0, .int .u8 0, .int .u16 0], 30), (y0.heap.size, #[.int .u8 (op : Int), .int .u8 0, .int .u8 0, .int .u8 0, .int .u8 0, .int .u16 0], 30)] y2) := K1.out.put 2 _ _ _ _ rfl H2.out; clear H2)
    | ((with_reducible refine gen_world (y0.alloc (.cells #[.int .u8 0, .int .u8 0, .int .u8 0, .int .u8 0, .int .u8 0, .int .u16 0] 30)) (Fm w [(w.heap.size, WCp, 64), (w.heap.size + 1, #[.int .u8 0, .int .u8 0, .int .u8 0, .int .u8 0, .int .u8 0, .int .u16 0], 30), (y0.heap.size, #[.int .u8 0, .int .u8 0, .int .u8 0, .int .u8 0, .int .u8 0, .int .u16 0], 30)]) ?_ ?_); exact K0.out.new _ _; intro y1 K1)
    | ((with_reducible refine at_bu #[(0, .tmp 7)] [(0, .int .u8 (op : Int))] #[.int .u8 (op : Int), .int .u8 0, .int .u8 0, .int .u8 0, .int .u8 0, .int .u16 0] ?_ ?_ ?_ (builtO1 op) ?_); kernel_rfl; rfl; kernel_rfl)
    | ((with_reducible refine gen_world ((w.alloc (.cells #[.int .u8 (op : Int), .int .u16 (fx : Int), .string ⟨([97] : List UInt8).toArray⟩, .string M] 64)).alloc (.cells #[.int .u8 0, .int .u8 0, .int .u8 0, .int .u8 0, .int .u8 0, .int .u16 0] 30)) (Fm w [(w.heap.size, WCp, 64), (w.heap.size + 1, #[.int .u8 0, .int .u8 0, .int .u8 0, .int .u8 0, .int .u8 0, .int .u16 0], 30)]) ?_ ?_); (rw [hW.out]; exact Fm.two w _ _ _ _); intro y0 K0; have c0 := (K0.out.bx 0 _ _ _ rfl).c 0 (.int .u8 (op : Int)) (by rw [hW.out]; rfl))
    | ((with_reducible refine at_load rtW w.heap.size WCp ?_ ?_ (.tmp 2) ?_ ?_ ?_ ?_); (first | exact K6.out.bx 0 _ _ _ rfl | exact K5.out.bx 0 _ _ _ rfl | exact K4.out.bx 0 _ _ _ rfl | exact K3.out.bx 0 _ _ _ rfl | exact K2.out.bx 0 _ _ _ rfl); (rw [hW.out]; rfl); kernel_rfl; rfl; rfl)
    | ((with_reducible refine at_load rtO y0.heap.size #[.int .u8 (op : Int), .int .u8 0, .int .u8 0, .int .u8 0, .int .u8 0, .int .u16 (a : Int)] ?_ ?_ (.tmp 5) ?_ ?_ ?_ ?_); exact K8.out.bx 2 _ _ _ rfl; rfl; kernel_rfl; rfl; rfl))
  exact ret_row rtO rfl rfl (KE.out.bx 1 _ _ _ rfl) rfl rfl ⟨rfl, KE.out.low⟩
theorem wrd_a (w : World) (op fx : Nat) (M : ByteArray) (oo x y n b a : Nat) (hr : x < 16 ∧ y < 16 ∧ n < 16 ∧ b < 256 ∧ a < 65536 ∧ fx < 65536) (sa : Nat) (hsa : fx + a = sa) (gsa : sa < 65536) :
    Calls Tryd.prog 23 #[.agg #[.int .u8 (op : Int), .int .u16 (fx : Int), .string ⟨([97] : List UInt8).toArray⟩, .string M], .agg #[.int .u8 (oo : Int), .int .u8 (x : Int), .int .u8 (y : Int), .int .u8 (n : Int), .int .u8 (b : Int), .int .u16 (a : Int)]] w fun e w' => e = .returned (.int .u16 (sa : Int)) ∧ Below w.heap.size w w' := by
  obtain ⟨WCp, hW⟩ : ∃ x : Array Value, Hid (x = #[.int .u8 (op : Int), .int .u16 (fx : Int), .string ⟨([97] : List UInt8).toArray⟩, .string M]) := ⟨(#[.int .u8 (op : Int), .int .u16 (fx : Int), .string ⟨([97] : List UInt8).toArray⟩, .string M] : Array Value), (rfl : (#[.int .u8 (op : Int), .int .u16 (fx : Int), .string ⟨([97] : List UInt8).toArray⟩, .string M] : Array Value) = #[.int .u8 (op : Int), .int .u16 (fx : Int), .string ⟨([97] : List UInt8).toArray⟩, .string M])⟩
  obtain ⟨OC, hO⟩ : ∃ q : Array Value, Hid (q = #[.int .u8 (oo : Int), .int .u8 (x : Int), .int .u8 (y : Int), .int .u8 (n : Int), .int .u8 (b : Int), .int .u16 (a : Int)]) := ⟨(#[.int .u8 (oo : Int), .int .u8 (x : Int), .int .u8 (y : Int), .int .u8 (n : Int), .int .u8 (b : Int), .int .u16 (a : Int)] : Array Value), (rfl : (#[.int .u8 (oo : Int), .int .u8 (x : Int), .int .u8 (y : Int), .int .u8 (n : Int), .int .u8 (b : Int), .int .u16 (a : Int)] : Array Value) = #[.int .u8 (oo : Int), .int .u8 (x : Int), .int .u8 (y : Int), .int .u8 (n : Int), .int .u8 (b : Int), .int .u16 (a : Int)])⟩
  have hh_x : Hid (∀ u, Calls Tryd.prog 37 #[.agg WCp, .int .u8 120] u fun e w' => e = .returned (.bool false) ∧ Below u.heap.size u w') := fun u => by rw [hW.out]; exact has_a_x u op fx M
  have hh_y : Hid (∀ u, Calls Tryd.prog 37 #[.agg WCp, .int .u8 121] u fun e w' => e = .returned (.bool false) ∧ Below u.heap.size u w') := fun u => by rw [hW.out]; exact has_a_y u op fx M
  have hh_n : Hid (∀ u, Calls Tryd.prog 37 #[.agg WCp, .int .u8 110] u fun e w' => e = .returned (.bool false) ∧ Below u.heap.size u w') := fun u => by rw [hW.out]; exact has_a_n u op fx M
  have hh_b : Hid (∀ u, Calls Tryd.prog 37 #[.agg WCp, .int .u8 98] u fun e w' => e = .returned (.bool false) ∧ Below u.heap.size u w') := fun u => by rw [hW.out]; exact has_a_b u op fx M
  have hh_a : Hid (∀ u, Calls Tryd.prog 37 #[.agg WCp, .int .u8 97] u fun e w' => e = .returned (.bool true) ∧ Below u.heap.size u w') := fun u => by rw [hW.out]; exact has_a_a u op fx M
  have i0 : (fx : Int) < 65536 := by omega
  have c1a : (a : Int) < 65536 := by omega
  have esa : (fx : Int) + (a : Int) = (sa : Int) := by omega
  have fsa : (sa : Int) < 65536 := by omega
  clear hr hsa gsa
  go_enter Tryd.func23, Tryd.ntmps23
  go_wp2_with (first
    | (go_at_call 37; (with_reducible refine (hh_a.out y4).mono ?_); rintro e y5 ⟨rfl, H⟩; have K5 : Hid (Fm w [(w.heap.size, WCp, 64), (w.heap.size + 1, OC, 30)] y5) := K4.out.below H; clear H hh_a; have cFa := (K5.out.bx 1 _ _ _ rfl).c 5 (.int .u16 (a : Int)) (by rw [hO.out]; rfl))
    | (go_at_call 37; (with_reducible refine (hh_b.out y3).mono ?_); rintro e y4 ⟨rfl, H⟩; have K4 : Hid (Fm w [(w.heap.size, WCp, 64), (w.heap.size + 1, OC, 30)] y4) := K3.out.below H; clear H hh_b)
    | (go_at_call 37; (with_reducible refine (hh_n.out y2).mono ?_); rintro e y3 ⟨rfl, H⟩; have K3 : Hid (Fm w [(w.heap.size, WCp, 64), (w.heap.size + 1, OC, 30)] y3) := K2.out.below H; clear H hh_n)
    | (go_at_call 37; (with_reducible refine (hh_y.out y1).mono ?_); rintro e y2 ⟨rfl, H⟩; have K2 : Hid (Fm w [(w.heap.size, WCp, 64), (w.heap.size + 1, OC, 30)] y2) := K1.out.below H; clear H hh_y)
    | (go_at_call 37; (with_reducible refine (hh_x.out y0).mono ?_); rintro e y1 ⟨rfl, H⟩; have K1 : Hid (Fm w [(w.heap.size, WCp, 64), (w.heap.size + 1, OC, 30)] y1) := K0.out.below H; clear H hh_x)
    | ((with_reducible refine gen_world ((w.alloc (.cells #[.int .u8 (op : Int), .int .u16 (fx : Int), .string ⟨([97] : List UInt8).toArray⟩, .string M] 64)).alloc (.cells #[.int .u8 (oo : Int), .int .u8 (x : Int), .int .u8 (y : Int), .int .u8 (n : Int), .int .u8 (b : Int), .int .u16 (a : Int)] 30)) (Fm w [(w.heap.size, WCp, 64), (w.heap.size + 1, OC, 30)]) ?_ ?_); (rw [hW.out, hO.out]; exact Fm.two w _ _ _ _); intro y0 K0; have c1 := (K0.out.bx 0 _ _ _ rfl).c 1 (.int .u16 (fx : Int)) (by rw [hW.out]; rfl))
    | ((with_reducible refine at_load rtW w.heap.size WCp ?_ ?_ (.tmp 2) ?_ ?_ ?_ ?_); (first | exact K4.out.bx 0 _ _ _ rfl | exact K3.out.bx 0 _ _ _ rfl | exact K2.out.bx 0 _ _ _ rfl | exact K1.out.bx 0 _ _ _ rfl | exact K0.out.bx 0 _ _ _ rfl); (rw [hW.out]; rfl); kernel_rfl; rfl; rfl))
  go_ret
  exact ⟨rfl, K5.out.low⟩
theorem ord_xy (w : World) (op fx : Nat) (M : ByteArray) (v : Nat) (hv : v < 65536) (v1 x : Nat) (hv1 : v / 256 = v1) (hx : v1 % 16 = x) (v2 y : Nat) (hv2 : v / 16 = v2) (hy : v2 % 16 = y) :
    Calls Tryd.prog 22 #[.agg #[.int .u8 (op : Int), .int .u16 (fx : Int), .string ⟨([120, 121] : List UInt8).toArray⟩, .string M], .int .u16 (v : Int)] w fun e w' => e = .returned (.agg #[.int .u8 (op : Int), .int .u8 (x : Int), .int .u8 (y : Int), .int .u8 0, .int .u8 0, .int .u16 0]) ∧ Below w.heap.size w w' := by
  obtain ⟨WCp, hW⟩ : ∃ x : Array Value, Hid (x = #[.int .u8 (op : Int), .int .u16 (fx : Int), .string ⟨([120, 121] : List UInt8).toArray⟩, .string M]) := ⟨(#[.int .u8 (op : Int), .int .u16 (fx : Int), .string ⟨([120, 121] : List UInt8).toArray⟩, .string M] : Array Value), (rfl : (#[.int .u8 (op : Int), .int .u16 (fx : Int), .string ⟨([120, 121] : List UInt8).toArray⟩, .string M] : Array Value) = #[.int .u8 (op : Int), .int .u16 (fx : Int), .string ⟨([120, 121] : List UInt8).toArray⟩, .string M])⟩
  have hh_x : Hid (∀ u, Calls Tryd.prog 37 #[.agg WCp, .int .u8 120] u fun e w' => e = .returned (.bool true) ∧ Below u.heap.size u w') := fun u => by rw [hW.out]; exact has_xy_x u op fx M
  have hh_y : Hid (∀ u, Calls Tryd.prog 37 #[.agg WCp, .int .u8 121] u fun e w' => e = .returned (.bool true) ∧ Below u.heap.size u w') := fun u => by rw [hW.out]; exact has_xy_y u op fx M
  have hh_n : Hid (∀ u, Calls Tryd.prog 37 #[.agg WCp, .int .u8 110] u fun e w' => e = .returned (.bool false) ∧ Below u.heap.size u w') := fun u => by rw [hW.out]; exact has_xy_n u op fx M
  have hh_b : Hid (∀ u, Calls Tryd.prog 37 #[.agg WCp, .int .u8 98] u fun e w' => e = .returned (.bool false) ∧ Below u.heap.size u w') := fun u => by rw [hW.out]; exact has_xy_b u op fx M
  have hh_a : Hid (∀ u, Calls Tryd.prog 37 #[.agg WCp, .int .u8 97] u fun e w' => e = .returned (.bool false) ∧ Below u.heap.size u w') := fun u => by rw [hW.out]; exact has_xy_a u op fx M
  have i0 : (v : Int) < 65536 := by omega
  have a1 : (v : Int) / 256 = (v1 : Int) := by omega
  have a1' : Int.tdiv (v : Int) 256 = (v1 : Int) := by rw [Int.tdiv_eq_ediv_of_nonneg (by omega)]; exact a1
  have a2 : (v1 : Int) % 16 = (x : Int) := by omega
  have a2' : Int.tmod (v1 : Int) 16 = (x : Int) := by rw [Int.tmod_eq_emod_of_nonneg (by omega)]; exact a2
  have a3 : (x : Int) < 16 := by omega
  have a4 : (v1 : Int) < 256 := by omega
  have b1 : (v : Int) / 16 = (v2 : Int) := by omega
  have b1' : Int.tdiv (v : Int) 16 = (v2 : Int) := by rw [Int.tdiv_eq_ediv_of_nonneg (by omega)]; exact b1
  have b2 : (v2 : Int) % 16 = (y : Int) := by omega
  have b2' : Int.tmod (v2 : Int) 16 = (y : Int) := by rw [Int.tmod_eq_emod_of_nonneg (by omega)]; exact b2
  have b3 : (y : Int) < 16 := by omega
  have b4 : (v2 : Int) < 4096 := by omega
  clear hv hv1 hx hv2 hy
  go_enter Tryd.func22, Tryd.ntmps22
  go_wp2_with (first
    | ((with_reducible refine at_st rtO (w.heap.size + 1) #[.int .u8 0, .int .u8 0, .int .u8 0, .int .u8 0, .int .u8 0, .int .u16 0] #[.int .u8 (op : Int), .int .u8 (x : Int), .int .u8 (y : Int), .int .u8 0, .int .u8 0, .int .u16 0] ?_ ?_ ?_ ?_ (.tmp 4) (.tmp 40) ?_ ?_ ?_ ?_ ?_); exact K9.out.bx 1 _ _ _ rfl; rfl; rfl; (simp [Value.oneCell']); rfl; rfl; rfl; rfl; intro yE HE; have KE : Hid (Fm w [(w.heap.size, WCp, 64), (w.heap.size + 1, #[.int .u8 (op : Int), .int .u8 (x : Int), .int .u8 (y : Int), .int .u8 0, .int .u8 0, .int .u16 0], 30), (y0.heap.size, #[.int .u8 (op : Int), .int .u8 (x : Int), .int .u8 (y : Int), .int .u8 0, .int .u8 0, .int .u16 0], 30)] yE) := K9.out.put 1 _ _ _ _ rfl HE.out; clear HE)
    | (go_at_call 37; (with_reducible refine (hh_a.out y8).mono ?_); rintro e y9 ⟨rfl, H⟩; have K9 : Hid (Fm w [(w.heap.size, WCp, 64), (w.heap.size + 1, #[.int .u8 0, .int .u8 0, .int .u8 0, .int .u8 0, .int .u8 0, .int .u16 0], 30), (y0.heap.size, #[.int .u8 (op : Int), .int .u8 (x : Int), .int .u8 (y : Int), .int .u8 0, .int .u8 0, .int .u16 0], 30)] y9) := K8.out.below H; clear H hh_a)
    | (go_at_call 37; (with_reducible refine (hh_b.out y7).mono ?_); rintro e y8 ⟨rfl, H⟩; have K8 : Hid (Fm w [(w.heap.size, WCp, 64), (w.heap.size + 1, #[.int .u8 0, .int .u8 0, .int .u8 0, .int .u8 0, .int .u8 0, .int .u16 0], 30), (y0.heap.size, #[.int .u8 (op : Int), .int .u8 (x : Int), .int .u8 (y : Int), .int .u8 0, .int .u8 0, .int .u16 0], 30)] y8) := K7.out.below H; clear H hh_b)
    | (go_at_call 37; (with_reducible refine (hh_n.out y6).mono ?_); rintro e y7 ⟨rfl, H⟩; have K7 : Hid (Fm w [(w.heap.size, WCp, 64), (w.heap.size + 1, #[.int .u8 0, .int .u8 0, .int .u8 0, .int .u8 0, .int .u8 0, .int .u16 0], 30), (y0.heap.size, #[.int .u8 (op : Int), .int .u8 (x : Int), .int .u8 (y : Int), .int .u8 0, .int .u8 0, .int .u16 0], 30)] y7) := K6.out.below H; clear H hh_n)
    | ((with_reducible refine gen_world (y5.setCell ⟨y0.heap.size, 2, none⟩ (.int .u8 (y : Int))) (Fm w [(w.heap.size, WCp, 64), (w.heap.size + 1, #[.int .u8 0, .int .u8 0, .int .u8 0, .int .u8 0, .int .u8 0, .int .u16 0], 30), (y0.heap.size, #[.int .u8 (op : Int), .int .u8 (x : Int), .int .u8 (y : Int), .int .u8 0, .int .u8 0, .int .u16 0], 30)]) ?_ ?_); exact K5.out.setCell 2 _ _ _ _ rfl 2 _ rfl; intro y6 K6; clear cS zS)
    | (go_at_call 37; (with_reducible refine (hh_y.out y4).mono ?_); rintro e y5 ⟨rfl, H⟩; have K5 : Hid (Fm w [(w.heap.size, WCp, 64), (w.heap.size + 1, #[.int .u8 0, .int .u8 0, .int .u8 0, .int .u8 0, .int .u8 0, .int .u16 0], 30), (y0.heap.size, #[.int .u8 (op : Int), .int .u8 (x : Int), .int .u8 0, .int .u8 0, .int .u8 0, .int .u16 0], 30)] y5) := K4.out.below H; clear H hh_y; have cS := (K5.out.bx 2 _ _ _ rfl).c 2 (.int .u8 0) rfl; have zS := (K5.out.bx 2 _ _ _ rfl).fz 2)
    | ((with_reducible refine gen_world (y3.setCell ⟨y0.heap.size, 1, none⟩ (.int .u8 (x : Int))) (Fm w [(w.heap.size, WCp, 64), (w.heap.size + 1, #[.int .u8 0, .int .u8 0, .int .u8 0, .int .u8 0, .int .u8 0, .int .u16 0], 30), (y0.heap.size, #[.int .u8 (op : Int), .int .u8 (x : Int), .int .u8 0, .int .u8 0, .int .u8 0, .int .u16 0], 30)]) ?_ ?_); exact K3.out.setCell 2 _ _ _ _ rfl 1 _ rfl; intro y4 K4; clear cS zS)
    | (go_at_call 37; (with_reducible refine (hh_x.out y2).mono ?_); rintro e y3 ⟨rfl, H⟩; have K3 : Hid (Fm w [(w.heap.size, WCp, 64), (w.heap.size + 1, #[.int .u8 0, .int .u8 0, .int .u8 0, .int .u8 0, .int .u8 0, .int .u16 0], 30), (y0.heap.size, #[.int .u8 (op : Int), .int .u8 0, .int .u8 0, .int .u8 0, .int .u8 0, .int .u16 0], 30)] y3) := K2.out.below H; clear H hh_x; have cS := (K3.out.bx 2 _ _ _ rfl).c 1 (.int .u8 0) rfl; have zS := (K3.out.bx 2 _ _ _ rfl).fz 1)
    | ((with_reducible refine at_st rtO y0.heap.size #[.int .u8 0, .int .u8 0, .int .u8 0, .int .u8 0, .int .u8 0, .int .u16 0] #[.int .u8 (op : Int), .int .u8 0, .int .u8 0, .int .u8 0, .int .u8 0, .int .u16 0] ?_ ?_ ?_ ?_ (.tmp 5) (.tmp 8) ?_ ?_ ?_ ?_ ?_); exact K1.out.bx 2 _ _ _ rfl; rfl; rfl; (simp [Value.oneCell']); rfl; rfl; rfl; rfl; intro y2 H2; have K2 : Hid (Fm w [(w.heap.size, WCp, 64), (w.heap.size + 1, #[.int .u8 0, .int .u8 0, .int .u8 0, .int .u8 0, .int .u8 0, .int .u16 0], 30), (y0.heap.size, #[.int .u8 (op : Int), .int .u8 0, .int .u8 0, .int .u8 0, .int .u8 0, .int .u16 0], 30)] y2) := K1.out.put 2 _ _ _ _ rfl H2.out; clear H2)
    | ((with_reducible refine gen_world (y0.alloc (.cells #[.int .u8 0, .int .u8 0, .int .u8 0, .int .u8 0, .int .u8 0, .int .u16 0] 30)) (Fm w [(w.heap.size, WCp, 64), (w.heap.size + 1, #[.int .u8 0, .int .u8 0, .int .u8 0, .int .u8 0, .int .u8 0, .int .u16 0], 30), (y0.heap.size, #[.int .u8 0, .int .u8 0, .int .u8 0, .int .u8 0, .int .u8 0, .int .u16 0], 30)]) ?_ ?_); exact K0.out.new _ _; intro y1 K1)
    | ((with_reducible refine at_bu #[(0, .tmp 7)] [(0, .int .u8 (op : Int))] #[.int .u8 (op : Int), .int .u8 0, .int .u8 0, .int .u8 0, .int .u8 0, .int .u16 0] ?_ ?_ ?_ (builtO1 op) ?_); kernel_rfl; rfl; kernel_rfl)
    | ((with_reducible refine gen_world ((w.alloc (.cells #[.int .u8 (op : Int), .int .u16 (fx : Int), .string ⟨([120, 121] : List UInt8).toArray⟩, .string M] 64)).alloc (.cells #[.int .u8 0, .int .u8 0, .int .u8 0, .int .u8 0, .int .u8 0, .int .u16 0] 30)) (Fm w [(w.heap.size, WCp, 64), (w.heap.size + 1, #[.int .u8 0, .int .u8 0, .int .u8 0, .int .u8 0, .int .u8 0, .int .u16 0], 30)]) ?_ ?_); (rw [hW.out]; exact Fm.two w _ _ _ _); intro y0 K0; have c0 := (K0.out.bx 0 _ _ _ rfl).c 0 (.int .u8 (op : Int)) (by rw [hW.out]; rfl))
    | ((with_reducible refine at_load rtW w.heap.size WCp ?_ ?_ (.tmp 2) ?_ ?_ ?_ ?_); (first | exact K8.out.bx 0 _ _ _ rfl | exact K7.out.bx 0 _ _ _ rfl | exact K6.out.bx 0 _ _ _ rfl | exact K4.out.bx 0 _ _ _ rfl | exact K2.out.bx 0 _ _ _ rfl); (rw [hW.out]; rfl); kernel_rfl; rfl; rfl)
    | ((with_reducible refine at_load rtO y0.heap.size #[.int .u8 (op : Int), .int .u8 (x : Int), .int .u8 (y : Int), .int .u8 0, .int .u8 0, .int .u16 0] ?_ ?_ (.tmp 5) ?_ ?_ ?_ ?_); exact K9.out.bx 2 _ _ _ rfl; rfl; kernel_rfl; rfl; rfl))
  exact ret_row rtO rfl rfl (KE.out.bx 1 _ _ _ rfl) rfl rfl ⟨rfl, KE.out.low⟩
theorem wrd_xy (w : World) (op fx : Nat) (M : ByteArray) (oo x y n b a : Nat) (hr : x < 16 ∧ y < 16 ∧ n < 16 ∧ b < 256 ∧ a < 65536 ∧ fx < 65536) (mx : Nat) (hmx : x * 256 = mx) (sx : Nat) (hsx : fx + mx = sx) (gsx : sx < 65536) (my : Nat) (hmy : y * 16 = my) (sy : Nat) (hsy : sx + my = sy) (gsy : sy < 65536) :
    Calls Tryd.prog 23 #[.agg #[.int .u8 (op : Int), .int .u16 (fx : Int), .string ⟨([120, 121] : List UInt8).toArray⟩, .string M], .agg #[.int .u8 (oo : Int), .int .u8 (x : Int), .int .u8 (y : Int), .int .u8 (n : Int), .int .u8 (b : Int), .int .u16 (a : Int)]] w fun e w' => e = .returned (.int .u16 (sy : Int)) ∧ Below w.heap.size w w' := by
  obtain ⟨WCp, hW⟩ : ∃ x : Array Value, Hid (x = #[.int .u8 (op : Int), .int .u16 (fx : Int), .string ⟨([120, 121] : List UInt8).toArray⟩, .string M]) := ⟨(#[.int .u8 (op : Int), .int .u16 (fx : Int), .string ⟨([120, 121] : List UInt8).toArray⟩, .string M] : Array Value), (rfl : (#[.int .u8 (op : Int), .int .u16 (fx : Int), .string ⟨([120, 121] : List UInt8).toArray⟩, .string M] : Array Value) = #[.int .u8 (op : Int), .int .u16 (fx : Int), .string ⟨([120, 121] : List UInt8).toArray⟩, .string M])⟩
  obtain ⟨OC, hO⟩ : ∃ q : Array Value, Hid (q = #[.int .u8 (oo : Int), .int .u8 (x : Int), .int .u8 (y : Int), .int .u8 (n : Int), .int .u8 (b : Int), .int .u16 (a : Int)]) := ⟨(#[.int .u8 (oo : Int), .int .u8 (x : Int), .int .u8 (y : Int), .int .u8 (n : Int), .int .u8 (b : Int), .int .u16 (a : Int)] : Array Value), (rfl : (#[.int .u8 (oo : Int), .int .u8 (x : Int), .int .u8 (y : Int), .int .u8 (n : Int), .int .u8 (b : Int), .int .u16 (a : Int)] : Array Value) = #[.int .u8 (oo : Int), .int .u8 (x : Int), .int .u8 (y : Int), .int .u8 (n : Int), .int .u8 (b : Int), .int .u16 (a : Int)])⟩
  have hh_x : Hid (∀ u, Calls Tryd.prog 37 #[.agg WCp, .int .u8 120] u fun e w' => e = .returned (.bool true) ∧ Below u.heap.size u w') := fun u => by rw [hW.out]; exact has_xy_x u op fx M
  have hh_y : Hid (∀ u, Calls Tryd.prog 37 #[.agg WCp, .int .u8 121] u fun e w' => e = .returned (.bool true) ∧ Below u.heap.size u w') := fun u => by rw [hW.out]; exact has_xy_y u op fx M
  have hh_n : Hid (∀ u, Calls Tryd.prog 37 #[.agg WCp, .int .u8 110] u fun e w' => e = .returned (.bool false) ∧ Below u.heap.size u w') := fun u => by rw [hW.out]; exact has_xy_n u op fx M
  have hh_b : Hid (∀ u, Calls Tryd.prog 37 #[.agg WCp, .int .u8 98] u fun e w' => e = .returned (.bool false) ∧ Below u.heap.size u w') := fun u => by rw [hW.out]; exact has_xy_b u op fx M
  have hh_a : Hid (∀ u, Calls Tryd.prog 37 #[.agg WCp, .int .u8 97] u fun e w' => e = .returned (.bool false) ∧ Below u.heap.size u w') := fun u => by rw [hW.out]; exact has_xy_a u op fx M
  have i0 : (fx : Int) < 65536 := by omega
  have a1 : (x : Int) * 256 = (mx : Int) := by omega
  have a2 : (mx : Int) < 65536 := by omega
  have a3 : (x : Int) < 256 := by omega
  have esx : (fx : Int) + (mx : Int) = (sx : Int) := by omega
  have fsx : (sx : Int) < 65536 := by omega
  have b1 : (y : Int) * 16 = (my : Int) := by omega
  have b2 : (my : Int) < 65536 := by omega
  have b3 : (y : Int) < 256 := by omega
  have esy : (sx : Int) + (my : Int) = (sy : Int) := by omega
  have fsy : (sy : Int) < 65536 := by omega
  clear hr hmx hsx gsx hmy hsy gsy
  go_enter Tryd.func23, Tryd.ntmps23
  go_wp2_with (first
    | (go_at_call 37; (with_reducible refine (hh_a.out y4).mono ?_); rintro e y5 ⟨rfl, H⟩; have K5 : Hid (Fm w [(w.heap.size, WCp, 64), (w.heap.size + 1, OC, 30)] y5) := K4.out.below H; clear H hh_a)
    | (go_at_call 37; (with_reducible refine (hh_b.out y3).mono ?_); rintro e y4 ⟨rfl, H⟩; have K4 : Hid (Fm w [(w.heap.size, WCp, 64), (w.heap.size + 1, OC, 30)] y4) := K3.out.below H; clear H hh_b)
    | (go_at_call 37; (with_reducible refine (hh_n.out y2).mono ?_); rintro e y3 ⟨rfl, H⟩; have K3 : Hid (Fm w [(w.heap.size, WCp, 64), (w.heap.size + 1, OC, 30)] y3) := K2.out.below H; clear H hh_n)
    | (go_at_call 37; (with_reducible refine (hh_y.out y1).mono ?_); rintro e y2 ⟨rfl, H⟩; have K2 : Hid (Fm w [(w.heap.size, WCp, 64), (w.heap.size + 1, OC, 30)] y2) := K1.out.below H; clear H hh_y; have cFy := (K2.out.bx 1 _ _ _ rfl).c 2 (.int .u8 (y : Int)) (by rw [hO.out]; rfl))
    | (go_at_call 37; (with_reducible refine (hh_x.out y0).mono ?_); rintro e y1 ⟨rfl, H⟩; have K1 : Hid (Fm w [(w.heap.size, WCp, 64), (w.heap.size + 1, OC, 30)] y1) := K0.out.below H; clear H hh_x; have cFx := (K1.out.bx 1 _ _ _ rfl).c 1 (.int .u8 (x : Int)) (by rw [hO.out]; rfl))
    | ((with_reducible refine gen_world ((w.alloc (.cells #[.int .u8 (op : Int), .int .u16 (fx : Int), .string ⟨([120, 121] : List UInt8).toArray⟩, .string M] 64)).alloc (.cells #[.int .u8 (oo : Int), .int .u8 (x : Int), .int .u8 (y : Int), .int .u8 (n : Int), .int .u8 (b : Int), .int .u16 (a : Int)] 30)) (Fm w [(w.heap.size, WCp, 64), (w.heap.size + 1, OC, 30)]) ?_ ?_); (rw [hW.out, hO.out]; exact Fm.two w _ _ _ _); intro y0 K0; have c1 := (K0.out.bx 0 _ _ _ rfl).c 1 (.int .u16 (fx : Int)) (by rw [hW.out]; rfl))
    | ((with_reducible refine at_load rtW w.heap.size WCp ?_ ?_ (.tmp 2) ?_ ?_ ?_ ?_); (first | exact K4.out.bx 0 _ _ _ rfl | exact K3.out.bx 0 _ _ _ rfl | exact K2.out.bx 0 _ _ _ rfl | exact K1.out.bx 0 _ _ _ rfl | exact K0.out.bx 0 _ _ _ rfl); (rw [hW.out]; rfl); kernel_rfl; rfl; rfl))
  go_ret
  exact ⟨rfl, K5.out.low⟩
theorem ord_xb (w : World) (op fx : Nat) (M : ByteArray) (v : Nat) (hv : v < 65536) (v1 x : Nat) (hv1 : v / 256 = v1) (hx : v1 % 16 = x) (b : Nat) (hb : v % 256 = b) :
    Calls Tryd.prog 22 #[.agg #[.int .u8 (op : Int), .int .u16 (fx : Int), .string ⟨([120, 98] : List UInt8).toArray⟩, .string M], .int .u16 (v : Int)] w fun e w' => e = .returned (.agg #[.int .u8 (op : Int), .int .u8 (x : Int), .int .u8 0, .int .u8 0, .int .u8 (b : Int), .int .u16 0]) ∧ Below w.heap.size w w' := by
  obtain ⟨WCp, hW⟩ : ∃ x : Array Value, Hid (x = #[.int .u8 (op : Int), .int .u16 (fx : Int), .string ⟨([120, 98] : List UInt8).toArray⟩, .string M]) := ⟨(#[.int .u8 (op : Int), .int .u16 (fx : Int), .string ⟨([120, 98] : List UInt8).toArray⟩, .string M] : Array Value), (rfl : (#[.int .u8 (op : Int), .int .u16 (fx : Int), .string ⟨([120, 98] : List UInt8).toArray⟩, .string M] : Array Value) = #[.int .u8 (op : Int), .int .u16 (fx : Int), .string ⟨([120, 98] : List UInt8).toArray⟩, .string M])⟩
  have hh_x : Hid (∀ u, Calls Tryd.prog 37 #[.agg WCp, .int .u8 120] u fun e w' => e = .returned (.bool true) ∧ Below u.heap.size u w') := fun u => by rw [hW.out]; exact has_xb_x u op fx M
  have hh_y : Hid (∀ u, Calls Tryd.prog 37 #[.agg WCp, .int .u8 121] u fun e w' => e = .returned (.bool false) ∧ Below u.heap.size u w') := fun u => by rw [hW.out]; exact has_xb_y u op fx M
  have hh_n : Hid (∀ u, Calls Tryd.prog 37 #[.agg WCp, .int .u8 110] u fun e w' => e = .returned (.bool false) ∧ Below u.heap.size u w') := fun u => by rw [hW.out]; exact has_xb_n u op fx M
  have hh_b : Hid (∀ u, Calls Tryd.prog 37 #[.agg WCp, .int .u8 98] u fun e w' => e = .returned (.bool true) ∧ Below u.heap.size u w') := fun u => by rw [hW.out]; exact has_xb_b u op fx M
  have hh_a : Hid (∀ u, Calls Tryd.prog 37 #[.agg WCp, .int .u8 97] u fun e w' => e = .returned (.bool false) ∧ Below u.heap.size u w') := fun u => by rw [hW.out]; exact has_xb_a u op fx M
  have i0 : (v : Int) < 65536 := by omega
  have a1 : (v : Int) / 256 = (v1 : Int) := by omega
  have a1' : Int.tdiv (v : Int) 256 = (v1 : Int) := by rw [Int.tdiv_eq_ediv_of_nonneg (by omega)]; exact a1
  have a2 : (v1 : Int) % 16 = (x : Int) := by omega
  have a2' : Int.tmod (v1 : Int) 16 = (x : Int) := by rw [Int.tmod_eq_emod_of_nonneg (by omega)]; exact a2
  have a3 : (x : Int) < 16 := by omega
  have a4 : (v1 : Int) < 256 := by omega
  have d2 : (v : Int) % 256 = (b : Int) := by omega
  have d2' : Int.tmod (v : Int) 256 = (b : Int) := by rw [Int.tmod_eq_emod_of_nonneg (by omega)]; exact d2
  have d3 : (b : Int) < 256 := by omega
  clear hv hv1 hx hb
  go_enter Tryd.func22, Tryd.ntmps22
  go_wp2_with (first
    | ((with_reducible refine at_st rtO (w.heap.size + 1) #[.int .u8 0, .int .u8 0, .int .u8 0, .int .u8 0, .int .u8 0, .int .u16 0] #[.int .u8 (op : Int), .int .u8 (x : Int), .int .u8 0, .int .u8 0, .int .u8 (b : Int), .int .u16 0] ?_ ?_ ?_ ?_ (.tmp 4) (.tmp 40) ?_ ?_ ?_ ?_ ?_); exact K9.out.bx 1 _ _ _ rfl; rfl; rfl; (simp [Value.oneCell']); rfl; rfl; rfl; rfl; intro yE HE; have KE : Hid (Fm w [(w.heap.size, WCp, 64), (w.heap.size + 1, #[.int .u8 (op : Int), .int .u8 (x : Int), .int .u8 0, .int .u8 0, .int .u8 (b : Int), .int .u16 0], 30), (y0.heap.size, #[.int .u8 (op : Int), .int .u8 (x : Int), .int .u8 0, .int .u8 0, .int .u8 (b : Int), .int .u16 0], 30)] yE) := K9.out.put 1 _ _ _ _ rfl HE.out; clear HE)
    | (go_at_call 37; (with_reducible refine (hh_a.out y8).mono ?_); rintro e y9 ⟨rfl, H⟩; have K9 : Hid (Fm w [(w.heap.size, WCp, 64), (w.heap.size + 1, #[.int .u8 0, .int .u8 0, .int .u8 0, .int .u8 0, .int .u8 0, .int .u16 0], 30), (y0.heap.size, #[.int .u8 (op : Int), .int .u8 (x : Int), .int .u8 0, .int .u8 0, .int .u8 (b : Int), .int .u16 0], 30)] y9) := K8.out.below H; clear H hh_a)
    | ((with_reducible refine gen_world (y7.setCell ⟨y0.heap.size, 4, none⟩ (.int .u8 (b : Int))) (Fm w [(w.heap.size, WCp, 64), (w.heap.size + 1, #[.int .u8 0, .int .u8 0, .int .u8 0, .int .u8 0, .int .u8 0, .int .u16 0], 30), (y0.heap.size, #[.int .u8 (op : Int), .int .u8 (x : Int), .int .u8 0, .int .u8 0, .int .u8 (b : Int), .int .u16 0], 30)]) ?_ ?_); exact K7.out.setCell 2 _ _ _ _ rfl 4 _ rfl; intro y8 K8; clear cS zS)
    | (go_at_call 37; (with_reducible refine (hh_b.out y6).mono ?_); rintro e y7 ⟨rfl, H⟩; have K7 : Hid (Fm w [(w.heap.size, WCp, 64), (w.heap.size + 1, #[.int .u8 0, .int .u8 0, .int .u8 0, .int .u8 0, .int .u8 0, .int .u16 0], 30), (y0.heap.size, #[.int .u8 (op : Int), .int .u8 (x : Int), .int .u8 0, .int .u8 0, .int .u8 0, .int .u16 0], 30)] y7) := K6.out.below H; clear H hh_b; have cS := (K7.out.bx 2 _ _ _ rfl).c 4 (.int .u8 0) rfl; have zS := (K7.out.bx 2 _ _ _ rfl).fz 4)
    | (go_at_call 37; (with_reducible refine (hh_n.out y5).mono ?_); rintro e y6 ⟨rfl, H⟩; have K6 : Hid (Fm w [(w.heap.size, WCp, 64), (w.heap.size + 1, #[.int .u8 0, .int .u8 0, .int .u8 0, .int .u8 0, .int .u8 0, .int .u16 0], 30), (y0.heap.size, #[.int .u8 (op : Int), .int .u8 (x : Int), .int .u8 0, .int .u8 0, .int .u8 0, .int .u16 0], 30)] y6) := K5.out.below H; clear H hh_n)
    | (go_at_call 37; (with_reducible refine (hh_y.out y4).mono ?_); rintro e y5 ⟨rfl, H⟩; have K5 : Hid (Fm w [(w.heap.size, WCp, 64), (w.heap.size + 1, #[.int .u8 0, .int .u8 0, .int .u8 0, .int .u8 0, .int .u8 0, .int .u16 0], 30), (y0.heap.size, #[.int .u8 (op : Int), .int .u8 (x : Int), .int .u8 0, .int .u8 0, .int .u8 0, .int .u16 0], 30)] y5) := K4.out.below H; clear H hh_y)
    | ((with_reducible refine gen_world (y3.setCell ⟨y0.heap.size, 1, none⟩ (.int .u8 (x : Int))) (Fm w [(w.heap.size, WCp, 64), (w.heap.size + 1, #[.int .u8 0, .int .u8 0, .int .u8 0, .int .u8 0, .int .u8 0, .int .u16 0], 30), (y0.heap.size, #[.int .u8 (op : Int), .int .u8 (x : Int), .int .u8 0, .int .u8 0, .int .u8 0, .int .u16 0], 30)]) ?_ ?_); exact K3.out.setCell 2 _ _ _ _ rfl 1 _ rfl; intro y4 K4; clear cS zS)
    | (go_at_call 37; (with_reducible refine (hh_x.out y2).mono ?_); rintro e y3 ⟨rfl, H⟩; have K3 : Hid (Fm w [(w.heap.size, WCp, 64), (w.heap.size + 1, #[.int .u8 0, .int .u8 0, .int .u8 0, .int .u8 0, .int .u8 0, .int .u16 0], 30), (y0.heap.size, #[.int .u8 (op : Int), .int .u8 0, .int .u8 0, .int .u8 0, .int .u8 0, .int .u16 0], 30)] y3) := K2.out.below H; clear H hh_x; have cS := (K3.out.bx 2 _ _ _ rfl).c 1 (.int .u8 0) rfl; have zS := (K3.out.bx 2 _ _ _ rfl).fz 1)
    | ((with_reducible refine at_st rtO y0.heap.size #[.int .u8 0, .int .u8 0, .int .u8 0, .int .u8 0, .int .u8 0, .int .u16 0] #[.int .u8 (op : Int), .int .u8 0, .int .u8 0, .int .u8 0, .int .u8 0, .int .u16 0] ?_ ?_ ?_ ?_ (.tmp 5) (.tmp 8) ?_ ?_ ?_ ?_ ?_); exact K1.out.bx 2 _ _ _ rfl; rfl; rfl; (simp [Value.oneCell']); rfl; rfl; rfl; rfl; intro y2 H2; have K2 : Hid (Fm w [(w.heap.size, WCp, 64), (w.heap.size + 1, #[.int .u8 0, .int .u8 0, .int .u8 0, .int .u8 0, .int .u8 0, .int .u16 0], 30), (y0.heap.size, #[.int .u8 (op : Int), .int .u8 0, .int .u8 0, .int .u8 0, .int .u8 0, .int .u16 0], 30)] y2) := K1.out.put 2 _ _ _ _ rfl H2.out; clear H2)
    | ((with_reducible refine gen_world (y0.alloc (.cells #[.int .u8 0, .int .u8 0, .int .u8 0, .int .u8 0, .int .u8 0, .int .u16 0] 30)) (Fm w [(w.heap.size, WCp, 64), (w.heap.size + 1, #[.int .u8 0, .int .u8 0, .int .u8 0, .int .u8 0, .int .u8 0, .int .u16 0], 30), (y0.heap.size, #[.int .u8 0, .int .u8 0, .int .u8 0, .int .u8 0, .int .u8 0, .int .u16 0], 30)]) ?_ ?_); exact K0.out.new _ _; intro y1 K1)
    | ((with_reducible refine at_bu #[(0, .tmp 7)] [(0, .int .u8 (op : Int))] #[.int .u8 (op : Int), .int .u8 0, .int .u8 0, .int .u8 0, .int .u8 0, .int .u16 0] ?_ ?_ ?_ (builtO1 op) ?_); kernel_rfl; rfl; kernel_rfl)
    | ((with_reducible refine gen_world ((w.alloc (.cells #[.int .u8 (op : Int), .int .u16 (fx : Int), .string ⟨([120, 98] : List UInt8).toArray⟩, .string M] 64)).alloc (.cells #[.int .u8 0, .int .u8 0, .int .u8 0, .int .u8 0, .int .u8 0, .int .u16 0] 30)) (Fm w [(w.heap.size, WCp, 64), (w.heap.size + 1, #[.int .u8 0, .int .u8 0, .int .u8 0, .int .u8 0, .int .u8 0, .int .u16 0], 30)]) ?_ ?_); (rw [hW.out]; exact Fm.two w _ _ _ _); intro y0 K0; have c0 := (K0.out.bx 0 _ _ _ rfl).c 0 (.int .u8 (op : Int)) (by rw [hW.out]; rfl))
    | ((with_reducible refine at_load rtW w.heap.size WCp ?_ ?_ (.tmp 2) ?_ ?_ ?_ ?_); (first | exact K8.out.bx 0 _ _ _ rfl | exact K6.out.bx 0 _ _ _ rfl | exact K5.out.bx 0 _ _ _ rfl | exact K4.out.bx 0 _ _ _ rfl | exact K2.out.bx 0 _ _ _ rfl); (rw [hW.out]; rfl); kernel_rfl; rfl; rfl)
    | ((with_reducible refine at_load rtO y0.heap.size #[.int .u8 (op : Int), .int .u8 (x : Int), .int .u8 0, .int .u8 0, .int .u8 (b : Int), .int .u16 0] ?_ ?_ (.tmp 5) ?_ ?_ ?_ ?_); exact K9.out.bx 2 _ _ _ rfl; rfl; kernel_rfl; rfl; rfl))
  exact ret_row rtO rfl rfl (KE.out.bx 1 _ _ _ rfl) rfl rfl ⟨rfl, KE.out.low⟩
theorem wrd_xb (w : World) (op fx : Nat) (M : ByteArray) (oo x y n b a : Nat) (hr : x < 16 ∧ y < 16 ∧ n < 16 ∧ b < 256 ∧ a < 65536 ∧ fx < 65536) (mx : Nat) (hmx : x * 256 = mx) (sx : Nat) (hsx : fx + mx = sx) (gsx : sx < 65536) (sb : Nat) (hsb : sx + b = sb) (gsb : sb < 65536) :
    Calls Tryd.prog 23 #[.agg #[.int .u8 (op : Int), .int .u16 (fx : Int), .string ⟨([120, 98] : List UInt8).toArray⟩, .string M], .agg #[.int .u8 (oo : Int), .int .u8 (x : Int), .int .u8 (y : Int), .int .u8 (n : Int), .int .u8 (b : Int), .int .u16 (a : Int)]] w fun e w' => e = .returned (.int .u16 (sb : Int)) ∧ Below w.heap.size w w' := by
  obtain ⟨WCp, hW⟩ : ∃ x : Array Value, Hid (x = #[.int .u8 (op : Int), .int .u16 (fx : Int), .string ⟨([120, 98] : List UInt8).toArray⟩, .string M]) := ⟨(#[.int .u8 (op : Int), .int .u16 (fx : Int), .string ⟨([120, 98] : List UInt8).toArray⟩, .string M] : Array Value), (rfl : (#[.int .u8 (op : Int), .int .u16 (fx : Int), .string ⟨([120, 98] : List UInt8).toArray⟩, .string M] : Array Value) = #[.int .u8 (op : Int), .int .u16 (fx : Int), .string ⟨([120, 98] : List UInt8).toArray⟩, .string M])⟩
  obtain ⟨OC, hO⟩ : ∃ q : Array Value, Hid (q = #[.int .u8 (oo : Int), .int .u8 (x : Int), .int .u8 (y : Int), .int .u8 (n : Int), .int .u8 (b : Int), .int .u16 (a : Int)]) := ⟨(#[.int .u8 (oo : Int), .int .u8 (x : Int), .int .u8 (y : Int), .int .u8 (n : Int), .int .u8 (b : Int), .int .u16 (a : Int)] : Array Value), (rfl : (#[.int .u8 (oo : Int), .int .u8 (x : Int), .int .u8 (y : Int), .int .u8 (n : Int), .int .u8 (b : Int), .int .u16 (a : Int)] : Array Value) = #[.int .u8 (oo : Int), .int .u8 (x : Int), .int .u8 (y : Int), .int .u8 (n : Int), .int .u8 (b : Int), .int .u16 (a : Int)])⟩
  have hh_x : Hid (∀ u, Calls Tryd.prog 37 #[.agg WCp, .int .u8 120] u fun e w' => e = .returned (.bool true) ∧ Below u.heap.size u w') := fun u => by rw [hW.out]; exact has_xb_x u op fx M
  have hh_y : Hid (∀ u, Calls Tryd.prog 37 #[.agg WCp, .int .u8 121] u fun e w' => e = .returned (.bool false) ∧ Below u.heap.size u w') := fun u => by rw [hW.out]; exact has_xb_y u op fx M
  have hh_n : Hid (∀ u, Calls Tryd.prog 37 #[.agg WCp, .int .u8 110] u fun e w' => e = .returned (.bool false) ∧ Below u.heap.size u w') := fun u => by rw [hW.out]; exact has_xb_n u op fx M
  have hh_b : Hid (∀ u, Calls Tryd.prog 37 #[.agg WCp, .int .u8 98] u fun e w' => e = .returned (.bool true) ∧ Below u.heap.size u w') := fun u => by rw [hW.out]; exact has_xb_b u op fx M
  have hh_a : Hid (∀ u, Calls Tryd.prog 37 #[.agg WCp, .int .u8 97] u fun e w' => e = .returned (.bool false) ∧ Below u.heap.size u w') := fun u => by rw [hW.out]; exact has_xb_a u op fx M
  have i0 : (fx : Int) < 65536 := by omega
  have a1 : (x : Int) * 256 = (mx : Int) := by omega
  have a2 : (mx : Int) < 65536 := by omega
  have a3 : (x : Int) < 256 := by omega
  have esx : (fx : Int) + (mx : Int) = (sx : Int) := by omega
  have fsx : (sx : Int) < 65536 := by omega
  have c1b : (b : Int) < 256 := by omega
  have esb : (sx : Int) + (b : Int) = (sb : Int) := by omega
  have fsb : (sb : Int) < 65536 := by omega
  clear hr hmx hsx gsx hsb gsb
  go_enter Tryd.func23, Tryd.ntmps23
  go_wp2_with (first
    | (go_at_call 37; (with_reducible refine (hh_a.out y4).mono ?_); rintro e y5 ⟨rfl, H⟩; have K5 : Hid (Fm w [(w.heap.size, WCp, 64), (w.heap.size + 1, OC, 30)] y5) := K4.out.below H; clear H hh_a)
    | (go_at_call 37; (with_reducible refine (hh_b.out y3).mono ?_); rintro e y4 ⟨rfl, H⟩; have K4 : Hid (Fm w [(w.heap.size, WCp, 64), (w.heap.size + 1, OC, 30)] y4) := K3.out.below H; clear H hh_b; have cFb := (K4.out.bx 1 _ _ _ rfl).c 4 (.int .u8 (b : Int)) (by rw [hO.out]; rfl))
    | (go_at_call 37; (with_reducible refine (hh_n.out y2).mono ?_); rintro e y3 ⟨rfl, H⟩; have K3 : Hid (Fm w [(w.heap.size, WCp, 64), (w.heap.size + 1, OC, 30)] y3) := K2.out.below H; clear H hh_n)
    | (go_at_call 37; (with_reducible refine (hh_y.out y1).mono ?_); rintro e y2 ⟨rfl, H⟩; have K2 : Hid (Fm w [(w.heap.size, WCp, 64), (w.heap.size + 1, OC, 30)] y2) := K1.out.below H; clear H hh_y)
    | (go_at_call 37; (with_reducible refine (hh_x.out y0).mono ?_); rintro e y1 ⟨rfl, H⟩; have K1 : Hid (Fm w [(w.heap.size, WCp, 64), (w.heap.size + 1, OC, 30)] y1) := K0.out.below H; clear H hh_x; have cFx := (K1.out.bx 1 _ _ _ rfl).c 1 (.int .u8 (x : Int)) (by rw [hO.out]; rfl))
    | ((with_reducible refine gen_world ((w.alloc (.cells #[.int .u8 (op : Int), .int .u16 (fx : Int), .string ⟨([120, 98] : List UInt8).toArray⟩, .string M] 64)).alloc (.cells #[.int .u8 (oo : Int), .int .u8 (x : Int), .int .u8 (y : Int), .int .u8 (n : Int), .int .u8 (b : Int), .int .u16 (a : Int)] 30)) (Fm w [(w.heap.size, WCp, 64), (w.heap.size + 1, OC, 30)]) ?_ ?_); (rw [hW.out, hO.out]; exact Fm.two w _ _ _ _); intro y0 K0; have c1 := (K0.out.bx 0 _ _ _ rfl).c 1 (.int .u16 (fx : Int)) (by rw [hW.out]; rfl))
    | ((with_reducible refine at_load rtW w.heap.size WCp ?_ ?_ (.tmp 2) ?_ ?_ ?_ ?_); (first | exact K4.out.bx 0 _ _ _ rfl | exact K3.out.bx 0 _ _ _ rfl | exact K2.out.bx 0 _ _ _ rfl | exact K1.out.bx 0 _ _ _ rfl | exact K0.out.bx 0 _ _ _ rfl); (rw [hW.out]; rfl); kernel_rfl; rfl; rfl))
  go_ret
  exact ⟨rfl, K5.out.low⟩
theorem ord_xyn (w : World) (op fx : Nat) (M : ByteArray) (v : Nat) (hv : v < 65536) (v1 x : Nat) (hv1 : v / 256 = v1) (hx : v1 % 16 = x) (v2 y : Nat) (hv2 : v / 16 = v2) (hy : v2 % 16 = y) (n : Nat) (hn : v % 16 = n) :
    Calls Tryd.prog 22 #[.agg #[.int .u8 (op : Int), .int .u16 (fx : Int), .string ⟨([120, 121, 110] : List UInt8).toArray⟩, .string M], .int .u16 (v : Int)] w fun e w' => e = .returned (.agg #[.int .u8 (op : Int), .int .u8 (x : Int), .int .u8 (y : Int), .int .u8 (n : Int), .int .u8 0, .int .u16 0]) ∧ Below w.heap.size w w' := by
  obtain ⟨WCp, hW⟩ : ∃ x : Array Value, Hid (x = #[.int .u8 (op : Int), .int .u16 (fx : Int), .string ⟨([120, 121, 110] : List UInt8).toArray⟩, .string M]) := ⟨(#[.int .u8 (op : Int), .int .u16 (fx : Int), .string ⟨([120, 121, 110] : List UInt8).toArray⟩, .string M] : Array Value), (rfl : (#[.int .u8 (op : Int), .int .u16 (fx : Int), .string ⟨([120, 121, 110] : List UInt8).toArray⟩, .string M] : Array Value) = #[.int .u8 (op : Int), .int .u16 (fx : Int), .string ⟨([120, 121, 110] : List UInt8).toArray⟩, .string M])⟩
  have hh_x : Hid (∀ u, Calls Tryd.prog 37 #[.agg WCp, .int .u8 120] u fun e w' => e = .returned (.bool true) ∧ Below u.heap.size u w') := fun u => by rw [hW.out]; exact has_xyn_x u op fx M
  have hh_y : Hid (∀ u, Calls Tryd.prog 37 #[.agg WCp, .int .u8 121] u fun e w' => e = .returned (.bool true) ∧ Below u.heap.size u w') := fun u => by rw [hW.out]; exact has_xyn_y u op fx M
  have hh_n : Hid (∀ u, Calls Tryd.prog 37 #[.agg WCp, .int .u8 110] u fun e w' => e = .returned (.bool true) ∧ Below u.heap.size u w') := fun u => by rw [hW.out]; exact has_xyn_n u op fx M
  have hh_b : Hid (∀ u, Calls Tryd.prog 37 #[.agg WCp, .int .u8 98] u fun e w' => e = .returned (.bool false) ∧ Below u.heap.size u w') := fun u => by rw [hW.out]; exact has_xyn_b u op fx M
  have hh_a : Hid (∀ u, Calls Tryd.prog 37 #[.agg WCp, .int .u8 97] u fun e w' => e = .returned (.bool false) ∧ Below u.heap.size u w') := fun u => by rw [hW.out]; exact has_xyn_a u op fx M
  have i0 : (v : Int) < 65536 := by omega
  have a1 : (v : Int) / 256 = (v1 : Int) := by omega
  have a1' : Int.tdiv (v : Int) 256 = (v1 : Int) := by rw [Int.tdiv_eq_ediv_of_nonneg (by omega)]; exact a1
  have a2 : (v1 : Int) % 16 = (x : Int) := by omega
  have a2' : Int.tmod (v1 : Int) 16 = (x : Int) := by rw [Int.tmod_eq_emod_of_nonneg (by omega)]; exact a2
  have a3 : (x : Int) < 16 := by omega
  have a4 : (v1 : Int) < 256 := by omega
  have b1 : (v : Int) / 16 = (v2 : Int) := by omega
  have b1' : Int.tdiv (v : Int) 16 = (v2 : Int) := by rw [Int.tdiv_eq_ediv_of_nonneg (by omega)]; exact b1
  have b2 : (v2 : Int) % 16 = (y : Int) := by omega
  have b2' : Int.tmod (v2 : Int) 16 = (y : Int) := by rw [Int.tmod_eq_emod_of_nonneg (by omega)]; exact b2
  have b3 : (y : Int) < 16 := by omega
  have b4 : (v2 : Int) < 4096 := by omega
  have c2 : (v : Int) % 16 = (n : Int) := by omega
  have c2' : Int.tmod (v : Int) 16 = (n : Int) := by rw [Int.tmod_eq_emod_of_nonneg (by omega)]; exact c2
  have c3 : (n : Int) < 16 := by omega
  clear hv hv1 hx hv2 hy hn
  go_enter Tryd.func22, Tryd.ntmps22
  go_wp2_with (first
    | ((with_reducible refine at_st rtO (w.heap.size + 1) #[.int .u8 0, .int .u8 0, .int .u8 0, .int .u8 0, .int .u8 0, .int .u16 0] #[.int .u8 (op : Int), .int .u8 (x : Int), .int .u8 (y : Int), .int .u8 (n : Int), .int .u8 0, .int .u16 0] ?_ ?_ ?_ ?_ (.tmp 4) (.tmp 40) ?_ ?_ ?_ ?_ ?_); exact K10.out.bx 1 _ _ _ rfl; rfl; rfl; (simp [Value.oneCell']); rfl; rfl; rfl; rfl; intro yE HE; have KE : Hid (Fm w [(w.heap.size, WCp, 64), (w.heap.size + 1, #[.int .u8 (op : Int), .int .u8 (x : Int), .int .u8 (y : Int), .int .u8 (n : Int), .int .u8 0, .int .u16 0], 30), (y0.heap.size, #[.int .u8 (op : Int), .int .u8 (x : Int), .int .u8 (y : Int), .int .u8 (n : Int), .int .u8 0, .int .u16 0], 30)] yE) := K10.out.put 1 _ _ _ _ rfl HE.out; clear HE)
    | (go_at_call 37; (with_reducible refine (hh_a.out y9).mono ?_); rintro e y10 ⟨rfl, H⟩; have K10 : Hid (Fm w [(w.heap.size, WCp, 64), (w.heap.size + 1, #[.int .u8 0, .int .u8 0, .int .u8 0, .int .u8 0, .int .u8 0, .int .u16 0], 30), (y0.heap.size, #[.int .u8 (op : Int), .int .u8 (x : Int), .int .u8 (y : Int), .int .u8 (n : Int), .int .u8 0, .int .u16 0], 30)] y10) := K9.out.below H; clear H hh_a)
    | (go_at_call 37; (with_reducible refine (hh_b.out y8).mono ?_); rintro e y9 ⟨rfl, H⟩; have K9 : Hid (Fm w [(w.heap.size, WCp, 64), (w.heap.size + 1, #[.int .u8 0, .int .u8 0, .int .u8 0, .int .u8 0, .int .u8 0, .int .u16 0], 30), (y0.heap.size, #[.int .u8 (op : Int), .int .u8 (x : Int), .int .u8 (y : Int), .int .u8 (n : Int), .int .u8 0, .int .u16 0], 30)] y9) := K8.out.below H; clear H hh_b)
    | ((with_reducible refine gen_world (y7.setCell ⟨y0.heap.size, 3, none⟩ (.int .u8 (n : Int))) (Fm w [(w.heap.size, WCp, 64), (w.heap.size + 1, #[.int .u8 0, .int .u8 0, .int .u8 0, .int .u8 0, .int .u8 0, .int .u16 0], 30), (y0.heap.size, #[.int .u8 (op : Int), .int .u8 (x : Int), .int .u8 (y : Int), .int .u8 (n : Int), .int .u8 0, .int .u16 0], 30)]) ?_ ?_); exact K7.out.setCell 2 _ _ _ _ rfl 3 _ rfl; intro y8 K8; clear cS zS)
    | (go_at_call 37; (with_reducible refine (hh_n.out y6).mono ?_); rintro e y7 ⟨rfl, H⟩; have K7 : Hid (Fm w [(w.heap.size, WCp, 64), (w.heap.size + 1, #[.int .u8 0, .int .u8 0, .int .u8 0, .int .u8 0, .int .u8 0, .int .u16 0], 30), (y0.heap.size, #[.int .u8 (op : Int), .int .u8 (x : Int), .int .u8 (y : Int), .int .u8 0, .int .u8 0, .int .u16 0], 30)] y7) := K6.out.below H; clear H hh_n; have cS := (K7.out.bx 2 _ _ _ rfl).c 3 (.int .u8 0) rfl; have zS := (K7.out.bx 2 _ _ _ rfl).fz 3)
    | ((with_reducible refine gen_world (y5.setCell ⟨y0.heap.size, 2, none⟩ (.int .u8 (y : Int))) (Fm w [(w.heap.size, WCp, 64), (w.heap.size + 1, #[.int .u8 0, .int .u8 0, .int .u8 0, .int .u8 0, .int .u8 0, .int .u16 0], 30), (y0.heap.size, #[.int .u8 (op : Int), .int .u8 (x : Int), .int .u8 (y : Int), .int .u8 0, .int .u8 0, .int .u16 0], 30)]) ?_ ?_); exact K5.out.setCell 2 _ _ _ _ rfl 2 _ rfl; intro y6 K6; clear cS zS)
    | (go_at_call 37; (with_reducible refine (hh_y.out y4).mono ?_); rintro e y5 ⟨rfl, H⟩; have K5 : Hid (Fm w [(w.heap.size, WCp, 64), (w.heap.size + 1, #[.int .u8 0, .int .u8 0, .int .u8 0, .int .u8 0, .int .u8 0, .int .u16 0], 30), (y0.heap.size, #[.int .u8 (op : Int), .int .u8 (x : Int), .int .u8 0, .int .u8 0, .int .u8 0, .int .u16 0], 30)] y5) := K4.out.below H; clear H hh_y; have cS := (K5.out.bx 2 _ _ _ rfl).c 2 (.int .u8 0) rfl; have zS := (K5.out.bx 2 _ _ _ rfl).fz 2)
    | ((with_reducible refine gen_world (y3.setCell ⟨y0.heap.size, 1, none⟩ (.int .u8 (x : Int))) (Fm w [(w.heap.size, WCp, 64), (w.heap.size + 1, #[.int .u8 0, .int .u8 0, .int .u8 0, .int .u8 0, .int .u8 0, .int .u16 0], 30), (y0.heap.size, #[.int .u8 (op : Int), .int .u8 (x : Int), .int .u8 0, .int .u8 0, .int .u8 0, .int .u16 0], 30)]) ?_ ?_); exact K3.out.setCell 2 _ _ _ _ rfl 1 _ rfl; intro y4 K4; clear cS zS)
    | (go_at_call 37; (with_reducible refine (hh_x.out y2).mono ?_); rintro e y3 ⟨rfl, H⟩; have K3 : Hid (Fm w [(w.heap.size, WCp, 64), (w.heap.size + 1, #[.int .u8 0, .int .u8 0, .int .u8 0, .int .u8 0, .int .u8 0, .int .u16 0], 30), (y0.heap.size, #[.int .u8 (op : Int), .int .u8 0, .int .u8 0, .int .u8 0, .int .u8 0, .int .u16 0], 30)] y3) := K2.out.below H; clear H hh_x; have cS := (K3.out.bx 2 _ _ _ rfl).c 1 (.int .u8 0) rfl; have zS := (K3.out.bx 2 _ _ _ rfl).fz 1)
    | ((with_reducible refine at_st rtO y0.heap.size #[.int .u8 0, .int .u8 0, .int .u8 0, .int .u8 0, .int .u8 0, .int .u16 0] #[.int .u8 (op : Int), .int .u8 0, .int .u8 0, .int .u8 0, .int .u8 0, .int .u16 0] ?_ ?_ ?_ ?_ (.tmp 5) (.tmp 8) ?_ ?_ ?_ ?_ ?_); exact K1.out.bx 2 _ _ _ rfl; rfl; rfl; (simp [Value.oneCell']); rfl; rfl; rfl; rfl; intro y2 H2; have K2 : Hid (Fm w [(w.heap.size, WCp, 64), (w.heap.size + 1, #[.int .u8 0, .int .u8 0, .int .u8 0, .int .u8 0, .int .u8 0, .int .u16 0], 30), (y0.heap.size, #[.int .u8 (op : Int), .int .u8 0, .int .u8 0, .int .u8 0, .int .u8 0, .int .u16 0], 30)] y2) := K1.out.put 2 _ _ _ _ rfl H2.out; clear H2)
    | ((with_reducible refine gen_world (y0.alloc (.cells #[.int .u8 0, .int .u8 0, .int .u8 0, .int .u8 0, .int .u8 0, .int .u16 0] 30)) (Fm w [(w.heap.size, WCp, 64), (w.heap.size + 1, #[.int .u8 0, .int .u8 0, .int .u8 0, .int .u8 0, .int .u8 0, .int .u16 0], 30), (y0.heap.size, #[.int .u8 0, .int .u8 0, .int .u8 0, .int .u8 0, .int .u8 0, .int .u16 0], 30)]) ?_ ?_); exact K0.out.new _ _; intro y1 K1)
    | ((with_reducible refine at_bu #[(0, .tmp 7)] [(0, .int .u8 (op : Int))] #[.int .u8 (op : Int), .int .u8 0, .int .u8 0, .int .u8 0, .int .u8 0, .int .u16 0] ?_ ?_ ?_ (builtO1 op) ?_); kernel_rfl; rfl; kernel_rfl)
    | ((with_reducible refine gen_world ((w.alloc (.cells #[.int .u8 (op : Int), .int .u16 (fx : Int), .string ⟨([120, 121, 110] : List UInt8).toArray⟩, .string M] 64)).alloc (.cells #[.int .u8 0, .int .u8 0, .int .u8 0, .int .u8 0, .int .u8 0, .int .u16 0] 30)) (Fm w [(w.heap.size, WCp, 64), (w.heap.size + 1, #[.int .u8 0, .int .u8 0, .int .u8 0, .int .u8 0, .int .u8 0, .int .u16 0], 30)]) ?_ ?_); (rw [hW.out]; exact Fm.two w _ _ _ _); intro y0 K0; have c0 := (K0.out.bx 0 _ _ _ rfl).c 0 (.int .u8 (op : Int)) (by rw [hW.out]; rfl))
    | ((with_reducible refine at_load rtW w.heap.size WCp ?_ ?_ (.tmp 2) ?_ ?_ ?_ ?_); (first | exact K9.out.bx 0 _ _ _ rfl | exact K8.out.bx 0 _ _ _ rfl | exact K6.out.bx 0 _ _ _ rfl | exact K4.out.bx 0 _ _ _ rfl | exact K2.out.bx 0 _ _ _ rfl); (rw [hW.out]; rfl); kernel_rfl; rfl; rfl)
    | ((with_reducible refine at_load rtO y0.heap.size #[.int .u8 (op : Int), .int .u8 (x : Int), .int .u8 (y : Int), .int .u8 (n : Int), .int .u8 0, .int .u16 0] ?_ ?_ (.tmp 5) ?_ ?_ ?_ ?_); exact K10.out.bx 2 _ _ _ rfl; rfl; kernel_rfl; rfl; rfl))
  exact ret_row rtO rfl rfl (KE.out.bx 1 _ _ _ rfl) rfl rfl ⟨rfl, KE.out.low⟩
theorem wrd_xyn (w : World) (op fx : Nat) (M : ByteArray) (oo x y n b a : Nat) (hr : x < 16 ∧ y < 16 ∧ n < 16 ∧ b < 256 ∧ a < 65536 ∧ fx < 65536) (mx : Nat) (hmx : x * 256 = mx) (sx : Nat) (hsx : fx + mx = sx) (gsx : sx < 65536) (my : Nat) (hmy : y * 16 = my) (sy : Nat) (hsy : sx + my = sy) (gsy : sy < 65536) (sn : Nat) (hsn : sy + n = sn) (gsn : sn < 65536) :
    Calls Tryd.prog 23 #[.agg #[.int .u8 (op : Int), .int .u16 (fx : Int), .string ⟨([120, 121, 110] : List UInt8).toArray⟩, .string M], .agg #[.int .u8 (oo : Int), .int .u8 (x : Int), .int .u8 (y : Int), .int .u8 (n : Int), .int .u8 (b : Int), .int .u16 (a : Int)]] w fun e w' => e = .returned (.int .u16 (sn : Int)) ∧ Below w.heap.size w w' := by
  obtain ⟨WCp, hW⟩ : ∃ x : Array Value, Hid (x = #[.int .u8 (op : Int), .int .u16 (fx : Int), .string ⟨([120, 121, 110] : List UInt8).toArray⟩, .string M]) := ⟨(#[.int .u8 (op : Int), .int .u16 (fx : Int), .string ⟨([120, 121, 110] : List UInt8).toArray⟩, .string M] : Array Value), (rfl : (#[.int .u8 (op : Int), .int .u16 (fx : Int), .string ⟨([120, 121, 110] : List UInt8).toArray⟩, .string M] : Array Value) = #[.int .u8 (op : Int), .int .u16 (fx : Int), .string ⟨([120, 121, 110] : List UInt8).toArray⟩, .string M])⟩
  obtain ⟨OC, hO⟩ : ∃ q : Array Value, Hid (q = #[.int .u8 (oo : Int), .int .u8 (x : Int), .int .u8 (y : Int), .int .u8 (n : Int), .int .u8 (b : Int), .int .u16 (a : Int)]) := ⟨(#[.int .u8 (oo : Int), .int .u8 (x : Int), .int .u8 (y : Int), .int .u8 (n : Int), .int .u8 (b : Int), .int .u16 (a : Int)] : Array Value), (rfl : (#[.int .u8 (oo : Int), .int .u8 (x : Int), .int .u8 (y : Int), .int .u8 (n : Int), .int .u8 (b : Int), .int .u16 (a : Int)] : Array Value) = #[.int .u8 (oo : Int), .int .u8 (x : Int), .int .u8 (y : Int), .int .u8 (n : Int), .int .u8 (b : Int), .int .u16 (a : Int)])⟩
  have hh_x : Hid (∀ u, Calls Tryd.prog 37 #[.agg WCp, .int .u8 120] u fun e w' => e = .returned (.bool true) ∧ Below u.heap.size u w') := fun u => by rw [hW.out]; exact has_xyn_x u op fx M
  have hh_y : Hid (∀ u, Calls Tryd.prog 37 #[.agg WCp, .int .u8 121] u fun e w' => e = .returned (.bool true) ∧ Below u.heap.size u w') := fun u => by rw [hW.out]; exact has_xyn_y u op fx M
  have hh_n : Hid (∀ u, Calls Tryd.prog 37 #[.agg WCp, .int .u8 110] u fun e w' => e = .returned (.bool true) ∧ Below u.heap.size u w') := fun u => by rw [hW.out]; exact has_xyn_n u op fx M
  have hh_b : Hid (∀ u, Calls Tryd.prog 37 #[.agg WCp, .int .u8 98] u fun e w' => e = .returned (.bool false) ∧ Below u.heap.size u w') := fun u => by rw [hW.out]; exact has_xyn_b u op fx M
  have hh_a : Hid (∀ u, Calls Tryd.prog 37 #[.agg WCp, .int .u8 97] u fun e w' => e = .returned (.bool false) ∧ Below u.heap.size u w') := fun u => by rw [hW.out]; exact has_xyn_a u op fx M
  have i0 : (fx : Int) < 65536 := by omega
  have a1 : (x : Int) * 256 = (mx : Int) := by omega
  have a2 : (mx : Int) < 65536 := by omega
  have a3 : (x : Int) < 256 := by omega
  have esx : (fx : Int) + (mx : Int) = (sx : Int) := by omega
  have fsx : (sx : Int) < 65536 := by omega
  have b1 : (y : Int) * 16 = (my : Int) := by omega
  have b2 : (my : Int) < 65536 := by omega
  have b3 : (y : Int) < 256 := by omega
  have esy : (sx : Int) + (my : Int) = (sy : Int) := by omega
  have fsy : (sy : Int) < 65536 := by omega
  have c1n : (n : Int) < 256 := by omega
  have esn : (sy : Int) + (n : Int) = (sn : Int) := by omega
  have fsn : (sn : Int) < 65536 := by omega
  clear hr hmx hsx gsx hmy hsy gsy hsn gsn
  go_enter Tryd.func23, Tryd.ntmps23
  go_wp2_with (first
    | (go_at_call 37; (with_reducible refine (hh_a.out y4).mono ?_); rintro e y5 ⟨rfl, H⟩; have K5 : Hid (Fm w [(w.heap.size, WCp, 64), (w.heap.size + 1, OC, 30)] y5) := K4.out.below H; clear H hh_a)
    | (go_at_call 37; (with_reducible refine (hh_b.out y3).mono ?_); rintro e y4 ⟨rfl, H⟩; have K4 : Hid (Fm w [(w.heap.size, WCp, 64), (w.heap.size + 1, OC, 30)] y4) := K3.out.below H; clear H hh_b)
    | (go_at_call 37; (with_reducible refine (hh_n.out y2).mono ?_); rintro e y3 ⟨rfl, H⟩; have K3 : Hid (Fm w [(w.heap.size, WCp, 64), (w.heap.size + 1, OC, 30)] y3) := K2.out.below H; clear H hh_n; have cFn := (K3.out.bx 1 _ _ _ rfl).c 3 (.int .u8 (n : Int)) (by rw [hO.out]; rfl))
    | (go_at_call 37; (with_reducible refine (hh_y.out y1).mono ?_); rintro e y2 ⟨rfl, H⟩; have K2 : Hid (Fm w [(w.heap.size, WCp, 64), (w.heap.size + 1, OC, 30)] y2) := K1.out.below H; clear H hh_y; have cFy := (K2.out.bx 1 _ _ _ rfl).c 2 (.int .u8 (y : Int)) (by rw [hO.out]; rfl))
    | (go_at_call 37; (with_reducible refine (hh_x.out y0).mono ?_); rintro e y1 ⟨rfl, H⟩; have K1 : Hid (Fm w [(w.heap.size, WCp, 64), (w.heap.size + 1, OC, 30)] y1) := K0.out.below H; clear H hh_x; have cFx := (K1.out.bx 1 _ _ _ rfl).c 1 (.int .u8 (x : Int)) (by rw [hO.out]; rfl))
    | ((with_reducible refine gen_world ((w.alloc (.cells #[.int .u8 (op : Int), .int .u16 (fx : Int), .string ⟨([120, 121, 110] : List UInt8).toArray⟩, .string M] 64)).alloc (.cells #[.int .u8 (oo : Int), .int .u8 (x : Int), .int .u8 (y : Int), .int .u8 (n : Int), .int .u8 (b : Int), .int .u16 (a : Int)] 30)) (Fm w [(w.heap.size, WCp, 64), (w.heap.size + 1, OC, 30)]) ?_ ?_); (rw [hW.out, hO.out]; exact Fm.two w _ _ _ _); intro y0 K0; have c1 := (K0.out.bx 0 _ _ _ rfl).c 1 (.int .u16 (fx : Int)) (by rw [hW.out]; rfl))
    | ((with_reducible refine at_load rtW w.heap.size WCp ?_ ?_ (.tmp 2) ?_ ?_ ?_ ?_); (first | exact K4.out.bx 0 _ _ _ rfl | exact K3.out.bx 0 _ _ _ rfl | exact K2.out.bx 0 _ _ _ rfl | exact K1.out.bx 0 _ _ _ rfl | exact K0.out.bx 0 _ _ _ rfl); (rw [hW.out]; rfl); kernel_rfl; rfl; rfl))
  go_ret
  exact ⟨rfl, K5.out.low⟩
end Go.Proofs.YthaijjehplomfaaDoor
