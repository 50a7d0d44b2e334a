/- An item as it is written, by the document: all kinds but data. -/
import Derived.Test.YtfdjifgmlgpjgaaDoorId
import Derived.Test.YtfdjifgmlgpjgaaDoorIe
import Derived.Test.YtfdjifgmlgpjgaaDoorORefJ
import Derived.Test.YtfdjifgmlgpjgaaDoorXp
namespace Go.Proofs.YtfdjifgmlgpjgaaDoor
open Go Go.RowKit
set_option linter.unusedVariables false
set_option maxHeartbeats 3000000
set_option maxRecDepth 20000

/-- The digits of bytes, each behind a blank. -/
def dataL (b : List UInt8) : List UInt8 := b.flatMap fun x => 32 :: hexL 2 x.toNat
/-- An item as it is written. -/
def lineI (r : Ri) (b : List UInt8) : ByteArray :=
  if r.k = 1 then r.n ++ ⟨#[58]⟩
  else if r.k = 3 then ⟨([32, 100, 97, 116, 97] ++ dataL b).toArray⟩
  else if r.k = 4 then ⟨#[32, 97, 116, 32]⟩ ++ hexOf r.a 4
  else if r.k = 5 then ⟨#[32, 97, 100, 100, 114, 101, 115, 115, 32]⟩ ++ r.l
  else if r.p = 1 then ⟨#[32]⟩ ++ r.n ++ ⟨#[32, 116, 111, 32]⟩ ++ r.l
  else if r.p = 2 then ⟨#[32]⟩ ++ r.n ++ ⟨#[32, 104, 105, 103, 104, 32]⟩ ++ r.l
  else if r.p = 3 then ⟨#[32]⟩ ++ r.n ++ ⟨#[32, 108, 111, 119, 32]⟩ ++ r.l
  else ⟨#[32]⟩ ++ printS r.n r.a

theorem hexOf_le (n d : Int) : (hexOf n d).size ≤ 8 := by
  unfold hexOf
  split
  · rename_i h
    rw [hexS_size]
    omega
  · exact Nat.zero_le _
theorem printS_le (S : ByteArray) (A : Int) : (printS S A).size ≤ 13 := by
  unfold printS
  rcases ho : opOf S with _ | n
  · exact Nat.zero_le _
  · show (if mayB n A then textOf n A else ⟨#[]⟩).size ≤ 13
    split
    · unfold textOf
      have h1 := nm_size n (opOf_lt ho).1
      split
      · omega
      · have h2 := hexOf_le A (digs n)
        have e : (⟨#[32]⟩ : ByteArray).size = 1 := rfl
        rw [ByteArray.size_append, ByteArray.size_append]
        omega
    · exact Nat.zero_le _

theorem line_label (w : World) (r : Ri) (b : List UInt8) (hk : Hid (r.k = 1)) (hs : r.n.size ≤ 1000 ∧ r.l.size ≤ 1000) (ha : r.a ≤ 9223372036854775807) : Calls Tryd.prog 34 #[.agg (i6 r)] w fun e w' => e = .returned (.string (lineI r b)) ∧ Below w.heap.size w w' := by
  have hB : Hid (Fm w [(w.heap.size, i6 r, 35)] (w.alloc (.cells (i6 r) 35))) := Fm.one w _ _
  have hk1 := hk.out
  have k1 : (r.k == 1) = true := by rw [beq_iff_eq]; omega
  rw [show lineI r b = _ from by unfold lineI; rw [if_pos hk1]]
  have s1 : (r.n.size : Int) ≤ 1000 := by omega
  have s2 : (r.l.size : Int) ≤ 1000 := by omega
  clear hk1 hs
  go_enter Tryd.func34, Tryd.ntmps34
  go_wp2_with (first | ((with_reducible refine gen_world (w.alloc (.cells (i6 r) 35)) (Fm w [(w.heap.size, i6 r, 35)]) hB.out ?_); intro y K1; have d0 := (K1.out.bx 0 _ _ _ rfl).c 0 (.int .u8 r.k) rfl; have d1 := (K1.out.bx 0 _ _ _ rfl).c 1 (.string r.n) rfl; have d2 := (K1.out.bx 0 _ _ _ rfl).c 2 (.int .i64 r.a) rfl; have d3 := (K1.out.bx 0 _ _ _ rfl).c 3 (.string r.l) rfl; have d4 := (K1.out.bx 0 _ _ _ rfl).c 4 (.int .u8 r.p) rfl; have d5 := (K1.out.bx 0 _ _ _ rfl).c 5 (.slice r.sp r.m r.cap) rfl))
  go_ret
  exact ⟨rfl, K1.out.low⟩
theorem line_addr (w : World) (r : Ri) (b : List UInt8) (hk : Hid (r.k = 5)) (hs : r.n.size ≤ 1000 ∧ r.l.size ≤ 1000) (ha : r.a ≤ 9223372036854775807) : Calls Tryd.prog 34 #[.agg (i6 r)] w fun e w' => e = .returned (.string (lineI r b)) ∧ Below w.heap.size w w' := by
  have hB : Hid (Fm w [(w.heap.size, i6 r, 35)] (w.alloc (.cells (i6 r) 35))) := Fm.one w _ _
  have hk1 := hk.out
  have k1 : (r.k == 1) = false := by rw [beq_eq_false_iff_ne]; omega
  have k3 : (r.k == 3) = false := by rw [beq_eq_false_iff_ne]; omega
  have k4 : (r.k == 4) = false := by rw [beq_eq_false_iff_ne]; omega
  have k5 : (r.k == 5) = true := by rw [beq_iff_eq]; omega
  rw [show lineI r b = _ from by unfold lineI; rw [if_neg (by omega), if_neg (by omega), if_neg (by omega), if_pos hk1]]
  have s1 : (r.n.size : Int) ≤ 1000 := by omega
  have s2 : (r.l.size : Int) ≤ 1000 := by omega
  clear hk1 hs
  go_enter Tryd.func34, Tryd.ntmps34
  go_wp2_with (first | ((with_reducible refine gen_world (w.alloc (.cells (i6 r) 35)) (Fm w [(w.heap.size, i6 r, 35)]) hB.out ?_); intro y K1; have d0 := (K1.out.bx 0 _ _ _ rfl).c 0 (.int .u8 r.k) rfl; have d1 := (K1.out.bx 0 _ _ _ rfl).c 1 (.string r.n) rfl; have d2 := (K1.out.bx 0 _ _ _ rfl).c 2 (.int .i64 r.a) rfl; have d3 := (K1.out.bx 0 _ _ _ rfl).c 3 (.string r.l) rfl; have d4 := (K1.out.bx 0 _ _ _ rfl).c 4 (.int .u8 r.p) rfl; have d5 := (K1.out.bx 0 _ _ _ rfl).c 5 (.slice r.sp r.m r.cap) rfl))
  go_ret
  exact ⟨rfl, K1.out.low⟩
theorem line_to (w : World) (r : Ri) (b : List UInt8) (hk : Hid ((r.k ≠ 1 ∧ r.k ≠ 3 ∧ r.k ≠ 4 ∧ r.k ≠ 5) ∧ r.p = 1)) (hs : r.n.size ≤ 1000 ∧ r.l.size ≤ 1000) (ha : r.a ≤ 9223372036854775807) : Calls Tryd.prog 34 #[.agg (i6 r)] w fun e w' => e = .returned (.string (lineI r b)) ∧ Below w.heap.size w w' := by
  have hB : Hid (Fm w [(w.heap.size, i6 r, 35)] (w.alloc (.cells (i6 r) 35))) := Fm.one w _ _
  have hk1 := hk.out.1
  have hp1 := hk.out.2
  have k1 : (r.k == 1) = false := by rw [beq_eq_false_iff_ne]; omega
  have k3 : (r.k == 3) = false := by rw [beq_eq_false_iff_ne]; omega
  have k4 : (r.k == 4) = false := by rw [beq_eq_false_iff_ne]; omega
  have k5 : (r.k == 5) = false := by rw [beq_eq_false_iff_ne]; omega
  have p1 : (r.p == 1) = true := by rw [beq_iff_eq]; omega
  rw [show lineI r b = _ from by unfold lineI; rw [if_neg (by omega), if_neg (by omega), if_neg (by omega), if_neg (by omega), if_pos hp1]]
  have s1 : (r.n.size : Int) ≤ 1000 := by omega
  have s2 : (r.l.size : Int) ≤ 1000 := by omega
  clear hk1 hp1 hs
  go_enter Tryd.func34, Tryd.ntmps34
  go_wp2_with (first | ((with_reducible refine gen_world (w.alloc (.cells (i6 r) 35)) (Fm w [(w.heap.size, i6 r, 35)]) hB.out ?_); intro y K1; have d0 := (K1.out.bx 0 _ _ _ rfl).c 0 (.int .u8 r.k) rfl; have d1 := (K1.out.bx 0 _ _ _ rfl).c 1 (.string r.n) rfl; have d2 := (K1.out.bx 0 _ _ _ rfl).c 2 (.int .i64 r.a) rfl; have d3 := (K1.out.bx 0 _ _ _ rfl).c 3 (.string r.l) rfl; have d4 := (K1.out.bx 0 _ _ _ rfl).c 4 (.int .u8 r.p) rfl; have d5 := (K1.out.bx 0 _ _ _ rfl).c 5 (.slice r.sp r.m r.cap) rfl))
  go_ret
  exact ⟨rfl, K1.out.low⟩
theorem line_high (w : World) (r : Ri) (b : List UInt8) (hk : Hid ((r.k ≠ 1 ∧ r.k ≠ 3 ∧ r.k ≠ 4 ∧ r.k ≠ 5) ∧ r.p = 2)) (hs : r.n.size ≤ 1000 ∧ r.l.size ≤ 1000) (ha : r.a ≤ 9223372036854775807) : Calls Tryd.prog 34 #[.agg (i6 r)] w fun e w' => e = .returned (.string (lineI r b)) ∧ Below w.heap.size w w' := by
  have hB : Hid (Fm w [(w.heap.size, i6 r, 35)] (w.alloc (.cells (i6 r) 35))) := Fm.one w _ _
  have hk1 := hk.out.1
  have hp1 := hk.out.2
  have k1 : (r.k == 1) = false := by rw [beq_eq_false_iff_ne]; omega
  have k3 : (r.k == 3) = false := by rw [beq_eq_false_iff_ne]; omega
  have k4 : (r.k == 4) = false := by rw [beq_eq_false_iff_ne]; omega
  have k5 : (r.k == 5) = false := by rw [beq_eq_false_iff_ne]; omega
  have p1 : (r.p == 1) = false := by rw [beq_eq_false_iff_ne]; omega
  have p2 : (r.p == 2) = true := by rw [beq_iff_eq]; omega
  rw [show lineI r b = _ from by unfold lineI; rw [if_neg (by omega), if_neg (by omega), if_neg (by omega), if_neg (by omega), if_neg (by omega), if_pos hp1]]
  have s1 : (r.n.size : Int) ≤ 1000 := by omega
  have s2 : (r.l.size : Int) ≤ 1000 := by omega
  clear hk1 hp1 hs
  go_enter Tryd.func34, Tryd.ntmps34
  go_wp2_with (first | ((with_reducible refine gen_world (w.alloc (.cells (i6 r) 35)) (Fm w [(w.heap.size, i6 r, 35)]) hB.out ?_); intro y K1; have d0 := (K1.out.bx 0 _ _ _ rfl).c 0 (.int .u8 r.k) rfl; have d1 := (K1.out.bx 0 _ _ _ rfl).c 1 (.string r.n) rfl; have d2 := (K1.out.bx 0 _ _ _ rfl).c 2 (.int .i64 r.a) rfl; have d3 := (K1.out.bx 0 _ _ _ rfl).c 3 (.string r.l) rfl; have d4 := (K1.out.bx 0 _ _ _ rfl).c 4 (.int .u8 r.p) rfl; have d5 := (K1.out.bx 0 _ _ _ rfl).c 5 (.slice r.sp r.m r.cap) rfl))
  go_ret
  exact ⟨rfl, K1.out.low⟩
theorem line_low (w : World) (r : Ri) (b : List UInt8) (hk : Hid ((r.k ≠ 1 ∧ r.k ≠ 3 ∧ r.k ≠ 4 ∧ r.k ≠ 5) ∧ r.p = 3)) (hs : r.n.size ≤ 1000 ∧ r.l.size ≤ 1000) (ha : r.a ≤ 9223372036854775807) : Calls Tryd.prog 34 #[.agg (i6 r)] w fun e w' => e = .returned (.string (lineI r b)) ∧ Below w.heap.size w w' := by
  have hB : Hid (Fm w [(w.heap.size, i6 r, 35)] (w.alloc (.cells (i6 r) 35))) := Fm.one w _ _
  have hk1 := hk.out.1
  have hp1 := hk.out.2
  have k1 : (r.k == 1) = false := by rw [beq_eq_false_iff_ne]; omega
  have k3 : (r.k == 3) = false := by rw [beq_eq_false_iff_ne]; omega
  have k4 : (r.k == 4) = false := by rw [beq_eq_false_iff_ne]; omega
  have k5 : (r.k == 5) = false := by rw [beq_eq_false_iff_ne]; omega
  have p1 : (r.p == 1) = false := by rw [beq_eq_false_iff_ne]; omega
  have p2 : (r.p == 2) = false := by rw [beq_eq_false_iff_ne]; omega
  have p3 : (r.p == 3) = true := by rw [beq_iff_eq]; omega
  rw [show lineI r b = _ from by unfold lineI; rw [if_neg (by omega), if_neg (by omega), if_neg (by omega), if_neg (by omega), if_neg (by omega), if_neg (by omega), if_pos hp1]]
  have s1 : (r.n.size : Int) ≤ 1000 := by omega
  have s2 : (r.l.size : Int) ≤ 1000 := by omega
  clear hk1 hp1 hs
  go_enter Tryd.func34, Tryd.ntmps34
  go_wp2_with (first | ((with_reducible refine gen_world (w.alloc (.cells (i6 r) 35)) (Fm w [(w.heap.size, i6 r, 35)]) hB.out ?_); intro y K1; have d0 := (K1.out.bx 0 _ _ _ rfl).c 0 (.int .u8 r.k) rfl; have d1 := (K1.out.bx 0 _ _ _ rfl).c 1 (.string r.n) rfl; have d2 := (K1.out.bx 0 _ _ _ rfl).c 2 (.int .i64 r.a) rfl; have d3 := (K1.out.bx 0 _ _ _ rfl).c 3 (.string r.l) rfl; have d4 := (K1.out.bx 0 _ _ _ rfl).c 4 (.int .u8 r.p) rfl; have d5 := (K1.out.bx 0 _ _ _ rfl).c 5 (.slice r.sp r.m r.cap) rfl))
  go_ret
  exact ⟨rfl, K1.out.low⟩
theorem line_at (w : World) (r : Ri) (b : List UInt8) (hk : Hid (r.k = 4)) (hs : r.n.size ≤ 1000 ∧ r.l.size ≤ 1000) (ha : r.a ≤ 9223372036854775807) : Calls Tryd.prog 34 #[.agg (i6 r)] w fun e w' => e = .returned (.string (lineI r b)) ∧ Below w.heap.size w w' := by
  have hB : Hid (Fm w [(w.heap.size, i6 r, 35)] (w.alloc (.cells (i6 r) 35))) := Fm.one w _ _
  have hk1 := hk.out
  have k1 : (r.k == 1) = false := by rw [beq_eq_false_iff_ne]; omega
  have k3 : (r.k == 3) = false := by rw [beq_eq_false_iff_ne]; omega
  have k4 : (r.k == 4) = true := by rw [beq_iff_eq]; omega
  rw [show lineI r b = _ from by unfold lineI; rw [if_neg (by omega), if_neg (by omega), if_pos hk1]]
  have s1 : (r.n.size : Int) ≤ 1000 := by omega
  have s2 : (r.l.size : Int) ≤ 1000 := by omega
  have hH := fun v => rhex_any r.a 4 v ha
  have hx := hexOf_le r.a 4
  generalize hexOf r.a 4 = HX at hH hx
  have hx1 : (HX.size : Int) ≤ 8 := by omega
  clear hk1 hs
  go_enter Tryd.func34, Tryd.ntmps34
  go_wp2_with (first | ((with_reducible refine gen_world (w.alloc (.cells (i6 r) 35)) (Fm w [(w.heap.size, i6 r, 35)]) hB.out ?_); intro y K1; have d0 := (K1.out.bx 0 _ _ _ rfl).c 0 (.int .u8 r.k) rfl; have d1 := (K1.out.bx 0 _ _ _ rfl).c 1 (.string r.n) rfl; have d2 := (K1.out.bx 0 _ _ _ rfl).c 2 (.int .i64 r.a) rfl; have d3 := (K1.out.bx 0 _ _ _ rfl).c 3 (.string r.l) rfl; have d4 := (K1.out.bx 0 _ _ _ rfl).c 4 (.int .u8 r.p) rfl; have d5 := (K1.out.bx 0 _ _ _ rfl).c 5 (.slice r.sp r.m r.cap) rfl) | (go_at_call 55; refine (hH y).mono ?_; rintro e y2 ⟨rfl, h2⟩; have K2 : Hid (Below w.heap.size w y2) := (K1.out.below h2).low; clear h2))
  go_ret
  exact ⟨rfl, K2.out⟩
theorem line_code (w : World) (r : Ri) (b : List UInt8) (hk : Hid ((r.k ≠ 1 ∧ r.k ≠ 3 ∧ r.k ≠ 4 ∧ r.k ≠ 5) ∧ r.p ≠ 1 ∧ r.p ≠ 2 ∧ r.p ≠ 3)) (hs : r.n.size ≤ 1000 ∧ r.l.size ≤ 1000) (ha : r.a ≤ 9223372036854775807) : Calls Tryd.prog 34 #[.agg (i6 r)] w fun e w' => e = .returned (.string (lineI r b)) ∧ Below w.heap.size w w' := by
  have hB : Hid (Fm w [(w.heap.size, i6 r, 35)] (w.alloc (.cells (i6 r) 35))) := Fm.one w _ _
  have hk1 := hk.out.1
  have hp1 := hk.out.2
  have k1 : (r.k == 1) = false := by rw [beq_eq_false_iff_ne]; omega
  have k3 : (r.k == 3) = false := by rw [beq_eq_false_iff_ne]; omega
  have k4 : (r.k == 4) = false := by rw [beq_eq_false_iff_ne]; omega
  have k5 : (r.k == 5) = false := by rw [beq_eq_false_iff_ne]; omega
  have p1 : (r.p == 1) = false := by rw [beq_eq_false_iff_ne]; omega
  have p2 : (r.p == 2) = false := by rw [beq_eq_false_iff_ne]; omega
  have p3 : (r.p == 3) = false := by rw [beq_eq_false_iff_ne]; omega
  rw [show lineI r b = _ from by unfold lineI; rw [if_neg (by omega), if_neg (by omega), if_neg (by omega), if_neg (by omega), if_neg (by omega), if_neg (by omega), if_neg (by omega)]]
  have s1 : (r.n.size : Int) ≤ 1000 := by omega
  have s2 : (r.l.size : Int) ≤ 1000 := by omega
  have hP := fun v => rprint_any r.n r.a v
  have hx := printS_le r.n r.a
  generalize printS r.n r.a = PX at hP hx
  have hx1 : (PX.size : Int) ≤ 13 := by omega
  generalize printE r.n r.a = PE at hP
  clear hk1 hp1 hs
  go_enter Tryd.func34, Tryd.ntmps34
  go_wp2_with (first | ((with_reducible refine gen_world (w.alloc (.cells (i6 r) 35)) (Fm w [(w.heap.size, i6 r, 35)]) hB.out ?_); intro y K1; have d0 := (K1.out.bx 0 _ _ _ rfl).c 0 (.int .u8 r.k) rfl; have d1 := (K1.out.bx 0 _ _ _ rfl).c 1 (.string r.n) rfl; have d2 := (K1.out.bx 0 _ _ _ rfl).c 2 (.int .i64 r.a) rfl; have d3 := (K1.out.bx 0 _ _ _ rfl).c 3 (.string r.l) rfl; have d4 := (K1.out.bx 0 _ _ _ rfl).c 4 (.int .u8 r.p) rfl; have d5 := (K1.out.bx 0 _ _ _ rfl).c 5 (.slice r.sp r.m r.cap) rfl) | (go_at_call 56; refine (hP y).mono ?_; rintro e y2 ⟨rfl, h2⟩; have K2 : Hid (Below w.heap.size w y2) := (K1.out.below h2).low; clear h2))
  go_ret
  exact ⟨rfl, K2.out⟩
end Go.Proofs.YtfdjifgmlgpjgaaDoor
