/- An item as it is written, by the document: all kinds but data. -/
import Derived.Test.YtmaedkbmjbggpaaDoorJNd
import Derived.Test.YtmaedkbmjbggpaaDoorJIe
import Derived.Test.YtmaedkbmjbggpaaDoorJORefJ
import Derived.Test.YtmaedkbmjbggpaaDoorJXp
namespace Go.Proofs.YtmaedkbmjbggpaaDoor
open Go Go.RowKit
set_option linter.unusedVariables false
set_option maxHeartbeats 3000000
set_option maxRecDepth 20000

/-- The digits of bytes, each behind a blank. -/
def dataL (b : List UInt8) : List UInt8 := b.flatMap fun x => 32 :: hexL 2 x.toNat
/-- An item as it is written. -/
def lineI (r : Ri) (b : List UInt8) : ByteArray :=
  if r.k = 1 then r.n ++ ⟨#[58]⟩
  else if r.k = 3 then ⟨([32, 100, 97, 116, 97] ++ dataL b).toArray⟩
  else if r.k = 4 then ⟨#[32, 97, 116, 32]⟩ ++ hexOf r.a 4
  else if r.k = 5 then ⟨#[32, 97, 100, 100, 114, 101, 115, 115, 32]⟩ ++ r.l
  else if r.p = 1 then ⟨#[32]⟩ ++ r.n ++ ⟨#[32, 116, 111, 32]⟩ ++ r.l
  else if r.p = 2 then ⟨#[32]⟩ ++ r.n ++ ⟨#[32, 104, 105, 103, 104, 32]⟩ ++ r.l
  else if r.p = 3 then ⟨#[32]⟩ ++ r.n ++ ⟨#[32, 108, 111, 119, 32]⟩ ++ r.l
  else ⟨#[32]⟩ ++ printS r.n r.a

theorem hexOf_le (n d : Int) : (hexOf n d).size ≤ 8 := by
  unfold hexOf
  split
  · rename_i h
    rw [hexS_size]
    omega
  · exact Nat.zero_le _
theorem printS_le (S : ByteArray) (A : Int) : (printS S A).size ≤ 13 := by
  unfold printS
  rcases ho : opOf S with _ | n
  · exact Nat.zero_le _
  · show (if mayB n A then textOf n A else ⟨#[]⟩).size ≤ 13
    split
    · unfold textOf
      have h1 := nm_size n (opOf_lt ho).1
      split
      · omega
      · have h2 := hexOf_le A (digs n)
        have e : (⟨#[32]⟩ : ByteArray).size = 1 := rfl
        rw [ByteArray.size_append, ByteArray.size_append]
        omega
    · exact Nat.zero_le _

theorem line_label (w : World) (r : Ri) (b : List UInt8) (hk : Hid (r.k = 1)) (hs : r.n.size ≤ 1000 ∧ r.l.size ≤ 1000) (ha : r.a ≤ 9223372036854775807) : Calls Tryd.prog 27 #[.agg (i6 r)] w fun e w' => e = .returned (.string (lineI r b)) ∧ Below w.heap.size w w' := by
  have hB : Hid (Fm w [(w.heap.size, i6 r, 39)] (w.alloc (.cells (i6 r) 39))) := Fm.one w _ _
  have hk1 := hk.out
  have k1 : (r.k == 1) = true := by rw [beq_iff_eq]; omega
  rw [show lineI r b = _ from by unfold lineI; rw [if_pos hk1]]
  have s1 : (r.n.size : Int) ≤ 1000 := by omega
  have s2 : (r.l.size : Int) ≤ 1000 := by omega
  clear hk1 hs
  go_enter Tryd.func27, Tryd.ntmps27
  go_wp2_with (first | ((with_reducible refine gen_world (w.alloc (.cells (i6 r) 39)) (Fm w [(w.heap.size, i6 r, 39)]) hB.out ?_); intro y K1; have d0 := (K1.out.bx 0 _ _ _ rfl).c 0 (.int .u8 r.k) rfl; have d1 := (K1.out.bx 0 _ _ _ rfl).c 1 (.string r.n) rfl; have d2 := (K1.out.bx 0 _ _ _ rfl).c 2 (.int .i64 r.a) rfl; have d3 := (K1.out.bx 0 _ _ _ rfl).c 3 (.string r.l) rfl; have d4 := (K1.out.bx 0 _ _ _ rfl).c 4 (.int .u8 r.p) rfl; have d5 := (K1.out.bx 0 _ _ _ rfl).c 5 (.slice r.sp r.m r.cap) rfl))
  go_ret
  exact ⟨rfl, K1.out.low⟩
theorem line_addr (w : World) (r : Ri) (b : List UInt8) (hk : Hid (r.k = 5)) (hs : r.n.size ≤ 1000 ∧ r.l.size ≤ 1000) (ha : r.a ≤ 9223372036854775807) : Calls Tryd.prog 27 #[.agg (i6 r)] w fun e w' => e = .returned (.string (lineI r b)) ∧ Below w.heap.size w w' := by
  have hB : Hid (Fm w [(w.heap.size, i6 r, 39)] (w.alloc (.cells (i6 r) 39))) := Fm.one w _ _
  have hk1 := hk.out
  have k1 : (r.k == 1) = false := by rw [beq_eq_false_iff_ne]; omega
  have k3 : (r.k == 3) = false := by rw [beq_eq_false_iff_ne]; omega
  have k4 : (r.k == 4) = false := by rw [beq_eq_false_iff_ne]; omega
  have k5 : (r.k == 5) = true := by rw [beq_iff_eq]; omega
  rw [show lineI r b = _ from by unfold lineI; rw [if_neg (by omega), if_neg (by omega), if_neg (by omega), if_pos hk1]]
  have s1 : (r.n.size : Int) ≤ 1000 := by omega
  have s2 : (r.l.size : Int) ≤ 1000 := by omega
  clear hk1 hs
  go_enter Tryd.func27, Tryd.ntmps27
  go_wp2_with (first | ((with_reducible refine gen_world (w.alloc (.cells (i6 r) 39)) (Fm w [(w.heap.size, i6 r, 39)]) hB.out ?_); intro y K1; have d0 := (K1.out.bx 0 _ _ _ rfl).c 0 (.int .u8 r.k) rfl; have d1 := (K1.out.bx 0 _ _ _ rfl).c 1 (.string r.n) rfl; have d2 := (K1.out.bx 0 _ _ _ rfl).c 2 (.int .i64 r.a) rfl; have d3 := (K1.out.bx 0 _ _ _ rfl).c 3 (.string r.l) rfl; have d4 := (K1.out.bx 0 _ _ _ rfl).c 4 (.int .u8 r.p) rfl; have d5 := (K1.out.bx 0 _ _ _ rfl).c 5 (.slice r.sp r.m r.cap) rfl))
  go_ret
  exact ⟨rfl, K1.out.low⟩
theorem line_to (w : World) (r : Ri) (b : List UInt8) (hk : Hid ((r.k ≠ 1 ∧ r.k ≠ 3 ∧ r.k ≠ 4 ∧ r.k ≠ 5) ∧ r.p = 1)) (hs : r.n.size ≤ 1000 ∧ r.l.size ≤ 1000) (ha : r.a ≤ 9223372036854775807) : Calls Tryd.prog 27 #[.agg (i6 r)] w fun e w' => e = .returned (.string (lineI r b)) ∧ Below w.heap.size w w' := by
  have hB : Hid (Fm w [(w.heap.size, i6 r, 39)] (w.alloc (.cells (i6 r) 39))) := Fm.one w _ _
  have hk1 := hk.out.1
  have hp1 := hk.out.2
  have k1 : (r.k == 1) = false := by rw [beq_eq_false_iff_ne]; omega
  have k3 : (r.k == 3) = false := by rw [beq_eq_false_iff_ne]; omega
  have k4 : (r.k == 4) = false := by rw [beq_eq_false_iff_ne]; omega
  have k5 : (r.k == 5) = false := by rw [beq_eq_false_iff_ne]; omega
  have p1 : (r.p == 1) = true := by rw [beq_iff_eq]; omega
  rw [show lineI r b = _ from by unfold lineI; rw [if_neg (by omega), if_neg (by omega), if_neg (by omega), if_neg (by omega), if_pos hp1]]
  have s1 : (r.n.size : Int) ≤ 1000 := by omega
  have s2 : (r.l.size : Int) ≤ 1000 := by omega
  clear hk1 hp1 hs
  go_enter Tryd.func27, Tryd.ntmps27
  go_wp2_with (first | ((with_reducible refine gen_world (w.alloc (.cells (i6 r) 39)) (Fm w [(w.heap.size, i6 r, 39)]) hB.out ?_); intro y K1; have d0 := (K1.out.bx 0 _ _ _ rfl).c 0 (.int .u8 r.k) rfl; have d1 := (K1.out.bx 0 _ _ _ rfl).c 1 (.string r.n) rfl; have d2 := (K1.out.bx 0 _ _ _ rfl).c 2 (.int .i64 r.a) rfl; have d3 := (K1.out.bx 0 _ _ _ rfl).c 3 (.string r.l) rfl; have d4 := (K1.out.bx 0 _ _ _ rfl).c 4 (.int .u8 r.p) rfl; have d5 := (K1.out.bx 0 _ _ _ rfl).c 5 (.slice r.sp r.m r.cap) rfl))
  go_ret
  exact ⟨rfl, K1.out.low⟩
theorem line_high (w : World) (r : Ri) (b : List UInt8) (hk : Hid ((r.k ≠ 1 ∧ r.k ≠ 3 ∧ r.k ≠ 4 ∧ r.k ≠ 5) ∧ r.p = 2)) (hs : r.n.size ≤ 1000 ∧ r.l.size ≤ 1000) (ha : r.a ≤ 9223372036854775807) : Calls Tryd.prog 27 #[.agg (i6 r)] w fun e w' => e = .returned (.string (lineI r b)) ∧ Below w.heap.size w w' := by
  have hB : Hid (Fm w [(w.heap.size, i6 r, 39)] (w.alloc (.cells (i6 r) 39))) := Fm.one w _ _
  have hk1 := hk.out.1
  have hp1 := hk.out.2
  have k1 : (r.k == 1) = false := by rw [beq_eq_false_iff_ne]; omega
  have k3 : (r.k == 3) = false := by rw [beq_eq_false_iff_ne]; omega
  have k4 : (r.k == 4) = false := by rw [beq_eq_false_iff_ne]; omega
  have k5 : (r.k == 5) = false := by rw [beq_eq_false_iff_ne]; omega
  have p1 : (r.p == 1) = false := by rw [beq_eq_false_iff_ne]; omega
  have p2 : (r.p == 2) = true := by rw [beq_iff_eq]; omega
  rw [show lineI r b = _ from by unfold lineI; rw [if_neg (by omega), if_neg (by omega), if_neg (by omega), if_neg (by omega), if_neg (by omega), if_pos hp1]]
  have s1 : (r.n.size : Int) ≤ 1000 := by omega
  have s2 : (r.l.size : Int) ≤ 1000 := by omega
  clear hk1 hp1 hs
  go_enter Tryd.func27, Tryd.ntmps27
  go_wp2_with (first | ((with_reducible refine gen_world (w.alloc (.cells (i6 r) 39)) (Fm w [(w.heap.size, i6 r, 39)]) hB.out ?_); intro y K1; have d0 := (K1.out.bx 0 _ _ _ rfl).c 0 (.int .u8 r.k) rfl; have d1 := (K1.out.bx 0 _ _ _ rfl).c 1 (.string r.n) rfl; have d2 := (K1.out.bx 0 _ _ _ rfl).c 2 (.int .i64 r.a) rfl; have d3 := (K1.out.bx 0 _ _ _ rfl).c 3 (.string r.l) rfl; have d4 := (K1.out.bx 0 _ _ _ rfl).c 4 (.int .u8 r.p) rfl; have d5 := (K1.out.bx 0 _ _ _ rfl).c 5 (.slice r.sp r.m r.cap) rfl))
  go_ret
  exact ⟨rfl, K1.out.low⟩
theorem line_low (w : World) (r : Ri) (b : List UInt8) (hk : Hid ((r.k ≠ 1 ∧ r.k ≠ 3 ∧ r.k ≠ 4 ∧ r.k ≠ 5) ∧ r.p = 3)) (hs : r.n.size ≤ 1000 ∧ r.l.size ≤ 1000) (ha : r.a ≤ 9223372036854775807) : Calls Tryd.prog 27 #[.agg (i6 r)] w fun e w' => e = .returned (.string (lineI r b)) ∧ Below w.heap.size w w' := by
  have hB : Hid (Fm w [(w.heap.size, i6 r, 39)] (w.alloc (.cells (i6 r) 39))) := Fm.one w _ _
  have hk1 := hk.out.1
  have hp1 := hk.out.2
  have k1 : (r.k == 1) = false := by rw [beq_eq_false_iff_ne]; omega
  have k3 : (r.k == 3) = false := by rw [beq_eq_false_iff_ne]; omega
  have k4 : (r.k == 4) = false := by rw [beq_eq_false_iff_ne]; omega
  have k5 : (r.k == 5) = false := by rw [beq_eq_false_iff_ne]; omega
  have p1 : (r.p == 1) = false := by rw [beq_eq_false_iff_ne]; omega
  have p2 : (r.p == 2) = false := by rw [beq_eq_false_iff_ne]; omega
  have p3 : (r.p == 3) = true := by rw [beq_iff_eq]; omega
  rw [show lineI r b = _ from by unfold lineI; rw [if_neg (by omega), if_neg (by omega), if_neg (by omega), if_neg (by omega), if_neg (by omega), if_neg (by omega), if_pos hp1]]
  have s1 : (r.n.size : Int) ≤ 1000 := by omega
  have s2 : (r.l.size : Int) ≤ 1000 := by omega
  clear hk1 hp1 hs
  go_enter Tryd.func27, Tryd.ntmps27
  go_wp2_with (first | ((with_reducible refine gen_world (w.alloc (.cells (i6 r) 39)) (Fm w [(w.heap.size, i6 r, 39)]) hB.out ?_); intro y K1; have d0 := (K1.out.bx 0 _ _ _ rfl).c 0 (.int .u8 r.k) rfl; have d1 := (K1.out.bx 0 _ _ _ rfl).c 1 (.string r.n) rfl; have d2 := (K1.out.bx 0 _ _ _ rfl).c 2 (.int .i64 r.a) rfl; have d3 := (K1.out.bx 0 _ _ _ rfl).c 3 (.string r.l) rfl; have d4 := (K1.out.bx 0 _ _ _ rfl).c 4 (.int .u8 r.p) rfl; have d5 := (K1.out.bx 0 _ _ _ rfl).c 5 (.slice r.sp r.m r.cap) rfl))
  go_ret
  exact ⟨rfl, K1.out.low⟩
theorem line_at (w : World) (r : Ri) (b : List UInt8) (hk : Hid (r.k = 4)) (hs : r.n.size ≤ 1000 ∧ r.l.size ≤ 1000) (ha : r.a ≤ 9223372036854775807) : Calls Tryd.prog 27 #[.agg (i6 r)] w fun e w' => e = .returned (.string (lineI r b)) ∧ Below w.heap.size w w' := by
  have hB : Hid (Fm w [(w.heap.size, i6 r, 39)] (w.alloc (.cells (i6 r) 39))) := Fm.one w _ _
  have hk1 := hk.out
  have k1 : (r.k == 1) = false := by rw [beq_eq_false_iff_ne]; omega
  have k3 : (r.k == 3) = false := by rw [beq_eq_false_iff_ne]; omega
  have k4 : (r.k == 4) = true := by rw [beq_iff_eq]; omega
  rw [show lineI r b = _ from by unfold lineI; rw [if_neg (by omega), if_neg (by omega), if_pos hk1]]
  have s1 : (r.n.size : Int) ≤ 1000 := by omega
  have s2 : (r.l.size : Int) ≤ 1000 := by omega
  have hH := fun v => rhex_any r.a 4 v ha
  have hx := hexOf_le r.a 4
  generalize hexOf r.a 4 = HX at hH hx
  have hx1 : (HX.size : Int) ≤ 8 := by omega
  clear hk1 hs
  go_enter Tryd.func27, Tryd.ntmps27
  go_wp2_with (first | ((with_reducible refine gen_world (w.alloc (.cells (i6 r) 39)) (Fm w [(w.heap.size, i6 r, 39)]) hB.out ?_); intro y K1; have d0 := (K1.out.bx 0 _ _ _ rfl).c 0 (.int .u8 r.k) rfl; have d1 := (K1.out.bx 0 _ _ _ rfl).c 1 (.string r.n) rfl; have d2 := (K1.out.bx 0 _ _ _ rfl).c 2 (.int .i64 r.a) rfl; have d3 := (K1.out.bx 0 _ _ _ rfl).c 3 (.string r.l) rfl; have d4 := (K1.out.bx 0 _ _ _ rfl).c 4 (.int .u8 r.p) rfl; have d5 := (K1.out.bx 0 _ _ _ rfl).c 5 (.slice r.sp r.m r.cap) rfl) | (go_at_call 44; refine (hH y).mono ?_; rintro e y2 ⟨rfl, h2⟩; have K2 : Hid (Below w.heap.size w y2) := (K1.out.below h2).low; clear h2))
  go_ret
  exact ⟨rfl, K2.out⟩
theorem line_code (w : World) (r : Ri) (b : List UInt8) (hk : Hid ((r.k ≠ 1 ∧ r.k ≠ 3 ∧ r.k ≠ 4 ∧ r.k ≠ 5) ∧ r.p ≠ 1 ∧ r.p ≠ 2 ∧ r.p ≠ 3)) (hs : r.n.size ≤ 1000 ∧ r.l.size ≤ 1000) (ha : r.a ≤ 9223372036854775807) : Calls Tryd.prog 27 #[.agg (i6 r)] w fun e w' => e = .returned (.string (lineI r b)) ∧ Below w.heap.size w w' := by
  have hB : Hid (Fm w [(w.heap.size, i6 r, 39)] (w.alloc (.cells (i6 r) 39))) := Fm.one w _ _
  have hk1 := hk.out.1
  have hp1 := hk.out.2
  have k1 : (r.k == 1) = false := by rw [beq_eq_false_iff_ne]; omega
  have k3 : (r.k == 3) = false := by rw [beq_eq_false_iff_ne]; omega
  have k4 : (r.k == 4) = false := by rw [beq_eq_false_iff_ne]; omega
  have k5 : (r.k == 5) = false := by rw [beq_eq_false_iff_ne]; omega
  have p1 : (r.p == 1) = false := by rw [beq_eq_false_iff_ne]; omega
  have p2 : (r.p == 2) = false := by rw [beq_eq_false_iff_ne]; omega
  have p3 : (r.p == 3) = false := by rw [beq_eq_false_iff_ne]; omega
  rw [show lineI r b = _ from by unfold lineI; rw [if_neg (by omega), if_neg (by omega), if_neg (by omega), if_neg (by omega), if_neg (by omega), if_neg (by omega), if_neg (by omega)]]
  have s1 : (r.n.size : Int) ≤ 1000 := by omega
  have s2 : (r.l.size : Int) ≤ 1000 := by omega
  have hP := fun v => rprint_any r.n r.a v
  have hx := printS_le r.n r.a
  generalize printS r.n r.a = PX at hP hx
  have hx1 : (PX.size : Int) ≤ 13 := by omega
  generalize printE r.n r.a = PE at hP
  clear hk1 hp1 hs
  go_enter Tryd.func27, Tryd.ntmps27
  go_wp2_with (first | ((with_reducible refine gen_world (w.alloc (.cells (i6 r) 39)) (Fm w [(w.heap.size, i6 r, 39)]) hB.out ?_); intro y K1; have d0 := (K1.out.bx 0 _ _ _ rfl).c 0 (.int .u8 r.k) rfl; have d1 := (K1.out.bx 0 _ _ _ rfl).c 1 (.string r.n) rfl; have d2 := (K1.out.bx 0 _ _ _ rfl).c 2 (.int .i64 r.a) rfl; have d3 := (K1.out.bx 0 _ _ _ rfl).c 3 (.string r.l) rfl; have d4 := (K1.out.bx 0 _ _ _ rfl).c 4 (.int .u8 r.p) rfl; have d5 := (K1.out.bx 0 _ _ _ rfl).c 5 (.slice r.sp r.m r.cap) rfl) | (go_at_call 45; refine (hP y).mono ?_; rintro e y2 ⟨rfl, h2⟩; have K2 : Hid (Below w.heap.size w y2) := (K1.out.below h2).low; clear h2))
  go_ret
  exact ⟨rfl, K2.out⟩
end Go.Proofs.YtmaedkbmjbggpaaDoor
/- An item of data as it is written, by the document. -/
namespace Go.Proofs.YtmaedkbmjbggpaaDoor
open Go Go.RowKit
set_option linter.unusedVariables false
set_option maxHeartbeats 3000000
set_option maxRecDepth 20000

/-- Bytes that lie in a row. -/
def LB8 (x : World) (sp : Option Addr) (l : List UInt8) : Prop := ∀ j b, l[j]? = some b → ∃ g o, sp = some ⟨g, o, none⟩ ∧ x.cell? ⟨g, o + j, none⟩ = some (byV b)
theorem LB8.below {x y : World} {sp : Option Addr} {l : List UInt8} (h : LB8 x sp l) (hb : Below x.heap.size x y) : LB8 y sp l := fun j b hj => by
  obtain ⟨g, o, e, c⟩ := h j b hj
  exact ⟨g, o, e, (hb.cell (p := ⟨g, o + j, none⟩) (World.block_lt_of_cell? x _ c)).trans c⟩
theorem dataL_app (a b : List UInt8) : dataL (a ++ b) = dataL a ++ dataL b := by simp [dataL]
theorem dataL_len (b : List UInt8) : (dataL b).length = b.length * 3 := by
  induction b with
  | nil => rfl
  | cons x l ih =>
    show (32 :: hexL 2 x.toNat ++ dataL l).length = _
    rw [List.length_append, List.length_cons, hexL_len, ih, List.length_cons]
    omega
theorem dataL_take {b : List UInt8} {j : Nat} (h : j < b.length) : dataL (b.take (j + 1)) = dataL (b.take j) ++ [32] ++ hexL 2 b[j].toNat := by
  rw [List.take_add_one, List.getElem?_eq_getElem h, dataL_app]
  simp [dataL]
theorem hex2_is (x : UInt8) : strL (hexOf (x.toNat : Int) 2) = hexL 2 x.toNat ∧ (hexOf (x.toNat : Int) 2).size = 2 := by
  have h := x.toNat_lt
  have := hexOf_small (x.toNat : Int) 2 (by omega) (by show (x.toNat : Int) < 256; omega) ⟨by decide, by decide⟩
  rw [Int.toNat_natCast] at this
  exact this

theorem line_data (w : World) (r : Ri) (b : List UInt8) (hk : Hid (r.k = 3)) (hl : Hid (LB8 w r.sp b)) (hm : b.length = r.m) (hb : b.length ≤ 256) : Calls Tryd.prog 27 #[.agg (i6 r)] w fun e w' => e = .returned (.string (lineI r b)) ∧ Below w.heap.size w w' := by
  have hB : Hid (Fm w [(w.heap.size, i6 r, 39)] (w.alloc (.cells (i6 r) 39))) := Fm.one w _ _
  have k1 : (r.k == 1) = false := by rw [beq_eq_false_iff_ne]; have := hk.out; omega
  have k3 : (r.k == 3) = true := by rw [beq_iff_eq]; exact hk.out
  have e0 : lineI r b = ⟨([32, 100, 97, 116, 97] ++ dataL b).toArray⟩ := by unfold lineI; rw [if_neg (by have := hk.out; omega), if_pos hk.out]
  obtain ⟨LS, hLS⟩ : ∃ x, lineI r b = x := ⟨_, rfl⟩
  rw [hLS]
  rw [hLS] at e0
  replace e0 : Hid _ := e0
  have hm' : Hid (b.length = r.m ∧ b.length ≤ 256) := ⟨hm, hb⟩
  have mi : (r.m : Int) ≤ 256 := by omega
  obtain ⟨i5, hi5, hz0, hz1, hz2⟩ := info_parts infoB
  clear hLS hm hb
  go_enter Tryd.func27, Tryd.ntmps27
  go_wp2_with (first
    | ((with_reducible refine gen_world (w.alloc (.cells (i6 r) 39)) (Fm w [(w.heap.size, i6 r, 39)]) hB.out ?_); intro y K1; have d0 := (K1.out.bx 0 _ _ _ rfl).c 0 (.int .u8 r.k) rfl; have d1 := (K1.out.bx 0 _ _ _ rfl).c 1 (.string r.n) rfl; have d2 := (K1.out.bx 0 _ _ _ rfl).c 2 (.int .i64 r.a) rfl; have d3 := (K1.out.bx 0 _ _ _ rfl).c 3 (.string r.l) rfl; have d4 := (K1.out.bx 0 _ _ _ rfl).c 4 (.int .u8 r.p) rfl; have d5 := (K1.out.bx 0 _ _ _ rfl).c 5 (.slice r.sp r.m r.cap) rfl)
    | (at_builtin; refine Lib.wpList_append_own_string _ rfl (.tmp 18) (.const (.string ⟨#[32, 100, 97, 116, 97]⟩)) 37 9 rfl y.heap.size 5 i5 Tryd.underlying37 Tryd.underlying9 hi5 hz0 hz1 hz2 (.slice none 0 0) 0 [] rfl (KB.nil y).1 ⟨#[32, 100, 97, 116, 97]⟩ rfl ?_ ?_ ?_ ?_; (unfold maxLen; decide); decide; exact Nat.le_refl _; intro v3 y3 h3 h4 h5; have K3 : Hid (KB y v3 [32, 100, 97, 116, 97] y3) := (KB.nil y).str (s := ⟨#[32, 100, 97, 116, 97]⟩) h3 h4; clear h3 h4 h5 d0 d1 d2 d3 d4 d5))
  go_loopw [3, 4] (fun o t wz => ∃ (j : Nat) (va : Value) (B : List UInt8) (z : World), z = wz ∧ va = o ∧ t = .int .i64 (j : Int) ∧ Hid (j ≤ r.m ∧ B = [32, 100, 97, 116, 97] ++ dataL (b.take j)) ∧ Hid (KB y va B z)) (fun _ t _ => (r.m - intOf t).toNat)
  case atStart => exact ⟨0, _, _, y3, rfl, rfl, rfl, ⟨Nat.zero_le _, by simp [dataL]⟩, K3⟩
  case round =>
    obtain ⟨j, va, B, z, rfl, rfl, rfl, J, K⟩ := hrel
    have KF : Hid (Fm w [(w.heap.size, i6 r, 39)] z) := K1.out.below K.out.2
    have g5 := (KF.out.bx 0 _ _ _ rfl).c 5 (.slice r.sp r.m r.cap) rfl
    by_cases hlt : j < r.m
    · have hjb : j < b.length := by have := hm'.out.1; omega
      obtain ⟨g, ob, hsp, hc⟩ := hl.out j b[j] (List.getElem?_eq_getElem hjb)
      have hc : Hid (z.cell? ⟨g, ob + j, none⟩ = some (byV b[j])) := (KF.out.low.cell (p := ⟨g, ob + j, none⟩) (World.block_lt_of_cell? w _ hc)).trans hc
      rw [hsp] at g5
      have ij := fun v => idxP (g := g) (off := ob) (len := r.m) (cap := r.cap) Tryd.underlying37 (s := 1) (by kernel_rfl) .i64 j v hlt
      rw [Nat.mul_one] at ij
      have hji : (j : Int) < r.m := by omega
      have hj' : Hid (j < r.m) := hlt
      have hH := fun v => rhex_any (b[j].toNat : Int) 2 v (by have := b[j].toNat_lt; omega)
      have hx := hex2_is b[j]
      have J2 : Hid (j + 1 ≤ r.m ∧ B ++ [32] ++ hexL 2 b[j].toNat = [32, 100, 97, 116, 97] ++ dataL (b.take (j + 1))) := by
        refine ⟨hlt, ?_⟩
        rw [J.out.2, dataL_take hjb]
        simp [List.append_assoc]
      have hBl : Hid (B.length ≤ 1000) := by
        show _ ≤ _
        rw [J.out.2, List.length_append, dataL_len, List.length_take]
        have := hm'.out
        simp
        omega
      rw [← hx.1] at J2
      have hx2 : Hid ((hexOf (b[j].toNat : Int) 2).size = 2) := hx.2
      have c1 := hc.out
      unfold byV at c1
      have u1 : (b[j].toNat : Int) < 256 := by have := b[j].toNat_lt; omega
      have u0 : 0 ≤ (b[j].toNat : Int) := by omega
      generalize hexOf (b[j].toNat : Int) 2 = HX at hH J2 hx2
      generalize (b[j].toNat : Int) = N at hH c1 u1 u0
      clear hlt hx hc
      go_wp2_with (first
        | (go_at_call 44; refine (hH z).mono ?_; rintro e z2 ⟨rfl, h2⟩; have Kb : Hid (KB y va B z2) := K.out.below h2; clear h2)
        | (at_builtin; refine wpList_append_own _ rfl (.tmp 34) (.tmp 35) 37 rfl y.heap.size 5 i5 (.int .u8 0) 1 1 Tryd.underlying37 hi5 hz0 hz1 hz2 rfl (by decide) va B.length (B.map byV) rfl (Kb.out.1.alloc _) ⟨z2.heap.size, 0, none⟩ 1 1 [byV 32] rfl rfl (one_byt z2 _) (by simp [Value.oneCell', byV]) ?_ ?_ ?_ ?_; (have h1 := hBl.out; unfold maxLen; omega); (have h1 := hBl.out; omega); (have := Kb.out.2.size; simp; omega); intro v4 z4 h3 h4 h5; have K4 : Hid (KB y v4 (B ++ [32]) z4) := Kb.out.one h3 h4; clear h3 h4 h5)
        | (at_builtin; refine Lib.wpList_append_own_string _ rfl (.tmp 37) (.tmp 38) 37 9 rfl y.heap.size 5 i5 Tryd.underlying37 Tryd.underlying9 hi5 hz0 hz1 hz2 v4 (B ++ [32]).length ((B ++ [32]).map byV) rfl K4.out.1 HX rfl ?_ ?_ ?_ ?_; (have h1 := hBl.out; have h2 := hx2.out; simp only [List.length_append, List.length_cons, List.length_nil]; unfold maxLen; omega); (have h1 := hBl.out; have h2 := hx2.out; simp only [List.length_append, List.length_cons, List.length_nil]; omega); exact K4.out.2.size; intro v5 z5 h3 h4 h5; have K5 : Hid (KB y v5 (B ++ [32] ++ strL HX) z5) := K4.out.str h3 h4; clear h3 h4 h5))
      go_roundw
      case rel => exact ⟨j + 1, _, _, _, rfl, rfl, by simp, J2, K5⟩
      case measure => have := hj'.out; simp [intOf]; omega
    · have hje : j = r.m := by have := J.out.1; omega
      subst hje
      obtain ⟨⟨sp', cap', rfl⟩, hcv⟩ := K.out.open
      have fin : Hid (LS = ⟨B.toArray⟩) := by
        show _ = _
        rw [e0.out, J.out.2, List.take_of_length_le (by rw [hm'.out.1]; exact Nat.le_refl _)]
      obtain ⟨m, hm⟩ : ∃ m, B.length = m := ⟨_, rfl⟩
      rw [hm] at hcv ⊢
      clear hlt hm
      go_wp2
      go_ret
      exact ⟨by rw [fin.out]; simp, KF.out.low⟩

/-- An item's line, of whatever kind. -/
theorem rlineI_any (w : World) (r : Ri) (b : List UInt8) (hl : Hid (LB8 w r.sp b)) (hm : b.length = r.m) (hb : b.length ≤ 256) (hs : r.n.size ≤ 1000 ∧ r.l.size ≤ 1000) (ha : r.a ≤ 9223372036854775807) :
    Calls Tryd.prog 27 #[.agg (i6 r)] w fun e w' => e = .returned (.string (lineI r b)) ∧ Below w.heap.size w w' := by
  by_cases h3 : r.k = 3
  · exact line_data w r b h3 hl hm hb
  by_cases h1 : r.k = 1
  · exact line_label w r b h1 hs ha
  by_cases h4 : r.k = 4
  · exact line_at w r b h4 hs ha
  by_cases h5 : r.k = 5
  · exact line_addr w r b h5 hs ha
  by_cases p1 : r.p = 1
  · exact line_to w r b ⟨⟨h1, h3, h4, h5⟩, p1⟩ hs ha
  by_cases p2 : r.p = 2
  · exact line_high w r b ⟨⟨h1, h3, h4, h5⟩, p2⟩ hs ha
  by_cases p3 : r.p = 3
  · exact line_low w r b ⟨⟨h1, h3, h4, h5⟩, p3⟩ hs ha
  exact line_code w r b ⟨⟨h1, h3, h4, h5⟩, p1, p2, p3⟩ hs ha
end Go.Proofs.YtmaedkbmjbggpaaDoor
