/- The document's answer: Encode and Decode. -/
import Derived.Test.YtmaedkbmjbggpaaDoorJORefD
import Derived.Test.YtmaedkbmjbggpaaDoorJOHolds
namespace Go.Proofs.YtmaedkbmjbggpaaDoor
open Go.RowKit
set_option linter.unusedVariables false
set_option maxHeartbeats 1000000
set_option maxRecDepth 20000

theorem undrew {B : Nat} {a w : World} {n : Nat} (h : Below B (a.drewN n) w) : Below B a w := ⟨h.os, h.tape, h.output, h.size, h.block⟩
theorem renc_none (S : ByteArray) (A : Int) (ho : Hid (opOf S = none)) (w : World) :
    Calls Tryd.prog 72 #[.agg #[.string S, .int .i64 A]] w fun e w' => e = .returned (.tuple #[.slice none 0 0, .int .i64 20]) ∧ Below w.heap.size w w' := by
  go_enter Tryd.func72, Tryd.ntmps72
  go_wp2_with (go_at_call 75; refine (rfirst_any S _ ho _).mono ?_; unfold firstI; rintro e v1 ⟨rfl, hb1⟩; replace hb1 := below_own hb1)
  go_ret2
  exact ⟨rfl, hb1⟩
theorem renc_bad (S : ByteArray) (A : Int) (n : Nat) (ho : Hid (opOf S = some n)) (hn : (n : Int) < 256) (hM : ∀ v, Calls Tryd.prog 90 #[.int .u8 n, .int .i64 A] v fun e v' => e = .returned (.bool false) ∧ v' = v) (w : World) :
    Calls Tryd.prog 72 #[.agg #[.string S, .int .i64 A]] w fun e w' => e = .returned (.tuple #[.slice none 0 0, .int .i64 21]) ∧ Below w.heap.size w w' := by
  go_enter Tryd.func72, Tryd.ntmps72
  go_wp2_with (first
    | (go_at_call 75; refine (rfirst_any S _ ho _).mono ?_; unfold firstI; rintro e v1 ⟨rfl, hb1⟩; have a1 : v1.cell? ⟨w.heap.size, 1, none⟩ = some (.int .i64 A) := own_cell hb1 1; replace hb1 := below_own hb1)
    | (go_at_call 90; refine (hM _).mono ?_; rintro e v ⟨rfl, rfl⟩))
  go_ret2
  exact ⟨rfl, hb1⟩
theorem renc_ok1 (S : ByteArray) (A : Int) (n : Nat) (ho : Hid (opOf S = some n)) (hn : (n : Int) < 256) (hM : ∀ v, Calls Tryd.prog 90 #[.int .u8 n, .int .i64 A] v fun e v' => e = .returned (.bool true) ∧ v' = v) (hF : ∀ v, Calls Tryd.prog 74 #[.int .u8 n] v fun e v' => e = .returned (.int .u8 1) ∧ v' = v) (h0 : 0 ≤ A) (h1 : A ≤ 0) (w : World) :
    Calls Tryd.prog 72 #[.agg #[.string S, .int .i64 A]] w fun e w' => ∃ b, w.heap.size ≤ b ∧ e = .returned (.tuple #[.slice (some ⟨b, 0, none⟩) 1 1, .int .i64 0]) ∧ w'.heap[b]? = some (.cells #[.int .u8 n] 5) ∧ Below w.heap.size w w' := by
  go_enter Tryd.func72, Tryd.ntmps72
  go_wp2_with (first
    | (go_at_call 75; refine (rfirst_any S _ ho _).mono ?_; unfold firstI; rintro e v1 ⟨rfl, hb1⟩; have a1 : v1.cell? ⟨w.heap.size, 1, none⟩ = some (.int .i64 A) := own_cell hb1 1; replace hb1 := below_own hb1)
    | (go_at_call 90; refine (hM _).mono ?_; rintro e v ⟨rfl, rfl⟩)
    | (go_at_call 74; refine (hF _).mono ?_; rintro e v ⟨rfl, rfl⟩))
  go_ret2
  exact ⟨_, hb1.size, rfl, (alloc_last _ _).trans (by first | rfl | (congr 3; omega)), hb1.alloc hb1.size _⟩
theorem renc_ok2 (S : ByteArray) (A : Int) (n : Nat) (ho : Hid (opOf S = some n)) (hn : (n : Int) < 256) (hM : ∀ v, Calls Tryd.prog 90 #[.int .u8 n, .int .i64 A] v fun e v' => e = .returned (.bool true) ∧ v' = v) (hF : ∀ v, Calls Tryd.prog 74 #[.int .u8 n] v fun e v' => e = .returned (.int .u8 2) ∧ v' = v) (h0 : 0 ≤ A) (h1 : A ≤ 15) (h3 : (n : Int) / 16 * 16 + A < 256) (w : World) :
    Calls Tryd.prog 72 #[.agg #[.string S, .int .i64 A]] w fun e w' => ∃ b, w.heap.size ≤ b ∧ e = .returned (.tuple #[.slice (some ⟨b, 0, none⟩) 1 1, .int .i64 0]) ∧ w'.heap[b]? = some (.cells #[.int .u8 ((n : Int) / 16 * 16 + A)] 5) ∧ Below w.heap.size w w' := by
  go_enter Tryd.func72, Tryd.ntmps72
  go_wp2_with (first
    | (go_at_call 75; refine (rfirst_any S _ ho _).mono ?_; unfold firstI; rintro e v1 ⟨rfl, hb1⟩; have a1 : v1.cell? ⟨w.heap.size, 1, none⟩ = some (.int .i64 A) := own_cell hb1 1; replace hb1 := below_own hb1)
    | (go_at_call 90; refine (hM _).mono ?_; rintro e v ⟨rfl, rfl⟩)
    | (go_at_call 74; refine (hF _).mono ?_; rintro e v ⟨rfl, rfl⟩))
  go_ret2
  exact ⟨_, hb1.size, rfl, (alloc_last _ _).trans (by first | rfl | (congr 3; omega)), hb1.alloc hb1.size _⟩
theorem renc_ok3 (S : ByteArray) (A : Int) (n : Nat) (ho : Hid (opOf S = some n)) (hn : (n : Int) < 256) (hM : ∀ v, Calls Tryd.prog 90 #[.int .u8 n, .int .i64 A] v fun e v' => e = .returned (.bool true) ∧ v' = v) (hF : ∀ v, Calls Tryd.prog 74 #[.int .u8 n] v fun e v' => e = .returned (.int .u8 3) ∧ v' = v) (h0 : 0 ≤ A) (h1 : A ≤ 7) (h3 : 1 ≤ (n : Int)) (h4 : (n : Int) - 1 + A < 256) (w : World) :
    Calls Tryd.prog 72 #[.agg #[.string S, .int .i64 A]] w fun e w' => ∃ b, w.heap.size ≤ b ∧ e = .returned (.tuple #[.slice (some ⟨b, 0, none⟩) 1 1, .int .i64 0]) ∧ w'.heap[b]? = some (.cells #[.int .u8 ((n : Int) - 1 + A)] 5) ∧ Below w.heap.size w w' := by
  go_enter Tryd.func72, Tryd.ntmps72
  go_wp2_with (first
    | (go_at_call 75; refine (rfirst_any S _ ho _).mono ?_; unfold firstI; rintro e v1 ⟨rfl, hb1⟩; have a1 : v1.cell? ⟨w.heap.size, 1, none⟩ = some (.int .i64 A) := own_cell hb1 1; replace hb1 := below_own hb1)
    | (go_at_call 90; refine (hM _).mono ?_; rintro e v ⟨rfl, rfl⟩)
    | (go_at_call 74; refine (hF _).mono ?_; rintro e v ⟨rfl, rfl⟩))
  go_ret2
  exact ⟨_, hb1.size, rfl, (alloc_last _ _).trans (by first | rfl | (congr 3; omega)), hb1.alloc hb1.size _⟩
theorem renc_ok4 (S : ByteArray) (A : Int) (n : Nat) (ho : Hid (opOf S = some n)) (hn : (n : Int) < 256) (hM : ∀ v, Calls Tryd.prog 90 #[.int .u8 n, .int .i64 A] v fun e v' => e = .returned (.bool true) ∧ v' = v) (hF : ∀ v, Calls Tryd.prog 74 #[.int .u8 n] v fun e v' => e = .returned (.int .u8 4) ∧ v' = v) (h0 : 0 ≤ A) (h1 : A ≤ 255) (w : World) :
    Calls Tryd.prog 72 #[.agg #[.string S, .int .i64 A]] w fun e w' => ∃ b, w.heap.size ≤ b ∧ e = .returned (.tuple #[.slice (some ⟨b, 0, none⟩) 2 2, .int .i64 0]) ∧ w'.heap[b]? = some (.cells #[.int .u8 n, .int .u8 A] 5) ∧ Below w.heap.size w w' := by
  go_enter Tryd.func72, Tryd.ntmps72
  go_wp2_with (first
    | (go_at_call 75; refine (rfirst_any S _ ho _).mono ?_; unfold firstI; rintro e v1 ⟨rfl, hb1⟩; have a1 : v1.cell? ⟨w.heap.size, 1, none⟩ = some (.int .i64 A) := own_cell hb1 1; replace hb1 := below_own hb1)
    | (go_at_call 90; refine (hM _).mono ?_; rintro e v ⟨rfl, rfl⟩)
    | (go_at_call 74; refine (hF _).mono ?_; rintro e v ⟨rfl, rfl⟩))
  go_ret2
  exact ⟨_, hb1.size, rfl, (alloc_last _ _).trans (by first | rfl | (congr 3; omega)), hb1.alloc hb1.size _⟩
theorem renc_ok5 (S : ByteArray) (A : Int) (n : Nat) (ho : Hid (opOf S = some n)) (hn : (n : Int) < 256) (hM : ∀ v, Calls Tryd.prog 90 #[.int .u8 n, .int .i64 A] v fun e v' => e = .returned (.bool true) ∧ v' = v) (hF : ∀ v, Calls Tryd.prog 74 #[.int .u8 n] v fun e v' => e = .returned (.int .u8 5) ∧ v' = v) (h0 : 0 ≤ A) (h1 : A ≤ 255) (w : World) :
    Calls Tryd.prog 72 #[.agg #[.string S, .int .i64 A]] w fun e w' => ∃ b, w.heap.size ≤ b ∧ e = .returned (.tuple #[.slice (some ⟨b, 0, none⟩) 2 2, .int .i64 0]) ∧ w'.heap[b]? = some (.cells #[.int .u8 n, .int .u8 A] 5) ∧ Below w.heap.size w w' := by
  go_enter Tryd.func72, Tryd.ntmps72
  go_wp2_with (first
    | (go_at_call 75; refine (rfirst_any S _ ho _).mono ?_; unfold firstI; rintro e v1 ⟨rfl, hb1⟩; have a1 : v1.cell? ⟨w.heap.size, 1, none⟩ = some (.int .i64 A) := own_cell hb1 1; replace hb1 := below_own hb1)
    | (go_at_call 90; refine (hM _).mono ?_; rintro e v ⟨rfl, rfl⟩)
    | (go_at_call 74; refine (hF _).mono ?_; rintro e v ⟨rfl, rfl⟩))
  go_ret2
  exact ⟨_, hb1.size, rfl, (alloc_last _ _).trans (by first | rfl | (congr 3; omega)), hb1.alloc hb1.size _⟩
theorem renc_ok6 (S : ByteArray) (A : Int) (n : Nat) (ho : Hid (opOf S = some n)) (hn : (n : Int) < 256) (hM : ∀ v, Calls Tryd.prog 90 #[.int .u8 n, .int .i64 A] v fun e v' => e = .returned (.bool true) ∧ v' = v) (hF : ∀ v, Calls Tryd.prog 74 #[.int .u8 n] v fun e v' => e = .returned (.int .u8 6) ∧ v' = v) (h0 : 0 ≤ A) (h1 : A ≤ 65535) (w : World) :
    Calls Tryd.prog 72 #[.agg #[.string S, .int .i64 A]] w fun e w' => ∃ b, w.heap.size ≤ b ∧ e = .returned (.tuple #[.slice (some ⟨b, 0, none⟩) 3 3, .int .i64 0]) ∧ w'.heap[b]? = some (.cells #[.int .u8 n, .int .u8 (A / 256), .int .u8 (A % 256)] 5) ∧ Below w.heap.size w w' := by
  go_enter Tryd.func72, Tryd.ntmps72
  go_wp2_with (first
    | (go_at_call 75; refine (rfirst_any S _ ho _).mono ?_; unfold firstI; rintro e v1 ⟨rfl, hb1⟩; have a1 : v1.cell? ⟨w.heap.size, 1, none⟩ = some (.int .i64 A) := own_cell hb1 1; replace hb1 := below_own hb1)
    | (go_at_call 90; refine (hM _).mono ?_; rintro e v ⟨rfl, rfl⟩)
    | (go_at_call 74; refine (hF _).mono ?_; rintro e v ⟨rfl, rfl⟩))
  go_ret2
  exact ⟨_, hb1.size, rfl, (alloc_last _ _).trans (by first | rfl | (congr 3; omega)), hb1.alloc hb1.size _⟩

end Go.Proofs.YtmaedkbmjbggpaaDoor
