/- The document's answer: Encode and Decode. -/
import Derived.Test.YtkpfhnogpcigaaaDoorRJORefD
import Derived.Test.YtkpfhnogpcigaaaDoorRJOHolds
namespace Go.Proofs.YtkpfhnogpcigaaaDoorR
open Go.RowKit
set_option linter.unusedVariables false
set_option maxHeartbeats 1000000
set_option maxRecDepth 20000

theorem undrew {B : Nat} {a w : World} {n : Nat} (h : Below B (a.drewN n) w) : Below B a w := ⟨h.os, h.tape, h.output, h.size, h.block⟩
theorem rdec_nil (w : World) (a : Option Addr) (cap : Nat) :
    Calls Tryd.prog 60 #[.slice a 0 cap] w fun e w' => e = .returned (.tuple #[instr0, .int .i64 0, .int .i64 22]) ∧ Below w.heap.size w w' := by
  go_enter Tryd.func60, Tryd.ntmps60
  go_wp2
  (try simp only [Exit.inBlock, Exit.then])
  refine bodyPost_ret (by simp [results, Tryd.results60, go_sem]; try rfl) rfl ?_
  refine ⟨rfl, ?_⟩
  repeat (first | exact Below.refl _ _ | refine below_set ?_ (Nat.le_refl _) | refine Below.alloc ?_ (Nat.le_refl _) _)
theorem rdec_short (w : World) (g off len cap n F L : Nat) (hF : ∀ v, Calls Tryd.prog 76 #[.int .u8 n] v fun e v' => e = .returned (.int .u8 F) ∧ v' = v) (hB : ∀ v, Calls Tryd.prog 77 #[.int .u8 F] v fun e v' => e = .returned (.int .i64 L) ∧ v' = v) (c0 : w.cell? ⟨g, off, none⟩ = some (.int .u8 n)) (hg : g < w.heap.size) (hlen : 1 ≤ len) (hsh : len < L) :
    Calls Tryd.prog 60 #[.slice (some ⟨g, off, none⟩) len cap] w fun e w' => e = .returned (.tuple #[instr0, .int .i64 0, .int .i64 22]) ∧ Below w.heap.size w w' := by
  have i0 : ∀ w, (Instr.indexAt 33 (.slice (some ⟨g, off, none⟩) len cap) (.int .i64 0)).run Tryd.prog w = .ok (.pointer (some ⟨g, off, none⟩)) w := fun w => idxS (g := g) (off := off) Tryd.underlying33 (s := 1) (by kernel_rfl) .i64 0 w (by omega)
  go_enter Tryd.func60, Tryd.ntmps60
  go_wp2_with (first | (go_at_call 76; refine (hF _).mono ?_; rintro e v ⟨rfl, rfl⟩) | (go_at_call 77; refine (hB _).mono ?_; rintro e v ⟨rfl, rfl⟩))
  (try simp only [Exit.inBlock, Exit.then])
  refine bodyPost_ret (by simp [results, Tryd.results60, go_sem]; try rfl) rfl ?_
  refine ⟨rfl, ?_⟩
  repeat (first | exact Below.refl _ _ | refine below_set ?_ (Nat.le_refl _) | refine Below.alloc ?_ (Nat.le_refl _) _)
theorem rdec_1 (w : World) (g off len cap n : Nat) (hn : n < 256) (X : ByteArray) (hF : ∀ v, Calls Tryd.prog 76 #[.int .u8 n] v fun e v' => e = .returned (.int .u8 1) ∧ v' = v) (hB : ∀ v, Calls Tryd.prog 77 #[.int .u8 1] v fun e v' => e = .returned (.int .i64 1) ∧ v' = v) (hN : ∀ v, Calls Tryd.prog 78 #[.int .u8 n] v fun e v' => e = .returned (.string X) ∧ Below v.heap.size v v') (c0 : w.cell? ⟨g, off, none⟩ = some (.int .u8 n)) (hg : g < w.heap.size) (hlen : 1 ≤ len) :
    Calls Tryd.prog 60 #[.slice (some ⟨g, off, none⟩) len cap] w fun e w' => e = .returned (.tuple #[.agg #[.string X, .int .i64 0], .int .i64 1, .int .i64 0]) ∧ Below w.heap.size w w' := by
  have i0 : ∀ w, (Instr.indexAt 33 (.slice (some ⟨g, off, none⟩) len cap) (.int .i64 0)).run Tryd.prog w = .ok (.pointer (some ⟨g, off, none⟩)) w := fun w => idxS (g := g) (off := off) Tryd.underlying33 (s := 1) (by kernel_rfl) .i64 0 w (by omega)
  go_enter Tryd.func60, Tryd.ntmps60
  go_wp2_with (first | (go_at_call 76; refine (hF _).mono ?_; rintro e v ⟨rfl, rfl⟩) | (go_at_call 77; refine (hB _).mono ?_; rintro e v ⟨rfl, rfl⟩) | (go_at_call 78; refine (hN _).mono ?_; rintro e v1 ⟨rfl, hb1⟩; have d0 : v1.cell? ⟨w.heap.size, 0, none⟩ = some (.string ⟨#[]⟩) := own_cell hb1 0; have d1 : v1.cell? ⟨w.heap.size, 1, none⟩ = some (.int .i64 0) := own_cell hb1 1; have f0 := own_frozen hb1 0; have f1 := own_frozen hb1 1; replace hb1 := below_own hb1))
  (try simp only [Exit.inBlock, Exit.then])
  refine bodyPost_ret (by simp [results, Tryd.results60, go_sem, d0, d1]; try rfl) rfl ?_
  refine ⟨rfl, ?_⟩
  repeat (first | exact hb1 | refine below_set ?_ (Nat.le_refl _))
theorem rdec_2 (w : World) (g off len cap n : Nat) (hn : n < 256) (X : ByteArray) (hF : ∀ v, Calls Tryd.prog 76 #[.int .u8 n] v fun e v' => e = .returned (.int .u8 2) ∧ v' = v) (hB : ∀ v, Calls Tryd.prog 77 #[.int .u8 2] v fun e v' => e = .returned (.int .i64 1) ∧ v' = v) (hN : ∀ v, Calls Tryd.prog 78 #[.int .u8 n] v fun e v' => e = .returned (.string X) ∧ Below v.heap.size v v') (c0 : w.cell? ⟨g, off, none⟩ = some (.int .u8 n)) (hg : g < w.heap.size) (hlen : 1 ≤ len) :
    Calls Tryd.prog 60 #[.slice (some ⟨g, off, none⟩) len cap] w fun e w' => e = .returned (.tuple #[.agg #[.string X, .int .i64 ((n : Int) % 16)], .int .i64 1, .int .i64 0]) ∧ Below w.heap.size w w' := by
  have i0 : ∀ w, (Instr.indexAt 33 (.slice (some ⟨g, off, none⟩) len cap) (.int .i64 0)).run Tryd.prog w = .ok (.pointer (some ⟨g, off, none⟩)) w := fun w => idxS (g := g) (off := off) Tryd.underlying33 (s := 1) (by kernel_rfl) .i64 0 w (by omega)
  go_enter Tryd.func60, Tryd.ntmps60
  go_wp2_with (first | (go_at_call 76; refine (hF _).mono ?_; rintro e v ⟨rfl, rfl⟩) | (go_at_call 77; refine (hB _).mono ?_; rintro e v ⟨rfl, rfl⟩) | (go_at_call 78; refine (hN _).mono ?_; rintro e v1 ⟨rfl, hb1⟩; have d0 : v1.cell? ⟨w.heap.size, 0, none⟩ = some (.string ⟨#[]⟩) := own_cell hb1 0; have d1 : v1.cell? ⟨w.heap.size, 1, none⟩ = some (.int .i64 0) := own_cell hb1 1; have f0 := own_frozen hb1 0; have f1 := own_frozen hb1 1; replace hb1 := below_own hb1))
  (try simp only [Exit.inBlock, Exit.then])
  refine bodyPost_ret (by simp [results, Tryd.results60, go_sem, d0, d1]; try rfl) rfl ?_
  refine ⟨rfl, ?_⟩
  repeat (first | exact hb1 | refine below_set ?_ (Nat.le_refl _))
theorem rdec_3 (w : World) (g off len cap n : Nat) (hn : n < 256) (X : ByteArray) (hF : ∀ v, Calls Tryd.prog 76 #[.int .u8 n] v fun e v' => e = .returned (.int .u8 3) ∧ v' = v) (hB : ∀ v, Calls Tryd.prog 77 #[.int .u8 3] v fun e v' => e = .returned (.int .i64 1) ∧ v' = v) (hN : ∀ v, Calls Tryd.prog 78 #[.int .u8 n] v fun e v' => e = .returned (.string X) ∧ Below v.heap.size v v') (c0 : w.cell? ⟨g, off, none⟩ = some (.int .u8 n)) (hg : g < w.heap.size) (hlen : 1 ≤ len) :
    Calls Tryd.prog 60 #[.slice (some ⟨g, off, none⟩) len cap] w fun e w' => e = .returned (.tuple #[.agg #[.string X, .int .i64 ((n : Int) % 8)], .int .i64 1, .int .i64 0]) ∧ Below w.heap.size w w' := by
  have i0 : ∀ w, (Instr.indexAt 33 (.slice (some ⟨g, off, none⟩) len cap) (.int .i64 0)).run Tryd.prog w = .ok (.pointer (some ⟨g, off, none⟩)) w := fun w => idxS (g := g) (off := off) Tryd.underlying33 (s := 1) (by kernel_rfl) .i64 0 w (by omega)
  go_enter Tryd.func60, Tryd.ntmps60
  go_wp2_with (first | (go_at_call 76; refine (hF _).mono ?_; rintro e v ⟨rfl, rfl⟩) | (go_at_call 77; refine (hB _).mono ?_; rintro e v ⟨rfl, rfl⟩) | (go_at_call 78; refine (hN _).mono ?_; rintro e v1 ⟨rfl, hb1⟩; have d0 : v1.cell? ⟨w.heap.size, 0, none⟩ = some (.string ⟨#[]⟩) := own_cell hb1 0; have d1 : v1.cell? ⟨w.heap.size, 1, none⟩ = some (.int .i64 0) := own_cell hb1 1; have f0 := own_frozen hb1 0; have f1 := own_frozen hb1 1; replace hb1 := below_own hb1))
  (try simp only [Exit.inBlock, Exit.then])
  refine bodyPost_ret (by simp [results, Tryd.results60, go_sem, d0, d1]; try rfl) rfl ?_
  refine ⟨rfl, ?_⟩
  repeat (first | exact hb1 | refine below_set ?_ (Nat.le_refl _))
theorem rdec_4 (w : World) (g off len cap n : Nat) (hn : n < 256) (X : ByteArray) (hF : ∀ v, Calls Tryd.prog 76 #[.int .u8 n] v fun e v' => e = .returned (.int .u8 4) ∧ v' = v) (hB : ∀ v, Calls Tryd.prog 77 #[.int .u8 4] v fun e v' => e = .returned (.int .i64 2) ∧ v' = v) (hN : ∀ v, Calls Tryd.prog 78 #[.int .u8 n] v fun e v' => e = .returned (.string X) ∧ Below v.heap.size v v') (c0 : w.cell? ⟨g, off, none⟩ = some (.int .u8 n)) (hg : g < w.heap.size) (p : Nat) (hp : p < 256) (c1 : w.cell? ⟨g, off + 1, none⟩ = some (.int .u8 p)) (hlen : 2 ≤ len) :
    Calls Tryd.prog 60 #[.slice (some ⟨g, off, none⟩) len cap] w fun e w' => e = .returned (.tuple #[.agg #[.string X, .int .i64 (p : Int)], .int .i64 2, .int .i64 0]) ∧ Below w.heap.size w w' := by
  have i0 : ∀ w, (Instr.indexAt 33 (.slice (some ⟨g, off, none⟩) len cap) (.int .i64 0)).run Tryd.prog w = .ok (.pointer (some ⟨g, off, none⟩)) w := fun w => idxS (g := g) (off := off) Tryd.underlying33 (s := 1) (by kernel_rfl) .i64 0 w (by omega)
  have i1 : ∀ w, (Instr.indexAt 33 (.slice (some ⟨g, off, none⟩) len cap) (.int .i64 1)).run Tryd.prog w = .ok (.pointer (some ⟨g, off + 1, none⟩)) w := fun w => idxS (g := g) (off := off) Tryd.underlying33 (s := 1) (by kernel_rfl) .i64 1 w (by omega)
  go_enter Tryd.func60, Tryd.ntmps60
  go_wp2_with (first | (go_at_call 76; refine (hF _).mono ?_; rintro e v ⟨rfl, rfl⟩) | (go_at_call 77; refine (hB _).mono ?_; rintro e v ⟨rfl, rfl⟩) | (go_at_call 78; refine (hN _).mono ?_; rintro e v1 ⟨rfl, hb1⟩; have d0 : v1.cell? ⟨w.heap.size, 0, none⟩ = some (.string ⟨#[]⟩) := own_cell hb1 0; have d1 : v1.cell? ⟨w.heap.size, 1, none⟩ = some (.int .i64 0) := own_cell hb1 1; have f0 := own_frozen hb1 0; have f1 := own_frozen hb1 1; replace hb1 := below_own hb1))
  (try simp only [Exit.inBlock, Exit.then])
  refine bodyPost_ret (by simp [results, Tryd.results60, go_sem, d0, d1]; try rfl) rfl ?_
  refine ⟨rfl, ?_⟩
  repeat (first | exact hb1 | refine below_set ?_ (Nat.le_refl _))
theorem rdec_5 (w : World) (g off len cap n : Nat) (hn : n < 256) (X : ByteArray) (hF : ∀ v, Calls Tryd.prog 76 #[.int .u8 n] v fun e v' => e = .returned (.int .u8 5) ∧ v' = v) (hB : ∀ v, Calls Tryd.prog 77 #[.int .u8 5] v fun e v' => e = .returned (.int .i64 2) ∧ v' = v) (hN : ∀ v, Calls Tryd.prog 78 #[.int .u8 n] v fun e v' => e = .returned (.string X) ∧ Below v.heap.size v v') (c0 : w.cell? ⟨g, off, none⟩ = some (.int .u8 n)) (hg : g < w.heap.size) (p : Nat) (hp : p < 256) (c1 : w.cell? ⟨g, off + 1, none⟩ = some (.int .u8 p)) (hlen : 2 ≤ len) :
    Calls Tryd.prog 60 #[.slice (some ⟨g, off, none⟩) len cap] w fun e w' => e = .returned (.tuple #[.agg #[.string X, .int .i64 (p : Int)], .int .i64 2, .int .i64 0]) ∧ Below w.heap.size w w' := by
  have i0 : ∀ w, (Instr.indexAt 33 (.slice (some ⟨g, off, none⟩) len cap) (.int .i64 0)).run Tryd.prog w = .ok (.pointer (some ⟨g, off, none⟩)) w := fun w => idxS (g := g) (off := off) Tryd.underlying33 (s := 1) (by kernel_rfl) .i64 0 w (by omega)
  have i1 : ∀ w, (Instr.indexAt 33 (.slice (some ⟨g, off, none⟩) len cap) (.int .i64 1)).run Tryd.prog w = .ok (.pointer (some ⟨g, off + 1, none⟩)) w := fun w => idxS (g := g) (off := off) Tryd.underlying33 (s := 1) (by kernel_rfl) .i64 1 w (by omega)
  go_enter Tryd.func60, Tryd.ntmps60
  go_wp2_with (first | (go_at_call 76; refine (hF _).mono ?_; rintro e v ⟨rfl, rfl⟩) | (go_at_call 77; refine (hB _).mono ?_; rintro e v ⟨rfl, rfl⟩) | (go_at_call 78; refine (hN _).mono ?_; rintro e v1 ⟨rfl, hb1⟩; have d0 : v1.cell? ⟨w.heap.size, 0, none⟩ = some (.string ⟨#[]⟩) := own_cell hb1 0; have d1 : v1.cell? ⟨w.heap.size, 1, none⟩ = some (.int .i64 0) := own_cell hb1 1; have f0 := own_frozen hb1 0; have f1 := own_frozen hb1 1; replace hb1 := below_own hb1))
  (try simp only [Exit.inBlock, Exit.then])
  refine bodyPost_ret (by simp [results, Tryd.results60, go_sem, d0, d1]; try rfl) rfl ?_
  refine ⟨rfl, ?_⟩
  repeat (first | exact hb1 | refine below_set ?_ (Nat.le_refl _))
theorem rdec_6 (w : World) (g off len cap n : Nat) (hn : n < 256) (X : ByteArray) (hF : ∀ v, Calls Tryd.prog 76 #[.int .u8 n] v fun e v' => e = .returned (.int .u8 6) ∧ v' = v) (hB : ∀ v, Calls Tryd.prog 77 #[.int .u8 6] v fun e v' => e = .returned (.int .i64 3) ∧ v' = v) (hN : ∀ v, Calls Tryd.prog 78 #[.int .u8 n] v fun e v' => e = .returned (.string X) ∧ Below v.heap.size v v') (c0 : w.cell? ⟨g, off, none⟩ = some (.int .u8 n)) (hg : g < w.heap.size) (p q : Nat) (hp : p < 256) (hq : q < 256) (c1 : w.cell? ⟨g, off + 1, none⟩ = some (.int .u8 p)) (c2 : w.cell? ⟨g, off + 2, none⟩ = some (.int .u8 q)) (hlen : 3 ≤ len) :
    Calls Tryd.prog 60 #[.slice (some ⟨g, off, none⟩) len cap] w fun e w' => e = .returned (.tuple #[.agg #[.string X, .int .i64 (256 * (p : Int) + q)], .int .i64 3, .int .i64 0]) ∧ Below w.heap.size w w' := by
  have i0 : ∀ w, (Instr.indexAt 33 (.slice (some ⟨g, off, none⟩) len cap) (.int .i64 0)).run Tryd.prog w = .ok (.pointer (some ⟨g, off, none⟩)) w := fun w => idxS (g := g) (off := off) Tryd.underlying33 (s := 1) (by kernel_rfl) .i64 0 w (by omega)
  have i1 : ∀ w, (Instr.indexAt 33 (.slice (some ⟨g, off, none⟩) len cap) (.int .i64 1)).run Tryd.prog w = .ok (.pointer (some ⟨g, off + 1, none⟩)) w := fun w => idxS (g := g) (off := off) Tryd.underlying33 (s := 1) (by kernel_rfl) .i64 1 w (by omega)
  have i2 : ∀ w, (Instr.indexAt 33 (.slice (some ⟨g, off, none⟩) len cap) (.int .i64 2)).run Tryd.prog w = .ok (.pointer (some ⟨g, off + 2, none⟩)) w := fun w => idxS (g := g) (off := off) Tryd.underlying33 (s := 1) (by kernel_rfl) .i64 2 w (by omega)
  go_enter Tryd.func60, Tryd.ntmps60
  go_wp2_with (first | (go_at_call 76; refine (hF _).mono ?_; rintro e v ⟨rfl, rfl⟩) | (go_at_call 77; refine (hB _).mono ?_; rintro e v ⟨rfl, rfl⟩))
  go_quiet (fail)
  go_wp2_with (first | (go_at_call 76; refine (hF _).mono ?_; rintro e v ⟨rfl, rfl⟩) | (go_at_call 77; refine (hB _).mono ?_; rintro e v ⟨rfl, rfl⟩) | (go_at_call 78; refine (hN _).mono ?_; rintro e v1 ⟨rfl, hb1⟩; replace hb1 := undrew hb1; have d0 : v1.cell? ⟨w.heap.size, 0, none⟩ = some (.string ⟨#[]⟩) := own_cell hb1 0; have d1 : v1.cell? ⟨w.heap.size, 1, none⟩ = some (.int .i64 0) := own_cell hb1 1; have f0 := own_frozen hb1 0; have f1 := own_frozen hb1 1; replace hb1 := below_own hb1))
  (try simp only [Exit.inBlock, Exit.then])
  refine bodyPost_ret (by simp [results, Tryd.results60, go_sem, d0, d1]; try rfl) rfl ?_
  refine ⟨rfl, ?_⟩
  repeat (first | exact hb1 | refine below_set ?_ (Nat.le_refl _))
end Go.Proofs.YtkpfhnogpcigaaaDoorR
