/- code.Decode: what it returns of every row of bytes. -/
import Derived.Test.YthbdpceobnkflaaDoorJ2
namespace Go.Proofs.YthbdpceobnkflaaDoor
open Go.RowKit
set_option linter.unusedVariables false
set_option maxHeartbeats 400000

theorem idxS {P : Program} {t e : TypeId} {s g off len cap : Nat} (ht : P.underlying t = some (.slice e)) (hs : (P.info? e).map (·.size) = some s) (k : IntKind) (i : Nat) (w : World) (h : i < len) :
   (Instr.indexAt t (.slice (some ⟨g, off, none⟩) len cap) (.int k (i : Int))).run P w = .ok (.pointer (some ⟨g, off + i * s, none⟩)) w := by
  have e2 : P.elem t = e := by unfold Program.elem; rw [ht]
  rw [run_indexAt_slice _ _ _ _ _ _ _ (by rw [e2, ht]), e2, if_pos ⟨by omega, by omega⟩]
  obtain ⟨inf, hi, rfl⟩ := Option.map_eq_some_iff.1 hs
  have e3 : P.cellsOf e = inf.size := by unfold Program.cellsOf; rw [hi]; rfl
  rw [run_sizeOf _ hi, e3]
  have e4 : (⟨g, off, none⟩ : Addr).add (i * inf.size) = ⟨g, off + i * inf.size, none⟩ := by
    unfold Addr.add
    split
    · rename_i h0; rw [h0]; rfl
    · rfl
  simp [e4]
theorem word_any (h l : Int) (w : World) (h0 : 0 ≤ h) (h1 : h ≤ 255) (l0 : 0 ≤ l) (l1 : l ≤ 255) :
    Calls Tryd.prog 77 #[.int .u8 h, .int .u8 l] w fun e w' => e = .returned (.int .u16 (h * 256 + l)) ∧ w' = w := by
  have hj : bits .or .u16 (h * 256) l = h * 256 + l := bits_join .u16 16 (by decide) (fun n h0 h1 => by rw [IntKind.wrap_u16]; omega) 8 _ _ (by omega) (by omega) (by omega) l0 (by omega) (by omega)
  go_enter Tryd.func77, Tryd.ntmps77
  go_wp2
  go_ret
  exact ⟨rfl, rfl⟩

theorem own_size {v : World} {g j : Nat} {x : Value} (h : v.cell? ⟨g, j, none⟩ = some x) : g < v.heap.size := by
  rcases Nat.lt_or_ge g v.heap.size with h' | h'
  · exact h'
  · simp [World.cell?, Array.getElem?_eq_none h'] at h

theorem quiet2 {P : Program} {f : FuncId} {args : Array Value} {w : World} {k n : Nat} {v : Value} (h : Calls P f args (w.drewN (k + n)) fun e w' => e = .returned v ∧ w' = w.drewN (k + n)) : Calls P f args (w.drewN (k + n)) fun e w'' => e = .returned v ∧ ∃ m, w'' = w.drewN (k + m) :=
  h.mono fun _ _ ⟨he, hm⟩ => ⟨he, n, hm⟩

def instr0 : Value := .agg #[.string ⟨#[]⟩, .int .i64 0]
theorem dec_short (w : World) (T : Tabs w) (g off len cap n : Nat) (hn : Hid (n < 256)) (c0 : w.cell? ⟨g, off, none⟩ = some (.int .u8 n)) (hg : g < w.heap.size) (X : ByteArray) (F L c l : Nat) (hX : Hid (nm n = X)) (hF : Hid (fm n = F)) (hL : Hid (lay (fm n * 3) = L)) (hc : Hid (cyc n = c)) (hl : Hid (held n F = l)) (hlen : 1 ≤ len) (hsh : len < L) (hF6 : F ≤ 6) :
    Calls Tryd.prog 64 #[.slice (some ⟨g, off, none⟩) len cap] w fun e w' => e = .returned (.tuple #[instr0, .int .i64 0, .int .i64 22]) ∧ Below w.heap.size w w' := by
  have HB : Below w.heap.size w (w.alloc (.cells #[.string ⟨#[]⟩, .int .i64 0] 87)) := (Below.refl _ _).alloc (Nat.le_refl _) _
  have i0 : ∀ w, (Instr.indexAt 33 (.slice (some ⟨g, off, none⟩) len cap) (.int .i64 0)).run Tryd.prog w = .ok (.pointer (some ⟨g, off, none⟩)) w := fun w => idxS (g := g) (off := off) Tryd.underlying33 (s := 1) (by kernel_rfl) .i64 0 w (by omega)
  go_enter Tryd.func64, Tryd.ntmps64
  go_wp2_with (go_at_call 42; refine (info_of n X F L c hX hF hL hc _ (T.below HB) hn.out).mono ?_; rintro e v1 ⟨rfl, hb1⟩; have d0 : v1.cell? ⟨w.heap.size, 0, none⟩ = some (.string ⟨#[]⟩) := own_cell hb1 0; have d1 : v1.cell? ⟨w.heap.size, 1, none⟩ = some (.int .i64 0) := own_cell hb1 1; have f0 := own_frozen hb1 0; have f1 := own_frozen hb1 1; replace hb1 := below_own hb1; have c0' := (hb1.cell (p := ⟨g, off, none⟩) hg).trans c0; have hz : w.heap.size < v1.heap.size := own_size d0; have hg' : g < v1.heap.size := Nat.lt_trans hg hz)
  all_goals (try simp only [Exit.inBlock, Exit.then])
  all_goals refine bodyPost_ret (by simp [results, Tryd.results64, go_sem, d0, d1, hz]; try rfl) rfl ?_
  all_goals refine ⟨rfl, ?_⟩
  all_goals repeat (first | exact hb1 | refine below_set ?_ (Nat.le_refl _) | refine below_drewN ?_ | refine Below.alloc ?_ (Nat.le_of_lt hz) _ | refine Below.alloc ?_ (by simp; omega) _)

theorem dec_1 (w : World) (T : Tabs w) (g off len cap n : Nat) (hn : Hid (n < 256)) (c0 : w.cell? ⟨g, off, none⟩ = some (.int .u8 n)) (hg : g < w.heap.size) (X : ByteArray) (F c l : Nat) (hX : Hid (nm n = X)) (hF : Hid (fm n = F)) (hL : Hid (lay (fm n * 3) = 1)) (hc : Hid (cyc n = c)) (hl : Hid (held n F = l)) (hlen : 1 ≤ len) (hF6 : F ≤ 6) :
    Calls Tryd.prog 64 #[.slice (some ⟨g, off, none⟩) len cap] w fun e w' => e = .returned (.tuple #[.agg #[.string X, .int .i64 (l : Int)], .int .i64 1, .int .i64 0]) ∧ Below w.heap.size w w' := by
  have HB : Below w.heap.size w (w.alloc (.cells #[.string ⟨#[]⟩, .int .i64 0] 87)) := (Below.refl _ _).alloc (Nat.le_refl _) _
  have i0 : ∀ w, (Instr.indexAt 33 (.slice (some ⟨g, off, none⟩) len cap) (.int .i64 0)).run Tryd.prog w = .ok (.pointer (some ⟨g, off, none⟩)) w := fun w => idxS (g := g) (off := off) Tryd.underlying33 (s := 1) (by kernel_rfl) .i64 0 w (by omega)
  go_enter Tryd.func64, Tryd.ntmps64
  go_wp2_with (go_at_call 42; refine (info_of n X F 1 c hX hF hL hc _ (T.below HB) hn.out).mono ?_; rintro e v1 ⟨rfl, hb1⟩; have d0 : v1.cell? ⟨w.heap.size, 0, none⟩ = some (.string ⟨#[]⟩) := own_cell hb1 0; have d1 : v1.cell? ⟨w.heap.size, 1, none⟩ = some (.int .i64 0) := own_cell hb1 1; have f0 := own_frozen hb1 0; have f1 := own_frozen hb1 1; replace hb1 := below_own hb1; have c0' := (hb1.cell (p := ⟨g, off, none⟩) hg).trans c0; have hz : w.heap.size < v1.heap.size := own_size d0; have hg' : g < v1.heap.size := Nat.lt_trans hg hz)
  go_quiet ((first | (go_at_call 43; exact Calls.quiet_of_same (held_any n F _ hn.out hF6))))
  go_wp2
  go_region
  all_goals go_wp2
  all_goals (try simp only [Exit.inBlock, Exit.then])
  all_goals refine bodyPost_ret (by simp [results, Tryd.results64, go_sem, d0, d1, hz]; try rfl) rfl ?_
  all_goals refine ⟨by rw [← hl.out], ?_⟩
  all_goals repeat (first | exact hb1 | refine below_set ?_ (Nat.le_refl _) | refine below_drewN ?_ | refine Below.alloc ?_ (Nat.le_of_lt hz) _ | refine Below.alloc ?_ (by simp; omega) _)

theorem dec_2 (w : World) (T : Tabs w) (g off len cap n : Nat) (hn : Hid (n < 256)) (c0 : w.cell? ⟨g, off, none⟩ = some (.int .u8 n)) (hg : g < w.heap.size) (p : Nat) (hp : p < 256) (c1 : w.cell? ⟨g, off + 1, none⟩ = some (.int .u8 p)) (X : ByteArray) (F c l : Nat) (hX : Hid (nm n = X)) (hF : Hid (fm n = F)) (hL : Hid (lay (fm n * 3) = 2)) (hc : Hid (cyc n = c)) (hl : Hid (held n F = l)) (hlen : 2 ≤ len) (hF6 : F ≤ 6) :
    Calls Tryd.prog 64 #[.slice (some ⟨g, off, none⟩) len cap] w fun e w' => e = .returned (.tuple #[.agg #[.string X, .int .i64 (p : Int)], .int .i64 2, .int .i64 0]) ∧ Below w.heap.size w w' := by
  have HB : Below w.heap.size w (w.alloc (.cells #[.string ⟨#[]⟩, .int .i64 0] 87)) := (Below.refl _ _).alloc (Nat.le_refl _) _
  have i0 : ∀ w, (Instr.indexAt 33 (.slice (some ⟨g, off, none⟩) len cap) (.int .i64 0)).run Tryd.prog w = .ok (.pointer (some ⟨g, off, none⟩)) w := fun w => idxS (g := g) (off := off) Tryd.underlying33 (s := 1) (by kernel_rfl) .i64 0 w (by omega)
  have i1 : ∀ w, (Instr.indexAt 33 (.slice (some ⟨g, off, none⟩) len cap) (.int .i64 1)).run Tryd.prog w = .ok (.pointer (some ⟨g, off + 1, none⟩)) w := fun w => idxS (g := g) (off := off) Tryd.underlying33 (s := 1) (by kernel_rfl) .i64 1 w (by omega)
  go_enter Tryd.func64, Tryd.ntmps64
  go_wp2_with (go_at_call 42; refine (info_of n X F 2 c hX hF hL hc _ (T.below HB) hn.out).mono ?_; rintro e v1 ⟨rfl, hb1⟩; have d0 : v1.cell? ⟨w.heap.size, 0, none⟩ = some (.string ⟨#[]⟩) := own_cell hb1 0; have d1 : v1.cell? ⟨w.heap.size, 1, none⟩ = some (.int .i64 0) := own_cell hb1 1; have f0 := own_frozen hb1 0; have f1 := own_frozen hb1 1; replace hb1 := below_own hb1; have c0' := (hb1.cell (p := ⟨g, off, none⟩) hg).trans c0; have c1' := (hb1.cell (p := ⟨g, off + 1, none⟩) hg).trans c1; have hz : w.heap.size < v1.heap.size := own_size d0; have hg' : g < v1.heap.size := Nat.lt_trans hg hz)
  go_quiet ((first | (go_at_call 43; exact Calls.quiet_of_same (held_any n F _ hn.out hF6))))
  go_wp2
  go_region
  all_goals go_wp2
  all_goals (try simp only [Exit.inBlock, Exit.then])
  all_goals refine bodyPost_ret (by simp [results, Tryd.results64, go_sem, d0, d1, hz]; try rfl) rfl ?_
  all_goals refine ⟨rfl, ?_⟩
  all_goals repeat (first | exact hb1 | refine below_set ?_ (Nat.le_refl _) | refine below_drewN ?_ | refine Below.alloc ?_ (Nat.le_of_lt hz) _ | refine Below.alloc ?_ (by simp; omega) _)

theorem dec_3 (w : World) (T : Tabs w) (g off len cap n : Nat) (hn : Hid (n < 256)) (c0 : w.cell? ⟨g, off, none⟩ = some (.int .u8 n)) (hg : g < w.heap.size) (p q : Nat) (hp : p < 256) (hq : q < 256) (c1 : w.cell? ⟨g, off + 1, none⟩ = some (.int .u8 p)) (c2 : w.cell? ⟨g, off + 2, none⟩ = some (.int .u8 q)) (X : ByteArray) (F c l : Nat) (hX : Hid (nm n = X)) (hF : Hid (fm n = F)) (hL : Hid (lay (fm n * 3) = 3)) (hc : Hid (cyc n = c)) (hl : Hid (held n F = l)) (hlen : 3 ≤ len) (hF6 : F ≤ 6) :
    Calls Tryd.prog 64 #[.slice (some ⟨g, off, none⟩) len cap] w fun e w' => e = .returned (.tuple #[.agg #[.string X, .int .i64 ((p : Int) * 256 + q)], .int .i64 3, .int .i64 0]) ∧ Below w.heap.size w w' := by
  have HB : Below w.heap.size w (w.alloc (.cells #[.string ⟨#[]⟩, .int .i64 0] 87)) := (Below.refl _ _).alloc (Nat.le_refl _) _
  have i0 : ∀ w, (Instr.indexAt 33 (.slice (some ⟨g, off, none⟩) len cap) (.int .i64 0)).run Tryd.prog w = .ok (.pointer (some ⟨g, off, none⟩)) w := fun w => idxS (g := g) (off := off) Tryd.underlying33 (s := 1) (by kernel_rfl) .i64 0 w (by omega)
  have i1 : ∀ w, (Instr.indexAt 33 (.slice (some ⟨g, off, none⟩) len cap) (.int .i64 1)).run Tryd.prog w = .ok (.pointer (some ⟨g, off + 1, none⟩)) w := fun w => idxS (g := g) (off := off) Tryd.underlying33 (s := 1) (by kernel_rfl) .i64 1 w (by omega)
  have hw := fun v => word_any (p : Int) (q : Int) v (by omega) (by omega) (by omega) (by omega)
  have i2 : ∀ w, (Instr.indexAt 33 (.slice (some ⟨g, off, none⟩) len cap) (.int .i64 2)).run Tryd.prog w = .ok (.pointer (some ⟨g, off + 2, none⟩)) w := fun w => idxS (g := g) (off := off) Tryd.underlying33 (s := 1) (by kernel_rfl) .i64 2 w (by omega)
  go_enter Tryd.func64, Tryd.ntmps64
  go_wp2_with (go_at_call 42; refine (info_of n X F 3 c hX hF hL hc _ (T.below HB) hn.out).mono ?_; rintro e v1 ⟨rfl, hb1⟩; have d0 : v1.cell? ⟨w.heap.size, 0, none⟩ = some (.string ⟨#[]⟩) := own_cell hb1 0; have d1 : v1.cell? ⟨w.heap.size, 1, none⟩ = some (.int .i64 0) := own_cell hb1 1; have f0 := own_frozen hb1 0; have f1 := own_frozen hb1 1; replace hb1 := below_own hb1; have c0' := (hb1.cell (p := ⟨g, off, none⟩) hg).trans c0; have c1' := (hb1.cell (p := ⟨g, off + 1, none⟩) hg).trans c1; have c2' := (hb1.cell (p := ⟨g, off + 2, none⟩) hg).trans c2; have hz : w.heap.size < v1.heap.size := own_size d0; have hg' : g < v1.heap.size := Nat.lt_trans hg hz)
  go_quiet ((first | (go_at_call 43; exact Calls.quiet_of_same (held_any n F _ hn.out hF6))))
  go_wp2
  go_quiet ((first | (go_at_call 77; exact quiet2 (hw _))))
  go_wp2
  go_region
  all_goals go_wp2
  all_goals (try simp only [Exit.inBlock, Exit.then])
  all_goals refine bodyPost_ret (by simp [results, Tryd.results64, go_sem, d0, d1, hz]; try rfl) rfl ?_
  all_goals refine ⟨rfl, ?_⟩
  all_goals repeat (first | exact hb1 | refine below_set ?_ (Nat.le_refl _) | refine below_drewN ?_ | refine Below.alloc ?_ (Nat.le_of_lt hz) _ | refine Below.alloc ?_ (by simp; omega) _)

end Go.Proofs.YthbdpceobnkflaaDoor
