/- code.Encode: what it returns of every instruction. -/
import Derived.Test.YtkpfhnogpcigaaaDoorRJOHolds
namespace Go.Proofs.YtkpfhnogpcigaaaDoorR
open Go.RowKit
set_option maxHeartbeats 400000

theorem high_any (x : Int) (w : World) (h0 : 0 ≤ x) (h1 : x ≤ 65535) :
    Calls Tryd.prog 71 #[.int .u16 x] w fun e w' => e = .returned (.int .u8 (x / 256)) ∧ w' = w := by
  go_enter Tryd.func71, Tryd.ntmps71
  go_wp2
  go_ret
  exact ⟨congrArg (fun z => Ending.returned (.int .u8 z)) (by omega), rfl⟩
theorem low_any (x : Int) (w : World) (_h0 : 0 ≤ x) (_h1 : x ≤ 65535) :
    Calls Tryd.prog 72 #[.int .u16 x] w fun e w' => e = .returned (.int .u8 (x % 256)) ∧ w' = w := by
  go_enter Tryd.func72, Tryd.ntmps72
  go_wp2
  go_ret
  exact ⟨congrArg (fun z => Ending.returned (.int .u8 z)) (by omega), rfl⟩

theorem alloc_last (w : World) (o : Obj) : (w.alloc o).heap[w.heap.size]? = some o := by unfold World.alloc; simp

theorem enc_name (S : ByteArray) (A : Int) (ho : Hid (opOf S = none)) (w : World) (T : Tabs w) :
    Calls Tryd.prog 54 #[.agg #[.string S, .int .i64 A]] w fun e w' => e = .returned (.tuple #[.slice none 0 0, .int .i64 20]) ∧ Below w.heap.size w w' := by
  have HB : Below w.heap.size w (w.alloc (.cells #[.string S, .int .i64 A] 123)) := (Below.refl _ _).alloc (Nat.le_refl _) _
  go_enter Tryd.func54, Tryd.ntmps54
  go_wp2_with (go_at_call 64; refine (first_any S _ ho _ (T.below HB)).mono ?_; unfold firstV; rintro e v1 ⟨rfl, hb1⟩; replace hb1 := below_own hb1)
  go_ret2
  exact ⟨rfl, hb1⟩

theorem enc_lo1 (S : ByteArray) (A : Int) (n l : Nat) (X : ByteArray) (L c : Nat) (ho : Hid (opOf S = some n)) (hX : Hid (nm n = X)) (hF : Hid (fm n = 1)) (hL : Hid (lay (fm n * 3) = L)) (hc : Hid (cyc n = c)) (hl : Hid (held n 1 = l)) (h : A < l) (w : World) (T : Tabs w) :
    Calls Tryd.prog 54 #[.agg #[.string S, .int .i64 A]] w fun e w' => e = .returned (.tuple #[.slice none 0 0, .int .i64 21]) ∧ Below w.heap.size w w' := by
  have HB : Below w.heap.size w (w.alloc (.cells #[.string S, .int .i64 A] 123)) := (Below.refl _ _).alloc (Nat.le_refl _) _
  have hlt : Hid (n < 256) := (opOf_lt ho.out).1
  have hfd := fld1 X 1 L c
  have i5 : ∀ w, (Instr.indexAt 142 (.pointer (some ⟨0, 0, none⟩)) (.int .u8 1)).run Tryd.prog w = .ok (.pointer (some ⟨0, 3, none⟩)) w := fun w => idx (g := 0) (off := 0) Tryd.underlying142 (s := 3) (by kernel_rfl) .u8 1 w (by decide)
  go_enter Tryd.func54, Tryd.ntmps54
  go_wp2_with (first | (go_at_call 64; refine (first_any S _ ho _ (T.below HB)).mono ?_; unfold firstV; rintro e v1 ⟨rfl, hb1⟩) | (go_at_call 65; refine (info_of n X 1 L c hX hF hL hc _ ((T.below HB).below hb1) hlt.out).mono ?_; rintro e v2 ⟨rfl, hb2⟩; have T2 := ((T.below HB).below hb1).below hb2; replace hb2 := hb1.trans (hb2.mono hb1.size); have c0 : v2.cell? ⟨w.heap.size, 0, none⟩ = some (.string S) := own_cell hb2 0; have c1 : v2.cell? ⟨w.heap.size, 1, none⟩ = some (.int .i64 A) := own_cell hb2 1; have y5 : v2.cell? ⟨0, 5, none⟩ = some (.int .i64 0) := T2.ly 5 (by decide); replace hb2 := below_own hb2; clear T2) | (go_at_call 70; refine (held_any n 1 _ hlt.out (by decide)).mono ?_; rw [hl.out]; rintro e v3 ⟨rfl, rfl⟩))
  go_quiet (fail)
  go_wp2
  go_ret2
  exact ⟨rfl, below_drewN hb2⟩
theorem enc_hi1 (S : ByteArray) (A : Int) (n l : Nat) (X : ByteArray) (L c : Nat) (ho : Hid (opOf S = some n)) (hX : Hid (nm n = X)) (hF : Hid (fm n = 1)) (hL : Hid (lay (fm n * 3) = L)) (hc : Hid (cyc n = c)) (hl : Hid (held n 1 = l)) (h : ¬ A < l) (h' : 0 < A) (w : World) (T : Tabs w) :
    Calls Tryd.prog 54 #[.agg #[.string S, .int .i64 A]] w fun e w' => e = .returned (.tuple #[.slice none 0 0, .int .i64 21]) ∧ Below w.heap.size w w' := by
  have HB : Below w.heap.size w (w.alloc (.cells #[.string S, .int .i64 A] 123)) := (Below.refl _ _).alloc (Nat.le_refl _) _
  have hlt : Hid (n < 256) := (opOf_lt ho.out).1
  have hfd := fld1 X 1 L c
  have i5 : ∀ w, (Instr.indexAt 142 (.pointer (some ⟨0, 0, none⟩)) (.int .u8 1)).run Tryd.prog w = .ok (.pointer (some ⟨0, 3, none⟩)) w := fun w => idx (g := 0) (off := 0) Tryd.underlying142 (s := 3) (by kernel_rfl) .u8 1 w (by decide)
  go_enter Tryd.func54, Tryd.ntmps54
  go_wp2_with (first | (go_at_call 64; refine (first_any S _ ho _ (T.below HB)).mono ?_; unfold firstV; rintro e v1 ⟨rfl, hb1⟩) | (go_at_call 65; refine (info_of n X 1 L c hX hF hL hc _ ((T.below HB).below hb1) hlt.out).mono ?_; rintro e v2 ⟨rfl, hb2⟩; have T2 := ((T.below HB).below hb1).below hb2; replace hb2 := hb1.trans (hb2.mono hb1.size); have c0 : v2.cell? ⟨w.heap.size, 0, none⟩ = some (.string S) := own_cell hb2 0; have c1 : v2.cell? ⟨w.heap.size, 1, none⟩ = some (.int .i64 A) := own_cell hb2 1; have y5 : v2.cell? ⟨0, 5, none⟩ = some (.int .i64 0) := T2.ly 5 (by decide); replace hb2 := below_own hb2; clear T2) | (go_at_call 70; refine (held_any n 1 _ hlt.out (by decide)).mono ?_; rw [hl.out]; rintro e v3 ⟨rfl, rfl⟩))
  go_quiet (fail)
  go_wp2
  go_ret2
  exact ⟨rfl, below_drewN hb2⟩
theorem enc_ok1 (S : ByteArray) (A : Int) (n l : Nat) (X : ByteArray) (L c : Nat) (ho : Hid (opOf S = some n)) (hX : Hid (nm n = X)) (hF : Hid (fm n = 1)) (hL : Hid (lay (fm n * 3) = L)) (hc : Hid (cyc n = c)) (hl : Hid (held n 1 = l)) (h : ¬ A < l) (h' : ¬ 0 < A) (w : World) (T : Tabs w) :
    Calls Tryd.prog 54 #[.agg #[.string S, .int .i64 A]] w fun e w' => ∃ b, w.heap.size ≤ b ∧ e = .returned (.tuple #[.slice (some ⟨b, 0, none⟩) 1 1, .int .i64 0]) ∧ w'.heap[b]? = some (.cells (([(n : Int)] : List Int).map (Value.int .u8)).toArray 5) ∧ Below w.heap.size w w' := by
  have HB : Below w.heap.size w (w.alloc (.cells #[.string S, .int .i64 A] 123)) := (Below.refl _ _).alloc (Nat.le_refl _) _
  have hlt : Hid (n < 256) := (opOf_lt ho.out).1
  have hfd := fld1 X 1 L c
  have i5 : ∀ w, (Instr.indexAt 142 (.pointer (some ⟨0, 0, none⟩)) (.int .u8 1)).run Tryd.prog w = .ok (.pointer (some ⟨0, 3, none⟩)) w := fun w => idx (g := 0) (off := 0) Tryd.underlying142 (s := 3) (by kernel_rfl) .u8 1 w (by decide)
  have hl0 : (0 : Int) ≤ l := by omega
  go_enter Tryd.func54, Tryd.ntmps54
  go_wp2_with (first | (go_at_call 64; refine (first_any S _ ho _ (T.below HB)).mono ?_; unfold firstV; rintro e v1 ⟨rfl, hb1⟩) | (go_at_call 65; refine (info_of n X 1 L c hX hF hL hc _ ((T.below HB).below hb1) hlt.out).mono ?_; rintro e v2 ⟨rfl, hb2⟩; have T2 := ((T.below HB).below hb1).below hb2; replace hb2 := hb1.trans (hb2.mono hb1.size); have c0 : v2.cell? ⟨w.heap.size, 0, none⟩ = some (.string S) := own_cell hb2 0; have c1 : v2.cell? ⟨w.heap.size, 1, none⟩ = some (.int .i64 A) := own_cell hb2 1; have y5 : v2.cell? ⟨0, 5, none⟩ = some (.int .i64 0) := T2.ly 5 (by decide); replace hb2 := below_own hb2; clear T2) | (go_at_call 70; refine (held_any n 1 _ hlt.out (by decide)).mono ?_; rw [hl.out]; rintro e v3 ⟨rfl, rfl⟩))
  go_quiet (fail)
  go_wp2_with (first | fail)
  go_ret2
  exact ⟨_, hb2.size, rfl, alloc_last _ _, (below_drewN hb2).alloc hb2.size _⟩

theorem enc_lo2 (S : ByteArray) (A : Int) (n l : Nat) (X : ByteArray) (L c : Nat) (ho : Hid (opOf S = some n)) (hX : Hid (nm n = X)) (hF : Hid (fm n = 2)) (hL : Hid (lay (fm n * 3) = L)) (hc : Hid (cyc n = c)) (hl : Hid (held n 2 = l)) (h : A < l) (w : World) (T : Tabs w) :
    Calls Tryd.prog 54 #[.agg #[.string S, .int .i64 A]] w fun e w' => e = .returned (.tuple #[.slice none 0 0, .int .i64 21]) ∧ Below w.heap.size w w' := by
  have HB : Below w.heap.size w (w.alloc (.cells #[.string S, .int .i64 A] 123)) := (Below.refl _ _).alloc (Nat.le_refl _) _
  have hlt : Hid (n < 256) := (opOf_lt ho.out).1
  have hfd := fld1 X 2 L c
  have i5 : ∀ w, (Instr.indexAt 142 (.pointer (some ⟨0, 0, none⟩)) (.int .u8 2)).run Tryd.prog w = .ok (.pointer (some ⟨0, 6, none⟩)) w := fun w => idx (g := 0) (off := 0) Tryd.underlying142 (s := 3) (by kernel_rfl) .u8 2 w (by decide)
  go_enter Tryd.func54, Tryd.ntmps54
  go_wp2_with (first | (go_at_call 64; refine (first_any S _ ho _ (T.below HB)).mono ?_; unfold firstV; rintro e v1 ⟨rfl, hb1⟩) | (go_at_call 65; refine (info_of n X 2 L c hX hF hL hc _ ((T.below HB).below hb1) hlt.out).mono ?_; rintro e v2 ⟨rfl, hb2⟩; have T2 := ((T.below HB).below hb1).below hb2; replace hb2 := hb1.trans (hb2.mono hb1.size); have c0 : v2.cell? ⟨w.heap.size, 0, none⟩ = some (.string S) := own_cell hb2 0; have c1 : v2.cell? ⟨w.heap.size, 1, none⟩ = some (.int .i64 A) := own_cell hb2 1; have y5 : v2.cell? ⟨0, 8, none⟩ = some (.int .i64 15) := T2.ly 8 (by decide); replace hb2 := below_own hb2; clear T2) | (go_at_call 70; refine (held_any n 2 _ hlt.out (by decide)).mono ?_; rw [hl.out]; rintro e v3 ⟨rfl, rfl⟩))
  go_quiet (fail)
  go_wp2
  go_ret2
  exact ⟨rfl, below_drewN hb2⟩
theorem enc_hi2 (S : ByteArray) (A : Int) (n l : Nat) (X : ByteArray) (L c : Nat) (ho : Hid (opOf S = some n)) (hX : Hid (nm n = X)) (hF : Hid (fm n = 2)) (hL : Hid (lay (fm n * 3) = L)) (hc : Hid (cyc n = c)) (hl : Hid (held n 2 = l)) (h : ¬ A < l) (h' : 15 < A) (w : World) (T : Tabs w) :
    Calls Tryd.prog 54 #[.agg #[.string S, .int .i64 A]] w fun e w' => e = .returned (.tuple #[.slice none 0 0, .int .i64 21]) ∧ Below w.heap.size w w' := by
  have HB : Below w.heap.size w (w.alloc (.cells #[.string S, .int .i64 A] 123)) := (Below.refl _ _).alloc (Nat.le_refl _) _
  have hlt : Hid (n < 256) := (opOf_lt ho.out).1
  have hfd := fld1 X 2 L c
  have i5 : ∀ w, (Instr.indexAt 142 (.pointer (some ⟨0, 0, none⟩)) (.int .u8 2)).run Tryd.prog w = .ok (.pointer (some ⟨0, 6, none⟩)) w := fun w => idx (g := 0) (off := 0) Tryd.underlying142 (s := 3) (by kernel_rfl) .u8 2 w (by decide)
  go_enter Tryd.func54, Tryd.ntmps54
  go_wp2_with (first | (go_at_call 64; refine (first_any S _ ho _ (T.below HB)).mono ?_; unfold firstV; rintro e v1 ⟨rfl, hb1⟩) | (go_at_call 65; refine (info_of n X 2 L c hX hF hL hc _ ((T.below HB).below hb1) hlt.out).mono ?_; rintro e v2 ⟨rfl, hb2⟩; have T2 := ((T.below HB).below hb1).below hb2; replace hb2 := hb1.trans (hb2.mono hb1.size); have c0 : v2.cell? ⟨w.heap.size, 0, none⟩ = some (.string S) := own_cell hb2 0; have c1 : v2.cell? ⟨w.heap.size, 1, none⟩ = some (.int .i64 A) := own_cell hb2 1; have y5 : v2.cell? ⟨0, 8, none⟩ = some (.int .i64 15) := T2.ly 8 (by decide); replace hb2 := below_own hb2; clear T2) | (go_at_call 70; refine (held_any n 2 _ hlt.out (by decide)).mono ?_; rw [hl.out]; rintro e v3 ⟨rfl, rfl⟩))
  go_quiet (fail)
  go_wp2
  go_ret2
  exact ⟨rfl, below_drewN hb2⟩
theorem enc_ok2 (S : ByteArray) (A : Int) (n l : Nat) (X : ByteArray) (L c : Nat) (ho : Hid (opOf S = some n)) (hX : Hid (nm n = X)) (hF : Hid (fm n = 2)) (hL : Hid (lay (fm n * 3) = L)) (hc : Hid (cyc n = c)) (hl : Hid (held n 2 = l)) (h : ¬ A < l) (h' : ¬ 15 < A) (h3 : (n : Int) + (A - l) < 256) (w : World) (T : Tabs w) :
    Calls Tryd.prog 54 #[.agg #[.string S, .int .i64 A]] w fun e w' => ∃ b, w.heap.size ≤ b ∧ e = .returned (.tuple #[.slice (some ⟨b, 0, none⟩) 1 1, .int .i64 0]) ∧ w'.heap[b]? = some (.cells (([(n : Int) + (A - l)] : List Int).map (Value.int .u8)).toArray 5) ∧ Below w.heap.size w w' := by
  have HB : Below w.heap.size w (w.alloc (.cells #[.string S, .int .i64 A] 123)) := (Below.refl _ _).alloc (Nat.le_refl _) _
  have hlt : Hid (n < 256) := (opOf_lt ho.out).1
  have hfd := fld1 X 2 L c
  have i5 : ∀ w, (Instr.indexAt 142 (.pointer (some ⟨0, 0, none⟩)) (.int .u8 2)).run Tryd.prog w = .ok (.pointer (some ⟨0, 6, none⟩)) w := fun w => idx (g := 0) (off := 0) Tryd.underlying142 (s := 3) (by kernel_rfl) .u8 2 w (by decide)
  have hl0 : (0 : Int) ≤ l := by omega
  go_enter Tryd.func54, Tryd.ntmps54
  go_wp2_with (first | (go_at_call 64; refine (first_any S _ ho _ (T.below HB)).mono ?_; unfold firstV; rintro e v1 ⟨rfl, hb1⟩) | (go_at_call 65; refine (info_of n X 2 L c hX hF hL hc _ ((T.below HB).below hb1) hlt.out).mono ?_; rintro e v2 ⟨rfl, hb2⟩; have T2 := ((T.below HB).below hb1).below hb2; replace hb2 := hb1.trans (hb2.mono hb1.size); have c0 : v2.cell? ⟨w.heap.size, 0, none⟩ = some (.string S) := own_cell hb2 0; have c1 : v2.cell? ⟨w.heap.size, 1, none⟩ = some (.int .i64 A) := own_cell hb2 1; have y5 : v2.cell? ⟨0, 8, none⟩ = some (.int .i64 15) := T2.ly 8 (by decide); replace hb2 := below_own hb2; clear T2) | (go_at_call 70; refine (held_any n 2 _ hlt.out (by decide)).mono ?_; rw [hl.out]; rintro e v3 ⟨rfl, rfl⟩))
  go_quiet (fail)
  go_wp2_with (first | fail)
  go_ret2
  exact ⟨_, hb2.size, rfl, alloc_last _ _, (below_drewN hb2).alloc hb2.size _⟩

theorem enc_lo3 (S : ByteArray) (A : Int) (n l : Nat) (X : ByteArray) (L c : Nat) (ho : Hid (opOf S = some n)) (hX : Hid (nm n = X)) (hF : Hid (fm n = 3)) (hL : Hid (lay (fm n * 3) = L)) (hc : Hid (cyc n = c)) (hl : Hid (held n 3 = l)) (h : A < l) (w : World) (T : Tabs w) :
    Calls Tryd.prog 54 #[.agg #[.string S, .int .i64 A]] w fun e w' => e = .returned (.tuple #[.slice none 0 0, .int .i64 21]) ∧ Below w.heap.size w w' := by
  have HB : Below w.heap.size w (w.alloc (.cells #[.string S, .int .i64 A] 123)) := (Below.refl _ _).alloc (Nat.le_refl _) _
  have hlt : Hid (n < 256) := (opOf_lt ho.out).1
  have hfd := fld1 X 3 L c
  have i5 : ∀ w, (Instr.indexAt 142 (.pointer (some ⟨0, 0, none⟩)) (.int .u8 3)).run Tryd.prog w = .ok (.pointer (some ⟨0, 9, none⟩)) w := fun w => idx (g := 0) (off := 0) Tryd.underlying142 (s := 3) (by kernel_rfl) .u8 3 w (by decide)
  go_enter Tryd.func54, Tryd.ntmps54
  go_wp2_with (first | (go_at_call 64; refine (first_any S _ ho _ (T.below HB)).mono ?_; unfold firstV; rintro e v1 ⟨rfl, hb1⟩) | (go_at_call 65; refine (info_of n X 3 L c hX hF hL hc _ ((T.below HB).below hb1) hlt.out).mono ?_; rintro e v2 ⟨rfl, hb2⟩; have T2 := ((T.below HB).below hb1).below hb2; replace hb2 := hb1.trans (hb2.mono hb1.size); have c0 : v2.cell? ⟨w.heap.size, 0, none⟩ = some (.string S) := own_cell hb2 0; have c1 : v2.cell? ⟨w.heap.size, 1, none⟩ = some (.int .i64 A) := own_cell hb2 1; have y5 : v2.cell? ⟨0, 11, none⟩ = some (.int .i64 7) := T2.ly 11 (by decide); replace hb2 := below_own hb2; clear T2) | (go_at_call 70; refine (held_any n 3 _ hlt.out (by decide)).mono ?_; rw [hl.out]; rintro e v3 ⟨rfl, rfl⟩))
  go_quiet (fail)
  go_wp2
  go_ret2
  exact ⟨rfl, below_drewN hb2⟩
theorem enc_hi3 (S : ByteArray) (A : Int) (n l : Nat) (X : ByteArray) (L c : Nat) (ho : Hid (opOf S = some n)) (hX : Hid (nm n = X)) (hF : Hid (fm n = 3)) (hL : Hid (lay (fm n * 3) = L)) (hc : Hid (cyc n = c)) (hl : Hid (held n 3 = l)) (h : ¬ A < l) (h' : 7 < A) (w : World) (T : Tabs w) :
    Calls Tryd.prog 54 #[.agg #[.string S, .int .i64 A]] w fun e w' => e = .returned (.tuple #[.slice none 0 0, .int .i64 21]) ∧ Below w.heap.size w w' := by
  have HB : Below w.heap.size w (w.alloc (.cells #[.string S, .int .i64 A] 123)) := (Below.refl _ _).alloc (Nat.le_refl _) _
  have hlt : Hid (n < 256) := (opOf_lt ho.out).1
  have hfd := fld1 X 3 L c
  have i5 : ∀ w, (Instr.indexAt 142 (.pointer (some ⟨0, 0, none⟩)) (.int .u8 3)).run Tryd.prog w = .ok (.pointer (some ⟨0, 9, none⟩)) w := fun w => idx (g := 0) (off := 0) Tryd.underlying142 (s := 3) (by kernel_rfl) .u8 3 w (by decide)
  go_enter Tryd.func54, Tryd.ntmps54
  go_wp2_with (first | (go_at_call 64; refine (first_any S _ ho _ (T.below HB)).mono ?_; unfold firstV; rintro e v1 ⟨rfl, hb1⟩) | (go_at_call 65; refine (info_of n X 3 L c hX hF hL hc _ ((T.below HB).below hb1) hlt.out).mono ?_; rintro e v2 ⟨rfl, hb2⟩; have T2 := ((T.below HB).below hb1).below hb2; replace hb2 := hb1.trans (hb2.mono hb1.size); have c0 : v2.cell? ⟨w.heap.size, 0, none⟩ = some (.string S) := own_cell hb2 0; have c1 : v2.cell? ⟨w.heap.size, 1, none⟩ = some (.int .i64 A) := own_cell hb2 1; have y5 : v2.cell? ⟨0, 11, none⟩ = some (.int .i64 7) := T2.ly 11 (by decide); replace hb2 := below_own hb2; clear T2) | (go_at_call 70; refine (held_any n 3 _ hlt.out (by decide)).mono ?_; rw [hl.out]; rintro e v3 ⟨rfl, rfl⟩))
  go_quiet (fail)
  go_wp2
  go_ret2
  exact ⟨rfl, below_drewN hb2⟩
theorem enc_ok3 (S : ByteArray) (A : Int) (n l : Nat) (X : ByteArray) (L c : Nat) (ho : Hid (opOf S = some n)) (hX : Hid (nm n = X)) (hF : Hid (fm n = 3)) (hL : Hid (lay (fm n * 3) = L)) (hc : Hid (cyc n = c)) (hl : Hid (held n 3 = l)) (h : ¬ A < l) (h' : ¬ 7 < A) (h3 : (n : Int) + (A - l) < 256) (w : World) (T : Tabs w) :
    Calls Tryd.prog 54 #[.agg #[.string S, .int .i64 A]] w fun e w' => ∃ b, w.heap.size ≤ b ∧ e = .returned (.tuple #[.slice (some ⟨b, 0, none⟩) 1 1, .int .i64 0]) ∧ w'.heap[b]? = some (.cells (([(n : Int) + (A - l)] : List Int).map (Value.int .u8)).toArray 5) ∧ Below w.heap.size w w' := by
  have HB : Below w.heap.size w (w.alloc (.cells #[.string S, .int .i64 A] 123)) := (Below.refl _ _).alloc (Nat.le_refl _) _
  have hlt : Hid (n < 256) := (opOf_lt ho.out).1
  have hfd := fld1 X 3 L c
  have i5 : ∀ w, (Instr.indexAt 142 (.pointer (some ⟨0, 0, none⟩)) (.int .u8 3)).run Tryd.prog w = .ok (.pointer (some ⟨0, 9, none⟩)) w := fun w => idx (g := 0) (off := 0) Tryd.underlying142 (s := 3) (by kernel_rfl) .u8 3 w (by decide)
  have hl0 : (0 : Int) ≤ l := by omega
  go_enter Tryd.func54, Tryd.ntmps54
  go_wp2_with (first | (go_at_call 64; refine (first_any S _ ho _ (T.below HB)).mono ?_; unfold firstV; rintro e v1 ⟨rfl, hb1⟩) | (go_at_call 65; refine (info_of n X 3 L c hX hF hL hc _ ((T.below HB).below hb1) hlt.out).mono ?_; rintro e v2 ⟨rfl, hb2⟩; have T2 := ((T.below HB).below hb1).below hb2; replace hb2 := hb1.trans (hb2.mono hb1.size); have c0 : v2.cell? ⟨w.heap.size, 0, none⟩ = some (.string S) := own_cell hb2 0; have c1 : v2.cell? ⟨w.heap.size, 1, none⟩ = some (.int .i64 A) := own_cell hb2 1; have y5 : v2.cell? ⟨0, 11, none⟩ = some (.int .i64 7) := T2.ly 11 (by decide); replace hb2 := below_own hb2; clear T2) | (go_at_call 70; refine (held_any n 3 _ hlt.out (by decide)).mono ?_; rw [hl.out]; rintro e v3 ⟨rfl, rfl⟩))
  go_quiet (fail)
  go_wp2_with (first | fail)
  go_ret2
  exact ⟨_, hb2.size, rfl, alloc_last _ _, (below_drewN hb2).alloc hb2.size _⟩

theorem enc_lo4 (S : ByteArray) (A : Int) (n l : Nat) (X : ByteArray) (L c : Nat) (ho : Hid (opOf S = some n)) (hX : Hid (nm n = X)) (hF : Hid (fm n = 4)) (hL : Hid (lay (fm n * 3) = L)) (hc : Hid (cyc n = c)) (hl : Hid (held n 4 = l)) (h : A < l) (w : World) (T : Tabs w) :
    Calls Tryd.prog 54 #[.agg #[.string S, .int .i64 A]] w fun e w' => e = .returned (.tuple #[.slice none 0 0, .int .i64 21]) ∧ Below w.heap.size w w' := by
  have HB : Below w.heap.size w (w.alloc (.cells #[.string S, .int .i64 A] 123)) := (Below.refl _ _).alloc (Nat.le_refl _) _
  have hlt : Hid (n < 256) := (opOf_lt ho.out).1
  have hfd := fld1 X 4 L c
  have i5 : ∀ w, (Instr.indexAt 142 (.pointer (some ⟨0, 0, none⟩)) (.int .u8 4)).run Tryd.prog w = .ok (.pointer (some ⟨0, 12, none⟩)) w := fun w => idx (g := 0) (off := 0) Tryd.underlying142 (s := 3) (by kernel_rfl) .u8 4 w (by decide)
  go_enter Tryd.func54, Tryd.ntmps54
  go_wp2_with (first | (go_at_call 64; refine (first_any S _ ho _ (T.below HB)).mono ?_; unfold firstV; rintro e v1 ⟨rfl, hb1⟩) | (go_at_call 65; refine (info_of n X 4 L c hX hF hL hc _ ((T.below HB).below hb1) hlt.out).mono ?_; rintro e v2 ⟨rfl, hb2⟩; have T2 := ((T.below HB).below hb1).below hb2; replace hb2 := hb1.trans (hb2.mono hb1.size); have c0 : v2.cell? ⟨w.heap.size, 0, none⟩ = some (.string S) := own_cell hb2 0; have c1 : v2.cell? ⟨w.heap.size, 1, none⟩ = some (.int .i64 A) := own_cell hb2 1; have y5 : v2.cell? ⟨0, 14, none⟩ = some (.int .i64 255) := T2.ly 14 (by decide); replace hb2 := below_own hb2; clear T2) | (go_at_call 70; refine (held_any n 4 _ hlt.out (by decide)).mono ?_; rw [hl.out]; rintro e v3 ⟨rfl, rfl⟩))
  go_quiet (fail)
  go_wp2
  go_ret2
  exact ⟨rfl, below_drewN hb2⟩
theorem enc_hi4 (S : ByteArray) (A : Int) (n l : Nat) (X : ByteArray) (L c : Nat) (ho : Hid (opOf S = some n)) (hX : Hid (nm n = X)) (hF : Hid (fm n = 4)) (hL : Hid (lay (fm n * 3) = L)) (hc : Hid (cyc n = c)) (hl : Hid (held n 4 = l)) (h : ¬ A < l) (h' : 255 < A) (w : World) (T : Tabs w) :
    Calls Tryd.prog 54 #[.agg #[.string S, .int .i64 A]] w fun e w' => e = .returned (.tuple #[.slice none 0 0, .int .i64 21]) ∧ Below w.heap.size w w' := by
  have HB : Below w.heap.size w (w.alloc (.cells #[.string S, .int .i64 A] 123)) := (Below.refl _ _).alloc (Nat.le_refl _) _
  have hlt : Hid (n < 256) := (opOf_lt ho.out).1
  have hfd := fld1 X 4 L c
  have i5 : ∀ w, (Instr.indexAt 142 (.pointer (some ⟨0, 0, none⟩)) (.int .u8 4)).run Tryd.prog w = .ok (.pointer (some ⟨0, 12, none⟩)) w := fun w => idx (g := 0) (off := 0) Tryd.underlying142 (s := 3) (by kernel_rfl) .u8 4 w (by decide)
  go_enter Tryd.func54, Tryd.ntmps54
  go_wp2_with (first | (go_at_call 64; refine (first_any S _ ho _ (T.below HB)).mono ?_; unfold firstV; rintro e v1 ⟨rfl, hb1⟩) | (go_at_call 65; refine (info_of n X 4 L c hX hF hL hc _ ((T.below HB).below hb1) hlt.out).mono ?_; rintro e v2 ⟨rfl, hb2⟩; have T2 := ((T.below HB).below hb1).below hb2; replace hb2 := hb1.trans (hb2.mono hb1.size); have c0 : v2.cell? ⟨w.heap.size, 0, none⟩ = some (.string S) := own_cell hb2 0; have c1 : v2.cell? ⟨w.heap.size, 1, none⟩ = some (.int .i64 A) := own_cell hb2 1; have y5 : v2.cell? ⟨0, 14, none⟩ = some (.int .i64 255) := T2.ly 14 (by decide); replace hb2 := below_own hb2; clear T2) | (go_at_call 70; refine (held_any n 4 _ hlt.out (by decide)).mono ?_; rw [hl.out]; rintro e v3 ⟨rfl, rfl⟩))
  go_quiet (fail)
  go_wp2
  go_ret2
  exact ⟨rfl, below_drewN hb2⟩
theorem enc_ok4 (S : ByteArray) (A : Int) (n l : Nat) (X : ByteArray) (L c : Nat) (ho : Hid (opOf S = some n)) (hX : Hid (nm n = X)) (hF : Hid (fm n = 4)) (hL : Hid (lay (fm n * 3) = L)) (hc : Hid (cyc n = c)) (hl : Hid (held n 4 = l)) (h : ¬ A < l) (h' : ¬ 255 < A) (w : World) (T : Tabs w) :
    Calls Tryd.prog 54 #[.agg #[.string S, .int .i64 A]] w fun e w' => ∃ b, w.heap.size ≤ b ∧ e = .returned (.tuple #[.slice (some ⟨b, 0, none⟩) 2 2, .int .i64 0]) ∧ w'.heap[b]? = some (.cells (([(n : Int), A] : List Int).map (Value.int .u8)).toArray 5) ∧ Below w.heap.size w w' := by
  have HB : Below w.heap.size w (w.alloc (.cells #[.string S, .int .i64 A] 123)) := (Below.refl _ _).alloc (Nat.le_refl _) _
  have hlt : Hid (n < 256) := (opOf_lt ho.out).1
  have hfd := fld1 X 4 L c
  have i5 : ∀ w, (Instr.indexAt 142 (.pointer (some ⟨0, 0, none⟩)) (.int .u8 4)).run Tryd.prog w = .ok (.pointer (some ⟨0, 12, none⟩)) w := fun w => idx (g := 0) (off := 0) Tryd.underlying142 (s := 3) (by kernel_rfl) .u8 4 w (by decide)
  have hl0 : (0 : Int) ≤ l := by omega
  go_enter Tryd.func54, Tryd.ntmps54
  go_wp2_with (first | (go_at_call 64; refine (first_any S _ ho _ (T.below HB)).mono ?_; unfold firstV; rintro e v1 ⟨rfl, hb1⟩) | (go_at_call 65; refine (info_of n X 4 L c hX hF hL hc _ ((T.below HB).below hb1) hlt.out).mono ?_; rintro e v2 ⟨rfl, hb2⟩; have T2 := ((T.below HB).below hb1).below hb2; replace hb2 := hb1.trans (hb2.mono hb1.size); have c0 : v2.cell? ⟨w.heap.size, 0, none⟩ = some (.string S) := own_cell hb2 0; have c1 : v2.cell? ⟨w.heap.size, 1, none⟩ = some (.int .i64 A) := own_cell hb2 1; have y5 : v2.cell? ⟨0, 14, none⟩ = some (.int .i64 255) := T2.ly 14 (by decide); replace hb2 := below_own hb2; clear T2) | (go_at_call 70; refine (held_any n 4 _ hlt.out (by decide)).mono ?_; rw [hl.out]; rintro e v3 ⟨rfl, rfl⟩))
  go_quiet (fail)
  go_wp2_with (first | fail)
  go_ret2
  exact ⟨_, hb2.size, rfl, alloc_last _ _, (below_drewN hb2).alloc hb2.size _⟩

theorem enc_lo5 (S : ByteArray) (A : Int) (n l : Nat) (X : ByteArray) (L c : Nat) (ho : Hid (opOf S = some n)) (hX : Hid (nm n = X)) (hF : Hid (fm n = 5)) (hL : Hid (lay (fm n * 3) = L)) (hc : Hid (cyc n = c)) (hl : Hid (held n 5 = l)) (h : A < l) (w : World) (T : Tabs w) :
    Calls Tryd.prog 54 #[.agg #[.string S, .int .i64 A]] w fun e w' => e = .returned (.tuple #[.slice none 0 0, .int .i64 21]) ∧ Below w.heap.size w w' := by
  have HB : Below w.heap.size w (w.alloc (.cells #[.string S, .int .i64 A] 123)) := (Below.refl _ _).alloc (Nat.le_refl _) _
  have hlt : Hid (n < 256) := (opOf_lt ho.out).1
  have hfd := fld1 X 5 L c
  have i5 : ∀ w, (Instr.indexAt 142 (.pointer (some ⟨0, 0, none⟩)) (.int .u8 5)).run Tryd.prog w = .ok (.pointer (some ⟨0, 15, none⟩)) w := fun w => idx (g := 0) (off := 0) Tryd.underlying142 (s := 3) (by kernel_rfl) .u8 5 w (by decide)
  go_enter Tryd.func54, Tryd.ntmps54
  go_wp2_with (first | (go_at_call 64; refine (first_any S _ ho _ (T.below HB)).mono ?_; unfold firstV; rintro e v1 ⟨rfl, hb1⟩) | (go_at_call 65; refine (info_of n X 5 L c hX hF hL hc _ ((T.below HB).below hb1) hlt.out).mono ?_; rintro e v2 ⟨rfl, hb2⟩; have T2 := ((T.below HB).below hb1).below hb2; replace hb2 := hb1.trans (hb2.mono hb1.size); have c0 : v2.cell? ⟨w.heap.size, 0, none⟩ = some (.string S) := own_cell hb2 0; have c1 : v2.cell? ⟨w.heap.size, 1, none⟩ = some (.int .i64 A) := own_cell hb2 1; have y5 : v2.cell? ⟨0, 17, none⟩ = some (.int .i64 255) := T2.ly 17 (by decide); replace hb2 := below_own hb2; clear T2) | (go_at_call 70; refine (held_any n 5 _ hlt.out (by decide)).mono ?_; rw [hl.out]; rintro e v3 ⟨rfl, rfl⟩))
  go_quiet (fail)
  go_wp2
  go_ret2
  exact ⟨rfl, below_drewN hb2⟩
theorem enc_hi5 (S : ByteArray) (A : Int) (n l : Nat) (X : ByteArray) (L c : Nat) (ho : Hid (opOf S = some n)) (hX : Hid (nm n = X)) (hF : Hid (fm n = 5)) (hL : Hid (lay (fm n * 3) = L)) (hc : Hid (cyc n = c)) (hl : Hid (held n 5 = l)) (h : ¬ A < l) (h' : 255 < A) (w : World) (T : Tabs w) :
    Calls Tryd.prog 54 #[.agg #[.string S, .int .i64 A]] w fun e w' => e = .returned (.tuple #[.slice none 0 0, .int .i64 21]) ∧ Below w.heap.size w w' := by
  have HB : Below w.heap.size w (w.alloc (.cells #[.string S, .int .i64 A] 123)) := (Below.refl _ _).alloc (Nat.le_refl _) _
  have hlt : Hid (n < 256) := (opOf_lt ho.out).1
  have hfd := fld1 X 5 L c
  have i5 : ∀ w, (Instr.indexAt 142 (.pointer (some ⟨0, 0, none⟩)) (.int .u8 5)).run Tryd.prog w = .ok (.pointer (some ⟨0, 15, none⟩)) w := fun w => idx (g := 0) (off := 0) Tryd.underlying142 (s := 3) (by kernel_rfl) .u8 5 w (by decide)
  go_enter Tryd.func54, Tryd.ntmps54
  go_wp2_with (first | (go_at_call 64; refine (first_any S _ ho _ (T.below HB)).mono ?_; unfold firstV; rintro e v1 ⟨rfl, hb1⟩) | (go_at_call 65; refine (info_of n X 5 L c hX hF hL hc _ ((T.below HB).below hb1) hlt.out).mono ?_; rintro e v2 ⟨rfl, hb2⟩; have T2 := ((T.below HB).below hb1).below hb2; replace hb2 := hb1.trans (hb2.mono hb1.size); have c0 : v2.cell? ⟨w.heap.size, 0, none⟩ = some (.string S) := own_cell hb2 0; have c1 : v2.cell? ⟨w.heap.size, 1, none⟩ = some (.int .i64 A) := own_cell hb2 1; have y5 : v2.cell? ⟨0, 17, none⟩ = some (.int .i64 255) := T2.ly 17 (by decide); replace hb2 := below_own hb2; clear T2) | (go_at_call 70; refine (held_any n 5 _ hlt.out (by decide)).mono ?_; rw [hl.out]; rintro e v3 ⟨rfl, rfl⟩))
  go_quiet (fail)
  go_wp2
  go_ret2
  exact ⟨rfl, below_drewN hb2⟩
theorem enc_ok5 (S : ByteArray) (A : Int) (n l : Nat) (X : ByteArray) (L c : Nat) (ho : Hid (opOf S = some n)) (hX : Hid (nm n = X)) (hF : Hid (fm n = 5)) (hL : Hid (lay (fm n * 3) = L)) (hc : Hid (cyc n = c)) (hl : Hid (held n 5 = l)) (h : ¬ A < l) (h' : ¬ 255 < A) (w : World) (T : Tabs w) :
    Calls Tryd.prog 54 #[.agg #[.string S, .int .i64 A]] w fun e w' => ∃ b, w.heap.size ≤ b ∧ e = .returned (.tuple #[.slice (some ⟨b, 0, none⟩) 2 2, .int .i64 0]) ∧ w'.heap[b]? = some (.cells (([(n : Int), A] : List Int).map (Value.int .u8)).toArray 5) ∧ Below w.heap.size w w' := by
  have HB : Below w.heap.size w (w.alloc (.cells #[.string S, .int .i64 A] 123)) := (Below.refl _ _).alloc (Nat.le_refl _) _
  have hlt : Hid (n < 256) := (opOf_lt ho.out).1
  have hfd := fld1 X 5 L c
  have i5 : ∀ w, (Instr.indexAt 142 (.pointer (some ⟨0, 0, none⟩)) (.int .u8 5)).run Tryd.prog w = .ok (.pointer (some ⟨0, 15, none⟩)) w := fun w => idx (g := 0) (off := 0) Tryd.underlying142 (s := 3) (by kernel_rfl) .u8 5 w (by decide)
  have hl0 : (0 : Int) ≤ l := by omega
  go_enter Tryd.func54, Tryd.ntmps54
  go_wp2_with (first | (go_at_call 64; refine (first_any S _ ho _ (T.below HB)).mono ?_; unfold firstV; rintro e v1 ⟨rfl, hb1⟩) | (go_at_call 65; refine (info_of n X 5 L c hX hF hL hc _ ((T.below HB).below hb1) hlt.out).mono ?_; rintro e v2 ⟨rfl, hb2⟩; have T2 := ((T.below HB).below hb1).below hb2; replace hb2 := hb1.trans (hb2.mono hb1.size); have c0 : v2.cell? ⟨w.heap.size, 0, none⟩ = some (.string S) := own_cell hb2 0; have c1 : v2.cell? ⟨w.heap.size, 1, none⟩ = some (.int .i64 A) := own_cell hb2 1; have y5 : v2.cell? ⟨0, 17, none⟩ = some (.int .i64 255) := T2.ly 17 (by decide); replace hb2 := below_own hb2; clear T2) | (go_at_call 70; refine (held_any n 5 _ hlt.out (by decide)).mono ?_; rw [hl.out]; rintro e v3 ⟨rfl, rfl⟩))
  go_quiet (fail)
  go_wp2_with (first | fail)
  go_ret2
  exact ⟨_, hb2.size, rfl, alloc_last _ _, (below_drewN hb2).alloc hb2.size _⟩

theorem enc_lo6 (S : ByteArray) (A : Int) (n l : Nat) (X : ByteArray) (L c : Nat) (ho : Hid (opOf S = some n)) (hX : Hid (nm n = X)) (hF : Hid (fm n = 6)) (hL : Hid (lay (fm n * 3) = L)) (hc : Hid (cyc n = c)) (hl : Hid (held n 6 = l)) (h : A < l) (w : World) (T : Tabs w) :
    Calls Tryd.prog 54 #[.agg #[.string S, .int .i64 A]] w fun e w' => e = .returned (.tuple #[.slice none 0 0, .int .i64 21]) ∧ Below w.heap.size w w' := by
  have HB : Below w.heap.size w (w.alloc (.cells #[.string S, .int .i64 A] 123)) := (Below.refl _ _).alloc (Nat.le_refl _) _
  have hlt : Hid (n < 256) := (opOf_lt ho.out).1
  have hfd := fld1 X 6 L c
  have i5 : ∀ w, (Instr.indexAt 142 (.pointer (some ⟨0, 0, none⟩)) (.int .u8 6)).run Tryd.prog w = .ok (.pointer (some ⟨0, 18, none⟩)) w := fun w => idx (g := 0) (off := 0) Tryd.underlying142 (s := 3) (by kernel_rfl) .u8 6 w (by decide)
  go_enter Tryd.func54, Tryd.ntmps54
  go_wp2_with (first | (go_at_call 64; refine (first_any S _ ho _ (T.below HB)).mono ?_; unfold firstV; rintro e v1 ⟨rfl, hb1⟩) | (go_at_call 65; refine (info_of n X 6 L c hX hF hL hc _ ((T.below HB).below hb1) hlt.out).mono ?_; rintro e v2 ⟨rfl, hb2⟩; have T2 := ((T.below HB).below hb1).below hb2; replace hb2 := hb1.trans (hb2.mono hb1.size); have c0 : v2.cell? ⟨w.heap.size, 0, none⟩ = some (.string S) := own_cell hb2 0; have c1 : v2.cell? ⟨w.heap.size, 1, none⟩ = some (.int .i64 A) := own_cell hb2 1; have y5 : v2.cell? ⟨0, 20, none⟩ = some (.int .i64 65535) := T2.ly 20 (by decide); replace hb2 := below_own hb2; clear T2) | (go_at_call 70; refine (held_any n 6 _ hlt.out (by decide)).mono ?_; rw [hl.out]; rintro e v3 ⟨rfl, rfl⟩))
  go_quiet (fail)
  go_wp2
  go_ret2
  exact ⟨rfl, below_drewN hb2⟩
theorem enc_hi6 (S : ByteArray) (A : Int) (n l : Nat) (X : ByteArray) (L c : Nat) (ho : Hid (opOf S = some n)) (hX : Hid (nm n = X)) (hF : Hid (fm n = 6)) (hL : Hid (lay (fm n * 3) = L)) (hc : Hid (cyc n = c)) (hl : Hid (held n 6 = l)) (h : ¬ A < l) (h' : 65535 < A) (w : World) (T : Tabs w) :
    Calls Tryd.prog 54 #[.agg #[.string S, .int .i64 A]] w fun e w' => e = .returned (.tuple #[.slice none 0 0, .int .i64 21]) ∧ Below w.heap.size w w' := by
  have HB : Below w.heap.size w (w.alloc (.cells #[.string S, .int .i64 A] 123)) := (Below.refl _ _).alloc (Nat.le_refl _) _
  have hlt : Hid (n < 256) := (opOf_lt ho.out).1
  have hfd := fld1 X 6 L c
  have i5 : ∀ w, (Instr.indexAt 142 (.pointer (some ⟨0, 0, none⟩)) (.int .u8 6)).run Tryd.prog w = .ok (.pointer (some ⟨0, 18, none⟩)) w := fun w => idx (g := 0) (off := 0) Tryd.underlying142 (s := 3) (by kernel_rfl) .u8 6 w (by decide)
  go_enter Tryd.func54, Tryd.ntmps54
  go_wp2_with (first | (go_at_call 64; refine (first_any S _ ho _ (T.below HB)).mono ?_; unfold firstV; rintro e v1 ⟨rfl, hb1⟩) | (go_at_call 65; refine (info_of n X 6 L c hX hF hL hc _ ((T.below HB).below hb1) hlt.out).mono ?_; rintro e v2 ⟨rfl, hb2⟩; have T2 := ((T.below HB).below hb1).below hb2; replace hb2 := hb1.trans (hb2.mono hb1.size); have c0 : v2.cell? ⟨w.heap.size, 0, none⟩ = some (.string S) := own_cell hb2 0; have c1 : v2.cell? ⟨w.heap.size, 1, none⟩ = some (.int .i64 A) := own_cell hb2 1; have y5 : v2.cell? ⟨0, 20, none⟩ = some (.int .i64 65535) := T2.ly 20 (by decide); replace hb2 := below_own hb2; clear T2) | (go_at_call 70; refine (held_any n 6 _ hlt.out (by decide)).mono ?_; rw [hl.out]; rintro e v3 ⟨rfl, rfl⟩))
  go_quiet (fail)
  go_wp2
  go_ret2
  exact ⟨rfl, below_drewN hb2⟩
theorem enc_ok6 (S : ByteArray) (A : Int) (n l : Nat) (X : ByteArray) (L c : Nat) (ho : Hid (opOf S = some n)) (hX : Hid (nm n = X)) (hF : Hid (fm n = 6)) (hL : Hid (lay (fm n * 3) = L)) (hc : Hid (cyc n = c)) (hl : Hid (held n 6 = l)) (h : ¬ A < l) (h' : ¬ 65535 < A) (w : World) (T : Tabs w) :
    Calls Tryd.prog 54 #[.agg #[.string S, .int .i64 A]] w fun e w' => ∃ b, w.heap.size ≤ b ∧ e = .returned (.tuple #[.slice (some ⟨b, 0, none⟩) 3 3, .int .i64 0]) ∧ w'.heap[b]? = some (.cells (([(n : Int), A / 256, A % 256] : List Int).map (Value.int .u8)).toArray 5) ∧ Below w.heap.size w w' := by
  have HB : Below w.heap.size w (w.alloc (.cells #[.string S, .int .i64 A] 123)) := (Below.refl _ _).alloc (Nat.le_refl _) _
  have hlt : Hid (n < 256) := (opOf_lt ho.out).1
  have hfd := fld1 X 6 L c
  have i5 : ∀ w, (Instr.indexAt 142 (.pointer (some ⟨0, 0, none⟩)) (.int .u8 6)).run Tryd.prog w = .ok (.pointer (some ⟨0, 18, none⟩)) w := fun w => idx (g := 0) (off := 0) Tryd.underlying142 (s := 3) (by kernel_rfl) .u8 6 w (by decide)
  have hl0 : (0 : Int) ≤ l := by omega
  go_enter Tryd.func54, Tryd.ntmps54
  go_wp2_with (first | (go_at_call 64; refine (first_any S _ ho _ (T.below HB)).mono ?_; unfold firstV; rintro e v1 ⟨rfl, hb1⟩) | (go_at_call 65; refine (info_of n X 6 L c hX hF hL hc _ ((T.below HB).below hb1) hlt.out).mono ?_; rintro e v2 ⟨rfl, hb2⟩; have T2 := ((T.below HB).below hb1).below hb2; replace hb2 := hb1.trans (hb2.mono hb1.size); have c0 : v2.cell? ⟨w.heap.size, 0, none⟩ = some (.string S) := own_cell hb2 0; have c1 : v2.cell? ⟨w.heap.size, 1, none⟩ = some (.int .i64 A) := own_cell hb2 1; have y5 : v2.cell? ⟨0, 20, none⟩ = some (.int .i64 65535) := T2.ly 20 (by decide); replace hb2 := below_own hb2; clear T2) | (go_at_call 70; refine (held_any n 6 _ hlt.out (by decide)).mono ?_; rw [hl.out]; rintro e v3 ⟨rfl, rfl⟩))
  go_quiet (fail)
  go_wp2_with (first | (go_at_call 71; refine (high_any _ _ (by omega) (by omega)).mono ?_; rintro e v4 ⟨rfl, rfl⟩) | (go_at_call 72; refine (low_any _ _ (by omega) (by omega)).mono ?_; rintro e v4 ⟨rfl, rfl⟩) | fail)
  go_ret2
  exact ⟨_, hb2.size, rfl, alloc_last _ _, (below_drewN hb2).alloc hb2.size _⟩
end Go.Proofs.YtkpfhnogpcigaaaDoorR
/- code.Encode and code.Decode, whole, over the plain mathematics of the ops. -/
namespace Go.Proofs.YtkpfhnogpcigaaaDoorR
open Go.RowKit
set_option linter.unusedVariables false
set_option maxHeartbeats 400000

/-- Which operands an op's instruction may have, and its bytes. -/
def may (n : Nat) (A : Int) : Prop := (held n (fm n) : Int) ≤ A ∧ A ≤ (lay (fm n * 3 + 2) : Nat)
def encB (n : Nat) (A : Int) : List Int := if fm n ≤ 1 then [(n : Int)] else if fm n ≤ 3 then [(n : Int) + (A - held n (fm n))] else if fm n ≤ 5 then [(n : Int), A] else [(n : Int), A / 256, A % 256]

theorem enc_bad (S : ByteArray) (A : Int) (n : Nat) (ho : opOf S = some n) (h : ¬ may n A) (w : World) (T : Tabs w) :
    Calls Tryd.prog 54 #[.agg #[.string S, .int .i64 A]] w fun e w' => e = .returned (.tuple #[.slice none 0 0, .int .i64 21]) ∧ Below w.heap.size w w' := by
  have hn := (opOf_lt ho).1
  have hf := fm_le n hn
  unfold may at h
  have l1 : lay (1 * 3 + 2) = 0 := by decide
  have l2 : lay (2 * 3 + 2) = 15 := by decide
  have l3 : lay (3 * 3 + 2) = 7 := by decide
  have l4 : lay (4 * 3 + 2) = 255 := by decide
  have l5 : lay (5 * 3 + 2) = 255 := by decide
  have l6 : lay (6 * 3 + 2) = 65535 := by decide
  have hd : fm n = 1 ∨ fm n = 2 ∨ fm n = 3 ∨ fm n = 4 ∨ fm n = 5 ∨ fm n = 6 := by omega
  rcases hd with e | e | e | e | e | e
  all_goals rw [e] at h
  · by_cases hl : A < (held n 1 : Nat)
    · exact enc_lo1 S A n _ _ _ _ ho (show nm n = nm n from rfl) e (show lay (fm n * 3) = lay (fm n * 3) from rfl) (show cyc n = cyc n from rfl) (show held n 1 = held n 1 from rfl) hl w T
    · exact enc_hi1 S A n _ _ _ _ ho (show nm n = nm n from rfl) e (show lay (fm n * 3) = lay (fm n * 3) from rfl) (show cyc n = cyc n from rfl) (show held n 1 = held n 1 from rfl) hl (by omega) w T
  · by_cases hl : A < (held n 2 : Nat)
    · exact enc_lo2 S A n _ _ _ _ ho (show nm n = nm n from rfl) e (show lay (fm n * 3) = lay (fm n * 3) from rfl) (show cyc n = cyc n from rfl) (show held n 2 = held n 2 from rfl) hl w T
    · exact enc_hi2 S A n _ _ _ _ ho (show nm n = nm n from rfl) e (show lay (fm n * 3) = lay (fm n * 3) from rfl) (show cyc n = cyc n from rfl) (show held n 2 = held n 2 from rfl) hl (by omega) w T
  · by_cases hl : A < (held n 3 : Nat)
    · exact enc_lo3 S A n _ _ _ _ ho (show nm n = nm n from rfl) e (show lay (fm n * 3) = lay (fm n * 3) from rfl) (show cyc n = cyc n from rfl) (show held n 3 = held n 3 from rfl) hl w T
    · exact enc_hi3 S A n _ _ _ _ ho (show nm n = nm n from rfl) e (show lay (fm n * 3) = lay (fm n * 3) from rfl) (show cyc n = cyc n from rfl) (show held n 3 = held n 3 from rfl) hl (by omega) w T
  · by_cases hl : A < (held n 4 : Nat)
    · exact enc_lo4 S A n _ _ _ _ ho (show nm n = nm n from rfl) e (show lay (fm n * 3) = lay (fm n * 3) from rfl) (show cyc n = cyc n from rfl) (show held n 4 = held n 4 from rfl) hl w T
    · exact enc_hi4 S A n _ _ _ _ ho (show nm n = nm n from rfl) e (show lay (fm n * 3) = lay (fm n * 3) from rfl) (show cyc n = cyc n from rfl) (show held n 4 = held n 4 from rfl) hl (by omega) w T
  · by_cases hl : A < (held n 5 : Nat)
    · exact enc_lo5 S A n _ _ _ _ ho (show nm n = nm n from rfl) e (show lay (fm n * 3) = lay (fm n * 3) from rfl) (show cyc n = cyc n from rfl) (show held n 5 = held n 5 from rfl) hl w T
    · exact enc_hi5 S A n _ _ _ _ ho (show nm n = nm n from rfl) e (show lay (fm n * 3) = lay (fm n * 3) from rfl) (show cyc n = cyc n from rfl) (show held n 5 = held n 5 from rfl) hl (by omega) w T
  · by_cases hl : A < (held n 6 : Nat)
    · exact enc_lo6 S A n _ _ _ _ ho (show nm n = nm n from rfl) e (show lay (fm n * 3) = lay (fm n * 3) from rfl) (show cyc n = cyc n from rfl) (show held n 6 = held n 6 from rfl) hl w T
    · exact enc_hi6 S A n _ _ _ _ ho (show nm n = nm n from rfl) e (show lay (fm n * 3) = lay (fm n * 3) from rfl) (show cyc n = cyc n from rfl) (show held n 6 = held n 6 from rfl) hl (by omega) w T

/-- What a good call of Encode leaves: new bytes, all else as it was. -/
def Coded (w : World) (l : List Int) (e : Ending) (w' : World) : Prop :=
  ∃ b, w.heap.size ≤ b ∧ e = .returned (.tuple #[.slice (some ⟨b, 0, none⟩) l.length l.length, .int .i64 0]) ∧ w'.heap[b]? = some (.cells (l.map (Value.int .u8)).toArray 5) ∧ Below w.heap.size w w'

theorem held_lt (n f : Nat) : held n f ≤ 15 ∧ (f = 3 → held n f ≤ 7) ∧ (f = 2 → held n f = n % 16) ∧ (f = 3 → held n f = n % 8) ∧ (f ≠ 2 → f ≠ 3 → held n f = 0) := by
  unfold held
  refine ⟨?_, ?_, ?_, ?_, ?_⟩
  · split
    · omega
    · split <;> omega
  · rintro rfl; simp; omega
  · rintro rfl; simp
  · rintro rfl; simp
  · intro a b; rw [if_neg a, if_neg b]

theorem enc_good (S : ByteArray) (A : Int) (n : Nat) (ho : opOf S = some n) (h : may n A) (w : World) (T : Tabs w) :
    Calls Tryd.prog 54 #[.agg #[.string S, .int .i64 A]] w (Coded w (encB n A)) := by
  have hn := (opOf_lt ho).1
  have hf := fm_le n hn
  unfold may at h
  have l1 : lay (1 * 3 + 2) = 0 := by decide
  have l2 : lay (2 * 3 + 2) = 15 := by decide
  have l3 : lay (3 * 3 + 2) = 7 := by decide
  have l4 : lay (4 * 3 + 2) = 255 := by decide
  have l5 : lay (5 * 3 + 2) = 255 := by decide
  have l6 : lay (6 * 3 + 2) = 65535 := by decide
  have hd : fm n = 1 ∨ fm n = 2 ∨ fm n = 3 ∨ fm n = 4 ∨ fm n = 5 ∨ fm n = 6 := by omega
  unfold encB Coded
  have hh := held_lt n (fm n)
  rcases hd with e | e | e | e | e | e
  all_goals rw [e] at h hh ⊢
  · exact enc_ok1 S A n _ _ _ _ ho (show nm n = nm n from rfl) e (show lay (fm n * 3) = lay (fm n * 3) from rfl) (show cyc n = cyc n from rfl) (show held n 1 = held n 1 from rfl) (by omega) (by omega) w T
  · exact enc_ok2 S A n _ _ _ _ ho (show nm n = nm n from rfl) e (show lay (fm n * 3) = lay (fm n * 3) from rfl) (show cyc n = cyc n from rfl) (show held n 2 = held n 2 from rfl) (by omega) (by omega) (by omega) w T
  · exact enc_ok3 S A n _ _ _ _ ho (show nm n = nm n from rfl) e (show lay (fm n * 3) = lay (fm n * 3) from rfl) (show cyc n = cyc n from rfl) (show held n 3 = held n 3 from rfl) (by omega) (by omega) (by omega) w T
  · exact enc_ok4 S A n _ _ _ _ ho (show nm n = nm n from rfl) e (show lay (fm n * 3) = lay (fm n * 3) from rfl) (show cyc n = cyc n from rfl) (show held n 4 = held n 4 from rfl) (by omega) (by omega) w T
  · exact enc_ok5 S A n _ _ _ _ ho (show nm n = nm n from rfl) e (show lay (fm n * 3) = lay (fm n * 3) from rfl) (show cyc n = cyc n from rfl) (show held n 5 = held n 5 from rfl) (by omega) (by omega) w T
  · exact enc_ok6 S A n _ _ _ _ ho (show nm n = nm n from rfl) e (show lay (fm n * 3) = lay (fm n * 3) from rfl) (show cyc n = cyc n from rfl) (show held n 6 = held n 6 from rfl) (by omega) (by omega) w T

/-- The operand that Decode reads, from an op and the two bytes behind it; the bytes that are read. -/
def argOf (n p q : Nat) : Int := if by1 n = 1 then (held n (fm n) : Nat) else if by1 n = 2 then p else (p : Int) * 256 + q
def rowOf (n p q : Nat) : List Int := if by1 n = 1 then [(n : Int)] else if by1 n = 2 then [(n : Int), p] else [(n : Int), p, q]
theorem rowOf_len (n p q : Nat) (h : n < 256) : (rowOf n p q).length = by1 n := by
  have := by1_eq n h
  unfold rowOf
  split
  · simp; omega
  · split
    · simp; omega
    · simp; split at this
      · omega
      · split at this <;> omega

theorem may_back (n p q : Nat) (h : n < 256) (hp : p < 256) (hq : q < 256) : may (bs n) (argOf n p q) ∧ encB (bs n) (argOf n p q) = rowOf n p q := by
  have hf := fm_le n h
  have hb := bs_ok n h
  have hh := held_bs n h
  have h1 := held_lt n (fm n)
  have h2 := held_lt (bs n) (fm n)
  have hy := by1_eq n h
  have hd : fm n = 1 ∨ fm n = 2 ∨ fm n = 3 ∨ fm n = 4 ∨ fm n = 5 ∨ fm n = 6 := by omega
  unfold may encB argOf rowOf
  rw [hb.2.1, hy]
  have l1 : lay (1 * 3 + 2) = 0 := by decide
  have l2 : lay (2 * 3 + 2) = 15 := by decide
  have l3 : lay (3 * 3 + 2) = 7 := by decide
  have l4 : lay (4 * 3 + 2) = 255 := by decide
  have l5 : lay (5 * 3 + 2) = 255 := by decide
  have l6 : lay (6 * 3 + 2) = 65535 := by decide
  rcases hd with e | e | e | e | e | e
  all_goals rw [e] at h1 h2 hh ⊢
  all_goals simp [l1, l2, l3, l4, l5, l6]
  all_goals simp at hh h1 h2
  all_goals omega

theorem enc_row (n p q : Nat) (h : n < 256) (hp : p < 256) (hq : q < 256) (w : World) (T : Tabs w) :
    Calls Tryd.prog 54 #[.agg #[.string (nm n), .int .i64 (argOf n p q)]] w (Coded w (rowOf n p q)) := by
  have hm := may_back n p q h hp hq
  have := enc_good (nm n) (argOf n p q) (bs n) (opOf_nm n h) hm.1 w T
  rw [hm.2] at this
  exact this

theorem dec_row (w : World) (T : Tabs w) (g off len cap n p q : Nat) (h : n < 256) (hp : p < 256) (hq : q < 256) (c0 : w.cell? ⟨g, off, none⟩ = some (.int .u8 n)) (c1 : 2 ≤ by1 n → w.cell? ⟨g, off + 1, none⟩ = some (.int .u8 p)) (c2 : 3 ≤ by1 n → w.cell? ⟨g, off + 2, none⟩ = some (.int .u8 q)) (hlen : by1 n ≤ len) :
    Calls Tryd.prog 73 #[.slice (some ⟨g, off, none⟩) len cap] w fun e w' => e = .returned (.tuple #[.agg #[.string (nm n), .int .i64 (argOf n p q)], .int .i64 (by1 n : Nat), .int .i64 0]) ∧ Below w.heap.size w w' := by
  have hg := own_size c0
  have hf := fm_le n h
  have hy := by1_eq n h
  unfold argOf
  have hd : by1 n = 1 ∨ by1 n = 2 ∨ by1 n = 3 := by
    split at hy
    · omega
    · split at hy <;> omega
  rcases hd with e | e | e
  all_goals rw [e] at c1 c2 hlen ⊢
  · simp only [if_true]
    exact dec_1 w T g off len cap n h c0 hg _ _ _ _ (show nm n = nm n from rfl) (show fm n = fm n from rfl) e (show cyc n = cyc n from rfl) (show held n (fm n) = held n (fm n) from rfl) hlen hf.2
  · simp
    exact dec_2 w T g off len cap n h c0 hg p hp (c1 (by omega)) _ _ _ _ (show nm n = nm n from rfl) (show fm n = fm n from rfl) e (show cyc n = cyc n from rfl) (show held n (fm n) = held n (fm n) from rfl) hlen hf.2
  · simp
    exact dec_3 w T g off len cap n h c0 hg p q hp hq (c1 (by omega)) (c2 (by omega)) _ _ _ _ (show nm n = nm n from rfl) (show fm n = fm n from rfl) e (show cyc n = cyc n from rfl) (show held n (fm n) = held n (fm n) from rfl) hlen hf.2
theorem dec_less (w : World) (T : Tabs w) (g off len cap n : Nat) (h : n < 256) (c0 : w.cell? ⟨g, off, none⟩ = some (.int .u8 n)) (hlen : 1 ≤ len) (hsh : len < by1 n) :
    Calls Tryd.prog 73 #[.slice (some ⟨g, off, none⟩) len cap] w fun e w' => e = .returned (.tuple #[instr0, .int .i64 0, .int .i64 22]) ∧ Below w.heap.size w w' :=
  dec_short w T g off len cap n h c0 (own_size c0) _ _ _ _ _ (show nm n = nm n from rfl) (show fm n = fm n from rfl) (show by1 n = by1 n from rfl) (show cyc n = cyc n from rfl) (show held n (fm n) = held n (fm n) from rfl) hlen hsh (fm_le n h).2
end Go.Proofs.YtkpfhnogpcigaaaDoorR
