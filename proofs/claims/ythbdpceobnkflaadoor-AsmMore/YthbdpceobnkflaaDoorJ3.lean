/- code.Encode: what it returns of every instruction. -/
import Derived.Test.YthbdpceobnkflaaDoorJ2
namespace Go.Proofs.YthbdpceobnkflaaDoor
open Go.RowKit
set_option maxHeartbeats 400000

theorem high_any (x : Int) (w : World) (h0 : 0 ≤ x) (h1 : x ≤ 65535) :
    Calls Tryd.prog 44 #[.int .u16 x] w fun e w' => e = .returned (.int .u8 (x / 256)) ∧ w' = w := by
  go_enter Tryd.func44, Tryd.ntmps44
  go_wp2
  go_ret
  exact ⟨congrArg (fun z => Ending.returned (.int .u8 z)) (by omega), rfl⟩
theorem low_any (x : Int) (w : World) (_h0 : 0 ≤ x) (_h1 : x ≤ 65535) :
    Calls Tryd.prog 45 #[.int .u16 x] w fun e w' => e = .returned (.int .u8 (x % 256)) ∧ w' = w := by
  go_enter Tryd.func45, Tryd.ntmps45
  go_wp2
  go_ret
  exact ⟨congrArg (fun z => Ending.returned (.int .u8 z)) (by omega), rfl⟩

theorem alloc_last (w : World) (o : Obj) : (w.alloc o).heap[w.heap.size]? = some o := by unfold World.alloc; simp

theorem enc_name (S : ByteArray) (A : Int) (ho : Hid (opOf S = none)) (w : World) (T : Tabs w) :
    Calls Tryd.prog 31 #[.agg #[.string S, .int .i64 A]] w fun e w' => e = .returned (.tuple #[.slice none 0 0, .int .i64 20]) ∧ Below w.heap.size w w' := by
  have HB : Below w.heap.size w (w.alloc (.cells #[.string S, .int .i64 A] 87)) := (Below.refl _ _).alloc (Nat.le_refl _) _
  go_enter Tryd.func31, Tryd.ntmps31
  go_wp2_with (go_at_call 41; refine (first_any S _ ho _ (T.below HB)).mono ?_; unfold firstV; rintro e v1 ⟨rfl, hb1⟩; replace hb1 := below_own hb1)
  go_ret2
  exact ⟨rfl, hb1⟩

theorem enc_lo1 (S : ByteArray) (A : Int) (n l : Nat) (X : ByteArray) (L c : Nat) (ho : Hid (opOf S = some n)) (hX : Hid (nm n = X)) (hF : Hid (fm n = 1)) (hL : Hid (lay (fm n * 3) = L)) (hc : Hid (cyc n = c)) (hl : Hid (held n 1 = l)) (h : A < l) (w : World) (T : Tabs w) :
    Calls Tryd.prog 31 #[.agg #[.string S, .int .i64 A]] w fun e w' => e = .returned (.tuple #[.slice none 0 0, .int .i64 21]) ∧ Below w.heap.size w w' := by
  have HB : Below w.heap.size w (w.alloc (.cells #[.string S, .int .i64 A] 87)) := (Below.refl _ _).alloc (Nat.le_refl _) _
  have hlt : Hid (n < 256) := (opOf_lt ho.out).1
  have hfd := fld1 X 1 L c
  have i5 : ∀ w, (Instr.indexAt 119 (.pointer (some ⟨0, 0, none⟩)) (.int .u8 1)).run Tryd.prog w = .ok (.pointer (some ⟨0, 3, none⟩)) w := fun w => idx (g := 0) (off := 0) Tryd.underlying119 (s := 3) (by kernel_rfl) .u8 1 w (by decide)
  go_enter Tryd.func31, Tryd.ntmps31
  go_wp2_with (first | (go_at_call 41; refine (first_any S _ ho _ (T.below HB)).mono ?_; unfold firstV; rintro e v1 ⟨rfl, hb1⟩) | (go_at_call 42; refine (info_of n X 1 L c hX hF hL hc _ ((T.below HB).below hb1) hlt.out).mono ?_; rintro e v2 ⟨rfl, hb2⟩; have T2 := ((T.below HB).below hb1).below hb2; replace hb2 := hb1.trans (hb2.mono hb1.size); have c0 : v2.cell? ⟨w.heap.size, 0, none⟩ = some (.string S) := own_cell hb2 0; have c1 : v2.cell? ⟨w.heap.size, 1, none⟩ = some (.int .i64 A) := own_cell hb2 1; have y5 : v2.cell? ⟨0, 5, none⟩ = some (.int .i64 0) := T2.ly 5 (by decide); replace hb2 := below_own hb2; clear T2) | (go_at_call 43; refine (held_any n 1 _ hlt.out (by decide)).mono ?_; rw [hl.out]; rintro e v3 ⟨rfl, rfl⟩))
  go_quiet (fail)
  go_wp2
  go_ret2
  exact ⟨rfl, below_drewN hb2⟩
theorem enc_hi1 (S : ByteArray) (A : Int) (n l : Nat) (X : ByteArray) (L c : Nat) (ho : Hid (opOf S = some n)) (hX : Hid (nm n = X)) (hF : Hid (fm n = 1)) (hL : Hid (lay (fm n * 3) = L)) (hc : Hid (cyc n = c)) (hl : Hid (held n 1 = l)) (h : ¬ A < l) (h' : 0 < A) (w : World) (T : Tabs w) :
    Calls Tryd.prog 31 #[.agg #[.string S, .int .i64 A]] w fun e w' => e = .returned (.tuple #[.slice none 0 0, .int .i64 21]) ∧ Below w.heap.size w w' := by
  have HB : Below w.heap.size w (w.alloc (.cells #[.string S, .int .i64 A] 87)) := (Below.refl _ _).alloc (Nat.le_refl _) _
  have hlt : Hid (n < 256) := (opOf_lt ho.out).1
  have hfd := fld1 X 1 L c
  have i5 : ∀ w, (Instr.indexAt 119 (.pointer (some ⟨0, 0, none⟩)) (.int .u8 1)).run Tryd.prog w = .ok (.pointer (some ⟨0, 3, none⟩)) w := fun w => idx (g := 0) (off := 0) Tryd.underlying119 (s := 3) (by kernel_rfl) .u8 1 w (by decide)
  go_enter Tryd.func31, Tryd.ntmps31
  go_wp2_with (first | (go_at_call 41; refine (first_any S _ ho _ (T.below HB)).mono ?_; unfold firstV; rintro e v1 ⟨rfl, hb1⟩) | (go_at_call 42; refine (info_of n X 1 L c hX hF hL hc _ ((T.below HB).below hb1) hlt.out).mono ?_; rintro e v2 ⟨rfl, hb2⟩; have T2 := ((T.below HB).below hb1).below hb2; replace hb2 := hb1.trans (hb2.mono hb1.size); have c0 : v2.cell? ⟨w.heap.size, 0, none⟩ = some (.string S) := own_cell hb2 0; have c1 : v2.cell? ⟨w.heap.size, 1, none⟩ = some (.int .i64 A) := own_cell hb2 1; have y5 : v2.cell? ⟨0, 5, none⟩ = some (.int .i64 0) := T2.ly 5 (by decide); replace hb2 := below_own hb2; clear T2) | (go_at_call 43; refine (held_any n 1 _ hlt.out (by decide)).mono ?_; rw [hl.out]; rintro e v3 ⟨rfl, rfl⟩))
  go_quiet (fail)
  go_wp2
  go_ret2
  exact ⟨rfl, below_drewN hb2⟩
theorem enc_ok1 (S : ByteArray) (A : Int) (n l : Nat) (X : ByteArray) (L c : Nat) (ho : Hid (opOf S = some n)) (hX : Hid (nm n = X)) (hF : Hid (fm n = 1)) (hL : Hid (lay (fm n * 3) = L)) (hc : Hid (cyc n = c)) (hl : Hid (held n 1 = l)) (h : ¬ A < l) (h' : ¬ 0 < A) (w : World) (T : Tabs w) :
    Calls Tryd.prog 31 #[.agg #[.string S, .int .i64 A]] w fun e w' => ∃ b, w.heap.size ≤ b ∧ e = .returned (.tuple #[.slice (some ⟨b, 0, none⟩) 1 1, .int .i64 0]) ∧ w'.heap[b]? = some (.cells (([(n : Int)] : List Int).map (Value.int .u8)).toArray 5) ∧ Below w.heap.size w w' := by
  have HB : Below w.heap.size w (w.alloc (.cells #[.string S, .int .i64 A] 87)) := (Below.refl _ _).alloc (Nat.le_refl _) _
  have hlt : Hid (n < 256) := (opOf_lt ho.out).1
  have hfd := fld1 X 1 L c
  have i5 : ∀ w, (Instr.indexAt 119 (.pointer (some ⟨0, 0, none⟩)) (.int .u8 1)).run Tryd.prog w = .ok (.pointer (some ⟨0, 3, none⟩)) w := fun w => idx (g := 0) (off := 0) Tryd.underlying119 (s := 3) (by kernel_rfl) .u8 1 w (by decide)
  have hl0 : (0 : Int) ≤ l := by omega
  go_enter Tryd.func31, Tryd.ntmps31
  go_wp2_with (first | (go_at_call 41; refine (first_any S _ ho _ (T.below HB)).mono ?_; unfold firstV; rintro e v1 ⟨rfl, hb1⟩) | (go_at_call 42; refine (info_of n X 1 L c hX hF hL hc _ ((T.below HB).below hb1) hlt.out).mono ?_; rintro e v2 ⟨rfl, hb2⟩; have T2 := ((T.below HB).below hb1).below hb2; replace hb2 := hb1.trans (hb2.mono hb1.size); have c0 : v2.cell? ⟨w.heap.size, 0, none⟩ = some (.string S) := own_cell hb2 0; have c1 : v2.cell? ⟨w.heap.size, 1, none⟩ = some (.int .i64 A) := own_cell hb2 1; have y5 : v2.cell? ⟨0, 5, none⟩ = some (.int .i64 0) := T2.ly 5 (by decide); replace hb2 := below_own hb2; clear T2) | (go_at_call 43; refine (held_any n 1 _ hlt.out (by decide)).mono ?_; rw [hl.out]; rintro e v3 ⟨rfl, rfl⟩))
  go_quiet (fail)
  go_wp2_with (first | fail)
  go_ret2
  exact ⟨_, hb2.size, rfl, alloc_last _ _, (below_drewN hb2).alloc hb2.size _⟩

theorem enc_lo2 (S : ByteArray) (A : Int) (n l : Nat) (X : ByteArray) (L c : Nat) (ho : Hid (opOf S = some n)) (hX : Hid (nm n = X)) (hF : Hid (fm n = 2)) (hL : Hid (lay (fm n * 3) = L)) (hc : Hid (cyc n = c)) (hl : Hid (held n 2 = l)) (h : A < l) (w : World) (T : Tabs w) :
    Calls Tryd.prog 31 #[.agg #[.string S, .int .i64 A]] w fun e w' => e = .returned (.tuple #[.slice none 0 0, .int .i64 21]) ∧ Below w.heap.size w w' := by
  have HB : Below w.heap.size w (w.alloc (.cells #[.string S, .int .i64 A] 87)) := (Below.refl _ _).alloc (Nat.le_refl _) _
  have hlt : Hid (n < 256) := (opOf_lt ho.out).1
  have hfd := fld1 X 2 L c
  have i5 : ∀ w, (Instr.indexAt 119 (.pointer (some ⟨0, 0, none⟩)) (.int .u8 2)).run Tryd.prog w = .ok (.pointer (some ⟨0, 6, none⟩)) w := fun w => idx (g := 0) (off := 0) Tryd.underlying119 (s := 3) (by kernel_rfl) .u8 2 w (by decide)
  go_enter Tryd.func31, Tryd.ntmps31
  go_wp2_with (first | (go_at_call 41; refine (first_any S _ ho _ (T.below HB)).mono ?_; unfold firstV; rintro e v1 ⟨rfl, hb1⟩) | (go_at_call 42; refine (info_of n X 2 L c hX hF hL hc _ ((T.below HB).below hb1) hlt.out).mono ?_; rintro e v2 ⟨rfl, hb2⟩; have T2 := ((T.below HB).below hb1).below hb2; replace hb2 := hb1.trans (hb2.mono hb1.size); have c0 : v2.cell? ⟨w.heap.size, 0, none⟩ = some (.string S) := own_cell hb2 0; have c1 : v2.cell? ⟨w.heap.size, 1, none⟩ = some (.int .i64 A) := own_cell hb2 1; have y5 : v2.cell? ⟨0, 8, none⟩ = some (.int .i64 15) := T2.ly 8 (by decide); replace hb2 := below_own hb2; clear T2) | (go_at_call 43; refine (held_any n 2 _ hlt.out (by decide)).mono ?_; rw [hl.out]; rintro e v3 ⟨rfl, rfl⟩))
  go_quiet (fail)
  go_wp2
  go_ret2
  exact ⟨rfl, below_drewN hb2⟩
theorem enc_hi2 (S : ByteArray) (A : Int) (n l : Nat) (X : ByteArray) (L c : Nat) (ho : Hid (opOf S = some n)) (hX : Hid (nm n = X)) (hF : Hid (fm n = 2)) (hL : Hid (lay (fm n * 3) = L)) (hc : Hid (cyc n = c)) (hl : Hid (held n 2 = l)) (h : ¬ A < l) (h' : 15 < A) (w : World) (T : Tabs w) :
    Calls Tryd.prog 31 #[.agg #[.string S, .int .i64 A]] w fun e w' => e = .returned (.tuple #[.slice none 0 0, .int .i64 21]) ∧ Below w.heap.size w w' := by
  have HB : Below w.heap.size w (w.alloc (.cells #[.string S, .int .i64 A] 87)) := (Below.refl _ _).alloc (Nat.le_refl _) _
  have hlt : Hid (n < 256) := (opOf_lt ho.out).1
  have hfd := fld1 X 2 L c
  have i5 : ∀ w, (Instr.indexAt 119 (.pointer (some ⟨0, 0, none⟩)) (.int .u8 2)).run Tryd.prog w = .ok (.pointer (some ⟨0, 6, none⟩)) w := fun w => idx (g := 0) (off := 0) Tryd.underlying119 (s := 3) (by kernel_rfl) .u8 2 w (by decide)
  go_enter Tryd.func31, Tryd.ntmps31
  go_wp2_with (first | (go_at_call 41; refine (first_any S _ ho _ (T.below HB)).mono ?_; unfold firstV; rintro e v1 ⟨rfl, hb1⟩) | (go_at_call 42; refine (info_of n X 2 L c hX hF hL hc _ ((T.below HB).below hb1) hlt.out).mono ?_; rintro e v2 ⟨rfl, hb2⟩; have T2 := ((T.below HB).below hb1).below hb2; replace hb2 := hb1.trans (hb2.mono hb1.size); have c0 : v2.cell? ⟨w.heap.size, 0, none⟩ = some (.string S) := own_cell hb2 0; have c1 : v2.cell? ⟨w.heap.size, 1, none⟩ = some (.int .i64 A) := own_cell hb2 1; have y5 : v2.cell? ⟨0, 8, none⟩ = some (.int .i64 15) := T2.ly 8 (by decide); replace hb2 := below_own hb2; clear T2) | (go_at_call 43; refine (held_any n 2 _ hlt.out (by decide)).mono ?_; rw [hl.out]; rintro e v3 ⟨rfl, rfl⟩))
  go_quiet (fail)
  go_wp2
  go_ret2
  exact ⟨rfl, below_drewN hb2⟩
theorem enc_ok2 (S : ByteArray) (A : Int) (n l : Nat) (X : ByteArray) (L c : Nat) (ho : Hid (opOf S = some n)) (hX : Hid (nm n = X)) (hF : Hid (fm n = 2)) (hL : Hid (lay (fm n * 3) = L)) (hc : Hid (cyc n = c)) (hl : Hid (held n 2 = l)) (h : ¬ A < l) (h' : ¬ 15 < A) (h3 : (n : Int) + (A - l) < 256) (w : World) (T : Tabs w) :
    Calls Tryd.prog 31 #[.agg #[.string S, .int .i64 A]] w fun e w' => ∃ b, w.heap.size ≤ b ∧ e = .returned (.tuple #[.slice (some ⟨b, 0, none⟩) 1 1, .int .i64 0]) ∧ w'.heap[b]? = some (.cells (([(n : Int) + (A - l)] : List Int).map (Value.int .u8)).toArray 5) ∧ Below w.heap.size w w' := by
  have HB : Below w.heap.size w (w.alloc (.cells #[.string S, .int .i64 A] 87)) := (Below.refl _ _).alloc (Nat.le_refl _) _
  have hlt : Hid (n < 256) := (opOf_lt ho.out).1
  have hfd := fld1 X 2 L c
  have i5 : ∀ w, (Instr.indexAt 119 (.pointer (some ⟨0, 0, none⟩)) (.int .u8 2)).run Tryd.prog w = .ok (.pointer (some ⟨0, 6, none⟩)) w := fun w => idx (g := 0) (off := 0) Tryd.underlying119 (s := 3) (by kernel_rfl) .u8 2 w (by decide)
  have hl0 : (0 : Int) ≤ l := by omega
  go_enter Tryd.func31, Tryd.ntmps31
  go_wp2_with (first | (go_at_call 41; refine (first_any S _ ho _ (T.below HB)).mono ?_; unfold firstV; rintro e v1 ⟨rfl, hb1⟩) | (go_at_call 42; refine (info_of n X 2 L c hX hF hL hc _ ((T.below HB).below hb1) hlt.out).mono ?_; rintro e v2 ⟨rfl, hb2⟩; have T2 := ((T.below HB).below hb1).below hb2; replace hb2 := hb1.trans (hb2.mono hb1.size); have c0 : v2.cell? ⟨w.heap.size, 0, none⟩ = some (.string S) := own_cell hb2 0; have c1 : v2.cell? ⟨w.heap.size, 1, none⟩ = some (.int .i64 A) := own_cell hb2 1; have y5 : v2.cell? ⟨0, 8, none⟩ = some (.int .i64 15) := T2.ly 8 (by decide); replace hb2 := below_own hb2; clear T2) | (go_at_call 43; refine (held_any n 2 _ hlt.out (by decide)).mono ?_; rw [hl.out]; rintro e v3 ⟨rfl, rfl⟩))
  go_quiet (fail)
  go_wp2_with (first | fail)
  go_ret2
  exact ⟨_, hb2.size, rfl, alloc_last _ _, (below_drewN hb2).alloc hb2.size _⟩

theorem enc_lo3 (S : ByteArray) (A : Int) (n l : Nat) (X : ByteArray) (L c : Nat) (ho : Hid (opOf S = some n)) (hX : Hid (nm n = X)) (hF : Hid (fm n = 3)) (hL : Hid (lay (fm n * 3) = L)) (hc : Hid (cyc n = c)) (hl : Hid (held n 3 = l)) (h : A < l) (w : World) (T : Tabs w) :
    Calls Tryd.prog 31 #[.agg #[.string S, .int .i64 A]] w fun e w' => e = .returned (.tuple #[.slice none 0 0, .int .i64 21]) ∧ Below w.heap.size w w' := by
  have HB : Below w.heap.size w (w.alloc (.cells #[.string S, .int .i64 A] 87)) := (Below.refl _ _).alloc (Nat.le_refl _) _
  have hlt : Hid (n < 256) := (opOf_lt ho.out).1
  have hfd := fld1 X 3 L c
  have i5 : ∀ w, (Instr.indexAt 119 (.pointer (some ⟨0, 0, none⟩)) (.int .u8 3)).run Tryd.prog w = .ok (.pointer (some ⟨0, 9, none⟩)) w := fun w => idx (g := 0) (off := 0) Tryd.underlying119 (s := 3) (by kernel_rfl) .u8 3 w (by decide)
  go_enter Tryd.func31, Tryd.ntmps31
  go_wp2_with (first | (go_at_call 41; refine (first_any S _ ho _ (T.below HB)).mono ?_; unfold firstV; rintro e v1 ⟨rfl, hb1⟩) | (go_at_call 42; refine (info_of n X 3 L c hX hF hL hc _ ((T.below HB).below hb1) hlt.out).mono ?_; rintro e v2 ⟨rfl, hb2⟩; have T2 := ((T.below HB).below hb1).below hb2; replace hb2 := hb1.trans (hb2.mono hb1.size); have c0 : v2.cell? ⟨w.heap.size, 0, none⟩ = some (.string S) := own_cell hb2 0; have c1 : v2.cell? ⟨w.heap.size, 1, none⟩ = some (.int .i64 A) := own_cell hb2 1; have y5 : v2.cell? ⟨0, 11, none⟩ = some (.int .i64 7) := T2.ly 11 (by decide); replace hb2 := below_own hb2; clear T2) | (go_at_call 43; refine (held_any n 3 _ hlt.out (by decide)).mono ?_; rw [hl.out]; rintro e v3 ⟨rfl, rfl⟩))
  go_quiet (fail)
  go_wp2
  go_ret2
  exact ⟨rfl, below_drewN hb2⟩
theorem enc_hi3 (S : ByteArray) (A : Int) (n l : Nat) (X : ByteArray) (L c : Nat) (ho : Hid (opOf S = some n)) (hX : Hid (nm n = X)) (hF : Hid (fm n = 3)) (hL : Hid (lay (fm n * 3) = L)) (hc : Hid (cyc n = c)) (hl : Hid (held n 3 = l)) (h : ¬ A < l) (h' : 7 < A) (w : World) (T : Tabs w) :
    Calls Tryd.prog 31 #[.agg #[.string S, .int .i64 A]] w fun e w' => e = .returned (.tuple #[.slice none 0 0, .int .i64 21]) ∧ Below w.heap.size w w' := by
  have HB : Below w.heap.size w (w.alloc (.cells #[.string S, .int .i64 A] 87)) := (Below.refl _ _).alloc (Nat.le_refl _) _
  have hlt : Hid (n < 256) := (opOf_lt ho.out).1
  have hfd := fld1 X 3 L c
  have i5 : ∀ w, (Instr.indexAt 119 (.pointer (some ⟨0, 0, none⟩)) (.int .u8 3)).run Tryd.prog w = .ok (.pointer (some ⟨0, 9, none⟩)) w := fun w => idx (g := 0) (off := 0) Tryd.underlying119 (s := 3) (by kernel_rfl) .u8 3 w (by decide)
  go_enter Tryd.func31, Tryd.ntmps31
  go_wp2_with (first | (go_at_call 41; refine (first_any S _ ho _ (T.below HB)).mono ?_; unfold firstV; rintro e v1 ⟨rfl, hb1⟩) | (go_at_call 42; refine (info_of n X 3 L c hX hF hL hc _ ((T.below HB).below hb1) hlt.out).mono ?_; rintro e v2 ⟨rfl, hb2⟩; have T2 := ((T.below HB).below hb1).below hb2; replace hb2 := hb1.trans (hb2.mono hb1.size); have c0 : v2.cell? ⟨w.heap.size, 0, none⟩ = some (.string S) := own_cell hb2 0; have c1 : v2.cell? ⟨w.heap.size, 1, none⟩ = some (.int .i64 A) := own_cell hb2 1; have y5 : v2.cell? ⟨0, 11, none⟩ = some (.int .i64 7) := T2.ly 11 (by decide); replace hb2 := below_own hb2; clear T2) | (go_at_call 43; refine (held_any n 3 _ hlt.out (by decide)).mono ?_; rw [hl.out]; rintro e v3 ⟨rfl, rfl⟩))
  go_quiet (fail)
  go_wp2
  go_ret2
  exact ⟨rfl, below_drewN hb2⟩
theorem enc_ok3 (S : ByteArray) (A : Int) (n l : Nat) (X : ByteArray) (L c : Nat) (ho : Hid (opOf S = some n)) (hX : Hid (nm n = X)) (hF : Hid (fm n = 3)) (hL : Hid (lay (fm n * 3) = L)) (hc : Hid (cyc n = c)) (hl : Hid (held n 3 = l)) (h : ¬ A < l) (h' : ¬ 7 < A) (h3 : (n : Int) + (A - l) < 256) (w : World) (T : Tabs w) :
    Calls Tryd.prog 31 #[.agg #[.string S, .int .i64 A]] w fun e w' => ∃ b, w.heap.size ≤ b ∧ e = .returned (.tuple #[.slice (some ⟨b, 0, none⟩) 1 1, .int .i64 0]) ∧ w'.heap[b]? = some (.cells (([(n : Int) + (A - l)] : List Int).map (Value.int .u8)).toArray 5) ∧ Below w.heap.size w w' := by
  have HB : Below w.heap.size w (w.alloc (.cells #[.string S, .int .i64 A] 87)) := (Below.refl _ _).alloc (Nat.le_refl _) _
  have hlt : Hid (n < 256) := (opOf_lt ho.out).1
  have hfd := fld1 X 3 L c
  have i5 : ∀ w, (Instr.indexAt 119 (.pointer (some ⟨0, 0, none⟩)) (.int .u8 3)).run Tryd.prog w = .ok (.pointer (some ⟨0, 9, none⟩)) w := fun w => idx (g := 0) (off := 0) Tryd.underlying119 (s := 3) (by kernel_rfl) .u8 3 w (by decide)
  have hl0 : (0 : Int) ≤ l := by omega
  go_enter Tryd.func31, Tryd.ntmps31
  go_wp2_with (first | (go_at_call 41; refine (first_any S _ ho _ (T.below HB)).mono ?_; unfold firstV; rintro e v1 ⟨rfl, hb1⟩) | (go_at_call 42; refine (info_of n X 3 L c hX hF hL hc _ ((T.below HB).below hb1) hlt.out).mono ?_; rintro e v2 ⟨rfl, hb2⟩; have T2 := ((T.below HB).below hb1).below hb2; replace hb2 := hb1.trans (hb2.mono hb1.size); have c0 : v2.cell? ⟨w.heap.size, 0, none⟩ = some (.string S) := own_cell hb2 0; have c1 : v2.cell? ⟨w.heap.size, 1, none⟩ = some (.int .i64 A) := own_cell hb2 1; have y5 : v2.cell? ⟨0, 11, none⟩ = some (.int .i64 7) := T2.ly 11 (by decide); replace hb2 := below_own hb2; clear T2) | (go_at_call 43; refine (held_any n 3 _ hlt.out (by decide)).mono ?_; rw [hl.out]; rintro e v3 ⟨rfl, rfl⟩))
  go_quiet (fail)
  go_wp2_with (first | fail)
  go_ret2
  exact ⟨_, hb2.size, rfl, alloc_last _ _, (below_drewN hb2).alloc hb2.size _⟩

theorem enc_lo4 (S : ByteArray) (A : Int) (n l : Nat) (X : ByteArray) (L c : Nat) (ho : Hid (opOf S = some n)) (hX : Hid (nm n = X)) (hF : Hid (fm n = 4)) (hL : Hid (lay (fm n * 3) = L)) (hc : Hid (cyc n = c)) (hl : Hid (held n 4 = l)) (h : A < l) (w : World) (T : Tabs w) :
    Calls Tryd.prog 31 #[.agg #[.string S, .int .i64 A]] w fun e w' => e = .returned (.tuple #[.slice none 0 0, .int .i64 21]) ∧ Below w.heap.size w w' := by
  have HB : Below w.heap.size w (w.alloc (.cells #[.string S, .int .i64 A] 87)) := (Below.refl _ _).alloc (Nat.le_refl _) _
  have hlt : Hid (n < 256) := (opOf_lt ho.out).1
  have hfd := fld1 X 4 L c
  have i5 : ∀ w, (Instr.indexAt 119 (.pointer (some ⟨0, 0, none⟩)) (.int .u8 4)).run Tryd.prog w = .ok (.pointer (some ⟨0, 12, none⟩)) w := fun w => idx (g := 0) (off := 0) Tryd.underlying119 (s := 3) (by kernel_rfl) .u8 4 w (by decide)
  go_enter Tryd.func31, Tryd.ntmps31
  go_wp2_with (first | (go_at_call 41; refine (first_any S _ ho _ (T.below HB)).mono ?_; unfold firstV; rintro e v1 ⟨rfl, hb1⟩) | (go_at_call 42; refine (info_of n X 4 L c hX hF hL hc _ ((T.below HB).below hb1) hlt.out).mono ?_; rintro e v2 ⟨rfl, hb2⟩; have T2 := ((T.below HB).below hb1).below hb2; replace hb2 := hb1.trans (hb2.mono hb1.size); have c0 : v2.cell? ⟨w.heap.size, 0, none⟩ = some (.string S) := own_cell hb2 0; have c1 : v2.cell? ⟨w.heap.size, 1, none⟩ = some (.int .i64 A) := own_cell hb2 1; have y5 : v2.cell? ⟨0, 14, none⟩ = some (.int .i64 255) := T2.ly 14 (by decide); replace hb2 := below_own hb2; clear T2) | (go_at_call 43; refine (held_any n 4 _ hlt.out (by decide)).mono ?_; rw [hl.out]; rintro e v3 ⟨rfl, rfl⟩))
  go_quiet (fail)
  go_wp2
  go_ret2
  exact ⟨rfl, below_drewN hb2⟩
theorem enc_hi4 (S : ByteArray) (A : Int) (n l : Nat) (X : ByteArray) (L c : Nat) (ho : Hid (opOf S = some n)) (hX : Hid (nm n = X)) (hF : Hid (fm n = 4)) (hL : Hid (lay (fm n * 3) = L)) (hc : Hid (cyc n = c)) (hl : Hid (held n 4 = l)) (h : ¬ A < l) (h' : 255 < A) (w : World) (T : Tabs w) :
    Calls Tryd.prog 31 #[.agg #[.string S, .int .i64 A]] w fun e w' => e = .returned (.tuple #[.slice none 0 0, .int .i64 21]) ∧ Below w.heap.size w w' := by
  have HB : Below w.heap.size w (w.alloc (.cells #[.string S, .int .i64 A] 87)) := (Below.refl _ _).alloc (Nat.le_refl _) _
  have hlt : Hid (n < 256) := (opOf_lt ho.out).1
  have hfd := fld1 X 4 L c
  have i5 : ∀ w, (Instr.indexAt 119 (.pointer (some ⟨0, 0, none⟩)) (.int .u8 4)).run Tryd.prog w = .ok (.pointer (some ⟨0, 12, none⟩)) w := fun w => idx (g := 0) (off := 0) Tryd.underlying119 (s := 3) (by kernel_rfl) .u8 4 w (by decide)
  go_enter Tryd.func31, Tryd.ntmps31
  go_wp2_with (first | (go_at_call 41; refine (first_any S _ ho _ (T.below HB)).mono ?_; unfold firstV; rintro e v1 ⟨rfl, hb1⟩) | (go_at_call 42; refine (info_of n X 4 L c hX hF hL hc _ ((T.below HB).below hb1) hlt.out).mono ?_; rintro e v2 ⟨rfl, hb2⟩; have T2 := ((T.below HB).below hb1).below hb2; replace hb2 := hb1.trans (hb2.mono hb1.size); have c0 : v2.cell? ⟨w.heap.size, 0, none⟩ = some (.string S) := own_cell hb2 0; have c1 : v2.cell? ⟨w.heap.size, 1, none⟩ = some (.int .i64 A) := own_cell hb2 1; have y5 : v2.cell? ⟨0, 14, none⟩ = some (.int .i64 255) := T2.ly 14 (by decide); replace hb2 := below_own hb2; clear T2) | (go_at_call 43; refine (held_any n 4 _ hlt.out (by decide)).mono ?_; rw [hl.out]; rintro e v3 ⟨rfl, rfl⟩))
  go_quiet (fail)
  go_wp2
  go_ret2
  exact ⟨rfl, below_drewN hb2⟩
theorem enc_ok4 (S : ByteArray) (A : Int) (n l : Nat) (X : ByteArray) (L c : Nat) (ho : Hid (opOf S = some n)) (hX : Hid (nm n = X)) (hF : Hid (fm n = 4)) (hL : Hid (lay (fm n * 3) = L)) (hc : Hid (cyc n = c)) (hl : Hid (held n 4 = l)) (h : ¬ A < l) (h' : ¬ 255 < A) (w : World) (T : Tabs w) :
    Calls Tryd.prog 31 #[.agg #[.string S, .int .i64 A]] w fun e w' => ∃ b, w.heap.size ≤ b ∧ e = .returned (.tuple #[.slice (some ⟨b, 0, none⟩) 2 2, .int .i64 0]) ∧ w'.heap[b]? = some (.cells (([(n : Int), A] : List Int).map (Value.int .u8)).toArray 5) ∧ Below w.heap.size w w' := by
  have HB : Below w.heap.size w (w.alloc (.cells #[.string S, .int .i64 A] 87)) := (Below.refl _ _).alloc (Nat.le_refl _) _
  have hlt : Hid (n < 256) := (opOf_lt ho.out).1
  have hfd := fld1 X 4 L c
  have i5 : ∀ w, (Instr.indexAt 119 (.pointer (some ⟨0, 0, none⟩)) (.int .u8 4)).run Tryd.prog w = .ok (.pointer (some ⟨0, 12, none⟩)) w := fun w => idx (g := 0) (off := 0) Tryd.underlying119 (s := 3) (by kernel_rfl) .u8 4 w (by decide)
  have hl0 : (0 : Int) ≤ l := by omega
  go_enter Tryd.func31, Tryd.ntmps31
  go_wp2_with (first | (go_at_call 41; refine (first_any S _ ho _ (T.below HB)).mono ?_; unfold firstV; rintro e v1 ⟨rfl, hb1⟩) | (go_at_call 42; refine (info_of n X 4 L c hX hF hL hc _ ((T.below HB).below hb1) hlt.out).mono ?_; rintro e v2 ⟨rfl, hb2⟩; have T2 := ((T.below HB).below hb1).below hb2; replace hb2 := hb1.trans (hb2.mono hb1.size); have c0 : v2.cell? ⟨w.heap.size, 0, none⟩ = some (.string S) := own_cell hb2 0; have c1 : v2.cell? ⟨w.heap.size, 1, none⟩ = some (.int .i64 A) := own_cell hb2 1; have y5 : v2.cell? ⟨0, 14, none⟩ = some (.int .i64 255) := T2.ly 14 (by decide); replace hb2 := below_own hb2; clear T2) | (go_at_call 43; refine (held_any n 4 _ hlt.out (by decide)).mono ?_; rw [hl.out]; rintro e v3 ⟨rfl, rfl⟩))
  go_quiet (fail)
  go_wp2_with (first | fail)
  go_ret2
  exact ⟨_, hb2.size, rfl, alloc_last _ _, (below_drewN hb2).alloc hb2.size _⟩

theorem enc_lo5 (S : ByteArray) (A : Int) (n l : Nat) (X : ByteArray) (L c : Nat) (ho : Hid (opOf S = some n)) (hX : Hid (nm n = X)) (hF : Hid (fm n = 5)) (hL : Hid (lay (fm n * 3) = L)) (hc : Hid (cyc n = c)) (hl : Hid (held n 5 = l)) (h : A < l) (w : World) (T : Tabs w) :
    Calls Tryd.prog 31 #[.agg #[.string S, .int .i64 A]] w fun e w' => e = .returned (.tuple #[.slice none 0 0, .int .i64 21]) ∧ Below w.heap.size w w' := by
  have HB : Below w.heap.size w (w.alloc (.cells #[.string S, .int .i64 A] 87)) := (Below.refl _ _).alloc (Nat.le_refl _) _
  have hlt : Hid (n < 256) := (opOf_lt ho.out).1
  have hfd := fld1 X 5 L c
  have i5 : ∀ w, (Instr.indexAt 119 (.pointer (some ⟨0, 0, none⟩)) (.int .u8 5)).run Tryd.prog w = .ok (.pointer (some ⟨0, 15, none⟩)) w := fun w => idx (g := 0) (off := 0) Tryd.underlying119 (s := 3) (by kernel_rfl) .u8 5 w (by decide)
  go_enter Tryd.func31, Tryd.ntmps31
  go_wp2_with (first | (go_at_call 41; refine (first_any S _ ho _ (T.below HB)).mono ?_; unfold firstV; rintro e v1 ⟨rfl, hb1⟩) | (go_at_call 42; refine (info_of n X 5 L c hX hF hL hc _ ((T.below HB).below hb1) hlt.out).mono ?_; rintro e v2 ⟨rfl, hb2⟩; have T2 := ((T.below HB).below hb1).below hb2; replace hb2 := hb1.trans (hb2.mono hb1.size); have c0 : v2.cell? ⟨w.heap.size, 0, none⟩ = some (.string S) := own_cell hb2 0; have c1 : v2.cell? ⟨w.heap.size, 1, none⟩ = some (.int .i64 A) := own_cell hb2 1; have y5 : v2.cell? ⟨0, 17, none⟩ = some (.int .i64 255) := T2.ly 17 (by decide); replace hb2 := below_own hb2; clear T2) | (go_at_call 43; refine (held_any n 5 _ hlt.out (by decide)).mono ?_; rw [hl.out]; rintro e v3 ⟨rfl, rfl⟩))
  go_quiet (fail)
  go_wp2
  go_ret2
  exact ⟨rfl, below_drewN hb2⟩
theorem enc_hi5 (S : ByteArray) (A : Int) (n l : Nat) (X : ByteArray) (L c : Nat) (ho : Hid (opOf S = some n)) (hX : Hid (nm n = X)) (hF : Hid (fm n = 5)) (hL : Hid (lay (fm n * 3) = L)) (hc : Hid (cyc n = c)) (hl : Hid (held n 5 = l)) (h : ¬ A < l) (h' : 255 < A) (w : World) (T : Tabs w) :
    Calls Tryd.prog 31 #[.agg #[.string S, .int .i64 A]] w fun e w' => e = .returned (.tuple #[.slice none 0 0, .int .i64 21]) ∧ Below w.heap.size w w' := by
  have HB : Below w.heap.size w (w.alloc (.cells #[.string S, .int .i64 A] 87)) := (Below.refl _ _).alloc (Nat.le_refl _) _
  have hlt : Hid (n < 256) := (opOf_lt ho.out).1
  have hfd := fld1 X 5 L c
  have i5 : ∀ w, (Instr.indexAt 119 (.pointer (some ⟨0, 0, none⟩)) (.int .u8 5)).run Tryd.prog w = .ok (.pointer (some ⟨0, 15, none⟩)) w := fun w => idx (g := 0) (off := 0) Tryd.underlying119 (s := 3) (by kernel_rfl) .u8 5 w (by decide)
  go_enter Tryd.func31, Tryd.ntmps31
  go_wp2_with (first | (go_at_call 41; refine (first_any S _ ho _ (T.below HB)).mono ?_; unfold firstV; rintro e v1 ⟨rfl, hb1⟩) | (go_at_call 42; refine (info_of n X 5 L c hX hF hL hc _ ((T.below HB).below hb1) hlt.out).mono ?_; rintro e v2 ⟨rfl, hb2⟩; have T2 := ((T.below HB).below hb1).below hb2; replace hb2 := hb1.trans (hb2.mono hb1.size); have c0 : v2.cell? ⟨w.heap.size, 0, none⟩ = some (.string S) := own_cell hb2 0; have c1 : v2.cell? ⟨w.heap.size, 1, none⟩ = some (.int .i64 A) := own_cell hb2 1; have y5 : v2.cell? ⟨0, 17, none⟩ = some (.int .i64 255) := T2.ly 17 (by decide); replace hb2 := below_own hb2; clear T2) | (go_at_call 43; refine (held_any n 5 _ hlt.out (by decide)).mono ?_; rw [hl.out]; rintro e v3 ⟨rfl, rfl⟩))
  go_quiet (fail)
  go_wp2
  go_ret2
  exact ⟨rfl, below_drewN hb2⟩
theorem enc_ok5 (S : ByteArray) (A : Int) (n l : Nat) (X : ByteArray) (L c : Nat) (ho : Hid (opOf S = some n)) (hX : Hid (nm n = X)) (hF : Hid (fm n = 5)) (hL : Hid (lay (fm n * 3) = L)) (hc : Hid (cyc n = c)) (hl : Hid (held n 5 = l)) (h : ¬ A < l) (h' : ¬ 255 < A) (w : World) (T : Tabs w) :
    Calls Tryd.prog 31 #[.agg #[.string S, .int .i64 A]] w fun e w' => ∃ b, w.heap.size ≤ b ∧ e = .returned (.tuple #[.slice (some ⟨b, 0, none⟩) 2 2, .int .i64 0]) ∧ w'.heap[b]? = some (.cells (([(n : Int), A] : List Int).map (Value.int .u8)).toArray 5) ∧ Below w.heap.size w w' := by
  have HB : Below w.heap.size w (w.alloc (.cells #[.string S, .int .i64 A] 87)) := (Below.refl _ _).alloc (Nat.le_refl _) _
  have hlt : Hid (n < 256) := (opOf_lt ho.out).1
  have hfd := fld1 X 5 L c
  have i5 : ∀ w, (Instr.indexAt 119 (.pointer (some ⟨0, 0, none⟩)) (.int .u8 5)).run Tryd.prog w = .ok (.pointer (some ⟨0, 15, none⟩)) w := fun w => idx (g := 0) (off := 0) Tryd.underlying119 (s := 3) (by kernel_rfl) .u8 5 w (by decide)
  have hl0 : (0 : Int) ≤ l := by omega
  go_enter Tryd.func31, Tryd.ntmps31
  go_wp2_with (first | (go_at_call 41; refine (first_any S _ ho _ (T.below HB)).mono ?_; unfold firstV; rintro e v1 ⟨rfl, hb1⟩) | (go_at_call 42; refine (info_of n X 5 L c hX hF hL hc _ ((T.below HB).below hb1) hlt.out).mono ?_; rintro e v2 ⟨rfl, hb2⟩; have T2 := ((T.below HB).below hb1).below hb2; replace hb2 := hb1.trans (hb2.mono hb1.size); have c0 : v2.cell? ⟨w.heap.size, 0, none⟩ = some (.string S) := own_cell hb2 0; have c1 : v2.cell? ⟨w.heap.size, 1, none⟩ = some (.int .i64 A) := own_cell hb2 1; have y5 : v2.cell? ⟨0, 17, none⟩ = some (.int .i64 255) := T2.ly 17 (by decide); replace hb2 := below_own hb2; clear T2) | (go_at_call 43; refine (held_any n 5 _ hlt.out (by decide)).mono ?_; rw [hl.out]; rintro e v3 ⟨rfl, rfl⟩))
  go_quiet (fail)
  go_wp2_with (first | fail)
  go_ret2
  exact ⟨_, hb2.size, rfl, alloc_last _ _, (below_drewN hb2).alloc hb2.size _⟩

theorem enc_lo6 (S : ByteArray) (A : Int) (n l : Nat) (X : ByteArray) (L c : Nat) (ho : Hid (opOf S = some n)) (hX : Hid (nm n = X)) (hF : Hid (fm n = 6)) (hL : Hid (lay (fm n * 3) = L)) (hc : Hid (cyc n = c)) (hl : Hid (held n 6 = l)) (h : A < l) (w : World) (T : Tabs w) :
    Calls Tryd.prog 31 #[.agg #[.string S, .int .i64 A]] w fun e w' => e = .returned (.tuple #[.slice none 0 0, .int .i64 21]) ∧ Below w.heap.size w w' := by
  have HB : Below w.heap.size w (w.alloc (.cells #[.string S, .int .i64 A] 87)) := (Below.refl _ _).alloc (Nat.le_refl _) _
  have hlt : Hid (n < 256) := (opOf_lt ho.out).1
  have hfd := fld1 X 6 L c
  have i5 : ∀ w, (Instr.indexAt 119 (.pointer (some ⟨0, 0, none⟩)) (.int .u8 6)).run Tryd.prog w = .ok (.pointer (some ⟨0, 18, none⟩)) w := fun w => idx (g := 0) (off := 0) Tryd.underlying119 (s := 3) (by kernel_rfl) .u8 6 w (by decide)
  go_enter Tryd.func31, Tryd.ntmps31
  go_wp2_with (first | (go_at_call 41; refine (first_any S _ ho _ (T.below HB)).mono ?_; unfold firstV; rintro e v1 ⟨rfl, hb1⟩) | (go_at_call 42; refine (info_of n X 6 L c hX hF hL hc _ ((T.below HB).below hb1) hlt.out).mono ?_; rintro e v2 ⟨rfl, hb2⟩; have T2 := ((T.below HB).below hb1).below hb2; replace hb2 := hb1.trans (hb2.mono hb1.size); have c0 : v2.cell? ⟨w.heap.size, 0, none⟩ = some (.string S) := own_cell hb2 0; have c1 : v2.cell? ⟨w.heap.size, 1, none⟩ = some (.int .i64 A) := own_cell hb2 1; have y5 : v2.cell? ⟨0, 20, none⟩ = some (.int .i64 65535) := T2.ly 20 (by decide); replace hb2 := below_own hb2; clear T2) | (go_at_call 43; refine (held_any n 6 _ hlt.out (by decide)).mono ?_; rw [hl.out]; rintro e v3 ⟨rfl, rfl⟩))
  go_quiet (fail)
  go_wp2
  go_ret2
  exact ⟨rfl, below_drewN hb2⟩
theorem enc_hi6 (S : ByteArray) (A : Int) (n l : Nat) (X : ByteArray) (L c : Nat) (ho : Hid (opOf S = some n)) (hX : Hid (nm n = X)) (hF : Hid (fm n = 6)) (hL : Hid (lay (fm n * 3) = L)) (hc : Hid (cyc n = c)) (hl : Hid (held n 6 = l)) (h : ¬ A < l) (h' : 65535 < A) (w : World) (T : Tabs w) :
    Calls Tryd.prog 31 #[.agg #[.string S, .int .i64 A]] w fun e w' => e = .returned (.tuple #[.slice none 0 0, .int .i64 21]) ∧ Below w.heap.size w w' := by
  have HB : Below w.heap.size w (w.alloc (.cells #[.string S, .int .i64 A] 87)) := (Below.refl _ _).alloc (Nat.le_refl _) _
  have hlt : Hid (n < 256) := (opOf_lt ho.out).1
  have hfd := fld1 X 6 L c
  have i5 : ∀ w, (Instr.indexAt 119 (.pointer (some ⟨0, 0, none⟩)) (.int .u8 6)).run Tryd.prog w = .ok (.pointer (some ⟨0, 18, none⟩)) w := fun w => idx (g := 0) (off := 0) Tryd.underlying119 (s := 3) (by kernel_rfl) .u8 6 w (by decide)
  go_enter Tryd.func31, Tryd.ntmps31
  go_wp2_with (first | (go_at_call 41; refine (first_any S _ ho _ (T.below HB)).mono ?_; unfold firstV; rintro e v1 ⟨rfl, hb1⟩) | (go_at_call 42; refine (info_of n X 6 L c hX hF hL hc _ ((T.below HB).below hb1) hlt.out).mono ?_; rintro e v2 ⟨rfl, hb2⟩; have T2 := ((T.below HB).below hb1).below hb2; replace hb2 := hb1.trans (hb2.mono hb1.size); have c0 : v2.cell? ⟨w.heap.size, 0, none⟩ = some (.string S) := own_cell hb2 0; have c1 : v2.cell? ⟨w.heap.size, 1, none⟩ = some (.int .i64 A) := own_cell hb2 1; have y5 : v2.cell? ⟨0, 20, none⟩ = some (.int .i64 65535) := T2.ly 20 (by decide); replace hb2 := below_own hb2; clear T2) | (go_at_call 43; refine (held_any n 6 _ hlt.out (by decide)).mono ?_; rw [hl.out]; rintro e v3 ⟨rfl, rfl⟩))
  go_quiet (fail)
  go_wp2
  go_ret2
  exact ⟨rfl, below_drewN hb2⟩
theorem enc_ok6 (S : ByteArray) (A : Int) (n l : Nat) (X : ByteArray) (L c : Nat) (ho : Hid (opOf S = some n)) (hX : Hid (nm n = X)) (hF : Hid (fm n = 6)) (hL : Hid (lay (fm n * 3) = L)) (hc : Hid (cyc n = c)) (hl : Hid (held n 6 = l)) (h : ¬ A < l) (h' : ¬ 65535 < A) (w : World) (T : Tabs w) :
    Calls Tryd.prog 31 #[.agg #[.string S, .int .i64 A]] w fun e w' => ∃ b, w.heap.size ≤ b ∧ e = .returned (.tuple #[.slice (some ⟨b, 0, none⟩) 3 3, .int .i64 0]) ∧ w'.heap[b]? = some (.cells (([(n : Int), A / 256, A % 256] : List Int).map (Value.int .u8)).toArray 5) ∧ Below w.heap.size w w' := by
  have HB : Below w.heap.size w (w.alloc (.cells #[.string S, .int .i64 A] 87)) := (Below.refl _ _).alloc (Nat.le_refl _) _
  have hlt : Hid (n < 256) := (opOf_lt ho.out).1
  have hfd := fld1 X 6 L c
  have i5 : ∀ w, (Instr.indexAt 119 (.pointer (some ⟨0, 0, none⟩)) (.int .u8 6)).run Tryd.prog w = .ok (.pointer (some ⟨0, 18, none⟩)) w := fun w => idx (g := 0) (off := 0) Tryd.underlying119 (s := 3) (by kernel_rfl) .u8 6 w (by decide)
  have hl0 : (0 : Int) ≤ l := by omega
  go_enter Tryd.func31, Tryd.ntmps31
  go_wp2_with (first | (go_at_call 41; refine (first_any S _ ho _ (T.below HB)).mono ?_; unfold firstV; rintro e v1 ⟨rfl, hb1⟩) | (go_at_call 42; refine (info_of n X 6 L c hX hF hL hc _ ((T.below HB).below hb1) hlt.out).mono ?_; rintro e v2 ⟨rfl, hb2⟩; have T2 := ((T.below HB).below hb1).below hb2; replace hb2 := hb1.trans (hb2.mono hb1.size); have c0 : v2.cell? ⟨w.heap.size, 0, none⟩ = some (.string S) := own_cell hb2 0; have c1 : v2.cell? ⟨w.heap.size, 1, none⟩ = some (.int .i64 A) := own_cell hb2 1; have y5 : v2.cell? ⟨0, 20, none⟩ = some (.int .i64 65535) := T2.ly 20 (by decide); replace hb2 := below_own hb2; clear T2) | (go_at_call 43; refine (held_any n 6 _ hlt.out (by decide)).mono ?_; rw [hl.out]; rintro e v3 ⟨rfl, rfl⟩))
  go_quiet (fail)
  go_wp2_with (first | (go_at_call 44; refine (high_any _ _ (by omega) (by omega)).mono ?_; rintro e v4 ⟨rfl, rfl⟩) | (go_at_call 45; refine (low_any _ _ (by omega) (by omega)).mono ?_; rintro e v4 ⟨rfl, rfl⟩) | fail)
  go_ret2
  exact ⟨_, hb2.size, rfl, alloc_last _ _, (below_drewN hb2).alloc hb2.size _⟩
end Go.Proofs.YthbdpceobnkflaaDoor
