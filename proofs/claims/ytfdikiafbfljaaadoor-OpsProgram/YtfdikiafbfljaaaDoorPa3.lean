/- A line read: Parse; printed and read it is the order, read and printed it is the line. -/
import Derived.Test.YtfdikiafbfljaaaDoorPa2
namespace Go.Proofs.YtfdikiafbfljaaaDoor
open Go Go.RowKit
set_option linter.unusedVariables false
set_option maxHeartbeats 1000000
set_option maxRecDepth 20000

/-- The words of a line, at most five. -/
def wordsB (s : ByteArray) : List ByteArray := Lib.splitB ⟨#[32]⟩ 0 (min 5 (s.size + 1) - 1) s
def wordsL (s : List UInt8) : List (List UInt8) := Lib.splitK [32] 0 (min 5 (s.length + 1) - 1) s
theorem wordsB_data (s : ByteArray) : (wordsB s).map (·.data.toList) = wordsL s.data.toList := by
  unfold wordsB wordsL
  rw [Lib.splitB_data, sz_list]
theorem splitB_sz (k : Nat) : ∀ (s x : ByteArray), x ∈ Lib.splitB ⟨#[32]⟩ 0 k s → x.size ≤ s.size := by
  induction k with
  | zero => intro s x h; simp [Lib.splitB] at h; rw [h]; exact Nat.le_refl _
  | succ k ih =>
    intro s x h
    unfold Lib.splitB at h
    split at h
    · simp at h; rw [h]; exact Nat.le_refl _
    · rcases List.mem_cons.1 h with e | e
      · rw [e, ByteArray.size_extract]; omega
      · have := ih _ x e
        rw [ByteArray.size_extract] at this
        omega
theorem splitB_pos (k : Nat) (s : ByteArray) : 1 ≤ (Lib.splitB ⟨#[32]⟩ 0 k s).length := by
  cases k with
  | zero => exact Nat.le_refl _
  | succ k =>
    unfold Lib.splitB
    split
    · exact Nat.le_refl _
    · simp
theorem lies_cells {w : World} {ws : List ByteArray} {N : Nat} {t : TypeId} : LiesL 1 strC (w.alloc (.cells (Lib.cellsOf ws N) t)) (some ⟨w.heap.size, 0, none⟩) ws := fun j s hj => ⟨w.heap.size, 0, rfl, fun i v hv => by
  have hi : i < 1 := (List.getElem?_eq_some_iff.1 hv).1
  have e : i = 0 := by omega
  subst e
  have ev : v = .string s := by simpa [strC] using hv.symm
  subst ev
  refine Bx.c (t := t) (cs := Lib.cellsOf ws N) (alloc_last' w _) _ _ ?_
  have hl := (List.getElem?_eq_some_iff.1 hj).1
  unfold Lib.cellsOf
  rw [List.getElem?_toArray, Nat.zero_add, Nat.mul_one, Nat.add_zero, List.getElem?_append_left (by simpa using hl), List.getElem?_map, hj]
  rfl⟩
theorem splitN_cell (s : ByteArray) (mx : Int) (w : World) (hm : w.cell? ⟨0, 0, none⟩ = some (.int .i64 mx)) (hs : s.size < 4294967281) :
    Calls Tryd.prog 33 #[.string s, .string ⟨#[32]⟩, .int .i64 5] w fun e w' => e = .returned (.slice (some ⟨w.heap.size, 0, none⟩) (wordsB s).length (min 5 (s.size + 1))) ∧ w' = w.alloc (.cells (Lib.cellsOf (wordsB s) (min 5 (s.size + 1))) 9) :=
  Any.strings_SplitN { Tryd.laysM147 with } Tryd.laysM147.i9 s ⟨#[32]⟩ 5 mx w hs hm (by decide) (by decide) (by decide)
/-- The order of a line. -/
def parseO (s : List UInt8) : Option Od := rdO (wordsL s)
theorem parse_any (s : ByteArray) (w : World) (mx : Int) (hm : w.cell? ⟨0, 0, none⟩ = some (.int .i64 mx)) (hs : s.size < 4294967281) :
    Calls Tryd.prog 16 #[.string s] w fun e w' => e = .returned (.tuple #[.agg (o6 ((parseO s.data.toList).getD od0)), .int .i64 (if (parseO s.data.toList).isSome then 0 else 161)]) ∧ Below w.heap.size w w' := by
  have hB : Hid (Fm w [(w.heap.size, o6 od0, 30)] (w.alloc (.cells #[.int .u8 0, .int .u8 0, .int .u8 0, .int .u8 0, .int .u8 0, .int .u16 0] 30))) := Fm.one w _ _
  have hm1 : (w.alloc (.cells #[.int .u8 0, .int .u8 0, .int .u8 0, .int .u8 0, .int .u8 0, .int .u16 0] 30)).cell? ⟨0, 0, none⟩ = some (.int .i64 mx) := (hB.out.low.cell (World.block_lt_of_cell? w _ hm)).trans hm
  have hS := splitN_cell s mx _ hm1 hs
  generalize hW0 : w.alloc (.cells #[.int .u8 0, .int .u8 0, .int .u8 0, .int .u8 0, .int .u8 0, .int .u16 0] 30) = W0 at hS hB
  have hml : (wordsB s).length ≤ 5 := by have := Lib.splitB_length_le ⟨#[32]⟩ 0 (min 5 (s.size + 1) - 1) s; unfold wordsB; omega
  have hRd := read_any (W0.alloc (.cells (Lib.cellsOf (wordsB s) (min 5 (s.size + 1))) 9)) W0.heap.size 0 (min 5 (s.size + 1)) (wordsB s) (wordsB s).length (rfl : (wordsB s).length = _) (splitB_pos _ _) (by omega) lies_cells
    (fun x hx => Nat.le_trans (splitB_sz _ _ _ hx) (by unfold maxLen; omega))
  rw [wordsB_data] at hRd
  have hK1 : Hid (Fm w [(w.heap.size, o6 od0, 30)] (W0.alloc (.cells (Lib.cellsOf (wordsB s) (min 5 (s.size + 1))) 9))) := hB.out.below (below1 W0 _)
  generalize W0.alloc (.cells (Lib.cellsOf (wordsB s) (min 5 (s.size + 1))) 9) = W1 at hS hRd hK1
  generalize (wordsB s).length = m at hS hRd
  generalize min 5 (s.size + 1) = N at hS hRd
  rcases hp : parseO s.data.toList with _ | o
  · have hR2 : Calls Tryd.prog 32 #[.slice (some ⟨W0.heap.size, 0, none⟩) m N] W1 fun e w' => ∃ X, e = .returned (.tuple #[.agg (o6 X), .bool false]) ∧ Below W1.heap.size W1 w' := hRd.mono fun e w' h => by
      obtain ⟨hb, ⟨o, ho, _⟩ | ⟨_, X, he⟩⟩ := h
      · rw [show rdO (wordsL s.data.toList) = none from hp] at ho
        cases ho
      · exact ⟨X, he, hb⟩
    simp only [Option.getD_none, Option.isSome_none, Bool.false_eq_true, if_false]
    clear hRd hp hml hm hm1 hs
    go_enter Tryd.func16, Tryd.ntmps16
    go_wp2_with (first
      | ((with_reducible refine at_st rtO w.heap.size (o6 od0) #[.int .u8 0, .int .u8 0, .int .u8 0, .int .u8 0, .int .u8 0, .int .u16 0] ?_ ?_ ?_ ?_ (.tmp 2) (.tmp 14) ?_ ?_ ?_ ?_ ?_); exact K4.out.bx 0 _ _ _ rfl; rfl; rfl; simp [Value.oneCell']; rfl; rfl; rfl; rfl; intro y5 hw5; have K5 : Hid (Fm w [(w.heap.size, o6 od0, 30), (y2.heap.size, o6 X, 30)] y5) := K4.out.put 0 _ _ _ _ rfl hw5.out)
      | ((with_reducible refine at_st rtO y2.heap.size (o6 od0) (o6 X) ?_ ?_ ?_ ?_ (.tmp 4) (.tmp 10) ?_ ?_ ?_ ?_ ?_); exact K3.out.bx 1 _ _ _ rfl; rfl; rfl; exact o6_one _; rfl; rfl; rfl; rfl; intro y4 hw4; have K4 : Hid (Fm w [(w.heap.size, o6 od0, 30), (y2.heap.size, o6 X, 30)] y4) := K3.out.put 1 _ _ _ _ rfl hw4.out)
      | ((with_reducible refine gen_world (y2.alloc (.cells #[.int .u8 0, .int .u8 0, .int .u8 0, .int .u8 0, .int .u8 0, .int .u16 0] 30)) (Fm w [(w.heap.size, o6 od0, 30), (y2.heap.size, o6 od0, 30)]) ?_ ?_); exact K2.out.new _ _; intro y3 K3)
      | (go_at_call 32; refine hR2.mono ?_; rintro e y2 ⟨X, rfl, hb2⟩; have K2 : Hid (Fm w [(w.heap.size, o6 od0, 30)] y2) := hK1.out.below hb2)
      | (go_at_call 33; refine hS.mono ?_; rintro e y1 ⟨rfl, rfl⟩))
    refine ret_two (v := .int .i64 161) rtO rfl rfl rfl (K5.out.bx 0 _ _ _ rfl) rfl rfl ⟨rfl, K5.out.low⟩
  · have hR2 : Calls Tryd.prog 32 #[.slice (some ⟨W0.heap.size, 0, none⟩) m N] W1 fun e w' => e = .returned (.tuple #[.agg (o6 o), .bool true]) ∧ Below W1.heap.size W1 w' := hRd.mono fun e w' h => by
      obtain ⟨hb, ⟨o', ho, he⟩ | ⟨ho, _⟩⟩ := h
      · rw [show rdO (wordsL s.data.toList) = some o from hp] at ho
        injection ho with ho
        subst ho
        exact ⟨he, hb⟩
      · rw [show rdO (wordsL s.data.toList) = some o from hp] at ho
        cases ho
    simp only [Option.getD_some, Option.isSome_some, if_true]
    clear hRd hp hml hm hm1 hs
    go_enter Tryd.func16, Tryd.ntmps16
    go_wp2_with (first
      | ((with_reducible refine at_st rtO w.heap.size (o6 od0) (o6 o) ?_ ?_ ?_ ?_ (.tmp 2) (.tmp 15) ?_ ?_ ?_ ?_ ?_); exact K4.out.bx 0 _ _ _ rfl; rfl; rfl; exact o6_one _; rfl; rfl; rfl; rfl; intro y5 hw5; have K5 : Hid (Fm w [(w.heap.size, o6 o, 30), (y2.heap.size, o6 o, 30)] y5) := K4.out.put 0 _ _ _ _ rfl hw5.out)
      | ((with_reducible refine at_load rtO y2.heap.size (o6 o) ?_ ?_ (.tmp 4) ?_ ?_ ?_ ?_); exact K4.out.bx 1 _ _ _ rfl; rfl; rfl; rfl; rfl)
      | ((with_reducible refine at_st rtO y2.heap.size (o6 od0) (o6 o) ?_ ?_ ?_ ?_ (.tmp 4) (.tmp 10) ?_ ?_ ?_ ?_ ?_); exact K3.out.bx 1 _ _ _ rfl; rfl; rfl; exact o6_one _; rfl; rfl; rfl; rfl; intro y4 hw4; have K4 : Hid (Fm w [(w.heap.size, o6 od0, 30), (y2.heap.size, o6 o, 30)] y4) := K3.out.put 1 _ _ _ _ rfl hw4.out)
      | ((with_reducible refine gen_world (y2.alloc (.cells #[.int .u8 0, .int .u8 0, .int .u8 0, .int .u8 0, .int .u8 0, .int .u16 0] 30)) (Fm w [(w.heap.size, o6 od0, 30), (y2.heap.size, o6 od0, 30)]) ?_ ?_); exact K2.out.new _ _; intro y3 K3)
      | (go_at_call 32; refine hR2.mono ?_; rintro e y2 ⟨rfl, hb2⟩; have K2 : Hid (Fm w [(w.heap.size, o6 od0, 30)] y2) := hK1.out.below hb2)
      | (go_at_call 33; refine hS.mono ?_; rintro e y1 ⟨rfl, rfl⟩))
    refine ret_two (v := .int .i64 0) rtO rfl rfl rfl (K5.out.bx 0 _ _ _ rfl) rfl rfl ⟨rfl, K5.out.low⟩
end Go.Proofs.YtfdikiafbfljaaaDoor
