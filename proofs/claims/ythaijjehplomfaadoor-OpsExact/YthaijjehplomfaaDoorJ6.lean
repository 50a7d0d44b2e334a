/- ops.rows: all its rows, and their fields. Which row takes a word. -/
import Derived.Test.YthaijjehplomfaaDoorJ5
namespace Go.Proofs.YthaijjehplomfaaDoor
open Go Go.RowKit
set_option linter.unusedVariables false
set_option maxHeartbeats 1000000
set_option maxRecDepth 20000

/-- A row's cells, its fields elsewhere. -/
def rwC (sp : Nat → Option Addr) (i : Nat) : List Value := [.int .u8 (opR i : Nat), .int .u16 (wdR i : Nat), .string ⟨(nmR i).toArray⟩, .slice (sp i) (fsR i).length (fsR i).length]
/-- Fields that lie in a row of their own. -/
structure FsL (y : World) (S : Option Addr) (fs : List Nat) : Prop where
  lies : LiesL 5 fdC y S fs
  ty : ∀ a, S = some a → ∃ cs, Bx y a.block cs 59
theorem FsL.below {x y : World} {S : Option Addr} {fs : List Nat} (h : FsL x S fs) (hb : Below x.heap.size x y) : FsL y S fs := ⟨h.lies.below hb, fun a e => by
  obtain ⟨cs, hx⟩ := h.ty a e
  exact ⟨cs, (hb.block _ (heap_lt hx)).trans hx⟩⟩
theorem FsL.off {x y : World} {S : Option Addr} {fs : List Nat} {b t : Nat} {cs : Array Value} (h : FsL x S fs) (hx : Bx x b cs t) (ht : 59 ≠ t) (hk : ∀ q, q ≠ b → y.heap[q]? = x.heap[q]?) : FsL y S fs := ⟨fun j a hj => by
  obtain ⟨gb, ob, e, k⟩ := h.lies j a hj
  obtain ⟨ds, hd⟩ := h.ty _ e
  have hne : gb ≠ b := Bx.unlike hd hx ht
  exact ⟨gb, ob, e, fun i v hv => (World.cell?_of_block (w := x) (a := ⟨gb, ob + j * 5 + i, none⟩) (hk gb hne)).trans (k i v hv)⟩, fun a e => by
  obtain ⟨ds, hd⟩ := h.ty a e
  exact ⟨ds, (hk _ (Bx.unlike hd hx ht)).trans hd⟩⟩
/-- The rows lie there. -/
def RwsAt (B : Nat) (y : World) (v : Value) : Prop := ∃ (g : Nat) (sp : Nat → Option Addr), B ≤ g ∧ v = .slice (some ⟨g, 0, none⟩) 31 31 ∧ Bx y g (rowL (rwC sp) (List.range 31)).toArray 51 ∧ ∀ i, i < 31 → FsL y (sp i) (fsR i)
theorem rtR : Rt Tryd.prog 51 4 := ⟨⟨_, Tryd.underlying51, rfl⟩, by kernel_rfl⟩
def spR (g6 g7 g8 g9 g10 : Nat) (i : Nat) : Option Addr := if fsR i = [] then none else if fsR i = [4] then some ⟨g6, 0, none⟩ else if fsR i = [0] then some ⟨g7, 0, none⟩ else if fsR i = [0, 1] then some ⟨g8, 0, none⟩ else if fsR i = [0, 3] then some ⟨g9, 0, none⟩ else some ⟨g10, 0, none⟩
theorem lies_of {y : World} {g : Nat} {fs : List Nat} (h : Bx y g (rowL fdC fs).toArray 59) : LiesL 5 fdC y (some ⟨g, 0, none⟩) fs := fun j a hj => ⟨g, 0, rfl, fun i v hv => by
  have hi : i < 5 := (List.getElem?_eq_some_iff.1 hv).1
  refine h.c (0 + j * 5 + i) v ?_
  rw [List.getElem?_toArray, Nat.zero_add, rowL_at (s := 5) (fun _ => rfl) fs j i a hj hi]
  exact hv⟩
theorem spR_lies {y : World} {g6 g7 g8 g9 g10 : Nat} (h6 : Bx y g6 (rowL fdC [4]).toArray 59) (h7 : Bx y g7 (rowL fdC [0]).toArray 59) (h8 : Bx y g8 (rowL fdC [0, 1]).toArray 59) (h9 : Bx y g9 (rowL fdC [0, 3]).toArray 59) (h10 : Bx y g10 (rowL fdC [0, 1, 2]).toArray 59) (i : Nat) (hi : i < 31) : FsL y (spR g6 g7 g8 g9 g10 i) (fsR i) := by
  unfold spR
  rcases fs_pats i hi with e | e | e | e | e | e <;> rw [e]
  · exact ⟨fun j a h => by simp at h, fun a h => by cases h⟩
  · exact ⟨lies_of h7, fun a h => by cases h; exact ⟨_, h7⟩⟩
  · exact ⟨lies_of h6, fun a h => by cases h; exact ⟨_, h6⟩⟩
  · exact ⟨lies_of h8, fun a h => by cases h; exact ⟨_, h8⟩⟩
  · exact ⟨lies_of h9, fun a h => by cases h; exact ⟨_, h9⟩⟩
  · exact ⟨lies_of h10, fun a h => by cases h; exact ⟨_, h10⟩⟩
theorem riR : ∃ i z, Tryd.prog.info? 51 = some i ∧ i.zero = some z ∧ i.size = 4 ∧ z.cells = #[.int .u8 0, .int .u16 0, .string ⟨#[]⟩, .slice none 0 0] := by
  obtain ⟨i, h⟩ : ∃ i, Tryd.prog.info? 51 = some i := by
    rcases h : Tryd.prog.info? 51 with _ | i
    · have := rtR.i
      rw [h] at this
      cases this
    · exact ⟨i, rfl⟩
  have hz : (Tryd.prog.info? 51).bind (·.zero) = some (.agg #[.int .u8 0, .int .u16 0, .string ⟨#[]⟩, .slice none 0 0]) := by kernel_rfl
  have hs := rtR.i
  rw [h] at hz hs
  exact ⟨i, _, h, hz, by simpa using hs, rfl⟩
def parts31 : Array (Nat × Operand) := #[(0, .tmp 30), (1, .tmp 31), (2, .tmp 33), (3, .tmp 35), (4, .tmp 37), (5, .tmp 39), (6, .tmp 41), (7, .tmp 43), (8, .tmp 45), (9, .tmp 47), (10, .tmp 49), (11, .tmp 51), (12, .tmp 53), (13, .tmp 55), (14, .tmp 57), (15, .tmp 59), (16, .tmp 61), (17, .tmp 63), (18, .tmp 65), (19, .tmp 67), (20, .tmp 69), (21, .tmp 71), (22, .tmp 73), (23, .tmp 75), (24, .tmp 77), (25, .tmp 79), (26, .tmp 81), (27, .tmp 83), (28, .tmp 85), (29, .tmp 87), (30, .tmp 89)]
theorem rows_any (w : World) : Calls Tryd.prog 36 #[] w fun e w' => (∃ v, e = .returned v ∧ RwsAt w.heap.size w' v) ∧ Below w.heap.size w w' := by
  have K0 : Hid (Fm w [] w) := Fm.nil w
  go_enter Tryd.func36, Tryd.ntmps36
  go_wp2_with (first
    | ((with_reducible refine gen_world (w.alloc (.cells #[.string ⟨#[]⟩, .int .i64 0, .int .i64 0, .nilFunc, .nilFunc] 59)) (Fm w [(w.heap.size, #[.string ⟨#[]⟩, .int .i64 0, .int .i64 0, .nilFunc, .nilFunc], 59)]) ?_ ?_); exact K0.out.new _ _; intro z0 M0)
    | ((with_reducible refine at_st rtF w.heap.size #[.string ⟨#[]⟩, .int .i64 0, .int .i64 0, .nilFunc, .nilFunc] (fdC 0).toArray ?_ ?_ ?_ ?_ (.tmp 1) (.tmp 11) ?_ ?_ ?_ ?_ ?_); exact M0.out.bx 0 _ _ _ rfl; rfl; rfl; kernel_rfl; rfl; rfl; rfl; rfl; intro y1 hw0; have K1 : Hid (Fm w [(w.heap.size, (fdC 0).toArray, 59)] y1) := M0.out.put 0 _ _ _ _ rfl hw0.out; clear K0 M0 hw0)
    | ((with_reducible refine gen_world (y1.alloc (.cells #[.string ⟨#[]⟩, .int .i64 0, .int .i64 0, .nilFunc, .nilFunc] 59)) (Fm w [(w.heap.size, (fdC 0).toArray, 59), (y1.heap.size, #[.string ⟨#[]⟩, .int .i64 0, .int .i64 0, .nilFunc, .nilFunc], 59)]) ?_ ?_); exact K1.out.new _ _; intro z1 M1)
    | ((with_reducible refine at_st rtF y1.heap.size #[.string ⟨#[]⟩, .int .i64 0, .int .i64 0, .nilFunc, .nilFunc] (fdC 1).toArray ?_ ?_ ?_ ?_ (.tmp 2) (.tmp 12) ?_ ?_ ?_ ?_ ?_); exact M1.out.bx 1 _ _ _ rfl; rfl; rfl; kernel_rfl; rfl; rfl; rfl; rfl; intro y2 hw1; have K2 : Hid (Fm w [(w.heap.size, (fdC 0).toArray, 59), (y1.heap.size, (fdC 1).toArray, 59)] y2) := M1.out.put 1 _ _ _ _ rfl hw1.out; clear K1 M1 hw1)
    | ((with_reducible refine gen_world (y2.alloc (.cells #[.string ⟨#[]⟩, .int .i64 0, .int .i64 0, .nilFunc, .nilFunc] 59)) (Fm w [(w.heap.size, (fdC 0).toArray, 59), (y1.heap.size, (fdC 1).toArray, 59), (y2.heap.size, #[.string ⟨#[]⟩, .int .i64 0, .int .i64 0, .nilFunc, .nilFunc], 59)]) ?_ ?_); exact K2.out.new _ _; intro z2 M2)
    | ((with_reducible refine at_st rtF y2.heap.size #[.string ⟨#[]⟩, .int .i64 0, .int .i64 0, .nilFunc, .nilFunc] (fdC 2).toArray ?_ ?_ ?_ ?_ (.tmp 3) (.tmp 13) ?_ ?_ ?_ ?_ ?_); exact M2.out.bx 2 _ _ _ rfl; rfl; rfl; kernel_rfl; rfl; rfl; rfl; rfl; intro y3 hw2; have K3 : Hid (Fm w [(w.heap.size, (fdC 0).toArray, 59), (y1.heap.size, (fdC 1).toArray, 59), (y2.heap.size, (fdC 2).toArray, 59)] y3) := M2.out.put 2 _ _ _ _ rfl hw2.out; clear K2 M2 hw2)
    | ((with_reducible refine gen_world (y3.alloc (.cells #[.string ⟨#[]⟩, .int .i64 0, .int .i64 0, .nilFunc, .nilFunc] 59)) (Fm w [(w.heap.size, (fdC 0).toArray, 59), (y1.heap.size, (fdC 1).toArray, 59), (y2.heap.size, (fdC 2).toArray, 59), (y3.heap.size, #[.string ⟨#[]⟩, .int .i64 0, .int .i64 0, .nilFunc, .nilFunc], 59)]) ?_ ?_); exact K3.out.new _ _; intro z3 M3)
    | ((with_reducible refine at_st rtF y3.heap.size #[.string ⟨#[]⟩, .int .i64 0, .int .i64 0, .nilFunc, .nilFunc] (fdC 3).toArray ?_ ?_ ?_ ?_ (.tmp 4) (.tmp 14) ?_ ?_ ?_ ?_ ?_); exact M3.out.bx 3 _ _ _ rfl; rfl; rfl; kernel_rfl; rfl; rfl; rfl; rfl; intro y4 hw3; have K4 : Hid (Fm w [(w.heap.size, (fdC 0).toArray, 59), (y1.heap.size, (fdC 1).toArray, 59), (y2.heap.size, (fdC 2).toArray, 59), (y3.heap.size, (fdC 3).toArray, 59)] y4) := M3.out.put 3 _ _ _ _ rfl hw3.out; clear K3 M3 hw3)
    | ((with_reducible refine gen_world (y4.alloc (.cells #[.string ⟨#[]⟩, .int .i64 0, .int .i64 0, .nilFunc, .nilFunc] 59)) (Fm w [(w.heap.size, (fdC 0).toArray, 59), (y1.heap.size, (fdC 1).toArray, 59), (y2.heap.size, (fdC 2).toArray, 59), (y3.heap.size, (fdC 3).toArray, 59), (y4.heap.size, #[.string ⟨#[]⟩, .int .i64 0, .int .i64 0, .nilFunc, .nilFunc], 59)]) ?_ ?_); exact K4.out.new _ _; intro z4 M4)
    | ((with_reducible refine at_st rtF y4.heap.size #[.string ⟨#[]⟩, .int .i64 0, .int .i64 0, .nilFunc, .nilFunc] (fdC 4).toArray ?_ ?_ ?_ ?_ (.tmp 5) (.tmp 15) ?_ ?_ ?_ ?_ ?_); exact M4.out.bx 4 _ _ _ rfl; rfl; rfl; kernel_rfl; rfl; rfl; rfl; rfl; intro y5 hw4; have K5 : Hid (Fm w [(w.heap.size, (fdC 0).toArray, 59), (y1.heap.size, (fdC 1).toArray, 59), (y2.heap.size, (fdC 2).toArray, 59), (y3.heap.size, (fdC 3).toArray, 59), (y4.heap.size, (fdC 4).toArray, 59)] y5) := M4.out.put 4 _ _ _ _ rfl hw4.out; clear K4 M4 hw4)
)
  refine reg6 (w := w) (y0 := y5) (b0 := w.heap.size) (b1 := y1.heap.size) (b2 := y2.heap.size) (b3 := y3.heap.size) (b4 := y4.heap.size) ?_ ?_ ?_ ?_ ?_ ?_ ?_ ?_ ?_ ?_ ?_ ?_ ?_ ?_ ?_ ?_ ?_ ?_ ?_ ?_ ?_ K5.out ?_ ?_
  · rfl
  · kernel_rfl
  · exact ⟨_, rfl, rfl, rfl, rfl⟩
  · exact ⟨_, rfl, rfl, rfl, rfl, List.forall_mem_cons.2 ⟨⟨{ on := 0, ground := .data }, by simp, rfl, rfl⟩, fun q hq => absurd hq (by simp)⟩⟩
  · exact ⟨_, rfl, rfl, rfl, rfl⟩
  · exact ⟨_, rfl, rfl, rfl, rfl, List.forall_mem_cons.2 ⟨⟨{ on := 2, ground := .data }, by simp, rfl, rfl⟩, fun q hq => absurd hq (by simp)⟩⟩
  · exact ⟨_, rfl, rfl, rfl, rfl⟩
  · exact ⟨_, rfl, rfl, rfl, rfl⟩
  · exact ⟨_, rfl, rfl, rfl, rfl, List.forall_mem_cons.2 ⟨⟨{ on := 4, ground := .data }, by simp, rfl, rfl⟩, List.forall_mem_cons.2 ⟨⟨{ on := 5, ground := .data }, by simp, rfl, rfl⟩, fun q hq => absurd hq (by simp)⟩⟩⟩
  · exact ⟨_, rfl, rfl, rfl, rfl⟩
  · exact ⟨_, rfl, rfl, rfl, rfl⟩
  · exact ⟨_, rfl, rfl, rfl, rfl, List.forall_mem_cons.2 ⟨⟨{ on := 7, ground := .data }, by simp, rfl, rfl⟩, List.forall_mem_cons.2 ⟨⟨{ on := 8, ground := .data }, by simp, rfl, rfl⟩, fun q hq => absurd hq (by simp)⟩⟩⟩
  · exact ⟨_, rfl, rfl, rfl, rfl⟩
  · exact ⟨_, rfl, rfl, rfl, rfl⟩
  · exact ⟨_, rfl, rfl, rfl, rfl⟩
  · exact ⟨_, rfl, rfl, rfl, rfl, List.forall_mem_cons.2 ⟨⟨{ on := 10, ground := .data }, by simp, rfl, rfl⟩, List.forall_mem_cons.2 ⟨⟨{ on := 11, ground := .data }, by simp, rfl, rfl⟩, List.forall_mem_cons.2 ⟨⟨{ on := 12, ground := .data }, by simp, rfl, rfl⟩, fun q hq => absurd hq (by simp)⟩⟩⟩⟩
  · exact ⟨_, rfl, rfl, rfl, rfl, ⟨{ on := 1, ground := .data }, by simp, rfl, rfl⟩⟩
  · exact ⟨_, rfl, rfl, rfl, rfl, ⟨{ on := 3, ground := .data }, by simp, rfl, rfl⟩⟩
  · exact ⟨_, rfl, rfl, rfl, rfl, ⟨{ on := 6, ground := .data }, by simp, rfl, rfl⟩⟩
  · exact ⟨_, rfl, rfl, rfl, rfl, ⟨{ on := 9, ground := .data }, by simp, rfl, rfl⟩⟩
  · exact ⟨_, rfl, rfl, rfl, rfl, ⟨{ on := 13, ground := .data }, by simp, rfl, rfl⟩⟩
  · kernel_rfl
  · intro y v6 v7 v8 v9 v10 v16 v17 v18 v19 v20 v21 v22 v23 v24 v25 v26 v27 v28 v29 K6 s6 s7 s8 s9 s10
    obtain ⟨g6, rfl, b6⟩ := s6.out
    obtain ⟨g7, rfl, b7⟩ := s7.out
    obtain ⟨g8, rfl, b8⟩ := s8.out
    obtain ⟨g9, rfl, b9⟩ := s9.out
    obtain ⟨g10, rfl, b10⟩ := s10.out
    have hl : Hid (∀ i, i < 31 → FsL y (spR g6 g7 g8 g9 g10 i) (fsR i)) := fun i hi => spR_lies b6 b7 b8 b9 b10 i hi
    clear b6 b7 b8 b9 b10 s6 s7 s8 s9 s10 K5
    obtain ⟨ii, zz, q1, q2, q3, q4⟩ := riR
    dsimp only [act6, List.length_cons, List.length_nil, Nat.zero_add, Nat.reduceAdd]
    go_wp2_with ((with_reducible refine wpList_buildSlice ?_ 91 51 31 parts31 ?_ (rowL (rwC (spR g6 g7 g8 g9 g10)) (List.range 31)).toArray ii zz Tryd.underlying91 q1 q2 ?_ ?_ ?_ ?_); rfl; rfl; (rw [q3]; decide); (rw [q3]; decide); (rw [q3, q4]; show _ = _; kernel_rfl))
    go_ret
    refine ⟨⟨_, rfl, y.heap.size, spR g6 g7 g8 g9 g10, K6.out.low.size, rfl, alloc_last' y _, fun i hi => (hl.out i hi).below (below1 y _)⟩, K6.out.low.alloc K6.out.low.size _⟩
end Go.Proofs.YthaijjehplomfaaDoor

namespace Go.Proofs.YthaijjehplomfaaDoor
open Go Go.RowKit
set_option linter.unusedVariables false
set_option maxHeartbeats 1000000
set_option maxRecDepth 20000

theorem fn_bool {a b : Bool} (h : a = b) : Ending.returned (.bool a) = .returned (.bool b) := by rw [h]
theorem clrF_take (v : Nat) (fs : List Nat) (p k : Nat) (h : fs[p]? = some k) : clrF v (fs.take (p + 1)) = clrF v (fs.take p) &&& (65535 - mskK k) := by
  rw [List.take_add_one, h]
  simp [clrF]
theorem mskK_lt (k : Nat) (hk : k < 5) : mskK k < 65536 := by
  rcases (show k = 0 ∨ k = 1 ∨ k = 2 ∨ k = 3 ∨ k = 4 by omega) with rfl | rfl | rfl | rfl | rfl <;> decide
theorem takes_gen (op wd : Nat) (nm : ByteArray) (S : Option Addr) (fs : List Nat) (n v : Nat) (hn : Hid (fs.length = n)) (h3 : (n : Int) ≤ 3) (hk : Hid (∀ k ∈ fs, k < 5)) (hv : Hid (v < 65536)) (w : World) (hl : Hid (LiesL 5 fdC w S fs)) :
    Calls Tryd.prog 19 #[.agg #[.int .u8 (op : Int), .int .u16 (wd : Int), .string nm, .slice S n n], .int .u16 (v : Int)] w fun e w' => e = .returned (.bool (clrF v fs == wd)) ∧ Below w.heap.size w w' := by
  obtain ⟨R, hR⟩ : ∃ R, Hid (R = (clrF v fs == wd)) := ⟨_, (rfl : _ = (clrF v fs == wd))⟩
  rw [← hR.out]
  have hB : Hid (Fm w [(w.heap.size, #[.int .u8 (op : Int), .int .u16 (wd : Int), .string nm, .slice S n n], 51)] (w.alloc (.cells #[.int .u8 (op : Int), .int .u16 (wd : Int), .string nm, .slice S n n] 51))) := Fm.one w _ _
  go_enter Tryd.func19, Tryd.ntmps19
  go_wp2_with ((with_reducible refine gen_world (w.alloc (.cells #[.int .u8 (op : Int), .int .u16 (wd : Int), .string nm, .slice S n n] 51)) (Fm w [(w.heap.size, #[.int .u8 (op : Int), .int .u16 (wd : Int), .string nm, .slice S n n], 51)]) hB.out ?_); intro y K1; have d3 := (K1.out.bx 0 _ _ _ rfl).c 3 (.slice S n n) rfl)
  clear hB
  go_loopw [10, 1] (fun j x wz => ∃ p u : Nat, p ≤ n ∧ j = .int .i64 (p : Int) ∧ x = .int .u16 (u : Int) ∧ Hid (u = clrF v (fs.take p)) ∧ Hid (u < 65536) ∧ Hid (Fm w [(w.heap.size, #[.int .u8 (op : Int), .int .u16 (wd : Int), .string nm, .slice S n n], 51)] wz)) (fun j _ _ => (n - intOf j).toNat)
  case atStart => exact ⟨0, v, by omega, rfl, rfl, (rfl : v = v), hv, K1⟩
  case round =>
    obtain ⟨p, u, hpn, rfl, rfl, hu, hu6, K⟩ := hrel
    by_cases hlt : p < n
    · obtain ⟨k, hpk⟩ : ∃ k, fs[p]? = some k := ⟨_, List.getElem?_eq_getElem (by rw [hn.out]; exact hlt)⟩
      have hk5 : Hid (k < 5) := hk.out k (List.mem_of_getElem? hpk)
      obtain ⟨gb, ob, hS, hr⟩ := hl.out p k hpk
      subst hS
      have hr' : Hid (wr.rangeAt gb (ob + p * 5) (fdC k)) := range_keep hr K.out.low
      have hix := fun w' => idxP (P := Tryd.prog) (t := 49) (e := 59) (s := 5) (g := gb) (off := ob) (len := n) (cap := n) Tryd.underlying49 (by kernel_rfl) .i64 p w' hlt
      have hbt : bits .andNot .u16 (u : Int) ((mskK k : Nat) : Int) = ((u &&& (65535 - mskK k) : Nat) : Int) := u16_andNot_nat u (mskK k) hu6.out (mskK_lt k hk5.out)
      have hpi : (p : Int) < n := by omega
      have fin : Hid ((u &&& (65535 - mskK k)) = clrF v (fs.take (p + 1)) ∧ (u &&& (65535 - mskK k)) < 65536) := ⟨by rw [clrF_take v fs p k hpk, ← hu.out], Nat.lt_of_le_of_lt Nat.and_le_left hu6.out⟩
      have hm := fun z => mask_any k hk5.out z
      have hlt' : Hid (p < n) := hlt
      generalize mskK k = mk at hbt fin hm
      generalize hzz : (u &&& (65535 - mk)) = uu at hbt fin
      clear hlt hr hl hpk hzz
      go_wp2_with (first
        | (go_at_call 20; refine (hm _).mono ?_; rintro e z3 ⟨rfl, hb3⟩; have K3 : Hid (Fm w [(w.heap.size, #[.int .u8 (op : Int), .int .u16 (wd : Int), .string nm, .slice (some ⟨gb, ob, none⟩) n n], 51), (wr.heap.size, (fdC k).toArray, 59)] z3) := K2.out.below hb3)
        | ((with_reducible refine at_load rtF wr.heap.size (fdC k).toArray ?_ ?_ (.tmp 6) ?_ ?_ ?_ ?_); exact K2.out.bx 1 _ _ _ rfl; rfl; rfl; rfl; rfl)
        | ((with_reducible refine at_st rtF wr.heap.size #[.string ⟨#[]⟩, .int .i64 0, .int .i64 0, .nilFunc, .nilFunc] (fdC k).toArray ?_ ?_ ?_ ?_ (.tmp 6) (.tmp 13) ?_ ?_ ?_ ?_ ?_); exact M.out.bx 1 _ _ _ rfl; rfl; rfl; simp [fdC, Value.oneCell']; rfl; rfl; rfl; rfl; intro z2 hw2; have K2 : Hid (Fm w [(w.heap.size, #[.int .u8 (op : Int), .int .u16 (wd : Int), .string nm, .slice (some ⟨gb, ob, none⟩) n n], 51), (wr.heap.size, (fdC k).toArray, 59)] z2) := M.out.put 1 _ _ _ _ rfl hw2.out)
        | ((with_reducible refine gen_world (wr.alloc (.cells #[.string ⟨#[]⟩, .int .i64 0, .int .i64 0, .nilFunc, .nilFunc] 59)) (Fm w [(w.heap.size, #[.int .u8 (op : Int), .int .u16 (wd : Int), .string nm, .slice (some ⟨gb, ob, none⟩) n n], 51), (wr.heap.size, #[.string ⟨#[]⟩, .int .i64 0, .int .i64 0, .nilFunc, .nilFunc], 59)]) ?_ ?_); exact K.out.new _ _; intro z M)
        | ((with_reducible refine at_loadm rtF gb (ob + p * 5) (fdC k).toArray ?_ ?_ (.tmp 12) ?_ ?_ ?_ ?_); exact hr'.out; rfl; rfl; rfl; rfl))
      go_roundw
      case rel => exact ⟨p + 1, uu, by have := hlt'.out; omega, by simp, rfl, fin.out.1, fin.out.2, K3.out.pre (l' := [_])⟩
      case measure => have := hlt'.out; simp [intOf]; omega
    · have hpe : p = n := by omega
      subst hpe
      have d1 := (K.out.bx 0 _ _ _ rfl).c 1 (.int .u16 (wd : Int)) rfl
      have fin : Hid (((u : Int) == (wd : Int)) = R) := by
        show _ = _
        rw [hR.out, hu.out, List.take_of_length_le (by rw [hn.out]; exact Nat.le_refl _), Bool.eq_iff_iff]
        simp
        omega
      go_wp2
      go_ret
      exact ⟨fn_bool fin.out, K.out.low⟩
theorem fs_len (i : Nat) (hi : i < 31) : ((fsR i).length : Int) ≤ 3 := by
  rcases fs_pats i hi with e | e | e | e | e | e <;> rw [e] <;> decide
theorem fs_lt (i : Nat) (hi : i < 31) : ∀ k ∈ fsR i, k < 5 := by
  rcases fs_pats i hi with e | e | e | e | e | e <;> rw [e] <;> decide
/-- Does the i-th row take the word? -/
theorem takes_any (i : Nat) (hi : i < 31) (sp : Nat → Option Addr) (v : Nat) (hv : v < 65536) (w : World) (hl : LiesL 5 fdC w (sp i) (fsR i)) :
    Calls Tryd.prog 19 #[.agg (rwC sp i).toArray, .int .u16 (v : Int)] w fun e w' => e = .returned (.bool (takR i v)) ∧ Below w.heap.size w w' :=
  takes_gen (opR i) (wdR i) ⟨(nmR i).toArray⟩ (sp i) (fsR i) (fsR i).length v (rfl : (fsR i).length = _) (fs_len i hi) (fs_lt i hi) hv w hl
end Go.Proofs.YthaijjehplomfaaDoor
