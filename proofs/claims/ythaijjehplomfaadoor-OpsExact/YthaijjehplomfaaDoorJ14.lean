/- A line read: Parse; printed and read it is the order, read and printed it is the line. Lines and orders are one to one. The statements' own awake; OpsThere, OpsLines: the walks. An order that came in as an argument, opened; the listed tables of layer 16. -/
import Derived.Test.YthaijjehplomfaaDoorJ13
import Derived.Test.YthaijjehplomfaaDoorRows
import Derived.WalkKit
import Derived.ProofKit
import Derived.OpenShut
import Derived.ChangeArms
import Derived.ChangeShapes
import Derived.SizedLaws
import Derived.Stop.LaidErr
import Derived.Shelf.Vars
namespace Go.Proofs.YthaijjehplomfaaDoor
open Go Go.RowKit
set_option linter.unusedVariables false
set_option maxHeartbeats 1000000
set_option maxRecDepth 20000

/-- The words of a line, at most five. -/
def wordsB (s : ByteArray) : List ByteArray := Lib.splitB ⟨#[32]⟩ 0 (min 5 (s.size + 1) - 1) s
def wordsL (s : List UInt8) : List (List UInt8) := Lib.splitK [32] 0 (min 5 (s.length + 1) - 1) s
theorem wordsB_data (s : ByteArray) : (wordsB s).map (·.data.toList) = wordsL s.data.toList := by
  unfold wordsB wordsL
  rw [Lib.splitB_data, sz_list]
theorem splitB_sz (k : Nat) : ∀ (s x : ByteArray), x ∈ Lib.splitB ⟨#[32]⟩ 0 k s → x.size ≤ s.size := by
  induction k with
  | zero => intro s x h; simp [Lib.splitB] at h; rw [h]; exact Nat.le_refl _
  | succ k ih =>
    intro s x h
    unfold Lib.splitB at h
    split at h
    · simp at h; rw [h]; exact Nat.le_refl _
    · rcases List.mem_cons.1 h with e | e
      · rw [e, ByteArray.size_extract]; omega
      · have := ih _ x e
        rw [ByteArray.size_extract] at this
        omega
theorem splitB_pos (k : Nat) (s : ByteArray) : 1 ≤ (Lib.splitB ⟨#[32]⟩ 0 k s).length := by
  cases k with
  | zero => exact Nat.le_refl _
  | succ k =>
    unfold Lib.splitB
    split
    · exact Nat.le_refl _
    · simp
theorem lies_cells {w : World} {ws : List ByteArray} {N : Nat} {t : TypeId} : LiesL 1 strC (w.alloc (.cells (Lib.cellsOf ws N) t)) (some ⟨w.heap.size, 0, none⟩) ws := fun j s hj => ⟨w.heap.size, 0, rfl, fun i v hv => by
  have hi : i < 1 := (List.getElem?_eq_some_iff.1 hv).1
  have e : i = 0 := by omega
  subst e
  have ev : v = .string s := by simpa [strC] using hv.symm
  subst ev
  refine Bx.c (t := t) (cs := Lib.cellsOf ws N) (alloc_last' w _) _ _ ?_
  have hl := (List.getElem?_eq_some_iff.1 hj).1
  unfold Lib.cellsOf
  rw [List.getElem?_toArray, Nat.zero_add, Nat.mul_one, Nat.add_zero, List.getElem?_append_left (by simpa using hl), List.getElem?_map, hj]
  rfl⟩
theorem splitN_cell (s : ByteArray) (mx : Int) (w : World) (hm : w.cell? ⟨0, 0, none⟩ = some (.int .i64 mx)) (hs : s.size < 4294967281) :
    Calls Tryd.prog 28 #[.string s, .string ⟨#[32]⟩, .int .i64 5] w fun e w' => e = .returned (.slice (some ⟨w.heap.size, 0, none⟩) (wordsB s).length (min 5 (s.size + 1))) ∧ w' = w.alloc (.cells (Lib.cellsOf (wordsB s) (min 5 (s.size + 1))) 9) :=
  Any.strings_SplitN { Tryd.laysM147 with } Tryd.laysM147.i9 s ⟨#[32]⟩ 5 mx w hs hm (by decide) (by decide) (by decide)
/-- The order of a line. -/
def parseO (s : List UInt8) : Option Od := rdO (wordsL s)
theorem parse_any (s : ByteArray) (w : World) (mx : Int) (hm : w.cell? ⟨0, 0, none⟩ = some (.int .i64 mx)) (hs : s.size < 4294967281) :
    Calls Tryd.prog 12 #[.string s] w fun e w' => e = .returned (.tuple #[.agg (o6 ((parseO s.data.toList).getD od0)), .int .i64 (if (parseO s.data.toList).isSome then 0 else 161)]) ∧ Below w.heap.size w w' := by
  have hB : Hid (Fm w [(w.heap.size, o6 od0, 30)] (w.alloc (.cells #[.int .u8 0, .int .u8 0, .int .u8 0, .int .u8 0, .int .u8 0, .int .u16 0] 30))) := Fm.one w _ _
  have hm1 : (w.alloc (.cells #[.int .u8 0, .int .u8 0, .int .u8 0, .int .u8 0, .int .u8 0, .int .u16 0] 30)).cell? ⟨0, 0, none⟩ = some (.int .i64 mx) := (hB.out.low.cell (World.block_lt_of_cell? w _ hm)).trans hm
  have hS := splitN_cell s mx _ hm1 hs
  generalize hW0 : w.alloc (.cells #[.int .u8 0, .int .u8 0, .int .u8 0, .int .u8 0, .int .u8 0, .int .u16 0] 30) = W0 at hS hB
  have hml : (wordsB s).length ≤ 5 := by have := Lib.splitB_length_le ⟨#[32]⟩ 0 (min 5 (s.size + 1) - 1) s; unfold wordsB; omega
  have hRd := read_any (W0.alloc (.cells (Lib.cellsOf (wordsB s) (min 5 (s.size + 1))) 9)) W0.heap.size 0 (min 5 (s.size + 1)) (wordsB s) (wordsB s).length (rfl : (wordsB s).length = _) (splitB_pos _ _) (by omega) lies_cells
    (fun x hx => Nat.le_trans (splitB_sz _ _ _ hx) (by unfold maxLen; omega))
  rw [wordsB_data] at hRd
  have hK1 : Hid (Fm w [(w.heap.size, o6 od0, 30)] (W0.alloc (.cells (Lib.cellsOf (wordsB s) (min 5 (s.size + 1))) 9))) := hB.out.below (below1 W0 _)
  generalize W0.alloc (.cells (Lib.cellsOf (wordsB s) (min 5 (s.size + 1))) 9) = W1 at hS hRd hK1
  generalize (wordsB s).length = m at hS hRd
  generalize min 5 (s.size + 1) = N at hS hRd
  rcases hp : parseO s.data.toList with _ | o
  · have hR2 : Calls Tryd.prog 27 #[.slice (some ⟨W0.heap.size, 0, none⟩) m N] W1 fun e w' => ∃ X, e = .returned (.tuple #[.agg (o6 X), .bool false]) ∧ Below W1.heap.size W1 w' := hRd.mono fun e w' h => by
      obtain ⟨hb, ⟨o, ho, _⟩ | ⟨_, X, he⟩⟩ := h
      · rw [show rdO (wordsL s.data.toList) = none from hp] at ho
        cases ho
      · exact ⟨X, he, hb⟩
    simp only [Option.getD_none, Option.isSome_none, Bool.false_eq_true, if_false]
    clear hRd hp hml hm hm1 hs
    go_enter Tryd.func12, Tryd.ntmps12
    go_wp2_with (first
      | ((with_reducible refine at_st rtO w.heap.size (o6 od0) #[.int .u8 0, .int .u8 0, .int .u8 0, .int .u8 0, .int .u8 0, .int .u16 0] ?_ ?_ ?_ ?_ (.tmp 2) (.tmp 14) ?_ ?_ ?_ ?_ ?_); exact K4.out.bx 0 _ _ _ rfl; rfl; rfl; simp [Value.oneCell']; rfl; rfl; rfl; rfl; intro y5 hw5; have K5 : Hid (Fm w [(w.heap.size, o6 od0, 30), (y2.heap.size, o6 X, 30)] y5) := K4.out.put 0 _ _ _ _ rfl hw5.out)
      | ((with_reducible refine at_st rtO y2.heap.size (o6 od0) (o6 X) ?_ ?_ ?_ ?_ (.tmp 4) (.tmp 10) ?_ ?_ ?_ ?_ ?_); exact K3.out.bx 1 _ _ _ rfl; rfl; rfl; exact o6_one _; rfl; rfl; rfl; rfl; intro y4 hw4; have K4 : Hid (Fm w [(w.heap.size, o6 od0, 30), (y2.heap.size, o6 X, 30)] y4) := K3.out.put 1 _ _ _ _ rfl hw4.out)
      | ((with_reducible refine gen_world (y2.alloc (.cells #[.int .u8 0, .int .u8 0, .int .u8 0, .int .u8 0, .int .u8 0, .int .u16 0] 30)) (Fm w [(w.heap.size, o6 od0, 30), (y2.heap.size, o6 od0, 30)]) ?_ ?_); exact K2.out.new _ _; intro y3 K3)
      | (go_at_call 27; refine hR2.mono ?_; rintro e y2 ⟨X, rfl, hb2⟩; have K2 : Hid (Fm w [(w.heap.size, o6 od0, 30)] y2) := hK1.out.below hb2)
      | (go_at_call 28; refine hS.mono ?_; rintro e y1 ⟨rfl, rfl⟩))
    refine ret_two (v := .int .i64 161) rtO rfl rfl rfl (K5.out.bx 0 _ _ _ rfl) rfl rfl ⟨rfl, K5.out.low⟩
  · have hR2 : Calls Tryd.prog 27 #[.slice (some ⟨W0.heap.size, 0, none⟩) m N] W1 fun e w' => e = .returned (.tuple #[.agg (o6 o), .bool true]) ∧ Below W1.heap.size W1 w' := hRd.mono fun e w' h => by
      obtain ⟨hb, ⟨o', ho, he⟩ | ⟨ho, _⟩⟩ := h
      · rw [show rdO (wordsL s.data.toList) = some o from hp] at ho
        injection ho with ho
        subst ho
        exact ⟨he, hb⟩
      · rw [show rdO (wordsL s.data.toList) = some o from hp] at ho
        cases ho
    simp only [Option.getD_some, Option.isSome_some, if_true]
    clear hRd hp hml hm hm1 hs
    go_enter Tryd.func12, Tryd.ntmps12
    go_wp2_with (first
      | ((with_reducible refine at_st rtO w.heap.size (o6 od0) (o6 o) ?_ ?_ ?_ ?_ (.tmp 2) (.tmp 15) ?_ ?_ ?_ ?_ ?_); exact K4.out.bx 0 _ _ _ rfl; rfl; rfl; exact o6_one _; rfl; rfl; rfl; rfl; intro y5 hw5; have K5 : Hid (Fm w [(w.heap.size, o6 o, 30), (y2.heap.size, o6 o, 30)] y5) := K4.out.put 0 _ _ _ _ rfl hw5.out)
      | ((with_reducible refine at_load rtO y2.heap.size (o6 o) ?_ ?_ (.tmp 4) ?_ ?_ ?_ ?_); exact K4.out.bx 1 _ _ _ rfl; rfl; rfl; rfl; rfl)
      | ((with_reducible refine at_st rtO y2.heap.size (o6 od0) (o6 o) ?_ ?_ ?_ ?_ (.tmp 4) (.tmp 10) ?_ ?_ ?_ ?_ ?_); exact K3.out.bx 1 _ _ _ rfl; rfl; rfl; exact o6_one _; rfl; rfl; rfl; rfl; intro y4 hw4; have K4 : Hid (Fm w [(w.heap.size, o6 od0, 30), (y2.heap.size, o6 o, 30)] y4) := K3.out.put 1 _ _ _ _ rfl hw4.out)
      | ((with_reducible refine gen_world (y2.alloc (.cells #[.int .u8 0, .int .u8 0, .int .u8 0, .int .u8 0, .int .u8 0, .int .u16 0] 30)) (Fm w [(w.heap.size, o6 od0, 30), (y2.heap.size, o6 od0, 30)]) ?_ ?_); exact K2.out.new _ _; intro y3 K3)
      | (go_at_call 27; refine hR2.mono ?_; rintro e y2 ⟨rfl, hb2⟩; have K2 : Hid (Fm w [(w.heap.size, o6 od0, 30)] y2) := hK1.out.below hb2)
      | (go_at_call 28; refine hS.mono ?_; rintro e y1 ⟨rfl, rfl⟩))
    refine ret_two (v := .int .i64 0) rtO rfl rfl rfl (K5.out.bx 0 _ _ _ rfl) rfl rfl ⟨rfl, K5.out.low⟩
end Go.Proofs.YthaijjehplomfaaDoor

namespace Go.Proofs.YthaijjehplomfaaDoor
open Go Go.RowKit
set_option linter.unusedVariables false
set_option maxHeartbeats 1000000
set_option maxRecDepth 20000

theorem occ1 (s : List UInt8) (c : UInt8) (i : Nat) : Lib.occAt s [c] i = (s[i]? == some c) := by
  unfold Lib.occAt
  rw [← List.head?_drop]
  rcases s.drop i with _ | ⟨x, r⟩
  · rfl
  · rw [Bool.eq_iff_iff]
    simp only [List.isPrefixOf_cons_cons, List.isPrefixOf_nil_left, Bool.and_true, List.head?_cons, beq_iff_eq, Option.some.injEq]
    exact eq_comm
theorem index_hit (a r : List UInt8) (h : 32 ∉ a) : Lib.index (a ++ 32 :: r) [32] = (a.length : Nat) := by
  refine Lib.index_first (by simp) (by rw [occ1]; simp) fun j hj => ?_
  rw [occ1, List.getElem?_append_left hj, beq_eq_false_iff_ne]
  intro e
  exact h (List.mem_of_getElem? e)
theorem index_no (a : List UInt8) (h : 32 ∉ a) : Lib.index a [32] = -1 := by
  refine Lib.index_none fun j _ => ?_
  rw [occ1, beq_eq_false_iff_ne]
  intro e
  exact h (List.mem_of_getElem? e)
theorem split_hit (k : Nat) (a r : List UInt8) (h : 32 ∉ a) : Lib.splitK [32] 0 (k + 1) (a ++ 32 :: r) = a :: Lib.splitK [32] 0 k r := by
  rw [Lib.splitK, index_hit a r h, if_neg (by simp)]
  have e : ((a.length : Nat) : Int).toNat = a.length := by simp
  rw [e]
  congr 1
  · simp
  · congr 1
    simp
theorem split_no (k : Nat) (a : List UInt8) (h : 32 ∉ a) : Lib.splitK [32] 0 k a = [a] := by
  cases k with
  | zero => rfl
  | succ k => rw [Lib.splitK, index_no a h]; rfl
/-- Words with a blank between each two. -/
def linL (a : List UInt8) (ws : List (List UInt8)) : List UInt8 := ws.foldl (fun s x => s ++ 32 :: x) a
theorem linL_app (a b : List UInt8) (ws : List (List UInt8)) : linL (a ++ b) ws = a ++ linL b ws := by
  induction ws generalizing b with
  | nil => rfl
  | cons x r ih =>
    show linL (a ++ b ++ 32 :: x) r = a ++ linL (b ++ 32 :: x) r
    rw [List.append_assoc, ih]
theorem linL_cons (a x : List UInt8) (r : List (List UInt8)) : linL a (x :: r) = a ++ 32 :: linL x r := by
  show linL (a ++ 32 :: x) r = _
  rw [linL_app]
  have e : linL (32 :: x) r = 32 :: linL x r := linL_app [32] x r
  rw [e]
theorem split_lin (ws : List (List UInt8)) : ∀ (a : List UInt8) (k : Nat), 32 ∉ a → (∀ x ∈ ws, 32 ∉ x) → ws.length ≤ k → Lib.splitK [32] 0 k (linL a ws) = a :: ws := by
  induction ws with
  | nil => intro a k h _ _; exact split_no k a h
  | cons x r ih =>
    intro a k h hx hk
    rw [linL_cons]
    cases k with
    | zero => simp at hk
    | succ k =>
      rw [split_hit k a _ h, ih x k (hx x (by simp)) (fun y hy => hx y (by simp [hy])) (by simpa using hk)]
theorem linL_len (ws : List (List UInt8)) : ∀ a : List UInt8, ws.length ≤ (linL a ws).length := by
  induction ws with
  | nil => intro a; simp
  | cons x r ih =>
    intro a
    rw [linL_cons]
    have := ih x
    simp
    omega
theorem lin_split (k : Nat) : ∀ (s a : List UInt8) (r : List (List UInt8)), Lib.splitK [32] 0 k s = a :: r → linL a r = s := by
  induction k with
  | zero =>
    intro s a r h
    simp [Lib.splitK] at h
    obtain ⟨rfl, rfl⟩ := h
    rfl
  | succ k ih =>
    intro s a r h
    rw [Lib.splitK] at h
    split at h
    · simp at h
      obtain ⟨rfl, rfl⟩ := h
      rfl
    · rename_i hi
      rcases Lib.index_spec s [32] with ⟨e, _⟩ | ⟨i, e, hi1, ho, _⟩
      · rw [e] at hi
        exact absurd rfl hi
      · rw [e] at h
        have et : ((i : Nat) : Int).toNat = i := by simp
        rw [et] at h
        injection h with h1 h2
        rcases hr : Lib.splitK [32] 0 k (s.drop (i + [32].length)) with _ | ⟨b, r'⟩
        · cases k with
          | zero => simp [Lib.splitK] at hr
          | succ k => rw [Lib.splitK] at hr; split at hr <;> cases hr
        · have h2 := h2.symm.trans hr
          have hj := ih _ _ _ hr
          rw [h2, linL_cons, hj, ← h1]
          rw [occ1, beq_iff_eq] at ho
          obtain ⟨hl, he⟩ := List.getElem?_eq_some_iff.1 ho
          have e3 : s.drop i = 32 :: s.drop (i + 1) := by rw [List.drop_eq_getElem_cons hl, he]
          have e4 : s.take i ++ s.drop i = s := List.take_append_drop i s
          rw [e3] at e4
          simpa using e4
/-- The words that fields are. -/
def wdK (k v : Nat) : List UInt8 := ledK k ++ hexL (digK k) v
theorem hexC_ne (x : Int) (h0 : 0 ≤ x) (h1 : x < 16) : UInt8.ofNat (hexC x).toNat ≠ 32 := by
  obtain ⟨n, rfl⟩ : ∃ n : Nat, x = n := ⟨x.toNat, by omega⟩
  have hn : n < 16 := by omega
  have key : ∀ m : Fin 16, UInt8.ofNat (hexC (m.val : Int)).toNat ≠ 32 := by decide
  exact key ⟨n, hn⟩
theorem hexL_ne (d n : Nat) : 32 ∉ hexL d n := by
  intro h
  unfold hexL at h
  obtain ⟨j, _, e⟩ := List.mem_map.1 h
  unfold hexAt at e
  exact hexC_ne _ (by omega) (by omega) e
theorem wdK_ne (k v : Nat) : 32 ∉ wdK k v := by
  unfold wdK
  intro h
  rcases List.mem_append.1 h with h | h
  · unfold ledK at h
    (repeat' split at h) <;> simp at h
  · exact hexL_ne _ _ h
theorem rdK_wd (k v : Nat) (hv : v < 16 ^ digK k) : rdK k (wdK k v) = some v := by
  unfold rdK wdK
  rw [if_pos (by unfold Lib.hasPrefix; rw [List.isPrefixOf_iff_prefix]; exact List.prefix_append _ _), List.drop_left]
  unfold numK
  rw [if_pos (hexL_len _ _), numGo_hexL _ _ hv]
  simp
theorem rdK_inv {k v : Nat} {s : List UInt8} (h : rdK k s = some v) : s = wdK k v ∧ v < 16 ^ digK k := by
  unfold rdK at h
  split at h
  · rename_i hp
    unfold Lib.hasPrefix at hp
    rw [List.isPrefixOf_iff_prefix] at hp
    obtain ⟨t, rfl⟩ := hp
    rw [List.drop_left] at h
    unfold numK at h
    split at h
    · rename_i hl
      rcases hx : numGo t 0 with _ | x
      · rw [hx] at h; cases h
      · rw [hx] at h
        simp at h
        have hb := numGo_le t 0 x (by omega) hx
        have he := hexL_numGo t x hx
        rw [hl, h] at he
        refine ⟨by unfold wdK; rw [he], ?_⟩
        rw [hl] at hb
        have : (x : Int) < 16 ^ digK k := by have := hb.2; omega
        have e2 : ((16 ^ digK k : Nat) : Int) = (16 : Int) ^ digK k := by simp
        omega
    · cases h
  · cases h
def wdsO (o : Od) (fs : List Nat) : List (List UInt8) := fs.map fun k => wdK k (getK k o)
/-- A row's order is what its fields are. -/
theorem rdF_there (i w : Nat) (hi : i < 31) (o : Od) (ho : o = ordR i w) (hf : ∀ k ∈ fsR i, getK k o < 16 ^ digK k) : rdF (fsR i) (wdsO o (fsR i)) ⟨opR i, 0, 0, 0, 0, 0⟩ = some o := by
  have h0 : ∀ k, k ∈ fsR i → rdK k (wdK k (getK k o)) = some (getK k o) := fun k hk => rdK_wd k _ (hf k hk)
  unfold wdsO
  unfold ordR at ho
  rcases fs_pats i hi with e | e | e | e | e | e <;> rw [e] at h0 ho ⊢ <;> simp only [List.map_cons, List.map_nil]
  · rw [ho]; rfl
  · rw [rdF, h0 0 (by simp), ho]
    simp [rdF, ordF, putK, getK]
  · rw [rdF, h0 4 (by simp), ho]
    simp [rdF, ordF, putK, getK]
  · rw [rdF, h0 0 (by simp)]
    dsimp only
    rw [rdF, h0 1 (by simp), ho]
    simp [rdF, ordF, putK, getK]
  · rw [rdF, h0 0 (by simp)]
    dsimp only
    rw [rdF, h0 3 (by simp), ho]
    simp [rdF, ordF, putK, getK]
  · rw [rdF, h0 0 (by simp)]
    dsimp only
    rw [rdF, h0 1 (by simp)]
    dsimp only
    rw [rdF, h0 2 (by simp), ho]
    simp [rdF, ordF, putK, getK]
theorem row_first (i : Nat) (hi : i < 31) (ws : List (List UInt8)) (hl : ws.length = (fsR i).length) : fstI (rdP (nmR i :: ws)) 31 = some i := by
  refine fstI_some hi (by unfold rdP; simp [hl]) fun j hj => ?_
  unfold rdP
  rw [Bool.and_eq_false_iff]
  left
  rw [beq_eq_false_iff_ne]
  intro e
  exact absurd (nm_row i hi j (by omega) (by simpa using e)) (by omega)
theorem fldB_data (k : Nat) (o : Od) (h : getK k o < 16 ^ digK k) : (fldB k o).data.toList = 32 :: wdK k (getK k o) := by
  unfold fldB wdK
  have e : hexOf (getK k o : Nat) (digK k : Nat) = hexS (digK k) (getK k o) := hexOf_yes _ _ (digK_bd k).1 (Nat.le_trans (digK_bd k).2 (by decide)) (by rw [Nat.sub_zero]; exact Nat.div_eq_of_lt h)
  rw [e, ByteArray.data_append, ByteArray.data_append]
  simp [hexS]
theorem linB_data (o : Od) (fs : List Nat) (hf : ∀ k ∈ fs, getK k o < 16 ^ digK k) : ∀ s : ByteArray, (linB s o fs).data.toList = linL s.data.toList (wdsO o fs) := by
  induction fs with
  | nil => intro s; rfl
  | cons k fs ih =>
    intro s
    show (linB (s ++ fldB k o) o fs).data.toList = linL (s.data.toList ++ 32 :: wdK k (getK k o)) (wdsO o fs)
    rw [ih (fun k' hk => hf k' (by simp [hk])), ByteArray.data_append, Array.toList_append, fldB_data k o (hf k (by simp))]
theorem lineB_data (o : Od) (i : Nat) (hr : rowO o = some i) (hf : ∀ k ∈ fsR i, getK k o < 16 ^ digK k) : (lineB o).data.toList = linL (nmR i) (wdsO o (fsR i)) := by
  unfold lineB
  rw [hr]
  exact linB_data o (fsR i) hf (nmB i)
theorem fs_len3 (i : Nat) (hi : i < 31) : (fsR i).length ≤ 3 := by have := fs_len i hi; omega
/-- Printed and read it is the order. -/
theorem parse_line {o : Od} {w : Nat} (h : encW o = some w) : parseO (lineB o).data.toList = some o := by
  obtain ⟨i, hi, hr, hop, hf, ho⟩ := enc_row h
  have hl := fs_len3 i hi
  unfold parseO wordsL
  rw [lineB_data o i hr hf]
  have hlen := linL_len (wdsO o (fsR i)) (nmR i)
  have hwl : (wdsO o (fsR i)).length = (fsR i).length := by unfold wdsO; simp
  rw [split_lin (wdsO o (fsR i)) (nmR i) _ (nm_bnd i hi).1 (fun x hx => by
    unfold wdsO at hx
    obtain ⟨k, _, rfl⟩ := List.mem_map.1 hx
    exact wdK_ne _ _) (by omega)]
  unfold rdO
  rw [row_first i hi _ hwl]
  dsimp only [List.tail_cons]
  rw [rdF_there i w hi o ho hf]
  dsimp only
  rw [h]
  rfl
theorem rdF_back (i : Nat) (hi : i < 31) (ws : List (List UInt8)) (hl : ws.length = (fsR i).length) (o : Od) (h : rdF (fsR i) ws ⟨opR i, 0, 0, 0, 0, 0⟩ = some o) : o.op = opR i ∧ ws = wdsO o (fsR i) := by
  unfold wdsO
  rcases fs_pats i hi with e | e | e | e | e | e <;> rw [e] at h hl ⊢
  · obtain rfl : ws = [] := List.eq_nil_of_length_eq_zero (by simpa using hl)
    simp [rdF] at h
    subst h
    exact ⟨rfl, rfl⟩
  · obtain ⟨s1, rfl⟩ : ∃ s1, ws = [s1] := by
      match ws, hl with
      | [x0], _ => exact ⟨x0, rfl⟩
    rw [rdF] at h
    rcases h1 : rdK 0 s1 with _ | v1
    · rw [h1] at h; cases h
    rw [h1] at h
    dsimp only at h
    obtain ⟨rfl, b1⟩ := rdK_inv h1
    rw [rdF] at h
    injection h with h
    subst h
    have b1' : v1 % 256 = v1 := Nat.mod_eq_of_lt (Nat.lt_of_lt_of_le b1 (by decide))
    simp [putK, getK, b1']
  · obtain ⟨s1, rfl⟩ : ∃ s1, ws = [s1] := by
      match ws, hl with
      | [x0], _ => exact ⟨x0, rfl⟩
    rw [rdF] at h
    rcases h1 : rdK 4 s1 with _ | v1
    · rw [h1] at h; cases h
    rw [h1] at h
    dsimp only at h
    obtain ⟨rfl, b1⟩ := rdK_inv h1
    rw [rdF] at h
    injection h with h
    subst h
    simp [putK, getK]
  · obtain ⟨s1, s2, rfl⟩ : ∃ s1 s2, ws = [s1, s2] := by
      match ws, hl with
      | [x0, x1], _ => exact ⟨x0, x1, rfl⟩
    rw [rdF] at h
    rcases h1 : rdK 0 s1 with _ | v1
    · rw [h1] at h; cases h
    rw [h1] at h
    dsimp only at h
    rw [rdF] at h
    rcases h2 : rdK 1 s2 with _ | v2
    · rw [h2] at h; cases h
    rw [h2] at h
    dsimp only at h
    obtain ⟨rfl, b1⟩ := rdK_inv h1
    obtain ⟨rfl, b2⟩ := rdK_inv h2
    rw [rdF] at h
    injection h with h
    subst h
    have b1' : v1 % 256 = v1 := Nat.mod_eq_of_lt (Nat.lt_of_lt_of_le b1 (by decide))
    have b2' : v2 % 256 = v2 := Nat.mod_eq_of_lt (Nat.lt_of_lt_of_le b2 (by decide))
    simp [putK, getK, b1', b2']
  · obtain ⟨s1, s2, rfl⟩ : ∃ s1 s2, ws = [s1, s2] := by
      match ws, hl with
      | [x0, x1], _ => exact ⟨x0, x1, rfl⟩
    rw [rdF] at h
    rcases h1 : rdK 0 s1 with _ | v1
    · rw [h1] at h; cases h
    rw [h1] at h
    dsimp only at h
    rw [rdF] at h
    rcases h2 : rdK 3 s2 with _ | v2
    · rw [h2] at h; cases h
    rw [h2] at h
    dsimp only at h
    obtain ⟨rfl, b1⟩ := rdK_inv h1
    obtain ⟨rfl, b2⟩ := rdK_inv h2
    rw [rdF] at h
    injection h with h
    subst h
    have b1' : v1 % 256 = v1 := Nat.mod_eq_of_lt (Nat.lt_of_lt_of_le b1 (by decide))
    have b2' : v2 % 256 = v2 := Nat.mod_eq_of_lt (Nat.lt_of_lt_of_le b2 (by decide))
    simp [putK, getK, b1', b2']
  · obtain ⟨s1, s2, s3, rfl⟩ : ∃ s1 s2 s3, ws = [s1, s2, s3] := by
      match ws, hl with
      | [x0, x1, x2], _ => exact ⟨x0, x1, x2, rfl⟩
    rw [rdF] at h
    rcases h1 : rdK 0 s1 with _ | v1
    · rw [h1] at h; cases h
    rw [h1] at h
    dsimp only at h
    rw [rdF] at h
    rcases h2 : rdK 1 s2 with _ | v2
    · rw [h2] at h; cases h
    rw [h2] at h
    dsimp only at h
    rw [rdF] at h
    rcases h3 : rdK 2 s3 with _ | v3
    · rw [h3] at h; cases h
    rw [h3] at h
    dsimp only at h
    obtain ⟨rfl, b1⟩ := rdK_inv h1
    obtain ⟨rfl, b2⟩ := rdK_inv h2
    obtain ⟨rfl, b3⟩ := rdK_inv h3
    rw [rdF] at h
    injection h with h
    subst h
    have b1' : v1 % 256 = v1 := Nat.mod_eq_of_lt (Nat.lt_of_lt_of_le b1 (by decide))
    have b2' : v2 % 256 = v2 := Nat.mod_eq_of_lt (Nat.lt_of_lt_of_le b2 (by decide))
    have b3' : v3 % 256 = v3 := Nat.mod_eq_of_lt (Nat.lt_of_lt_of_le b3 (by decide))
    simp [putK, getK, b1', b2', b3']
/-- Read and printed it is the line. -/
theorem line_parse {s : List UInt8} {o : Od} (h : parseO s = some o) : (encW o).isSome = true ∧ (lineB o).data.toList = s := by
  unfold parseO rdO at h
  split at h
  · cases h
  · rename_i i hi
    obtain ⟨h1, h2, _⟩ := fstI_of hi
    split at h
    · cases h
    · rename_i o' hr
      split at h
      · rename_i he
        injection h with h
        subst h
        unfold rdP at h2
        rw [Bool.and_eq_true, beq_iff_eq, beq_iff_eq] at h2
        rcases hw : wordsL s with _ | ⟨a, r⟩
        · rw [hw] at h2
          exfalso
          have := (nm_bnd i h1).2.1
          rw [h2.1] at this
          simp at this
        · rw [hw] at h2 hr
          simp only [List.headD_cons, List.length_cons, Nat.add_sub_cancel, List.tail_cons] at h2 hr
          obtain ⟨b1, b2⟩ := rdF_back i h1 r h2.2.symm o' hr
          obtain ⟨x, hx⟩ := Option.isSome_iff_exists.1 he
          obtain ⟨i', hi', hr', hop', hf', _⟩ := enc_row hx
          have hri := rowO_row i h1 o' b1
          rw [hri] at hr'
          injection hr' with hr'
          subst hr'
          refine ⟨he, ?_⟩
          rw [lineB_data o' i hri hf', ← b2]
          have := lin_split _ _ _ _ hw
          rw [h2.1]
          exact this
      · cases h
end Go.Proofs.YthaijjehplomfaaDoor

namespace Go.Proofs.YthaijjehplomfaaDoor
open Go Go.RowKit
set_option linter.unusedVariables false
set_option maxHeartbeats 1000000
set_option maxRecDepth 20000

theorem fldV_word (k w : Nat) (hw : w < 65536) : fldV k w < 65536 := by
  unfold fldV
  rw [Nat.shiftRight_eq_div_pow]
  exact Nat.lt_of_le_of_lt (Nat.div_le_self _ _) (Nat.lt_of_le_of_lt Nat.and_le_left hw)
theorem OdR.ord (w : Nat) (hw : w < 65536) : ∀ (fs : List Nat) (o : Od), OdR o → OdR (ordF o w fs) := by
  intro fs
  induction fs with
  | nil => intro o h; exact h
  | cons k fs ih => intro o h; exact ih _ (h.put k _ (fldV_word k w hw))
theorem wrdF_lt (o : Od) (fs : List Nat) : ∀ u, u < 65536 → wrdF u o fs < 65536 := by
  induction fs with
  | nil => intro u h; exact h
  | cons k fs ih => intro u h; exact ih _ (Nat.or_lt_two_pow (n := 16) h (Nat.mod_lt _ (by decide)))
theorem enc_lt {o : Od} {x : Nat} (h : encW o = some x) : x < 65536 := by
  obtain ⟨i, h1, rfl, _⟩ := encW_of h
  exact wrdF_lt o _ _ (wd_bnd i (fstI_of h1).1)
theorem enc_R {o : Od} {x : Nat} (h : encW o = some x) : OdR o := by
  obtain ⟨i, hi, _, _, _, ho⟩ := enc_row h
  rw [ho]
  exact OdR.ord x (enc_lt h) _ _ (OdR.zero _ (Nat.lt_of_le_of_lt (op_bnd i hi).2 (by decide)))
/-- The length that the library's search asks for stands. -/
def Tm (mx : Int) (w : World) : Prop := w.cell? ⟨0, 0, none⟩ = some (.int .i64 mx)
theorem Tm.below {mx : Int} {w y : World} (h : Tm mx w) (hb : Below w.heap.size w y) : Tm mx y := (hb.cell (World.block_lt_of_cell? w _ h)).trans h
end Go.Proofs.YthaijjehplomfaaDoor

namespace Go.Proofs.YthaijjehplomfaaDoor
open Go Go.RowKit Go.ChangeShapes Go.WideShapes Go.Shelf
set_option linter.unusedVariables false
set_option maxHeartbeats 400000
set_option maxRecDepth 100000

theorem wf_u8 {z : Int} (h : (Lit.int .u8 z).wf = true) : 0 ≤ z ∧ z < 256 := by
  have a : IntKind.min .u8 = 0 := by decide
  have b : IntKind.max .u8 = 255 := by decide
  simp only [Lit.wf, a, b, Bool.and_eq_true, decide_eq_true_eq] at h
  omega
theorem wf_u16 {z : Int} (h : (Lit.int .u16 z).wf = true) : 0 ≤ z ∧ z < 65536 := by
  have a : IntKind.min .u16 = 0 := by decide
  have b : IntKind.max .u16 = 65535 := by decide
  simp only [Lit.wf, a, b, Bool.and_eq_true, decide_eq_true_eq] at h
  omega
theorem list6 {α : Type} {l : List α} (h : l.length = 6) : ∃ a b c d e f, l = [a, b, c, d, e, f] := by
  match l, h with
  | [a, b, c, d, e, f], _ => exact ⟨a, b, c, d, e, f, rfl⟩
theorem some_of {α : Type} {l : List α} {k i : Nat} (h : l.length = k) (hi : i < k) : ∃ y, l[i]? = some y := ⟨_, List.getElem?_eq_getElem (by omega)⟩
theorem undO : Tryd.prog.underlying 28 = some (.int .u8) := by kernel_rfl
theorem openOd {H : Type} {enc : TypeId × Value → H} {w : World} {m : Nat} {cs : List Value} {x : DataW H × List MemPlace} (h : DataW.trod enc Tryd.prog w 0 (fun _ => true) true m 30 cs = some x) : ∃ o : Od, OdR o ∧ cs = (o6 o).toList := by
  obtain ⟨xs, n, _, rfl, hl, hxl, hf⟩ := DataW.trod_struct Tryd.underlying30 h
  obtain ⟨c0, c1, c2, c3, c4, c5, rfl⟩ := list6 (hl.trans (by kernel_rfl))
  have kO : Tryd.prog.cellsOf 28 = 1 := by kernel_rfl
  have k5 : Tryd.prog.cellsOf 5 = 1 := by kernel_rfl
  have k27 : Tryd.prog.cellsOf 27 = 1 := by kernel_rfl
  have hx6 : xs.length = 6 := hxl
  obtain ⟨y0, e0⟩ := some_of hx6 (show 0 < 6 by decide)
  obtain ⟨y1, e1⟩ := some_of hx6 (show 1 < 6 by decide)
  obtain ⟨y2, e2⟩ := some_of hx6 (show 2 < 6 by decide)
  obtain ⟨y3, e3⟩ := some_of hx6 (show 3 < 6 by decide)
  obtain ⟨y4, e4⟩ := some_of hx6 (show 4 < 6 by decide)
  obtain ⟨y5, e5⟩ := some_of hx6 (show 5 < 6 by decide)
  have g0 := (hf 0 _ rfl).trans e0
  have g1 := (hf 1 _ rfl).trans e1
  have g2 := (hf 2 _ rfl).trans e2
  have g3 := (hf 3 _ rfl).trans e3
  have g4 := (hf 4 _ rfl).trans e4
  have g5 := (hf 5 _ rfl).trans e5
  simp [kO] at g0
  simp [k5] at g1 g2 g3 g4
  simp [k27] at g5
  obtain ⟨z0, q0, _, w0⟩ := DataW.trod_int undO g0
  obtain ⟨z1, q1, _, w1⟩ := DataW.trod_int Tryd.underlying5 g1
  obtain ⟨z2, q2, _, w2⟩ := DataW.trod_int Tryd.underlying5 g2
  obtain ⟨z3, q3, _, w3⟩ := DataW.trod_int Tryd.underlying5 g3
  obtain ⟨z4, q4, _, w4⟩ := DataW.trod_int Tryd.underlying5 g4
  obtain ⟨z5, q5, _, w5⟩ := DataW.trod_int Tryd.underlying27 g5
  simp at q0 q1 q2 q3 q4 q5
  subst q0 q1 q2 q3 q4 q5
  have b0 := wf_u8 w0
  have b1 := wf_u8 w1
  have b2 := wf_u8 w2
  have b3 := wf_u8 w3
  have b4 := wf_u8 w4
  have b5 := wf_u16 w5
  refine ⟨⟨z0.toNat, z1.toNat, z2.toNat, z3.toNat, z4.toNat, z5.toNat⟩, ⟨by show z0.toNat < 256; omega, by show z1.toNat < 256; omega, by show z2.toNat < 256; omega, by show z3.toNat < 256; omega, by show z4.toNat < 256; omega, by show z5.toNat < 65536; omega⟩, ?_⟩
  show _ = [Value.int .u8 ((z0.toNat : Nat) : Int), .int .u8 ((z1.toNat : Nat) : Int), .int .u8 ((z2.toNat : Nat) : Int), .int .u8 ((z3.toNat : Nat) : Int), .int .u8 ((z4.toNat : Nat) : Int), .int .u16 ((z5.toNat : Nat) : Int)]
  rw [Int.toNat_of_nonneg b0.1, Int.toNat_of_nonneg b1.1, Int.toNat_of_nonneg b2.1, Int.toNat_of_nonneg b3.1, Int.toNat_of_nonneg b4.1, Int.toNat_of_nonneg b5.1]
def theLaid13 : List (String × DataW Unit) := [("unicode/utf8.acceptRanges", Rows.laid_unicode_utf8_acceptRanges), ("unicode/utf8.first", Rows.laid_unicode_utf8_first)]
def TmE (W : World) : Prop := ∃ mx, Tm mx W
theorem tabs_of {W : World} (hL : laidMet Tryd.prog theLaid13 W) (hsh : W.ShapedOpen Tryd.prog) : TmE W :=
  cell_of_shapedOpen_int hsh (g := 0) (t := 3) (zero := #[.int .i64 0]) (of_decide_eq_true (by kernel_rfl)) (by kernel_rfl) rfl (by kernel_rfl) (by kernel_rfl) Tryd.underlying3
/-- A world in which the listed tables stand. -/
def putCells (cs : List Value) : Obj → Obj
  | .cells _ t frozen => .cells cs.toArray t frozen
  | o => o
def accL : List Nat := [128, 191, 160, 191, 128, 159, 144, 191, 128, 143, 0, 0, 0, 0, 0, 0, 0, 0, 0, 0, 0, 0, 0, 0, 0, 0, 0, 0, 0, 0, 0, 0]
def numU8 (n : Nat) : Value := .int .u8 (n : Int)
def laidWorld (P : Program) (os : Os) : World :=
  { World.holding P os ⟨#[], #[], []⟩ with
    heap := ((World.holding P os ⟨#[], #[], []⟩).heap.modify 2 (putCells (accL.map numU8))).modify 1 (putCells (Go.Pinned.utf8FirstZ.map numU8)) }
end Go.Proofs.YthaijjehplomfaaDoor
