/- Lines and orders are one to one. -/
import Derived.Test.YtfdikiafbfljaaaDoorPa3
namespace Go.Proofs.YtfdikiafbfljaaaDoor
open Go Go.RowKit
set_option linter.unusedVariables false
set_option maxHeartbeats 1000000
set_option maxRecDepth 20000

theorem occ1 (s : List UInt8) (c : UInt8) (i : Nat) : Lib.occAt s [c] i = (s[i]? == some c) := by
  unfold Lib.occAt
  rw [← List.head?_drop]
  rcases s.drop i with _ | ⟨x, r⟩
  · rfl
  · rw [Bool.eq_iff_iff]
    simp only [List.isPrefixOf_cons_cons, List.isPrefixOf_nil_left, Bool.and_true, List.head?_cons, beq_iff_eq, Option.some.injEq]
    exact eq_comm
theorem index_hit (a r : List UInt8) (h : 32 ∉ a) : Lib.index (a ++ 32 :: r) [32] = (a.length : Nat) := by
  refine Lib.index_first (by simp) (by rw [occ1]; simp) fun j hj => ?_
  rw [occ1, List.getElem?_append_left hj, beq_eq_false_iff_ne]
  intro e
  exact h (List.mem_of_getElem? e)
theorem index_no (a : List UInt8) (h : 32 ∉ a) : Lib.index a [32] = -1 := by
  refine Lib.index_none fun j _ => ?_
  rw [occ1, beq_eq_false_iff_ne]
  intro e
  exact h (List.mem_of_getElem? e)
theorem split_hit (k : Nat) (a r : List UInt8) (h : 32 ∉ a) : Lib.splitK [32] 0 (k + 1) (a ++ 32 :: r) = a :: Lib.splitK [32] 0 k r := by
  rw [Lib.splitK, index_hit a r h, if_neg (by simp)]
  have e : ((a.length : Nat) : Int).toNat = a.length := by simp
  rw [e]
  congr 1
  · simp
  · congr 1
    simp
theorem split_no (k : Nat) (a : List UInt8) (h : 32 ∉ a) : Lib.splitK [32] 0 k a = [a] := by
  cases k with
  | zero => rfl
  | succ k => rw [Lib.splitK, index_no a h]; rfl
/-- Words with a blank between each two. -/
def linL (a : List UInt8) (ws : List (List UInt8)) : List UInt8 := ws.foldl (fun s x => s ++ 32 :: x) a
theorem linL_app (a b : List UInt8) (ws : List (List UInt8)) : linL (a ++ b) ws = a ++ linL b ws := by
  induction ws generalizing b with
  | nil => rfl
  | cons x r ih =>
    show linL (a ++ b ++ 32 :: x) r = a ++ linL (b ++ 32 :: x) r
    rw [List.append_assoc, ih]
theorem linL_cons (a x : List UInt8) (r : List (List UInt8)) : linL a (x :: r) = a ++ 32 :: linL x r := by
  show linL (a ++ 32 :: x) r = _
  rw [linL_app]
  have e : linL (32 :: x) r = 32 :: linL x r := linL_app [32] x r
  rw [e]
theorem split_lin (ws : List (List UInt8)) : ∀ (a : List UInt8) (k : Nat), 32 ∉ a → (∀ x ∈ ws, 32 ∉ x) → ws.length ≤ k → Lib.splitK [32] 0 k (linL a ws) = a :: ws := by
  induction ws with
  | nil => intro a k h _ _; exact split_no k a h
  | cons x r ih =>
    intro a k h hx hk
    rw [linL_cons]
    cases k with
    | zero => simp at hk
    | succ k =>
      rw [split_hit k a _ h, ih x k (hx x (by simp)) (fun y hy => hx y (by simp [hy])) (by simpa using hk)]
theorem linL_len (ws : List (List UInt8)) : ∀ a : List UInt8, ws.length ≤ (linL a ws).length := by
  induction ws with
  | nil => intro a; simp
  | cons x r ih =>
    intro a
    rw [linL_cons]
    have := ih x
    simp
    omega
theorem lin_split (k : Nat) : ∀ (s a : List UInt8) (r : List (List UInt8)), Lib.splitK [32] 0 k s = a :: r → linL a r = s := by
  induction k with
  | zero =>
    intro s a r h
    simp [Lib.splitK] at h
    obtain ⟨rfl, rfl⟩ := h
    rfl
  | succ k ih =>
    intro s a r h
    rw [Lib.splitK] at h
    split at h
    · simp at h
      obtain ⟨rfl, rfl⟩ := h
      rfl
    · rename_i hi
      rcases Lib.index_spec s [32] with ⟨e, _⟩ | ⟨i, e, hi1, ho, _⟩
      · rw [e] at hi
        exact absurd rfl hi
      · rw [e] at h
        have et : ((i : Nat) : Int).toNat = i := by simp
        rw [et] at h
        injection h with h1 h2
        rcases hr : Lib.splitK [32] 0 k (s.drop (i + [32].length)) with _ | ⟨b, r'⟩
        · cases k with
          | zero => simp [Lib.splitK] at hr
          | succ k => rw [Lib.splitK] at hr; split at hr <;> cases hr
        · have h2 := h2.symm.trans hr
          have hj := ih _ _ _ hr
          rw [h2, linL_cons, hj, ← h1]
          rw [occ1, beq_iff_eq] at ho
          obtain ⟨hl, he⟩ := List.getElem?_eq_some_iff.1 ho
          have e3 : s.drop i = 32 :: s.drop (i + 1) := by rw [List.drop_eq_getElem_cons hl, he]
          have e4 : s.take i ++ s.drop i = s := List.take_append_drop i s
          rw [e3] at e4
          simpa using e4
/-- The words that fields are. -/
def wdK (k v : Nat) : List UInt8 := ledK k ++ hexL (digK k) v
theorem hexC_ne (x : Int) (h0 : 0 ≤ x) (h1 : x < 16) : UInt8.ofNat (hexC x).toNat ≠ 32 := by
  obtain ⟨n, rfl⟩ : ∃ n : Nat, x = n := ⟨x.toNat, by omega⟩
  have hn : n < 16 := by omega
  have key : ∀ m : Fin 16, UInt8.ofNat (hexC (m.val : Int)).toNat ≠ 32 := by decide
  exact key ⟨n, hn⟩
theorem hexL_ne (d n : Nat) : 32 ∉ hexL d n := by
  intro h
  unfold hexL at h
  obtain ⟨j, _, e⟩ := List.mem_map.1 h
  unfold hexAt at e
  exact hexC_ne _ (by omega) (by omega) e
theorem wdK_ne (k v : Nat) : 32 ∉ wdK k v := by
  unfold wdK
  intro h
  rcases List.mem_append.1 h with h | h
  · unfold ledK at h
    (repeat' split at h) <;> simp at h
  · exact hexL_ne _ _ h
theorem rdK_wd (k v : Nat) (hv : v < 16 ^ digK k) : rdK k (wdK k v) = some v := by
  unfold rdK wdK
  rw [if_pos (by unfold Lib.hasPrefix; rw [List.isPrefixOf_iff_prefix]; exact List.prefix_append _ _), List.drop_left]
  unfold numK
  rw [if_pos (hexL_len _ _), numGo_hexL _ _ hv]
  simp
theorem rdK_inv {k v : Nat} {s : List UInt8} (h : rdK k s = some v) : s = wdK k v ∧ v < 16 ^ digK k := by
  unfold rdK at h
  split at h
  · rename_i hp
    unfold Lib.hasPrefix at hp
    rw [List.isPrefixOf_iff_prefix] at hp
    obtain ⟨t, rfl⟩ := hp
    rw [List.drop_left] at h
    unfold numK at h
    split at h
    · rename_i hl
      rcases hx : numGo t 0 with _ | x
      · rw [hx] at h; cases h
      · rw [hx] at h
        simp at h
        have hb := numGo_le t 0 x (by omega) hx
        have he := hexL_numGo t x hx
        rw [hl, h] at he
        refine ⟨by unfold wdK; rw [he], ?_⟩
        rw [hl] at hb
        have : (x : Int) < 16 ^ digK k := by have := hb.2; omega
        have e2 : ((16 ^ digK k : Nat) : Int) = (16 : Int) ^ digK k := by simp
        omega
    · cases h
  · cases h
def wdsO (o : Od) (fs : List Nat) : List (List UInt8) := fs.map fun k => wdK k (getK k o)
/-- A row's order is what its fields are. -/
theorem rdF_there (i w : Nat) (hi : i < 31) (o : Od) (ho : o = ordR i w) (hf : ∀ k ∈ fsR i, getK k o < 16 ^ digK k) : rdF (fsR i) (wdsO o (fsR i)) ⟨opR i, 0, 0, 0, 0, 0⟩ = some o := by
  have h0 : ∀ k, k ∈ fsR i → rdK k (wdK k (getK k o)) = some (getK k o) := fun k hk => rdK_wd k _ (hf k hk)
  unfold wdsO
  unfold ordR at ho
  rcases fs_pats i hi with e | e | e | e | e | e <;> rw [e] at h0 ho ⊢ <;> simp only [List.map_cons, List.map_nil]
  · rw [ho]; rfl
  · rw [rdF, h0 0 (by simp), ho]
    simp [rdF, ordF, putK, getK]
  · rw [rdF, h0 4 (by simp), ho]
    simp [rdF, ordF, putK, getK]
  · rw [rdF, h0 0 (by simp)]
    dsimp only
    rw [rdF, h0 1 (by simp), ho]
    simp [rdF, ordF, putK, getK]
  · rw [rdF, h0 0 (by simp)]
    dsimp only
    rw [rdF, h0 3 (by simp), ho]
    simp [rdF, ordF, putK, getK]
  · rw [rdF, h0 0 (by simp)]
    dsimp only
    rw [rdF, h0 1 (by simp)]
    dsimp only
    rw [rdF, h0 2 (by simp), ho]
    simp [rdF, ordF, putK, getK]
theorem row_first (i : Nat) (hi : i < 31) (ws : List (List UInt8)) (hl : ws.length = (fsR i).length) : fstI (rdP (nmR i :: ws)) 31 = some i := by
  refine fstI_some hi (by unfold rdP; simp [hl]) fun j hj => ?_
  unfold rdP
  rw [Bool.and_eq_false_iff]
  left
  rw [beq_eq_false_iff_ne]
  intro e
  exact absurd (nm_row i hi j (by omega) (by simpa using e)) (by omega)
theorem fldB_data (k : Nat) (o : Od) (h : getK k o < 16 ^ digK k) : (fldB k o).data.toList = 32 :: wdK k (getK k o) := by
  unfold fldB wdK
  have e : hexOf (getK k o : Nat) (digK k : Nat) = hexS (digK k) (getK k o) := hexOf_yes _ _ (digK_bd k).1 (Nat.le_trans (digK_bd k).2 (by decide)) (by rw [Nat.sub_zero]; exact Nat.div_eq_of_lt h)
  rw [e, ByteArray.data_append, ByteArray.data_append]
  simp [hexS]
theorem linB_data (o : Od) (fs : List Nat) (hf : ∀ k ∈ fs, getK k o < 16 ^ digK k) : ∀ s : ByteArray, (linB s o fs).data.toList = linL s.data.toList (wdsO o fs) := by
  induction fs with
  | nil => intro s; rfl
  | cons k fs ih =>
    intro s
    show (linB (s ++ fldB k o) o fs).data.toList = linL (s.data.toList ++ 32 :: wdK k (getK k o)) (wdsO o fs)
    rw [ih (fun k' hk => hf k' (by simp [hk])), ByteArray.data_append, Array.toList_append, fldB_data k o (hf k (by simp))]
theorem lineB_data (o : Od) (i : Nat) (hr : rowO o = some i) (hf : ∀ k ∈ fsR i, getK k o < 16 ^ digK k) : (lineB o).data.toList = linL (nmR i) (wdsO o (fsR i)) := by
  unfold lineB
  rw [hr]
  exact linB_data o (fsR i) hf (nmB i)
theorem fs_len3 (i : Nat) (hi : i < 31) : (fsR i).length ≤ 3 := by have := fs_len i hi; omega
/-- Printed and read it is the order. -/
theorem parse_line {o : Od} {w : Nat} (h : encW o = some w) : parseO (lineB o).data.toList = some o := by
  obtain ⟨i, hi, hr, hop, hf, ho⟩ := enc_row h
  have hl := fs_len3 i hi
  unfold parseO wordsL
  rw [lineB_data o i hr hf]
  have hlen := linL_len (wdsO o (fsR i)) (nmR i)
  have hwl : (wdsO o (fsR i)).length = (fsR i).length := by unfold wdsO; simp
  rw [split_lin (wdsO o (fsR i)) (nmR i) _ (nm_bnd i hi).1 (fun x hx => by
    unfold wdsO at hx
    obtain ⟨k, _, rfl⟩ := List.mem_map.1 hx
    exact wdK_ne _ _) (by omega)]
  unfold rdO
  rw [row_first i hi _ hwl]
  dsimp only [List.tail_cons]
  rw [rdF_there i w hi o ho hf]
  dsimp only
  rw [h]
  rfl
theorem rdF_back (i : Nat) (hi : i < 31) (ws : List (List UInt8)) (hl : ws.length = (fsR i).length) (o : Od) (h : rdF (fsR i) ws ⟨opR i, 0, 0, 0, 0, 0⟩ = some o) : o.op = opR i ∧ ws = wdsO o (fsR i) := by
  unfold wdsO
  rcases fs_pats i hi with e | e | e | e | e | e <;> rw [e] at h hl ⊢
  · obtain rfl : ws = [] := List.eq_nil_of_length_eq_zero (by simpa using hl)
    simp [rdF] at h
    subst h
    exact ⟨rfl, rfl⟩
  · obtain ⟨s1, rfl⟩ : ∃ s1, ws = [s1] := by
      match ws, hl with
      | [x0], _ => exact ⟨x0, rfl⟩
    rw [rdF] at h
    rcases h1 : rdK 0 s1 with _ | v1
    · rw [h1] at h; cases h
    rw [h1] at h
    dsimp only at h
    obtain ⟨rfl, b1⟩ := rdK_inv h1
    rw [rdF] at h
    injection h with h
    subst h
    have b1' : v1 % 256 = v1 := Nat.mod_eq_of_lt (Nat.lt_of_lt_of_le b1 (by decide))
    simp [putK, getK, b1']
  · obtain ⟨s1, rfl⟩ : ∃ s1, ws = [s1] := by
      match ws, hl with
      | [x0], _ => exact ⟨x0, rfl⟩
    rw [rdF] at h
    rcases h1 : rdK 4 s1 with _ | v1
    · rw [h1] at h; cases h
    rw [h1] at h
    dsimp only at h
    obtain ⟨rfl, b1⟩ := rdK_inv h1
    rw [rdF] at h
    injection h with h
    subst h
    simp [putK, getK]
  · obtain ⟨s1, s2, rfl⟩ : ∃ s1 s2, ws = [s1, s2] := by
      match ws, hl with
      | [x0, x1], _ => exact ⟨x0, x1, rfl⟩
    rw [rdF] at h
    rcases h1 : rdK 0 s1 with _ | v1
    · rw [h1] at h; cases h
    rw [h1] at h
    dsimp only at h
    rw [rdF] at h
    rcases h2 : rdK 1 s2 with _ | v2
    · rw [h2] at h; cases h
    rw [h2] at h
    dsimp only at h
    obtain ⟨rfl, b1⟩ := rdK_inv h1
    obtain ⟨rfl, b2⟩ := rdK_inv h2
    rw [rdF] at h
    injection h with h
    subst h
    have b1' : v1 % 256 = v1 := Nat.mod_eq_of_lt (Nat.lt_of_lt_of_le b1 (by decide))
    have b2' : v2 % 256 = v2 := Nat.mod_eq_of_lt (Nat.lt_of_lt_of_le b2 (by decide))
    simp [putK, getK, b1', b2']
  · obtain ⟨s1, s2, rfl⟩ : ∃ s1 s2, ws = [s1, s2] := by
      match ws, hl with
      | [x0, x1], _ => exact ⟨x0, x1, rfl⟩
    rw [rdF] at h
    rcases h1 : rdK 0 s1 with _ | v1
    · rw [h1] at h; cases h
    rw [h1] at h
    dsimp only at h
    rw [rdF] at h
    rcases h2 : rdK 3 s2 with _ | v2
    · rw [h2] at h; cases h
    rw [h2] at h
    dsimp only at h
    obtain ⟨rfl, b1⟩ := rdK_inv h1
    obtain ⟨rfl, b2⟩ := rdK_inv h2
    rw [rdF] at h
    injection h with h
    subst h
    have b1' : v1 % 256 = v1 := Nat.mod_eq_of_lt (Nat.lt_of_lt_of_le b1 (by decide))
    have b2' : v2 % 256 = v2 := Nat.mod_eq_of_lt (Nat.lt_of_lt_of_le b2 (by decide))
    simp [putK, getK, b1', b2']
  · obtain ⟨s1, s2, s3, rfl⟩ : ∃ s1 s2 s3, ws = [s1, s2, s3] := by
      match ws, hl with
      | [x0, x1, x2], _ => exact ⟨x0, x1, x2, rfl⟩
    rw [rdF] at h
    rcases h1 : rdK 0 s1 with _ | v1
    · rw [h1] at h; cases h
    rw [h1] at h
    dsimp only at h
    rw [rdF] at h
    rcases h2 : rdK 1 s2 with _ | v2
    · rw [h2] at h; cases h
    rw [h2] at h
    dsimp only at h
    rw [rdF] at h
    rcases h3 : rdK 2 s3 with _ | v3
    · rw [h3] at h; cases h
    rw [h3] at h
    dsimp only at h
    obtain ⟨rfl, b1⟩ := rdK_inv h1
    obtain ⟨rfl, b2⟩ := rdK_inv h2
    obtain ⟨rfl, b3⟩ := rdK_inv h3
    rw [rdF] at h
    injection h with h
    subst h
    have b1' : v1 % 256 = v1 := Nat.mod_eq_of_lt (Nat.lt_of_lt_of_le b1 (by decide))
    have b2' : v2 % 256 = v2 := Nat.mod_eq_of_lt (Nat.lt_of_lt_of_le b2 (by decide))
    have b3' : v3 % 256 = v3 := Nat.mod_eq_of_lt (Nat.lt_of_lt_of_le b3 (by decide))
    simp [putK, getK, b1', b2', b3']
/-- Read and printed it is the line. -/
theorem line_parse {s : List UInt8} {o : Od} (h : parseO s = some o) : (encW o).isSome = true ∧ (lineB o).data.toList = s := by
  unfold parseO rdO at h
  split at h
  · cases h
  · rename_i i hi
    obtain ⟨h1, h2, _⟩ := fstI_of hi
    split at h
    · cases h
    · rename_i o' hr
      split at h
      · rename_i he
        injection h with h
        subst h
        unfold rdP at h2
        rw [Bool.and_eq_true, beq_iff_eq, beq_iff_eq] at h2
        rcases hw : wordsL s with _ | ⟨a, r⟩
        · rw [hw] at h2
          exfalso
          have := (nm_bnd i h1).2.1
          rw [h2.1] at this
          simp at this
        · rw [hw] at h2 hr
          simp only [List.headD_cons, List.length_cons, Nat.add_sub_cancel, List.tail_cons] at h2 hr
          obtain ⟨b1, b2⟩ := rdF_back i h1 r h2.2.symm o' hr
          obtain ⟨x, hx⟩ := Option.isSome_iff_exists.1 he
          obtain ⟨i', hi', hr', hop', hf', _⟩ := enc_row hx
          have hri := rowO_row i h1 o' b1
          rw [hri] at hr'
          injection hr' with hr'
          subst hr'
          refine ⟨he, ?_⟩
          rw [lineB_data o' i hri hf', ← b2]
          have := lin_split _ _ _ _ hw
          rw [h2.1]
          exact this
      · cases h
theorem parse_R {s : List UInt8} {o : Od} (h : parseO s = some o) : ∃ w, encW o = some w := Option.isSome_iff_exists.1 (line_parse h).1
end Go.Proofs.YtfdikiafbfljaaaDoor
