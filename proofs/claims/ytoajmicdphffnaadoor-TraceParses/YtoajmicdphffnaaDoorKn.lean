/- The record that begins at a place: what is asked; none is there whole. -/
import Derived.Test.YtoajmicdphffnaaDoorKp
namespace Go.Proofs.YtoajmicdphffnaaDoor
open Go Go.RowKit
set_option linter.unusedVariables false
set_option maxHeartbeats 20000000
set_option maxRecDepth 20000

/-- Bytes that lie in a row. -/
def LiesB (x : World) (sp : Option Addr) (l : List UInt8) : Prop := ∀ j b, l[j]? = some b → ∃ g o, sp = some ⟨g, o, none⟩ ∧ x.cell? ⟨g, o + j, none⟩ = some (byV b)
theorem LiesB.below {x y : World} {sp : Option Addr} {l : List UInt8} (h : LiesB x sp l) (hb : Below x.heap.size x y) : LiesB y sp l := fun j s hj => by
  obtain ⟨g, o, e, c⟩ := h j s hj
  exact ⟨g, o, e, (hb.cell (p := ⟨g, o + j, none⟩) (World.block_lt_of_cell? x _ c)).trans c⟩
def oneK : Option (Rc × Nat) → Int
  | none => 0
  | some x => (x.2 : Int)
theorem built7 (a b c : Int) (p q r : Bool) (d : Int) : Tryd.prog.built 45 [(0, .int .u8 a), (3, .bool p), (4, .bool q), (6, .bool r), (7, .int .u8 d), (1, .int .u16 b), (2, .int .u8 c)] = some (rcC ⟨a, b, c, p, q, 0, r, d⟩) := by kernel_rfl
theorem idxB (g o n cap k : Nat) (h : k < n) (v : World) : (Instr.indexAt 34 (.slice (some ⟨g, o, none⟩) n cap) (.int .i64 (k : Int))).run Tryd.prog v = .ok (.pointer (some ⟨g, o + k, none⟩)) v := by
  have := idxP (g := g) (off := o) (len := n) (cap := cap) Tryd.underlying34 (s := 1) (by kernel_rfl) .i64 k v h
  rw [Nat.mul_one] at this
  exact this
theorem one_none (l : List UInt8) (next : Int) (h : ∀ x t, l = x :: t → t.length < (if 128 ≤ x.toNat then 4 else 1)) : oneR l next = none := by
  match l, h with
  | [], _ => rfl
  | x :: t, h =>
    have h1 := h x t rfl
    simp only [oneR]
    by_cases hx : 128 ≤ x.toNat
    · rw [if_pos hx] at h1 ⊢
      match t, h1 with
      | [], _ => rfl
      | [_], _ => rfl
      | [_, _], _ => rfl
      | [_, _, _], _ => rfl
      | _ :: _ :: _ :: _ :: _, h1 => simp at h1; omega
    · rw [if_neg hx] at h1 ⊢
      match t, h1 with
      | [], _ => rfl
      | _ :: _, h1 => simp at h1
theorem get_drop {l : List UInt8} {k : Nat} (h : k < l.length) : ∃ x, l[k]? = some x ∧ l.drop k = x :: l.drop (k + 1) := ⟨l[k], List.getElem?_eq_getElem h, List.drop_eq_getElem_cons h⟩
theorem rrec1_end (w : World) (sp : Option Addr) (cap : Nat) (l : List UInt8) (at' : Nat) (next : Int) (hl : Hid (LiesB w sp l)) (hn : l.length ≤ 4611686018427387904) (ha : at' ≤ l.length) (n0 : 0 ≤ next) (n1 : next ≤ 65535) (hlong : at' = l.length) :
    Calls Tryd.prog 48 #[.slice sp l.length cap, .int .i64 (at' : Int), .int .u16 next] w fun e w' => ∃ s', e = .returned (.tuple #[.agg (rcC s'), .int .i64 (oneK (oneR (l.drop at') next))]) ∧ Hid ((∀ r k, oneR (l.drop at') next = some (r, k) → s' = r) ∧ Below w.heap.size w w') := by
  have zz := zeroV_R
  have hF : Hid (Fm w [(w.heap.size, rcC zR, 45)] (w.alloc (.cells (rcC zR) 45))) := Fm.one w _ _
  have hb0 : Hid (Tryd.prog.built 45 [] = some (rcC zR)) := built0
  obtain ⟨n, hn'⟩ : ∃ n, l.length = n := ⟨_, rfl⟩
  rw [hn'] at hn ha hlong ⊢
  have hnn : Hid (l.length = n) := hn'
  have ni : (n : Int) ≤ 4611686018427387904 := by omega
  have ai : (at' : Int) ≤ n := by omega
  have hend : at' = n := hlong
  clear hlong
  have fin : Hid (oneR (l.drop at') next = none) := by show _ = _; rw [List.drop_eq_nil_of_le (by omega)]; rfl
  subst hend
  clear ha hn'
  go_enter Tryd.func48, Tryd.ntmps48
  go_wp2_with (first
    | ((with_reducible refine gen_world (w.alloc (.cells (rcC zR) 45)) (Fm w [(w.heap.size, rcC zR, 45)]) hF.out ?_); intro y0 K0)
    | ((with_reducible refine at_bu #[] [] (rcC zR) ?_ ?_ ?_ hb0.out ?_); kernel_rfl; rfl; rfl)
    | ((with_reducible refine at_st rtR w.heap.size (rcC zR) (rcC zR) ?_ ?_ ?_ ?_ (.tmp 6) (.tmp 16) ?_ ?_ ?_ ?_ ?_); exact K0.out.bx 0 _ _ _ rfl; rfl; rfl; exact rcC_one _; rfl; rfl; rfl; rfl; intro y9 hw9; have K9 : Hid (Fm w [(w.heap.size, rcC zR, 45)] y9) := K0.out.put 0 _ _ _ _ rfl hw9.out))
  exact ret_row2 rtR rfl rfl rfl (K9.out.bx 0 _ _ _ rfl) rfl rfl ⟨_, by rw [fin.out]; rfl, (fun r k h => by rw [fin.out] at h; cases h), K9.out.low⟩

theorem rrec1_fshort (w : World) (sp : Option Addr) (cap : Nat) (l : List UInt8) (at' : Nat) (next : Int) (hl : Hid (LiesB w sp l)) (hn : l.length ≤ 4611686018427387904) (ha : at' ≤ l.length) (n0 : 0 ≤ next) (n1 : next ≤ 65535) (x : UInt8) (hx : l[at']? = some x) (h128 : 128 ≤ x.toNat) (hlt0 : at' < l.length) (hlong : l.length < at' + 5) :
    Calls Tryd.prog 48 #[.slice sp l.length cap, .int .i64 (at' : Int), .int .u16 next] w fun e w' => ∃ s', e = .returned (.tuple #[.agg (rcC s'), .int .i64 (oneK (oneR (l.drop at') next))]) ∧ Hid ((∀ r k, oneR (l.drop at') next = some (r, k) → s' = r) ∧ Below w.heap.size w w') := by
  have zz := zeroV_R
  have hF : Hid (Fm w [(w.heap.size, rcC zR, 45)] (w.alloc (.cells (rcC zR) 45))) := Fm.one w _ _
  have hb0 : Hid (Tryd.prog.built 45 [] = some (rcC zR)) := built0
  obtain ⟨n, hn'⟩ : ∃ n, l.length = n := ⟨_, rfl⟩
  rw [hn'] at hn ha hlong hlt0 ⊢
  have hnn : Hid (l.length = n) := hn'
  have ni : (n : Int) ≤ 4611686018427387904 := by omega
  have ai : (at' : Int) ≤ n := by omega
  have hlt : at' < n := by omega
  have q0 : decide ((n : Int) ≤ at') = false := by simp; omega
  have hdx : l.drop at' = x :: l.drop (at' + 1) := by
    obtain ⟨x', h1, h2⟩ := get_drop (show at' < l.length by omega)
    rw [hx] at h1
    cases h1
    exact h2
  obtain ⟨g, o, rfl, cx⟩ := hl.out at' x hx
  have ix := idxB g o n cap at' hlt
  obtain ⟨h, hh⟩ : ∃ h : Int, (x.toNat : Int) = h := ⟨_, rfl⟩
  have hb : h ≤ 255 ∧ 0 ≤ h := by have := UInt8.toNat_lt x; omega
  obtain ⟨hb1, hb2⟩ := hb
  have cx' : Hid (∀ z, Below w.heap.size w z → z.cell? ⟨g, o + at', none⟩ = some (.int .u8 h)) := fun z hz => by
    rw [← hh]
    exact (hz.cell (p := ⟨g, o + at', none⟩) (World.block_lt_of_cell? w _ cx)).trans cx
  have ati : (at' : Int) < n := by omega
  replace hx : Hid _ := hx
  replace hh : Hid _ := hh
  obtain ⟨B3, hB3⟩ : ∃ b, (h / 4 % 2 == 1) = b := ⟨_, rfl⟩
  obtain ⟨B4, hB4⟩ : ∃ b, (h / 8 % 2 == 1) = b := ⟨_, rfl⟩
  obtain ⟨B6, hB6⟩ : ∃ b, (h / 16 % 2 == 1) = b := ⟨_, rfl⟩
  have hrH : Hid (∀ p a d, recH h p a d = ⟨h % 4, a, d, B3, B4, p, B6, h / 32 % 4⟩) := fun p a d => by
    unfold recH
    rw [← hB3, ← hB4, ← hB6]
    congr 1 <;> rw [Bool.eq_iff_iff] <;> simp
  clear cx hlt hn'
  have hbig : 128 ≤ h := by have := hh.out; omega
  have hshort : n < at' + 5 := hlong
  have qb : decide (128 ≤ h) = true := by simpa using hbig
  have fin : Hid (oneR (l.drop at') next = none) := by
    refine one_none _ _ fun a t e => ?_
    rw [hdx] at e
    obtain ⟨rfl, rfl⟩ := List.cons.inj e
    rw [if_pos (by have := hh.out; omega), List.length_drop, hnn.out]
    omega
  have qs : decide ((n : Int) - at' < 5) = true := by simp; omega
  clear hshort hbig hdx ha hlong hlt0 h128
  go_enter Tryd.func48, Tryd.ntmps48
  go_wp2_with (first
    | ((with_reducible refine gen_world (w.alloc (.cells (rcC zR) 45)) (Fm w [(w.heap.size, rcC zR, 45)]) hF.out ?_); intro y0 K0; have cxx := cx'.out y0 K0.out.low)
    | ((with_reducible refine at_bu #[] [] (rcC zR) ?_ ?_ ?_ hb0.out ?_); kernel_rfl; rfl; rfl)
    | ((with_reducible refine at_st rtR w.heap.size (rcC zR) (rcC zR) ?_ ?_ ?_ ?_ (.tmp 6) (.tmp 29) ?_ ?_ ?_ ?_ ?_); exact K0.out.bx 0 _ _ _ rfl; rfl; rfl; exact rcC_one _; rfl; rfl; rfl; rfl; intro y9 hw9; have K9 : Hid (Fm w [(w.heap.size, rcC zR, 45)] y9) := K0.out.put 0 _ _ _ _ rfl hw9.out))
  exact ret_row2 rtR rfl rfl rfl (K9.out.bx 0 _ _ _ rfl) rfl rfl ⟨_, by rw [fin.out]; rfl, (fun r k h => by rw [fin.out] at h; cases h), K9.out.low⟩

theorem rrec1_nshort (w : World) (sp : Option Addr) (cap : Nat) (l : List UInt8) (at' : Nat) (next : Int) (hl : Hid (LiesB w sp l)) (hn : l.length ≤ 4611686018427387904) (ha : at' ≤ l.length) (n0 : 0 ≤ next) (n1 : next ≤ 65535) (x : UInt8) (hx : l[at']? = some x) (h128 : ¬ 128 ≤ x.toNat) (hlt0 : at' < l.length) (hlong : l.length < at' + 2) :
    Calls Tryd.prog 48 #[.slice sp l.length cap, .int .i64 (at' : Int), .int .u16 next] w fun e w' => ∃ s', e = .returned (.tuple #[.agg (rcC s'), .int .i64 (oneK (oneR (l.drop at') next))]) ∧ Hid ((∀ r k, oneR (l.drop at') next = some (r, k) → s' = r) ∧ Below w.heap.size w w') := by
  have zz := zeroV_R
  have hF : Hid (Fm w [(w.heap.size, rcC zR, 45)] (w.alloc (.cells (rcC zR) 45))) := Fm.one w _ _
  have hb0 : Hid (Tryd.prog.built 45 [] = some (rcC zR)) := built0
  obtain ⟨n, hn'⟩ : ∃ n, l.length = n := ⟨_, rfl⟩
  rw [hn'] at hn ha hlong hlt0 ⊢
  have hnn : Hid (l.length = n) := hn'
  have ni : (n : Int) ≤ 4611686018427387904 := by omega
  have ai : (at' : Int) ≤ n := by omega
  have hlt : at' < n := by omega
  have q0 : decide ((n : Int) ≤ at') = false := by simp; omega
  have hdx : l.drop at' = x :: l.drop (at' + 1) := by
    obtain ⟨x', h1, h2⟩ := get_drop (show at' < l.length by omega)
    rw [hx] at h1
    cases h1
    exact h2
  obtain ⟨g, o, rfl, cx⟩ := hl.out at' x hx
  have ix := idxB g o n cap at' hlt
  obtain ⟨h, hh⟩ : ∃ h : Int, (x.toNat : Int) = h := ⟨_, rfl⟩
  have hb : h ≤ 255 ∧ 0 ≤ h := by have := UInt8.toNat_lt x; omega
  obtain ⟨hb1, hb2⟩ := hb
  have cx' : Hid (∀ z, Below w.heap.size w z → z.cell? ⟨g, o + at', none⟩ = some (.int .u8 h)) := fun z hz => by
    rw [← hh]
    exact (hz.cell (p := ⟨g, o + at', none⟩) (World.block_lt_of_cell? w _ cx)).trans cx
  have ati : (at' : Int) < n := by omega
  replace hx : Hid _ := hx
  replace hh : Hid _ := hh
  obtain ⟨B3, hB3⟩ : ∃ b, (h / 4 % 2 == 1) = b := ⟨_, rfl⟩
  obtain ⟨B4, hB4⟩ : ∃ b, (h / 8 % 2 == 1) = b := ⟨_, rfl⟩
  obtain ⟨B6, hB6⟩ : ∃ b, (h / 16 % 2 == 1) = b := ⟨_, rfl⟩
  have hrH : Hid (∀ p a d, recH h p a d = ⟨h % 4, a, d, B3, B4, p, B6, h / 32 % 4⟩) := fun p a d => by
    unfold recH
    rw [← hB3, ← hB4, ← hB6]
    congr 1 <;> rw [Bool.eq_iff_iff] <;> simp
  clear cx hlt hn'
  have hbig : ¬ 128 ≤ h := by have := hh.out; omega
  have hshort : n < at' + 2 := hlong
  have qb : decide (128 ≤ h) = false := by simpa using hbig
  have fin : Hid (oneR (l.drop at') next = none) := by
    refine one_none _ _ fun a t e => ?_
    rw [hdx] at e
    obtain ⟨rfl, rfl⟩ := List.cons.inj e
    rw [if_neg (by have := hh.out; omega), List.length_drop, hnn.out]
    omega
  have qs : decide ((n : Int) - at' < 2) = true := by simp; omega
  clear hshort hbig hdx ha hlong hlt0 h128
  go_enter Tryd.func48, Tryd.ntmps48
  go_wp2_with (first
    | ((with_reducible refine gen_world (w.alloc (.cells (rcC zR) 45)) (Fm w [(w.heap.size, rcC zR, 45)]) hF.out ?_); intro y0 K0; have cxx := cx'.out y0 K0.out.low)
    | ((with_reducible refine at_bu #[] [] (rcC zR) ?_ ?_ ?_ hb0.out ?_); kernel_rfl; rfl; rfl)
    | ((with_reducible refine at_st rtR w.heap.size (rcC zR) (rcC zR) ?_ ?_ ?_ ?_ (.tmp 6) (.tmp 29) ?_ ?_ ?_ ?_ ?_); exact K0.out.bx 0 _ _ _ rfl; rfl; rfl; exact rcC_one _; rfl; rfl; rfl; rfl; intro y9 hw9; have K9 : Hid (Fm w [(w.heap.size, rcC zR, 45)] y9) := K0.out.put 0 _ _ _ _ rfl hw9.out))
  exact ret_row2 rtR rfl rfl rfl (K9.out.bx 0 _ _ _ rfl) rfl rfl ⟨_, by rw [fin.out]; rfl, (fun r k h => by rw [fin.out] at h; cases h), K9.out.low⟩

end Go.Proofs.YtoajmicdphffnaaDoor
