/- The statements' own: the place ahead of an item. -/
import Derived.Test.YthbdpceobnkflaaDoorJ24
import Derived.Test.YthbdpceobnkflaaDoorJ26
namespace Go.Proofs.YthbdpceobnkflaaDoor
open Go Go.RowKit
set_option linter.unusedVariables false
set_option maxHeartbeats 4000000
set_option maxRecDepth 20000

theorem ev_put {a : Act} {d j : Nat} {v : Value} (hd : d < a.tmps.size) : (a.put (some d) v).eval (.tmp j) = if j = d then v else a.eval (.tmp j) := by
  show (a.tmps.setIfInBounds d v).getD j undef = _
  rw [Array.getD_eq_getD_getElem?, Array.getElem?_setIfInBounds]
  split
  · rename_i h
    rw [if_pos h.symm]
    rfl
  · rename_i h
    rw [if_neg (fun e => h e.symm)]
    exact (Array.getD_eq_getD_getElem? ..).symm
theorem ev_ne {a : Act} {d j : Nat} {v : Value} (h : j ≠ d) : (a.put (some d) v).eval (.tmp j) = a.eval (.tmp j) := by
  show (a.tmps.setIfInBounds d v).getD j undef = _
  rw [Array.getD_eq_getD_getElem?, Array.getElem?_setIfInBounds, if_neg (fun e => h e.symm)]
  exact (Array.getD_eq_getD_getElem? ..).symm
theorem ev_eq {a : Act} {d : Nat} {v : Value} (hd : d < a.tmps.size) : (a.put (some d) v).eval (.tmp d) = v := by rw [ev_put hd, if_pos rfl]
theorem act_ext {a b : Act} (h1 : a.defers = b.defers) (h2 : a.tmps.size = b.tmps.size) (h3 : ∀ j, a.eval (.tmp j) = b.eval (.tmp j)) : a = b := by
  obtain ⟨ta, da⟩ := a
  obtain ⟨tb, db⟩ := b
  obtain rfl : da = db := h1
  have : ta = tb := Array.ext h2 fun i hi hj => by
    have := h3 i
    have e1 : (Act.mk ta da).eval (.tmp i) = ta.getD i undef := rfl
    have e2 : (Act.mk tb da).eval (.tmp i) = tb.getD i undef := rfl
    rw [e1, e2, Array.getD, Array.getD, dif_pos hi, dif_pos hj] at this
    exact this
  rw [this]
theorem szP (x : Act) (d : Nat) (v : Value) : (x.put (some d) v).tmps.size = x.tmps.size := by show (x.tmps.setIfInBounds d v).size = _; rw [Array.size_setIfInBounds]
theorem dfP (x : Act) (d : Nat) (v : Value) : (x.put (some d) v).defers = x.defers := rfl
def Wt (o : Oper) (q : Nat) : Prop := ∃ e ∈ o.after, Region.binds .any e = true ∧ e.on = q
def OpA (ops : Array Oper) (i : Nat) (d : Option Nat) (p : Op) (on : List Nat) : Prop := ∃ o : Oper, ops[i]? = some o ∧ o.guard = none ∧ o.dst = d ∧ o.op = p ∧ ∀ q ∈ on, Wt o q
def isL (j : Nat) : Bool := Nat.beq j 7 || (Nat.ble 31 j && Nat.ble j 39)
structure FL9 (A a : Act) : Prop where
  df : a.defers = A.defers
  sz : a.tmps.size = A.tmps.size
  ev : ∀ j, isL j = false → a.eval (.tmp j) = A.eval (.tmp j)
theorem FL9.put {A a : Act} (h : FL9 A a) (d : Nat) (v : Value) (hd : isL d = true) : FL9 A (a.put (some d) v) := by
  refine ⟨h.df, ?_, fun j hj => ?_⟩
  · rw [szP]
    exact h.sz
  · rw [ev_ne (fun e => by rw [e, hd] at hj; cases hj)]
    exact h.ev j hj
def actL (A : Act) (v7 v31 v32 v33 v34 v35 v36 v37 v38 v39 : Value) : Act := (((((((((A.put (some 7) v7).put (some 31) v31).put (some 32) v32).put (some 33) v33).put (some 34) v34).put (some 35) v35).put (some 36) v36).put (some 37) v37).put (some 38) v38).put (some 39) v39
theorem LAt7 (A : Act) (hA : A.tmps.size = 41) (v7 v31 v32 v33 v34 v35 v36 v37 v38 v39 : Value) : (actL A v7 v31 v32 v33 v34 v35 v36 v37 v38 v39).eval (.tmp 7) = v7 := by
  unfold actL
  rw [ev_ne (by decide), ev_ne (by decide), ev_ne (by decide), ev_ne (by decide), ev_ne (by decide), ev_ne (by decide), ev_ne (by decide), ev_ne (by decide), ev_ne (by decide), ev_eq (by simp only [hA]; decide)]
theorem LAt31 (A : Act) (hA : A.tmps.size = 41) (v7 v31 v32 v33 v34 v35 v36 v37 v38 v39 : Value) : (actL A v7 v31 v32 v33 v34 v35 v36 v37 v38 v39).eval (.tmp 31) = v31 := by
  unfold actL
  rw [ev_ne (by decide), ev_ne (by decide), ev_ne (by decide), ev_ne (by decide), ev_ne (by decide), ev_ne (by decide), ev_ne (by decide), ev_ne (by decide), ev_eq (by simp only [szP, hA]; decide)]
theorem LAt32 (A : Act) (hA : A.tmps.size = 41) (v7 v31 v32 v33 v34 v35 v36 v37 v38 v39 : Value) : (actL A v7 v31 v32 v33 v34 v35 v36 v37 v38 v39).eval (.tmp 32) = v32 := by
  unfold actL
  rw [ev_ne (by decide), ev_ne (by decide), ev_ne (by decide), ev_ne (by decide), ev_ne (by decide), ev_ne (by decide), ev_ne (by decide), ev_eq (by simp only [szP, hA]; decide)]
theorem LAt33 (A : Act) (hA : A.tmps.size = 41) (v7 v31 v32 v33 v34 v35 v36 v37 v38 v39 : Value) : (actL A v7 v31 v32 v33 v34 v35 v36 v37 v38 v39).eval (.tmp 33) = v33 := by
  unfold actL
  rw [ev_ne (by decide), ev_ne (by decide), ev_ne (by decide), ev_ne (by decide), ev_ne (by decide), ev_ne (by decide), ev_eq (by simp only [szP, hA]; decide)]
theorem LAt34 (A : Act) (hA : A.tmps.size = 41) (v7 v31 v32 v33 v34 v35 v36 v37 v38 v39 : Value) : (actL A v7 v31 v32 v33 v34 v35 v36 v37 v38 v39).eval (.tmp 34) = v34 := by
  unfold actL
  rw [ev_ne (by decide), ev_ne (by decide), ev_ne (by decide), ev_ne (by decide), ev_ne (by decide), ev_eq (by simp only [szP, hA]; decide)]
theorem LAt35 (A : Act) (hA : A.tmps.size = 41) (v7 v31 v32 v33 v34 v35 v36 v37 v38 v39 : Value) : (actL A v7 v31 v32 v33 v34 v35 v36 v37 v38 v39).eval (.tmp 35) = v35 := by
  unfold actL
  rw [ev_ne (by decide), ev_ne (by decide), ev_ne (by decide), ev_ne (by decide), ev_eq (by simp only [szP, hA]; decide)]
theorem LAt36 (A : Act) (hA : A.tmps.size = 41) (v7 v31 v32 v33 v34 v35 v36 v37 v38 v39 : Value) : (actL A v7 v31 v32 v33 v34 v35 v36 v37 v38 v39).eval (.tmp 36) = v36 := by
  unfold actL
  rw [ev_ne (by decide), ev_ne (by decide), ev_ne (by decide), ev_eq (by simp only [szP, hA]; decide)]
theorem LAt37 (A : Act) (hA : A.tmps.size = 41) (v7 v31 v32 v33 v34 v35 v36 v37 v38 v39 : Value) : (actL A v7 v31 v32 v33 v34 v35 v36 v37 v38 v39).eval (.tmp 37) = v37 := by
  unfold actL
  rw [ev_ne (by decide), ev_ne (by decide), ev_eq (by simp only [szP, hA]; decide)]
theorem LAt38 (A : Act) (hA : A.tmps.size = 41) (v7 v31 v32 v33 v34 v35 v36 v37 v38 v39 : Value) : (actL A v7 v31 v32 v33 v34 v35 v36 v37 v38 v39).eval (.tmp 38) = v38 := by
  unfold actL
  rw [ev_ne (by decide), ev_eq (by simp only [szP, hA]; decide)]
theorem LAt39 (A : Act) (hA : A.tmps.size = 41) (v7 v31 v32 v33 v34 v35 v36 v37 v38 v39 : Value) : (actL A v7 v31 v32 v33 v34 v35 v36 v37 v38 v39).eval (.tmp 39) = v39 := by
  unfold actL
  rw [ev_eq (by simp only [szP, hA]; decide)]
theorem LOut (A : Act) (j : Nat) (e7 : j ≠ 7) (e31 : j ≠ 31) (e32 : j ≠ 32) (e33 : j ≠ 33) (e34 : j ≠ 34) (e35 : j ≠ 35) (e36 : j ≠ 36) (e37 : j ≠ 37) (e38 : j ≠ 38) (e39 : j ≠ 39) (v7 v31 v32 v33 v34 v35 v36 v37 v38 v39 : Value) : (actL A v7 v31 v32 v33 v34 v35 v36 v37 v38 v39).eval (.tmp j) = A.eval (.tmp j) := by
  unfold actL
  rw [ev_ne e39, ev_ne e38, ev_ne e37, ev_ne e36, ev_ne e35, ev_ne e34, ev_ne e33, ev_ne e32, ev_ne e31, ev_ne e7]
theorem FL9.eq {A a : Act} (h : FL9 A a) (hA : A.tmps.size = 41) : a = actL A (a.eval (.tmp 7)) (a.eval (.tmp 31)) (a.eval (.tmp 32)) (a.eval (.tmp 33)) (a.eval (.tmp 34)) (a.eval (.tmp 35)) (a.eval (.tmp 36)) (a.eval (.tmp 37)) (a.eval (.tmp 38)) (a.eval (.tmp 39)) := by
  have df : (actL A (a.eval (.tmp 7)) (a.eval (.tmp 31)) (a.eval (.tmp 32)) (a.eval (.tmp 33)) (a.eval (.tmp 34)) (a.eval (.tmp 35)) (a.eval (.tmp 36)) (a.eval (.tmp 37)) (a.eval (.tmp 38)) (a.eval (.tmp 39))).defers = A.defers := by unfold actL; simp only [dfP]
  have sz2 : (actL A (a.eval (.tmp 7)) (a.eval (.tmp 31)) (a.eval (.tmp 32)) (a.eval (.tmp 33)) (a.eval (.tmp 34)) (a.eval (.tmp 35)) (a.eval (.tmp 36)) (a.eval (.tmp 37)) (a.eval (.tmp 38)) (a.eval (.tmp 39))).tmps.size = A.tmps.size := by unfold actL; simp only [szP]
  refine act_ext (h.df.trans df.symm) (h.sz.trans sz2.symm) fun (j : Nat) => ?_
  by_cases e7 : j = 7; (subst e7; exact (LAt7 A hA _ _ _ _ _ _ _ _ _ _).symm); by_cases e31 : j = 31; (subst e31; exact (LAt31 A hA _ _ _ _ _ _ _ _ _ _).symm); by_cases e32 : j = 32; (subst e32; exact (LAt32 A hA _ _ _ _ _ _ _ _ _ _).symm); by_cases e33 : j = 33; (subst e33; exact (LAt33 A hA _ _ _ _ _ _ _ _ _ _).symm); by_cases e34 : j = 34; (subst e34; exact (LAt34 A hA _ _ _ _ _ _ _ _ _ _).symm); by_cases e35 : j = 35; (subst e35; exact (LAt35 A hA _ _ _ _ _ _ _ _ _ _).symm); by_cases e36 : j = 36; (subst e36; exact (LAt36 A hA _ _ _ _ _ _ _ _ _ _).symm); by_cases e37 : j = 37; (subst e37; exact (LAt37 A hA _ _ _ _ _ _ _ _ _ _).symm); by_cases e38 : j = 38; (subst e38; exact (LAt38 A hA _ _ _ _ _ _ _ _ _ _).symm); by_cases e39 : j = 39; (subst e39; exact (LAt39 A hA _ _ _ _ _ _ _ _ _ _).symm)
  refine (h.ev j ?_).trans (LOut A j e7 e31 e32 e33 e34 e35 e36 e37 e38 e39 _ _ _ _ _ _ _ _ _ _).symm
  rcases hb : isL j with _ | _
  · rfl
  · exfalso
    unfold isL at hb
    simp only [Bool.or_eq_true, Bool.and_eq_true, Nat.ble_eq] at hb
    have k1 : Nat.beq j 7 = true → j = 7 := Nat.eq_of_beq_eq_true
    rcases hb with hb | hb
    · exact e7 (k1 hb)
    · omega
theorem ltL {i : Nat} (h : i < 10) : i = 0 ∨ i = 1 ∨ i = 2 ∨ i = 3 ∨ i = 4 ∨ i = 5 ∨ i = 6 ∨ i = 7 ∨ i = 8 ∨ i = 9 := by omega
def IL (z : World) (Pl i n cap m g o b : Nat) (x : Oo) (r : Ri) (A : Act) (s' : Array Bool) (a : Act) (y : World) : Prop := s'.size = 10 ∧ FL9 A a ∧ Below z.heap.size z y
  ∧ (s'.getD 0 false = true → a.eval (.tmp 31) = .int .i64 (Pl : Int))
  ∧ (s'.getD 1 false = true → a.eval (.tmp 32) = .agg (oC x))
  ∧ (s'.getD 2 false = true → a.eval (.tmp 33) = .slice (some ⟨g, o, none⟩) n cap)
  ∧ (s'.getD 3 false = true → a.eval (.tmp 34) = .int .i64 (i : Int))
  ∧ (s'.getD 4 false = true → a.eval (.tmp 35) = .pointer (some ⟨g, o + i * 6, none⟩))
  ∧ (s'.getD 5 false = true → a.eval (.tmp 36) = .agg (i6 r))
  ∧ (s'.getD 6 false = true → ∃ sp2 cap2, a.eval (.tmp 37) = .slice sp2 m cap2)
  ∧ (s'.getD 7 false = true → a.eval (.tmp 38) = .int .i64 (m : Int))
  ∧ (s'.getD 8 false = true → a.eval (.tmp 39) = .int .i64 ((Pl : Int) + (m : Int)))
  ∧ (s'.getD 9 false = true → a.eval (.tmp 7) = .int .i64 ((Pl : Int) + (m : Int)))
  ∧ (s'.getD 9 false = false → a.eval (.tmp 7) = .int .i64 (Pl : Int))
  ∧ (s'.getD 8 false = true → s'.getD 0 false = true)
  ∧ (s'.getD 9 false = true → s'.getD 0 false = true)
theorem regL {ops : Array Oper} {Q : Exit → Act → World → Prop} {id : Nat} {A : Act} (z : World) (Pl i n cap m g o b : Nat) (x : Oo) (r : Ri) (hbx : Bx z b (oC x) 29) (hr : z.rangeAt g (o + i * 6) (i6 r).toList)
    (hLy : ∀ u, Below z.heap.size z u → Calls Tryd.prog 12 #[.agg (oC x), .agg (i6 r)] u fun e w' => ∃ sp2 cap2, e = .returned (.slice sp2 m cap2) ∧ Below u.heap.size u w')
    (ij : ∀ w, (Instr.indexAt 22 (.slice (some ⟨g, o, none⟩) n cap) (.int .i64 (i : Int))).run Tryd.prog w = .ok (.pointer (some ⟨g, o + i * 6, none⟩)) w) (wl : IntKind.i64.wrap ((Pl : Int) + (m : Int)) = (Pl : Int) + (m : Int)) (hsz : ops.size = 10) (hu : upB .any ops = true)
    (o0 : OpA ops 0 (some 31) (.move (.tmp 7)) [])
    (o1 : OpA ops 1 (some 32) (.load 29 (.tmp 3)) [])
    (o2 : OpA ops 2 (some 33) (.move (.tmp 1)) [])
    (o3 : OpA ops 3 (some 34) (.move (.tmp 8)) [])
    (o4 : OpA ops 4 (some 35) (.indexAddr 22 (.tmp 33) (.tmp 34)) [2, 3])
    (o5 : OpA ops 5 (some 36) (.load 40 (.tmp 35)) [4])
    (o6 : OpA ops 6 (some 37) (.call { callee := .value (.func 12), args := #[.tmp 32, .tmp 36], argTypes := #[29, 40] }) [1, 5])
    (o7 : OpA ops 7 (some 38) (.call { callee := .builtin .len, args := #[.tmp 37], argTypes := #[33] }) [6])
    (o8 : OpA ops 8 (some 39) (.binOp .add 3 (.tmp 31) (.tmp 38) 3) [0, 7])
    (o9 : OpA ops 9 (some 7) (.assign (.tmp 39)) [8])
    (ht : A.tmps.size = 41) (e7 : A.eval (.tmp 7) = .int .i64 (Pl : Int)) (e3 : A.eval (.tmp 3) = .pointer (some ⟨b, 0, none⟩)) (e1 : A.eval (.tmp 1) = .slice (some ⟨g, o, none⟩) n cap) (e8 : A.eval (.tmp 8) = .int .i64 (i : Int))
    (fin : ∀ (y : World) (v31 v32 v33 v34 v35 v36 v37 v38 v39 : Value), Hid (Below z.heap.size z y) → Q .normal (actL A (.int .i64 ((Pl : Int) + (m : Int))) v31 v32 v33 v34 v35 v36 v37 v38 v39) y) : (Code.region id ops true).wp Tryd.prog Q A z := by
  refine region_inv2 (IL z Pl i n cap m g o b x r A) (by kernel_rfl) hu (fun s' a y h => by rw [h.1, hsz]) ?_ ?_ ?_
  · rw [hsz]
    refine ⟨rfl, ⟨rfl, rfl, fun _ _ => rfl⟩, ⟨rfl, rfl, rfl, Nat.le_refl _, fun _ _ => rfl⟩, fun h => absurd h (by decide), fun h => absurd h (by decide), fun h => absurd h (by decide), fun h => absurd h (by decide), fun h => absurd h (by decide), fun h => absurd h (by decide), fun h => absurd h (by decide), fun h => absurd h (by decide), fun h => absurd h (by decide), fun h => absurd h (by decide), fun _ => e7, fun h => absurd h (by decide), fun h => absurd h (by decide)⟩
  · intro s' a y k o' hI' hoi hnd haf
    have hi : k < 10 := by rw [← hsz]; exact (Array.getElem?_eq_some_iff.1 hoi).1
    obtain ⟨hs', hfr, hB, c0, c1, c2, c3, c4, c5, c6, c7, c8, c9, e7n, d8, d9⟩ := hI'
    have hta : a.tmps.size = 41 := by rw [hfr.sz]; exact ht
    have a3 := (hfr.ev 3 (by decide)).trans e3
    have a1 := (hfr.ev 1 (by decide)).trans e1
    have a8 := (hfr.ev 8 (by decide)).trans e8
    have hset : ∀ j, (s'.setIfInBounds k true).getD j false = if j = k then true else s'.getD j false := fun j => getD_set s' k j (by omega)
    have hsz' : (s'.setIfInBounds k true).size = 10 := by simpa using hs'
    have up : ∀ j b, j ≠ k → (s'.setIfInBounds k true).getD j false = b → s'.getD j false = b := fun j b hj h => by rw [hset, if_neg hj] at h; exact h
    rcases ltL hi with rfl | rfl | rfl | rfl | rfl | rfl | rfl | rfl | rfl | rfl
    · obtain ⟨o1', ho', og, od, oo, ow⟩ := o0
      rw [ho'] at hoi
      injection hoi with hoi
      subst hoi
      have n9 : s'.getD 9 false = false := by
        rcases hh : s'.getD 9 false with _ | _
        · rfl
        · rw [d9 hh] at hnd; cases hnd
      have q7 := e7n n9
      refine wpOp_val (.int .i64 (Pl : Int)) ho' og ?_ ?_
      · unfold execOp; simp only [oo, q7, Sem.run_pure]
      · rw [od]
        exact ⟨hsz', hfr.put 31 _ (by decide), hB, fun _ => ev_eq (by rw [hta]; decide), fun h0 => by rw [ev_ne (by decide)]; exact c1 (up 1 _ (by decide) h0), fun h0 => by rw [ev_ne (by decide)]; exact c2 (up 2 _ (by decide) h0), fun h0 => by rw [ev_ne (by decide)]; exact c3 (up 3 _ (by decide) h0), fun h0 => by rw [ev_ne (by decide)]; exact c4 (up 4 _ (by decide) h0), fun h0 => by rw [ev_ne (by decide)]; exact c5 (up 5 _ (by decide) h0), fun h0 => by rw [ev_ne (by decide)]; exact c6 (up 6 _ (by decide) h0), fun h0 => by rw [ev_ne (by decide)]; exact c7 (up 7 _ (by decide) h0), fun h0 => by rw [ev_ne (by decide)]; exact c8 (up 8 _ (by decide) h0), fun h0 => by rw [ev_ne (by decide)]; exact c9 (up 9 _ (by decide) h0), fun h0 => by rw [ev_ne (by decide)]; exact e7n (up 9 _ (by decide) h0), fun h0 => by rw [hset]; split; rfl; exact d8 (up 8 _ (by decide) h0), fun h0 => by rw [hset]; split; rfl; exact d9 (up 9 _ (by decide) h0)⟩
    · obtain ⟨o1', ho', og, od, oo, ow⟩ := o1
      rw [ho'] at hoi
      injection hoi with hoi
      subst hoi
      refine wpOp_list ho' ?_
      refine at_load rtO b (oC x) (hbx.below hB) rfl (.tmp 3) (by simp [Region.wanted, og]) oo a3 ?_
      rw [od]
      exact ⟨hsz', hfr.put 32 _ (by decide), hB, fun h0 => by rw [ev_ne (by decide)]; exact c0 (up 0 _ (by decide) h0), fun _ => ev_eq (by rw [hta]; decide), fun h0 => by rw [ev_ne (by decide)]; exact c2 (up 2 _ (by decide) h0), fun h0 => by rw [ev_ne (by decide)]; exact c3 (up 3 _ (by decide) h0), fun h0 => by rw [ev_ne (by decide)]; exact c4 (up 4 _ (by decide) h0), fun h0 => by rw [ev_ne (by decide)]; exact c5 (up 5 _ (by decide) h0), fun h0 => by rw [ev_ne (by decide)]; exact c6 (up 6 _ (by decide) h0), fun h0 => by rw [ev_ne (by decide)]; exact c7 (up 7 _ (by decide) h0), fun h0 => by rw [ev_ne (by decide)]; exact c8 (up 8 _ (by decide) h0), fun h0 => by rw [ev_ne (by decide)]; exact c9 (up 9 _ (by decide) h0), fun h0 => by rw [ev_ne (by decide)]; exact e7n (up 9 _ (by decide) h0), fun h0 => by rw [hset]; split; rfl; exact d8 (up 8 _ (by decide) h0), fun h0 => by rw [hset]; split; rfl; exact d9 (up 9 _ (by decide) h0)⟩
    · obtain ⟨o1', ho', og, od, oo, ow⟩ := o2
      rw [ho'] at hoi
      injection hoi with hoi
      subst hoi
      refine wpOp_val (.slice (some ⟨g, o, none⟩) n cap) ho' og ?_ ?_
      · unfold execOp; simp only [oo, a1, Sem.run_pure]
      · rw [od]
        exact ⟨hsz', hfr.put 33 _ (by decide), hB, fun h0 => by rw [ev_ne (by decide)]; exact c0 (up 0 _ (by decide) h0), fun h0 => by rw [ev_ne (by decide)]; exact c1 (up 1 _ (by decide) h0), fun _ => ev_eq (by rw [hta]; decide), fun h0 => by rw [ev_ne (by decide)]; exact c3 (up 3 _ (by decide) h0), fun h0 => by rw [ev_ne (by decide)]; exact c4 (up 4 _ (by decide) h0), fun h0 => by rw [ev_ne (by decide)]; exact c5 (up 5 _ (by decide) h0), fun h0 => by rw [ev_ne (by decide)]; exact c6 (up 6 _ (by decide) h0), fun h0 => by rw [ev_ne (by decide)]; exact c7 (up 7 _ (by decide) h0), fun h0 => by rw [ev_ne (by decide)]; exact c8 (up 8 _ (by decide) h0), fun h0 => by rw [ev_ne (by decide)]; exact c9 (up 9 _ (by decide) h0), fun h0 => by rw [ev_ne (by decide)]; exact e7n (up 9 _ (by decide) h0), fun h0 => by rw [hset]; split; rfl; exact d8 (up 8 _ (by decide) h0), fun h0 => by rw [hset]; split; rfl; exact d9 (up 9 _ (by decide) h0)⟩
    · obtain ⟨o1', ho', og, od, oo, ow⟩ := o3
      rw [ho'] at hoi
      injection hoi with hoi
      subst hoi
      refine wpOp_val (.int .i64 (i : Int)) ho' og ?_ ?_
      · unfold execOp; simp only [oo, a8, Sem.run_pure]
      · rw [od]
        exact ⟨hsz', hfr.put 34 _ (by decide), hB, fun h0 => by rw [ev_ne (by decide)]; exact c0 (up 0 _ (by decide) h0), fun h0 => by rw [ev_ne (by decide)]; exact c1 (up 1 _ (by decide) h0), fun h0 => by rw [ev_ne (by decide)]; exact c2 (up 2 _ (by decide) h0), fun _ => ev_eq (by rw [hta]; decide), fun h0 => by rw [ev_ne (by decide)]; exact c4 (up 4 _ (by decide) h0), fun h0 => by rw [ev_ne (by decide)]; exact c5 (up 5 _ (by decide) h0), fun h0 => by rw [ev_ne (by decide)]; exact c6 (up 6 _ (by decide) h0), fun h0 => by rw [ev_ne (by decide)]; exact c7 (up 7 _ (by decide) h0), fun h0 => by rw [ev_ne (by decide)]; exact c8 (up 8 _ (by decide) h0), fun h0 => by rw [ev_ne (by decide)]; exact c9 (up 9 _ (by decide) h0), fun h0 => by rw [ev_ne (by decide)]; exact e7n (up 9 _ (by decide) h0), fun h0 => by rw [hset]; split; rfl; exact d8 (up 8 _ (by decide) h0), fun h0 => by rw [hset]; split; rfl; exact d9 (up 9 _ (by decide) h0)⟩
    · obtain ⟨o1', ho', og, od, oo, ow⟩ := o4
      rw [ho'] at hoi
      injection hoi with hoi
      subst hoi
      have y2 : s'.getD 2 false = true := by
        obtain ⟨e, m', b, n'⟩ := ow 2 (by simp)
        have := haf e m' b
        rwa [n'] at this
      have y3 : s'.getD 3 false = true := by
        obtain ⟨e, m', b, n'⟩ := ow 3 (by simp)
        have := haf e m' b
        rwa [n'] at this
      refine wpOp_val (.pointer (some ⟨g, o + i * 6, none⟩)) ho' og ?_ ?_
      · have x := ij y; unfold execOp; simp only [oo, c2 y2, c3 y3]; go_simp
      · rw [od]
        exact ⟨hsz', hfr.put 35 _ (by decide), hB, fun h0 => by rw [ev_ne (by decide)]; exact c0 (up 0 _ (by decide) h0), fun h0 => by rw [ev_ne (by decide)]; exact c1 (up 1 _ (by decide) h0), fun h0 => by rw [ev_ne (by decide)]; exact c2 (up 2 _ (by decide) h0), fun h0 => by rw [ev_ne (by decide)]; exact c3 (up 3 _ (by decide) h0), fun _ => ev_eq (by rw [hta]; decide), fun h0 => by rw [ev_ne (by decide)]; exact c5 (up 5 _ (by decide) h0), fun h0 => by rw [ev_ne (by decide)]; exact c6 (up 6 _ (by decide) h0), fun h0 => by rw [ev_ne (by decide)]; exact c7 (up 7 _ (by decide) h0), fun h0 => by rw [ev_ne (by decide)]; exact c8 (up 8 _ (by decide) h0), fun h0 => by rw [ev_ne (by decide)]; exact c9 (up 9 _ (by decide) h0), fun h0 => by rw [ev_ne (by decide)]; exact e7n (up 9 _ (by decide) h0), fun h0 => by rw [hset]; split; rfl; exact d8 (up 8 _ (by decide) h0), fun h0 => by rw [hset]; split; rfl; exact d9 (up 9 _ (by decide) h0)⟩
    · obtain ⟨o1', ho', og, od, oo, ow⟩ := o5
      rw [ho'] at hoi
      injection hoi with hoi
      subst hoi
      have y4 : s'.getD 4 false = true := by
        obtain ⟨e, m', b, n'⟩ := ow 4 (by simp)
        have := haf e m' b
        rwa [n'] at this
      refine wpOp_list ho' ?_
      refine at_loadm rt6 g (o + i * 6) (i6 r) (range_keep hr hB) rfl (.tmp 35) (by simp [Region.wanted, og]) oo (c4 y4) ?_
      rw [od]
      exact ⟨hsz', hfr.put 36 _ (by decide), hB, fun h0 => by rw [ev_ne (by decide)]; exact c0 (up 0 _ (by decide) h0), fun h0 => by rw [ev_ne (by decide)]; exact c1 (up 1 _ (by decide) h0), fun h0 => by rw [ev_ne (by decide)]; exact c2 (up 2 _ (by decide) h0), fun h0 => by rw [ev_ne (by decide)]; exact c3 (up 3 _ (by decide) h0), fun h0 => by rw [ev_ne (by decide)]; exact c4 (up 4 _ (by decide) h0), fun _ => ev_eq (by rw [hta]; decide), fun h0 => by rw [ev_ne (by decide)]; exact c6 (up 6 _ (by decide) h0), fun h0 => by rw [ev_ne (by decide)]; exact c7 (up 7 _ (by decide) h0), fun h0 => by rw [ev_ne (by decide)]; exact c8 (up 8 _ (by decide) h0), fun h0 => by rw [ev_ne (by decide)]; exact c9 (up 9 _ (by decide) h0), fun h0 => by rw [ev_ne (by decide)]; exact e7n (up 9 _ (by decide) h0), fun h0 => by rw [hset]; split; rfl; exact d8 (up 8 _ (by decide) h0), fun h0 => by rw [hset]; split; rfl; exact d9 (up 9 _ (by decide) h0)⟩
    · obtain ⟨o1', ho', og, od, oo, ow⟩ := o6
      rw [ho'] at hoi
      injection hoi with hoi
      subst hoi
      have y1 : s'.getD 1 false = true := by
        obtain ⟨e, m', b, n'⟩ := ow 1 (by simp)
        have := haf e m' b
        rwa [n'] at this
      have y5 : s'.getD 5 false = true := by
        obtain ⟨e, m', b, n'⟩ := ow 5 (by simp)
        have := haf e m' b
        rwa [n'] at this
      have q1 := c1 y1
      have q5 := c5 y5
      refine wpOp_call 12 #[.agg (oC x), .agg (i6 r)] _ ho' og ?_ (hLy y hB) ?_
      · unfold execOp
        simp only [oo]
        have e : #[Operand.tmp 32, Operand.tmp 36].map a.eval = #[.agg (oC x), .agg (i6 r)] := by simp [q1, q5]
        go_simp
      · rintro e z9 ⟨sp2, cap2, rfl, hz9⟩
        refine ⟨_, rfl, ?_⟩
        rw [od]
        exact ⟨hsz', hfr.put 37 _ (by decide), of_below hB hz9, fun h0 => by rw [ev_ne (by decide)]; exact c0 (up 0 _ (by decide) h0), fun h0 => by rw [ev_ne (by decide)]; exact c1 (up 1 _ (by decide) h0), fun h0 => by rw [ev_ne (by decide)]; exact c2 (up 2 _ (by decide) h0), fun h0 => by rw [ev_ne (by decide)]; exact c3 (up 3 _ (by decide) h0), fun h0 => by rw [ev_ne (by decide)]; exact c4 (up 4 _ (by decide) h0), fun h0 => by rw [ev_ne (by decide)]; exact c5 (up 5 _ (by decide) h0), fun _ => ⟨sp2, cap2, ev_eq (by rw [hta]; decide)⟩, fun h0 => by rw [ev_ne (by decide)]; exact c7 (up 7 _ (by decide) h0), fun h0 => by rw [ev_ne (by decide)]; exact c8 (up 8 _ (by decide) h0), fun h0 => by rw [ev_ne (by decide)]; exact c9 (up 9 _ (by decide) h0), fun h0 => by rw [ev_ne (by decide)]; exact e7n (up 9 _ (by decide) h0), fun h0 => by rw [hset]; split; rfl; exact d8 (up 8 _ (by decide) h0), fun h0 => by rw [hset]; split; rfl; exact d9 (up 9 _ (by decide) h0)⟩
    · obtain ⟨o1', ho', og, od, oo, ow⟩ := o7
      rw [ho'] at hoi
      injection hoi with hoi
      subst hoi
      have y6 : s'.getD 6 false = true := by
        obtain ⟨e, m', b, n'⟩ := ow 6 (by simp)
        have := haf e m' b
        rwa [n'] at this
      obtain ⟨sp2, cap2, q6⟩ := c6 y6
      refine wpOp_val (.int .i64 (m : Int)) ho' og ?_ ?_
      · unfold execOp; simp only [oo]; have e : #[Operand.tmp 37].map a.eval = #[.slice sp2 m cap2] := by simp [q6]
        go_simp
      · rw [od]
        exact ⟨hsz', hfr.put 38 _ (by decide), hB, fun h0 => by rw [ev_ne (by decide)]; exact c0 (up 0 _ (by decide) h0), fun h0 => by rw [ev_ne (by decide)]; exact c1 (up 1 _ (by decide) h0), fun h0 => by rw [ev_ne (by decide)]; exact c2 (up 2 _ (by decide) h0), fun h0 => by rw [ev_ne (by decide)]; exact c3 (up 3 _ (by decide) h0), fun h0 => by rw [ev_ne (by decide)]; exact c4 (up 4 _ (by decide) h0), fun h0 => by rw [ev_ne (by decide)]; exact c5 (up 5 _ (by decide) h0), fun h0 => by rw [ev_ne (by decide)]; exact c6 (up 6 _ (by decide) h0), fun _ => ev_eq (by rw [hta]; decide), fun h0 => by rw [ev_ne (by decide)]; exact c8 (up 8 _ (by decide) h0), fun h0 => by rw [ev_ne (by decide)]; exact c9 (up 9 _ (by decide) h0), fun h0 => by rw [ev_ne (by decide)]; exact e7n (up 9 _ (by decide) h0), fun h0 => by rw [hset]; split; rfl; exact d8 (up 8 _ (by decide) h0), fun h0 => by rw [hset]; split; rfl; exact d9 (up 9 _ (by decide) h0)⟩
    · obtain ⟨o1', ho', og, od, oo, ow⟩ := o8
      rw [ho'] at hoi
      injection hoi with hoi
      subst hoi
      have y0 : s'.getD 0 false = true := by
        obtain ⟨e, m', b, n'⟩ := ow 0 (by simp)
        have := haf e m' b
        rwa [n'] at this
      have y7 : s'.getD 7 false = true := by
        obtain ⟨e, m', b, n'⟩ := ow 7 (by simp)
        have := haf e m' b
        rwa [n'] at this
      refine wpOp_val (.int .i64 ((Pl : Int) + (m : Int))) ho' og ?_ ?_
      · unfold execOp; simp only [oo, c0 y0, c7 y7]; go_simp
      · rw [od]
        exact ⟨hsz', hfr.put 39 _ (by decide), hB, fun h0 => by rw [ev_ne (by decide)]; exact c0 (up 0 _ (by decide) h0), fun h0 => by rw [ev_ne (by decide)]; exact c1 (up 1 _ (by decide) h0), fun h0 => by rw [ev_ne (by decide)]; exact c2 (up 2 _ (by decide) h0), fun h0 => by rw [ev_ne (by decide)]; exact c3 (up 3 _ (by decide) h0), fun h0 => by rw [ev_ne (by decide)]; exact c4 (up 4 _ (by decide) h0), fun h0 => by rw [ev_ne (by decide)]; exact c5 (up 5 _ (by decide) h0), fun h0 => by rw [ev_ne (by decide)]; exact c6 (up 6 _ (by decide) h0), fun h0 => by rw [ev_ne (by decide)]; exact c7 (up 7 _ (by decide) h0), fun _ => ev_eq (by rw [hta]; decide), fun h0 => by rw [ev_ne (by decide)]; exact c9 (up 9 _ (by decide) h0), fun h0 => by rw [ev_ne (by decide)]; exact e7n (up 9 _ (by decide) h0), fun _ => by rw [hset]; simpa using y0, fun h0 => by rw [hset]; split; rfl; exact d9 (up 9 _ (by decide) h0)⟩
    · obtain ⟨o1', ho', og, od, oo, ow⟩ := o9
      rw [ho'] at hoi
      injection hoi with hoi
      subst hoi
      have y8 : s'.getD 8 false = true := by
        obtain ⟨e, m', b, n'⟩ := ow 8 (by simp)
        have := haf e m' b
        rwa [n'] at this
      have y0 := d8 y8
      refine wpOp_val (.int .i64 ((Pl : Int) + (m : Int))) ho' og ?_ ?_
      · unfold execOp; simp only [oo, c8 y8, Sem.run_pure]
      · rw [od]
        exact ⟨hsz', hfr.put 7 _ (by decide), hB, fun h0 => by rw [ev_ne (by decide)]; exact c0 (up 0 _ (by decide) h0), fun h0 => by rw [ev_ne (by decide)]; exact c1 (up 1 _ (by decide) h0), fun h0 => by rw [ev_ne (by decide)]; exact c2 (up 2 _ (by decide) h0), fun h0 => by rw [ev_ne (by decide)]; exact c3 (up 3 _ (by decide) h0), fun h0 => by rw [ev_ne (by decide)]; exact c4 (up 4 _ (by decide) h0), fun h0 => by rw [ev_ne (by decide)]; exact c5 (up 5 _ (by decide) h0), fun h0 => by rw [ev_ne (by decide)]; exact c6 (up 6 _ (by decide) h0), fun h0 => by rw [ev_ne (by decide)]; exact c7 (up 7 _ (by decide) h0), fun h0 => by rw [ev_ne (by decide)]; exact c8 (up 8 _ (by decide) h0), fun _ => ev_eq (by rw [hta]; decide), fun h0 => absurd h0 (by rw [hset]; simp), fun h0 => by rw [hset]; split; rfl; exact d8 (up 8 _ (by decide) h0), fun _ => by rw [hset]; simpa using y0⟩
  · intro s' a y hI' hall
    obtain ⟨hs', hfr, hB, c0, c1, c2, c3, c4, c5, c6, c7, c8, c9, e7n, d8, d9⟩ := hI'
    have e' := hfr.eq ht
    rw [c9 (hall 9 (by omega))] at e'
    rw [e']
    exact fin y _ _ _ _ _ _ _ _ _ hB
theorem place_any (w : World) (Tb : Hid (Tabs w)) (L : List Itm) (H : Hid (AsmOk L)) (x : Oo) (hxL : Hid (x.L = sortN (asmN L))) (hx : Hid (Lo w x)) (sp : Option Addr) (cap : Nat) (hl : Hid (LiesL 6 c6 w sp (L.map (·.1)))) (hg : Hid (∀ x ∈ L, LB8 w x.1.sp x.2 ∧ x.2.length = x.1.m)) (k : Nat) (hk : k ≤ L.length) (pk : Nat) (hpk : Hid (plI L k = pk)) :
    Calls Tryd.prog 14 #[.agg (oC x), .slice sp L.length cap, .int .i64 (k : Int)] w fun e z => e = .returned (.int .i64 (pk : Int)) ∧ Hid (Below w.heap.size w z) := by
  have K0 : Hid (Fm w [(w.heap.size, oC x, 29)] (w.alloc (.cells (oC x) 29))) := Fm.one w _ _
  obtain ⟨n, hn'⟩ : ∃ n, L.length = n := ⟨_, rfl⟩
  have hnn : Hid (L.length = n ∧ n ≤ 4096) := ⟨hn', by rw [← hn']; exact H.out.few⟩
  rw [hn'] at hk ⊢
  have hkn : Hid (k ≤ n) := hk
  have n1 : (n : Int) ≤ 4096 := by have := hnn.out.2; omega
  have k1i : (k : Int) ≤ 4096 := by omega
  clear hn' hk
  go_enter Tryd.func14, Tryd.ntmps14
  go_wp2
  go_loopw [7, 8] (fun s t wz => ∃ (Pl i : Nat) (z : World), z = wz ∧ s = .int .i64 (Pl : Int) ∧ t = .int .i64 (i : Int) ∧ Hid (i ≤ k ∧ plI L i = Pl) ∧ Hid (Fm w [(w.heap.size, oC x, 29)] z)) (fun _ t _ => (k - intOf t).toNat)
  case atStart => exact ⟨0, 0, _, rfl, rfl, rfl, ⟨Nat.zero_le _, rfl⟩, K0⟩
  case round =>
    obtain ⟨Pl, i, z, rfl, rfl, rfl, J, K⟩ := hrel
    by_cases hlt : i < k
    · obtain ⟨y, hy⟩ : ∃ y, L[i]? = some y := ⟨_, List.getElem?_eq_getElem (by have := hnn.out; have := hkn.out; omega)⟩
      obtain ⟨gb, o, rfl, hcx⟩ := hl.out i y.1 (by rw [List.getElem?_map, hy]; rfl)
      have hcz : Hid (z.rangeAt gb (o + i * 6) (i6 y.1).toList) := range_keep hcx K.out.low
      have c0 := hcz.out 0 (.int .u8 y.1.k) rfl
      have c2 := hcz.out 2 (.int .i64 y.1.a) rfl
      rw [Nat.add_zero] at c0
      have ij := fun w => idxP (P := Tryd.prog) (g := gb) (off := o) (len := n) (cap := cap) Tryd.underlying22 (s := 6) (by kernel_rfl) .i64 i w (by have := hkn.out; omega)
      have hii : (i : Int) < k := by omega
      have hlt' : Hid (i < k) := hlt
      obtain ⟨P', hP'⟩ : ∃ q, plI L (i + 1) = q := ⟨_, rfl⟩
      have J9 : Hid (i + 1 ≤ k ∧ plI L (i + 1) = P') := ⟨hlt, hP'⟩
      have hPle : Pl ≤ 65536 := by
        have h9 := H.out.pl_le (i := i) (by have := hnn.out; have := hkn.out; omega)
        rw [J.out.2] at h9
        exact h9
      by_cases k4 : y.1.k = 4
      · have h4 := (H.out.moved hy k4).1
        rw [hP'] at h4
        rw [← h4] at c2
        have e4 : (y.1.k == 4) = true := by rw [beq_iff_eq]; exact k4
        clear hlt hy hcx k4 h4 hP' J hcz
        go_wp2
        go_roundw
        case rel => exact ⟨P', i + 1, _, rfl, by simp, by simp, J9, K⟩
        case measure => have := hlt'.out; simp [intOf]; omega
      by_cases k1 : y.1.k = 1
      · have h4 := (at_named hy k1).1
        rw [hP', J.out.2] at h4
        subst h4
        have e4 : (y.1.k == 4) = false := by rw [beq_eq_false_iff_ne]; exact k4
        have e1 : (y.1.k != 1) = false := by rw [k1]; rfl
        clear hlt hy hcx k4 k1 hP' J hcz
        go_wp2
        go_roundw
        case rel => exact ⟨P', i + 1, _, rfl, by simp, by simp, J9, K⟩
        case measure => have := hlt'.out; simp [intOf]; omega
      · have h4 := (H.out.laid hy k1 k4).1
        obtain ⟨R, hR⟩ : ∃ R, flB (asmN L) y = R := ⟨_, rfl⟩
        obtain ⟨m, hm⟩ : ∃ m, R.length = m := ⟨_, rfl⟩
        rw [hP', J.out.2, hR, hm] at h4
        subst h4
        have hNm : ∀ q ∈ asmN L, q.2 ≤ 65535 := (lay_ok _ sh0 0 sh0_ok H.out.all H.out.l).n
        have hmay := H.out.may (at_pl hy)
        have hm2 : m ≤ 65536 := by
          have h9 := H.out.fits (at_pl hy)
          rw [hR, hm] at h9
          exact Nat.le_trans (Nat.le_add_left _ _) h9
        have hLy : Hid (∀ v, Below z.heap.size z v → Calls Tryd.prog 12 #[.agg (oC x), .agg (i6 y.1)] v fun e w' => ∃ sp2 cap2, e = .returned (.slice sp2 m cap2) ∧ Below v.heap.size v w') := fun v hv => by
          have hw9 : Below w.heap.size w v := of_below K.out.low hv
          have := lays_any v (Tb.out.below hw9) (asmN L) hNm x (hx.out.below hw9) (fun s => by rw [hxL.out]; exact H.out.find s) y hmay k1 k4 ⟨(hg.out y (List.mem_of_getElem? hy)).1.below hw9, (hg.out y (List.mem_of_getElem? hy)).2⟩
          rw [hR] at this
          refine this.mono fun e w' h => ?_
          obtain ⟨sp2, cap2, rfl, h⟩ := h
          rw [hm]
          exact ⟨sp2, cap2, rfl, h.out.2⟩
        have e4 : (y.1.k == 4) = false := by rw [beq_eq_false_iff_ne]; exact k4
        have e1 : (y.1.k != 1) = true := by rw [bne_iff_ne]; exact k1
        have wl : IntKind.i64.wrap ((Pl : Int) + (m : Int)) = (Pl : Int) + (m : Int) := by rw [IntKind.wrap_i64]; omega
        have J8 : Hid (i + 1 ≤ k ∧ plI L (i + 1) = Pl + m) := J9
        clear hlt hy hcx k4 k1 hP' J hNm hmay hR hm J9 hm2 c2
        go_wp2
        refine regL z Pl i n cap m gb o w.heap.size x y.1 (K.out.bx 0 _ _ _ rfl) hcz.out hLy.out ij wl ?_ ?_ ?_ ?_ ?_ ?_ ?_ ?_ ?_ ?_ ?_ ?_ ?_ ?_ ?_ ?_ ?_ ?_
        · rfl
        · kernel_rfl
        · exact ⟨_, rfl, rfl, rfl, rfl, fun q hq => absurd hq (by simp)⟩
        · exact ⟨_, rfl, rfl, rfl, rfl, fun q hq => absurd hq (by simp)⟩
        · exact ⟨_, rfl, rfl, rfl, rfl, fun q hq => absurd hq (by simp)⟩
        · exact ⟨_, rfl, rfl, rfl, rfl, fun q hq => absurd hq (by simp)⟩
        · exact ⟨_, rfl, rfl, rfl, rfl, List.forall_mem_cons.2 ⟨⟨{ on := 2, ground := .data }, by simp, rfl, rfl⟩, List.forall_mem_cons.2 ⟨⟨{ on := 3, ground := .data }, by simp, rfl, rfl⟩, fun q hq => absurd hq (by simp)⟩⟩⟩
        · exact ⟨_, rfl, rfl, rfl, rfl, List.forall_mem_cons.2 ⟨⟨{ on := 4, ground := .data }, by simp, rfl, rfl⟩, fun q hq => absurd hq (by simp)⟩⟩
        · exact ⟨_, rfl, rfl, rfl, rfl, List.forall_mem_cons.2 ⟨⟨{ on := 1, ground := .data }, by simp, rfl, rfl⟩, List.forall_mem_cons.2 ⟨⟨{ on := 5, ground := .data }, by simp, rfl, rfl⟩, fun q hq => absurd hq (by simp)⟩⟩⟩
        · exact ⟨_, rfl, rfl, rfl, rfl, List.forall_mem_cons.2 ⟨⟨{ on := 6, ground := .data }, by simp, rfl, rfl⟩, fun q hq => absurd hq (by simp)⟩⟩
        · exact ⟨_, rfl, rfl, rfl, rfl, List.forall_mem_cons.2 ⟨⟨{ on := 0, ground := .data }, by simp, rfl, rfl⟩, List.forall_mem_cons.2 ⟨⟨{ on := 7, ground := .data }, by simp, rfl, rfl⟩, fun q hq => absurd hq (by simp)⟩⟩⟩
        · exact ⟨_, rfl, rfl, rfl, rfl, List.forall_mem_cons.2 ⟨⟨{ on := 8, ground := .data }, by simp, rfl, rfl⟩, fun q hq => absurd hq (by simp)⟩⟩
        · rfl
        · rfl
        · rfl
        · rfl
        · rfl
        · intro z9 v31 v32 v33 v34 v35 v36 v37 v38 v39 h9
          have K9 : Hid (Fm w [(w.heap.size, oC x, 29)] z9) := K.out.below h9.out
          clear hLy hcz c0 h9
          unfold actL
          go_simp
          go_wp2
          go_roundw
          case rel => exact ⟨Pl + m, i + 1, _, rfl, by simp, by simp, J8, K9⟩
          case measure => have := hlt'.out; simp [intOf]; omega
    · have hie : i = k := by have := J.out.1; omega
      subst hie
      have hpp : Pl = pk := J.out.2.symm.trans hpk.out
      subst hpp
      clear hlt
      go_wp2
      go_ret
      exact ⟨rfl, K.out.low⟩
end Go.Proofs.YthbdpceobnkflaaDoor
