/- The document's own: the region in which registers are stored. -/
import Derived.Test.YteipjkjpeookaaaGreatR7
import Derived.Test.YteipjkjpeookaaaGreatJ19
namespace Go.Proofs.YteipjkjpeookaaaGreat
open Go Go.RowKit Go.Shelf
set_option linter.unusedVariables false
set_option maxHeartbeats 1000000
set_option maxRecDepth 100000

theorem ev_put {a : Act} {d j : Nat} {v : Value} (hd : d < a.tmps.size) : (a.put (some d) v).eval (.tmp j) = if j = d then v else a.eval (.tmp j) := by
  show (a.tmps.setIfInBounds d v).getD j undef = _
  rw [Array.getD_eq_getD_getElem?, Array.getElem?_setIfInBounds]
  split
  · rename_i h
    rw [if_pos h.symm]
    rfl
  · rename_i h
    rw [if_neg (fun e => h e.symm)]
    exact (Array.getD_eq_getD_getElem? ..).symm
theorem ev_ne {a : Act} {d j : Nat} {v : Value} (h : j ≠ d) : (a.put (some d) v).eval (.tmp j) = a.eval (.tmp j) := by
  show (a.tmps.setIfInBounds d v).getD j undef = _
  rw [Array.getD_eq_getD_getElem?, Array.getElem?_setIfInBounds, if_neg (fun e => h e.symm)]
  exact (Array.getD_eq_getD_getElem? ..).symm
theorem ev_eq {a : Act} {d : Nat} {v : Value} (hd : d < a.tmps.size) : (a.put (some d) v).eval (.tmp d) = v := by rw [ev_put hd, if_pos rfl]
theorem act_ext {a b : Act} (h1 : a.defers = b.defers) (h2 : a.tmps.size = b.tmps.size) (h3 : ∀ j, a.eval (.tmp j) = b.eval (.tmp j)) : a = b := by
  obtain ⟨ta, da⟩ := a
  obtain ⟨tb, db⟩ := b
  obtain rfl : da = db := h1
  have : ta = tb := Array.ext h2 fun i hi hj => by
    have := h3 i
    have e1 : (Act.mk ta da).eval (.tmp i) = ta.getD i undef := rfl
    have e2 : (Act.mk tb da).eval (.tmp i) = tb.getD i undef := rfl
    rw [e1, e2, Array.getD, Array.getD, dif_pos hi, dif_pos hj] at this
    exact this
  rw [this]
def isW (j : Nat) : Bool := (Nat.beq j 15 || Nat.beq j 16) || (Nat.ble 101 j && Nat.ble j 109)
structure Fr (A a : Act) : Prop where
  df : a.defers = A.defers
  sz : a.tmps.size = A.tmps.size
  ev : ∀ j, isW j = false → a.eval (.tmp j) = A.eval (.tmp j)
theorem Fr.put {A a : Act} (h : Fr A a) (d : Nat) (v : Value) (hd : isW d = true) : Fr A (a.put (some d) v) := by
  refine ⟨h.df, ?_, fun j hj => ?_⟩
  · show (a.tmps.setIfInBounds d v).size = _
    rw [Array.size_setIfInBounds]
    exact h.sz
  · rw [ev_ne (fun e => by rw [e, hd] at hj; cases hj)]
    exact h.ev j hj
def actW (A : Act) (v15 v16 v101 v102 v103 v104 v105 v106 v107 v108 v109 : Value) : Act := ((((((((((A.put (some 15) v15).put (some 16) v16).put (some 101) v101).put (some 102) v102).put (some 103) v103).put (some 104) v104).put (some 105) v105).put (some 106) v106).put (some 107) v107).put (some 108) v108).put (some 109) v109
theorem dfP (x : Act) (d : Nat) (v : Value) : (x.put (some d) v).defers = x.defers := rfl
theorem szP (x : Act) (d : Nat) (v : Value) : (x.put (some d) v).tmps.size = x.tmps.size := by show (x.tmps.setIfInBounds d v).size = _; rw [Array.size_setIfInBounds]
theorem evAt15 (A : Act) (hA : A.tmps.size = 152) (v15 v16 v101 v102 v103 v104 v105 v106 v107 v108 v109 : Value) : (actW A v15 v16 v101 v102 v103 v104 v105 v106 v107 v108 v109).eval (.tmp 15) = v15 := by
  unfold actW
  rw [ev_ne (by decide), ev_ne (by decide), ev_ne (by decide), ev_ne (by decide), ev_ne (by decide), ev_ne (by decide), ev_ne (by decide), ev_ne (by decide), ev_ne (by decide), ev_ne (by decide), ev_eq (by simp only [hA]; decide)]
theorem evAt16 (A : Act) (hA : A.tmps.size = 152) (v15 v16 v101 v102 v103 v104 v105 v106 v107 v108 v109 : Value) : (actW A v15 v16 v101 v102 v103 v104 v105 v106 v107 v108 v109).eval (.tmp 16) = v16 := by
  unfold actW
  rw [ev_ne (by decide), ev_ne (by decide), ev_ne (by decide), ev_ne (by decide), ev_ne (by decide), ev_ne (by decide), ev_ne (by decide), ev_ne (by decide), ev_ne (by decide), ev_eq (by simp only [szP, hA]; decide)]
theorem evAt101 (A : Act) (hA : A.tmps.size = 152) (v15 v16 v101 v102 v103 v104 v105 v106 v107 v108 v109 : Value) : (actW A v15 v16 v101 v102 v103 v104 v105 v106 v107 v108 v109).eval (.tmp 101) = v101 := by
  unfold actW
  rw [ev_ne (by decide), ev_ne (by decide), ev_ne (by decide), ev_ne (by decide), ev_ne (by decide), ev_ne (by decide), ev_ne (by decide), ev_ne (by decide), ev_eq (by simp only [szP, hA]; decide)]
theorem evAt102 (A : Act) (hA : A.tmps.size = 152) (v15 v16 v101 v102 v103 v104 v105 v106 v107 v108 v109 : Value) : (actW A v15 v16 v101 v102 v103 v104 v105 v106 v107 v108 v109).eval (.tmp 102) = v102 := by
  unfold actW
  rw [ev_ne (by decide), ev_ne (by decide), ev_ne (by decide), ev_ne (by decide), ev_ne (by decide), ev_ne (by decide), ev_ne (by decide), ev_eq (by simp only [szP, hA]; decide)]
theorem evAt103 (A : Act) (hA : A.tmps.size = 152) (v15 v16 v101 v102 v103 v104 v105 v106 v107 v108 v109 : Value) : (actW A v15 v16 v101 v102 v103 v104 v105 v106 v107 v108 v109).eval (.tmp 103) = v103 := by
  unfold actW
  rw [ev_ne (by decide), ev_ne (by decide), ev_ne (by decide), ev_ne (by decide), ev_ne (by decide), ev_ne (by decide), ev_eq (by simp only [szP, hA]; decide)]
theorem evAt104 (A : Act) (hA : A.tmps.size = 152) (v15 v16 v101 v102 v103 v104 v105 v106 v107 v108 v109 : Value) : (actW A v15 v16 v101 v102 v103 v104 v105 v106 v107 v108 v109).eval (.tmp 104) = v104 := by
  unfold actW
  rw [ev_ne (by decide), ev_ne (by decide), ev_ne (by decide), ev_ne (by decide), ev_ne (by decide), ev_eq (by simp only [szP, hA]; decide)]
theorem evAt105 (A : Act) (hA : A.tmps.size = 152) (v15 v16 v101 v102 v103 v104 v105 v106 v107 v108 v109 : Value) : (actW A v15 v16 v101 v102 v103 v104 v105 v106 v107 v108 v109).eval (.tmp 105) = v105 := by
  unfold actW
  rw [ev_ne (by decide), ev_ne (by decide), ev_ne (by decide), ev_ne (by decide), ev_eq (by simp only [szP, hA]; decide)]
theorem evAt106 (A : Act) (hA : A.tmps.size = 152) (v15 v16 v101 v102 v103 v104 v105 v106 v107 v108 v109 : Value) : (actW A v15 v16 v101 v102 v103 v104 v105 v106 v107 v108 v109).eval (.tmp 106) = v106 := by
  unfold actW
  rw [ev_ne (by decide), ev_ne (by decide), ev_ne (by decide), ev_eq (by simp only [szP, hA]; decide)]
theorem evAt107 (A : Act) (hA : A.tmps.size = 152) (v15 v16 v101 v102 v103 v104 v105 v106 v107 v108 v109 : Value) : (actW A v15 v16 v101 v102 v103 v104 v105 v106 v107 v108 v109).eval (.tmp 107) = v107 := by
  unfold actW
  rw [ev_ne (by decide), ev_ne (by decide), ev_eq (by simp only [szP, hA]; decide)]
theorem evAt108 (A : Act) (hA : A.tmps.size = 152) (v15 v16 v101 v102 v103 v104 v105 v106 v107 v108 v109 : Value) : (actW A v15 v16 v101 v102 v103 v104 v105 v106 v107 v108 v109).eval (.tmp 108) = v108 := by
  unfold actW
  rw [ev_ne (by decide), ev_eq (by simp only [szP, hA]; decide)]
theorem evAt109 (A : Act) (hA : A.tmps.size = 152) (v15 v16 v101 v102 v103 v104 v105 v106 v107 v108 v109 : Value) : (actW A v15 v16 v101 v102 v103 v104 v105 v106 v107 v108 v109).eval (.tmp 109) = v109 := by
  unfold actW
  rw [ev_eq (by simp only [szP, hA]; decide)]
theorem evOut (A : Act) (j : Nat) (e15 : j ≠ 15) (e16 : j ≠ 16) (e101 : j ≠ 101) (e102 : j ≠ 102) (e103 : j ≠ 103) (e104 : j ≠ 104) (e105 : j ≠ 105) (e106 : j ≠ 106) (e107 : j ≠ 107) (e108 : j ≠ 108) (e109 : j ≠ 109) (v15 v16 v101 v102 v103 v104 v105 v106 v107 v108 v109 : Value) : (actW A v15 v16 v101 v102 v103 v104 v105 v106 v107 v108 v109).eval (.tmp j) = A.eval (.tmp j) := by
  unfold actW
  rw [ev_ne e109, ev_ne e108, ev_ne e107, ev_ne e106, ev_ne e105, ev_ne e104, ev_ne e103, ev_ne e102, ev_ne e101, ev_ne e16, ev_ne e15]
theorem Fr.eq {A a : Act} (h : Fr A a) (hA : A.tmps.size = 152) : a = actW A (a.eval (.tmp 15)) (a.eval (.tmp 16)) (a.eval (.tmp 101)) (a.eval (.tmp 102)) (a.eval (.tmp 103)) (a.eval (.tmp 104)) (a.eval (.tmp 105)) (a.eval (.tmp 106)) (a.eval (.tmp 107)) (a.eval (.tmp 108)) (a.eval (.tmp 109)) := by
  have sz : ∀ (x : Act) (d : Nat) (v : Value), (x.put (some d) v).tmps.size = x.tmps.size := fun x d v => by show (x.tmps.setIfInBounds d v).size = _; rw [Array.size_setIfInBounds]
  have df : (actW A (a.eval (.tmp 15)) (a.eval (.tmp 16)) (a.eval (.tmp 101)) (a.eval (.tmp 102)) (a.eval (.tmp 103)) (a.eval (.tmp 104)) (a.eval (.tmp 105)) (a.eval (.tmp 106)) (a.eval (.tmp 107)) (a.eval (.tmp 108)) (a.eval (.tmp 109))).defers = A.defers := by unfold actW; simp only [dfP]
  have sz2 : (actW A (a.eval (.tmp 15)) (a.eval (.tmp 16)) (a.eval (.tmp 101)) (a.eval (.tmp 102)) (a.eval (.tmp 103)) (a.eval (.tmp 104)) (a.eval (.tmp 105)) (a.eval (.tmp 106)) (a.eval (.tmp 107)) (a.eval (.tmp 108)) (a.eval (.tmp 109))).tmps.size = A.tmps.size := by unfold actW; simp only [szP]
  refine act_ext (h.df.trans df.symm) (h.sz.trans sz2.symm) fun (j : Nat) => ?_
  · by_cases e15 : j = 15; (subst e15; exact (evAt15 A hA _ _ _ _ _ _ _ _ _ _ _).symm); by_cases e16 : j = 16; (subst e16; exact (evAt16 A hA _ _ _ _ _ _ _ _ _ _ _).symm); by_cases e101 : j = 101; (subst e101; exact (evAt101 A hA _ _ _ _ _ _ _ _ _ _ _).symm); by_cases e102 : j = 102; (subst e102; exact (evAt102 A hA _ _ _ _ _ _ _ _ _ _ _).symm); by_cases e103 : j = 103; (subst e103; exact (evAt103 A hA _ _ _ _ _ _ _ _ _ _ _).symm); by_cases e104 : j = 104; (subst e104; exact (evAt104 A hA _ _ _ _ _ _ _ _ _ _ _).symm); by_cases e105 : j = 105; (subst e105; exact (evAt105 A hA _ _ _ _ _ _ _ _ _ _ _).symm); by_cases e106 : j = 106; (subst e106; exact (evAt106 A hA _ _ _ _ _ _ _ _ _ _ _).symm); by_cases e107 : j = 107; (subst e107; exact (evAt107 A hA _ _ _ _ _ _ _ _ _ _ _).symm); by_cases e108 : j = 108; (subst e108; exact (evAt108 A hA _ _ _ _ _ _ _ _ _ _ _).symm); by_cases e109 : j = 109; (subst e109; exact (evAt109 A hA _ _ _ _ _ _ _ _ _ _ _).symm)
    refine (h.ev j ?_).trans (evOut A j e15 e16 e101 e102 e103 e104 e105 e106 e107 e108 e109 _ _ _ _ _ _ _ _ _ _ _).symm
    rcases hb : isW j with _ | _
    · rfl
    · exfalso
      unfold isW at hb
      simp only [Bool.or_eq_true, Bool.and_eq_true, Nat.ble_eq] at hb
      have k1 : Nat.beq j 15 = true → j = 15 := Nat.eq_of_beq_eq_true
      have k2 : Nat.beq j 16 = true → j = 16 := Nat.eq_of_beq_eq_true
      rcases hb with (hb | hb) | hb
      · exact e15 (k1 hb)
      · exact e16 (k2 hb)
      · obtain ⟨h1, h2⟩ := hb
        omega
def Wt (o : Oper) (q : Nat) : Prop := ∃ e ∈ o.after, Region.binds .any e = true ∧ e.on = q
def OpA (ops : Array Oper) (i : Nat) (d : Option Nat) (p : Op) (on : List Nat) : Prop := ∃ o : Oper, ops[i]? = some o ∧ o.guard = none ∧ o.dst = d ∧ o.op = p ∧ ∀ q ∈ on, Wt o q
theorem lt12 {i : Nat} (h : i < 12) : i = 0 ∨ i = 1 ∨ i = 2 ∨ i = 3 ∨ i = 4 ∨ i = 5 ∨ i = 6 ∨ i = 7 ∨ i = 8 ∨ i = 9 ∨ i = 10 ∨ i = 11 := by omega
theorem lb_regs {u : World} {b : Nat} {C : Array Value} {v : List UInt8} {m : Nat} (h : Bx u b C 27) (hv : ∀ x, x < 16 → C[x]? = some (.int .u8 ((v.getD x 0).toNat : Int))) (hm : m ≤ 16) : LB u (some ⟨b, 0, none⟩) (v.take m) := fun j a hj => by
  have hjl : j < (v.take m).length := (List.getElem?_eq_some_iff.1 hj).1
  rw [List.length_take] at hjl
  refine ⟨b, 0, rfl, fun i x hx => ?_⟩
  have hi : i < 1 := (List.getElem?_eq_some_iff.1 hx).1
  obtain rfl : i = 0 := by omega
  refine h.c (0 + j * 1 + 0) x ?_
  rw [show 0 + j * 1 + 0 = j by omega, hv j (by omega)]
  rw [List.getElem?_take, if_pos (by omega)] at hj
  have e : v.getD j 0 = a := by rw [List.getD_eq_getElem?_getD, hj]; rfl
  rw [e, ← hx]
  rfl
theorem wr_takeN (m : List UInt8) (k : Nat) (v : List UInt8) (n : Nat) : ∀ j, j ≤ n → wr m k (v.take n) j = wr m k v j
  | 0, _ => rfl
  | j + 1, h => by
    show (wr m k (v.take n) j).set (k + j) ((v.take n).getD j 0) = (wr m k v j).set (k + j) (v.getD j 0)
    rw [wr_takeN m k v n j (by omega), List.getD_eq_getElem?_getD, List.getElem?_take, if_pos (by omega), ← List.getD_eq_getElem?_getD]
theorem sl16 (y : World) (b m : Nat) (hm : m ≤ 16) : (do let x ← Instr.sliceAt 22 (.pointer (some ⟨b, 0, none⟩)) none (some (.int .i64 (m : Int))) none; pure (Next.value x) : Sem Next).run Tryz.prog y = .ok (.value (.slice (some ⟨b, 0, none⟩) m 16)) y := by
  have h1 : (m : Int) ≤ 16 := by omega
  go_simp
def IW (w : World) (B : Nat) (C ZC : Array Value) (g g2 : Gm) (I m : Nat) (R : Bool) (A : Act) (s : Array Bool) (a : Act) (y : World) : Prop := s.size = 12 ∧ Fr A a ∧ ((Bx y w.heap.size C 27 ∧ Bx y (w.heap.size + 4) ZC 27) ∧ BK B w y ∧ w.heap.size + 5 ≤ y.heap.size)
  ∧ (s.getD 0 false = true → a.eval (.tmp 102) = .agg C)
  ∧ (s.getD 1 false = true → a.eval (.tmp 103) = .int .i64 (I : Int))
  ∧ (s.getD 2 false = true → a.eval (.tmp 104) = .pointer (some ⟨w.heap.size, 0, none⟩))
  ∧ (s.getD 3 false = true → a.eval (.tmp 105) = .int .i64 (m : Int))
  ∧ (s.getD 4 false = true → a.eval (.tmp 106) = .slice (some ⟨w.heap.size, 0, none⟩) m 16)
  ∧ (s.getD 5 false = true → a.eval (.tmp 107) = .tuple #[.agg C, .bool R])
  ∧ (s.getD 6 false = true → a.eval (.tmp 101) = .tuple #[.agg C, .bool R])
  ∧ (s.getD 7 false = true → a.eval (.tmp 108) = .agg C)
  ∧ (s.getD 8 false = true → a.eval (.tmp 109) = .bool R)
  ∧ (s.getD 9 false = true → s.getD 10 false = false → ∃ n, a.eval (.tmp 15) = .pointer (some ⟨n, 0, none⟩) ∧ Bx y n ZC 27 ∧ w.heap.size + 5 ≤ n)
  ∧ (s.getD 10 false = true → ∃ n, a.eval (.tmp 15) = .pointer (some ⟨n, 0, none⟩) ∧ Bx y n C 27 ∧ w.heap.size + 5 ≤ n)
  ∧ (s.getD 11 false = true → a.eval (.tmp 16) = .bool R)
  ∧ (s.getD 10 false = true → s.getD 9 false = true)
  ∧ (s.getD 5 false = false → GO B y C g)
  ∧ (s.getD 5 false = true → GO B y C g2)
theorem regW {ops : Array Oper} {Q : Exit → Act → World → Prop} {id : Nat} {A : Act} {y0 : World} (w : World) (B : Nat) (C ZC : Array Value) (g g2 : Gm) (gM cM I m : Nat) (R : Bool) (hZ : ZC = gZ) (hZ' : ZC.size = 23) (hCs : C.size = 23) (hB : B ≤ w.heap.size) (hm3 : g.me.length = 3232) (hM : C[22]? = some (.slice (some ⟨gM, 0, none⟩) 3232 cM)) (lM : B ≤ gM ∧ gM < w.heap.size) (hI : I < 65536) (hm0 : 0 < m) (hm16 : m ≤ 16) (hR : fitG I m = R) (hg2 : (if R then { g with me := wr g.me (I - 512) (g.v.take m) m } else g) = g2) (hsz : ops.size = 12) (hu : upB .any ops = true)
    (o0 : OpA ops 0 (some 102) (.load 27 (.tmp 4)) [])
    (o1 : OpA ops 1 (some 103) (.move (.tmp 11)) [])
    (o2 : OpA ops 2 (some 104) (.fieldAddr 27 (.tmp 4) 0) [])
    (o3 : OpA ops 3 (some 105) (.move (.tmp 12)) [])
    (o4 : OpA ops 4 (some 106) (.slice 22 (.tmp 104) none (some (.tmp 105)) none) [2, 3])
    (o5 : OpA ops 5 (some 107) (.call { callee := .value (.func 96), args := #[.tmp 102, .tmp 103, .tmp 106], argTypes := #[27, 3, 25] }) [0, 1, 4])
    (o6 : OpA ops 6 (some 101) (.move (.tmp 107)) [5])
    (o7 : OpA ops 7 (some 108) (.extract (.tmp 101) 0) [6])
    (o8 : OpA ops 8 (some 109) (.extract (.tmp 101) 1) [6])
    (o9 : OpA ops 9 (some 15) (.alloc 27) [])
    (o10 : OpA ops 10 none (.store 27 (.tmp 15) (.tmp 108)) [9, 7])
    (o11 : OpA ops 11 (some 16) (.assign (.tmp 109)) [8])
    (ht : A.tmps.size = 152) (e4 : A.eval (.tmp 4) = .pointer (some ⟨w.heap.size, 0, none⟩)) (e11 : A.eval (.tmp 11) = .int .i64 (I : Int)) (e12 : A.eval (.tmp 12) = .int .i64 (m : Int)) (h0 : Bx y0 w.heap.size C 27 ∧ Bx y0 (w.heap.size + 4) ZC 27) (hG : GO B y0 C g) (hK : BK B w y0) (hs5 : w.heap.size + 5 ≤ y0.heap.size)
    (fin : ∀ (y : World) (n : Nat) (v101 v102 v103 v104 v105 v106 v107 v108 v109 : Value), Hid ((Bx y w.heap.size C 27 ∧ Bx y (w.heap.size + 4) ZC 27) ∧ GO B y C g2 ∧ BK B w y ∧ Bx y n C 27 ∧ w.heap.size + 5 ≤ n) → Q .normal (actW A (.pointer (some ⟨n, 0, none⟩)) (.bool R) v101 v102 v103 v104 v105 v106 v107 v108 v109) y) : (Code.region id ops true).wp Tryz.prog Q A y0 := by
  have bd : ∀ x : World, Below x.heap.size x x.drew := fun x => ⟨rfl, rfl, rfl, Nat.le_refl _, fun _ _ => rfl⟩
  have hv16 : ∀ x, x < 16 → C[x]? = some (.int .u8 ((g.v.getD x 0).toNat : Int)) := fun x hx => hG.vR x hx
  have hvl : (g.v.take m).length = m := by rw [List.length_take, hG.ok.v]; omega
  refine region_inv2 (IW w B C ZC g g2 I m R A) (by kernel_rfl) hu (fun s a y h => by rw [h.1, hsz]) ?_ ?_ ?_
  · rw [hsz]
    refine ⟨rfl, ⟨rfl, rfl, fun _ _ => rfl⟩, ⟨⟨((bd y0).block _ (heap_lt h0.1)).trans h0.1, ((bd y0).block _ (heap_lt h0.2)).trans h0.2⟩, hK.tr hB ((bd y0).mono (by omega)), hs5⟩, fun h => absurd h (by decide), fun h => absurd h (by decide), fun h => absurd h (by decide), fun h => absurd h (by decide), fun h => absurd h (by decide), fun h => absurd h (by decide), fun h => absurd h (by decide), fun h => absurd h (by decide), fun h => absurd h (by decide), fun h _ => absurd h (by decide), fun h => absurd h (by decide), fun h => absurd h (by decide), fun h => absurd h (by decide), fun _ => hG.below (bd y0), fun h => absurd h (by decide)⟩
  · intro s a y i o hI' hoi hnd haf
    have hi : i < 12 := by rw [← hsz]; exact (Array.getElem?_eq_some_iff.1 hoi).1
    obtain ⟨hs, hfr, hw, c0, c1, c2, c3, c4, c5, c6, c7, c8, c9, c10, c11, d1, m0, m1⟩ := hI'
    have hta : a.tmps.size = 152 := by rw [hfr.sz]; exact ht
    have a4 := (hfr.ev 4 (by decide)).trans e4
    have a11 := (hfr.ev 11 (by decide)).trans e11
    have a12 := (hfr.ev 12 (by decide)).trans e12
    have hset : ∀ j, (s.setIfInBounds i true).getD j false = if j = i then true else s.getD j false := fun j => getD_set s i j (by omega)
    have hsz' : (s.setIfInBounds i true).size = 12 := by simpa using hs
    rcases lt12 hi with rfl | rfl | rfl | rfl | rfl | rfl | rfl | rfl | rfl | rfl | rfl | rfl
    · obtain ⟨o', ho', og, od, oo, ow⟩ := o0
      rw [ho'] at hoi
      injection hoi with hoi
      subst hoi
      refine wpOp_of ho' (by unfold Region.wanted; rw [og]) (wp_ld rtG w.heap.size C hw.1.1 hCs (.tmp 4) oo a4 ?_)
      rw [od]
      exact ⟨hsz', hfr.put 102 _ (by decide), hw, fun _ => ev_eq (by rw [hta]; decide), fun h0 => by rw [ev_ne (by decide)]; exact c1 (by rw [hset] at h0; simpa using h0), fun h0 => by rw [ev_ne (by decide)]; exact c2 (by rw [hset] at h0; simpa using h0), fun h0 => by rw [ev_ne (by decide)]; exact c3 (by rw [hset] at h0; simpa using h0), fun h0 => by rw [ev_ne (by decide)]; exact c4 (by rw [hset] at h0; simpa using h0), fun h0 => by rw [ev_ne (by decide)]; exact c5 (by rw [hset] at h0; simpa using h0), fun h0 => by rw [ev_ne (by decide)]; exact c6 (by rw [hset] at h0; simpa using h0), fun h0 => by rw [ev_ne (by decide)]; exact c7 (by rw [hset] at h0; simpa using h0), fun h0 => by rw [ev_ne (by decide)]; exact c8 (by rw [hset] at h0; simpa using h0), fun h0 h1 => by rw [ev_ne (by decide)]; exact c9 (by rw [hset] at h0; simpa using h0) (by rw [hset] at h1; simpa using h1), fun h0 => by rw [ev_ne (by decide)]; exact c10 (by rw [hset] at h0; simpa using h0), fun h0 => by rw [ev_ne (by decide)]; exact c11 (by rw [hset] at h0; simpa using h0), fun h0 => by rw [hset]; split; rfl; exact d1 (by rw [hset] at h0; simpa using h0), fun h0 => m0 (by rw [hset] at h0; simpa using h0), fun h0 => m1 (by rw [hset] at h0; simpa using h0)⟩
    · obtain ⟨o', ho', og, od, oo, ow⟩ := o1
      rw [ho'] at hoi
      injection hoi with hoi
      subst hoi
      refine wpOp_val (.int .i64 (I : Int)) ho' og ?_ ?_
      · unfold execOp; simp only [oo, a11, Sem.run_pure]
      · rw [od]
        exact ⟨hsz', hfr.put 103 _ (by decide), hw, fun h0 => by rw [ev_ne (by decide)]; exact c0 (by rw [hset] at h0; simpa using h0), fun _ => ev_eq (by rw [hta]; decide), fun h0 => by rw [ev_ne (by decide)]; exact c2 (by rw [hset] at h0; simpa using h0), fun h0 => by rw [ev_ne (by decide)]; exact c3 (by rw [hset] at h0; simpa using h0), fun h0 => by rw [ev_ne (by decide)]; exact c4 (by rw [hset] at h0; simpa using h0), fun h0 => by rw [ev_ne (by decide)]; exact c5 (by rw [hset] at h0; simpa using h0), fun h0 => by rw [ev_ne (by decide)]; exact c6 (by rw [hset] at h0; simpa using h0), fun h0 => by rw [ev_ne (by decide)]; exact c7 (by rw [hset] at h0; simpa using h0), fun h0 => by rw [ev_ne (by decide)]; exact c8 (by rw [hset] at h0; simpa using h0), fun h0 h1 => by rw [ev_ne (by decide)]; exact c9 (by rw [hset] at h0; simpa using h0) (by rw [hset] at h1; simpa using h1), fun h0 => by rw [ev_ne (by decide)]; exact c10 (by rw [hset] at h0; simpa using h0), fun h0 => by rw [ev_ne (by decide)]; exact c11 (by rw [hset] at h0; simpa using h0), fun h0 => by rw [hset]; split; rfl; exact d1 (by rw [hset] at h0; simpa using h0), fun h0 => m0 (by rw [hset] at h0; simpa using h0), fun h0 => m1 (by rw [hset] at h0; simpa using h0)⟩
    · obtain ⟨o', ho', og, od, oo, ow⟩ := o2
      rw [ho'] at hoi
      injection hoi with hoi
      subst hoi
      refine wpOp_val (.pointer (some ⟨w.heap.size, 0, none⟩)) ho' og ?_ ?_
      · unfold execOp; simp only [oo, a4]; show _ = _; kernel_rfl
      · rw [od]
        exact ⟨hsz', hfr.put 104 _ (by decide), hw, fun h0 => by rw [ev_ne (by decide)]; exact c0 (by rw [hset] at h0; simpa using h0), fun h0 => by rw [ev_ne (by decide)]; exact c1 (by rw [hset] at h0; simpa using h0), fun _ => ev_eq (by rw [hta]; decide), fun h0 => by rw [ev_ne (by decide)]; exact c3 (by rw [hset] at h0; simpa using h0), fun h0 => by rw [ev_ne (by decide)]; exact c4 (by rw [hset] at h0; simpa using h0), fun h0 => by rw [ev_ne (by decide)]; exact c5 (by rw [hset] at h0; simpa using h0), fun h0 => by rw [ev_ne (by decide)]; exact c6 (by rw [hset] at h0; simpa using h0), fun h0 => by rw [ev_ne (by decide)]; exact c7 (by rw [hset] at h0; simpa using h0), fun h0 => by rw [ev_ne (by decide)]; exact c8 (by rw [hset] at h0; simpa using h0), fun h0 h1 => by rw [ev_ne (by decide)]; exact c9 (by rw [hset] at h0; simpa using h0) (by rw [hset] at h1; simpa using h1), fun h0 => by rw [ev_ne (by decide)]; exact c10 (by rw [hset] at h0; simpa using h0), fun h0 => by rw [ev_ne (by decide)]; exact c11 (by rw [hset] at h0; simpa using h0), fun h0 => by rw [hset]; split; rfl; exact d1 (by rw [hset] at h0; simpa using h0), fun h0 => m0 (by rw [hset] at h0; simpa using h0), fun h0 => m1 (by rw [hset] at h0; simpa using h0)⟩
    · obtain ⟨o', ho', og, od, oo, ow⟩ := o3
      rw [ho'] at hoi
      injection hoi with hoi
      subst hoi
      refine wpOp_val (.int .i64 (m : Int)) ho' og ?_ ?_
      · unfold execOp; simp only [oo, a12, Sem.run_pure]
      · rw [od]
        exact ⟨hsz', hfr.put 105 _ (by decide), hw, fun h0 => by rw [ev_ne (by decide)]; exact c0 (by rw [hset] at h0; simpa using h0), fun h0 => by rw [ev_ne (by decide)]; exact c1 (by rw [hset] at h0; simpa using h0), fun h0 => by rw [ev_ne (by decide)]; exact c2 (by rw [hset] at h0; simpa using h0), fun _ => ev_eq (by rw [hta]; decide), fun h0 => by rw [ev_ne (by decide)]; exact c4 (by rw [hset] at h0; simpa using h0), fun h0 => by rw [ev_ne (by decide)]; exact c5 (by rw [hset] at h0; simpa using h0), fun h0 => by rw [ev_ne (by decide)]; exact c6 (by rw [hset] at h0; simpa using h0), fun h0 => by rw [ev_ne (by decide)]; exact c7 (by rw [hset] at h0; simpa using h0), fun h0 => by rw [ev_ne (by decide)]; exact c8 (by rw [hset] at h0; simpa using h0), fun h0 h1 => by rw [ev_ne (by decide)]; exact c9 (by rw [hset] at h0; simpa using h0) (by rw [hset] at h1; simpa using h1), fun h0 => by rw [ev_ne (by decide)]; exact c10 (by rw [hset] at h0; simpa using h0), fun h0 => by rw [ev_ne (by decide)]; exact c11 (by rw [hset] at h0; simpa using h0), fun h0 => by rw [hset]; split; rfl; exact d1 (by rw [hset] at h0; simpa using h0), fun h0 => m0 (by rw [hset] at h0; simpa using h0), fun h0 => m1 (by rw [hset] at h0; simpa using h0)⟩
    · obtain ⟨o', ho', og, od, oo, ow⟩ := o4
      rw [ho'] at hoi
      injection hoi with hoi
      subst hoi
      have y2 : s.getD 2 false = true := by
        obtain ⟨e, m', b, n'⟩ := ow 2 (by simp)
        have := haf e m' b
        rwa [n'] at this
      have y3 : s.getD 3 false = true := by
        obtain ⟨e, m', b, n'⟩ := ow 3 (by simp)
        have := haf e m' b
        rwa [n'] at this
      refine wpOp_val (.slice (some ⟨w.heap.size, 0, none⟩) m 16) ho' og ?_ ?_
      · have q1 := c2 y2; have q2 := c3 y3; have q3 : (m : Int) ≤ 16 := by omega
        unfold execOp; simp only [oo, q1, q2, Option.map_none, Option.map_some]; exact sl16 y w.heap.size m hm16
      · rw [od]
        exact ⟨hsz', hfr.put 106 _ (by decide), hw, fun h0 => by rw [ev_ne (by decide)]; exact c0 (by rw [hset] at h0; simpa using h0), fun h0 => by rw [ev_ne (by decide)]; exact c1 (by rw [hset] at h0; simpa using h0), fun h0 => by rw [ev_ne (by decide)]; exact c2 (by rw [hset] at h0; simpa using h0), fun h0 => by rw [ev_ne (by decide)]; exact c3 (by rw [hset] at h0; simpa using h0), fun _ => ev_eq (by rw [hta]; decide), fun h0 => by rw [ev_ne (by decide)]; exact c5 (by rw [hset] at h0; simpa using h0), fun h0 => by rw [ev_ne (by decide)]; exact c6 (by rw [hset] at h0; simpa using h0), fun h0 => by rw [ev_ne (by decide)]; exact c7 (by rw [hset] at h0; simpa using h0), fun h0 => by rw [ev_ne (by decide)]; exact c8 (by rw [hset] at h0; simpa using h0), fun h0 h1 => by rw [ev_ne (by decide)]; exact c9 (by rw [hset] at h0; simpa using h0) (by rw [hset] at h1; simpa using h1), fun h0 => by rw [ev_ne (by decide)]; exact c10 (by rw [hset] at h0; simpa using h0), fun h0 => by rw [ev_ne (by decide)]; exact c11 (by rw [hset] at h0; simpa using h0), fun h0 => by rw [hset]; split; rfl; exact d1 (by rw [hset] at h0; simpa using h0), fun h0 => m0 (by rw [hset] at h0; simpa using h0), fun h0 => m1 (by rw [hset] at h0; simpa using h0)⟩
    · obtain ⟨o', ho', og, od, oo, ow⟩ := o5
      rw [ho'] at hoi
      injection hoi with hoi
      subst hoi
      have y0 : s.getD 0 false = true := by
        obtain ⟨e, m', b, n'⟩ := ow 0 (by simp)
        have := haf e m' b
        rwa [n'] at this
      have y1 : s.getD 1 false = true := by
        obtain ⟨e, m', b, n'⟩ := ow 1 (by simp)
        have := haf e m' b
        rwa [n'] at this
      have y4 : s.getD 4 false = true := by
        obtain ⟨e, m', b, n'⟩ := ow 4 (by simp)
        have := haf e m' b
        rwa [n'] at this
      have q1 := c0 y0
      have q2 := c1 y1
      have q3 := c4 y4
      have hp := m0 hnd
      refine wpOp_call 96 #[.agg C, .int .i64 (I : Int), .slice (some ⟨w.heap.size, 0, none⟩) m 16] _ ho' og ?_ (rwrite_any y B C g I m (g.v.take m) (some ⟨w.heap.size, 0, none⟩) 16 gM cM hp (by show B ≤ _; omega) hm3 hM hvl hm0 hm16 hI (fun u hu => lb_regs ((hu.blk w.heap.size (heap_lt hw.1.1) (fun j e => by omega)).trans hw.1.1) hv16 hm16)) ?_
      · have b1 : 102 < a.tmps.size := by rw [hta]; decide
        have b2 : 103 < a.tmps.size := by rw [hta]; decide
        have b3 : 106 < a.tmps.size := by rw [hta]; decide
        simp only [Act.eval, Array.getD_eq_getD_getElem?] at q1 q2 q3
        unfold execOp
        simp only [oo]
        go_simp
        simp only [Array.getElem?_eq_getElem b1, Array.getElem?_eq_getElem b2, Array.getElem?_eq_getElem b3, Option.getD_some] at q1 q2 q3
        exact ⟨q1, q2, q3⟩
      · rintro e z ⟨rfl, H⟩
        refine ⟨_, rfl, ?_⟩
        rw [od]
        have H1 := H.out.1
        rw [hR, hg2] at H1
        have H2 := H.out.2
        rw [hR]
        exact ⟨hsz', hfr.put 107 _ (by decide), ⟨⟨(H2.blk _ (heap_lt hw.1.1) (fun j e => by omega)).trans hw.1.1, (H2.blk _ (heap_lt hw.1.2) (fun j e => by omega)).trans hw.1.2⟩, hw.2.1.cu H2 (fun q j e => mem_ty hp hM e), Nat.le_trans hw.2.2 H2.low.size⟩, fun h0 => by rw [ev_ne (by decide)]; exact c0 (by rw [hset] at h0; simpa using h0), fun h0 => by rw [ev_ne (by decide)]; exact c1 (by rw [hset] at h0; simpa using h0), fun h0 => by rw [ev_ne (by decide)]; exact c2 (by rw [hset] at h0; simpa using h0), fun h0 => by rw [ev_ne (by decide)]; exact c3 (by rw [hset] at h0; simpa using h0), fun h0 => by rw [ev_ne (by decide)]; exact c4 (by rw [hset] at h0; simpa using h0), fun _ => ev_eq (by rw [hta]; decide), fun h0 => by rw [ev_ne (by decide)]; exact c6 (by rw [hset] at h0; simpa using h0), fun h0 => by rw [ev_ne (by decide)]; exact c7 (by rw [hset] at h0; simpa using h0), fun h0 => by rw [ev_ne (by decide)]; exact c8 (by rw [hset] at h0; simpa using h0), fun h0 h1 => by rw [ev_ne (by decide)]; obtain ⟨n, k1, k2, k3⟩ := c9 (by rw [hset] at h0; simpa using h0) (by rw [hset] at h1; simpa using h1); exact ⟨n, k1, (H2.blk _ (heap_lt k2) (fun j e => by omega)).trans k2, k3⟩, fun h0 => by rw [ev_ne (by decide)]; obtain ⟨n, k1, k2, k3⟩ := c10 (by rw [hset] at h0; simpa using h0); exact ⟨n, k1, (H2.blk _ (heap_lt k2) (fun j e => by omega)).trans k2, k3⟩, fun h0 => by rw [ev_ne (by decide)]; exact c11 (by rw [hset] at h0; simpa using h0), fun h0 => by rw [hset]; split; rfl; exact d1 (by rw [hset] at h0; simpa using h0), fun h0 => absurd h0 (by rw [hset]; simp), fun _ => H1⟩
    · obtain ⟨o', ho', og, od, oo, ow⟩ := o6
      rw [ho'] at hoi
      injection hoi with hoi
      subst hoi
      have y5 : s.getD 5 false = true := by
        obtain ⟨e, m', b, n'⟩ := ow 5 (by simp)
        have := haf e m' b
        rwa [n'] at this
      refine wpOp_val (.tuple #[.agg C, .bool R]) ho' og ?_ ?_
      · unfold execOp; simp only [oo, c5 y5, Sem.run_pure]
      · rw [od]
        exact ⟨hsz', hfr.put 101 _ (by decide), hw, fun h0 => by rw [ev_ne (by decide)]; exact c0 (by rw [hset] at h0; simpa using h0), fun h0 => by rw [ev_ne (by decide)]; exact c1 (by rw [hset] at h0; simpa using h0), fun h0 => by rw [ev_ne (by decide)]; exact c2 (by rw [hset] at h0; simpa using h0), fun h0 => by rw [ev_ne (by decide)]; exact c3 (by rw [hset] at h0; simpa using h0), fun h0 => by rw [ev_ne (by decide)]; exact c4 (by rw [hset] at h0; simpa using h0), fun h0 => by rw [ev_ne (by decide)]; exact c5 (by rw [hset] at h0; simpa using h0), fun _ => ev_eq (by rw [hta]; decide), fun h0 => by rw [ev_ne (by decide)]; exact c7 (by rw [hset] at h0; simpa using h0), fun h0 => by rw [ev_ne (by decide)]; exact c8 (by rw [hset] at h0; simpa using h0), fun h0 h1 => by rw [ev_ne (by decide)]; exact c9 (by rw [hset] at h0; simpa using h0) (by rw [hset] at h1; simpa using h1), fun h0 => by rw [ev_ne (by decide)]; exact c10 (by rw [hset] at h0; simpa using h0), fun h0 => by rw [ev_ne (by decide)]; exact c11 (by rw [hset] at h0; simpa using h0), fun h0 => by rw [hset]; split; rfl; exact d1 (by rw [hset] at h0; simpa using h0), fun h0 => m0 (by rw [hset] at h0; simpa using h0), fun h0 => m1 (by rw [hset] at h0; simpa using h0)⟩
    · obtain ⟨o', ho', og, od, oo, ow⟩ := o7
      rw [ho'] at hoi
      injection hoi with hoi
      subst hoi
      have y6 : s.getD 6 false = true := by
        obtain ⟨e, m', b, n'⟩ := ow 6 (by simp)
        have := haf e m' b
        rwa [n'] at this
      refine wpOp_val (.agg C) ho' og ?_ ?_
      · unfold execOp; simp only [oo, c6 y6]; rfl
      · rw [od]
        exact ⟨hsz', hfr.put 108 _ (by decide), hw, fun h0 => by rw [ev_ne (by decide)]; exact c0 (by rw [hset] at h0; simpa using h0), fun h0 => by rw [ev_ne (by decide)]; exact c1 (by rw [hset] at h0; simpa using h0), fun h0 => by rw [ev_ne (by decide)]; exact c2 (by rw [hset] at h0; simpa using h0), fun h0 => by rw [ev_ne (by decide)]; exact c3 (by rw [hset] at h0; simpa using h0), fun h0 => by rw [ev_ne (by decide)]; exact c4 (by rw [hset] at h0; simpa using h0), fun h0 => by rw [ev_ne (by decide)]; exact c5 (by rw [hset] at h0; simpa using h0), fun h0 => by rw [ev_ne (by decide)]; exact c6 (by rw [hset] at h0; simpa using h0), fun _ => ev_eq (by rw [hta]; decide), fun h0 => by rw [ev_ne (by decide)]; exact c8 (by rw [hset] at h0; simpa using h0), fun h0 h1 => by rw [ev_ne (by decide)]; exact c9 (by rw [hset] at h0; simpa using h0) (by rw [hset] at h1; simpa using h1), fun h0 => by rw [ev_ne (by decide)]; exact c10 (by rw [hset] at h0; simpa using h0), fun h0 => by rw [ev_ne (by decide)]; exact c11 (by rw [hset] at h0; simpa using h0), fun h0 => by rw [hset]; split; rfl; exact d1 (by rw [hset] at h0; simpa using h0), fun h0 => m0 (by rw [hset] at h0; simpa using h0), fun h0 => m1 (by rw [hset] at h0; simpa using h0)⟩
    · obtain ⟨o', ho', og, od, oo, ow⟩ := o8
      rw [ho'] at hoi
      injection hoi with hoi
      subst hoi
      have y6 : s.getD 6 false = true := by
        obtain ⟨e, m', b, n'⟩ := ow 6 (by simp)
        have := haf e m' b
        rwa [n'] at this
      refine wpOp_val (.bool R) ho' og ?_ ?_
      · unfold execOp; simp only [oo, c6 y6]; rfl
      · rw [od]
        exact ⟨hsz', hfr.put 109 _ (by decide), hw, fun h0 => by rw [ev_ne (by decide)]; exact c0 (by rw [hset] at h0; simpa using h0), fun h0 => by rw [ev_ne (by decide)]; exact c1 (by rw [hset] at h0; simpa using h0), fun h0 => by rw [ev_ne (by decide)]; exact c2 (by rw [hset] at h0; simpa using h0), fun h0 => by rw [ev_ne (by decide)]; exact c3 (by rw [hset] at h0; simpa using h0), fun h0 => by rw [ev_ne (by decide)]; exact c4 (by rw [hset] at h0; simpa using h0), fun h0 => by rw [ev_ne (by decide)]; exact c5 (by rw [hset] at h0; simpa using h0), fun h0 => by rw [ev_ne (by decide)]; exact c6 (by rw [hset] at h0; simpa using h0), fun h0 => by rw [ev_ne (by decide)]; exact c7 (by rw [hset] at h0; simpa using h0), fun _ => ev_eq (by rw [hta]; decide), fun h0 h1 => by rw [ev_ne (by decide)]; exact c9 (by rw [hset] at h0; simpa using h0) (by rw [hset] at h1; simpa using h1), fun h0 => by rw [ev_ne (by decide)]; exact c10 (by rw [hset] at h0; simpa using h0), fun h0 => by rw [ev_ne (by decide)]; exact c11 (by rw [hset] at h0; simpa using h0), fun h0 => by rw [hset]; split; rfl; exact d1 (by rw [hset] at h0; simpa using h0), fun h0 => m0 (by rw [hset] at h0; simpa using h0), fun h0 => m1 (by rw [hset] at h0; simpa using h0)⟩
    · obtain ⟨o', ho', og, od, oo, ow⟩ := o9
      rw [ho'] at hoi
      injection hoi with hoi
      subst hoi
      have n10 : s.getD 10 false = false := by
        rcases hh : s.getD 10 false with _ | _
        · rfl
        · rw [d1 hh] at hnd; cases hnd
      refine wpOp_of ho' (by unfold Region.wanted; rw [og]) ?_
      have hr : (execOp a.eval o').run Tryz.prog y = .ok (.value (.pointer (some ⟨y.heap.size, 0, none⟩))) (y.alloc (.cells ZC 27)) := by
        unfold execOp
        simp only [oo]
        rw [hZ]
        unfold gZ
        go_simp
      unfold Oper.wp
      rw [hr, Oper.upon_value, od]
      have hb := below1 y (.cells ZC 27)
      exact ⟨hsz', hfr.put 15 _ (by decide), ⟨⟨(hb.block _ (heap_lt hw.1.1)).trans hw.1.1, (hb.block _ (heap_lt hw.1.2)).trans hw.1.2⟩, hw.2.1.tr hB (hb.mono (by omega)), Nat.le_trans hw.2.2 hb.size⟩, fun h0 => by rw [ev_ne (by decide)]; exact c0 (by rw [hset] at h0; simpa using h0), fun h0 => by rw [ev_ne (by decide)]; exact c1 (by rw [hset] at h0; simpa using h0), fun h0 => by rw [ev_ne (by decide)]; exact c2 (by rw [hset] at h0; simpa using h0), fun h0 => by rw [ev_ne (by decide)]; exact c3 (by rw [hset] at h0; simpa using h0), fun h0 => by rw [ev_ne (by decide)]; exact c4 (by rw [hset] at h0; simpa using h0), fun h0 => by rw [ev_ne (by decide)]; exact c5 (by rw [hset] at h0; simpa using h0), fun h0 => by rw [ev_ne (by decide)]; exact c6 (by rw [hset] at h0; simpa using h0), fun h0 => by rw [ev_ne (by decide)]; exact c7 (by rw [hset] at h0; simpa using h0), fun h0 => by rw [ev_ne (by decide)]; exact c8 (by rw [hset] at h0; simpa using h0), fun _ _ => ⟨y.heap.size, ev_eq (by rw [hta]; decide), one_bxL y _ _, hw.2.2⟩, fun h0 => absurd (show s.getD 10 false = true by rw [hset] at h0; simpa using h0) (by rw [n10]; simp), fun h0 => by rw [ev_ne (by decide)]; exact c11 (by rw [hset] at h0; simpa using h0), fun h0 => by rw [hset]; split; rfl; exact d1 (by rw [hset] at h0; simpa using h0), fun h0 => (m0 (by rw [hset] at h0; simpa using h0)).below hb, fun h0 => (m1 (by rw [hset] at h0; simpa using h0)).below hb⟩
    · obtain ⟨o', ho', og, od, oo, ow⟩ := o10
      rw [ho'] at hoi
      injection hoi with hoi
      subst hoi
      have y9 : s.getD 9 false = true := by
        obtain ⟨e, m', b, n'⟩ := ow 9 (by simp)
        have := haf e m' b
        rwa [n'] at this
      have y7 : s.getD 7 false = true := by
        obtain ⟨e, m', b, n'⟩ := ow 7 (by simp)
        have := haf e m' b
        rwa [n'] at this
      obtain ⟨n, k1, k2, k3⟩ := c9 y9 hnd
      have q2 := c7 y7
      have hall1 : C.all (·.oneCell') = true := by
        rcases hh : s.getD 5 false with _ | _
        · exact (m0 hh).lies.size.2.1
        · exact (m1 hh).lies.size.2.1
      refine wpOp_list ho' ?_
      refine at_st rtG n ZC C k2 hZ' hCs hall1 (.tmp 15) (.tmp 108) og oo k1 q2 ?_
      intro z H
      rw [od]
      have Hn := H.out
      exact ⟨hsz', hfr, ⟨⟨(Hn.2.2 _ (by omega)).trans hw.1.1, (Hn.2.2 _ (by omega)).trans hw.1.2⟩, hw.2.1.tr hB (Hn.2.1 _ (by omega)), Nat.le_trans hw.2.2 (Hn.2.1 0 (by omega)).size⟩, fun h0 => c0 (by rw [hset] at h0; simpa using h0), fun h0 => c1 (by rw [hset] at h0; simpa using h0), fun h0 => c2 (by rw [hset] at h0; simpa using h0), fun h0 => c3 (by rw [hset] at h0; simpa using h0), fun h0 => c4 (by rw [hset] at h0; simpa using h0), fun h0 => c5 (by rw [hset] at h0; simpa using h0), fun h0 => c6 (by rw [hset] at h0; simpa using h0), fun h0 => c7 (by rw [hset] at h0; simpa using h0), fun h0 => c8 (by rw [hset] at h0; simpa using h0), fun _ h1 => absurd h1 (by rw [hset]; simp), fun _ => ⟨n, k1, Hn.1, k3⟩, fun h0 => c11 (by rw [hset] at h0; simpa using h0), fun _ => by rw [hset]; simpa using y9, fun h0 => (m0 (by rw [hset] at h0; simpa using h0)).offT k2 (by decide) (by decide) Hn.2.2, fun h0 => (m1 (by rw [hset] at h0; simpa using h0)).offT k2 (by decide) (by decide) Hn.2.2⟩
    · obtain ⟨o', ho', og, od, oo, ow⟩ := o11
      rw [ho'] at hoi
      injection hoi with hoi
      subst hoi
      have y8 : s.getD 8 false = true := by
        obtain ⟨e, m', b, n'⟩ := ow 8 (by simp)
        have := haf e m' b
        rwa [n'] at this
      refine wpOp_val (.bool R) ho' og ?_ ?_
      · unfold execOp; simp only [oo, c8 y8, Sem.run_pure]
      · rw [od]
        exact ⟨hsz', hfr.put 16 _ (by decide), hw, fun h0 => by rw [ev_ne (by decide)]; exact c0 (by rw [hset] at h0; simpa using h0), fun h0 => by rw [ev_ne (by decide)]; exact c1 (by rw [hset] at h0; simpa using h0), fun h0 => by rw [ev_ne (by decide)]; exact c2 (by rw [hset] at h0; simpa using h0), fun h0 => by rw [ev_ne (by decide)]; exact c3 (by rw [hset] at h0; simpa using h0), fun h0 => by rw [ev_ne (by decide)]; exact c4 (by rw [hset] at h0; simpa using h0), fun h0 => by rw [ev_ne (by decide)]; exact c5 (by rw [hset] at h0; simpa using h0), fun h0 => by rw [ev_ne (by decide)]; exact c6 (by rw [hset] at h0; simpa using h0), fun h0 => by rw [ev_ne (by decide)]; exact c7 (by rw [hset] at h0; simpa using h0), fun h0 => by rw [ev_ne (by decide)]; exact c8 (by rw [hset] at h0; simpa using h0), fun h0 h1 => by rw [ev_ne (by decide)]; exact c9 (by rw [hset] at h0; simpa using h0) (by rw [hset] at h1; simpa using h1), fun h0 => by rw [ev_ne (by decide)]; exact c10 (by rw [hset] at h0; simpa using h0), fun _ => ev_eq (by rw [hta]; decide), fun h0 => by rw [hset]; split; rfl; exact d1 (by rw [hset] at h0; simpa using h0), fun h0 => m0 (by rw [hset] at h0; simpa using h0), fun h0 => m1 (by rw [hset] at h0; simpa using h0)⟩
  · intro s a y hI' hall
    obtain ⟨hs, hfr, hw, c0, c1, c2, c3, c4, c5, c6, c7, c8, c9, c10, c11, d1, m0, m1⟩ := hI'
    obtain ⟨n, k1, k2, k3⟩ := c10 (hall 10 (by omega))
    have e := hfr.eq ht
    rw [k1, c11 (hall 11 (by omega))] at e
    rw [e]
    exact fin y n _ _ _ _ _ _ _ _ _ ⟨hw.1, m1 (hall 5 (by omega)), hw.2.1, k2, k3⟩
end Go.Proofs.YteipjkjpeookaaaGreat
