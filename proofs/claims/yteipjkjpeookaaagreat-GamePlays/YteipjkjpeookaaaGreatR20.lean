/- Plays that lie in memory; the round's call of the step. -/
import Derived.Test.YteipjkjpeookaaaGreatR19
import Derived.Test.YteipjkjpeookaaaGreatR12
namespace Go.Proofs.YteipjkjpeookaaaGreat
open Go Go.RowKit Go.Shelf
set_option linter.unusedVariables false
set_option maxHeartbeats 1000000
set_option maxRecDepth 100000

/-- One play: a feed, and a number of ticks. -/
structure Pl where
  d : Fd
  tk : Int
def cPl (p : Pl) : List Value := [byV p.d.rn, .int .u16 (p.d.ks : Int), .int .i64 p.d.ky, .int .i64 p.tk]
structure Pl.Ok (p : Pl) : Prop where
  d : p.d.Ok
  tk : -9223372036854775808 ≤ p.tk ∧ p.tk ≤ 9223372036854775807
/-- The game at hand: the one that came in, or one of the document's own memory. -/
def HG (w : World) (C : Array Value) (g : Gm) (u : World) (Ci : Array Value) (gi : Gm) : Prop := (Ci = C ∧ gi = g) ∨ GO w.heap.size u Ci gi
theorem HG.gl {w u : World} {C Ci : Array Value} {g gi : Gm} (h : HG w C g u Ci gi) (hg : GL w C g) (hb : Below w.heap.size w u) : GL u Ci gi := by
  rcases h with ⟨rfl, rfl⟩ | h
  · exact hg.below hb
  · exact h.lies
theorem HG.below {w u z : World} {C Ci : Array Value} {g gi : Gm} (h : HG w C g u Ci gi) (hb : Below u.heap.size u z) : HG w C g z Ci gi := by
  rcases h with h | h
  · exact .inl h
  · exact .inr (h.below hb)
theorem HG.offT {w u z : World} {C Ci cs : Array Value} {g gi : Gm} {b : Nat} {t : TypeId} (h : HG w C g u Ci gi) (hx : Bx u b cs t) (h8 : 5 ≠ t) (h16 : 23 ≠ t) (hk : ∀ q, q ≠ b → z.heap[q]? = u.heap[q]?) : HG w C g z Ci gi := by
  rcases h with h | h
  · exact .inl h
  · exact .inr (h.offT hx h8 h16 hk)
theorem Fr2.idx (y : World) (gb ob n cap i : Nat) (h : i < n) : (Instr.indexAt 31 (.slice (some ⟨gb, ob, none⟩) n cap) (.int .i64 (i : Int))).run Tryz.prog y = .ok (.pointer (some ⟨gb, ob + i * 4, none⟩)) y := idxP Tryz.underlying31 (by kernel_rfl) .i64 i y h
def isP (j : Nat) : Bool := (Nat.ble 9 j && Nat.ble j 11) || (Nat.ble 34 j && Nat.ble j 45)
structure Fp (A a : Act) : Prop where
  df : a.defers = A.defers
  sz : a.tmps.size = A.tmps.size
  ev : ∀ j, isP j = false → a.eval (.tmp j) = A.eval (.tmp j)
theorem Fp.put {A a : Act} (h : Fp A a) (d : Nat) (v : Value) (hd : isP d = true) : Fp A (a.put (some d) v) := by
  refine ⟨h.df, ?_, fun j hj => ?_⟩
  · rw [szP]
    exact h.sz
  · rw [ev_ne (fun e => by rw [e, hd] at hj; cases hj)]
    exact h.ev j hj
def actP (A : Act) (v9 v10 v11 v34 v35 v36 v37 v38 v39 v40 v41 v42 v43 v44 v45 : Value) : Act := ((((((((((((((A.put (some 9) v9).put (some 10) v10).put (some 11) v11).put (some 34) v34).put (some 35) v35).put (some 36) v36).put (some 37) v37).put (some 38) v38).put (some 39) v39).put (some 40) v40).put (some 41) v41).put (some 42) v42).put (some 43) v43).put (some 44) v44).put (some 45) v45
theorem epAt9 (A : Act) (hA : A.tmps.size = 90) (v9 v10 v11 v34 v35 v36 v37 v38 v39 v40 v41 v42 v43 v44 v45 : Value) : (actP A v9 v10 v11 v34 v35 v36 v37 v38 v39 v40 v41 v42 v43 v44 v45).eval (.tmp 9) = v9 := by
  unfold actP
  rw [ev_ne (by decide), ev_ne (by decide), ev_ne (by decide), ev_ne (by decide), ev_ne (by decide), ev_ne (by decide), ev_ne (by decide), ev_ne (by decide), ev_ne (by decide), ev_ne (by decide), ev_ne (by decide), ev_ne (by decide), ev_ne (by decide), ev_ne (by decide), ev_eq (by simp only [hA]; decide)]
theorem epAt10 (A : Act) (hA : A.tmps.size = 90) (v9 v10 v11 v34 v35 v36 v37 v38 v39 v40 v41 v42 v43 v44 v45 : Value) : (actP A v9 v10 v11 v34 v35 v36 v37 v38 v39 v40 v41 v42 v43 v44 v45).eval (.tmp 10) = v10 := by
  unfold actP
  rw [ev_ne (by decide), ev_ne (by decide), ev_ne (by decide), ev_ne (by decide), ev_ne (by decide), ev_ne (by decide), ev_ne (by decide), ev_ne (by decide), ev_ne (by decide), ev_ne (by decide), ev_ne (by decide), ev_ne (by decide), ev_ne (by decide), ev_eq (by simp only [szP, hA]; decide)]
theorem epAt11 (A : Act) (hA : A.tmps.size = 90) (v9 v10 v11 v34 v35 v36 v37 v38 v39 v40 v41 v42 v43 v44 v45 : Value) : (actP A v9 v10 v11 v34 v35 v36 v37 v38 v39 v40 v41 v42 v43 v44 v45).eval (.tmp 11) = v11 := by
  unfold actP
  rw [ev_ne (by decide), ev_ne (by decide), ev_ne (by decide), ev_ne (by decide), ev_ne (by decide), ev_ne (by decide), ev_ne (by decide), ev_ne (by decide), ev_ne (by decide), ev_ne (by decide), ev_ne (by decide), ev_ne (by decide), ev_eq (by simp only [szP, hA]; decide)]
theorem epAt34 (A : Act) (hA : A.tmps.size = 90) (v9 v10 v11 v34 v35 v36 v37 v38 v39 v40 v41 v42 v43 v44 v45 : Value) : (actP A v9 v10 v11 v34 v35 v36 v37 v38 v39 v40 v41 v42 v43 v44 v45).eval (.tmp 34) = v34 := by
  unfold actP
  rw [ev_ne (by decide), ev_ne (by decide), ev_ne (by decide), ev_ne (by decide), ev_ne (by decide), ev_ne (by decide), ev_ne (by decide), ev_ne (by decide), ev_ne (by decide), ev_ne (by decide), ev_ne (by decide), ev_eq (by simp only [szP, hA]; decide)]
theorem epAt35 (A : Act) (hA : A.tmps.size = 90) (v9 v10 v11 v34 v35 v36 v37 v38 v39 v40 v41 v42 v43 v44 v45 : Value) : (actP A v9 v10 v11 v34 v35 v36 v37 v38 v39 v40 v41 v42 v43 v44 v45).eval (.tmp 35) = v35 := by
  unfold actP
  rw [ev_ne (by decide), ev_ne (by decide), ev_ne (by decide), ev_ne (by decide), ev_ne (by decide), ev_ne (by decide), ev_ne (by decide), ev_ne (by decide), ev_ne (by decide), ev_ne (by decide), ev_eq (by simp only [szP, hA]; decide)]
theorem epAt36 (A : Act) (hA : A.tmps.size = 90) (v9 v10 v11 v34 v35 v36 v37 v38 v39 v40 v41 v42 v43 v44 v45 : Value) : (actP A v9 v10 v11 v34 v35 v36 v37 v38 v39 v40 v41 v42 v43 v44 v45).eval (.tmp 36) = v36 := by
  unfold actP
  rw [ev_ne (by decide), ev_ne (by decide), ev_ne (by decide), ev_ne (by decide), ev_ne (by decide), ev_ne (by decide), ev_ne (by decide), ev_ne (by decide), ev_ne (by decide), ev_eq (by simp only [szP, hA]; decide)]
theorem epAt37 (A : Act) (hA : A.tmps.size = 90) (v9 v10 v11 v34 v35 v36 v37 v38 v39 v40 v41 v42 v43 v44 v45 : Value) : (actP A v9 v10 v11 v34 v35 v36 v37 v38 v39 v40 v41 v42 v43 v44 v45).eval (.tmp 37) = v37 := by
  unfold actP
  rw [ev_ne (by decide), ev_ne (by decide), ev_ne (by decide), ev_ne (by decide), ev_ne (by decide), ev_ne (by decide), ev_ne (by decide), ev_ne (by decide), ev_eq (by simp only [szP, hA]; decide)]
theorem epAt38 (A : Act) (hA : A.tmps.size = 90) (v9 v10 v11 v34 v35 v36 v37 v38 v39 v40 v41 v42 v43 v44 v45 : Value) : (actP A v9 v10 v11 v34 v35 v36 v37 v38 v39 v40 v41 v42 v43 v44 v45).eval (.tmp 38) = v38 := by
  unfold actP
  rw [ev_ne (by decide), ev_ne (by decide), ev_ne (by decide), ev_ne (by decide), ev_ne (by decide), ev_ne (by decide), ev_ne (by decide), ev_eq (by simp only [szP, hA]; decide)]
theorem epAt39 (A : Act) (hA : A.tmps.size = 90) (v9 v10 v11 v34 v35 v36 v37 v38 v39 v40 v41 v42 v43 v44 v45 : Value) : (actP A v9 v10 v11 v34 v35 v36 v37 v38 v39 v40 v41 v42 v43 v44 v45).eval (.tmp 39) = v39 := by
  unfold actP
  rw [ev_ne (by decide), ev_ne (by decide), ev_ne (by decide), ev_ne (by decide), ev_ne (by decide), ev_ne (by decide), ev_eq (by simp only [szP, hA]; decide)]
theorem epAt40 (A : Act) (hA : A.tmps.size = 90) (v9 v10 v11 v34 v35 v36 v37 v38 v39 v40 v41 v42 v43 v44 v45 : Value) : (actP A v9 v10 v11 v34 v35 v36 v37 v38 v39 v40 v41 v42 v43 v44 v45).eval (.tmp 40) = v40 := by
  unfold actP
  rw [ev_ne (by decide), ev_ne (by decide), ev_ne (by decide), ev_ne (by decide), ev_ne (by decide), ev_eq (by simp only [szP, hA]; decide)]
theorem epAt41 (A : Act) (hA : A.tmps.size = 90) (v9 v10 v11 v34 v35 v36 v37 v38 v39 v40 v41 v42 v43 v44 v45 : Value) : (actP A v9 v10 v11 v34 v35 v36 v37 v38 v39 v40 v41 v42 v43 v44 v45).eval (.tmp 41) = v41 := by
  unfold actP
  rw [ev_ne (by decide), ev_ne (by decide), ev_ne (by decide), ev_ne (by decide), ev_eq (by simp only [szP, hA]; decide)]
theorem epAt42 (A : Act) (hA : A.tmps.size = 90) (v9 v10 v11 v34 v35 v36 v37 v38 v39 v40 v41 v42 v43 v44 v45 : Value) : (actP A v9 v10 v11 v34 v35 v36 v37 v38 v39 v40 v41 v42 v43 v44 v45).eval (.tmp 42) = v42 := by
  unfold actP
  rw [ev_ne (by decide), ev_ne (by decide), ev_ne (by decide), ev_eq (by simp only [szP, hA]; decide)]
theorem epAt43 (A : Act) (hA : A.tmps.size = 90) (v9 v10 v11 v34 v35 v36 v37 v38 v39 v40 v41 v42 v43 v44 v45 : Value) : (actP A v9 v10 v11 v34 v35 v36 v37 v38 v39 v40 v41 v42 v43 v44 v45).eval (.tmp 43) = v43 := by
  unfold actP
  rw [ev_ne (by decide), ev_ne (by decide), ev_eq (by simp only [szP, hA]; decide)]
theorem epAt44 (A : Act) (hA : A.tmps.size = 90) (v9 v10 v11 v34 v35 v36 v37 v38 v39 v40 v41 v42 v43 v44 v45 : Value) : (actP A v9 v10 v11 v34 v35 v36 v37 v38 v39 v40 v41 v42 v43 v44 v45).eval (.tmp 44) = v44 := by
  unfold actP
  rw [ev_ne (by decide), ev_eq (by simp only [szP, hA]; decide)]
theorem epAt45 (A : Act) (hA : A.tmps.size = 90) (v9 v10 v11 v34 v35 v36 v37 v38 v39 v40 v41 v42 v43 v44 v45 : Value) : (actP A v9 v10 v11 v34 v35 v36 v37 v38 v39 v40 v41 v42 v43 v44 v45).eval (.tmp 45) = v45 := by
  unfold actP
  rw [ev_eq (by simp only [szP, hA]; decide)]
theorem epOut (A : Act) (j : Nat) (e9 : j ≠ 9) (e10 : j ≠ 10) (e11 : j ≠ 11) (e34 : j ≠ 34) (e35 : j ≠ 35) (e36 : j ≠ 36) (e37 : j ≠ 37) (e38 : j ≠ 38) (e39 : j ≠ 39) (e40 : j ≠ 40) (e41 : j ≠ 41) (e42 : j ≠ 42) (e43 : j ≠ 43) (e44 : j ≠ 44) (e45 : j ≠ 45) (v9 v10 v11 v34 v35 v36 v37 v38 v39 v40 v41 v42 v43 v44 v45 : Value) : (actP A v9 v10 v11 v34 v35 v36 v37 v38 v39 v40 v41 v42 v43 v44 v45).eval (.tmp j) = A.eval (.tmp j) := by
  unfold actP
  rw [ev_ne e45, ev_ne e44, ev_ne e43, ev_ne e42, ev_ne e41, ev_ne e40, ev_ne e39, ev_ne e38, ev_ne e37, ev_ne e36, ev_ne e35, ev_ne e34, ev_ne e11, ev_ne e10, ev_ne e9]
theorem Fp.eq {A a : Act} (h : Fp A a) (hA : A.tmps.size = 90) : a = actP A (a.eval (.tmp 9)) (a.eval (.tmp 10)) (a.eval (.tmp 11)) (a.eval (.tmp 34)) (a.eval (.tmp 35)) (a.eval (.tmp 36)) (a.eval (.tmp 37)) (a.eval (.tmp 38)) (a.eval (.tmp 39)) (a.eval (.tmp 40)) (a.eval (.tmp 41)) (a.eval (.tmp 42)) (a.eval (.tmp 43)) (a.eval (.tmp 44)) (a.eval (.tmp 45)) := by
  have df : (actP A (a.eval (.tmp 9)) (a.eval (.tmp 10)) (a.eval (.tmp 11)) (a.eval (.tmp 34)) (a.eval (.tmp 35)) (a.eval (.tmp 36)) (a.eval (.tmp 37)) (a.eval (.tmp 38)) (a.eval (.tmp 39)) (a.eval (.tmp 40)) (a.eval (.tmp 41)) (a.eval (.tmp 42)) (a.eval (.tmp 43)) (a.eval (.tmp 44)) (a.eval (.tmp 45))).defers = A.defers := by unfold actP; simp only [dfP]
  have sz2 : (actP A (a.eval (.tmp 9)) (a.eval (.tmp 10)) (a.eval (.tmp 11)) (a.eval (.tmp 34)) (a.eval (.tmp 35)) (a.eval (.tmp 36)) (a.eval (.tmp 37)) (a.eval (.tmp 38)) (a.eval (.tmp 39)) (a.eval (.tmp 40)) (a.eval (.tmp 41)) (a.eval (.tmp 42)) (a.eval (.tmp 43)) (a.eval (.tmp 44)) (a.eval (.tmp 45))).tmps.size = A.tmps.size := by unfold actP; simp only [szP]
  refine act_ext (h.df.trans df.symm) (h.sz.trans sz2.symm) fun (j : Nat) => ?_
  by_cases e9 : j = 9; (subst e9; exact (epAt9 A hA _ _ _ _ _ _ _ _ _ _ _ _ _ _ _).symm); by_cases e10 : j = 10; (subst e10; exact (epAt10 A hA _ _ _ _ _ _ _ _ _ _ _ _ _ _ _).symm); by_cases e11 : j = 11; (subst e11; exact (epAt11 A hA _ _ _ _ _ _ _ _ _ _ _ _ _ _ _).symm); by_cases e34 : j = 34; (subst e34; exact (epAt34 A hA _ _ _ _ _ _ _ _ _ _ _ _ _ _ _).symm); by_cases e35 : j = 35; (subst e35; exact (epAt35 A hA _ _ _ _ _ _ _ _ _ _ _ _ _ _ _).symm); by_cases e36 : j = 36; (subst e36; exact (epAt36 A hA _ _ _ _ _ _ _ _ _ _ _ _ _ _ _).symm); by_cases e37 : j = 37; (subst e37; exact (epAt37 A hA _ _ _ _ _ _ _ _ _ _ _ _ _ _ _).symm); by_cases e38 : j = 38; (subst e38; exact (epAt38 A hA _ _ _ _ _ _ _ _ _ _ _ _ _ _ _).symm); by_cases e39 : j = 39; (subst e39; exact (epAt39 A hA _ _ _ _ _ _ _ _ _ _ _ _ _ _ _).symm); by_cases e40 : j = 40; (subst e40; exact (epAt40 A hA _ _ _ _ _ _ _ _ _ _ _ _ _ _ _).symm); by_cases e41 : j = 41; (subst e41; exact (epAt41 A hA _ _ _ _ _ _ _ _ _ _ _ _ _ _ _).symm); by_cases e42 : j = 42; (subst e42; exact (epAt42 A hA _ _ _ _ _ _ _ _ _ _ _ _ _ _ _).symm); by_cases e43 : j = 43; (subst e43; exact (epAt43 A hA _ _ _ _ _ _ _ _ _ _ _ _ _ _ _).symm); by_cases e44 : j = 44; (subst e44; exact (epAt44 A hA _ _ _ _ _ _ _ _ _ _ _ _ _ _ _).symm); by_cases e45 : j = 45; (subst e45; exact (epAt45 A hA _ _ _ _ _ _ _ _ _ _ _ _ _ _ _).symm)
  refine (h.ev j ?_).trans (epOut A j e9 e10 e11 e34 e35 e36 e37 e38 e39 e40 e41 e42 e43 e44 e45 _ _ _ _ _ _ _ _ _ _ _ _ _ _ _).symm
  rcases hb : isP j with _ | _
  · rfl
  · exfalso
    unfold isP at hb
    simp only [Bool.or_eq_true, Bool.and_eq_true, Nat.ble_eq] at hb
    omega
theorem two_lt {w : World} {c1 c2 cs : Array Value} {x b : Nat} {t1 t2 tt : TypeId} (h : [(w.heap.size, c1, t1), (w.heap.size + 1, c2, t2)][x]? = some (b, cs, tt)) : b < w.heap.size + 2 := by
  match x with
  | 0 => simp at h; omega
  | 1 => simp at h; omega
  | x + 2 => simp at h
theorem lt16 {i : Nat} (h : i < 16) : i = 0 ∨ i = 1 ∨ i = 2 ∨ i = 3 ∨ i = 4 ∨ i = 5 ∨ i = 6 ∨ i = 7 ∨ i = 8 ∨ i = 9 ∨ i = 10 ∨ i = 11 ∨ i = 12 ∨ i = 13 ∨ i = 14 ∨ i = 15 := by omega
def IP (w : World) (C D : Array Value) (g : Gm) (Ci ZC : Array Value) (gi S : Gm) (d : Fd) (o gb ob n cap i : Nat) (A : Act) (s : Array Bool) (a : Act) (y : World) : Prop := s.size = 16 ∧ Fp A a ∧ (Fm w [(w.heap.size, Ci, 27), (w.heap.size + 1, D, 30)] y ∧ HG w C g y Ci gi) ∧ ∃ C' : Array Value, True
  ∧ (s.getD 0 false = true → a.eval (.tmp 35) = .agg Ci)
  ∧ (s.getD 1 false = true → a.eval (.tmp 36) = .agg D)
  ∧ (s.getD 2 false = true → a.eval (.tmp 37) = .slice (some ⟨gb, ob, none⟩) n cap)
  ∧ (s.getD 3 false = true → a.eval (.tmp 38) = .int .i64 (i : Int))
  ∧ (s.getD 4 false = true → a.eval (.tmp 39) = .pointer (some ⟨gb, ob + i * 4, none⟩))
  ∧ (s.getD 5 false = true → a.eval (.tmp 40) = .pointer (some ⟨gb, ob + i * 4, none⟩))
  ∧ (s.getD 6 false = true → a.eval (.tmp 41) = .agg (dCs d))
  ∧ (s.getD 7 false = true → a.eval (.tmp 42) = .tuple #[.agg C', .int .u8 (o : Int), .bool true])
  ∧ (s.getD 8 false = true → a.eval (.tmp 34) = .tuple #[.agg C', .int .u8 (o : Int), .bool true])
  ∧ (s.getD 9 false = true → a.eval (.tmp 43) = .agg C')
  ∧ (s.getD 10 false = true → a.eval (.tmp 44) = .int .u8 (o : Int))
  ∧ (s.getD 11 false = true → a.eval (.tmp 45) = .bool true)
  ∧ (s.getD 12 false = true → s.getD 13 false = false → ∃ m, a.eval (.tmp 9) = .pointer (some ⟨m, 0, none⟩) ∧ Bx y m ZC 27 ∧ w.heap.size + 2 ≤ m)
  ∧ (s.getD 13 false = true → ∃ m, a.eval (.tmp 9) = .pointer (some ⟨m, 0, none⟩) ∧ Bx y m C' 27 ∧ w.heap.size + 2 ≤ m)
  ∧ (s.getD 14 false = true → a.eval (.tmp 10) = .int .u8 (o : Int))
  ∧ (s.getD 15 false = true → a.eval (.tmp 11) = .bool true)
  ∧ (s.getD 8 false = true → s.getD 7 false = true)
  ∧ (s.getD 9 false = true → s.getD 8 false = true)
  ∧ (s.getD 13 false = true → s.getD 12 false = true ∧ s.getD 9 false = true)
  ∧ (s.getD 7 false = true → GO w.heap.size y C' S)
theorem regP {ops : Array Oper} {Q : Exit → Act → World → Prop} {id : Nat} {A : Act} {y0 : World} (w : World) (C D : Array Value) (g : Gm) (Ci ZC : Array Value) (gi S : Gm) (d : Fd) (o gb ob n cap i : Nat) (f : Fo) (e : Nat) (hg : GL w C g) (hf : FL w D f) (hd : d.Ok) (hs : smaG gi f) (hS : stepG gi f d = (S, o, e)) (hZ : ZC = gZ) (hZ' : ZC.size = 23) (hin : i < n) (hrd : ∀ y, Below w.heap.size w y → y.rangeAt gb (ob + i * 4) (dCs d).toList) (hsz : ops.size = 16) (hu : upB .any ops = true)
    (o0 : OpA ops 0 (some 35) (.load 27 (.tmp 3)) [])
    (o1 : OpA ops 1 (some 36) (.load 30 (.tmp 4)) [])
    (o2 : OpA ops 2 (some 37) (.move (.tmp 2)) [])
    (o3 : OpA ops 3 (some 38) (.move (.tmp 8)) [])
    (o4 : OpA ops 4 (some 39) (.indexAddr 31 (.tmp 37) (.tmp 38)) [2, 3])
    (o5 : OpA ops 5 (some 40) (.fieldAddr 40 (.tmp 39) 0) [4])
    (o6 : OpA ops 6 (some 41) (.load 38 (.tmp 40)) [5])
    (o7 : OpA ops 7 (some 42) (.call { callee := .value (.func 6), args := #[.tmp 35, .tmp 36, .tmp 41], argTypes := #[27, 30, 38] }) [0, 1, 6])
    (o8 : OpA ops 8 (some 34) (.move (.tmp 42)) [7])
    (o9 : OpA ops 9 (some 43) (.extract (.tmp 34) 0) [8])
    (o10 : OpA ops 10 (some 44) (.extract (.tmp 34) 1) [8])
    (o11 : OpA ops 11 (some 45) (.extract (.tmp 34) 2) [8])
    (o12 : OpA ops 12 (some 9) (.alloc 27) [])
    (o13 : OpA ops 13 none (.store 27 (.tmp 9) (.tmp 43)) [12, 9])
    (o14 : OpA ops 14 (some 10) (.assign (.tmp 44)) [10])
    (o15 : OpA ops 15 (some 11) (.assign (.tmp 45)) [11])
    (ht : A.tmps.size = 90) (e2 : A.eval (.tmp 2) = .slice (some ⟨gb, ob, none⟩) n cap) (e3 : A.eval (.tmp 3) = .pointer (some ⟨w.heap.size, 0, none⟩)) (e4 : A.eval (.tmp 4) = .pointer (some ⟨w.heap.size + 1, 0, none⟩)) (e8 : A.eval (.tmp 8) = .int .i64 (i : Int)) (hF : Fm w [(w.heap.size, Ci, 27), (w.heap.size + 1, D, 30)] y0) (hH : HG w C g y0 Ci gi)
    (fin : ∀ (y : World) (m : Nat) (C' : Array Value) (v34 v35 v36 v37 v38 v39 v40 v41 v42 v43 v44 v45 : Value), Hid (Fm w [(w.heap.size, Ci, 27), (w.heap.size + 1, D, 30)] y ∧ HG w C g y Ci gi ∧ GO w.heap.size y C' S ∧ Bx y m C' 27 ∧ w.heap.size + 2 ≤ m) → Q .normal (actP A (.pointer (some ⟨m, 0, none⟩)) (.int .u8 (o : Int)) (.bool true) v34 v35 v36 v37 v38 v39 v40 v41 v42 v43 v44 v45) y) : (Code.region id ops true).wp Tryz.prog Q A y0 := by
  have bd : ∀ x : World, Below x.heap.size x x.drew := fun x => ⟨rfl, rfl, rfl, Nat.le_refl _, fun _ _ => rfl⟩
  have gD := hf.size
  refine region_inv2 (IP w C D g Ci ZC gi S d o gb ob n cap i A) (by kernel_rfl) hu (fun s a y h => by rw [h.1, hsz]) ?_ ?_ ?_
  · rw [hsz]
    refine ⟨rfl, ⟨rfl, rfl, fun _ _ => rfl⟩, ⟨hF.below (bd y0), hH.below (bd y0)⟩, #[], trivial, fun h => absurd h (by decide), fun h => absurd h (by decide), fun h => absurd h (by decide), fun h => absurd h (by decide), fun h => absurd h (by decide), fun h => absurd h (by decide), fun h => absurd h (by decide), fun h => absurd h (by decide), fun h => absurd h (by decide), fun h => absurd h (by decide), fun h => absurd h (by decide), fun h => absurd h (by decide), fun h _ => absurd h (by decide), fun h => absurd h (by decide), fun h => absurd h (by decide), fun h => absurd h (by decide), fun h => absurd h (by decide), fun h => absurd h (by decide), fun h => absurd h (by decide), fun h => absurd h (by decide)⟩
  · intro s a y k o' hI' hoi hnd haf
    have hi : k < 16 := by rw [← hsz]; exact (Array.getElem?_eq_some_iff.1 hoi).1
    obtain ⟨hs', hfr, hw, C', _, c0, c1, c2, c3, c4, c5, c6, c7, c8, c9, c10, c11, c12, c13, c14, c15, d8, d9, d13, m1⟩ := hI'
    have hta : a.tmps.size = 90 := by rw [hfr.sz]; exact ht
    have a2 := (hfr.ev 2 (by decide)).trans e2
    have a3 := (hfr.ev 3 (by decide)).trans e3
    have a4 := (hfr.ev 4 (by decide)).trans e4
    have a8 := (hfr.ev 8 (by decide)).trans e8
    have hset : ∀ j, (s.setIfInBounds k true).getD j false = if j = k then true else s.getD j false := fun j => getD_set s k j (by omega)
    have hsz' : (s.setIfInBounds k true).size = 16 := by simpa using hs'
    have hgl := hw.2.gl hg hw.1.low
    rcases lt16 hi with rfl | rfl | rfl | rfl | rfl | rfl | rfl | rfl | rfl | rfl | rfl | rfl | rfl | rfl | rfl | rfl
    · obtain ⟨o1', ho', og, od, oo, ow⟩ := o0
      rw [ho'] at hoi
      injection hoi with hoi
      subst hoi
      refine wpOp_of ho' (by unfold Region.wanted; rw [og]) (wp_ld rtG w.heap.size Ci (hw.1.bx 0 _ _ _ rfl) hgl.size.1 (.tmp 3) oo a3 ?_)
      rw [od]
      exact ⟨hsz', hfr.put 35 _ (by decide), hw, C', trivial, fun _ => ev_eq (by rw [hta]; decide), fun h0 => by rw [ev_ne (by decide)]; exact c1 (by rw [hset] at h0; simpa using h0), fun h0 => by rw [ev_ne (by decide)]; exact c2 (by rw [hset] at h0; simpa using h0), fun h0 => by rw [ev_ne (by decide)]; exact c3 (by rw [hset] at h0; simpa using h0), fun h0 => by rw [ev_ne (by decide)]; exact c4 (by rw [hset] at h0; simpa using h0), fun h0 => by rw [ev_ne (by decide)]; exact c5 (by rw [hset] at h0; simpa using h0), fun h0 => by rw [ev_ne (by decide)]; exact c6 (by rw [hset] at h0; simpa using h0), fun h0 => by rw [ev_ne (by decide)]; exact c7 (by rw [hset] at h0; simpa using h0), fun h0 => by rw [ev_ne (by decide)]; exact c8 (by rw [hset] at h0; simpa using h0), fun h0 => by rw [ev_ne (by decide)]; exact c9 (by rw [hset] at h0; simpa using h0), fun h0 => by rw [ev_ne (by decide)]; exact c10 (by rw [hset] at h0; simpa using h0), fun h0 => by rw [ev_ne (by decide)]; exact c11 (by rw [hset] at h0; simpa using h0), fun h0 h1 => by rw [ev_ne (by decide)]; exact c12 (by rw [hset] at h0; simpa using h0) (by rw [hset] at h1; simpa using h1), fun h0 => by rw [ev_ne (by decide)]; exact c13 (by rw [hset] at h0; simpa using h0), fun h0 => by rw [ev_ne (by decide)]; exact c14 (by rw [hset] at h0; simpa using h0), fun h0 => by rw [ev_ne (by decide)]; exact c15 (by rw [hset] at h0; simpa using h0), fun h0 => by rw [hset]; split; rfl; exact d8 (by rw [hset] at h0; simpa using h0), fun h0 => by rw [hset]; split; rfl; exact d9 (by rw [hset] at h0; simpa using h0), fun h0 => ⟨by rw [hset]; split; rfl; exact (d13 (by rw [hset] at h0; simpa using h0)).1, by rw [hset]; split; rfl; exact (d13 (by rw [hset] at h0; simpa using h0)).2⟩, fun h0 => m1 (by rw [hset] at h0; simpa using h0)⟩
    · obtain ⟨o1', ho', og, od, oo, ow⟩ := o1
      rw [ho'] at hoi
      injection hoi with hoi
      subst hoi
      refine wpOp_of ho' (by unfold Region.wanted; rw [og]) (wp_ld rtFn (w.heap.size + 1) D (hw.1.bx 1 _ _ _ rfl) gD (.tmp 4) oo a4 ?_)
      rw [od]
      exact ⟨hsz', hfr.put 36 _ (by decide), hw, C', trivial, fun h0 => by rw [ev_ne (by decide)]; exact c0 (by rw [hset] at h0; simpa using h0), fun _ => ev_eq (by rw [hta]; decide), fun h0 => by rw [ev_ne (by decide)]; exact c2 (by rw [hset] at h0; simpa using h0), fun h0 => by rw [ev_ne (by decide)]; exact c3 (by rw [hset] at h0; simpa using h0), fun h0 => by rw [ev_ne (by decide)]; exact c4 (by rw [hset] at h0; simpa using h0), fun h0 => by rw [ev_ne (by decide)]; exact c5 (by rw [hset] at h0; simpa using h0), fun h0 => by rw [ev_ne (by decide)]; exact c6 (by rw [hset] at h0; simpa using h0), fun h0 => by rw [ev_ne (by decide)]; exact c7 (by rw [hset] at h0; simpa using h0), fun h0 => by rw [ev_ne (by decide)]; exact c8 (by rw [hset] at h0; simpa using h0), fun h0 => by rw [ev_ne (by decide)]; exact c9 (by rw [hset] at h0; simpa using h0), fun h0 => by rw [ev_ne (by decide)]; exact c10 (by rw [hset] at h0; simpa using h0), fun h0 => by rw [ev_ne (by decide)]; exact c11 (by rw [hset] at h0; simpa using h0), fun h0 h1 => by rw [ev_ne (by decide)]; exact c12 (by rw [hset] at h0; simpa using h0) (by rw [hset] at h1; simpa using h1), fun h0 => by rw [ev_ne (by decide)]; exact c13 (by rw [hset] at h0; simpa using h0), fun h0 => by rw [ev_ne (by decide)]; exact c14 (by rw [hset] at h0; simpa using h0), fun h0 => by rw [ev_ne (by decide)]; exact c15 (by rw [hset] at h0; simpa using h0), fun h0 => by rw [hset]; split; rfl; exact d8 (by rw [hset] at h0; simpa using h0), fun h0 => by rw [hset]; split; rfl; exact d9 (by rw [hset] at h0; simpa using h0), fun h0 => ⟨by rw [hset]; split; rfl; exact (d13 (by rw [hset] at h0; simpa using h0)).1, by rw [hset]; split; rfl; exact (d13 (by rw [hset] at h0; simpa using h0)).2⟩, fun h0 => m1 (by rw [hset] at h0; simpa using h0)⟩
    · obtain ⟨o1', ho', og, od, oo, ow⟩ := o2
      rw [ho'] at hoi
      injection hoi with hoi
      subst hoi
      refine wpOp_val (.slice (some ⟨gb, ob, none⟩) n cap) ho' og ?_ ?_
      · unfold execOp; simp only [oo, a2, Sem.run_pure]
      · rw [od]
        exact ⟨hsz', hfr.put 37 _ (by decide), hw, C', trivial, fun h0 => by rw [ev_ne (by decide)]; exact c0 (by rw [hset] at h0; simpa using h0), fun h0 => by rw [ev_ne (by decide)]; exact c1 (by rw [hset] at h0; simpa using h0), fun _ => ev_eq (by rw [hta]; decide), fun h0 => by rw [ev_ne (by decide)]; exact c3 (by rw [hset] at h0; simpa using h0), fun h0 => by rw [ev_ne (by decide)]; exact c4 (by rw [hset] at h0; simpa using h0), fun h0 => by rw [ev_ne (by decide)]; exact c5 (by rw [hset] at h0; simpa using h0), fun h0 => by rw [ev_ne (by decide)]; exact c6 (by rw [hset] at h0; simpa using h0), fun h0 => by rw [ev_ne (by decide)]; exact c7 (by rw [hset] at h0; simpa using h0), fun h0 => by rw [ev_ne (by decide)]; exact c8 (by rw [hset] at h0; simpa using h0), fun h0 => by rw [ev_ne (by decide)]; exact c9 (by rw [hset] at h0; simpa using h0), fun h0 => by rw [ev_ne (by decide)]; exact c10 (by rw [hset] at h0; simpa using h0), fun h0 => by rw [ev_ne (by decide)]; exact c11 (by rw [hset] at h0; simpa using h0), fun h0 h1 => by rw [ev_ne (by decide)]; exact c12 (by rw [hset] at h0; simpa using h0) (by rw [hset] at h1; simpa using h1), fun h0 => by rw [ev_ne (by decide)]; exact c13 (by rw [hset] at h0; simpa using h0), fun h0 => by rw [ev_ne (by decide)]; exact c14 (by rw [hset] at h0; simpa using h0), fun h0 => by rw [ev_ne (by decide)]; exact c15 (by rw [hset] at h0; simpa using h0), fun h0 => by rw [hset]; split; rfl; exact d8 (by rw [hset] at h0; simpa using h0), fun h0 => by rw [hset]; split; rfl; exact d9 (by rw [hset] at h0; simpa using h0), fun h0 => ⟨by rw [hset]; split; rfl; exact (d13 (by rw [hset] at h0; simpa using h0)).1, by rw [hset]; split; rfl; exact (d13 (by rw [hset] at h0; simpa using h0)).2⟩, fun h0 => m1 (by rw [hset] at h0; simpa using h0)⟩
    · obtain ⟨o1', ho', og, od, oo, ow⟩ := o3
      rw [ho'] at hoi
      injection hoi with hoi
      subst hoi
      refine wpOp_val (.int .i64 (i : Int)) ho' og ?_ ?_
      · unfold execOp; simp only [oo, a8, Sem.run_pure]
      · rw [od]
        exact ⟨hsz', hfr.put 38 _ (by decide), hw, C', trivial, fun h0 => by rw [ev_ne (by decide)]; exact c0 (by rw [hset] at h0; simpa using h0), fun h0 => by rw [ev_ne (by decide)]; exact c1 (by rw [hset] at h0; simpa using h0), fun h0 => by rw [ev_ne (by decide)]; exact c2 (by rw [hset] at h0; simpa using h0), fun _ => ev_eq (by rw [hta]; decide), fun h0 => by rw [ev_ne (by decide)]; exact c4 (by rw [hset] at h0; simpa using h0), fun h0 => by rw [ev_ne (by decide)]; exact c5 (by rw [hset] at h0; simpa using h0), fun h0 => by rw [ev_ne (by decide)]; exact c6 (by rw [hset] at h0; simpa using h0), fun h0 => by rw [ev_ne (by decide)]; exact c7 (by rw [hset] at h0; simpa using h0), fun h0 => by rw [ev_ne (by decide)]; exact c8 (by rw [hset] at h0; simpa using h0), fun h0 => by rw [ev_ne (by decide)]; exact c9 (by rw [hset] at h0; simpa using h0), fun h0 => by rw [ev_ne (by decide)]; exact c10 (by rw [hset] at h0; simpa using h0), fun h0 => by rw [ev_ne (by decide)]; exact c11 (by rw [hset] at h0; simpa using h0), fun h0 h1 => by rw [ev_ne (by decide)]; exact c12 (by rw [hset] at h0; simpa using h0) (by rw [hset] at h1; simpa using h1), fun h0 => by rw [ev_ne (by decide)]; exact c13 (by rw [hset] at h0; simpa using h0), fun h0 => by rw [ev_ne (by decide)]; exact c14 (by rw [hset] at h0; simpa using h0), fun h0 => by rw [ev_ne (by decide)]; exact c15 (by rw [hset] at h0; simpa using h0), fun h0 => by rw [hset]; split; rfl; exact d8 (by rw [hset] at h0; simpa using h0), fun h0 => by rw [hset]; split; rfl; exact d9 (by rw [hset] at h0; simpa using h0), fun h0 => ⟨by rw [hset]; split; rfl; exact (d13 (by rw [hset] at h0; simpa using h0)).1, by rw [hset]; split; rfl; exact (d13 (by rw [hset] at h0; simpa using h0)).2⟩, fun h0 => m1 (by rw [hset] at h0; simpa using h0)⟩
    · obtain ⟨o1', ho', og, od, oo, ow⟩ := o4
      rw [ho'] at hoi
      injection hoi with hoi
      subst hoi
      have y2 : s.getD 2 false = true := by
        obtain ⟨e, m', b, n'⟩ := ow 2 (by simp)
        have := haf e m' b
        rwa [n'] at this
      have y3 : s.getD 3 false = true := by
        obtain ⟨e, m', b, n'⟩ := ow 3 (by simp)
        have := haf e m' b
        rwa [n'] at this
      refine wpOp_val (.pointer (some ⟨gb, ob + i * 4, none⟩)) ho' og ?_ ?_
      · have q1 := c2 y2; have q2 := c3 y3; have q3 := Fr2.idx y gb ob n cap i hin
        unfold execOp; simp only [oo, q1, q2]; go_simp
      · rw [od]
        exact ⟨hsz', hfr.put 39 _ (by decide), hw, C', trivial, fun h0 => by rw [ev_ne (by decide)]; exact c0 (by rw [hset] at h0; simpa using h0), fun h0 => by rw [ev_ne (by decide)]; exact c1 (by rw [hset] at h0; simpa using h0), fun h0 => by rw [ev_ne (by decide)]; exact c2 (by rw [hset] at h0; simpa using h0), fun h0 => by rw [ev_ne (by decide)]; exact c3 (by rw [hset] at h0; simpa using h0), fun _ => ev_eq (by rw [hta]; decide), fun h0 => by rw [ev_ne (by decide)]; exact c5 (by rw [hset] at h0; simpa using h0), fun h0 => by rw [ev_ne (by decide)]; exact c6 (by rw [hset] at h0; simpa using h0), fun h0 => by rw [ev_ne (by decide)]; exact c7 (by rw [hset] at h0; simpa using h0), fun h0 => by rw [ev_ne (by decide)]; exact c8 (by rw [hset] at h0; simpa using h0), fun h0 => by rw [ev_ne (by decide)]; exact c9 (by rw [hset] at h0; simpa using h0), fun h0 => by rw [ev_ne (by decide)]; exact c10 (by rw [hset] at h0; simpa using h0), fun h0 => by rw [ev_ne (by decide)]; exact c11 (by rw [hset] at h0; simpa using h0), fun h0 h1 => by rw [ev_ne (by decide)]; exact c12 (by rw [hset] at h0; simpa using h0) (by rw [hset] at h1; simpa using h1), fun h0 => by rw [ev_ne (by decide)]; exact c13 (by rw [hset] at h0; simpa using h0), fun h0 => by rw [ev_ne (by decide)]; exact c14 (by rw [hset] at h0; simpa using h0), fun h0 => by rw [ev_ne (by decide)]; exact c15 (by rw [hset] at h0; simpa using h0), fun h0 => by rw [hset]; split; rfl; exact d8 (by rw [hset] at h0; simpa using h0), fun h0 => by rw [hset]; split; rfl; exact d9 (by rw [hset] at h0; simpa using h0), fun h0 => ⟨by rw [hset]; split; rfl; exact (d13 (by rw [hset] at h0; simpa using h0)).1, by rw [hset]; split; rfl; exact (d13 (by rw [hset] at h0; simpa using h0)).2⟩, fun h0 => m1 (by rw [hset] at h0; simpa using h0)⟩
    · obtain ⟨o1', ho', og, od, oo, ow⟩ := o5
      rw [ho'] at hoi
      injection hoi with hoi
      subst hoi
      have y4 : s.getD 4 false = true := by
        obtain ⟨e, m', b, n'⟩ := ow 4 (by simp)
        have := haf e m' b
        rwa [n'] at this
      refine wpOp_val (.pointer (some ⟨gb, ob + i * 4, none⟩)) ho' og ?_ ?_
      · unfold execOp; simp only [oo, c4 y4]; show _ = _; kernel_rfl
      · rw [od]
        exact ⟨hsz', hfr.put 40 _ (by decide), hw, C', trivial, fun h0 => by rw [ev_ne (by decide)]; exact c0 (by rw [hset] at h0; simpa using h0), fun h0 => by rw [ev_ne (by decide)]; exact c1 (by rw [hset] at h0; simpa using h0), fun h0 => by rw [ev_ne (by decide)]; exact c2 (by rw [hset] at h0; simpa using h0), fun h0 => by rw [ev_ne (by decide)]; exact c3 (by rw [hset] at h0; simpa using h0), fun h0 => by rw [ev_ne (by decide)]; exact c4 (by rw [hset] at h0; simpa using h0), fun _ => ev_eq (by rw [hta]; decide), fun h0 => by rw [ev_ne (by decide)]; exact c6 (by rw [hset] at h0; simpa using h0), fun h0 => by rw [ev_ne (by decide)]; exact c7 (by rw [hset] at h0; simpa using h0), fun h0 => by rw [ev_ne (by decide)]; exact c8 (by rw [hset] at h0; simpa using h0), fun h0 => by rw [ev_ne (by decide)]; exact c9 (by rw [hset] at h0; simpa using h0), fun h0 => by rw [ev_ne (by decide)]; exact c10 (by rw [hset] at h0; simpa using h0), fun h0 => by rw [ev_ne (by decide)]; exact c11 (by rw [hset] at h0; simpa using h0), fun h0 h1 => by rw [ev_ne (by decide)]; exact c12 (by rw [hset] at h0; simpa using h0) (by rw [hset] at h1; simpa using h1), fun h0 => by rw [ev_ne (by decide)]; exact c13 (by rw [hset] at h0; simpa using h0), fun h0 => by rw [ev_ne (by decide)]; exact c14 (by rw [hset] at h0; simpa using h0), fun h0 => by rw [ev_ne (by decide)]; exact c15 (by rw [hset] at h0; simpa using h0), fun h0 => by rw [hset]; split; rfl; exact d8 (by rw [hset] at h0; simpa using h0), fun h0 => by rw [hset]; split; rfl; exact d9 (by rw [hset] at h0; simpa using h0), fun h0 => ⟨by rw [hset]; split; rfl; exact (d13 (by rw [hset] at h0; simpa using h0)).1, by rw [hset]; split; rfl; exact (d13 (by rw [hset] at h0; simpa using h0)).2⟩, fun h0 => m1 (by rw [hset] at h0; simpa using h0)⟩
    · obtain ⟨o1', ho', og, od, oo, ow⟩ := o6
      rw [ho'] at hoi
      injection hoi with hoi
      subst hoi
      have y5 : s.getD 5 false = true := by
        obtain ⟨e, m', b, n'⟩ := ow 5 (by simp)
        have := haf e m' b
        rwa [n'] at this
      refine wpOp_list ho' ?_
      refine at_loadm rtFd gb (ob + i * 4) (dCs d) (hrd y hw.1.low) rfl (.tmp 40) (by unfold Region.wanted; rw [og]) oo (c5 y5) ?_
      rw [od]
      exact ⟨hsz', hfr.put 41 _ (by decide), hw, C', trivial, fun h0 => by rw [ev_ne (by decide)]; exact c0 (by rw [hset] at h0; simpa using h0), fun h0 => by rw [ev_ne (by decide)]; exact c1 (by rw [hset] at h0; simpa using h0), fun h0 => by rw [ev_ne (by decide)]; exact c2 (by rw [hset] at h0; simpa using h0), fun h0 => by rw [ev_ne (by decide)]; exact c3 (by rw [hset] at h0; simpa using h0), fun h0 => by rw [ev_ne (by decide)]; exact c4 (by rw [hset] at h0; simpa using h0), fun h0 => by rw [ev_ne (by decide)]; exact c5 (by rw [hset] at h0; simpa using h0), fun _ => ev_eq (by rw [hta]; decide), fun h0 => by rw [ev_ne (by decide)]; exact c7 (by rw [hset] at h0; simpa using h0), fun h0 => by rw [ev_ne (by decide)]; exact c8 (by rw [hset] at h0; simpa using h0), fun h0 => by rw [ev_ne (by decide)]; exact c9 (by rw [hset] at h0; simpa using h0), fun h0 => by rw [ev_ne (by decide)]; exact c10 (by rw [hset] at h0; simpa using h0), fun h0 => by rw [ev_ne (by decide)]; exact c11 (by rw [hset] at h0; simpa using h0), fun h0 h1 => by rw [ev_ne (by decide)]; exact c12 (by rw [hset] at h0; simpa using h0) (by rw [hset] at h1; simpa using h1), fun h0 => by rw [ev_ne (by decide)]; exact c13 (by rw [hset] at h0; simpa using h0), fun h0 => by rw [ev_ne (by decide)]; exact c14 (by rw [hset] at h0; simpa using h0), fun h0 => by rw [ev_ne (by decide)]; exact c15 (by rw [hset] at h0; simpa using h0), fun h0 => by rw [hset]; split; rfl; exact d8 (by rw [hset] at h0; simpa using h0), fun h0 => by rw [hset]; split; rfl; exact d9 (by rw [hset] at h0; simpa using h0), fun h0 => ⟨by rw [hset]; split; rfl; exact (d13 (by rw [hset] at h0; simpa using h0)).1, by rw [hset]; split; rfl; exact (d13 (by rw [hset] at h0; simpa using h0)).2⟩, fun h0 => m1 (by rw [hset] at h0; simpa using h0)⟩
    · obtain ⟨o1', ho', og, od, oo, ow⟩ := o7
      rw [ho'] at hoi
      injection hoi with hoi
      subst hoi
      have y0 : s.getD 0 false = true := by
        obtain ⟨e, m', b, n'⟩ := ow 0 (by simp)
        have := haf e m' b
        rwa [n'] at this
      have y1 : s.getD 1 false = true := by
        obtain ⟨e, m', b, n'⟩ := ow 1 (by simp)
        have := haf e m' b
        rwa [n'] at this
      have y6 : s.getD 6 false = true := by
        obtain ⟨e, m', b, n'⟩ := ow 6 (by simp)
        have := haf e m' b
        rwa [n'] at this
      have q1 := c0 y0
      have q2 := c1 y1
      have q3 := c6 y6
      have n8 : s.getD 8 false = false := by
        rcases hh : s.getD 8 false with _ | _
        · rfl
        · rw [d8 hh] at hnd; cases hnd
      have n9 : s.getD 9 false = false := by
        rcases hh : s.getD 9 false with _ | _
        · rfl
        · rw [d9 hh] at n8; cases n8
      have n13 : s.getD 13 false = false := by
        rcases hh : s.getD 13 false with _ | _
        · rfl
        · rw [(d13 hh).2] at n9; cases n9
      refine wpOp_call 6 #[.agg Ci, .agg D, .agg (dCs d)] _ ho' og ?_ (lstep_any y Ci D gi f d hgl (hf.below hw.1.low) hd hs S o e hS) ?_
      · have b1 : 35 < a.tmps.size := by rw [hta]; decide
        have b2 : 36 < a.tmps.size := by rw [hta]; decide
        have b3 : 41 < a.tmps.size := by rw [hta]; decide
        simp only [Act.eval, Array.getD_eq_getD_getElem?] at q1 q2 q3
        unfold execOp
        simp only [oo]
        go_simp
        simp only [Array.getElem?_eq_getElem b1, Array.getElem?_eq_getElem b2, Array.getElem?_eq_getElem b3, Option.getD_some] at q1 q2 q3
        exact ⟨q1, q2, q3⟩
      · rintro x z ⟨C2', rfl, H⟩
        refine ⟨_, rfl, ?_⟩
        rw [od]
        have H2 := H.out.2
        exact ⟨hsz', hfr.put 42 _ (by decide), ⟨hw.1.below H2, hw.2.below H2⟩, C2', trivial, fun h0 => by rw [ev_ne (by decide)]; exact c0 (by rw [hset] at h0; simpa using h0), fun h0 => by rw [ev_ne (by decide)]; exact c1 (by rw [hset] at h0; simpa using h0), fun h0 => by rw [ev_ne (by decide)]; exact c2 (by rw [hset] at h0; simpa using h0), fun h0 => by rw [ev_ne (by decide)]; exact c3 (by rw [hset] at h0; simpa using h0), fun h0 => by rw [ev_ne (by decide)]; exact c4 (by rw [hset] at h0; simpa using h0), fun h0 => by rw [ev_ne (by decide)]; exact c5 (by rw [hset] at h0; simpa using h0), fun h0 => by rw [ev_ne (by decide)]; exact c6 (by rw [hset] at h0; simpa using h0), fun _ => ev_eq (by rw [hta]; decide), fun h0 => absurd (show s.getD 8 false = true by rw [hset] at h0; simpa using h0) (by rw [n8]; simp), fun h0 => absurd (show s.getD 9 false = true by rw [hset] at h0; simpa using h0) (by rw [n9]; simp), fun h0 => by rw [ev_ne (by decide)]; exact c10 (by rw [hset] at h0; simpa using h0), fun h0 => by rw [ev_ne (by decide)]; exact c11 (by rw [hset] at h0; simpa using h0), fun h0 h1 => by rw [ev_ne (by decide)]; obtain ⟨m, k1, k2, k3⟩ := c12 (by rw [hset] at h0; simpa using h0) (by rw [hset] at h1; simpa using h1); exact ⟨m, k1, (H2.block _ (heap_lt k2)).trans k2, k3⟩, fun h0 => absurd (show s.getD 13 false = true by rw [hset] at h0; simpa using h0) (by rw [n13]; simp), fun h0 => by rw [ev_ne (by decide)]; exact c14 (by rw [hset] at h0; simpa using h0), fun h0 => by rw [ev_ne (by decide)]; exact c15 (by rw [hset] at h0; simpa using h0), fun h0 => by rw [hset]; split; rfl; exact d8 (by rw [hset] at h0; simpa using h0), fun h0 => by rw [hset]; split; rfl; exact d9 (by rw [hset] at h0; simpa using h0), fun h0 => ⟨by rw [hset]; split; rfl; exact (d13 (by rw [hset] at h0; simpa using h0)).1, by rw [hset]; split; rfl; exact (d13 (by rw [hset] at h0; simpa using h0)).2⟩, fun _ => H.out.1.weak hw.1.low.size⟩
    · obtain ⟨o1', ho', og, od, oo, ow⟩ := o8
      rw [ho'] at hoi
      injection hoi with hoi
      subst hoi
      have y7 : s.getD 7 false = true := by
        obtain ⟨e, m', b, n'⟩ := ow 7 (by simp)
        have := haf e m' b
        rwa [n'] at this
      refine wpOp_val (.tuple #[.agg C', .int .u8 (o : Int), .bool true]) ho' og ?_ ?_
      · unfold execOp; simp only [oo, c7 y7, Sem.run_pure]
      · rw [od]
        exact ⟨hsz', hfr.put 34 _ (by decide), hw, C', trivial, fun h0 => by rw [ev_ne (by decide)]; exact c0 (by rw [hset] at h0; simpa using h0), fun h0 => by rw [ev_ne (by decide)]; exact c1 (by rw [hset] at h0; simpa using h0), fun h0 => by rw [ev_ne (by decide)]; exact c2 (by rw [hset] at h0; simpa using h0), fun h0 => by rw [ev_ne (by decide)]; exact c3 (by rw [hset] at h0; simpa using h0), fun h0 => by rw [ev_ne (by decide)]; exact c4 (by rw [hset] at h0; simpa using h0), fun h0 => by rw [ev_ne (by decide)]; exact c5 (by rw [hset] at h0; simpa using h0), fun h0 => by rw [ev_ne (by decide)]; exact c6 (by rw [hset] at h0; simpa using h0), fun h0 => by rw [ev_ne (by decide)]; exact c7 (by rw [hset] at h0; simpa using h0), fun _ => ev_eq (by rw [hta]; decide), fun h0 => by rw [ev_ne (by decide)]; exact c9 (by rw [hset] at h0; simpa using h0), fun h0 => by rw [ev_ne (by decide)]; exact c10 (by rw [hset] at h0; simpa using h0), fun h0 => by rw [ev_ne (by decide)]; exact c11 (by rw [hset] at h0; simpa using h0), fun h0 h1 => by rw [ev_ne (by decide)]; exact c12 (by rw [hset] at h0; simpa using h0) (by rw [hset] at h1; simpa using h1), fun h0 => by rw [ev_ne (by decide)]; exact c13 (by rw [hset] at h0; simpa using h0), fun h0 => by rw [ev_ne (by decide)]; exact c14 (by rw [hset] at h0; simpa using h0), fun h0 => by rw [ev_ne (by decide)]; exact c15 (by rw [hset] at h0; simpa using h0), fun _ => by rw [hset]; simpa using y7, fun h0 => by rw [hset]; split; rfl; exact d9 (by rw [hset] at h0; simpa using h0), fun h0 => ⟨by rw [hset]; split; rfl; exact (d13 (by rw [hset] at h0; simpa using h0)).1, by rw [hset]; split; rfl; exact (d13 (by rw [hset] at h0; simpa using h0)).2⟩, fun h0 => m1 (by rw [hset] at h0; simpa using h0)⟩
    · obtain ⟨o1', ho', og, od, oo, ow⟩ := o9
      rw [ho'] at hoi
      injection hoi with hoi
      subst hoi
      have y8 : s.getD 8 false = true := by
        obtain ⟨e, m', b, n'⟩ := ow 8 (by simp)
        have := haf e m' b
        rwa [n'] at this
      refine wpOp_val (.agg C') ho' og ?_ ?_
      · unfold execOp; simp only [oo, c8 y8]; rfl
      · rw [od]
        exact ⟨hsz', hfr.put 43 _ (by decide), hw, C', trivial, fun h0 => by rw [ev_ne (by decide)]; exact c0 (by rw [hset] at h0; simpa using h0), fun h0 => by rw [ev_ne (by decide)]; exact c1 (by rw [hset] at h0; simpa using h0), fun h0 => by rw [ev_ne (by decide)]; exact c2 (by rw [hset] at h0; simpa using h0), fun h0 => by rw [ev_ne (by decide)]; exact c3 (by rw [hset] at h0; simpa using h0), fun h0 => by rw [ev_ne (by decide)]; exact c4 (by rw [hset] at h0; simpa using h0), fun h0 => by rw [ev_ne (by decide)]; exact c5 (by rw [hset] at h0; simpa using h0), fun h0 => by rw [ev_ne (by decide)]; exact c6 (by rw [hset] at h0; simpa using h0), fun h0 => by rw [ev_ne (by decide)]; exact c7 (by rw [hset] at h0; simpa using h0), fun h0 => by rw [ev_ne (by decide)]; exact c8 (by rw [hset] at h0; simpa using h0), fun _ => ev_eq (by rw [hta]; decide), fun h0 => by rw [ev_ne (by decide)]; exact c10 (by rw [hset] at h0; simpa using h0), fun h0 => by rw [ev_ne (by decide)]; exact c11 (by rw [hset] at h0; simpa using h0), fun h0 h1 => by rw [ev_ne (by decide)]; exact c12 (by rw [hset] at h0; simpa using h0) (by rw [hset] at h1; simpa using h1), fun h0 => by rw [ev_ne (by decide)]; exact c13 (by rw [hset] at h0; simpa using h0), fun h0 => by rw [ev_ne (by decide)]; exact c14 (by rw [hset] at h0; simpa using h0), fun h0 => by rw [ev_ne (by decide)]; exact c15 (by rw [hset] at h0; simpa using h0), fun h0 => by rw [hset]; split; rfl; exact d8 (by rw [hset] at h0; simpa using h0), fun _ => by rw [hset]; simpa using y8, fun h0 => ⟨by rw [hset]; split; rfl; exact (d13 (by rw [hset] at h0; simpa using h0)).1, by rw [hset]; split; rfl; exact (d13 (by rw [hset] at h0; simpa using h0)).2⟩, fun h0 => m1 (by rw [hset] at h0; simpa using h0)⟩
    · obtain ⟨o1', ho', og, od, oo, ow⟩ := o10
      rw [ho'] at hoi
      injection hoi with hoi
      subst hoi
      have y8 : s.getD 8 false = true := by
        obtain ⟨e, m', b, n'⟩ := ow 8 (by simp)
        have := haf e m' b
        rwa [n'] at this
      refine wpOp_val (.int .u8 (o : Int)) ho' og ?_ ?_
      · unfold execOp; simp only [oo, c8 y8]; rfl
      · rw [od]
        exact ⟨hsz', hfr.put 44 _ (by decide), hw, C', trivial, fun h0 => by rw [ev_ne (by decide)]; exact c0 (by rw [hset] at h0; simpa using h0), fun h0 => by rw [ev_ne (by decide)]; exact c1 (by rw [hset] at h0; simpa using h0), fun h0 => by rw [ev_ne (by decide)]; exact c2 (by rw [hset] at h0; simpa using h0), fun h0 => by rw [ev_ne (by decide)]; exact c3 (by rw [hset] at h0; simpa using h0), fun h0 => by rw [ev_ne (by decide)]; exact c4 (by rw [hset] at h0; simpa using h0), fun h0 => by rw [ev_ne (by decide)]; exact c5 (by rw [hset] at h0; simpa using h0), fun h0 => by rw [ev_ne (by decide)]; exact c6 (by rw [hset] at h0; simpa using h0), fun h0 => by rw [ev_ne (by decide)]; exact c7 (by rw [hset] at h0; simpa using h0), fun h0 => by rw [ev_ne (by decide)]; exact c8 (by rw [hset] at h0; simpa using h0), fun h0 => by rw [ev_ne (by decide)]; exact c9 (by rw [hset] at h0; simpa using h0), fun _ => ev_eq (by rw [hta]; decide), fun h0 => by rw [ev_ne (by decide)]; exact c11 (by rw [hset] at h0; simpa using h0), fun h0 h1 => by rw [ev_ne (by decide)]; exact c12 (by rw [hset] at h0; simpa using h0) (by rw [hset] at h1; simpa using h1), fun h0 => by rw [ev_ne (by decide)]; exact c13 (by rw [hset] at h0; simpa using h0), fun h0 => by rw [ev_ne (by decide)]; exact c14 (by rw [hset] at h0; simpa using h0), fun h0 => by rw [ev_ne (by decide)]; exact c15 (by rw [hset] at h0; simpa using h0), fun h0 => by rw [hset]; split; rfl; exact d8 (by rw [hset] at h0; simpa using h0), fun h0 => by rw [hset]; split; rfl; exact d9 (by rw [hset] at h0; simpa using h0), fun h0 => ⟨by rw [hset]; split; rfl; exact (d13 (by rw [hset] at h0; simpa using h0)).1, by rw [hset]; split; rfl; exact (d13 (by rw [hset] at h0; simpa using h0)).2⟩, fun h0 => m1 (by rw [hset] at h0; simpa using h0)⟩
    · obtain ⟨o1', ho', og, od, oo, ow⟩ := o11
      rw [ho'] at hoi
      injection hoi with hoi
      subst hoi
      have y8 : s.getD 8 false = true := by
        obtain ⟨e, m', b, n'⟩ := ow 8 (by simp)
        have := haf e m' b
        rwa [n'] at this
      refine wpOp_val (.bool true) ho' og ?_ ?_
      · unfold execOp; simp only [oo, c8 y8]; rfl
      · rw [od]
        exact ⟨hsz', hfr.put 45 _ (by decide), hw, C', trivial, fun h0 => by rw [ev_ne (by decide)]; exact c0 (by rw [hset] at h0; simpa using h0), fun h0 => by rw [ev_ne (by decide)]; exact c1 (by rw [hset] at h0; simpa using h0), fun h0 => by rw [ev_ne (by decide)]; exact c2 (by rw [hset] at h0; simpa using h0), fun h0 => by rw [ev_ne (by decide)]; exact c3 (by rw [hset] at h0; simpa using h0), fun h0 => by rw [ev_ne (by decide)]; exact c4 (by rw [hset] at h0; simpa using h0), fun h0 => by rw [ev_ne (by decide)]; exact c5 (by rw [hset] at h0; simpa using h0), fun h0 => by rw [ev_ne (by decide)]; exact c6 (by rw [hset] at h0; simpa using h0), fun h0 => by rw [ev_ne (by decide)]; exact c7 (by rw [hset] at h0; simpa using h0), fun h0 => by rw [ev_ne (by decide)]; exact c8 (by rw [hset] at h0; simpa using h0), fun h0 => by rw [ev_ne (by decide)]; exact c9 (by rw [hset] at h0; simpa using h0), fun h0 => by rw [ev_ne (by decide)]; exact c10 (by rw [hset] at h0; simpa using h0), fun _ => ev_eq (by rw [hta]; decide), fun h0 h1 => by rw [ev_ne (by decide)]; exact c12 (by rw [hset] at h0; simpa using h0) (by rw [hset] at h1; simpa using h1), fun h0 => by rw [ev_ne (by decide)]; exact c13 (by rw [hset] at h0; simpa using h0), fun h0 => by rw [ev_ne (by decide)]; exact c14 (by rw [hset] at h0; simpa using h0), fun h0 => by rw [ev_ne (by decide)]; exact c15 (by rw [hset] at h0; simpa using h0), fun h0 => by rw [hset]; split; rfl; exact d8 (by rw [hset] at h0; simpa using h0), fun h0 => by rw [hset]; split; rfl; exact d9 (by rw [hset] at h0; simpa using h0), fun h0 => ⟨by rw [hset]; split; rfl; exact (d13 (by rw [hset] at h0; simpa using h0)).1, by rw [hset]; split; rfl; exact (d13 (by rw [hset] at h0; simpa using h0)).2⟩, fun h0 => m1 (by rw [hset] at h0; simpa using h0)⟩
    · obtain ⟨o1', ho', og, od, oo, ow⟩ := o12
      rw [ho'] at hoi
      injection hoi with hoi
      subst hoi
      have n13 : s.getD 13 false = false := by
        rcases hh : s.getD 13 false with _ | _
        · rfl
        · rw [(d13 hh).1] at hnd; cases hnd
      refine wpOp_of ho' (by unfold Region.wanted; rw [og]) ?_
      have hr : (execOp a.eval o1').run Tryz.prog y = .ok (.value (.pointer (some ⟨y.heap.size, 0, none⟩))) (y.alloc (.cells ZC 27)) := by
        unfold execOp
        simp only [oo]
        rw [hZ]
        unfold gZ
        go_simp
      unfold Oper.wp
      rw [hr, Oper.upon_value, od]
      have hb := below1 y (.cells ZC 27)
      exact ⟨hsz', hfr.put 9 _ (by decide), ⟨hw.1.below hb, hw.2.below hb⟩, C', trivial, fun h0 => by rw [ev_ne (by decide)]; exact c0 (by rw [hset] at h0; simpa using h0), fun h0 => by rw [ev_ne (by decide)]; exact c1 (by rw [hset] at h0; simpa using h0), fun h0 => by rw [ev_ne (by decide)]; exact c2 (by rw [hset] at h0; simpa using h0), fun h0 => by rw [ev_ne (by decide)]; exact c3 (by rw [hset] at h0; simpa using h0), fun h0 => by rw [ev_ne (by decide)]; exact c4 (by rw [hset] at h0; simpa using h0), fun h0 => by rw [ev_ne (by decide)]; exact c5 (by rw [hset] at h0; simpa using h0), fun h0 => by rw [ev_ne (by decide)]; exact c6 (by rw [hset] at h0; simpa using h0), fun h0 => by rw [ev_ne (by decide)]; exact c7 (by rw [hset] at h0; simpa using h0), fun h0 => by rw [ev_ne (by decide)]; exact c8 (by rw [hset] at h0; simpa using h0), fun h0 => by rw [ev_ne (by decide)]; exact c9 (by rw [hset] at h0; simpa using h0), fun h0 => by rw [ev_ne (by decide)]; exact c10 (by rw [hset] at h0; simpa using h0), fun h0 => by rw [ev_ne (by decide)]; exact c11 (by rw [hset] at h0; simpa using h0), fun _ _ => ⟨y.heap.size, ev_eq (by rw [hta]; decide), one_bxL y _ _, Nat.succ_le_of_lt (heap_lt (hw.1.bx 1 _ _ _ rfl))⟩, fun h0 => absurd (show s.getD 13 false = true by rw [hset] at h0; simpa using h0) (by rw [n13]; simp), fun h0 => by rw [ev_ne (by decide)]; exact c14 (by rw [hset] at h0; simpa using h0), fun h0 => by rw [ev_ne (by decide)]; exact c15 (by rw [hset] at h0; simpa using h0), fun h0 => by rw [hset]; split; rfl; exact d8 (by rw [hset] at h0; simpa using h0), fun h0 => by rw [hset]; split; rfl; exact d9 (by rw [hset] at h0; simpa using h0), fun h0 => ⟨by rw [hset]; split; rfl; exact (d13 (by rw [hset] at h0; simpa using h0)).1, by rw [hset]; split; rfl; exact (d13 (by rw [hset] at h0; simpa using h0)).2⟩, fun h0 => (m1 (by rw [hset] at h0; simpa using h0)).below hb⟩
    · obtain ⟨o1', ho', og, od, oo, ow⟩ := o13
      rw [ho'] at hoi
      injection hoi with hoi
      subst hoi
      have y12 : s.getD 12 false = true := by
        obtain ⟨e, m', b, n'⟩ := ow 12 (by simp)
        have := haf e m' b
        rwa [n'] at this
      have y9 : s.getD 9 false = true := by
        obtain ⟨e, m', b, n'⟩ := ow 9 (by simp)
        have := haf e m' b
        rwa [n'] at this
      obtain ⟨m, k1, k2, k3⟩ := c12 y12 hnd
      have q2 := c9 y9
      have hm1 := m1 (d8 (d9 y9))
      refine wpOp_list ho' ?_
      refine at_st rtG m ZC C' k2 hZ' hm1.lies.size.1 hm1.lies.size.2.1 (.tmp 9) (.tmp 43) og oo k1 q2 ?_
      intro z H
      rw [od]
      have Hn := H.out
      exact ⟨hsz', hfr, ⟨⟨fun x b cs tt e' => (Hn.2.2 b (by have h1 := two_lt e'; omega)).trans (hw.1.get x b cs tt e'), hw.1.ge, hw.1.ne, hw.1.low.trans (Hn.2.1 _ (by omega))⟩, hw.2.offT k2 (by decide) (by decide) Hn.2.2⟩, C', trivial, fun h0 => c0 (by rw [hset] at h0; simpa using h0), fun h0 => c1 (by rw [hset] at h0; simpa using h0), fun h0 => c2 (by rw [hset] at h0; simpa using h0), fun h0 => c3 (by rw [hset] at h0; simpa using h0), fun h0 => c4 (by rw [hset] at h0; simpa using h0), fun h0 => c5 (by rw [hset] at h0; simpa using h0), fun h0 => c6 (by rw [hset] at h0; simpa using h0), fun h0 => c7 (by rw [hset] at h0; simpa using h0), fun h0 => c8 (by rw [hset] at h0; simpa using h0), fun h0 => c9 (by rw [hset] at h0; simpa using h0), fun h0 => c10 (by rw [hset] at h0; simpa using h0), fun h0 => c11 (by rw [hset] at h0; simpa using h0), fun _ h1 => absurd h1 (by rw [hset]; simp), fun _ => ⟨m, k1, Hn.1, k3⟩, fun h0 => c14 (by rw [hset] at h0; simpa using h0), fun h0 => c15 (by rw [hset] at h0; simpa using h0), fun h0 => by rw [hset]; split; rfl; exact d8 (by rw [hset] at h0; simpa using h0), fun h0 => by rw [hset]; split; rfl; exact d9 (by rw [hset] at h0; simpa using h0), fun _ => ⟨by rw [hset]; simpa using y12, by rw [hset]; simpa using y9⟩, fun h0 => (m1 (by rw [hset] at h0; simpa using h0)).offT k2 (by decide) (by decide) Hn.2.2⟩
    · obtain ⟨o1', ho', og, od, oo, ow⟩ := o14
      rw [ho'] at hoi
      injection hoi with hoi
      subst hoi
      have y10 : s.getD 10 false = true := by
        obtain ⟨e, m', b, n'⟩ := ow 10 (by simp)
        have := haf e m' b
        rwa [n'] at this
      refine wpOp_val (.int .u8 (o : Int)) ho' og ?_ ?_
      · unfold execOp; simp only [oo, c10 y10, Sem.run_pure]
      · rw [od]
        exact ⟨hsz', hfr.put 10 _ (by decide), hw, C', trivial, fun h0 => by rw [ev_ne (by decide)]; exact c0 (by rw [hset] at h0; simpa using h0), fun h0 => by rw [ev_ne (by decide)]; exact c1 (by rw [hset] at h0; simpa using h0), fun h0 => by rw [ev_ne (by decide)]; exact c2 (by rw [hset] at h0; simpa using h0), fun h0 => by rw [ev_ne (by decide)]; exact c3 (by rw [hset] at h0; simpa using h0), fun h0 => by rw [ev_ne (by decide)]; exact c4 (by rw [hset] at h0; simpa using h0), fun h0 => by rw [ev_ne (by decide)]; exact c5 (by rw [hset] at h0; simpa using h0), fun h0 => by rw [ev_ne (by decide)]; exact c6 (by rw [hset] at h0; simpa using h0), fun h0 => by rw [ev_ne (by decide)]; exact c7 (by rw [hset] at h0; simpa using h0), fun h0 => by rw [ev_ne (by decide)]; exact c8 (by rw [hset] at h0; simpa using h0), fun h0 => by rw [ev_ne (by decide)]; exact c9 (by rw [hset] at h0; simpa using h0), fun h0 => by rw [ev_ne (by decide)]; exact c10 (by rw [hset] at h0; simpa using h0), fun h0 => by rw [ev_ne (by decide)]; exact c11 (by rw [hset] at h0; simpa using h0), fun h0 h1 => by rw [ev_ne (by decide)]; exact c12 (by rw [hset] at h0; simpa using h0) (by rw [hset] at h1; simpa using h1), fun h0 => by rw [ev_ne (by decide)]; exact c13 (by rw [hset] at h0; simpa using h0), fun _ => ev_eq (by rw [hta]; decide), fun h0 => by rw [ev_ne (by decide)]; exact c15 (by rw [hset] at h0; simpa using h0), fun h0 => by rw [hset]; split; rfl; exact d8 (by rw [hset] at h0; simpa using h0), fun h0 => by rw [hset]; split; rfl; exact d9 (by rw [hset] at h0; simpa using h0), fun h0 => ⟨by rw [hset]; split; rfl; exact (d13 (by rw [hset] at h0; simpa using h0)).1, by rw [hset]; split; rfl; exact (d13 (by rw [hset] at h0; simpa using h0)).2⟩, fun h0 => m1 (by rw [hset] at h0; simpa using h0)⟩
    · obtain ⟨o1', ho', og, od, oo, ow⟩ := o15
      rw [ho'] at hoi
      injection hoi with hoi
      subst hoi
      have y11 : s.getD 11 false = true := by
        obtain ⟨e, m', b, n'⟩ := ow 11 (by simp)
        have := haf e m' b
        rwa [n'] at this
      refine wpOp_val (.bool true) ho' og ?_ ?_
      · unfold execOp; simp only [oo, c11 y11, Sem.run_pure]
      · rw [od]
        exact ⟨hsz', hfr.put 11 _ (by decide), hw, C', trivial, fun h0 => by rw [ev_ne (by decide)]; exact c0 (by rw [hset] at h0; simpa using h0), fun h0 => by rw [ev_ne (by decide)]; exact c1 (by rw [hset] at h0; simpa using h0), fun h0 => by rw [ev_ne (by decide)]; exact c2 (by rw [hset] at h0; simpa using h0), fun h0 => by rw [ev_ne (by decide)]; exact c3 (by rw [hset] at h0; simpa using h0), fun h0 => by rw [ev_ne (by decide)]; exact c4 (by rw [hset] at h0; simpa using h0), fun h0 => by rw [ev_ne (by decide)]; exact c5 (by rw [hset] at h0; simpa using h0), fun h0 => by rw [ev_ne (by decide)]; exact c6 (by rw [hset] at h0; simpa using h0), fun h0 => by rw [ev_ne (by decide)]; exact c7 (by rw [hset] at h0; simpa using h0), fun h0 => by rw [ev_ne (by decide)]; exact c8 (by rw [hset] at h0; simpa using h0), fun h0 => by rw [ev_ne (by decide)]; exact c9 (by rw [hset] at h0; simpa using h0), fun h0 => by rw [ev_ne (by decide)]; exact c10 (by rw [hset] at h0; simpa using h0), fun h0 => by rw [ev_ne (by decide)]; exact c11 (by rw [hset] at h0; simpa using h0), fun h0 h1 => by rw [ev_ne (by decide)]; exact c12 (by rw [hset] at h0; simpa using h0) (by rw [hset] at h1; simpa using h1), fun h0 => by rw [ev_ne (by decide)]; exact c13 (by rw [hset] at h0; simpa using h0), fun h0 => by rw [ev_ne (by decide)]; exact c14 (by rw [hset] at h0; simpa using h0), fun _ => ev_eq (by rw [hta]; decide), fun h0 => by rw [hset]; split; rfl; exact d8 (by rw [hset] at h0; simpa using h0), fun h0 => by rw [hset]; split; rfl; exact d9 (by rw [hset] at h0; simpa using h0), fun h0 => ⟨by rw [hset]; split; rfl; exact (d13 (by rw [hset] at h0; simpa using h0)).1, by rw [hset]; split; rfl; exact (d13 (by rw [hset] at h0; simpa using h0)).2⟩, fun h0 => m1 (by rw [hset] at h0; simpa using h0)⟩
  · intro s a y hI' hall
    obtain ⟨hs', hfr, hw, C', _, c0, c1, c2, c3, c4, c5, c6, c7, c8, c9, c10, c11, c12, c13, c14, c15, d8, d9, d13, m1⟩ := hI'
    obtain ⟨m, k1, k2, k3⟩ := c13 (hall 13 (by omega))
    have e' := hfr.eq ht
    rw [k1, c14 (hall 14 (by omega)), c15 (hall 15 (by omega))] at e'
    rw [e']
    exact fin y m C' _ _ _ _ _ _ _ _ _ _ _ _ ⟨hw.1, hw.2, m1 (hall 7 (by omega)), k2, k3⟩
end Go.Proofs.YteipjkjpeookaaaGreat
