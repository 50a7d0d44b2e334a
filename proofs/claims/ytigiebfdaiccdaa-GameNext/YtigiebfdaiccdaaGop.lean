/- A machine, a font, a feed that came in as arguments, opened. -/
import Derived.Test.YtigiebfdaiccdaaG7
import Derived.Test.YtigiebfdaiccdaaDop
namespace Go.Proofs.Ytigiebfdaiccdaa
open Go Go.RowKit Go.ChangeShapes Go.WideShapes
set_option linter.unusedVariables false
set_option maxHeartbeats 1000000
set_option maxRecDepth 20000

theorem wf_u16 {z : Int} (h : (Lit.int .u16 z).wf = true) : 0 ≤ z ∧ z < 65536 := by
  have a : IntKind.min .u16 = 0 := by decide
  have b : IntKind.max .u16 = 65535 := by decide
  simp only [Lit.wf, a, b, Bool.and_eq_true, decide_eq_true_eq] at h
  omega
theorem wf_i64 {z : Int} (h : (Lit.int .i64 z).wf = true) : -9223372036854775808 ≤ z ∧ z ≤ 9223372036854775807 := by
  have a : IntKind.min .i64 = -9223372036854775808 := by decide
  have b : IntKind.max .i64 = 9223372036854775807 := by decide
  simp only [Lit.wf, a, b, Bool.and_eq_true, decide_eq_true_eq] at h
  omega
theorem list_of {α : Type} {v : α → Value} {Q : α → Prop} : ∀ (cs : List Value), (∀ i, i < cs.length → ∃ a, cs[i]? = some (v a) ∧ Q a) → ∃ l : List α, cs = l.map v ∧ ∀ a ∈ l, Q a
  | [], _ => ⟨[], rfl, fun a h => by cases h⟩
  | c :: cs, h => by
    obtain ⟨a, e, q⟩ := h 0 (by simp)
    obtain ⟨l, e2, q2⟩ := list_of cs (fun i hi => h (i + 1) (by simpa using hi))
    simp at e
    exact ⟨a :: l, by rw [e, e2]; rfl, fun x hx => by rcases List.mem_cons.1 hx with rfl | hx; exact q; exact q2 x hx⟩
theorem list23' {α : Type} {l : List α} (h : l.length = 23) : ∃ a0 a1 a2 a3 a4 a5 a6 a7 a8 a9 a10 a11 a12 a13 a14 a15 a16 a17 a18 a19 a20 a21 a22, l = [a0, a1, a2, a3, a4, a5, a6, a7, a8, a9, a10, a11, a12, a13, a14, a15, a16, a17, a18, a19, a20, a21, a22] := by
  match l, h with
  | [a0, a1, a2, a3, a4, a5, a6, a7, a8, a9, a10, a11, a12, a13, a14, a15, a16, a17, a18, a19, a20, a21, a22], _ => exact ⟨a0, a1, a2, a3, a4, a5, a6, a7, a8, a9, a10, a11, a12, a13, a14, a15, a16, a17, a18, a19, a20, a21, a22, rfl⟩
theorem list18' {α : Type} {l : List α} (h : l.length = 18) : ∃ a0 a1 a2 a3 a4 a5 a6 a7 a8 a9 a10 a11 a12 a13 a14 a15 a16 a17, l = [a0, a1, a2, a3, a4, a5, a6, a7, a8, a9, a10, a11, a12, a13, a14, a15, a16, a17] := by
  match l, h with
  | [a0, a1, a2, a3, a4, a5, a6, a7, a8, a9, a10, a11, a12, a13, a14, a15, a16, a17], _ => exact ⟨a0, a1, a2, a3, a4, a5, a6, a7, a8, a9, a10, a11, a12, a13, a14, a15, a16, a17, rfl⟩
theorem list16' {α : Type} {l : List α} (h : l.length = 16) : ∃ a0 a1 a2 a3 a4 a5 a6 a7 a8 a9 a10 a11 a12 a13 a14 a15, l = [a0, a1, a2, a3, a4, a5, a6, a7, a8, a9, a10, a11, a12, a13, a14, a15] := by
  match l, h with
  | [a0, a1, a2, a3, a4, a5, a6, a7, a8, a9, a10, a11, a12, a13, a14, a15], _ => exact ⟨a0, a1, a2, a3, a4, a5, a6, a7, a8, a9, a10, a11, a12, a13, a14, a15, rfl⟩

section
variable {H : Type} {enc : TypeId × Value → H} {w : World}
theorem openWd {m : Nat} {cs : List Value} {x : DataW H × List MemPlace} (h : DataW.trod enc Try.prog w 0 (fun _ => true) true m 26 cs = some x) : ∃ n : Nat, cs = cW n ∧ n < 65536 := by
  obtain ⟨z, q, _, hw⟩ := DataW.trod_int Try.underlying26 h
  have := wf_u16 hw
  subst q
  refine ⟨z.toNat, ?_, by omega⟩
  unfold cW
  rw [show ((z.toNat : Nat) : Int) = z by omega]
theorem words_open {m : Nat} {a : Option Addr} {len cap : Nat} {x : DataW H × List MemPlace} (h : DataW.trod enc Try.prog w 0 (fun _ => true) true m 27 [.slice a len cap] = some x) : len ≤ maxLen ∧ len ≤ cap ∧ (a = none → cap = 0) ∧ ∃ l : List Nat, l.length = len ∧ LW w a l ∧ ∀ s ∈ l, s < 65536 :=
  rows_open (s := 1) (c := cW) (Q := fun s => s < 65536) Try.underlying27 (fun _ => rfl) (by decide) (by kernel_rfl) (fun _ _ _ h => openWd h) h
theorem arr_open {α : Type} {T t : TypeId} {N : Nat} {v : α → Value} {Q : α → Prop} (u : Try.prog.underlying T = some (.array N t)) (k1 : Try.prog.cellsOf t = 1) (kN : Try.prog.cellsOf T = N) (ho : ∀ (m : Nat) (cs : List Value) (x : DataW H × List MemPlace), DataW.trod enc Try.prog w 0 (fun _ => true) true m t cs = some x → ∃ a, cs = [v a] ∧ Q a)
    {m : Nat} {cs : List Value} {x : DataW H × List MemPlace} (h : DataW.trod enc Try.prog w 0 (fun _ => true) true m T cs = some x) : ∃ l : List α, l.length = N ∧ cs = l.map v ∧ ∀ a ∈ l, Q a := by
  obtain ⟨xs, n, _, rfl, hl, hxl, hf⟩ := DataW.trod_array u h
  rw [kN] at hl
  obtain ⟨l, e, q⟩ := list_of (v := v) (Q := Q) cs (fun i hi => by
    obtain ⟨y, ey⟩ := some_of hxl (show i < N by omega)
    have g := (hf i (by omega)).trans ey
    rw [k1, Nat.mul_one] at g
    obtain ⟨a, ea, qa⟩ := ho _ _ _ g
    refine ⟨a, ?_, qa⟩
    have : ((cs.drop i).take 1)[0]? = some (v a) := by rw [ea]; rfl
    simpa using this)
  exact ⟨l, by rw [← hl, e, List.length_map], e, q⟩
theorem openV {m : Nat} {cs : List Value} {x : DataW H × List MemPlace} (h : DataW.trod enc Try.prog w 0 (fun _ => true) true m 25 cs = some x) : ∃ l : List UInt8, l.length = 16 ∧ cs = l.map byV := by
  obtain ⟨l, e1, e2, _⟩ := arr_open (v := byV) (Q := fun _ => True) Try.underlying25 (by kernel_rfl) (by kernel_rfl) (fun _ _ _ h => openBy h) h
  exact ⟨l, e1, e2⟩
theorem openPl {m : Nat} {cs : List Value} {x : DataW H × List MemPlace} (h : DataW.trod enc Try.prog w 0 (fun _ => true) true m 38 cs = some x) : ∃ l : List Nat, l.length = 16 ∧ cs = l.map (fun n : Nat => Value.int .u16 (n : Int)) ∧ ∀ s ∈ l, s < 65536 :=
  arr_open (v := fun n : Nat => Value.int .u16 (n : Int)) (Q := fun s => s < 65536) Try.underlying38 (by kernel_rfl) (by kernel_rfl) (fun _ _ _ h => openWd h) h
theorem openGm {m : Nat} {cs : List Value} {x : DataW H × List MemPlace} (h : DataW.trod enc Try.prog w 0 (fun _ => true) true m 29 cs = some x) : ∃ (C : Array Value) (g : Gm), cs = C.toList ∧ GL w C g ∧ g.st.length ≤ maxLen ∧ g.pg.length ≤ maxLen ∧ g.me.length ≤ maxLen := by
  obtain ⟨xs, n, _, rfl, hl, hxl, hf⟩ := DataW.trod_struct Try.underlying29 h
  obtain ⟨c0, c1, c2, c3, c4, c5, c6, c7, c8, c9, c10, c11, c12, c13, c14, c15, c16, c17, c18, c19, c20, c21, c22, rfl⟩ := list23' (hl.trans (by kernel_rfl))
  have kV : Try.prog.cellsOf 25 = 16 := by kernel_rfl
  have kU : Try.prog.cellsOf 5 = 1 := by kernel_rfl
  have kW : Try.prog.cellsOf 26 = 1 := by kernel_rfl
  have kS : Try.prog.cellsOf 27 = 1 := by kernel_rfl
  have kB : Try.prog.cellsOf 22 = 1 := by kernel_rfl
  have g0 := hf 0 _ rfl
  have g1 := hf 1 _ rfl
  have g2 := hf 2 _ rfl
  have g3 := hf 3 _ rfl
  have g4 := hf 4 _ rfl
  have g5 := hf 5 _ rfl
  have g6 := hf 6 _ rfl
  have g7 := hf 7 _ rfl
  simp [kV] at g0
  simp [kW] at g1 g2
  simp [kS] at g3
  simp [kU] at g4 g5
  simp [kB] at g6 g7
  obtain ⟨y0, e0⟩ := some_of (show xs.length = 8 from hxl) (show 0 < 8 by decide)
  obtain ⟨y1, e1⟩ := some_of (show xs.length = 8 from hxl) (show 1 < 8 by decide)
  obtain ⟨y2, e2⟩ := some_of (show xs.length = 8 from hxl) (show 2 < 8 by decide)
  obtain ⟨y3, e3⟩ := some_of (show xs.length = 8 from hxl) (show 3 < 8 by decide)
  obtain ⟨y4, e4⟩ := some_of (show xs.length = 8 from hxl) (show 4 < 8 by decide)
  obtain ⟨y5, e5⟩ := some_of (show xs.length = 8 from hxl) (show 5 < 8 by decide)
  obtain ⟨y6, e6⟩ := some_of (show xs.length = 8 from hxl) (show 6 < 8 by decide)
  obtain ⟨y7, e7⟩ := some_of (show xs.length = 8 from hxl) (show 7 < 8 by decide)
  obtain ⟨v, hv, qv⟩ := openV (g0.trans e0)
  obtain ⟨i, qi, hi⟩ := openWd (g1.trans e1)
  obtain ⟨pc, qp, hp⟩ := openWd (g2.trans e2)
  obtain ⟨de, qd, _⟩ := openBy (g4.trans e4)
  obtain ⟨so, qs, _⟩ := openBy (g5.trans e5)
  have k3 := g3.trans e3
  have k6 := g6.trans e6
  have k7 := g7.trans e7
  clear g0 g1 g2 g3 g4 g5 g6 g7 e0 e1 e2 e3 e4 e5 e6 e7 hf
  obtain ⟨s3, l3, p3, rfl⟩ : ∃ a len cap, c18 = .slice a len cap := by
    rcases Go.Deep.open_slice Try.underlying27 k3 with ⟨hcs, _⟩ | ⟨ad, len', cap', M, n, D, Pl, hcs, _⟩
    · simp at hcs; exact ⟨_, _, _, hcs⟩
    · simp at hcs; exact ⟨_, _, _, hcs⟩
  obtain ⟨s6, l6, p6, rfl⟩ : ∃ a len cap, c21 = .slice a len cap := by
    rcases Go.Deep.open_slice Try.underlying22 k6 with ⟨hcs, _⟩ | ⟨ad, len', cap', M, n, D, Pl, hcs, _⟩
    · simp at hcs; exact ⟨_, _, _, hcs⟩
    · simp at hcs; exact ⟨_, _, _, hcs⟩
  obtain ⟨s7, l7, p7, rfl⟩ : ∃ a len cap, c22 = .slice a len cap := by
    rcases Go.Deep.open_slice Try.underlying22 k7 with ⟨hcs, _⟩ | ⟨ad, len', cap', M, n, D, Pl, hcs, _⟩
    · simp at hcs; exact ⟨_, _, _, hcs⟩
    · simp at hcs; exact ⟨_, _, _, hcs⟩
  obtain ⟨m3, _, _, st, rfl, L3, hst⟩ := words_open k3
  obtain ⟨m6, _, _, pg, rfl, L6⟩ := bytes_open k6
  obtain ⟨m7, _, _, me, rfl, L7⟩ := bytes_open k7
  obtain ⟨b0, b1, b2, b3, b4, b5, b6, b7, b8, b9, b10, b11, b12, b13, b14, b15, rfl⟩ := list16' hv
  simp at qv
  unfold cW at qi qp
  simp at qi qp qd qs
  obtain ⟨rfl, rfl, rfl, rfl, rfl, rfl, rfl, rfl, rfl, rfl, rfl, rfl, rfl, rfl, rfl, rfl⟩ := qv
  subst qi qp qd qs
  exact ⟨_, ⟨[b0, b1, b2, b3, b4, b5, b6, b7, b8, b9, b10, b11, b12, b13, b14, b15], i, pc, st, de, so, pg, me⟩, rfl, ⟨⟨s3, s6, s7, p3, p6, p7, rfl, L3, L6, L7⟩, ⟨rfl, hi, hp, hst⟩⟩, m3, m6, m7⟩
theorem openFo {m : Nat} {cs : List Value} {x : DataW H × List MemPlace} (h : DataW.trod enc Try.prog w 0 (fun _ => true) true m 40 cs = some x) : ∃ (D : Array Value) (f : Fo), cs = D.toList ∧ FL w D f ∧ f.by_.length ≤ maxLen := by
  obtain ⟨xs, n, _, rfl, hl, hxl, hf⟩ := DataW.trod_struct Try.underlying40 h
  obtain ⟨c0, c1, c2, c3, c4, c5, c6, c7, c8, c9, c10, c11, c12, c13, c14, c15, c16, c17, rfl⟩ := list18' (hl.trans (by kernel_rfl))
  have kV : Try.prog.cellsOf 38 = 16 := by kernel_rfl
  have kW : Try.prog.cellsOf 26 = 1 := by kernel_rfl
  have kB : Try.prog.cellsOf 22 = 1 := by kernel_rfl
  have g0 := hf 0 _ rfl
  have g1 := hf 1 _ rfl
  have g2 := hf 2 _ rfl
  simp [kV] at g0
  simp [kW] at g1
  simp [kB] at g2
  obtain ⟨y0, e0⟩ := some_of (show xs.length = 3 from hxl) (show 0 < 3 by decide)
  obtain ⟨y1, e1⟩ := some_of (show xs.length = 3 from hxl) (show 1 < 3 by decide)
  obtain ⟨y2, e2⟩ := some_of (show xs.length = 3 from hxl) (show 2 < 3 by decide)
  obtain ⟨pl, hpl, qpl, hlt⟩ := openPl (g0.trans e0)
  obtain ⟨fr, qf, hfr⟩ := openWd (g1.trans e1)
  have k2 := g2.trans e2
  clear g0 g1 g2 e0 e1 e2 hf
  obtain ⟨s2, l2, p2, rfl⟩ : ∃ a len cap, c17 = .slice a len cap := by
    rcases Go.Deep.open_slice Try.underlying22 k2 with ⟨hcs, _⟩ | ⟨ad, len', cap', M, n, D, Pl, hcs, _⟩
    · simp at hcs; exact ⟨_, _, _, hcs⟩
    · simp at hcs; exact ⟨_, _, _, hcs⟩
  obtain ⟨m2, _, _, by_, rfl, L2⟩ := bytes_open k2
  obtain ⟨b0, b1, b2, b3, b4, b5, b6, b7, b8, b9, b10, b11, b12, b13, b14, b15, rfl⟩ := list16' hpl
  simp at qpl
  unfold cW at qf
  simp at qf
  obtain ⟨rfl, rfl, rfl, rfl, rfl, rfl, rfl, rfl, rfl, rfl, rfl, rfl, rfl, rfl, rfl, rfl⟩ := qpl
  subst qf
  exact ⟨_, ⟨[b0, b1, b2, b3, b4, b5, b6, b7, b8, b9, b10, b11, b12, b13, b14, b15], fr, by_⟩, rfl, ⟨⟨s2, p2, rfl, L2⟩, rfl, hlt, hfr⟩, m2⟩
theorem openFd {m : Nat} {cs : List Value} {x : DataW H × List MemPlace} (h : DataW.trod enc Try.prog w 0 (fun _ => true) true m 50 cs = some x) : ∃ d : Fd, cs = (dCs d).toList ∧ d.Ok := by
  obtain ⟨xs, n, _, rfl, hl, hxl, hf⟩ := DataW.trod_struct Try.underlying50 h
  obtain ⟨c0, c1, c2, rfl⟩ := list3 (hl.trans (by kernel_rfl))
  have kU : Try.prog.cellsOf 5 = 1 := by kernel_rfl
  have kW : Try.prog.cellsOf 26 = 1 := by kernel_rfl
  have kI : Try.prog.cellsOf 3 = 1 := by kernel_rfl
  have g0 := hf 0 _ rfl
  have g1 := hf 1 _ rfl
  have g2 := hf 2 _ rfl
  simp [kU] at g0
  simp [kW] at g1
  simp [kI] at g2
  obtain ⟨y0, e0⟩ := some_of (show xs.length = 3 from hxl) (show 0 < 3 by decide)
  obtain ⟨y1, e1⟩ := some_of (show xs.length = 3 from hxl) (show 1 < 3 by decide)
  obtain ⟨y2, e2⟩ := some_of (show xs.length = 3 from hxl) (show 2 < 3 by decide)
  obtain ⟨rn, q0, _⟩ := openBy (g0.trans e0)
  obtain ⟨ks, q1, hks⟩ := openWd (g1.trans e1)
  obtain ⟨ky, q2, _, hw⟩ := DataW.trod_int Try.underlying3 (g2.trans e2)
  unfold cW at q1
  simp at q0 q1 q2
  subst q0 q1 q2
  exact ⟨⟨rn, ks, ky⟩, rfl, ⟨hks, wf_i64 hw⟩⟩
end
end Go.Proofs.Ytigiebfdaiccdaa
