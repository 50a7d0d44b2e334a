/- A machine and a turn that came in as arguments, opened. -/
import Derived.Test.YtehnhjdjjalifaaGreatDoorX3
import Derived.Test.YtehnhjdjjalifaaGreatDoorDop
namespace Go.Proofs.YtehnhjdjjalifaaGreatDoor
open Go Go.RowKit Go.ChangeShapes Go.WideShapes
set_option linter.unusedVariables false
set_option maxHeartbeats 2000000
set_option maxRecDepth 20000

theorem wf_u16 {z : Int} (h : (Lit.int .u16 z).wf = true) : 0 ≤ z ∧ z < 65536 := by
  have a : IntKind.min .u16 = 0 := by decide
  have b : IntKind.max .u16 = 65535 := by decide
  simp only [Lit.wf, a, b, Bool.and_eq_true, decide_eq_true_eq] at h
  omega
theorem wf_i64 {z : Int} (h : (Lit.int .i64 z).wf = true) : -9223372036854775808 ≤ z ∧ z ≤ 9223372036854775807 := by
  have a : IntKind.min .i64 = -9223372036854775808 := by decide
  have b : IntKind.max .i64 = 9223372036854775807 := by decide
  simp only [Lit.wf, a, b, Bool.and_eq_true, decide_eq_true_eq] at h
  omega
theorem list_of {α : Type} {v : α → Value} {Q : α → Prop} : ∀ (cs : List Value), (∀ i, i < cs.length → ∃ a, cs[i]? = some (v a) ∧ Q a) → ∃ l : List α, cs = l.map v ∧ ∀ a ∈ l, Q a
  | [], _ => ⟨[], rfl, fun a h => by cases h⟩
  | c :: cs, h => by
    obtain ⟨a, e, q⟩ := h 0 (by simp)
    obtain ⟨l, e2, q2⟩ := list_of cs (fun i hi => h (i + 1) (by simpa using hi))
    simp at e
    exact ⟨a :: l, by rw [e, e2]; rfl, fun x hx => by rcases List.mem_cons.1 hx with rfl | hx; exact q; exact q2 x hx⟩
theorem wf_u64 {z : Int} (h : (Lit.int .u64 z).wf = true) : 0 ≤ z ∧ z < 18446744073709551616 := by
  have a : IntKind.min .u64 = 0 := by decide
  have b : IntKind.max .u64 = 18446744073709551615 := by decide
  simp only [Lit.wf, a, b, Bool.and_eq_true, decide_eq_true_eq] at h
  omega
section
variable {H : Type} {enc : TypeId × Value → H} {w : World}
theorem arr_open {α : Type} {T t : TypeId} {N : Nat} {v : α → Value} {Q : α → Prop} (u : Tryz.prog.underlying T = some (.array N t)) (k1 : Tryz.prog.cellsOf t = 1) (kN : Tryz.prog.cellsOf T = N) (ho : ∀ (m : Nat) (cs : List Value) (x : DataW H × List MemPlace), DataW.trod enc Tryz.prog w 0 (fun _ => true) true m t cs = some x → ∃ a, cs = [v a] ∧ Q a)
    {m : Nat} {cs : List Value} {x : DataW H × List MemPlace} (h : DataW.trod enc Tryz.prog w 0 (fun _ => true) true m T cs = some x) : ∃ l : List α, l.length = N ∧ cs = l.map v ∧ ∀ a ∈ l, Q a := by
  obtain ⟨xs, n, _, rfl, hl, hxl, hf⟩ := DataW.trod_array u h
  rw [kN] at hl
  obtain ⟨l, e, q⟩ := list_of (v := v) (Q := Q) cs (fun i hi => by
    obtain ⟨y, ey⟩ := some_of hxl (show i < N by omega)
    have g := (hf i (by omega)).trans ey
    rw [k1, Nat.mul_one] at g
    obtain ⟨a, ea, qa⟩ := ho _ _ _ g
    refine ⟨a, ?_, qa⟩
    have : ((cs.drop i).take 1)[0]? = some (v a) := by rw [ea]; rfl
    simpa using this)
  exact ⟨l, by rw [← hl, e, List.length_map], e, q⟩
theorem open16w {m : Nat} {cs : List Value} {x : DataW H × List MemPlace} (h : DataW.trod enc Tryz.prog w 0 (fun _ => true) true m 22 cs = some x) : ∃ n : Nat, cs = [.int .u16 (n : Int)] ∧ n < 65536 := by
  obtain ⟨z, q, _, hw⟩ := DataW.trod_int Tryz.underlying22 h
  have := wf_u16 hw
  subst q
  exact ⟨z.toNat, by rw [show ((z.toNat : Nat) : Int) = z by omega], by omega⟩
theorem openRg {m : Nat} {cs : List Value} {x : DataW H × List MemPlace} (h : DataW.trod enc Tryz.prog w 0 (fun _ => true) true m 23 cs = some x) : ∃ l : List Nat, l.length = 16 ∧ cs = l.map (fun n : Nat => Value.int .u16 (n : Int)) ∧ ∀ s ∈ l, s < 65536 :=
  arr_open (v := fun n : Nat => Value.int .u16 (n : Int)) (Q := fun s => s < 65536) Tryz.underlying23 (by kernel_rfl) (by kernel_rfl) (fun _ _ _ h => open16w h) h
theorem openPh {m : Nat} {cs : List Value} {x : DataW H × List MemPlace} (h : DataW.trod enc Tryz.prog w 0 (fun _ => true) true m 24 cs = some x) : ∃ b : UInt8, cs = [byV b] := by
  obtain ⟨z, q, _, hw⟩ := DataW.trod_int Tryz.underlying24 h
  have := wf_u8 hw
  subst q
  refine ⟨UInt8.ofNat z.toNat, ?_⟩
  unfold byV
  rw [UInt8.toNat_ofNat', show ((z.toNat % 2 ^ 8 : Nat) : Int) = z by omega]
theorem lst35 {α : Type} {l : List α} (h : l.length = 35) : ∃ a0 a1 a2 a3 a4 a5 a6 a7 a8 a9 a10 a11 a12 a13 a14 a15 a16 a17 a18 a19 a20 a21 a22 a23 a24 a25 a26 a27 a28 a29 a30 a31 a32 a33 a34, l = [a0, a1, a2, a3, a4, a5, a6, a7, a8, a9, a10, a11, a12, a13, a14, a15, a16, a17, a18, a19, a20, a21, a22, a23, a24, a25, a26, a27, a28, a29, a30, a31, a32, a33, a34] := by
  match l, h with
  | a0 :: a1 :: a2 :: a3 :: a4 :: a5 :: a6 :: a7 :: a8 :: a9 :: a10 :: a11 :: a12 :: a13 :: a14 :: a15 :: a16 :: a17 :: a18 :: a19 :: a20 :: a21 :: a22 :: a23 :: a24 :: a25 :: a26 :: a27 :: a28 :: a29 :: a30 :: a31 :: a32 :: a33 :: a34 :: [], _ => exact ⟨a0, a1, a2, a3, a4, a5, a6, a7, a8, a9, a10, a11, a12, a13, a14, a15, a16, a17, a18, a19, a20, a21, a22, a23, a24, a25, a26, a27, a28, a29, a30, a31, a32, a33, a34, rfl⟩
theorem lst26 {α : Type} {l : List α} (h : l.length = 26) : ∃ a0 a1 a2 a3 a4 a5 a6 a7 a8 a9 a10 a11 a12 a13 a14 a15 a16 a17 a18 a19 a20 a21 a22 a23 a24 a25, l = [a0, a1, a2, a3, a4, a5, a6, a7, a8, a9, a10, a11, a12, a13, a14, a15, a16, a17, a18, a19, a20, a21, a22, a23, a24, a25] := by
  match l, h with
  | a0 :: a1 :: a2 :: a3 :: a4 :: a5 :: a6 :: a7 :: a8 :: a9 :: a10 :: a11 :: a12 :: a13 :: a14 :: a15 :: a16 :: a17 :: a18 :: a19 :: a20 :: a21 :: a22 :: a23 :: a24 :: a25 :: [], _ => exact ⟨a0, a1, a2, a3, a4, a5, a6, a7, a8, a9, a10, a11, a12, a13, a14, a15, a16, a17, a18, a19, a20, a21, a22, a23, a24, a25, rfl⟩
theorem lst16 {α : Type} {l : List α} (h : l.length = 16) : ∃ a0 a1 a2 a3 a4 a5 a6 a7 a8 a9 a10 a11 a12 a13 a14 a15, l = [a0, a1, a2, a3, a4, a5, a6, a7, a8, a9, a10, a11, a12, a13, a14, a15] := by
  match l, h with
  | a0 :: a1 :: a2 :: a3 :: a4 :: a5 :: a6 :: a7 :: a8 :: a9 :: a10 :: a11 :: a12 :: a13 :: a14 :: a15 :: [], _ => exact ⟨a0, a1, a2, a3, a4, a5, a6, a7, a8, a9, a10, a11, a12, a13, a14, a15, rfl⟩
theorem openCpu {m : Nat} {cs : List Value} {x : DataW H × List MemPlace} (h : DataW.trod enc Tryz.prog w 0 (fun _ => true) true m 26 cs = some x) : ∃ (r : List Nat) (d : UInt8) (df : Bool) (p x t : UInt8) (ie q : Bool) (op b ph : UInt8), r.length = 16 ∧ (∀ v ∈ r, v < 65536) ∧ cs = r.map (fun n : Nat => Value.int .u16 (n : Int)) ++ [byV d, .bool df, byV p, byV x, byV t, .bool ie, .bool q, byV op, byV b, byV ph] := by
  obtain ⟨xs, n, _, rfl, hl, hxl, hf⟩ := DataW.trod_struct Tryz.underlying26 h
  obtain ⟨c0, c1, c2, c3, c4, c5, c6, c7, c8, c9, c10, c11, c12, c13, c14, c15, c16, c17, c18, c19, c20, c21, c22, c23, c24, c25, rfl⟩ := lst26 (hl.trans (by kernel_rfl))
  have kR : Tryz.prog.cellsOf 23 = 16 := by kernel_rfl
  have kU : Tryz.prog.cellsOf 5 = 1 := by kernel_rfl
  have kB : Tryz.prog.cellsOf 4 = 1 := by kernel_rfl
  have kP : Tryz.prog.cellsOf 24 = 1 := by kernel_rfl
  have hx11 : xs.length = 11 := hxl
  obtain ⟨y0, e0⟩ := some_of hx11 (show 0 < 11 by decide)
  have g0 := (hf 0 _ rfl).trans e0
  simp [kR] at g0
  obtain ⟨r, hr, q0, hrl⟩ := openRg g0
  obtain ⟨y1, e1⟩ := some_of hx11 (show 1 < 11 by decide)
  have g1 := (hf 1 _ rfl).trans e1
  simp [kU] at g1
  obtain ⟨z1, q1, _⟩ := openBy g1
  simp at q1
  obtain ⟨y2, e2⟩ := some_of hx11 (show 2 < 11 by decide)
  have g2 := (hf 2 _ rfl).trans e2
  simp [kB] at g2
  obtain ⟨z2, q2, _⟩ := DataW.trod_bool Tryz.underlying4 g2
  simp at q2
  obtain ⟨y3, e3⟩ := some_of hx11 (show 3 < 11 by decide)
  have g3 := (hf 3 _ rfl).trans e3
  simp [kU] at g3
  obtain ⟨z3, q3, _⟩ := openBy g3
  simp at q3
  obtain ⟨y4, e4⟩ := some_of hx11 (show 4 < 11 by decide)
  have g4 := (hf 4 _ rfl).trans e4
  simp [kU] at g4
  obtain ⟨z4, q4, _⟩ := openBy g4
  simp at q4
  obtain ⟨y5, e5⟩ := some_of hx11 (show 5 < 11 by decide)
  have g5 := (hf 5 _ rfl).trans e5
  simp [kU] at g5
  obtain ⟨z5, q5, _⟩ := openBy g5
  simp at q5
  obtain ⟨y6, e6⟩ := some_of hx11 (show 6 < 11 by decide)
  have g6 := (hf 6 _ rfl).trans e6
  simp [kB] at g6
  obtain ⟨z6, q6, _⟩ := DataW.trod_bool Tryz.underlying4 g6
  simp at q6
  obtain ⟨y7, e7⟩ := some_of hx11 (show 7 < 11 by decide)
  have g7 := (hf 7 _ rfl).trans e7
  simp [kB] at g7
  obtain ⟨z7, q7, _⟩ := DataW.trod_bool Tryz.underlying4 g7
  simp at q7
  obtain ⟨y8, e8⟩ := some_of hx11 (show 8 < 11 by decide)
  have g8 := (hf 8 _ rfl).trans e8
  simp [kU] at g8
  obtain ⟨z8, q8, _⟩ := openBy g8
  simp at q8
  obtain ⟨y9, e9⟩ := some_of hx11 (show 9 < 11 by decide)
  have g9 := (hf 9 _ rfl).trans e9
  simp [kU] at g9
  obtain ⟨z9, q9, _⟩ := openBy g9
  simp at q9
  obtain ⟨y10, e10⟩ := some_of hx11 (show 10 < 11 by decide)
  have g10 := (hf 10 _ rfl).trans e10
  simp [kP] at g10
  obtain ⟨z10, q10⟩ := openPh g10
  simp at q10
  clear g0 e0 g1 e1 g2 e2 g3 e3 g4 e4 g5 e5 g6 e6 g7 e7 g8 e8 g9 e9 g10 e10 hf
  refine ⟨r, z1, z2, z3, z4, z5, z6, z7, z8, z9, z10, hr, hrl, ?_⟩
  rw [← q0]
  simp only [List.cons_append, List.nil_append, q1, q2, q3, q4, q5, q6, q7, q8, q9, q10]
theorem openRas {m : Nat} {cs : List Value} {x : DataW H × List MemPlace} (h : DataW.trod enc Tryz.prog w 0 (fun _ => true) true m 28 cs = some x) : ∃ (ln cy : Int) (on : Bool) (gt : Int), cs = [.int .i64 ln, .int .i64 cy, .bool on, .int .i64 gt] ∧ (-9223372036854775808 ≤ ln ∧ ln ≤ 9223372036854775807) ∧ (-9223372036854775808 ≤ cy ∧ cy ≤ 9223372036854775807) ∧ (-9223372036854775808 ≤ gt ∧ gt ≤ 9223372036854775807) := by
  obtain ⟨xs, n, _, rfl, hl, hxl, hf⟩ := DataW.trod_struct Tryz.underlying28 h
  obtain ⟨c0, c1, c2, c3, rfl⟩ : ∃ a b c d, cs = [a, b, c, d] := by
    have h4 : cs.length = 4 := hl.trans (by kernel_rfl)
    match cs, h4 with
    | [a, b, c, d], _ => exact ⟨a, b, c, d, rfl⟩
  have kI : Tryz.prog.cellsOf 3 = 1 := by kernel_rfl
  have kB : Tryz.prog.cellsOf 4 = 1 := by kernel_rfl
  have hx4 : xs.length = 4 := hxl
  obtain ⟨y0, e0⟩ := some_of hx4 (show 0 < 4 by decide)
  have g0 := (hf 0 _ rfl).trans e0
  simp [kI] at g0
  obtain ⟨z0, q0, _, w0⟩ := DataW.trod_int Tryz.underlying3 g0
  simp at q0
  obtain ⟨y1, e1⟩ := some_of hx4 (show 1 < 4 by decide)
  have g1 := (hf 1 _ rfl).trans e1
  simp [kI] at g1
  obtain ⟨z1, q1, _, w1⟩ := DataW.trod_int Tryz.underlying3 g1
  simp at q1
  obtain ⟨y2, e2⟩ := some_of hx4 (show 2 < 4 by decide)
  have g2 := (hf 2 _ rfl).trans e2
  simp [kB] at g2
  obtain ⟨z2, q2, _⟩ := DataW.trod_bool Tryz.underlying4 g2
  simp at q2
  obtain ⟨y3, e3⟩ := some_of hx4 (show 3 < 4 by decide)
  have g3 := (hf 3 _ rfl).trans e3
  simp [kI] at g3
  obtain ⟨z3, q3, _, w3⟩ := DataW.trod_int Tryz.underlying3 g3
  simp at q3
  exact ⟨z0, z1, z2, z3, by rw [q0, q1, q2, q3], wf_i64 w0, wf_i64 w1, wf_i64 w3⟩
theorem openPad {m : Nat} {cs : List Value} {x : DataW H × List MemPlace} (h : DataW.trod enc Tryz.prog w 0 (fun _ => true) true m 30 cs = some x) : ∃ b : UInt8, cs = [byV b] := by
  obtain ⟨xs, n, _, rfl, hl, hxl, hf⟩ := DataW.trod_struct Tryz.underlying30 h
  obtain ⟨c0, rfl⟩ : ∃ a, cs = [a] := by
    have h1 : cs.length = 1 := hl.trans (by kernel_rfl)
    match cs, h1 with
    | [a], _ => exact ⟨a, rfl⟩
  have kU : Tryz.prog.cellsOf 5 = 1 := by kernel_rfl
  obtain ⟨y0, e0⟩ := some_of (show xs.length = 1 from hxl) (show 0 < 1 by decide)
  have g0 := (hf 0 _ rfl).trans e0
  simp [kU] at g0
  obtain ⟨z0, q0, _⟩ := openBy g0
  exact ⟨z0, q0⟩
theorem openBd {m : Nat} {cs : List Value} {x : DataW H × List MemPlace} (h : DataW.trod enc Tryz.prog w 0 (fun _ => true) true m 34 cs = some x) : ∃ (C : Array Value) (s : Bd), cs = C.toList ∧ BL w C s ∧ s.ram.length ≤ maxLen ∧ s.rom.length ≤ maxLen := by
  obtain ⟨xs, n, _, rfl, hl, hxl, hf⟩ := DataW.trod_struct Tryz.underlying34 h
  obtain ⟨c0, c1, c2, c3, c4, c5, c6, c7, c8, c9, c10, c11, c12, c13, c14, c15, c16, c17, c18, c19, c20, c21, c22, c23, c24, c25, c26, c27, c28, c29, c30, c31, c32, c33, c34, rfl⟩ := lst35 (hl.trans (by kernel_rfl))
  have kC : Tryz.prog.cellsOf 26 = 26 := by kernel_rfl
  have kR : Tryz.prog.cellsOf 28 = 4 := by kernel_rfl
  have kP : Tryz.prog.cellsOf 30 = 1 := by kernel_rfl
  have kB : Tryz.prog.cellsOf 4 = 1 := by kernel_rfl
  have kS : Tryz.prog.cellsOf 31 = 1 := by kernel_rfl
  have kQ : Tryz.prog.cellsOf 32 = 1 := by kernel_rfl
  have hx7 : xs.length = 7 := hxl
  obtain ⟨y0, e0⟩ := some_of hx7 (show 0 < 7 by decide)
  have g0 := (hf 0 _ rfl).trans e0
  simp [kC] at g0
  obtain ⟨y1, e1⟩ := some_of hx7 (show 1 < 7 by decide)
  have g1 := (hf 1 _ rfl).trans e1
  simp [kR] at g1
  obtain ⟨y2, e2⟩ := some_of hx7 (show 2 < 7 by decide)
  have g2 := (hf 2 _ rfl).trans e2
  simp [kP] at g2
  obtain ⟨y3, e3⟩ := some_of hx7 (show 3 < 7 by decide)
  have g3 := (hf 3 _ rfl).trans e3
  simp [kB] at g3
  obtain ⟨y4, e4⟩ := some_of hx7 (show 4 < 7 by decide)
  have g4 := (hf 4 _ rfl).trans e4
  simp [kS] at g4
  obtain ⟨y5, e5⟩ := some_of hx7 (show 5 < 7 by decide)
  have g5 := (hf 5 _ rfl).trans e5
  simp [kS] at g5
  obtain ⟨y6, e6⟩ := some_of hx7 (show 6 < 7 by decide)
  have g6 := (hf 6 _ rfl).trans e6
  simp [kQ] at g6
  obtain ⟨r, d, df, p, x', t', ie, q, op, b, ph, hr, hrl, q0⟩ := openCpu g0
  obtain ⟨ln, cy, on, gt, q1, hln, hcy, hgt⟩ := openRas g1
  obtain ⟨pd, q2⟩ := openPad g2
  obtain ⟨lt, q3, _⟩ := DataW.trod_bool Tryz.underlying4 g3
  obtain ⟨cc, q6, _, w6⟩ := DataW.trod_int Tryz.underlying32 g6
  have hcc := wf_u64 w6
  obtain ⟨s4, l4, p4, rfl⟩ : ∃ a len cap, c32 = .slice a len cap := by
    rcases Go.Deep.open_slice Tryz.underlying31 g4 with ⟨hcs, _⟩ | ⟨ad, len', cap', M, n, D, Pl, hcs, _⟩
    · simp at hcs; exact ⟨_, _, _, hcs⟩
    · simp at hcs; exact ⟨_, _, _, hcs⟩
  obtain ⟨s5, l5, p5, rfl⟩ : ∃ a len cap, c33 = .slice a len cap := by
    rcases Go.Deep.open_slice Tryz.underlying31 g5 with ⟨hcs, _⟩ | ⟨ad, len', cap', M, n, D, Pl, hcs, _⟩
    · simp at hcs; exact ⟨_, _, _, hcs⟩
    · simp at hcs; exact ⟨_, _, _, hcs⟩
  obtain ⟨m4, _, _, ram, rfl, L4⟩ := bytes_open g4
  obtain ⟨m5, _, _, rom, rfl, L5⟩ := bytes_open g5
  clear g0 e0 g1 e1 g2 e2 g3 e3 g4 e4 g5 e5 g6 e6 hf
  obtain ⟨r0, r1, r2, r3, r4, r5, r6, r7, r8, r9, r10, r11, r12, r13, r14, r15, rfl⟩ := lst16 hr
  simp only [List.map_cons, List.map_nil, List.cons_append, List.nil_append, List.cons.injEq, and_true] at q0 q1 q2 q3 q6
  obtain ⟨rfl, rfl, rfl, rfl, rfl, rfl, rfl, rfl, rfl, rfl, rfl, rfl, rfl, rfl, rfl, rfl, rfl, rfl, rfl, rfl, rfl, rfl, rfl, rfl, rfl, rfl⟩ := q0
  obtain ⟨rfl, rfl, rfl, rfl⟩ := q1
  subst q2 q3 q6
  refine ⟨bCs ⟨[r0, r1, r2, r3, r4, r5, r6, r7, r8, r9, r10, r11, r12, r13, r14, r15], d, df, p, x', t', ie, q, op, b, ph, ln, cy, on, gt, pd, lt, ram, rom, cc.toNat⟩ (.slice s4 ram.length p4) (.slice s5 rom.length p5), ⟨[r0, r1, r2, r3, r4, r5, r6, r7, r8, r9, r10, r11, r12, r13, r14, r15], d, df, p, x', t', ie, q, op, b, ph, ln, cy, on, gt, pd, lt, ram, rom, cc.toNat⟩, ?_, ⟨⟨s4, p4, s5, p5, rfl, L4, L5⟩, ⟨hr, hrl, by show cc.toNat < _; omega⟩, hln, hcy, hgt⟩, m4, m5⟩
  have ecc : ((cc.toNat : Nat) : Int) = cc := by omega
  unfold bCs
  rw [ecc]
  rfl
end
end Go.Proofs.YtehnhjdjjalifaaGreatDoor
