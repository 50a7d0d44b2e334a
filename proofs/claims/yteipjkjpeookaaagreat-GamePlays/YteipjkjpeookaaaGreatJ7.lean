/- Bytes and strokes that came in as arguments, opened. A machine, a font, a feed that came in as arguments, opened. -/
import Derived.Test.YteipjkjpeookaaaGreatJ2
import Derived.WalkKit
import Derived.ProofKit
import Derived.OpenShut
import Derived.ChangeArms
import Derived.ChangeShapes
import Derived.ChangeSlices
import Derived.SizedLaws
import Derived.Deep.Slices
import Derived.Test.YteipjkjpeookaaaGreatJ6
namespace Go.Proofs.YteipjkjpeookaaaGreat
open Go Go.RowKit Go.ChangeShapes Go.WideShapes
set_option linter.unusedVariables false
set_option maxHeartbeats 1000000
set_option maxRecDepth 20000

theorem wf_u8 {z : Int} (h : (Lit.int .u8 z).wf = true) : 0 ≤ z ∧ z < 256 := by
  have a : IntKind.min .u8 = 0 := by decide
  have b : IntKind.max .u8 = 255 := by decide
  simp only [Lit.wf, a, b, Bool.and_eq_true, decide_eq_true_eq] at h
  omega
theorem some_of {α : Type} {l : List α} {k i : Nat} (h : l.length = k) (hi : i < k) : ∃ y, l[i]? = some y := ⟨_, List.getElem?_eq_getElem (by omega)⟩
theorem addM (g off i : Nat) : (⟨g, off, none⟩ : Addr).add i = ⟨g, off + i, none⟩ := by unfold Addr.add; split <;> simp_all
section
variable {H : Type} {enc : TypeId × Value → H} {w : World}
theorem rows_list {α : Type} {s : Nat} {c : α → List Value} {Q : α → Prop} {sp : Option Addr} : ∀ (len : Nat), (∀ k, k < len → ∃ (gb ob : Nat) (a : α), sp = some ⟨gb, ob, none⟩ ∧ w.rangeAt gb (ob + k * s) (c a) ∧ Q a) → ∃ l : List α, l.length = len ∧ LiesL s c w sp l ∧ ∀ a ∈ l, Q a
  | 0, _ => ⟨[], rfl, fun j a hj => by simp at hj, fun a ha => by cases ha⟩
  | len + 1, h => by
    obtain ⟨l, h1, h2, h3⟩ := rows_list len (fun k hk => h k (by omega))
    obtain ⟨gb, ob, a, e, hc, hq⟩ := h len (by omega)
    refine ⟨l ++ [a], by simp [h1], fun j t hj => ?_, fun x hx => ?_⟩
    · rcases Nat.lt_or_ge j l.length with hlt | hge
      · rw [List.getElem?_append_left hlt] at hj
        exact h2 j t hj
      · rw [List.getElem?_append_right hge] at hj
        have hj0 : j = len := by
          have := (List.getElem?_eq_some_iff.1 hj).1
          simp at this
          omega
        subst hj0
        rw [h1, Nat.sub_self] at hj
        simp at hj
        subst hj
        exact ⟨gb, ob, e, hc⟩
    · rcases List.mem_append.1 hx with hx | hx
      · exact h3 x hx
      · rw [List.mem_singleton.1 hx]
        exact hq
/-- A row that came in: what lies there, how long it is. -/
theorem rows_open {α : Type} {T t : TypeId} {s : Nat} {c : α → List Value} {Q : α → Prop} (u : Tryz.prog.underlying T = some (.slice t)) (len6 : ∀ x, (c x).length = s) (hs0 : 0 < s) (hC : Tryz.prog.cellsOf t = s) (ho : ∀ (m : Nat) (cs : List Value) (x : DataW H × List MemPlace), DataW.trod enc Tryz.prog w 0 (fun _ => true) true m t cs = some x → ∃ a, cs = c a ∧ Q a)
    {m : Nat} {a : Option Addr} {len cap : Nat} {x : DataW H × List MemPlace} (h : DataW.trod enc Tryz.prog w 0 (fun _ => true) true m T [.slice a len cap] = some x) : len ≤ maxLen ∧ len ≤ cap ∧ (a = none → cap = 0) ∧ ∃ l : List α, l.length = len ∧ LiesL s c w a l ∧ ∀ x ∈ l, Q x := by
  rcases Go.Deep.open_slice u h with ⟨hcs, _⟩ | ⟨ad, len', cap', M, n, D, Pl, hcs, _, hl, hm, hM, rfl, hx⟩
  · simp at hcs
    obtain ⟨rfl, rfl, rfl⟩ := hcs
    exact ⟨Nat.zero_le _, Nat.zero_le _, fun _ => rfl, [], rfl, fun j a hj => by simp at hj, fun a ha => by cases ha⟩
  · simp at hcs
    obtain ⟨rfl, rfl, rfl⟩ := hcs
    simp at hM
    subst hM
    rw [hC] at hx
    refine ⟨by omega, by omega, (fun h => by cases h), rows_list len fun k hk => ?_⟩
    obtain ⟨g, off, spot⟩ := ad
    have each : ∀ j, j < len → ∃ a : α, (∀ i v, (c a)[i]? = some v → w.cell? ((⟨g, off, spot⟩ : Addr).add (j * s + i)) = some v) ∧ Q a := fun j hj => by
      obtain ⟨cs, h1, h2⟩ := hx j (by omega)
      obtain ⟨a, rfl, hq⟩ := ho _ _ _ h2
      obtain ⟨_, _, hc⟩ := World.cells?_some h1
      refine ⟨a, fun i v hv => ?_, hq⟩
      have hi : i < s := by
        have := (List.getElem?_eq_some_iff.1 hv).1
        rw [len6] at this
        exact this
      rw [← Go.Deep.add_add, hc i hi, hv]
    have hs : spot = none := by
      obtain ⟨a, ho, _⟩ := each 0 (by omega)
      obtain ⟨v, hv⟩ := some_of (len6 a) hs0
      have c0 := ho 0 v hv
      rw [show (⟨g, off, spot⟩ : Addr).add (0 * s + 0) = ⟨g, off, spot⟩ from by rw [Nat.zero_mul]; rfl] at c0
      cases spot with
      | none => rfl
      | some s =>
        exfalso
        unfold World.cell? at c0
        split at c0 <;> simp at c0
    subst hs
    obtain ⟨a, ho, hq⟩ := each k hk
    exact ⟨g, off, a, rfl, fun i v hv => by have := ho i v hv; rw [addM, ← Nat.add_assoc] at this; exact this, hq⟩
theorem openBy {m : Nat} {cs : List Value} {x : DataW H × List MemPlace} (h : DataW.trod enc Tryz.prog w 0 (fun _ => true) true m 5 cs = some x) : ∃ b : UInt8, cs = [byV b] ∧ True := by
  obtain ⟨z, q, _, hw⟩ := DataW.trod_int Tryz.underlying5 h
  have := wf_u8 hw
  subst q
  refine ⟨UInt8.ofNat z.toNat, ?_, trivial⟩
  unfold byV
  rw [UInt8.toNat_ofNat', show ((z.toNat % 2 ^ 8 : Nat) : Int) = z by omega]
theorem bytes_open {m : Nat} {a : Option Addr} {len cap : Nat} {x : DataW H × List MemPlace} (h : DataW.trod enc Tryz.prog w 0 (fun _ => true) true m 25 [.slice a len cap] = some x) : len ≤ maxLen ∧ len ≤ cap ∧ (a = none → cap = 0) ∧ ∃ l : List UInt8, l.length = len ∧ LB w a l := by
  obtain ⟨h1, h2, h3, l, h4, h5, _⟩ := rows_open (s := 1) (c := cB) (Q := fun _ => True) Tryz.underlying25 (fun _ => rfl) (by decide) (by kernel_rfl) (fun _ _ _ h => openBy h) h
  exact ⟨h1, h2, h3, l, h4, h5⟩
theorem list3 {α : Type} {l : List α} (h : l.length = 3) : ∃ a b c, l = [a, b, c] := by
  match l, h with
  | [a, b, c], _ => exact ⟨a, b, c, rfl⟩
end
end Go.Proofs.YteipjkjpeookaaaGreat

namespace Go.Proofs.YteipjkjpeookaaaGreat
open Go Go.RowKit Go.ChangeShapes Go.WideShapes
set_option linter.unusedVariables false
set_option maxHeartbeats 1000000
set_option maxRecDepth 20000

theorem wf_u16 {z : Int} (h : (Lit.int .u16 z).wf = true) : 0 ≤ z ∧ z < 65536 := by
  have a : IntKind.min .u16 = 0 := by decide
  have b : IntKind.max .u16 = 65535 := by decide
  simp only [Lit.wf, a, b, Bool.and_eq_true, decide_eq_true_eq] at h
  omega
theorem wf_i64 {z : Int} (h : (Lit.int .i64 z).wf = true) : -9223372036854775808 ≤ z ∧ z ≤ 9223372036854775807 := by
  have a : IntKind.min .i64 = -9223372036854775808 := by decide
  have b : IntKind.max .i64 = 9223372036854775807 := by decide
  simp only [Lit.wf, a, b, Bool.and_eq_true, decide_eq_true_eq] at h
  omega
theorem list_of {α : Type} {v : α → Value} {Q : α → Prop} : ∀ (cs : List Value), (∀ i, i < cs.length → ∃ a, cs[i]? = some (v a) ∧ Q a) → ∃ l : List α, cs = l.map v ∧ ∀ a ∈ l, Q a
  | [], _ => ⟨[], rfl, fun a h => by cases h⟩
  | c :: cs, h => by
    obtain ⟨a, e, q⟩ := h 0 (by simp)
    obtain ⟨l, e2, q2⟩ := list_of cs (fun i hi => h (i + 1) (by simpa using hi))
    simp at e
    exact ⟨a :: l, by rw [e, e2]; rfl, fun x hx => by rcases List.mem_cons.1 hx with rfl | hx; exact q; exact q2 x hx⟩
theorem list23' {α : Type} {l : List α} (h : l.length = 23) : ∃ a0 a1 a2 a3 a4 a5 a6 a7 a8 a9 a10 a11 a12 a13 a14 a15 a16 a17 a18 a19 a20 a21 a22, l = [a0, a1, a2, a3, a4, a5, a6, a7, a8, a9, a10, a11, a12, a13, a14, a15, a16, a17, a18, a19, a20, a21, a22] := by
  match l, h with
  | [a0, a1, a2, a3, a4, a5, a6, a7, a8, a9, a10, a11, a12, a13, a14, a15, a16, a17, a18, a19, a20, a21, a22], _ => exact ⟨a0, a1, a2, a3, a4, a5, a6, a7, a8, a9, a10, a11, a12, a13, a14, a15, a16, a17, a18, a19, a20, a21, a22, rfl⟩
theorem list18' {α : Type} {l : List α} (h : l.length = 18) : ∃ a0 a1 a2 a3 a4 a5 a6 a7 a8 a9 a10 a11 a12 a13 a14 a15 a16 a17, l = [a0, a1, a2, a3, a4, a5, a6, a7, a8, a9, a10, a11, a12, a13, a14, a15, a16, a17] := by
  match l, h with
  | [a0, a1, a2, a3, a4, a5, a6, a7, a8, a9, a10, a11, a12, a13, a14, a15, a16, a17], _ => exact ⟨a0, a1, a2, a3, a4, a5, a6, a7, a8, a9, a10, a11, a12, a13, a14, a15, a16, a17, rfl⟩
theorem list16' {α : Type} {l : List α} (h : l.length = 16) : ∃ a0 a1 a2 a3 a4 a5 a6 a7 a8 a9 a10 a11 a12 a13 a14 a15, l = [a0, a1, a2, a3, a4, a5, a6, a7, a8, a9, a10, a11, a12, a13, a14, a15] := by
  match l, h with
  | [a0, a1, a2, a3, a4, a5, a6, a7, a8, a9, a10, a11, a12, a13, a14, a15], _ => exact ⟨a0, a1, a2, a3, a4, a5, a6, a7, a8, a9, a10, a11, a12, a13, a14, a15, rfl⟩

section
variable {H : Type} {enc : TypeId × Value → H} {w : World}
theorem openWd {m : Nat} {cs : List Value} {x : DataW H × List MemPlace} (h : DataW.trod enc Tryz.prog w 0 (fun _ => true) true m 23 cs = some x) : ∃ n : Nat, cs = cW n ∧ n < 65536 := by
  obtain ⟨z, q, _, hw⟩ := DataW.trod_int Tryz.underlying23 h
  have := wf_u16 hw
  subst q
  refine ⟨z.toNat, ?_, by omega⟩
  unfold cW
  rw [show ((z.toNat : Nat) : Int) = z by omega]
theorem words_open {m : Nat} {a : Option Addr} {len cap : Nat} {x : DataW H × List MemPlace} (h : DataW.trod enc Tryz.prog w 0 (fun _ => true) true m 24 [.slice a len cap] = some x) : len ≤ maxLen ∧ len ≤ cap ∧ (a = none → cap = 0) ∧ ∃ l : List Nat, l.length = len ∧ LW w a l ∧ ∀ s ∈ l, s < 65536 :=
  rows_open (s := 1) (c := cW) (Q := fun s => s < 65536) Tryz.underlying24 (fun _ => rfl) (by decide) (by kernel_rfl) (fun _ _ _ h => openWd h) h
theorem arr_open {α : Type} {T t : TypeId} {N : Nat} {v : α → Value} {Q : α → Prop} (u : Tryz.prog.underlying T = some (.array N t)) (k1 : Tryz.prog.cellsOf t = 1) (kN : Tryz.prog.cellsOf T = N) (ho : ∀ (m : Nat) (cs : List Value) (x : DataW H × List MemPlace), DataW.trod enc Tryz.prog w 0 (fun _ => true) true m t cs = some x → ∃ a, cs = [v a] ∧ Q a)
    {m : Nat} {cs : List Value} {x : DataW H × List MemPlace} (h : DataW.trod enc Tryz.prog w 0 (fun _ => true) true m T cs = some x) : ∃ l : List α, l.length = N ∧ cs = l.map v ∧ ∀ a ∈ l, Q a := by
  obtain ⟨xs, n, _, rfl, hl, hxl, hf⟩ := DataW.trod_array u h
  rw [kN] at hl
  obtain ⟨l, e, q⟩ := list_of (v := v) (Q := Q) cs (fun i hi => by
    obtain ⟨y, ey⟩ := some_of hxl (show i < N by omega)
    have g := (hf i (by omega)).trans ey
    rw [k1, Nat.mul_one] at g
    obtain ⟨a, ea, qa⟩ := ho _ _ _ g
    refine ⟨a, ?_, qa⟩
    have : ((cs.drop i).take 1)[0]? = some (v a) := by rw [ea]; rfl
    simpa using this)
  exact ⟨l, by rw [← hl, e, List.length_map], e, q⟩
theorem openV {m : Nat} {cs : List Value} {x : DataW H × List MemPlace} (h : DataW.trod enc Tryz.prog w 0 (fun _ => true) true m 22 cs = some x) : ∃ l : List UInt8, l.length = 16 ∧ cs = l.map byV := by
  obtain ⟨l, e1, e2, _⟩ := arr_open (v := byV) (Q := fun _ => True) Tryz.underlying22 (by kernel_rfl) (by kernel_rfl) (fun _ _ _ h => openBy h) h
  exact ⟨l, e1, e2⟩
theorem openPl {m : Nat} {cs : List Value} {x : DataW H × List MemPlace} (h : DataW.trod enc Tryz.prog w 0 (fun _ => true) true m 28 cs = some x) : ∃ l : List Nat, l.length = 16 ∧ cs = l.map (fun n : Nat => Value.int .u16 (n : Int)) ∧ ∀ s ∈ l, s < 65536 :=
  arr_open (v := fun n : Nat => Value.int .u16 (n : Int)) (Q := fun s => s < 65536) Tryz.underlying28 (by kernel_rfl) (by kernel_rfl) (fun _ _ _ h => openWd h) h
theorem openGm {m : Nat} {cs : List Value} {x : DataW H × List MemPlace} (h : DataW.trod enc Tryz.prog w 0 (fun _ => true) true m 27 cs = some x) : ∃ (C : Array Value) (g : Gm), cs = C.toList ∧ GL w C g ∧ g.st.length ≤ maxLen ∧ g.pg.length ≤ maxLen ∧ g.me.length ≤ maxLen := by
  obtain ⟨xs, n, _, rfl, hl, hxl, hf⟩ := DataW.trod_struct Tryz.underlying27 h
  obtain ⟨c0, c1, c2, c3, c4, c5, c6, c7, c8, c9, c10, c11, c12, c13, c14, c15, c16, c17, c18, c19, c20, c21, c22, rfl⟩ := list23' (hl.trans (by kernel_rfl))
  have kV : Tryz.prog.cellsOf 22 = 16 := by kernel_rfl
  have kU : Tryz.prog.cellsOf 5 = 1 := by kernel_rfl
  have kW : Tryz.prog.cellsOf 23 = 1 := by kernel_rfl
  have kS : Tryz.prog.cellsOf 24 = 1 := by kernel_rfl
  have kB : Tryz.prog.cellsOf 25 = 1 := by kernel_rfl
  have g0 := hf 0 _ rfl
  have g1 := hf 1 _ rfl
  have g2 := hf 2 _ rfl
  have g3 := hf 3 _ rfl
  have g4 := hf 4 _ rfl
  have g5 := hf 5 _ rfl
  have g6 := hf 6 _ rfl
  have g7 := hf 7 _ rfl
  simp [kV] at g0
  simp [kW] at g1 g2
  simp [kS] at g3
  simp [kU] at g4 g5
  simp [kB] at g6 g7
  obtain ⟨y0, e0⟩ := some_of (show xs.length = 8 from hxl) (show 0 < 8 by decide)
  obtain ⟨y1, e1⟩ := some_of (show xs.length = 8 from hxl) (show 1 < 8 by decide)
  obtain ⟨y2, e2⟩ := some_of (show xs.length = 8 from hxl) (show 2 < 8 by decide)
  obtain ⟨y3, e3⟩ := some_of (show xs.length = 8 from hxl) (show 3 < 8 by decide)
  obtain ⟨y4, e4⟩ := some_of (show xs.length = 8 from hxl) (show 4 < 8 by decide)
  obtain ⟨y5, e5⟩ := some_of (show xs.length = 8 from hxl) (show 5 < 8 by decide)
  obtain ⟨y6, e6⟩ := some_of (show xs.length = 8 from hxl) (show 6 < 8 by decide)
  obtain ⟨y7, e7⟩ := some_of (show xs.length = 8 from hxl) (show 7 < 8 by decide)
  obtain ⟨v, hv, qv⟩ := openV (g0.trans e0)
  obtain ⟨i, qi, hi⟩ := openWd (g1.trans e1)
  obtain ⟨pc, qp, hp⟩ := openWd (g2.trans e2)
  obtain ⟨de, qd, _⟩ := openBy (g4.trans e4)
  obtain ⟨so, qs, _⟩ := openBy (g5.trans e5)
  have k3 := g3.trans e3
  have k6 := g6.trans e6
  have k7 := g7.trans e7
  clear g0 g1 g2 g3 g4 g5 g6 g7 e0 e1 e2 e3 e4 e5 e6 e7 hf
  obtain ⟨s3, l3, p3, rfl⟩ : ∃ a len cap, c18 = .slice a len cap := by
    rcases Go.Deep.open_slice Tryz.underlying24 k3 with ⟨hcs, _⟩ | ⟨ad, len', cap', M, n, D, Pl, hcs, _⟩
    · simp at hcs; exact ⟨_, _, _, hcs⟩
    · simp at hcs; exact ⟨_, _, _, hcs⟩
  obtain ⟨s6, l6, p6, rfl⟩ : ∃ a len cap, c21 = .slice a len cap := by
    rcases Go.Deep.open_slice Tryz.underlying25 k6 with ⟨hcs, _⟩ | ⟨ad, len', cap', M, n, D, Pl, hcs, _⟩
    · simp at hcs; exact ⟨_, _, _, hcs⟩
    · simp at hcs; exact ⟨_, _, _, hcs⟩
  obtain ⟨s7, l7, p7, rfl⟩ : ∃ a len cap, c22 = .slice a len cap := by
    rcases Go.Deep.open_slice Tryz.underlying25 k7 with ⟨hcs, _⟩ | ⟨ad, len', cap', M, n, D, Pl, hcs, _⟩
    · simp at hcs; exact ⟨_, _, _, hcs⟩
    · simp at hcs; exact ⟨_, _, _, hcs⟩
  obtain ⟨m3, _, _, st, rfl, L3, hst⟩ := words_open k3
  obtain ⟨m6, _, _, pg, rfl, L6⟩ := bytes_open k6
  obtain ⟨m7, _, _, me, rfl, L7⟩ := bytes_open k7
  obtain ⟨b0, b1, b2, b3, b4, b5, b6, b7, b8, b9, b10, b11, b12, b13, b14, b15, rfl⟩ := list16' hv
  simp at qv
  unfold cW at qi qp
  simp at qi qp qd qs
  obtain ⟨rfl, rfl, rfl, rfl, rfl, rfl, rfl, rfl, rfl, rfl, rfl, rfl, rfl, rfl, rfl, rfl⟩ := qv
  subst qi qp qd qs
  exact ⟨_, ⟨[b0, b1, b2, b3, b4, b5, b6, b7, b8, b9, b10, b11, b12, b13, b14, b15], i, pc, st, de, so, pg, me⟩, rfl, ⟨⟨s3, s6, s7, p3, p6, p7, rfl, L3, L6, L7⟩, ⟨rfl, hi, hp, hst⟩⟩, m3, m6, m7⟩
theorem openFo {m : Nat} {cs : List Value} {x : DataW H × List MemPlace} (h : DataW.trod enc Tryz.prog w 0 (fun _ => true) true m 30 cs = some x) : ∃ (D : Array Value) (f : Fo), cs = D.toList ∧ FL w D f ∧ f.by_.length ≤ maxLen := by
  obtain ⟨xs, n, _, rfl, hl, hxl, hf⟩ := DataW.trod_struct Tryz.underlying30 h
  obtain ⟨c0, c1, c2, c3, c4, c5, c6, c7, c8, c9, c10, c11, c12, c13, c14, c15, c16, c17, rfl⟩ := list18' (hl.trans (by kernel_rfl))
  have kV : Tryz.prog.cellsOf 28 = 16 := by kernel_rfl
  have kW : Tryz.prog.cellsOf 23 = 1 := by kernel_rfl
  have kB : Tryz.prog.cellsOf 25 = 1 := by kernel_rfl
  have g0 := hf 0 _ rfl
  have g1 := hf 1 _ rfl
  have g2 := hf 2 _ rfl
  simp [kV] at g0
  simp [kW] at g1
  simp [kB] at g2
  obtain ⟨y0, e0⟩ := some_of (show xs.length = 3 from hxl) (show 0 < 3 by decide)
  obtain ⟨y1, e1⟩ := some_of (show xs.length = 3 from hxl) (show 1 < 3 by decide)
  obtain ⟨y2, e2⟩ := some_of (show xs.length = 3 from hxl) (show 2 < 3 by decide)
  obtain ⟨pl, hpl, qpl, hlt⟩ := openPl (g0.trans e0)
  obtain ⟨fr, qf, hfr⟩ := openWd (g1.trans e1)
  have k2 := g2.trans e2
  clear g0 g1 g2 e0 e1 e2 hf
  obtain ⟨s2, l2, p2, rfl⟩ : ∃ a len cap, c17 = .slice a len cap := by
    rcases Go.Deep.open_slice Tryz.underlying25 k2 with ⟨hcs, _⟩ | ⟨ad, len', cap', M, n, D, Pl, hcs, _⟩
    · simp at hcs; exact ⟨_, _, _, hcs⟩
    · simp at hcs; exact ⟨_, _, _, hcs⟩
  obtain ⟨m2, _, _, by_, rfl, L2⟩ := bytes_open k2
  obtain ⟨b0, b1, b2, b3, b4, b5, b6, b7, b8, b9, b10, b11, b12, b13, b14, b15, rfl⟩ := list16' hpl
  simp at qpl
  unfold cW at qf
  simp at qf
  obtain ⟨rfl, rfl, rfl, rfl, rfl, rfl, rfl, rfl, rfl, rfl, rfl, rfl, rfl, rfl, rfl, rfl⟩ := qpl
  subst qf
  exact ⟨_, ⟨[b0, b1, b2, b3, b4, b5, b6, b7, b8, b9, b10, b11, b12, b13, b14, b15], fr, by_⟩, rfl, ⟨⟨s2, p2, rfl, L2⟩, rfl, hlt, hfr⟩, m2⟩
theorem openFd {m : Nat} {cs : List Value} {x : DataW H × List MemPlace} (h : DataW.trod enc Tryz.prog w 0 (fun _ => true) true m 38 cs = some x) : ∃ d : Fd, cs = (dCs d).toList ∧ d.Ok := by
  obtain ⟨xs, n, _, rfl, hl, hxl, hf⟩ := DataW.trod_struct Tryz.underlying38 h
  obtain ⟨c0, c1, c2, rfl⟩ := list3 (hl.trans (by kernel_rfl))
  have kU : Tryz.prog.cellsOf 5 = 1 := by kernel_rfl
  have kW : Tryz.prog.cellsOf 23 = 1 := by kernel_rfl
  have kI : Tryz.prog.cellsOf 3 = 1 := by kernel_rfl
  have g0 := hf 0 _ rfl
  have g1 := hf 1 _ rfl
  have g2 := hf 2 _ rfl
  simp [kU] at g0
  simp [kW] at g1
  simp [kI] at g2
  obtain ⟨y0, e0⟩ := some_of (show xs.length = 3 from hxl) (show 0 < 3 by decide)
  obtain ⟨y1, e1⟩ := some_of (show xs.length = 3 from hxl) (show 1 < 3 by decide)
  obtain ⟨y2, e2⟩ := some_of (show xs.length = 3 from hxl) (show 2 < 3 by decide)
  obtain ⟨rn, q0, _⟩ := openBy (g0.trans e0)
  obtain ⟨ks, q1, hks⟩ := openWd (g1.trans e1)
  obtain ⟨ky, q2, _, hw⟩ := DataW.trod_int Tryz.underlying3 (g2.trans e2)
  unfold cW at q1
  simp at q0 q1 q2
  subst q0 q1 q2
  exact ⟨⟨rn, ks, ky⟩, rfl, ⟨hks, wf_i64 hw⟩⟩
end
end Go.Proofs.YteipjkjpeookaaaGreat
