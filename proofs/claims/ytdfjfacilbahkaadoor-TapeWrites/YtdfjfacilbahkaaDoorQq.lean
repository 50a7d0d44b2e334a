/- Bytes, waves, spans and what else came in as arguments, opened. -/
import Derived.Test.YtdfjfacilbahkaaDoorUh
import Derived.WalkKit
import Derived.ProofKit
import Derived.OpenShut
import Derived.ChangeArms
import Derived.ChangeShapes
import Derived.ChangeSlices
import Derived.SizedLaws
import Derived.Deep.Slices
namespace Go.Proofs.YtdfjfacilbahkaaDoor
open Go Go.RowKit Go.ChangeShapes Go.WideShapes
set_option linter.unusedVariables false
set_option maxHeartbeats 1000000
set_option maxRecDepth 20000

theorem wf_u8 {z : Int} (h : (Lit.int .u8 z).wf = true) : 0 ≤ z ∧ z < 256 := by
  have a : IntKind.min .u8 = 0 := by decide
  have b : IntKind.max .u8 = 255 := by decide
  simp only [Lit.wf, a, b, Bool.and_eq_true, decide_eq_true_eq] at h
  omega
theorem some_of {α : Type} {l : List α} {k i : Nat} (h : l.length = k) (hi : i < k) : ∃ y, l[i]? = some y := ⟨_, List.getElem?_eq_getElem (by omega)⟩
theorem addM (g off i : Nat) : (⟨g, off, none⟩ : Addr).add i = ⟨g, off + i, none⟩ := by unfold Addr.add; split <;> simp_all
theorem list2 {α : Type} {l : List α} (h : l.length = 2) : ∃ a b, l = [a, b] := by
  match l, h with
  | [a, b], _ => exact ⟨a, b, rfl⟩
theorem list4 {α : Type} {l : List α} (h : l.length = 4) : ∃ a b c d, l = [a, b, c, d] := by
  match l, h with
  | [a, b, c, d], _ => exact ⟨a, b, c, d, rfl⟩
theorem list10 {α : Type} {l : List α} (h : l.length = 10) : ∃ a0 a1 a2 a3 a4 a5 a6 a7 a8 a9, l = [a0, a1, a2, a3, a4, a5, a6, a7, a8, a9] := by
  match l, h with
  | [a0, a1, a2, a3, a4, a5, a6, a7, a8, a9], _ => exact ⟨a0, a1, a2, a3, a4, a5, a6, a7, a8, a9, rfl⟩
section
variable {H : Type} {enc : TypeId × Value → H} {w : World}
theorem openWv {m : Nat} {cs : List Value} {x : DataW H × List MemPlace} (h : DataW.trod enc Tryd.prog w 0 (fun _ => true) true m 49 cs = some x) : ∃ p : Int × Int, cs = c2 p := by
  obtain ⟨xs, n, _, rfl, hl, hxl, hf⟩ := DataW.trod_struct Tryd.underlying49 h
  obtain ⟨c0, c1, rfl⟩ := list2 (hl.trans (by kernel_rfl))
  have kI : Tryd.prog.cellsOf 3 = 1 := by kernel_rfl
  have g0 := hf 0 _ rfl
  have g1 := hf 1 _ rfl
  simp [kI] at g0 g1
  obtain ⟨y0, e0⟩ := some_of (show xs.length = 2 from hxl) (show 0 < 2 by decide)
  obtain ⟨z0, q0, _, w0⟩ := DataW.trod_int Tryd.underlying3 (g0.trans e0)
  simp at q0
  subst q0
  obtain ⟨y1, e1⟩ := some_of (show xs.length = 2 from hxl) (show 1 < 2 by decide)
  obtain ⟨z1, q1, _, w1⟩ := DataW.trod_int Tryd.underlying3 (g1.trans e1)
  simp at q1
  subst q1
  exact ⟨(z0, z1), rfl⟩
theorem openBy {m : Nat} {cs : List Value} {x : DataW H × List MemPlace} (h : DataW.trod enc Tryd.prog w 0 (fun _ => true) true m 5 cs = some x) : ∃ b : UInt8, cs = cB b := by
  obtain ⟨z, q, _, hw⟩ := DataW.trod_int Tryd.underlying5 h
  have := wf_u8 hw
  subst q
  refine ⟨UInt8.ofNat z.toNat, ?_⟩
  unfold cB
  rw [UInt8.toNat_ofNat', show ((z.toNat % 2 ^ 8 : Nat) : Int) = z by omega]
theorem openSp {m : Nat} {cs : List Value} {x : DataW H × List MemPlace} (h : DataW.trod enc Tryd.prog w 0 (fun _ => true) true m 37 cs = some x) : ∃ s : Sn, cs = cS s := by
  obtain ⟨xs, n, _, rfl, hl, hxl, hf⟩ := DataW.trod_struct Tryd.underlying37 h
  obtain ⟨c0, c1, c2, c3, c4, c5, c6, c7, c8, c9, rfl⟩ := list10 (hl.trans (by kernel_rfl))
  have kB : Tryd.prog.cellsOf 5 = 1 := by kernel_rfl
  have kT : Tryd.prog.cellsOf 4 = 1 := by kernel_rfl
  have kW : Tryd.prog.cellsOf 35 = 1 := by kernel_rfl
  have kI : Tryd.prog.cellsOf 3 = 1 := by kernel_rfl
  have g0 := hf 0 _ rfl
  have g1 := hf 1 _ rfl
  have g2 := hf 2 _ rfl
  have g3 := hf 3 _ rfl
  have g4 := hf 4 _ rfl
  have g5 := hf 5 _ rfl
  have g6 := hf 6 _ rfl
  have g7 := hf 7 _ rfl
  have g8 := hf 8 _ rfl
  have g9 := hf 9 _ rfl
  simp [kI] at g0
  simp [kW] at g1
  simp [kT] at g2
  simp [kT] at g3
  simp [kT] at g4
  simp [kT] at g5
  simp [kT] at g6
  simp [kT] at g7
  simp [kT] at g8
  simp [kB] at g9
  obtain ⟨y0, e0⟩ := some_of (show xs.length = 10 from hxl) (show 0 < 10 by decide)
  obtain ⟨z0, q0, _, w0⟩ := DataW.trod_int Tryd.underlying3 (g0.trans e0)
  simp at q0
  subst q0
  obtain ⟨y1, e1⟩ := some_of (show xs.length = 10 from hxl) (show 1 < 10 by decide)
  obtain ⟨z1, q1, _, w1⟩ := DataW.trod_int Tryd.underlying35 (g1.trans e1)
  simp at q1
  subst q1
  obtain ⟨y2, e2⟩ := some_of (show xs.length = 10 from hxl) (show 2 < 10 by decide)
  obtain ⟨z2, q2, _⟩ := DataW.trod_bool Tryd.underlying4 (g2.trans e2)
  simp at q2
  subst q2
  obtain ⟨y3, e3⟩ := some_of (show xs.length = 10 from hxl) (show 3 < 10 by decide)
  obtain ⟨z3, q3, _⟩ := DataW.trod_bool Tryd.underlying4 (g3.trans e3)
  simp at q3
  subst q3
  obtain ⟨y4, e4⟩ := some_of (show xs.length = 10 from hxl) (show 4 < 10 by decide)
  obtain ⟨z4, q4, _⟩ := DataW.trod_bool Tryd.underlying4 (g4.trans e4)
  simp at q4
  subst q4
  obtain ⟨y5, e5⟩ := some_of (show xs.length = 10 from hxl) (show 5 < 10 by decide)
  obtain ⟨z5, q5, _⟩ := DataW.trod_bool Tryd.underlying4 (g5.trans e5)
  simp at q5
  subst q5
  obtain ⟨y6, e6⟩ := some_of (show xs.length = 10 from hxl) (show 6 < 10 by decide)
  obtain ⟨z6, q6, _⟩ := DataW.trod_bool Tryd.underlying4 (g6.trans e6)
  simp at q6
  subst q6
  obtain ⟨y7, e7⟩ := some_of (show xs.length = 10 from hxl) (show 7 < 10 by decide)
  obtain ⟨z7, q7, _⟩ := DataW.trod_bool Tryd.underlying4 (g7.trans e7)
  simp at q7
  subst q7
  obtain ⟨y8, e8⟩ := some_of (show xs.length = 10 from hxl) (show 8 < 10 by decide)
  obtain ⟨z8, q8, _⟩ := DataW.trod_bool Tryd.underlying4 (g8.trans e8)
  simp at q8
  subst q8
  obtain ⟨y9, e9⟩ := some_of (show xs.length = 10 from hxl) (show 9 < 10 by decide)
  obtain ⟨z9, q9, _, w9⟩ := DataW.trod_int Tryd.underlying5 (g9.trans e9)
  simp at q9
  subst q9
  exact ⟨⟨z0, ⟨z1, z2, z3, z4, z5, z6, z7, z8, z9⟩⟩, rfl⟩
theorem rows_list {α : Type} {s : Nat} {c : α → List Value} {sp : Option Addr} : ∀ (len : Nat), (∀ k, k < len → ∃ (gb ob : Nat) (a : α), sp = some ⟨gb, ob, none⟩ ∧ w.rangeAt gb (ob + k * s) (c a)) → ∃ l : List α, l.length = len ∧ LiesL s c w sp l
  | 0, _ => ⟨[], rfl, fun j a hj => by simp at hj⟩
  | len + 1, h => by
    obtain ⟨l, h1, h2⟩ := rows_list len (fun k hk => h k (by omega))
    obtain ⟨gb, ob, a, e, hc⟩ := h len (by omega)
    refine ⟨l ++ [a], by simp [h1], fun j t hj => ?_⟩
    rcases Nat.lt_or_ge j l.length with hlt | hge
    · rw [List.getElem?_append_left hlt] at hj
      exact h2 j t hj
    · rw [List.getElem?_append_right hge] at hj
      have hj0 : j = len := by
        have := (List.getElem?_eq_some_iff.1 hj).1
        simp at this
        omega
      subst hj0
      rw [h1, Nat.sub_self] at hj
      simp at hj
      subst hj
      exact ⟨gb, ob, e, hc⟩
/-- A row that came in: what lies there, how long it is. -/
theorem rows_open {α : Type} {T t : TypeId} {s bts : Nat} {c : α → List Value} (K : KdL T t s bts c) (hC : Tryd.prog.cellsOf t = s) (ho : ∀ (m : Nat) (cs : List Value) (x : DataW H × List MemPlace), DataW.trod enc Tryd.prog w 0 (fun _ => true) true m t cs = some x → ∃ a, cs = c a)
    {m : Nat} {a : Option Addr} {len cap : Nat} {x : DataW H × List MemPlace} (h : DataW.trod enc Tryd.prog w 0 (fun _ => true) true m T [.slice a len cap] = some x) : len ≤ maxLen ∧ len ≤ cap ∧ (a = none → cap = 0) ∧ ∃ l : List α, l.length = len ∧ LiesL s c w a l := by
  rcases Go.Deep.open_slice K.u h with ⟨hcs, _⟩ | ⟨ad, len', cap', M, n, D, Pl, hcs, _, hl, hm, hM, rfl, hx⟩
  · simp at hcs
    obtain ⟨rfl, rfl, rfl⟩ := hcs
    exact ⟨Nat.zero_le _, Nat.zero_le _, fun _ => rfl, [], rfl, fun j a hj => by simp at hj⟩
  · simp at hcs
    obtain ⟨rfl, rfl, rfl⟩ := hcs
    simp at hM
    subst hM
    rw [hC] at hx
    have hs0 := K.s0
    refine ⟨by omega, by omega, (fun h => by cases h), rows_list len fun k hk => ?_⟩
    obtain ⟨g, off, spot⟩ := ad
    have each : ∀ j, j < len → ∃ a : α, ∀ i v, (c a)[i]? = some v → w.cell? ((⟨g, off, spot⟩ : Addr).add (j * s + i)) = some v := fun j hj => by
      obtain ⟨cs, h1, h2⟩ := hx j (by omega)
      obtain ⟨a, rfl⟩ := ho _ _ _ h2
      obtain ⟨_, _, hc⟩ := World.cells?_some h1
      refine ⟨a, fun i v hv => ?_⟩
      have hi : i < s := by
        have := (List.getElem?_eq_some_iff.1 hv).1
        rw [K.len] at this
        exact this
      rw [← Go.Deep.add_add, hc i hi, hv]
    have hs : spot = none := by
      obtain ⟨a, ho⟩ := each 0 (by omega)
      obtain ⟨v, hv⟩ := some_of (K.len a) hs0
      have c0 := ho 0 v hv
      rw [show (⟨g, off, spot⟩ : Addr).add (0 * s + 0) = ⟨g, off, spot⟩ from by rw [Nat.zero_mul]; rfl] at c0
      cases spot with
      | none => rfl
      | some s =>
        exfalso
        unfold World.cell? at c0
        split at c0 <;> simp at c0
    subst hs
    obtain ⟨a, ho⟩ := each k hk
    exact ⟨g, off, a, rfl, fun i v hv => by have := ho i v hv; rw [addM, ← Nat.add_assoc] at this; exact this⟩
theorem waves_open {m : Nat} {a : Option Addr} {len cap : Nat} {x : DataW H × List MemPlace} (h : DataW.trod enc Tryd.prog w 0 (fun _ => true) true m 24 [.slice a len cap] = some x) : len ≤ maxLen ∧ len ≤ cap ∧ (a = none → cap = 0) ∧ ∃ l : List (Int × Int), l.length = len ∧ L2 w a l := rows_open kWave (by kernel_rfl) (fun _ _ _ h => openWv h) h
theorem bytes_open {m : Nat} {a : Option Addr} {len cap : Nat} {x : DataW H × List MemPlace} (h : DataW.trod enc Tryd.prog w 0 (fun _ => true) true m 23 [.slice a len cap] = some x) : len ≤ maxLen ∧ len ≤ cap ∧ (a = none → cap = 0) ∧ ∃ l : List UInt8, l.length = len ∧ LB w a l := rows_open kByte (by kernel_rfl) (fun _ _ _ h => openBy h) h
theorem spans_open {m : Nat} {a : Option Addr} {len cap : Nat} {x : DataW H × List MemPlace} (h : DataW.trod enc Tryd.prog w 0 (fun _ => true) true m 38 [.slice a len cap] = some x) : len ≤ maxLen ∧ len ≤ cap ∧ (a = none → cap = 0) ∧ ∃ l : List Sn, l.length = len ∧ LiesS w a l := rows_open kSpan (by kernel_rfl) (fun _ _ _ h => openSp h) h
theorem tape_open {m : Nat} {cs : List Value} {x : DataW H × List MemPlace} (h : DataW.trod enc Tryd.prog w 0 (fun _ => true) true m 46 cs = some x) :
    ∃ sb cb sw cw, ∃ (bs : List UInt8) (bh : List (Int × Int)) (L few : Int), cs = [.slice sb bs.length cb, .int .i64 L, .slice sw bh.length cw, .int .i64 few] ∧ LB w sb bs ∧ L2 w sw bh ∧ bs.length ≤ maxLen ∧ bs.length ≤ cb ∧ (sb = none → cb = 0) ∧ bh.length ≤ maxLen ∧ (sw = none → cw = 0) := by
  obtain ⟨xs, n, _, rfl, hl, hxl, hf⟩ := DataW.trod_struct Tryd.underlying46 h
  obtain ⟨c0, c1, c2', c3, rfl⟩ := list4 (hl.trans (by kernel_rfl))
  have kI : Tryd.prog.cellsOf 3 = 1 := by kernel_rfl
  have kB : Tryd.prog.cellsOf 23 = 1 := by kernel_rfl
  have kW : Tryd.prog.cellsOf 24 = 1 := by kernel_rfl
  have g0 := hf 0 _ rfl
  have g1 := hf 1 _ rfl
  have g2 := hf 2 _ rfl
  have g3 := hf 3 _ rfl
  simp [kB] at g0
  simp [kI] at g1 g3
  simp [kW] at g2
  obtain ⟨y0, e0⟩ := some_of (show xs.length = 4 from hxl) (show 0 < 4 by decide)
  obtain ⟨y1, e1⟩ := some_of (show xs.length = 4 from hxl) (show 1 < 4 by decide)
  obtain ⟨y2, e2⟩ := some_of (show xs.length = 4 from hxl) (show 2 < 4 by decide)
  obtain ⟨y3, e3⟩ := some_of (show xs.length = 4 from hxl) (show 3 < 4 by decide)
  obtain ⟨z1, q1, _, w1⟩ := DataW.trod_int Tryd.underlying3 (g1.trans e1)
  simp at q1
  subst q1
  obtain ⟨z3, q3, _, w3⟩ := DataW.trod_int Tryd.underlying3 (g3.trans e3)
  simp at q3
  subst q3
  have k0 := g0.trans e0
  have k2 := g2.trans e2
  obtain ⟨sb, lb, cb, rfl⟩ : ∃ a len cap, c0 = .slice a len cap := by
    rcases Go.Deep.open_slice Tryd.underlying23 k0 with ⟨hcs, _⟩ | ⟨ad, len', cap', M, n, D, Pl, hcs, _⟩
    · simp at hcs; exact ⟨_, _, _, hcs⟩
    · simp at hcs; exact ⟨_, _, _, hcs⟩
  obtain ⟨sw, lw, cw, rfl⟩ : ∃ a len cap, c2' = .slice a len cap := by
    rcases Go.Deep.open_slice Tryd.underlying24 k2 with ⟨hcs, _⟩ | ⟨ad, len', cap', M, n, D, Pl, hcs, _⟩
    · simp at hcs; exact ⟨_, _, _, hcs⟩
    · simp at hcs; exact ⟨_, _, _, hcs⟩
  obtain ⟨b1, b2, b3, bs, rfl, hb⟩ := bytes_open k0
  obtain ⟨d1, d2, d3, bh, rfl, hd⟩ := waves_open k2
  exact ⟨sb, cb, sw, cw, bs, bh, z1, z3, rfl, hb, hd, b1, b2, b3, d1, d3⟩
end
end Go.Proofs.YtdfjfacilbahkaaDoor
