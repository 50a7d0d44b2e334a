/- Sources that came in as arguments, opened. -/
import Derived.Test.YthbdpceobnkflaaDoorJ7
import Derived.Test.YthbdpceobnkflaaDoorJ6
import Derived.WalkKit
import Derived.ProofKit
import Derived.OpenShut
import Derived.ChangeArms
import Derived.ChangeShapes
import Derived.ChangeSlices
import Derived.SizedLaws
import Derived.Deep.Slices
import GoSem.ClaimJoined
namespace Go.Proofs.YthbdpceobnkflaaDoor
open Go Go.RowKit Go.ChangeShapes Go.WideShapes
set_option linter.unusedVariables false
set_option maxHeartbeats 1000000
set_option maxRecDepth 20000

def Near (l : List Ri) : Prop := ∀ r ∈ l, r.m ≤ 140737488351232 ∧ r.n.size ≤ 140737488351232 ∧ r.l.size ≤ 140737488351232
theorem list6 {α : Type} {l : List α} (h : l.length = 6) : ∃ a b c d e f, l = [a, b, c, d, e, f] := by
  match l, h with
  | [a, b, c, d, e, f], _ => exact ⟨a, b, c, d, e, f, rfl⟩
theorem wf_u8 {z : Int} (h : (Lit.int .u8 z).wf = true) : 0 ≤ z ∧ z < 256 := by
  have a : IntKind.min .u8 = 0 := by decide
  have b : IntKind.max .u8 = 255 := by decide
  simp only [Lit.wf, a, b, Bool.and_eq_true, decide_eq_true_eq] at h
  omega
theorem wf_i64 {z : Int} (h : (Lit.int .i64 z).wf = true) : -9223372036854775808 ≤ z ∧ z ≤ 9223372036854775807 := by
  have a : IntKind.min .i64 = -9223372036854775808 := by decide
  have b : IntKind.max .i64 = 9223372036854775807 := by decide
  simp only [Lit.wf, a, b, Bool.and_eq_true, decide_eq_true_eq] at h
  omega
theorem some_of {α : Type} {l : List α} {k i : Nat} (h : l.length = k) (hi : i < k) : ∃ y, l[i]? = some y := ⟨_, List.getElem?_eq_getElem (by omega)⟩
theorem addM (g off i : Nat) : (⟨g, off, none⟩ : Addr).add i = ⟨g, off + i, none⟩ := by unfold Addr.add; split <;> simp_all
section
variable {H : Type} {enc : TypeId × Value → H} {w : World}
theorem rows_list {α : Type} {s : Nat} {c : α → List Value} {Q : α → Prop} {sp : Option Addr} : ∀ (len : Nat), (∀ k, k < len → ∃ (gb ob : Nat) (a : α), sp = some ⟨gb, ob, none⟩ ∧ w.rangeAt gb (ob + k * s) (c a) ∧ Q a) → ∃ l : List α, l.length = len ∧ LiesL s c w sp l ∧ ∀ a ∈ l, Q a
  | 0, _ => ⟨[], rfl, fun j a hj => by simp at hj, fun a ha => by cases ha⟩
  | len + 1, h => by
    obtain ⟨l, h1, h2, h3⟩ := rows_list len (fun k hk => h k (by omega))
    obtain ⟨gb, ob, a, e, hc, hq⟩ := h len (by omega)
    refine ⟨l ++ [a], by simp [h1], fun j t hj => ?_, fun x hx => ?_⟩
    · rcases Nat.lt_or_ge j l.length with hlt | hge
      · rw [List.getElem?_append_left hlt] at hj
        exact h2 j t hj
      · rw [List.getElem?_append_right hge] at hj
        have hj0 : j = len := by
          have := (List.getElem?_eq_some_iff.1 hj).1
          simp at this
          omega
        subst hj0
        rw [h1, Nat.sub_self] at hj
        simp at hj
        subst hj
        exact ⟨gb, ob, e, hc⟩
    · rcases List.mem_append.1 hx with hx | hx
      · exact h3 x hx
      · rw [List.mem_singleton.1 hx]
        exact hq
/-- A row that came in: what lies there, how long it is. -/
theorem rows_open {α : Type} {T t : TypeId} {s : Nat} {c : α → List Value} {Q : α → Prop} (u : Tryd.prog.underlying T = some (.slice t)) (len6 : ∀ x, (c x).length = s) (hs0 : 0 < s) (hC : Tryd.prog.cellsOf t = s) (ho : ∀ (m : Nat) (cs : List Value) (x : DataW H × List MemPlace), DataW.trod enc Tryd.prog w 0 (fun _ => true) true m t cs = some x → ∃ a, cs = c a ∧ Q a)
    {m : Nat} {a : Option Addr} {len cap : Nat} {x : DataW H × List MemPlace} (h : DataW.trod enc Tryd.prog w 0 (fun _ => true) true m T [.slice a len cap] = some x) : len ≤ maxLen ∧ len ≤ cap ∧ (a = none → cap = 0) ∧ ∃ l : List α, l.length = len ∧ LiesL s c w a l ∧ ∀ x ∈ l, Q x := by
  rcases Go.Deep.open_slice u h with ⟨hcs, _⟩ | ⟨ad, len', cap', M, n, D, Pl, hcs, _, hl, hm, hM, rfl, hx⟩
  · simp at hcs
    obtain ⟨rfl, rfl, rfl⟩ := hcs
    exact ⟨Nat.zero_le _, Nat.zero_le _, fun _ => rfl, [], rfl, fun j a hj => by simp at hj, fun a ha => by cases ha⟩
  · simp at hcs
    obtain ⟨rfl, rfl, rfl⟩ := hcs
    simp at hM
    subst hM
    rw [hC] at hx
    refine ⟨by omega, by omega, (fun h => by cases h), rows_list len fun k hk => ?_⟩
    obtain ⟨g, off, spot⟩ := ad
    have each : ∀ j, j < len → ∃ a : α, (∀ i v, (c a)[i]? = some v → w.cell? ((⟨g, off, spot⟩ : Addr).add (j * s + i)) = some v) ∧ Q a := fun j hj => by
      obtain ⟨cs, h1, h2⟩ := hx j (by omega)
      obtain ⟨a, rfl, hq⟩ := ho _ _ _ h2
      obtain ⟨_, _, hc⟩ := World.cells?_some h1
      refine ⟨a, fun i v hv => ?_, hq⟩
      have hi : i < s := by
        have := (List.getElem?_eq_some_iff.1 hv).1
        rw [len6] at this
        exact this
      rw [← Go.Deep.add_add, hc i hi, hv]
    have hs : spot = none := by
      obtain ⟨a, ho, _⟩ := each 0 (by omega)
      obtain ⟨v, hv⟩ := some_of (len6 a) hs0
      have c0 := ho 0 v hv
      rw [show (⟨g, off, spot⟩ : Addr).add (0 * s + 0) = ⟨g, off, spot⟩ from by rw [Nat.zero_mul]; rfl] at c0
      cases spot with
      | none => rfl
      | some s =>
        exfalso
        unfold World.cell? at c0
        split at c0 <;> simp at c0
    subst hs
    obtain ⟨a, ho, hq⟩ := each k hk
    exact ⟨g, off, a, rfl, fun i v hv => by have := ho i v hv; rw [addM, ← Nat.add_assoc] at this; exact this, hq⟩
theorem openBy {m : Nat} {cs : List Value} {x : DataW H × List MemPlace} (h : DataW.trod enc Tryd.prog w 0 (fun _ => true) true m 5 cs = some x) : ∃ b : UInt8, cs = [byV b] ∧ True := by
  obtain ⟨z, q, _, hw⟩ := DataW.trod_int Tryd.underlying5 h
  have := wf_u8 hw
  subst q
  refine ⟨UInt8.ofNat z.toNat, ?_, trivial⟩
  unfold byV
  rw [UInt8.toNat_ofNat', show ((z.toNat % 2 ^ 8 : Nat) : Int) = z by omega]
theorem bytes_open {m : Nat} {a : Option Addr} {len cap : Nat} {x : DataW H × List MemPlace} (h : DataW.trod enc Tryd.prog w 0 (fun _ => true) true m 33 [.slice a len cap] = some x) : len ≤ maxLen ∧ len ≤ cap ∧ (a = none → cap = 0) ∧ ∃ l : List UInt8, l.length = len ∧ LB8 w a l := by
  obtain ⟨h1, h2, h3, l, h4, h5, _⟩ := rows_open (s := 1) (c := fun b : UInt8 => [byV b]) (Q := fun _ => True) Tryd.underlying33 (fun _ => rfl) (by decide) (by kernel_rfl) (fun _ _ _ h => openBy h) h
  refine ⟨h1, h2, h3, l, h4, fun j b hj => ?_⟩
  obtain ⟨g, o, e, hc⟩ := h5 j b hj
  refine ⟨g, o, e, ?_⟩
  have := hc 0 (byV b) rfl
  rw [Nat.mul_one, Nat.add_zero] at this
  exact this
/-- What is read is of no more than an address space holds. -/
def WOk (t : TypeId) (d : DataW H) : Prop := ∀ v ∈ DataW.weights Tryd.prog t d, v ≤ reachBytes
theorem w_all {e : TypeId} : ∀ (l : List (DataW H)) (d : DataW H), d ∈ l → ∀ v ∈ DataW.weights Tryd.prog e d, v ∈ DataW.weightsAll Tryd.prog e l
  | [], d, h, _, _ => by cases h
  | x :: l, d, h, v, hv => by
    rw [DataW.weightsAll]
    rcases List.mem_cons.1 h with rfl | h
    · exact List.mem_append_left _ hv
    · exact List.mem_append_right _ (w_all l d h v hv)
theorem w_slice {T t : TypeId} (u : Tryd.prog.underlying T = some (.slice t)) {e s : List (DataW H)} (h : WOk T (.slice e s)) : (e.length + s.length) * Tryd.prog.bytesOf t ≤ reachBytes ∧ ∀ d ∈ e, WOk t d := by
  unfold WOk at h
  rw [DataW.weights, u] at h
  simp only at h
  refine ⟨h _ (by simp), fun d hd v hv => h v ?_⟩
  exact List.mem_cons_of_mem _ (List.mem_append_left _ (w_all e d hd v hv))
theorem w_row {T t : TypeId} (u : Tryd.prog.underlying T = some (.slice t)) (hb : 1 ≤ Tryd.prog.bytesOf t) {m : Nat} {a : Option Addr} {len cap : Nat} {x : DataW H × List MemPlace} (h : DataW.trod enc Tryd.prog w 0 (fun _ => true) true m T [.slice a len cap] = some x) (hw : WOk T x.1) : len ≤ reachBytes := by
  rcases Go.Deep.open_slice u h with ⟨hcs, rfl⟩ | ⟨ad, len', cap', M, n, D, Pl, hcs, _, hl, hm, hM, rfl, hx⟩
  · simp at hcs
    obtain ⟨rfl, rfl, rfl⟩ := hcs
    exact Nat.zero_le _
  · simp at hcs
    obtain ⟨rfl, rfl, rfl⟩ := hcs
    have h1 := (w_slice u hw).1
    have h2 : len ≤ (((List.range len).map D).length + ((List.range (M - len)).map fun j => D (len + j)).length) * Tryd.prog.bytesOf t := by
      refine Nat.le_trans ?_ (Nat.le_mul_of_pos_right _ hb)
      simp
    omega
/-- An item as it came in: its bytes lie there, its numbers and words are such as can be. -/
structure It0 (w : World) (x : Itm) : Prop where
  g : Good w x
  m : x.1.m ≤ maxLen
  cap : x.1.m ≤ x.1.cap
  nil : x.1.sp = none → x.1.cap = 0
  k : 0 ≤ x.1.k ∧ x.1.k < 256
  p : 0 ≤ x.1.p ∧ x.1.p < 256
  a : -9223372036854775808 ≤ x.1.a
  n : x.1.n.size ≤ maxLen
  l : x.1.l.size ≤ maxLen
theorem openIt {m : Nat} {cs : List Value} {x : DataW H × List MemPlace} (h : DataW.trod enc Tryd.prog w 0 (fun _ => true) true m 40 cs = some x) : ∃ X : Itm, cs = c6 X.1 ∧ It0 w X := by
  obtain ⟨xs, n, _, rfl, hl, hxl, hf⟩ := DataW.trod_struct Tryd.underlying40 h
  obtain ⟨c0, c1, c2, c3, c4, c5, rfl⟩ := list6 (hl.trans (by kernel_rfl))
  have kK : Tryd.prog.cellsOf 37 = 1 := by kernel_rfl
  have kP : Tryd.prog.cellsOf 38 = 1 := by kernel_rfl
  have kS : Tryd.prog.cellsOf 9 = 1 := by kernel_rfl
  have kI : Tryd.prog.cellsOf 3 = 1 := by kernel_rfl
  have kB : Tryd.prog.cellsOf 33 = 1 := by kernel_rfl
  have g0 := hf 0 _ rfl
  have g1 := hf 1 _ rfl
  have g2 := hf 2 _ rfl
  have g3 := hf 3 _ rfl
  have g4 := hf 4 _ rfl
  have g5 := hf 5 _ rfl
  simp [kK] at g0
  simp [kS] at g1
  simp [kI] at g2
  simp [kS] at g3
  simp [kP] at g4
  simp [kB] at g5
  obtain ⟨y0, e0⟩ := some_of (show xs.length = 6 from hxl) (show 0 < 6 by decide)
  obtain ⟨z0, q0, _, w0⟩ := DataW.trod_int Tryd.underlying37 (g0.trans e0)
  simp at q0
  subst q0
  obtain ⟨y1, e1⟩ := some_of (show xs.length = 6 from hxl) (show 1 < 6 by decide)
  obtain ⟨z1, q1, _, w1⟩ := DataW.trod_string Tryd.underlying9 (g1.trans e1)
  simp at q1
  subst q1
  obtain ⟨y2, e2⟩ := some_of (show xs.length = 6 from hxl) (show 2 < 6 by decide)
  obtain ⟨z2, q2, _, w2⟩ := DataW.trod_int Tryd.underlying3 (g2.trans e2)
  simp at q2
  subst q2
  obtain ⟨y3, e3⟩ := some_of (show xs.length = 6 from hxl) (show 3 < 6 by decide)
  obtain ⟨z3, q3, _, w3⟩ := DataW.trod_string Tryd.underlying9 (g3.trans e3)
  simp at q3
  subst q3
  obtain ⟨y4, e4⟩ := some_of (show xs.length = 6 from hxl) (show 4 < 6 by decide)
  obtain ⟨z4, q4, _, w4⟩ := DataW.trod_int Tryd.underlying38 (g4.trans e4)
  simp at q4
  subst q4
  obtain ⟨y5, e5⟩ := some_of (show xs.length = 6 from hxl) (show 5 < 6 by decide)
  have k5 := g5.trans e5
  obtain ⟨sb, lb, cb, rfl⟩ : ∃ a len cap, c5 = .slice a len cap := by
    rcases Go.Deep.open_slice Tryd.underlying33 k5 with ⟨hcs, _⟩ | ⟨ad, len', cap', M, n, D, Pl, hcs, _⟩
    · simp at hcs; exact ⟨_, _, _, hcs⟩
    · simp at hcs; exact ⟨_, _, _, hcs⟩
  obtain ⟨b1, b2, b3, bs, rfl, hb⟩ := bytes_open k5
  have r0 := wf_u8 w0
  have r2 := wf_i64 w2
  have r4 := wf_u8 w4
  exact ⟨(⟨z0, z1, z2, z3, z4, sb, bs.length, cb⟩, bs), rfl, ⟨hb, rfl, r2.2⟩, b1, b2, b3, r0, r4, r2.1, w1, w3⟩
theorem items_open {m : Nat} {a : Option Addr} {len cap : Nat} {x : DataW H × List MemPlace} (h : DataW.trod enc Tryd.prog w 0 (fun _ => true) true m 22 [.slice a len cap] = some x) : len ≤ maxLen ∧ ∃ L : List Itm, L.length = len ∧ LI w a (L.map (·.1)) ∧ ∀ x ∈ L, It0 w x := by
  obtain ⟨h1, h2, h3, L, h4, h5, h6⟩ := rows_open (s := 6) (c := fun X : Itm => c6 X.1) (Q := It0 w) Tryd.underlying22 (fun _ => rfl) (by decide) (by kernel_rfl) (fun _ _ _ h => openIt h) h
  refine ⟨h1, L, h4, fun j r hj => ?_, h6⟩
  rw [List.getElem?_map] at hj
  obtain ⟨X, hX, rfl⟩ := Option.map_eq_some_iff.1 hj
  exact h5 j X hX
theorem items_cap {m : Nat} {a : Option Addr} {len cap : Nat} {x : DataW H × List MemPlace} (h : DataW.trod enc Tryd.prog w 0 (fun _ => true) true m 22 [.slice a len cap] = some x) : len ≤ cap :=
  (rows_open (s := 6) (c := fun X : Itm => c6 X.1) (Q := It0 w) Tryd.underlying22 (fun _ => rfl) (by decide) (by kernel_rfl) (fun _ _ _ h => openIt h) h).2.1
theorem w_item {m : Nat} {r : Ri} {x : DataW H × List MemPlace} (h : DataW.trod enc Tryd.prog w 0 (fun _ => true) true m 40 (c6 r) = some x) (hw : WOk 40 x.1) : r.m ≤ reachBytes ∧ r.n.size ≤ reachBytes ∧ r.l.size ≤ reachBytes := by
  obtain ⟨xs, n, _, rfl, hl, hxl, hf⟩ := DataW.trod_struct Tryd.underlying40 h
  have kS : Tryd.prog.cellsOf 9 = 1 := by kernel_rfl
  have kB : Tryd.prog.cellsOf 33 = 1 := by kernel_rfl
  have g1 := hf 1 _ rfl
  have g3 := hf 3 _ rfl
  have g5 := hf 5 _ rfl
  simp [kS, c6, i6] at g1
  simp [kS, c6, i6] at g3
  simp [kB, c6, i6] at g5
  obtain ⟨x0, x1, x2, x3, x4, x5, rfl⟩ := list6 (show xs.length = 6 from hxl)
  simp at g1 g3 g5
  obtain ⟨s1, q1, e1, _⟩ := DataW.trod_string Tryd.underlying9 g1
  obtain ⟨s3, q3, e3, _⟩ := DataW.trod_string Tryd.underlying9 g3
  simp at q1 q3
  subst q1 q3 e1 e3
  unfold WOk at hw
  simp only [List.map_cons, List.map_nil] at hw
  rw [DataW.weights, Tryd.underlying40] at hw
  simp only [List.map_cons, List.map_nil, DataW.weightsEach] at hw
  have e1 : DataW.weights Tryd.prog 9 (.lit (.string r.n.data.toList) : DataW H) = [r.n.size] := by rw [DataW.weights]; exact congrArg (fun k => [k]) (strL_len r.n)
  have e3 : DataW.weights Tryd.prog 9 (.lit (.string r.l.data.toList) : DataW H) = [r.l.size] := by rw [DataW.weights]; exact congrArg (fun k => [k]) (strL_len r.l)
  rw [e1, e3] at hw
  refine ⟨w_row Tryd.underlying33 (by decide +kernel) g5 (fun v hv => hw v (by simp [hv])), hw _ (by simp), hw _ (by simp)⟩
/-- A list of items: no part is longer than an address space. -/
theorem items_near {m : Nat} {a : Option Addr} {len cap : Nat} {x : DataW H × List MemPlace} {l : List Ri} (h : DataW.trod enc Tryd.prog w 0 (fun _ => true) true m 22 [.slice a len cap] = some x) (hl : LI w a l) (hn : l.length = len) (hw : WOk 22 x.1) : Near l ∧ l.length ≤ 140737488351232 := by
  have hr : reachBytes = 140737488351232 := by decide
  refine ⟨?_, by have := w_row Tryd.underlying22 (by decide +kernel) h hw; omega⟩
  rcases Go.Deep.open_slice Tryd.underlying22 h with ⟨hcs, rfl⟩ | ⟨ad, len', cap', M, n, D, Pl, hcs, _, hl', hm, hM, rfl, hx⟩
  · simp at hcs
    obtain ⟨rfl, rfl, rfl⟩ := hcs
    have : l = [] := List.length_eq_zero_iff.1 hn
    subst this
    intro r h
    cases h
  · simp at hcs
    obtain ⟨rfl, rfl, rfl⟩ := hcs
    have hd := (w_slice Tryd.underlying22 hw).2
    intro r hr0
    obtain ⟨k, hk0, hk1⟩ := List.getElem_of_mem hr0
    have hk : l[k]? = some r := by rw [List.getElem?_eq_getElem hk0, hk1]
    obtain ⟨cs, h1, h2⟩ := hx k (by simp at hM; omega)
    obtain ⟨g, o, e, hc⟩ := hl k r hk
    have e6 : Tryd.prog.cellsOf 40 = 6 := by kernel_rfl
    injection e with e
    subst e
    rw [e6, addM] at h1
    obtain ⟨_, hlen, hcc⟩ := World.cells?_some h1
    have ecs : cs = c6 r := by
      apply List.ext_getElem?
      intro i
      by_cases hi : i < 6
      · have h3 := hcc i hi
        rw [addM] at h3
        obtain ⟨v, hv⟩ := some_of (show (c6 r).length = 6 from rfl) hi
        rw [hv, ← hc i v hv]
        exact h3.symm
      · rw [List.getElem?_eq_none (by omega), List.getElem?_eq_none (by show 6 ≤ i; omega)]
    subst ecs
    have := w_item (x := (D k, Pl k)) h2 (hd (D k) (List.mem_map_of_mem (by simp; omega)))
    rw [hr] at this
    exact this
end
end Go.Proofs.YthbdpceobnkflaaDoor
