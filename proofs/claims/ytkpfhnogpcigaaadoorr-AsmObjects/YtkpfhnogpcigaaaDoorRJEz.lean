/- Objects that came in as arguments, opened. -/
import Derived.Test.YtkpfhnogpcigaaaDoorRJEy
import Derived.WalkKit
import Derived.ProofKit
import Derived.OpenShut
import Derived.ChangeArms
import Derived.ChangeShapes
import Derived.ChangeSlices
import Derived.SizedLaws
import Derived.Deep.Slices
import GoSem.ClaimJoined
namespace Go.Proofs.YtkpfhnogpcigaaaDoorR
open Go Go.RowKit Go.ChangeShapes Go.WideShapes
set_option linter.unusedVariables false
set_option maxHeartbeats 1000000
set_option maxRecDepth 20000

theorem wf_u8 {z : Int} (h : (Lit.int .u8 z).wf = true) : 0 ≤ z ∧ z < 256 := by
  have a : IntKind.min .u8 = 0 := by decide
  have b : IntKind.max .u8 = 255 := by decide
  simp only [Lit.wf, a, b, Bool.and_eq_true, decide_eq_true_eq] at h
  omega
theorem wf_i64 {z : Int} (h : (Lit.int .i64 z).wf = true) : -9223372036854775808 ≤ z ∧ z ≤ 9223372036854775807 := by
  have a : IntKind.min .i64 = -9223372036854775808 := by decide
  have b : IntKind.max .i64 = 9223372036854775807 := by decide
  simp only [Lit.wf, a, b, Bool.and_eq_true, decide_eq_true_eq] at h
  omega
theorem some_of {α : Type} {l : List α} {k i : Nat} (h : l.length = k) (hi : i < k) : ∃ y, l[i]? = some y := ⟨_, List.getElem?_eq_getElem (by omega)⟩
theorem addM (g off i : Nat) : (⟨g, off, none⟩ : Addr).add i = ⟨g, off + i, none⟩ := by unfold Addr.add; split <;> simp_all
theorem list2 {α : Type} {l : List α} (h : l.length = 2) : ∃ a b, l = [a, b] := by
  match l, h with
  | [a, b], _ => exact ⟨a, b, rfl⟩
theorem list3 {α : Type} {l : List α} (h : l.length = 3) : ∃ a b c, l = [a, b, c] := by
  match l, h with
  | [a, b, c], _ => exact ⟨a, b, c, rfl⟩
section
variable {H : Type} {enc : TypeId × Value → H} {w : World}
theorem rows_list {α : Type} {s : Nat} {c : α → List Value} {Q : α → Prop} {sp : Option Addr} : ∀ (len : Nat), (∀ k, k < len → ∃ (gb ob : Nat) (a : α), sp = some ⟨gb, ob, none⟩ ∧ w.rangeAt gb (ob + k * s) (c a) ∧ Q a) → ∃ l : List α, l.length = len ∧ LiesL s c w sp l ∧ ∀ a ∈ l, Q a
  | 0, _ => ⟨[], rfl, fun j a hj => by simp at hj, fun a ha => by cases ha⟩
  | len + 1, h => by
    obtain ⟨l, h1, h2, h3⟩ := rows_list len (fun k hk => h k (by omega))
    obtain ⟨gb, ob, a, e, hc, hq⟩ := h len (by omega)
    refine ⟨l ++ [a], by simp [h1], fun j t hj => ?_, fun x hx => ?_⟩
    · rcases Nat.lt_or_ge j l.length with hlt | hge
      · rw [List.getElem?_append_left hlt] at hj
        exact h2 j t hj
      · rw [List.getElem?_append_right hge] at hj
        have hj0 : j = len := by
          have := (List.getElem?_eq_some_iff.1 hj).1
          simp at this
          omega
        subst hj0
        rw [h1, Nat.sub_self] at hj
        simp at hj
        subst hj
        exact ⟨gb, ob, e, hc⟩
    · rcases List.mem_append.1 hx with hx | hx
      · exact h3 x hx
      · rw [List.mem_singleton.1 hx]
        exact hq
/-- A row that came in: what lies there, how long it is. -/
theorem rows_open {α : Type} {T t : TypeId} {s : Nat} {c : α → List Value} {Q : α → Prop} (u : Tryd.prog.underlying T = some (.slice t)) (len6 : ∀ x, (c x).length = s) (hs0 : 0 < s) (hC : Tryd.prog.cellsOf t = s) (ho : ∀ (m : Nat) (cs : List Value) (x : DataW H × List MemPlace), DataW.trod enc Tryd.prog w 0 (fun _ => true) true m t cs = some x → ∃ a, cs = c a ∧ Q a)
    {m : Nat} {a : Option Addr} {len cap : Nat} {x : DataW H × List MemPlace} (h : DataW.trod enc Tryd.prog w 0 (fun _ => true) true m T [.slice a len cap] = some x) : len ≤ maxLen ∧ len ≤ cap ∧ (a = none → cap = 0) ∧ ∃ l : List α, l.length = len ∧ LiesL s c w a l ∧ ∀ x ∈ l, Q x := by
  rcases Go.Deep.open_slice u h with ⟨hcs, _⟩ | ⟨ad, len', cap', M, n, D, Pl, hcs, _, hl, hm, hM, rfl, hx⟩
  · simp at hcs
    obtain ⟨rfl, rfl, rfl⟩ := hcs
    exact ⟨Nat.zero_le _, Nat.zero_le _, fun _ => rfl, [], rfl, fun j a hj => by simp at hj, fun a ha => by cases ha⟩
  · simp at hcs
    obtain ⟨rfl, rfl, rfl⟩ := hcs
    simp at hM
    subst hM
    rw [hC] at hx
    refine ⟨by omega, by omega, (fun h => by cases h), rows_list len fun k hk => ?_⟩
    obtain ⟨g, off, spot⟩ := ad
    have each : ∀ j, j < len → ∃ a : α, (∀ i v, (c a)[i]? = some v → w.cell? ((⟨g, off, spot⟩ : Addr).add (j * s + i)) = some v) ∧ Q a := fun j hj => by
      obtain ⟨cs, h1, h2⟩ := hx j (by omega)
      obtain ⟨a, rfl, hq⟩ := ho _ _ _ h2
      obtain ⟨_, _, hc⟩ := World.cells?_some h1
      refine ⟨a, fun i v hv => ?_, hq⟩
      have hi : i < s := by
        have := (List.getElem?_eq_some_iff.1 hv).1
        rw [len6] at this
        exact this
      rw [← Go.Deep.add_add, hc i hi, hv]
    have hs : spot = none := by
      obtain ⟨a, ho, _⟩ := each 0 (by omega)
      obtain ⟨v, hv⟩ := some_of (len6 a) hs0
      have c0 := ho 0 v hv
      rw [show (⟨g, off, spot⟩ : Addr).add (0 * s + 0) = ⟨g, off, spot⟩ from by rw [Nat.zero_mul]; rfl] at c0
      cases spot with
      | none => rfl
      | some s =>
        exfalso
        unfold World.cell? at c0
        split at c0 <;> simp at c0
    subst hs
    obtain ⟨a, ho, hq⟩ := each k hk
    exact ⟨g, off, a, rfl, fun i v hv => by have := ho i v hv; rw [addM, ← Nat.add_assoc] at this; exact this, hq⟩
theorem openBy {m : Nat} {cs : List Value} {x : DataW H × List MemPlace} (h : DataW.trod enc Tryd.prog w 0 (fun _ => true) true m 5 cs = some x) : ∃ b : UInt8, cs = [byV b] ∧ True := by
  obtain ⟨z, q, _, hw⟩ := DataW.trod_int Tryd.underlying5 h
  have := wf_u8 hw
  subst q
  refine ⟨UInt8.ofNat z.toNat, ?_, trivial⟩
  unfold byV
  rw [UInt8.toNat_ofNat', show ((z.toNat % 2 ^ 8 : Nat) : Int) = z by omega]
theorem bytes_open {m : Nat} {a : Option Addr} {len cap : Nat} {x : DataW H × List MemPlace} (h : DataW.trod enc Tryd.prog w 0 (fun _ => true) true m 33 [.slice a len cap] = some x) : len ≤ maxLen ∧ len ≤ cap ∧ (a = none → cap = 0) ∧ ∃ l : List UInt8, l.length = len ∧ LB8 w a l := by
  obtain ⟨h1, h2, h3, l, h4, h5, _⟩ := rows_open (s := 1) (c := fun b : UInt8 => [byV b]) (Q := fun _ => True) Tryd.underlying33 (fun _ => rfl) (by decide) (by kernel_rfl) (fun _ _ _ h => openBy h) h
  refine ⟨h1, h2, h3, l, h4, fun j b hj => ?_⟩
  obtain ⟨g, o, e, hc⟩ := h5 j b hj
  refine ⟨g, o, e, ?_⟩
  have := hc 0 (byV b) rfl
  rw [Nat.mul_one, Nat.add_zero] at this
  exact this
/-- What is read is of no more than an address space holds. -/
def WOk (t : TypeId) (d : DataW H) : Prop := ∀ v ∈ DataW.weights Tryd.prog t d, v ≤ reachBytes
theorem w_all {e : TypeId} : ∀ (l : List (DataW H)) (d : DataW H), d ∈ l → ∀ v ∈ DataW.weights Tryd.prog e d, v ∈ DataW.weightsAll Tryd.prog e l
  | [], d, h, _, _ => by cases h
  | x :: l, d, h, v, hv => by
    rw [DataW.weightsAll]
    rcases List.mem_cons.1 h with rfl | h
    · exact List.mem_append_left _ hv
    · exact List.mem_append_right _ (w_all l d h v hv)
theorem w_slice {T t : TypeId} (u : Tryd.prog.underlying T = some (.slice t)) {e s : List (DataW H)} (h : WOk T (.slice e s)) : (e.length + s.length) * Tryd.prog.bytesOf t ≤ reachBytes ∧ ∀ d ∈ e, WOk t d := by
  unfold WOk at h
  rw [DataW.weights, u] at h
  simp only at h
  refine ⟨h _ (by simp), fun d hd v hv => h v ?_⟩
  exact List.mem_cons_of_mem _ (List.mem_append_left _ (w_all e d hd v hv))
theorem w_row {T t : TypeId} (u : Tryd.prog.underlying T = some (.slice t)) (hb : 1 ≤ Tryd.prog.bytesOf t) {m : Nat} {a : Option Addr} {len cap : Nat} {x : DataW H × List MemPlace} (h : DataW.trod enc Tryd.prog w 0 (fun _ => true) true m T [.slice a len cap] = some x) (hw : WOk T x.1) : len ≤ reachBytes := by
  rcases Go.Deep.open_slice u h with ⟨hcs, rfl⟩ | ⟨ad, len', cap', M, n, D, Pl, hcs, _, hl, hm, hM, rfl, hx⟩
  · simp at hcs
    obtain ⟨rfl, rfl, rfl⟩ := hcs
    exact Nat.zero_le _
  · simp at hcs
    obtain ⟨rfl, rfl, rfl⟩ := hcs
    have h1 := (w_slice u hw).1
    have h2 : len ≤ (((List.range len).map D).length + ((List.range (M - len)).map fun j => D (len + j)).length) * Tryd.prog.bytesOf t := by
      refine Nat.le_trans ?_ (Nat.le_mul_of_pos_right _ hb)
      simp
    omega
/-- A row that came in, with what is known of how much was read. -/
theorem rows_openW {α : Type} {T t : TypeId} {s : Nat} {c : α → List Value} {Q : α → Prop} (u : Tryd.prog.underlying T = some (.slice t)) (len6 : ∀ x, (c x).length = s) (hs0 : 0 < s) (hC : Tryd.prog.cellsOf t = s) (ho : ∀ (m : Nat) (cs : List Value) (x : DataW H × List MemPlace), DataW.trod enc Tryd.prog w 0 (fun _ => true) true m t cs = some x → WOk t x.1 → ∃ a, cs = c a ∧ Q a)
    {m : Nat} {a : Option Addr} {len cap : Nat} {x : DataW H × List MemPlace} (h : DataW.trod enc Tryd.prog w 0 (fun _ => true) true m T [.slice a len cap] = some x) (hw : WOk T x.1) : len ≤ maxLen ∧ len ≤ cap ∧ (a = none → cap = 0) ∧ ∃ l : List α, l.length = len ∧ LiesL s c w a l ∧ ∀ x ∈ l, Q x := by
  rcases Go.Deep.open_slice u h with ⟨hcs, _⟩ | ⟨ad, len', cap', M, n, D, Pl, hcs, _, hl, hm, hM, rfl, hx⟩
  · simp at hcs
    obtain ⟨rfl, rfl, rfl⟩ := hcs
    exact ⟨Nat.zero_le _, Nat.zero_le _, fun _ => rfl, [], rfl, fun j a hj => by simp at hj, fun a ha => by cases ha⟩
  · simp at hcs
    obtain ⟨rfl, rfl, rfl⟩ := hcs
    simp at hM
    subst hM
    have hd := (w_slice u hw).2
    rw [hC] at hx
    refine ⟨by omega, by omega, (fun h => by cases h), rows_list len fun k hk => ?_⟩
    obtain ⟨g, off, spot⟩ := ad
    have each : ∀ j, j < len → ∃ a : α, (∀ i v, (c a)[i]? = some v → w.cell? ((⟨g, off, spot⟩ : Addr).add (j * s + i)) = some v) ∧ Q a := fun j hj => by
      obtain ⟨cs, h1, h2⟩ := hx j (by omega)
      obtain ⟨a, rfl, hq⟩ := ho _ _ _ h2 (hd (D j) (List.mem_map_of_mem (by simp; omega)))
      obtain ⟨_, _, hc⟩ := World.cells?_some h1
      refine ⟨a, fun i v hv => ?_, hq⟩
      have hi : i < s := by
        have := (List.getElem?_eq_some_iff.1 hv).1
        rw [len6] at this
        exact this
      rw [← Go.Deep.add_add, hc i hi, hv]
    have hs : spot = none := by
      obtain ⟨a, ho, _⟩ := each 0 (by omega)
      obtain ⟨v, hv⟩ := some_of (len6 a) hs0
      have c0 := ho 0 v hv
      rw [show (⟨g, off, spot⟩ : Addr).add (0 * s + 0) = ⟨g, off, spot⟩ from by rw [Nat.zero_mul]; rfl] at c0
      cases spot with
      | none => rfl
      | some s =>
        exfalso
        unfold World.cell? at c0
        split at c0 <;> simp at c0
    subst hs
    obtain ⟨a, ho, hq⟩ := each k hk
    exact ⟨g, off, a, rfl, fun i v hv => by have := ho i v hv; rw [addM, ← Nat.add_assoc] at this; exact this, hq⟩
/-- A block as it came in. -/
def K0 (w : World) (X : Bb) : Prop := LB8 w X.1.sp X.2 ∧ X.2.length = X.1.m ∧ inI X.1.a ∧ X.1.m ≤ X.1.cap ∧ X.1.m ≤ reachBytes
theorem isSl {T t : TypeId} (u : Tryd.prog.underlying T = some (.slice t)) {m : Nat} {c : Value} {x : DataW H × List MemPlace} (h : DataW.trod enc Tryd.prog w 0 (fun _ => true) true m T [c] = some x) : ∃ a len cap, c = .slice a len cap := by
  rcases Go.Deep.open_slice u h with ⟨hcs, _⟩ | ⟨ad, len', cap', M, n, D, Pl, hcs, _⟩
  · simp at hcs; exact ⟨_, _, _, hcs⟩
  · simp at hcs; exact ⟨_, _, _, hcs⟩
theorem openK {m : Nat} {cs : List Value} {x : DataW H × List MemPlace} (h : DataW.trod enc Tryd.prog w 0 (fun _ => true) true m 42 cs = some x) (hw : WOk 42 x.1) : ∃ X : Bb, cs = cK X.1 ∧ K0 w X := by
  obtain ⟨xs, n, _, rfl, hl, hxl, hf⟩ := DataW.trod_struct Tryd.underlying42 h
  obtain ⟨c0, c1, rfl⟩ := list2 (hl.trans (by kernel_rfl))
  have kI : Tryd.prog.cellsOf 3 = 1 := by kernel_rfl
  have kB : Tryd.prog.cellsOf 33 = 1 := by kernel_rfl
  have g0 := hf 0 _ rfl
  have g1 := hf 1 _ rfl
  simp [kI] at g0
  simp [kB] at g1
  obtain ⟨x0, x1, rfl⟩ := list2 (show xs.length = 2 from hxl)
  simp at g0 g1
  obtain ⟨z0, q0, _, w0⟩ := DataW.trod_int Tryd.underlying3 g0
  simp at q0
  subst q0
  obtain ⟨sb, lb, cb, rfl⟩ := isSl Tryd.underlying33 g1
  obtain ⟨b1, b2, b3, bs, rfl, hb⟩ := bytes_open g1
  unfold WOk at hw
  simp only [List.map_cons, List.map_nil] at hw
  rw [DataW.weights, Tryd.underlying42] at hw
  simp only [List.map_cons, List.map_nil, DataW.weightsEach] at hw
  have hm := w_row Tryd.underlying33 (by decide +kernel) g1 (fun v hv => hw v (by simp [hv]))
  exact ⟨(⟨z0, sb, bs.length, cb⟩, bs), rfl, hb, rfl, wf_i64 w0, b2, hm⟩
theorem openM {m : Nat} {cs : List Value} {x : DataW H × List MemPlace} (h : DataW.trod enc Tryd.prog w 0 (fun _ => true) true m 72 cs = some x) : ∃ X : Mk, cs = cM X ∧ inI X.a ∧ inI X.n := by
  obtain ⟨xs, n, _, rfl, hl, hxl, hf⟩ := DataW.trod_struct Tryd.underlying72 h
  obtain ⟨c0, c1, c2, rfl⟩ := list3 (hl.trans (by kernel_rfl))
  have kI : Tryd.prog.cellsOf 3 = 1 := by kernel_rfl
  have kB : Tryd.prog.cellsOf 4 = 1 := by kernel_rfl
  have g0 := hf 0 _ rfl
  have g1 := hf 1 _ rfl
  have g2 := hf 2 _ rfl
  simp [kI] at g0
  simp [kI] at g1
  simp [kB] at g2
  obtain ⟨x0, x1, x2, rfl⟩ := list3 (show xs.length = 3 from hxl)
  simp at g0 g1 g2
  obtain ⟨z0, q0, _, w0⟩ := DataW.trod_int Tryd.underlying3 g0
  simp at q0
  subst q0
  obtain ⟨z1, q1, _, w1⟩ := DataW.trod_int Tryd.underlying3 g1
  simp at q1
  subst q1
  obtain ⟨z2, q2, _⟩ := DataW.trod_bool Tryd.underlying4 g2
  simp at q2
  subst q2
  exact ⟨⟨z0, z1, z2⟩, rfl, wf_i64 w0, wf_i64 w1⟩
theorem openLa {m : Nat} {cs : List Value} {x : DataW H × List MemPlace} (h : DataW.trod enc Tryd.prog w 0 (fun _ => true) true m 61 cs = some x) : ∃ X : La, cs = cLa X ∧ inI X.a ∧ X.n.size ≤ maxLen := by
  obtain ⟨xs, n, _, rfl, hl, hxl, hf⟩ := DataW.trod_struct Tryd.underlying61 h
  obtain ⟨c0, c1, rfl⟩ := list2 (hl.trans (by kernel_rfl))
  have kI : Tryd.prog.cellsOf 3 = 1 := by kernel_rfl
  have kS : Tryd.prog.cellsOf 9 = 1 := by kernel_rfl
  have g0 := hf 0 _ rfl
  have g1 := hf 1 _ rfl
  simp [kS] at g0
  simp [kI] at g1
  obtain ⟨x0, x1, rfl⟩ := list2 (show xs.length = 2 from hxl)
  simp at g0 g1
  obtain ⟨z0, q0, _, w0⟩ := DataW.trod_string Tryd.underlying9 g0
  simp at q0
  subst q0
  obtain ⟨z1, q1, _, w1⟩ := DataW.trod_int Tryd.underlying3 g1
  simp at q1
  subst q1
  exact ⟨⟨z0, z1⟩, rfl, wf_i64 w1, w0⟩
/-- An object that came in. -/
theorem openO {m : Nat} {cs : List Value} {x : DataW H × List MemPlace} (h : DataW.trod enc Tryd.prog w 0 (fun _ => true) true m 26 cs = some x) (hw : WOk 26 x.1) : ∃ ob : Oo, cs = (oC ob).toList ∧ Lr w ob := by
  obtain ⟨xs, n, _, rfl, hl, hxl, hf⟩ := DataW.trod_struct Tryd.underlying26 h
  obtain ⟨c0, c1, c2, rfl⟩ := list3 (hl.trans (by kernel_rfl))
  have k0 : Tryd.prog.cellsOf 22 = 1 := by kernel_rfl
  have k1 : Tryd.prog.cellsOf 23 = 1 := by kernel_rfl
  have k2 : Tryd.prog.cellsOf 24 = 1 := by kernel_rfl
  have g0 := hf 0 _ rfl
  have g1 := hf 1 _ rfl
  have g2 := hf 2 _ rfl
  simp [k0] at g0
  simp [k1] at g1
  simp [k2] at g2
  obtain ⟨x0, x1, x2, rfl⟩ := list3 (show xs.length = 3 from hxl)
  simp at g0 g1 g2
  unfold WOk at hw
  simp only [List.map_cons, List.map_nil] at hw
  rw [DataW.weights, Tryd.underlying26] at hw
  simp only [List.map_cons, List.map_nil, DataW.weightsEach] at hw
  have w0 : WOk 22 x0.1 := fun v hv => hw v (by simp [hv])
  have w1 : WOk 23 x1.1 := fun v hv => hw v (by simp [hv])
  have w2 : WOk 24 x2.1 := fun v hv => hw v (by simp [hv])
  obtain ⟨bp, bl, bc, rfl⟩ := isSl Tryd.underlying22 g0
  obtain ⟨mp, ml, mc, rfl⟩ := isSl Tryd.underlying23 g1
  obtain ⟨lp, ll, lc, rfl⟩ := isSl Tryd.underlying24 g2
  have n0 := w_row Tryd.underlying22 (by decide +kernel) g0 w0
  have n1 := w_row Tryd.underlying23 (by decide +kernel) g1 w1
  have n2 := w_row Tryd.underlying24 (by decide +kernel) g2 w2
  obtain ⟨_, _, _, B, rfl, hB, qB⟩ := rows_openW (s := 2) (c := fun X : Bb => cK X.1) (Q := K0 w) Tryd.underlying22 (fun _ => rfl) (by decide) (by kernel_rfl) (fun _ _ _ h k => openK h k) g0 w0
  obtain ⟨_, c1, _, M, rfl, hM, qM⟩ := rows_open (s := 3) (c := cM) (Q := fun X : Mk => inI X.a ∧ inI X.n) Tryd.underlying23 (fun _ => rfl) (by decide) (by kernel_rfl) (fun _ _ _ h => openM h) g1
  obtain ⟨_, _, _, L, rfl, hL, qL⟩ := rows_open (s := 2) (c := cLa) (Q := fun X : La => inI X.a ∧ X.n.size ≤ maxLen) Tryd.underlying24 (fun _ => rfl) (by decide) (by kernel_rfl) (fun _ _ _ h => openLa h) g2
  have hr : reachBytes = 140737488351232 := by decide
  rw [hr] at n0 n1 n2
  refine ⟨⟨bp, bc, B, mp, mc, M, lp, lc, L⟩, rfl, ⟨fun j r hj => ?_, hM, hL, fun x hx => ⟨(qB x hx).1, (qB x hx).2.1⟩, fun x hx => (qB x hx).2.2.1, qM, fun x hx => ⟨(qL x hx).1, by have h := (qL x hx).2; unfold maxLen at h; omega⟩, ⟨by show B.length ≤ _; omega, by show M.length ≤ _; omega, by show L.length ≤ _; omega⟩, fun x hx => by have h := (qB x hx).2.2.2.2; rw [hr] at h; omega, fun x hx => (qB x hx).2.2.2.1, c1⟩⟩
  change (B.map (·.1))[j]? = some r at hj
  rw [List.getElem?_map] at hj
  obtain ⟨X, hX, rfl⟩ := Option.map_eq_some_iff.1 hj
  exact hB j X hX
theorem openQ {m : Nat} {cs : List Value} {x : DataW H × List MemPlace} (h : DataW.trod enc Tryd.prog w 0 (fun _ => true) true m 28 cs = some x) : ∃ fr to s, cs = (qC fr to s).toList ∧ inI fr ∧ inI to := by
  obtain ⟨xs, n, _, rfl, hl, hxl, hf⟩ := DataW.trod_struct Tryd.underlying28 h
  obtain ⟨c0, c1, c2, rfl⟩ := list3 (hl.trans (by kernel_rfl))
  have kI : Tryd.prog.cellsOf 3 = 1 := by kernel_rfl
  have kB : Tryd.prog.cellsOf 9 = 1 := by kernel_rfl
  have g0 := hf 0 _ rfl
  have g1 := hf 1 _ rfl
  have g2 := hf 2 _ rfl
  simp [kI] at g0
  simp [kI] at g1
  simp [kB] at g2
  obtain ⟨x0, x1, x2, rfl⟩ := list3 (show xs.length = 3 from hxl)
  simp at g0 g1 g2
  obtain ⟨z0, q0, _, w0⟩ := DataW.trod_int Tryd.underlying3 g0
  simp at q0
  subst q0
  obtain ⟨z1, q1, _, w1⟩ := DataW.trod_int Tryd.underlying3 g1
  simp at q1
  subst q1
  obtain ⟨z2, q2, _⟩ := DataW.trod_string Tryd.underlying9 g2
  simp at q2
  subst q2
  exact ⟨z0, z1, z2, rfl, wf_i64 w0, wf_i64 w1⟩
end
end Go.Proofs.YtkpfhnogpcigaaaDoorR
