/- Items that came in, and how long their parts can be. -/
import Derived.Test.YtmaedkbmjbggpaaDoorJSo
import Derived.Test.YtmaedkbmjbggpaaDoorJSv
import GoSem.ClaimJoined
import Derived.Test.YtmaedkbmjbggpaaDoorJSx
namespace Go.Proofs.YtmaedkbmjbggpaaDoor
open Go Go.RowKit Go.ChangeShapes Go.WideShapes
set_option linter.unusedVariables false
set_option maxHeartbeats 1000000
set_option maxRecDepth 20000

section
variable {H : Type} {enc : TypeId × Value → H} {w : World}
/-- What is read is of no more than an address space holds. -/
def WOk (t : TypeId) (d : DataW H) : Prop := ∀ v ∈ DataW.weights Tryd.prog t d, v ≤ reachBytes
theorem w_all {e : TypeId} : ∀ (l : List (DataW H)) (d : DataW H), d ∈ l → ∀ v ∈ DataW.weights Tryd.prog e d, v ∈ DataW.weightsAll Tryd.prog e l
  | [], d, h, _, _ => by cases h
  | x :: l, d, h, v, hv => by
    rw [DataW.weightsAll]
    rcases List.mem_cons.1 h with rfl | h
    · exact List.mem_append_left _ hv
    · exact List.mem_append_right _ (w_all l d h v hv)
theorem w_slice {T t : TypeId} (u : Tryd.prog.underlying T = some (.slice t)) {e s : List (DataW H)} (h : WOk T (.slice e s)) : (e.length + s.length) * Tryd.prog.bytesOf t ≤ reachBytes ∧ ∀ d ∈ e, WOk t d := by
  unfold WOk at h
  rw [DataW.weights, u] at h
  simp only at h
  refine ⟨h _ (by simp), fun d hd v hv => h v ?_⟩
  exact List.mem_cons_of_mem _ (List.mem_append_left _ (w_all e d hd v hv))
theorem w_row {T t : TypeId} (u : Tryd.prog.underlying T = some (.slice t)) (hb : 1 ≤ Tryd.prog.bytesOf t) {m : Nat} {a : Option Addr} {len cap : Nat} {x : DataW H × List MemPlace} (h : DataW.trod enc Tryd.prog w 0 (fun _ => true) true m T [.slice a len cap] = some x) (hw : WOk T x.1) : len ≤ reachBytes := by
  rcases Go.Deep.open_slice u h with ⟨hcs, rfl⟩ | ⟨ad, len', cap', M, n, D, Pl, hcs, _, hl, hm, hM, rfl, hx⟩
  · simp at hcs
    obtain ⟨rfl, rfl, rfl⟩ := hcs
    exact Nat.zero_le _
  · simp at hcs
    obtain ⟨rfl, rfl, rfl⟩ := hcs
    have h1 := (w_slice u hw).1
    have h2 : len ≤ (((List.range len).map D).length + ((List.range (M - len)).map fun j => D (len + j)).length) * Tryd.prog.bytesOf t := by
      refine Nat.le_trans ?_ (Nat.le_mul_of_pos_right _ hb)
      simp
    omega
theorem w_item {m : Nat} {r : Ri} {x : DataW H × List MemPlace} (h : DataW.trod enc Tryd.prog w 0 (fun _ => true) true m 39 (c6 r) = some x) (hw : WOk 39 x.1) : r.m ≤ reachBytes ∧ r.n.size ≤ reachBytes ∧ r.l.size ≤ reachBytes := by
  obtain ⟨xs, n, _, rfl, hl, hxl, hf⟩ := DataW.trod_struct Tryd.underlying39 h
  have kS : Tryd.prog.cellsOf 9 = 1 := by kernel_rfl
  have kB : Tryd.prog.cellsOf 37 = 1 := by kernel_rfl
  have g1 := hf 1 _ rfl
  have g3 := hf 3 _ rfl
  have g5 := hf 5 _ rfl
  simp [kS, c6, i6] at g1
  simp [kS, c6, i6] at g3
  simp [kB, c6, i6] at g5
  obtain ⟨x0, x1, x2, x3, x4, x5, rfl⟩ := list6 (show xs.length = 6 from hxl)
  simp at g1 g3 g5
  obtain ⟨s1, q1, e1, _⟩ := DataW.trod_string Tryd.underlying9 g1
  obtain ⟨s3, q3, e3, _⟩ := DataW.trod_string Tryd.underlying9 g3
  simp at q1 q3
  subst q1 q3 e1 e3
  unfold WOk at hw
  simp only [List.map_cons, List.map_nil] at hw
  rw [DataW.weights, Tryd.underlying39] at hw
  simp only [List.map_cons, List.map_nil, DataW.weightsEach] at hw
  have e1 : DataW.weights Tryd.prog 9 (.lit (.string r.n.data.toList) : DataW H) = [r.n.size] := by rw [DataW.weights]; exact congrArg (fun k => [k]) (strL_len r.n)
  have e3 : DataW.weights Tryd.prog 9 (.lit (.string r.l.data.toList) : DataW H) = [r.l.size] := by rw [DataW.weights]; exact congrArg (fun k => [k]) (strL_len r.l)
  rw [e1, e3] at hw
  refine ⟨w_row Tryd.underlying37 (by decide +kernel) g5 (fun v hv => hw v (by simp [hv])), hw _ (by simp), hw _ (by simp)⟩
/-- A list of items: no part is longer than an address space. -/
theorem items_near {m : Nat} {a : Option Addr} {len cap : Nat} {x : DataW H × List MemPlace} {l : List Ri} (h : DataW.trod enc Tryd.prog w 0 (fun _ => true) true m 22 [.slice a len cap] = some x) (hl : LI w a l) (hn : l.length = len) (hw : WOk 22 x.1) : Near l ∧ l.length ≤ 140737488351232 := by
  have hr : reachBytes = 140737488351232 := by decide
  refine ⟨?_, by have := w_row Tryd.underlying22 (by decide +kernel) h hw; omega⟩
  rcases Go.Deep.open_slice Tryd.underlying22 h with ⟨hcs, rfl⟩ | ⟨ad, len', cap', M, n, D, Pl, hcs, _, hl', hm, hM, rfl, hx⟩
  · simp at hcs
    obtain ⟨rfl, rfl, rfl⟩ := hcs
    have : l = [] := List.length_eq_zero_iff.1 hn
    subst this
    intro r h
    cases h
  · simp at hcs
    obtain ⟨rfl, rfl, rfl⟩ := hcs
    have hd := (w_slice Tryd.underlying22 hw).2
    intro r hr0
    obtain ⟨k, hk0, hk1⟩ := List.getElem_of_mem hr0
    have hk : l[k]? = some r := by rw [List.getElem?_eq_getElem hk0, hk1]
    obtain ⟨cs, h1, h2⟩ := hx k (by simp at hM; omega)
    obtain ⟨g, o, e, hc⟩ := hl k r hk
    have e6 : Tryd.prog.cellsOf 39 = 6 := by kernel_rfl
    injection e with e
    subst e
    rw [e6, addM] at h1
    obtain ⟨_, hlen, hcc⟩ := World.cells?_some h1
    have ecs : cs = c6 r := by
      apply List.ext_getElem?
      intro i
      by_cases hi : i < 6
      · have h3 := hcc i hi
        rw [addM] at h3
        obtain ⟨v, hv⟩ := some_of (show (c6 r).length = 6 from rfl) hi
        rw [hv, ← hc i v hv]
        exact h3.symm
      · rw [List.getElem?_eq_none (by omega), List.getElem?_eq_none (by show 6 ≤ i; omega)]
    subst ecs
    have := w_item (x := (D k, Pl k)) h2 (hd (D k) (List.mem_map_of_mem (by simp; omega)))
    rw [hr] at this
    exact this
end
end Go.Proofs.YtmaedkbmjbggpaaDoor
/- What is asked of lending holds of items of few bytes in all. -/
namespace Go.Proofs.YtmaedkbmjbggpaaDoor
open Go Go.RowKit
set_option linter.unusedVariables false
set_option maxHeartbeats 400000
set_option maxRecDepth 20000

theorem sumV_of (l : List Ri) : 16 * l.length ≤ sumV l ∧ ∀ r ∈ l, r.m ≤ sumV l := by
  induction l with
  | nil => exact ⟨Nat.le_refl _, fun r h => by cases h⟩
  | cons x l ih =>
    have e : sumV (x :: l) = oneV x + sumV l := by simp [sumV]
    refine ⟨?_, fun r hr => ?_⟩
    · rw [e, List.length_cons]
      unfold oneV
      have := ih.1
      omega
    · rcases List.mem_cons.1 hr with rfl | h
      · rw [e]; unfold oneV; omega
      · rw [e]; have := ih.2 r h; omega
/-- Lent: the items X, from block g on. -/
def LTx (w : World) (L : List Itm) (g : Nat) (X : List Itm) (y : World) : Prop := w.heap.size ≤ g ∧ Lt0 g X [m77, m78] y ∧ X.map pu = L.map pu ∧ ∀ x ∈ X, x.1.a ≤ 9223372036854775807
theorem lends (w : World) (sp : Option Addr) (cap : Nat) (L : List Itm) (hL : Lv w sp L) (hs : sumV (L.map (·.1)) ≤ 134217728) : Lends w sp cap L (LTx w L) := by
  obtain ⟨k1, k2⟩ := sumV_of (L.map (·.1))
  have hn : L.length ≤ 8388608 := by rw [List.length_map] at k1; omega
  have hm : ∀ x ∈ L, x.1.m ≤ 134217728 := fun x hx => Nat.le_trans (k2 x.1 (List.mem_map_of_mem hx)) hs
  refine ⟨fun v hv => ?_, fun g X y z h hb => ⟨h.1, h.2.1.below hb, h.2.2⟩, fun v g X hv h => ?_, fun v g X hv h => ?_⟩
  · have hl := hL.below hv
    refine (lent_any v sp cap L hl.l (fun x hx => ⟨(hl.g x hx).1, (hl.g x hx).2, hl.a x hx, hm x hx⟩) hn).mono ?_
    rintro e w' ⟨X, rfl, H⟩
    obtain ⟨h1, h2, h3, h4, h5⟩ := H.out
    exact ⟨X, v.heap.size, by rw [h4], h1, ⟨h2.li, h2.good, h5⟩, h3, hv.size, h2, h3, h5⟩
  · have hl := hL.below hv
    exact kept_any v g X sp cap L h.2.1 ⟨hl.l, hl.g⟩ h.2.2.1 hn hm
  · have hxl : X.length = L.length := by have := congrArg List.length h.2.2.1; simpa using this
    have hxm : ∀ x ∈ X, x.1.m ≤ 134217728 := fun x hx => by
      obtain ⟨j, hj⟩ := List.getElem?_of_mem hx
      obtain ⟨y, hy⟩ : ∃ y, L[j]? = some y := ⟨_, List.getElem?_eq_getElem (by have := (List.getElem?_eq_some_iff.1 hj).1; omega)⟩
      have hxy : pu x = pu y := by
        have h := congrArg (fun l : List Pu => l[j]?) h.2.2.1
        simp only [List.getElem?_map, hj, hy] at h
        simpa using h
      have hb : x.2 = y.2 := congrArg Pu.b hxy
      have e1 := (h.2.1.good x hx).2
      have e2 := (hL.g y (List.mem_of_getElem? hy)).2
      have e3 := hm y (List.mem_of_getElem? hy)
      rw [hb] at e1
      omega
    refine (turns_any w v g [m77, m78] X h.1 ⟨h.2.1, rfl, hv, h.2.2.2, hxm⟩ rfl (by omega)).mono ?_
    rintro e w' ⟨rfl, H⟩
    obtain ⟨Y, hY⟩ := H.out
    exact ⟨rfl, hY.low, Y, hY.len, hY.lt.li, hY.lt.good, hY.a⟩
end Go.Proofs.YtmaedkbmjbggpaaDoor
