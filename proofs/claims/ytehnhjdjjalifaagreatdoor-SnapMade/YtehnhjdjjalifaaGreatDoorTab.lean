/- What a listed table of plain data holds, cell by cell: integers, bools and texts, in arrays and structs. -/
import Derived.OpenShut
import Derived.ChangeArms
import Derived.LaidLaws
namespace Go.Proofs.YtehnhjdjjalifaaGreatDoor
open Go

/-- Every reading of a type's cells says what the cells are. -/
def Reads (P : Program) (t : TypeId) (f : DataW Unit → List Value) : Prop :=
  ∀ (w : World) (base : Nat) (sp : Nat → Bool) (held : Bool) (fuel : Nat) (cs : List Value) (d : DataW Unit) (p : List MemPlace),
    DataW.trod (fun _ => ()) P w base sp held fuel t cs = some (d, p) → cs = f d

def cell1 : DataW Unit → List Value
  | .lit (.int k z) => [.int k z]
  | .lit (.bool b) => [.bool b]
  | .lit (.string l) => [.string ⟨l.toArray⟩]
  | _ => []
def parts (f : DataW Unit → List Value) : DataW Unit → List Value
  | .agg l => l.flatMap f
  | _ => []

theorem reads_int {P : Program} {t : TypeId} {k : IntKind} (h : P.underlying t = some (.int k)) : Reads P t cell1 := by
  intro w base sp held fuel cs d p e
  obtain ⟨n, rfl, hx, _⟩ := DataW.trod_int h e
  obtain ⟨rfl, _⟩ := Prod.mk.inj hx
  rfl
theorem reads_bool {P : Program} {t : TypeId} (h : P.underlying t = some .bool) : Reads P t cell1 := by
  intro w base sp held fuel cs d p e
  obtain ⟨n, rfl, hx⟩ := DataW.trod_bool h e
  obtain ⟨rfl, _⟩ := Prod.mk.inj hx
  rfl
theorem reads_string {P : Program} {t : TypeId} (h : P.underlying t = some .string) : Reads P t cell1 := by
  intro w base sp held fuel cs d p e
  obtain ⟨n, rfl, hx, _⟩ := DataW.trod_string h e
  obtain ⟨rfl, _⟩ := Prod.mk.inj hx
  simp [cell1]

/-- Pieces that follow on one another are the whole. -/
theorem pieces (f : DataW Unit → List Value) : ∀ (L : List (Nat × Nat)) (xs : List (DataW Unit × List MemPlace)) (cs : List Value) (at0 : Nat),
    xs.length = L.length → (∀ (i : Nat) x, L[i]? = some x → ∃ y, xs[i]? = some y ∧ (cs.drop x.1).take x.2 = f y.1) →
    (∀ (i : Nat) x, L[i]? = some x → x.1 = at0 + ((L.take i).map (·.2)).sum) → cs.length ≤ at0 + (L.map (·.2)).sum → cs.drop at0 = (xs.map (·.1)).flatMap f
  | [], [], cs, at0, _, _, _, hc => by
    simp at hc
    simp [List.drop_eq_nil_of_le hc]
  | [], _ :: _, _, _, hl, _, _, _ => by simp at hl
  | _ :: _, [], _, _, hl, _, _, _ => by simp at hl
  | (o, s) :: L, y :: xs, cs, at0, hl, hp, ho, hc => by
    have h0 := ho 0 (o, s) rfl
    simp at h0
    subst h0
    obtain ⟨y', hy, hv⟩ := hp 0 (o, s) rfl
    simp at hy
    subst hy
    have ih := pieces f L xs cs (o + s) (by simpa using hl) (fun i x hx => by simpa using hp (i + 1) x (by simpa using hx))
      (fun i x hx => by have := ho (i + 1) x (by simpa using hx); simp at this; rw [← List.map_take] at this; omega) (by simp at hc; omega)
    simp only [List.map_cons, List.flatMap_cons]
    rw [← ih, ← hv, ← List.drop_drop]
    exact (List.take_append_drop s _).symm

theorem reads_array {P : Program} {t e : TypeId} {n : Nat} {f : DataW Unit → List Value} (h : P.underlying t = some (.array n e)) (hc : P.cellsOf t = n * P.cellsOf e) (hf : Reads P e f) : Reads P t (parts f) := by
  intro w base sp held fuel cs d p hh
  obtain ⟨xs, m, rfl, hx, hl, hn, hi⟩ := DataW.trod_array h hh
  obtain ⟨rfl, _⟩ := Prod.mk.inj hx
  have := pieces f ((List.range n).map fun i => (i * P.cellsOf e, P.cellsOf e)) xs cs 0 (by simpa using hn)
    (fun i x hx => by
      by_cases hin : i < n
      · simp [hin] at hx
        subst hx
        have h1 := hi i hin
        have h2 : i < xs.length := by omega
        rw [List.getElem?_eq_getElem h2] at h1 ⊢
        exact ⟨_, rfl, hf w base sp held m _ _ _ h1⟩
      · simp [hin] at hx)
    (fun i x hx => by
      by_cases hin : i < n
      · simp [hin] at hx
        subst hx
        simp only [← List.map_take, List.map_map, Nat.zero_add]
        rw [show ((fun x : Nat × Nat => x.2) ∘ fun i => (i * P.cellsOf e, P.cellsOf e)) = fun _ => P.cellsOf e from rfl, List.map_const', List.sum_replicate_nat]
        simp
        rw [Nat.min_eq_left (by omega)]
      · simp [hin] at hx)
    (by
      simp only [List.map_map, Nat.zero_add]
      rw [show ((fun x : Nat × Nat => x.2) ∘ fun i => (i * P.cellsOf e, P.cellsOf e)) = fun _ => P.cellsOf e from rfl, List.map_const', List.sum_replicate_nat]
      simp
      omega)
  simpa [parts] using this

theorem reads_struct {P : Program} {t : TypeId} {fs : Array Field} {f : DataW Unit → List Value} (h : P.underlying t = some (.struct fs))
    (ho : ∀ (i : Nat) x, (fs.toList.map fun x => (x.offset, P.cellsOf x.type))[i]? = some x → x.1 = 0 + (((fs.toList.map fun x => (x.offset, P.cellsOf x.type)).take i).map (·.2)).sum)
    (hc : P.cellsOf t = ((fs.toList.map fun x => (x.offset, P.cellsOf x.type)).map (·.2)).sum) (hf : ∀ x ∈ fs.toList, Reads P x.type f) : Reads P t (parts f) := by
  intro w base sp held fuel cs d p hh
  obtain ⟨xs, m, rfl, hx, hl, hn, hi⟩ := DataW.trod_struct h hh
  obtain ⟨rfl, _⟩ := Prod.mk.inj hx
  have := pieces f (fs.toList.map fun x => (x.offset, P.cellsOf x.type)) xs cs 0 (by simpa using hn)
    (fun i x hx => by
      rw [List.getElem?_map, Option.map_eq_some_iff] at hx
      obtain ⟨fl, hfl, rfl⟩ := hx
      have h1 := hi i fl (by simpa using hfl)
      have h2 : i < xs.length := by
        have : i < fs.toList.length := by
          rcases Nat.lt_or_ge i fs.toList.length with h | h
          · exact h
          · rw [List.getElem?_eq_none h] at hfl; cases hfl
        simpa [hn] using this
      rw [List.getElem?_eq_getElem h2] at h1 ⊢
      exact ⟨_, rfl, hf fl (List.mem_of_getElem? hfl) w base sp held m _ _ _ h1⟩) ho (by omega)
  simpa [parts] using this

/-- The variable's cells, where it stands on the list. -/
theorem var_of_laid {P : Program} {W : World} {t : TypeId} {f : DataW Unit → List Value} {g : Nat} {name : String} {d : DataW Unit} (hg : P.globalNamed name = some g) (hty : (P.globals[g]?).map (·.type) = some t) (hf : Reads P t f) :
    ∀ {l : List (String × DataW Unit)} {ps : List MemPlace}, DataW.LaidVars P W l ps → (name, d) ∈ l → W.var? P name = some (f d).toArray
  | [], _, _, hm => by cases hm
  | (n, d') :: r, ps, h, hm => by
    obtain ⟨g', t', cs, fuel, p, q, hg', ht', hvar, hd, hr, _⟩ := h
    rcases List.mem_cons.1 hm with e | hm'
    · obtain ⟨rfl, rfl⟩ := Prod.mk.inj e
      obtain rfl := Option.some.inj (hg.symm.trans hg')
      obtain rfl := Option.some.inj (hty.symm.trans ht')
      rw [hvar, ← hf _ _ _ _ _ _ _ _ hd]
    · exact var_of_laid hg hty hf hr hm'
end Go.Proofs.YtehnhjdjjalifaaGreatDoor
