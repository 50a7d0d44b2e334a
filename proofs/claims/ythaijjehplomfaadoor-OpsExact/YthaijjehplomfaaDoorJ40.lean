/- A region that puts something behind a row and stores the row, drawn in any order: a law of any program. Operations by themselves: what they answer. A row put behind a row, be it empty. -/
import Derived.Test.YthaijjehplomfaaDoorJ25
import Derived.Test.YthaijjehplomfaaDoorJ2
import Derived.Test.YthaijjehplomfaaDoorJ17
namespace Go.Proofs.YthaijjehplomfaaDoor
open Go Go.RowKit
set_option linter.unusedVariables false
set_option maxHeartbeats 400000
set_option maxRecDepth 20000

/-- Does an operation wait for that one? -/
def aftB (o : Oper) (q : Nat) : Bool := o.after.any fun e => Region.binds .any e && Nat.beq e.on q
theorem aftB_of {o : Oper} {q : Nat} (h : aftB o q = true) : ∃ e ∈ o.after, Region.binds .any e = true ∧ e.on = q := by
  unfold aftB at h
  rw [Array.any_eq_true] at h
  obtain ⟨i, hi, h⟩ := h
  rw [Bool.and_eq_true] at h
  exact ⟨o.after[i], Array.getElem_mem hi, h.1, Nat.eq_of_beq_eq_true h.2⟩
/-- An act as another one but for slots in a row. -/
structure FrR (b n : Nat) (A a : Act) : Prop where
  df : a.defers = A.defers
  sz : a.tmps.size = A.tmps.size
  ev : ∀ j, j < b ∨ b + n ≤ j → a.eval (.tmp j) = A.eval (.tmp j)
theorem evR_ne {a : Act} {d j : Nat} {v : Value} (h : j ≠ d) : (a.put (some d) v).eval (.tmp j) = a.eval (.tmp j) := by
  show (a.tmps.setIfInBounds d v).getD j undef = _
  rw [Array.getD_eq_getD_getElem?, Array.getElem?_setIfInBounds, if_neg (fun e => h e.symm)]
  exact (Array.getD_eq_getD_getElem? ..).symm
theorem evR_eq {a : Act} {d : Nat} {v : Value} (hd : d < a.tmps.size) : (a.put (some d) v).eval (.tmp d) = v := by
  show (a.tmps.setIfInBounds d v).getD d undef = _
  rw [Array.getD_eq_getD_getElem?, Array.getElem?_setIfInBounds, if_pos rfl, if_pos hd]
  rfl
theorem szR (x : Act) (d : Nat) (v : Value) : (x.put (some d) v).tmps.size = x.tmps.size := by show (x.tmps.setIfInBounds d v).size = _; rw [Array.size_setIfInBounds]
theorem FrR.refl (b n : Nat) (A : Act) : FrR b n A A := ⟨rfl, rfl, fun _ _ => rfl⟩
theorem FrR.put {b n : Nat} {A a : Act} (h : FrR b n A a) {i : Nat} (hi : i < n) (v : Value) : FrR b n A (a.put (some (b + i)) v) :=
  ⟨h.df, (szR ..).trans h.sz, fun j hj => (evR_ne (by omega)).trans (h.ev j hj)⟩
/-- Slots in a row put. -/
def puts (A : Act) (b : Nat) : List Value → Act
  | [] => A
  | v :: r => puts (A.put (some b) v) (b + 1) r
theorem puts_df (vs : List Value) : ∀ (A : Act) (b : Nat), (puts A b vs).defers = A.defers := by
  induction vs with
  | nil => intro A b; rfl
  | cons v r ih => intro A b; exact ih _ _
theorem puts_sz (vs : List Value) : ∀ (A : Act) (b : Nat), (puts A b vs).tmps.size = A.tmps.size := by
  induction vs with
  | nil => intro A b; rfl
  | cons v r ih => intro A b; exact (ih _ _).trans (szR ..)
theorem puts_out (vs : List Value) : ∀ (A : Act) (b j : Nat), j < b ∨ b + vs.length ≤ j → (puts A b vs).eval (.tmp j) = A.eval (.tmp j) := by
  induction vs with
  | nil => intro A b j _; rfl
  | cons v r ih =>
    intro A b j hj
    simp only [List.length_cons] at hj
    exact (ih _ _ j (by omega)).trans (evR_ne (by omega))
theorem puts_in (vs : List Value) : ∀ (A : Act) (b j : Nat) (v : Value), b + vs.length ≤ A.tmps.size → vs[j]? = some v → (puts A b vs).eval (.tmp (b + j)) = v := by
  induction vs with
  | nil => intro A b j v _ h; cases h
  | cons x r ih =>
    intro A b j v hs h
    simp only [List.length_cons] at hs
    cases j with
    | zero =>
      injection h with h
      subst h
      refine (puts_out r _ _ b (by omega)).trans (evR_eq (by omega))
    | succ j =>
      have := ih (A.put (some b) x) (b + 1) j v (by rw [szR]; omega) h
      rw [show b + 1 + j = b + (j + 1) by omega] at this
      exact this
theorem actR_ext {a b : Act} (h1 : a.defers = b.defers) (h2 : a.tmps.size = b.tmps.size) (h3 : ∀ j, a.eval (.tmp j) = b.eval (.tmp j)) : a = b := by
  obtain ⟨ta, da⟩ := a
  obtain ⟨tb, db⟩ := b
  obtain rfl : da = db := h1
  have : ta = tb := Array.ext h2 fun i hi hj => by
    have := h3 i
    have e1 : (Act.mk ta da).eval (.tmp i) = ta.getD i undef := rfl
    have e2 : (Act.mk tb da).eval (.tmp i) = tb.getD i undef := rfl
    rw [e1, e2, Array.getD, Array.getD, dif_pos hi, dif_pos hj] at this
    exact this
  rw [this]
theorem FrR.eq {b n : Nat} {A a : Act} (h : FrR b n A a) (hs : b + n ≤ A.tmps.size) : ∃ vs : List Value, vs.length = n ∧ a = puts A b vs := by
  refine ⟨(List.range n).map fun i => a.eval (.tmp (b + i)), by simp, actR_ext (h.df.trans (puts_df ..).symm) (h.sz.trans (puts_sz ..).symm) fun (j : Nat) => ?_⟩
  by_cases hj : j < b ∨ b + n ≤ j
  · exact (h.ev j hj).trans (puts_out _ _ _ _ (by simpa using hj)).symm
  · have hj1 : b ≤ j := Nat.le_of_not_lt fun h => hj (.inl h)
    have hj2 : j < b + n := Nat.lt_of_not_le fun h => hj (.inr h)
    obtain ⟨i, hi, rfl⟩ : ∃ i, i < n ∧ j = b + i := ⟨j - b, by omega, by omega⟩
    exact (puts_in _ _ _ i _ (by simpa using hs) (by rw [List.getElem?_map, List.getElem?_range hi]; rfl)).symm
section
variable {P : Program} {ops : Array Oper} {Q : Exit → Act → World → Prop}
/-- What is done has all that it waits for behind it. -/
def Clo (ops : Array Oper) (s : Array Bool) : Prop := ∀ i o q, ops[i]? = some o → s.getD i false = true → aftB o q = true → s.getD q false = true
/-- Does operation c wait for i, by way of others? -/
def ancB (ops : Array Oper) : Nat → Nat → Nat → Bool
  | 0, c, i => Nat.beq c i
  | f + 1, c, i => Nat.beq c i || (match ops[c]? with | none => false | some o => o.after.any fun e => Region.binds .any e && ancB ops f e.on i)
theorem Clo.anc {s : Array Bool} (h : Clo ops s) {i : Nat} : ∀ (f c : Nat), ancB ops f c i = true → s.getD c false = true → s.getD i false = true := by
  intro f
  induction f with
  | zero =>
    intro c hc hs
    have : c = i := Nat.eq_of_beq_eq_true hc
    rw [← this]
    exact hs
  | succ f ih =>
    intro c hc hs
    unfold ancB at hc
    rw [Bool.or_eq_true] at hc
    rcases hc with hc | hc
    · have : c = i := Nat.eq_of_beq_eq_true hc
      rw [← this]
      exact hs
    · rcases ho : ops[c]? with _ | o
      · rw [ho] at hc; cases hc
      · rw [ho] at hc
        simp only at hc
        rw [Array.any_eq_true] at hc
        obtain ⟨k, hk, hc⟩ := hc
        rw [Bool.and_eq_true] at hc
        refine ih _ hc.2 (h c o _ ho hs ?_)
        unfold aftB
        rw [Array.any_eq_true]
        exact ⟨k, hk, by rw [hc.1]; simp⟩
/-- What is known of slots ahead of an operation. -/
def Nd (b : Nat) (V : Nat → Option Value) (o : Oper) (a : Act) : Prop := ∀ q u, V q = some u → aftB o q = true → a.eval (.tmp (b + q)) = u
/-- A region of n + 1 operations with slots from b on: iB makes what is put behind, iC puts it behind, the last one stores the row; the others have the values V whenever they come, those of E ahead of iC. -/
structure ApR (P : Program) (Q : Exit → Act → World → Prop) (ops : Array Oper) (b n iB iC : Nat) (V : Nat → Option Value) (E : Nat → Bool) (A : Act) (P0 : World → Prop) (P1 P2 : Value → World → Prop) (P3 : World → Prop) : Prop where
  sz : ops.size = n + 1
  lB : iB < n
  lC : iC < n
  ne : iB ≠ iC
  nB : V iB = none
  nC : V iC = none
  ln : ∀ i v, V i = some v → i < n
  all : ∀ i, i < n → i ≠ iB → i ≠ iC → (V i).isSome = true
  hE : ∀ i, E i = true → ∃ f, ancB ops f iC i = true
  BC : ∃ f, ancB ops f iC iB = true
  CS : ∃ f, ancB ops f n iC = true
  hV : ∀ i v, V i = some v → ∃ o, ops[i]? = some o ∧ o.guard = none ∧ o.dst = some (b + i) ∧ ∀ a y, FrR b n A a → Nd b V o a → (E i = true → P0 y ∨ ∃ v, P1 v y) → (execOp a.eval o).run P y = .ok (.value v) y
  hB : ∃ o, ops[iB]? = some o ∧ ∀ a y (K : Act → World → Prop), FrR b n A a → Nd b V o a → P0 y → (∀ v z, P1 v z → K (a.put (some (b + iB)) v) z) → wpOp P ops Q iB K a y
  hC : ∃ o, ops[iC]? = some o ∧ ∀ a y (K : Act → World → Prop), FrR b n A a → Nd b V o a → P1 (a.eval (.tmp (b + iB))) y → (∀ v z, P2 v z → K (a.put (some (b + iC)) v) z) → wpOp P ops Q iC K a y
  hS : ∃ o, ops[n]? = some o ∧ ∀ a y (K : Act → World → Prop), FrR b n A a → Nd b V o a → P2 (a.eval (.tmp (b + iC))) y → (∀ z, P3 z → K a z) → wpOp P ops Q n K a y
structure ApI (ops : Array Oper) (b n iB iC : Nat) (V : Nat → Option Value) (A : Act) (P0 : World → Prop) (P1 P2 : Value → World → Prop) (P3 : World → Prop) (s : Array Bool) (a : Act) (y : World) : Prop where
  sz : s.size = n + 1
  fr : FrR b n A a
  clo : Clo ops s
  v : ∀ i u, V i = some u → s.getD i false = true → a.eval (.tmp (b + i)) = u
  p0 : s.getD iB false = false → P0 y
  p1 : s.getD iB false = true → s.getD iC false = false → P1 (a.eval (.tmp (b + iB))) y
  p2 : s.getD iC false = true → s.getD n false = false → P2 (a.eval (.tmp (b + iC))) y
  p3 : s.getD n false = true → P3 y
theorem region_app {id : Nat} {A : Act} {y0 : World} {b n iB iC : Nat} {V : Nat → Option Value} {E : Nat → Bool} {P0 : World → Prop} {P1 P2 : Value → World → Prop} {P3 : World → Prop} (hm : P.follows .mixedOrders = true) (hu : upB .any ops = true) (hA : b + n ≤ A.tmps.size)
    (R : ApR P Q ops b n iB iC V E A P0 P1 P2 P3) (h0 : P0 y0.drew) (fin : ∀ (vs : List Value) (y : World), vs.length = n → P3 y → Q .normal (puts A b vs) y) : (Code.region id ops true).wp P Q A y0 := by
  refine region_inv2 (ApI ops b n iB iC V A P0 P1 P2 P3) hm hu (fun s a y h => by rw [h.sz, R.sz]) ?_ ?_ ?_
  · have hf : ∀ j, (Array.replicate ops.size false).getD j false = false := fun j => by
      rw [Array.getD_eq_getD_getElem?, Array.getElem?_replicate]
      split <;> rfl
    exact ⟨by rw [Array.size_replicate, R.sz], FrR.refl _ _ _, fun i o q _ h => by rw [hf] at h; (cases h), fun i u _ h => by rw [hf] at h; (cases h), fun _ => h0, fun h => by rw [hf] at h; (cases h), fun h => by rw [hf] at h; (cases h), fun h => by rw [hf] at h; (cases h)⟩
  · intro s a y i o I hoi hnd haf
    have hi : i < n + 1 := by rw [← R.sz]; exact (Array.getElem?_eq_some_iff.1 hoi).1
    have hset : ∀ j, (s.setIfInBounds i true).getD j false = if j = i then true else s.getD j false := fun j => getD_set s i j (by rw [I.sz]; exact hi)
    have hsz : (s.setIfInBounds i true).size = n + 1 := by rw [Array.size_setIfInBounds]; exact I.sz
    have hclo : Clo ops (s.setIfInBounds i true) := fun i' o' q ho' h' hq => by
      rw [hset]
      by_cases hqi : q = i
      · rw [if_pos hqi]
      · rw [if_neg hqi]
        rw [hset] at h'
        by_cases hi' : i' = i
        · subst hi'
          rw [hoi] at ho'
          injection ho' with ho'
          subst ho'
          obtain ⟨e, he, hb, hq'⟩ := aftB_of hq
          rw [← hq']
          exact haf e he hb
        · rw [if_neg hi'] at h'
          exact I.clo i' o' q ho' h' hq
    have hnd2 : Nd b V o a := fun q u hq ha => by
      obtain ⟨e, he, hb, hq'⟩ := aftB_of ha
      exact I.v q u hq (by rw [← hq']; exact haf e he hb)
    have bc : s.getD iC false = true → s.getD iB false = true := fun h => by
      obtain ⟨f, hf⟩ := R.BC
      exact I.clo.anc f _ hf h
    have cs : s.getD n false = true → s.getD iC false = true := fun h => by
      obtain ⟨f, hf⟩ := R.CS
      exact I.clo.anc f _ hf h
    have bc' : (s.setIfInBounds i true).getD iC false = true → (s.setIfInBounds i true).getD iB false = true := fun h => by
      obtain ⟨f, hf⟩ := R.BC
      exact hclo.anc f _ hf h
    have cs' : (s.setIfInBounds i true).getD n false = true → (s.setIfInBounds i true).getD iC false = true := fun h => by
      obtain ⟨f, hf⟩ := R.CS
      exact hclo.anc f _ hf h
    have asz : a.tmps.size = A.tmps.size := I.fr.sz
    have lB := R.lB
    have lC := R.lC
    have ne := R.ne
    by_cases hiB : i = iB
    · subst hiB
      obtain ⟨o', ho', hw⟩ := R.hB
      rw [hoi] at ho'
      injection ho' with ho'
      subst ho'
      have nC : s.getD iC false = false := by
        rcases h : s.getD iC false with _ | _
        · rfl
        · rw [bc h] at hnd; cases hnd
      have nS : s.getD n false = false := by
        rcases h : s.getD n false with _ | _
        · rfl
        · rw [cs h] at nC; cases nC
      refine hw a y _ I.fr hnd2 (I.p0 hnd) fun v z hz => ⟨hsz, I.fr.put lB v, hclo, fun q u hq hs => ?_, fun h => ?_, fun _ _ => ?_, fun h => ?_, fun h => ?_⟩
      · have hqi : q ≠ i := fun e => by rw [e, R.nB] at hq; cases hq
        rw [hset, if_neg hqi] at hs
        exact (evR_ne (by omega)).trans (I.v q u hq hs)
      · rw [hset, if_pos rfl] at h; cases h
      · rw [evR_eq (by rw [asz]; omega)]
        exact hz
      · rw [hset, if_neg (fun e => ne e.symm), nC] at h; cases h
      · rw [hset, if_neg (by omega), nS] at h; cases h
    · by_cases hiC : i = iC
      · subst hiC
        obtain ⟨o', ho', hw⟩ := R.hC
        rw [hoi] at ho'
        injection ho' with ho'
        subst ho'
        have yB : s.getD iB false = true := by
          have := bc' (by rw [hset, if_pos rfl])
          rw [hset, if_neg ne] at this
          exact this
        have nS : s.getD n false = false := by
          rcases h : s.getD n false with _ | _
          · rfl
          · rw [cs h] at hnd; cases hnd
        refine hw a y _ I.fr hnd2 (I.p1 yB hnd) fun v z hz => ⟨hsz, I.fr.put lC v, hclo, fun q u hq hs => ?_, fun h => ?_, fun _ h => ?_, fun _ _ => ?_, fun h => ?_⟩
        · have hqi : q ≠ i := fun e => by rw [e, R.nC] at hq; cases hq
          rw [hset, if_neg hqi] at hs
          exact (evR_ne (by omega)).trans (I.v q u hq hs)
        · rw [hset, if_neg ne, yB] at h; cases h
        · rw [hset, if_pos rfl] at h; cases h
        · rw [evR_eq (by rw [asz]; omega)]
          exact hz
        · rw [hset, if_neg (by omega), nS] at h; cases h
      · by_cases hiS : i = n
        · subst hiS
          obtain ⟨o', ho', hw⟩ := R.hS
          rw [hoi] at ho'
          injection ho' with ho'
          subst ho'
          have yC : s.getD iC false = true := by
            have := cs' (by rw [hset, if_pos rfl])
            rw [hset, if_neg (fun e => hiC e.symm)] at this
            exact this
          have yB := bc yC
          refine hw a y _ I.fr hnd2 (I.p2 yC hnd) fun z hz => ⟨hsz, I.fr, hclo, fun q u hq hs => ?_, fun h => ?_, fun _ h => ?_, fun _ h => ?_, fun _ => hz⟩
          · have := R.ln q u hq
            rw [hset, if_neg (by omega)] at hs
            exact I.v q u hq hs
          · rw [hset, if_neg (fun e => hiB e.symm), yB] at h; cases h
          · rw [hset, if_neg (fun e => hiC e.symm), yC] at h; cases h
          · rw [hset, if_pos rfl] at h; cases h
        · have hin : i < n := by omega
          obtain ⟨v, hv⟩ := Option.isSome_iff_exists.1 (R.all i hin hiB hiC)
          obtain ⟨o', ho', hg, hd, hx⟩ := R.hV i v hv
          rw [hoi] at ho'
          injection ho' with ho'
          subst ho'
          have hE : E i = true → P0 y ∨ ∃ v, P1 v y := fun h => by
            have nC : s.getD iC false = false := by
              rcases hc : s.getD iC false with _ | _
              · rfl
              · obtain ⟨f, hf⟩ := R.hE i h
                rw [I.clo.anc f _ hf hc] at hnd
                cases hnd
            rcases hb : s.getD iB false with _ | _
            · exact .inl (I.p0 hb)
            · exact .inr ⟨_, I.p1 hb nC⟩
          refine wpOp_val v hoi hg (hx a y I.fr hnd2 hE) ?_
          rw [hd]
          refine ⟨hsz, I.fr.put hin v, hclo, fun q u hq hs => ?_, fun h => ?_, fun h1 h2 => ?_, fun h1 h2 => ?_, fun h => ?_⟩
          · by_cases hqi : q = i
            · subst hqi
              rw [hv] at hq
              injection hq with hq
              subst hq
              exact evR_eq (by rw [asz]; omega)
            · rw [hset, if_neg hqi] at hs
              exact (evR_ne (by omega)).trans (I.v q u hq hs)
          · rw [hset, if_neg (fun e => hiB e.symm)] at h
            exact I.p0 h
          · rw [hset, if_neg (fun e => hiB e.symm)] at h1
            rw [hset, if_neg (fun e => hiC e.symm)] at h2
            rw [evR_ne (by omega)]
            exact I.p1 h1 h2
          · rw [hset, if_neg (fun e => hiC e.symm)] at h1
            rw [hset, if_neg (fun e => hiS e.symm)] at h2
            rw [evR_ne (by omega)]
            exact I.p2 h1 h2
          · rw [hset, if_neg (fun e => hiS e.symm)] at h
            exact I.p3 h
  · intro s a y I hall
    obtain ⟨vs, hl, he⟩ := I.fr.eq hA
    rw [he]
    exact fin vs y hl (I.p3 (hall n (by rw [R.sz]; omega)))
/-- A region all of whose operations have values that hang on no order. -/
theorem region_pure {id : Nat} {A : Act} {y0 : World} {b n : Nat} {V : Nat → Option Value} (hm : P.follows .mixedOrders = true) (hu : upB .any ops = true) (hA : b + n ≤ A.tmps.size) (hsz : ops.size = n)
    (hV : ∀ i v, V i = some v → i < n ∧ ∃ o, ops[i]? = some o ∧ o.guard = none ∧ o.dst = some (b + i) ∧ ∀ a, FrR b n A a → Nd b V o a → (execOp a.eval o).run P y0.drew = .ok (.value v) y0.drew) (all : ∀ i, i < n → (V i).isSome = true)
    (fin : Q .normal (puts A b ((List.range n).map fun i => (V i).getD undef)) y0.drew) : (Code.region id ops true).wp P Q A y0 := by
  refine region_inv2 (fun s a y => s.size = n ∧ FrR b n A a ∧ y = y0.drew ∧ ∀ i u, V i = some u → s.getD i false = true → a.eval (.tmp (b + i)) = u) hm hu (fun s a y h => by rw [h.1, hsz]) ?_ ?_ ?_
  · have hf : ∀ j, (Array.replicate ops.size false).getD j false = false := fun j => by
      rw [Array.getD_eq_getD_getElem?, Array.getElem?_replicate]
      split <;> rfl
    exact ⟨by rw [Array.size_replicate, hsz], FrR.refl _ _ _, rfl, fun i u _ h => by rw [hf] at h; (cases h)⟩
  · rintro s a y i o ⟨h1, h2, rfl, h4⟩ hoi hnd haf
    have hi : i < n := by rw [← hsz]; exact (Array.getElem?_eq_some_iff.1 hoi).1
    have hset : ∀ j, (s.setIfInBounds i true).getD j false = if j = i then true else s.getD j false := fun j => getD_set s i j (by rw [h1]; exact hi)
    obtain ⟨v, hv⟩ := Option.isSome_iff_exists.1 (all i hi)
    obtain ⟨_, o', ho', hg, hd, hx⟩ := hV i v hv
    rw [hoi] at ho'
    injection ho' with ho'
    subst ho'
    have hnd2 : Nd b V o a := fun q u hq ha => by
      obtain ⟨e, he, hb, hq'⟩ := aftB_of ha
      exact h4 q u hq (by rw [← hq']; exact haf e he hb)
    refine wpOp_val v hoi hg (hx a h2 hnd2) ?_
    rw [hd]
    have asz : a.tmps.size = A.tmps.size := h2.sz
    refine ⟨by rw [Array.size_setIfInBounds]; exact h1, h2.put hi v, rfl, fun q u hq hs => ?_⟩
    by_cases hqi : q = i
    · subst hqi
      rw [hv] at hq
      injection hq with hq
      subst hq
      exact evR_eq (by rw [asz]; omega)
    · rw [hset, if_neg hqi] at hs
      exact (evR_ne (by omega)).trans (h4 q u hq hs)
  · rintro s a y ⟨h1, h2, rfl, h4⟩ hall
    have hvs : a = puts A b ((List.range n).map fun i => (V i).getD undef) := by
      refine actR_ext (h2.df.trans (puts_df ..).symm) (h2.sz.trans (puts_sz ..).symm) fun (j : Nat) => ?_
      by_cases hj : j < b ∨ b + n ≤ j
      · exact (h2.ev j hj).trans (puts_out _ _ _ _ (by simpa using hj)).symm
      · have hj1 : b ≤ j := Nat.le_of_not_lt fun h => hj (.inl h)
        have hj2 : j < b + n := Nat.lt_of_not_le fun h => hj (.inr h)
        obtain ⟨i, hi, rfl⟩ : ∃ i, i < n ∧ j = b + i := ⟨j - b, by omega, by omega⟩
        obtain ⟨v, hv⟩ := Option.isSome_iff_exists.1 (all i hi)
        rw [h4 i v hv (hall i (by omega))]
        exact (puts_in _ _ _ i v (by simpa using hA) (by rw [List.getElem?_map, List.getElem?_range hi, Option.map_some, hv]; rfl)).symm
    rw [hvs]
    exact fin
end
end Go.Proofs.YthaijjehplomfaaDoor

namespace Go.Proofs.YthaijjehplomfaaDoor
open Go Go.RowKit
set_option linter.unusedVariables false
set_option maxHeartbeats 1000000
set_option maxRecDepth 20000

section
variable {a : Act} {o : Oper} {y : World} {x z : Operand}
theorem ex_move {v : Value} (ho : o.op = .move x) (hx : a.eval x = v) : (execOp a.eval o).run Tryd.prog y = .ok (.value v) y := by
  unfold execOp
  simp only [ho, hx, Sem.run_pure]
theorem ex_nil {p : Addr} (ho : o.op = .nilCheck x) (hx : a.eval x = .pointer (some p)) : (execOp a.eval o).run Tryd.prog y = .ok (.value (.pointer (some p))) y := by
  unfold execOp
  simp only [ho, hx, Sem.run_pure]
theorem ex_ld {T : TypeId} {p : Addr} {v : Value} (hT : ∀ w, (isAgg T).run Tryd.prog w = .ok false w) (ho : o.op = .load T x) (hx : a.eval x = .pointer (some p)) (hc : y.cell? p = some v) : (execOp a.eval o).run Tryd.prog y = .ok (.value v) y := by
  unfold execOp
  simp only [ho, hx]
  simp [Instr.loadAt, loadVar, hT, hc, go_sem]
/-- A kind of one cell. -/
def StT (T : TypeId) : Prop := ∀ w : World, (sizeOf T).run Tryd.prog w = .ok 1 w
theorem stU : StT 45 := fun w => by go_simp
theorem stS : StT 70 := fun w => by go_simp
theorem stI : StT 85 := fun w => by go_simp
theorem stO : StT 86 := fun w => by go_simp
theorem ex_st {T : TypeId} {p : Addr} {sp : Option Addr} {n c : Nat} {u : Value} (hT : StT T) (ho : o.op = .store T x z) (hx : a.eval x = .pointer (some p)) (hz : a.eval z = .slice sp n c) (hc : y.cell? p = some u) (hf : y.frozen? p = false) : (execOp a.eval o).run Tryd.prog y = .ok .skip (y.setCell p (.slice sp n c)) := by
  have h := hT y
  unfold execOp
  simp only [ho, hx, hz]
  simp [Instr.storeAt, storeVar, h, hc, hf, go_sem]
theorem ex_len {j n c : Nat} {sp : Option Addr} (ho : o.op = .call { callee := .builtin .len, args := #[.tmp j], argTypes := #[45] }) (hx : a.eval (.tmp j) = .slice sp n c) : (execOp a.eval o).run Tryd.prog y = .ok (.value (.int .i64 (n : Int))) y := by
  simp only [Act.eval, Array.getD_eq_getD_getElem?] at hx
  unfold execOp
  simp only [ho]
  go_simp
theorem ex_fldP (P : Nat) (k : Nat) (hk : k < 7) (ho : o.op = .fieldAddr 88 x k) (hx : a.eval x = .pointer (some ⟨P, 0, none⟩)) : (execOp a.eval o).run Tryd.prog y = .ok (.value (.pointer (some ⟨P, k, none⟩))) y := by
  unfold execOp
  simp only [ho, hx]
  match k, hk with
  | 0, _ => show _ = _; kernel_rfl
  | 1, _ => show _ = _; kernel_rfl
  | 2, _ => show _ = _; kernel_rfl
  | 3, _ => show _ = _; kernel_rfl
  | 4, _ => show _ = _; kernel_rfl
  | 5, _ => show _ = _; kernel_rfl
  | 6, _ => show _ = _; kernel_rfl
theorem ex_fldI (P : Nat) (k : Nat) (hk : k < 4) (ho : o.op = .fieldAddr 111 x k) (hx : a.eval x = .pointer (some ⟨P, 0, none⟩)) : (execOp a.eval o).run Tryd.prog y = .ok (.value (.pointer (some ⟨P, k, none⟩))) y := by
  unfold execOp
  simp only [ho, hx]
  match k, hk with
  | 0, _ => show _ = _; kernel_rfl
  | 1, _ => show _ = _; kernel_rfl
  | 2, _ => show _ = _; kernel_rfl
  | 3, _ => show _ = _; kernel_rfl
theorem agU8 (w : World) : (isAgg 45).run Tryd.prog w = .ok false w := by go_simp
theorem agS8 (w : World) : (isAgg 70).run Tryd.prog w = .ok false w := by go_simp
theorem agI8 (w : World) : (isAgg 85).run Tryd.prog w = .ok false w := by go_simp
theorem agO8 (w : World) : (isAgg 86).run Tryd.prog w = .ok false w := by go_simp
theorem agS1 (w : World) : (isAgg 9).run Tryd.prog w = .ok false w := by go_simp
theorem agO1 (w : World) : (isAgg 28).run Tryd.prog w = .ok false w := by go_simp
theorem ex_add {j n : Nat} (hn : n ≤ 1000000) (ho : o.op = .binOp .add 3 (.const (.int .i64 512)) (.tmp j) 3) (hx : a.eval (.tmp j) = .int .i64 (n : Int)) : (execOp a.eval o).run Tryd.prog y = .ok (.value (.int .i64 ((512 + n : Nat) : Int))) y := by
  simp only [Act.eval, Array.getD_eq_getD_getElem?] at hx
  unfold execOp
  simp only [ho]
  have e : IntKind.i64.wrap (512 + (n : Int)) = ((512 + n : Nat) : Int) := by rw [IntKind.wrap_i64]; omega
  go_simp
end
end Go.Proofs.YthaijjehplomfaaDoor

namespace Go.Proofs.YthaijjehplomfaaDoor
open Go Go.RowKit
set_option linter.unusedVariables false
set_option maxHeartbeats 4000000
set_option maxRecDepth 20000

section
variable {α : Type} {T t : TypeId} {s bts : Nat} {c : α → List Value}
theorem run_app0 (K : KdL T t s bts c) (w : World) (ty : TypeId) (B : Nat) (v : Value) (l : List α) (hown : OwnL t s c B w v l) (p : Option Addr) (cp : Nat) : (Builtin.append_ #[T, T] ty #[v, .slice p 0 cp]).run Tryd.prog w = .ok v w := by
  obtain ⟨i, z, hi, hz0, hz1, hz2, hz3⟩ := K.i
  have hl : ∀ (x : Addr), (loadCells x 0).run Tryd.prog w = .ok #[] w := fun x => by simpa using run_loadCells_list (P := Tryd.prog) w x [] (by simp)
  rcases hown.2 with ⟨rfl, h0⟩ | ⟨g, cap, cur, rfl, _, _, hnc, _⟩
  · cases p <;> simp [Builtin.append_, run_underlying K.u, sizeOf, typeInfo, hi, Builtin.lenOf, Builtin.firstCells, hl]
  · cases p <;> simp [Builtin.append_, run_underlying K.u, sizeOf, typeInfo, hi, Builtin.lenOf, Builtin.firstCells, hnc, storeCells, hl]
theorem at_appA (K : KdL T t s bts c) {ops : Array Oper} {rest : List Oper} {o : Oper} {a : Act} {w : World} {Q : Exit → Act → World → Prop} (hgd : o.guard = none) (sl x : Operand)
    (ho : o.op = .call { callee := .builtin .append, args := #[sl, x], argTypes := #[T, T] }) (B : Nat) (v : Value) (l : List α) (hs : a.eval sl = v) (hown : OwnL t s c B w v l)
    (p : Option Addr) (m cm : Nat) (us : List α) (hm : us.length = m) (hx : a.eval x = .slice p m cm) (hu : LiesL s c w p us) (hn : l.length + m ≤ 100000000000) (hB : B ≤ w.heap.size)
    (k : ∀ v' w', Hid (AppNL t s c B v l us v' w w') → wpList Tryd.prog ops Q rest (a.put o.dst v') w') : wpList Tryd.prog ops Q (o :: rest) a w := by
  by_cases h0 : m = 0
  · subst h0
    have hl0 : us = [] := List.eq_nil_of_length_eq_zero hm
    subst hl0
    refine wpList_plain hgd fun K' hK => ?_
    have hrun := run_app0 K w o.type B v l hown p cm
    unfold Oper.wp
    simp [execOp, ho, resolve, invoke, builtin, hs, hx, hrun, Result.andThen]
    exact hK _ _ (k v w ⟨by rw [List.append_nil]; exact hown, fun g hg => .inl hg, CuL.refl _ _ _⟩)
  · obtain ⟨gb, ob, rfl, _⟩ := hu 0 _ (List.getElem?_eq_getElem (by omega))
    exact at_appNL K hgd sl x ho B v l hs hown gb ob m cm us hm hx hu (by omega) hn hB k
end
end Go.Proofs.YthaijjehplomfaaDoor
