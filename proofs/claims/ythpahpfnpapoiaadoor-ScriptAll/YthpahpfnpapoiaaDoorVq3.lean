/- Lines read one by one, as the program does it: the document's answer. What stands in cells, and what is kept besides. -/
import Derived.Test.YthpahpfnpapoiaaDoorVq2
import Derived.Test.YthpahpfnpapoiaaDoorVs0
namespace Go.Proofs.YthpahpfnpapoiaaDoor
open Go Go.RowKit Go.Shelf
set_option linter.unusedVariables false
set_option maxHeartbeats 1000000
set_option maxRecDepth 100000

/-- Lines read, all of them. -/
def rdAll : List (List UInt8) → Option (List Sn)
  | [] => some []
  | x :: r => match lineO x with | none => none | some s => (rdAll r).map (s :: ·)
theorem rdAll_snoc (a : List (List UInt8)) (x : List UInt8) (o : List Sn) (s : Sn) (h : rdAll a = some o) (hx : lineO x = some s) : rdAll (a ++ [x]) = some (o ++ [s]) := by
  induction a generalizing o with
  | nil =>
    simp only [rdAll] at h
    cases h
    simp [rdAll, hx]
  | cons y a ih =>
    simp only [rdAll] at h
    simp only [List.cons_append, rdAll]
    split at h
    · cases h
    · rename_i t ht
      obtain ⟨u, hu, e⟩ := Option.map_eq_some_iff.1 h
      subst e
      rw [ih u hu]
      rfl
theorem rdAll_len : ∀ (a : List (List UInt8)) (o : List Sn), rdAll a = some o → o.length = a.length
  | [], o, h => by simp only [rdAll] at h; cases h; rfl
  | y :: a, o, h => by
    simp only [rdAll] at h
    split at h
    · cases h
    · obtain ⟨u, hu, e⟩ := Option.map_eq_some_iff.1 h
      subst e
      rw [List.length_cons, rdAll_len a u hu, List.length_cons]
theorem lineO_good {x : List UInt8} {s : Sn} (h : lineO x = some s) : Good s := by
  unfold lineO at h
  split at h
  · exact (span_some h).2
  · cases h
def prs : List (List UInt8) → Nat → Int → List Sn → List Sn × Int × Int
  | [], i, n, out => (out, 0, 0)
  | x :: r, i, n, out => match lineO x with
    | none => ([], 71, (i : Int) + 1)
    | some s => if 4194304 < n + s.c then ([], 70, (i : Int) + 1) else prs r (i + 1) (n + s.c) (out ++ [s])
theorem sum_pos : ∀ (a : List (List UInt8)) (o : List Sn), rdAll a = some o → 0 ≤ sumC o
  | [], o, h => by simp only [rdAll] at h; cases h; exact Int.le_refl _
  | y :: a, o, h => by
    simp only [rdAll] at h
    split at h
    · cases h
    · rename_i t ht
      obtain ⟨u, hu, e⟩ := Option.map_eq_some_iff.1 h
      subst e
      have := sum_pos a u hu
      have := (lineO_good ht).c0
      simp only [sumC]
      omega
theorem prs_run : ∀ (a r : List (List UInt8)) (i : Nat) (n : Int) (out o : List Sn), rdAll a = some o → n + sumC o ≤ 4194304 → prs (a ++ r) i n out = prs r (i + a.length) (n + sumC o) (out ++ o)
  | [], r, i, n, out, o, h, hn => by
    simp only [rdAll] at h
    cases h
    simp [sumC]
  | y :: a, r, i, n, out, o, h, hn => by
    simp only [rdAll] at h
    split at h
    · cases h
    · rename_i t ht
      obtain ⟨u, hu, e⟩ := Option.map_eq_some_iff.1 h
      subst e
      have h1 := sum_pos a u hu
      simp only [sumC] at hn
      simp only [List.cons_append, prs, ht]
      rw [if_neg (by omega), prs_run a r (i + 1) (n + t.c) (out ++ [t]) u hu (by omega)]
      simp only [List.length_cons, sumC, List.append_assoc, List.singleton_append]
      congr 1 <;> omega
theorem suffix_ten (x : List UInt8) : Lib.hasSuffix (x ++ [10]) [10] = true ∧ Lib.trimSuffix (x ++ [10]) [10] = x := by
  have h : Lib.hasSuffix (x ++ [10]) [10] = true := by
    unfold Lib.hasSuffix
    rw [List.isSuffixOf_iff_suffix]
    exact ⟨x, rfl⟩
  refine ⟨h, ?_⟩
  unfold Lib.trimSuffix
  rw [if_pos h]
  simp
theorem lineO_ten (x : List UInt8) : lineO (x ++ [10]) = spanOf x := by
  unfold lineO
  rw [if_pos (suffix_ten x).1, (suffix_ten x).2]
theorem lineO_none (x : List UInt8) (h : ∀ b ∈ x, b ≠ 10) : lineO x = none := by
  unfold lineO
  rw [if_neg]
  intro hs
  unfold Lib.hasSuffix at hs
  rw [List.isSuffixOf_iff_suffix] at hs
  obtain ⟨y, e⟩ := hs
  exact h 10 (by rw [← e]; simp) rfl
theorem tail_none : ∀ (t : List UInt8), ∀ b ∈ (linesL t).2, b ≠ 10
  | [], b, hb => by simp [linesL] at hb
  | c :: t, b, hb => by
    rw [linesL_cons] at hb
    have ih := tail_none t
    split at hb
    · exact ih b hb
    · rename_i hc
      rcases hx : linesL t with ⟨ws, u⟩
      rw [hx] at hb ih
      cases ws with
      | nil =>
        simp at hb
        rcases hb with rfl | hb
        · exact hc
        · exact ih b hb
      | cons w r => exact ih b hb
theorem prs_go : ∀ (a r : List (List UInt8)) (i : Nat) (n : Int) (out : List Sn), prs (a.map (· ++ [10]) ++ r) i n out = if (parseGo a i n out).2.1 ≠ 0 then parseGo a i n out else prs r (i + a.length) (n + (sumC ((parseGo a i n out).1.drop out.length))) (parseGo a i n out).1
  | [], r, i, n, out => by simp [parseGo, sumC]
  | y :: a, r, i, n, out => by
    have eP : prs ((y :: a).map (· ++ [10]) ++ r) i n out = match spanOf y with | none => ([], 71, (i : Int) + 1) | some s => if 4194304 < n + s.c then ([], 70, (i : Int) + 1) else prs (a.map (· ++ [10]) ++ r) (i + 1) (n + s.c) (out ++ [s]) := by
      simp only [List.map_cons, List.cons_append, prs, lineO_ten]
    rw [eP]
    cases hs : spanOf y with
    | none =>
      have eG : parseGo (y :: a) i n out = ([], 71, (i : Int) + 1) := by simp only [parseGo, hs]
      rw [eG]
      simp
    | some s =>
      have eG : parseGo (y :: a) i n out = if 4194304 < n + s.c then ([], 70, (i : Int) + 1) else parseGo a (i + 1) (n + s.c) (out ++ [s]) := by simp only [parseGo, hs]
      rw [eG]
      dsimp only
      by_cases h4 : 4194304 < n + s.c
      · rw [if_pos h4, if_pos h4]; simp
      · rw [if_neg h4, if_neg h4, prs_go a r (i + 1) (n + s.c) (out ++ [s])]
        by_cases he : (parseGo a (i + 1) (n + s.c) (out ++ [s])).2.1 ≠ 0
        · rw [if_pos he, if_pos he]
        · rw [if_neg he, if_neg he]
          have he : (parseGo a (i + 1) (n + s.c) (out ++ [s])).2.1 = 0 := Decidable.of_not_not he
          rcases hp : parseGo a (i + 1) (n + s.c) (out ++ [s]) with ⟨m, e, b⟩
          rw [hp] at he
          dsimp only at he
          subst he
          obtain ⟨_, x, hm, _⟩ := parse_back a _ _ _ _ _ (by omega) hp
          dsimp only
          have e1 : List.drop (out ++ [s]).length m = x := by rw [hm]; simp
          have e2 : List.drop out.length m = s :: x := by rw [hm, List.append_assoc]; simp
          rw [e1, e2]
          simp only [sumC, List.length_cons]
          congr 1 <;> omega
theorem prs_all (t : List UInt8) (h1 : ¬ 65536 < t.length) (h2 : ¬ 4096 < (allL t).length) : parseS t = prs (allL t) 0 0 [] := by
  unfold parseS
  rw [if_neg h1, if_neg (by rw [← allL_len]; exact h2)]
  unfold allL
  rw [prs_go]
  split
  · rfl
  · rename_i he
    have he : (parseGo (linesL t).1 0 0 []).2.1 = 0 := Decidable.of_not_not he
    rcases hp : parseGo (linesL t).1 0 0 [] with ⟨m, e, b⟩
    rw [hp] at he
    dsimp only at he
    subst he
    obtain ⟨hb, _⟩ := parse_back _ _ _ _ _ _ (by decide) hp
    subst hb
    by_cases ht : (linesL t).2 = []
    · rw [if_pos ht, if_pos ht]; rfl
    · rw [if_neg ht, if_neg ht]
      simp only [prs, lineO_none _ (tail_none t)]
      unfold manyL
      rw [if_neg ht]
      simp
/-- The lines that have come. -/
def lnL {t : List UInt8} (pre : List (Ln t)) : List (List UInt8) := pre.map fun x => strL x.1.2
theorem lnL_snoc {t : List UInt8} (pre : List (Ln t)) (x : Ln t) : lnL (pre ++ [x]) = lnL pre ++ [strL x.1.2] := by simp [lnL]
theorem lnL_up {t : List UInt8} {k : Nat} {pre : List (Ln t)} (h : Up t k pre) : lnL pre = (allL t).take k := by
  apply List.ext_getElem?
  intro j
  rcases Nat.lt_or_ge j k with hj | hj
  · have hl : j < pre.length := by rw [h.1]; exact hj
    have h1 := h.2 j _ (List.getElem?_eq_getElem hl)
    rw [List.getElem?_take, if_pos hj]
    unfold lnL
    rw [List.getElem?_map, List.getElem?_eq_getElem hl]
    have h2 := pre[j].2
    rw [h1] at h2
    rw [h2]
    rfl
  · rw [List.getElem?_eq_none (by unfold lnL; rw [List.length_map, h.1]; exact hj), List.getElem?_eq_none (by rw [List.length_take]; omega)]
def GoodP {t : List UInt8} (pre : List (Ln t)) (out : List Sn) : Prop := rdAll (lnL pre) = some out ∧ sumC out ≤ 4194304
def BadP {t : List UInt8} (pre : List (Ln t)) (E A : Int) : Prop := ∃ q x out, pre = q ++ [x] ∧ GoodP q out ∧ A = (x.1.1 : Int) + 1 ∧ ((E = 71 ∧ lineO (strL x.1.2) = none) ∨ (E = 70 ∧ ∃ s, lineO (strL x.1.2) = some s ∧ 4194304 < sumC out + s.c))
theorem GoodP.nil (t : List UInt8) : GoodP (t := t) [] [] := ⟨rfl, by decide⟩
theorem GoodP.snoc {t : List UInt8} {pre : List (Ln t)} {out : List Sn} (h : GoodP pre out) (x : Ln t) (s : Sn) (hx : lineO (strL x.1.2) = some s) (hs : sumC out + s.c ≤ 4194304) : GoodP (pre ++ [x]) (out ++ [s]) := by
  refine ⟨by rw [lnL_snoc]; exact rdAll_snoc _ _ _ _ h.1 hx, ?_⟩
  rw [sumC_app]
  simp only [sumC]
  omega
theorem GoodP.len {t : List UInt8} {pre : List (Ln t)} {out : List Sn} (h : GoodP pre out) : out.length = pre.length := by
  rw [rdAll_len _ _ h.1]
  simp [lnL]
theorem good_end {t : List UInt8} {xs : List (Ln t)} {out : List Sn} (h1 : ¬ 65536 < t.length) (h2 : ¬ 4096 < (allL t).length) (hU : Up t (allL t).length xs) (h : GoodP xs out) : parseS t = (out, 0, 0) := by
  have e := lnL_up hU
  rw [List.take_length] at e
  have h3 := prs_run (lnL xs) [] 0 0 [] out h.1 (by have := h.2; omega)
  rw [List.append_nil, e] at h3
  rw [prs_all t h1 h2, h3]
  rfl
theorem bad_end {t : List UInt8} {pre : List (Ln t)} {E A : Int} {k : Nat} (h1 : ¬ 65536 < t.length) (h2 : ¬ 4096 < (allL t).length) (hU : Up t k pre) (h : BadP pre E A) : parseS t = ([], E, A) := by
  obtain ⟨q, x, out, rfl, hG, hA, hE⟩ := h
  have e := lnL_up hU
  rw [lnL_snoc] at e
  have hx : x.1.1 = q.length := hU.2 q.length x (by simp)
  have e2 : allL t = lnL q ++ (strL x.1.2 :: (allL t).drop k) := by
    conv => lhs; rw [← List.take_append_drop k (allL t), ← e]
    simp
  have hl : (lnL q).length = q.length := by simp [lnL]
  rw [prs_all t h1 h2, e2, prs_run _ _ 0 0 [] out hG.1 (by have := hG.2; omega)]
  rcases hE with ⟨rfl, hn⟩ | ⟨rfl, s, hs, h4⟩
  · simp only [prs, hn, hA, hx, hl]
    simp
  · simp only [prs, hs, hA, hx, hl]
    rw [if_pos (by omega)]
    simp
/-- Frames, and what is no cells. -/
structure Ck (w W0 : World) (va vb : Value) (A Bl : List Sn) (bs : List (Nat × Array Value × TypeId)) (y : World) : Prop where
  c : Ct w va vb A Bl bs y
  k : KeepsOthers W0 y
theorem keeps_cells {x y : World} {b : Nat} (hs : x.heap.size ≤ y.heap.size) (hb : ∀ o, x.heap[b]? = some o → o.isCells = true) (h : ∀ q, q ≠ b → q < x.heap.size → y.heap[q]? = x.heap[q]?) : KeepsOthers x y := by
  refine ⟨hs, fun k o hk ho => ?_⟩
  refine (h k (fun e => ?_) (Array.getElem?_eq_some_iff.1 hk).1).trans hk
  subst e
  rw [hb o hk] at ho
  cases ho
theorem Ck.below {w W0 y z : World} {va vb : Value} {A Bl : List Sn} {bs : List (Nat × Array Value × TypeId)} (h : Ck w W0 va vb A Bl bs y) (hb : Below y.heap.size y z) : Ck w W0 va vb A Bl bs z := ⟨h.c.below hb, h.k.trans (keeps_below hb)⟩
theorem Ck.new {w W0 y : World} {va vb : Value} {A Bl : List Sn} {bs : List (Nat × Array Value × TypeId)} (h : Ck w W0 va vb A Bl bs y) (cs : Array Value) (t : TypeId) : Ck w W0 va vb A Bl (bs ++ [(y.heap.size, cs, t)]) (y.alloc (.cells cs t)) := ⟨h.c.new cs t, h.k.trans (keeps_below (below1 y _))⟩
theorem Ck.put {w W0 y y' : World} {va vb : Value} {A Bl : List Sn} {bs : List (Nat × Array Value × TypeId)} (h : Ck w W0 va vb A Bl bs y) (i b : Nat) (cs cs' : Array Value) (t : TypeId) (hi : bs[i]? = some (b, cs, t)) (k : y'.heap[b]? = some (.cells cs' t (0, 0)) ∧ (∀ B, B ≤ b → Below B y y') ∧ ∀ q, q ≠ b → y'.heap[q]? = y.heap[q]?) : Ck w W0 va vb A Bl (bs.set i (b, cs', t)) y' :=
  ⟨h.c.put i b cs cs' t hi k, h.k.trans (keeps_cells (k.2.1 0 (Nat.zero_le _)).size (fun o ho => by rw [h.c.fm.get i b cs t hi] at ho; cases ho; rfl) (fun q hq _ => k.2.2 q hq))⟩
theorem Ck.setCell {w W0 y : World} {va vb : Value} {A Bl : List Sn} {bs : List (Nat × Array Value × TypeId)} (h : Ck w W0 va vb A Bl bs y) (i b : Nat) (cs cs' : Array Value) (t : TypeId) (hi : bs[i]? = some (b, cs, t)) (j : Nat) (v : Value) (hv : cs.setIfInBounds j v = cs') : Ck w W0 va vb A Bl (bs.set i (b, cs', t)) (y.setCell ⟨b, j, none⟩ v) := ⟨h.c.setCell i b cs cs' t hi j v hv, h.k.trans (KeepsOthers.setCell _ _ _)⟩
theorem Ck.appA {w W0 y w' : World} {va vb va' : Value} {A Bl : List Sn} {bs : List (Nat × Array Value × TypeId)} {o : Obj} {s : Sn} (h : Ck w W0 va vb A Bl bs y) (a : App1 w.heap.size va A s va' (y.alloc o) w') : Ck w W0 va' vb (A ++ [s]) Bl bs w' := by
  refine ⟨h.c.appA a, (h.k.trans (keeps_below (below1 y o))).trans ?_⟩
  have h1 := h.c.oa.alloc o
  rcases hv : va.ownBlock with _ | g
  · refine ⟨a.cu.low.size, fun k o' hk _ => (a.cu.blk k (Array.getElem?_eq_some_iff.1 hk).1 (fun j hF => by rw [hv] at hF; cases hF.1)).trans hk⟩
  · refine keeps_cells (b := g) a.cu.low.size (fun o' ho' => ?_) (fun q hq hl => a.cu.blk q hl (fun j hF => by rw [hv] at hF; cases hF.1; exact hq rfl))
    rcases h1.2 with ⟨h2, _⟩ | ⟨g', cap, cur, h2, _, hg', _⟩
    · rw [h2] at hv; cases hv
    · rw [h2] at hv
      cases hv
      rw [hg'] at ho'
      cases ho'
      rfl
theorem Ct.none {w y : World} (h : Below w.heap.size w y) : Ct w (.slice Option.none 0 0) (.slice Option.none 0 0) [] [] [] y := (Ct.nil w).below h
end Go.Proofs.YthpahpfnpapoiaaDoor
