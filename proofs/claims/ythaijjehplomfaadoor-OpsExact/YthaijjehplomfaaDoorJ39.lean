/- A program's lines as the document takes them up, plain, against what the program takes up. The document's own: what a program has so far: seven rows side by side. The document's own: a program's rows beside the item of a line. Rows of strings, of integers and of an order's names: what an append of one asks. -/
import Derived.Test.YthaijjehplomfaaDoorJ38
namespace Go.Proofs.YthaijjehplomfaaDoor
open Go Go.RowKit
set_option linter.unusedVariables false
set_option maxHeartbeats 1000000
set_option maxRecDepth 20000

/-- What the document's program has: bytes, names with addresses, orders that ask. -/
abbrev Std : Type := List UInt8 × List (ByteArray × Nat) × List Us
def itD (n : Nat) (x : It) (t : Std) : Std :=
  (t.1 ++ x.1, (if x.2.1 = ⟨#[]⟩ then t.2.1 else t.2.1 ++ [(x.2.1, 512 + t.1.length)]), if x.2.2.1 = ⟨#[]⟩ then t.2.2 else t.2.2 ++ [⟨n, t.1.length, useO x.2.2.2, x.2.2.1⟩])
/-- One line of the document's. -/
def stepD (n : Nat) (l : List UInt8) (t : Std) : (Nat × Nat) ⊕ Std :=
  match wordsA l with
  | [] => .inr t
  | s :: r => match itW s r with
    | none => .inl (161, n)
    | some x => if ¬ x.2.1 = ⟨#[]⟩ ∧ ¬ lookN t.2.1 x.2.1 = none then .inl (161, n) else if 3232 < t.1.length + x.1.length then .inl (2, n) else .inr (itD n x t)
structure Rel (a : Sta) (d : Std) : Prop where
  al : AlB a.2.2 a.1 d.1
  nm : ∀ s, a.2.1 s = lookN d.2.1 s
  us : d.2.2 = a.2.2
theorem rel0 : Rel ([], fun _ => none, []) ([], [], []) := ⟨⟨rfl, fun _ _ => rfl⟩, fun _ => rfl, rfl⟩
/-- What items there are. -/
theorem itW_shape {s : ByteArray} {r : List ByteArray} {x : It} (h : itW s r = some x) : (∃ lb, x = ([], lb, ⟨#[]⟩, 0) ∧ isNm lb = true) ∨ (∃ d, x = (d, ⟨#[]⟩, ⟨#[]⟩, 0)) ∨ ∃ i lb, x = ([0, 0], ⟨#[]⟩, lb, opR i) ∧ i < 31 ∧ isNm lb = true := by
  unfold itW at h
  split at h
  · split at h
    · rename_i hn
      injection h with h
      exact .inl ⟨_, h.symm, hn⟩
    · cases h
  · split at h
    · split at h
      · cases h
      · rcases hd : datW r with _ | d
        · rw [hd] at h; cases h
        · rw [hd] at h
          injection h with h
          exact .inr (.inl ⟨d, h.symm⟩)
    · split at h
      · rcases ht : toI s with _ | i
        · rw [ht] at h; cases h
        · rw [ht] at h
          simp only at h
          split at h
          · rename_i hn
            injection h with h
            exact .inr (.inr ⟨i, _, h.symm, (fstI_of ht).1, hn⟩)
          · cases h
      · rcases ho : rdO ((s :: r).map (·.data.toList)) with _ | o
        · rw [ho] at h; cases h
        · rw [ho] at h
          injection h with h
          exact .inr (.inl ⟨_, h.symm⟩)
def RelE : (Nat × Nat) ⊕ Sta → (Nat × Nat) ⊕ Std → Prop
  | .inl e, .inl f => e = f
  | .inr a, .inr d => Rel a d ∧ a.1.length ≤ 3232
  | _, _ => False
theorem step_rel (n : Nat) (l : List UInt8) {a : Sta} {d : Std} (h : Rel a d) (ha : a.1.length ≤ 3232) : RelE (stepL n l a) (stepD n l d) := by
  unfold stepL stepD
  rcases wordsA l with _ | ⟨s, r⟩
  · exact ⟨h, ha⟩
  · simp only
    rw [takP_itW]
    have hl : d.1.length = a.1.length := h.al.1.symm
    rcases hi : itW s r with _ | x
    · exact rfl
    · simp only
      rcases itW_shape hi with ⟨lb, rfl, hn⟩ | ⟨b, rfl⟩ | ⟨i, lb, rfl, hi31, hn⟩
      · have hlb := isNm_ne hn
        unfold itS
        simp only
        rw [if_pos (show lb ≠ ⟨#[]⟩ from hlb)]
        by_cases hF : a.2.1 lb = none
        · rw [if_pos hF]
          have hF' : lookN d.2.1 lb = none := by rw [← h.nm, hF]
          rw [if_neg fun e => e.2 hF']
          simp only
          rw [if_neg (by omega), if_neg (by simp only [List.length_nil]; omega)]
          refine ⟨⟨?_, fun t => ?_, ?_⟩, ha⟩
          · show AlB a.2.2 a.1 (d.1 ++ [])
            rw [List.append_nil]
            exact h.al
          · show putN a.2.1 lb (512 + a.1.length) t = lookN (if lb = ⟨#[]⟩ then d.2.1 else d.2.1 ++ [(lb, 512 + d.1.length)]) t
            rw [if_neg hlb, lookN_app _ _ _ _ hF', hl]
            unfold putN
            split
            · rfl
            · exact h.nm t
          · simpa [itD] using h.us
        · rw [if_neg hF]
          have hF' : ¬ lookN d.2.1 lb = none := by rw [← h.nm]; exact hF
          rw [if_pos ⟨hlb, hF'⟩]
          exact rfl
      · unfold itS
        simp only
        rw [if_neg (fun e => e rfl), if_neg (fun e => e rfl), if_neg (by simp)]
        simp only [List.length_append]
        rw [hl]
        by_cases hg : 3232 < a.1.length + b.length
        · rw [if_pos hg, if_pos hg]
          exact rfl
        · rw [if_neg hg, if_neg hg]
          refine ⟨⟨h.al.app b, fun t => ?_, ?_⟩, by simp only [List.length_append]; omega⟩
          · simpa [itD] using h.nm t
          · simpa [itD] using h.us
      · have hlb := isNm_ne hn
        unfold itS
        simp only
        rw [if_neg (fun e => e rfl), if_pos (show lb ≠ ⟨#[]⟩ from hlb), if_neg (by simp)]
        simp only [List.length_append]
        rw [hl, encB_len]
        show RelE (if 3232 < a.1.length + 2 then _ else _) (if 3232 < a.1.length + 2 then _ else _)
        by_cases hg : 3232 < a.1.length + 2
        · rw [if_pos hg, if_pos hg]
          exact rfl
        · rw [if_neg hg, if_neg hg]
          refine ⟨⟨h.al.more ⟨n, a.1.length, useO (opR i), lb⟩ rfl _ _ _ _, fun t => ?_, ?_⟩, by simp only [List.length_append, encB_len]; omega⟩
          · simpa [itD] using h.nm t
          · show (if lb = ⟨#[]⟩ then d.2.2 else d.2.2 ++ [⟨n, d.1.length, useO (opR i), lb⟩]) = a.2.2 ++ _
            rw [if_neg hlb, h.us, hl]
def linesD : Nat → List (List UInt8) → Std → (Nat × Nat) ⊕ Std
  | _, [], t => .inr t
  | n, l :: ls, t => match stepD n l t with
    | .inl e => .inl e
    | .inr t' => linesD (n + 1) ls t'
theorem lines_rel : ∀ (ls : List (List UInt8)) (n : Nat) {a : Sta} {d : Std}, Rel a d → a.1.length ≤ 3232 → RelE (linesP n ls a) (linesD n ls d) := by
  intro ls
  induction ls with
  | nil => intro n a d h ha; exact ⟨h, ha⟩
  | cons l ls ih =>
    intro n a d h ha
    have hs := step_rel n l h ha
    unfold linesP linesD
    rcases h1 : stepL n l a with e | a' <;> rcases h2 : stepD n l d with f | d' <;> rw [h1, h2] at hs
    · exact hs
    · exact absurd hs id
    · exact absurd hs id
    · exact ih (n + 1) hs.1 hs.2
def endD (t : Std) : (Nat × Nat) ⊕ List UInt8 := match setP (lookN t.2.1) t.2.2 t.1 with
  | .inl n => .inl (160, n)
  | .inr bs => .inr bs
theorem end_rel {a : Sta} {d : Std} (h : Rel a d) : endP a = endD d := by
  unfold endP endD
  rw [show a.2.1 = lookN d.2.1 from funext h.nm, h.us, setP_al _ _ _ _ h.al]
  rcases setP (lookN d.2.1) a.2.2 d.1 with _ | _ <;> rfl
/-- A text's program by the document, plain. -/
def progD (s : List UInt8) : (Nat × Nat) ⊕ List UInt8 :=
  if 65536 < s.length then .inl (2, 0) else match linesD 1 (lnsG s []) ([], [], []) with
  | .inl e => .inl e
  | .inr t => endD t
theorem prog_rel (s : List UInt8) : progP s = progD s := by
  unfold progP progD
  split
  · rfl
  · have h := lines_rel (lnsG s []) 1 rel0 (by decide)
    rcases h1 : linesP 1 (lnsG s []) ([], fun _ => none, []) with e | a <;> rcases h2 : linesD 1 (lnsG s []) ([], [], []) with f | d <;> rw [h1, h2] at h
    · exact congrArg _ h
    · exact absurd h id
    · exact absurd h id
    · exact end_rel h.1
/-- What is so of what the document's lines have told. -/
structure DOk (t : Std) : Prop where
  by' : t.1.length ≤ 3232
  us : 2 * t.2.2.length ≤ t.1.length
  go : ∀ u ∈ t.2.2, ∃ i, i < 31 ∧ u.o = useO (opR i) ∧ u.pl + 1 < t.1.length
  lb : ∀ s a, lookN t.2.1 s = some a → a < 65536
theorem dok0 : DOk ([], [], []) := ⟨by decide, by decide, fun u hu => by simp at hu, fun s a h => by cases h⟩
theorem DOk.step {n : Nat} {l : List UInt8} {t t' : Std} (h : DOk t) (k : stepD n l t = .inr t') : DOk t' := by
  unfold stepD at k
  rcases hw : wordsA l with _ | ⟨s, r⟩
  · rw [hw] at k
    injection k with k
    rw [← k]
    exact h
  · rw [hw] at k
    simp only at k
    rcases hi : itW s r with _ | x
    · rw [hi] at k; cases k
    · rw [hi] at k
      simp only at k
      split at k
      · cases k
      · rename_i hnew
        split at k
        · cases k
        · rename_i hg
          injection k with k
          subst k
          refine ⟨by show (t.1 ++ x.1).length ≤ 3232; rw [List.length_append]; omega, ?_, ?_, ?_⟩
          · show 2 * (if x.2.2.1 = ⟨#[]⟩ then t.2.2 else _).length ≤ (t.1 ++ x.1).length
            have := h.us
            rw [List.length_append]
            split
            · omega
            · rename_i hne
              rcases itW_shape hi with ⟨lb, rfl, hn⟩ | ⟨b, rfl⟩ | ⟨i, lb, rfl, hi31, hn⟩
              · exact absurd rfl hne
              · exact absurd rfl hne
              · simp only [List.length_append, List.length_cons, List.length_nil]
                omega
          · intro u hu
            have hu' : u ∈ (if x.2.2.1 = ⟨#[]⟩ then t.2.2 else t.2.2 ++ [⟨n, t.1.length, useO x.2.2.2, x.2.2.1⟩]) := hu
            have old : u ∈ t.2.2 → ∃ i, i < 31 ∧ u.o = useO (opR i) ∧ u.pl + 1 < (itD n x t).1.length := fun hm => by
              obtain ⟨i, h1, h2, h3⟩ := h.go u hm
              refine ⟨i, h1, h2, ?_⟩
              show _ < (t.1 ++ x.1).length
              rw [List.length_append]
              omega
            split at hu'
            · exact old hu'
            · rename_i hne
              rcases List.mem_append.1 hu' with hm | hm
              · exact old hm
              · rw [List.mem_singleton] at hm
                subst hm
                rcases itW_shape hi with ⟨lb, rfl, hn⟩ | ⟨b, rfl⟩ | ⟨i, lb, rfl, hi31, hn⟩
                · exact absurd rfl hne
                · exact absurd rfl hne
                · refine ⟨i, hi31, rfl, ?_⟩
                  show t.1.length + 1 < (t.1 ++ [0, 0]).length
                  rw [List.length_append]
                  show _ < _ + 2
                  omega
          · intro s' a ha
            have ha' : lookN (if x.2.1 = ⟨#[]⟩ then t.2.1 else t.2.1 ++ [(x.2.1, 512 + t.1.length)]) s' = some a := ha
            split at ha'
            · exact h.lb s' a ha'
            · rename_i hne
              have hno : lookN t.2.1 x.2.1 = none := by
                rcases hq : lookN t.2.1 x.2.1 with _ | q
                · rfl
                · exact absurd ⟨hne, by rw [hq]; simp⟩ hnew
              rw [lookN_app _ _ _ _ hno] at ha'
              unfold putN at ha'
              split at ha'
              · injection ha' with ha'
                have := h.by'
                omega
              · exact h.lb s' a ha'
end Go.Proofs.YthaijjehplomfaaDoor

namespace Go.Proofs.YthaijjehplomfaaDoor
open Go Go.RowKit
set_option linter.unusedVariables false
set_option maxHeartbeats 1000000
set_option maxRecDepth 20000

/-- A row of single cells, told by what lies in them. -/
def one1 (v : Value) : List Value := [v]
theorem rowL_one1 (l : List Value) : rowL one1 l = l := by
  induction l with
  | nil => rfl
  | cons x r ih => rw [rowL_cons, ih]; rfl
theorem rowL_map {α : Type} (c : α → Value) (l : List α) : rowL (fun a => [c a]) l = l.map c := by
  induction l with
  | nil => rfl
  | cons x r ih => rw [rowL_cons, ih]; rfl
theorem OwnL.vals {α : Type} {t : TypeId} {c : α → Value} {B : Nat} {w : World} {v : Value} {l : List α} : OwnL t 1 (fun a => [c a]) B w v l ↔ OwnL t 1 one1 B w v (l.map c) := by
  unfold OwnL
  rw [rowL_one1, rowL_map, List.length_map]
def tyQ (k : Nat) : TypeId := if k = 0 then 5 else if k = 1 ∨ k = 3 then 9 else if k = 4 then 28 else 3
def upQ {α : Type} (f : Nat → α) (k : Nat) (x : α) (j : Nat) : α := if j = k then x else f j
theorem upQ_same {α : Type} (f : Nat → α) (k : Nat) (x : α) : upQ f k x k = x := if_pos rfl
theorem upQ_other {α : Type} (f : Nat → α) (k : Nat) (x : α) {j : Nat} (h : j ≠ k) : upQ f k x j = f j := if_neg h
def bxQ (v : Nat → Value) : Array Value := #[v 0, v 1, v 2, v 3, v 4, v 5, v 6]
/-- A program's box: bytes, names, addresses, names asked for, their orders, places, lines. -/
structure Qp (w : World) (P : Nat) (v : Nat → Value) (vs : Nat → List Value) (y : World) : Prop where
  box : Bx y P (bxQ v) 88
  own : ∀ k, k < 7 → OwnL (tyQ k) 1 one1 w.heap.size y (v k) (vs k)
  ap : ∀ i j g, i < 7 → j < 7 → i ≠ j → (v i).ownBlock = some g → (v j).ownBlock ≠ some g
  gP : w.heap.size ≤ P
  low : Below w.heap.size w y
theorem tyQ_ne (k : Nat) : tyQ k ≠ 88 := by
  unfold tyQ
  split
  · decide
  · split
    · decide
    · split <;> decide
theorem Qp.off {w : World} {P : Nat} {v : Nat → Value} {vs : Nat → List Value} {y : World} (h : Qp w P v vs y) (k : Nat) (hk : k < 7) : (v k).ownBlock ≠ some P := fun e => by
  obtain ⟨cs, hx⟩ := (h.own k hk).ty P e
  exact absurd rfl (Bx.unlike hx h.box (tyQ_ne k))
theorem Qp.keep {w : World} {P : Nat} {v : Nat → Value} {vs : Nat → List Value} {y z : World} (h : Qp w P v vs y) (hb : Below y.heap.size y z) : Qp w P v vs z :=
  ⟨(hb.block _ (heap_lt h.box)).trans h.box, fun k hk => (h.own k hk).below hb, h.ap, h.gP, h.low.trans (hb.mono h.low.size)⟩
/-- One row grown: ahead of the store the box is what it was, behind it the row is the new one. -/
theorem Qp.set {w : World} {P : Nat} {v : Nat → Value} {vs : Nat → List Value} {y z : World} {k : Nat} {v' : Value} {xs : List Value} (h : Qp w P v vs y) (hk : k < 7) (own : OwnL (tyQ k) 1 one1 w.heap.size z v' xs)
    (new : ∀ g, v'.ownBlock = some g → (v k).ownBlock = some g ∨ y.heap.size ≤ g) (blk : ∀ g, g < y.heap.size → (v k).ownBlock ≠ some g → z.heap[g]? = y.heap[g]?) (low : Below w.heap.size y z) :
    Bx z P (bxQ v) 88 ∧ Qp w P (upQ v k v') (upQ vs k xs) (z.setCell ⟨P, k, none⟩ v') := by
  have hbx : Bx z P (bxQ v) 88 := (blk P (heap_lt h.box) (h.off k hk)).trans h.box
  refine ⟨hbx, ?_⟩
  have oth : ∀ q, q ≠ P → (z.setCell ⟨P, k, none⟩ v').heap[q]? = z.heap[q]? := fun q hq => heap_setCell_other z ⟨P, k, none⟩ q v' hq
  have hle : y.heap.size ≤ z.heap.size := low.size
  have hne : v'.ownBlock ≠ some P := fun e => by
    obtain ⟨cs, hx⟩ := own.ty P e
    exact absurd rfl (Bx.unlike hx hbx (tyQ_ne k))
  refine ⟨?_, fun j hj => ?_, fun i j g hi hj hij hg => ?_, h.gP, (h.low.trans low).trans ((Below.refl _ z).setCell (p := ⟨P, k, none⟩) h.gP v')⟩
  · have hs := heap_setCell_same z P k _ _ v' hbx
    have e : (bxQ v).setIfInBounds k v' = bxQ (upQ v k v') := by
      match k, hk with
      | 0, _ => rfl
      | 1, _ => rfl
      | 2, _ => rfl
      | 3, _ => rfl
      | 4, _ => rfl
      | 5, _ => rfl
      | 6, _ => rfl
    rw [e] at hs
    exact hs
  · by_cases hjk : j = k
    · subst hjk
      rw [upQ_same, upQ_same]
      exact own.keepB fun q e => oth q fun e' => hne (e' ▸ e)
    · rw [upQ_other _ _ _ hjk, upQ_other _ _ _ hjk]
      have ho := h.own j hj
      exact (ho.keepB fun q e => blk q (ho.lt q e).2 fun e' => h.ap j k q hj hk hjk e e').keepB fun q e => oth q fun e' => h.off j hj (e' ▸ e)
  · by_cases hik : i = k
    · subst hik
      rw [upQ_same] at hg
      rw [upQ_other _ _ _ (fun e => hij e.symm)]
      intro e
      rcases new g hg with h1 | h1
      · exact h.ap i j g hi hj hij h1 e
      · have := ((h.own j hj).lt g e).2
        omega
    · rw [upQ_other _ _ _ hik] at hg
      by_cases hjk : j = k
      · subst hjk
        rw [upQ_same]
        intro e
        rcases new g e with h1 | h1
        · exact h.ap i j g hi hj hij hg h1
        · have := ((h.own i hi).lt g hg).2
          omega
      · rw [upQ_other _ _ _ hjk]
        exact h.ap i j g hi hj hij hg
end Go.Proofs.YthaijjehplomfaaDoor

namespace Go.Proofs.YthaijjehplomfaaDoor
open Go Go.RowKit
set_option linter.unusedVariables false
set_option maxHeartbeats 1000000
set_option maxRecDepth 20000

theorem cell_eqH {y z : World} {b : Nat} (h : z.heap[b]? = y.heap[b]?) (j : Nat) : z.cell? ⟨b, j, none⟩ = y.cell? ⟨b, j, none⟩ := by
  unfold World.cell?
  simp only [h]
theorem lies_eqH {α : Type} {s : Nat} {c : α → List Value} {y z : World} {sp : Option Addr} {l : List α} (h : LiesL s c y sp l) (hz : ∀ a, sp = some a → z.heap[a.block]? = y.heap[a.block]?) : LiesL s c z sp l := by
  intro j a hj
  obtain ⟨g, o, e, k⟩ := h j a hj
  exact ⟨g, o, e, fun i v hv => (cell_eqH (hz _ e) _).trans (k i v hv)⟩
/-- A program's rows, the item of a line, its bytes. -/
structure Lq (w : World) (P b : Nat) (v : Nat → Value) (vs : Nat → List Value) (sp : Option Addr) (c op : Nat) (lab asks : ByteArray) (d : List UInt8) (y : World) : Prop where
  q : Qp w P v vs y
  x : Bx y b (it4 (.slice sp d.length c) lab asks op) 111
  gb : w.heap.size ≤ b
  d : LiesL 1 cU y sp d
  da : ∀ a, sp = some a → w.heap.size ≤ a.block ∧ a.block < y.heap.size ∧ a.block ≠ P ∧ ∀ k, k < 7 → (v k).ownBlock ≠ some a.block
theorem tyQ_ni (k : Nat) : tyQ k ≠ 111 := by
  unfold tyQ
  split
  · decide
  · split
    · decide
    · split <;> decide
theorem Lq.keep {w : World} {P b : Nat} {v : Nat → Value} {vs : Nat → List Value} {sp : Option Addr} {c op : Nat} {lab asks : ByteArray} {d : List UInt8} {y z : World} (h : Lq w P b v vs sp c op lab asks d y) (hb : Below y.heap.size y z) : Lq w P b v vs sp c op lab asks d z :=
  ⟨h.q.keep hb, (hb.block _ (heap_lt h.x)).trans h.x, h.gb, lies_eqH h.d fun a e => hb.block _ (h.da a e).2.1, fun a e => ⟨(h.da a e).1, Nat.lt_of_lt_of_le (h.da a e).2.1 hb.size, (h.da a e).2.2⟩⟩
/-- One row grown beside an item. -/
theorem Lq.set {w : World} {P b : Nat} {v : Nat → Value} {vs : Nat → List Value} {sp : Option Addr} {c op : Nat} {lab asks : ByteArray} {d : List UInt8} {y z : World} {k : Nat} {v' : Value} {xs : List Value} (h : Lq w P b v vs sp c op lab asks d y) (hk : k < 7) (own : OwnL (tyQ k) 1 one1 w.heap.size z v' xs)
    (new : ∀ g, v'.ownBlock = some g → (v k).ownBlock = some g ∨ y.heap.size ≤ g) (blk : ∀ g, g < y.heap.size → (v k).ownBlock ≠ some g → z.heap[g]? = y.heap[g]?) (low : Below w.heap.size y z) :
    Bx z P (bxQ v) 88 ∧ Bx z b (it4 (.slice sp d.length c) lab asks op) 111 ∧ LiesL 1 cU z sp d ∧ Lq w P b (upQ v k v') (upQ vs k xs) sp c op lab asks d (z.setCell ⟨P, k, none⟩ v') := by
  obtain ⟨h1, h2⟩ := h.q.set hk own new blk low
  have oth : ∀ q, q ≠ P → (z.setCell ⟨P, k, none⟩ v').heap[q]? = z.heap[q]? := fun q hq => heap_setCell_other z ⟨P, k, none⟩ q v' hq
  have hbk : (v k).ownBlock ≠ some b := fun e => by
    obtain ⟨cs, hx⟩ := (h.q.own k hk).ty b e
    exact absurd rfl (Bx.unlike hx h.x (tyQ_ni k))
  have hbP : b ≠ P := fun e => by
    subst e
    exact absurd rfl (Bx.unlike h.x h.q.box (by decide))
  have hxb : Bx z b (it4 (.slice sp d.length c) lab asks op) 111 := (blk b (heap_lt h.x) hbk).trans h.x
  have hd1 : LiesL 1 cU z sp d := lies_eqH h.d fun a e => blk _ (h.da a e).2.1 ((h.da a e).2.2.2 k hk)
  have hsz : (z.setCell ⟨P, k, none⟩ v').heap.size = z.heap.size := by simp
  refine ⟨h1, hxb, hd1, h2, (oth b hbP).trans hxb, h.gb, lies_eqH hd1 fun a e => oth _ (h.da a e).2.2.1, fun a e => ⟨(h.da a e).1, ?_, (h.da a e).2.2.1, fun j hj => ?_⟩⟩
  · rw [hsz]
    exact Nat.lt_of_lt_of_le (h.da a e).2.1 low.size
  · by_cases hjk : j = k
    · subst hjk
      rw [upQ_same]
      intro e'
      rcases new _ e' with h3 | h3
      · exact (h.da a e).2.2.2 j hj h3
      · have := (h.da a e).2.1
        omega
    · rw [upQ_other _ _ _ hjk]
      exact (h.da a e).2.2.2 j hj
/-- One value put behind a row: what Lq.set asks. -/
theorem app1_q {α : Type} {t : TypeId} {c : α → Value} {B : Nat} {v v' : Value} {l : List α} {x : α} {y z : World} (A : App1L t 1 (fun a => [c a]) B v l x v' y z) :
    OwnL t 1 one1 B z v' (l.map c ++ [c x]) ∧ (∀ g, v'.ownBlock = some g → v.ownBlock = some g ∨ y.heap.size ≤ g) ∧ (∀ g, g < y.heap.size → v.ownBlock ≠ some g → z.heap[g]? = y.heap[g]?) ∧ Below B y z := by
  refine ⟨?_, A.new, fun g hg hn => A.cu.blk g hg fun j hF => hn hF.1, A.cu.low⟩
  have h := OwnL.vals.1 A.own
  rw [List.map_append] at h
  exact h
end Go.Proofs.YthaijjehplomfaaDoor

namespace Go.Proofs.YthaijjehplomfaaDoor
open Go Go.RowKit
set_option linter.unusedVariables false
set_option maxHeartbeats 1000000
set_option maxRecDepth 20000

theorem infoI8 : (Tryd.prog.info? 3).map (fun i => (i.zero, i.size, i.bytes)) = some (some (.int .i64 0), 1, 8) := by kernel_rfl
theorem infoO1 : (Tryd.prog.info? 28).map (fun i => (i.zero, i.size, i.bytes)) = some (some (.int .u8 0), 1, 1) := by kernel_rfl
theorem kS1 : KdL (α := ByteArray) 70 9 1 16 (fun s => [Value.string s]) := by
  obtain ⟨i, hi, hz0, hz1, hz2⟩ := info_parts infoT
  exact ⟨Tryd.underlying70, ⟨i, _, hi, hz0, hz1, hz2, rfl⟩, fun _ => rfl, fun x v hv => by simp at hv; subst hv; rfl, by decide, by decide⟩
theorem kI1 : KdL (α := Nat) 85 3 1 8 (fun a => [Value.int .i64 (a : Int)]) := by
  obtain ⟨i, hi, hz0, hz1, hz2⟩ := info_parts infoI8
  exact ⟨Tryd.underlying85, ⟨i, _, hi, hz0, hz1, hz2, rfl⟩, fun _ => rfl, fun x v hv => by simp at hv; subst hv; rfl, by decide, by decide⟩
theorem kO1 : KdL (α := Nat) 86 28 1 1 (fun a => [Value.int .u8 (a : Int)]) := by
  obtain ⟨i, hi, hz0, hz1, hz2⟩ := info_parts infoO1
  exact ⟨Tryd.underlying86, ⟨i, _, hi, hz0, hz1, hz2, rfl⟩, fun _ => rfl, fun x v hv => by simp at hv; subst hv; rfl, by decide, by decide⟩
theorem fillS (s : ByteArray) : Instr.fill (fun i => some (i * 1, 1)) ((Array.range (1 * 1)).map ((Value.string ⟨#[]⟩).cells[· % (Value.string ⟨#[]⟩).cells.size]!)) [(0, .string s)] = some #[.string s] := by kernel_rfl
theorem fillI (p : Nat) : Instr.fill (fun i => some (i * 1, 1)) ((Array.range (1 * 1)).map ((Value.int IntKind.i64 0).cells[· % (Value.int IntKind.i64 0).cells.size]!)) [(0, .int .i64 (p : Int))] = some #[.int .i64 (p : Int)] := by kernel_rfl
theorem fillO (p : Nat) : Instr.fill (fun i => some (i * 1, 1)) ((Array.range (1 * 1)).map ((Value.int IntKind.u8 0).cells[· % (Value.int IntKind.u8 0).cells.size]!)) [(0, .int .u8 (p : Int))] = some #[.int .u8 (p : Int)] := by kernel_rfl
section
variable {ops : Array Oper} {rest : List Oper} {o : Oper} {a : Act} {w : World} {Q : Exit → Act → World → Prop}
theorem at_bsS1 (s : ByteArray) (x : Operand) (hgd : o.guard = none) (ho : o.op = .buildSlice 70 1 #[(0, x)]) (hx : a.eval x = .string s)
    (k : wpList Tryd.prog ops Q rest (a.put o.dst (.slice (some ⟨w.heap.size, 0, none⟩) 1 1)) (w.alloc (.cells #[.string s] 9))) : wpList Tryd.prog ops Q (o :: rest) a w := by
  obtain ⟨i, hi, e⟩ := Option.map_eq_some_iff.1 infoT
  injection e with e1 e2
  injection e2 with e2 e3
  refine wpList_buildSlice hgd 70 9 1 #[(0, x)] ho #[.string s] i _ Tryd.underlying70 hi e1 (by rw [e2]; decide) (by rw [e2]; decide) ?_ k
  rw [e2]
  have e : (#[(0, x)].map fun (i, x) => (i, a.eval x)).toList = [(0, .string s)] := by simp [hx]
  rw [e]
  exact fillS s
theorem at_bsI1 (p : Nat) (x : Operand) (hgd : o.guard = none) (ho : o.op = .buildSlice 85 1 #[(0, x)]) (hx : a.eval x = .int .i64 (p : Int))
    (k : wpList Tryd.prog ops Q rest (a.put o.dst (.slice (some ⟨w.heap.size, 0, none⟩) 1 1)) (w.alloc (.cells #[.int .i64 (p : Int)] 3))) : wpList Tryd.prog ops Q (o :: rest) a w := by
  obtain ⟨i, hi, e⟩ := Option.map_eq_some_iff.1 infoI8
  injection e with e1 e2
  injection e2 with e2 e3
  refine wpList_buildSlice hgd 85 3 1 #[(0, x)] ho #[.int .i64 (p : Int)] i _ Tryd.underlying85 hi e1 (by rw [e2]; decide) (by rw [e2]; decide) ?_ k
  rw [e2]
  have e : (#[(0, x)].map fun (i, x) => (i, a.eval x)).toList = [(0, .int .i64 (p : Int))] := by simp [hx]
  rw [e]
  exact fillI p
theorem at_bsO1 (p : Nat) (x : Operand) (hgd : o.guard = none) (ho : o.op = .buildSlice 86 1 #[(0, x)]) (hx : a.eval x = .int .u8 (p : Int))
    (k : wpList Tryd.prog ops Q rest (a.put o.dst (.slice (some ⟨w.heap.size, 0, none⟩) 1 1)) (w.alloc (.cells #[.int .u8 (p : Int)] 28))) : wpList Tryd.prog ops Q (o :: rest) a w := by
  obtain ⟨i, hi, e⟩ := Option.map_eq_some_iff.1 infoO1
  injection e with e1 e2
  injection e2 with e2 e3
  refine wpList_buildSlice hgd 86 28 1 #[(0, x)] ho #[.int .u8 (p : Int)] i _ Tryd.underlying86 hi e1 (by rw [e2]; decide) (by rw [e2]; decide) ?_ k
  rw [e2]
  have e : (#[(0, x)].map fun (i, x) => (i, a.eval x)).toList = [(0, .int .u8 (p : Int))] := by simp [hx]
  rw [e]
  exact fillO p
end
end Go.Proofs.YthaijjehplomfaaDoor
