/- The lines of a text, each with its line feed; a region within a round of a range over a function; frames that abide it. -/
import Derived.Test.YthpahpfnpapoiaaDoorXh
import Derived.Test.YthpahpfnpapoiaaDoorXt
import Derived.RangeFuncNested
import Derived.RangeFuncBound
import Derived.RangeFuncCalls
import Derived.RangeFuncLeaves
import Derived.Shelf.Abstract
import Derived.Shelf.RegionOpen
import Derived.WalkKit
import Derived.OwnWalkIn
import Derived.TacticsInMore
import Derived.LoopNIn
import Derived.LoopIn
namespace Go.Proofs.YthpahpfnpapoiaaDoor
open Go Go.RowKit Go.Shelf
set_option linter.unusedVariables false
set_option maxHeartbeats 1000000
set_option maxRecDepth 100000

theorem uponIn_round {P : Program} {o : Oper} {a : Act} {next next' : Act → World → Prop} {Q : Exit → Act → World → Prop} {l n : Nat} (hn : ∀ a w, next a w → next' a w) (r : Result Next) (h : o.upon P a next Q r) : o.uponIn (Fence.wide.inRound l) n P a next' Q r := by
  rcases r with ⟨nx, w'⟩ | ⟨hh, w'⟩
  · cases nx
    case enter f args =>
      refine ⟨(fun e => by cases e), CallsIn.inRound l (callsIn_wide.2 ?_)⟩
      refine Calls.mono (R := fun
        | .returned v, w'' => next (a.put o.dst v) w''
        | .panicked chain, w'' => Q (.panic chain) a w''
        | .outgrown, _ => LetsOut Q) h ?_
      intro e w'' he
      cases e
      · exact hn _ _ he
      · exact he
      · exact he
    case row row args =>
      refine ⟨(fun e => by cases e), fun c cs _ => ?_⟩
      obtain ⟨v, w2, r, s⟩ := h c cs
      exact ⟨v, w2, hn _ _ r, (StepsIn.of_steps s).mono fun m _ => fenced_wide P m⟩
    all_goals first | exact hn _ _ h | exact h.elim
  · cases hh
    all_goals first | exact h | exact h.elim
theorem listIn_round {P : Program} {ops : Array Oper} {Q : Exit → Act → World → Prop} {l n : Nat} (hQ : ¬ LetsOut Q) : ∀ (ls : List Oper) (a : Act) (w : World), (∀ o ∈ ls, ∀ c, o.op ≠ .defer c) → wpList P ops Q ls a w → wpListIn (Fence.wide.inRound l) n P ops Q ls a w
  | [], a, w, _, h => h
  | o :: ls, a, w, hd, h => by
    unfold wpList at h
    unfold wpListIn
    split
    · rename_i hw
      rw [if_pos hw] at h
      rcases h with h | ⟨_, h⟩
      · refine ⟨fun f _ => trivial, ?_⟩
        rw [show (Fence.wide.inRound l).round = some l from rfl, Oper.semAt_some l a.eval o (hd o (by simp))]
        exact uponIn_round (fun a' w' h' => listIn_round hQ ls a' w' (fun o' ho' => hd o' (by simp [ho'])) h') _ h
      · exact absurd h hQ
    · rename_i hw
      rw [if_neg hw] at h
      exact ⟨fun f _ => trivial, listIn_round hQ ls _ w (fun o' ho' => hd o' (by simp [ho'])) h⟩
def noDefer : List Oper → Bool
  | [] => true
  | o :: l => (match o.op with | .defer _ => false | _ => true) && noDefer l
theorem noDefer_spec : ∀ (ls : List Oper), noDefer ls = true → ∀ o ∈ ls, ∀ c, o.op ≠ .defer c
  | [], _, o, ho, _ => by simp at ho
  | x :: l, h, o, ho, c => by
    unfold noDefer at h
    rw [Bool.and_eq_true] at h
    rcases List.mem_cons.1 ho with rfl | ho
    · intro e
      rw [e] at h
      exact Bool.false_ne_true h.1
    · exact noDefer_spec l h.2 o ho c
/-- A region within a round, as anywhere. -/
theorem reg_round {P : Program} {Q : Exit → Act → World → Prop} {l n id : Nat} {ls : List Oper} {a : Act} {w : World} (hQ : ¬ LetsOut Q) (hd : noDefer ls = true) (h : wpList P ls.toArray Q ls a w) : (Code.region id ls.toArray false).wpIn (Fence.wide.inRound l) n P Q a w :=
  wpIn_region_lit (listIn_round hQ ls a w (noDefer_spec ls hd) h)
theorem noOut_then {K : Act → World → Prop} {Q : Exit → Act → World → Prop} (h : ¬ LetsOut Q) : ¬ LetsOut (Exit.then K Q) := fun ⟨a, w, e⟩ => h ⟨a, w, e⟩
theorem noOut_block {id : Nat} {Q : Exit → Act → World → Prop} (h : ¬ LetsOut Q) : ¬ LetsOut (Exit.inBlock id Q) := fun ⟨a, w, e⟩ => h ⟨a, w, e⟩
theorem noOut_own {α : Type} {B : Nat} {Kp : World → World → Prop} {I : List α → World → Prop} {Ix : Code → List α → World → Prop} {xs : List α} {W : World} : ¬ LetsOut (ownPostG B Kp I Ix xs W) := fun ⟨_, _, e⟩ => e
theorem keeps_below {W W' : World} (h : Below W.heap.size W W') : KeepsOthers W W' := ⟨h.size, fun k o hk _ => (h.block k (Array.getElem?_eq_some_iff.1 hk).1).trans hk⟩
/-- What stands in cells abides what is no cells. -/
theorem Fm.own {w W W' : World} {bs : List (Nat × Array Value × TypeId)} {row : Option Nat} (h : Fm w bs W) (hg : W.grownBy W' row) (hr : ∀ r, row = some r → w.heap.size ≤ r ∧ ∃ o : Obj, W.heap[r]? = some o ∧ o.isCells = false) : Fm w bs W' := by
  refine ⟨fun i b cs t e => ?_, h.ge, h.ne, h.low.grown hg h.low.size (fun k e => (hr k e).1)⟩
  have hc := h.get i b cs t e
  refine (hg.block b (heap_lt hc) (fun e' => ?_)).trans hc
  obtain ⟨_, o, ho, hn⟩ := hr b e'.symm
  rw [hc] at ho
  cases ho
  cases hn
theorem OwnS.own {B : Nat} {W W' : World} {v : Value} {A : List Sn} {row : Option Nat} (h : OwnS B W v A) (hg : W.grownBy W' row) (hr : ∀ r, row = some r → ∃ o : Obj, W.heap[r]? = some o ∧ o.isCells = false) : OwnS B W' v A := by
  refine h.keepB fun g e => ?_
  obtain ⟨cs, t, fr, hc⟩ : ∃ cs t fr, W.heap[g]? = some (.cells cs t fr) := by
    rcases h.2 with ⟨hv, _⟩ | ⟨g', cap, cur, hv, _, hg', _⟩
    · rw [hv] at e; cases e
    · rw [hv] at e
      cases e
      exact ⟨_, _, _, hg'⟩
  refine hg.block g (heap_lt hc) (fun e' => ?_)
  obtain ⟨o, ho, hn⟩ := hr g e'.symm
  rw [hc] at ho
  cases ho
  cases hn
theorem Ct.own {w W W' : World} {va vb : Value} {A Bl : List Sn} {bs : List (Nat × Array Value × TypeId)} {row : Option Nat} (h : Ct w va vb A Bl bs W) (hg : W.grownBy W' row) (hr : ∀ r, row = some r → w.heap.size ≤ r ∧ ∃ o : Obj, W.heap[r]? = some o ∧ o.isCells = false) : Ct w va vb A Bl bs W' :=
  ⟨h.fm.own hg hr, h.oa.own hg (fun r e => (hr r e).2), h.ob.own hg (fun r e => (hr r e).2), h.ap, h.na⟩

/-- A text's lines, each with its line feed, which only the last one may lack. -/
def allL (t : List UInt8) : List (List UInt8) := (linesL t).1.map (· ++ [10]) ++ (if (linesL t).2 = [] then [] else [(linesL t).2])
theorem allL_nil : allL [] = [] := rfl
theorem lines_none (l : List UInt8) (h : ∀ b ∈ l, b ≠ 10) : linesL l = ([], l) := by
  induction l with
  | nil => rfl
  | cons b l ih => rw [linesL_cons, if_neg (h b (by simp)), ih (fun c hc => h c (by simp [hc]))]
theorem index_none (l : List UInt8) (h : Lib.indexByte l 10 = -1) : ∀ b ∈ l, b ≠ 10 := by
  induction l with
  | nil => intro b hb; simp at hb
  | cons c l ih =>
    unfold Lib.indexByte at h
    split at h
    · cases h
    · rename_i hc
      split at h
      · rename_i hi
        intro b hb
        rcases List.mem_cons.1 hb with rfl | hb
        · exact fun e => hc (by simp [e])
        · exact ih (by simpa using hi) b hb
      · rename_i hi
        have := Lib.indexByte_ge l 10
        exfalso
        apply hi
        simp
        omega
theorem index_some : ∀ (l : List UInt8) (i : Nat), Lib.indexByte l 10 = (i : Int) → i < l.length ∧ l = l.take i ++ 10 :: l.drop (i + 1) ∧ ∀ b ∈ l.take i, b ≠ 10
  | [], i, h => by unfold Lib.indexByte at h; omega
  | c :: l, i, h => by
    unfold Lib.indexByte at h
    split at h
    · rename_i hc
      have e : i = 0 := by omega
      subst e
      have hc : c = 10 := by simpa using hc
      subst hc
      exact ⟨by simp, rfl, fun b hb => by simp at hb⟩
    · rename_i hc
      split at h
      · omega
      · rename_i hi
        have hg := Lib.indexByte_ge l 10
        have hi' : Lib.indexByte l 10 ≠ -1 := by simpa using hi
        obtain ⟨j, hj⟩ : ∃ j : Nat, Lib.indexByte l 10 = j := ⟨(Lib.indexByte l 10).toNat, by omega⟩
        have e : i = j + 1 := by omega
        subst e
        obtain ⟨h1, h2, h3⟩ := index_some l j hj
        refine ⟨by simp; omega, by simp only [List.take_succ_cons, List.drop_succ_cons, List.cons_append]; rw [← h2], fun b hb => ?_⟩
        simp only [List.take_succ_cons] at hb
        rcases List.mem_cons.1 hb with rfl | hb
        · exact fun e => hc (by simp [e])
        · exact h3 b hb
theorem allL_last (l : List UInt8) (h : Lib.indexByte l 10 = -1) (h0 : l ≠ []) : allL l = [l] := by
  unfold allL
  rw [lines_none l (index_none l h)]
  simp [h0]
theorem allL_cons (l : List UInt8) (i : Nat) (h : Lib.indexByte l 10 = (i : Int)) : allL l = l.take (i + 1) :: allL (l.drop (i + 1)) := by
  obtain ⟨h1, h2, h3⟩ := index_some l i h
  have e : l.take (i + 1) = l.take i ++ [10] := by
    conv => lhs; rw [h2]
    rw [List.take_append, List.take_of_length_le (by rw [List.length_take]; omega), List.length_take, show i + 1 - min i l.length = 1 by omega]
    rfl
  have hl := lines_word (l.take i) (l.drop (i + 1)) h3
  rw [← h2] at hl
  unfold allL
  rw [hl, e]
  rfl
theorem allL_len (l : List UInt8) : (allL l).length = manyL l := by
  unfold allL manyL
  rw [List.length_append, List.length_map]
  split <;> simp_all
theorem allL_count (t : List UInt8) : (allL t).length ≤ t.length := by
  have key : ∀ (n : Nat) (t : List UInt8), t.length ≤ n → (allL t).length ≤ t.length := by
    intro n
    induction n with
    | zero =>
      intro t ht
      have : t = [] := List.length_eq_zero_iff.1 (by omega)
      subst this
      simp [allL_nil]
    | succ n ih =>
      intro t ht
      by_cases h0 : t = []
      · subst h0; simp [allL_nil]
      · have hg := Lib.indexByte_ge t 10
        have hp := List.length_pos_iff.2 h0
        by_cases hi : Lib.indexByte t 10 = -1
        · rw [allL_last t hi h0, List.length_singleton]
          omega
        · obtain ⟨i, hj⟩ : ∃ i : Nat, Lib.indexByte t 10 = i := ⟨(Lib.indexByte t 10).toNat, by omega⟩
          have h1 := (index_some t i hj).1
          have h2 := ih (t.drop (i + 1)) (by rw [List.length_drop]; omega)
          rw [allL_cons t i hj, List.length_cons]
          rw [List.length_drop] at h2
          omega
  exact key t.length t (Nat.le_refl _)
theorem allL_size (t : List UInt8) : ∀ x ∈ allL t, x.length ≤ t.length := by
  have key : ∀ (n : Nat) (t : List UInt8), t.length ≤ n → ∀ x ∈ allL t, x.length ≤ t.length := by
    intro n
    induction n with
    | zero =>
      intro t ht x hx
      have : t = [] := List.length_eq_zero_iff.1 (by omega)
      subst this
      simp [allL_nil] at hx
    | succ n ih =>
      intro t ht x hx
      by_cases h0 : t = []
      · subst h0; simp [allL_nil] at hx
      · have hg := Lib.indexByte_ge t 10
        by_cases hi : Lib.indexByte t 10 = -1
        · rw [allL_last t hi h0] at hx
          rw [List.mem_singleton.1 hx]
          exact Nat.le_refl _
        · obtain ⟨i, hj⟩ : ∃ i : Nat, Lib.indexByte t 10 = i := ⟨(Lib.indexByte t 10).toNat, by omega⟩
          have h1 := (index_some t i hj).1
          rw [allL_cons t i hj] at hx
          rcases List.mem_cons.1 hx with rfl | hx
          · rw [List.length_take]; omega
          · have := ih (t.drop (i + 1)) (by rw [List.length_drop]; omega) x hx
            rw [List.length_drop] at this
            omega
  exact key t.length t (Nat.le_refl _)
end Go.Proofs.YthpahpfnpapoiaaDoor
