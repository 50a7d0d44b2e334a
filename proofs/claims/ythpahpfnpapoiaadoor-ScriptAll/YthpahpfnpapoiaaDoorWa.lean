/- A script's cycles, one by one: the program's function to range over. -/
import Derived.Test.YthpahpfnpapoiaaDoorVa
import Derived.Test.YthpahpfnpapoiaaDoorXk
import Derived.Shelf.Abstract
import Derived.Laws.AppendOwn
namespace Go.Proofs.YthpahpfnpapoiaaDoor
open Go Go.RowKit Go.Shelf
set_option linter.unusedVariables false
set_option maxHeartbeats 2000000
set_option maxRecDepth 20000

theorem exp_len (l : List Sn) (h : Pos l) : ((expand l).length : Int) = sumC l := by
  induction l with
  | nil => rfl
  | cons s l ih =>
    have h1 := ih h.2
    have h2 := h.1
    simp only [expand, sumC, List.length_append, List.length_replicate]
    omega
theorem exp_cut (l : List Sn) (j : Nat) (s : Sn) (h : l[j]? = some s) : expand l = expand (l.take j) ++ (List.replicate s.c.toNat s.a ++ expand (l.drop (j + 1))) := by
  obtain ⟨h1, h2⟩ := List.getElem?_eq_some_iff.1 h
  conv => lhs; rw [← List.take_append_drop j l]
  rw [expand_app, List.drop_eq_getElem_cons h1, h2]
  rfl
theorem exp_at (l : List Sn) (j : Nat) (s : Sn) (h : l[j]? = some s) (t : Nat) (ht : t < s.c.toNat) : (expand l)[(expand (l.take j)).length + t]? = some s.a := by
  rw [exp_cut l j s h, List.getElem?_append_right (by omega), Nat.add_sub_cancel_left, List.getElem?_append_left (by simpa using ht), List.getElem?_replicate, if_pos ht]
theorem exp_next (l : List Sn) (j : Nat) (s : Sn) (h : l[j]? = some s) : (expand (l.take (j + 1))).length = (expand (l.take j)).length + s.c.toNat := by
  rw [List.take_add_one, h, expand_app]
  simp [expand]
theorem lies_cells {w : World} {g off : Nat} {l : List Sn} (h : LiesS w (some ⟨g, off, none⟩) l) (j : Nat) (u : Value) (hj : (rowS l)[j]? = some u) : w.cell? ⟨g, off + j, none⟩ = some u := by
  have hl := (List.getElem?_eq_some_iff.1 hj).1
  rw [rowS_len] at hl
  have hq : j / 10 < l.length := by omega
  obtain ⟨gb, ob, e, hr⟩ := h (j / 10) _ (List.getElem?_eq_getElem hq)
  cases e
  have e1 : j / 10 * 10 + j % 10 = j := by omega
  have h1 := rowS_at l (j / 10) (j % 10) _ (List.getElem?_eq_getElem hq) (by omega)
  rw [e1, hj] at h1
  have h2 := hr (j % 10) u (by rw [Array.getElem?_toList]; exact h1.symm)
  rw [Nat.add_assoc, e1] at h2
  exact h2
theorem clone_any (w : World) (g off cap : Nat) (l : List Sn) (hl : Hid (LiesS w (some ⟨g, off, none⟩) l)) (hn : l.length ≤ 100000) :
    Calls Tryd.prog 31 #[.slice (some ⟨g, off, none⟩) l.length cap] w fun e w' => ∃ v, e = .returned v ∧ Hid (OwnS w.heap.size w' v l ∧ Below w.heap.size w w') := by
  obtain ⟨i, hi, hz0, hz1, hz2⟩ := info_parts infoS
  obtain ⟨n, hn'⟩ : ∃ n, l.length = n := ⟨_, rfl⟩
  rw [hn'] at hn ⊢
  have hn' : Hid (l.length = n) := hn'
  have hq : ∀ v, (binOp .eql 23 (.slice (some ⟨g, off, none⟩) n cap) (.slice none 0 0)).run Tryd.prog v = .ok (.bool false) v := fun v => Lib.run_eql_slice_nil v _ _ (some ⟨g, off, none⟩) n cap 0 0 Tryd.underlying23
  go_enter Tryd.func31, Tryd.ntmps31
  go_wp2_with (at_builtin; refine wpList_append_own _ rfl (.tmp 5) (.tmp 6) 23 rfl w.heap.size 34 i _ 10 24 Tryd.underlying23 hi hz0 hz1 hz2 rfl (by decide) _ 0 [] rfl (World.ownsRow_made w #[] 0 (Nat.le_refl _) (Nat.zero_le _) (by simp)) ⟨g, off, none⟩ n cap (rowS l) rfl ?q1 ?q2 ?q3 ?q4 ?q5 ?q6 ?_)
  case q1 => rw [rowS_len, hn'.out]
  case q2 =>
    intro j u hj
    have h1 := lies_cells hl.out j u hj
    rw [Addr.add_lit]
    exact (below1 w _).cell (p := ⟨g, off + j, none⟩) (World.block_lt_of_cell? w _ h1) |>.trans h1
  case q3 => exact rowS_one l
  case q4 => unfold maxLen; omega
  case q5 => omega
  case q6 => simp
  intro v' w' hown hgrow _
  go_wp2
  go_ret
  refine ⟨v', rfl, ⟨?_, ?_⟩⟩
  · unfold OwnS
    rw [hn'.out]
    simpa using hown
  · exact Below.grown (below1 w _) hgrow (by simp) (fun k hk => by cases hk; exact Nat.le_refl _)
end Go.Proofs.YthpahpfnpapoiaaDoor
