/- What ScriptSame asks of cut and whole scripts, plain; one list put behind another. -/
import Derived.Test.YthpahpfnpapoiabDoorZc
import Derived.Test.YthpahpfnpapoiabDoorZe
import Derived.Test.YthpahpfnpapoiabDoorXn
import Derived.Laws.AppendOwn
import Derived.Laws.AppendOwnNone
namespace Go.Proofs.YthpahpfnpapoiabDoor
open Go Go.RowKit
set_option linter.unusedVariables false
set_option maxHeartbeats 1000000
set_option maxRecDepth 20000

theorem check_of {l : List Sn} (h1 : l.length ≤ 4096) (h2 : InM 1048576 l) (h3 : sumC l ≤ 4194304) : checkS l = 0 := by
  unfold checkS
  rw [if_neg (by omega), if_pos ⟨(inB_iff l).2 h2, h3⟩]
theorem same_cut {l : List Sn} (h : checkS l = 0) (n : Int) (h0 : 0 ≤ n) (h1 : n ≤ sumC l) : cutE l n = 0 ∧ outA l n = cutA l n ∧ outB l n = cutB l n ∧ checkS (cutA l n) = 0 ∧ cyclesS (cutA l n) = n ∧ flatB (cutA l n ++ cutB l n) l = true ∧ InM 1048576 (cutA l n ++ cutB l n) := by
  obtain ⟨k1, k2, k3⟩ := check_ok h
  have e : cutE l n = 0 := by unfold cutE; rw [if_neg (by simpa using h), if_neg (by omega)]
  have a := cutA_in k2 n h0
  have b := cutB_in k2 n h0
  have s := cutA_sum k2.pos n h0 h1
  have c : checkS (cutA l n) = 0 := check_of (by omega) a.1 (by omega)
  refine ⟨e, by unfold outA; rw [if_pos e], by unfold outB; rw [if_pos e], c, by unfold cyclesS; rw [if_pos c, s], ?_, a.1.app b.1⟩
  unfold flatB
  rw [sameE_iff, expand_app]
  exact cut_expand k2.pos n h0
theorem nrm_pos {l : List Sn} (h : InM 1048576 l) : InM 1048576 (nrm 1048576 none l) := (nrm_nf 1048576 (by decide) l h.pos).2.inM
theorem nrm_exp (l : List Sn) : expand (nrm 1048576 none l) = expand l := by
  have := nrm_expand 1048576 (by decide) l none
  simpa [heldE] using this
theorem same_norm {l : List Sn} (h : checkS l = 0) : normS l = nrm 1048576 none l ∧ flatB (nrm 1048576 none l) l = true ∧ (nrm 1048576 none l).length ≤ l.length ∧ InM 1048576 (nrm 1048576 none l) ∧ checkS (nrm 1048576 none l) = 0 ∧ normS (nrm 1048576 none l) = nrm 1048576 none l ∧ Nf 1048576 (nrm 1048576 none l) := by
  obtain ⟨k1, k2, k3⟩ := check_ok h
  have e : normS l = nrm 1048576 none l := by unfold normS; rw [if_pos h]
  have p := nrm_pos k2
  have le := (nrm_len 1048576 (by decide) l k2).2
  have sm : sumC (nrm 1048576 none l) = sumC l := by rw [sum_expand p.pos, sum_expand k2.pos, nrm_exp]
  have c : checkS (nrm 1048576 none l) = 0 := check_of (by omega) p (by omega)
  refine ⟨e, ?_, le, p, c, ?_, (nrm_nf 1048576 (by decide) l k2.pos).2⟩
  · unfold flatB
    rw [sameE_iff, nrm_exp]
  · unfold normS
    rw [if_pos c, nrm_again 1048576 (by decide) l k2.pos]
theorem same_two {l r : List Sn} (h : checkS l = 0) (k : checkS r = 0) : sameB (normS r) (normS l) = flatB r l := by
  obtain ⟨_, a, _⟩ := check_ok h
  obtain ⟨_, b, _⟩ := check_ok k
  rw [(same_norm h).1, (same_norm k).1, Bool.eq_iff_iff, sameB_iff]
  unfold flatB
  rw [sameE_iff]
  exact nrm_same 1048576 (by decide) r l b.pos a.pos
theorem nf_next {M : Nat} : ∀ {l : List Sn}, Nf M l → ∀ (i : Nat) (x y : Sn), l[i]? = some x → l[i + 1]? = some y → x.a = y.a → x.c = M
  | [], _, i, x, y, hx, _, _ => by simp at hx
  | [s], _, i, x, y, hx, hy, _ => by simp at hy
  | s :: t :: l, h, i, x, y, hx, hy, e => by
    cases i with
    | zero =>
      simp at hx hy
      subst hx
      subst hy
      exact h.2.1 e
    | succ i => exact nf_next h.2.2 i x y hx hy e
theorem at_appL {ops : Array Oper} {rest : List Oper} {o : Oper} {a : Act} {w : World} {Q : Exit → Act → World → Prop} (hgd : o.guard = none) (s x : Operand)
    (ho : o.op = .call { callee := .builtin .append, args := #[s, x], argTypes := #[22, 22] }) (B : Nat) (v : Value) (l : List Sn) (hs : a.eval s = v) (hown : OwnS B w v l)
    (B' : Nat) (u : Value) (r : List Sn) (hx : a.eval x = u) (hu : OwnS B' w u r) (hn : l.length + r.length ≤ 1000000000) (hB : B ≤ w.heap.size)
    (k : ∀ v' w', OwnS B w' v' (l ++ r) → Below B w w' → wpList Tryd.prog ops Q rest (a.put o.dst v') w') : wpList Tryd.prog ops Q (o :: rest) a w := by
  obtain ⟨i, hi, hz0, hz1, hz2⟩ := info_parts infoS
  have fin : ∀ v' w', w'.ownsRow B 43 10 v' (l.length + r.length) (rowS l ++ rowS r) → w.grownBy w' v.ownBlock → OwnS B w' v' (l ++ r) ∧ Below B w w' := fun v' w' h1 h2 => by
    refine ⟨by unfold OwnS; rw [rowS_app, List.length_append]; exact h1, ?_⟩
    exact Below.grown (Below.refl _ _) h2 hB (fun q hq => (World.ownsRow.lt hown q hq).1)
  have hu0 := hu
  rcases hu.2 with ⟨rfl, hr0⟩ | ⟨g, cap, cur, rfl, hb, hg, _⟩
  · have : r = [] := List.eq_nil_of_length_eq_zero hr0
    subst this
    refine wpList_append_own_none hgd s x 22 ho B 43 i 10 Tryd.underlying22 hi v l.length (rowS l) hs hown hx ?_
    exact k v w (by rw [List.append_nil]; exact hown) (Below.refl _ _)
  · refine wpList_append_own _ hgd s x 22 ho B 43 i _ 10 24 Tryd.underlying22 hi hz0 hz1 hz2 rfl (by decide) v l.length (rowS l) hs hown ⟨g, 0, none⟩ r.length cap (rowS r) hx (rowS_len r) (fun j u' h => World.ownsRow.cells (g := g) hu0 rfl j u' h) (fun y hy => rowS_one r y hy) (by unfold maxLen; omega) (by omega) hB ?_
    intro v' w' h1 h2 _
    obtain ⟨f1, f2⟩ := fin v' w' h1 h2
    exact k v' w' f1 f2
end Go.Proofs.YthpahpfnpapoiabDoor
