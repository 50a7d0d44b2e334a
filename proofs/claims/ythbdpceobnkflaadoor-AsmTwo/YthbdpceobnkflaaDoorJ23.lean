/- The marks of what was laid: rows of addresses at which the same lies. Objects held against the document: the walk. The statements' own: an object copied. What stands while its lists are made, in whatever order. The statements' own: an object copied. The laws of a round. -/
import Derived.Test.YthbdpceobnkflaaDoorJ12
import Derived.Test.YthbdpceobnkflaaDoorJ20
import Derived.Test.YthbdpceobnkflaaDoorJ9
import Derived.BigQuiet
import Derived.Laws.AppendOwn
namespace Go.Proofs.YthbdpceobnkflaaDoor
open Go Go.RowKit
set_option linter.unusedVariables false
set_option maxHeartbeats 3000000
set_option maxRecDepth 20000

/-- Up to where the same lies. -/
def rEnd (U : List UInt8) (u : UInt8) (e : Nat) : Nat := e + ((U.drop e).takeWhile (fun x => decide (x = u))).length
theorem rEnd_ge (U : List UInt8) (u : UInt8) (e : Nat) : e ≤ rEnd U u e := Nat.le_add_right _ _
theorem rEnd_le (U : List UInt8) (u : UInt8) (e : Nat) (h : e ≤ U.length) : rEnd U u e ≤ U.length := by
  unfold rEnd
  have h1 : ((U.drop e).takeWhile (fun x => decide (x = u))).length ≤ (U.drop e).length := (List.takeWhile_prefix _).length_le
  rw [List.length_drop] at h1
  omega
theorem rEnd_step {U : List UInt8} {u : UInt8} {e : Nat} (h : U[e]? = some u) : rEnd U u e = rEnd U u (e + 1) := by
  unfold rEnd
  obtain ⟨h1, h2⟩ := List.getElem?_eq_some_iff.1 h
  rw [List.drop_eq_getElem_cons h1, h2, List.takeWhile_cons, if_pos (decide_eq_true rfl), List.length_cons]
  omega
theorem rEnd_stop {U : List UInt8} {u : UInt8} {e : Nat} (h : U[e]? ≠ some u) : rEnd U u e = e := by
  unfold rEnd
  rcases h0 : U[e]? with _ | x
  · have := List.getElem?_eq_none_iff.1 h0
    rw [List.drop_eq_nil_of_le this]
    rfl
  · obtain ⟨h1, h2⟩ := List.getElem?_eq_some_iff.1 h0
    have hx : x ≠ u := fun e' => h (by rw [h0, e'])
    rw [List.drop_eq_getElem_cons h1, h2, List.takeWhile_cons, if_neg (by simp [hx])]
    rfl
/-- The marks, from an address on. -/
def mks (U : List UInt8) : Nat → Nat → List Mk
  | 0, _ => []
  | f + 1, a => match U[a]? with
    | none => []
    | some u => (if u = 0 then [] else [⟨(a : Int), ((rEnd U u (a + 1) : Nat) : Int) - (a : Int), decide (u = 1)⟩]) ++ mks U f (rEnd U u (a + 1))
def marksU (U : List UInt8) : List Mk := mks U 65536 0
theorem mks_len (U : List UInt8) : ∀ (f a : Nat), a ≤ U.length → (mks U f a).length ≤ U.length - a
  | 0, a, _ => Nat.zero_le _
  | f + 1, a, ha => by
    unfold mks
    rcases h0 : U[a]? with _ | u
    · exact Nat.zero_le _
    · have h1 := (List.getElem?_eq_some_iff.1 h0).1
      have h2 := rEnd_ge U u (a + 1)
      have h3 := rEnd_le U u (a + 1) h1
      have ih := mks_len U f (rEnd U u (a + 1)) h3
      simp only [List.length_append]
      by_cases hu : u = 0
      · rw [if_pos hu]
        simp only [List.length_nil]
        omega
      · rw [if_neg hu]
        simp only [List.length_cons, List.length_nil]
        omega
theorem marks_any' (y : World) (q : Nu) (p : Nat) (vl : Value) (U : List UInt8) (hs : Hid (Bx y q.s (sC q p vl) 70)) (hu : Hid (Bx y q.u (rU U) 123)) (hU : Hid (U.length = 65536)) :
    Calls Tryd.prog 35 #[.pointer (some ⟨q.s, 0, none⟩)] y fun e z => ∃ v, e = .returned v ∧ Hid (KL 89 3 cM y v (marksU U) z) := by
  have K0 : Hid (KL 89 3 cM y (.slice none 0 0) [] y) := KL.nil y
  have hB : Hid (∀ z, Below y.heap.size y z → Bx z q.s (sC q p vl) 70 ∧ Bx z q.u (rU U) 123) := fun z hz => ⟨hs.out.below hz, hu.out.below hz⟩
  clear hs hu
  go_enter Tryd.func35, Tryd.ntmps35
  go_wp2
  go_loopw [3, 4] (fun t3 t4 wz => ∃ (a : Nat) (sl : Option Addr) (cl : Nat) (l : List Mk) (z : World), z = wz ∧ t3 = .slice sl l.length cl ∧ t4 = .int .i64 (a : Int) ∧ Hid (a ≤ 65536 ∧ (∃ f, l ++ mks U f a = marksU U ∧ 65536 - a ≤ f)) ∧ Hid (KL 89 3 cM y (.slice sl l.length cl) l z)) (fun _ t4 _ => (65536 - intOf t4).toNat)
  case atStart => exact ⟨0, _, _, [], _, rfl, rfl, rfl, ⟨Nat.zero_le _, 65536, rfl, Nat.le_refl _⟩, K0⟩
  case round =>
    obtain ⟨a, sl, cl, l, z, rfl, rfl, rfl, J, K⟩ := hrel
    clear K0
    by_cases hlt : a < 65536
    · obtain ⟨u, hx⟩ : ∃ u, U[a]? = some u := ⟨_, List.getElem?_eq_getElem (by rw [hU.out]; exact hlt)⟩
      have hai : (a : Int) < 65536 := by omega
      have hlt' : Hid (a < 65536) := hlt
      have wa : IntKind.i64.wrap ((a : Int) + 1) = (a : Int) + 1 := by rw [IntKind.wrap_i64]; omega
      have ia := fun w => idxP (P := Tryd.prog) (g := q.u) (off := 0) (len := 65536) (cap := 65536) Tryd.underlying67 (s := 1) (by kernel_rfl) .i64 a w hlt
      rw [Nat.mul_one, Nat.zero_add] at ia
      have c2 : z.cell? ⟨q.s, 2, none⟩ = some (.slice (some ⟨q.u, 0, none⟩) 65536 65536) := (hB.out z K.out.low).1.c 2 _ rfl
      have ca : z.cell? ⟨q.u, a, none⟩ = some (.int .u8 (u.toNat : Int)) := (hB.out z K.out.low).2.c _ _ (rU_get _ _ _ hx)
      have hx' : Hid (U[a]? = some u) := hx
      clear hlt hx
      go_wp2
      go_loopw [5] (fun t5 wz => ∃ (e : Nat) (x : World), x = wz ∧ t5 = .int .i64 (e : Int) ∧ Hid (a + 1 ≤ e ∧ e ≤ 65536 ∧ rEnd U u e = rEnd U u (a + 1)) ∧ Hid (Below z.heap.size z x)) (fun t5 _ => (65536 - intOf t5).toNat)
      case atStart => exact ⟨a + 1, _, rfl, by simp, ⟨Nat.le_refl _, hlt'.out, rfl⟩, Below.refl _ _⟩
      case round =>
        obtain ⟨e, x, rfl, rfl, E, X⟩ := hrel
        have K1 : Hid (KL 89 3 cM y (.slice sl l.length cl) l x) := K.out.below X.out
        clear c2 ca
        have c2 : x.cell? ⟨q.s, 2, none⟩ = some (.slice (some ⟨q.u, 0, none⟩) 65536 65536) := (hB.out x K1.out.low).1.c 2 _ rfl
        have ca : x.cell? ⟨q.u, a, none⟩ = some (.int .u8 (u.toNat : Int)) := (hB.out x K1.out.low).2.c _ _ (rU_get _ _ _ hx'.out)
        by_cases hgo : U[e]? = some u
        · have hel : e < 65536 := by have := (List.getElem?_eq_some_iff.1 hgo).1; rw [hU.out] at this; exact this
          have hei : (e : Int) < 65536 := by omega
          have we : IntKind.i64.wrap ((e : Int) + 1) = (e : Int) + 1 := by rw [IntKind.wrap_i64]; omega
          have ie := fun w => idxP (P := Tryd.prog) (g := q.u) (off := 0) (len := 65536) (cap := 65536) Tryd.underlying67 (s := 1) (by kernel_rfl) .i64 e w hel
          rw [Nat.mul_one, Nat.zero_add] at ie
          have ce : x.cell? ⟨q.u, e, none⟩ = some (.int .u8 (u.toNat : Int)) := (hB.out x K1.out.low).2.c _ _ (rU_get _ _ _ hgo)
          have hq : ((u.toNat : Int) == (u.toNat : Int)) = true := by simp
          have E' : Hid (a + 1 ≤ e + 1 ∧ e + 1 ≤ 65536 ∧ rEnd U u (e + 1) = rEnd U u (a + 1)) := ⟨by have := E.out.1; omega, hel, by rw [← rEnd_step hgo]; exact E.out.2.2⟩
          have hel' : Hid (e < 65536) := hel
          clear hgo hel
          go_wp2
          go_quiet (fail)
          go_wp2
          go_roundw
          case rel => exact ⟨e + 1, _, rfl, by simp, E', below_drewN X.out⟩
          case measure => have := hel'.out; simp [intOf]; omega
        · have hend : Hid (rEnd U u (a + 1) = e) := by show _ = _; rw [← E.out.2.2]; exact rEnd_stop hgo
          have he1 : Hid (a + 1 ≤ e ∧ e ≤ 65536) := ⟨E.out.1, E.out.2.1⟩
          have ws : IntKind.i64.wrap ((e : Int) - a) = (e : Int) - a := by rw [IntKind.wrap_i64]; have := he1.out; omega
          have hfin : Hid (∃ f, 65536 - e ≤ f ∧ (l ++ (if u = 0 then [] else [⟨(a : Int), (e : Int) - (a : Int), decide (u = 1)⟩])) ++ mks U f e = marksU U) := by
            obtain ⟨f, h1, h2⟩ := J.out.2
            rcases f with _ | f
            · have := hlt'.out; omega
            · refine ⟨f, by have := he1.out; omega, ?_⟩
              rw [← h1]
              conv => rhs; unfold mks
              rw [hx'.out]
              simp only
              rw [hend.out, List.append_assoc]
          have hlen : Hid (l.length ≤ 65536) := by
            obtain ⟨f, h1, h2⟩ := J.out.2
            have h3 := mks_len U 65536 0 (Nat.zero_le _)
            have h4 : (l ++ mks U f a).length = (mks U 65536 0).length := congrArg List.length h1
            rw [List.length_append] at h4
            rw [hU.out] at h3
            show _ ≤ _
            omega
          have hy0 : Hid (y.heap.size ≤ x.heap.size) := K1.out.low.size
          have hone : ((u.toNat : Int) == 1) = decide (u = 1) := by
            rw [Bool.eq_iff_iff]
            simp
            constructor
            · intro h9; exact UInt8.toNat_inj.1 (by have : (1 : UInt8).toNat = 1 := rfl; omega)
            · intro h9; subst h9; rfl
          have hnz : ((u.toNat : Int) != 0) = !decide (u = 0) := by
            rw [Bool.eq_iff_iff]
            simp
            constructor
            · intro h9 h8; subst h8; exact h9 rfl
            · intro h9 h8; exact h9 (UInt8.toNat_inj.1 (by have : (0 : UInt8).toNat = 0 := rfl; omega))
          clear E
          by_cases hel : e < 65536
          · obtain ⟨xe, hxe⟩ : ∃ u, U[e]? = some u := ⟨_, List.getElem?_eq_getElem (by rw [hU.out]; exact hel)⟩
            have hei : (e : Int) < 65536 := by omega
            have ie := fun w => idxP (P := Tryd.prog) (g := q.u) (off := 0) (len := 65536) (cap := 65536) Tryd.underlying67 (s := 1) (by kernel_rfl) .i64 e w hel
            rw [Nat.mul_one, Nat.zero_add] at ie
            have ce : x.cell? ⟨q.u, e, none⟩ = some (.int .u8 (xe.toNat : Int)) := (hB.out x K1.out.low).2.c _ _ (rU_get _ _ _ hxe)
            have hq : ((xe.toNat : Int) == (u.toNat : Int)) = false := by
              rw [beq_eq_false_iff_ne]
              intro h9
              exact hgo (by rw [hxe, UInt8.toNat_inj.1 (Int.ofNat.inj h9)])
            clear hgo hel hxe
            by_cases hu0 : u = 0
            · rw [decide_eq_true hu0] at hnz
              rw [if_pos hu0, List.append_nil] at hfin
              clear hu0
              go_wp2
              go_quiet (fail)
              go_wp2
              go_roundw
              case rel => exact ⟨e, _, _, l, _, rfl, rfl, rfl, ⟨he1.out.2, by obtain ⟨f, h1, h2⟩ := hfin.out; exact ⟨f, h2, h1⟩⟩, K1.out.below (below_drewN (Below.refl _ _))⟩
              case measure => have := he1.out; have := hlt'.out; simp [intOf]; omega
            · rw [decide_eq_false hu0] at hnz
              rw [if_neg hu0] at hfin
              obtain ⟨ub, hub⟩ : ∃ b, decide (u = 1) = b := ⟨_, rfl⟩
              rw [hub] at hone hfin
              clear hu0 hub
              go_wp2
              go_quiet (fail)
              go_wp2_with (first
                | ((with_reducible refine at_bu _ _ (k3 ⟨(a : Int), (e : Int) - (a : Int), ub⟩) ?_ ?_ ?_ ?_ ?_); rfl; rfl; rfl; kernel_rfl)
                | (at_builtin; refine at_appL kMk rfl (.tmp 39) (.tmp 53) rfl y.heap.size _ l rfl ((K1.out.own.below (below_drewN (Below.refl _ _))).alloc _) (x.drewN nq).heap.size ⟨(a : Int), (e : Int) - (a : Int), ub⟩ rfl (one_bxL _ _ _) ?_ ?_ ?_; (have := hlen.out; omega); (have := hy0.out; simp; omega); intro v' z1 A; obtain ⟨sp9, cp9, e9, _⟩ := OwnL.open (c := cM) (s := 3) (fun _ => rfl) A.out.own; subst e9; have K2 : Hid (KL 89 3 cM y _ (l ++ [⟨(a : Int), (e : Int) - (a : Int), ub⟩]) z1) := (K1.out.below (below_drewN (Below.refl _ _))).add A.out; clear A))
              go_roundw
              case rel => exact ⟨e, _, _, _, _, rfl, by rw [List.length_append, List.length_singleton], rfl, ⟨he1.out.2, by obtain ⟨f, h1, h2⟩ := hfin.out; exact ⟨f, h2, h1⟩⟩, K2⟩
              case measure => have := he1.out; have := hlt'.out; simp [intOf]; omega
          · have hei : ¬ (e : Int) < 65536 := by omega
            have hed : decide ((e : Int) < 65536) = false := decide_eq_false hei
            clear hgo hel hei
            by_cases hu0 : u = 0
            · rw [decide_eq_true hu0] at hnz
              rw [if_pos hu0, List.append_nil] at hfin
              clear hu0
              go_wp2
              go_quiet (fail)
              go_wp2
              go_roundw
              case rel => exact ⟨e, _, _, l, _, rfl, rfl, rfl, ⟨he1.out.2, by obtain ⟨f, h1, h2⟩ := hfin.out; exact ⟨f, h2, h1⟩⟩, K1.out.below (below_drewN (Below.refl _ _))⟩
              case measure => have := he1.out; have := hlt'.out; simp [intOf]; omega
            · rw [decide_eq_false hu0] at hnz
              rw [if_neg hu0] at hfin
              obtain ⟨ub, hub⟩ : ∃ b, decide (u = 1) = b := ⟨_, rfl⟩
              rw [hub] at hone hfin
              clear hu0 hub
              go_wp2
              go_quiet (fail)
              go_wp2_with (first
                | ((with_reducible refine at_bu _ _ (k3 ⟨(a : Int), (e : Int) - (a : Int), ub⟩) ?_ ?_ ?_ ?_ ?_); rfl; rfl; rfl; kernel_rfl)
                | (at_builtin; refine at_appL kMk rfl (.tmp 39) (.tmp 53) rfl y.heap.size _ l rfl ((K1.out.own.below (below_drewN (Below.refl _ _))).alloc _) (x.drewN nq).heap.size ⟨(a : Int), (e : Int) - (a : Int), ub⟩ rfl (one_bxL _ _ _) ?_ ?_ ?_; (have := hlen.out; omega); (have := hy0.out; simp; omega); intro v' z1 A; obtain ⟨sp9, cp9, e9, _⟩ := OwnL.open (c := cM) (s := 3) (fun _ => rfl) A.out.own; subst e9; have K2 : Hid (KL 89 3 cM y _ (l ++ [⟨(a : Int), (e : Int) - (a : Int), ub⟩]) z1) := (K1.out.below (below_drewN (Below.refl _ _))).add A.out; clear A))
              go_roundw
              case rel => exact ⟨e, _, _, _, _, rfl, by rw [List.length_append, List.length_singleton], rfl, ⟨he1.out.2, by obtain ⟨f, h1, h2⟩ := hfin.out; exact ⟨f, h2, h1⟩⟩, K2⟩
              case measure => have := he1.out; have := hlt'.out; simp [intOf]; omega
    · have hae : a = 65536 := by have := J.out.1; omega
      subst hae
      have hfin : Hid (l = marksU U) := by
        obtain ⟨f, h1, h2⟩ := J.out.2
        show _ = _
        rw [← h1]
        have : mks U f 65536 = [] := by
          cases f with
          | zero => rfl
          | succ f =>
            unfold mks
            rw [List.getElem?_eq_none (by rw [hU.out]; exact Nat.le_refl _)]
        rw [this, List.append_nil]
      clear hlt
      go_wp2
      go_ret
      exact ⟨_, rfl, by rw [← hfin.out]; exact K⟩
end Go.Proofs.YthbdpceobnkflaaDoor

namespace Go.Proofs.YthbdpceobnkflaaDoor
open Go Go.RowKit
set_option linter.unusedVariables false
set_option maxHeartbeats 3000000
set_option maxRecDepth 20000

def zO : Oo := ⟨none, 0, [], none, 0, [], none, 0, []⟩
theorem oneO (o : Oo) : (oC o).all (·.oneCell') = true := by simp [oC, Value.oneCell']
end Go.Proofs.YthbdpceobnkflaaDoor

namespace Go.Proofs.YthbdpceobnkflaaDoor
open Go Go.RowKit
set_option linter.unusedVariables false
set_option maxHeartbeats 3000000
set_option maxRecDepth 20000

section
variable {α : Type} {T t : TypeId} {s bts : Nat} {c : α → List Value}
theorem run_app0 (K : KdL T t s bts c) (w : World) (ty : TypeId) (B : Nat) (v : Value) (l : List α) (hown : OwnL t s c B w v l) (p : Option Addr) (cp : Nat) : (Builtin.append_ #[T, T] ty #[v, .slice p 0 cp]).run Tryd.prog w = .ok v w := by
  obtain ⟨i, z, hi, hz0, hz1, hz2, hz3⟩ := K.i
  have hl : ∀ (x : Addr), (loadCells x 0).run Tryd.prog w = .ok #[] w := fun x => by simpa using run_loadCells_list (P := Tryd.prog) w x [] (by simp)
  rcases hown.2 with ⟨rfl, h0⟩ | ⟨g, cap, cur, rfl, _, _, hnc, _⟩
  · cases p <;> simp [Builtin.append_, run_underlying K.u, sizeOf, typeInfo, hi, Builtin.lenOf, Builtin.firstCells, hl]
  · cases p <;> simp [Builtin.append_, run_underlying K.u, sizeOf, typeInfo, hi, Builtin.lenOf, Builtin.firstCells, hnc, storeCells, hl]
theorem run_appM (K : KdL T t s bts c) (w : World) (B : Nat) (v : Value) (l us : List α) (ty : TypeId) (hown : OwnL t s c B w v l) (p : Option Addr) (n cm : Nat) (hm : us.length = n) (hu : LiesL s c w p us) (hn : l.length + n ≤ 4000000000) (hB : B ≤ w.heap.size) :
    ∃ v' w', (Builtin.append_ #[T, T] ty #[v, .slice p n cm]).run Tryd.prog w = .ok v' w' ∧ OwnL t s c B w' v' (l ++ us) ∧ w.grownBy w' v.ownBlock := by
  subst hm
  by_cases h0 : us = []
  · subst h0
    exact ⟨v, w, run_app0 K w ty B v l hown p cm, by rw [List.append_nil]; exact hown, ⟨rfl, rfl, rfl, Nat.le_refl _, fun _ _ _ => rfl⟩⟩
  · obtain ⟨g0, o0, rfl, _⟩ := hu 0 _ (List.getElem?_eq_getElem (List.length_pos_iff.2 h0))
    obtain ⟨i, z, hi, hz0, hz1, hz2, hz3⟩ := K.i
    have hc : ∀ j u', (rowL c us)[j]? = some u' → w.cell? ((⟨g0, o0, none⟩ : Addr).add j) = some u' := fun j u' h => by
      rw [Addr.add_lit]
      exact hu.cells K.len K.s0 j u' h
    obtain ⟨v', w', h1, h2, h3, -⟩ := run_append_own (P := Tryd.prog) w B T ty t i z s bts K.u hi hz0 hz1 hz2 hz3 K.s0 v l.length (rowL c l) hown ⟨g0, o0, none⟩ us.length cm (rowL c us) (rowL_len K.len us) hc (rowL_cell K.one us) (by unfold maxLen; omega) (Nat.le_trans (Nat.mul_le_mul (show l.length + us.length ≤ 4000000000 by omega) K.b0) (by decide)) hB
    refine ⟨v', w', h1, ?_, h3⟩
    unfold OwnL
    rw [rowL_app, List.length_append]
    exact h2
end
/-- A list that grew leaves what is of another type. -/
theorem own_grown {α β : Type} {t t' : TypeId} {s s' : Nat} {c : α → List Value} {c' : β → List Value} {B : Nat} {y z : World} {v u : Value} {l : List α} {l' : List β} (ho : OwnL t s c B y v l) (hk : OwnL t' s' c' B y u l') (hne : t ≠ t') (hg : y.grownBy z v.ownBlock) : OwnL t' s' c' B z u l' := hk.keepB fun g e => by
  refine hg.block g (hk.lt g e).2 fun e2 => ?_
  obtain ⟨cs, h1⟩ := ho.ty g e2.symm
  obtain ⟨ds, h2⟩ := hk.ty g e
  exact Bx.unlike h1 h2 hne rfl
theorem bx_grown {α : Type} {t t' : TypeId} {s : Nat} {c : α → List Value} {B : Nat} {y z : World} {v : Value} {l : List α} {b : Nat} {cs : Array Value} (ho : OwnL t s c B y v l) (hk : Bx y b cs t') (hne : t ≠ t') (hg : y.grownBy z v.ownBlock) : Bx z b cs t' := by
  refine (hg.block b (heap_lt hk) fun e2 => ?_).trans hk
  obtain ⟨ds, h1⟩ := ho.ty b e2.symm
  exact Bx.unlike h1 hk hne rfl
end Go.Proofs.YthbdpceobnkflaaDoor

namespace Go.Proofs.YthbdpceobnkflaaDoor
open Go Go.RowKit
set_option linter.unusedVariables false
set_option maxHeartbeats 3000000
set_option maxRecDepth 20000

theorem wp_appR {o : Oper} {a : Act} {w : World} {K : Act → World → Prop} {Q : Exit → Act → World → Prop} (T : TypeId) (sl x : Operand) (ho : o.op = .call { callee := .builtin .append, args := #[sl, x], argTypes := #[T, T] })
    (v xv : Value) (hs : a.eval sl = v) (hx : a.eval x = xv) (v' : Value) (w' : World) (hrun : (Builtin.append_ #[T, T] o.type #[v, xv]).run Tryd.prog w = .ok v' w') (k : K (a.put o.dst v') w') : o.wp Tryd.prog a w K Q := by
  unfold Oper.wp
  simp [execOp, ho, resolve, invoke, builtin, hs, hx, hrun, Result.andThen]
  exact k
end Go.Proofs.YthbdpceobnkflaaDoor
