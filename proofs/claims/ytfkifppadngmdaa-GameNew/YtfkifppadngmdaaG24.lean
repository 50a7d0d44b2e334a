/- The program's own: whether a machine may be; a font; a timer; a machine in memory of its own; what the orders do. -/
import Derived.Test.YtfkifppadngmdaaG23
import Derived.Deep.Upon
import Derived.MapKept
namespace Go.Proofs.Ytfkifppadngmdaa
open Go Go.RowKit Go.Shelf Go.MapKept
set_option linter.unusedVariables false
set_option maxHeartbeats 1000000
set_option maxRecDepth 20000

theorem check_any (w : World) (v : List UInt8) (i pc : Nat) (de so : UInt8) (sS sP sM : Option Addr) (nS nP nM cS cP cM : Nat) :
    Calls Try.prog 12 #[.agg (gCs v i pc (.slice sS nS cS) de so (.slice sP nP cP) (.slice sM nM cM))] w fun e w' => e = .returned (.int .i64 (if nP == 256 && (nM == 3232 && decide (nS ≤ 12)) then 0 else 180)) ∧ Below w.heap.size w w' := by
  by_cases h1 : nP = 256
  · by_cases h2 : nM = 3232
    · by_cases h3 : nS ≤ 12
      · rw [if_pos (by simp [h1, h2, h3])]
        have q1 : ((nP : Int) != 256) = false := by simp; omega
        have q2 : ((nM : Int) != 3232) = false := by simp; omega
        have q3 : decide ((12 : Int) < (nS : Int)) = false := by simp; omega
        clear h1 h2 h3
        unfold gCs
        go_enter Try.func12, Try.ntmps12
        go_wp2
        go_ret
        exact ⟨rfl, below_one _ _⟩
      · rw [if_neg (by simp [h3])]
        have q1 : ((nP : Int) != 256) = false := by simp; omega
        have q2 : ((nM : Int) != 3232) = false := by simp; omega
        have q3 : decide ((12 : Int) < (nS : Int)) = true := by simp; omega
        clear h1 h2 h3
        unfold gCs
        go_enter Try.func12, Try.ntmps12
        go_wp2
        go_ret
        exact ⟨rfl, below_one _ _⟩
    · rw [if_neg (by simp [h2])]
      have q1 : ((nP : Int) != 256) = false := by simp; omega
      have q2 : ((nM : Int) != 3232) = true := by simp; omega
      clear h1 h2
      unfold gCs
      go_enter Try.func12, Try.ntmps12
      go_wp2
      go_ret
      exact ⟨rfl, below_one _ _⟩
  · rw [if_neg (by simp [h1])]
    have q1 : ((nP : Int) != 256) = true := by simp; omega
    clear h1
    unfold gCs
    go_enter Try.func12, Try.ntmps12
    go_wp2
    go_ret
    exact ⟨rfl, below_one _ _⟩
theorem check_gl (w : World) (C : Array Value) (g : Gm) (h : GL w C g) : Calls Try.prog 12 #[.agg C] w fun e w' => e = .returned (.int .i64 (if g.may then 0 else 180)) ∧ Below w.heap.size w w' := by
  obtain ⟨⟨sS, sP, sM, cS, cP, cM, rfl, h1, h2, h3⟩, ok⟩ := h
  exact check_any w _ _ _ _ _ _ _ _ _ _ _ _ _ _
theorem fits_any (w : World) (D : Array Value) (f : Fo) (h : FL w D f) (hb : f.by_.length ≤ 4000000000) : Calls Try.prog 13 #[.agg D] w fun e w' => e = .returned (.bool (fontG f)) ∧ Below w.heap.size w w' := by
  obtain ⟨⟨sB, cB', rfl, k1⟩, k2, k3, k4⟩ := h
  obtain ⟨n, hn⟩ : ∃ n, f.by_.length = n := ⟨_, rfl⟩
  obtain ⟨fr, hr⟩ : ∃ n, f.fr = n := ⟨_, rfl⟩
  obtain ⟨R, hR⟩ : ∃ R, fontG f = R := ⟨_, rfl⟩
  have i1 : (n : Int) ≤ 4000000000 := by omega
  have i2 : (fr : Int) < 65536 := by omega
  have q1 : decide ((n : Int) ≤ 65536 - (fr : Int)) = R := by
    rw [← hR]
    unfold fontG
    simp only [decide_eq_decide]
    omega
  rw [hn, hr, hR]
  clear hn hr hR k1 k2 k3 k4 hb
  unfold fCs
  go_enter Try.func13, Try.ntmps13
  go_wp2
  go_ret
  exact ⟨rfl, below_one _ _⟩
/-- A row put behind nothing: a row of its own. -/
theorem at_appC {α : Type} {T t : TypeId} {s bts : Nat} {c : α → List Value} (K : KdL T t s bts c) {ops : Array Oper} {rest : List Oper} {o : Oper} {a : Act} {w : World} {Q : Exit → Act → World → Prop} (hgd : o.guard = none) (x : Operand)
    (ho : o.op = .call { callee := .builtin .append, args := #[.const (.slice none 0 0), x], argTypes := #[T, T] }) (sp : Option Addr) (m cm : Nat) (us : List α) (hm : us.length = m) (hx : a.eval x = .slice sp m cm) (hu : LiesL s c w sp us) (hn : m ≤ 100000000000)
    (k : ∀ v' w', Hid (OwnL t s c w.heap.size w' v' us ∧ Below w.heap.size w w') → wpList Try.prog ops Q rest (a.put o.dst v') w') : wpList Try.prog ops Q (o :: rest) a w := by
  by_cases h0 : m = 0
  · subst h0
    obtain rfl : us = [] := List.eq_nil_of_length_eq_zero hm
    obtain ⟨i, z, hi, hz0, hz1, hz2, hz3⟩ := K.i
    have hl0 : ∀ (x : Addr), (loadCells x 0).run Try.prog w = .ok #[] w := fun x => by simpa using run_loadCells_list (P := Try.prog) w x [] (by simp)
    have hrun : (Builtin.append_ #[T, T] o.type #[.slice none 0 0, .slice sp 0 cm]).run Try.prog w = .ok (.slice none 0 0) w := by
      cases sp <;> simp [Builtin.append_, run_underlying K.u, sizeOf, typeInfo, hi, Builtin.lenOf, Builtin.firstCells, hl0]
    refine wpList_plain hgd fun K' hK => ?_
    unfold Oper.wp
    have e0 : a.eval (.const (.slice none 0 0)) = .slice none 0 0 := rfl
    simp [execOp, ho, resolve, invoke, builtin, e0, hx, hrun, Result.andThen]
    exact hK _ _ (k _ _ ⟨OwnL.nil _ _, Below.refl _ _⟩)
  · obtain ⟨gb, ob, rfl, _⟩ := hu 0 _ (List.getElem?_eq_getElem (by omega))
    refine at_appNL K hgd (.const (.slice none 0 0)) x ho w.heap.size (.slice none 0 0) [] rfl (OwnL.nil _ _) gb ob m cm us hm hx hu (by omega) (by simpa using hn) (Nat.le_refl _) ?_
    intro v' w' H
    have ho := H.out.own
    rw [List.nil_append] at ho
    exact k v' w' ⟨ho, H.out.cu.low⟩
theorem own_set {α : Type} {t : TypeId} {s : Nat} {c : α → List Value} {B : Nat} {y : World} {u : Value} {l : List α} (h : OwnL t s c B y u l) {b k : Nat} {v : Value} (hb : b < B) : OwnL t s c B (y.setCell ⟨b, k, none⟩ v) u l := h.keepB fun q hq => heap_setCell_other y ⟨b, k, none⟩ q v (fun e => by have h1 := (h.lt q hq).1; have h2 : q = b := e; omega)
theorem size_set (y : World) (b k : Nat) (v : Value) : y.heap.size ≤ (y.setCell ⟨b, k, none⟩ v).heap.size := ((Below.refl 0 y).setCell (p := ⟨b, k, none⟩) (Nat.zero_le _) v).size
theorem gCs_s (v : List UInt8) (i pc : Nat) (sS : Value) (de so : UInt8) (sP sM a : Value) : (gCs v i pc sS de so sP sM).setIfInBounds 18 a = gCs v i pc a de so sP sM := rfl
theorem gCs_p (v : List UInt8) (i pc : Nat) (sS : Value) (de so : UInt8) (sP sM a : Value) : (gCs v i pc sS de so sP sM).setIfInBounds 21 a = gCs v i pc sS de so a sM := rfl
theorem gCs_m (v : List UInt8) (i pc : Nat) (sS : Value) (de so : UInt8) (sP sM a : Value) : (gCs v i pc sS de so sP sM).setIfInBounds 22 a = gCs v i pc sS de so sP a := rfl
/-- Two boxes at the bottom, and rows of their own above. -/
theorem pcopied_any (w : World) (C : Array Value) (g : Gm) (h : GL w C g) (n1 : g.st.length ≤ 4000000000) (n2 : g.pg.length ≤ 4000000000) (n3 : g.me.length ≤ 4000000000) :
    Calls Try.prog 15 #[.agg C] w fun e w' => ∃ C', e = .returned (.agg C') ∧ Hid (GO w.heap.size w' C' g ∧ Below w.heap.size w w') := by
  obtain ⟨⟨sS, sP, sM, cS, cP, cM, hC, h1, h2, h3⟩, ok⟩ := h
  replace h1 : Hid (LW w sS g.st) := h1
  replace h2 : Hid (LB w sP g.pg) := h2
  replace h3 : Hid (LB w sM g.me) := h3
  obtain ⟨l1, hl1⟩ : ∃ x, g.st.length = x := ⟨_, rfl⟩
  obtain ⟨l2, hl2⟩ : ∃ x, g.pg.length = x := ⟨_, rfl⟩
  obtain ⟨l3, hl3⟩ : ∃ x, g.me.length = x := ⟨_, rfl⟩
  have nn : Hid (g.st.length = l1 ∧ g.pg.length = l2 ∧ g.me.length = l3 ∧ l1 ≤ 4000000000 ∧ l2 ≤ 4000000000 ∧ l3 ≤ 4000000000) := ⟨hl1, hl2, hl3, by omega, by omega, by omega⟩
  have ok' : Hid g.Ok := ok
  have fC : Hid (C[18]? = some (.slice sS l1 cS) ∧ C[21]? = some (.slice sP l2 cP) ∧ C[22]? = some (.slice sM l3 cM) ∧ C.size = 23 ∧ (∀ s1 k1 c1 s2 k2 c2 s3 k3 c3, (((C.setIfInBounds 18 (.slice s1 k1 c1)).setIfInBounds 21 (.slice s2 k2 c2)).setIfInBounds 22 (.slice s3 k3 c3)).all (·.oneCell') = true) ∧ ∀ a b c, ((C.setIfInBounds 18 a).setIfInBounds 21 b).setIfInBounds 22 c = gCs g.v g.i g.pc a g.de g.so b c) := by
    rw [hC, hl1, hl2, hl3]
    refine ⟨rfl, rfl, rfl, rfl, fun s1 k1 c1 s2 k2 c2 s3 k3 c3 => ?_, fun _ _ _ => rfl⟩
    rw [gCs_s, gCs_p, gCs_m]
    exact gCs_one _ _ _ _ _ _ _ _ _ _ _ _ _ _
  obtain ⟨CZ, hCZ⟩ : ∃ x : Array Value, Hid (x = gZ) := ⟨_, (rfl : gZ = gZ)⟩
  have hCZ' : Hid (CZ.size = 23) := by show _ = _; rw [hCZ.out]; rfl
  clear hC hl1 hl2 hl3 n1 n2 n3 ok
  go_enter Try.func15, Try.ntmps15
  go_wp2_with (first
    | ((with_reducible refine gen_world ((w.alloc (.cells C 29)).alloc (.cells #[.int .u8 0, .int .u8 0, .int .u8 0, .int .u8 0, .int .u8 0, .int .u8 0, .int .u8 0, .int .u8 0, .int .u8 0, .int .u8 0, .int .u8 0, .int .u8 0, .int .u8 0, .int .u8 0, .int .u8 0, .int .u8 0, .int .u16 0, .int .u16 0, .slice none 0 0, .int .u8 0, .int .u8 0, .slice none 0 0, .slice none 0 0] 29)) (fun y => Fm w [(w.heap.size, C, 29), (w.heap.size + 1, CZ, 29)] y ∧ y.heap.size = w.heap.size + 2) ?_ ?_); (rw [hCZ.out]; unfold gZ; exact ⟨Fm.two w _ _ _ _, by simp [World.size_alloc]⟩); intro y0 K0; have c18 := (K0.out.1.bx 0 _ _ _ rfl).c 18 _ fC.out.1; have z18 := (K0.out.1.bx 0 _ _ _ rfl).fz 18)
    | ((with_reducible refine at_appC kWord ?_ (.tmp 4) ?_ sS l1 cS g.st ?_ ?_ ?_ ?_ ?_); rfl; rfl; exact nn.out.1; rfl; exact h1.out.below K0.out.1.low; (have := nn.out.2.2.2.1; omega); intro v1 y1 H1; obtain ⟨s1, k1, c1, rfl⟩ : ∃ s k c, v1 = .slice s k c := (by obtain ⟨s2, c2, ev, _⟩ := OwnL.open kWord.len H1.out.1; exact ⟨s2, _, c2, ev⟩); have K1 : Hid (Fm w [(w.heap.size, C, 29), (w.heap.size + 1, CZ, 29)] y1 ∧ OwnL 26 1 cW (w.heap.size + 2) y1 (.slice s1 k1 c1) g.st ∧ w.heap.size + 2 ≤ y1.heap.size) := ⟨K0.out.1.below H1.out.2, (by have := H1.out.1; rw [K0.out.2] at this; exact this), (by have := H1.out.2.size; rw [K0.out.2] at this; exact this)⟩; have d18 := (K1.out.1.bx 0 _ _ _ rfl).c 18 _ fC.out.1; have zd18 := (K1.out.1.bx 0 _ _ _ rfl).fz 18; obtain ⟨A1, hA1⟩ : ∃ x, Hid (x = C.setIfInBounds 18 (.slice s1 k1 c1)) := ⟨_, (rfl : C.setIfInBounds 18 (.slice s1 k1 c1) = _)⟩; clear c18 z18 K0 H1)
    | ((with_reducible refine gen_world (y1.setCell ⟨w.heap.size, 18, none⟩ (.slice s1 k1 c1)) (fun y => Fm w [(w.heap.size, A1, 29), (w.heap.size + 1, CZ, 29)] y ∧ OwnL 26 1 cW (w.heap.size + 2) y (.slice s1 k1 c1) g.st ∧ w.heap.size + 2 ≤ y.heap.size) ?_ ?_); (exact ⟨K1.out.1.setCell 0 _ _ _ _ rfl 18 _ hA1.out.symm, own_set K1.out.2.1 (by omega), Nat.le_trans K1.out.2.2 (size_set _ _ _ _)⟩); intro y2 K2; have c21 := (K2.out.1.bx 0 _ _ _ rfl).c 21 _ (show A1[21]? = some (.slice sP l2 cP) by rw [hA1.out, Array.getElem?_setIfInBounds_ne (by decide)]; exact fC.out.2.1); have z21 := (K2.out.1.bx 0 _ _ _ rfl).fz 21; clear d18 zd18 K1)
    | ((with_reducible refine at_appC kByte ?_ (.tmp 8) ?_ sP l2 cP g.pg ?_ ?_ ?_ ?_ ?_); rfl; rfl; exact nn.out.2.1; rfl; exact h2.out.below K2.out.1.low; (have := nn.out.2.2.2.2.1; omega); intro v3 y3 H3; obtain ⟨s3, k3, c3, rfl⟩ : ∃ s k c, v3 = .slice s k c := (by obtain ⟨s2, c2, ev, _⟩ := OwnL.open kByte.len H3.out.1; exact ⟨s2, _, c2, ev⟩); have K3 : Hid (Fm w [(w.heap.size, A1, 29), (w.heap.size + 1, CZ, 29)] y3 ∧ OwnL 26 1 cW (w.heap.size + 2) y3 (.slice s1 k1 c1) g.st ∧ OwnL 5 1 cB (w.heap.size + 2) y3 (.slice s3 k3 c3) g.pg ∧ w.heap.size + 2 ≤ y3.heap.size) := ⟨K2.out.1.below H3.out.2, K2.out.2.1.below H3.out.2, H3.out.1.weak K2.out.2.2, Nat.le_trans K2.out.2.2 H3.out.2.size⟩; have d21 := (K3.out.1.bx 0 _ _ _ rfl).c 21 _ (show A1[21]? = some (.slice sP l2 cP) by rw [hA1.out, Array.getElem?_setIfInBounds_ne (by decide)]; exact fC.out.2.1); have zd21 := (K3.out.1.bx 0 _ _ _ rfl).fz 21; obtain ⟨A2, hA2⟩ : ∃ x, Hid (x = A1.setIfInBounds 21 (.slice s3 k3 c3)) := ⟨_, (rfl : A1.setIfInBounds 21 (.slice s3 k3 c3) = _)⟩; clear c21 z21 K2 H3)
    | ((with_reducible refine gen_world (y3.setCell ⟨w.heap.size, 21, none⟩ (.slice s3 k3 c3)) (fun y => Fm w [(w.heap.size, A2, 29), (w.heap.size + 1, CZ, 29)] y ∧ OwnL 26 1 cW (w.heap.size + 2) y (.slice s1 k1 c1) g.st ∧ OwnL 5 1 cB (w.heap.size + 2) y (.slice s3 k3 c3) g.pg ∧ w.heap.size + 2 ≤ y.heap.size) ?_ ?_); (exact ⟨K3.out.1.setCell 0 _ _ _ _ rfl 21 _ hA2.out.symm, own_set K3.out.2.1 (by omega), own_set K3.out.2.2.1 (by omega), Nat.le_trans K3.out.2.2.2 (size_set _ _ _ _)⟩); intro y4 K4; have c22 := (K4.out.1.bx 0 _ _ _ rfl).c 22 _ (show A2[22]? = some (.slice sM l3 cM) by rw [hA2.out, Array.getElem?_setIfInBounds_ne (by decide), hA1.out, Array.getElem?_setIfInBounds_ne (by decide)]; exact fC.out.2.2.1); have z22 := (K4.out.1.bx 0 _ _ _ rfl).fz 22; clear d21 zd21 K3)
    | ((with_reducible refine at_appC kByte ?_ (.tmp 12) ?_ sM l3 cM g.me ?_ ?_ ?_ ?_ ?_); rfl; rfl; exact nn.out.2.2.1; rfl; exact h3.out.below K4.out.1.low; (have := nn.out.2.2.2.2.2; omega); intro v5 y5 H5; obtain ⟨s5, k5, c5, rfl⟩ : ∃ s k c, v5 = .slice s k c := (by obtain ⟨s2, c2, ev, _⟩ := OwnL.open kByte.len H5.out.1; exact ⟨s2, _, c2, ev⟩); have K5 : Hid (Fm w [(w.heap.size, A2, 29), (w.heap.size + 1, CZ, 29)] y5 ∧ OwnL 26 1 cW (w.heap.size + 2) y5 (.slice s1 k1 c1) g.st ∧ OwnL 5 1 cB (w.heap.size + 2) y5 (.slice s3 k3 c3) g.pg ∧ OwnL 5 1 cB (w.heap.size + 2) y5 (.slice s5 k5 c5) g.me ∧ ∀ q, Value.ownBlock (.slice s3 k3 c3) = some q → Value.ownBlock (.slice s5 k5 c5) ≠ some q) := ⟨K4.out.1.below H5.out.2, K4.out.2.1.below H5.out.2, K4.out.2.2.1.below H5.out.2, H5.out.1.weak K4.out.2.2.2, (fun q hq hq2 => (by have e1 := (K4.out.2.2.1.lt q hq).2; have e2 := (H5.out.1.lt q hq2).1; omega))⟩; have d22 := (K5.out.1.bx 0 _ _ _ rfl).c 22 _ (show A2[22]? = some (.slice sM l3 cM) by rw [hA2.out, Array.getElem?_setIfInBounds_ne (by decide), hA1.out, Array.getElem?_setIfInBounds_ne (by decide)]; exact fC.out.2.2.1); have zd22 := (K5.out.1.bx 0 _ _ _ rfl).fz 22; obtain ⟨A3, hA3⟩ : ∃ x, Hid (x = A2.setIfInBounds 22 (.slice s5 k5 c5)) := ⟨_, (rfl : A2.setIfInBounds 22 (.slice s5 k5 c5) = _)⟩; have z3 : Hid (A3.size = 23 ∧ A3.all (·.oneCell') = true) := (by rw [hA3.out, hA2.out, hA1.out]; exact ⟨by simp [fC.out.2.2.2.1], fC.out.2.2.2.2.1 _ _ _ _ _ _ _ _ _⟩); clear c22 z22 K4 H5)
    | ((with_reducible refine gen_world (y5.setCell ⟨w.heap.size, 22, none⟩ (.slice s5 k5 c5)) (fun y => Fm w [(w.heap.size, A3, 29), (w.heap.size + 1, CZ, 29)] y ∧ OwnL 26 1 cW (w.heap.size + 2) y (.slice s1 k1 c1) g.st ∧ OwnL 5 1 cB (w.heap.size + 2) y (.slice s3 k3 c3) g.pg ∧ OwnL 5 1 cB (w.heap.size + 2) y (.slice s5 k5 c5) g.me ∧ ∀ q, Value.ownBlock (.slice s3 k3 c3) = some q → Value.ownBlock (.slice s5 k5 c5) ≠ some q) ?_ ?_); (exact ⟨K5.out.1.setCell 0 _ _ _ _ rfl 22 _ hA3.out.symm, own_set K5.out.2.1 (by omega), own_set K5.out.2.2.1 (by omega), own_set K5.out.2.2.2.1 (by omega), K5.out.2.2.2.2⟩); intro y7 K7; clear d22 zd22 K5)
    | ((with_reducible refine at_load rtG w.heap.size A3 ?_ ?_ (.tmp 1) ?_ ?_ ?_ ?_); exact K7.out.1.bx 0 _ _ _ rfl; exact z3.out.1; kernel_rfl; rfl; rfl)
    | ((with_reducible refine at_st rtG (w.heap.size + 1) CZ A3 ?_ ?_ ?_ ?_ (.tmp 2) (.tmp 15) ?_ ?_ ?_ ?_ ?_); exact K7.out.1.bx 1 _ _ _ rfl; exact hCZ'.out; exact z3.out.1; exact z3.out.2; rfl; rfl; rfl; rfl; intro y8 H8; have K8 : Hid (Fm w [(w.heap.size, A3, 29), (w.heap.size + 1, A3, 29)] y8 ∧ OwnL 26 1 cW (w.heap.size + 2) y8 (.slice s1 k1 c1) g.st ∧ OwnL 5 1 cB (w.heap.size + 2) y8 (.slice s3 k3 c3) g.pg ∧ OwnL 5 1 cB (w.heap.size + 2) y8 (.slice s5 k5 c5) g.me) := ⟨K7.out.1.put 1 _ _ _ _ rfl H8.out, K7.out.2.1.keepB (fun q hq => H8.out.2.2 q (by have := (K7.out.2.1.lt q hq).1; omega)), K7.out.2.2.1.keepB (fun q hq => H8.out.2.2 q (by have := (K7.out.2.2.1.lt q hq).1; omega)), K7.out.2.2.2.1.keepB (fun q hq => H8.out.2.2 q (by have := (K7.out.2.2.2.1.lt q hq).1; omega))⟩))
  refine ret_row rtG rfl rfl (K8.out.1.bx 1 _ _ _ rfl) z3.out.1 rfl ⟨A3, rfl, ⟨⟨⟨.slice s1 k1 c1, .slice s3 k3 c3, .slice s5 k5 c5, ?_, K8.out.2.1.weak (by omega), K8.out.2.2.1.weak (by omega), K8.out.2.2.2.weak (by omega), K7.out.2.2.2.2⟩, ok'.out⟩, K8.out.1.low⟩⟩
  rw [hA3.out, hA2.out, hA1.out]
  exact fC.out.2.2.2.2.2 _ _ _
/-- The table of what the orders do. -/
def dTab : List (Nat × Nat) := [(2, 19), (3, 20), (4, 21), (5, 22), (6, 23), (7, 24), (8, 25), (9, 26), (10, 27), (11, 28), (12, 29), (13, 30), (14, 31), (15, 32), (16, 33), (17, 34), (18, 35), (19, 36), (20, 37), (21, 38), (22, 39), (23, 40), (24, 41), (25, 42), (26, 43), (27, 44), (28, 45), (29, 46), (30, 47), (31, 48)]
def dEs (n : Nat) : Array MapEntry := ((dTab.take n).zipIdx.map fun p => { key := .int .u8 (p.1.1 : Int), val := .func (.func p.1.2) #[] #[], born := p.2 }).toArray
def MapT (w : World) (g n : Nat) : Prop := w.heap[g]? = some (.map (dEs n) n)
theorem at_ins {ops : Array Oper} {rest : List Oper} {o : Oper} {a : Act} {w : World} {Q : Exit → Act → World → Prop} (n k fn : Nat) (hf : Instr.findNow (.int .u8) (.int .u8 (k : Int)) (dEs n).toList 0 = some none) (he : dEs (n + 1) = (dEs n).push { key := .int .u8 (k : Int), val := .func (.func fn) #[] #[], born := n })
    (hg : o.guard = none) (m : Operand) (ho : o.op = .insert 56 m (.const (.int .u8 (k : Int))) (.func fn)) (g : Nat) (hM : MapT w g n) (em : a.eval m = .map (some g))
    (kk : ∀ w', Hid (MapT w' g (n + 1) ∧ ∀ B, B ≤ g → Below B w w') → wpList Try.prog ops Q rest (a.put o.dst undef) w') : wpList Try.prog ops Q (o :: rest) a w := by
  refine wpList_plain hg fun K' hK' => ?_
  have hm : Try.prog.underlying 56 = some (.map 47 55) := by kernel_rfl
  have hk : Try.prog.underlying 47 = some (.int .u8) := by kernel_rfl
  have ik : IsKey (.int .u8) (.int .u8 (k : Int)) := rfl
  have hrun : (Instr.mapUpdate 56 (.map (some g)) (.int .u8 (k : Int)) (.func (.func fn) #[] #[])).run Try.prog w = .ok () { w with heap := w.heap.setIfInBounds g (.map ((dEs n).push { key := .int .u8 (k : Int), val := .func (.func fn) #[] #[], born := n }) (n + 1)) } := by
    simp [Instr.mapUpdate, run_underlying hm, MapKept.run_getObj_map hM, MapKept.run_checkKey hk ik, MapKept.run_findKey hk hf, MapKept.run_setObj_map _ hM, Result.andThen]
  have e1 : a.eval (.const (.int .u8 (k : Int))) = .int .u8 (k : Int) := rfl
  have e2 : a.eval (.func fn) = .func (.func fn) #[] #[] := rfl
  unfold Oper.wp
  simp [execOp, ho, em, e1, e2, hrun, Result.andThen]
  refine hK' _ _ (kk _ ⟨?_, fun B hB => ⟨rfl, rfl, rfl, by simp, fun q hq => by simp [show g ≠ q by omega]⟩⟩)
  show _ = _
  rw [he]
  exact (heap_set hM).1
theorem deeds_any (w : World) : Calls Try.prog 16 #[] w fun e w' => e = .returned (.map (some w.heap.size)) ∧ Hid (MapT w' w.heap.size 30 ∧ Below w.heap.size w w') := by
  have hmm : ∀ v : World, (Instr.makeMap 56 none).run Try.prog v = .ok (.map (some v.heap.size)) (v.alloc (.map #[] 0)) := fun v => by first | rfl | kernel_rfl
  have K0 : Hid (MapT (w.alloc (.map #[] 0)) w.heap.size 0 ∧ Below w.heap.size w (w.alloc (.map #[] 0))) := ⟨alloc_last' w _, below1 _ _⟩
  go_enter Try.func16, Try.ntmps16
  go_wp2_with (first
    | ((with_reducible refine at_ins 29 31 48 ?_ ?_ ?_ (.tmp 1) ?_ w.heap.size K29.out.1 ?_ ?_); kernel_rfl; kernel_rfl; rfl; rfl; rfl; intro y30 H30; have K30 : Hid (MapT y30 w.heap.size 30 ∧ Below w.heap.size w y30) := ⟨H30.out.1, K29.out.2.trans (H30.out.2 _ (Nat.le_refl _))⟩; clear H30 K29)
    | ((with_reducible refine at_ins 28 30 47 ?_ ?_ ?_ (.tmp 1) ?_ w.heap.size K28.out.1 ?_ ?_); kernel_rfl; kernel_rfl; rfl; rfl; rfl; intro y29 H29; have K29 : Hid (MapT y29 w.heap.size 29 ∧ Below w.heap.size w y29) := ⟨H29.out.1, K28.out.2.trans (H29.out.2 _ (Nat.le_refl _))⟩; clear H29 K28)
    | ((with_reducible refine at_ins 27 29 46 ?_ ?_ ?_ (.tmp 1) ?_ w.heap.size K27.out.1 ?_ ?_); kernel_rfl; kernel_rfl; rfl; rfl; rfl; intro y28 H28; have K28 : Hid (MapT y28 w.heap.size 28 ∧ Below w.heap.size w y28) := ⟨H28.out.1, K27.out.2.trans (H28.out.2 _ (Nat.le_refl _))⟩; clear H28 K27)
    | ((with_reducible refine at_ins 26 28 45 ?_ ?_ ?_ (.tmp 1) ?_ w.heap.size K26.out.1 ?_ ?_); kernel_rfl; kernel_rfl; rfl; rfl; rfl; intro y27 H27; have K27 : Hid (MapT y27 w.heap.size 27 ∧ Below w.heap.size w y27) := ⟨H27.out.1, K26.out.2.trans (H27.out.2 _ (Nat.le_refl _))⟩; clear H27 K26)
    | ((with_reducible refine at_ins 25 27 44 ?_ ?_ ?_ (.tmp 1) ?_ w.heap.size K25.out.1 ?_ ?_); kernel_rfl; kernel_rfl; rfl; rfl; rfl; intro y26 H26; have K26 : Hid (MapT y26 w.heap.size 26 ∧ Below w.heap.size w y26) := ⟨H26.out.1, K25.out.2.trans (H26.out.2 _ (Nat.le_refl _))⟩; clear H26 K25)
    | ((with_reducible refine at_ins 24 26 43 ?_ ?_ ?_ (.tmp 1) ?_ w.heap.size K24.out.1 ?_ ?_); kernel_rfl; kernel_rfl; rfl; rfl; rfl; intro y25 H25; have K25 : Hid (MapT y25 w.heap.size 25 ∧ Below w.heap.size w y25) := ⟨H25.out.1, K24.out.2.trans (H25.out.2 _ (Nat.le_refl _))⟩; clear H25 K24)
    | ((with_reducible refine at_ins 23 25 42 ?_ ?_ ?_ (.tmp 1) ?_ w.heap.size K23.out.1 ?_ ?_); kernel_rfl; kernel_rfl; rfl; rfl; rfl; intro y24 H24; have K24 : Hid (MapT y24 w.heap.size 24 ∧ Below w.heap.size w y24) := ⟨H24.out.1, K23.out.2.trans (H24.out.2 _ (Nat.le_refl _))⟩; clear H24 K23)
    | ((with_reducible refine at_ins 22 24 41 ?_ ?_ ?_ (.tmp 1) ?_ w.heap.size K22.out.1 ?_ ?_); kernel_rfl; kernel_rfl; rfl; rfl; rfl; intro y23 H23; have K23 : Hid (MapT y23 w.heap.size 23 ∧ Below w.heap.size w y23) := ⟨H23.out.1, K22.out.2.trans (H23.out.2 _ (Nat.le_refl _))⟩; clear H23 K22)
    | ((with_reducible refine at_ins 21 23 40 ?_ ?_ ?_ (.tmp 1) ?_ w.heap.size K21.out.1 ?_ ?_); kernel_rfl; kernel_rfl; rfl; rfl; rfl; intro y22 H22; have K22 : Hid (MapT y22 w.heap.size 22 ∧ Below w.heap.size w y22) := ⟨H22.out.1, K21.out.2.trans (H22.out.2 _ (Nat.le_refl _))⟩; clear H22 K21)
    | ((with_reducible refine at_ins 20 22 39 ?_ ?_ ?_ (.tmp 1) ?_ w.heap.size K20.out.1 ?_ ?_); kernel_rfl; kernel_rfl; rfl; rfl; rfl; intro y21 H21; have K21 : Hid (MapT y21 w.heap.size 21 ∧ Below w.heap.size w y21) := ⟨H21.out.1, K20.out.2.trans (H21.out.2 _ (Nat.le_refl _))⟩; clear H21 K20)
    | ((with_reducible refine at_ins 19 21 38 ?_ ?_ ?_ (.tmp 1) ?_ w.heap.size K19.out.1 ?_ ?_); kernel_rfl; kernel_rfl; rfl; rfl; rfl; intro y20 H20; have K20 : Hid (MapT y20 w.heap.size 20 ∧ Below w.heap.size w y20) := ⟨H20.out.1, K19.out.2.trans (H20.out.2 _ (Nat.le_refl _))⟩; clear H20 K19)
    | ((with_reducible refine at_ins 18 20 37 ?_ ?_ ?_ (.tmp 1) ?_ w.heap.size K18.out.1 ?_ ?_); kernel_rfl; kernel_rfl; rfl; rfl; rfl; intro y19 H19; have K19 : Hid (MapT y19 w.heap.size 19 ∧ Below w.heap.size w y19) := ⟨H19.out.1, K18.out.2.trans (H19.out.2 _ (Nat.le_refl _))⟩; clear H19 K18)
    | ((with_reducible refine at_ins 17 19 36 ?_ ?_ ?_ (.tmp 1) ?_ w.heap.size K17.out.1 ?_ ?_); kernel_rfl; kernel_rfl; rfl; rfl; rfl; intro y18 H18; have K18 : Hid (MapT y18 w.heap.size 18 ∧ Below w.heap.size w y18) := ⟨H18.out.1, K17.out.2.trans (H18.out.2 _ (Nat.le_refl _))⟩; clear H18 K17)
    | ((with_reducible refine at_ins 16 18 35 ?_ ?_ ?_ (.tmp 1) ?_ w.heap.size K16.out.1 ?_ ?_); kernel_rfl; kernel_rfl; rfl; rfl; rfl; intro y17 H17; have K17 : Hid (MapT y17 w.heap.size 17 ∧ Below w.heap.size w y17) := ⟨H17.out.1, K16.out.2.trans (H17.out.2 _ (Nat.le_refl _))⟩; clear H17 K16)
    | ((with_reducible refine at_ins 15 17 34 ?_ ?_ ?_ (.tmp 1) ?_ w.heap.size K15.out.1 ?_ ?_); kernel_rfl; kernel_rfl; rfl; rfl; rfl; intro y16 H16; have K16 : Hid (MapT y16 w.heap.size 16 ∧ Below w.heap.size w y16) := ⟨H16.out.1, K15.out.2.trans (H16.out.2 _ (Nat.le_refl _))⟩; clear H16 K15)
    | ((with_reducible refine at_ins 14 16 33 ?_ ?_ ?_ (.tmp 1) ?_ w.heap.size K14.out.1 ?_ ?_); kernel_rfl; kernel_rfl; rfl; rfl; rfl; intro y15 H15; have K15 : Hid (MapT y15 w.heap.size 15 ∧ Below w.heap.size w y15) := ⟨H15.out.1, K14.out.2.trans (H15.out.2 _ (Nat.le_refl _))⟩; clear H15 K14)
    | ((with_reducible refine at_ins 13 15 32 ?_ ?_ ?_ (.tmp 1) ?_ w.heap.size K13.out.1 ?_ ?_); kernel_rfl; kernel_rfl; rfl; rfl; rfl; intro y14 H14; have K14 : Hid (MapT y14 w.heap.size 14 ∧ Below w.heap.size w y14) := ⟨H14.out.1, K13.out.2.trans (H14.out.2 _ (Nat.le_refl _))⟩; clear H14 K13)
    | ((with_reducible refine at_ins 12 14 31 ?_ ?_ ?_ (.tmp 1) ?_ w.heap.size K12.out.1 ?_ ?_); kernel_rfl; kernel_rfl; rfl; rfl; rfl; intro y13 H13; have K13 : Hid (MapT y13 w.heap.size 13 ∧ Below w.heap.size w y13) := ⟨H13.out.1, K12.out.2.trans (H13.out.2 _ (Nat.le_refl _))⟩; clear H13 K12)
    | ((with_reducible refine at_ins 11 13 30 ?_ ?_ ?_ (.tmp 1) ?_ w.heap.size K11.out.1 ?_ ?_); kernel_rfl; kernel_rfl; rfl; rfl; rfl; intro y12 H12; have K12 : Hid (MapT y12 w.heap.size 12 ∧ Below w.heap.size w y12) := ⟨H12.out.1, K11.out.2.trans (H12.out.2 _ (Nat.le_refl _))⟩; clear H12 K11)
    | ((with_reducible refine at_ins 10 12 29 ?_ ?_ ?_ (.tmp 1) ?_ w.heap.size K10.out.1 ?_ ?_); kernel_rfl; kernel_rfl; rfl; rfl; rfl; intro y11 H11; have K11 : Hid (MapT y11 w.heap.size 11 ∧ Below w.heap.size w y11) := ⟨H11.out.1, K10.out.2.trans (H11.out.2 _ (Nat.le_refl _))⟩; clear H11 K10)
    | ((with_reducible refine at_ins 9 11 28 ?_ ?_ ?_ (.tmp 1) ?_ w.heap.size K9.out.1 ?_ ?_); kernel_rfl; kernel_rfl; rfl; rfl; rfl; intro y10 H10; have K10 : Hid (MapT y10 w.heap.size 10 ∧ Below w.heap.size w y10) := ⟨H10.out.1, K9.out.2.trans (H10.out.2 _ (Nat.le_refl _))⟩; clear H10 K9)
    | ((with_reducible refine at_ins 8 10 27 ?_ ?_ ?_ (.tmp 1) ?_ w.heap.size K8.out.1 ?_ ?_); kernel_rfl; kernel_rfl; rfl; rfl; rfl; intro y9 H9; have K9 : Hid (MapT y9 w.heap.size 9 ∧ Below w.heap.size w y9) := ⟨H9.out.1, K8.out.2.trans (H9.out.2 _ (Nat.le_refl _))⟩; clear H9 K8)
    | ((with_reducible refine at_ins 7 9 26 ?_ ?_ ?_ (.tmp 1) ?_ w.heap.size K7.out.1 ?_ ?_); kernel_rfl; kernel_rfl; rfl; rfl; rfl; intro y8 H8; have K8 : Hid (MapT y8 w.heap.size 8 ∧ Below w.heap.size w y8) := ⟨H8.out.1, K7.out.2.trans (H8.out.2 _ (Nat.le_refl _))⟩; clear H8 K7)
    | ((with_reducible refine at_ins 6 8 25 ?_ ?_ ?_ (.tmp 1) ?_ w.heap.size K6.out.1 ?_ ?_); kernel_rfl; kernel_rfl; rfl; rfl; rfl; intro y7 H7; have K7 : Hid (MapT y7 w.heap.size 7 ∧ Below w.heap.size w y7) := ⟨H7.out.1, K6.out.2.trans (H7.out.2 _ (Nat.le_refl _))⟩; clear H7 K6)
    | ((with_reducible refine at_ins 5 7 24 ?_ ?_ ?_ (.tmp 1) ?_ w.heap.size K5.out.1 ?_ ?_); kernel_rfl; kernel_rfl; rfl; rfl; rfl; intro y6 H6; have K6 : Hid (MapT y6 w.heap.size 6 ∧ Below w.heap.size w y6) := ⟨H6.out.1, K5.out.2.trans (H6.out.2 _ (Nat.le_refl _))⟩; clear H6 K5)
    | ((with_reducible refine at_ins 4 6 23 ?_ ?_ ?_ (.tmp 1) ?_ w.heap.size K4.out.1 ?_ ?_); kernel_rfl; kernel_rfl; rfl; rfl; rfl; intro y5 H5; have K5 : Hid (MapT y5 w.heap.size 5 ∧ Below w.heap.size w y5) := ⟨H5.out.1, K4.out.2.trans (H5.out.2 _ (Nat.le_refl _))⟩; clear H5 K4)
    | ((with_reducible refine at_ins 3 5 22 ?_ ?_ ?_ (.tmp 1) ?_ w.heap.size K3.out.1 ?_ ?_); kernel_rfl; kernel_rfl; rfl; rfl; rfl; intro y4 H4; have K4 : Hid (MapT y4 w.heap.size 4 ∧ Below w.heap.size w y4) := ⟨H4.out.1, K3.out.2.trans (H4.out.2 _ (Nat.le_refl _))⟩; clear H4 K3)
    | ((with_reducible refine at_ins 2 4 21 ?_ ?_ ?_ (.tmp 1) ?_ w.heap.size K2.out.1 ?_ ?_); kernel_rfl; kernel_rfl; rfl; rfl; rfl; intro y3 H3; have K3 : Hid (MapT y3 w.heap.size 3 ∧ Below w.heap.size w y3) := ⟨H3.out.1, K2.out.2.trans (H3.out.2 _ (Nat.le_refl _))⟩; clear H3 K2)
    | ((with_reducible refine at_ins 1 3 20 ?_ ?_ ?_ (.tmp 1) ?_ w.heap.size K1.out.1 ?_ ?_); kernel_rfl; kernel_rfl; rfl; rfl; rfl; intro y2 H2; have K2 : Hid (MapT y2 w.heap.size 2 ∧ Below w.heap.size w y2) := ⟨H2.out.1, K1.out.2.trans (H2.out.2 _ (Nat.le_refl _))⟩; clear H2 K1)
    | ((with_reducible refine at_ins 0 2 19 ?_ ?_ ?_ (.tmp 1) ?_ w.heap.size K0.out.1 ?_ ?_); kernel_rfl; kernel_rfl; rfl; rfl; rfl; intro y1 H1; have K1 : Hid (MapT y1 w.heap.size 1 ∧ Below w.heap.size w y1) := ⟨H1.out.1, K0.out.2.trans (H1.out.2 _ (Nat.le_refl _))⟩; clear H1 K0))
  go_ret
  exact ⟨rfl, K30⟩
theorem deeds_look (w : World) (g k fn : Nat) (h : MapT w g 30) (hf : Instr.findNow (.int .u8) (.int .u8 (k : Int)) (dEs 30).toList 0 = some (some (k - 2, .func (.func fn) #[] #[]))) : (Instr.lookup 56 (.map (some g)) (.int .u8 (k : Int)) false).run Try.prog w = .ok (.func (.func fn) #[] #[]) w := by
  have hm : Try.prog.underlying 56 = some (.map 47 55) := by kernel_rfl
  have hk : Try.prog.underlying 47 = some (.int .u8) := by kernel_rfl
  have ik : IsKey (.int .u8) (.int .u8 (k : Int)) := rfl
  simp [Instr.lookup, run_underlying hm, MapKept.run_getObj_map h, MapKept.run_checkKey hk ik, MapKept.run_findKey hk hf, Result.andThen]
/-- Each order has its function, which does what it does. -/
theorem deed_row (k : Nat) (h2 : 2 ≤ k) (h31 : k ≤ 31) : ∃ fn, Instr.findNow (.int .u8) (.int .u8 (k : Int)) (dEs 30).toList 0 = some (some (k - 2, .func (.func fn) #[] #[])) ∧ (∀ args z, (callFunc fn args).run Try.prog z = .ok (.enter fn args) z) ∧
    ∀ (B : Nat) (w : World) (b : Nat) (g : Gm) (o : Od) (f : Fo) (d : Fd), PB B w b g o f d → o.op = k → d.ky ≤ 15 → Calls Try.prog fn #[.pointer (some ⟨b, 0, none⟩)] w (MdE B w b o f d (doG g o f d)) := by
  rcases (show k = 2 ∨ k = 3 ∨ k = 4 ∨ k = 5 ∨ k = 6 ∨ k = 7 ∨ k = 8 ∨ k = 9 ∨ k = 10 ∨ k = 11 ∨ k = 12 ∨ k = 13 ∨ k = 14 ∨ k = 15 ∨ k = 16 ∨ k = 17 ∨ k = 18 ∨ k = 19 ∨ k = 20 ∨ k = 21 ∨ k = 22 ∨ k = 23 ∨ k = 24 ∨ k = 25 ∨ k = 26 ∨ k = 27 ∨ k = 28 ∨ k = 29 ∨ k = 30 ∨ k = 31 by omega) with rfl | rfl | rfl | rfl | rfl | rfl | rfl | rfl | rfl | rfl | rfl | rfl | rfl | rfl | rfl | rfl | rfl | rfl | rfl | rfl | rfl | rfl | rfl | rfl | rfl | rfl | rfl | rfl | rfl | rfl
  · exact ⟨19, by kernel_rfl, fun a z => by kernel_rfl, fun B w b g o f d h ho hk => m_clear_any w b g o f d h ho⟩
  · exact ⟨20, by kernel_rfl, fun a z => by kernel_rfl, fun B w b g o f d h ho hk => m_back_any w b g o f d h ho⟩
  · exact ⟨21, by kernel_rfl, fun a z => by kernel_rfl, fun B w b g o f d h ho hk => m_jump_any w b g o f d h ho⟩
  · exact ⟨22, by kernel_rfl, fun a z => by kernel_rfl, fun B w b g o f d h ho hk => m_call_any w b g o f d h ho⟩
  · exact ⟨23, by kernel_rfl, fun a z => by kernel_rfl, fun B w b g o f d h ho hk => m_skipIs_any w b g o f d h ho⟩
  · exact ⟨24, by kernel_rfl, fun a z => by kernel_rfl, fun B w b g o f d h ho hk => m_skipNot_any w b g o f d h ho⟩
  · exact ⟨25, by kernel_rfl, fun a z => by kernel_rfl, fun B w b g o f d h ho hk => m_skipSame_any w b g o f d h ho⟩
  · exact ⟨26, by kernel_rfl, fun a z => by kernel_rfl, fun B w b g o f d h ho hk => m_set_any w b g o f d h ho⟩
  · exact ⟨27, by kernel_rfl, fun a z => by kernel_rfl, fun B w b g o f d h ho hk => m_add_any w b g o f d h ho⟩
  · exact ⟨28, by kernel_rfl, fun a z => by kernel_rfl, fun B w b g o f d h ho hk => m_move_any w b g o f d h ho⟩
  · exact ⟨29, by kernel_rfl, fun a z => by kernel_rfl, fun B w b g o f d h ho hk => m_or_any w b g o f d h ho⟩
  · exact ⟨30, by kernel_rfl, fun a z => by kernel_rfl, fun B w b g o f d h ho hk => m_and_any w b g o f d h ho⟩
  · exact ⟨31, by kernel_rfl, fun a z => by kernel_rfl, fun B w b g o f d h ho hk => m_plus_any w b g o f d h ho⟩
  · exact ⟨32, by kernel_rfl, fun a z => by kernel_rfl, fun B w b g o f d h ho hk => m_minus_any w b g o f d h ho⟩
  · exact ⟨33, by kernel_rfl, fun a z => by kernel_rfl, fun B w b g o f d h ho hk => m_skipOther_any w b g o f d h ho⟩
  · exact ⟨34, by kernel_rfl, fun a z => by kernel_rfl, fun B w b g o f d h ho hk => m_point_any w b g o f d h ho⟩
  · exact ⟨35, by kernel_rfl, fun a z => by kernel_rfl, fun B w b g o f d h ho hk => m_jumpBy_any w b g o f d h ho⟩
  · exact ⟨36, by kernel_rfl, fun a z => by kernel_rfl, fun B w b g o f d h ho hk => m_random_any w b g o f d h ho⟩
  · exact ⟨37, by kernel_rfl, fun a z => by kernel_rfl, fun B w b g o f d h ho hk => m_draw_any w b g o f d h ho⟩
  · exact ⟨38, by kernel_rfl, fun a z => by kernel_rfl, fun B w b g o f d h ho hk => m_skipDown_any w b g o f d h ho⟩
  · exact ⟨39, by kernel_rfl, fun a z => by kernel_rfl, fun B w b g o f d h ho hk => m_skipUp_any w b g o f d h ho⟩
  · exact ⟨40, by kernel_rfl, fun a z => by kernel_rfl, fun B w b g o f d h ho hk => m_timer_any w b g o f d h ho⟩
  · exact ⟨41, by kernel_rfl, fun a z => by kernel_rfl, fun B w b g o f d h ho hk => m_key_any w b g o f d h ho hk⟩
  · exact ⟨42, by kernel_rfl, fun a z => by kernel_rfl, fun B w b g o f d h ho hk => m_delay_any w b g o f d h ho⟩
  · exact ⟨43, by kernel_rfl, fun a z => by kernel_rfl, fun B w b g o f d h ho hk => m_sound_any w b g o f d h ho⟩
  · exact ⟨44, by kernel_rfl, fun a z => by kernel_rfl, fun B w b g o f d h ho hk => m_on_any w b g o f d h ho⟩
  · exact ⟨45, by kernel_rfl, fun a z => by kernel_rfl, fun B w b g o f d h ho hk => m_digit_any w b g o f d h ho⟩
  · exact ⟨46, by kernel_rfl, fun a z => by kernel_rfl, fun B w b g o f d h ho hk => m_three_any w b g o f d h ho⟩
  · exact ⟨47, by kernel_rfl, fun a z => by kernel_rfl, fun B w b g o f d h ho hk => m_store_any w b g o f d h ho⟩
  · exact ⟨48, by kernel_rfl, fun a z => by kernel_rfl, fun B w b g o f d h ho hk => m_fill_any w b g o f d h ho⟩
end Go.Proofs.Ytfkifppadngmdaa
