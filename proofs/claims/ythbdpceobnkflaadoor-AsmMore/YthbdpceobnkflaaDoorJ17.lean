/- The statements' own: objects that are alike. Objects held against the document: the walk. The statements' own: an object copied. What stands while its lists are made, in whatever order. The statements' own: an object copied. The laws of a round. -/
import Derived.Test.YthbdpceobnkflaaDoorJ12
import Derived.Test.YthbdpceobnkflaaDoorJ7
import Derived.Test.YthbdpceobnkflaaDoorJ14
import Derived.Laws.AppendOwn
namespace Go.Proofs.YthbdpceobnkflaaDoor
open Go Go.RowKit
set_option linter.unusedVariables false
set_option maxHeartbeats 3000000
set_option maxRecDepth 20000

theorem eqM (v : Mk) : Eqs Tryd.prog 89 (k3 v) (k3 v) true := ⟨by kernel_rfl, fun w => by
  unfold k3
  go_simp⟩
theorem eqL (v : La) : Eqs Tryd.prog 52 (kl v) (kl v) true := ⟨by kernel_rfl, fun w => by
  unfold kl
  go_simp⟩
theorem alike_true (w : World) (x o : Oo) (hx : Hid (Lo w x)) (ho : Hid (Lo w o)) (hB : Hid (plB x.B = plB o.B)) (hM : Hid (x.M = o.M)) (hL : Hid (x.L = o.L)) :
    Calls Tryd.prog 17 #[.agg (oC x), .agg (oC o)] w fun e w' => e = .returned (.bool true) ∧ Hid (Below w.heap.size w w') := by
  have K0 : Hid (Fm w [(w.heap.size, oC x, 29), (w.heap.size + 1, oC o, 29)] ((w.alloc (.cells (oC x) 29)).alloc (.cells (oC o) 29))) := Fm.two w _ _ _ _
  have hlB : x.B.length = o.B.length := by
    have := congrArg List.length hB.out
    rw [List.length_map, List.length_map] at this
    exact this
  obtain ⟨n, hn⟩ : ∃ n, o.B.length = n := ⟨_, rfl⟩
  obtain ⟨nm, hnm⟩ : ∃ n, o.M.length = n := ⟨_, rfl⟩
  obtain ⟨nl, hnl⟩ : ∃ n, o.L.length = n := ⟨_, rfl⟩
  have hnn : Hid (o.B.length = n ∧ o.M.length = nm ∧ o.L.length = nl) := ⟨hn, hnm, hnl⟩
  have ni : (n : Int) ≤ 2147483647 := by have := ho.out.n; omega
  have nmi : (nm : Int) ≤ 2147483647 := by have := ho.out.n; omega
  have nli : (nl : Int) ≤ 2147483647 := by have := ho.out.n; omega
  obtain ⟨xp, hxp⟩ : ∃ q, x.bp = q := ⟨_, rfl⟩
  obtain ⟨xc, hxc⟩ : ∃ q, x.bc = q := ⟨_, rfl⟩
  obtain ⟨xmp, hxmp⟩ : ∃ q, x.mp = q := ⟨_, rfl⟩
  obtain ⟨xmc, hxmc⟩ : ∃ q, x.mc = q := ⟨_, rfl⟩
  obtain ⟨xlp, hxlp⟩ : ∃ q, x.lp = q := ⟨_, rfl⟩
  obtain ⟨xlc, hxlc⟩ : ∃ q, x.lc = q := ⟨_, rfl⟩
  obtain ⟨op, hop⟩ : ∃ q, o.bp = q := ⟨_, rfl⟩
  obtain ⟨oc, hoc⟩ : ∃ q, o.bc = q := ⟨_, rfl⟩
  obtain ⟨omp, homp⟩ : ∃ q, o.mp = q := ⟨_, rfl⟩
  obtain ⟨omc, homc⟩ : ∃ q, o.mc = q := ⟨_, rfl⟩
  obtain ⟨olp, holp⟩ : ∃ q, o.lp = q := ⟨_, rfl⟩
  obtain ⟨olc, holc⟩ : ∃ q, o.lc = q := ⟨_, rfl⟩
  have hd : Hid (∀ y, Fm w [(w.heap.size, oC x, 29), (w.heap.size + 1, oC o, 29)] y → y.cell? ⟨w.heap.size, 0, none⟩ = some (.slice xp n xc) ∧ y.cell? ⟨w.heap.size, 1, none⟩ = some (.slice xmp nm xmc) ∧ y.cell? ⟨w.heap.size, 2, none⟩ = some (.slice xlp nl xlc) ∧ y.cell? ⟨w.heap.size + 1, 0, none⟩ = some (.slice op n oc) ∧ y.cell? ⟨w.heap.size + 1, 1, none⟩ = some (.slice omp nm omc) ∧ y.cell? ⟨w.heap.size + 1, 2, none⟩ = some (.slice olp nl olc)) := fun y hy => by
    have h0 := (hy.bx 0 _ _ _ rfl).c 0 (.slice x.bp x.B.length x.bc) rfl
    have h1 := (hy.bx 0 _ _ _ rfl).c 1 (.slice x.mp x.M.length x.mc) rfl
    have h2 := (hy.bx 0 _ _ _ rfl).c 2 (.slice x.lp x.L.length x.lc) rfl
    have h3 := (hy.bx 1 _ _ _ rfl).c 0 (.slice o.bp o.B.length o.bc) rfl
    have h4 := (hy.bx 1 _ _ _ rfl).c 1 (.slice o.mp o.M.length o.mc) rfl
    have h5 := (hy.bx 1 _ _ _ rfl).c 2 (.slice o.lp o.L.length o.lc) rfl
    rw [hxp, hlB, hn, hxc] at h0
    rw [hxmp, hM.out, hnm, hxmc] at h1
    rw [hxlp, hL.out, hnl, hxlc] at h2
    rw [hop, hn, hoc] at h3
    rw [homp, hnm, homc] at h4
    rw [holp, hnl, holc] at h5
    exact ⟨h0, h1, h2, h3, h4, h5⟩
  have hLB : Hid (LiesL 2 cK w xp (x.B.map (·.1)) ∧ LiesL 2 cK w op (o.B.map (·.1))) := ⟨by rw [← hxp]; exact hx.out.b, by rw [← hop]; exact ho.out.b⟩
  have hLM : Hid (LiesL 3 cM w xmp o.M ∧ LiesL 3 cM w omp o.M) := ⟨by rw [← hxmp, ← hM.out]; exact hx.out.m, by rw [← homp]; exact ho.out.m⟩
  have hLL : Hid (LiesL 2 cLa w xlp o.L ∧ LiesL 2 cLa w olp o.L) := ⟨by rw [← hxlp, ← hL.out]; exact hx.out.l, by rw [← holp]; exact ho.out.l⟩
  have hBn : Hid (x.B.length = n) := hlB.trans hn
  clear hlB hn hnm hnl hxp hxc hxmp hxmc hxlp hxlc hop hoc homp homc holp holc
  obtain ⟨c0, c1, c2, d0, d1, d2⟩ := hd.out _ K0.out
  go_enter Tryd.func17, Tryd.ntmps17
  go_wp2
  go_loopw [5] (fun t wz => ∃ (i : Nat) (y : World), y = wz ∧ t = .int .i64 (i : Int) ∧ Hid (i ≤ n) ∧ Hid (Fm w [(w.heap.size, oC x, 29), (w.heap.size + 1, oC o, 29)] y)) (fun t _ => (n - intOf t).toNat)
  case atStart => exact ⟨0, _, rfl, rfl, Nat.zero_le _, K0⟩
  case round =>
    clear K0 c0 c1 c2 d0 d1 d2
    obtain ⟨i, y, rfl, rfl, J, K⟩ := hrel
    obtain ⟨c0, c1, c2, d0, d1, d2⟩ := hd.out _ K.out
    by_cases hlt : i < n
    · obtain ⟨X, hX⟩ : ∃ v, x.B[i]? = some v := ⟨_, List.getElem?_eq_getElem (by rw [hBn.out]; exact hlt)⟩
      obtain ⟨O, hO⟩ : ∃ v, o.B[i]? = some v := ⟨_, List.getElem?_eq_getElem (by rw [hnn.out.1]; exact hlt)⟩
      have hp : X.1.a = O.1.a ∧ X.2 = O.2 := by
        have h1 : (plB x.B)[i]? = some (X.1.a, X.2) := by rw [List.getElem?_map, hX]; rfl
        have h2 : (plB o.B)[i]? = some (O.1.a, O.2) := by rw [List.getElem?_map, hO]; rfl
        rw [hB.out, h2] at h1
        have := Option.some.inj h1
        simp only [Prod.mk.injEq] at this
        exact ⟨this.1.symm, this.2.symm⟩
      obtain ⟨g1, o1, rfl, r1⟩ := hLB.out.1 i X.1 (by rw [List.getElem?_map, hX]; rfl)
      obtain ⟨g2, o2, rfl, r2⟩ := hLB.out.2 i O.1 (by rw [List.getElem?_map, hO]; rfl)
      obtain ⟨lX, mX⟩ := hx.out.g X (List.mem_of_getElem? hX)
      obtain ⟨lO, mO⟩ := ho.out.g O (List.mem_of_getElem? hO)
      have bO := (ho.out.ib O (List.mem_of_getElem? hO)).2
      obtain ⟨bs, hbs⟩ : ∃ b, O.2 = b := ⟨_, rfl⟩
      obtain ⟨m, hm⟩ : ∃ m, bs.length = m := ⟨_, rfl⟩
      obtain ⟨a, ha⟩ : ∃ a, O.1.a = a := ⟨_, rfl⟩
      obtain ⟨sx, hsx⟩ : ∃ a, X.1.sp = a := ⟨_, rfl⟩
      obtain ⟨cx, hcx⟩ : ∃ a, X.1.cap = a := ⟨_, rfl⟩
      obtain ⟨so, hso⟩ : ∃ a, O.1.sp = a := ⟨_, rfl⟩
      obtain ⟨co, hco⟩ : ∃ a, O.1.cap = a := ⟨_, rfl⟩
      rw [hp.2, hbs, hm] at mX
      rw [hbs, hm] at mO
      have hcb : Hid (∀ u, Below w.heap.size w u → u.cell? ⟨g1, o1 + i * 2, none⟩ = some (.int .i64 a) ∧ u.cell? ⟨g1, o1 + i * 2 + 1, none⟩ = some (.slice sx m cx) ∧ u.cell? ⟨g2, o2 + i * 2, none⟩ = some (.int .i64 a) ∧ u.cell? ⟨g2, o2 + i * 2 + 1, none⟩ = some (.slice so m co)) := fun u hu => by
        have k1 := range_keep r1 hu 0 (.int .i64 X.1.a) rfl
        have k2 := range_keep r1 hu 1 (.slice X.1.sp X.1.m X.1.cap) rfl
        have k3 := range_keep r2 hu 0 (.int .i64 O.1.a) rfl
        have k4 := range_keep r2 hu 1 (.slice O.1.sp O.1.m O.1.cap) rfl
        rw [Nat.add_zero, hp.1, ha] at k1
        rw [hsx, ← mX, hcx] at k2
        rw [Nat.add_zero, ha] at k3
        rw [hso, ← mO, hco] at k4
        exact ⟨k1, k2, k3, k4⟩
      have hS : Hid (∀ u, Below w.heap.size w u → Calls Tryd.prog 13 #[.slice sx m cx, .slice so m co] u fun e w' => e = .returned (.bool true) ∧ Hid (Below u.heap.size u w')) := fun u hu => by
        have := sameO_true u sx so cx co bs (by rw [← hsx, ← hbs, ← hp.2]; exact lX.below hu) (by rw [← hso, ← hbs]; exact lO.below hu) (by rw [hm, mO]; exact bO)
        rw [hm] at this
        exact this
      have i1 := fun w => idxP (P := Tryd.prog) (g := g1) (off := o1) (len := n) (cap := xc) Tryd.underlying25 (s := 2) (by kernel_rfl) .i64 i w hlt
      have i2 := fun w => idxP (P := Tryd.prog) (g := g2) (off := o2) (len := n) (cap := oc) Tryd.underlying25 (s := 2) (by kernel_rfl) .i64 i w hlt
      have hii : (i : Int) < n := by omega
      have hlt' : Hid (i < n) := hlt
      clear hlt hX hO hp r1 r2 lX mX lO mO bO hbs hm ha hsx hcx hso hco
      go_wp2
      refine region_class_tail 28 (Fm w [(w.heap.size, oC x, 29), (w.heap.size + 1, oC o, 29)]) (by kernel_rfl) (by kernel_rfl) (K.out.below (below_drew (Below.refl _ _))) ?_
      simp only [List.take_succ_cons, List.take_zero, List.drop_succ_cons, List.drop_zero]
      with_reducible refine quiet_one (.pointer (some ⟨w.heap.size, 0, none⟩)) ?_ ?_ ?_
      · kernel_rfl
      · intro u hy
        go_simp
      with_reducible refine quiet_one (.slice (some ⟨g1, o1, none⟩) n xc) ?_ ?_ ?_
      · kernel_rfl
      · intro u hy
        have t0 := (hd.out u hy).1
        have t1 := (hd.out u hy).2.1
        have t2 := (hd.out u hy).2.2.1
        have s0 := (hd.out u hy).2.2.2.1
        have s1 := (hd.out u hy).2.2.2.2.1
        have s2 := (hd.out u hy).2.2.2.2.2
        go_simp
      with_reducible refine quiet_one (.int .i64 (i : Int)) ?_ ?_ ?_
      · kernel_rfl
      · intro u hy
        go_simp
      with_reducible refine quiet_one (.pointer (some ⟨g1, o1 + i * 2, none⟩)) ?_ ?_ ?_
      · kernel_rfl
      · intro u hy
        go_simp
      with_reducible refine quiet_one (.pointer (some ⟨g1, o1 + i * 2, none⟩)) ?_ ?_ ?_
      · kernel_rfl
      · intro u hy
        go_simp
      with_reducible refine quiet_one (.int .i64 a) ?_ ?_ ?_
      · kernel_rfl
      · intro u hy
        have t0 := (hcb.out u (Fm.low hy)).1
        have t1 := (hcb.out u (Fm.low hy)).2.1
        have s0 := (hcb.out u (Fm.low hy)).2.2.1
        have s1 := (hcb.out u (Fm.low hy)).2.2.2
        go_simp
      with_reducible refine quiet_one (.pointer (some ⟨w.heap.size + 1, 0, none⟩)) ?_ ?_ ?_
      · kernel_rfl
      · intro u hy
        go_simp
      with_reducible refine quiet_one (.slice (some ⟨g2, o2, none⟩) n oc) ?_ ?_ ?_
      · kernel_rfl
      · intro u hy
        have t0 := (hd.out u hy).1
        have t1 := (hd.out u hy).2.1
        have t2 := (hd.out u hy).2.2.1
        have s0 := (hd.out u hy).2.2.2.1
        have s1 := (hd.out u hy).2.2.2.2.1
        have s2 := (hd.out u hy).2.2.2.2.2
        go_simp
      with_reducible refine quiet_one (.int .i64 (i : Int)) ?_ ?_ ?_
      · kernel_rfl
      · intro u hy
        go_simp
      with_reducible refine quiet_one (.pointer (some ⟨g2, o2 + i * 2, none⟩)) ?_ ?_ ?_
      · kernel_rfl
      · intro u hy
        go_simp
      with_reducible refine quiet_one (.pointer (some ⟨g2, o2 + i * 2, none⟩)) ?_ ?_ ?_
      · kernel_rfl
      · intro u hy
        go_simp
      with_reducible refine quiet_one (.int .i64 a) ?_ ?_ ?_
      · kernel_rfl
      · intro u hy
        have t0 := (hcb.out u (Fm.low hy)).1
        have t1 := (hcb.out u (Fm.low hy)).2.1
        have s0 := (hcb.out u (Fm.low hy)).2.2.1
        have s1 := (hcb.out u (Fm.low hy)).2.2.2
        go_simp
      with_reducible refine quiet_one (.bool false) ?_ ?_ ?_
      · kernel_rfl
      · intro u hy
        go_simp
      with_reducible refine quiet_one (.bool false) ?_ ?_ ?_
      · kernel_rfl
      · intro u hy
        go_simp
      with_reducible refine quiet_one (.pointer (some ⟨w.heap.size, 0, none⟩)) ?_ ?_ ?_
      · kernel_rfl
      · intro u hy
        go_simp
      with_reducible refine quiet_one (.slice (some ⟨g1, o1, none⟩) n xc) ?_ ?_ ?_
      · kernel_rfl
      · intro u hy
        have t0 := (hd.out u hy).1
        have t1 := (hd.out u hy).2.1
        have t2 := (hd.out u hy).2.2.1
        have s0 := (hd.out u hy).2.2.2.1
        have s1 := (hd.out u hy).2.2.2.2.1
        have s2 := (hd.out u hy).2.2.2.2.2
        go_simp
      with_reducible refine quiet_one (.int .i64 (i : Int)) ?_ ?_ ?_
      · kernel_rfl
      · intro u hy
        go_simp
      with_reducible refine quiet_one (.pointer (some ⟨g1, o1 + i * 2, none⟩)) ?_ ?_ ?_
      · kernel_rfl
      · intro u hy
        go_simp
      with_reducible refine quiet_one (.pointer (some ⟨g1, o1 + i * 2 + 1, none⟩)) ?_ ?_ ?_
      · kernel_rfl
      · intro u hy
        go_simp
      with_reducible refine quiet_one (.slice sx m cx) ?_ ?_ ?_
      · kernel_rfl
      · intro u hy
        have t0 := (hcb.out u (Fm.low hy)).1
        have t1 := (hcb.out u (Fm.low hy)).2.1
        have s0 := (hcb.out u (Fm.low hy)).2.2.1
        have s1 := (hcb.out u (Fm.low hy)).2.2.2
        go_simp
      with_reducible refine quiet_one (.pointer (some ⟨w.heap.size + 1, 0, none⟩)) ?_ ?_ ?_
      · kernel_rfl
      · intro u hy
        go_simp
      with_reducible refine quiet_one (.slice (some ⟨g2, o2, none⟩) n oc) ?_ ?_ ?_
      · kernel_rfl
      · intro u hy
        have t0 := (hd.out u hy).1
        have t1 := (hd.out u hy).2.1
        have t2 := (hd.out u hy).2.2.1
        have s0 := (hd.out u hy).2.2.2.1
        have s1 := (hd.out u hy).2.2.2.2.1
        have s2 := (hd.out u hy).2.2.2.2.2
        go_simp
      with_reducible refine quiet_one (.int .i64 (i : Int)) ?_ ?_ ?_
      · kernel_rfl
      · intro u hy
        go_simp
      with_reducible refine quiet_one (.pointer (some ⟨g2, o2 + i * 2, none⟩)) ?_ ?_ ?_
      · kernel_rfl
      · intro u hy
        go_simp
      with_reducible refine quiet_one (.pointer (some ⟨g2, o2 + i * 2 + 1, none⟩)) ?_ ?_ ?_
      · kernel_rfl
      · intro u hy
        go_simp
      with_reducible refine quiet_one (.slice so m co) ?_ ?_ ?_
      · kernel_rfl
      · intro u hy
        have t0 := (hcb.out u (Fm.low hy)).1
        have t1 := (hcb.out u (Fm.low hy)).2.1
        have s0 := (hcb.out u (Fm.low hy)).2.2.1
        have s1 := (hcb.out u (Fm.low hy)).2.2.2
        go_simp
      with_reducible refine quiet_one (.bool true) ?_ ?_ ?_
      · kernel_rfl
      · intro u hy
        have d := (hS.out u hy.low).mono fun e w' (h : _ ∧ Hid _) => And.intro h.1 (hy.below h.2.out)
        go_simp
        all_goals exact d
      with_reducible refine quiet_one (.bool false) ?_ ?_ ?_
      · kernel_rfl
      · intro u hy
        go_simp
      refine wpQuiet_nil ?_
      intro z0 Z0
      replace Z0 : Hid _ := Z0
      go_simp
      go_wp2
      go_roundw
      case rel => exact ⟨i + 1, _, rfl, by simp, hlt'.out, Z0⟩
      case measure => have := hlt'.out; simp [intOf]; omega
    · have hie : i = n := by have := J.out; omega
      subst hie
      clear hlt
      go_wp2
      go_loopw [6] (fun t wz => ∃ (i : Nat) (y : World), y = wz ∧ t = .int .i64 (i : Int) ∧ Hid (i ≤ nm) ∧ Hid (Fm w [(w.heap.size, oC x, 29), (w.heap.size + 1, oC o, 29)] y)) (fun t _ => (nm - intOf t).toNat)
      case atStart => exact ⟨0, _, rfl, rfl, Nat.zero_le _, K⟩
      case round =>
        clear K c0 c1 c2 d0 d1 d2
        obtain ⟨i, y, rfl, rfl, J, K⟩ := hrel
        obtain ⟨c0, c1, c2, d0, d1, d2⟩ := hd.out _ K.out
        by_cases hlt : i < nm
        · obtain ⟨v, hv⟩ : ∃ v, o.M[i]? = some v := ⟨_, List.getElem?_eq_getElem (by rw [hnn.out.2.1]; exact hlt)⟩
          obtain ⟨g1, o1, rfl, r1⟩ := hLM.out.1 i v hv
          obtain ⟨g2, o2, rfl, r2⟩ := hLM.out.2 i v hv
          have R1 : Hid (w.rangeAt g1 (o1 + i * 3) (k3 v).toList) := r1
          have R2 : Hid (w.rangeAt g2 (o2 + i * 3) (k3 v).toList) := r2
          have hE : Hid _ := eqM v
          have i1 := fun w => idxP (P := Tryd.prog) (g := g1) (off := o1) (len := nm) (cap := xmc) Tryd.underlying26 (s := 3) (by kernel_rfl) .i64 i w hlt
          have i2 := fun w => idxP (P := Tryd.prog) (g := g2) (off := o2) (len := nm) (cap := omc) Tryd.underlying26 (s := 3) (by kernel_rfl) .i64 i w hlt
          have hii : (i : Int) < nm := by omega
          have hlt' : Hid (i < nm) := hlt
          clear hlt hv r1 r2
          go_wp2
          refine region_class_tail 10 (Fm w [(w.heap.size, oC x, 29), (w.heap.size + 1, oC o, 29)]) (by kernel_rfl) (by kernel_rfl) (K.out.below (below_drew (Below.refl _ _))) ?_
          simp only [List.take_succ_cons, List.take_zero, List.drop_succ_cons, List.drop_zero]
          with_reducible refine quiet_one (.pointer (some ⟨w.heap.size, 1, none⟩)) ?_ ?_ ?_
          · kernel_rfl
          · intro u hy
            go_simp
          with_reducible refine quiet_one (.slice (some ⟨g1, o1, none⟩) nm xmc) ?_ ?_ ?_
          · kernel_rfl
          · intro u hy
            have t0 := (hd.out u hy).1
            have t1 := (hd.out u hy).2.1
            have t2 := (hd.out u hy).2.2.1
            have s0 := (hd.out u hy).2.2.2.1
            have s1 := (hd.out u hy).2.2.2.2.1
            have s2 := (hd.out u hy).2.2.2.2.2
            go_simp
          with_reducible refine quiet_one (.int .i64 (i : Int)) ?_ ?_ ?_
          · kernel_rfl
          · intro u hy
            go_simp
          with_reducible refine quiet_one (.pointer (some ⟨g1, o1 + i * 3, none⟩)) ?_ ?_ ?_
          · kernel_rfl
          · intro u hy
            go_simp
          with_reducible refine quiet_one (.agg (k3 v)) ?_ ?_ ?_
          · kernel_rfl
          · intro u hy
            generalize hA : Act.put _ _ _ = A
            have e1 : A.eval (.tmp 79) = .pointer (some ⟨g1, o1 + i * 3, none⟩) := by rw [← hA]; go_simp
            clear hA
            exact q_loadm (C := Fm w [(w.heap.size, oC x, 29), (w.heap.size + 1, oC o, 29)]) rtM g1 (o1 + i * 3) (k3 v) (fun _ h => range_keep R1.out h.low) rfl (.tmp 79) rfl e1 u hy
          with_reducible refine quiet_one (.pointer (some ⟨w.heap.size + 1, 1, none⟩)) ?_ ?_ ?_
          · kernel_rfl
          · intro u hy
            go_simp
          with_reducible refine quiet_one (.slice (some ⟨g2, o2, none⟩) nm omc) ?_ ?_ ?_
          · kernel_rfl
          · intro u hy
            have t0 := (hd.out u hy).1
            have t1 := (hd.out u hy).2.1
            have t2 := (hd.out u hy).2.2.1
            have s0 := (hd.out u hy).2.2.2.1
            have s1 := (hd.out u hy).2.2.2.2.1
            have s2 := (hd.out u hy).2.2.2.2.2
            go_simp
          with_reducible refine quiet_one (.int .i64 (i : Int)) ?_ ?_ ?_
          · kernel_rfl
          · intro u hy
            go_simp
          with_reducible refine quiet_one (.pointer (some ⟨g2, o2 + i * 3, none⟩)) ?_ ?_ ?_
          · kernel_rfl
          · intro u hy
            go_simp
          with_reducible refine quiet_one (.agg (k3 v)) ?_ ?_ ?_
          · kernel_rfl
          · intro u hy
            generalize hA : Act.put _ _ _ = A
            have e1 : A.eval (.tmp 84) = .pointer (some ⟨g2, o2 + i * 3, none⟩) := by rw [← hA]; go_simp
            clear hA
            exact q_loadm (C := Fm w [(w.heap.size, oC x, 29), (w.heap.size + 1, oC o, 29)]) rtM g2 (o2 + i * 3) (k3 v) (fun _ h => range_keep R2.out h.low) rfl (.tmp 84) rfl e1 u hy
          refine wpQuiet_nil ?_
          intro z0 Z0
          replace Z0 : Hid _ := Z0
          go_simp
          go_wp2_with ((with_reducible refine at_ne hE.out (.tmp 80) (.tmp 85) 89 ?_ ?_ ?_ ?_ ?_); kernel_rfl; rfl; rfl; rfl)
          go_roundw
          case rel => exact ⟨i + 1, _, rfl, by simp, hlt'.out, Z0⟩
          case measure => have := hlt'.out; simp [intOf]; omega
        · have hie : i = nm := by have := J.out; omega
          subst hie
          clear hlt
          go_wp2
          go_loopw [7] (fun t wz => ∃ (i : Nat) (y : World), y = wz ∧ t = .int .i64 (i : Int) ∧ Hid (i ≤ nl) ∧ Hid (Fm w [(w.heap.size, oC x, 29), (w.heap.size + 1, oC o, 29)] y)) (fun t _ => (nl - intOf t).toNat)
          case atStart => exact ⟨0, _, rfl, rfl, Nat.zero_le _, K⟩
          case round =>
            clear K c0 c1 c2 d0 d1 d2
            obtain ⟨i, y, rfl, rfl, J, K⟩ := hrel
            obtain ⟨c0, c1, c2, d0, d1, d2⟩ := hd.out _ K.out
            by_cases hlt : i < nl
            · obtain ⟨v, hv⟩ : ∃ v, o.L[i]? = some v := ⟨_, List.getElem?_eq_getElem (by rw [hnn.out.2.2]; exact hlt)⟩
              obtain ⟨g1, o1, rfl, r1⟩ := hLL.out.1 i v hv
              obtain ⟨g2, o2, rfl, r2⟩ := hLL.out.2 i v hv
              have R1 : Hid (w.rangeAt g1 (o1 + i * 2) (kl v).toList) := r1
              have R2 : Hid (w.rangeAt g2 (o2 + i * 2) (kl v).toList) := r2
              have hE : Hid _ := eqL v
              have i1 := fun w => idxP (P := Tryd.prog) (g := g1) (off := o1) (len := nl) (cap := xlc) Tryd.underlying27 (s := 2) (by kernel_rfl) .i64 i w hlt
              have i2 := fun w => idxP (P := Tryd.prog) (g := g2) (off := o2) (len := nl) (cap := olc) Tryd.underlying27 (s := 2) (by kernel_rfl) .i64 i w hlt
              have hii : (i : Int) < nl := by omega
              have hlt' : Hid (i < nl) := hlt
              clear hlt hv r1 r2
              go_wp2
              refine region_class_tail 10 (Fm w [(w.heap.size, oC x, 29), (w.heap.size + 1, oC o, 29)]) (by kernel_rfl) (by kernel_rfl) (K.out.below (below_drew (Below.refl _ _))) ?_
              simp only [List.take_succ_cons, List.take_zero, List.drop_succ_cons, List.drop_zero]
              with_reducible refine quiet_one (.pointer (some ⟨w.heap.size, 2, none⟩)) ?_ ?_ ?_
              · kernel_rfl
              · intro u hy
                go_simp
              with_reducible refine quiet_one (.slice (some ⟨g1, o1, none⟩) nl xlc) ?_ ?_ ?_
              · kernel_rfl
              · intro u hy
                have t0 := (hd.out u hy).1
                have t1 := (hd.out u hy).2.1
                have t2 := (hd.out u hy).2.2.1
                have s0 := (hd.out u hy).2.2.2.1
                have s1 := (hd.out u hy).2.2.2.2.1
                have s2 := (hd.out u hy).2.2.2.2.2
                go_simp
              with_reducible refine quiet_one (.int .i64 (i : Int)) ?_ ?_ ?_
              · kernel_rfl
              · intro u hy
                go_simp
              with_reducible refine quiet_one (.pointer (some ⟨g1, o1 + i * 2, none⟩)) ?_ ?_ ?_
              · kernel_rfl
              · intro u hy
                go_simp
              with_reducible refine quiet_one (.agg (kl v)) ?_ ?_ ?_
              · kernel_rfl
              · intro u hy
                generalize hA : Act.put _ _ _ = A
                have e1 : A.eval (.tmp 97) = .pointer (some ⟨g1, o1 + i * 2, none⟩) := by rw [← hA]; go_simp
                clear hA
                exact q_loadm (C := Fm w [(w.heap.size, oC x, 29), (w.heap.size + 1, oC o, 29)]) rtLa g1 (o1 + i * 2) (kl v) (fun _ h => range_keep R1.out h.low) rfl (.tmp 97) rfl e1 u hy
              with_reducible refine quiet_one (.pointer (some ⟨w.heap.size + 1, 2, none⟩)) ?_ ?_ ?_
              · kernel_rfl
              · intro u hy
                go_simp
              with_reducible refine quiet_one (.slice (some ⟨g2, o2, none⟩) nl olc) ?_ ?_ ?_
              · kernel_rfl
              · intro u hy
                have t0 := (hd.out u hy).1
                have t1 := (hd.out u hy).2.1
                have t2 := (hd.out u hy).2.2.1
                have s0 := (hd.out u hy).2.2.2.1
                have s1 := (hd.out u hy).2.2.2.2.1
                have s2 := (hd.out u hy).2.2.2.2.2
                go_simp
              with_reducible refine quiet_one (.int .i64 (i : Int)) ?_ ?_ ?_
              · kernel_rfl
              · intro u hy
                go_simp
              with_reducible refine quiet_one (.pointer (some ⟨g2, o2 + i * 2, none⟩)) ?_ ?_ ?_
              · kernel_rfl
              · intro u hy
                go_simp
              with_reducible refine quiet_one (.agg (kl v)) ?_ ?_ ?_
              · kernel_rfl
              · intro u hy
                generalize hA : Act.put _ _ _ = A
                have e1 : A.eval (.tmp 102) = .pointer (some ⟨g2, o2 + i * 2, none⟩) := by rw [← hA]; go_simp
                clear hA
                exact q_loadm (C := Fm w [(w.heap.size, oC x, 29), (w.heap.size + 1, oC o, 29)]) rtLa g2 (o2 + i * 2) (kl v) (fun _ h => range_keep R2.out h.low) rfl (.tmp 102) rfl e1 u hy
              refine wpQuiet_nil ?_
              intro z0 Z0
              replace Z0 : Hid _ := Z0
              go_simp
              go_wp2_with ((with_reducible refine at_ne hE.out (.tmp 98) (.tmp 103) 52 ?_ ?_ ?_ ?_ ?_); kernel_rfl; rfl; rfl; rfl)
              go_roundw
              case rel => exact ⟨i + 1, _, rfl, by simp, hlt'.out, Z0⟩
              case measure => have := hlt'.out; simp [intOf]; omega
            · have hie : i = nl := by have := J.out; omega
              subst hie
              clear hlt
              go_wp2
              go_ret
              exact ⟨rfl, K.out.low⟩
end Go.Proofs.YthbdpceobnkflaaDoor

namespace Go.Proofs.YthbdpceobnkflaaDoor
open Go Go.RowKit
set_option linter.unusedVariables false
set_option maxHeartbeats 3000000
set_option maxRecDepth 20000

def zO : Oo := ⟨none, 0, [], none, 0, [], none, 0, []⟩
theorem oneO (o : Oo) : (oC o).all (·.oneCell') = true := by simp [oC, Value.oneCell']
end Go.Proofs.YthbdpceobnkflaaDoor

namespace Go.Proofs.YthbdpceobnkflaaDoor
open Go Go.RowKit
set_option linter.unusedVariables false
set_option maxHeartbeats 3000000
set_option maxRecDepth 20000

section
variable {α : Type} {T t : TypeId} {s bts : Nat} {c : α → List Value}
theorem run_app0 (K : KdL T t s bts c) (w : World) (ty : TypeId) (B : Nat) (v : Value) (l : List α) (hown : OwnL t s c B w v l) (p : Option Addr) (cp : Nat) : (Builtin.append_ #[T, T] ty #[v, .slice p 0 cp]).run Tryd.prog w = .ok v w := by
  obtain ⟨i, z, hi, hz0, hz1, hz2, hz3⟩ := K.i
  have hl : ∀ (x : Addr), (loadCells x 0).run Tryd.prog w = .ok #[] w := fun x => by simpa using run_loadCells_list (P := Tryd.prog) w x [] (by simp)
  rcases hown.2 with ⟨rfl, h0⟩ | ⟨g, cap, cur, rfl, _, _, hnc, _⟩
  · cases p <;> simp [Builtin.append_, run_underlying K.u, sizeOf, typeInfo, hi, Builtin.lenOf, Builtin.firstCells, hl]
  · cases p <;> simp [Builtin.append_, run_underlying K.u, sizeOf, typeInfo, hi, Builtin.lenOf, Builtin.firstCells, hnc, storeCells, hl]
theorem run_appM (K : KdL T t s bts c) (w : World) (B : Nat) (v : Value) (l us : List α) (ty : TypeId) (hown : OwnL t s c B w v l) (p : Option Addr) (n cm : Nat) (hm : us.length = n) (hu : LiesL s c w p us) (hn : l.length + n ≤ 4000000000) (hB : B ≤ w.heap.size) :
    ∃ v' w', (Builtin.append_ #[T, T] ty #[v, .slice p n cm]).run Tryd.prog w = .ok v' w' ∧ OwnL t s c B w' v' (l ++ us) ∧ w.grownBy w' v.ownBlock := by
  subst hm
  by_cases h0 : us = []
  · subst h0
    exact ⟨v, w, run_app0 K w ty B v l hown p cm, by rw [List.append_nil]; exact hown, ⟨rfl, rfl, rfl, Nat.le_refl _, fun _ _ _ => rfl⟩⟩
  · obtain ⟨g0, o0, rfl, _⟩ := hu 0 _ (List.getElem?_eq_getElem (List.length_pos_iff.2 h0))
    obtain ⟨i, z, hi, hz0, hz1, hz2, hz3⟩ := K.i
    have hc : ∀ j u', (rowL c us)[j]? = some u' → w.cell? ((⟨g0, o0, none⟩ : Addr).add j) = some u' := fun j u' h => by
      rw [Addr.add_lit]
      exact hu.cells K.len K.s0 j u' h
    obtain ⟨v', w', h1, h2, h3, -⟩ := run_append_own (P := Tryd.prog) w B T ty t i z s bts K.u hi hz0 hz1 hz2 hz3 K.s0 v l.length (rowL c l) hown ⟨g0, o0, none⟩ us.length cm (rowL c us) (rowL_len K.len us) hc (rowL_cell K.one us) (by unfold maxLen; omega) (Nat.le_trans (Nat.mul_le_mul (show l.length + us.length ≤ 4000000000 by omega) K.b0) (by decide)) hB
    refine ⟨v', w', h1, ?_, h3⟩
    unfold OwnL
    rw [rowL_app, List.length_append]
    exact h2
end
/-- A list that grew leaves what is of another type. -/
theorem own_grown {α β : Type} {t t' : TypeId} {s s' : Nat} {c : α → List Value} {c' : β → List Value} {B : Nat} {y z : World} {v u : Value} {l : List α} {l' : List β} (ho : OwnL t s c B y v l) (hk : OwnL t' s' c' B y u l') (hne : t ≠ t') (hg : y.grownBy z v.ownBlock) : OwnL t' s' c' B z u l' := hk.keepB fun g e => by
  refine hg.block g (hk.lt g e).2 fun e2 => ?_
  obtain ⟨cs, h1⟩ := ho.ty g e2.symm
  obtain ⟨ds, h2⟩ := hk.ty g e
  exact Bx.unlike h1 h2 hne rfl
theorem bx_grown {α : Type} {t t' : TypeId} {s : Nat} {c : α → List Value} {B : Nat} {y z : World} {v : Value} {l : List α} {b : Nat} {cs : Array Value} (ho : OwnL t s c B y v l) (hk : Bx y b cs t') (hne : t ≠ t') (hg : y.grownBy z v.ownBlock) : Bx z b cs t' := by
  refine (hg.block b (heap_lt hk) fun e2 => ?_).trans hk
  obtain ⟨ds, h1⟩ := ho.ty b e2.symm
  exact Bx.unlike h1 hk hne rfl
end Go.Proofs.YthbdpceobnkflaaDoor

namespace Go.Proofs.YthbdpceobnkflaaDoor
open Go Go.RowKit
set_option linter.unusedVariables false
set_option maxHeartbeats 3000000
set_option maxRecDepth 20000

theorem wp_appR {o : Oper} {a : Act} {w : World} {K : Act → World → Prop} {Q : Exit → Act → World → Prop} (T : TypeId) (sl x : Operand) (ho : o.op = .call { callee := .builtin .append, args := #[sl, x], argTypes := #[T, T] })
    (v xv : Value) (hs : a.eval sl = v) (hx : a.eval x = xv) (v' : Value) (w' : World) (hrun : (Builtin.append_ #[T, T] o.type #[v, xv]).run Tryd.prog w = .ok v' w') (k : K (a.put o.dst v') w') : o.wp Tryd.prog a w K Q := by
  unfold Oper.wp
  simp [execOp, ho, resolve, invoke, builtin, hs, hx, hrun, Result.andThen]
  exact k
end Go.Proofs.YthbdpceobnkflaaDoor
