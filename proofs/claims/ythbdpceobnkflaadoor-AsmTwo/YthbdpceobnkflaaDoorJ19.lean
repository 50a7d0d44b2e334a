/- An object's bytes: the program's answer. -/
import Derived.Test.YthbdpceobnkflaaDoorJ18
namespace Go.Proofs.YthbdpceobnkflaaDoor
open Go Go.RowKit
set_option linter.unusedVariables false
set_option maxHeartbeats 3000000
set_option maxRecDepth 20000

theorem run_copyO (w : World) (ty : TypeId) (g od dLen dCap : Nat) (ad : Addr) (sLen sCap : Nat) (cur : Array Value) (cs : List Value)
    (hg : w.heap[g]? = some (.cells cur 5 (0, 0))) (hn : cs.length = sLen) (hle : sLen ≤ dLen)
    (hsrc : ∀ j v, cs[j]? = some v → w.cell? (ad.add j) = some v) (hfit : od + cs.length ≤ cur.size) (h1 : ∀ v ∈ cs, v.oneCell' = true) :
    (Builtin.copy_ #[33, 33] ty #[.slice (some ⟨g, od, none⟩) dLen dCap, .slice (some ad) sLen sCap]).run Tryd.prog w = .ok (goInt sLen) (w.setRow g (splice cur.toList od cs).toArray) := by
  obtain ⟨i, z, hi, hz0, hz1, hz2, hz3⟩ := kU.i
  have hl := run_loadCells_list (P := Tryd.prog) w ad cs hsrc
  have hst := run_storeCells_at Tryd.prog g od 5 cs 0 cur w hg (by simpa using hfit) h1
  rw [hn] at hl
  have hm : Nat.min sLen dLen = sLen := Nat.min_eq_left hle
  simp [Builtin.copy_, run_underlying kU.u, Builtin.lenOf, Builtin.firstCells, sizeOf, typeInfo, hi, hz1, hm, hl, hst, splice]
theorem at_copyO {ops : Array Oper} {rest : List Oper} {o : Oper} {a : Act} {w : World} {Q : Exit → Act → World → Prop} (hgd : o.guard = none) (d e : Operand)
    (ho : o.op = .call { callee := .builtin .copy, args := #[d, e], argTypes := #[33, 33] })
    (g od dLen dCap gb ob sLen sCap : Nat) (hd : a.eval d = .slice (some ⟨g, od, none⟩) dLen dCap) (hs : a.eval e = .slice (some ⟨gb, ob, none⟩) sLen sCap)
    (out : List UInt8) (hg : Bx w g (rU out) 5) (l : List UInt8) (hlen : l.length = sLen) (hle : sLen ≤ dLen) (hl : LB8 w (some ⟨gb, ob, none⟩) l) (hfit : od + sLen ≤ out.length)
    (h : ∀ w', Hid (Bx w' g (rU (splice out od l)) 5 ∧ (∀ B, B ≤ g → Below B w w') ∧ ∀ q, q ≠ g → w'.heap[q]? = w.heap[q]?) → wpList Tryd.prog ops Q rest (a.put o.dst (goInt sLen)) w') : wpList Tryd.prog ops Q (o :: rest) a w := by
  refine wpList_plain hgd fun K' hK => ?_
  have hsrc : ∀ j v, (l.map byV)[j]? = some v → w.cell? ((⟨gb, ob, none⟩ : Addr).add j) = some v := fun j v hv => by
    rw [List.getElem?_map] at hv
    rcases hj : l[j]? with _ | b
    · rw [hj] at hv; cases hv
    · rw [hj] at hv
      cases hv
      rw [Addr.add_lit]
      exact lb_cell hl j b hj
  have hrun := run_copyO w o.type g od dLen dCap ⟨gb, ob, none⟩ sLen sCap (rU out) (l.map byV) hg (by rw [List.length_map, hlen]) hle hsrc (by unfold rU; simp; omega) (fun v hv => by obtain ⟨b, _, rfl⟩ := List.mem_map.1 hv; rfl)
  have e1 : (splice (rU out).toList od (l.map byV)).toArray = rU (splice out od l) := by
    unfold rU splice
    simp
  rw [e1] at hrun
  unfold Oper.wp
  simp [execOp, ho, resolve, invoke, builtin, hd, hs, hrun, Result.andThen]
  exact hK _ _ (h _ ⟨setRow_heap w g _ _ _ _ hg, fun B hB => below_setRow (Below.refl _ _) hB _, fun q hq => setRow_other w g q _ hq⟩)
theorem ovr_seg (fr : Int) (out : List UInt8) (a : Int) (bs : List UInt8) (F E : Int) (hF : F = if fr < a then a else fr) (hE : E = if fr + out.length < a + bs.length then fr + (out.length : Int) else a + bs.length) : ovr fr out a bs = if F < E then splice out (F - fr).toNat ((bs.drop (F - a).toNat).take (E - F).toNat) else out := by
  have hF1 : fr ≤ F ∧ a ≤ F ∧ (F = fr ∨ F = a) := by rw [hF]; split <;> omega
  have hE1 : E ≤ fr + out.length ∧ E ≤ a + bs.length ∧ (E = fr + out.length ∨ E = a + bs.length) := by rw [hE]; split <;> omega
  clear hF hE
  have hcl : F < E → ((bs.drop (F - a).toNat).take (E - F).toNat).length = (E - F).toNat := fun hlt => by rw [List.length_take, List.length_drop]; omega
  apply List.ext_getElem?
  intro k
  by_cases h : k < out.length
  · have ho : out[k]? = some (out.getD k 0) := by rw [List.getD_eq_getElem?_getD, List.getElem?_eq_getElem h]; rfl
    rw [ovr_at _ _ _ _ _ h]
    by_cases hin : F ≤ fr + (k : Int) ∧ fr + (k : Int) < E
    · have hlt : F < E := by omega
      have ha : a ≤ fr + (k : Int) := by omega
      have hk : (F - fr).toNat ≤ k ∧ k < (F - fr).toNat + (E - F).toNat := by omega
      have hk2 : k - (F - fr).toNat < (E - F).toNat := by omega
      have hi : (fr + (k : Int) - a).toNat < bs.length := by omega
      have hx : (F - a).toNat + (k - (F - fr).toNat) = (fr + (k : Int) - a).toNat := by omega
      rw [if_pos hlt, spliceL_at _ _ _ (by rw [hcl hlt]; omega), hcl hlt, if_pos hk, if_pos ha, List.getElem?_take, if_pos hk2, List.getElem?_drop, hx, List.getElem?_eq_getElem hi]
      rfl
    · have hr : (if F < E then splice out (F - fr).toNat ((bs.drop (F - a).toNat).take (E - F).toNat) else out)[k]? = out[k]? := by
        by_cases hlt : F < E
        · have hk : ¬ ((F - fr).toNat ≤ k ∧ k < (F - fr).toNat + (E - F).toNat) := by omega
          rw [if_pos hlt, spliceL_at _ _ _ (by rw [hcl hlt]; omega), hcl hlt, if_neg hk]
        · rw [if_neg hlt]
      rw [hr, ho]
      by_cases h1 : a ≤ fr + (k : Int)
      · rw [if_pos h1, List.getElem?_eq_none (by omega)]
        rfl
      · rw [if_neg h1]
  · rw [List.getElem?_eq_none (by rw [ovr_len]; omega)]
    symm
    apply List.getElem?_eq_none
    by_cases hlt : F < E
    · rw [if_pos hlt, length_splice _ _ _ (by rw [hcl hlt]; omega)]
      omega
    · rw [if_neg hlt]
      omega
theorem obytes_any (w : World) (T : Hid (Tabs w)) (ob : Oo) (h : Hid (Lco w ob)) (fr to : Int) (hf : inI fr) (ht : inI to) : Calls Tryd.prog 9 #[.agg (oC ob), .int .i64 fr, .int .i64 to] w (ByE w (bytL ob fr to) (bytE ob fr to)) := by
  have K0 : Hid (Fm w [(w.heap.size, oC ob, 29)] (w.alloc (.cells (oC ob) 29))) := Fm.one w _ _
  have hC := ocheck_any _ (T.out.below K0.out.low) ob (h.out.below K0.out.low)
  obtain ⟨f0, f1⟩ := hf
  obtain ⟨t0, t1⟩ := ht
  rcases chk01 ob with hc | hc
  · rw [hc] at hC
    by_cases hq : fr < 0 ∨ to < fr ∨ 65536 < to
    · have hE : bytE ob fr to = 1 := by unfold bytE; rw [if_neg (by rw [hc]; simp), if_pos hq]
      rw [hE, bytL_no (by rw [hE]; decide)]
      have q : (fr < 0) ∨ (¬ fr < 0 ∧ to < fr) ∨ (¬ fr < 0 ∧ ¬ to < fr ∧ 65536 < to) := by omega
      clear hE hq
      rcases q with q1 | ⟨q1, q2⟩ | ⟨q1, q2, q3⟩
      all_goals
        go_enter Tryd.func9, Tryd.ntmps9
        go_wp2_with (first
          | ((with_reducible refine at_load rtO w.heap.size (oC ob) ?_ ?_ (.tmp 3) ?_ ?_ ?_ ?_); exact K0.out.bx 0 _ _ _ rfl; rfl; rfl; rfl; rfl)
          | (go_at_call 10; refine hC.mono ?_; rintro e y1 ⟨rfl, H1⟩; have K1 : Hid (Fm w [(w.heap.size, oC ob, 29)] y1) := K0.out.below H1.out; clear H1))
        go_ret2
        exact ⟨none, 0, rfl, K1.out.low, .inl ⟨rfl, rfl, rfl⟩⟩
    · have hE : bytE ob fr to = 0 := by unfold bytE; rw [if_neg (by rw [hc]; simp), if_neg hq]
      have hLe : bytL ob fr to = ovrAll fr (List.replicate (to - fr).toNat 0) (plB ob.B) := by unfold bytL; rw [if_pos hE]
      rw [hE, hLe]
      obtain ⟨D, hD⟩ : ∃ D, (to - fr).toNat = D := ⟨_, rfl⟩
      rw [hD]
      obtain ⟨R, hR⟩ : ∃ R, ovrAll fr (List.replicate D 0) (plB ob.B) = R := ⟨_, rfl⟩
      have hR' : Hid (ovrAll fr (List.replicate D 0) (plB ob.B) = R ∧ R.length = D) := ⟨hR, by rw [← hR, ovrAll_len, List.length_replicate]⟩
      rw [hR]
      have q1 : ¬ fr < 0 := by omega
      have q2 : ¬ to < fr := by omega
      have q3 : ¬ 65536 < to := by omega
      have hDi : Hid (to - fr = (D : Int) ∧ D ≤ 65536) := ⟨by omega, by omega⟩
      have wD : IntKind.i64.wrap (to - fr) = to - fr := by rw [IntKind.wrap_i64]; omega
      have hok : blkOk 0 (ob.B.map (·.1)) = true := by
        unfold chkO okO at hc
        rcases hb : blkOk 0 (ob.B.map fun x : Bb => x.1) with _ | _
        · rw [hb] at hc; simp at hc
        · rfl
      have hbd : Hid (∀ x ∈ ob.B, 0 ≤ x.1.a ∧ x.1.a ≤ 65536 ∧ 1 ≤ x.1.m ∧ x.1.m ≤ 65536) := fun x hx => blk_bounds _ 0 (by decide) hok x.1 (List.mem_map_of_mem hx)
      obtain ⟨n, hn'⟩ : ∃ n, ob.B.length = n := ⟨_, rfl⟩
      have hnn : Hid (ob.B.length = n) := hn'
      have ni : (n : Int) ≤ 2147483647 := by have := h.out.lo.n; omega
      obtain ⟨bp, hbp⟩ : ∃ q, ob.bp = q := ⟨_, rfl⟩
      obtain ⟨bc, hbc⟩ : ∃ q, ob.bc = q := ⟨_, rfl⟩
      have hd0 : Hid (∀ (y : World) l, Fm w ((w.heap.size, oC ob, 29) :: l) y → y.cell? ⟨w.heap.size, 0, none⟩ = some (.slice bp n bc)) := fun y l hy => by
        have h1 := (hy.bx 0 _ _ _ rfl).c 0 (.slice ob.bp ob.B.length ob.bc) rfl
        rw [hbp, hbc, hn'] at h1
        exact h1
      have hLb : Hid (LiesL 2 cK w bp (ob.B.map (·.1)) ∧ ∀ x ∈ ob.B, LB8 w x.1.sp x.2 ∧ x.2.length = x.1.m ∧ x.1.m ≤ x.1.cap) := ⟨by rw [← hbp]; exact h.out.lo.b, fun x hx => ⟨(h.out.lo.g x hx).1, (h.out.lo.g x hx).2, h.out.cb x hx⟩⟩
      clear hE hLe hD hR hq hok hn' hbp hbc
      go_enter Tryd.func9, Tryd.ntmps9
      go_wp2_with (first
        | ((with_reducible refine at_load rtO w.heap.size (oC ob) ?_ ?_ (.tmp 3) ?_ ?_ ?_ ?_); exact K0.out.bx 0 _ _ _ rfl; rfl; rfl; rfl; rfl)
        | (go_at_call 10; refine hC.mono ?_; rintro e y1 ⟨rfl, H1⟩; have K1 : Hid (Fm w [(w.heap.size, oC ob, 29)] y1) := K0.out.below H1.out; clear H1; have hmk := hmkB D (to - fr) hDi.out.1 hDi.out.2 y1; have K2 : Hid (Fm w [(w.heap.size, oC ob, 29), (y1.heap.size, rU (List.replicate D 0), 5)] (y1.alloc (.cells (rU (List.replicate D 0)) 5))) := K1.out.new _ _; have c0 := hd0.out _ _ K2.out))
      obtain ⟨g, hg⟩ : ∃ g, y1.heap.size = g := ⟨_, rfl⟩
      have hgw : Hid (w.heap.size ≤ g) := by rw [← hg]; exact K1.out.low.size
      rw [hg] at K2 ⊢
      go_loopw [37] (fun t wz => ∃ (i : Nat) (out : List UInt8) (y : World), y = wz ∧ t = .int .i64 (i : Int) ∧ Hid (i ≤ n ∧ out.length = D ∧ ovrAll fr out ((plB ob.B).drop i) = R) ∧ Hid (Fm w [(w.heap.size, oC ob, 29), (g, rU out, 5)] y)) (fun t _ => (n - intOf t).toNat)
      case atStart => exact ⟨0, _, _, rfl, rfl, ⟨Nat.zero_le _, List.length_replicate .., hR'.out.1⟩, K2⟩
      case round =>
        obtain ⟨i, out, y, rfl, rfl, J, K⟩ := hrel
        clear hmk hg c0
        by_cases hlt : i < n
        · obtain ⟨x, hx⟩ : ∃ x, ob.B[i]? = some x := ⟨_, List.getElem?_eq_getElem (by rw [hnn.out]; exact hlt)⟩
          have hxm := List.mem_of_getElem? hx
          obtain ⟨gb, o, rfl, hcx⟩ := hLb.out.1 i x.1 (by rw [List.getElem?_map, hx]; rfl)
          obtain ⟨g1, g2, g3, g4⟩ := hbd.out x hxm
          obtain ⟨lx, lxm, lxc⟩ := hLb.out.2 x hxm
          have hd : (plB ob.B).drop i = (x.1.a, x.2) :: (plB ob.B).drop (i + 1) := by
            have h : (plB ob.B)[i]? = some (x.1.a, x.2) := by rw [List.getElem?_map, hx]; rfl
            obtain ⟨h1, e⟩ := List.getElem?_eq_some_iff.1 h
            rw [List.drop_eq_getElem_cons h1, e]
          have hO : Hid (ovrAll fr (ovr fr out x.1.a x.2) ((plB ob.B).drop (i + 1)) = R) := by
            have h1 := J.out.2.2
            rw [hd] at h1
            exact h1
          obtain ⟨b, hb⟩ : ∃ q, x.1 = q := ⟨_, rfl⟩
          obtain ⟨bs, hbs⟩ : ∃ q, x.2 = q := ⟨_, rfl⟩
          rw [hb, hbs] at hO
          rw [hb] at g1 g2 g3 g4 lxm lxc hcx lx
          rw [hbs] at lxm lx
          have hc' : Hid (y.rangeAt gb (o + i * 2) (k2 b).toList) := range_keep hcx K.out.low
          have hlx : Hid (∀ u, Below w.heap.size w u → LB8 u b.sp bs) := fun u hu => lx.below hu
          have hol : Hid (out.length = D) := J.out.2.1
          have Li : (b.m : Int) ≤ 65536 := by omega
          have hBc : Hid (∀ v, Calls Tryd.prog 26 #[.agg (k2 b)] v fun e w' => e = .returned (.int .i64 (b.a + b.m)) ∧ Below v.heap.size v w') := fun v => behind_any v b ⟨g1, g2⟩ g4
          obtain ⟨F, hF⟩ : ∃ F, (if fr < b.a then b.a else fr) = F := ⟨_, rfl⟩
          obtain ⟨E, hE⟩ : ∃ E, (if to < b.a + b.m then to else b.a + b.m) = E := ⟨_, rfl⟩
          have hF1 : fr ≤ F ∧ b.a ≤ F ∧ (F = fr ∨ F = b.a) := by rw [← hF]; split <;> omega
          have hE1 : E ≤ to ∧ E ≤ b.a + b.m ∧ (E = to ∨ E = b.a + b.m) := by rw [← hE]; split <;> omega
          have hseg := ovr_seg fr out b.a bs F E hF.symm (by rw [← hE, hol.out, lxm]; have := hDi.out.1; rw [show fr + (D : Int) = to by omega])
          have ij := fun w => idxP (P := Tryd.prog) (g := gb) (off := o) (len := n) (cap := bc) Tryd.underlying25 (s := 2) (by kernel_rfl) .i64 i w hlt
          have hii : (i : Int) < n := by omega
          have hlt' : Hid (i < n) := hlt
          have F2 : F ≤ 65536 := by omega
          have J9 : Hid (i + 1 ≤ n ∧ (ovr fr out b.a bs).length = D ∧ ovrAll fr (ovr fr out b.a bs) ((plB ob.B).drop (i + 1)) = R) := ⟨hlt, by rw [ovr_len]; exact hol.out, hO.out⟩
          by_cases hFE : F < E
          · rw [if_pos hFE] at hseg
            obtain ⟨d, hd9⟩ : ∃ d : Nat, F - fr = (d : Int) := ⟨(F - fr).toNat, by omega⟩
            obtain ⟨l9, hl9⟩ : ∃ d : Nat, F - b.a = (d : Int) := ⟨(F - b.a).toNat, by omega⟩
            obtain ⟨h9, hh9⟩ : ∃ d : Nat, E - b.a = (d : Int) := ⟨(E - b.a).toNat, by omega⟩
            have hdD : d < D := by have := hDi.out.1; omega
            obtain ⟨sp1, hsl1, hs1⟩ := slB g 0 D D d (by omega) (Nat.le_refl _)
            have hs1' := hs1 hdD
            rw [Nat.zero_add] at hs1'
            subst hs1'
            obtain ⟨x0, hx0⟩ : ∃ x, bs[0]? = some x := ⟨_, List.getElem?_eq_getElem (by omega)⟩
            obtain ⟨gs, os, hsp, _⟩ := lx 0 x0 hx0
            obtain ⟨sp2, hsl2, hs2⟩ := slB2 gs os b.m b.cap l9 h9 (l9 : Int) (h9 : Int) rfl rfl (by omega) (by omega) lxc
            have hs2' := hs2 (by omega)
            subst hs2'
            rw [← hsp] at hsl2
            rw [show (F - fr).toNat = d by omega, show (F - b.a).toNat = l9 by omega, show (E - F).toNat = h9 - l9 by omega] at hseg
            have hsg : Hid (ovr fr out b.a bs = splice out d ((bs.drop l9).take (h9 - l9))) := hseg
            have hlz : Hid (∀ u, Below w.heap.size w u → LB8 u (some ⟨gs, os + l9, none⟩) ((bs.drop l9).take (h9 - l9))) := fun u hu => by
              have k := hlx.out u hu
              rw [hsp] at k
              exact (k.drop l9 _ (fun _ => rfl)).take _
            have hcl : Hid (((bs.drop l9).take (h9 - l9)).length = h9 - l9) := by show _ = _; rw [List.length_take, List.length_drop]; omega
            have hft : Hid (h9 - l9 ≤ D - d ∧ d + (h9 - l9) ≤ out.length) := ⟨by have := hDi.out.1; omega, by have := hDi.out.1; have := hol.out; omega⟩
            have di : Hid ((d : Int) = F - fr) := hd9.symm
            have li : Hid ((l9 : Int) = F - b.a) := hl9.symm
            have hi9 : Hid ((h9 : Int) = E - b.a) := hh9.symm
            clear hlt hx hxm hcx lx lxm lxc hd hO hseg hs1 hs2 hx0 hdD hd9 hl9 hh9 hb hbs J hsp
            go_wp2_with (first
            | ((with_reducible refine at_loadm rtK gb (o + i * 2) (k2 b) ?_ ?_ (.tmp 39) ?_ ?_ ?_ ?_); exact hc'.out; rfl; kernel_rfl; rfl; rfl)
            | ((with_reducible refine gen_world (y.alloc (.cells #[.int .i64 0, .slice none 0 0] 46)) (Fm w [(w.heap.size, oC ob, 29), (g, rU out, 5), (y.heap.size, k2 zK, 46)]) ?_ ?_); exact K.out.new _ _; intro y1 K1)
            | ((with_reducible refine at_st rtK y.heap.size (k2 zK) (k2 b) ?_ ?_ ?_ ?_ (.tmp 11) (.tmp 40) ?_ ?_ ?_ ?_ ?_); exact K1.out.bx 2 _ _ _ rfl; rfl; rfl; exact oneK _; rfl; rfl; rfl; rfl; intro y2 hw2; have K2 : Hid (Fm w [(w.heap.size, oC ob, 29), (g, rU out, 5), (y.heap.size, k2 b, 46)] y2) := K1.out.put 2 _ _ _ _ rfl hw2.out; clear hw2))
            refine region_class_tail 9 (Fm w [(w.heap.size, oC ob, 29), (g, rU out, 5), (y.heap.size, k2 b, 46)]) (by kernel_rfl) (by kernel_rfl) (K2.out.below (below_drew (Below.refl _ _))) ?_
            simp only [List.take_succ_cons, List.take_zero, List.drop_succ_cons, List.drop_zero]
            with_reducible refine quiet_one (.int .i64 fr) ?_ ?_ ?_
            · kernel_rfl
            · intro u hy
              go_simp
              all_goals (first | omega | (rw [IntKind.wrap_i64]; omega) | (split <;> omega))
            with_reducible refine quiet_one (.pointer (some ⟨y.heap.size, 0, none⟩)) ?_ ?_ ?_
            · kernel_rfl
            · intro u hy
              go_simp
              all_goals (first | omega | (rw [IntKind.wrap_i64]; omega) | (split <;> omega))
            with_reducible refine quiet_one (.int .i64 b.a) ?_ ?_ ?_
            · kernel_rfl
            · intro u hy
              have t := (hy.bx 2 _ _ _ rfl).c 0 (.int .i64 b.a) rfl
              go_simp
            with_reducible refine quiet_one (.int .i64 F) ?_ ?_ ?_
            · kernel_rfl
            · intro u hy
              go_simp
              all_goals (first | omega | (rw [IntKind.wrap_i64]; omega) | (split <;> omega))
            with_reducible refine quiet_one (.int .i64 to) ?_ ?_ ?_
            · kernel_rfl
            · intro u hy
              go_simp
              all_goals (first | omega | (rw [IntKind.wrap_i64]; omega) | (split <;> omega))
            with_reducible refine quiet_one (.agg (k2 b)) ?_ ?_ ?_
            · kernel_rfl
            · intro u hy
              generalize hA : Act.put _ _ _ = A
              have e1 : A.eval (.tmp 11) = .pointer (some ⟨y.heap.size, 0, none⟩) := by rw [← hA]; go_simp
              clear hA
              exact q_load (C := Fm w [(w.heap.size, oC ob, 29), (g, rU out, 5), (y.heap.size, k2 b, 46)]) rtK y.heap.size (k2 b) (fun _ h => h.bx 2 _ _ _ rfl) rfl (.tmp 11) rfl e1 u hy
            with_reducible refine quiet_one (.int .i64 (b.a + b.m)) ?_ ?_ ?_
            · kernel_rfl
            · intro u hy
              have d := (hBc.out u).mono fun e w' (h : _ ∧ _) => And.intro h.1 (hy.below h.2)
              go_simp
              all_goals exact d
            with_reducible refine quiet_one (.int .i64 E) ?_ ?_ ?_
            · kernel_rfl
            · intro u hy
              go_simp
              all_goals (first | omega | (rw [IntKind.wrap_i64]; omega) | (split <;> omega))
            with_reducible refine quiet_one (.int .i64 F) ?_ ?_ ?_
            · kernel_rfl
            · intro u hy
              go_simp
              all_goals (first | omega | (rw [IntKind.wrap_i64]; omega) | (split <;> omega))
            refine wpQuiet_nil ?_
            intro z0 Z0
            replace Z0 : Hid _ := Z0
            go_simp
            go_wp2
            refine region_class_tail 16 (Fm w [(w.heap.size, oC ob, 29), (g, rU out, 5), (y.heap.size, k2 b, 46)]) (by kernel_rfl) (by kernel_rfl) (Z0.out.below (below_drew (Below.refl _ _))) ?_
            simp only [List.take_succ_cons, List.take_zero, List.drop_succ_cons, List.drop_zero]
            with_reducible refine quiet_one (.slice (some ⟨g, 0, none⟩) D D) ?_ ?_ ?_
            · kernel_rfl
            · intro u hy
              go_simp
              all_goals (first | omega | (rw [IntKind.wrap_i64]; omega) | (split <;> omega))
            with_reducible refine quiet_one (.int .i64 F) ?_ ?_ ?_
            · kernel_rfl
            · intro u hy
              go_simp
              all_goals (first | omega | (rw [IntKind.wrap_i64]; omega) | (split <;> omega))
            with_reducible refine quiet_one (.int .i64 fr) ?_ ?_ ?_
            · kernel_rfl
            · intro u hy
              go_simp
              all_goals (first | omega | (rw [IntKind.wrap_i64]; omega) | (split <;> omega))
            with_reducible refine quiet_one (.int .i64 (d : Int)) ?_ ?_ ?_
            · kernel_rfl
            · intro u hy
              go_simp
              all_goals (have := di.out; first | omega | (rw [IntKind.wrap_i64]; omega))
            with_reducible refine quiet_one (.slice (some ⟨g, d, none⟩) (D - d) (D - d)) ?_ ?_ ?_
            · kernel_rfl
            · intro u hy
              go_simp
              all_goals (first | omega | (rw [IntKind.wrap_i64]; omega) | (split <;> omega))
            with_reducible refine quiet_one (.pointer (some ⟨y.heap.size, 1, none⟩)) ?_ ?_ ?_
            · kernel_rfl
            · intro u hy
              go_simp
              all_goals (first | omega | (rw [IntKind.wrap_i64]; omega) | (split <;> omega))
            with_reducible refine quiet_one (.slice b.sp b.m b.cap) ?_ ?_ ?_
            · kernel_rfl
            · intro u hy
              have t := (hy.bx 2 _ _ _ rfl).c 1 (.slice b.sp b.m b.cap) rfl
              go_simp
            with_reducible refine quiet_one (.int .i64 F) ?_ ?_ ?_
            · kernel_rfl
            · intro u hy
              go_simp
              all_goals (first | omega | (rw [IntKind.wrap_i64]; omega) | (split <;> omega))
            with_reducible refine quiet_one (.pointer (some ⟨y.heap.size, 0, none⟩)) ?_ ?_ ?_
            · kernel_rfl
            · intro u hy
              go_simp
              all_goals (first | omega | (rw [IntKind.wrap_i64]; omega) | (split <;> omega))
            with_reducible refine quiet_one (.int .i64 b.a) ?_ ?_ ?_
            · kernel_rfl
            · intro u hy
              have t := (hy.bx 2 _ _ _ rfl).c 0 (.int .i64 b.a) rfl
              go_simp
            with_reducible refine quiet_one (.int .i64 (l9 : Int)) ?_ ?_ ?_
            · kernel_rfl
            · intro u hy
              go_simp
              all_goals (have := li.out; first | omega | (rw [IntKind.wrap_i64]; omega))
            with_reducible refine quiet_one (.int .i64 E) ?_ ?_ ?_
            · kernel_rfl
            · intro u hy
              go_simp
              all_goals (first | omega | (rw [IntKind.wrap_i64]; omega) | (split <;> omega))
            with_reducible refine quiet_one (.pointer (some ⟨y.heap.size, 0, none⟩)) ?_ ?_ ?_
            · kernel_rfl
            · intro u hy
              go_simp
              all_goals (first | omega | (rw [IntKind.wrap_i64]; omega) | (split <;> omega))
            with_reducible refine quiet_one (.int .i64 b.a) ?_ ?_ ?_
            · kernel_rfl
            · intro u hy
              have t := (hy.bx 2 _ _ _ rfl).c 0 (.int .i64 b.a) rfl
              go_simp
            with_reducible refine quiet_one (.int .i64 (h9 : Int)) ?_ ?_ ?_
            · kernel_rfl
            · intro u hy
              go_simp
              all_goals (have := hi9.out; first | omega | (rw [IntKind.wrap_i64]; omega))
            with_reducible refine quiet_one (.slice (some ⟨gs, os + l9, none⟩) (h9 - l9) (b.cap - l9)) ?_ ?_ ?_
            · kernel_rfl
            · intro u hy
              go_simp
              all_goals (first | omega | (rw [IntKind.wrap_i64]; omega) | (split <;> omega))
            refine wpQuiet_nil ?_
            intro z1 Z1
            replace Z1 : Hid _ := Z1
            go_simp
            go_wp2_with (refine at_copyO rfl (.tmp 56) (.tmp 67) rfl g d (D - d) (D - d) gs (os + l9) (h9 - l9) (b.cap - l9) rfl rfl out (Z1.out.bx 1 _ _ _ rfl) ((bs.drop l9).take (h9 - l9)) hcl.out hft.out.1 (hlz.out z1 Z1.out.low) hft.out.2 ?_; intro z2 H2; have Z2 : Hid (Fm w [(w.heap.size, oC ob, 29), (g, rU (ovr fr out b.a bs), 5)] z2) := (by
              have k := Z1.out.put 1 g _ (rU (ovr fr out b.a bs)) 5 rfl (by rw [hsg.out]; exact H2.out)
              exact Fm.pre (l := [(w.heap.size, oC ob, 29), (g, rU (ovr fr out b.a bs), 5)]) (l' := [(y.heap.size, k2 b, 46)]) k); clear H2)
            go_roundw
            case rel => exact ⟨i + 1, _, _, rfl, by simp, J9, Z2⟩
            case measure => have := hlt'.out; simp [intOf]; omega
          · rw [if_neg hFE] at hseg
            have hsg : Hid (ovr fr out b.a bs = out) := hseg
            clear hlt hx hxm hcx lx lxm lxc hd hO hseg hb hbs J
            go_wp2_with (first
            | ((with_reducible refine at_loadm rtK gb (o + i * 2) (k2 b) ?_ ?_ (.tmp 39) ?_ ?_ ?_ ?_); exact hc'.out; rfl; kernel_rfl; rfl; rfl)
            | ((with_reducible refine gen_world (y.alloc (.cells #[.int .i64 0, .slice none 0 0] 46)) (Fm w [(w.heap.size, oC ob, 29), (g, rU out, 5), (y.heap.size, k2 zK, 46)]) ?_ ?_); exact K.out.new _ _; intro y1 K1)
            | ((with_reducible refine at_st rtK y.heap.size (k2 zK) (k2 b) ?_ ?_ ?_ ?_ (.tmp 11) (.tmp 40) ?_ ?_ ?_ ?_ ?_); exact K1.out.bx 2 _ _ _ rfl; rfl; rfl; exact oneK _; rfl; rfl; rfl; rfl; intro y2 hw2; have K2 : Hid (Fm w [(w.heap.size, oC ob, 29), (g, rU out, 5), (y.heap.size, k2 b, 46)] y2) := K1.out.put 2 _ _ _ _ rfl hw2.out; clear hw2))
            refine region_class_tail 9 (Fm w [(w.heap.size, oC ob, 29), (g, rU out, 5), (y.heap.size, k2 b, 46)]) (by kernel_rfl) (by kernel_rfl) (K2.out.below (below_drew (Below.refl _ _))) ?_
            simp only [List.take_succ_cons, List.take_zero, List.drop_succ_cons, List.drop_zero]
            with_reducible refine quiet_one (.int .i64 fr) ?_ ?_ ?_
            · kernel_rfl
            · intro u hy
              go_simp
              all_goals (first | omega | (rw [IntKind.wrap_i64]; omega) | (split <;> omega))
            with_reducible refine quiet_one (.pointer (some ⟨y.heap.size, 0, none⟩)) ?_ ?_ ?_
            · kernel_rfl
            · intro u hy
              go_simp
              all_goals (first | omega | (rw [IntKind.wrap_i64]; omega) | (split <;> omega))
            with_reducible refine quiet_one (.int .i64 b.a) ?_ ?_ ?_
            · kernel_rfl
            · intro u hy
              have t := (hy.bx 2 _ _ _ rfl).c 0 (.int .i64 b.a) rfl
              go_simp
            with_reducible refine quiet_one (.int .i64 F) ?_ ?_ ?_
            · kernel_rfl
            · intro u hy
              go_simp
              all_goals (first | omega | (rw [IntKind.wrap_i64]; omega) | (split <;> omega))
            with_reducible refine quiet_one (.int .i64 to) ?_ ?_ ?_
            · kernel_rfl
            · intro u hy
              go_simp
              all_goals (first | omega | (rw [IntKind.wrap_i64]; omega) | (split <;> omega))
            with_reducible refine quiet_one (.agg (k2 b)) ?_ ?_ ?_
            · kernel_rfl
            · intro u hy
              generalize hA : Act.put _ _ _ = A
              have e1 : A.eval (.tmp 11) = .pointer (some ⟨y.heap.size, 0, none⟩) := by rw [← hA]; go_simp
              clear hA
              exact q_load (C := Fm w [(w.heap.size, oC ob, 29), (g, rU out, 5), (y.heap.size, k2 b, 46)]) rtK y.heap.size (k2 b) (fun _ h => h.bx 2 _ _ _ rfl) rfl (.tmp 11) rfl e1 u hy
            with_reducible refine quiet_one (.int .i64 (b.a + b.m)) ?_ ?_ ?_
            · kernel_rfl
            · intro u hy
              have d := (hBc.out u).mono fun e w' (h : _ ∧ _) => And.intro h.1 (hy.below h.2)
              go_simp
              all_goals exact d
            with_reducible refine quiet_one (.int .i64 E) ?_ ?_ ?_
            · kernel_rfl
            · intro u hy
              go_simp
              all_goals (first | omega | (rw [IntKind.wrap_i64]; omega) | (split <;> omega))
            with_reducible refine quiet_one (.int .i64 F) ?_ ?_ ?_
            · kernel_rfl
            · intro u hy
              go_simp
              all_goals (first | omega | (rw [IntKind.wrap_i64]; omega) | (split <;> omega))
            refine wpQuiet_nil ?_
            intro z0 Z0
            replace Z0 : Hid _ := Z0
            go_simp
            have Z9 : Hid (Fm w [(w.heap.size, oC ob, 29), (g, rU (ovr fr out b.a bs), 5)] z0) := by
              have k : Fm w [(w.heap.size, oC ob, 29), (g, rU out, 5)] z0 := Fm.pre (l := [(w.heap.size, oC ob, 29), (g, rU out, 5)]) (l' := [(y.heap.size, k2 b, 46)]) Z0.out
              rw [hsg.out]
              exact k
            go_wp2
            go_roundw
            case rel => exact ⟨i + 1, _, _, rfl, by simp, J9, Z9⟩
            case measure => have := hlt'.out; simp [intOf]; omega
        · have hie : i = n := by have := J.out.1; omega
          subst hie
          have fin : Hid (out = R) := by
            have h1 := J.out.2.2
            rw [List.drop_eq_nil_of_le (by rw [List.length_map, hnn.out]; exact Nat.le_refl _)] at h1
            exact h1
          clear hlt
          go_wp2
          go_ret2
          refine ⟨some ⟨g, 0, none⟩, D, (by rw [hR'.out.2]; rfl), K.out.low, .inr ⟨g, rfl, hgw.out, hR'.out.2.symm, ?_⟩⟩
          have := K.out.bx 1 _ _ _ rfl
          rw [fin.out] at this
          exact this
  · rw [hc] at hC
    have hE : bytE ob fr to = 1 := by unfold bytE; rw [if_pos (by rw [hc]; simp), hc]
    rw [hE, bytL_no (by rw [hE]; decide)]
    clear hE
    go_enter Tryd.func9, Tryd.ntmps9
    go_wp2_with (first
      | ((with_reducible refine at_load rtO w.heap.size (oC ob) ?_ ?_ (.tmp 3) ?_ ?_ ?_ ?_); exact K0.out.bx 0 _ _ _ rfl; rfl; rfl; rfl; rfl)
      | (go_at_call 10; refine hC.mono ?_; rintro e y1 ⟨rfl, H1⟩; have K1 : Hid (Fm w [(w.heap.size, oC ob, 29)] y1) := K0.out.below H1.out; clear H1))
    go_ret2
    exact ⟨none, 0, rfl, K1.out.low, .inl ⟨rfl, rfl, rfl⟩⟩
end Go.Proofs.YthbdpceobnkflaaDoor
