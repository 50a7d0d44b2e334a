/- The statements' own look at lists that came out: the walk. -/
import Derived.Test.YthpahpfnpapoiaaDoorXl
namespace Go.Proofs.YthpahpfnpapoiaaDoor
open Go Go.RowKit
set_option linter.unusedVariables false
set_option maxHeartbeats 1000000
set_option maxRecDepth 20000

theorem own_any (y0 : World) (B gl gw m : Nat) (vs us : List Value) (X : List (List Sn)) (hB : B ≤ y0.heap.size) (hv : Hid (Bx y0 gl vs.toArray 23)) (hu : Hid (Bx y0 gw us.toArray 23)) (hm : Hid (vs.length = m ∧ us.length = m ∧ m ≤ 1000))
    (F : Hid (Fam B y0 vs X)) (W : Hid (∀ (j : Nat) (u : Value) (x : List Sn), us[j]? = some u → X[j]? = some x → ∃ sp cap, u = .slice sp x.length cap ∧ LiesS y0 sp x)) (hx : Hid (∀ (j : Nat) (x : List Sn), X[j]? = some x → x.length ≤ 1000000)) :
    Calls Tryd.prog 23 #[.slice (some ⟨gl, 0, none⟩) m m, .slice (some ⟨gw, 0, none⟩) m m] y0 fun e w' => e = .returned (.bool true) ∧ Below B y0 w' := by
  have mi : (m : Int) ≤ 1000 := by have := hm.out.2.2; omega
  have hB' : Hid (B ≤ y0.heap.size) := hB
  have hX : Hid (X.length = m) := by have h1 := F.out.len; have h2 := hm.out.1; show X.length = m; omega
  clear hB
  go_enter Tryd.func23, Tryd.ntmps23
  go_wp2
  go_loopw [5] (fun i wz => ∃ (j : Nat) (x : World), x = wz ∧ i = .int .i64 (j : Int) ∧ Hid (j ≤ m) ∧ Hid (Below y0.heap.size y0 x)) (fun i _ => (m - intOf i).toNat)
  case atStart => exact ⟨0, y0, rfl, rfl, (by show 0 ≤ m; omega), Below.refl _ _⟩
  case round =>
    obtain ⟨j, x, rfl, rfl, hj, U⟩ := hrel
    by_cases hlt : j < m
    · obtain ⟨v, hvj⟩ := some_list hm.out.1 hlt
      obtain ⟨u, huj⟩ := some_list hm.out.2.1 hlt
      obtain ⟨xx, hxj⟩ := some_list hX.out hlt
      obtain ⟨pv, cv, rfl, lv, _⟩ := (F.out.own j v xx hvj hxj).open
      obtain ⟨pu, cu, rfl, lu⟩ := W.out j u xx huj hxj
      have hS : Hid (∀ z, Below y0.heap.size y0 z → Calls Tryd.prog 29 #[.slice pv xx.length cv, .slice pu xx.length cu] z fun e w' => e = .returned (.bool true) ∧ Below z.heap.size z w') := fun z hb => by
        have hl := hx.out j xx hxj
        have := rsame_any z pv pu cv cu xx xx (lv.below hb) (lu.below hb) (by omega) (by omega)
        rw [(sameB_iff xx xx).2 rfl] at this
        exact this
      have dv : Hid (y0.cell? ⟨gl, j, none⟩ = some (.slice pv xx.length cv)) := bxL hv.out j _ hvj
      have du : Hid (y0.cell? ⟨gw, j, none⟩ = some (.slice pu xx.length cu)) := bxL hu.out j _ huj
      obtain ⟨n, hn⟩ : ∃ n, xx.length = n := ⟨_, rfl⟩
      rw [hn] at hS dv du
      have i1 := idxL gl m m j hlt
      have i2 := idxL gw m m j hlt
      have hji : (j : Int) < m := by omega
      have hlt' : Hid (j < m) := hlt
      clear hvj huj hxj lv lu hn hlt
      go_wp2
      refine region_class_tail 9 (Below y0.heap.size y0) (by kernel_rfl) (by kernel_rfl) (U.out.trans (below_drew (Below.refl _ _))) ?_
      simp only [List.take_succ_cons, List.take_zero, List.drop_succ_cons, List.drop_zero]
      with_reducible refine quiet_one (.slice (some ⟨gl, 0, none⟩) m m) ?_ ?_ ?_
      · kernel_rfl
      · intro u hy
        go_simp
      with_reducible refine quiet_one (.int .i64 (j : Int)) ?_ ?_ ?_
      · kernel_rfl
      · intro u hy
        go_simp
      with_reducible refine quiet_one (.pointer (some ⟨gl, j, none⟩)) ?_ ?_ ?_
      · kernel_rfl
      · intro u hy
        go_simp
      with_reducible refine quiet_one (.slice pv n cv) ?_ ?_ ?_
      · kernel_rfl
      · intro u hy
        have d : u.cell? ⟨gl, j, none⟩ = some (.slice pv n cv) := (hy.cell (p := ⟨gl, j, none⟩) (World.block_lt_of_cell? y0 _ dv.out)).trans dv.out
        go_simp
      with_reducible refine quiet_one (.slice (some ⟨gw, 0, none⟩) m m) ?_ ?_ ?_
      · kernel_rfl
      · intro u hy
        go_simp
      with_reducible refine quiet_one (.int .i64 (j : Int)) ?_ ?_ ?_
      · kernel_rfl
      · intro u hy
        go_simp
      with_reducible refine quiet_one (.pointer (some ⟨gw, j, none⟩)) ?_ ?_ ?_
      · kernel_rfl
      · intro u hy
        go_simp
      with_reducible refine quiet_one (.slice pu n cu) ?_ ?_ ?_
      · kernel_rfl
      · intro u hy
        have d : u.cell? ⟨gw, j, none⟩ = some (.slice pu n cu) := (hy.cell (p := ⟨gw, j, none⟩) (World.block_lt_of_cell? y0 _ du.out)).trans du.out
        go_simp
      with_reducible refine quiet_one (.bool true) ?_ ?_ ?_
      · kernel_rfl
      · intro u hy
        have d := (hS.out u hy).mono fun e w' (h : _ ∧ _) => And.intro h.1 (hy.trans (h.2.mono hy.size))
        go_simp
        all_goals exact d
      refine wpQuiet_nil ?_
      intro z0 U0
      replace U0 : Hid _ := U0
      go_simp
      go_wp2
      go_roundw
      case rel => exact ⟨j + 1, _, rfl, by simp, (by show j + 1 ≤ m; have := hlt'.out; omega), U0⟩
      case measure => have := hlt'.out; simp [intOf]; omega
    · have hje : j = m := by have := hj.out; omega
      subst hje
      have O0 : Hid (Ow y0 B gl vs X 0 X x) := ⟨F.out.below U.out, rfl, (fun j y h => absurd h (Nat.not_lt_zero _)), (U.out.block gl (heap_lt hv.out)).trans hv.out, U.out.mono hB'.out⟩
      clear hlt hj U hu W
      go_wp2
      go_loopw [6] (fun i wz => ∃ (i' : Nat) (Y : List (List Sn)) (z : World), z = wz ∧ i = .int .i64 (i' : Int) ∧ Hid (i' ≤ j) ∧ Hid (Ow y0 B gl vs X i' Y z)) (fun i _ => (j - intOf i).toNat)
      case atStart => exact ⟨0, X, x, rfl, rfl, (by show 0 ≤ j; omega), O0⟩
      case round =>
        obtain ⟨i, Y, z, rfl, rfl, hi, O⟩ := hrel
        clear O0
        by_cases hlt : i < j
        · obtain ⟨v, hvi⟩ := some_list hm.out.1 hlt
          obtain ⟨xx, hxi⟩ := some_list hX.out hlt
          obtain ⟨pv, cv, rfl, _⟩ := (F.out.own i v xx hvi hxi).open
          obtain ⟨n, hn⟩ : ∃ n, xx.length = n := ⟨_, rfl⟩
          rw [hn] at hvi
          have hvi' : Hid (vs[i]? = some (.slice pv n cv)) := hvi
          have hlen : Hid (∀ Y' : List (List Sn), Y'.map List.length = X.map List.length → ∃ y, Y'[i]? = some y ∧ y.length = n) := fun Y' h => by
            obtain ⟨y, hy⟩ := some_list (show Y'.length = j by have := congrArg List.length h; simp at this; rw [this]; exact hX.out) hlt
            exact ⟨y, hy, (len_map h hxi hy).trans hn⟩
          have ni : (n : Int) ≤ 1000000 := by have := hx.out i xx hxi; omega
          have ix := idxL gl j j i hlt
          have hii : (i : Int) < j := by omega
          have hlt' : Hid (i < j) := hlt
          have Q0 : Hid (Ow y0 B gl vs X i Y z ∧ Wr i 0 Y) := ⟨O.out, by obtain ⟨y, hy, _⟩ := hlen.out Y O.out.lens; exact ⟨y, hy, fun t s h => absurd h (Nat.not_lt_zero _)⟩⟩
          clear hvi hxi hn hlt
          go_wp2
          go_loopw [7] (fun k wz => ∃ (k' : Nat) (Y' : List (List Sn)) (z' : World), z' = wz ∧ k = .int .i64 (k' : Int) ∧ Hid (k' ≤ n) ∧ Hid (Ow y0 B gl vs X i Y' z' ∧ Wr i k' Y')) (fun k _ => (n - intOf k).toNat)
          case atStart => exact ⟨0, Y, z, rfl, rfl, (by show 0 ≤ n; omega), Q0⟩
          case round =>
            obtain ⟨k, Y', z', rfl, rfl, hk, Q⟩ := hrel
            clear Q0
            have dl := bxL Q.out.1.bl i _ hvi'.out
            by_cases hkn : k < n
            · obtain ⟨yi, hyi, hyn⟩ := hlen.out Y' Q.out.1.lens
              obtain ⟨g, rfl⟩ : ∃ g, pv = some ⟨g, 0, none⟩ := by
                obtain ⟨sp, cap, hv', hL, hA, _⟩ := (Q.out.1.fam.own i _ yi hvi'.out hyi).open
                simp at hv'
                obtain ⟨rfl, _, _⟩ := hv'
                obtain ⟨gb, ob, e, _⟩ := hL k _ (List.getElem?_eq_getElem (by omega))
                have := (hA _ e).1
                simp at this
                subst this
                exact ⟨gb, e⟩
              obtain ⟨hP, hth⟩ := Q.out.1.put Q.out.2 hvi'.out yi hyi (by omega)
              have iz := idxZ g n cv k hkn
              obtain ⟨E, hE⟩ : ∃ E, spC ⟨-1 - (i : Int), zeroA⟩ = E := ⟨_, rfl⟩
              have hb : Hid (Tryd.prog.built 34 [(0, .int .i64 (-1 - (i : Int)))] = some E) := by rw [← hE]; exact builtS _
              have hE1 : Hid (E.all (·.oneCell') = true ∧ (Tryd.prog.info? 34).map (·.size) = some E.size) := by rw [← hE]; exact ⟨spC_one _, sizeS⟩
              rw [hE] at hP hth
              have hP' : Hid _ := hP
              have hth' : Hid (z'.there g (k * 10) E.size) := hth
              have hki : (k : Int) < n := by omega
              have hk' : Hid (k < n) := hkn
              clear hyi hyn hP hth hE hkn Q
              go_wp2_with (first
                | ((with_reducible refine at_bu #[(0, .tmp 51)] [(0, .int .i64 (-1 - (i : Int)))] E ?_ ?_ ?_ hb.out ?_); kernel_rfl; rfl; kernel_rfl)
                | ((with_reducible refine wpList_store_mid ?_ 34 (.tmp 53) (.tmp 52) ?_ g (k * 10) E ?_ ?_ hth'.out hE1.out.2 hE1.out.1 ?_); rfl; rfl; rfl; rfl))
              go_roundw
              case rel => exact ⟨k + 1, _, _, rfl, by simp, (by show k + 1 ≤ n; have := hk'.out; omega), hP'⟩
              case measure => have := hk'.out; simp [intOf]; omega
            · have hke : k = n := by have := hk.out; omega
              subst hke
              have O2 : Hid (Ow y0 B gl vs X (i + 1) Y' z') := by
                obtain ⟨q1, yi, e1, e2⟩ := Q.out
                refine ⟨q1.fam, q1.lens, fun t y ht hy s hs => ?_, q1.bl, q1.low⟩
                rcases Nat.lt_or_ge t i with h | h
                · exact q1.mkd t y h hy s hs
                · have : t = i := by omega
                  subst this
                  rw [e1] at hy
                  cases hy
                  obtain ⟨r, hr⟩ := List.getElem?_of_mem hs
                  obtain ⟨y', hy', hyn⟩ := hlen.out Y' q1.lens
                  rw [e1] at hy'
                  cases hy'
                  exact e2 r s (by have := (List.getElem?_eq_some_iff.1 hr).1; omega) hr
              clear hkn
              go_wp2
              go_roundw
              case rel => exact ⟨i + 1, _, _, rfl, by simp, (by show i + 1 ≤ j; have := hlt'.out; omega), O2⟩
              case measure => have := hlt'.out; simp [intOf]; omega
        · have hie : i = j := by have := hi.out; omega
          subst hie
          have G0 : Hid (Gw y0 B gl z.heap.size vs vs X Y (.slice none 0 0) [] z) := by
            have o := O.out
            have hYl : Y.length = i := by have := congrArg List.length o.lens; simp at this; rw [this]; exact hX.out
            refine ⟨o.fam, fun t y hy => o.mkd t y (by have := (List.getElem?_eq_some_iff.1 hy).1; omega) hy, o.bl, o.low, World.ownsRow_nil _ _ _ 1, ⟨heap_lt o.bl, by have := hB'.out; have := o.low.size; omega, Nat.le_refl _⟩, fun t y hy => ?_⟩
            obtain ⟨xx, hxx⟩ := some_list hX.out (show t < i by have := (List.getElem?_eq_some_iff.1 hy).1; omega)
            have h1 := len_map o.lens hxx hy
            have h2 := hx.out t xx hxx
            omega
          have L0 : Hid (∀ (t : Nat) (y xx : List Sn), Y[t]? = some y → X[t]? = some xx → y.length = xx.length + (if t < 0 then 20 else 0)) := fun t y xx hy hxx => by rw [if_neg (Nat.not_lt_zero _)]; exact len_map O.out.lens hxx hy
          have hBg : Hid (B ≤ z.heap.size) := by have := hB'.out; have := O.out.low.size; show B ≤ z.heap.size; omega
          obtain ⟨Bg, hBgE⟩ : ∃ b, z.heap.size = b := ⟨_, rfl⟩
          rw [hBgE] at G0 hBg
          clear hlt hi O hBgE
          go_wp2
          go_loopw [8, 9] (fun gr t wz => ∃ (t' : Nat) (gv : Value) (cur G : List Value) (Y' : List (List Sn)) (z' : World), z' = wz ∧ gv = gr ∧ t = .int .i64 (t' : Int) ∧ Hid (t' ≤ i ∧ cur = G ++ vs.drop t' ∧ G.length = t') ∧ Hid (∀ (t : Nat) (y xx : List Sn), Y'[t]? = some y → X[t]? = some xx → y.length = xx.length + (if t < t' then 20 else 0)) ∧ Hid (Gw y0 B gl Bg vs cur X Y' gv G z')) (fun _ t _ => (i - intOf t).toNat)
          case atStart => exact ⟨0, _, vs, [], Y, z, rfl, rfl, rfl, ⟨by omega, rfl, rfl⟩, L0, G0⟩
          case round =>
            obtain ⟨t, gr, cur, G, Y1, z1, rfl, rfl, rfl, J, Le, Q⟩ := hrel
            clear G0 L0
            by_cases hlt : t < i
            · obtain ⟨v, hvt⟩ := some_list hm.out.1 hlt
              obtain ⟨xx, hxt⟩ := some_list hX.out hlt
              obtain ⟨yt, hyt⟩ := some_list (show Y1.length = i by have h1 := Q.out.fam.len; rw [← h1, J.out.2.1, List.length_append, List.length_drop, J.out.2.2, hm.out.1]; have := J.out.1; omega) hlt
              have hcur : cur[t]? = some v := by
                rw [J.out.2.1, List.getElem?_append_right (by rw [J.out.2.2]; exact Nat.le_refl _), J.out.2.2, Nat.sub_self, List.getElem?_drop]
                exact hvt
              have hyl : yt.length = xx.length := by have := Le.out t yt xx hyt hxt; rwa [if_neg (Nat.lt_irrefl _)] at this
              obtain ⟨pv, cv, rfl, _⟩ := (Q.out.fam.own t v yt hcur hyt).open
              have dl := bxL Q.out.bl t _ hvt
              have ix := idxL gl i i t hlt
              have hti : (t : Int) < i := by omega
              have hlt' : Hid (t < i) := hlt
              have h16 : Hid (yt.length ≤ 1000000) := by have := hx.out t xx hxt; show yt.length ≤ 1000000; omega
              have yi : (yt.length : Int) ≤ 1000000 := by have := h16.out; omega
              have hyl' : Hid (yt.length = xx.length) := hyl
              have hbE : Hid (Tryd.prog.built 34 [(0, .int .i64 (-1 - (t : Int)))] = some (spC ⟨-1 - (t : Int), zeroA⟩)) := builtS _
              have I0 : Hid (Gw y0 B gl Bg vs (cur.set t (.slice pv yt.length cv)) X (Y1.set t yt) gr G z1) := by rw [set_id hcur, set_id hyt]; exact Q.out
              have hcl : Hid (t < cur.length ∧ t < Y1.length) := ⟨(List.getElem?_eq_some_iff.1 hcur).1, (List.getElem?_eq_some_iff.1 hyt).1⟩
              replace hxt : Hid _ := hxt
              obtain ⟨nn, hnn⟩ : ∃ nn, yt.length = nn := ⟨_, rfl⟩
              rw [hnn] at dl I0 yi
              have hnn' : Hid (yt.length = nn) := hnn
              clear hvt hcur hyt hyl hlt hnn
              go_wp2
              go_loopw [10, 11] (fun g k wz => ∃ (k' : Nat) (gv : Value) (ys : List Sn) (z' : World), z' = wz ∧ gv = g ∧ k = .int .i64 (k' : Int) ∧ Hid (k' ≤ 20 ∧ ys.length = yt.length + k') ∧ Hid (Gw y0 B gl Bg vs (cur.set t gv) X (Y1.set t ys) gr G z')) (fun _ k _ => (20 - intOf k).toNat)
              case atStart => exact ⟨0, _, yt, z1, rfl, rfl, rfl, ⟨by omega, by omega⟩, I0⟩
              case round =>
                obtain ⟨k, gv, ys, z2, rfl, rfl, rfl, hk, I⟩ := hrel
                clear I0 dl
                have c1 : (cur.set t gv)[t]? = some gv := List.getElem?_set_self hcl.out.1
                have c2 : (Y1.set t ys)[t]? = some ys := List.getElem?_set_self hcl.out.2
                by_cases hk20 : k < 20
                · have hki : (k : Int) < 20 := by omega
                  have hk' : Hid (k < 20) := hk20
                  have ow : Hid (OwnS B z2 gv ys) := I.out.fam.own t gv ys c1 c2
                  have hyb : Hid (ys.length ≤ 1000019) := by have h1 := hk.out.2; have h2 := h16.out; show ys.length ≤ 1000019; omega
                  have c1' : Hid _ := c1
                  have c2' : Hid _ := c2
                  clear hk20 c1 c2
                  go_wp2_with (first
                    | ((with_reducible refine at_bu #[(0, .tmp 70)] [(0, .int .i64 (-1 - (t : Int)))] (spC ⟨-1 - (t : Int), zeroA⟩) ?_ ?_ ?_ hbE.out ?_); kernel_rfl; rfl; kernel_rfl)
                    | ((with_reducible refine at_bsS ⟨-1 - (t : Int), zeroA⟩ (.tmp 71) ?_ ?_ ?_ ?_); rfl; rfl; rfl)
                    | (at_builtin; refine at_app rfl (.tmp 68) (.tmp 72) rfl B gv ys rfl (ow.out.alloc _) z2.heap.size ⟨-1 - (t : Int), zeroA⟩ rfl (one_bx _ _ _) ?_ ?_ ?_; (have := hyb.out; omega); (have h1 := I.out.hg; simp; omega); intro gv' z3 H3; have I3 : Hid (Gw y0 B gl Bg vs (cur.set t gv') X (Y1.set t (ys ++ [⟨-1 - (t : Int), zeroA⟩])) gr G z3) := (by have h1 := I.out.grow c1'.out c2'.out (by have := hyb.out; omega) H3.out; rw [List.set_set, List.set_set] at h1; exact h1); clear H3))
                  go_roundw
                  case rel => exact ⟨k + 1, _, _, _, rfl, rfl, by simp, ⟨by have := hk'.out; omega, by have := hk.out.2; simp; omega⟩, I3⟩
                  case measure => have := hk'.out; simp [intOf]; omega
                · have hke : k = 20 := by have := hk.out.1; omega
                  subst hke
                  rw [show ((20 : Nat) : Int) = 20 from rfl]
                  obtain ⟨pg, cg, rfl, _⟩ := (I.out.fam.own t gv ys c1 c2).open
                  obtain ⟨i5, hi5, hy0, hy1, hy2⟩ := info_parts infoL
                  have hGl : Hid (G.length ≤ 1000) := by have h1 := J.out.2.2; have h2 := J.out.1; have h3 := hm.out.2.2; show G.length ≤ 1000; omega
                  have hyl2 : Hid (ys.length = yt.length + 20) := hk.out.2
                  obtain ⟨ly, hly⟩ : ∃ ly, ys.length = ly := ⟨_, rfl⟩
                  rw [hly] at I ⊢
                  clear hk20 c1 c2 hk hly
                  go_wp2_with (at_builtin; refine wpList_append_own _ rfl (.tmp 74) (.tmp 76) 45 rfl Bg 23 i5 (.slice none 0 0) 1 24 Tryd.underlying45 hi5 hy0 hy1 hy2 rfl (by decide) gr G.length G rfl (I.out.go.alloc _) ⟨z2.heap.size, 0, none⟩ 1 1 [.slice pg ly cg] rfl rfl ?b1 (by simp [Value.oneCell']) ?b2 ?b3 ?b4 ?_)
                  case b1 => intro q u hq; cases q with | zero => simp at hq; subst hq; unfold World.cell? World.alloc Addr.add; simp | succ q => simp at hq
                  case b2 => have := hGl.out; unfold maxLen; omega
                  case b3 => have := hGl.out; omega
                  case b4 => have := I.out.hg.2.2; simp; omega
                  intro gr' z4 ho hgw _
                  have I4 : Hid (Gw y0 B gl Bg vs (cur.set t (.slice pg ly cg)) X (Y1.set t ys) gr' (G ++ [Value.slice pg ly cg]) z4) := I.out.note ho hgw
                  have J4 : Hid (t + 1 ≤ i ∧ cur.set t (.slice pg ly cg) = (G ++ [Value.slice pg ly cg]) ++ vs.drop (t + 1) ∧ (G ++ [Value.slice pg ly cg]).length = t + 1) := by
                    obtain ⟨j1, j2, j3⟩ := J.out
                    refine ⟨by have := hlt'.out; omega, ?_, by simp [j3]⟩
                    obtain ⟨v', _, hd⟩ := at_list hm.out.1 hlt'.out
                    rw [j2, hd, List.set_append_right _ _ (by omega), j3, Nat.sub_self, List.set_cons_zero, List.append_assoc]
                    rfl
                  have Le4 : Hid (∀ (s : Nat) (y xx : List Sn), (Y1.set t ys)[s]? = some y → X[s]? = some xx → y.length = xx.length + (if s < t + 1 then 20 else 0)) := fun s y xs hy hxs => by
                    rcases set_get hy with ⟨rfl, rfl⟩ | ⟨hne, hy⟩
                    · have h1 := hxt.out
                      rw [hxs] at h1
                      cases h1
                      rw [if_pos (by omega), hyl2.out, hyl'.out]
                    · rw [Le.out s y xs hy hxs]
                      congr 1
                      by_cases hst : s < t
                      · rw [if_pos hst, if_pos (by omega)]
                      · rw [if_neg hst, if_neg (by omega)]
                  clear ho hgw I
                  go_wp2
                  go_roundw
                  case rel => exact ⟨t + 1, _, _, _, _, _, rfl, rfl, by simp, J4, Le4, I4⟩
                  case measure => have := hlt'.out; simp [intOf]; omega
            · have hte : t = i := by have := J.out.1; omega
              subst hte
              have hG : Hid (cur = G ∧ G.length = t) := ⟨by rw [J.out.2.1, List.drop_eq_nil_of_le (by rw [hm.out.1]; exact Nat.le_refl _), List.append_nil], J.out.2.2⟩
              obtain ⟨sg, cg, hsg, hGc⟩ : ∃ sg cg, gr = .slice sg t cg ∧ ∀ (q : Nat) (v : Value), G[q]? = some v → ∃ gg, sg = some ⟨gg, 0, none⟩ ∧ z1.cell? ⟨gg, q, none⟩ = some v := by
                have hg := Q.out.go
                rw [hG.out.2] at hg
                rcases hg.2 with ⟨h0, hn⟩ | ⟨gg, cap, c, hv', _, hq, _⟩
                · refine ⟨none, 0, by rw [h0, hn], fun q v hq => ?_⟩
                  have := (List.getElem?_eq_some_iff.1 hq).1
                  rw [hG.out.2] at this
                  omega
                · refine ⟨some ⟨gg, 0, none⟩, cap, hv', fun q v hqv => ⟨gg, rfl, ?_⟩⟩
                  have := World.ownsRow.cells (g := gg) hg (by rw [hv']; rfl) q v hqv
                  rw [Addr.add_lit, Nat.zero_add] at this
                  exact this
              subst hsg
              replace hGc : Hid _ := hGc
              clear hlt J Le
              go_wp2
              go_loopw [12] (fun a wz => ∃ (a' : Nat), z1 = wz ∧ a = .int .i64 (a' : Int) ∧ Hid (a' ≤ t)) (fun a _ => (t - intOf a).toNat)
              case atStart => exact ⟨0, rfl, rfl, (by show 0 ≤ t; omega)⟩
              case round =>
                obtain ⟨a, hz, rfl, ha⟩ := hrel
                subst hz
                by_cases hlt : a < t
                · obtain ⟨v, hva⟩ := some_list hG.out.2 hlt
                  obtain ⟨gg, rfl, dg⟩ := hGc.out a v hva
                  obtain ⟨ya, hya⟩ := some_list (show Y1.length = t by have h1 := Q.out.fam.len; rw [← h1, hG.out.1]; exact hG.out.2) hlt
                  have hown := Q.out.fam.own a v ya (by rw [hG.out.1]; exact hva) hya
                  obtain ⟨pa, ca, rfl, la, aa, _⟩ := hown.open
                  have hcz : Hid (∀ k, k < ya.length → ∃ g, pa = some ⟨g, 0, none⟩ ∧ z1.cell? ⟨g, k * 10, none⟩ = some (.int .i64 (-1 - (a : Int)))) := fun k hk => by
                    obtain ⟨g, o, e, hr⟩ := la k _ (List.getElem?_eq_getElem hk)
                    have ho := (aa _ e).1
                    simp at ho
                    subst ho
                    have h1 := rangeC hr 0 _ (spC_c _)
                    rw [Nat.zero_add, Nat.add_zero, Q.out.mkd a ya hya _ (List.getElem_mem hk)] at h1
                    exact ⟨g, e, h1⟩
                  have yb : (ya.length : Int) ≤ 2000000 := by have := Q.out.sz a ya hya; omega
                  obtain ⟨la', hla⟩ : ∃ n, ya.length = n := ⟨_, rfl⟩
                  rw [hla] at dg hcz yb
                  have ix := idxL gg t cg a hlt
                  have hai : (a : Int) < t := by omega
                  have hlt' : Hid (a < t) := hlt
                  clear hva hya hown la aa hla hlt
                  go_wp2
                  go_loopw [13] (fun k wz => ∃ (k' : Nat), z1 = wz ∧ k = .int .i64 (k' : Int) ∧ Hid (k' ≤ la')) (fun k _ => (la' - intOf k).toNat)
                  case atStart => exact ⟨0, rfl, rfl, (by show 0 ≤ la'; omega)⟩
                  case round =>
                    obtain ⟨k, hz, rfl, hk⟩ := hrel
                    subst hz
                    by_cases hkn : k < la'
                    · obtain ⟨g, rfl, dk⟩ := hcz.out k hkn
                      have iz := idxZ g la' ca k hkn
                      have hki : (k : Int) < la' := by omega
                      have hk' : Hid (k < la') := hkn
                      have qn : ((-1 - (a : Int)) != (-1 - (a : Int))) = false := by simp
                      clear hkn
                      go_wp2
                      go_roundw
                      case rel => exact ⟨k + 1, by first | rfl | trivial, by simp, (by show k + 1 ≤ la'; have := hk'.out; omega)⟩
                      case measure => have := hk'.out; simp [intOf]; omega
                    · have hke : k = la' := by have := hk.out; omega
                      subst hke
                      clear hkn
                      go_wp2
                      go_roundw
                      case rel => exact ⟨a + 1, by first | rfl | trivial, by simp, (by show a + 1 ≤ t; have := hlt'.out; omega)⟩
                      case measure => have := hlt'.out; simp [intOf]; omega
                · have hae : a = t := by have := ha.out; omega
                  subst hae
                  clear hlt
                  go_wp2
                  go_ret
                  exact ⟨by first | rfl | simp, Q.out.low⟩
end Go.Proofs.YthpahpfnpapoiaaDoor
