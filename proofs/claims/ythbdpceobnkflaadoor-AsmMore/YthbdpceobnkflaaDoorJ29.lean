/- AsmMore: the statement's own walk. -/
import Derived.Test.YthbdpceobnkflaaDoorJ28
namespace Go.Proofs.YthbdpceobnkflaaDoor
open Go Go.RowKit
set_option linter.unusedVariables false
set_option maxHeartbeats 40000000
set_option maxRecDepth 20000

/-- The three objects in memory. -/
structure Mz (o p q : Oo) (b6 b12 b15 : Nat) (z : World) : Prop where
  ho : Lo z o
  hp : Lo z p
  hq : Lo z q
  bo : Bx z b6 (oC o) 29
  bp : Bx z b12 (oC p) 29
  bq : Bx z b15 (oC q) 29
theorem Mz.below {o p q : Oo} {b6 b12 b15 : Nat} {z z' : World} (h : Mz o p q b6 b12 b15 z) (k : Below z.heap.size z z') : Mz o p q b6 b12 b15 z' :=
  ⟨h.ho.below k, h.hp.below k, h.hq.below k, h.bo.below k, h.bp.below k, h.bq.below k⟩
/-- An object with another one's labels. -/
def labO (p o : Oo) : Oo := { p with lp := o.lp, lc := o.lc, L := o.L }
theorem labO_lo {z : World} {p o : Oo} (hp : Lo z p) (ho : Lo z o) : Lo z (labO p o) := ⟨hp.b, hp.m, ho.l, hp.g, hp.ib, hp.im, ho.il, hp.n.1, hp.n.2.1, ho.n.2.2⟩
theorem labO_set (p o : Oo) : (oC p).setIfInBounds 2 (.slice o.lp o.L.length o.lc) = oC (labO p o) := rfl
theorem more_walk (w : World) (Tb : Hid (Tabs w)) (sp : Option Addr) (cap : Nat) (L : List Itm) (hl : Hid (LiesL 6 c6 w sp (L.map (·.1)))) (hg : Hid (∀ x ∈ L, LB8 w x.1.sp x.2 ∧ x.2.length = x.1.m)) (hn : L.length ≤ 140737488355328) (hm : ∀ x ∈ L, x.1.m ≤ 140737488355328) (hcap : L.length ≤ cap) (c : Int) (hc : inI c) :
    Calls Tryd.prog 4 #[.slice sp L.length cap, .int .i64 c] w fun e w' => e = .returned (.bool true) ∧ Below w.heap.size w w' := by
  obtain ⟨n, hn'⟩ : ∃ n, L.length = n := ⟨_, rfl⟩
  have hnn : Hid (L.length = n ∧ n ≤ cap) := ⟨hn', by rw [← hn']; exact hcap⟩
  have hV : Hid (Calls Tryd.prog 6 #[.slice sp n cap] w (VsE w (L.map (·.1)))) := by
    have := vast14_any w sp cap (L.map (·.1)) hl (by rw [List.length_map]; exact hn) (fun r hr => by obtain ⟨x, hx, rfl⟩ := List.mem_map.1 hr; exact hm x hx)
    rw [List.length_map, hn'] at this
    exact this
  have hAw : Hid (∀ y, Below w.heap.size w y → Calls Tryd.prog 7 #[] y fun e w' => e = .returned (.bool true) ∧ Hid (Below y.heap.size y w')) := fun y hy => awake14_any y (Tb.out.below hy)
  have hAs : Hid (∀ y, Below w.heap.size w y → Calls Tryd.prog 8 #[.slice sp n cap] y (AsT y L)) := fun y hy => by
    have := assemble_one y (Tb.out.below hy) sp cap L (hl.out.below hy) (fun x hx => ⟨(hg.out x hx).1.below hy, (hg.out x hx).2⟩) (by omega)
    rw [hn'] at this
    exact this
  obtain ⟨d, hd⟩ : ∃ d : Int, d = if c < 0 then -(c + 1) else c := ⟨_, rfl⟩
  have hd0 : Hid (0 ≤ d ∧ d ≤ 9223372036854775807) := by
    unfold inI at hc
    split at hd
    · exact ⟨by omega, by omega⟩
    · exact ⟨by omega, by omega⟩
  have hdd : Hid ((c < 0 → -(c + 1) = d) ∧ (¬ c < 0 → c = d)) := ⟨fun h => by rw [hd, if_pos h], fun h => by rw [hd, if_neg h]⟩
  have hcc : Hid (inI c) := hc
  rw [hn']
  have n1 : (n : Int) ≤ 140737488355328 := by omega
  clear hn hm hn' hcap hd hc
  go_enter Tryd.func4, Tryd.ntmps4
  go_wp2_with (go_at_call 6; refine hV.out.mono ?_; rintro e y1 ⟨bb, rfl, H1⟩; clear hV; refine stopAt ?_)
  cases bb
  case true =>
    refine Stop.go ?_
    go_wp2
    go_ret
    exact ⟨rfl, H1.out.1⟩
  refine Stop.go ?_
  go_wp2_with (first
    | (go_at_call 7; refine (hAw.out _ H1.out.1).mono ?_; rintro e y2 ⟨rfl, H2⟩; have K2 : Hid (Below w.heap.size w y2) := of_below H1.out.1 H2.out; clear H2 hAw)
    | (go_at_call 8; refine (hAs.out _ K2.out).mono ?_; rintro e y3 ⟨o, E, k, rfl, H3⟩; clear hAs; have K3 : Hid (Below w.heap.size w y3) := of_below K2.out H3.out.1)
    | ((with_reducible refine gen_world (y3.alloc (.cells #[.slice none 0 0, .slice none 0 0, .slice none 0 0] 29)) (fun y => Fm y3 [(y3.heap.size, oC zO, 29)] y) ?_ ?_); exact Fm.one _ _ _; intro y4 K4)
    | ((with_reducible refine at_st rtO y3.heap.size (oC zO) (oC o) ?_ ?_ ?_ ?_ (.tmp 6) (.tmp 27) ?_ ?_ ?_ ?_ ?_); exact K4.out.bx 0 _ _ _ rfl; rfl; rfl; exact oneO _; rfl; rfl; rfl; rfl; intro y5 hw; have K5 : Hid (Fm y3 [(y3.heap.size, oC o, 29)] y5) := K4.out.put 0 _ _ _ _ rfl hw.out; clear hw K4; refine stopAt ?_))
  have low5 : Hid (Below w.heap.size w y5) := of_below K3.out K5.out.low
  rcases H3.out.2 with ⟨hE, rfl⟩ | ⟨rfl, hLc, hOk, hB, hM, hL⟩
  · have e0 : (E != 0) = true := by rw [bne_iff_ne]; exact hE
    clear hE
    refine Stop.go ?_
    go_wp2
    go_ret
    exact ⟨rfl, low5.out⟩
  have hO : Hid (ObA L o) := ⟨hOk, hB, hM, hL, fun q hq => (hLc.lo.g q hq).2⟩
  have hO5 : Hid (Lco y5 o) := hLc.below K5.out.low
  have hn4 : n ≤ 4096 := by rw [← hnn.out.1]; exact hOk.few
  clear hLc hOk hB hM hL
  by_cases h4 : (4096 : Int) ≤ (n : Int)
  · refine Stop.go ?_
    go_wp2
    go_ret
    exact ⟨rfl, low5.out⟩
  have h4' : (n : Int) < 4096 := by omega
  have h4n : Hid (n < 4096) := by show n < 4096; omega
  clear h4 hn4
  refine Stop.go ?_
  go_upto_if 43 with (fail)
  go_cut [1] from 43 to 46 (fun v wz => y5 = wz ∧ v = .int .i64 d)
  case first =>
    have hci : -9223372036854775808 ≤ c := hcc.out.1
    have hci2 : c ≤ 9223372036854775807 := hcc.out.2
    have hdi : d ≤ 9223372036854775807 := hd0.out.2
    by_cases hneg : c < 0
    · have e0 := hdd.out.1 (by omega)
      go_wp2
      go_meet
      exact ⟨rfl, rfl⟩
    · have e0 := hdd.out.2 (by omega)
      subst e0
      go_wp2
      go_meet
      exact ⟨rfl, rfl⟩
  case rest =>
    obtain ⟨rfl, rfl⟩ := hcut
    obtain ⟨kk, hkk⟩ : ∃ kk : Nat, (kk : Int) = d % ((n : Int) + 1) := ⟨(d % ((n : Int) + 1)).toNat, Int.toNat_of_nonneg (Int.emod_nonneg _ (by omega))⟩
    have hkn : kk ≤ n := by
      have h1 := Int.emod_lt_of_pos d (show (0 : Int) < (n : Int) + 1 by omega)
      omega
    have hrem : d.tmod ((n : Int) + 1) = (kk : Int) := by rw [Int.tmod_eq_emod_of_nonneg hd0.out.1]; exact hkk.symm
    have d0 : 0 ≤ d := hd0.out.1
    have d1 : d ≤ 9223372036854775807 := hd0.out.2
    have hnz : ((n : Int) + 1 = 0) = False := eq_false (by omega)
    have kki : (kk : Int) ≤ 4096 := by omega
    obtain ⟨A, hA⟩ : ∃ A, L.take kk = A := ⟨_, rfl⟩
    obtain ⟨D, hD⟩ : ∃ D, L.drop kk = D := ⟨_, rfl⟩
    have hAD : A ++ D = L := by rw [← hA, ← hD]; exact List.take_append_drop _ _
    have hAl : A.length = kk := by rw [← hA, List.length_take, hnn.out.1]; omega
    obtain ⟨pk, hpk⟩ : ∃ pk, plI L kk = pk := ⟨_, rfl⟩
    have hpA : pk = (layS sh0 (A.map (·.1))).p := by
      rw [← hpk, ← hA]
      unfold plI
      rw [List.map_take]
    have hOA : Hid (AsmOk (A ++ D)) := by rw [hAD]; exact hO.out.h
    have hpk6 : pk ≤ 65536 := by rw [hpA]; exact hOA.out.skOk.p
    have hpk6' : (pk : Int) ≤ 65536 := by omega
    have hX : Hid ((A ++ D).length < 4096 ∧ (A ++ D).length = n ∧ A.length = kk ∧ A ++ D = L) := ⟨by rw [hAD, hnn.out.1]; exact h4n.out, by rw [hAD]; exact hnn.out.1, hAl, hAD⟩
    have hgA : Hid (∀ x ∈ A ++ D, LB8 w x.1.sp x.2 ∧ x.2.length = x.1.m) := by rw [hAD]; exact hg.out
    have hpA' : Hid (pk = (layS sh0 (A.map (·.1))).p) := hpA
    have hPl : Hid (Calls Tryd.prog 14 #[.agg (oC o), .slice sp n cap, .int .i64 (kk : Int)] y5 fun e z => e = .returned (.int .i64 (pk : Int)) ∧ Hid (Below y5.heap.size y5 z)) := by
      have := place_any y5 (Tb.out.below low5.out) L hO.out.h o hO.out.l hO5.out.lo sp cap (hl.out.below low5.out) (fun x hx => ⟨(hg.out x hx).1.below low5.out, (hg.out x hx).2⟩) kk (by rw [hnn.out.1]; exact hkn) pk hpk
      rw [hnn.out.1] at this
      exact this
    have hFr : Hid (∀ y, Below w.heap.size w y → Calls Tryd.prog 15 #[.slice sp n cap] y (FrE y (L.map (·.1)))) := fun y hy => by
      have := fresh_any y sp cap (L.map fun x : Itm => x.1) (hl.out.below hy) (by rw [List.length_map, hnn.out.1]; have := h4n.out; omega)
      rw [List.length_map, hnn.out.1] at this
      exact this
    have hPu : ∀ (x : Ri) y, Below w.heap.size w y → Calls Tryd.prog 16 #[.slice sp n cap, .int .i64 (kk : Int), .agg (i6 x)] y fun e z => ∃ sp2 cap2, e = .returned (.slice sp2 (n + 1) cap2) ∧ Hid (Below y.heap.size y z ∧ LiesL 6 c6 z sp2 ((A ++ (x, []) :: D).map (·.1))) := fun x y hy => by
      have hle : (L.map fun x : Itm => x.1).length = n := by rw [List.length_map]; exact hnn.out.1
      have := put_any y sp cap (L.map fun x : Itm => x.1) (hl.out.below hy) (by rw [hle]; exact hnn.out.2) (by rw [hle]; have := h4n.out; omega) kk (by rw [hle]; exact hkn) x
      have e1 : (L.map fun x : Itm => x.1).take kk ++ [x] ++ (L.map fun x : Itm => x.1).drop kk = (A ++ (x, []) :: D).map (·.1) := by
        rw [← List.map_take, ← List.map_drop, hA, hD, List.map_append, List.map_cons, List.append_assoc]
        rfl
      rw [e1, hle] at this
      refine this.mono fun e z h => ?_
      obtain ⟨sp2, cap2, rfl, h⟩ := h
      refine ⟨sp2, cap2, ?_, h⟩
      have hx := hX.out.2.1
      rw [List.length_append] at hx
      rw [List.length_map, List.length_append, List.length_cons, ← hx, Nat.add_assoc]
    have hPL : Hid (∀ nm y, Below w.heap.size w y → Calls Tryd.prog 16 #[.slice sp n cap, .int .i64 (kk : Int), .agg #[.int .u8 1, .string nm, .int .i64 0, .string ⟨#[]⟩, .int .u8 0, .slice none 0 0]] y fun e z => ∃ sp2 cap2, e = .returned (.slice sp2 (n + 1) cap2) ∧ Hid (Below y.heap.size y z ∧ LiesL 6 c6 z sp2 ((A ++ (lbM nm, []) :: D).map (·.1)))) := fun nm y hy => hPu (lbM nm) y hy
    have hPA : Hid (∀ y, Below w.heap.size w y → Calls Tryd.prog 16 #[.slice sp n cap, .int .i64 (kk : Int), .agg #[.int .u8 4, .string ⟨#[]⟩, .int .i64 (pk : Int), .string ⟨#[]⟩, .int .u8 0, .slice none 0 0]] y fun e z => ∃ sp2 cap2, e = .returned (.slice sp2 (n + 1) cap2) ∧ Hid (Below y.heap.size y z ∧ LiesL 6 c6 z sp2 ((A ++ (atM (pk : Int), []) :: D).map (·.1)))) := fun y hy => hPu (atM (pk : Int)) y hy
    have hfr2 : Hid (∀ nm : ByteArray, (∀ r ∈ L.map (·.1), r.n ≠ nm ∧ r.l ≠ nm) → ∀ y ∈ A ++ D, y.1.n ≠ nm ∧ y.1.l ≠ nm) := fun nm h y hy => h y.1 (List.mem_map_of_mem (by rw [← hAD]; exact hy))
    have hA1 : Hid (∀ nm y sp2 cap2, isNm nm = true → (∀ r ∈ L.map (·.1), r.n ≠ nm ∧ r.l ≠ nm) → Below w.heap.size w y → LiesL 6 c6 y sp2 ((A ++ (lbM nm, []) :: D).map (·.1)) → Calls Tryd.prog 8 #[.slice sp2 (n + 1) cap2] y fun e z => ∃ (x : Oo) (E j : Int), e = .returned (.tuple #[.agg (oC x), .int .i64 E, .int .i64 j]) ∧ Hid (Below y.heap.size y z ∧ ((65535 < pk ∧ E = 143 ∧ j = (A.length : Int)) ∨ (pk ≤ 65535 ∧ E = 0 ∧ Lco z x ∧ ObA (A ++ (lbM nm, []) :: D) x)))) := fun nm y sp2 cap2 h1 h2 hy hli => asm_lab w Tb hOA hX.out.1 h1 (hfr2.out nm h2) pk hpA' hgA n hX.out.2.1 sp2 cap2 y hy hli
    have hA2 : Hid (pk ≤ 65535 → ∀ y sp2 cap2, Below w.heap.size w y → LiesL 6 c6 y sp2 ((A ++ (atM (pk : Int), []) :: D).map (·.1)) → Calls Tryd.prog 8 #[.slice sp2 (n + 1) cap2] y fun e z => ∃ (x : Oo), e = .returned (.tuple #[.agg (oC x), .int .i64 0, .int .i64 0]) ∧ Hid (Below y.heap.size y z ∧ Lco z x ∧ ObA (A ++ (atM (pk : Int), []) :: D) x)) := fun h5 y sp2 cap2 hy hli => asm_atm w Tb hOA hX.out.1 pk hpA' h5 hgA n hX.out.2.1 sp2 cap2 y hy hli
    clear hA hD hAD hAl hpk hpA hpk6 hPu hkk hkn
    go_wp2_with (first
      | ((with_reducible refine at_load rtO y3.heap.size (oC o) ?_ ?_ (.tmp 6) ?_ ?_ ?_ ?_); exact K5.out.bx 0 _ _ _ rfl; rfl; (first | rfl | kernel_rfl); rfl; rfl)
      | (go_at_call 14; refine hPl.out.mono ?_; rintro e y6 ⟨rfl, H6⟩; clear hPl; have K6 : Hid (Below w.heap.size w y6) := of_below low5.out H6.out)
      | (go_at_call 15; refine (hFr.out _ K6.out).mono ?_; rintro e y7 ⟨nm, rfl, H7⟩; clear hFr; have K7 : Hid (Below w.heap.size w y7) := of_below K6.out H7.out.1; have b57 : Hid (Below y5.heap.size y5 y7) := of_below H6.out H7.out.1)
      | (go_at_call 16; refine (hPL.out nm _ K7.out).mono ?_; rintro e y8 ⟨sp8, cap8, rfl, H8⟩; clear hPL; have K8 : Hid (Below w.heap.size w y8) := of_below K7.out H8.out.1; have b58 : Hid (Below y5.heap.size y5 y8) := of_below b57.out H8.out.1)
      | (go_at_call 8; refine (hA1.out nm _ sp8 cap8 H7.out.2.1 H7.out.2.2 K8.out H8.out.2).mono ?_; rintro e u ⟨p, E1, j1, rfl, H9⟩; clear hA1; have K9 : Hid (Below w.heap.size w u) := of_below K8.out H9.out.1; have b5u : Hid (Below y5.heap.size y5 u) := of_below b58.out H9.out.1)
      | ((with_reducible refine gen_world (u.alloc (.cells #[.slice none 0 0, .slice none 0 0, .slice none 0 0] 29)) (fun y => Fm u [(u.heap.size, oC zO, 29)] y) ?_ ?_); exact Fm.one _ _ _; intro u1 KA)
      | ((with_reducible refine at_st rtO u.heap.size (oC zO) (oC p) ?_ ?_ ?_ ?_ (.tmp 12) (.tmp 65) ?_ ?_ ?_ ?_ ?_); exact KA.out.bx 0 _ _ _ rfl; rfl; rfl; exact oneO _; rfl; rfl; rfl; rfl; intro u2 hw; have KB : Hid (Fm u [(u.heap.size, oC p, 29)] u2) := KA.out.put 0 _ _ _ _ rfl hw.out; clear hw KA; refine stopAt ?_))
    have lowu : Hid (Below w.heap.size w u2) := of_below K9.out KB.out.low
    rcases H9.out.2 with ⟨h5, rfl, hj⟩ | ⟨h5, rfl, hLc, hP⟩
    · have h5i : (65535 : Int) < (pk : Int) := by omega
      rw [hX.out.2.2.1] at hj
      subst hj
      clear h5
      refine Stop.go ?_
      go_wp2
      go_ret
      exact ⟨rfl, lowu.out⟩
    · have h5i : (pk : Int) ≤ 65535 := by omega
      have hA3 := hA2.out h5
      have hA3' : Hid (∀ y sp2 cap2, Below w.heap.size w y → LiesL 6 c6 y sp2 ((A ++ (atM (pk : Int), []) :: D).map (·.1)) → Calls Tryd.prog 8 #[.slice sp2 (n + 1) cap2] y fun e z => ∃ (x : Oo), e = .returned (.tuple #[.agg (oC x), .int .i64 0, .int .i64 0]) ∧ Hid (Below y.heap.size y z ∧ Lco z x ∧ ObA (A ++ (atM (pk : Int), []) :: D) x)) := hA3
      have hPu' : Hid (Lco u p) := hLc
      have hOu : Hid (Lo u o) := (hO5.out.below b5u.out).lo
      have hPP : Hid (ObA (A ++ (lbM nm, []) :: D) p) := hP
      have h55 : Hid (pk ≤ 65535) := h5
      have hbu : Hid (Bx u y3.heap.size (oC o) 29) := (K5.out.bx 0 _ _ _ rfl).below b5u.out
      have hfd : findL p.L nm = some (pk : Int) := by
        rw [hP.l]
        exact hP.h.label (hOA.out.moreLab hX.out.1 hpA'.out h5 H7.out.2.1 (hfr2.out nm H7.out.2.2)).2.2.2.2.2 rfl
      have hF0 : Hid (∀ v, Below u.heap.size u v → Calls Tryd.prog 11 #[.agg (oC p), .string nm] v fun e w' => e = .returned (.tuple #[.int .i64 (pk : Int), .bool true]) ∧ Hid (Below v.heap.size v w')) := fun v hv => by
        have := ofind_any v p (hPu'.out.below hv).lo nm
        rw [hfd] at this
        exact this
      clear hA3 hLc h5 hP hfd
      refine Stop.go ?_
      go_wp2_with (first
        | (go_at_call 16; refine (hPA.out _ lowu.out).mono ?_; rintro e v1 ⟨sp9, cap9, rfl, HA⟩; clear hPA; have KC : Hid (Below w.heap.size w v1 ∧ Below u2.heap.size u2 v1) := ⟨of_below lowu.out HA.out.1, HA.out.1⟩)
        | (go_at_call 8; refine (hA3'.out _ sp9 cap9 KC.out.1 HA.out.2).mono ?_; rintro e v2 ⟨q, rfl, HB⟩; clear hA3'; have KD : Hid (Below w.heap.size w v2 ∧ Below u2.heap.size u2 v2) := ⟨of_below KC.out.1 HB.out.1, of_below KC.out.2 HB.out.1⟩)
        | ((with_reducible refine gen_world (v2.alloc (.cells #[.slice none 0 0, .slice none 0 0, .slice none 0 0] 29)) (fun y => Fm v2 [(v2.heap.size, oC zO, 29)] y) ?_ ?_); exact Fm.one _ _ _; intro v3 KE)
        | ((with_reducible refine at_st rtO v2.heap.size (oC zO) (oC q) ?_ ?_ ?_ ?_ (.tmp 15) (.tmp 84) ?_ ?_ ?_ ?_ ?_); exact KE.out.bx 0 _ _ _ rfl; rfl; rfl; exact oneO _; rfl; rfl; rfl; rfl; intro v4 hw; have KF : Hid (Fm v2 [(v2.heap.size, oC q, 29)] v4) := KE.out.put 0 _ _ _ _ rfl hw.out; clear hw KE; have KG : Hid (Below u2.heap.size u2 v4 ∧ Below u.heap.size u v4) := ⟨of_below KD.out.2 KF.out.low, of_below KB.out.low (of_below KD.out.2 KF.out.low)⟩)
        | ((with_reducible refine at_load rtO u.heap.size (oC p) ?_ ?_ (.tmp 12) ?_ ?_ ?_ ?_); exact (KB.out.bx 0 _ _ _ rfl).below KG.out.1; rfl; (first | rfl | kernel_rfl); rfl; rfl)
        | (go_at_call 11; refine (hF0.out _ KG.out.2).mono ?_; rintro e v5 ⟨rfl, HF⟩; clear hF0; refine stopAt ?_))
      have b45 : Hid (Below v4.heap.size v4 v5) := HF.out
      have bu5 : Hid (Below u.heap.size u v5) := of_below KG.out.2 b45.out
      have b25 : Hid (Below u2.heap.size u2 v5) := of_below KG.out.1 b45.out
      have lo5 : Hid (Below w.heap.size w v5) := of_below K9.out bu5.out
      have Z0 : Hid (Mz o p q y3.heap.size u.heap.size v2.heap.size v5) := ⟨hOu.out.below bu5.out, (hPu'.out.below bu5.out).lo, (HB.out.2.1.below (of_below KF.out.low b45.out)).lo, hbu.out.below bu5.out, (KB.out.bx 0 _ _ _ rfl).below b25.out, (KF.out.bx 0 _ _ _ rfl).below b45.out⟩
      have KP : Hid (Fm u [(u.heap.size, oC p, 29)] v5) := KB.out.below b25.out
      have hME : Hid (MoE o p q nm pk) := more_all hX.out.1 H7.out.2.1 (hfr2.out nm H7.out.2.2) hpA'.out h55.out (by rw [hX.out.2.2.2]; exact hO.out) hPP.out HB.out.2.2
      have hAl : Hid (∀ v, Below v5.heap.size v5 v → Calls Tryd.prog 17 #[.agg (oC q), .agg (oC o)] v fun e w' => e = .returned (.bool true) ∧ Hid (Below v.heap.size v w')) := fun v hv => alike_true v q o (Z0.out.below hv).hq (Z0.out.below hv).ho hME.out.qb hME.out.qm hME.out.ql
      obtain ⟨nL, hnL⟩ : ∃ S, o.L.length = S := ⟨_, rfl⟩
      obtain ⟨nP, hnP⟩ : ∃ S, p.L.length = S := ⟨_, rfl⟩
      obtain ⟨olp, holp⟩ : ∃ S, o.lp = S := ⟨_, rfl⟩
      obtain ⟨olc, holc⟩ : ∃ S, o.lc = S := ⟨_, rfl⟩
      have hoo : Hid (o.L.length = nL ∧ o.lp = olp ∧ o.lc = olc) := ⟨hnL, holp, holc⟩
      have hcL : Hid (∀ v, Below v5.heap.size v5 v → v.cell? ⟨y3.heap.size, 2, none⟩ = some (.slice olp nL olc) ∧ v.cell? ⟨u.heap.size, 2, none⟩ = some (.slice p.lp nP p.lc)) := fun v hv => by
        have h9 := Z0.out.below hv
        rw [← hnL, ← hnP, ← holp, ← holc]
        exact ⟨h9.bo.c 2 _ rfl, h9.bp.c 2 _ rfl⟩
      have eN : (nP : Int) = (nL : Int) + 1 := by have := hME.out.pl; omega
      have nLi : (nL : Int) ≤ 2147483647 := by have := Z0.out.ho.n.2.2; omega
      have w1 : IntKind.i64.wrap ((nL : Int) + 1) = (nL : Int) + 1 := by rw [IntKind.wrap_i64]; omega
      have q2 : ((nP : Int) != (nL : Int) + 1) = false := by rw [eN]; simp
      clear hnL hnP holp holc eN HF b45 b25
      refine Stop.go ?_
      go_wp2_with (first
        | ((with_reducible refine at_load rtO v2.heap.size (oC q) ?_ ?_ (.tmp 15) ?_ ?_ ?_ ?_); exact Z0.out.bq; rfl; (first | rfl | kernel_rfl); rfl; rfl)
        | ((with_reducible refine at_load rtO y3.heap.size (oC o) ?_ ?_ (.tmp 6) ?_ ?_ ?_ ?_); exact Z0.out.bo; rfl; (first | rfl | kernel_rfl); rfl; rfl)
        | (go_at_call 17; refine (hAl.out _ (Below.refl _ _)).mono ?_; rintro e z ⟨rfl, HG⟩; clear hAl; have e6 := (hcL.out z HG.out).1; have e12 := (hcL.out z HG.out).2))
      clear e12
      go_loopw [18, 19, 20] (fun a b t wz => ∃ (v : Int) (i : Nat) (y : World), y = wz ∧ a = .int .i64 v ∧ b = .bool true ∧ t = .int .i64 (i : Int) ∧ Hid (i ≤ nL) ∧ Hid (Below v5.heap.size v5 y)) (fun _ _ t _ => (nL - intOf t).toNat)
      case atStart => exact ⟨_, 0, _, rfl, rfl, rfl, rfl, Nat.zero_le _, HG⟩
      case round =>
        clear e6
        obtain ⟨va, i, y, rfl, rfl, rfl, rfl, J, U⟩ := hrel
        obtain ⟨e6, e12⟩ := hcL.out y U.out
        clear e12
        have Z : Hid (Mz o p q y3.heap.size u.heap.size v2.heap.size y) := Z0.out.below U.out
        by_cases hlt : i < nL
        · obtain ⟨la0, hla⟩ : ∃ x, o.L[i]? = some x := ⟨_, List.getElem?_eq_getElem (by rw [hoo.out.1]; exact hlt)⟩
          have hlL : LiesL 2 cLa y olp o.L := by rw [← hoo.out.2.1]; exact Z.out.ho.l
          obtain ⟨gl, ol, rfl, hcx⟩ := hlL i la0 hla
          obtain ⟨ln, la⟩ := la0
          have hlm := hME.out.old ⟨ln, la⟩ (List.mem_of_getElem? hla)
          have hFi : Hid (∀ v, Below y.heap.size y v → Calls Tryd.prog 11 #[.agg (oC p), .string ln] v fun e w' => e = .returned (.tuple #[.int .i64 la, .bool true]) ∧ Hid (Below v.heap.size v w')) := fun v hv => by
            have := ofind_any v p (Z.out.below hv).hp ln
            rw [hlm] at this
            exact this
          have hcL2 : Hid (∀ v, Below y.heap.size y v → v.cell? ⟨y3.heap.size, 2, none⟩ = some (.slice (some ⟨gl, ol, none⟩) nL olc) ∧ v.cell? ⟨gl, ol + i * 2, none⟩ = some (.string ln) ∧ v.cell? ⟨gl, ol + i * 2 + 1, none⟩ = some (.int .i64 la)) := fun v hv => ⟨(hcL.out v (of_below U.out hv)).1, range_keep hcx hv 0 (.string ln) rfl, range_keep hcx hv 1 (.int .i64 la) rfl⟩
          have ij := fun w => idxP (P := Tryd.prog) (g := gl) (off := ol) (len := nL) (cap := olc) Tryd.underlying27 (s := 2) (by kernel_rfl) .i64 i w hlt
          have hii : (i : Int) < nL := by omega
          have hlt' : Hid (i < nL) := hlt
          clear hlt hla hcx hlm hlL
          go_wp2
          refine wp_region_quiet (C := fun x => Below y.heap.size y x) (by kernel_rfl) (by kernel_rfl) ⟨rfl, rfl, rfl, Nat.le_refl _, fun _ _ => rfl⟩ ?_
          simp only []
          with_reducible refine quiet_one (.agg (oC p)) ?_ ?_ ?_
          · kernel_rfl
          · with_reducible refine q_objM u.heap.size p (.tmp 12) ?_ ?_ ?_
            · rfl
            · kernel_rfl
            · intro u9 hu
              exact (Z.out.below hu).bp
          with_reducible refine quiet_one (.pointer (some ⟨y3.heap.size, 2, none⟩)) ?_ ?_ ?_
          · kernel_rfl
          · intro u9 hy
            go_simp
          with_reducible refine quiet_one (.slice (some ⟨gl, ol, none⟩) nL olc) ?_ ?_ ?_
          · kernel_rfl
          · intro u9 hy
            have x := hcL2.out u9 hy; have x1 := x.1; have x2 := x.2.1; clear x; go_simp
          with_reducible refine quiet_one (.int .i64 (i : Int)) ?_ ?_ ?_
          · kernel_rfl
          · intro u9 hy
            go_simp
          with_reducible refine quiet_one (.pointer (some ⟨gl, ol + i * 2, none⟩)) ?_ ?_ ?_
          · kernel_rfl
          · intro u9 hy
            have x := ij u9; go_simp
          with_reducible refine quiet_one (.pointer (some ⟨gl, ol + i * 2, none⟩)) ?_ ?_ ?_
          · kernel_rfl
          · intro u9 hy
            go_simp
          with_reducible refine quiet_one (.string ln) ?_ ?_ ?_
          · kernel_rfl
          · intro u9 hy
            have x := hcL2.out u9 hy; have x1 := x.1; have x2 := x.2.1; clear x; go_simp
          with_reducible refine quiet_one (.tuple #[.int .i64 la, .bool true]) ?_ ?_ ?_
          · kernel_rfl
          · intro u9 hy
            have d := (hFi.out u9 hy).mono fun e w' (h : _ ∧ _) => And.intro h.1 (Below.trans hy (h.2.out.mono hy.size))
            go_simp
            all_goals exact d
          with_reducible refine quiet_one (.tuple #[.int .i64 la, .bool true]) ?_ ?_ ?_
          · kernel_rfl
          · intro u9 hy
            go_simp
          with_reducible refine quiet_one (.int .i64 la) ?_ ?_ ?_
          · kernel_rfl
          · intro u9 hy
            go_simp
          with_reducible refine quiet_one (.bool true) ?_ ?_ ?_
          · kernel_rfl
          · intro u9 hy
            go_simp
          with_reducible refine quiet_one (.int .i64 la) ?_ ?_ ?_
          · kernel_rfl
          · intro u9 hy
            go_simp
          with_reducible refine quiet_one (.bool true) ?_ ?_ ?_
          · kernel_rfl
          · intro u9 hy
            go_simp
          refine wpQuiet_nil ?_
          intro z1 hz1
          have V1 : Hid (Below y.heap.size y z1) := hz1
          obtain ⟨f6, _, f1⟩ := hcL2.out z1 hz1
          clear hz1 hFi hcL2 e6
          go_simp
          go_wp2
          go_roundw
          case rel => exact ⟨la, i + 1, _, rfl, by simp, by simp, by simp, hlt'.out, of_below U.out V1.out⟩
          case measure => have := hlt'.out; simp [intOf]; omega
        · have hie : i = nL := by have := J.out; omega
          subst hie
          have K6 : Hid (Fm u [(u.heap.size, oC p, 29)] y) := KP.out.below U.out
          have fz := (K6.out.bx 0 _ _ _ rfl).fz 2
          have cz := (K6.out.bx 0 _ _ _ rfl).c 2 (.slice p.lp p.L.length p.lc) rfl
          have KS : Hid (Fm u [(u.heap.size, oC (labO p o), 29)] (y.setCell ⟨u.heap.size, 2, none⟩ (.slice olp i olc))) := by
            have := K6.out.setCell 0 _ _ _ _ rfl 2 (.slice o.lp o.L.length o.lc) (labO_set p o)
            rw [hoo.out.1, hoo.out.2.1, hoo.out.2.2] at this
            exact this
          have hAk : Hid (∀ v, Below u.heap.size u v → Calls Tryd.prog 17 #[.agg (oC (labO p o)), .agg (oC o)] v fun e w' => e = .returned (.bool true) ∧ Hid (Below v.heap.size v w')) := fun v hv => alike_true v (labO p o) o (labO_lo (hPu'.out.below hv).lo (hOu.out.below hv)) (hOu.out.below hv) hME.out.pb hME.out.pm rfl
          clear hlt
          go_wp2_with (first
            | ((with_reducible refine gen_world (y.setCell ⟨u.heap.size, 2, none⟩ (.slice olp i olc)) (fun v => Fm u [(u.heap.size, oC (labO p o), 29)] v) KS.out ?_); intro z1 KT)
            | ((with_reducible refine at_load rtO u.heap.size (oC (labO p o)) ?_ ?_ (.tmp 12) ?_ ?_ ?_ ?_); exact KT.out.bx 0 _ _ _ rfl; rfl; (first | rfl | kernel_rfl); rfl; rfl)
            | ((with_reducible refine at_load rtO y3.heap.size (oC o) ?_ ?_ (.tmp 6) ?_ ?_ ?_ ?_); exact hbu.out.below KT.out.low; rfl; (first | rfl | kernel_rfl); rfl; rfl)
            | (go_at_call 17; refine (hAk.out _ KT.out.low).mono ?_; rintro e z2 ⟨rfl, HK⟩; clear hAk))
          go_ret
          exact ⟨rfl, of_below K9.out (of_below KT.out.low HK.out)⟩
end Go.Proofs.YthbdpceobnkflaaDoor
