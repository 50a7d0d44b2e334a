/- AsmLays: the statement's own walk. -/
import Derived.Test.YthbdpceobnkflaaDoorJ32
namespace Go.Proofs.YthbdpceobnkflaaDoor
open Go Go.RowKit
set_option linter.unusedVariables false
set_option maxHeartbeats 3000000
set_option maxRecDepth 20000

/-- What stands behind Bytes, whatever else is made. -/
structure Ls (L : List Itm) (sp : Option Addr) (x : Oo) (bx g : Nat) (z : World) : Prop where
  t : Tabs z
  o : Lco z x
  b : Bx z bx (oC x) 29
  m : Bx z g (rU (bytL x 0 65536)) 5
  l : LiesL 6 c6 z sp (L.map (·.1))
  g : ∀ y ∈ L, LB8 z y.1.sp y.2 ∧ y.2.length = y.1.m
theorem Ls.below {L : List Itm} {sp : Option Addr} {x : Oo} {bx g : Nat} {z z' : World} (h : Ls L sp x bx g z) (k : Below z.heap.size z z') : Ls L sp x bx g z' :=
  ⟨h.t.below k, h.o.below k, h.b.below k, h.m.below k, h.l.below k, fun y hy => ⟨(h.g y hy).1.below k, (h.g y hy).2⟩⟩
theorem lays_walk (w : World) (Tb : Hid (Tabs w)) (sp : Option Addr) (cap : Nat) (L : List Itm) (hl : Hid (LiesL 6 c6 w sp (L.map (·.1)))) (hg : Hid (∀ x ∈ L, LB8 w x.1.sp x.2 ∧ x.2.length = x.1.m)) (hn : L.length ≤ 140737488355328) (hm : ∀ x ∈ L, x.1.m ≤ 140737488355328) :
    Calls Tryd.prog 3 #[.slice sp L.length cap] w fun e w' => e = .returned (.bool true) ∧ Below w.heap.size w w' := by
  obtain ⟨n, hn'⟩ : ∃ n, L.length = n := ⟨_, rfl⟩
  have hnn : Hid (L.length = n) := hn'
  have hV : Hid (Calls Tryd.prog 6 #[.slice sp n cap] w (VsE w (L.map (·.1)))) := by
    have := vast14_any w sp cap (L.map (·.1)) hl (by rw [List.length_map]; exact hn) (fun r hr => by obtain ⟨x, hx, rfl⟩ := List.mem_map.1 hr; exact hm x hx)
    rw [List.length_map, hn'] at this
    exact this
  have hAw : Hid (∀ y, Below w.heap.size w y → Calls Tryd.prog 7 #[] y fun e w' => e = .returned (.bool true) ∧ Hid (Below y.heap.size y w')) := fun y hy => awake14_any y (Tb.out.below hy)
  have hAs : Hid (∀ y, Below w.heap.size w y → Calls Tryd.prog 8 #[.slice sp n cap] y (AsT y L)) := fun y hy => by
    have := assemble_one y (Tb.out.below hy) sp cap L (hl.out.below hy) (fun x hx => ⟨(hg.out x hx).1.below hy, (hg.out x hx).2⟩) (by omega)
    rw [hn'] at this
    exact this
  rw [hn']
  have n1 : (n : Int) ≤ 140737488355328 := by omega
  clear hn hm hn'
  go_enter Tryd.func3, Tryd.ntmps3
  go_wp2_with (go_at_call 6; refine hV.out.mono ?_; rintro e y1 ⟨bb, rfl, H1⟩; clear hV; refine stopAt ?_)
  cases bb
  case true =>
    refine Stop.go ?_
    go_wp2
    go_ret
    exact ⟨rfl, H1.out.1⟩
  refine Stop.go ?_
  go_wp2_with (first
    | (go_at_call 7; refine (hAw.out _ H1.out.1).mono ?_; rintro e y2 ⟨rfl, H2⟩; have K2 : Hid (Below w.heap.size w y2) := of_below H1.out.1 H2.out; clear H2 hAw)
    | (go_at_call 8; refine (hAs.out _ K2.out).mono ?_; rintro e y3 ⟨x, E, k, rfl, H3⟩; clear hAs; have K3 : Hid (Below w.heap.size w y3) := of_below K2.out H3.out.1)
    | ((with_reducible refine gen_world (y3.alloc (.cells #[.slice none 0 0, .slice none 0 0, .slice none 0 0] 29)) (fun y => Fm y3 [(y3.heap.size, oC zO, 29)] y) ?_ ?_); exact Fm.one _ _ _; intro y4 K4)
    | ((with_reducible refine at_st rtO y3.heap.size (oC zO) (oC x) ?_ ?_ ?_ ?_ (.tmp 4) (.tmp 25) ?_ ?_ ?_ ?_ ?_); exact K4.out.bx 0 _ _ _ rfl; rfl; rfl; exact oneO _; rfl; rfl; rfl; rfl; intro y5 hw5; have K5 : Hid (Fm y3 [(y3.heap.size, oC x, 29)] y5) := K4.out.put 0 _ _ _ _ rfl hw5.out; clear hw5 K4; refine stopAt ?_))
  have low5 : Hid (Below w.heap.size w y5) := of_below K3.out K5.out.low
  rcases H3.out.2 with ⟨hE, rfl⟩ | ⟨rfl, hLc, hOk, hB, hM, hL⟩
  · have c0 := (K5.out.bx 0 _ _ _ rfl).c 0 (.slice none 0 0) rfl
    have c1 := (K5.out.bx 0 _ _ _ rfl).c 1 (.slice none 0 0) rfl
    have c2 := (K5.out.bx 0 _ _ _ rfl).c 2 (.slice none 0 0) rfl
    have e0 : (E != 0) = true := by rw [bne_iff_ne]; exact hE
    clear hE
    refine Stop.go ?_
    go_wp2
    go_ret
    exact ⟨rfl, low5.out⟩
  obtain ⟨bx, hbx⟩ : ∃ q, y3.heap.size = q := ⟨_, rfl⟩
  have hX : Hid (AsmOk L ∧ plB x.B = blksF (asmMem L) [] (-1) (marksU (asmU L)) ∧ x.M = marksU (asmU L) ∧ x.L = sortN (asmN L) ∧ ∀ q ∈ x.B, q.2.length = q.1.m) := ⟨hOk, hB, hM, hL, fun q hq => (hLc.lo.g q hq).2⟩
  have hX5 : Hid (Lco y5 x) := hLc.below K5.out.low
  have hBy : Hid (∀ v, Below y5.heap.size y5 v → Calls Tryd.prog 9 #[.agg (oC x), .int .i64 0, .int .i64 65536] v (MmE v (bytL x 0 65536))) := fun v hv => bytes_all hX.out.1 hX.out.2.1 hX.out.2.2.1 hX.out.2.2.2.1 v (Tb.out.below (of_below low5.out hv)) (hX5.out.below hv)
  have hCk : Hid (∀ v, Below y5.heap.size y5 v → Calls Tryd.prog 10 #[.agg (oC x)] v fun e w' => e = .returned (.int .i64 0) ∧ Hid (Below v.heap.size v w')) := fun v hv => by
    have := ocheck_any v (Tb.out.below (of_below low5.out hv)) x (hX5.out.below hv)
    have e9 : chkO x = 0 := by unfold chkO; rw [hX.out.1.okO hX.out.2.1 hX.out.2.2.1 hX.out.2.2.2.1 hX.out.2.2.2.2]; rfl
    rw [e9] at this
    exact this
  have hbx5 : Hid (∀ v, Below y5.heap.size y5 v → Bx v bx (oC x) 29) := fun v hv => by rw [← hbx]; exact (K5.out.bx 0 _ _ _ rfl).below hv
  rw [hbx]
  have b0 : Hid (Below y5.heap.size y5 y5) := Below.refl _ _
  clear H3 hLc hOk hB hM hL K3 K5 hbx H1
  refine Stop.go ?_
  go_wp2_with (first
    | ((with_reducible refine at_load rtO bx (oC x) ?_ ?_ (.tmp 4) ?_ ?_ ?_ ?_); (first | exact hbx5.out _ b0.out | exact hbx5.out _ U6.out); rfl; (first | rfl | kernel_rfl); rfl; rfl)
    | (go_at_call 9; refine (hBy.out _ b0.out).mono ?_; rintro e y6 ⟨g, rfl, H6⟩; clear hBy; have U6 : Hid (Below y5.heap.size y5 y6) := H6.out.1)
    | (go_at_call 10; refine (hCk.out _ U6.out).mono ?_; rintro e y7 ⟨rfl, H7⟩; clear hCk; have U7 : Hid (Below y5.heap.size y5 y7) := of_below U6.out H7.out; have S7 : Hid (Ls L sp x bx g y7) := ⟨Tb.out.below (of_below low5.out U7.out), hX5.out.below U7.out, hbx5.out _ U7.out, H6.out.2.below H7.out, hl.out.below (of_below low5.out U7.out), fun y hy => ⟨(hg.out y hy).1.below (of_below low5.out U7.out), (hg.out y hy).2⟩⟩; clear H7))
  have low7 : Hid (Below w.heap.size w y7) := of_below low5.out U7.out
  have n4 : n ≤ 4096 := by have := hX.out.1.few; rw [hnn.out] at this; exact this
  have n4i : (n : Int) ≤ 4096 := by omega
  clear hl hg Tb hbx5 hX5 U6 U7 H6 low5 b0 K2
  go_loopw [9, 10, 11, 12] (fun a b c d wz => ∃ (P S C i : Nat) (z : World), z = wz ∧ a = .int .i64 (P : Int) ∧ b = .int .i64 (S : Int) ∧ c = .int .i64 (C : Int) ∧ d = .int .i64 (i : Int) ∧ Hid (i ≤ n ∧ P = plI L i ∧ S = szI L i ∧ C = nlI L i) ∧ Hid (Below y7.heap.size y7 z)) (fun _ _ _ d _ => (n - intOf d).toNat)
  case atStart => exact ⟨0, 0, 0, 0, _, rfl, rfl, rfl, rfl, rfl, ⟨Nat.zero_le _, (pl_zero L).1.symm, (pl_zero L).2.1.symm, (pl_zero L).2.2.symm⟩, Below.refl _ _⟩
  case round =>
    obtain ⟨P, S, C, i, z, rfl, rfl, rfl, rfl, rfl, J, U⟩ := hrel
    have Sz : Hid (Ls L sp x bx g z) := S7.out.below U.out
    have hS : S ≤ 268435456 := by
      have h1 := hX.out.1.sz_le i (by rw [hnn.out]; exact J.out.1)
      rw [← J.out.2.2.1] at h1
      have h2 := J.out.1
      have h3 : i * 65536 ≤ 4096 * 65536 := Nat.mul_le_mul_right _ (by omega)
      omega
    have hC : C ≤ 4096 := by
      have h1 := nl_le (L := L) i (by rw [hnn.out]; exact J.out.1)
      rw [← J.out.2.2.2] at h1
      have h2 := J.out.1
      omega
    have hSi : (S : Int) ≤ 268435456 := by omega
    have hCi : (C : Int) ≤ 4096 := by omega
    clear hS hC
    by_cases hlt : i < n
    · obtain ⟨y, hy⟩ : ∃ y, L[i]? = some y := ⟨_, List.getElem?_eq_getElem (by rw [hnn.out]; exact hlt)⟩
      have hyr : (L.map (·.1))[i]? = some y.1 := by rw [List.getElem?_map, hy]; rfl
      obtain ⟨gb, o, rfl, hcx⟩ := Sz.out.l i y.1 hyr
      have hc : Hid (z.rangeAt gb (o + i * 6) (i6 y.1).toList) := hcx
      have ij := fun v => idxP (P := Tryd.prog) (g := gb) (off := o) (len := n) (cap := cap) Tryd.underlying22 (s := 6) (by kernel_rfl) .i64 i v hlt
      have hii : (i : Int) < n := by omega
      have hlt' : Hid (i < n) := hlt
      have hy' : Hid (L[i]? = some y) := hy
      have hPle : P ≤ 65536 := by rw [J.out.2.1]; exact hX.out.1.pl_le (by rw [hnn.out]; exact hlt)
      have hPi : (P : Int) ≤ 65536 := by omega
      have hmay := hX.out.1.may (at_pl hy)
      clear hlt hcx hyr
      by_cases k4 : y.1.k = 4
      · have J4 := hX.out.1.moved hy k4
        obtain ⟨P', hP'⟩ : ∃ q, plI L (i + 1) = q := ⟨_, rfl⟩
        have J9 : Hid (i + 1 ≤ n ∧ P' = plI L (i + 1) ∧ S = szI L (i + 1) ∧ C = nlI L (i + 1)) := ⟨hlt'.out, hP'.symm, by rw [J4.2.1]; exact J.out.2.2.1, by rw [J4.2.2]; exact J.out.2.2.2⟩
        have ha : y.1.a = (P' : Int) := by rw [← J4.1, hP']
        have e4 : (y.1.k == 4) = true := by rw [k4]; rfl
        clear k4 J4 hy hP' J hmay hPle
        go_wp2_with (first
          | ((with_reducible refine at_loadm rt6 gb (o + i * 6) (i6 y.1) ?_ ?_ (.tmp 78) ?_ ?_ ?_ ?_); exact hc.out; rfl; (first | rfl | kernel_rfl); rfl; rfl)
          | ((with_reducible refine gen_world (z.alloc (.cells #[.int .u8 0, .string ⟨#[]⟩, .int .i64 0, .string ⟨#[]⟩, .int .u8 0, .slice none 0 0] 40)) (fun v => Fm z [(z.heap.size, i6 z0, 40)] v) ?_ ?_); exact Fm.one _ _ _; intro z1 K1)
          | ((with_reducible refine at_st rt6 z.heap.size (i6 z0) (i6 y.1) ?_ ?_ ?_ ?_ (.tmp 13) (.tmp 79) ?_ ?_ ?_ ?_ ?_); exact K1.out.bx 0 _ _ _ rfl; rfl; rfl; exact i6_all _; rfl; rfl; rfl; rfl; intro z2 hw2; have K2 : Hid (Fm z [(z.heap.size, i6 y.1, 40)] z2) := K1.out.put 0 _ _ _ _ rfl hw2.out; clear hw2 K1 hc; have d0 := (K2.out.bx 0 _ _ _ rfl).c 0 (.int .u8 y.1.k) rfl; have d2 : z2.cell? ⟨z.heap.size, 2, none⟩ = some (.int .i64 (P' : Int)) := (by have h9 := (K2.out.bx 0 _ _ _ rfl).c 2 (.int .i64 y.1.a) rfl; rw [ha] at h9; exact h9)))
        go_roundw
        case rel => exact ⟨P', S, C, i + 1, _, rfl, rfl, rfl, rfl, by simp, J9, of_below U.out K2.out.low⟩
        case measure => have := hlt'.out; simp [intOf]; omega
      · by_cases k1 : y.1.k = 1
        · have J4 := at_named hy k1
          have hfd := hX.out.1.label (at_pl hy) k1
          have J9 : Hid (i + 1 ≤ n ∧ P = plI L (i + 1) ∧ S = szI L (i + 1) ∧ C + 1 = nlI L (i + 1)) := ⟨hlt'.out, by rw [J4.1]; exact J.out.2.1, by rw [J4.2.1]; exact J.out.2.2.1, by rw [J4.2.2, J.out.2.2.2]⟩
          have hF : Hid (∀ v, Below z.heap.size z v → Calls Tryd.prog 11 #[.agg (oC x), .string y.1.n] v fun e w' => e = .returned (.tuple #[.int .i64 (P : Int), .bool true]) ∧ Hid (Below v.heap.size v w')) := fun v hv => by
            have := ofind_any v x (Sz.out.o.below hv).lo y.1.n
            rw [hX.out.2.2.2.1, hfd, ← J.out.2.1] at this
            exact this
          have e4 : (y.1.k == 4) = false := by rw [k1]; rfl
          have e1 : (y.1.k == 1) = true := by rw [k1]; rfl
          clear k4 k1 J4 hy J hmay hPle hfd
          go_wp2_with (first
            | ((with_reducible refine at_loadm rt6 gb (o + i * 6) (i6 y.1) ?_ ?_ (.tmp 78) ?_ ?_ ?_ ?_); exact hc.out; rfl; (first | rfl | kernel_rfl); rfl; rfl)
            | ((with_reducible refine gen_world (z.alloc (.cells #[.int .u8 0, .string ⟨#[]⟩, .int .i64 0, .string ⟨#[]⟩, .int .u8 0, .slice none 0 0] 40)) (fun v => Fm z [(z.heap.size, i6 z0, 40)] v) ?_ ?_); exact Fm.one _ _ _; intro z1 K1)
            | ((with_reducible refine at_st rt6 z.heap.size (i6 z0) (i6 y.1) ?_ ?_ ?_ ?_ (.tmp 13) (.tmp 79) ?_ ?_ ?_ ?_ ?_); exact K1.out.bx 0 _ _ _ rfl; rfl; rfl; exact i6_all _; rfl; rfl; rfl; rfl; intro z2 hw2; have K2 : Hid (Fm z [(z.heap.size, i6 y.1, 40)] z2) := K1.out.put 0 _ _ _ _ rfl hw2.out; clear hw2 K1 hc; have d0 := (K2.out.bx 0 _ _ _ rfl).c 0 (.int .u8 y.1.k) rfl; have d1 := (K2.out.bx 0 _ _ _ rfl).c 1 (.string y.1.n) rfl)
            | ((with_reducible refine at_load rtO bx (oC x) ?_ ?_ (.tmp 4) ?_ ?_ ?_ ?_); exact Sz.out.b.below K2.out.low; rfl; (first | rfl | kernel_rfl); rfl; rfl)
            | (go_at_call 11; refine (hF.out _ K2.out.low).mono ?_; rintro e z3 ⟨rfl, H3⟩; have V3 : Hid (Below z.heap.size z z3) := of_below K2.out.low H3.out; clear H3 hF K2 d0 d1))
          go_roundw
          case rel => exact ⟨P, S, C + 1, i + 1, _, rfl, rfl, rfl, by simp, by simp, J9, of_below U.out V3.out⟩
          case measure => have := hlt'.out; simp [intOf]; omega
        · have J4 := hX.out.1.laid hy k1 k4
          obtain ⟨R, hR⟩ : ∃ R, flB (asmN L) y = R := ⟨_, rfl⟩
          obtain ⟨m, hm⟩ : ∃ m, R.length = m := ⟨_, rfl⟩
          rw [hR, hm] at J4
          have J9 : Hid (i + 1 ≤ n ∧ P + m = plI L (i + 1) ∧ S + m = szI L (i + 1) ∧ C = nlI L (i + 1)) := ⟨hlt'.out, by rw [J4.1, J.out.2.1], by rw [J4.2.1, J.out.2.2.1], by rw [J4.2.2]; exact J.out.2.2.2⟩
          have hfit : P + m ≤ 65536 := by
            have h9 := hX.out.1.fits (at_pl hy)
            rw [hR, hm, ← J.out.2.1] at h9
            exact h9
          have hNm : ∀ q ∈ asmN L, q.2 ≤ 65535 := (lay_ok _ sh0 0 sh0_ok hX.out.1.all hX.out.1.l).n
          have hLy : Hid (∀ v, Below z.heap.size z v → Calls Tryd.prog 12 #[.agg (oC x), .agg (i6 y.1)] v (BtE v R)) := fun v hv => by
            have h9 := Sz.out.below hv
            rw [← hR]
            exact lays_any v h9.t (asmN L) hNm x h9.o.lo (fun s => by rw [hX.out.2.2.2.1]; exact hX.out.1.find s) y hmay k1 k4 (h9.g y (List.mem_of_getElem? hy))
          obtain ⟨od, hsl, hod⟩ := slBoth g P m hfit
          have hMm : Hid (∀ v, Below z.heap.size z v → LB8 v (some ⟨g, od, none⟩) R) := fun v hv j b hj => by
            have h9 := hX.out.1.told hX.out.2.1 hX.out.2.2.1 hX.out.2.2.2.1 hX.out.2.2.2.2 hy j b (by rw [hR]; exact hj)
            have hjm : j < m := by rw [← hm]; exact (List.getElem?_eq_some_iff.1 hj).1
            rw [hod (by omega)]
            refine ⟨g, P, rfl, ?_⟩
            rw [← J.out.2.1] at h9
            exact (Sz.out.below hv).m.c (P + j) _ (rU_get _ _ _ h9)
          have hSm : Hid (∀ v sp2 cap2, LB8 v (some ⟨g, od, none⟩) R → LB8 v sp2 R → Calls Tryd.prog 13 #[.slice (some ⟨g, od, none⟩) m (65536 - P), .slice sp2 m cap2] v fun e w' => e = .returned (.bool true) ∧ Hid (Below v.heap.size v w')) := fun v sp2 cap2 h1 h2 => by
            have := sameO_true v (some ⟨g, od, none⟩) sp2 (65536 - P) cap2 R h1 h2 (by omega)
            rw [hm] at this
            exact this
          unfold BtE at hLy
          rw [hm] at hLy
          have hmi : (P : Int) + (m : Int) ≤ 65536 := by omega
          have hmi2 : (m : Int) ≤ 65536 := by omega
          have wP : IntKind.i64.wrap ((P : Int) + (m : Int)) = (P : Int) + (m : Int) := by rw [IntKind.wrap_i64]; omega
          have wS : IntKind.i64.wrap ((S : Int) + (m : Int)) = (S : Int) + (m : Int) := by rw [IntKind.wrap_i64]; omega
          have e4 : (y.1.k == 4) = false := by rw [beq_eq_false_iff_ne]; exact k4
          have e1 : (y.1.k == 1) = false := by rw [beq_eq_false_iff_ne]; exact k1
          clear k4 k1 J4 hy J hmay hPle hR hm hNm hod hfit
          go_wp2_with (first
            | ((with_reducible refine at_loadm rt6 gb (o + i * 6) (i6 y.1) ?_ ?_ (.tmp 78) ?_ ?_ ?_ ?_); exact hc.out; rfl; (first | rfl | kernel_rfl); rfl; rfl)
            | ((with_reducible refine gen_world (z.alloc (.cells #[.int .u8 0, .string ⟨#[]⟩, .int .i64 0, .string ⟨#[]⟩, .int .u8 0, .slice none 0 0] 40)) (fun v => Fm z [(z.heap.size, i6 z0, 40)] v) ?_ ?_); exact Fm.one _ _ _; intro z1 K1)
            | ((with_reducible refine at_st rt6 z.heap.size (i6 z0) (i6 y.1) ?_ ?_ ?_ ?_ (.tmp 13) (.tmp 79) ?_ ?_ ?_ ?_ ?_); exact K1.out.bx 0 _ _ _ rfl; rfl; rfl; exact i6_all _; rfl; rfl; rfl; rfl; intro z2 hw2; have K2 : Hid (Fm z [(z.heap.size, i6 y.1, 40)] z2) := K1.out.put 0 _ _ _ _ rfl hw2.out; clear hw2 K1 hc; have d0 := (K2.out.bx 0 _ _ _ rfl).c 0 (.int .u8 y.1.k) rfl)
            | ((with_reducible refine at_load rtO bx (oC x) ?_ ?_ (.tmp 4) ?_ ?_ ?_ ?_); exact Sz.out.b.below K2.out.low; rfl; (first | rfl | kernel_rfl); rfl; rfl)
            | ((with_reducible refine at_load rt6 z.heap.size (i6 y.1) ?_ ?_ (.tmp 13) ?_ ?_ ?_ ?_); exact K2.out.bx 0 _ _ _ rfl; rfl; (first | rfl | kernel_rfl); rfl; rfl)
            | (go_at_call 12; refine (hLy.out _ K2.out.low).mono ?_; rintro e z3 ⟨sp2, cap2, rfl, H3⟩; have V3 : Hid (Below z.heap.size z z3 ∧ LB8 z3 sp2 R) := ⟨of_below K2.out.low H3.out.2, H3.out.1⟩; clear H3 hLy K2 d0)
            | (go_at_call 13; refine (hSm.out _ _ _ (hMm.out _ V3.out.1) V3.out.2).mono ?_; rintro e z4 ⟨rfl, H4⟩; have V4 : Hid (Below z.heap.size z z4) := of_below V3.out.1 H4.out; clear H4 hSm))
          go_roundw
          case rel => exact ⟨P + m, S + m, C, i + 1, _, rfl, by simp, by simp, rfl, by simp, J9, of_below U.out V4.out⟩
          case measure => have := hlt'.out; simp [intOf]; omega
    · have hie : i = n := by have := J.out.1; omega
      subst hie
      have hend := hX.out.1.end hX.out.2.1 hX.out.2.2.2.1 hX.out.2.2.2.2
      rw [hnn.out, ← J.out.2.2.1, ← J.out.2.2.2] at hend
      obtain ⟨nb, hnb⟩ : ∃ q, x.B.length = q := ⟨_, rfl⟩
      obtain ⟨nl, hnl⟩ : ∃ q, x.L.length = q := ⟨_, rfl⟩
      have hend' : Hid (S = sumK x.B ∧ x.B.length = nb) := ⟨hend.1, hnb⟩
      obtain rfl : C = nl := hend.2.trans hnl
      obtain ⟨bp, hbp⟩ : ∃ q, x.bp = q := ⟨_, rfl⟩
      obtain ⟨bc, hbc⟩ : ∃ q, x.bc = q := ⟨_, rfl⟩
      have hd : Hid (∀ v, Below z.heap.size z v → v.cell? ⟨bx, 0, none⟩ = some (.slice bp nb bc) ∧ v.cell? ⟨bx, 2, none⟩ = some (.slice x.lp C x.lc)) := fun v hv => by
        have h0 := (Sz.out.b.below hv).c 0 (.slice x.bp x.B.length x.bc) rfl
        have h2 := (Sz.out.b.below hv).c 2 (.slice x.lp x.L.length x.lc) rfl
        rw [hbp, hnb, hbc] at h0
        rw [hnl] at h2
        exact ⟨h0, h2⟩
      have hlb : Hid (LiesL 2 cK z bp (x.B.map (·.1))) := by rw [← hbp]; exact Sz.out.o.lo.b
      have hmm : Hid (∀ q ∈ x.B, q.1.m ≤ 2147483647) := fun q hq => (Sz.out.o.lo.ib q hq).2
      have nbi : (nb : Int) ≤ 2147483647 := by have := Sz.out.o.lo.n.1; omega
      have b0 : Hid (Below z.heap.size z z) := Below.refl _ _
      obtain ⟨e0, _⟩ := hd.out z b0.out
      clear hlt hend hnb hnl hbp hbc J
      go_wp2
      go_loopw [17, 18] (fun s t wz => ∃ (Q j : Nat) (v : World), v = wz ∧ s = .int .i64 (Q : Int) ∧ t = .int .i64 (j : Int) ∧ Hid (j ≤ nb ∧ Q = sumK (x.B.take j)) ∧ Hid (Below z.heap.size z v)) (fun _ t _ => (nb - intOf t).toNat)
      case atStart => exact ⟨0, 0, _, rfl, rfl, rfl, ⟨Nat.zero_le _, rfl⟩, b0⟩
      case round =>
        clear e0
        obtain ⟨Q, j, v, rfl, rfl, rfl, J, K⟩ := hrel
        obtain ⟨e0, e2⟩ := hd.out _ K.out
        by_cases hlt : j < nb
        · obtain ⟨q, hq⟩ : ∃ q, x.B[j]? = some q := ⟨_, List.getElem?_eq_getElem (by rw [hend'.out.2]; exact hlt)⟩
          obtain ⟨gb, o, rfl, hcx⟩ := hlb.out j q.1 (by rw [List.getElem?_map, hq]; rfl)
          have hqm := hmm.out q (List.mem_of_getElem? hq)
          have c1 := range_keep hcx K.out 1 (.slice q.1.sp q.1.m q.1.cap) rfl
          have ij := fun w => idxP (P := Tryd.prog) (g := gb) (off := o) (len := nb) (cap := bc) Tryd.underlying25 (s := 2) (by kernel_rfl) .i64 j w hlt
          have hii : (j : Int) < nb := by omega
          have hlt' : Hid (j < nb) := hlt
          have hQ : (Q : Int) ≤ 4611686014132420609 := by
            have h1 := sumK_le (x.B.take j) (fun p hp => hmm.out p (List.mem_of_mem_take hp))
            rw [← J.out.2, List.length_take, hend'.out.2] at h1
            have h2 : min j nb * 2147483647 ≤ 2147483647 * 2147483647 := Nat.mul_le_mul_right _ (by omega)
            omega
          have J9 : Hid (j + 1 ≤ nb ∧ Q + q.1.m = sumK (x.B.take (j + 1))) := ⟨hlt, by rw [sumK_take _ _ _ hq, ← J.out.2]⟩
          obtain ⟨m, hm⟩ : ∃ m, q.1.m = m := ⟨_, rfl⟩
          rw [hm] at J9 c1 hqm
          have mi : (m : Int) ≤ 2147483647 := by omega
          have wl : IntKind.i64.wrap ((Q : Int) + m) = (Q : Int) + m := by rw [IntKind.wrap_i64]; omega
          clear hlt hq hcx hm hqm J
          go_wp2
          go_roundw
          case rel => exact ⟨Q + m, j + 1, _, rfl, by simp, by simp, J9, K⟩
          case measure => have := hlt'.out; simp [intOf]; omega
        · have hje : j = nb := by have := J.out.1; omega
          subst hje
          obtain rfl : Q = S := by
            have := J.out.2
            rw [List.take_of_length_le (by rw [hend'.out.2]; exact Nat.le_refl _), ← hend'.out.1] at this
            exact this
          clear hlt
          go_wp2
          go_ret
          exact ⟨rfl, of_below low7.out (of_below U.out K.out)⟩
end Go.Proofs.YthbdpceobnkflaaDoor
