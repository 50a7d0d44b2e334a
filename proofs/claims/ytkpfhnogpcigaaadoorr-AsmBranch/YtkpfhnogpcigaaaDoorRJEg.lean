/- The document's look at marks. -/
import Derived.Test.YtkpfhnogpcigaaaDoorRJEf
namespace Go.Proofs.YtkpfhnogpcigaaaDoorR
open Go Go.RowKit
set_option linter.unusedVariables false
set_option maxHeartbeats 3000000
set_option maxRecDepth 20000

theorem slB2 (g o n cap l h : Nat) (L H : Int) (hL : L = (l : Int)) (hH : H = (h : Int)) (h1 : l ≤ h) (h2 : h ≤ n) (hc : n ≤ cap) : ∃ sp1, (∀ v, (Instr.sliceAt 33 (.slice (some ⟨g, o, none⟩) n cap) (some (.int .i64 L)) (some (.int .i64 H)) none).run Tryd.prog v = .ok (.slice sp1 (h - l) (cap - l)) v) ∧ (l < h → sp1 = some ⟨g, o + l, none⟩) := by
  subst hL hH
  refine ⟨if cap = l then some ⟨g, o, none⟩ else (some (⟨g, o, none⟩ : Addr)).map (·.add (l * 1)), fun v => ?_, fun h => ?_⟩
  · have hu : Tryd.prog.underlying 33 = some (.slice (Tryd.prog.elem 33)) := by kernel_rfl
    rw [run_sliceAt_slice v _ _ _ _ _ hu, run_slice_lh v _ _ _ _ hu .i64 .i64 (l : Int) (h : Int) (by omega) (by omega) (by omega)]
    have hz : ∀ v, (sizeOf (Tryd.prog.elem 33)).run Tryd.prog v = .ok 1 v := fun v => by kernel_rfl
    rw [hz]
    simp only [Result.andThen_ok, sliced, Int.toNat_natCast]
  · rw [if_neg (by omega)]
    simp [Addr.add_lit]
/-- What is left of the marks, from the m-th on, within a block. -/
def inB (Bl : List (Int × List UInt8)) (M : List Mk) (R : Bool) (A : Int) (left : List UInt8) (pv : Option Bool) (m : Nat) : Prop := match mof A left pv (M.drop m) with
  | none => R = false
  | some k => R = mrk Bl (M.drop (m + k))
theorem inB_bad {Bl : List (Int × List UInt8)} {M : List Mk} {R : Bool} {A : Int} {left : List UInt8} {pv : Option Bool} {m : Nat} (h : inB Bl M R A left pv m) (e : mof A left pv (M.drop m) = none) : R = false := by unfold inB at h; rw [e] at h; exact h
theorem inB_end {Bl : List (Int × List UInt8)} {M : List Mk} {R : Bool} {A : Int} {pv : Option Bool} {m : Nat} (h : inB Bl M R A [] pv m) : R = mrk Bl (M.drop m) := by unfold inB at h; rw [mof_nil] at h; exact h
theorem inB_next {Bl : List (Int × List UInt8)} {M : List Mk} {R : Bool} {A : Int} {left : List UInt8} {pv : Option Bool} {m : Nat} {k : Mk} (h : inB Bl M R A left pv m) (hne : left ≠ []) (hm : M[m]? = some k) (hb : mbad A left pv k = false) : inB Bl M R (A + k.n) (left.drop k.n.toNat) (some k.c) (m + 1) := by
  have hd : M.drop m = k :: M.drop (m + 1) := by
    obtain ⟨h, e⟩ := List.getElem?_eq_some_iff.1 hm
    rw [List.drop_eq_getElem_cons h, e]
  unfold inB at h ⊢
  rw [hd, mof_cons _ _ _ _ _ hne, if_neg (by rw [hb]; decide)] at h
  rcases e : mof (A + k.n) (left.drop k.n.toNat) (some k.c) (M.drop (m + 1)) with _ | q
  · rw [e] at h
    exact h
  · rw [e] at h
    have h : R = mrk Bl (M.drop (m + (q + 1))) := h
    show R = mrk Bl (M.drop (m + 1 + q))
    rw [h, show m + (q + 1) = m + 1 + q by omega]
theorem inB_badM {Bl : List (Int × List UInt8)} {M : List Mk} {R : Bool} {A : Int} {left : List UInt8} {pv : Option Bool} {m : Nat} {k : Mk} (h : inB Bl M R A left pv m) (hne : left ≠ []) (hm : M[m]? = some k) (hb : mbad A left pv k = true) : R = false := by
  have hd : M.drop m = k :: M.drop (m + 1) := by
    obtain ⟨h, e⟩ := List.getElem?_eq_some_iff.1 hm
    rw [List.drop_eq_getElem_cons h, e]
  exact inB_bad h (by rw [hd, mof_cons _ _ _ _ _ hne, if_pos hb])
theorem rmarks_any (w : World) (ob : Oo) (h : Hid (Lo w ob)) (hg : Hid (∀ x ∈ ob.B, x.1.m ≤ x.1.cap ∧ 0 ≤ x.1.a ∧ x.1.a ≤ 65536 ∧ 1 ≤ x.1.m ∧ x.1.m ≤ 65536)) :
    Calls Tryd.prog 32 #[.agg (oC ob)] w fun e w' => e = .returned (.bool (mrk (plB ob.B) ob.M)) ∧ Hid (Below w.heap.size w w') := by
  obtain ⟨R, hR⟩ : ∃ R, mrk (plB ob.B) ob.M = R := ⟨_, rfl⟩
  have hR' : Hid (mrk (plB ob.B) ob.M = R) := hR
  have K0 : Hid (Fm w [(w.heap.size, oC ob, 26)] (w.alloc (.cells (oC ob) 26))) := Fm.one w _ _
  obtain ⟨n, hn'⟩ : ∃ n, ob.B.length = n := ⟨_, rfl⟩
  obtain ⟨nm, hnm'⟩ : ∃ n, ob.M.length = n := ⟨_, rfl⟩
  have hnn : Hid (ob.B.length = n ∧ ob.M.length = nm) := ⟨hn', hnm'⟩
  have ni : (n : Int) ≤ 2147483647 := by have := h.out.n; omega
  have nmi : (nm : Int) ≤ 2147483647 := by have := h.out.n; omega
  obtain ⟨bp, hbp⟩ : ∃ q, ob.bp = q := ⟨_, rfl⟩
  obtain ⟨bc, hbc⟩ : ∃ q, ob.bc = q := ⟨_, rfl⟩
  obtain ⟨mp, hmp⟩ : ∃ q, ob.mp = q := ⟨_, rfl⟩
  obtain ⟨mc, hmc⟩ : ∃ q, ob.mc = q := ⟨_, rfl⟩
  have hd0 : Hid (∀ y, Fm w [(w.heap.size, oC ob, 26)] y → y.cell? ⟨w.heap.size, 0, none⟩ = some (.slice bp n bc) ∧ y.cell? ⟨w.heap.size, 1, none⟩ = some (.slice mp nm mc)) := fun y hy => by
    have h1 := (hy.bx 0 _ _ _ rfl).c 0 (.slice ob.bp ob.B.length ob.bc) rfl
    have h2 := (hy.bx 0 _ _ _ rfl).c 1 (.slice ob.mp ob.M.length ob.mc) rfl
    rw [hbp, hbc, hn'] at h1
    rw [hmp, hmc, hnm'] at h2
    exact ⟨h1, h2⟩
  have hLb : Hid (LiesL 2 cK w bp (ob.B.map (·.1)) ∧ LiesL 3 cM w mp ob.M) := ⟨by rw [← hbp]; exact h.out.b, by rw [← hmp]; exact h.out.m⟩
  have hW : Hid (∀ v p c l, LB8 v p l → l.length ≤ c → l.length ≤ 2147483647 → Calls Tryd.prog 44 #[.slice p l.length c] v fun e w' => e = .returned (.bool (wholeB l)) ∧ Below v.heap.size v w') := fun v p c l h1 h2 h3 => rwhole_any v p c l h1 h2 h3
  rw [hR]
  clear hR hn' hnm' hbp hbc hmp hmc
  go_enter Tryd.func32, Tryd.ntmps32
  go_wp2
  go_loopw [3, 4] (fun a t wz => ∃ (i m : Nat) (y : World), y = wz ∧ a = .int .i64 (m : Int) ∧ t = .int .i64 (i : Int) ∧ Hid (i ≤ n ∧ m ≤ nm ∧ mrk ((plB ob.B).drop i) (ob.M.drop m) = R) ∧ Hid (Fm w [(w.heap.size, oC ob, 26)] y)) (fun _ t _ => (n - intOf t).toNat)
  case atStart => exact ⟨0, 0, _, rfl, rfl, rfl, ⟨Nat.zero_le _, Nat.zero_le _, hR'.out⟩, K0⟩
  case round =>
    obtain ⟨i, m, y, rfl, rfl, rfl, J, K⟩ := hrel
    obtain ⟨c0, c1⟩ := hd0.out y K.out
    by_cases hlt : i < n
    · obtain ⟨x, hx⟩ : ∃ x, ob.B[i]? = some x := ⟨_, List.getElem?_eq_getElem (by rw [hnn.out.1]; exact hlt)⟩
      have hxm := List.mem_of_getElem? hx
      obtain ⟨g, o, rfl, hc⟩ := hLb.out.1 i x.1 (by rw [List.getElem?_map, hx]; rfl)
      obtain ⟨g1, g2, g3, g4, g5⟩ := hg.out x hxm
      obtain ⟨lx, lxm⟩ := h.out.g x hxm
      have hd : (plB ob.B).drop i = (x.1.a, x.2) :: (plB ob.B).drop (i + 1) := by
        have h : (plB ob.B)[i]? = some (x.1.a, x.2) := by rw [List.getElem?_map, hx]; rfl
        obtain ⟨h1, e⟩ := List.getElem?_eq_some_iff.1 h
        rw [List.drop_eq_getElem_cons h1, e]
      have hI : Hid (inB ((plB ob.B).drop (i + 1)) ob.M R x.1.a x.2 none m) := by
        have h1 := J.out.2.2
        rw [hd] at h1
        show inB _ _ _ _ _ _ _
        unfold inB
        rcases e : mof x.1.a x.2 none (ob.M.drop m) with _ | k
        · have h1 : (match mof x.1.a x.2 none (ob.M.drop m) with | none => false | some k => mrk ((plB ob.B).drop (i + 1)) ((ob.M.drop m).drop k)) = R := h1
          rw [e] at h1
          exact h1.symm
        · have h1 : (match mof x.1.a x.2 none (ob.M.drop m) with | none => false | some k => mrk ((plB ob.B).drop (i + 1)) ((ob.M.drop m).drop k)) = R := h1
          rw [e] at h1
          have h1 : mrk ((plB ob.B).drop (i + 1)) ((ob.M.drop m).drop k) = R := h1
          rw [List.drop_drop] at h1
          exact h1.symm
      obtain ⟨a0, ha0⟩ : ∃ q, x.1.a = q := ⟨_, rfl⟩
      obtain ⟨L, hLm⟩ : ∃ q, x.1.m = q := ⟨_, rfl⟩
      obtain ⟨xs, hxs⟩ : ∃ q, x.1.sp = q := ⟨_, rfl⟩
      obtain ⟨xc, hxc⟩ : ∃ q, x.1.cap = q := ⟨_, rfl⟩
      obtain ⟨bs, hbs⟩ : ∃ q, x.2 = q := ⟨_, rfl⟩
      have hcb : Hid (∀ u, Fm w [(w.heap.size, oC ob, 26)] u → u.cell? ⟨g, o + i * 2, none⟩ = some (.int .i64 a0) ∧ u.cell? ⟨g, o + i * 2 + 1, none⟩ = some (.slice xs L xc)) := fun u hu => by
        have k1 := range_keep hc hu.low 0 (.int .i64 x.1.a) rfl
        have k2 := range_keep hc hu.low 1 (.slice x.1.sp x.1.m x.1.cap) rfl
        rw [Nat.add_zero, ha0] at k1
        rw [hxs, hLm, hxc] at k2
        exact ⟨k1, k2⟩
      have hlx : Hid (∀ u, Fm w [(w.heap.size, oC ob, 26)] u → LB8 u xs bs) := fun u hu => by rw [← hxs, ← hbs]; exact lx.below hu.low
      rw [ha0, hbs] at hI
      rw [ha0] at g2 g3
      rw [hLm] at g1 g4 g5 lxm
      rw [hxc] at g1
      rw [hbs] at lxm
      have hbl : Hid (bs.length = L ∧ L ≤ xc) := ⟨lxm, g1⟩
      have Li : (L : Int) ≤ 65536 := by omega
      have L0 : 1 ≤ (L : Int) := by omega
      obtain ⟨e0, e1⟩ := hcb.out y K.out
      have ij := fun w => idxP (P := Tryd.prog) (g := g) (off := o) (len := n) (cap := bc) Tryd.underlying22 (s := 2) (by kernel_rfl) .i64 i w hlt
      have hii : (i : Int) < n := by omega
      have hlt' : Hid (i < n) := hlt
      have H0 : Hid (m ≤ nm ∧ (0 : Nat) ≤ L ∧ inB ((plB ob.B).drop (i + 1)) ob.M R (a0 + (0 : Nat)) (bs.drop 0) none m) := ⟨J.out.2.1, Nat.zero_le _, by rw [List.drop_zero, show a0 + ((0 : Nat) : Int) = a0 by omega]; exact hI.out⟩
      have wA : IntKind.i64.wrap (a0 + L) = a0 + L := by rw [IntKind.wrap_i64]; omega
      clear hlt hx hxm hc lx lxm g1 g4 g5 hd ha0 hLm hxs hxc hbs hI J
      go_wp2
      go_loopw [3, 5, 7] (fun a t f wz => ∃ (m d : Nat) (F : Bool) (u : World), u = wz ∧ a = .int .i64 (m : Int) ∧ t = .int .i64 (a0 + (d : Int)) ∧ f = .bool F ∧ Hid (m ≤ nm ∧ d ≤ L ∧ (F = false → 1 ≤ m) ∧ inB ((plB ob.B).drop (i + 1)) ob.M R (a0 + (d : Int)) (bs.drop d) (if F then none else prevC ob.M m) m) ∧ Hid (Fm w [(w.heap.size, oC ob, 26)] u)) (fun _ t _ _ => (a0 + L - intOf t).toNat)
      case atStart => exact ⟨m, 0, true, _, rfl, rfl, by simp, rfl, ⟨H0.out.1, Nat.zero_le _, (fun e => by cases e), H0.out.2.2⟩, K⟩
      case round =>
        obtain ⟨m, d, F, y, rfl, rfl, rfl, rfl, J, K⟩ := hrel
        clear c0 c1 e0 e1 H0
        obtain ⟨c0, c1⟩ := hd0.out y K.out
        obtain ⟨e0, e1⟩ := hcb.out y K.out
        obtain ⟨hm1, hd1, hF, hI⟩ := J.out
        replace hI : Hid _ := hI
        have mi : (m : Int) ≤ nm := by omega
        by_cases hdL : d < L
        · have hdi : a0 + (d : Int) < a0 + L := by omega
          have hne : Hid (bs.drop d ≠ []) := fun e => by
            have := congrArg List.length e
            rw [List.length_drop, hbl.out.1] at this
            simp at this
            omega
          have hdl : Hid ((bs.drop d).length = L - d) := by show _ = _; rw [List.length_drop, hbl.out.1]
          by_cases hmn : m < nm
          · obtain ⟨mk, hmk⟩ : ∃ k, ob.M[m]? = some k := ⟨_, List.getElem?_eq_getElem (by rw [hnn.out.2]; exact hmn)⟩
            obtain ⟨mg, mo, rfl, hcm⟩ := hLb.out.2 m mk hmk
            obtain ⟨⟨ma0, ma1⟩, ⟨mn0, mn1⟩⟩ := h.out.im mk (List.mem_of_getElem? hmk)
            obtain ⟨ka, kn, kc⟩ := mk
            simp only at ma0 ma1 mn0 mn1
            have hcm' : Hid (∀ u, Fm w [(w.heap.size, oC ob, 26)] u → u.cell? ⟨mg, mo + m * 3, none⟩ = some (.int .i64 ka) ∧ u.cell? ⟨mg, mo + m * 3 + 1, none⟩ = some (.int .i64 kn) ∧ u.cell? ⟨mg, mo + m * 3 + 2, none⟩ = some (.bool kc)) := fun u hu => by
              have k0 := range_keep hcm hu.low 0 (.int .i64 ka) rfl
              rw [Nat.add_zero] at k0
              exact ⟨k0, range_keep hcm hu.low 1 (.int .i64 kn) rfl, range_keep hcm hu.low 2 (.bool kc) rfl⟩
            obtain ⟨m0, m1, m2⟩ := hcm'.out y K.out
            have im := fun w => idxP (P := Tryd.prog) (g := mg) (off := mo) (len := nm) (cap := mc) Tryd.underlying23 (s := 3) (by kernel_rfl) .i64 m w hmn
            have hme : ((m : Int) == nm) = false := by rw [beq_eq_false_iff_ne]; omega
            have hmi : (m : Int) < nm := by omega
            have hmn' : Hid (m < nm) := hmn
            have hbadM : Hid (mbad (a0 + d) (bs.drop d) (if F then none else prevC ob.M m) ⟨ka, kn, kc⟩ = true → R = false) := fun e => inB_badM hI.out hne.out hmk e
            have wE : IntKind.i64.wrap (a0 + L - (a0 + d)) = a0 + L - (a0 + d) := by rw [IntKind.wrap_i64]; omega
            by_cases hq : ka ≠ a0 + (d : Int) ∨ kn < 1 ∨ ((bs.drop d).length : Int) < kn
            · have fin : Hid (R = false) := hbadM.out (by unfold mbad; rw [decide_eq_true hq]; rfl)
              rw [hdl.out] at hq
              have q : (ka != a0 + (d : Int)) = true ∨ ((ka != a0 + (d : Int)) = false ∧ kn < 1) ∨ ((ka != a0 + (d : Int)) = false ∧ ¬ kn < 1 ∧ a0 + L - (a0 + d) < kn) := by
                by_cases e : ka = a0 + (d : Int)
                · have e' : (ka != a0 + (d : Int)) = false := by rw [bne_eq_false_iff_eq]; exact e
                  rcases hq with h | h | h
                  · exact absurd e h
                  · exact .inr (.inl ⟨e', h⟩)
                  · by_cases h2 : kn < 1
                    · exact .inr (.inl ⟨e', h2⟩)
                    · exact .inr (.inr ⟨e', h2, by omega⟩)
                · exact .inl (by rw [bne_iff_ne]; exact e)
              clear hq hmk hcm hmn hdL hm1 hd1 hF
              rcases q with q1 | ⟨q1, q2⟩ | ⟨q1, q2, q3⟩
              all_goals
                go_wp2
                go_ret
                rw [fin.out]
                exact ⟨rfl, K.out.low⟩
            · have q1 : (ka != a0 + (d : Int)) = false := by rw [bne_eq_false_iff_eq]; omega
              have q2 : ¬ kn < 1 := by omega
              have q3' : ¬ ((bs.drop d).length : Int) < kn := by omega
              rw [hdl.out] at q3'
              obtain ⟨N, hN⟩ : ∃ N : Nat, kn = (N : Int) := ⟨kn.toNat, by omega⟩
              subst hN
              have q3 : ¬ a0 + L - (a0 + d) < (N : Int) := by omega
              have hmb : Hid (mbad (a0 + d) (bs.drop d) (if F then none else prevC ob.M m) ⟨ka, N, kc⟩ = (decide ((if F then none else prevC ob.M m) = some kc) || (kc && !wholeB ((bs.drop d).take N)))) := by
                show mbad _ _ _ _ = _
                unfold mbad
                rw [decide_eq_false hq]
                simp
              have hnext : Hid (mbad (a0 + d) (bs.drop d) (if F then none else prevC ob.M m) ⟨ka, N, kc⟩ = false → inB ((plB ob.B).drop (i + 1)) ob.M R (a0 + ((d + N : Nat) : Int)) (bs.drop (d + N)) (if false then none else prevC ob.M (m + 1)) (m + 1)) := fun e => by
                have k := inB_next hI.out hne.out hmk e
                simp only [Int.toNat_natCast, List.drop_drop] at k
                rw [if_neg (by decide), prevC_next hmk, show a0 + ((d + N : Nat) : Int) = a0 + (d : Int) + N by omega]
                exact k
              have hNd : Hid (1 ≤ N ∧ d + N ≤ L) := ⟨by omega, by omega⟩
              obtain ⟨sp1, hsl, hlb⟩ := (show ∃ sp1, (∀ v, (Instr.sliceAt 33 (.slice xs L xc) (some (.int .i64 (d : Int))) (some (.int .i64 ((d : Int) + N))) none).run Tryd.prog v = .ok (.slice sp1 N (xc - d)) v) ∧ (∀ u, LB8 u xs bs → LB8 u sp1 ((bs.drop d).take N)) from by
                obtain ⟨x0, hx0⟩ : ∃ x, bs[0]? = some x := ⟨_, List.getElem?_eq_getElem (by have := hbl.out.1; omega)⟩
                obtain ⟨g9, o9, e9, _⟩ := hlx.out y K.out 0 x0 hx0
                subst e9
                obtain ⟨sp1, h1, h2⟩ := slB2 g9 o9 L xc d (d + N) (d : Int) ((d : Int) + N) rfl (by omega) (by omega) (by omega) hbl.out.2
                rw [show d + N - d = N by omega] at h1
                exact ⟨sp1, h1, fun u hu => (hu.drop d sp1 (fun _ => h2 (by omega))).take N⟩)
              have hWc : Hid (∀ u, Fm w [(w.heap.size, oC ob, 26)] u → Calls Tryd.prog 44 #[.slice sp1 N (xc - d)] u fun e w' => e = .returned (.bool (wholeB ((bs.drop d).take N))) ∧ Below u.heap.size u w') := fun u hu => by
                have hl9 : ((bs.drop d).take N).length = N := by rw [List.length_take, hdl.out]; omega
                have h9 := hW.out u sp1 (xc - d) ((bs.drop d).take N) (hlb u (hlx.out u hu)) (by rw [hl9]; have := hbl.out.2; omega) (by rw [hl9]; omega)
                rw [hl9] at h9
                exact h9
              have Ni : (N : Int) ≤ 65536 := by omega
              have wN : IntKind.i64.wrap (a0 + d + N) = a0 + d + N := by rw [IntKind.wrap_i64]; omega
              obtain ⟨wh, hwh⟩ : ∃ b, wholeB ((bs.drop d).take N) = b := ⟨_, rfl⟩
              rw [hwh] at hWc hmb
              replace hwh : Hid _ := hwh
              cases F
              · have hm1' := hF rfl
                obtain ⟨j, hkj⟩ : ∃ j, m = j + 1 := ⟨m - 1, by omega⟩
                obtain ⟨m', hm'⟩ : ∃ m', ob.M[j]? = some m' := ⟨_, List.getElem?_eq_getElem (by rw [hnn.out.2]; omega)⟩
                obtain ⟨pa, pn, pc⟩ := m'
                have hpe : prevC ob.M m = some pc := by rw [hkj]; exact prevC_next hm'
                have hprev : y.cell? ⟨mg, mo + j * 3 + 2, none⟩ = some (.bool pc) := by
                  obtain ⟨g3, o3, e3, hc3⟩ := hLb.out.2 j _ hm'
                  cases e3
                  exact range_keep hc3 K.out.low 2 _ rfl
                have ip : ∀ w, (Instr.indexAt 23 (.slice (some ⟨mg, mo, none⟩) nm mc) (.int .i64 ((m : Int) - 1))).run Tryd.prog w = .ok (.pointer (some ⟨mg, mo + j * 3, none⟩)) w := fun w => by
                  have := idxP (P := Tryd.prog) (g := mg) (off := mo) (len := nm) (cap := mc) Tryd.underlying23 (s := 3) (by kernel_rfl) .i64 j w (by omega)
                  rw [show (j : Int) = (m : Int) - 1 by omega] at this
                  exact this
                have wm : IntKind.i64.wrap ((m : Int) - 1) = (m : Int) - 1 := by rw [IntKind.wrap_i64]; omega
                have m0i : (1 : Int) ≤ m := by omega
                clear hm' hkj hm1'
                by_cases hcc : kc = pc
                · subst hcc
                  have fin : Hid (R = false) := hbadM.out (by rw [hmb.out, if_neg (by decide), hpe]; simp)
                  have qc : (kc == kc) = true := by simp
                  clear hq hmk hcm hmn hdL hm1 hd1 hF
                  go_wp2
                  go_quiet (fail)
                  go_wp2
                  go_ret
                  rw [fin.out]
                  exact ⟨rfl, below_drewN K.out.low⟩
                · have hpne : Hid (¬ (if false then none else prevC ob.M m) = some kc) := by
                    show ¬ _
                    rw [if_neg (by decide), hpe]
                    intro e
                    cases e
                    exact hcc rfl
                  have qc : (kc == pc) = false := by rw [beq_eq_false_iff_ne]; exact hcc
                  replace hpe : Hid _ := hpe
                  clear hcc
                  cases kc
                  · have J9 : Hid (inB ((plB ob.B).drop (i + 1)) ob.M R (a0 + ((d + N : Nat) : Int)) (bs.drop (d + N)) (if false then none else prevC ob.M (m + 1)) (m + 1)) := hnext.out (by rw [hmb.out, decide_eq_false hpne.out]; simp)
                    clear hq hmk hcm hmn hdL hm1 hd1 hF
                    go_wp2
                    go_quiet (fail)
                    go_wp2
                    refine region_class_tail 39 (Fm w [(w.heap.size, oC ob, 26)]) (by kernel_rfl) (by kernel_rfl) (K.out.below (below_drew (below_drewN (Below.refl _ _)))) ?_
                    simp only [List.take_succ_cons, List.take_zero, List.drop_succ_cons, List.drop_zero]
                    with_reducible refine quiet_one (.pointer (some ⟨w.heap.size, 1, none⟩)) ?_ ?_ ?_
                    · kernel_rfl
                    · intro u hy
                      go_simp
                      all_goals (first | omega | (rw [IntKind.wrap_i64]; omega))
                    with_reducible refine quiet_one (.slice (some ⟨mg, mo, none⟩) nm mc) ?_ ?_ ?_
                    · kernel_rfl
                    · intro u hy
                      have t1 := (hd0.out u hy).2
                      go_simp
                    with_reducible refine quiet_one (.int .i64 (m : Int)) ?_ ?_ ?_
                    · kernel_rfl
                    · intro u hy
                      go_simp
                      all_goals (first | omega | (rw [IntKind.wrap_i64]; omega))
                    with_reducible refine quiet_one (.pointer (some ⟨mg, mo + m * 3, none⟩)) ?_ ?_ ?_
                    · kernel_rfl
                    · intro u hy
                      go_simp
                      all_goals (first | omega | (rw [IntKind.wrap_i64]; omega))
                    with_reducible refine quiet_one (.pointer (some ⟨mg, mo + m * 3 + 2, none⟩)) ?_ ?_ ?_
                    · kernel_rfl
                    · intro u hy
                      go_simp
                      all_goals (first | omega | (rw [IntKind.wrap_i64]; omega))
                    with_reducible refine quiet_one (.bool false) ?_ ?_ ?_
                    · kernel_rfl
                    · intro u hy
                      have t1 := (hcm'.out u hy).2.2
                      go_simp
                    with_reducible refine quiet_one (.bool false) ?_ ?_ ?_
                    · kernel_rfl
                    · intro u hy
                      go_simp
                      all_goals (first | omega | (rw [IntKind.wrap_i64]; omega))
                    with_reducible refine quiet_skip ?_ ?_
                    · kernel_rfl
                    with_reducible refine quiet_skip ?_ ?_
                    · kernel_rfl
                    with_reducible refine quiet_skip ?_ ?_
                    · kernel_rfl
                    with_reducible refine quiet_skip ?_ ?_
                    · kernel_rfl
                    with_reducible refine quiet_skip ?_ ?_
                    · kernel_rfl
                    with_reducible refine quiet_skip ?_ ?_
                    · kernel_rfl
                    with_reducible refine quiet_skip ?_ ?_
                    · kernel_rfl
                    with_reducible refine quiet_skip ?_ ?_
                    · kernel_rfl
                    with_reducible refine quiet_skip ?_ ?_
                    · kernel_rfl
                    with_reducible refine quiet_skip ?_ ?_
                    · kernel_rfl
                    with_reducible refine quiet_skip ?_ ?_
                    · kernel_rfl
                    with_reducible refine quiet_skip ?_ ?_
                    · kernel_rfl
                    with_reducible refine quiet_skip ?_ ?_
                    · kernel_rfl
                    with_reducible refine quiet_skip ?_ ?_
                    · kernel_rfl
                    with_reducible refine quiet_skip ?_ ?_
                    · kernel_rfl
                    with_reducible refine quiet_skip ?_ ?_
                    · kernel_rfl
                    with_reducible refine quiet_skip ?_ ?_
                    · kernel_rfl
                    with_reducible refine quiet_skip ?_ ?_
                    · kernel_rfl
                    with_reducible refine quiet_skip ?_ ?_
                    · kernel_rfl
                    with_reducible refine quiet_skip ?_ ?_
                    · kernel_rfl
                    with_reducible refine quiet_skip ?_ ?_
                    · kernel_rfl
                    with_reducible refine quiet_skip ?_ ?_
                    · kernel_rfl
                    with_reducible refine quiet_skip ?_ ?_
                    · kernel_rfl
                    with_reducible refine quiet_skip ?_ ?_
                    · kernel_rfl
                    with_reducible refine quiet_skip ?_ ?_
                    · kernel_rfl
                    with_reducible refine quiet_skip ?_ ?_
                    · kernel_rfl
                    with_reducible refine quiet_skip ?_ ?_
                    · kernel_rfl
                    with_reducible refine quiet_skip ?_ ?_
                    · kernel_rfl
                    with_reducible refine quiet_skip ?_ ?_
                    · kernel_rfl
                    with_reducible refine quiet_skip ?_ ?_
                    · kernel_rfl
                    with_reducible refine quiet_skip ?_ ?_
                    · kernel_rfl
                    with_reducible refine quiet_skip ?_ ?_
                    · kernel_rfl
                    refine wpQuiet_nil ?_
                    intro z0 Z0
                    replace Z0 : Hid _ := Z0
                    go_simp
                    obtain ⟨b1, b2⟩ := hd0.out z0 Z0.out
                    obtain ⟨n0, n1, n2⟩ := hcm'.out z0 Z0.out
                    go_wp2
                    go_roundw
                    case rel => exact ⟨m + 1, d + N, false, _, rfl, by simp, by rw [show a0 + ((d + N : Nat) : Int) = a0 + (d : Int) + N by omega], rfl, ⟨hmn'.out, hNd.out.2, fun _ => by omega, J9.out⟩, Z0⟩
                    case measure => have := hNd.out; simp [intOf]; omega
                  · cases wh
                    · have fin : Hid (R = false) := hbadM.out (by rw [hmb.out]; simp)
                      clear hq hmk hcm hmn hdL hm1 hd1 hF
                      go_wp2
                      go_quiet (fail)
                      go_wp2
                      refine region_class_tail 39 (Fm w [(w.heap.size, oC ob, 26)]) (by kernel_rfl) (by kernel_rfl) (K.out.below (below_drew (below_drewN (Below.refl _ _)))) ?_
                      simp only [List.take_succ_cons, List.take_zero, List.drop_succ_cons, List.drop_zero]
                      with_reducible refine quiet_one (.pointer (some ⟨w.heap.size, 1, none⟩)) ?_ ?_ ?_
                      · kernel_rfl
                      · intro u hy
                        go_simp
                        all_goals (first | omega | (rw [IntKind.wrap_i64]; omega))
                      with_reducible refine quiet_one (.slice (some ⟨mg, mo, none⟩) nm mc) ?_ ?_ ?_
                      · kernel_rfl
                      · intro u hy
                        have t1 := (hd0.out u hy).2
                        go_simp
                      with_reducible refine quiet_one (.int .i64 (m : Int)) ?_ ?_ ?_
                      · kernel_rfl
                      · intro u hy
                        go_simp
                        all_goals (first | omega | (rw [IntKind.wrap_i64]; omega))
                      with_reducible refine quiet_one (.pointer (some ⟨mg, mo + m * 3, none⟩)) ?_ ?_ ?_
                      · kernel_rfl
                      · intro u hy
                        go_simp
                        all_goals (first | omega | (rw [IntKind.wrap_i64]; omega))
                      with_reducible refine quiet_one (.pointer (some ⟨mg, mo + m * 3 + 2, none⟩)) ?_ ?_ ?_
                      · kernel_rfl
                      · intro u hy
                        go_simp
                        all_goals (first | omega | (rw [IntKind.wrap_i64]; omega))
                      with_reducible refine quiet_one (.bool true) ?_ ?_ ?_
                      · kernel_rfl
                      · intro u hy
                        have t1 := (hcm'.out u hy).2.2
                        go_simp
                      with_reducible refine quiet_one (.bool true) ?_ ?_ ?_
                      · kernel_rfl
                      · intro u hy
                        go_simp
                        all_goals (first | omega | (rw [IntKind.wrap_i64]; omega))
                      with_reducible refine quiet_one (.pointer (some ⟨w.heap.size, 0, none⟩)) ?_ ?_ ?_
                      · kernel_rfl
                      · intro u hy
                        go_simp
                        all_goals (first | omega | (rw [IntKind.wrap_i64]; omega))
                      with_reducible refine quiet_one (.slice (some ⟨g, o, none⟩) n bc) ?_ ?_ ?_
                      · kernel_rfl
                      · intro u hy
                        have t1 := (hd0.out u hy).1
                        go_simp
                      with_reducible refine quiet_one (.int .i64 (i : Int)) ?_ ?_ ?_
                      · kernel_rfl
                      · intro u hy
                        go_simp
                        all_goals (first | omega | (rw [IntKind.wrap_i64]; omega))
                      with_reducible refine quiet_one (.pointer (some ⟨g, o + i * 2, none⟩)) ?_ ?_ ?_
                      · kernel_rfl
                      · intro u hy
                        go_simp
                        all_goals (first | omega | (rw [IntKind.wrap_i64]; omega))
                      with_reducible refine quiet_one (.pointer (some ⟨g, o + i * 2 + 1, none⟩)) ?_ ?_ ?_
                      · kernel_rfl
                      · intro u hy
                        go_simp
                        all_goals (first | omega | (rw [IntKind.wrap_i64]; omega))
                      with_reducible refine quiet_one (.slice xs L xc) ?_ ?_ ?_
                      · kernel_rfl
                      · intro u hy
                        have t1 := (hcb.out u hy).2
                        go_simp
                      with_reducible refine quiet_one (.int .i64 (a0 + (d : Int))) ?_ ?_ ?_
                      · kernel_rfl
                      · intro u hy
                        go_simp
                        all_goals (first | omega | (rw [IntKind.wrap_i64]; omega))
                      with_reducible refine quiet_one (.pointer (some ⟨w.heap.size, 0, none⟩)) ?_ ?_ ?_
                      · kernel_rfl
                      · intro u hy
                        go_simp
                        all_goals (first | omega | (rw [IntKind.wrap_i64]; omega))
                      with_reducible refine quiet_one (.slice (some ⟨g, o, none⟩) n bc) ?_ ?_ ?_
                      · kernel_rfl
                      · intro u hy
                        have t1 := (hd0.out u hy).1
                        go_simp
                      with_reducible refine quiet_one (.int .i64 (i : Int)) ?_ ?_ ?_
                      · kernel_rfl
                      · intro u hy
                        go_simp
                        all_goals (first | omega | (rw [IntKind.wrap_i64]; omega))
                      with_reducible refine quiet_one (.pointer (some ⟨g, o + i * 2, none⟩)) ?_ ?_ ?_
                      · kernel_rfl
                      · intro u hy
                        go_simp
                        all_goals (first | omega | (rw [IntKind.wrap_i64]; omega))
                      with_reducible refine quiet_one (.pointer (some ⟨g, o + i * 2, none⟩)) ?_ ?_ ?_
                      · kernel_rfl
                      · intro u hy
                        go_simp
                        all_goals (first | omega | (rw [IntKind.wrap_i64]; omega))
                      with_reducible refine quiet_one (.int .i64 a0) ?_ ?_ ?_
                      · kernel_rfl
                      · intro u hy
                        have t1 := (hcb.out u hy).1
                        go_simp
                      with_reducible refine quiet_one (.int .i64 (d : Int)) ?_ ?_ ?_
                      · kernel_rfl
                      · intro u hy
                        go_simp
                        all_goals (first | omega | (rw [IntKind.wrap_i64]; omega))
                      with_reducible refine quiet_one (.int .i64 (a0 + (d : Int))) ?_ ?_ ?_
                      · kernel_rfl
                      · intro u hy
                        go_simp
                        all_goals (first | omega | (rw [IntKind.wrap_i64]; omega))
                      with_reducible refine quiet_one (.pointer (some ⟨w.heap.size, 0, none⟩)) ?_ ?_ ?_
                      · kernel_rfl
                      · intro u hy
                        go_simp
                        all_goals (first | omega | (rw [IntKind.wrap_i64]; omega))
                      with_reducible refine quiet_one (.slice (some ⟨g, o, none⟩) n bc) ?_ ?_ ?_
                      · kernel_rfl
                      · intro u hy
                        have t1 := (hd0.out u hy).1
                        go_simp
                      with_reducible refine quiet_one (.int .i64 (i : Int)) ?_ ?_ ?_
                      · kernel_rfl
                      · intro u hy
                        go_simp
                        all_goals (first | omega | (rw [IntKind.wrap_i64]; omega))
                      with_reducible refine quiet_one (.pointer (some ⟨g, o + i * 2, none⟩)) ?_ ?_ ?_
                      · kernel_rfl
                      · intro u hy
                        go_simp
                        all_goals (first | omega | (rw [IntKind.wrap_i64]; omega))
                      with_reducible refine quiet_one (.pointer (some ⟨g, o + i * 2, none⟩)) ?_ ?_ ?_
                      · kernel_rfl
                      · intro u hy
                        go_simp
                        all_goals (first | omega | (rw [IntKind.wrap_i64]; omega))
                      with_reducible refine quiet_one (.int .i64 a0) ?_ ?_ ?_
                      · kernel_rfl
                      · intro u hy
                        have t1 := (hcb.out u hy).1
                        go_simp
                      with_reducible refine quiet_one (.int .i64 (d : Int)) ?_ ?_ ?_
                      · kernel_rfl
                      · intro u hy
                        go_simp
                        all_goals (first | omega | (rw [IntKind.wrap_i64]; omega))
                      with_reducible refine quiet_one (.pointer (some ⟨w.heap.size, 1, none⟩)) ?_ ?_ ?_
                      · kernel_rfl
                      · intro u hy
                        go_simp
                        all_goals (first | omega | (rw [IntKind.wrap_i64]; omega))
                      with_reducible refine quiet_one (.slice (some ⟨mg, mo, none⟩) nm mc) ?_ ?_ ?_
                      · kernel_rfl
                      · intro u hy
                        have t1 := (hd0.out u hy).2
                        go_simp
                      with_reducible refine quiet_one (.int .i64 (m : Int)) ?_ ?_ ?_
                      · kernel_rfl
                      · intro u hy
                        go_simp
                        all_goals (first | omega | (rw [IntKind.wrap_i64]; omega))
                      with_reducible refine quiet_one (.pointer (some ⟨mg, mo + m * 3, none⟩)) ?_ ?_ ?_
                      · kernel_rfl
                      · intro u hy
                        go_simp
                        all_goals (first | omega | (rw [IntKind.wrap_i64]; omega))
                      with_reducible refine quiet_one (.pointer (some ⟨mg, mo + m * 3 + 1, none⟩)) ?_ ?_ ?_
                      · kernel_rfl
                      · intro u hy
                        go_simp
                        all_goals (first | omega | (rw [IntKind.wrap_i64]; omega))
                      with_reducible refine quiet_one (.int .i64 (N : Int)) ?_ ?_ ?_
                      · kernel_rfl
                      · intro u hy
                        have t1 := (hcm'.out u hy).2.1
                        go_simp
                      with_reducible refine quiet_one (.int .i64 ((d : Int) + N)) ?_ ?_ ?_
                      · kernel_rfl
                      · intro u hy
                        go_simp
                        all_goals (first | omega | (rw [IntKind.wrap_i64]; omega))
                      with_reducible refine quiet_one (.slice sp1 N (xc - d)) ?_ ?_ ?_
                      · kernel_rfl
                      · intro u hy
                        go_simp
                        all_goals (first | omega | (rw [IntKind.wrap_i64]; omega))
                      with_reducible refine quiet_one (.bool false) ?_ ?_ ?_
                      · kernel_rfl
                      · intro u hy
                        have dd := (hWc.out u hy).mono fun e w' (h : _ ∧ _) => And.intro h.1 (hy.below h.2)
                        go_simp
                        all_goals exact dd
                      with_reducible refine quiet_one (.bool true) ?_ ?_ ?_
                      · kernel_rfl
                      · intro u hy
                        go_simp
                        all_goals (first | omega | (rw [IntKind.wrap_i64]; omega))
                      refine wpQuiet_nil ?_
                      intro z0 Z0
                      replace Z0 : Hid _ := Z0
                      go_simp
                      go_wp2
                      go_ret
                      rw [fin.out]
                      exact ⟨rfl, Z0.out.low⟩
                    · have J9 : Hid (inB ((plB ob.B).drop (i + 1)) ob.M R (a0 + ((d + N : Nat) : Int)) (bs.drop (d + N)) (if false then none else prevC ob.M (m + 1)) (m + 1)) := hnext.out (by rw [hmb.out, decide_eq_false hpne.out]; simp)
                      clear hq hmk hcm hmn hdL hm1 hd1 hF
                      go_wp2
                      go_quiet (fail)
                      go_wp2
                      refine region_class_tail 39 (Fm w [(w.heap.size, oC ob, 26)]) (by kernel_rfl) (by kernel_rfl) (K.out.below (below_drew (below_drewN (Below.refl _ _)))) ?_
                      simp only [List.take_succ_cons, List.take_zero, List.drop_succ_cons, List.drop_zero]
                      with_reducible refine quiet_one (.pointer (some ⟨w.heap.size, 1, none⟩)) ?_ ?_ ?_
                      · kernel_rfl
                      · intro u hy
                        go_simp
                        all_goals (first | omega | (rw [IntKind.wrap_i64]; omega))
                      with_reducible refine quiet_one (.slice (some ⟨mg, mo, none⟩) nm mc) ?_ ?_ ?_
                      · kernel_rfl
                      · intro u hy
                        have t1 := (hd0.out u hy).2
                        go_simp
                      with_reducible refine quiet_one (.int .i64 (m : Int)) ?_ ?_ ?_
                      · kernel_rfl
                      · intro u hy
                        go_simp
                        all_goals (first | omega | (rw [IntKind.wrap_i64]; omega))
                      with_reducible refine quiet_one (.pointer (some ⟨mg, mo + m * 3, none⟩)) ?_ ?_ ?_
                      · kernel_rfl
                      · intro u hy
                        go_simp
                        all_goals (first | omega | (rw [IntKind.wrap_i64]; omega))
                      with_reducible refine quiet_one (.pointer (some ⟨mg, mo + m * 3 + 2, none⟩)) ?_ ?_ ?_
                      · kernel_rfl
                      · intro u hy
                        go_simp
                        all_goals (first | omega | (rw [IntKind.wrap_i64]; omega))
                      with_reducible refine quiet_one (.bool true) ?_ ?_ ?_
                      · kernel_rfl
                      · intro u hy
                        have t1 := (hcm'.out u hy).2.2
                        go_simp
                      with_reducible refine quiet_one (.bool true) ?_ ?_ ?_
                      · kernel_rfl
                      · intro u hy
                        go_simp
                        all_goals (first | omega | (rw [IntKind.wrap_i64]; omega))
                      with_reducible refine quiet_one (.pointer (some ⟨w.heap.size, 0, none⟩)) ?_ ?_ ?_
                      · kernel_rfl
                      · intro u hy
                        go_simp
                        all_goals (first | omega | (rw [IntKind.wrap_i64]; omega))
                      with_reducible refine quiet_one (.slice (some ⟨g, o, none⟩) n bc) ?_ ?_ ?_
                      · kernel_rfl
                      · intro u hy
                        have t1 := (hd0.out u hy).1
                        go_simp
                      with_reducible refine quiet_one (.int .i64 (i : Int)) ?_ ?_ ?_
                      · kernel_rfl
                      · intro u hy
                        go_simp
                        all_goals (first | omega | (rw [IntKind.wrap_i64]; omega))
                      with_reducible refine quiet_one (.pointer (some ⟨g, o + i * 2, none⟩)) ?_ ?_ ?_
                      · kernel_rfl
                      · intro u hy
                        go_simp
                        all_goals (first | omega | (rw [IntKind.wrap_i64]; omega))
                      with_reducible refine quiet_one (.pointer (some ⟨g, o + i * 2 + 1, none⟩)) ?_ ?_ ?_
                      · kernel_rfl
                      · intro u hy
                        go_simp
                        all_goals (first | omega | (rw [IntKind.wrap_i64]; omega))
                      with_reducible refine quiet_one (.slice xs L xc) ?_ ?_ ?_
                      · kernel_rfl
                      · intro u hy
                        have t1 := (hcb.out u hy).2
                        go_simp
                      with_reducible refine quiet_one (.int .i64 (a0 + (d : Int))) ?_ ?_ ?_
                      · kernel_rfl
                      · intro u hy
                        go_simp
                        all_goals (first | omega | (rw [IntKind.wrap_i64]; omega))
                      with_reducible refine quiet_one (.pointer (some ⟨w.heap.size, 0, none⟩)) ?_ ?_ ?_
                      · kernel_rfl
                      · intro u hy
                        go_simp
                        all_goals (first | omega | (rw [IntKind.wrap_i64]; omega))
                      with_reducible refine quiet_one (.slice (some ⟨g, o, none⟩) n bc) ?_ ?_ ?_
                      · kernel_rfl
                      · intro u hy
                        have t1 := (hd0.out u hy).1
                        go_simp
                      with_reducible refine quiet_one (.int .i64 (i : Int)) ?_ ?_ ?_
                      · kernel_rfl
                      · intro u hy
                        go_simp
                        all_goals (first | omega | (rw [IntKind.wrap_i64]; omega))
                      with_reducible refine quiet_one (.pointer (some ⟨g, o + i * 2, none⟩)) ?_ ?_ ?_
                      · kernel_rfl
                      · intro u hy
                        go_simp
                        all_goals (first | omega | (rw [IntKind.wrap_i64]; omega))
                      with_reducible refine quiet_one (.pointer (some ⟨g, o + i * 2, none⟩)) ?_ ?_ ?_
                      · kernel_rfl
                      · intro u hy
                        go_simp
                        all_goals (first | omega | (rw [IntKind.wrap_i64]; omega))
                      with_reducible refine quiet_one (.int .i64 a0) ?_ ?_ ?_
                      · kernel_rfl
                      · intro u hy
                        have t1 := (hcb.out u hy).1
                        go_simp
                      with_reducible refine quiet_one (.int .i64 (d : Int)) ?_ ?_ ?_
                      · kernel_rfl
                      · intro u hy
                        go_simp
                        all_goals (first | omega | (rw [IntKind.wrap_i64]; omega))
                      with_reducible refine quiet_one (.int .i64 (a0 + (d : Int))) ?_ ?_ ?_
                      · kernel_rfl
                      · intro u hy
                        go_simp
                        all_goals (first | omega | (rw [IntKind.wrap_i64]; omega))
                      with_reducible refine quiet_one (.pointer (some ⟨w.heap.size, 0, none⟩)) ?_ ?_ ?_
                      · kernel_rfl
                      · intro u hy
                        go_simp
                        all_goals (first | omega | (rw [IntKind.wrap_i64]; omega))
                      with_reducible refine quiet_one (.slice (some ⟨g, o, none⟩) n bc) ?_ ?_ ?_
                      · kernel_rfl
                      · intro u hy
                        have t1 := (hd0.out u hy).1
                        go_simp
                      with_reducible refine quiet_one (.int .i64 (i : Int)) ?_ ?_ ?_
                      · kernel_rfl
                      · intro u hy
                        go_simp
                        all_goals (first | omega | (rw [IntKind.wrap_i64]; omega))
                      with_reducible refine quiet_one (.pointer (some ⟨g, o + i * 2, none⟩)) ?_ ?_ ?_
                      · kernel_rfl
                      · intro u hy
                        go_simp
                        all_goals (first | omega | (rw [IntKind.wrap_i64]; omega))
                      with_reducible refine quiet_one (.pointer (some ⟨g, o + i * 2, none⟩)) ?_ ?_ ?_
                      · kernel_rfl
                      · intro u hy
                        go_simp
                        all_goals (first | omega | (rw [IntKind.wrap_i64]; omega))
                      with_reducible refine quiet_one (.int .i64 a0) ?_ ?_ ?_
                      · kernel_rfl
                      · intro u hy
                        have t1 := (hcb.out u hy).1
                        go_simp
                      with_reducible refine quiet_one (.int .i64 (d : Int)) ?_ ?_ ?_
                      · kernel_rfl
                      · intro u hy
                        go_simp
                        all_goals (first | omega | (rw [IntKind.wrap_i64]; omega))
                      with_reducible refine quiet_one (.pointer (some ⟨w.heap.size, 1, none⟩)) ?_ ?_ ?_
                      · kernel_rfl
                      · intro u hy
                        go_simp
                        all_goals (first | omega | (rw [IntKind.wrap_i64]; omega))
                      with_reducible refine quiet_one (.slice (some ⟨mg, mo, none⟩) nm mc) ?_ ?_ ?_
                      · kernel_rfl
                      · intro u hy
                        have t1 := (hd0.out u hy).2
                        go_simp
                      with_reducible refine quiet_one (.int .i64 (m : Int)) ?_ ?_ ?_
                      · kernel_rfl
                      · intro u hy
                        go_simp
                        all_goals (first | omega | (rw [IntKind.wrap_i64]; omega))
                      with_reducible refine quiet_one (.pointer (some ⟨mg, mo + m * 3, none⟩)) ?_ ?_ ?_
                      · kernel_rfl
                      · intro u hy
                        go_simp
                        all_goals (first | omega | (rw [IntKind.wrap_i64]; omega))
                      with_reducible refine quiet_one (.pointer (some ⟨mg, mo + m * 3 + 1, none⟩)) ?_ ?_ ?_
                      · kernel_rfl
                      · intro u hy
                        go_simp
                        all_goals (first | omega | (rw [IntKind.wrap_i64]; omega))
                      with_reducible refine quiet_one (.int .i64 (N : Int)) ?_ ?_ ?_
                      · kernel_rfl
                      · intro u hy
                        have t1 := (hcm'.out u hy).2.1
                        go_simp
                      with_reducible refine quiet_one (.int .i64 ((d : Int) + N)) ?_ ?_ ?_
                      · kernel_rfl
                      · intro u hy
                        go_simp
                        all_goals (first | omega | (rw [IntKind.wrap_i64]; omega))
                      with_reducible refine quiet_one (.slice sp1 N (xc - d)) ?_ ?_ ?_
                      · kernel_rfl
                      · intro u hy
                        go_simp
                        all_goals (first | omega | (rw [IntKind.wrap_i64]; omega))
                      with_reducible refine quiet_one (.bool true) ?_ ?_ ?_
                      · kernel_rfl
                      · intro u hy
                        have dd := (hWc.out u hy).mono fun e w' (h : _ ∧ _) => And.intro h.1 (hy.below h.2)
                        go_simp
                        all_goals exact dd
                      with_reducible refine quiet_one (.bool false) ?_ ?_ ?_
                      · kernel_rfl
                      · intro u hy
                        go_simp
                        all_goals (first | omega | (rw [IntKind.wrap_i64]; omega))
                      refine wpQuiet_nil ?_
                      intro z0 Z0
                      replace Z0 : Hid _ := Z0
                      go_simp
                      obtain ⟨b1, b2⟩ := hd0.out z0 Z0.out
                      obtain ⟨n0, n1, n2⟩ := hcm'.out z0 Z0.out
                      go_wp2
                      go_roundw
                      case rel => exact ⟨m + 1, d + N, false, _, rfl, by simp, by rw [show a0 + ((d + N : Nat) : Int) = a0 + (d : Int) + N by omega], rfl, ⟨hmn'.out, hNd.out.2, fun _ => by omega, J9.out⟩, Z0⟩
                      case measure => have := hNd.out; simp [intOf]; omega
              · have hpne : Hid (¬ (if true then none else prevC ob.M m) = some kc) := by show ¬ _; simp
                cases kc
                · have J9 : Hid (inB ((plB ob.B).drop (i + 1)) ob.M R (a0 + ((d + N : Nat) : Int)) (bs.drop (d + N)) (if false then none else prevC ob.M (m + 1)) (m + 1)) := hnext.out (by rw [hmb.out, decide_eq_false hpne.out]; simp)
                  clear hq hmk hcm hmn hdL hm1 hd1 hF
                  go_wp2
                  go_quiet (fail)
                  go_wp2
                  refine region_class_tail 39 (Fm w [(w.heap.size, oC ob, 26)]) (by kernel_rfl) (by kernel_rfl) (K.out.below (below_drew (below_drewN (Below.refl _ _)))) ?_
                  simp only [List.take_succ_cons, List.take_zero, List.drop_succ_cons, List.drop_zero]
                  with_reducible refine quiet_one (.pointer (some ⟨w.heap.size, 1, none⟩)) ?_ ?_ ?_
                  · kernel_rfl
                  · intro u hy
                    go_simp
                    all_goals (first | omega | (rw [IntKind.wrap_i64]; omega))
                  with_reducible refine quiet_one (.slice (some ⟨mg, mo, none⟩) nm mc) ?_ ?_ ?_
                  · kernel_rfl
                  · intro u hy
                    have t1 := (hd0.out u hy).2
                    go_simp
                  with_reducible refine quiet_one (.int .i64 (m : Int)) ?_ ?_ ?_
                  · kernel_rfl
                  · intro u hy
                    go_simp
                    all_goals (first | omega | (rw [IntKind.wrap_i64]; omega))
                  with_reducible refine quiet_one (.pointer (some ⟨mg, mo + m * 3, none⟩)) ?_ ?_ ?_
                  · kernel_rfl
                  · intro u hy
                    go_simp
                    all_goals (first | omega | (rw [IntKind.wrap_i64]; omega))
                  with_reducible refine quiet_one (.pointer (some ⟨mg, mo + m * 3 + 2, none⟩)) ?_ ?_ ?_
                  · kernel_rfl
                  · intro u hy
                    go_simp
                    all_goals (first | omega | (rw [IntKind.wrap_i64]; omega))
                  with_reducible refine quiet_one (.bool false) ?_ ?_ ?_
                  · kernel_rfl
                  · intro u hy
                    have t1 := (hcm'.out u hy).2.2
                    go_simp
                  with_reducible refine quiet_one (.bool false) ?_ ?_ ?_
                  · kernel_rfl
                  · intro u hy
                    go_simp
                    all_goals (first | omega | (rw [IntKind.wrap_i64]; omega))
                  with_reducible refine quiet_skip ?_ ?_
                  · kernel_rfl
                  with_reducible refine quiet_skip ?_ ?_
                  · kernel_rfl
                  with_reducible refine quiet_skip ?_ ?_
                  · kernel_rfl
                  with_reducible refine quiet_skip ?_ ?_
                  · kernel_rfl
                  with_reducible refine quiet_skip ?_ ?_
                  · kernel_rfl
                  with_reducible refine quiet_skip ?_ ?_
                  · kernel_rfl
                  with_reducible refine quiet_skip ?_ ?_
                  · kernel_rfl
                  with_reducible refine quiet_skip ?_ ?_
                  · kernel_rfl
                  with_reducible refine quiet_skip ?_ ?_
                  · kernel_rfl
                  with_reducible refine quiet_skip ?_ ?_
                  · kernel_rfl
                  with_reducible refine quiet_skip ?_ ?_
                  · kernel_rfl
                  with_reducible refine quiet_skip ?_ ?_
                  · kernel_rfl
                  with_reducible refine quiet_skip ?_ ?_
                  · kernel_rfl
                  with_reducible refine quiet_skip ?_ ?_
                  · kernel_rfl
                  with_reducible refine quiet_skip ?_ ?_
                  · kernel_rfl
                  with_reducible refine quiet_skip ?_ ?_
                  · kernel_rfl
                  with_reducible refine quiet_skip ?_ ?_
                  · kernel_rfl
                  with_reducible refine quiet_skip ?_ ?_
                  · kernel_rfl
                  with_reducible refine quiet_skip ?_ ?_
                  · kernel_rfl
                  with_reducible refine quiet_skip ?_ ?_
                  · kernel_rfl
                  with_reducible refine quiet_skip ?_ ?_
                  · kernel_rfl
                  with_reducible refine quiet_skip ?_ ?_
                  · kernel_rfl
                  with_reducible refine quiet_skip ?_ ?_
                  · kernel_rfl
                  with_reducible refine quiet_skip ?_ ?_
                  · kernel_rfl
                  with_reducible refine quiet_skip ?_ ?_
                  · kernel_rfl
                  with_reducible refine quiet_skip ?_ ?_
                  · kernel_rfl
                  with_reducible refine quiet_skip ?_ ?_
                  · kernel_rfl
                  with_reducible refine quiet_skip ?_ ?_
                  · kernel_rfl
                  with_reducible refine quiet_skip ?_ ?_
                  · kernel_rfl
                  with_reducible refine quiet_skip ?_ ?_
                  · kernel_rfl
                  with_reducible refine quiet_skip ?_ ?_
                  · kernel_rfl
                  with_reducible refine quiet_skip ?_ ?_
                  · kernel_rfl
                  refine wpQuiet_nil ?_
                  intro z0 Z0
                  replace Z0 : Hid _ := Z0
                  go_simp
                  obtain ⟨b1, b2⟩ := hd0.out z0 Z0.out
                  obtain ⟨n0, n1, n2⟩ := hcm'.out z0 Z0.out
                  go_wp2
                  go_roundw
                  case rel => exact ⟨m + 1, d + N, false, _, rfl, by simp, by rw [show a0 + ((d + N : Nat) : Int) = a0 + (d : Int) + N by omega], rfl, ⟨hmn'.out, hNd.out.2, fun _ => by omega, J9.out⟩, Z0⟩
                  case measure => have := hNd.out; simp [intOf]; omega
                · cases wh
                  · have fin : Hid (R = false) := hbadM.out (by rw [hmb.out]; simp)
                    clear hq hmk hcm hmn hdL hm1 hd1 hF
                    go_wp2
                    go_quiet (fail)
                    go_wp2
                    refine region_class_tail 39 (Fm w [(w.heap.size, oC ob, 26)]) (by kernel_rfl) (by kernel_rfl) (K.out.below (below_drew (below_drewN (Below.refl _ _)))) ?_
                    simp only [List.take_succ_cons, List.take_zero, List.drop_succ_cons, List.drop_zero]
                    with_reducible refine quiet_one (.pointer (some ⟨w.heap.size, 1, none⟩)) ?_ ?_ ?_
                    · kernel_rfl
                    · intro u hy
                      go_simp
                      all_goals (first | omega | (rw [IntKind.wrap_i64]; omega))
                    with_reducible refine quiet_one (.slice (some ⟨mg, mo, none⟩) nm mc) ?_ ?_ ?_
                    · kernel_rfl
                    · intro u hy
                      have t1 := (hd0.out u hy).2
                      go_simp
                    with_reducible refine quiet_one (.int .i64 (m : Int)) ?_ ?_ ?_
                    · kernel_rfl
                    · intro u hy
                      go_simp
                      all_goals (first | omega | (rw [IntKind.wrap_i64]; omega))
                    with_reducible refine quiet_one (.pointer (some ⟨mg, mo + m * 3, none⟩)) ?_ ?_ ?_
                    · kernel_rfl
                    · intro u hy
                      go_simp
                      all_goals (first | omega | (rw [IntKind.wrap_i64]; omega))
                    with_reducible refine quiet_one (.pointer (some ⟨mg, mo + m * 3 + 2, none⟩)) ?_ ?_ ?_
                    · kernel_rfl
                    · intro u hy
                      go_simp
                      all_goals (first | omega | (rw [IntKind.wrap_i64]; omega))
                    with_reducible refine quiet_one (.bool true) ?_ ?_ ?_
                    · kernel_rfl
                    · intro u hy
                      have t1 := (hcm'.out u hy).2.2
                      go_simp
                    with_reducible refine quiet_one (.bool true) ?_ ?_ ?_
                    · kernel_rfl
                    · intro u hy
                      go_simp
                      all_goals (first | omega | (rw [IntKind.wrap_i64]; omega))
                    with_reducible refine quiet_one (.pointer (some ⟨w.heap.size, 0, none⟩)) ?_ ?_ ?_
                    · kernel_rfl
                    · intro u hy
                      go_simp
                      all_goals (first | omega | (rw [IntKind.wrap_i64]; omega))
                    with_reducible refine quiet_one (.slice (some ⟨g, o, none⟩) n bc) ?_ ?_ ?_
                    · kernel_rfl
                    · intro u hy
                      have t1 := (hd0.out u hy).1
                      go_simp
                    with_reducible refine quiet_one (.int .i64 (i : Int)) ?_ ?_ ?_
                    · kernel_rfl
                    · intro u hy
                      go_simp
                      all_goals (first | omega | (rw [IntKind.wrap_i64]; omega))
                    with_reducible refine quiet_one (.pointer (some ⟨g, o + i * 2, none⟩)) ?_ ?_ ?_
                    · kernel_rfl
                    · intro u hy
                      go_simp
                      all_goals (first | omega | (rw [IntKind.wrap_i64]; omega))
                    with_reducible refine quiet_one (.pointer (some ⟨g, o + i * 2 + 1, none⟩)) ?_ ?_ ?_
                    · kernel_rfl
                    · intro u hy
                      go_simp
                      all_goals (first | omega | (rw [IntKind.wrap_i64]; omega))
                    with_reducible refine quiet_one (.slice xs L xc) ?_ ?_ ?_
                    · kernel_rfl
                    · intro u hy
                      have t1 := (hcb.out u hy).2
                      go_simp
                    with_reducible refine quiet_one (.int .i64 (a0 + (d : Int))) ?_ ?_ ?_
                    · kernel_rfl
                    · intro u hy
                      go_simp
                      all_goals (first | omega | (rw [IntKind.wrap_i64]; omega))
                    with_reducible refine quiet_one (.pointer (some ⟨w.heap.size, 0, none⟩)) ?_ ?_ ?_
                    · kernel_rfl
                    · intro u hy
                      go_simp
                      all_goals (first | omega | (rw [IntKind.wrap_i64]; omega))
                    with_reducible refine quiet_one (.slice (some ⟨g, o, none⟩) n bc) ?_ ?_ ?_
                    · kernel_rfl
                    · intro u hy
                      have t1 := (hd0.out u hy).1
                      go_simp
                    with_reducible refine quiet_one (.int .i64 (i : Int)) ?_ ?_ ?_
                    · kernel_rfl
                    · intro u hy
                      go_simp
                      all_goals (first | omega | (rw [IntKind.wrap_i64]; omega))
                    with_reducible refine quiet_one (.pointer (some ⟨g, o + i * 2, none⟩)) ?_ ?_ ?_
                    · kernel_rfl
                    · intro u hy
                      go_simp
                      all_goals (first | omega | (rw [IntKind.wrap_i64]; omega))
                    with_reducible refine quiet_one (.pointer (some ⟨g, o + i * 2, none⟩)) ?_ ?_ ?_
                    · kernel_rfl
                    · intro u hy
                      go_simp
                      all_goals (first | omega | (rw [IntKind.wrap_i64]; omega))
                    with_reducible refine quiet_one (.int .i64 a0) ?_ ?_ ?_
                    · kernel_rfl
                    · intro u hy
                      have t1 := (hcb.out u hy).1
                      go_simp
                    with_reducible refine quiet_one (.int .i64 (d : Int)) ?_ ?_ ?_
                    · kernel_rfl
                    · intro u hy
                      go_simp
                      all_goals (first | omega | (rw [IntKind.wrap_i64]; omega))
                    with_reducible refine quiet_one (.int .i64 (a0 + (d : Int))) ?_ ?_ ?_
                    · kernel_rfl
                    · intro u hy
                      go_simp
                      all_goals (first | omega | (rw [IntKind.wrap_i64]; omega))
                    with_reducible refine quiet_one (.pointer (some ⟨w.heap.size, 0, none⟩)) ?_ ?_ ?_
                    · kernel_rfl
                    · intro u hy
                      go_simp
                      all_goals (first | omega | (rw [IntKind.wrap_i64]; omega))
                    with_reducible refine quiet_one (.slice (some ⟨g, o, none⟩) n bc) ?_ ?_ ?_
                    · kernel_rfl
                    · intro u hy
                      have t1 := (hd0.out u hy).1
                      go_simp
                    with_reducible refine quiet_one (.int .i64 (i : Int)) ?_ ?_ ?_
                    · kernel_rfl
                    · intro u hy
                      go_simp
                      all_goals (first | omega | (rw [IntKind.wrap_i64]; omega))
                    with_reducible refine quiet_one (.pointer (some ⟨g, o + i * 2, none⟩)) ?_ ?_ ?_
                    · kernel_rfl
                    · intro u hy
                      go_simp
                      all_goals (first | omega | (rw [IntKind.wrap_i64]; omega))
                    with_reducible refine quiet_one (.pointer (some ⟨g, o + i * 2, none⟩)) ?_ ?_ ?_
                    · kernel_rfl
                    · intro u hy
                      go_simp
                      all_goals (first | omega | (rw [IntKind.wrap_i64]; omega))
                    with_reducible refine quiet_one (.int .i64 a0) ?_ ?_ ?_
                    · kernel_rfl
                    · intro u hy
                      have t1 := (hcb.out u hy).1
                      go_simp
                    with_reducible refine quiet_one (.int .i64 (d : Int)) ?_ ?_ ?_
                    · kernel_rfl
                    · intro u hy
                      go_simp
                      all_goals (first | omega | (rw [IntKind.wrap_i64]; omega))
                    with_reducible refine quiet_one (.pointer (some ⟨w.heap.size, 1, none⟩)) ?_ ?_ ?_
                    · kernel_rfl
                    · intro u hy
                      go_simp
                      all_goals (first | omega | (rw [IntKind.wrap_i64]; omega))
                    with_reducible refine quiet_one (.slice (some ⟨mg, mo, none⟩) nm mc) ?_ ?_ ?_
                    · kernel_rfl
                    · intro u hy
                      have t1 := (hd0.out u hy).2
                      go_simp
                    with_reducible refine quiet_one (.int .i64 (m : Int)) ?_ ?_ ?_
                    · kernel_rfl
                    · intro u hy
                      go_simp
                      all_goals (first | omega | (rw [IntKind.wrap_i64]; omega))
                    with_reducible refine quiet_one (.pointer (some ⟨mg, mo + m * 3, none⟩)) ?_ ?_ ?_
                    · kernel_rfl
                    · intro u hy
                      go_simp
                      all_goals (first | omega | (rw [IntKind.wrap_i64]; omega))
                    with_reducible refine quiet_one (.pointer (some ⟨mg, mo + m * 3 + 1, none⟩)) ?_ ?_ ?_
                    · kernel_rfl
                    · intro u hy
                      go_simp
                      all_goals (first | omega | (rw [IntKind.wrap_i64]; omega))
                    with_reducible refine quiet_one (.int .i64 (N : Int)) ?_ ?_ ?_
                    · kernel_rfl
                    · intro u hy
                      have t1 := (hcm'.out u hy).2.1
                      go_simp
                    with_reducible refine quiet_one (.int .i64 ((d : Int) + N)) ?_ ?_ ?_
                    · kernel_rfl
                    · intro u hy
                      go_simp
                      all_goals (first | omega | (rw [IntKind.wrap_i64]; omega))
                    with_reducible refine quiet_one (.slice sp1 N (xc - d)) ?_ ?_ ?_
                    · kernel_rfl
                    · intro u hy
                      go_simp
                      all_goals (first | omega | (rw [IntKind.wrap_i64]; omega))
                    with_reducible refine quiet_one (.bool false) ?_ ?_ ?_
                    · kernel_rfl
                    · intro u hy
                      have dd := (hWc.out u hy).mono fun e w' (h : _ ∧ _) => And.intro h.1 (hy.below h.2)
                      go_simp
                      all_goals exact dd
                    with_reducible refine quiet_one (.bool true) ?_ ?_ ?_
                    · kernel_rfl
                    · intro u hy
                      go_simp
                      all_goals (first | omega | (rw [IntKind.wrap_i64]; omega))
                    refine wpQuiet_nil ?_
                    intro z0 Z0
                    replace Z0 : Hid _ := Z0
                    go_simp
                    go_wp2
                    go_ret
                    rw [fin.out]
                    exact ⟨rfl, Z0.out.low⟩
                  · have J9 : Hid (inB ((plB ob.B).drop (i + 1)) ob.M R (a0 + ((d + N : Nat) : Int)) (bs.drop (d + N)) (if false then none else prevC ob.M (m + 1)) (m + 1)) := hnext.out (by rw [hmb.out, decide_eq_false hpne.out]; simp)
                    clear hq hmk hcm hmn hdL hm1 hd1 hF
                    go_wp2
                    go_quiet (fail)
                    go_wp2
                    refine region_class_tail 39 (Fm w [(w.heap.size, oC ob, 26)]) (by kernel_rfl) (by kernel_rfl) (K.out.below (below_drew (below_drewN (Below.refl _ _)))) ?_
                    simp only [List.take_succ_cons, List.take_zero, List.drop_succ_cons, List.drop_zero]
                    with_reducible refine quiet_one (.pointer (some ⟨w.heap.size, 1, none⟩)) ?_ ?_ ?_
                    · kernel_rfl
                    · intro u hy
                      go_simp
                      all_goals (first | omega | (rw [IntKind.wrap_i64]; omega))
                    with_reducible refine quiet_one (.slice (some ⟨mg, mo, none⟩) nm mc) ?_ ?_ ?_
                    · kernel_rfl
                    · intro u hy
                      have t1 := (hd0.out u hy).2
                      go_simp
                    with_reducible refine quiet_one (.int .i64 (m : Int)) ?_ ?_ ?_
                    · kernel_rfl
                    · intro u hy
                      go_simp
                      all_goals (first | omega | (rw [IntKind.wrap_i64]; omega))
                    with_reducible refine quiet_one (.pointer (some ⟨mg, mo + m * 3, none⟩)) ?_ ?_ ?_
                    · kernel_rfl
                    · intro u hy
                      go_simp
                      all_goals (first | omega | (rw [IntKind.wrap_i64]; omega))
                    with_reducible refine quiet_one (.pointer (some ⟨mg, mo + m * 3 + 2, none⟩)) ?_ ?_ ?_
                    · kernel_rfl
                    · intro u hy
                      go_simp
                      all_goals (first | omega | (rw [IntKind.wrap_i64]; omega))
                    with_reducible refine quiet_one (.bool true) ?_ ?_ ?_
                    · kernel_rfl
                    · intro u hy
                      have t1 := (hcm'.out u hy).2.2
                      go_simp
                    with_reducible refine quiet_one (.bool true) ?_ ?_ ?_
                    · kernel_rfl
                    · intro u hy
                      go_simp
                      all_goals (first | omega | (rw [IntKind.wrap_i64]; omega))
                    with_reducible refine quiet_one (.pointer (some ⟨w.heap.size, 0, none⟩)) ?_ ?_ ?_
                    · kernel_rfl
                    · intro u hy
                      go_simp
                      all_goals (first | omega | (rw [IntKind.wrap_i64]; omega))
                    with_reducible refine quiet_one (.slice (some ⟨g, o, none⟩) n bc) ?_ ?_ ?_
                    · kernel_rfl
                    · intro u hy
                      have t1 := (hd0.out u hy).1
                      go_simp
                    with_reducible refine quiet_one (.int .i64 (i : Int)) ?_ ?_ ?_
                    · kernel_rfl
                    · intro u hy
                      go_simp
                      all_goals (first | omega | (rw [IntKind.wrap_i64]; omega))
                    with_reducible refine quiet_one (.pointer (some ⟨g, o + i * 2, none⟩)) ?_ ?_ ?_
                    · kernel_rfl
                    · intro u hy
                      go_simp
                      all_goals (first | omega | (rw [IntKind.wrap_i64]; omega))
                    with_reducible refine quiet_one (.pointer (some ⟨g, o + i * 2 + 1, none⟩)) ?_ ?_ ?_
                    · kernel_rfl
                    · intro u hy
                      go_simp
                      all_goals (first | omega | (rw [IntKind.wrap_i64]; omega))
                    with_reducible refine quiet_one (.slice xs L xc) ?_ ?_ ?_
                    · kernel_rfl
                    · intro u hy
                      have t1 := (hcb.out u hy).2
                      go_simp
                    with_reducible refine quiet_one (.int .i64 (a0 + (d : Int))) ?_ ?_ ?_
                    · kernel_rfl
                    · intro u hy
                      go_simp
                      all_goals (first | omega | (rw [IntKind.wrap_i64]; omega))
                    with_reducible refine quiet_one (.pointer (some ⟨w.heap.size, 0, none⟩)) ?_ ?_ ?_
                    · kernel_rfl
                    · intro u hy
                      go_simp
                      all_goals (first | omega | (rw [IntKind.wrap_i64]; omega))
                    with_reducible refine quiet_one (.slice (some ⟨g, o, none⟩) n bc) ?_ ?_ ?_
                    · kernel_rfl
                    · intro u hy
                      have t1 := (hd0.out u hy).1
                      go_simp
                    with_reducible refine quiet_one (.int .i64 (i : Int)) ?_ ?_ ?_
                    · kernel_rfl
                    · intro u hy
                      go_simp
                      all_goals (first | omega | (rw [IntKind.wrap_i64]; omega))
                    with_reducible refine quiet_one (.pointer (some ⟨g, o + i * 2, none⟩)) ?_ ?_ ?_
                    · kernel_rfl
                    · intro u hy
                      go_simp
                      all_goals (first | omega | (rw [IntKind.wrap_i64]; omega))
                    with_reducible refine quiet_one (.pointer (some ⟨g, o + i * 2, none⟩)) ?_ ?_ ?_
                    · kernel_rfl
                    · intro u hy
                      go_simp
                      all_goals (first | omega | (rw [IntKind.wrap_i64]; omega))
                    with_reducible refine quiet_one (.int .i64 a0) ?_ ?_ ?_
                    · kernel_rfl
                    · intro u hy
                      have t1 := (hcb.out u hy).1
                      go_simp
                    with_reducible refine quiet_one (.int .i64 (d : Int)) ?_ ?_ ?_
                    · kernel_rfl
                    · intro u hy
                      go_simp
                      all_goals (first | omega | (rw [IntKind.wrap_i64]; omega))
                    with_reducible refine quiet_one (.int .i64 (a0 + (d : Int))) ?_ ?_ ?_
                    · kernel_rfl
                    · intro u hy
                      go_simp
                      all_goals (first | omega | (rw [IntKind.wrap_i64]; omega))
                    with_reducible refine quiet_one (.pointer (some ⟨w.heap.size, 0, none⟩)) ?_ ?_ ?_
                    · kernel_rfl
                    · intro u hy
                      go_simp
                      all_goals (first | omega | (rw [IntKind.wrap_i64]; omega))
                    with_reducible refine quiet_one (.slice (some ⟨g, o, none⟩) n bc) ?_ ?_ ?_
                    · kernel_rfl
                    · intro u hy
                      have t1 := (hd0.out u hy).1
                      go_simp
                    with_reducible refine quiet_one (.int .i64 (i : Int)) ?_ ?_ ?_
                    · kernel_rfl
                    · intro u hy
                      go_simp
                      all_goals (first | omega | (rw [IntKind.wrap_i64]; omega))
                    with_reducible refine quiet_one (.pointer (some ⟨g, o + i * 2, none⟩)) ?_ ?_ ?_
                    · kernel_rfl
                    · intro u hy
                      go_simp
                      all_goals (first | omega | (rw [IntKind.wrap_i64]; omega))
                    with_reducible refine quiet_one (.pointer (some ⟨g, o + i * 2, none⟩)) ?_ ?_ ?_
                    · kernel_rfl
                    · intro u hy
                      go_simp
                      all_goals (first | omega | (rw [IntKind.wrap_i64]; omega))
                    with_reducible refine quiet_one (.int .i64 a0) ?_ ?_ ?_
                    · kernel_rfl
                    · intro u hy
                      have t1 := (hcb.out u hy).1
                      go_simp
                    with_reducible refine quiet_one (.int .i64 (d : Int)) ?_ ?_ ?_
                    · kernel_rfl
                    · intro u hy
                      go_simp
                      all_goals (first | omega | (rw [IntKind.wrap_i64]; omega))
                    with_reducible refine quiet_one (.pointer (some ⟨w.heap.size, 1, none⟩)) ?_ ?_ ?_
                    · kernel_rfl
                    · intro u hy
                      go_simp
                      all_goals (first | omega | (rw [IntKind.wrap_i64]; omega))
                    with_reducible refine quiet_one (.slice (some ⟨mg, mo, none⟩) nm mc) ?_ ?_ ?_
                    · kernel_rfl
                    · intro u hy
                      have t1 := (hd0.out u hy).2
                      go_simp
                    with_reducible refine quiet_one (.int .i64 (m : Int)) ?_ ?_ ?_
                    · kernel_rfl
                    · intro u hy
                      go_simp
                      all_goals (first | omega | (rw [IntKind.wrap_i64]; omega))
                    with_reducible refine quiet_one (.pointer (some ⟨mg, mo + m * 3, none⟩)) ?_ ?_ ?_
                    · kernel_rfl
                    · intro u hy
                      go_simp
                      all_goals (first | omega | (rw [IntKind.wrap_i64]; omega))
                    with_reducible refine quiet_one (.pointer (some ⟨mg, mo + m * 3 + 1, none⟩)) ?_ ?_ ?_
                    · kernel_rfl
                    · intro u hy
                      go_simp
                      all_goals (first | omega | (rw [IntKind.wrap_i64]; omega))
                    with_reducible refine quiet_one (.int .i64 (N : Int)) ?_ ?_ ?_
                    · kernel_rfl
                    · intro u hy
                      have t1 := (hcm'.out u hy).2.1
                      go_simp
                    with_reducible refine quiet_one (.int .i64 ((d : Int) + N)) ?_ ?_ ?_
                    · kernel_rfl
                    · intro u hy
                      go_simp
                      all_goals (first | omega | (rw [IntKind.wrap_i64]; omega))
                    with_reducible refine quiet_one (.slice sp1 N (xc - d)) ?_ ?_ ?_
                    · kernel_rfl
                    · intro u hy
                      go_simp
                      all_goals (first | omega | (rw [IntKind.wrap_i64]; omega))
                    with_reducible refine quiet_one (.bool true) ?_ ?_ ?_
                    · kernel_rfl
                    · intro u hy
                      have dd := (hWc.out u hy).mono fun e w' (h : _ ∧ _) => And.intro h.1 (hy.below h.2)
                      go_simp
                      all_goals exact dd
                    with_reducible refine quiet_one (.bool false) ?_ ?_ ?_
                    · kernel_rfl
                    · intro u hy
                      go_simp
                      all_goals (first | omega | (rw [IntKind.wrap_i64]; omega))
                    refine wpQuiet_nil ?_
                    intro z0 Z0
                    replace Z0 : Hid _ := Z0
                    go_simp
                    obtain ⟨b1, b2⟩ := hd0.out z0 Z0.out
                    obtain ⟨n0, n1, n2⟩ := hcm'.out z0 Z0.out
                    go_wp2
                    go_roundw
                    case rel => exact ⟨m + 1, d + N, false, _, rfl, by simp, by rw [show a0 + ((d + N : Nat) : Int) = a0 + (d : Int) + N by omega], rfl, ⟨hmn'.out, hNd.out.2, fun _ => by omega, J9.out⟩, Z0⟩
                    case measure => have := hNd.out; simp [intOf]; omega

          · have hme : ((m : Int) == nm) = true := by rw [beq_iff_eq]; omega
            have e9 : ob.M.drop m = [] := List.drop_eq_nil_of_le (by have := hnn.out.2; omega)
            have fin : Hid (R = false) := inB_bad hI.out (by rw [e9]; exact mof_none _ _ _ hne.out)
            clear e9
            clear hmn hdL hm1 hd1 hF
            go_wp2
            go_ret
            rw [fin.out]
            exact ⟨rfl, K.out.low⟩
        · have hde : d = L := by omega
          subst hde
          have fin : Hid (i + 1 ≤ n ∧ m ≤ nm ∧ mrk ((plB ob.B).drop (i + 1)) (ob.M.drop m) = R) := by
            have k := hI.out
            rw [List.drop_eq_nil_of_le (by have := hbl.out.1; omega)] at k
            exact ⟨hlt'.out, hm1, (inB_end k).symm⟩
          clear hdL hm1 hd1 hF
          go_wp2
          go_roundw
          case rel => exact ⟨i + 1, m, _, rfl, rfl, by simp, fin, K⟩
          case measure => have := hlt'.out; simp [intOf]; omega
    · have hie : i = n := by have := J.out.1; omega
      subst hie
      have fin : Hid (R = ((m : Int) == nm)) := by
        have h1 := J.out.2.2
        rw [List.drop_eq_nil_of_le (by rw [List.length_map, hnn.out.1]; exact Nat.le_refl _)] at h1
        show _ = _
        rw [← h1]
        have h2 := J.out.2.1
        by_cases e : m = nm
        · rw [List.drop_eq_nil_of_le (by have := hnn.out.2; omega), e]
          simp [mrk]
        · have e2 : ((m : Int) == nm) = false := by rw [beq_eq_false_iff_ne]; omega
          rw [e2]
          rcases e3 : ob.M.drop m with _ | ⟨k, r⟩
          · have := congrArg List.length e3
            rw [List.length_drop, hnn.out.2] at this
            simp at this
            omega
          · rfl
      clear hlt
      go_wp2
      go_ret
      rw [fin.out]
      exact ⟨by first | rfl | simp, K.out.low⟩
end Go.Proofs.YtkpfhnogpcigaaaDoorR
