/- GamePlays: any game, any font, orders with any feeds and ticks between. -/
import Derived.Test.YteipjkjpeookaaaGreatR20
namespace Go.Proofs.YteipjkjpeookaaaGreat
open Go Go.RowKit Go.Shelf
set_option linter.unusedVariables false
set_option maxHeartbeats 1000000
set_option maxRecDepth 100000

theorem plays_vast (w : World) (C D : Array Value) (g : Gm) (f : Fo) (sp : Option Addr) (n cap : Nat) (hg : Hid (GL w C g)) (hf : Hid (FL w D f)) (hv : Hid (vasG g.st.length g.pg.length g.me.length f.by_.length = true)) : Calls Tryz.prog 3 #[.agg C, .agg D, .slice sp n cap] w fun e w' => e = .returned (.bool true) ∧ Below w.heap.size w w' := by
  have gC : Hid (C.size = 23) := hg.out.size.1
  have gD : Hid (D.size = 18) := hf.out.size
  go_enter Tryz.func3, Tryz.ntmps3
  go_wp2_with (first
    | (go_at_call 5; refine (vast_gl y1 C D g f (hg.out.below K1.out.low) (hf.out.below K1.out.low)).mono ?_; rintro e y2 ⟨rfl, H⟩; have K2 : Hid (Fm w [(w.heap.size, C, 27), (w.heap.size + 1, D, 30)] y2) := K1.out.below H; rw [hv.out]; clear H)
    | (go_at_call 4; refine (awake_any y0).mono ?_; rintro e y1 ⟨rfl, H⟩; have K1 : Hid (Fm w [(w.heap.size, C, 27), (w.heap.size + 1, D, 30)] y1) := K0.out.below H; clear H)
    | ((with_reducible refine gen_world ((w.alloc (.cells C 27)).alloc (.cells D 30)) (fun y => Fm w [(w.heap.size, C, 27), (w.heap.size + 1, D, 30)] y) ?_ ?_); exact Fm.two w _ _ _ _; intro y0 K0)
    | ((with_reducible refine at_load rtG w.heap.size C ?_ ?_ (.tmp 3) ?_ ?_ ?_ ?_); exact K1.out.bx 0 _ _ _ rfl; exact gC.out; kernel_rfl; rfl; rfl)
    | ((with_reducible refine at_load rtFn (w.heap.size + 1) D ?_ ?_ (.tmp 4) ?_ ?_ ?_ ?_); exact K1.out.bx 1 _ _ _ rfl; exact gD.out; kernel_rfl; rfl; rfl))
  go_ret
  exact ⟨rfl, K2.out.low⟩
theorem plays_long (w : World) (C D : Array Value) (g : Gm) (f : Fo) (sp : Option Addr) (n cap : Nat) (hg : Hid (GL w C g)) (hf : Hid (FL w D f)) (hv : Hid (vasG g.st.length g.pg.length g.me.length f.by_.length = false)) (hn : 2147483647 < n) : Calls Tryz.prog 3 #[.agg C, .agg D, .slice sp n cap] w fun e w' => e = .returned (.bool true) ∧ Below w.heap.size w w' := by
  have gC : Hid (C.size = 23) := hg.out.size.1
  have gD : Hid (D.size = 18) := hf.out.size
  have q0 : decide ((2147483647 : Int) < (n : Int)) = true := by simp; omega
  clear hn
  go_enter Tryz.func3, Tryz.ntmps3
  go_wp2_with (first
    | (go_at_call 5; refine (vast_gl y1 C D g f (hg.out.below K1.out.low) (hf.out.below K1.out.low)).mono ?_; rintro e y2 ⟨rfl, H⟩; have K2 : Hid (Fm w [(w.heap.size, C, 27), (w.heap.size + 1, D, 30)] y2) := K1.out.below H; rw [hv.out]; clear H)
    | (go_at_call 4; refine (awake_any y0).mono ?_; rintro e y1 ⟨rfl, H⟩; have K1 : Hid (Fm w [(w.heap.size, C, 27), (w.heap.size + 1, D, 30)] y1) := K0.out.below H; clear H)
    | ((with_reducible refine gen_world ((w.alloc (.cells C 27)).alloc (.cells D 30)) (fun y => Fm w [(w.heap.size, C, 27), (w.heap.size + 1, D, 30)] y) ?_ ?_); exact Fm.two w _ _ _ _; intro y0 K0)
    | ((with_reducible refine at_load rtG w.heap.size C ?_ ?_ (.tmp 3) ?_ ?_ ?_ ?_); exact K1.out.bx 0 _ _ _ rfl; exact gC.out; kernel_rfl; rfl; rfl)
    | ((with_reducible refine at_load rtFn (w.heap.size + 1) D ?_ ?_ (.tmp 4) ?_ ?_ ?_ ?_); exact K1.out.bx 1 _ _ _ rfl; exact gD.out; kernel_rfl; rfl; rfl))
  go_ret
  exact ⟨rfl, K2.out.low⟩
theorem tick_len (g : Gm) (hm : g.may = true) : (tickG g).st.length = g.st.length ∧ (tickG g).pg.length = g.pg.length ∧ (tickG g).me.length = g.me.length := by
  unfold tickG
  rw [if_pos hm]
  exact ⟨rfl, rfl, rfl⟩
theorem tick_st (g : Gm) (h : g.st.length ≤ 4000000000) : (tickG g).st.length ≤ 4000000000 := by
  unfold tickG
  split
  · exact h
  · exact Nat.zero_le _
theorem own_a {q m a1 a2 a3 y : Nat} (h : q < m) (hA : m ≤ a1 ∧ m ≤ a2 ∧ m ≤ a3 ∧ a1 < y ∧ a2 < y ∧ a3 < y) : ¬ (q = a1 ∨ q = a2 ∨ q = a3) := fun e => by omega
/-- The game at hand, its blocks below a bound. -/
def HM (w : World) (C : Array Value) (g : Gm) (m : Nat) (u : World) (Ci : Array Value) (gi : Gm) : Prop := (Ci = C ∧ gi = g) ∨ (GO w.heap.size u Ci gi ∧ ∀ q, ownG Ci q → q < m)
theorem HG.hm {w u : World} {C Ci : Array Value} {g gi : Gm} (h : HG w C g u Ci gi) : HM w C g u.heap.size u Ci gi := by
  rcases h with h | h
  · exact .inl h
  · exact .inr ⟨h, fun q hq => (h.own hq).2⟩
theorem HM.hg {w u : World} {C Ci : Array Value} {g gi : Gm} {m : Nat} (h : HM w C g m u Ci gi) : HG w C g u Ci gi := by
  rcases h with h | h
  · exact .inl h
  · exact .inr h.1
theorem HM.gl {w u : World} {C Ci : Array Value} {g gi : Gm} {m : Nat} (h : HM w C g m u Ci gi) (hg : GL w C g) (hb : Below w.heap.size w u) : GL u Ci gi := h.hg.gl hg hb
theorem HM.below {w u z : World} {C Ci : Array Value} {g gi : Gm} {m : Nat} (h : HM w C g m u Ci gi) (hb : Below u.heap.size u z) : HM w C g m z Ci gi := by
  rcases h with h | h
  · exact .inl h
  · exact .inr ⟨h.1.below hb, h.2⟩
theorem HM.offT {w u z : World} {C Ci cs : Array Value} {g gi : Gm} {m b : Nat} {t : TypeId} (h : HM w C g m u Ci gi) (hx : Bx u b cs t) (h8 : 5 ≠ t) (h16 : 23 ≠ t) (hk : ∀ q, q ≠ b → z.heap[q]? = u.heap[q]?) : HM w C g m z Ci gi := by
  rcases h with h | h
  · exact .inl h
  · exact .inr ⟨h.1.offT hx h8 h16 hk, h.2⟩
theorem HM.cu {w u z : World} {C Ci : Array Value} {g gi : Gm} {m B : Nat} {F : Nat → Nat → Prop} (h : HM w C g m u Ci gi) (k : CuL B F u z) (hF : ∀ q j, q < m → ¬ F q j) : HM w C g m z Ci gi := by
  rcases h with h | h
  · exact .inl h
  · exact .inr ⟨h.1.cu k (fun q hq j => hF q j (h.2 q hq)), h.2⟩
theorem plays_run (w : World) (C D : Array Value) (g : Gm) (f : Fo) (sp : Option Addr) (n cap : Nat) (hg : Hid (GL w C g)) (hf : Hid (FL w D f)) (hv : Hid (vasG g.st.length g.pg.length g.me.length f.by_.length = false)) (hs : Hid (smaG g f)) (hn : n ≤ 2147483647) (L : List Pl) (hLn : Hid (L.length = n)) (hL : Hid (LiesL 4 cPl w sp L)) (hok : Hid (∀ p ∈ L, p.Ok)) : Calls Tryz.prog 3 #[.agg C, .agg D, .slice sp n cap] w fun e w' => e = .returned (.bool true) ∧ Below w.heap.size w w' := by
  have gC : Hid (C.size = 23) := hg.out.size.1
  have gD : Hid (D.size = 18) := hf.out.size
  obtain ⟨ZC, hZ⟩ : ∃ x : Array Value, Hid (x = gZ) := ⟨_, (rfl : gZ = gZ)⟩
  have hZ' : Hid (ZC.size = 23) := by show _ = _; rw [hZ.out]; rfl
  have hni : (n : Int) ≤ 2147483647 := by omega
  have q0 : decide ((2147483647 : Int) < (n : Int)) = false := by simp; omega
  clear hn
  go_enter Tryz.func3, Tryz.ntmps3
  go_wp2_with (first
    | (go_at_call 5; refine (vast_gl y1 C D g f (hg.out.below K1.out.low) (hf.out.below K1.out.low)).mono ?_; rintro e y2 ⟨rfl, H⟩; have K2 : Hid (Fm w [(w.heap.size, C, 27), (w.heap.size + 1, D, 30)] y2) := K1.out.below H; rw [hv.out]; clear H)
    | (go_at_call 4; refine (awake_any y0).mono ?_; rintro e y1 ⟨rfl, H⟩; have K1 : Hid (Fm w [(w.heap.size, C, 27), (w.heap.size + 1, D, 30)] y1) := K0.out.below H; clear H)
    | ((with_reducible refine gen_world ((w.alloc (.cells C 27)).alloc (.cells D 30)) (fun y => Fm w [(w.heap.size, C, 27), (w.heap.size + 1, D, 30)] y) ?_ ?_); exact Fm.two w _ _ _ _; intro y0 K0)
    | ((with_reducible refine at_load rtG w.heap.size C ?_ ?_ (.tmp 3) ?_ ?_ ?_ ?_); exact K1.out.bx 0 _ _ _ rfl; exact gC.out; kernel_rfl; rfl; rfl)
    | ((with_reducible refine at_load rtFn (w.heap.size + 1) D ?_ ?_ (.tmp 4) ?_ ?_ ?_ ?_); exact K1.out.bx 1 _ _ _ rfl; exact gD.out; kernel_rfl; rfl; rfl))
  go_loopw [8] (fun kv wz => ∃ (i : Nat) (Ci : Array Value) (gi : Gm) (u : World), u = wz ∧ i ≤ n ∧ kv = .int .i64 (i : Int) ∧ Hid (Fm w [(w.heap.size, Ci, 27), (w.heap.size + 1, D, 30)] u ∧ HG w C g u Ci gi ∧ smaG gi f)) (fun kv _ => (n - intOf kv).toNat)
  case atStart => exact ⟨0, C, g, _, rfl, Nat.zero_le _, rfl, ⟨K2.out, .inl ⟨rfl, rfl⟩, hs.out⟩⟩
  case round =>
    obtain ⟨i, Ci, gi, u0, rfl, hi, rfl, K⟩ := hrel
    clear K0 K1 K2
    by_cases hlt : i < n
    · have hii : (i : Int) < (n : Int) := by omega
      have hlt' : Hid (i < n) := hlt
      obtain ⟨p, hp⟩ : ∃ p, L[i]? = some p := ⟨_, List.getElem?_eq_getElem (by rw [hLn.out]; exact hlt)⟩
      have hpo : Hid p.Ok := hok.out p (List.mem_of_getElem? hp)
      have hpt : Hid (-9223372036854775808 ≤ p.tk ∧ p.tk ≤ 9223372036854775807) := hpo.out.tk
      obtain ⟨gb, ob, hsp, hr0⟩ := hL.out i p hp
      subst hsp
      have hrr : Hid (∀ y, Below w.heap.size w y → y.rangeAt gb (ob + i * 4) (cPl p)) := fun y hy => range_keep hr0 hy
      have hrd : Hid (∀ y, Below w.heap.size w y → y.rangeAt gb (ob + i * 4) (dCs p.d).toList) := fun y hy k v hv' => by
        have hk : k < 3 := (List.getElem?_eq_some_iff.1 hv').1
        refine hrr.out y hy k v ?_
        rw [← hv']
        rcases (show k = 0 ∨ k = 1 ∨ k = 2 by omega) with rfl | rfl | rfl <;> rfl
      obtain ⟨⟨S, o, er⟩, hS0⟩ : ∃ x, stepG gi f p.d = x := ⟨_, rfl⟩
      have hS : Hid (stepG gi f p.d = (S, o, er)) := hS0
      clear hi hp hr0 hlt hS0
      go_upto_region 7 with (fail)
      refine regP w C D g Ci ZC gi S p.d o gb ob n cap i f er hg.out hf.out hpo.out.d K.out.2.2 hS.out hZ.out hZ'.out hlt'.out hrd.out ?_ ?_ ?_ ?_ ?_ ?_ ?_ ?_ ?_ ?_ ?_ ?_ ?_ ?_ ?_ ?_ ?_ ?_ ?_ ?_ ?_ ?_ ?_ K.out.1 K.out.2.1 ?_
      · rfl
      · kernel_rfl
      · exact ⟨_, rfl, rfl, rfl, rfl, fun q hq => absurd hq (by simp)⟩
      · exact ⟨_, rfl, rfl, rfl, rfl, fun q hq => absurd hq (by simp)⟩
      · exact ⟨_, rfl, rfl, rfl, rfl, fun q hq => absurd hq (by simp)⟩
      · exact ⟨_, rfl, rfl, rfl, rfl, fun q hq => absurd hq (by simp)⟩
      · exact ⟨_, rfl, rfl, rfl, rfl, List.forall_mem_cons.2 ⟨⟨{ on := 2, ground := .data }, by simp, rfl, rfl⟩, List.forall_mem_cons.2 ⟨⟨{ on := 3, ground := .data }, by simp, rfl, rfl⟩, fun q hq => absurd hq (by simp)⟩⟩⟩
      · exact ⟨_, rfl, rfl, rfl, rfl, List.forall_mem_cons.2 ⟨⟨{ on := 4, ground := .data }, by simp, rfl, rfl⟩, fun q hq => absurd hq (by simp)⟩⟩
      · exact ⟨_, rfl, rfl, rfl, rfl, List.forall_mem_cons.2 ⟨⟨{ on := 5, ground := .data }, by simp, rfl, rfl⟩, fun q hq => absurd hq (by simp)⟩⟩
      · exact ⟨_, rfl, rfl, rfl, rfl, List.forall_mem_cons.2 ⟨⟨{ on := 0, ground := .data }, by simp, rfl, rfl⟩, List.forall_mem_cons.2 ⟨⟨{ on := 1, ground := .data }, by simp, rfl, rfl⟩, List.forall_mem_cons.2 ⟨⟨{ on := 6, ground := .data }, by simp, rfl, rfl⟩, fun q hq => absurd hq (by simp)⟩⟩⟩⟩
      · exact ⟨_, rfl, rfl, rfl, rfl, List.forall_mem_cons.2 ⟨⟨{ on := 7, ground := .data }, by simp, rfl, rfl⟩, fun q hq => absurd hq (by simp)⟩⟩
      · exact ⟨_, rfl, rfl, rfl, rfl, List.forall_mem_cons.2 ⟨⟨{ on := 8, ground := .data }, by simp, rfl, rfl⟩, fun q hq => absurd hq (by simp)⟩⟩
      · exact ⟨_, rfl, rfl, rfl, rfl, List.forall_mem_cons.2 ⟨⟨{ on := 8, ground := .data }, by simp, rfl, rfl⟩, fun q hq => absurd hq (by simp)⟩⟩
      · exact ⟨_, rfl, rfl, rfl, rfl, List.forall_mem_cons.2 ⟨⟨{ on := 8, ground := .data }, by simp, rfl, rfl⟩, fun q hq => absurd hq (by simp)⟩⟩
      · exact ⟨_, rfl, rfl, rfl, rfl, fun q hq => absurd hq (by simp)⟩
      · exact ⟨_, rfl, rfl, rfl, rfl, List.forall_mem_cons.2 ⟨⟨{ on := 12, ground := .data }, by simp, rfl, rfl⟩, List.forall_mem_cons.2 ⟨⟨{ on := 9, ground := .data }, by simp, rfl, rfl⟩, fun q hq => absurd hq (by simp)⟩⟩⟩
      · exact ⟨_, rfl, rfl, rfl, rfl, List.forall_mem_cons.2 ⟨⟨{ on := 10, ground := .data }, by simp, rfl, rfl⟩, fun q hq => absurd hq (by simp)⟩⟩
      · exact ⟨_, rfl, rfl, rfl, rfl, List.forall_mem_cons.2 ⟨⟨{ on := 11, ground := .data }, by simp, rfl, rfl⟩, fun q hq => absurd hq (by simp)⟩⟩
      · rfl
      · rfl
      · rfl
      · rfl
      · rfl
      intro y3 m C' v34 v35 v36 v37 v38 v39 v40 v41 v42 v43 v44 v45 K3
      dsimp only [actP]
      go_upto_if 49 with (fail)
      go_cut [10] from 28 to 88 (fun x wz => ∃ (Cn : Array Value) (gn : Gm) (z : World), z = wz ∧ x = .int .u8 (o : Int) ∧ Hid (Fm w [(w.heap.size, Cn, 27), (w.heap.size + 1, D, 30)] z ∧ HG w C g z Cn gn ∧ smaG gn f))
      case first =>
        by_cases h1 : o = 1
        · have q1 : ((o : Int) == 1) = true := by simp; omega
          have hSm : Hid (smaG S f) := by have := step_sma gi f p.d (by rw [hS.out]; exact h1); rw [hS.out] at this; exact this
          have gCi : Hid (Ci.size = 23) := (K3.out.2.1.gl hg.out K3.out.1.low).size.1
          clear h1
          go_wp2_with (first
            | ((with_reducible refine at_st rtG w.heap.size Ci C' ?_ ?_ ?_ ?_ (.tmp 3) (.tmp 50) ?_ ?_ ?_ ?_ ?_); exact K3.out.1.bx 0 _ _ _ rfl; exact gCi.out; exact K3.out.2.2.1.lies.size.1; exact K3.out.2.2.1.lies.size.2.1; rfl; rfl; rfl; rfl; intro y4 H; have K4 : Hid (Fm w [(w.heap.size, C', 27), (w.heap.size + 1, D, 30)] y4 ∧ HG w C g y4 C' S ∧ smaG S f) := ⟨K3.out.1.put 0 _ _ _ _ rfl H.out, .inr (K3.out.2.2.1.offT (K3.out.1.bx 0 _ _ _ rfl) (by decide) (by decide) H.out.2.2), hSm.out⟩; clear H)
            | ((with_reducible refine at_load rtG m C' ?_ ?_ (.tmp 9) ?_ ?_ ?_ ?_); exact K3.out.2.2.2.1; exact K3.out.2.2.1.lies.size.1; kernel_rfl; rfl; rfl))
          go_meet
          exact ⟨C', S, _, rfl, rfl, K4⟩
        · have q1 : ((o : Int) == 1) = false := by simp; omega
          clear h1
          go_wp2
          go_meet
          exact ⟨Ci, gi, _, rfl, rfl, ⟨K3.out.1, K3.out.2.1, K.out.2.2⟩⟩
      case rest =>
        obtain ⟨Cn, gn, z0, rfl, rfl, Kn⟩ := hcut
        clear K K3
        obtain ⟨pk, hpk1, hpk2⟩ := pick_nat p.tk 3 (by decide)
        have hpk : Hid ((if p.tk < 0 then -(p.tk + 1) else p.tk) % 3 = (pk : Int)) := hpk2
        have hpk3 : Hid (pk < 3) := hpk1
        clear hpk1 hpk2
        go_wp2
        go_loopw [12] (fun kv wz => ∃ (k : Nat) (Ck : Array Value) (gk : Gm) (u : World), u = wz ∧ k ≤ pk ∧ kv = .int .i64 (k : Int) ∧ Hid (Fm w [(w.heap.size, Ck, 27), (w.heap.size + 1, D, 30)] u ∧ HG w C g u Ck gk ∧ smaG gk f)) (fun kv _ => (pk - intOf kv).toNat)
        case atStart => exact ⟨0, Cn, gn, _, rfl, Nat.zero_le _, rfl, Kn⟩
        case round =>
          obtain ⟨k, Ck, gk, u, rfl, hk, rfl, Ku⟩ := hrel
          clear Kn
          have ixp := fun v => Fr2.idx v gb ob n cap i hlt'.out
          have etk := hrr.out u Ku.out.1.low 3 (.int .i64 p.tk) rfl
          have pki : (pk : Int) < 3 := by have := hpk3.out; omega
          by_cases hlk : k < pk
          · have hki : (k : Int) < (pk : Int) := by omega
            have hkp : Hid (k < pk) := hlk
            have gK : Hid (Ck.size = 23) := (Ku.out.2.1.gl hg.out Ku.out.1.low).size.1
            have hn3 : Hid (gk.st.length ≤ 2147483647 ∧ gk.pg.length ≤ 2147483647 ∧ gk.me.length ≤ 2147483647) := by have := Ku.out.2.2; unfold smaG at this; exact ⟨by omega, by omega, by omega⟩
            have hb4 : Hid (Hid (gk.st.length ≤ 4000000000) ∧ Hid (gk.pg.length ≤ 4000000000) ∧ Hid (gk.me.length ≤ 4000000000)) := by have h := hn3.out; exact ⟨Nat.le_trans h.1 (by decide), Nat.le_trans h.2.1 (by decide), Nat.le_trans h.2.2 (by decide)⟩
            have hTl : Hid ((tickG gk).st.length ≤ 4000000000) := tick_st gk hb4.out.1
            have hsm : Hid (decide (tickG gk = tickG gk) = true) := decide_eq_true rfl
            clear hk hlk
            rcases hm : gk.may with _ | _
            · have hmy : Hid (gk.may = false) := hm
              clear hm
              go_wp2_with (first
                | (go_at_call 7; refine (pick_any u p.tk 3 hpt.out ⟨by decide, by decide⟩).mono ?_; rintro e yp ⟨rfl, ep⟩; replace ep := ep.symm; subst ep; rw [hpk.out])
                | (go_at_call 14; refine (rcheck_gl y12 Ck gk (K12.out.2.1.gl hg.out K12.out.1.low)).mono ?_; rintro e y13 ⟨rfl, H⟩; have K13 : Hid (Fm w [(w.heap.size, Ck, 27), (w.heap.size + 1, D, 30), (y1.heap.size, C2, 27), (y4.heap.size, C3, 27), (y8.heap.size, C4, 27)] y13 ∧ HM w C g u.heap.size y13 Ck gk ∧ GO B7 y13 C4 (tickG gk)) := ⟨K12.out.1.below H, K12.out.2.1.below H, K12.out.2.2.below H⟩; rw [hmy.out]; clear H)
                | (go_at_call 13; refine (spread_any y11 B3 C3 (tickG gk) K11.out.2.2.1 (Nat.le_trans hB3l.out (Nat.le_of_lt (heap_lt (K11.out.1.bx 3 _ _ _ rfl))))).mono ?_; rintro e y12 ⟨rfl, H⟩; have K12 : Hid (Fm w [(w.heap.size, Ck, 27), (w.heap.size + 1, D, 30), (y1.heap.size, C2, 27), (y4.heap.size, C3, 27), (y8.heap.size, C4, 27)] y12 ∧ HM w C g u.heap.size y12 Ck gk ∧ GO B7 y12 C4 (tickG gk)) := ⟨K11.out.1.cuT H.out hQ.out.2.2.2.2 (fun x j e => K11.out.2.2.1.ownTy e) rfl, K11.out.2.1.cu H.out (fun q j hq e => by have h2 := (K11.out.2.2.1.own e).1; have h3 := hQ.out; omega), K11.out.2.2.2.cu H.out (fun x hx j e => by have h1 := (K11.out.2.2.2.own hx).1; have h2 := hO.out.1 x e; omega)⟩; clear H)
                | (go_at_call 12; refine (rsame_any y10 C3 C4 (tickG gk) (tickG gk) K10.out.2.2.1.lies K10.out.2.2.2.lies hTl.out hTl.out).mono ?_; rintro e y11 ⟨rfl, H⟩; have K11 : Hid (Fm w [(w.heap.size, Ck, 27), (w.heap.size + 1, D, 30), (y1.heap.size, C2, 27), (y4.heap.size, C3, 27), (y8.heap.size, C4, 27)] y11 ∧ HM w C g u.heap.size y11 Ck gk ∧ GO B3 y11 C3 (tickG gk) ∧ GO B7 y11 C4 (tickG gk)) := ⟨K10.out.1.below H, K10.out.2.1.below H, K10.out.2.2.1.below H, K10.out.2.2.2.below H⟩; (try rw [hsm.out]); clear H)
                | ((with_reducible refine at_st rtG (y8.heap.size) z23A C4 ?_ ?_ ?_ ?_ (.tmp 16) (.tmp 69) ?_ ?_ ?_ ?_ ?_); exact K9.out.1.bx 4 _ _ _ rfl; exact rfl; exact K9.out.2.2.2.lies.size.1; exact K9.out.2.2.2.lies.size.2.1; rfl; rfl; rfl; rfl; intro y10 H; have K10 : Hid (Fm w [(w.heap.size, Ck, 27), (w.heap.size + 1, D, 30), (y1.heap.size, C2, 27), (y4.heap.size, C3, 27), (y8.heap.size, C4, 27)] y10 ∧ HM w C g u.heap.size y10 Ck gk ∧ GO B3 y10 C3 (tickG gk) ∧ GO B7 y10 C4 (tickG gk)) := ⟨K9.out.1.put 4 _ _ _ _ rfl H.out, K9.out.2.1.offT (K9.out.1.bx 4 _ _ _ rfl) (by decide) (by decide) H.out.2.2, K9.out.2.2.1.offT (K9.out.1.bx 4 _ _ _ rfl) (by decide) (by decide) H.out.2.2, K9.out.2.2.2.offT (K9.out.1.bx 4 _ _ _ rfl) (by decide) (by decide) H.out.2.2⟩; clear H)
                | ((with_reducible refine gen_world (y8.alloc (.cells z23A 27)) (fun y => Fm w [(w.heap.size, Ck, 27), (w.heap.size + 1, D, 30), (y1.heap.size, C2, 27), (y4.heap.size, C3, 27), (y8.heap.size, z23A, 27)] y ∧ HM w C g u.heap.size y Ck gk ∧ GO B3 y C3 (tickG gk) ∧ GO B7 y C4 (tickG gk)) ?_ ?_); (exact ⟨K8.out.1.new _ _, K8.out.2.1.below (below1 y8 _), K8.out.2.2.1.below (below1 y8 _), K8.out.2.2.2.below (below1 y8 _)⟩); intro y9 K9)
                | (go_at_call 11; refine (rtick_any y7 Ck gk (K7.out.2.1.gl hg.out K7.out.1.low) hb4.out.1 hb4.out.2.1 hb4.out.2.2).mono ?_; rintro e y8 ⟨C4, rfl, H⟩; obtain ⟨B7, hB7⟩ : ∃ z, y7.heap.size = z := ⟨_, rfl⟩; have hO : Hid ((∀ x, ownG C3 x → x < B7) ∧ w.heap.size ≤ B7) := (by rw [← hB7]; exact ⟨fun x hx => (K7.out.2.2.own hx).2, K7.out.1.low.size⟩); have K8 : Hid (Fm w [(w.heap.size, Ck, 27), (w.heap.size + 1, D, 30), (y1.heap.size, C2, 27), (y4.heap.size, C3, 27)] y8 ∧ HM w C g u.heap.size y8 Ck gk ∧ GO B3 y8 C3 (tickG gk) ∧ GO B7 y8 C4 (tickG gk)) := ⟨K7.out.1.below H.out.2, K7.out.2.1.below H.out.2, K7.out.2.2.below H.out.2, (by rw [← hB7]; exact H.out.1)⟩; clear H hB7)
                | (go_at_call 10; refine (keptG_any y6 w.heap.size Ck C2 gk a1 a2 a3 K6.out.2.1 (fun x hx => (K6.out.2.2.1.cu hx (fun q j hq e => own_a hq hA.out e)).gl hg.out (K6.out.1.low.trans hx.low)) (K6.out.1.low.size : w.heap.size ≤ y6.heap.size) hn3.out.1 hn3.out.2.1 hn3.out.2.2).mono ?_; rintro e y7 ⟨rfl, H⟩; have K7 : Hid (Fm w [(w.heap.size, Ck, 27), (w.heap.size + 1, D, 30), (y1.heap.size, C2, 27), (y4.heap.size, C3, 27)] y7 ∧ HM w C g u.heap.size y7 Ck gk ∧ GO B3 y7 C3 (tickG gk)) := ⟨K6.out.1.cuT H.out (Nat.le_refl _) (fun x j e => K6.out.2.1.ty e) rfl, K6.out.2.2.1.cu H.out (fun q j hq e => own_a hq hA.out e), K6.out.2.2.2.cu H.out (fun x hx j e => by have h1 := (K6.out.2.2.2.own hx).1; have h2 := hQ.out; omega)⟩; clear H)
                | ((with_reducible refine at_st rtG (y4.heap.size) z23A C3 ?_ ?_ ?_ ?_ (.tmp 14) (.tmp 64) ?_ ?_ ?_ ?_ ?_); exact K5.out.1.bx 3 _ _ _ rfl; exact rfl; exact K5.out.2.2.2.lies.size.1; exact K5.out.2.2.2.lies.size.2.1; rfl; rfl; rfl; rfl; intro y6 H; have K6 : Hid (Fm w [(w.heap.size, Ck, 27), (w.heap.size + 1, D, 30), (y1.heap.size, C2, 27), (y4.heap.size, C3, 27)] y6 ∧ LG w.heap.size y6 C2 gk a1 a2 a3 ∧ HM w C g u.heap.size y6 Ck gk ∧ GO B3 y6 C3 (tickG gk)) := ⟨K5.out.1.put 3 _ _ _ _ rfl H.out, K5.out.2.1.offT (K5.out.1.bx 3 _ _ _ rfl) (by decide) (by decide) H.out.2.2, K5.out.2.2.1.offT (K5.out.1.bx 3 _ _ _ rfl) (by decide) (by decide) H.out.2.2, K5.out.2.2.2.offT (K5.out.1.bx 3 _ _ _ rfl) (by decide) (by decide) H.out.2.2⟩; clear H)
                | ((with_reducible refine gen_world (y4.alloc (.cells z23A 27)) (fun y => Fm w [(w.heap.size, Ck, 27), (w.heap.size + 1, D, 30), (y1.heap.size, C2, 27), (y4.heap.size, z23A, 27)] y ∧ LG w.heap.size y C2 gk a1 a2 a3 ∧ HM w C g u.heap.size y Ck gk ∧ GO B3 y C3 (tickG gk)) ?_ ?_); (exact ⟨K4.out.1.new _ _, K4.out.2.1.below (below1 y4 _), K4.out.2.2.1.below (below1 y4 _), K4.out.2.2.2.below (below1 y4 _)⟩); intro y5 K5)
                | (go_at_call 9; refine (tick_any y3 C2 gk K3.out.2.1.lies hb4.out.1 hb4.out.2.1 hb4.out.2.2).mono ?_; rintro e y4 ⟨C3, rfl, H⟩; obtain ⟨B3, hB3⟩ : ∃ z, y3.heap.size = z := ⟨_, rfl⟩; have hQ : Hid (a1 < B3 ∧ a2 < B3 ∧ a3 < B3 ∧ u.heap.size ≤ B3 ∧ w.heap.size ≤ B3) := (by have h1 := hA.out; have h2 := heap_lt (K3.out.1.bx 2 _ _ _ rfl); have h3 := K3.out.1.low.size; rw [← hB3]; show _ ∧ _; omega); have hB3l : Hid (B3 ≤ y4.heap.size) := (by rw [← hB3]; exact H.out.2.size); have K4 : Hid (Fm w [(w.heap.size, Ck, 27), (w.heap.size + 1, D, 30), (y1.heap.size, C2, 27)] y4 ∧ LG w.heap.size y4 C2 gk a1 a2 a3 ∧ HM w C g u.heap.size y4 Ck gk ∧ GO B3 y4 C3 (tickG gk)) := ⟨K3.out.1.below H.out.2, K3.out.2.1.below H.out.2, K3.out.2.2.below H.out.2, (by rw [← hB3]; exact H.out.1)⟩; clear H hB3)
                | ((with_reducible refine at_st rtG (y1.heap.size) z23A C2 ?_ ?_ ?_ ?_ (.tmp 13) (.tmp 62) ?_ ?_ ?_ ?_ ?_); exact K2.out.1.bx 2 _ _ _ rfl; exact rfl; exact K2.out.2.1.size; exact K2.out.2.1.lies.size.2.1; rfl; rfl; rfl; rfl; intro y3 H; have K3 : Hid (Fm w [(w.heap.size, Ck, 27), (w.heap.size + 1, D, 30), (y1.heap.size, C2, 27)] y3 ∧ LG w.heap.size y3 C2 gk a1 a2 a3 ∧ HM w C g u.heap.size y3 Ck gk) := ⟨K2.out.1.put 2 _ _ _ _ rfl H.out, K2.out.2.1.offT (K2.out.1.bx 2 _ _ _ rfl) (by decide) (by decide) H.out.2.2, K2.out.2.2.offT (K2.out.1.bx 2 _ _ _ rfl) (by decide) (by decide) H.out.2.2⟩; clear H)
                | ((with_reducible refine gen_world (y1.alloc (.cells z23A 27)) (fun y => Fm w [(w.heap.size, Ck, 27), (w.heap.size + 1, D, 30), (y1.heap.size, z23A, 27)] y ∧ LG w.heap.size y C2 gk a1 a2 a3 ∧ HM w C g u.heap.size y Ck gk) ?_ ?_); (exact ⟨K1.out.1.new _ _, K1.out.2.1.below (below1 y1 _), K1.out.2.2.below (below1 y1 _)⟩); intro y2 K2)
                | (go_at_call 8; refine (lentG_any u Ck gk (Ku.out.2.1.gl hg.out Ku.out.1.low) hn3.out.1 hn3.out.2.1 hn3.out.2.2).mono ?_; rintro e y1 ⟨C2, a1, a2, a3, rfl, H⟩; have K1 : Hid (Fm w [(w.heap.size, Ck, 27), (w.heap.size + 1, D, 30)] y1 ∧ LG w.heap.size y1 C2 gk a1 a2 a3 ∧ HM w C g u.heap.size y1 Ck gk) := ⟨Ku.out.1.below H.out.2, H.out.1.weak Ku.out.1.low.size, Ku.out.2.1.hm.below H.out.2⟩; have hA : Hid (u.heap.size ≤ a1 ∧ u.heap.size ≤ a2 ∧ u.heap.size ≤ a3 ∧ a1 < y1.heap.size ∧ a2 < y1.heap.size ∧ a3 < y1.heap.size) := ⟨H.out.1.ge.1, H.out.1.ge.2.1, H.out.1.ge.2.2, heap_lt H.out.1.s, heap_lt H.out.1.p, heap_lt H.out.1.m⟩; clear H)
                | ((with_reducible refine at_load rtG (w.heap.size) Ck ?_ ?_ (.tmp 3) ?_ ?_ ?_ ?_); (first | exact K12.out.1.bx 0 _ _ _ rfl | exact K7.out.1.bx 0 _ _ _ rfl | exact K6.out.1.bx 0 _ _ _ rfl | exact Ku.out.1.bx 0 _ _ _ rfl); exact gK.out; kernel_rfl; rfl; rfl)
                | ((with_reducible refine at_load rtG (y1.heap.size) C2 ?_ ?_ (.tmp 13) ?_ ?_ ?_ ?_); (first | exact K6.out.1.bx 2 _ _ _ rfl | exact K3.out.1.bx 2 _ _ _ rfl); exact K3.out.2.1.size; kernel_rfl; rfl; rfl)
                | ((with_reducible refine at_load rtG (y4.heap.size) C3 ?_ ?_ (.tmp 14) ?_ ?_ ?_ ?_); (first | exact K11.out.1.bx 3 _ _ _ rfl | exact K10.out.1.bx 3 _ _ _ rfl); exact K6.out.2.2.2.lies.size.1; kernel_rfl; rfl; rfl)
                | ((with_reducible refine at_load rtG (y8.heap.size) C4 ?_ ?_ (.tmp 16) ?_ ?_ ?_ ?_); (first | exact K13.out.1.bx 4 _ _ _ rfl | exact K10.out.1.bx 4 _ _ _ rfl); exact K10.out.2.2.2.lies.size.1; kernel_rfl; rfl; rfl))
              go_roundw
              case rel => exact ⟨k + 1, Ck, gk, _, rfl, hkp.out, by simp, ⟨K13.out.1.pre (l' := [_, _, _]), K13.out.2.1.hg, Ku.out.2.2⟩⟩
              case measure => have := hkp.out; simp [intOf]; omega
            · have hmy : Hid (gk.may = true) := hm
              have hsmT : Hid (smaG (tickG gk) f) := by
                have h1 := tick_len gk hm
                have h2 := Ku.out.2.2
                unfold smaG at h2 ⊢
                rw [h1.1, h1.2.1, h1.2.2]
                exact h2
              clear hm
              go_wp2_with (first
                | (go_at_call 7; refine (pick_any u p.tk 3 hpt.out ⟨by decide, by decide⟩).mono ?_; rintro e yp ⟨rfl, ep⟩; replace ep := ep.symm; subst ep; rw [hpk.out])
                | ((with_reducible refine at_st rtG w.heap.size Ck C4 ?_ ?_ ?_ ?_ (.tmp 3) (.tmp 88) ?_ ?_ ?_ ?_ ?_); exact K13.out.1.bx 0 _ _ _ rfl; exact gK.out; exact K13.out.2.2.lies.size.1; exact K13.out.2.2.lies.size.2.1; rfl; rfl; rfl; rfl; intro y14 H; have K14 : Hid (Fm w [(w.heap.size, C4, 27), (w.heap.size + 1, D, 30), (y1.heap.size, C2, 27), (y4.heap.size, C3, 27), (y8.heap.size, C4, 27)] y14 ∧ GO B7 y14 C4 (tickG gk)) := ⟨K13.out.1.put 0 _ _ _ _ rfl H.out, K13.out.2.2.offT (K13.out.1.bx 0 _ _ _ rfl) (by decide) (by decide) H.out.2.2⟩; clear H)
                | (go_at_call 14; refine (rcheck_gl y12 Ck gk (K12.out.2.1.gl hg.out K12.out.1.low)).mono ?_; rintro e y13 ⟨rfl, H⟩; have K13 : Hid (Fm w [(w.heap.size, Ck, 27), (w.heap.size + 1, D, 30), (y1.heap.size, C2, 27), (y4.heap.size, C3, 27), (y8.heap.size, C4, 27)] y13 ∧ HM w C g u.heap.size y13 Ck gk ∧ GO B7 y13 C4 (tickG gk)) := ⟨K12.out.1.below H, K12.out.2.1.below H, K12.out.2.2.below H⟩; rw [hmy.out]; clear H)
                | (go_at_call 13; refine (spread_any y11 B3 C3 (tickG gk) K11.out.2.2.1 (Nat.le_trans hB3l.out (Nat.le_of_lt (heap_lt (K11.out.1.bx 3 _ _ _ rfl))))).mono ?_; rintro e y12 ⟨rfl, H⟩; have K12 : Hid (Fm w [(w.heap.size, Ck, 27), (w.heap.size + 1, D, 30), (y1.heap.size, C2, 27), (y4.heap.size, C3, 27), (y8.heap.size, C4, 27)] y12 ∧ HM w C g u.heap.size y12 Ck gk ∧ GO B7 y12 C4 (tickG gk)) := ⟨K11.out.1.cuT H.out hQ.out.2.2.2.2 (fun x j e => K11.out.2.2.1.ownTy e) rfl, K11.out.2.1.cu H.out (fun q j hq e => by have h2 := (K11.out.2.2.1.own e).1; have h3 := hQ.out; omega), K11.out.2.2.2.cu H.out (fun x hx j e => by have h1 := (K11.out.2.2.2.own hx).1; have h2 := hO.out.1 x e; omega)⟩; clear H)
                | (go_at_call 12; refine (rsame_any y10 C3 C4 (tickG gk) (tickG gk) K10.out.2.2.1.lies K10.out.2.2.2.lies hTl.out hTl.out).mono ?_; rintro e y11 ⟨rfl, H⟩; have K11 : Hid (Fm w [(w.heap.size, Ck, 27), (w.heap.size + 1, D, 30), (y1.heap.size, C2, 27), (y4.heap.size, C3, 27), (y8.heap.size, C4, 27)] y11 ∧ HM w C g u.heap.size y11 Ck gk ∧ GO B3 y11 C3 (tickG gk) ∧ GO B7 y11 C4 (tickG gk)) := ⟨K10.out.1.below H, K10.out.2.1.below H, K10.out.2.2.1.below H, K10.out.2.2.2.below H⟩; (try rw [hsm.out]); clear H)
                | ((with_reducible refine at_st rtG (y8.heap.size) z23A C4 ?_ ?_ ?_ ?_ (.tmp 16) (.tmp 69) ?_ ?_ ?_ ?_ ?_); exact K9.out.1.bx 4 _ _ _ rfl; exact rfl; exact K9.out.2.2.2.lies.size.1; exact K9.out.2.2.2.lies.size.2.1; rfl; rfl; rfl; rfl; intro y10 H; have K10 : Hid (Fm w [(w.heap.size, Ck, 27), (w.heap.size + 1, D, 30), (y1.heap.size, C2, 27), (y4.heap.size, C3, 27), (y8.heap.size, C4, 27)] y10 ∧ HM w C g u.heap.size y10 Ck gk ∧ GO B3 y10 C3 (tickG gk) ∧ GO B7 y10 C4 (tickG gk)) := ⟨K9.out.1.put 4 _ _ _ _ rfl H.out, K9.out.2.1.offT (K9.out.1.bx 4 _ _ _ rfl) (by decide) (by decide) H.out.2.2, K9.out.2.2.1.offT (K9.out.1.bx 4 _ _ _ rfl) (by decide) (by decide) H.out.2.2, K9.out.2.2.2.offT (K9.out.1.bx 4 _ _ _ rfl) (by decide) (by decide) H.out.2.2⟩; clear H)
                | ((with_reducible refine gen_world (y8.alloc (.cells z23A 27)) (fun y => Fm w [(w.heap.size, Ck, 27), (w.heap.size + 1, D, 30), (y1.heap.size, C2, 27), (y4.heap.size, C3, 27), (y8.heap.size, z23A, 27)] y ∧ HM w C g u.heap.size y Ck gk ∧ GO B3 y C3 (tickG gk) ∧ GO B7 y C4 (tickG gk)) ?_ ?_); (exact ⟨K8.out.1.new _ _, K8.out.2.1.below (below1 y8 _), K8.out.2.2.1.below (below1 y8 _), K8.out.2.2.2.below (below1 y8 _)⟩); intro y9 K9)
                | (go_at_call 11; refine (rtick_any y7 Ck gk (K7.out.2.1.gl hg.out K7.out.1.low) hb4.out.1 hb4.out.2.1 hb4.out.2.2).mono ?_; rintro e y8 ⟨C4, rfl, H⟩; obtain ⟨B7, hB7⟩ : ∃ z, y7.heap.size = z := ⟨_, rfl⟩; have hO : Hid ((∀ x, ownG C3 x → x < B7) ∧ w.heap.size ≤ B7) := (by rw [← hB7]; exact ⟨fun x hx => (K7.out.2.2.own hx).2, K7.out.1.low.size⟩); have K8 : Hid (Fm w [(w.heap.size, Ck, 27), (w.heap.size + 1, D, 30), (y1.heap.size, C2, 27), (y4.heap.size, C3, 27)] y8 ∧ HM w C g u.heap.size y8 Ck gk ∧ GO B3 y8 C3 (tickG gk) ∧ GO B7 y8 C4 (tickG gk)) := ⟨K7.out.1.below H.out.2, K7.out.2.1.below H.out.2, K7.out.2.2.below H.out.2, (by rw [← hB7]; exact H.out.1)⟩; clear H hB7)
                | (go_at_call 10; refine (keptG_any y6 w.heap.size Ck C2 gk a1 a2 a3 K6.out.2.1 (fun x hx => (K6.out.2.2.1.cu hx (fun q j hq e => own_a hq hA.out e)).gl hg.out (K6.out.1.low.trans hx.low)) (K6.out.1.low.size : w.heap.size ≤ y6.heap.size) hn3.out.1 hn3.out.2.1 hn3.out.2.2).mono ?_; rintro e y7 ⟨rfl, H⟩; have K7 : Hid (Fm w [(w.heap.size, Ck, 27), (w.heap.size + 1, D, 30), (y1.heap.size, C2, 27), (y4.heap.size, C3, 27)] y7 ∧ HM w C g u.heap.size y7 Ck gk ∧ GO B3 y7 C3 (tickG gk)) := ⟨K6.out.1.cuT H.out (Nat.le_refl _) (fun x j e => K6.out.2.1.ty e) rfl, K6.out.2.2.1.cu H.out (fun q j hq e => own_a hq hA.out e), K6.out.2.2.2.cu H.out (fun x hx j e => by have h1 := (K6.out.2.2.2.own hx).1; have h2 := hQ.out; omega)⟩; clear H)
                | ((with_reducible refine at_st rtG (y4.heap.size) z23A C3 ?_ ?_ ?_ ?_ (.tmp 14) (.tmp 64) ?_ ?_ ?_ ?_ ?_); exact K5.out.1.bx 3 _ _ _ rfl; exact rfl; exact K5.out.2.2.2.lies.size.1; exact K5.out.2.2.2.lies.size.2.1; rfl; rfl; rfl; rfl; intro y6 H; have K6 : Hid (Fm w [(w.heap.size, Ck, 27), (w.heap.size + 1, D, 30), (y1.heap.size, C2, 27), (y4.heap.size, C3, 27)] y6 ∧ LG w.heap.size y6 C2 gk a1 a2 a3 ∧ HM w C g u.heap.size y6 Ck gk ∧ GO B3 y6 C3 (tickG gk)) := ⟨K5.out.1.put 3 _ _ _ _ rfl H.out, K5.out.2.1.offT (K5.out.1.bx 3 _ _ _ rfl) (by decide) (by decide) H.out.2.2, K5.out.2.2.1.offT (K5.out.1.bx 3 _ _ _ rfl) (by decide) (by decide) H.out.2.2, K5.out.2.2.2.offT (K5.out.1.bx 3 _ _ _ rfl) (by decide) (by decide) H.out.2.2⟩; clear H)
                | ((with_reducible refine gen_world (y4.alloc (.cells z23A 27)) (fun y => Fm w [(w.heap.size, Ck, 27), (w.heap.size + 1, D, 30), (y1.heap.size, C2, 27), (y4.heap.size, z23A, 27)] y ∧ LG w.heap.size y C2 gk a1 a2 a3 ∧ HM w C g u.heap.size y Ck gk ∧ GO B3 y C3 (tickG gk)) ?_ ?_); (exact ⟨K4.out.1.new _ _, K4.out.2.1.below (below1 y4 _), K4.out.2.2.1.below (below1 y4 _), K4.out.2.2.2.below (below1 y4 _)⟩); intro y5 K5)
                | (go_at_call 9; refine (tick_any y3 C2 gk K3.out.2.1.lies hb4.out.1 hb4.out.2.1 hb4.out.2.2).mono ?_; rintro e y4 ⟨C3, rfl, H⟩; obtain ⟨B3, hB3⟩ : ∃ z, y3.heap.size = z := ⟨_, rfl⟩; have hQ : Hid (a1 < B3 ∧ a2 < B3 ∧ a3 < B3 ∧ u.heap.size ≤ B3 ∧ w.heap.size ≤ B3) := (by have h1 := hA.out; have h2 := heap_lt (K3.out.1.bx 2 _ _ _ rfl); have h3 := K3.out.1.low.size; rw [← hB3]; show _ ∧ _; omega); have hB3l : Hid (B3 ≤ y4.heap.size) := (by rw [← hB3]; exact H.out.2.size); have K4 : Hid (Fm w [(w.heap.size, Ck, 27), (w.heap.size + 1, D, 30), (y1.heap.size, C2, 27)] y4 ∧ LG w.heap.size y4 C2 gk a1 a2 a3 ∧ HM w C g u.heap.size y4 Ck gk ∧ GO B3 y4 C3 (tickG gk)) := ⟨K3.out.1.below H.out.2, K3.out.2.1.below H.out.2, K3.out.2.2.below H.out.2, (by rw [← hB3]; exact H.out.1)⟩; clear H hB3)
                | ((with_reducible refine at_st rtG (y1.heap.size) z23A C2 ?_ ?_ ?_ ?_ (.tmp 13) (.tmp 62) ?_ ?_ ?_ ?_ ?_); exact K2.out.1.bx 2 _ _ _ rfl; exact rfl; exact K2.out.2.1.size; exact K2.out.2.1.lies.size.2.1; rfl; rfl; rfl; rfl; intro y3 H; have K3 : Hid (Fm w [(w.heap.size, Ck, 27), (w.heap.size + 1, D, 30), (y1.heap.size, C2, 27)] y3 ∧ LG w.heap.size y3 C2 gk a1 a2 a3 ∧ HM w C g u.heap.size y3 Ck gk) := ⟨K2.out.1.put 2 _ _ _ _ rfl H.out, K2.out.2.1.offT (K2.out.1.bx 2 _ _ _ rfl) (by decide) (by decide) H.out.2.2, K2.out.2.2.offT (K2.out.1.bx 2 _ _ _ rfl) (by decide) (by decide) H.out.2.2⟩; clear H)
                | ((with_reducible refine gen_world (y1.alloc (.cells z23A 27)) (fun y => Fm w [(w.heap.size, Ck, 27), (w.heap.size + 1, D, 30), (y1.heap.size, z23A, 27)] y ∧ LG w.heap.size y C2 gk a1 a2 a3 ∧ HM w C g u.heap.size y Ck gk) ?_ ?_); (exact ⟨K1.out.1.new _ _, K1.out.2.1.below (below1 y1 _), K1.out.2.2.below (below1 y1 _)⟩); intro y2 K2)
                | (go_at_call 8; refine (lentG_any u Ck gk (Ku.out.2.1.gl hg.out Ku.out.1.low) hn3.out.1 hn3.out.2.1 hn3.out.2.2).mono ?_; rintro e y1 ⟨C2, a1, a2, a3, rfl, H⟩; have K1 : Hid (Fm w [(w.heap.size, Ck, 27), (w.heap.size + 1, D, 30)] y1 ∧ LG w.heap.size y1 C2 gk a1 a2 a3 ∧ HM w C g u.heap.size y1 Ck gk) := ⟨Ku.out.1.below H.out.2, H.out.1.weak Ku.out.1.low.size, Ku.out.2.1.hm.below H.out.2⟩; have hA : Hid (u.heap.size ≤ a1 ∧ u.heap.size ≤ a2 ∧ u.heap.size ≤ a3 ∧ a1 < y1.heap.size ∧ a2 < y1.heap.size ∧ a3 < y1.heap.size) := ⟨H.out.1.ge.1, H.out.1.ge.2.1, H.out.1.ge.2.2, heap_lt H.out.1.s, heap_lt H.out.1.p, heap_lt H.out.1.m⟩; clear H)
                | ((with_reducible refine at_load rtG (w.heap.size) Ck ?_ ?_ (.tmp 3) ?_ ?_ ?_ ?_); (first | exact K12.out.1.bx 0 _ _ _ rfl | exact K7.out.1.bx 0 _ _ _ rfl | exact K6.out.1.bx 0 _ _ _ rfl | exact Ku.out.1.bx 0 _ _ _ rfl); exact gK.out; kernel_rfl; rfl; rfl)
                | ((with_reducible refine at_load rtG (y1.heap.size) C2 ?_ ?_ (.tmp 13) ?_ ?_ ?_ ?_); (first | exact K6.out.1.bx 2 _ _ _ rfl | exact K3.out.1.bx 2 _ _ _ rfl); exact K3.out.2.1.size; kernel_rfl; rfl; rfl)
                | ((with_reducible refine at_load rtG (y4.heap.size) C3 ?_ ?_ (.tmp 14) ?_ ?_ ?_ ?_); (first | exact K11.out.1.bx 3 _ _ _ rfl | exact K10.out.1.bx 3 _ _ _ rfl); exact K6.out.2.2.2.lies.size.1; kernel_rfl; rfl; rfl)
                | ((with_reducible refine at_load rtG (y8.heap.size) C4 ?_ ?_ (.tmp 16) ?_ ?_ ?_ ?_); (first | exact K13.out.1.bx 4 _ _ _ rfl | exact K10.out.1.bx 4 _ _ _ rfl); exact K10.out.2.2.2.lies.size.1; kernel_rfl; rfl; rfl))
              go_roundw
              case rel => exact ⟨k + 1, C4, tickG gk, _, rfl, hkp.out, by simp, ⟨K14.out.1.pre (l' := [_, _, _]), .inr (K14.out.2.weak hO.out.2), hsmT.out⟩⟩
              case measure => have := hkp.out; simp [intOf]; omega
          · obtain rfl : k = pk := by omega
            clear hk hlk
            go_wp2_with (go_at_call 7; refine (pick_any u p.tk 3 hpt.out ⟨by decide, by decide⟩).mono ?_; rintro e yp ⟨rfl, ep⟩; replace ep := ep.symm; subst ep; rw [hpk.out])
            go_roundw
            case rel => exact ⟨i + 1, Ck, gk, _, rfl, hlt'.out, by simp, Ku⟩
            case measure => have := hlt'.out; simp [intOf]; omega
    · obtain rfl : i = n := by omega
      clear hi hlt
      go_wp2
      go_ret
      exact ⟨rfl, K.out.1.low⟩
theorem plays_walk (w : World) (C D : Array Value) (g : Gm) (f : Fo) (sp : Option Addr) (cap : Nat) (L : List Pl) (hg : GL w C g) (hf : FL w D f) (hL : LiesL 4 cPl w sp L) (hok : ∀ p ∈ L, p.Ok) :
    Calls Tryz.prog 3 #[.agg C, .agg D, .slice sp L.length cap] w fun e w' => e = .returned (.bool true) ∧ Below w.heap.size w w' := by
  rcases hv : vasG g.st.length g.pg.length g.me.length f.by_.length with _ | _
  · by_cases hn : L.length ≤ 2147483647
    · refine plays_run w C D g f sp _ cap hg hf hv ?_ hn L rfl hL hok
      unfold vasG at hv
      simp at hv
      show smaG g f
      unfold smaG
      omega
    · exact plays_long w C D g f sp _ cap hg hf hv (by omega)
  · exact plays_vast w C D g f sp _ cap hg hf hv
end Go.Proofs.YteipjkjpeookaaaGreat
