/- The statement that beeps, waves and levels add up: the walk. -/
import Derived.Test.YtbiifkcphaljeaaTd
import Derived.Deep.QuietTactic
import Derived.BigQuiet
namespace Go.Proofs.Ytbiifkcphaljeaa
open Go Go.RowKit
set_option linter.unusedVariables false
set_option maxHeartbeats 4000000
set_option maxRecDepth 20000

theorem counts_walk (w : World) (sp : Option Addr) (cap : Nat) (l : List Rc) (hl : Hid (LiesR w sp l)) (hn : l.length ≤ maxLen) :
    Calls Try.prog 6 #[.slice sp l.length cap] w fun e w' => e = .returned (.bool true) ∧ Below w.heap.size w w' := by
  have hn : l.length ≤ 9223372036854775807 := by unfold maxLen at hn; omega
  obtain ⟨n, hn'⟩ : ∃ n, l.length = n := ⟨_, rfl⟩
  have ni : (n : Int) ≤ 9223372036854775807 := by omega
  by_cases hbig : 2147483647 < n
  · have q : decide ((2147483647 : Int) < n) = true := by simp; omega
    rw [hn']
    clear hbig hn hn'
    go_enter Try.func6, Try.ntmps6
    go_wp2
    go_ret
    exact ⟨rfl, Below.refl _ _⟩
  have q : decide ((2147483647 : Int) < n) = false := by simp; omega
  have n31 : (n : Int) ≤ 2147483647 := by omega
  have hB : Hid (∀ y : World, LiesR y sp l → Calls Try.prog 8 #[.slice sp n cap] y fun e w' => ∃ v, e = .returned v ∧ Hid (KL 27 2 c2 y v (bepL (levels (l.map (·.q)))) w')) := fun y h => by
    have := pbeep_any y sp cap l h (by omega)
    rw [hn'] at this
    exact this
  have hW : Hid (∀ y : World, LiesR y sp l → Calls Try.prog 12 #[.slice sp n cap] y fun e w' => ∃ v, e = .returned v ∧ Hid (KL 34 2 c2 y v (wavL (levels (l.map (·.q)))) w')) := fun y h => by
    have := pwav_any y sp cap l h (by omega)
    rw [hn'] at this
    exact this
  have hL : Hid (∀ y : World, LiesR y sp l → Calls Try.prog 15 #[.slice sp n cap] y fun e w' => ∃ v, e = .returned v ∧ Hid (KL 3 1 cI y v (levels (l.map (·.q))) w')) := fun y h => by
    have := plev_any y sp cap l h (by omega)
    rw [hn'] at this
    exact this
  have hla : Hid ((l.map (·.q)).length = n) := by show _ = _; rw [List.length_map, hn']
  have hq : Hid (∀ (y : World) (j : Nat) (c : Bool), LiesR y sp l → (l.map (·.q))[j]? = some c → ∃ g o, sp = some ⟨g, o, none⟩ ∧ y.cell? ⟨g, o + j * 8 + 6, none⟩ = some (.bool c)) := fun y j c h1 h => h1.q j c h
  obtain ⟨qs, eqs⟩ : ∃ x, l.map (·.q) = x := ⟨_, rfl⟩
  rw [eqs] at hB hW hL hla hq
  have fin1 : Hid (∀ (i at' : Nat), i < qs.length → at' ≤ (levels qs).length / 2 → (∀ k, k < at' → posV (levels qs) (2 * k + 2) ≤ i) → (at' < (levels qs).length / 2 → (i : Int) < posV (levels qs) (2 * at' + 2)) → qs[i]? = some (decide (at' < (levels qs).length / 2 ∧ posV (levels qs) (2 * at' + 1) ≤ i))) := in_beep qs
  have fin2 : Hid _ := beep_facts qs
  have fin3 : Hid _ := levels_good qs
  have fin4 : Hid ((levels qs).sum = (n : Int)) := by show _ = _; rw [levels_sum, hla.out]
  have hvl := levels_len qs
  rw [hla.out] at hvl
  have hne : Hid (((0 : Int) < n) ↔ 0 < (levels qs).length) := by
    have h := fin4.out
    constructor
    · intro h0
      rcases Nat.eq_zero_or_pos (levels qs).length with e | e
      · rw [List.eq_nil_of_length_eq_zero e] at h
        simp at h
        omega
      · exact e
    · intro h0
      rcases Nat.eq_zero_or_pos n with e | e
      · have : qs = [] := List.eq_nil_of_length_eq_zero (by rw [hla.out]; exact e)
        rw [this] at h0
        simp [levels, levGo] at h0
      · omega
  obtain ⟨V, eV⟩ : ∃ x, levels qs = x := ⟨_, rfl⟩
  rw [eV] at hB hW hL fin1 fin2 fin3 fin4 hvl hne
  obtain ⟨nv, env⟩ : ∃ x, V.length = x := ⟨_, rfl⟩
  obtain ⟨nb, enb⟩ : ∃ x, nv / 2 = x := ⟨_, rfl⟩
  have hbn : Hid ((bepL V).length = nb ∧ (wavL V).length = nb ∧ V.length = nv ∧ V.length / 2 = nb) := ⟨by rw [bepL_len, env, enb], by rw [wavL_len, env, enb], env, by rw [env, enb]⟩
  have hBat : Hid (∀ j, j < nb → (bepL V)[j]? = some (posV V (2 * j + 1), posV V (2 * j + 2))) := fun j h => bepL_at V j (by omega)
  have hWat : Hid (∀ j, j < nb → (wavL V)[j]? = some (V.getD (2 * j + 1) 0, V.getD (2 * j + 2) 0)) := fun j h => wavL_at V j (by omega)
  rw [env] at hvl hne
  rw [hbn.out.2.2.2] at fin1 fin2
  rw [hla.out] at fin1 fin2
  have nvi : (nv : Int) ≤ 2147483648 := by omega
  have nbi : (nb : Int) ≤ 2147483648 := by omega
  rw [hn']
  obtain ⟨BL, eBL⟩ : ∃ x, bepL V = x := ⟨_, rfl⟩
  obtain ⟨WL, eWL⟩ : ∃ x, wavL V = x := ⟨_, rfl⟩
  rw [eBL] at hB hbn hBat
  rw [eWL] at hW hbn hWat
  have hpos : Hid (∀ a, 0 ≤ posV V a ∧ posV V a ≤ n) := fun a => by
    have := posV_hi V (fun i x h => (fin3.out i x h).1) a
    rw [fin4.out] at this
    exact this
  clear hbig hn hn' eqs eV env enb hvl eBL eWL
  go_enter Try.func6, Try.ntmps6
  go_wp2_with (first
    | (go_at_call 8; refine (hB.out w hl.out).mono ?_; rintro e y1 ⟨v1, rfl, H1⟩)
    | (go_at_call 12; refine (hW.out y1 (hl.out.below H1.out.low)).mono ?_; rintro e y2 ⟨v2, rfl, H2⟩)
    | (go_at_call 15; refine (hL.out y2 ((hl.out.below H1.out.low).below H2.out.low)).mono ?_; rintro e y3 ⟨v3, rfl, H3⟩; refine stopAt ?_))
  refine Stop.go ?_
  have low3 : Hid (Below w.heap.size w y3) := (H1.out.low.trans (H2.out.low.mono H1.out.low.size)).trans (H3.out.low.mono (by have := H1.out.low.size; have := H2.out.low.size; omega))
  obtain ⟨pb, cb, rfl, lb, -⟩ := ((H1.out.own.below H2.out.low).below H3.out.low).open kBeep.len
  obtain ⟨pw, cw, rfl, lw, -⟩ := (H2.out.own.below H3.out.low).open kWave.len
  obtain ⟨pv, cv, rfl, lv, -⟩ := H3.out.own.open kInt.len
  rw [hbn.out.1, hbn.out.2.1, hbn.out.2.2.1]
  have LB : Hid (L2 y3 pb BL) := lb
  have LW : Hid (L2 y3 pw WL) := lw
  have LV : Hid (LI y3 pv V) := lv
  have LR : Hid (LiesR y3 sp l) := hl.out.below low3.out
  have hq3 : Hid (∀ (j : Nat) (c : Bool), qs[j]? = some c → ∃ g o, sp = some ⟨g, o, none⟩ ∧ y3.cell? ⟨g, o + j * 8 + 6, none⟩ = some (.bool c)) := fun j c h => hq.out y3 j c LR.out h
  clear lb lw lv H1 H2 H3 hB hW hL hq
  go_wp2
  go_loopw [6, 7] (fun a i wz => ∃ (j p : Nat), wz = y3 ∧ a = .int .i64 (p : Int) ∧ i = .int .i64 (j : Int) ∧ Hid (j ≤ n ∧ p ≤ nb ∧ ∀ k, k < p → posV V (2 * k + 2) ≤ j)) (fun _ i _ => (n - intOf i).toNat)
  case atStart => exact ⟨0, 0, rfl, rfl, rfl, ⟨Nat.zero_le _, Nat.zero_le _, fun k h => by omega⟩⟩
  case round =>
    obtain ⟨j, p, hw, rfl, rfl, J⟩ := hrel
    subst hw
    by_cases hlt : j < n
    · obtain ⟨c, hc, -⟩ := at_list hla.out hlt
      obtain ⟨g0, o0, rfl, rc⟩ := hq3.out j c hc
      have i0 := fun u => idxP (g := g0) (off := o0) (len := n) (cap := cap) Try.underlying22 (s := 8) (by kernel_rfl) .i64 j u hlt
      have hji : (j : Int) < n := by omega
      have hlt' : Hid (j < n) := hlt
      replace hc : Hid _ := hc
      clear hlt
      go_wp2
      go_loopw [6] (fun a wz => ∃ (p : Nat), wz = wr ∧ a = .int .i64 (p : Int) ∧ Hid (p ≤ nb ∧ ∀ k, k < p → posV V (2 * k + 2) ≤ j)) (fun a _ => (nb - intOf a).toNat)
      case atStart => exact ⟨p, rfl, rfl, J.out.2⟩
      case round =>
        obtain ⟨p, hw, rfl, J2⟩ := hrel
        subst hw
        by_cases hp : p < nb
        · obtain ⟨gb, ob, rfl, -, x1, x2⟩ := l2_at LB.out p _ (hBat.out p hp)
          dsimp only at x1 x2
          have ib := fun u => idxP (g := gb) (off := ob) (len := nb) (cap := cb) Try.underlying23 (s := 2) (by kernel_rfl) .i64 p u hp
          have hpi : (p : Int) < nb := by omega
          have hin := fin1.out j p hlt'.out J2.out.1 J2.out.2
          obtain ⟨F, hF⟩ : ∃ F, posV V (2 * p + 1) = F := ⟨_, rfl⟩
          obtain ⟨T, hT⟩ : ∃ T, posV V (2 * p + 2) = T := ⟨_, rfl⟩
          rw [hF] at x1 hin
          rw [hT] at x2 hin
          by_cases hTj : T ≤ (j : Int)
          · have qT : decide (T ≤ (j : Int)) = true := by simpa using hTj
            have J3 : Hid (p + 1 ≤ nb ∧ ∀ k, k < p + 1 → posV V (2 * k + 2) ≤ j) := ⟨hp, fun k hk => by
              rcases Nat.lt_or_ge k p with h | h
              · exact J2.out.2 k h
              · have : k = p := by omega
                subst this
                rw [hT]
                exact hTj⟩
            have hp' : Hid (p < nb) := hp
            clear hp hTj hF hT hin
            go_wp2
            go_roundw
            case rel => exact ⟨p + 1, by trivial, by simp, J3⟩
            case measure => have := hp'.out; simp [intOf]; omega
          · have qT : decide (T ≤ (j : Int)) = false := by simpa using hTj
            have hcv : c = decide (F ≤ (j : Int)) := by
              have h := hin (fun _ => by omega)
              rw [hc.out] at h
              have h := Option.some.inj h
              rw [h, decide_eq_decide]
              exact ⟨fun h => h.2, fun h => ⟨hp, h⟩⟩
            have J3 : Hid (p ≤ nb ∧ ∀ k, k < p → posV V (2 * k + 2) ≤ ((j + 1 : Nat) : Int)) := ⟨J2.out.1, fun k hk => by have := J2.out.2 k hk; omega⟩
            replace hc : Hid True := trivial
            clear hp hTj hF hT hin
            by_cases hFj : F ≤ (j : Int)
            · have qF : decide (F ≤ (j : Int)) = true := by simpa using hFj
              rw [qF] at hcv
              subst hcv
              clear hFj
              go_wp2
              go_roundw
              case rel => exact ⟨j + 1, p, by trivial, by trivial, by simp, ⟨hlt'.out, J3.out⟩⟩
              case measure => have := hlt'.out; simp [intOf]; omega
            · have qF : decide (F ≤ (j : Int)) = false := by simpa using hFj
              rw [qF] at hcv
              subst hcv
              clear hFj
              go_wp2
              go_roundw
              case rel => exact ⟨j + 1, p, by trivial, by trivial, by simp, ⟨hlt'.out, J3.out⟩⟩
              case measure => have := hlt'.out; simp [intOf]; omega
        · have hin := fin1.out j p hlt'.out J2.out.1 J2.out.2 (fun h => absurd h hp)
          have hcv : c = false := by
            rw [hc.out] at hin
            have h := Option.some.inj hin
            rw [h, decide_eq_false_iff_not]
            exact fun h => hp h.1
          have hpi : ¬ (p : Int) < nb := by omega
          have J3 : Hid (p ≤ nb ∧ ∀ k, k < p → posV V (2 * k + 2) ≤ ((j + 1 : Nat) : Int)) := ⟨J2.out.1, fun k hk => by have := J2.out.2 k hk; omega⟩
          replace hc : Hid True := trivial
          subst hcv
          clear hp hin
          go_wp2
          go_roundw
          case rel => exact ⟨j + 1, p, by trivial, by trivial, by simp, ⟨hlt'.out, J3.out⟩⟩
          case measure => have := hlt'.out; simp [intOf]; omega
    · have hji : ¬ (j : Int) < n := by omega
      clear hlt J hq3 LR hl
      obtain ⟨z3, hz3⟩ : ∃ z, wr = z := ⟨_, rfl⟩
      subst hz3
      go_wp2
      go_loopw [9] (fun i wz => ∃ (j : Nat) (y : World), y = wz ∧ i = .int .i64 (j : Int) ∧ Hid (j ≤ nb) ∧ Hid (Below wr.heap.size wr y)) (fun i _ => (nb - intOf i).toNat)
      case atStart => exact ⟨0, _, rfl, rfl, Nat.zero_le _, Below.refl _ _⟩
      case round =>
        obtain ⟨j, y, rfl, rfl, J, U⟩ := hrel
        by_cases hlt : j < nb
        · obtain ⟨F, T, H, L, e1, e2, e3, e4, F0, FT, Tn, HH, nxE, lastE, pvE⟩ := fin2.out j hlt
          obtain ⟨gb, ob, rfl, -, x1, x2⟩ := l2_at (LB.out.below U.out) j _ (hBat.out j hlt)
          obtain ⟨gw, ow, rfl, -, x3, x4⟩ := l2_at (LW.out.below U.out) j _ (hWat.out j hlt)
          dsimp only at x1 x2 x3 x4
          rw [e1] at x1
          rw [e2] at x2
          rw [e3] at x3
          rw [e4] at x4
          have ib := fun u => idxP (g := gb) (off := ob) (len := nb) (cap := cb) Try.underlying23 (s := 2) (by kernel_rfl) .i64 j u hlt
          have iw := fun u => idxP (g := gw) (off := ow) (len := nb) (cap := cw) Try.underlying30 (s := 2) (by kernel_rfl) .i64 j u hlt
          have hji2 : (j : Int) < nb := by omega
          have hgeN : ¬ nb ≤ j := by omega
          have hgeI : ¬ (nb : Int) ≤ j := by omega
          have qF : decide (F < 0) = false := by simp; omega
          have qT : decide (T ≤ F) = false := by simp; omega
          have qN : decide ((n : Int) < T) = false := by simp; omega
          have eH : T - F = H := by omega
          have qHH : (H != H) = false := by simp
          have qLL : (L != L) = false := by simp
          have L0 : 0 ≤ L ∧ L ≤ 2147483647 := by
            by_cases h : j + 1 < nb
            · have a := nxE h
              have b := hpos.out (2 * (j + 1) + 1)
              have c := fin2.out (j + 1) h
              obtain ⟨F', T', H', L', f1, f2, f3, f4, g0, g1, g2, g3, g4, g5, g6⟩ := c
              have := g6 (by omega)
              rw [show 2 * (j + 1 - 1) + 2 = 2 * j + 2 by omega, e2, ← f1, a] at this
              omega
            · have a := lastE h
              by_cases h2 : 2 * j + 2 < nv
              · have b := (fin3.out (2 * j + 2) _ (List.getElem?_eq_getElem (by rw [hbn.out.2.2.1]; exact h2))).1
                rw [List.getD_eq_getElem?_getD, List.getElem?_eq_getElem (by rw [hbn.out.2.2.1]; exact h2)] at e4
                simp at e4
                omega
              · rw [List.getD_eq_getElem?_getD, List.getElem?_eq_none (by rw [hbn.out.2.2.1]; omega)] at e4
                simp at e4
                omega
          obtain ⟨L1, L2'⟩ := L0
          have hlt' : Hid (j < nb) := hlt
          have T0 : 0 ≤ T := by omega
          replace e1 : Hid _ := e1
          replace e2 : Hid _ := e2
          replace e3 : Hid _ := e3
          replace e4 : Hid _ := e4
          have F9 : F ≤ 2147483647 := by omega
          have T9 : T ≤ 2147483647 := by omega
          by_cases h0 : 0 < j
          · by_cases h1 : j + 1 < nb
            · have hj0 : (0 : Int) < j := by omega
              have hjn : 0 < j := h0
              have q0 : decide ((0 : Int) < j) = true := by simp; omega
              obtain ⟨gb', ob', e', -, -, x5⟩ := l2_at (LB.out.below U.out) (j - 1) _ (hBat.out (j - 1) (by omega))
              cases e'
              dsimp only at x5
              have hp5 := pvE h0
              obtain ⟨T', hT'⟩ : ∃ T', posV V (2 * (j - 1) + 2) = T' := ⟨_, rfl⟩
              rw [hT'] at x5 hp5
              have ib1 : ∀ u, (Instr.indexAt 23 (.slice (some ⟨gb, ob, none⟩) nb cb) (.int .i64 ((j : Int) - 1))).run Try.prog u = .ok (.pointer (some ⟨gb, ob + (j - 1) * 2, none⟩)) u := fun u => by
                have := idxP (g := gb) (off := ob) (len := nb) (cap := cb) Try.underlying23 (s := 2) (by kernel_rfl) .i64 (j - 1) u (by omega)
                rwa [show ((j - 1 : Nat) : Int) = (j : Int) - 1 by omega] at this
              have qP : decide (F ≤ T') = false := by simp; omega
              obtain ⟨o5, ho5⟩ : ∃ o5, ob + (j - 1) * 2 = o5 := ⟨_, rfl⟩
              rw [ho5] at x5 ib1
              clear hT' hp5 ho5
              obtain ⟨gb2, ob2, e'', -, x6, -⟩ := l2_at (LB.out.below U.out) (j + 1) _ (hBat.out (j + 1) h1)
              cases e''
              dsimp only at x6
              have hNF := nxE h1
              obtain ⟨NF, hNF'⟩ : ∃ NF, posV V (2 * (j + 1) + 1) = NF := ⟨_, rfl⟩
              rw [hNF'] at x6 hNF
              have eL : NF - T = L := by omega
              have NF9 : NF ≤ 4294967294 := by omega
              have NF0 : 0 ≤ NF := by omega
              have hnx : (j : Int) + 1 < nb := by omega
              have ib2 : ∀ u, (Instr.indexAt 23 (.slice (some ⟨gb, ob, none⟩) nb cb) (.int .i64 ((j : Int) + 1))).run Try.prog u = .ok (.pointer (some ⟨gb, ob + (j + 1) * 2, none⟩)) u := fun u => by
                have := idxP (g := gb) (off := ob) (len := nb) (cap := cb) Try.underlying23 (s := 2) (by kernel_rfl) .i64 (j + 1) u h1
                rwa [show ((j + 1 : Nat) : Int) = (j : Int) + 1 by push_cast; rfl] at this
              obtain ⟨o6, ho6⟩ : ∃ o6, ob + (j + 1) * 2 = o6 := ⟨_, rfl⟩
              rw [ho6] at x6 ib2
              clear hNF hNF' ho6
              obtain ⟨o1, ho1⟩ : ∃ o1, ob + j * 2 = o1 := ⟨_, rfl⟩
              obtain ⟨o3, ho3⟩ : ∃ o3, ow + j * 2 = o3 := ⟨_, rfl⟩
              rw [ho1] at x1 x2 ib
              rw [ho3] at x3 x4 iw
              clear hlt h0 h1 nxE lastE pvE HH FT Tn ho1 ho3
              go_wp2
              go_quiet (fail)
              go_wp2
              go_quiet (fail)
              go_wp2
              go_quiet (fail)
              go_wp2
              go_roundw
              case rel => exact ⟨j + 1, _, rfl, by simp, hlt'.out, by first | exact U.out.trans (below_drewN (Below.refl _ _)) | exact below_drewN U.out⟩
              case measure => have := hlt'.out; simp [intOf]; omega
            · have hj0 : (0 : Int) < j := by omega
              have hjn : 0 < j := h0
              have q0 : decide ((0 : Int) < j) = true := by simp; omega
              obtain ⟨gb', ob', e', -, -, x5⟩ := l2_at (LB.out.below U.out) (j - 1) _ (hBat.out (j - 1) (by omega))
              cases e'
              dsimp only at x5
              have hp5 := pvE h0
              obtain ⟨T', hT'⟩ : ∃ T', posV V (2 * (j - 1) + 2) = T' := ⟨_, rfl⟩
              rw [hT'] at x5 hp5
              have ib1 : ∀ u, (Instr.indexAt 23 (.slice (some ⟨gb, ob, none⟩) nb cb) (.int .i64 ((j : Int) - 1))).run Try.prog u = .ok (.pointer (some ⟨gb, ob + (j - 1) * 2, none⟩)) u := fun u => by
                have := idxP (g := gb) (off := ob) (len := nb) (cap := cb) Try.underlying23 (s := 2) (by kernel_rfl) .i64 (j - 1) u (by omega)
                rwa [show ((j - 1 : Nat) : Int) = (j : Int) - 1 by omega] at this
              have qP : decide (F ≤ T') = false := by simp; omega
              obtain ⟨o5, ho5⟩ : ∃ o5, ob + (j - 1) * 2 = o5 := ⟨_, rfl⟩
              rw [ho5] at x5 ib1
              clear hT' hp5 ho5
              have eL : (n : Int) - T = L := by have := lastE h1; omega
              have hnx : ¬ (j : Int) + 1 < nb := by omega
              obtain ⟨o1, ho1⟩ : ∃ o1, ob + j * 2 = o1 := ⟨_, rfl⟩
              obtain ⟨o3, ho3⟩ : ∃ o3, ow + j * 2 = o3 := ⟨_, rfl⟩
              rw [ho1] at x1 x2 ib
              rw [ho3] at x3 x4 iw
              clear hlt h0 h1 nxE lastE pvE HH FT Tn ho1 ho3
              go_wp2
              go_quiet (fail)
              go_wp2
              go_quiet (fail)
              go_wp2
              go_roundw
              case rel => exact ⟨j + 1, _, rfl, by simp, hlt'.out, by first | exact U.out.trans (below_drewN (Below.refl _ _)) | exact below_drewN U.out⟩
              case measure => have := hlt'.out; simp [intOf]; omega
          · by_cases h1 : j + 1 < nb
            · have hj0 : ¬ (0 : Int) < j := by omega
              have hjn : ¬ 0 < j := h0
              have q0 : decide ((0 : Int) < j) = false := by simp; omega
              obtain ⟨gb2, ob2, e'', -, x6, -⟩ := l2_at (LB.out.below U.out) (j + 1) _ (hBat.out (j + 1) h1)
              cases e''
              dsimp only at x6
              have hNF := nxE h1
              obtain ⟨NF, hNF'⟩ : ∃ NF, posV V (2 * (j + 1) + 1) = NF := ⟨_, rfl⟩
              rw [hNF'] at x6 hNF
              have eL : NF - T = L := by omega
              have NF9 : NF ≤ 4294967294 := by omega
              have NF0 : 0 ≤ NF := by omega
              have hnx : (j : Int) + 1 < nb := by omega
              have ib2 : ∀ u, (Instr.indexAt 23 (.slice (some ⟨gb, ob, none⟩) nb cb) (.int .i64 ((j : Int) + 1))).run Try.prog u = .ok (.pointer (some ⟨gb, ob + (j + 1) * 2, none⟩)) u := fun u => by
                have := idxP (g := gb) (off := ob) (len := nb) (cap := cb) Try.underlying23 (s := 2) (by kernel_rfl) .i64 (j + 1) u h1
                rwa [show ((j + 1 : Nat) : Int) = (j : Int) + 1 by push_cast; rfl] at this
              obtain ⟨o6, ho6⟩ : ∃ o6, ob + (j + 1) * 2 = o6 := ⟨_, rfl⟩
              rw [ho6] at x6 ib2
              clear hNF hNF' ho6
              obtain ⟨o1, ho1⟩ : ∃ o1, ob + j * 2 = o1 := ⟨_, rfl⟩
              obtain ⟨o3, ho3⟩ : ∃ o3, ow + j * 2 = o3 := ⟨_, rfl⟩
              rw [ho1] at x1 x2 ib
              rw [ho3] at x3 x4 iw
              clear hlt h0 h1 nxE lastE pvE HH FT Tn ho1 ho3
              go_wp2
              go_quiet (fail)
              go_wp2
              go_quiet (fail)
              go_wp2
              go_quiet (fail)
              go_wp2
              go_roundw
              case rel => exact ⟨j + 1, _, rfl, by simp, hlt'.out, by first | exact U.out.trans (below_drewN (Below.refl _ _)) | exact below_drewN U.out⟩
              case measure => have := hlt'.out; simp [intOf]; omega
            · have hj0 : ¬ (0 : Int) < j := by omega
              have hjn : ¬ 0 < j := h0
              have q0 : decide ((0 : Int) < j) = false := by simp; omega
              have eL : (n : Int) - T = L := by have := lastE h1; omega
              have hnx : ¬ (j : Int) + 1 < nb := by omega
              obtain ⟨o1, ho1⟩ : ∃ o1, ob + j * 2 = o1 := ⟨_, rfl⟩
              obtain ⟨o3, ho3⟩ : ∃ o3, ow + j * 2 = o3 := ⟨_, rfl⟩
              rw [ho1] at x1 x2 ib
              rw [ho3] at x3 x4 iw
              clear hlt h0 h1 nxE lastE pvE HH FT Tn ho1 ho3
              go_wp2
              go_quiet (fail)
              go_wp2
              go_quiet (fail)
              go_wp2
              go_roundw
              case rel => exact ⟨j + 1, _, rfl, by simp, hlt'.out, by first | exact U.out.trans (below_drewN (Below.refl _ _)) | exact below_drewN U.out⟩
              case measure => have := hlt'.out; simp [intOf]; omega
        · have hji2 : ¬ (j : Int) < nb := by omega
          have U' : Hid _ := U
          clear hlt J
          obtain ⟨bb, hb1⟩ : ∃ b, decide ((0 : Int) < n) = b := ⟨_, rfl⟩
          have hb2 : decide ((0 : Int) < nv) = bb := by rw [← hb1, decide_eq_decide]; have := hne.out; omega
          have hb3 : decide (0 < n) = bb := by rw [← hb1, decide_eq_decide]; omega
          have hb4 : decide (0 < nv) = bb := by rw [← hb2, decide_eq_decide]; omega
          go_wp2
          go_loopw [11, 12] (fun a i wz => ∃ (k : Nat), wz = y ∧ a = .int .i64 (posV V k) ∧ i = .int .i64 (k : Int) ∧ Hid (k ≤ nv)) (fun _ i _ => (nv - intOf i).toNat)
          case atStart => exact ⟨0, rfl, by rw [posV_zero], rfl, Nat.zero_le _⟩
          case round =>
            obtain ⟨k, hw, rfl, rfl, J4⟩ := hrel
            subst hw
            by_cases hk : k < nv
            · obtain ⟨x, hx, -⟩ := at_list hbn.out.2.2.1 hk
              obtain ⟨gv, ov, rfl, xv⟩ := li_at (LV.out.below U.out) k x hx
              have iv := fun u => idxI gv ov nv cv k hk u
              have hki : (k : Int) < nv := by omega
              have hP : Hid (posV V (k + 1) = posV V k + x) := posV_succ V k x hx
              have a0 := hpos.out k
              have a1 := hpos.out (k + 1)
              rw [hP.out] at a1
              obtain ⟨P, hPk⟩ : ∃ P, posV V k = P := ⟨_, rfl⟩
              rw [hPk] at a0 a1 hP ⊢
              have gd := fin3.out k x hx
              have qx : decide (x < 0) = false := by have := gd.1; simp; omega
              obtain ⟨p0, p1⟩ := a0
              obtain ⟨p2, p3⟩ := a1
              have x9 : x ≤ 2147483647 := by omega
              have x0 := gd.1
              have hk' : Hid (k < nv) := hk
              replace hx : Hid _ := hx
              by_cases h0 : 0 < k
              · have q0 : decide ((0 : Int) < k) = true := by simp; omega
                have hkn : 0 < k := h0
                have qz : (x == 0) = false := by have := gd.2 h0; simp; omega
                clear h0 gd hk hPk
                go_wp2
                go_roundw
                case rel => exact ⟨k + 1, by trivial, by rw [hP.out], by simp, hk'.out⟩
                case measure => have := hk'.out; simp [intOf]; omega
              · have hk0 : k = 0 := by omega
                have q0 : decide ((0 : Int) < k) = false := by simp; omega
                have hkn : ¬ 0 < k := h0
                clear h0 gd hk hPk hk0
                go_wp2
                go_roundw
                case rel => exact ⟨k + 1, by trivial, by rw [hP.out], by simp, hk'.out⟩
                case measure => have := hk'.out; simp [intOf]; omega
            · have hke : k = nv := by have := J4.out; omega
              have hki : ¬ (k : Int) < nv := by omega
              have hsum : posV V k = (n : Int) := by rw [hke, ← hbn.out.2.2.1, posV_all, fin4.out]
              rw [hsum]
              have low9 : Hid (Below w.heap.size w wr) := low3.out.trans (U.out.mono low3.out.size)
              clear hk hke hsum J4
              go_wp2_with (go_at_call 11; refine (awake_any wr).mono ?_; rintro e z7 ⟨rfl, h7⟩; replace h7 : Hid _ := h7)
              go_ret
              exact ⟨by first | rfl | simp, low9.out.trans (h7.out.mono low9.out.size)⟩
end Go.Proofs.Ytbiifkcphaljeaa
