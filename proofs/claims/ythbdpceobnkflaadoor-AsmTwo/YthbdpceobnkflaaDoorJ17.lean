/- A block's marks: by plain mathematics, and the program's look. -/
import Derived.Test.YthbdpceobnkflaaDoorJ16
import Derived.BigQuiet
namespace Go.Proofs.YthbdpceobnkflaaDoor
open Go Go.RowKit
set_option linter.unusedVariables false
set_option maxHeartbeats 3000000
set_option maxRecDepth 20000

/-- May a mark not stand there? -/
def mbad (a : Int) (l : List UInt8) (p : Option Bool) (m : Mk) : Bool := decide (m.a ≠ a ∨ m.n < 1 ∨ (l.length : Int) < m.n) || (decide (p = some m.c) || (m.c && !wholeB (l.take m.n.toNat)))
/-- How many marks are a block's. -/
def mof : Int → List UInt8 → Option Bool → List Mk → Option Nat
  | _, [], _, _ => some 0
  | _, _ :: _, _, [] => none
  | a, x :: l, p, m :: r => if mbad a (x :: l) p m then none else (mof (a + m.n) ((x :: l).drop m.n.toNat) (some m.c) r).map (· + 1)
theorem mof_nil (a : Int) (p : Option Bool) (ms : List Mk) : mof a [] p ms = some 0 := by cases ms <;> rfl
theorem mof_none (a : Int) (l : List UInt8) (p : Option Bool) (h : l ≠ []) : mof a l p [] = none := by cases l with | nil => exact absurd rfl h | cons x r => rfl
theorem mof_cons (a : Int) (l : List UInt8) (p : Option Bool) (m : Mk) (r : List Mk) (h : l ≠ []) : mof a l p (m :: r) = if mbad a l p m then none else (mof (a + m.n) (l.drop m.n.toNat) (some m.c) r).map (· + 1) := by cases l with | nil => exact absurd rfl h | cons x r => rfl
def mrk : List (Int × List UInt8) → List Mk → Bool
  | [], ms => ms.isEmpty
  | b :: r, ms => match mof b.1 b.2 none ms with
    | none => false
    | some k => mrk r (ms.drop k)
def prevC (ms : List Mk) (k : Nat) : Option Bool := if k = 0 then none else (ms[k - 1]?).map (·.c)
theorem prevC_next {ms : List Mk} {k : Nat} {m : Mk} (h : ms[k]? = some m) : prevC ms (k + 1) = some m.c := by unfold prevC; rw [if_neg (by omega), Nat.add_sub_cancel, h]; rfl
theorem marksOf_any (w : World) (T : Hid (Tabs w)) (b : Bk) (bs : List UInt8) (sp : Option Addr) (cap : Nat) (ms : List Mk) (hb : Hid (LB8 w b.sp bs ∧ bs.length = b.m ∧ b.m ≤ b.cap)) (ha : 0 ≤ b.a ∧ b.a ≤ 65536) (hbm : b.m ≤ 65536) (hl : Hid (LiesL 3 cM w sp ms)) (him : Hid (∀ m ∈ ms, inI m.a ∧ inI m.n)) (hn : ms.length ≤ 2147483647) :
    Calls Tryd.prog 38 #[.agg (k2 b), .slice sp ms.length cap] w fun e w' => ∃ N : Int, e = .returned (.tuple #[.int .i64 N, .bool (mof b.a bs none ms).isSome]) ∧ Hid (Below w.heap.size w w' ∧ ∀ k, mof b.a bs none ms = some k → N = (k : Int)) := by
  obtain ⟨R, hR⟩ : ∃ R, mof b.a bs none ms = R := ⟨_, rfl⟩
  have hR' : Hid (mof b.a bs none ms = R) := hR
  obtain ⟨n, hn'⟩ : ∃ n, ms.length = n := ⟨_, rfl⟩
  have hnn : Hid (ms.length = n) := hn'
  rw [hR]
  rw [hn'] at hn ⊢
  have ni : (n : Int) ≤ 2147483647 := by omega
  have K0 : Hid (Fm w [(w.heap.size, k2 b, 46)] (w.alloc (.cells (k2 b) 46))) := Fm.one w _ _
  have d0 := (K0.out.bx 0 _ _ _ rfl).c 0 (.int .i64 b.a) rfl
  have d1 := (K0.out.bx 0 _ _ _ rfl).c 1 (.slice b.sp b.m b.cap) rfl
  have hWh : Hid (∀ v p c l, Below w.heap.size w v → LB8 v p l → l.length ≤ c → l.length ≤ 2147483647 → Calls Tryd.prog 53 #[.slice p l.length c] v fun e w' => e = .returned (.bool (wholeB l)) ∧ Below v.heap.size v w') := fun v p c l hv h1 h2 h3 => whole_any v (T.out.below hv) p c l h1 h2 h3
  have H0 : Hid (LB8 w b.sp bs ∧ bs.length ≤ b.cap ∧ 0 ≤ b.a ∧ b.a + bs.length ≤ 131072 ∧ bs.length ≤ 65536) := ⟨hb.out.1, by have := hb.out; omega, ha.1, by have := hb.out; omega, by have := hb.out; omega⟩
  have hbl : Hid (bs.length = b.m) := hb.out.2.1
  clear hn hn' hR ha hbm
  go_enter Tryd.func38, Tryd.ntmps38
  go_wp2
  go_quiet (fail)
  go_wp2
  go_loopw [6, 7, 8] (fun a b t wz => ∃ (k : Nat) (A : Int) (p : Option Addr) (c : Nat) (l : List UInt8) (y : World), y = wz ∧ a = .int .i64 A ∧ b = .slice p l.length c ∧ t = .int .i64 (k : Int) ∧ Hid (k ≤ n ∧ R = (mof A l (prevC ms k) (ms.drop k)).map (· + k) ∧ 0 ≤ A ∧ A + l.length ≤ 131072 ∧ l.length ≤ c ∧ l.length ≤ 65536) ∧ Hid (Below w.heap.size w y ∧ LB8 y p l)) (fun _ b _ _ => lenOf b)
  case atStart =>
    refine ⟨0, b.a, b.sp, b.cap, bs, _, rfl, rfl, by rw [hbl.out], rfl, ⟨Nat.zero_le _, ?_, H0.out.2.2.1, H0.out.2.2.2.1, H0.out.2.1, H0.out.2.2.2.2⟩, ?_⟩
    · rw [List.drop_zero]
      unfold prevC
      rw [if_pos rfl, hR'.out]
      cases R <;> rfl
    · exact ⟨below_drewN K0.out.low, (H0.out.1.below K0.out.low).below (below_drewN (Below.refl _ _))⟩
  case round =>
    obtain ⟨k, A, p, c, l, y, rfl, rfl, rfl, rfl, J, K⟩ := hrel
    clear d0 d1
    obtain ⟨ln, hln⟩ : ∃ n, l.length = n := ⟨_, rfl⟩
    have hlnn : Hid (l.length = ln) := hln
    rw [hln]
    have lni : (ln : Int) ≤ 65536 := by have := J.out; omega
    have A0 := J.out.2.2.1
    have A1 : A + ln ≤ 131072 := by have := J.out.2.2.2.1; omega
    by_cases h0 : ln = 0
    · subst h0
      have hnil : l = [] := List.eq_nil_of_length_eq_zero hln
      have fin : Hid (R = some k) := by
        have h1 := J.out.2.1
        rw [hnil, mof_nil] at h1
        show R = _
        rw [h1]
        simp
      go_wp2
      go_ret2
      rw [fin.out]
      exact ⟨_, rfl, K.out.1, fun q e => by cases e; rfl⟩
    · have l0 : (0 : Int) < ln := by omega
      have hne : Hid (l ≠ []) := fun e => by rw [e] at hln; simp at hln; omega
      by_cases hlt : k < n
      · have hki : (k : Int) < n := by omega
        have hke : ((k : Int) == n) = false := by rw [beq_eq_false_iff_ne]; omega
        obtain ⟨m, hm⟩ : ∃ m, ms[k]? = some m := ⟨_, List.getElem?_eq_getElem (by rw [hnn.out]; exact hlt)⟩
        obtain ⟨g, o, rfl, hc⟩ := hl.out k m hm
        have hc' : Hid (y.rangeAt g (o + k * 3) (k3 m).toList) := range_keep hc K.out.1
        obtain ⟨⟨ma0, ma1⟩, ⟨mn0, mn1⟩⟩ := him.out m (List.mem_of_getElem? hm)
        have hd : ms.drop k = m :: ms.drop (k + 1) := by
          obtain ⟨h, e⟩ := List.getElem?_eq_some_iff.1 hm
          rw [List.drop_eq_getElem_cons h, e]
        have hO : Hid (R = (if mbad A l (prevC ms k) m then none else (mof (A + m.n) (l.drop m.n.toNat) (some m.c) (ms.drop (k + 1))).map (· + 1)).map (· + k)) := by
          have h1 := J.out.2.1
          rw [hd, mof_cons _ _ _ _ _ hne.out] at h1
          exact h1
        have ij := fun w => idxP (P := Tryd.prog) (g := g) (off := o) (len := n) (cap := cap) Tryd.underlying26 (s := 3) (by kernel_rfl) .i64 k w hlt
        have hlt' : Hid (k < n) := hlt
        by_cases hq : m.a ≠ A ∨ m.n < 1 ∨ (l.length : Int) < m.n
        · have fin : Hid (R = none) := by
            show _ = _
            rw [hO.out, if_pos (by unfold mbad; rw [decide_eq_true hq]; rfl)]
            rfl
          rw [hln] at hq
          have q : (m.a != A) = true ∨ ((m.a != A) = false ∧ m.n < 1) ∨ ((m.a != A) = false ∧ ¬ m.n < 1 ∧ (ln : Int) < m.n) := by
            by_cases e : m.a = A
            · have e' : (m.a != A) = false := by rw [bne_eq_false_iff_eq]; exact e
              rcases hq with h | h | h
              · exact absurd e h
              · exact .inr (.inl ⟨e', h⟩)
              · by_cases h2 : m.n < 1
                · exact .inr (.inl ⟨e', h2⟩)
                · exact .inr (.inr ⟨e', h2, h⟩)
            · exact .inl (by rw [bne_iff_ne]; exact e)
          clear hq hlt hm hc hd hO hln h0
          rcases q with q1 | ⟨q1, q2⟩ | ⟨q1, q2, q3⟩
          all_goals
            go_wp2_with (first
              | ((with_reducible refine at_loadm rtM g (o + k * 3) (k3 m) ?_ ?_ (.tmp 23) ?_ ?_ ?_ ?_); exact hc'.out; rfl; kernel_rfl; rfl; rfl)
              | ((with_reducible refine gen_world (y.alloc (.cells #[.int .i64 0, .int .i64 0, .bool false] 89)) (Fm y [(y.heap.size, k3 zM, 89)]) ?_ ?_); exact Fm.one y _ _; intro y1 K1)
              | ((with_reducible refine at_st rtM y.heap.size (k3 zM) (k3 m) ?_ ?_ ?_ ?_ (.tmp 9) (.tmp 24) ?_ ?_ ?_ ?_ ?_); exact K1.out.bx 0 _ _ _ rfl; rfl; rfl; exact oneM _; rfl; rfl; rfl; rfl; intro y2 hw2; have K2 : Hid (Fm y [(y.heap.size, k3 m, 89)] y2) := K1.out.put 0 _ _ _ _ rfl hw2.out; clear hw2; have d0 := (K2.out.bx 0 _ _ _ rfl).c 0 (.int .i64 m.a) rfl; have d1 := (K2.out.bx 0 _ _ _ rfl).c 1 (.int .i64 m.n) rfl))
            go_ret2
            rw [fin.out]
            exact ⟨_, rfl, of_below K.out.1 K2.out.low, fun q e => by cases e⟩
        · have q1 : (m.a != A) = false := by rw [bne_eq_false_iff_eq]; omega
          have q2 : ¬ m.n < 1 := by omega
          have q3 : ¬ (l.length : Int) < m.n := by omega
          have hq' : Hid (¬ (m.a ≠ A ∨ m.n < 1 ∨ (l.length : Int) < m.n)) := hq
          obtain ⟨N, hN⟩ : ∃ N : Nat, m.n = (N : Int) := ⟨m.n.toNat, by omega⟩
          obtain ⟨ma, mn, mc⟩ := m
          simp only at hN q1 q2 q3 hO hq' hc' ma0 ma1 mn0 mn1
          subst hN
          rw [hln] at q3
          rw [Int.toNat_natCast] at hO
          obtain ⟨sp1, hsl, hs1⟩ := (show ∃ sp1, (∀ v, (Instr.sliceAt 33 (.slice p ln c) (some (.int .i64 (N : Int))) none none).run Tryd.prog v = .ok (.slice sp1 (ln - N) (c - N)) v) ∧ (∀ u, LB8 u p l → LB8 u sp1 (l.drop N)) from by
            obtain ⟨x, hx⟩ : ∃ x, l[0]? = some x := ⟨_, List.getElem?_eq_getElem (by omega)⟩
            obtain ⟨g2, o2, e2, _⟩ := K.out.2 0 x hx
            subst e2
            obtain ⟨sp1, h1, h2⟩ := slB g2 o2 ln c N (by omega) (by have := J.out; omega)
            exact ⟨sp1, h1, fun u hu => hu.drop N sp1 (fun h => h2 (by omega))⟩)
          have hcur : Hid (∀ u, Below w.heap.size w u → u.rangeAt g (o + k * 3) [.int .i64 ma, .int .i64 (N : Int), .bool mc]) := fun u hu => range_keep hc hu
          have hWc : Hid (∀ u, Below w.heap.size w u → LB8 u p l → Calls Tryd.prog 53 #[.slice p N c] u fun e w' => e = .returned (.bool (wholeB (l.take N))) ∧ Below u.heap.size u w') := fun u hu hlb => by
            have h9 := hWh.out u p c (l.take N) hu (hlb.take N) (by rw [List.length_take]; have := J.out; omega) (by rw [List.length_take]; have := J.out; omega)
            rw [List.length_take, Nat.min_eq_left (by omega)] at h9
            exact h9
          have hpv : Hid (∀ j m', k = j + 1 → ms[j]? = some m' → prevC ms k = some m'.c) := fun j m' e hm' => by rw [e]; exact prevC_next hm'
          have Ni : (N : Int) ≤ 65536 := by omega
          have hNc : N ≤ c := by have := J.out; omega
          have Jd : Hid (∀ u, LB8 u p l → LB8 u sp1 (l.drop N) ∧ (l.drop N).length = ln - N ∧ (l.drop N).length ≤ c - N ∧ A + N + (l.drop N).length ≤ 131072 ∧ (l.drop N).length ≤ 65536 ∧ 1 ≤ N ∧ N ≤ ln) := fun u hu => by
            have hd2 : (l.drop N).length = ln - N := by rw [List.length_drop, hln]
            have := J.out
            refine ⟨hs1 u hu, hd2, by omega, by omega, by omega, by omega, by omega⟩
          have hmb : Hid (mbad A l (prevC ms k) ⟨ma, N, mc⟩ = (decide (prevC ms k = some mc) || (mc && !wholeB (l.take N)))) := by
            show mbad _ _ _ _ = _
            unfold mbad
            rw [decide_eq_false (by simpa using hq'.out)]
            simp
          have hnx : Hid (prevC ms (k + 1) = some mc) := prevC_next hm
          by_cases hk0 : k = 0
          · have hpne : Hid (¬ prevC ms k = some mc) := by show ¬ prevC ms k = some mc; unfold prevC; rw [if_pos hk0]; simp
            have hk0i : ¬ (0 : Int) < (k : Int) := by omega
            clear hk0
            cases mc
            · have hb9 : ¬ mbad A l (prevC ms k) ⟨ma, N, false⟩ = true := by
                rw [hmb.out, decide_eq_false hpne.out]
                simp
              have J9 : Hid (R = (mof (A + N) (l.drop N) (prevC ms (k + 1)) (ms.drop (k + 1))).map (· + (k + 1))) := by
                show _ = _
                rw [hO.out, if_neg hb9, hnx.out, Option.map_map]
                congr 1
                funext q
                show q + 1 + _ = q + (_ + 1)
                all_goals omega
              clear hlt hm hc hd hO hln h0 hq hb9 hs1
              go_wp2_with (first
                | ((with_reducible refine at_loadm rtM g (o + k * 3) (k3 ⟨ma, N, false⟩) ?_ ?_ (.tmp 23) ?_ ?_ ?_ ?_); exact hc'.out; rfl; kernel_rfl; rfl; rfl)
                | ((with_reducible refine gen_world (y.alloc (.cells #[.int .i64 0, .int .i64 0, .bool false] 89)) (Fm y [(y.heap.size, k3 zM, 89)]) ?_ ?_); exact Fm.one y _ _; intro y1 K1)
                | ((with_reducible refine at_st rtM y.heap.size (k3 zM) (k3 ⟨ma, N, false⟩) ?_ ?_ ?_ ?_ (.tmp 9) (.tmp 24) ?_ ?_ ?_ ?_ ?_); exact K1.out.bx 0 _ _ _ rfl; rfl; rfl; exact oneM _; rfl; rfl; rfl; rfl; intro y2 hw2; have K2 : Hid (Fm y [(y.heap.size, k3 ⟨ma, N, false⟩, 89)] y2) := K1.out.put 0 _ _ _ _ rfl hw2.out; clear hw2; have d0 := (K2.out.bx 0 _ _ _ rfl).c 0 (.int .i64 ma) rfl; have d1 := (K2.out.bx 0 _ _ _ rfl).c 1 (.int .i64 (N : Int)) rfl))
              refine region_class_tail 24 (Fm y [(y.heap.size, k3 ⟨ma, N, false⟩, 89)]) (by kernel_rfl) (by kernel_rfl) (K2.out.below (below_drew (Below.refl _ _))) ?_
              simp only [List.take_succ_cons, List.take_zero, List.drop_succ_cons, List.drop_zero]
              with_reducible refine quiet_one (.int .i64 (k : Int)) ?_ ?_ ?_
              · kernel_rfl
              · intro u hy
                go_simp
                all_goals (first | omega | (rw [IntKind.wrap_i64]; omega))
              with_reducible refine quiet_one (.bool false) ?_ ?_ ?_
              · kernel_rfl
              · intro u hy
                go_simp
                all_goals (first | omega | (rw [IntKind.wrap_i64]; omega))
              with_reducible refine quiet_one (.bool false) ?_ ?_ ?_
              · kernel_rfl
              · intro u hy
                go_simp
                all_goals (first | omega | (rw [IntKind.wrap_i64]; omega))
              with_reducible refine quiet_skip ?_ ?_
              · kernel_rfl
              with_reducible refine quiet_skip ?_ ?_
              · kernel_rfl
              with_reducible refine quiet_skip ?_ ?_
              · kernel_rfl
              with_reducible refine quiet_skip ?_ ?_
              · kernel_rfl
              with_reducible refine quiet_skip ?_ ?_
              · kernel_rfl
              with_reducible refine quiet_skip ?_ ?_
              · kernel_rfl
              with_reducible refine quiet_skip ?_ ?_
              · kernel_rfl
              with_reducible refine quiet_skip ?_ ?_
              · kernel_rfl
              with_reducible refine quiet_skip ?_ ?_
              · kernel_rfl
              with_reducible refine quiet_one (.bool false) ?_ ?_ ?_
              · kernel_rfl
              · intro u hy
                go_simp
                all_goals (first | omega | (rw [IntKind.wrap_i64]; omega))
              with_reducible refine quiet_one (.bool false) ?_ ?_ ?_
              · kernel_rfl
              · intro u hy
                go_simp
                all_goals (first | omega | (rw [IntKind.wrap_i64]; omega))
              with_reducible refine quiet_one (.pointer (some ⟨y.heap.size, 2, none⟩)) ?_ ?_ ?_
              · kernel_rfl
              · intro u hy
                go_simp
                all_goals (first | omega | (rw [IntKind.wrap_i64]; omega))
              with_reducible refine quiet_one (.bool false) ?_ ?_ ?_
              · kernel_rfl
              · intro u hy
                have e2 := (hy.bx 0 _ _ _ rfl).c 2 (.bool false) rfl
                go_simp
              with_reducible refine quiet_one (.bool false) ?_ ?_ ?_
              · kernel_rfl
              · intro u hy
                go_simp
                all_goals (first | omega | (rw [IntKind.wrap_i64]; omega))
              with_reducible refine quiet_skip ?_ ?_
              · kernel_rfl
              with_reducible refine quiet_skip ?_ ?_
              · kernel_rfl
              with_reducible refine quiet_skip ?_ ?_
              · kernel_rfl
              with_reducible refine quiet_skip ?_ ?_
              · kernel_rfl
              with_reducible refine quiet_skip ?_ ?_
              · kernel_rfl
              with_reducible refine quiet_skip ?_ ?_
              · kernel_rfl
              with_reducible refine quiet_one (.bool false) ?_ ?_ ?_
              · kernel_rfl
              · intro u hy
                go_simp
                all_goals (first | omega | (rw [IntKind.wrap_i64]; omega))
              refine wpQuiet_nil ?_
              intro z0 Z0
              replace Z0 : Hid _ := Z0
              go_simp
              have e2 := (Z0.out.bx 0 _ _ _ rfl).c 1 (.int .i64 (N : Int)) rfl
              have wAN : IntKind.i64.wrap (A + N) = A + N := by rw [IntKind.wrap_i64]; omega
              have Jf : Hid (∀ m, LB8 (z0.drewN m) sp1 (l.drop N) ∧ (l.drop N).length = ln - N ∧ (l.drop N).length ≤ c - N ∧ A + N + (l.drop N).length ≤ 131072 ∧ (l.drop N).length ≤ 65536 ∧ 1 ≤ N ∧ N ≤ ln) := fun m => Jd.out (z0.drewN m) (K.out.2.below (below_drewN Z0.out.low))
              go_wp2
              go_quiet (fail)
              go_wp2
              go_roundw
              case rel => exact ⟨k + 1, A + N, sp1, c - N, l.drop N, _, rfl, rfl, by rw [(Jf.out 0).2.1], by simp, ⟨by have := hlt'.out; omega, J9.out, by omega, (Jf.out 0).2.2.2.1, (Jf.out 0).2.2.1, (Jf.out 0).2.2.2.2.1⟩, below_drewN (of_below K.out.1 Z0.out.low), (Jf.out _).1⟩
              case measure => simp [lenOf]; omega
            · obtain ⟨wh, hwh⟩ : ∃ b, wholeB (l.take N) = b := ⟨_, rfl⟩
              rw [hwh] at hWc hmb
              cases wh
              · have fin : Hid (R = none) := by
                  show _ = _
                  rw [hO.out, if_pos (by rw [hmb.out]; simp)]
                  rfl
                clear hlt hm hc hd hO hln h0 hq hs1
                go_wp2_with (first
                  | ((with_reducible refine at_loadm rtM g (o + k * 3) (k3 ⟨ma, N, true⟩) ?_ ?_ (.tmp 23) ?_ ?_ ?_ ?_); exact hc'.out; rfl; kernel_rfl; rfl; rfl)
                  | ((with_reducible refine gen_world (y.alloc (.cells #[.int .i64 0, .int .i64 0, .bool false] 89)) (Fm y [(y.heap.size, k3 zM, 89)]) ?_ ?_); exact Fm.one y _ _; intro y1 K1)
                  | ((with_reducible refine at_st rtM y.heap.size (k3 zM) (k3 ⟨ma, N, true⟩) ?_ ?_ ?_ ?_ (.tmp 9) (.tmp 24) ?_ ?_ ?_ ?_ ?_); exact K1.out.bx 0 _ _ _ rfl; rfl; rfl; exact oneM _; rfl; rfl; rfl; rfl; intro y2 hw2; have K2 : Hid (Fm y [(y.heap.size, k3 ⟨ma, N, true⟩, 89)] y2) := K1.out.put 0 _ _ _ _ rfl hw2.out; clear hw2; have d0 := (K2.out.bx 0 _ _ _ rfl).c 0 (.int .i64 ma) rfl; have d1 := (K2.out.bx 0 _ _ _ rfl).c 1 (.int .i64 (N : Int)) rfl))
                refine region_class_tail 24 (Fm y [(y.heap.size, k3 ⟨ma, N, true⟩, 89)]) (by kernel_rfl) (by kernel_rfl) (K2.out.below (below_drew (Below.refl _ _))) ?_
                simp only [List.take_succ_cons, List.take_zero, List.drop_succ_cons, List.drop_zero]
                with_reducible refine quiet_one (.int .i64 (k : Int)) ?_ ?_ ?_
                · kernel_rfl
                · intro u hy
                  go_simp
                  all_goals (first | omega | (rw [IntKind.wrap_i64]; omega))
                with_reducible refine quiet_one (.bool false) ?_ ?_ ?_
                · kernel_rfl
                · intro u hy
                  go_simp
                  all_goals (first | omega | (rw [IntKind.wrap_i64]; omega))
                with_reducible refine quiet_one (.bool false) ?_ ?_ ?_
                · kernel_rfl
                · intro u hy
                  go_simp
                  all_goals (first | omega | (rw [IntKind.wrap_i64]; omega))
                with_reducible refine quiet_skip ?_ ?_
                · kernel_rfl
                with_reducible refine quiet_skip ?_ ?_
                · kernel_rfl
                with_reducible refine quiet_skip ?_ ?_
                · kernel_rfl
                with_reducible refine quiet_skip ?_ ?_
                · kernel_rfl
                with_reducible refine quiet_skip ?_ ?_
                · kernel_rfl
                with_reducible refine quiet_skip ?_ ?_
                · kernel_rfl
                with_reducible refine quiet_skip ?_ ?_
                · kernel_rfl
                with_reducible refine quiet_skip ?_ ?_
                · kernel_rfl
                with_reducible refine quiet_skip ?_ ?_
                · kernel_rfl
                with_reducible refine quiet_one (.bool false) ?_ ?_ ?_
                · kernel_rfl
                · intro u hy
                  go_simp
                  all_goals (first | omega | (rw [IntKind.wrap_i64]; omega))
                with_reducible refine quiet_one (.bool false) ?_ ?_ ?_
                · kernel_rfl
                · intro u hy
                  go_simp
                  all_goals (first | omega | (rw [IntKind.wrap_i64]; omega))
                with_reducible refine quiet_one (.pointer (some ⟨y.heap.size, 2, none⟩)) ?_ ?_ ?_
                · kernel_rfl
                · intro u hy
                  go_simp
                  all_goals (first | omega | (rw [IntKind.wrap_i64]; omega))
                with_reducible refine quiet_one (.bool true) ?_ ?_ ?_
                · kernel_rfl
                · intro u hy
                  have e2 := (hy.bx 0 _ _ _ rfl).c 2 (.bool true) rfl
                  go_simp
                with_reducible refine quiet_one (.bool true) ?_ ?_ ?_
                · kernel_rfl
                · intro u hy
                  go_simp
                  all_goals (first | omega | (rw [IntKind.wrap_i64]; omega))
                with_reducible refine quiet_one (.slice p ln c) ?_ ?_ ?_
                · kernel_rfl
                · intro u hy
                  go_simp
                  all_goals (first | omega | (rw [IntKind.wrap_i64]; omega))
                with_reducible refine quiet_one (.pointer (some ⟨y.heap.size, 1, none⟩)) ?_ ?_ ?_
                · kernel_rfl
                · intro u hy
                  go_simp
                  all_goals (first | omega | (rw [IntKind.wrap_i64]; omega))
                with_reducible refine quiet_one (.int .i64 (N : Int)) ?_ ?_ ?_
                · kernel_rfl
                · intro u hy
                  have e2 := (hy.bx 0 _ _ _ rfl).c 1 (.int .i64 (N : Int)) rfl
                  go_simp
                with_reducible refine quiet_one (.slice p N c) ?_ ?_ ?_
                · kernel_rfl
                · intro u hy
                  go_simp
                  all_goals (first | omega | (rw [IntKind.wrap_i64]; omega))
                with_reducible refine quiet_one (.bool false) ?_ ?_ ?_
                · kernel_rfl
                · intro u hy
                  have d := (hWc.out u (of_below K.out.1 hy.low) (K.out.2.below hy.low)).mono fun e w' (h : _ ∧ _) => And.intro h.1 (hy.below h.2)
                  go_simp
                  all_goals exact d
                with_reducible refine quiet_one (.bool true) ?_ ?_ ?_
                · kernel_rfl
                · intro u hy
                  go_simp
                  all_goals (first | omega | (rw [IntKind.wrap_i64]; omega))
                with_reducible refine quiet_one (.bool true) ?_ ?_ ?_
                · kernel_rfl
                · intro u hy
                  go_simp
                  all_goals (first | omega | (rw [IntKind.wrap_i64]; omega))
                refine wpQuiet_nil ?_
                intro z0 Z0
                replace Z0 : Hid _ := Z0
                go_simp
                go_wp2
                go_ret2
                rw [fin.out]
                exact ⟨_, rfl, of_below K.out.1 Z0.out.low, fun q e => by cases e⟩
              · have hb9 : ¬ mbad A l (prevC ms k) ⟨ma, N, true⟩ = true := by
                  rw [hmb.out, decide_eq_false hpne.out]
                  simp
                have J9 : Hid (R = (mof (A + N) (l.drop N) (prevC ms (k + 1)) (ms.drop (k + 1))).map (· + (k + 1))) := by
                  show _ = _
                  rw [hO.out, if_neg hb9, hnx.out, Option.map_map]
                  congr 1
                  funext q
                  show q + 1 + _ = q + (_ + 1)
                  all_goals omega
                clear hlt hm hc hd hO hln h0 hq hb9 hs1
                go_wp2_with (first
                  | ((with_reducible refine at_loadm rtM g (o + k * 3) (k3 ⟨ma, N, true⟩) ?_ ?_ (.tmp 23) ?_ ?_ ?_ ?_); exact hc'.out; rfl; kernel_rfl; rfl; rfl)
                  | ((with_reducible refine gen_world (y.alloc (.cells #[.int .i64 0, .int .i64 0, .bool false] 89)) (Fm y [(y.heap.size, k3 zM, 89)]) ?_ ?_); exact Fm.one y _ _; intro y1 K1)
                  | ((with_reducible refine at_st rtM y.heap.size (k3 zM) (k3 ⟨ma, N, true⟩) ?_ ?_ ?_ ?_ (.tmp 9) (.tmp 24) ?_ ?_ ?_ ?_ ?_); exact K1.out.bx 0 _ _ _ rfl; rfl; rfl; exact oneM _; rfl; rfl; rfl; rfl; intro y2 hw2; have K2 : Hid (Fm y [(y.heap.size, k3 ⟨ma, N, true⟩, 89)] y2) := K1.out.put 0 _ _ _ _ rfl hw2.out; clear hw2; have d0 := (K2.out.bx 0 _ _ _ rfl).c 0 (.int .i64 ma) rfl; have d1 := (K2.out.bx 0 _ _ _ rfl).c 1 (.int .i64 (N : Int)) rfl))
                refine region_class_tail 24 (Fm y [(y.heap.size, k3 ⟨ma, N, true⟩, 89)]) (by kernel_rfl) (by kernel_rfl) (K2.out.below (below_drew (Below.refl _ _))) ?_
                simp only [List.take_succ_cons, List.take_zero, List.drop_succ_cons, List.drop_zero]
                with_reducible refine quiet_one (.int .i64 (k : Int)) ?_ ?_ ?_
                · kernel_rfl
                · intro u hy
                  go_simp
                  all_goals (first | omega | (rw [IntKind.wrap_i64]; omega))
                with_reducible refine quiet_one (.bool false) ?_ ?_ ?_
                · kernel_rfl
                · intro u hy
                  go_simp
                  all_goals (first | omega | (rw [IntKind.wrap_i64]; omega))
                with_reducible refine quiet_one (.bool false) ?_ ?_ ?_
                · kernel_rfl
                · intro u hy
                  go_simp
                  all_goals (first | omega | (rw [IntKind.wrap_i64]; omega))
                with_reducible refine quiet_skip ?_ ?_
                · kernel_rfl
                with_reducible refine quiet_skip ?_ ?_
                · kernel_rfl
                with_reducible refine quiet_skip ?_ ?_
                · kernel_rfl
                with_reducible refine quiet_skip ?_ ?_
                · kernel_rfl
                with_reducible refine quiet_skip ?_ ?_
                · kernel_rfl
                with_reducible refine quiet_skip ?_ ?_
                · kernel_rfl
                with_reducible refine quiet_skip ?_ ?_
                · kernel_rfl
                with_reducible refine quiet_skip ?_ ?_
                · kernel_rfl
                with_reducible refine quiet_skip ?_ ?_
                · kernel_rfl
                with_reducible refine quiet_one (.bool false) ?_ ?_ ?_
                · kernel_rfl
                · intro u hy
                  go_simp
                  all_goals (first | omega | (rw [IntKind.wrap_i64]; omega))
                with_reducible refine quiet_one (.bool false) ?_ ?_ ?_
                · kernel_rfl
                · intro u hy
                  go_simp
                  all_goals (first | omega | (rw [IntKind.wrap_i64]; omega))
                with_reducible refine quiet_one (.pointer (some ⟨y.heap.size, 2, none⟩)) ?_ ?_ ?_
                · kernel_rfl
                · intro u hy
                  go_simp
                  all_goals (first | omega | (rw [IntKind.wrap_i64]; omega))
                with_reducible refine quiet_one (.bool true) ?_ ?_ ?_
                · kernel_rfl
                · intro u hy
                  have e2 := (hy.bx 0 _ _ _ rfl).c 2 (.bool true) rfl
                  go_simp
                with_reducible refine quiet_one (.bool true) ?_ ?_ ?_
                · kernel_rfl
                · intro u hy
                  go_simp
                  all_goals (first | omega | (rw [IntKind.wrap_i64]; omega))
                with_reducible refine quiet_one (.slice p ln c) ?_ ?_ ?_
                · kernel_rfl
                · intro u hy
                  go_simp
                  all_goals (first | omega | (rw [IntKind.wrap_i64]; omega))
                with_reducible refine quiet_one (.pointer (some ⟨y.heap.size, 1, none⟩)) ?_ ?_ ?_
                · kernel_rfl
                · intro u hy
                  go_simp
                  all_goals (first | omega | (rw [IntKind.wrap_i64]; omega))
                with_reducible refine quiet_one (.int .i64 (N : Int)) ?_ ?_ ?_
                · kernel_rfl
                · intro u hy
                  have e2 := (hy.bx 0 _ _ _ rfl).c 1 (.int .i64 (N : Int)) rfl
                  go_simp
                with_reducible refine quiet_one (.slice p N c) ?_ ?_ ?_
                · kernel_rfl
                · intro u hy
                  go_simp
                  all_goals (first | omega | (rw [IntKind.wrap_i64]; omega))
                with_reducible refine quiet_one (.bool true) ?_ ?_ ?_
                · kernel_rfl
                · intro u hy
                  have d := (hWc.out u (of_below K.out.1 hy.low) (K.out.2.below hy.low)).mono fun e w' (h : _ ∧ _) => And.intro h.1 (hy.below h.2)
                  go_simp
                  all_goals exact d
                with_reducible refine quiet_one (.bool false) ?_ ?_ ?_
                · kernel_rfl
                · intro u hy
                  go_simp
                  all_goals (first | omega | (rw [IntKind.wrap_i64]; omega))
                with_reducible refine quiet_one (.bool false) ?_ ?_ ?_
                · kernel_rfl
                · intro u hy
                  go_simp
                  all_goals (first | omega | (rw [IntKind.wrap_i64]; omega))
                refine wpQuiet_nil ?_
                intro z0 Z0
                replace Z0 : Hid _ := Z0
                go_simp
                have e2 := (Z0.out.bx 0 _ _ _ rfl).c 1 (.int .i64 (N : Int)) rfl
                have wAN : IntKind.i64.wrap (A + N) = A + N := by rw [IntKind.wrap_i64]; omega
                have Jf : Hid (∀ m, LB8 (z0.drewN m) sp1 (l.drop N) ∧ (l.drop N).length = ln - N ∧ (l.drop N).length ≤ c - N ∧ A + N + (l.drop N).length ≤ 131072 ∧ (l.drop N).length ≤ 65536 ∧ 1 ≤ N ∧ N ≤ ln) := fun m => Jd.out (z0.drewN m) (K.out.2.below (below_drewN Z0.out.low))
                go_wp2
                go_quiet (fail)
                go_wp2
                go_roundw
                case rel => exact ⟨k + 1, A + N, sp1, c - N, l.drop N, _, rfl, rfl, by rw [(Jf.out 0).2.1], by simp, ⟨by have := hlt'.out; omega, J9.out, by omega, (Jf.out 0).2.2.2.1, (Jf.out 0).2.2.1, (Jf.out 0).2.2.2.2.1⟩, below_drewN (of_below K.out.1 Z0.out.low), (Jf.out _).1⟩
                case measure => simp [lenOf]; omega
          · obtain ⟨j, hkj⟩ : ∃ j, k = j + 1 := ⟨k - 1, by omega⟩
            obtain ⟨m', hm'⟩ : ∃ m', ms[j]? = some m' := ⟨_, List.getElem?_eq_getElem (by rw [hnn.out]; omega)⟩
            obtain ⟨pa, pn, pc⟩ := m'
            have hpe := hpv.out j _ hkj hm'
            simp only at hpe
            have hprev : Hid (∀ u, Below w.heap.size w u → u.cell? ⟨g, o + j * 3 + 2, none⟩ = some (.bool pc)) := fun u hu => by
              obtain ⟨g3, o3, e3, hc3⟩ := hl.out j _ hm'
              cases e3
              exact range_keep hc3 hu 2 _ rfl
            have ip : ∀ w, (Instr.indexAt 26 (.slice (some ⟨g, o, none⟩) n cap) (.int .i64 ((k : Int) - 1))).run Tryd.prog w = .ok (.pointer (some ⟨g, o + j * 3, none⟩)) w := fun w => by
              have := idxP (P := Tryd.prog) (g := g) (off := o) (len := n) (cap := cap) Tryd.underlying26 (s := 3) (by kernel_rfl) .i64 j w (by omega)
              rw [show (j : Int) = (k : Int) - 1 by omega] at this
              exact this
            have hj0 : (0 : Int) < (k : Int) := by omega
            clear hkj hk0
            by_cases hcc : mc = pc
            · subst hcc
              have fin : Hid (R = none) := by
                show _ = _
                rw [hO.out, if_pos (by rw [hmb.out, hpe]; simp)]
                rfl
              have qc : (mc == mc) = true := by simp
              clear hlt hm hm' hc hd hO hln h0 hq hs1
              go_wp2_with (first
                | ((with_reducible refine at_loadm rtM g (o + k * 3) (k3 ⟨ma, N, mc⟩) ?_ ?_ (.tmp 23) ?_ ?_ ?_ ?_); exact hc'.out; rfl; kernel_rfl; rfl; rfl)
                | ((with_reducible refine gen_world (y.alloc (.cells #[.int .i64 0, .int .i64 0, .bool false] 89)) (Fm y [(y.heap.size, k3 zM, 89)]) ?_ ?_); exact Fm.one y _ _; intro y1 K1)
                | ((with_reducible refine at_st rtM y.heap.size (k3 zM) (k3 ⟨ma, N, mc⟩) ?_ ?_ ?_ ?_ (.tmp 9) (.tmp 24) ?_ ?_ ?_ ?_ ?_); exact K1.out.bx 0 _ _ _ rfl; rfl; rfl; exact oneM _; rfl; rfl; rfl; rfl; intro y2 hw2; have K2 : Hid (Fm y [(y.heap.size, k3 ⟨ma, N, mc⟩, 89)] y2) := K1.out.put 0 _ _ _ _ rfl hw2.out; clear hw2; have d0 := (K2.out.bx 0 _ _ _ rfl).c 0 (.int .i64 ma) rfl; have d1 := (K2.out.bx 0 _ _ _ rfl).c 1 (.int .i64 (N : Int)) rfl))
              refine region_class_tail 24 (Fm y [(y.heap.size, k3 ⟨ma, N, mc⟩, 89)]) (by kernel_rfl) (by kernel_rfl) (K2.out.below (below_drew (Below.refl _ _))) ?_
              simp only [List.take_succ_cons, List.take_zero, List.drop_succ_cons, List.drop_zero]
              with_reducible refine quiet_one (.int .i64 (k : Int)) ?_ ?_ ?_
              · kernel_rfl
              · intro u hy
                go_simp
                all_goals (first | omega | (rw [IntKind.wrap_i64]; omega))
              with_reducible refine quiet_one (.bool true) ?_ ?_ ?_
              · kernel_rfl
              · intro u hy
                go_simp
                all_goals (first | omega | (rw [IntKind.wrap_i64]; omega))
              with_reducible refine quiet_one (.bool true) ?_ ?_ ?_
              · kernel_rfl
              · intro u hy
                go_simp
                all_goals (first | omega | (rw [IntKind.wrap_i64]; omega))
              with_reducible refine quiet_one (.pointer (some ⟨y.heap.size, 2, none⟩)) ?_ ?_ ?_
              · kernel_rfl
              · intro u hy
                go_simp
                all_goals (first | omega | (rw [IntKind.wrap_i64]; omega))
              with_reducible refine quiet_one (.bool mc) ?_ ?_ ?_
              · kernel_rfl
              · intro u hy
                have e2 := (hy.bx 0 _ _ _ rfl).c 2 (.bool mc) rfl
                go_simp
              with_reducible refine quiet_one (.slice (some ⟨g, o, none⟩) n cap) ?_ ?_ ?_
              · kernel_rfl
              · intro u hy
                go_simp
                all_goals (first | omega | (rw [IntKind.wrap_i64]; omega))
              with_reducible refine quiet_one (.int .i64 (k : Int)) ?_ ?_ ?_
              · kernel_rfl
              · intro u hy
                go_simp
                all_goals (first | omega | (rw [IntKind.wrap_i64]; omega))
              with_reducible refine quiet_one (.int .i64 ((k : Int) - 1)) ?_ ?_ ?_
              · kernel_rfl
              · intro u hy
                go_simp
                all_goals (first | omega | (rw [IntKind.wrap_i64]; omega))
              with_reducible refine quiet_one (.pointer (some ⟨g, o + j * 3, none⟩)) ?_ ?_ ?_
              · kernel_rfl
              · intro u hy
                go_simp
                all_goals (first | omega | (rw [IntKind.wrap_i64]; omega))
              with_reducible refine quiet_one (.pointer (some ⟨g, o + j * 3 + 2, none⟩)) ?_ ?_ ?_
              · kernel_rfl
              · intro u hy
                go_simp
                all_goals (first | omega | (rw [IntKind.wrap_i64]; omega))
              with_reducible refine quiet_one (.bool mc) ?_ ?_ ?_
              · kernel_rfl
              · intro u hy
                have e3 := hprev.out u (of_below K.out.1 hy.low)
                go_simp
              with_reducible refine quiet_one (.bool true) ?_ ?_ ?_
              · kernel_rfl
              · intro u hy
                go_simp
                all_goals (first | omega | (rw [IntKind.wrap_i64]; omega))
              with_reducible refine quiet_one (.bool true) ?_ ?_ ?_
              · kernel_rfl
              · intro u hy
                go_simp
                all_goals (first | omega | (rw [IntKind.wrap_i64]; omega))
              with_reducible refine quiet_one (.bool true) ?_ ?_ ?_
              · kernel_rfl
              · intro u hy
                go_simp
                all_goals (first | omega | (rw [IntKind.wrap_i64]; omega))
              with_reducible refine quiet_skip ?_ ?_
              · kernel_rfl
              with_reducible refine quiet_skip ?_ ?_
              · kernel_rfl
              with_reducible refine quiet_skip ?_ ?_
              · kernel_rfl
              with_reducible refine quiet_skip ?_ ?_
              · kernel_rfl
              with_reducible refine quiet_skip ?_ ?_
              · kernel_rfl
              with_reducible refine quiet_skip ?_ ?_
              · kernel_rfl
              with_reducible refine quiet_skip ?_ ?_
              · kernel_rfl
              with_reducible refine quiet_skip ?_ ?_
              · kernel_rfl
              with_reducible refine quiet_skip ?_ ?_
              · kernel_rfl
              with_reducible refine quiet_skip ?_ ?_
              · kernel_rfl
              refine wpQuiet_nil ?_
              intro z0 Z0
              replace Z0 : Hid _ := Z0
              go_simp
              go_wp2
              go_ret2
              rw [fin.out]
              exact ⟨_, rfl, of_below K.out.1 Z0.out.low, fun q e => by cases e⟩
            · have hpne : Hid (¬ prevC ms k = some mc) := by
                show ¬ _
                rw [hpe]
                intro e
                cases e
                exact hcc rfl
              have qc : (mc == pc) = false := by rw [beq_eq_false_iff_ne]; exact hcc
              replace hpe : Hid _ := hpe
              clear hcc
              cases mc
              · have hb9 : ¬ mbad A l (prevC ms k) ⟨ma, N, false⟩ = true := by
                  rw [hmb.out, decide_eq_false hpne.out]
                  simp
                have J9 : Hid (R = (mof (A + N) (l.drop N) (prevC ms (k + 1)) (ms.drop (k + 1))).map (· + (k + 1))) := by
                  show _ = _
                  rw [hO.out, if_neg hb9, hnx.out, Option.map_map]
                  congr 1
                  funext q
                  show q + 1 + _ = q + (_ + 1)
                  all_goals omega
                clear hlt hm hc hd hO hln h0 hq hb9 hs1
                go_wp2_with (first
                  | ((with_reducible refine at_loadm rtM g (o + k * 3) (k3 ⟨ma, N, false⟩) ?_ ?_ (.tmp 23) ?_ ?_ ?_ ?_); exact hc'.out; rfl; kernel_rfl; rfl; rfl)
                  | ((with_reducible refine gen_world (y.alloc (.cells #[.int .i64 0, .int .i64 0, .bool false] 89)) (Fm y [(y.heap.size, k3 zM, 89)]) ?_ ?_); exact Fm.one y _ _; intro y1 K1)
                  | ((with_reducible refine at_st rtM y.heap.size (k3 zM) (k3 ⟨ma, N, false⟩) ?_ ?_ ?_ ?_ (.tmp 9) (.tmp 24) ?_ ?_ ?_ ?_ ?_); exact K1.out.bx 0 _ _ _ rfl; rfl; rfl; exact oneM _; rfl; rfl; rfl; rfl; intro y2 hw2; have K2 : Hid (Fm y [(y.heap.size, k3 ⟨ma, N, false⟩, 89)] y2) := K1.out.put 0 _ _ _ _ rfl hw2.out; clear hw2; have d0 := (K2.out.bx 0 _ _ _ rfl).c 0 (.int .i64 ma) rfl; have d1 := (K2.out.bx 0 _ _ _ rfl).c 1 (.int .i64 (N : Int)) rfl))
                refine region_class_tail 24 (Fm y [(y.heap.size, k3 ⟨ma, N, false⟩, 89)]) (by kernel_rfl) (by kernel_rfl) (K2.out.below (below_drew (Below.refl _ _))) ?_
                simp only [List.take_succ_cons, List.take_zero, List.drop_succ_cons, List.drop_zero]
                with_reducible refine quiet_one (.int .i64 (k : Int)) ?_ ?_ ?_
                · kernel_rfl
                · intro u hy
                  go_simp
                  all_goals (first | omega | (rw [IntKind.wrap_i64]; omega))
                with_reducible refine quiet_one (.bool true) ?_ ?_ ?_
                · kernel_rfl
                · intro u hy
                  go_simp
                  all_goals (first | omega | (rw [IntKind.wrap_i64]; omega))
                with_reducible refine quiet_one (.bool true) ?_ ?_ ?_
                · kernel_rfl
                · intro u hy
                  go_simp
                  all_goals (first | omega | (rw [IntKind.wrap_i64]; omega))
                with_reducible refine quiet_one (.pointer (some ⟨y.heap.size, 2, none⟩)) ?_ ?_ ?_
                · kernel_rfl
                · intro u hy
                  go_simp
                  all_goals (first | omega | (rw [IntKind.wrap_i64]; omega))
                with_reducible refine quiet_one (.bool false) ?_ ?_ ?_
                · kernel_rfl
                · intro u hy
                  have e2 := (hy.bx 0 _ _ _ rfl).c 2 (.bool false) rfl
                  go_simp
                with_reducible refine quiet_one (.slice (some ⟨g, o, none⟩) n cap) ?_ ?_ ?_
                · kernel_rfl
                · intro u hy
                  go_simp
                  all_goals (first | omega | (rw [IntKind.wrap_i64]; omega))
                with_reducible refine quiet_one (.int .i64 (k : Int)) ?_ ?_ ?_
                · kernel_rfl
                · intro u hy
                  go_simp
                  all_goals (first | omega | (rw [IntKind.wrap_i64]; omega))
                with_reducible refine quiet_one (.int .i64 ((k : Int) - 1)) ?_ ?_ ?_
                · kernel_rfl
                · intro u hy
                  go_simp
                  all_goals (first | omega | (rw [IntKind.wrap_i64]; omega))
                with_reducible refine quiet_one (.pointer (some ⟨g, o + j * 3, none⟩)) ?_ ?_ ?_
                · kernel_rfl
                · intro u hy
                  go_simp
                  all_goals (first | omega | (rw [IntKind.wrap_i64]; omega))
                with_reducible refine quiet_one (.pointer (some ⟨g, o + j * 3 + 2, none⟩)) ?_ ?_ ?_
                · kernel_rfl
                · intro u hy
                  go_simp
                  all_goals (first | omega | (rw [IntKind.wrap_i64]; omega))
                with_reducible refine quiet_one (.bool pc) ?_ ?_ ?_
                · kernel_rfl
                · intro u hy
                  have e3 := hprev.out u (of_below K.out.1 hy.low)
                  go_simp
                with_reducible refine quiet_one (.bool false) ?_ ?_ ?_
                · kernel_rfl
                · intro u hy
                  go_simp
                  all_goals (first | omega | (rw [IntKind.wrap_i64]; omega))
                with_reducible refine quiet_one (.bool false) ?_ ?_ ?_
                · kernel_rfl
                · intro u hy
                  go_simp
                  all_goals (first | omega | (rw [IntKind.wrap_i64]; omega))
                with_reducible refine quiet_one (.bool false) ?_ ?_ ?_
                · kernel_rfl
                · intro u hy
                  go_simp
                  all_goals (first | omega | (rw [IntKind.wrap_i64]; omega))
                with_reducible refine quiet_one (.pointer (some ⟨y.heap.size, 2, none⟩)) ?_ ?_ ?_
                · kernel_rfl
                · intro u hy
                  go_simp
                  all_goals (first | omega | (rw [IntKind.wrap_i64]; omega))
                with_reducible refine quiet_one (.bool false) ?_ ?_ ?_
                · kernel_rfl
                · intro u hy
                  have e2 := (hy.bx 0 _ _ _ rfl).c 2 (.bool false) rfl
                  go_simp
                with_reducible refine quiet_one (.bool false) ?_ ?_ ?_
                · kernel_rfl
                · intro u hy
                  go_simp
                  all_goals (first | omega | (rw [IntKind.wrap_i64]; omega))
                with_reducible refine quiet_skip ?_ ?_
                · kernel_rfl
                with_reducible refine quiet_skip ?_ ?_
                · kernel_rfl
                with_reducible refine quiet_skip ?_ ?_
                · kernel_rfl
                with_reducible refine quiet_skip ?_ ?_
                · kernel_rfl
                with_reducible refine quiet_skip ?_ ?_
                · kernel_rfl
                with_reducible refine quiet_skip ?_ ?_
                · kernel_rfl
                with_reducible refine quiet_one (.bool false) ?_ ?_ ?_
                · kernel_rfl
                · intro u hy
                  go_simp
                  all_goals (first | omega | (rw [IntKind.wrap_i64]; omega))
                refine wpQuiet_nil ?_
                intro z0 Z0
                replace Z0 : Hid _ := Z0
                go_simp
                have e2 := (Z0.out.bx 0 _ _ _ rfl).c 1 (.int .i64 (N : Int)) rfl
                have wAN : IntKind.i64.wrap (A + N) = A + N := by rw [IntKind.wrap_i64]; omega
                have Jf : Hid (∀ m, LB8 (z0.drewN m) sp1 (l.drop N) ∧ (l.drop N).length = ln - N ∧ (l.drop N).length ≤ c - N ∧ A + N + (l.drop N).length ≤ 131072 ∧ (l.drop N).length ≤ 65536 ∧ 1 ≤ N ∧ N ≤ ln) := fun m => Jd.out (z0.drewN m) (K.out.2.below (below_drewN Z0.out.low))
                go_wp2
                go_quiet (fail)
                go_wp2
                go_roundw
                case rel => exact ⟨k + 1, A + N, sp1, c - N, l.drop N, _, rfl, rfl, by rw [(Jf.out 0).2.1], by simp, ⟨by have := hlt'.out; omega, J9.out, by omega, (Jf.out 0).2.2.2.1, (Jf.out 0).2.2.1, (Jf.out 0).2.2.2.2.1⟩, below_drewN (of_below K.out.1 Z0.out.low), (Jf.out _).1⟩
                case measure => simp [lenOf]; omega
              · obtain ⟨wh, hwh⟩ : ∃ b, wholeB (l.take N) = b := ⟨_, rfl⟩
                rw [hwh] at hWc hmb
                cases wh
                · have fin : Hid (R = none) := by
                    show _ = _
                    rw [hO.out, if_pos (by rw [hmb.out]; simp)]
                    rfl
                  clear hlt hm hc hd hO hln h0 hq hs1
                  go_wp2_with (first
                    | ((with_reducible refine at_loadm rtM g (o + k * 3) (k3 ⟨ma, N, true⟩) ?_ ?_ (.tmp 23) ?_ ?_ ?_ ?_); exact hc'.out; rfl; kernel_rfl; rfl; rfl)
                    | ((with_reducible refine gen_world (y.alloc (.cells #[.int .i64 0, .int .i64 0, .bool false] 89)) (Fm y [(y.heap.size, k3 zM, 89)]) ?_ ?_); exact Fm.one y _ _; intro y1 K1)
                    | ((with_reducible refine at_st rtM y.heap.size (k3 zM) (k3 ⟨ma, N, true⟩) ?_ ?_ ?_ ?_ (.tmp 9) (.tmp 24) ?_ ?_ ?_ ?_ ?_); exact K1.out.bx 0 _ _ _ rfl; rfl; rfl; exact oneM _; rfl; rfl; rfl; rfl; intro y2 hw2; have K2 : Hid (Fm y [(y.heap.size, k3 ⟨ma, N, true⟩, 89)] y2) := K1.out.put 0 _ _ _ _ rfl hw2.out; clear hw2; have d0 := (K2.out.bx 0 _ _ _ rfl).c 0 (.int .i64 ma) rfl; have d1 := (K2.out.bx 0 _ _ _ rfl).c 1 (.int .i64 (N : Int)) rfl))
                  refine region_class_tail 24 (Fm y [(y.heap.size, k3 ⟨ma, N, true⟩, 89)]) (by kernel_rfl) (by kernel_rfl) (K2.out.below (below_drew (Below.refl _ _))) ?_
                  simp only [List.take_succ_cons, List.take_zero, List.drop_succ_cons, List.drop_zero]
                  with_reducible refine quiet_one (.int .i64 (k : Int)) ?_ ?_ ?_
                  · kernel_rfl
                  · intro u hy
                    go_simp
                    all_goals (first | omega | (rw [IntKind.wrap_i64]; omega))
                  with_reducible refine quiet_one (.bool true) ?_ ?_ ?_
                  · kernel_rfl
                  · intro u hy
                    go_simp
                    all_goals (first | omega | (rw [IntKind.wrap_i64]; omega))
                  with_reducible refine quiet_one (.bool true) ?_ ?_ ?_
                  · kernel_rfl
                  · intro u hy
                    go_simp
                    all_goals (first | omega | (rw [IntKind.wrap_i64]; omega))
                  with_reducible refine quiet_one (.pointer (some ⟨y.heap.size, 2, none⟩)) ?_ ?_ ?_
                  · kernel_rfl
                  · intro u hy
                    go_simp
                    all_goals (first | omega | (rw [IntKind.wrap_i64]; omega))
                  with_reducible refine quiet_one (.bool true) ?_ ?_ ?_
                  · kernel_rfl
                  · intro u hy
                    have e2 := (hy.bx 0 _ _ _ rfl).c 2 (.bool true) rfl
                    go_simp
                  with_reducible refine quiet_one (.slice (some ⟨g, o, none⟩) n cap) ?_ ?_ ?_
                  · kernel_rfl
                  · intro u hy
                    go_simp
                    all_goals (first | omega | (rw [IntKind.wrap_i64]; omega))
                  with_reducible refine quiet_one (.int .i64 (k : Int)) ?_ ?_ ?_
                  · kernel_rfl
                  · intro u hy
                    go_simp
                    all_goals (first | omega | (rw [IntKind.wrap_i64]; omega))
                  with_reducible refine quiet_one (.int .i64 ((k : Int) - 1)) ?_ ?_ ?_
                  · kernel_rfl
                  · intro u hy
                    go_simp
                    all_goals (first | omega | (rw [IntKind.wrap_i64]; omega))
                  with_reducible refine quiet_one (.pointer (some ⟨g, o + j * 3, none⟩)) ?_ ?_ ?_
                  · kernel_rfl
                  · intro u hy
                    go_simp
                    all_goals (first | omega | (rw [IntKind.wrap_i64]; omega))
                  with_reducible refine quiet_one (.pointer (some ⟨g, o + j * 3 + 2, none⟩)) ?_ ?_ ?_
                  · kernel_rfl
                  · intro u hy
                    go_simp
                    all_goals (first | omega | (rw [IntKind.wrap_i64]; omega))
                  with_reducible refine quiet_one (.bool pc) ?_ ?_ ?_
                  · kernel_rfl
                  · intro u hy
                    have e3 := hprev.out u (of_below K.out.1 hy.low)
                    go_simp
                  with_reducible refine quiet_one (.bool false) ?_ ?_ ?_
                  · kernel_rfl
                  · intro u hy
                    go_simp
                    all_goals (first | omega | (rw [IntKind.wrap_i64]; omega))
                  with_reducible refine quiet_one (.bool false) ?_ ?_ ?_
                  · kernel_rfl
                  · intro u hy
                    go_simp
                    all_goals (first | omega | (rw [IntKind.wrap_i64]; omega))
                  with_reducible refine quiet_one (.bool false) ?_ ?_ ?_
                  · kernel_rfl
                  · intro u hy
                    go_simp
                    all_goals (first | omega | (rw [IntKind.wrap_i64]; omega))
                  with_reducible refine quiet_one (.pointer (some ⟨y.heap.size, 2, none⟩)) ?_ ?_ ?_
                  · kernel_rfl
                  · intro u hy
                    go_simp
                    all_goals (first | omega | (rw [IntKind.wrap_i64]; omega))
                  with_reducible refine quiet_one (.bool true) ?_ ?_ ?_
                  · kernel_rfl
                  · intro u hy
                    have e2 := (hy.bx 0 _ _ _ rfl).c 2 (.bool true) rfl
                    go_simp
                  with_reducible refine quiet_one (.bool true) ?_ ?_ ?_
                  · kernel_rfl
                  · intro u hy
                    go_simp
                    all_goals (first | omega | (rw [IntKind.wrap_i64]; omega))
                  with_reducible refine quiet_one (.slice p ln c) ?_ ?_ ?_
                  · kernel_rfl
                  · intro u hy
                    go_simp
                    all_goals (first | omega | (rw [IntKind.wrap_i64]; omega))
                  with_reducible refine quiet_one (.pointer (some ⟨y.heap.size, 1, none⟩)) ?_ ?_ ?_
                  · kernel_rfl
                  · intro u hy
                    go_simp
                    all_goals (first | omega | (rw [IntKind.wrap_i64]; omega))
                  with_reducible refine quiet_one (.int .i64 (N : Int)) ?_ ?_ ?_
                  · kernel_rfl
                  · intro u hy
                    have e2 := (hy.bx 0 _ _ _ rfl).c 1 (.int .i64 (N : Int)) rfl
                    go_simp
                  with_reducible refine quiet_one (.slice p N c) ?_ ?_ ?_
                  · kernel_rfl
                  · intro u hy
                    go_simp
                    all_goals (first | omega | (rw [IntKind.wrap_i64]; omega))
                  with_reducible refine quiet_one (.bool false) ?_ ?_ ?_
                  · kernel_rfl
                  · intro u hy
                    have d := (hWc.out u (of_below K.out.1 hy.low) (K.out.2.below hy.low)).mono fun e w' (h : _ ∧ _) => And.intro h.1 (hy.below h.2)
                    go_simp
                    all_goals exact d
                  with_reducible refine quiet_one (.bool true) ?_ ?_ ?_
                  · kernel_rfl
                  · intro u hy
                    go_simp
                    all_goals (first | omega | (rw [IntKind.wrap_i64]; omega))
                  with_reducible refine quiet_one (.bool true) ?_ ?_ ?_
                  · kernel_rfl
                  · intro u hy
                    go_simp
                    all_goals (first | omega | (rw [IntKind.wrap_i64]; omega))
                  refine wpQuiet_nil ?_
                  intro z0 Z0
                  replace Z0 : Hid _ := Z0
                  go_simp
                  go_wp2
                  go_ret2
                  rw [fin.out]
                  exact ⟨_, rfl, of_below K.out.1 Z0.out.low, fun q e => by cases e⟩
                · have hb9 : ¬ mbad A l (prevC ms k) ⟨ma, N, true⟩ = true := by
                    rw [hmb.out, decide_eq_false hpne.out]
                    simp
                  have J9 : Hid (R = (mof (A + N) (l.drop N) (prevC ms (k + 1)) (ms.drop (k + 1))).map (· + (k + 1))) := by
                    show _ = _
                    rw [hO.out, if_neg hb9, hnx.out, Option.map_map]
                    congr 1
                    funext q
                    show q + 1 + _ = q + (_ + 1)
                    all_goals omega
                  clear hlt hm hc hd hO hln h0 hq hb9 hs1
                  go_wp2_with (first
                    | ((with_reducible refine at_loadm rtM g (o + k * 3) (k3 ⟨ma, N, true⟩) ?_ ?_ (.tmp 23) ?_ ?_ ?_ ?_); exact hc'.out; rfl; kernel_rfl; rfl; rfl)
                    | ((with_reducible refine gen_world (y.alloc (.cells #[.int .i64 0, .int .i64 0, .bool false] 89)) (Fm y [(y.heap.size, k3 zM, 89)]) ?_ ?_); exact Fm.one y _ _; intro y1 K1)
                    | ((with_reducible refine at_st rtM y.heap.size (k3 zM) (k3 ⟨ma, N, true⟩) ?_ ?_ ?_ ?_ (.tmp 9) (.tmp 24) ?_ ?_ ?_ ?_ ?_); exact K1.out.bx 0 _ _ _ rfl; rfl; rfl; exact oneM _; rfl; rfl; rfl; rfl; intro y2 hw2; have K2 : Hid (Fm y [(y.heap.size, k3 ⟨ma, N, true⟩, 89)] y2) := K1.out.put 0 _ _ _ _ rfl hw2.out; clear hw2; have d0 := (K2.out.bx 0 _ _ _ rfl).c 0 (.int .i64 ma) rfl; have d1 := (K2.out.bx 0 _ _ _ rfl).c 1 (.int .i64 (N : Int)) rfl))
                  refine region_class_tail 24 (Fm y [(y.heap.size, k3 ⟨ma, N, true⟩, 89)]) (by kernel_rfl) (by kernel_rfl) (K2.out.below (below_drew (Below.refl _ _))) ?_
                  simp only [List.take_succ_cons, List.take_zero, List.drop_succ_cons, List.drop_zero]
                  with_reducible refine quiet_one (.int .i64 (k : Int)) ?_ ?_ ?_
                  · kernel_rfl
                  · intro u hy
                    go_simp
                    all_goals (first | omega | (rw [IntKind.wrap_i64]; omega))
                  with_reducible refine quiet_one (.bool true) ?_ ?_ ?_
                  · kernel_rfl
                  · intro u hy
                    go_simp
                    all_goals (first | omega | (rw [IntKind.wrap_i64]; omega))
                  with_reducible refine quiet_one (.bool true) ?_ ?_ ?_
                  · kernel_rfl
                  · intro u hy
                    go_simp
                    all_goals (first | omega | (rw [IntKind.wrap_i64]; omega))
                  with_reducible refine quiet_one (.pointer (some ⟨y.heap.size, 2, none⟩)) ?_ ?_ ?_
                  · kernel_rfl
                  · intro u hy
                    go_simp
                    all_goals (first | omega | (rw [IntKind.wrap_i64]; omega))
                  with_reducible refine quiet_one (.bool true) ?_ ?_ ?_
                  · kernel_rfl
                  · intro u hy
                    have e2 := (hy.bx 0 _ _ _ rfl).c 2 (.bool true) rfl
                    go_simp
                  with_reducible refine quiet_one (.slice (some ⟨g, o, none⟩) n cap) ?_ ?_ ?_
                  · kernel_rfl
                  · intro u hy
                    go_simp
                    all_goals (first | omega | (rw [IntKind.wrap_i64]; omega))
                  with_reducible refine quiet_one (.int .i64 (k : Int)) ?_ ?_ ?_
                  · kernel_rfl
                  · intro u hy
                    go_simp
                    all_goals (first | omega | (rw [IntKind.wrap_i64]; omega))
                  with_reducible refine quiet_one (.int .i64 ((k : Int) - 1)) ?_ ?_ ?_
                  · kernel_rfl
                  · intro u hy
                    go_simp
                    all_goals (first | omega | (rw [IntKind.wrap_i64]; omega))
                  with_reducible refine quiet_one (.pointer (some ⟨g, o + j * 3, none⟩)) ?_ ?_ ?_
                  · kernel_rfl
                  · intro u hy
                    go_simp
                    all_goals (first | omega | (rw [IntKind.wrap_i64]; omega))
                  with_reducible refine quiet_one (.pointer (some ⟨g, o + j * 3 + 2, none⟩)) ?_ ?_ ?_
                  · kernel_rfl
                  · intro u hy
                    go_simp
                    all_goals (first | omega | (rw [IntKind.wrap_i64]; omega))
                  with_reducible refine quiet_one (.bool pc) ?_ ?_ ?_
                  · kernel_rfl
                  · intro u hy
                    have e3 := hprev.out u (of_below K.out.1 hy.low)
                    go_simp
                  with_reducible refine quiet_one (.bool false) ?_ ?_ ?_
                  · kernel_rfl
                  · intro u hy
                    go_simp
                    all_goals (first | omega | (rw [IntKind.wrap_i64]; omega))
                  with_reducible refine quiet_one (.bool false) ?_ ?_ ?_
                  · kernel_rfl
                  · intro u hy
                    go_simp
                    all_goals (first | omega | (rw [IntKind.wrap_i64]; omega))
                  with_reducible refine quiet_one (.bool false) ?_ ?_ ?_
                  · kernel_rfl
                  · intro u hy
                    go_simp
                    all_goals (first | omega | (rw [IntKind.wrap_i64]; omega))
                  with_reducible refine quiet_one (.pointer (some ⟨y.heap.size, 2, none⟩)) ?_ ?_ ?_
                  · kernel_rfl
                  · intro u hy
                    go_simp
                    all_goals (first | omega | (rw [IntKind.wrap_i64]; omega))
                  with_reducible refine quiet_one (.bool true) ?_ ?_ ?_
                  · kernel_rfl
                  · intro u hy
                    have e2 := (hy.bx 0 _ _ _ rfl).c 2 (.bool true) rfl
                    go_simp
                  with_reducible refine quiet_one (.bool true) ?_ ?_ ?_
                  · kernel_rfl
                  · intro u hy
                    go_simp
                    all_goals (first | omega | (rw [IntKind.wrap_i64]; omega))
                  with_reducible refine quiet_one (.slice p ln c) ?_ ?_ ?_
                  · kernel_rfl
                  · intro u hy
                    go_simp
                    all_goals (first | omega | (rw [IntKind.wrap_i64]; omega))
                  with_reducible refine quiet_one (.pointer (some ⟨y.heap.size, 1, none⟩)) ?_ ?_ ?_
                  · kernel_rfl
                  · intro u hy
                    go_simp
                    all_goals (first | omega | (rw [IntKind.wrap_i64]; omega))
                  with_reducible refine quiet_one (.int .i64 (N : Int)) ?_ ?_ ?_
                  · kernel_rfl
                  · intro u hy
                    have e2 := (hy.bx 0 _ _ _ rfl).c 1 (.int .i64 (N : Int)) rfl
                    go_simp
                  with_reducible refine quiet_one (.slice p N c) ?_ ?_ ?_
                  · kernel_rfl
                  · intro u hy
                    go_simp
                    all_goals (first | omega | (rw [IntKind.wrap_i64]; omega))
                  with_reducible refine quiet_one (.bool true) ?_ ?_ ?_
                  · kernel_rfl
                  · intro u hy
                    have d := (hWc.out u (of_below K.out.1 hy.low) (K.out.2.below hy.low)).mono fun e w' (h : _ ∧ _) => And.intro h.1 (hy.below h.2)
                    go_simp
                    all_goals exact d
                  with_reducible refine quiet_one (.bool false) ?_ ?_ ?_
                  · kernel_rfl
                  · intro u hy
                    go_simp
                    all_goals (first | omega | (rw [IntKind.wrap_i64]; omega))
                  with_reducible refine quiet_one (.bool false) ?_ ?_ ?_
                  · kernel_rfl
                  · intro u hy
                    go_simp
                    all_goals (first | omega | (rw [IntKind.wrap_i64]; omega))
                  refine wpQuiet_nil ?_
                  intro z0 Z0
                  replace Z0 : Hid _ := Z0
                  go_simp
                  have e2 := (Z0.out.bx 0 _ _ _ rfl).c 1 (.int .i64 (N : Int)) rfl
                  have wAN : IntKind.i64.wrap (A + N) = A + N := by rw [IntKind.wrap_i64]; omega
                  have Jf : Hid (∀ m, LB8 (z0.drewN m) sp1 (l.drop N) ∧ (l.drop N).length = ln - N ∧ (l.drop N).length ≤ c - N ∧ A + N + (l.drop N).length ≤ 131072 ∧ (l.drop N).length ≤ 65536 ∧ 1 ≤ N ∧ N ≤ ln) := fun m => Jd.out (z0.drewN m) (K.out.2.below (below_drewN Z0.out.low))
                  go_wp2
                  go_quiet (fail)
                  go_wp2
                  go_roundw
                  case rel => exact ⟨k + 1, A + N, sp1, c - N, l.drop N, _, rfl, rfl, by rw [(Jf.out 0).2.1], by simp, ⟨by have := hlt'.out; omega, J9.out, by omega, (Jf.out 0).2.2.2.1, (Jf.out 0).2.2.1, (Jf.out 0).2.2.2.2.1⟩, below_drewN (of_below K.out.1 Z0.out.low), (Jf.out _).1⟩
                  case measure => simp [lenOf]; omega

      · have hke : ((k : Int) == n) = true := by have := J.out.1; rw [beq_iff_eq]; omega
        have fin : Hid (R = none) := by
          have h1 := J.out.2.1
          rw [List.drop_eq_nil_of_le (by have := hnn.out; omega), mof_none _ _ _ hne.out] at h1
          exact h1
        clear hlt hln h0
        go_wp2
        go_ret2
        rw [fin.out]
        exact ⟨_, rfl, K.out.1, fun q e => by cases e⟩
end Go.Proofs.YthbdpceobnkflaaDoor
