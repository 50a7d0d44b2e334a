/- Bytes read as a trace: the program's face. -/
import Derived.Test.YtoajmicdphffnabDoorGi
import Derived.Laws.Small
import Derived.Deep.Cut
namespace Go.Proofs.YtoajmicdphffnabDoor
open Go Go.RowKit
set_option linter.unusedVariables false
set_option maxHeartbeats 8000000
set_option maxRecDepth 20000

theorem unpack_split (l : List UInt8) : unpackR l = if okO l = true then unpackGo (manyP l).toNat 8 0 (l.drop 8) [] else ([], 91, 0) := by
  unfold unpackR okO
  by_cases h1 : l.length < 8 ∨ l.take 4 ≠ [86, 84, 82, 49]
  · rw [if_pos h1, if_neg]
    simp
    intro h2 h3
    rcases h1 with h | h
    · omega
    · exact absurd h3 h
  · rw [if_neg h1]
    have a : 8 ≤ l.length := by omega
    have b : l.take 4 = [86, 84, 82, 49] := Decidable.of_not_not fun h => h1 (.inr h)
    by_cases h2 : 4194304 < manyP l
    · rw [if_pos h2, if_neg]
      simp
      intro _ _
      omega
    · rw [if_neg h2, if_pos]
      simp [a, b]
      omega
theorem punpack_any (w : World) (sp : Option Addr) (cap : Nat) (l : List UInt8) (hl : Hid (LiesB w sp l)) (hn : l.length ≤ 4611686018427387904) (hcap : l.length ≤ cap) :
    Calls Tryd.prog 8 #[.slice sp l.length cap] w fun e w' => ∃ v, e = .returned (.tuple #[v, .int .i64 (unpackR l).2.1, .int .i64 (unpackR l).2.2]) ∧ Hid (Ct w v (.slice none 0 0) (unpackR l).1 [] [] w') := by
  have hmf : ∀ (fn : Fn) (first cap : Array Value) (w : World), (Instr.makeFunc fn first cap).run Tryd.prog w = .ok (.func fn first cap) w := fun _ _ _ _ => rfl
  have hS : Hid _ := startU w
  have hO : Hid (∀ y, Below w.heap.size w y → Calls Tryd.prog 27 #[.slice sp l.length cap] y fun e w' => e = (if okO l then .returned (.int .i64 (manyP l)) else .panicked [{ v := pv, recovered := false }]) ∧ Below y.heap.size y w') := fun y hy => ropen_any y sp cap l (hl.out.below hy) hn hcap
  obtain ⟨n, hn'⟩ : ∃ n, l.length = n := ⟨_, rfl⟩
  have hnn : Hid (l.length = n) := hn'
  have hsp := unpack_split l
  obtain ⟨PS, hPS⟩ : ∃ x, unpackR l = x := ⟨_, rfl⟩
  rw [hPS] at hsp
  rw [hn'] at hO hcap hn
  rw [hPS, hn']
  have ni : (n : Int) ≤ 4611686018427387904 := by omega
  have hcap' : Hid (n ≤ cap) := hcap
  cases hok : okO l with
  | false =>
    rw [hok] at hsp hO
    simp only [Bool.false_eq_true, if_false] at hsp hO
    have fin : Hid (PS = ([], 91, 0)) := hsp
    clear hok hPS hn hn' hsp hcap
    go_enter_defers Tryd.func8, Tryd.ntmps8
    go_wp2_with (go_at_call 27; refine (hO.out _ hS.out.fm.low).mono ?_; rintro e y2 ⟨rfl, hb2⟩; have K2 : Hid (Ct w (.slice none 0 0) (.slice none 0 0) [] [] (bsU w.heap.size (w.heap.size + 1) (w.heap.size + 1 + 1) (w.heap.size + 1 + 1 + 1) (.slice none 0 0) 0 0 0) y2) := hS.out.below hb2; clear hb2)
    obtain ⟨b0, q0⟩ : ∃ b, w.heap.size = b := ⟨_, rfl⟩
    obtain ⟨b1, q1⟩ : ∃ b, w.heap.size + 1 = b := ⟨_, rfl⟩
    obtain ⟨b2, q2⟩ : ∃ b, w.heap.size + 1 + 1 = b := ⟨_, rfl⟩
    obtain ⟨b3, q3⟩ : ∃ b, w.heap.size + 1 + 1 + 1 = b := ⟨_, rfl⟩
    rw [q3, q2, q1] at K2 ⊢
    have K3 : Hid (Ct w (.slice none 0 0) (.slice none 0 0) [] [] (bsU b0 b1 b2 b3 (.slice none 0 0) 0 0 0) y2) := by rw [← q0]; exact K2
    rw [q0]
    clear K2 hS hO
    refine leaves_cons (f := 26) (args := #[.pointer (some ⟨b3, 0, none⟩), .pointer (some ⟨b0, 0, none⟩), .pointer (some ⟨b1, 0, none⟩), .pointer (some ⟨b2, 0, none⟩)]) (by simp) (by simp [go_sem]) ?_
    refine (catchU b3 b0 b1 b2 0 _ _ _ [] _ (K3.out.fm.bx 3 _ _ _ rfl) (K3.out.fm.bx 0 _ _ _ rfl) (K3.out.fm.bx 1 _ _ _ rfl) (K3.out.fm.bx 2 _ _ _ rfl) (bsU_ne K3.out).1 (bsU_ne K3.out).2.1 (bsU_ne K3.out).2.2).mono ?_
    rintro e u' w' ⟨rfl, rfl, rfl⟩
    obtain ⟨r1, r2, r3, r4⟩ := K3.out.caught 91 0
    replace r4 : Hid _ := r4
    rw [fin.out]
    simp [Leaves, settle, results, Tryd.results8, go_sem, r1, r2, r3]
    exact r4
  | true =>
    rw [hok] at hsp hO
    simp only [if_true] at hsp hO
    obtain ⟨N, hN⟩ : ∃ x, manyP l = x := ⟨_, rfl⟩
    obtain ⟨PG, hPG⟩ : ∃ x, unpackGo N.toNat 8 0 (l.drop 8) [] = x := ⟨_, rfl⟩
    have hN2 : 8 ≤ n ∧ 0 ≤ N ∧ N ≤ 4194304 := by
      unfold okO at hok
      simp at hok
      refine ⟨by omega, ?_, by omega⟩
      rw [← hN]
      unfold manyP
      omega
    rw [hN] at hsp hO
    have hPG' : Hid (unpackGo N.toNat 8 0 (l.drop 8) [] = PG ∧ PS = PG) := ⟨hPG, by rw [hsp, hPG]⟩
    have n8 : 8 ≤ (n : Int) := by omega
    have N0 := hN2.2.1
    have N4 := hN2.2.2
    have h8' : Hid (8 ≤ n) := hN2.1
    obtain ⟨g, o, hsg⟩ : ∃ g o, sp = some ⟨g, o, none⟩ := by
      obtain ⟨g, o, e, _⟩ := hl.out 0 (l[0]'(by omega)) (List.getElem?_eq_getElem _)
      exact ⟨g, o, e⟩
    subst hsg
    obtain ⟨i8, hi8, hz0, hz1, hz2⟩ := info_parts infoR
    obtain ⟨c, hc, hc4⟩ : ∃ c : Nat, (if ((n : Int) - 8) / 2 < N then ((n : Int) - 8) / 2 else N) = (c : Int) ∧ c ≤ 4194304 := by
      by_cases h : ((n : Int) - 8) / 2 < N
      · exact ⟨(((n : Int) - 8) / 2).toNat, by rw [if_pos h]; omega, by omega⟩
      · exact ⟨N.toNat, by rw [if_neg h]; omega, by omega⟩
    have hmk : Hid (∀ z : World, w.heap.size ≤ z.heap.size → ∃ w', (Instr.makeSlice 22 (.int .i64 0) (.int .i64 (c : Int))).run Tryd.prog z = .ok (.slice (some ⟨z.heap.size, 0, none⟩) 0 c) w' ∧ w'.ownsRow w.heap.size 45 8 (.slice (some ⟨z.heap.size, 0, none⟩) 0 c) 0 [] ∧ z.grownBy w' none) := fun z hz => run_make_own (P := Tryd.prog) z w.heap.size 22 45 i8 _ 8 Tryd.underlying22 hi8 hz0 hz1 .i64 .i64 c (by rw [hz2]; omega) (by unfold maxLen; omega) hz
    have hq : ((n : Int) - 8).tdiv 2 = ((n : Int) - 8) / 2 := by rw [Int.tdiv_eq_ediv_of_nonneg (by omega)]
    clear hok hPS hn hn' hsp hcap hPG hN
    go_enter_defers Tryd.func8, Tryd.ntmps8
    go_upto_region 4 with (go_at_call 27; refine (hO.out _ hS.out.fm.low).mono ?_; rintro e y2 ⟨rfl, hb2⟩; have K2 : Hid (Ct w (.slice none 0 0) (.slice none 0 0) [] [] (bsU w.heap.size (w.heap.size + 1) (w.heap.size + 1 + 1) (w.heap.size + 1 + 1 + 1) (.slice none 0 0) 0 0 0) y2) := hS.out.below hb2; clear hb2)
    obtain ⟨b0, q0⟩ : ∃ b, w.heap.size = b := ⟨_, rfl⟩
    obtain ⟨b1, q1⟩ : ∃ b, w.heap.size + 1 = b := ⟨_, rfl⟩
    obtain ⟨b2, q2⟩ : ∃ b, w.heap.size + 1 + 1 = b := ⟨_, rfl⟩
    obtain ⟨b3, q3⟩ : ∃ b, w.heap.size + 1 + 1 + 1 = b := ⟨_, rfl⟩
    rw [q3, q2, q1] at K2 ⊢
    have K3 : Hid (Ct w (.slice none 0 0) (.slice none 0 0) [] [] (bsU b0 b1 b2 b3 (.slice none 0 0) 0 0 0) y2) := by rw [← q0]; exact K2
    rw [q0]
    have s3 := (K3.out.fm.bx 3 _ _ _ rfl).c 0 _ rfl
    have f3 := (K3.out.fm.bx 3 _ _ _ rfl).fz 0
    have K4 : Hid (Ct w (.slice none 0 0) (.slice none 0 0) [] [] (bsU b0 b1 b2 b3 (.slice none 0 0) 0 0 8) (y2.setCell ⟨b3, 0, none⟩ (.int .i64 8))) := K3.out.setCell 3 b3 _ #[.int .i64 8] _ rfl 0 _ rfl
    clear K2 hS hO q1 q2 q3
    go_wp2_with ((with_reducible refine gen_world (y2.setCell ⟨b3, 0, none⟩ (.int .i64 8)) (Ct w (.slice none 0 0) (.slice none 0 0) [] [] (bsU b0 b1 b2 b3 (.slice none 0 0) 0 0 8)) K4.out ?_); intro y4 K5; have s4 := (K5.out.fm.bx 3 _ _ _ rfl).c 0 _ rfl; have t0 := (K5.out.fm.bx 0 _ _ _ rfl).c 0 _ rfl; have t1 := (K5.out.fm.bx 0 _ _ _ rfl).fz 0; obtain ⟨y5, hm1, hm2, hm3⟩ := hmk.out y4 K5.out.fm.low.size; have K6 : Hid (Ct w (.slice (some ⟨y4.heap.size, 0, none⟩) 0 c) (.slice none 0 0) [] [] (bsU b0 b1 b2 b3 (.slice none 0 0) 0 0 8) y5) := K5.out.made hm2 hm3; have u0 := (K6.out.fm.bx 0 _ _ _ rfl).c 0 _ rfl; have u1 := (K6.out.fm.bx 0 _ _ _ rfl).fz 0; clear hm2 hm3)
    have K7 : Hid (Ct w (.slice (some ⟨y4.heap.size, 0, none⟩) 0 c) (.slice none 0 0) [] [] (bsU b0 b1 b2 b3 (.slice (some ⟨y4.heap.size, 0, none⟩) 0 c) 0 0 8) (y5.setCell ⟨b0, 0, none⟩ (.slice (some ⟨y4.heap.size, 0, none⟩) 0 c))) := K6.out.setCell 0 b0 _ #[.slice (some ⟨y4.heap.size, 0, none⟩) 0 c] _ rfl 0 _ rfl
    generalize y5.setCell ⟨b0, 0, none⟩ (.slice (some ⟨y4.heap.size, 0, none⟩) 0 c) = y7 at K7 ⊢
    generalize Value.slice (some ⟨y4.heap.size, 0, none⟩) 0 c = v7 at K7 ⊢
    clear s4 t0 t1 u0 u1 hm1 K6 K5 K4 K3 s3 f3 hmk hc hq
    have zz := zeroV_R
    go_loopw [7, 22] (fun u t wz => ∃ (i a : Nat) (next : Int) (va : Value) (O : List Rc) (y : World), y = wz ∧ u = .int .u16 next ∧ t = .int .i64 (i : Int) ∧ Hid ((i : Int) ≤ N ∧ a ≤ n ∧ O.length ≤ i ∧ 0 ≤ next ∧ next ≤ 65535 ∧ unpackGo (N.toNat - i) a next (l.drop a) O = PG) ∧ Hid (Ct w va (.slice none 0 0) O [] (bsU b0 b1 b2 b3 va 0 0 a) y)) (fun _ t _ => (N - intOf t).toNat)
    case atStart => exact ⟨0, 8, 0, v7, [], _, rfl, rfl, rfl, ⟨by omega, h8'.out, Nat.le_refl _, by decide, by decide, by rw [Nat.sub_zero]; exact hPG'.out.1⟩, K7⟩
    case round =>
      obtain ⟨i, a, next, va, O, y, rfl, rfl, rfl, J, K⟩ := hrel
      have d3 := (K.out.fm.bx 3 _ _ _ rfl).c 0 _ rfl
      by_cases hlt : (i : Int) < N
      · have hlt' : Hid ((i : Int) < N) := hlt
        have hOl : Hid (O.length ≤ 4194304) := by have := J.out.2.2.1; show _ ≤ _; omega
        have aN : (a : Int) ≤ n := by have := J.out.2.1; omega
        obtain ⟨sp1, hsl, hsl2⟩ := slU g o n cap a J.out.2.1 hcap'.out
        have hLB : LiesB w sp1 (l.drop a) := by
          rcases Nat.lt_or_ge a n with h | h
          · rw [hsl2 h]
            exact hl.out.drop a
          · rw [List.drop_eq_nil_of_le (by rw [hnn.out]; exact h)]
            exact fun j b hj => by simp at hj
        have jn := J.out.2.2.2
        have hcall : Hid (∀ z, Below w.heap.size w z → Calls Tryd.prog 28 #[.slice sp1 (n - a) (cap - a), .int .u16 next] z fun e w' => e = endE (oneR (l.drop a) next) ∧ Below z.heap.size z w') := fun z hz => by
          have := read1_any z sp1 (cap - a) (l.drop a) next (hLB.below hz) (by rw [List.length_drop, hnn.out]; omega) jn.1 jn.2.1
          rw [List.length_drop, hnn.out] at this
          exact this
        have hstep : Hid (unpackGo (N.toNat - i) a next (l.drop a) O = match oneR (l.drop a) next with | none => ([], 91, (a : Int)) | some (r, k) => unpackGo (N.toNat - (i + 1)) (a + k) ((r.ad + 1) % 65536) ((l.drop a).drop k) (O ++ [r])) := by
          show _ = _
          rw [show N.toNat - i = (N.toNat - (i + 1)) + 1 by omega]
          rfl
        have hone : ∀ r k, oneR (l.drop a) next = some (r, k) → Rr r ∧ 2 ≤ k ∧ k ≤ 5 ∧ a + k ≤ n := fun r k h => by
          obtain ⟨_, _, h3, h4, h5, h6⟩ := one_some jn.1 jn.2.1 h
          rw [List.length_drop, hnn.out] at h4
          exact ⟨h3, h5, h6, by omega⟩
        replace hone : Hid _ := hone
        replace hsl2 : Hid _ := hsl2
        replace hsl : Hid _ := hsl
        replace hLB : Hid _ := hLB
        clear jn
        cases hso : oneR (l.drop a) next with
        | none =>
          rw [hso] at hcall
          simp only [endE] at hcall
          have fin : Hid (PS = ([], 91, (a : Int))) := by
            have h1 := J.out.2.2.2.2.2
            rw [hstep.out, hso] at h1
            show PS = _
            rw [hPG'.out.2, ← h1]
          clear hso
          go_wp2_with (first
            | ((with_reducible refine at_sl 23 (.tmp 25) (.tmp 26) (.slice (some ⟨g, o, none⟩) n cap) (.int .i64 (a : Int)) (.slice sp1 (n - a) (cap - a)) ?_ ?_ ?_ ?_ ?_ ?_); kernel_rfl; rfl; rfl; rfl; exact hsl.out)
            | (go_at_call 28; refine (hcall.out y K.out.fm.low).mono ?_; rintro e y8 ⟨rfl, H8⟩; have K8 : Hid (Ct w va (.slice none 0 0) O [] (bsU b0 b1 b2 b3 va 0 0 a) y8) := K.out.below H8; clear H8))
          refine leaves_cons (f := 26) (args := #[.pointer (some ⟨b3, 0, none⟩), .pointer (some ⟨b0, 0, none⟩), .pointer (some ⟨b1, 0, none⟩), .pointer (some ⟨b2, 0, none⟩)]) (by simp) (by simp [go_sem]) ?_
          refine (catchU b3 b0 b1 b2 (a : Int) _ _ _ [] _ (K8.out.fm.bx 3 _ _ _ rfl) (K8.out.fm.bx 0 _ _ _ rfl) (K8.out.fm.bx 1 _ _ _ rfl) (K8.out.fm.bx 2 _ _ _ rfl) (bsU_ne K8.out).1 (bsU_ne K8.out).2.1 (bsU_ne K8.out).2.2).mono ?_
          rintro e u' w' ⟨rfl, rfl, rfl⟩
          obtain ⟨r1, r2, r3, r4⟩ := K8.out.caught 91 (a : Int)
          replace r4 : Hid _ := r4
          rw [fin.out]
          simp [Leaves, settle, results, Tryd.results8, go_sem, r1, r2, r3]
          exact r4
        | some x =>
          obtain ⟨s, k⟩ := x
          obtain ⟨gs, k2, k5, hak⟩ := hone.out s k hso
          rw [hso] at hcall
          simp only [endE] at hcall
          have J3 : Hid (unpackGo (N.toNat - (i + 1)) (a + k) ((s.ad + 1) % 65536) (l.drop (a + k)) (O ++ [s]) = PG) := by
            have h1 := J.out.2.2.2.2.2
            rw [hstep.out, hso] at h1
            simp only [List.drop_drop] at h1
            exact h1
          have ad0 := gs.a0
          have ad1 := gs.a1
          obtain ⟨ad, had⟩ : ∃ x, s.ad = x := ⟨_, rfl⟩
          rw [had] at J3 ad0 ad1
          replace had : Hid _ := had
          replace gs : Hid _ := gs
          clear hso hone hstep
          have ki : (k : Int) ≤ 5 := by omega
          have k0 : 0 ≤ (k : Int) := by omega
          have hak' : Hid (a + k ≤ n) := hak
          have hw16 : IntKind.u16.wrap (ad + 1) = (ad + 1) % 65536 := by rw [IntKind.wrap_u16]
          go_wp2_with (first
            | ((with_reducible refine at_sl 23 (.tmp 25) (.tmp 26) (.slice (some ⟨g, o, none⟩) n cap) (.int .i64 (a : Int)) (.slice sp1 (n - a) (cap - a)) ?_ ?_ ?_ ?_ ?_ ?_); kernel_rfl; rfl; rfl; rfl; exact hsl.out)
            | (go_at_call 28; refine (hcall.out y K.out.fm.low).mono ?_; rintro e y8 ⟨rfl, H8⟩; have K8 : Hid (Ct w va (.slice none 0 0) O [] (bsU b0 b1 b2 b3 va 0 0 a) y8) := K.out.below H8; clear H8)
            | ((with_reducible refine gen_world (y8.alloc (.cells (rcC zR) 45)) (Ct w va (.slice none 0 0) O [] (bsU b0 b1 b2 b3 va 0 0 a ++ [(y8.heap.size, rcC zR, 45)])) ?_ ?_); exact K8.out.new _ _; intro y9 K9)
            | ((with_reducible refine at_st rtR y8.heap.size (rcC zR) (rcC s) ?_ ?_ ?_ ?_ (.tmp 8) (.tmp 30) ?_ ?_ ?_ ?_ ?_); exact K9.out.fm.bx 4 _ _ _ rfl; rfl; rfl; exact rcC_one _; rfl; rfl; rfl; rfl; intro y10 hw10; have K10 : Hid (Ct w va (.slice none 0 0) O [] (bsU b0 b1 b2 b3 va 0 0 a ++ [(y8.heap.size, rcC s, 45)]) y10) := K9.out.put 4 _ _ _ _ rfl hw10.out; refine stopAt ?_))
          refine Stop.go ?_
          have d0 := (K10.out.fm.bx 0 _ _ _ rfl).c 0 _ rfl
          obtain ⟨b4, q4⟩ : ∃ b, y8.heap.size = b := ⟨_, rfl⟩
          rw [q4] at K10 ⊢
          clear q4 d3 K9
          go_wp2_with (first
            | ((with_reducible refine at_load rtR b4 (rcC s) ?_ ?_ (.tmp 8) ?_ ?_ ?_ ?_); exact K10.out.fm.bx 4 _ _ _ rfl; rfl; kernel_rfl; rfl; rfl)
            | ((with_reducible refine at_bsR s (.tmp 33) ?_ ?_ ?_ ?_); rfl; rfl; rfl)
            | (at_builtin; refine at_app rfl (.tmp 32) (.tmp 34) rfl w.heap.size va O rfl (K10.out.oa.alloc _) y10.heap.size s rfl (one_bx _ _ _) ?_ ?_ ?_; (have := hOl.out; omega); (have := K10.out.fm.low.size; simp; omega); intro va' y12 H12; have K12 : Hid (Ct w va' (.slice none 0 0) (O ++ [s]) [] (bsU b0 b1 b2 b3 va 0 0 a ++ [(b4, rcC s, 45)]) y12) := K10.out.appA H12.out; clear H12; obtain ⟨s3, k3, p3, rfl⟩ := K12.out.oa.op; have c12 := (K12.out.fm.bx 0 _ _ _ rfl).c 0 _ rfl; have f12 := (K12.out.fm.bx 0 _ _ _ rfl).fz 0; refine stopAt ?_))
          refine Stop.go ?_
          have K13 : Hid (Ct w (.slice s3 k3 p3) (.slice none 0 0) (O ++ [s]) [] (bsU b0 b1 b2 b3 (.slice s3 k3 p3) 0 0 a ++ [(b4, rcC s, 45)]) (y12.setCell ⟨b0, 0, none⟩ (.slice s3 k3 p3))) := K12.out.setCell 0 b0 _ #[.slice s3 k3 p3] _ rfl 0 _ rfl
          go_wp2_with (first
            | ((with_reducible refine gen_world (y12.setCell ⟨b0, 0, none⟩ (.slice s3 k3 p3)) (Ct w (.slice s3 k3 p3) (.slice none 0 0) (O ++ [s]) [] (bsU b0 b1 b2 b3 (.slice s3 k3 p3) 0 0 a ++ [(b4, rcC s, 45)])) K13.out ?_); intro y13 K14; have d13 := (K14.out.fm.bx 3 _ _ _ rfl).c 0 _ rfl; have f13 := (K14.out.fm.bx 3 _ _ _ rfl).fz 0)
            | ((with_reducible refine gen_world (y13.setCell ⟨b3, 0, none⟩ (.int .i64 ((a : Int) + k))) (Ct w (.slice s3 k3 p3) (.slice none 0 0) (O ++ [s]) [] (bsU b0 b1 b2 b3 (.slice s3 k3 p3) 0 0 ((a : Int) + k) ++ [(b4, rcC s, 45)])) ?_ ?_); exact K14.out.setCell 3 b3 _ #[.int .i64 ((a : Int) + k)] _ rfl 0 _ rfl; intro y15 K15; have e15 := (K15.out.fm.bx 4 _ _ _ rfl).c 1 _ (rcC_ad s); rw [had.out] at e15))
          go_roundw
          case rel => exact ⟨i + 1, a + k, _, _, _, _, rfl, rfl, by simp, ⟨by have := hlt'.out; omega, hak'.out, by have := J.out.2.2.1; simp; omega, by omega, by omega, J3.out⟩, by have h := K15.out.pre; rw [show ((a : Int) + k) = ((a + k : Nat) : Int) by push_cast; rfl] at h; exact h⟩
          case measure => have := hlt'.out; simp [intOf]; omega
      · have hin : (i : Int) = N := by have := J.out.1; omega
        have J2 : Hid (PG = if l.drop a = [] then (O, 0, 0) else ([], 91, (a : Int))) := by
          have h1 := J.out.2.2.2.2.2
          rw [show N.toNat - i = 0 by omega] at h1
          show PG = _
          rw [← h1]
          rfl
        have qi : decide ((i : Int) < N) = false := by simpa using hlt
        have ha := J.out.2.1
        clear hlt hin
        by_cases hend : a < n
        · have qa : ((a : Int) == n) = false := by simp; omega
          have fin : Hid (PS = ([], 91, (a : Int))) := by
            show PS = _
            rw [hPG'.out.2, J2.out, if_neg]
            intro h
            have := congrArg List.length h
            rw [List.length_drop, hnn.out] at this
            simp at this
            omega
          clear ha hend
          go_wp2_with (go_at_call 23; refine (need_no y).mono ?_; rintro e z ⟨rfl, hz⟩; replace hz := hz.symm; subst hz)
          refine leaves_cons (f := 26) (args := #[.pointer (some ⟨b3, 0, none⟩), .pointer (some ⟨b0, 0, none⟩), .pointer (some ⟨b1, 0, none⟩), .pointer (some ⟨b2, 0, none⟩)]) (by simp) (by simp [go_sem]) ?_
          refine (catchU b3 b0 b1 b2 (a : Int) _ _ _ [] _ (K.out.fm.bx 3 _ _ _ rfl) (K.out.fm.bx 0 _ _ _ rfl) (K.out.fm.bx 1 _ _ _ rfl) (K.out.fm.bx 2 _ _ _ rfl) (bsU_ne K.out).1 (bsU_ne K.out).2.1 (bsU_ne K.out).2.2).mono ?_
          rintro e u' w' ⟨rfl, rfl, rfl⟩
          obtain ⟨r1, r2, r3, r4⟩ := K.out.caught 91 (a : Int)
          replace r4 : Hid _ := r4
          rw [fin.out]
          simp [Leaves, settle, results, Tryd.results8, go_sem, r1, r2, r3]
          exact r4
        · have han : a = n := by omega
          have qa : ((a : Int) == n) = true := by simp; omega
          have fin : Hid (PS = (O, 0, 0)) := by
            show PS = _
            rw [hPG'.out.2, J2.out, if_pos (List.drop_eq_nil_of_le (by rw [hnn.out]; omega))]
          obtain ⟨s3, k3, p3, rfl⟩ := K.out.oa.op
          have c0 := (K.out.fm.bx 0 _ _ _ rfl).c 0 _ rfl
          have f0 := (K.out.fm.bx 0 _ _ _ rfl).fz 0
          have L1 : Hid (Ct w (.slice s3 k3 p3) (.slice none 0 0) O [] (bsU b0 b1 b2 b3 (.slice s3 k3 p3) 0 0 a) (y.setCell ⟨b0, 0, none⟩ (.slice s3 k3 p3))) := K.out.setCell 0 b0 _ #[.slice s3 k3 p3] _ rfl 0 _ rfl
          have c1 := (L1.out.fm.bx 1 _ _ _ rfl).c 0 _ rfl
          have f1 := (L1.out.fm.bx 1 _ _ _ rfl).fz 0
          have L2 : Hid (Ct w (.slice s3 k3 p3) (.slice none 0 0) O [] (bsU b0 b1 b2 b3 (.slice s3 k3 p3) 0 0 a) ((y.setCell ⟨b0, 0, none⟩ (.slice s3 k3 p3)).setCell ⟨b1, 0, none⟩ (.int .i64 0))) := L1.out.setCell 1 b1 _ #[.int .i64 0] _ rfl 0 _ rfl
          have c2 := (L2.out.fm.bx 2 _ _ _ rfl).c 0 _ rfl
          have f2 := (L2.out.fm.bx 2 _ _ _ rfl).fz 0
          have L3 : Hid (Ct w (.slice s3 k3 p3) (.slice none 0 0) O [] (bsU b0 b1 b2 b3 (.slice s3 k3 p3) 0 0 a) (((y.setCell ⟨b0, 0, none⟩ (.slice s3 k3 p3)).setCell ⟨b1, 0, none⟩ (.int .i64 0)).setCell ⟨b2, 0, none⟩ (.int .i64 0))) := L2.out.setCell 2 b2 _ #[.int .i64 0] _ rfl 0 _ rfl
          have r1 := (L3.out.fm.bx 0 _ _ _ rfl).c 0 _ rfl
          have r2 := (L3.out.fm.bx 1 _ _ _ rfl).c 0 _ rfl
          have r3 := (L3.out.fm.bx 2 _ _ _ rfl).c 0 _ rfl
          have r4 : Hid (Ct w (.slice s3 k3 p3) (.slice none 0 0) O [] [] (((y.setCell ⟨b0, 0, none⟩ (.slice s3 k3 p3)).setCell ⟨b1, 0, none⟩ (.int .i64 0)).setCell ⟨b2, 0, none⟩ (.int .i64 0))) := L3.out.pre (bs := [])
          clear ha hend
          go_wp2_with (go_at_call 23; refine (need_ok y).mono ?_; rintro e z ⟨rfl, hz⟩; replace hz := hz.symm; subst hz)
          refine leaves_cons (f := 26) (args := #[.pointer (some ⟨b3, 0, none⟩), .pointer (some ⟨b0, 0, none⟩), .pointer (some ⟨b1, 0, none⟩), .pointer (some ⟨b2, 0, none⟩)]) (by simp) (by simp [go_sem]) ?_
          refine (restU _ _ _ _ _).mono ?_
          rintro e u' w' ⟨rfl, rfl, rfl⟩
          rw [fin.out]
          simp [Leaves, settle, results, Tryd.results8, go_sem, r1, r2, r3]
          exact r4
end Go.Proofs.YtoajmicdphffnabDoor
