/- The law: bytes made out of a machine's. -/
import Derived.Test.YtehnhjdjjalifaaGreatDoorQ23
import Derived.Test.YtehnhjdjjalifaaGreatDoorQ19
import Derived.Test.YtehnhjdjjalifaaGreatDoorQ20
namespace Go.Proofs.YtehnhjdjjalifaaGreatDoor
open Go Go.RowKit Go.Shelf
set_option linter.unusedVariables false
set_option maxHeartbeats 4000000
set_option maxRecDepth 20000

def cInt (z : Int) : List Value := [.int .i64 z]
section
variable {H : Type} {enc : TypeId × Value → H} {w : World}
theorem openIn {m : Nat} {cs : List Value} {x : DataW H × List MemPlace} (h : DataW.trod enc Tryz.prog w 0 (fun _ => true) true m 3 cs = some x) : ∃ z : Int, cs = cInt z ∧ (-9223372036854775808 ≤ z ∧ z ≤ 9223372036854775807) := by
  obtain ⟨z, q, _, hw⟩ := DataW.trod_int Tryz.underlying3 h
  subst q
  exact ⟨z, rfl, wf_i64 hw⟩
theorem ints_open {m : Nat} {a : Option Addr} {len cap : Nat} {x : DataW H × List MemPlace} (h : DataW.trod enc Tryz.prog w 0 (fun _ => true) true m 45 [.slice a len cap] = some x) : len ≤ maxLen ∧ len ≤ cap ∧ (a = none → cap = 0) ∧ ∃ l : List Int, l.length = len ∧ LiesL 1 cInt w a l ∧ ∀ z ∈ l, -9223372036854775808 ≤ z ∧ z ≤ 9223372036854775807 := rows_open (s := 1) (c := cInt) Tryz.underlying45 (fun _ => rfl) (by decide) (by kernel_rfl) (fun _ _ _ h => openIn h) h
end
theorem idxI (g o n cap j : Nat) (v : World) (h : j < n) : (Instr.indexAt 45 (.slice (some ⟨g, o, none⟩) n cap) (.int .i64 (j : Int))).run Tryz.prog v = .ok (.pointer (some ⟨g, o + j, none⟩)) v := by
  have := idxP (g := g) (off := o) (len := n) (cap := cap) Tryz.underlying45 (s := 1) (by kernel_rfl) .i64 j v h
  rwa [Nat.mul_one] at this
theorem and1i (a : Int) : ∃ q : Nat, q < 2 ∧ bits .and .i64 a 1 = (q : Int) := by
  refine ⟨(BitVec.ofInt 64 a &&& BitVec.ofInt 64 1).toNat, ?_, ?_⟩
  · rw [BitVec.toNat_and]
    have : (BitVec.ofInt 64 a).toNat &&& (BitVec.ofInt 64 1).toNat ≤ (BitVec.ofInt 64 1).toNat := Nat.and_le_right
    have e : (BitVec.ofInt 64 1).toNat = 1 := by decide
    omega
  · show IntKind.i64.wrap ((BitVec.ofInt 64 a &&& BitVec.ofInt 64 1).toNat : Int) = _
    rw [BitVec.toNat_and]
    have : (BitVec.ofInt 64 a).toNat &&& (BitVec.ofInt 64 1).toNat ≤ (BitVec.ofInt 64 1).toNat := Nat.and_le_right
    have e : (BitVec.ofInt 64 1).toNat = 1 := by decide
    rw [IntKind.wrap_i64]
    omega
theorem made_big (w : World) (C : Array Value) (s : Bd) (hs : Hid (BL w C s)) (hR : (s.ram.length : Int) ≤ 9223372036854775807) (hO : (s.rom.length : Int) ≤ 9223372036854775807) (si : Option Addr) (ni ci : Nat) (st : Option Addr) (nt ct : Nat) (h : 2147483647 < s.ram.length ∨ 2147483647 < s.rom.length) :
    Calls Tryz.prog 5 #[.agg C, .slice si ni ci, .slice st nt ct] w fun e w' => e = .returned (.bool true) ∧ Below w.heap.size w w' := by
  obtain ⟨sR, cR, sO, cO, hCe, _, _⟩ := hs.out.c
  have hfC : Hid (C.size = 35 ∧ C.all (·.oneCell') = true) := BL.facts hs.out
  obtain ⟨nR, hnR⟩ : ∃ z, s.ram.length = z := ⟨_, rfl⟩
  obtain ⟨nO, hnO⟩ : ∃ z, s.rom.length = z := ⟨_, rfl⟩
  have hc : Hid (C[32]? = some (.slice sR nR cR) ∧ C[33]? = some (.slice sO nO cO)) := by
    rw [hCe, hnR, hnO]
    exact ⟨rfl, rfl⟩
  rw [hnR] at hR
  rw [hnO] at hO
  rw [hnR, hnO] at h
  clear hCe hs hfC hnR hnO
  by_cases h1 : 2147483647 < nR
  · have d1 : decide ((2147483647 : Int) < (nR : Int)) = true := decide_eq_true (by omega)
    have d1' : decide (2147483647 < nR) = true := decide_eq_true (by omega)
    clear h h1
    go_enter Tryz.func5, Tryz.ntmps5
    go_wp2_with ((with_reducible refine gen_world (w.alloc (.cells C 34)) (Fm w [(w.heap.size, C, 34)]) ?_ ?_); exact Fm.one w _ _; intro y0 K0; have c32 := (K0.out.bx 0 _ _ _ rfl).c 32 _ hc.out.1; have c33 := (K0.out.bx 0 _ _ _ rfl).c 33 _ hc.out.2)
    go_ret
    exact ⟨rfl, K0.out.low⟩
  · have h2 : 2147483647 < nO := by omega
    have d1 : decide ((2147483647 : Int) < (nR : Int)) = false := decide_eq_false (by omega)
    have d1' : decide (2147483647 < nR) = false := decide_eq_false (by omega)
    have d2 : decide ((2147483647 : Int) < (nO : Int)) = true := decide_eq_true (by omega)
    have d2' : decide (2147483647 < nO) = true := decide_eq_true (by omega)
    clear h h1 h2
    go_enter Tryz.func5, Tryz.ntmps5
    go_wp2_with ((with_reducible refine gen_world (w.alloc (.cells C 34)) (Fm w [(w.heap.size, C, 34)]) ?_ ?_); exact Fm.one w _ _; intro y0 K0; have c32 := (K0.out.bx 0 _ _ _ rfl).c 32 _ hc.out.1; have c33 := (K0.out.bx 0 _ _ _ rfl).c 33 _ hc.out.2)
    go_ret
    exact ⟨rfl, K0.out.low⟩
theorem made_no (w : World) (tb : Hid (Tbs w)) (C : Array Value) (s : Bd) (hs : Hid (BL w C s)) (hR : (s.ram.length : Int) ≤ 9223372036854775807) (hO : (s.rom.length : Int) ≤ 9223372036854775807) (si : Option Addr) (ni ci : Nat) (st : Option Addr) (nt ct : Nat) (h1 : s.ram.length ≤ 2147483647) (h2 : s.rom.length ≤ 2147483647) (hA : chkB s ≠ 0) :
    Calls Tryz.prog 5 #[.agg C, .slice si ni ci, .slice st nt ct] w fun e w' => e = .returned (.bool true) ∧ Below w.heap.size w w' := by
  have hAw : Hid (∀ y, Below w.heap.size w y → Calls Tryz.prog 10 #[] y fun e w' => e = .returned (.bool true) ∧ Below y.heap.size y w') := fun y hy => awake_any y (tb.out.below hy)
  have hRs : Hid (∀ y, Below w.heap.size w y → Calls Tryz.prog 9 #[.agg C] y fun e w' => e = .returned (.tuple #[.slice none 0 0, .int .i64 212]) ∧ Below y.heap.size y w') := fun y hy => (rsave_any y C s (hs.out.below hy) hR hO).mono fun e w' k => by
    rcases k with ⟨k, _⟩ | ⟨_, e1, k⟩
    · exact absurd k hA
    · exact ⟨e1, k.out⟩
  obtain ⟨sR, cR, sO, cO, hCe, _, _⟩ := hs.out.c
  have hfC : Hid (C.size = 35 ∧ C.all (·.oneCell') = true) := BL.facts hs.out
  obtain ⟨nR, hnR⟩ : ∃ z, s.ram.length = z := ⟨_, rfl⟩
  obtain ⟨nO, hnO⟩ : ∃ z, s.rom.length = z := ⟨_, rfl⟩
  have hc : Hid (C[32]? = some (.slice sR nR cR) ∧ C[33]? = some (.slice sO nO cO)) := by
    rw [hCe, hnR, hnO]
    exact ⟨rfl, rfl⟩
  rw [hnR] at hR
  rw [hnO] at hO
  rw [hnR] at h1
  rw [hnO] at h2
  have d1 : decide ((2147483647 : Int) < (nR : Int)) = false := decide_eq_false (by omega)
  have d1' : decide (2147483647 < nR) = false := decide_eq_false (by omega)
  have d2 : decide ((2147483647 : Int) < (nO : Int)) = false := decide_eq_false (by omega)
  have d2' : decide (2147483647 < nO) = false := decide_eq_false (by omega)
  clear tb hs hR hO hCe hnR hnO h1 h2 hA
  go_enter Tryz.func5, Tryz.ntmps5
  go_wp2_with (first
    | (go_at_call 10; refine (hAw.out y1 K1.out).mono ?_; rintro e y2 ⟨rfl, H⟩; have K2 : Hid (Below w.heap.size w y2) := K1.out.trans (H.mono K1.out.size); clear H)
    | ((with_reducible refine at_load rtBd w.heap.size C ?_ ?_ (.tmp 3) ?_ ?_ ?_ ?_); exact K0.out.bx 0 _ _ _ rfl; exact hfC.out.1; kernel_rfl; rfl; rfl)
    | (go_at_call 9; refine (hRs.out y0 K0.out.low).mono ?_; rintro e y1 ⟨rfl, H⟩; have K1 : Hid (Below w.heap.size w y1) := K0.out.low.trans (H.mono K0.out.low.size); clear H)
    | ((with_reducible refine gen_world (w.alloc (.cells C 34)) (Fm w [(w.heap.size, C, 34)]) ?_ ?_); exact Fm.one w _ _; intro y0 K0; have c32 := (K0.out.bx 0 _ _ _ rfl).c 32 _ hc.out.1; have c33 := (K0.out.bx 0 _ _ _ rfl).c 33 _ hc.out.2))
  go_ret
  exact ⟨rfl, K2.out⟩
theorem made_yes (w : World) (tb : Hid (Tbs w)) (C : Array Value) (s : Bd) (hs : Hid (BL w C s)) (hR : (s.ram.length : Int) ≤ 9223372036854775807) (hO : (s.rom.length : Int) ≤ 9223372036854775807) (si : Option Addr) (ci : Nat) (p : List Int) (hp : Hid (LiesL 1 cInt w si p)) (st : Option Addr) (ct : Nat) (t : List UInt8) (ht : Hid (LB w st t)) (hnp : (p.length : Int) ≤ 9223372036854775807) (hnt : (t.length : Int) ≤ 9223372036854775807) (h1 : s.ram.length ≤ 2147483647) (h2 : s.rom.length ≤ 2147483647) (hA : chkB s = 0) :
    Calls Tryz.prog 5 #[.agg C, .slice si p.length ci, .slice st t.length ct] w fun e w' => e = .returned (.bool true) ∧ Below w.heap.size w w' := by
  have hAw : Hid (∀ y, Below w.heap.size w y → Calls Tryz.prog 10 #[] y fun e w' => e = .returned (.bool true) ∧ Below y.heap.size y w') := fun y hy => awake_any y (tb.out.below hy)
  have hfit := (chk_fit hs.out.ok hA).1
  obtain ⟨m, hm⟩ : ∃ m, (savB s).length = m + 8 := ⟨75 + s.ram.length + 500, by rw [sav_len s hfit.ok.r, hfit.rom]; omega⟩
  have hm1 : 63 ≤ m ∧ m ≤ 70000 := by
    have := sav_len s hfit.ok.r
    rw [hfit.rom] at this
    have := hfit.ram
    omega
  have hRs : Hid (∀ y, Below w.heap.size w y → Calls Tryz.prog 9 #[.agg C] y fun e w' => ∃ sp cap, e = .returned (.tuple #[.slice sp (m + 8) cap, .int .i64 0]) ∧ Hid (Below y.heap.size y w' ∧ OwnL 5 1 cB y.heap.size w' (.slice sp (m + 8) cap) (savB s))) := fun y hy => (rsave_any y C s (hs.out.below hy) hR hO).mono fun e w' k => by
    rcases k with ⟨_, v, e1, k⟩ | ⟨k, _⟩
    · obtain ⟨sp, cap, hv, _⟩ := k.out.own.open kByte.len
      rw [hm] at hv
      subst hv
      exact ⟨sp, cap, e1, k.out.low, k.out.own⟩
    · exact absurd hA k
  obtain ⟨P, hP⟩ : ∃ z, savB s = z := ⟨_, rfl⟩
  rw [hP] at hRs hm
  obtain ⟨ni, hni⟩ : ∃ z, p.length = z := ⟨_, rfl⟩
  obtain ⟨nt, hnt'⟩ : ∃ z, t.length = z := ⟨_, rfl⟩
  rw [hni] at hnp ⊢
  rw [hnt'] at hnt ⊢
  have ln : Hid (p.length = ni ∧ t.length = nt) := ⟨hni, hnt'⟩
  have hPm : Hid (P.length = m + 8) := hm
  have im : (m : Int) ≤ 70000 := by omega
  have im0 : ((m : Int) == 0) = false := by rw [beq_eq_false_iff_ne]; omega
  have wm : ((m : Int) + 8) - 8 = (m : Int) := by omega
  have hm2 : Hid (63 ≤ m ∧ m ≤ 70000) := hm1
  obtain ⟨sR, cR, sO, cO, hCe, _, _⟩ := hs.out.c
  have hfC : Hid (C.size = 35 ∧ C.all (·.oneCell') = true) := BL.facts hs.out
  obtain ⟨nR, hnR⟩ : ∃ z, s.ram.length = z := ⟨_, rfl⟩
  obtain ⟨nO, hnO⟩ : ∃ z, s.rom.length = z := ⟨_, rfl⟩
  have hc : Hid (C[32]? = some (.slice sR nR cR) ∧ C[33]? = some (.slice sO nO cO)) := by
    rw [hCe, hnR, hnO]
    exact ⟨rfl, rfl⟩
  rw [hnR] at hR
  rw [hnO] at hO
  rw [hnR] at h1
  rw [hnO] at h2
  have d1 : decide ((2147483647 : Int) < (nR : Int)) = false := decide_eq_false (by omega)
  have d1' : decide (2147483647 < nR) = false := decide_eq_false (by omega)
  have d2 : decide ((2147483647 : Int) < (nO : Int)) = false := decide_eq_false (by omega)
  have d2' : decide (2147483647 < nO) = false := decide_eq_false (by omega)
  clear hs hR hO hCe hnR hnO h1 h2 hA hfit hP hni hnt' hm
  go_enter Tryz.func5, Tryz.ntmps5
  go_wp2_with (first
    | ((with_reducible refine at_load rtBd w.heap.size C ?_ ?_ (.tmp 3) ?_ ?_ ?_ ?_); exact K0.out.bx 0 _ _ _ rfl; exact hfC.out.1; kernel_rfl; rfl; rfl)
    | (go_at_call 9; refine (hRs.out y0 K0.out.low).mono ?_; rintro e y1 ⟨sp, kP, rfl, H⟩; obtain ⟨g, hg⟩ := own_some H.out.2 (by rw [hPm.out]; omega); subst hg; have K1 : Hid (Ry w [(w.heap.size, C)] [(.slice (some ⟨g, 0, none⟩) (m + 8) kP, P)] y1 ∧ P.length = m + 8) := ⟨((Ry.nil w).box (b := w.heap.size) (cs := C) K0.out.low (K0.out.bx 0 _ _ _ rfl)).row H.out.1 H.out.2, hPm.out⟩; clear H)
    | ((with_reducible refine gen_world (w.alloc (.cells C 34)) (Fm w [(w.heap.size, C, 34)]) ?_ ?_); exact Fm.one w _ _; intro y0 K0; have c32 := (K0.out.bx 0 _ _ _ rfl).c 32 _ hc.out.1; have c33 := (K0.out.bx 0 _ _ _ rfl).c 33 _ hc.out.2))
  clear K0 c32 c33
  go_loopw [10, 11] (fun iv kv wz => ∃ (i : Nat) (x : List UInt8) (u : World), u = wz ∧ i ≤ 8 ∧ iv = .int .i64 (i : Int) ∧ Hid (Ry w [(w.heap.size, C)] [(.slice (some ⟨g, 0, none⟩) (m + 8) kP, x)] u ∧ x.length = m + 8)) (fun iv _ _ => (8 - intOf iv).toNat)
  case atStart => exact ⟨0, P, y1, rfl, Nat.zero_le _, rfl, K1⟩
  case round =>
    obtain ⟨i, x, u, rfl, hi, rfl, K0⟩ := hrel
    clear K1
    have hx : Hid (x.length = m + 8) := K0.out.2
    have ii : (i : Int) ≤ 8 := by omega
    have hm1 := hm2.out
    by_cases c1 : i < ni
    · by_cases c2 : i < nt
      · by_cases c3 : i < 8
        · have e1 : (i : Int) < (ni : Int) := by omega
          have e2 : (i : Int) < (nt : Int) := by omega
          have e3 : (i : Int) < 8 := by omega
          have hi8 : Hid (i < 8) := c3
          obtain ⟨gi, oi, hsi, hpc⟩ := hp.out.below K0.out.1.low i (p.getD i 0) (by rw [List.getD_eq_getElem?_getD, List.getElem?_eq_getElem (by rw [ln.out.1]; exact c1)]; rfl)
          subst hsi
          obtain ⟨z, hz⟩ : ∃ z, p.getD i 0 = z := ⟨_, rfl⟩
          rw [hz, Nat.mul_one] at hpc
          have pc := hpc 0 _ rfl
          rw [Nat.add_zero] at pc
          obtain ⟨gt, ot, hst⟩ := lb_some ht.out (by rw [ln.out.2]; omega)
          subst hst
          have tc := lb_at (ht.out.below K0.out.1.low) i (by rw [ln.out.2]; exact c2)
          obtain ⟨b0, hb0⟩ : ∃ z, (t.getD i 0).toNat = z := ⟨_, rfl⟩
          rw [hb0] at tc
          have ib : (b0 : Int) < 256 := by rw [← hb0]; have := UInt8.toNat_lt (t.getD i 0); omega
          have ixp := fun v => idxI gi oi ni ci i v c1
          have ixt := fun v => idxB .i64 gt ot nt ct i v c2
          obtain ⟨q, hq, hand⟩ := and20 z
          obtain ⟨k, hk⟩ : ∃ z, q % m = z := ⟨_, rfl⟩
          have hkP : k < m := by rw [← hk]; exact Nat.mod_lt _ (by omega)
          have hrem : Int.tmod (q : Int) (m : Int) = (k : Int) := by rw [← hk]; exact (Int.tmod_eq_emod_of_nonneg (by omega)).trans (by omega)
          obtain ⟨r, hr, hand1⟩ := and1i z
          obtain ⟨k2, hk2⟩ : ∃ z, k % 59 = z := ⟨_, rfl⟩
          have hk2P : k2 < 59 := by rw [← hk2]; exact Nat.mod_lt _ (by decide)
          have hrem2 : Int.tmod (k : Int) 59 = (k2 : Int) := by rw [← hk2]; exact (Int.tmod_eq_emod_of_nonneg (by omega)).trans (by omega)
          obtain ⟨k4, hk4⟩ : ∃ z, 4 + k2 = z := ⟨_, rfl⟩
          have q4 : 4 + (k2 : Int) = (k4 : Int) := by omega
          have q4' : (k2 : Int) + 4 = (k4 : Int) := by omega
          have iq : (q : Int) < 1048576 := by omega
          have ik : (k : Int) < (m : Int) := by omega
          have ik2 : (k2 : Int) < 59 := by omega
          have ik4 : (k4 : Int) < (m : Int) := by omega
          have hKs : k < m + 8 ∧ k4 < m + 8 := ⟨by omega, by omega⟩
          clear hq hk hr hk2 hk2P hz hpc hkP hk4
          by_cases c5 : (r : Int) = 1
          · have q5 : ((r : Int) == 1) = true := by rw [c5]; rfl
            go_upto_region 13 with (fail)
            have hKl : k4 < x.length := by have := K0.out.2; omega
            have cx0 := lb_at (own_lies (K0.out.1.own 0 _ _ rfl)).1 k4 hKl
            obtain ⟨x0, hx0⟩ : ∃ z, (x.getD k4 0).toNat = z := ⟨_, rfl⟩
            rw [hx0, Nat.zero_add] at cx0
            obtain ⟨x2, hx2⟩ : ∃ z, (x.getD k4 0 ^^^ t.getD i 0).toNat = z := ⟨_, rfl⟩
            have wx : bits .xor .u8 (x0 : Int) (b0 : Int) = (x2 : Int) := by rw [← hx0, ← hx2, ← hb0]; exact xor8 _ _
            have ixx : (x0 : Int) < 256 := by rw [← hx0]; have := UInt8.toNat_lt (x.getD k4 0); omega
            have ixk := fun v => idxB .i64 g 0 (m + 8) kP k4 v (by omega)
            simp only [Nat.zero_add] at ixk
            have H : Hid (∀ q, Ry w [(w.heap.size, C)] [(.slice (some ⟨g, 0, none⟩) (m + 8) kP, x.set k4 (x.getD k4 0 ^^^ t.getD i 0))] ((u.drewN q).setCell ⟨g, k4, none⟩ (.int .u8 (x2 : Int))) ∧ (x.set k4 (x.getD k4 0 ^^^ t.getD i 0)).length = m + 8) := fun q => ⟨by have h := ((K0.out.1.below (below_drewN (Below.refl _ u) (n := q))).set 0 g (m + 8) kP x rfl k4 hKl (x.getD k4 0 ^^^ t.getD i 0)).1; rw [show byV (x.getD k4 0 ^^^ t.getD i 0) = .int .u8 (x2 : Int) by rw [← hx2]; rfl] at h; exact h, by rw [List.length_set]; exact K0.out.2⟩
            have fz := (K0.out.1.set 0 g (m + 8) kP x rfl k4 hKl 0).2.2
            clear hKl hx0 hx2 hb0 K0 hx
            refine region_class_tail 12 (fun y => ∃ n, y = u.drewN n) (by kernel_rfl) (by kernel_rfl) ⟨1, rfl⟩ ?_
            dsimp only [List.take, List.drop]
            repeat (go_big_quiet_step (fail))
            refine wpQuiet_nil ?_
            rintro _ ⟨nq, rfl⟩
            have Hq : Hid _ := H.out nq
            clear H
            go_wp2
            go_roundw
            case rel => exact ⟨i + 1, _, _, rfl, hi8.out, by simp, Hq⟩
            case measure => have := hi8.out; simp [intOf]; omega
          · have q5 : ((r : Int) == 1) = false := by rw [beq_eq_false_iff_ne]; exact c5
            go_upto_region 13 with (fail)
            have hKl : k < x.length := by have := K0.out.2; omega
            have cx0 := lb_at (own_lies (K0.out.1.own 0 _ _ rfl)).1 k hKl
            obtain ⟨x0, hx0⟩ : ∃ z, (x.getD k 0).toNat = z := ⟨_, rfl⟩
            rw [hx0, Nat.zero_add] at cx0
            obtain ⟨x2, hx2⟩ : ∃ z, (x.getD k 0 ^^^ t.getD i 0).toNat = z := ⟨_, rfl⟩
            have wx : bits .xor .u8 (x0 : Int) (b0 : Int) = (x2 : Int) := by rw [← hx0, ← hx2, ← hb0]; exact xor8 _ _
            have ixx : (x0 : Int) < 256 := by rw [← hx0]; have := UInt8.toNat_lt (x.getD k 0); omega
            have ixk := fun v => idxB .i64 g 0 (m + 8) kP k v (by omega)
            simp only [Nat.zero_add] at ixk
            have H : Hid (∀ q, Ry w [(w.heap.size, C)] [(.slice (some ⟨g, 0, none⟩) (m + 8) kP, x.set k (x.getD k 0 ^^^ t.getD i 0))] ((u.drewN q).setCell ⟨g, k, none⟩ (.int .u8 (x2 : Int))) ∧ (x.set k (x.getD k 0 ^^^ t.getD i 0)).length = m + 8) := fun q => ⟨by have h := ((K0.out.1.below (below_drewN (Below.refl _ u) (n := q))).set 0 g (m + 8) kP x rfl k hKl (x.getD k 0 ^^^ t.getD i 0)).1; rw [show byV (x.getD k 0 ^^^ t.getD i 0) = .int .u8 (x2 : Int) by rw [← hx2]; rfl] at h; exact h, by rw [List.length_set]; exact K0.out.2⟩
            have fz := (K0.out.1.set 0 g (m + 8) kP x rfl k hKl 0).2.2
            clear hKl hx0 hx2 hb0 K0 hx
            refine region_class_tail 12 (fun y => ∃ n, y = u.drewN n) (by kernel_rfl) (by kernel_rfl) ⟨1, rfl⟩ ?_
            dsimp only [List.take, List.drop]
            repeat (go_big_quiet_step (fail))
            refine wpQuiet_nil ?_
            rintro _ ⟨nq, rfl⟩
            have Hq : Hid _ := H.out nq
            clear H
            go_wp2
            go_roundw
            case rel => exact ⟨i + 1, _, _, rfl, hi8.out, by simp, Hq⟩
            case measure => have := hi8.out; simp [intOf]; omega
        · have e1 : (i : Int) < (ni : Int) := by omega
          have e2 : (i : Int) < (nt : Int) := by omega
          have e3 : decide ((i : Int) < 8) = false := decide_eq_false (by omega)
          have e3' : decide (i < 8) = false := decide_eq_false (by omega)
          have sl8 := slUp g (m + 8) kP m (by have := (own_lies (K0.out.1.own 0 _ _ rfl)).2.2; omega) (by have := (own_lies (K0.out.1.own 0 _ _ rfl)).2.2; omega)
          obtain ⟨SU, hSU⟩ : ∃ z, sumB (x.take m) = z := ⟨_, rfl⟩
          have iSU : SU < 18446744073709551616 := by rw [← hSU]; exact sumB_lt _
          have hSum : Hid (Calls Tryz.prog 14 #[.slice (some ⟨g, 0, none⟩) m kP] u fun e w' => e = .returned (.int .u64 (SU : Int)) ∧ Below u.heap.size u w') := by
            rw [← hSU]
            exact rsum_any u _ m kP (x.take m) (fun j a hj => (own_lies (K0.out.1.own 0 _ _ rfl)).1 j a (by rw [List.getElem?_take] at hj; split at hj; exact hj; cases hj)) (by show _ = _; rw [List.length_take, K0.out.2]; omega) (by omega)
          clear hSU hx
          go_wp2_with (go_at_call 14; refine hSum.out.mono ?_; rintro e u1 ⟨rfl, H⟩; have K1 : Hid (Ry w [(w.heap.size, C)] [(.slice (some ⟨g, 0, none⟩) (m + 8) kP, x)] u1 ∧ x.length = m + 8) := ⟨K0.out.1.below H, K0.out.2⟩; clear H)
          go_loopw [12, 13] (fun hv jv wz => ∃ (j h : Nat) (x9 : List UInt8) (u9 : World), u9 = wz ∧ j ≤ 8 ∧ hv = .int .u64 (h : Int) ∧ jv = .int .i64 (j : Int) ∧ Hid (h < 18446744073709551616) ∧ Hid (Ry w [(w.heap.size, C)] [(.slice (some ⟨g, 0, none⟩) (m + 8) kP, x9)] u9 ∧ x9.length = m + 8)) (fun _ jv _ => (8 - intOf jv).toNat)
          case atStart => exact ⟨0, SU, x, u1, rfl, Nat.zero_le _, rfl, rfl, iSU, K1⟩
          case round =>
            obtain ⟨j, h, x9, u9, rfl, hj, rfl, rfl, Hh, K⟩ := hrel
            clear K1 K0 hSum sl8
            by_cases hlt : j < 8
            · have hji : (j : Int) < 8 := by omega
              have hlt' : Hid (j < 8) := hlt
              have hh8 := Hh.out
              have ih : (h : Int) < 18446744073709551616 := by omega
              obtain ⟨r, hr⟩ : ∃ t, h % 256 = t := ⟨_, rfl⟩
              obtain ⟨q9, hq9⟩ : ∃ t, h / 256 = t := ⟨_, rfl⟩
              have wr1 : (h : Int) % 256 = (r : Int) := by omega
              have wr2 : Int.tmod (h : Int) 256 = (r : Int) := by rw [Int.tmod_eq_emod_of_nonneg (by omega)]; exact wr1
              have wq1 : (h : Int) / 256 = (q9 : Int) := by omega
              have wq2 : Int.tdiv (h : Int) 256 = (q9 : Int) := by rw [Int.tdiv_eq_ediv_of_nonneg (by omega)]; exact wq1
              have ir : (r : Int) < 256 := by omega
              have iq9 : (q9 : Int) < 18446744073709551616 := by omega
              have Hq9 : Hid (q9 < 18446744073709551616) := by show _ < _; omega
              obtain ⟨mj, hmj⟩ : ∃ t, m + j = t := ⟨_, rfl⟩
              have qmj : (m : Int) + (j : Int) = (mj : Int) := by omega
              have imj : (mj : Int) < (m : Int) + 8 := by omega
              have ix := fun v => idxB .i64 g 0 (m + 8) kP mj v (by omega)
              simp only [Nat.zero_add] at ix
              obtain ⟨H, ⟨y0, k0⟩, z0⟩ := K.out.1.set 0 g (m + 8) kP x9 rfl mj (by have := K.out.2; omega) (UInt8.ofNat r)
              rw [show byV (UInt8.ofNat r) = .int .u8 (r : Int) by unfold byV; rw [UInt8.toNat_ofNat', Nat.mod_eq_of_lt (by omega)]] at H
              have H' : Hid (Ry w [(w.heap.size, C)] [(.slice (some ⟨g, 0, none⟩) (m + 8) kP, x9.set mj (UInt8.ofNat r))] (u9.setCell ⟨g, mj, none⟩ (.int .u8 (r : Int))) ∧ (x9.set mj (UInt8.ofNat r)).length = m + 8) := ⟨H, by rw [List.length_set]; exact K.out.2⟩
              clear hj hlt H K hh8 hr hq9 hmj Hh
              go_wp2
              go_roundw
              case rel => exact ⟨j + 1, q9, _, _, rfl, hlt'.out, rfl, by simp, Hq9, H'⟩
              case measure => have := hlt'.out; simp [intOf]; omega
            · have hje : j = 8 := by omega
              subst j
              clear hj hlt
              obtain ⟨S, E, okS, hS1, hS2, hU⟩ := load_uni x9 (by have := K.out.2; omega)
              obtain ⟨nR, hnR⟩ : ∃ z, S.ram.length = z := ⟨_, rfl⟩
              obtain ⟨nO, hnO⟩ : ∃ z, S.rom.length = z := ⟨_, rfl⟩
              rw [hnR, hnO] at hU
              have ok : Hid (BdOk S) := okS
              have hL : Hid (∀ y, Ry w [(w.heap.size, C)] [(.slice (some ⟨g, 0, none⟩) (m + 8) kP, x9)] y → Calls Tryz.prog 11 #[.slice (some ⟨g, 0, none⟩) (m + 8) kP] y (LU S E nR nO y)) := fun y hy => by
                have hl := own_lies (hy.own 0 _ _ rfl)
                have := pload_any y (tb.out.below hy.low) _ kP x9 hl.1 (by omega) (by omega)
                rw [hl.2.1] at this
                exact this.mono (hU y)
              have hD : Hid (∀ y (Bs : List (Nat × Array Value)) (L : List (Value × List UInt8)), Ry w Bs ((.slice (some ⟨g, 0, none⟩) (m + 8) kP, x9) :: L) y → Calls Tryz.prog 12 #[.slice (some ⟨g, 0, none⟩) (m + 8) kP] y (LU S E nR nO y)) := fun y Bs L hy => by
                have hl := own_lies (hy.own 0 _ _ rfl)
                have := rload_any y _ kP x9 hl.1 (by omega) (by omega)
                rw [hl.2.1] at this
                exact this.mono (hU y)
              have hSm : Hid (∀ y A B, BL y A S → BL y B S → Calls Tryz.prog 13 #[.agg A, .agg B] y fun e w' => e = .returned (.bool true) ∧ Below y.heap.size y w') := fun y A B h1 h2 => same08_true y A B S h1 h2 hS1 hS2
              have qE : (E != E) = false := by simp
              have qE2 : (E == E) = true := by simp
              clear hU hnR hnO okS hS1 hS2
              go_upto_region 21 with (first
                | (go_at_call 11; refine (hL.out u9 K.out.1).mono ?_; rintro e v0 ⟨M1, sR1, kR1, sO1, kO1, rfl, H⟩; have m1 : Hid (M1 = bCs S (.slice sR1 nR kR1) (.slice sO1 nO kO1) ∧ M1.size = 35 ∧ M1.all (·.oneCell') = true) := ⟨H.out.1, by rw [H.out.1]; rfl, by rw [H.out.1]; exact bCs_one _ _ _ _ _ _ _⟩; have N0 : Hid (Ry w [(w.heap.size, C)] [(.slice (some ⟨g, 0, none⟩) (m + 8) kP, x9), (.slice sR1 nR kR1, S.ram), (.slice sO1 nO kO1, S.rom)] v0) := K.out.1.two H.out.2.1 H.out.2.2.1 H.out.2.2.2.1 H.out.2.2.2.2; clear H)
                | ((with_reducible refine gen_world (v0.alloc (.cells #[.int .u16 0, .int .u16 0, .int .u16 0, .int .u16 0, .int .u16 0, .int .u16 0, .int .u16 0, .int .u16 0, .int .u16 0, .int .u16 0, .int .u16 0, .int .u16 0, .int .u16 0, .int .u16 0, .int .u16 0, .int .u16 0, .int .u8 0, .bool false, .int .u8 0, .int .u8 0, .int .u8 0, .bool false, .bool false, .int .u8 0, .int .u8 0, .int .u8 0, .int .i64 0, .int .i64 0, .bool false, .int .i64 0, .int .u8 0, .bool false, .slice none 0 0, .slice none 0 0, .int .u64 0] 34)) (fun z => Ry w [(w.heap.size, C)] [(.slice (some ⟨g, 0, none⟩) (m + 8) kP, x9), (.slice sR1 nR kR1, S.ram), (.slice sO1 nO kO1, S.rom)] z ∧ Bx z v0.heap.size zBd 34 ∧ (∀ (i bq : Nat) (c1 : Array Value), ([(w.heap.size, C)] : List (Nat × Array Value))[i]? = some (bq, c1) → bq < v0.heap.size) ∧ w.heap.size ≤ v0.heap.size) ?_ ?_); exact ⟨N0.out.below (below1 v0 _), one_bxL _ _ _, fun i bq c1 e => heap_lt (N0.out.bx i bq c1 e), N0.out.low.size⟩; intro v1 N1)
                | ((with_reducible refine at_st rtBd v0.heap.size zBd M1 ?_ ?_ ?_ ?_ (.tmp 14) (.tmp 104) ?_ ?_ ?_ ?_ ?_); exact N1.out.2.1; rfl; exact m1.out.2.1; exact m1.out.2.2; rfl; rfl; rfl; rfl; intro v2 h9; have N2 : Hid (Ry w [(w.heap.size, C), (v0.heap.size, M1)] [(.slice (some ⟨g, 0, none⟩) (m + 8) kP, x9), (.slice sR1 nR kR1, S.ram), (.slice sO1 nO kO1, S.rom)] v2) := N1.out.1.put _ _ N1.out.2.2.2 N1.out.2.1 (fun i bq c1 e => Nat.ne_of_lt (N1.out.2.2.1 i bq c1 e)) _ h9.out; clear h9))
              generalize v0.heap.size = b1 at N2 ⊢
              clear N0 N1
              go_upto_region 22 with (first
                | (go_at_call 12; refine (hD.out v2 _ _ N2.out).mono ?_; rintro e v3 ⟨M2, sR2, kR2, sO2, kO2, rfl, H⟩; have m2 : Hid (M2 = bCs S (.slice sR2 nR kR2) (.slice sO2 nO kO2) ∧ M2.size = 35 ∧ M2.all (·.oneCell') = true) := ⟨H.out.1, by rw [H.out.1]; rfl, by rw [H.out.1]; exact bCs_one _ _ _ _ _ _ _⟩; have N3 : Hid (Ry w [(w.heap.size, C), (b1, M1)] [(.slice (some ⟨g, 0, none⟩) (m + 8) kP, x9), (.slice sR1 nR kR1, S.ram), (.slice sO1 nO kO1, S.rom), (.slice sR2 nR kR2, S.ram), (.slice sO2 nO kO2, S.rom)] v3) := N2.out.two H.out.2.1 H.out.2.2.1 H.out.2.2.2.1 H.out.2.2.2.2; clear H)
                | ((with_reducible refine gen_world (v3.alloc (.cells #[.int .u16 0, .int .u16 0, .int .u16 0, .int .u16 0, .int .u16 0, .int .u16 0, .int .u16 0, .int .u16 0, .int .u16 0, .int .u16 0, .int .u16 0, .int .u16 0, .int .u16 0, .int .u16 0, .int .u16 0, .int .u16 0, .int .u8 0, .bool false, .int .u8 0, .int .u8 0, .int .u8 0, .bool false, .bool false, .int .u8 0, .int .u8 0, .int .u8 0, .int .i64 0, .int .i64 0, .bool false, .int .i64 0, .int .u8 0, .bool false, .slice none 0 0, .slice none 0 0, .int .u64 0] 34)) (fun z => Ry w [(w.heap.size, C), (b1, M1)] [(.slice (some ⟨g, 0, none⟩) (m + 8) kP, x9), (.slice sR1 nR kR1, S.ram), (.slice sO1 nO kO1, S.rom), (.slice sR2 nR kR2, S.ram), (.slice sO2 nO kO2, S.rom)] z ∧ Bx z v3.heap.size zBd 34 ∧ (∀ (i bq : Nat) (c1 : Array Value), ([(w.heap.size, C), (b1, M1)] : List (Nat × Array Value))[i]? = some (bq, c1) → bq < v3.heap.size) ∧ w.heap.size ≤ v3.heap.size) ?_ ?_); exact ⟨N3.out.below (below1 v3 _), one_bxL _ _ _, fun i bq c1 e => heap_lt (N3.out.bx i bq c1 e), N3.out.low.size⟩; intro v4 N4)
                | ((with_reducible refine at_st rtBd v3.heap.size zBd M2 ?_ ?_ ?_ ?_ (.tmp 16) (.tmp 109) ?_ ?_ ?_ ?_ ?_); exact N4.out.2.1; rfl; exact m2.out.2.1; exact m2.out.2.2; rfl; rfl; rfl; rfl; intro v5 h9; have N5 : Hid (Ry w [(w.heap.size, C), (b1, M1), (v3.heap.size, M2)] [(.slice (some ⟨g, 0, none⟩) (m + 8) kP, x9), (.slice sR1 nR kR1, S.ram), (.slice sO1 nO kO1, S.rom), (.slice sR2 nR kR2, S.ram), (.slice sO2 nO kO2, S.rom)] v5) := N4.out.1.put _ _ N4.out.2.2.2 N4.out.2.1 (fun i bq c1 e => Nat.ne_of_lt (N4.out.2.2.1 i bq c1 e)) _ h9.out; clear h9))
              generalize v3.heap.size = b2 at N5 ⊢
              clear N2 N3 N4
              go_wp2_with (first
                | ((with_reducible refine at_load rtBd b1 M1 ?_ ?_ (.tmp 14) ?_ ?_ ?_ ?_); exact N5.out.bx 1 _ _ rfl; exact m1.out.2.1; kernel_rfl; rfl; rfl)
                | ((with_reducible refine at_load rtBd b2 M2 ?_ ?_ (.tmp 16) ?_ ?_ ?_ ?_); exact N5.out.bx 2 _ _ rfl; exact m2.out.2.1; kernel_rfl; rfl; rfl)
                | (go_at_call 10; refine (hAw.out v6 N6.out).mono ?_; rintro e v7 ⟨rfl, H⟩; have N7 : Hid (Below w.heap.size w v7) := N6.out.trans (H.mono N6.out.size); clear H)
                | (go_at_call 13; refine (hSm.out v5 M1 M2 (N5.out.bl ok.out m1.out.1 1 2 rfl rfl) (N5.out.bl ok.out m2.out.1 3 4 rfl rfl)).mono ?_; rintro e v6 ⟨rfl, H⟩; have N6 : Hid (Below w.heap.size w v6) := N5.out.low.trans (H.mono N5.out.low.size); clear H))
              go_ret
              exact ⟨rfl, N7.out⟩
      · have e1 : (i : Int) < (ni : Int) := by omega
        have e2 : decide ((i : Int) < (nt : Int)) = false := decide_eq_false (by omega)
        have e2' : decide (i < nt) = false := decide_eq_false (by omega)
        have sl8 := slUp g (m + 8) kP m (by have := (own_lies (K0.out.1.own 0 _ _ rfl)).2.2; omega) (by have := (own_lies (K0.out.1.own 0 _ _ rfl)).2.2; omega)
        obtain ⟨SU, hSU⟩ : ∃ z, sumB (x.take m) = z := ⟨_, rfl⟩
        have iSU : SU < 18446744073709551616 := by rw [← hSU]; exact sumB_lt _
        have hSum : Hid (Calls Tryz.prog 14 #[.slice (some ⟨g, 0, none⟩) m kP] u fun e w' => e = .returned (.int .u64 (SU : Int)) ∧ Below u.heap.size u w') := by
          rw [← hSU]
          exact rsum_any u _ m kP (x.take m) (fun j a hj => (own_lies (K0.out.1.own 0 _ _ rfl)).1 j a (by rw [List.getElem?_take] at hj; split at hj; exact hj; cases hj)) (by show _ = _; rw [List.length_take, K0.out.2]; omega) (by omega)
        clear hSU hx
        go_wp2_with (go_at_call 14; refine hSum.out.mono ?_; rintro e u1 ⟨rfl, H⟩; have K1 : Hid (Ry w [(w.heap.size, C)] [(.slice (some ⟨g, 0, none⟩) (m + 8) kP, x)] u1 ∧ x.length = m + 8) := ⟨K0.out.1.below H, K0.out.2⟩; clear H)
        go_loopw [12, 13] (fun hv jv wz => ∃ (j h : Nat) (x9 : List UInt8) (u9 : World), u9 = wz ∧ j ≤ 8 ∧ hv = .int .u64 (h : Int) ∧ jv = .int .i64 (j : Int) ∧ Hid (h < 18446744073709551616) ∧ Hid (Ry w [(w.heap.size, C)] [(.slice (some ⟨g, 0, none⟩) (m + 8) kP, x9)] u9 ∧ x9.length = m + 8)) (fun _ jv _ => (8 - intOf jv).toNat)
        case atStart => exact ⟨0, SU, x, u1, rfl, Nat.zero_le _, rfl, rfl, iSU, K1⟩
        case round =>
          obtain ⟨j, h, x9, u9, rfl, hj, rfl, rfl, Hh, K⟩ := hrel
          clear K1 K0 hSum sl8
          by_cases hlt : j < 8
          · have hji : (j : Int) < 8 := by omega
            have hlt' : Hid (j < 8) := hlt
            have hh8 := Hh.out
            have ih : (h : Int) < 18446744073709551616 := by omega
            obtain ⟨r, hr⟩ : ∃ t, h % 256 = t := ⟨_, rfl⟩
            obtain ⟨q9, hq9⟩ : ∃ t, h / 256 = t := ⟨_, rfl⟩
            have wr1 : (h : Int) % 256 = (r : Int) := by omega
            have wr2 : Int.tmod (h : Int) 256 = (r : Int) := by rw [Int.tmod_eq_emod_of_nonneg (by omega)]; exact wr1
            have wq1 : (h : Int) / 256 = (q9 : Int) := by omega
            have wq2 : Int.tdiv (h : Int) 256 = (q9 : Int) := by rw [Int.tdiv_eq_ediv_of_nonneg (by omega)]; exact wq1
            have ir : (r : Int) < 256 := by omega
            have iq9 : (q9 : Int) < 18446744073709551616 := by omega
            have Hq9 : Hid (q9 < 18446744073709551616) := by show _ < _; omega
            obtain ⟨mj, hmj⟩ : ∃ t, m + j = t := ⟨_, rfl⟩
            have qmj : (m : Int) + (j : Int) = (mj : Int) := by omega
            have imj : (mj : Int) < (m : Int) + 8 := by omega
            have ix := fun v => idxB .i64 g 0 (m + 8) kP mj v (by omega)
            simp only [Nat.zero_add] at ix
            obtain ⟨H, ⟨y0, k0⟩, z0⟩ := K.out.1.set 0 g (m + 8) kP x9 rfl mj (by have := K.out.2; omega) (UInt8.ofNat r)
            rw [show byV (UInt8.ofNat r) = .int .u8 (r : Int) by unfold byV; rw [UInt8.toNat_ofNat', Nat.mod_eq_of_lt (by omega)]] at H
            have H' : Hid (Ry w [(w.heap.size, C)] [(.slice (some ⟨g, 0, none⟩) (m + 8) kP, x9.set mj (UInt8.ofNat r))] (u9.setCell ⟨g, mj, none⟩ (.int .u8 (r : Int))) ∧ (x9.set mj (UInt8.ofNat r)).length = m + 8) := ⟨H, by rw [List.length_set]; exact K.out.2⟩
            clear hj hlt H K hh8 hr hq9 hmj Hh
            go_wp2
            go_roundw
            case rel => exact ⟨j + 1, q9, _, _, rfl, hlt'.out, rfl, by simp, Hq9, H'⟩
            case measure => have := hlt'.out; simp [intOf]; omega
          · have hje : j = 8 := by omega
            subst j
            clear hj hlt
            obtain ⟨S, E, okS, hS1, hS2, hU⟩ := load_uni x9 (by have := K.out.2; omega)
            obtain ⟨nR, hnR⟩ : ∃ z, S.ram.length = z := ⟨_, rfl⟩
            obtain ⟨nO, hnO⟩ : ∃ z, S.rom.length = z := ⟨_, rfl⟩
            rw [hnR, hnO] at hU
            have ok : Hid (BdOk S) := okS
            have hL : Hid (∀ y, Ry w [(w.heap.size, C)] [(.slice (some ⟨g, 0, none⟩) (m + 8) kP, x9)] y → Calls Tryz.prog 11 #[.slice (some ⟨g, 0, none⟩) (m + 8) kP] y (LU S E nR nO y)) := fun y hy => by
              have hl := own_lies (hy.own 0 _ _ rfl)
              have := pload_any y (tb.out.below hy.low) _ kP x9 hl.1 (by omega) (by omega)
              rw [hl.2.1] at this
              exact this.mono (hU y)
            have hD : Hid (∀ y (Bs : List (Nat × Array Value)) (L : List (Value × List UInt8)), Ry w Bs ((.slice (some ⟨g, 0, none⟩) (m + 8) kP, x9) :: L) y → Calls Tryz.prog 12 #[.slice (some ⟨g, 0, none⟩) (m + 8) kP] y (LU S E nR nO y)) := fun y Bs L hy => by
              have hl := own_lies (hy.own 0 _ _ rfl)
              have := rload_any y _ kP x9 hl.1 (by omega) (by omega)
              rw [hl.2.1] at this
              exact this.mono (hU y)
            have hSm : Hid (∀ y A B, BL y A S → BL y B S → Calls Tryz.prog 13 #[.agg A, .agg B] y fun e w' => e = .returned (.bool true) ∧ Below y.heap.size y w') := fun y A B h1 h2 => same08_true y A B S h1 h2 hS1 hS2
            have qE : (E != E) = false := by simp
            have qE2 : (E == E) = true := by simp
            clear hU hnR hnO okS hS1 hS2
            go_upto_region 21 with (first
              | (go_at_call 11; refine (hL.out u9 K.out.1).mono ?_; rintro e v0 ⟨M1, sR1, kR1, sO1, kO1, rfl, H⟩; have m1 : Hid (M1 = bCs S (.slice sR1 nR kR1) (.slice sO1 nO kO1) ∧ M1.size = 35 ∧ M1.all (·.oneCell') = true) := ⟨H.out.1, by rw [H.out.1]; rfl, by rw [H.out.1]; exact bCs_one _ _ _ _ _ _ _⟩; have N0 : Hid (Ry w [(w.heap.size, C)] [(.slice (some ⟨g, 0, none⟩) (m + 8) kP, x9), (.slice sR1 nR kR1, S.ram), (.slice sO1 nO kO1, S.rom)] v0) := K.out.1.two H.out.2.1 H.out.2.2.1 H.out.2.2.2.1 H.out.2.2.2.2; clear H)
              | ((with_reducible refine gen_world (v0.alloc (.cells #[.int .u16 0, .int .u16 0, .int .u16 0, .int .u16 0, .int .u16 0, .int .u16 0, .int .u16 0, .int .u16 0, .int .u16 0, .int .u16 0, .int .u16 0, .int .u16 0, .int .u16 0, .int .u16 0, .int .u16 0, .int .u16 0, .int .u8 0, .bool false, .int .u8 0, .int .u8 0, .int .u8 0, .bool false, .bool false, .int .u8 0, .int .u8 0, .int .u8 0, .int .i64 0, .int .i64 0, .bool false, .int .i64 0, .int .u8 0, .bool false, .slice none 0 0, .slice none 0 0, .int .u64 0] 34)) (fun z => Ry w [(w.heap.size, C)] [(.slice (some ⟨g, 0, none⟩) (m + 8) kP, x9), (.slice sR1 nR kR1, S.ram), (.slice sO1 nO kO1, S.rom)] z ∧ Bx z v0.heap.size zBd 34 ∧ (∀ (i bq : Nat) (c1 : Array Value), ([(w.heap.size, C)] : List (Nat × Array Value))[i]? = some (bq, c1) → bq < v0.heap.size) ∧ w.heap.size ≤ v0.heap.size) ?_ ?_); exact ⟨N0.out.below (below1 v0 _), one_bxL _ _ _, fun i bq c1 e => heap_lt (N0.out.bx i bq c1 e), N0.out.low.size⟩; intro v1 N1)
              | ((with_reducible refine at_st rtBd v0.heap.size zBd M1 ?_ ?_ ?_ ?_ (.tmp 14) (.tmp 104) ?_ ?_ ?_ ?_ ?_); exact N1.out.2.1; rfl; exact m1.out.2.1; exact m1.out.2.2; rfl; rfl; rfl; rfl; intro v2 h9; have N2 : Hid (Ry w [(w.heap.size, C), (v0.heap.size, M1)] [(.slice (some ⟨g, 0, none⟩) (m + 8) kP, x9), (.slice sR1 nR kR1, S.ram), (.slice sO1 nO kO1, S.rom)] v2) := N1.out.1.put _ _ N1.out.2.2.2 N1.out.2.1 (fun i bq c1 e => Nat.ne_of_lt (N1.out.2.2.1 i bq c1 e)) _ h9.out; clear h9))
            generalize v0.heap.size = b1 at N2 ⊢
            clear N0 N1
            go_upto_region 22 with (first
              | (go_at_call 12; refine (hD.out v2 _ _ N2.out).mono ?_; rintro e v3 ⟨M2, sR2, kR2, sO2, kO2, rfl, H⟩; have m2 : Hid (M2 = bCs S (.slice sR2 nR kR2) (.slice sO2 nO kO2) ∧ M2.size = 35 ∧ M2.all (·.oneCell') = true) := ⟨H.out.1, by rw [H.out.1]; rfl, by rw [H.out.1]; exact bCs_one _ _ _ _ _ _ _⟩; have N3 : Hid (Ry w [(w.heap.size, C), (b1, M1)] [(.slice (some ⟨g, 0, none⟩) (m + 8) kP, x9), (.slice sR1 nR kR1, S.ram), (.slice sO1 nO kO1, S.rom), (.slice sR2 nR kR2, S.ram), (.slice sO2 nO kO2, S.rom)] v3) := N2.out.two H.out.2.1 H.out.2.2.1 H.out.2.2.2.1 H.out.2.2.2.2; clear H)
              | ((with_reducible refine gen_world (v3.alloc (.cells #[.int .u16 0, .int .u16 0, .int .u16 0, .int .u16 0, .int .u16 0, .int .u16 0, .int .u16 0, .int .u16 0, .int .u16 0, .int .u16 0, .int .u16 0, .int .u16 0, .int .u16 0, .int .u16 0, .int .u16 0, .int .u16 0, .int .u8 0, .bool false, .int .u8 0, .int .u8 0, .int .u8 0, .bool false, .bool false, .int .u8 0, .int .u8 0, .int .u8 0, .int .i64 0, .int .i64 0, .bool false, .int .i64 0, .int .u8 0, .bool false, .slice none 0 0, .slice none 0 0, .int .u64 0] 34)) (fun z => Ry w [(w.heap.size, C), (b1, M1)] [(.slice (some ⟨g, 0, none⟩) (m + 8) kP, x9), (.slice sR1 nR kR1, S.ram), (.slice sO1 nO kO1, S.rom), (.slice sR2 nR kR2, S.ram), (.slice sO2 nO kO2, S.rom)] z ∧ Bx z v3.heap.size zBd 34 ∧ (∀ (i bq : Nat) (c1 : Array Value), ([(w.heap.size, C), (b1, M1)] : List (Nat × Array Value))[i]? = some (bq, c1) → bq < v3.heap.size) ∧ w.heap.size ≤ v3.heap.size) ?_ ?_); exact ⟨N3.out.below (below1 v3 _), one_bxL _ _ _, fun i bq c1 e => heap_lt (N3.out.bx i bq c1 e), N3.out.low.size⟩; intro v4 N4)
              | ((with_reducible refine at_st rtBd v3.heap.size zBd M2 ?_ ?_ ?_ ?_ (.tmp 16) (.tmp 109) ?_ ?_ ?_ ?_ ?_); exact N4.out.2.1; rfl; exact m2.out.2.1; exact m2.out.2.2; rfl; rfl; rfl; rfl; intro v5 h9; have N5 : Hid (Ry w [(w.heap.size, C), (b1, M1), (v3.heap.size, M2)] [(.slice (some ⟨g, 0, none⟩) (m + 8) kP, x9), (.slice sR1 nR kR1, S.ram), (.slice sO1 nO kO1, S.rom), (.slice sR2 nR kR2, S.ram), (.slice sO2 nO kO2, S.rom)] v5) := N4.out.1.put _ _ N4.out.2.2.2 N4.out.2.1 (fun i bq c1 e => Nat.ne_of_lt (N4.out.2.2.1 i bq c1 e)) _ h9.out; clear h9))
            generalize v3.heap.size = b2 at N5 ⊢
            clear N2 N3 N4
            go_wp2_with (first
              | ((with_reducible refine at_load rtBd b1 M1 ?_ ?_ (.tmp 14) ?_ ?_ ?_ ?_); exact N5.out.bx 1 _ _ rfl; exact m1.out.2.1; kernel_rfl; rfl; rfl)
              | ((with_reducible refine at_load rtBd b2 M2 ?_ ?_ (.tmp 16) ?_ ?_ ?_ ?_); exact N5.out.bx 2 _ _ rfl; exact m2.out.2.1; kernel_rfl; rfl; rfl)
              | (go_at_call 10; refine (hAw.out v6 N6.out).mono ?_; rintro e v7 ⟨rfl, H⟩; have N7 : Hid (Below w.heap.size w v7) := N6.out.trans (H.mono N6.out.size); clear H)
              | (go_at_call 13; refine (hSm.out v5 M1 M2 (N5.out.bl ok.out m1.out.1 1 2 rfl rfl) (N5.out.bl ok.out m2.out.1 3 4 rfl rfl)).mono ?_; rintro e v6 ⟨rfl, H⟩; have N6 : Hid (Below w.heap.size w v6) := N5.out.low.trans (H.mono N5.out.low.size); clear H))
            go_ret
            exact ⟨rfl, N7.out⟩
    · have e1 : decide ((i : Int) < (ni : Int)) = false := decide_eq_false (by omega)
      have e1' : decide (i < ni) = false := decide_eq_false (by omega)
      have sl8 := slUp g (m + 8) kP m (by have := (own_lies (K0.out.1.own 0 _ _ rfl)).2.2; omega) (by have := (own_lies (K0.out.1.own 0 _ _ rfl)).2.2; omega)
      obtain ⟨SU, hSU⟩ : ∃ z, sumB (x.take m) = z := ⟨_, rfl⟩
      have iSU : SU < 18446744073709551616 := by rw [← hSU]; exact sumB_lt _
      have hSum : Hid (Calls Tryz.prog 14 #[.slice (some ⟨g, 0, none⟩) m kP] u fun e w' => e = .returned (.int .u64 (SU : Int)) ∧ Below u.heap.size u w') := by
        rw [← hSU]
        exact rsum_any u _ m kP (x.take m) (fun j a hj => (own_lies (K0.out.1.own 0 _ _ rfl)).1 j a (by rw [List.getElem?_take] at hj; split at hj; exact hj; cases hj)) (by show _ = _; rw [List.length_take, K0.out.2]; omega) (by omega)
      clear hSU hx
      go_wp2_with (go_at_call 14; refine hSum.out.mono ?_; rintro e u1 ⟨rfl, H⟩; have K1 : Hid (Ry w [(w.heap.size, C)] [(.slice (some ⟨g, 0, none⟩) (m + 8) kP, x)] u1 ∧ x.length = m + 8) := ⟨K0.out.1.below H, K0.out.2⟩; clear H)
      go_loopw [12, 13] (fun hv jv wz => ∃ (j h : Nat) (x9 : List UInt8) (u9 : World), u9 = wz ∧ j ≤ 8 ∧ hv = .int .u64 (h : Int) ∧ jv = .int .i64 (j : Int) ∧ Hid (h < 18446744073709551616) ∧ Hid (Ry w [(w.heap.size, C)] [(.slice (some ⟨g, 0, none⟩) (m + 8) kP, x9)] u9 ∧ x9.length = m + 8)) (fun _ jv _ => (8 - intOf jv).toNat)
      case atStart => exact ⟨0, SU, x, u1, rfl, Nat.zero_le _, rfl, rfl, iSU, K1⟩
      case round =>
        obtain ⟨j, h, x9, u9, rfl, hj, rfl, rfl, Hh, K⟩ := hrel
        clear K1 K0 hSum sl8
        by_cases hlt : j < 8
        · have hji : (j : Int) < 8 := by omega
          have hlt' : Hid (j < 8) := hlt
          have hh8 := Hh.out
          have ih : (h : Int) < 18446744073709551616 := by omega
          obtain ⟨r, hr⟩ : ∃ t, h % 256 = t := ⟨_, rfl⟩
          obtain ⟨q9, hq9⟩ : ∃ t, h / 256 = t := ⟨_, rfl⟩
          have wr1 : (h : Int) % 256 = (r : Int) := by omega
          have wr2 : Int.tmod (h : Int) 256 = (r : Int) := by rw [Int.tmod_eq_emod_of_nonneg (by omega)]; exact wr1
          have wq1 : (h : Int) / 256 = (q9 : Int) := by omega
          have wq2 : Int.tdiv (h : Int) 256 = (q9 : Int) := by rw [Int.tdiv_eq_ediv_of_nonneg (by omega)]; exact wq1
          have ir : (r : Int) < 256 := by omega
          have iq9 : (q9 : Int) < 18446744073709551616 := by omega
          have Hq9 : Hid (q9 < 18446744073709551616) := by show _ < _; omega
          obtain ⟨mj, hmj⟩ : ∃ t, m + j = t := ⟨_, rfl⟩
          have qmj : (m : Int) + (j : Int) = (mj : Int) := by omega
          have imj : (mj : Int) < (m : Int) + 8 := by omega
          have ix := fun v => idxB .i64 g 0 (m + 8) kP mj v (by omega)
          simp only [Nat.zero_add] at ix
          obtain ⟨H, ⟨y0, k0⟩, z0⟩ := K.out.1.set 0 g (m + 8) kP x9 rfl mj (by have := K.out.2; omega) (UInt8.ofNat r)
          rw [show byV (UInt8.ofNat r) = .int .u8 (r : Int) by unfold byV; rw [UInt8.toNat_ofNat', Nat.mod_eq_of_lt (by omega)]] at H
          have H' : Hid (Ry w [(w.heap.size, C)] [(.slice (some ⟨g, 0, none⟩) (m + 8) kP, x9.set mj (UInt8.ofNat r))] (u9.setCell ⟨g, mj, none⟩ (.int .u8 (r : Int))) ∧ (x9.set mj (UInt8.ofNat r)).length = m + 8) := ⟨H, by rw [List.length_set]; exact K.out.2⟩
          clear hj hlt H K hh8 hr hq9 hmj Hh
          go_wp2
          go_roundw
          case rel => exact ⟨j + 1, q9, _, _, rfl, hlt'.out, rfl, by simp, Hq9, H'⟩
          case measure => have := hlt'.out; simp [intOf]; omega
        · have hje : j = 8 := by omega
          subst j
          clear hj hlt
          obtain ⟨S, E, okS, hS1, hS2, hU⟩ := load_uni x9 (by have := K.out.2; omega)
          obtain ⟨nR, hnR⟩ : ∃ z, S.ram.length = z := ⟨_, rfl⟩
          obtain ⟨nO, hnO⟩ : ∃ z, S.rom.length = z := ⟨_, rfl⟩
          rw [hnR, hnO] at hU
          have ok : Hid (BdOk S) := okS
          have hL : Hid (∀ y, Ry w [(w.heap.size, C)] [(.slice (some ⟨g, 0, none⟩) (m + 8) kP, x9)] y → Calls Tryz.prog 11 #[.slice (some ⟨g, 0, none⟩) (m + 8) kP] y (LU S E nR nO y)) := fun y hy => by
            have hl := own_lies (hy.own 0 _ _ rfl)
            have := pload_any y (tb.out.below hy.low) _ kP x9 hl.1 (by omega) (by omega)
            rw [hl.2.1] at this
            exact this.mono (hU y)
          have hD : Hid (∀ y (Bs : List (Nat × Array Value)) (L : List (Value × List UInt8)), Ry w Bs ((.slice (some ⟨g, 0, none⟩) (m + 8) kP, x9) :: L) y → Calls Tryz.prog 12 #[.slice (some ⟨g, 0, none⟩) (m + 8) kP] y (LU S E nR nO y)) := fun y Bs L hy => by
            have hl := own_lies (hy.own 0 _ _ rfl)
            have := rload_any y _ kP x9 hl.1 (by omega) (by omega)
            rw [hl.2.1] at this
            exact this.mono (hU y)
          have hSm : Hid (∀ y A B, BL y A S → BL y B S → Calls Tryz.prog 13 #[.agg A, .agg B] y fun e w' => e = .returned (.bool true) ∧ Below y.heap.size y w') := fun y A B h1 h2 => same08_true y A B S h1 h2 hS1 hS2
          have qE : (E != E) = false := by simp
          have qE2 : (E == E) = true := by simp
          clear hU hnR hnO okS hS1 hS2
          go_upto_region 21 with (first
            | (go_at_call 11; refine (hL.out u9 K.out.1).mono ?_; rintro e v0 ⟨M1, sR1, kR1, sO1, kO1, rfl, H⟩; have m1 : Hid (M1 = bCs S (.slice sR1 nR kR1) (.slice sO1 nO kO1) ∧ M1.size = 35 ∧ M1.all (·.oneCell') = true) := ⟨H.out.1, by rw [H.out.1]; rfl, by rw [H.out.1]; exact bCs_one _ _ _ _ _ _ _⟩; have N0 : Hid (Ry w [(w.heap.size, C)] [(.slice (some ⟨g, 0, none⟩) (m + 8) kP, x9), (.slice sR1 nR kR1, S.ram), (.slice sO1 nO kO1, S.rom)] v0) := K.out.1.two H.out.2.1 H.out.2.2.1 H.out.2.2.2.1 H.out.2.2.2.2; clear H)
            | ((with_reducible refine gen_world (v0.alloc (.cells #[.int .u16 0, .int .u16 0, .int .u16 0, .int .u16 0, .int .u16 0, .int .u16 0, .int .u16 0, .int .u16 0, .int .u16 0, .int .u16 0, .int .u16 0, .int .u16 0, .int .u16 0, .int .u16 0, .int .u16 0, .int .u16 0, .int .u8 0, .bool false, .int .u8 0, .int .u8 0, .int .u8 0, .bool false, .bool false, .int .u8 0, .int .u8 0, .int .u8 0, .int .i64 0, .int .i64 0, .bool false, .int .i64 0, .int .u8 0, .bool false, .slice none 0 0, .slice none 0 0, .int .u64 0] 34)) (fun z => Ry w [(w.heap.size, C)] [(.slice (some ⟨g, 0, none⟩) (m + 8) kP, x9), (.slice sR1 nR kR1, S.ram), (.slice sO1 nO kO1, S.rom)] z ∧ Bx z v0.heap.size zBd 34 ∧ (∀ (i bq : Nat) (c1 : Array Value), ([(w.heap.size, C)] : List (Nat × Array Value))[i]? = some (bq, c1) → bq < v0.heap.size) ∧ w.heap.size ≤ v0.heap.size) ?_ ?_); exact ⟨N0.out.below (below1 v0 _), one_bxL _ _ _, fun i bq c1 e => heap_lt (N0.out.bx i bq c1 e), N0.out.low.size⟩; intro v1 N1)
            | ((with_reducible refine at_st rtBd v0.heap.size zBd M1 ?_ ?_ ?_ ?_ (.tmp 14) (.tmp 104) ?_ ?_ ?_ ?_ ?_); exact N1.out.2.1; rfl; exact m1.out.2.1; exact m1.out.2.2; rfl; rfl; rfl; rfl; intro v2 h9; have N2 : Hid (Ry w [(w.heap.size, C), (v0.heap.size, M1)] [(.slice (some ⟨g, 0, none⟩) (m + 8) kP, x9), (.slice sR1 nR kR1, S.ram), (.slice sO1 nO kO1, S.rom)] v2) := N1.out.1.put _ _ N1.out.2.2.2 N1.out.2.1 (fun i bq c1 e => Nat.ne_of_lt (N1.out.2.2.1 i bq c1 e)) _ h9.out; clear h9))
          generalize v0.heap.size = b1 at N2 ⊢
          clear N0 N1
          go_upto_region 22 with (first
            | (go_at_call 12; refine (hD.out v2 _ _ N2.out).mono ?_; rintro e v3 ⟨M2, sR2, kR2, sO2, kO2, rfl, H⟩; have m2 : Hid (M2 = bCs S (.slice sR2 nR kR2) (.slice sO2 nO kO2) ∧ M2.size = 35 ∧ M2.all (·.oneCell') = true) := ⟨H.out.1, by rw [H.out.1]; rfl, by rw [H.out.1]; exact bCs_one _ _ _ _ _ _ _⟩; have N3 : Hid (Ry w [(w.heap.size, C), (b1, M1)] [(.slice (some ⟨g, 0, none⟩) (m + 8) kP, x9), (.slice sR1 nR kR1, S.ram), (.slice sO1 nO kO1, S.rom), (.slice sR2 nR kR2, S.ram), (.slice sO2 nO kO2, S.rom)] v3) := N2.out.two H.out.2.1 H.out.2.2.1 H.out.2.2.2.1 H.out.2.2.2.2; clear H)
            | ((with_reducible refine gen_world (v3.alloc (.cells #[.int .u16 0, .int .u16 0, .int .u16 0, .int .u16 0, .int .u16 0, .int .u16 0, .int .u16 0, .int .u16 0, .int .u16 0, .int .u16 0, .int .u16 0, .int .u16 0, .int .u16 0, .int .u16 0, .int .u16 0, .int .u16 0, .int .u8 0, .bool false, .int .u8 0, .int .u8 0, .int .u8 0, .bool false, .bool false, .int .u8 0, .int .u8 0, .int .u8 0, .int .i64 0, .int .i64 0, .bool false, .int .i64 0, .int .u8 0, .bool false, .slice none 0 0, .slice none 0 0, .int .u64 0] 34)) (fun z => Ry w [(w.heap.size, C), (b1, M1)] [(.slice (some ⟨g, 0, none⟩) (m + 8) kP, x9), (.slice sR1 nR kR1, S.ram), (.slice sO1 nO kO1, S.rom), (.slice sR2 nR kR2, S.ram), (.slice sO2 nO kO2, S.rom)] z ∧ Bx z v3.heap.size zBd 34 ∧ (∀ (i bq : Nat) (c1 : Array Value), ([(w.heap.size, C), (b1, M1)] : List (Nat × Array Value))[i]? = some (bq, c1) → bq < v3.heap.size) ∧ w.heap.size ≤ v3.heap.size) ?_ ?_); exact ⟨N3.out.below (below1 v3 _), one_bxL _ _ _, fun i bq c1 e => heap_lt (N3.out.bx i bq c1 e), N3.out.low.size⟩; intro v4 N4)
            | ((with_reducible refine at_st rtBd v3.heap.size zBd M2 ?_ ?_ ?_ ?_ (.tmp 16) (.tmp 109) ?_ ?_ ?_ ?_ ?_); exact N4.out.2.1; rfl; exact m2.out.2.1; exact m2.out.2.2; rfl; rfl; rfl; rfl; intro v5 h9; have N5 : Hid (Ry w [(w.heap.size, C), (b1, M1), (v3.heap.size, M2)] [(.slice (some ⟨g, 0, none⟩) (m + 8) kP, x9), (.slice sR1 nR kR1, S.ram), (.slice sO1 nO kO1, S.rom), (.slice sR2 nR kR2, S.ram), (.slice sO2 nO kO2, S.rom)] v5) := N4.out.1.put _ _ N4.out.2.2.2 N4.out.2.1 (fun i bq c1 e => Nat.ne_of_lt (N4.out.2.2.1 i bq c1 e)) _ h9.out; clear h9))
          generalize v3.heap.size = b2 at N5 ⊢
          clear N2 N3 N4
          go_wp2_with (first
            | ((with_reducible refine at_load rtBd b1 M1 ?_ ?_ (.tmp 14) ?_ ?_ ?_ ?_); exact N5.out.bx 1 _ _ rfl; exact m1.out.2.1; kernel_rfl; rfl; rfl)
            | ((with_reducible refine at_load rtBd b2 M2 ?_ ?_ (.tmp 16) ?_ ?_ ?_ ?_); exact N5.out.bx 2 _ _ rfl; exact m2.out.2.1; kernel_rfl; rfl; rfl)
            | (go_at_call 10; refine (hAw.out v6 N6.out).mono ?_; rintro e v7 ⟨rfl, H⟩; have N7 : Hid (Below w.heap.size w v7) := N6.out.trans (H.mono N6.out.size); clear H)
            | (go_at_call 13; refine (hSm.out v5 M1 M2 (N5.out.bl ok.out m1.out.1 1 2 rfl rfl) (N5.out.bl ok.out m2.out.1 3 4 rfl rfl)).mono ?_; rintro e v6 ⟨rfl, H⟩; have N6 : Hid (Below w.heap.size w v6) := N5.out.low.trans (H.mono N5.out.low.size); clear H))
          go_ret
          exact ⟨rfl, N7.out⟩
theorem made_walk (w : World) (tb : Hid (Tbs w)) (C : Array Value) (s : Bd) (hs : Hid (BL w C s)) (hR : (s.ram.length : Int) ≤ 9223372036854775807) (hO : (s.rom.length : Int) ≤ 9223372036854775807) (si : Option Addr) (ci : Nat) (p : List Int) (hp : Hid (LiesL 1 cInt w si p)) (hnp : (p.length : Int) ≤ 9223372036854775807) (st : Option Addr) (ct : Nat) (t : List UInt8) (ht : Hid (LB w st t)) (hnt : (t.length : Int) ≤ 9223372036854775807) :
    Calls Tryz.prog 5 #[.agg C, .slice si p.length ci, .slice st t.length ct] w fun e w' => e = .returned (.bool true) ∧ Below w.heap.size w w' := by
  by_cases h1 : s.ram.length ≤ 2147483647
  · by_cases h2 : s.rom.length ≤ 2147483647
    · by_cases hA : chkB s = 0
      · exact made_yes w tb C s hs hR hO si ci p hp st ct t ht hnp hnt h1 h2 hA
      · exact made_no w tb C s hs hR hO si _ ci st _ ct h1 h2 hA
    · exact made_big w C s hs hR hO si _ ci st _ ct (by omega)
  · exact made_big w C s hs hR hO si _ ci st _ ct (by omega)
end Go.Proofs.YtehnhjdjjalifaaGreatDoor
