/- Dot by dot: the statement's walk. -/
import Derived.Test.YtiplellfpagclaaD9
namespace Go.Proofs.Ytiplellfpagclaa
open Go Go.RowKit Go.Shelf
set_option linter.unusedVariables false
set_option maxHeartbeats 1000000
set_option maxRecDepth 20000

/-- Whether one of the first k is so. -/
def anyS (f : Nat → Bool) : Nat → Bool
  | 0 => false
  | k + 1 => anyS f k || f k
theorem any_iff (f : Nat → Bool) (k : Nat) : anyS f k = true ↔ ∃ m, m < k ∧ f m = true := by
  induction k with
  | zero => simp [anyS]
  | succ k ih =>
    unfold anyS
    rw [Bool.or_eq_true, ih]
    constructor
    · rintro (⟨m, h1, h2⟩ | h)
      · exact ⟨m, by omega, h2⟩
      · exact ⟨k, by omega, h⟩
    · rintro ⟨m, h1, h2⟩
      rcases Nat.lt_or_ge m k with h | h
      · exact .inl ⟨m, h, h2⟩
      · obtain rfl : m = k := by omega
        exact .inr h2
/-- Whether a stroke has a dot on there. -/
def mineN (x y : UInt8) (rows : List UInt8) (m : Nat) : Bool := hitS x.toNat y.toNat rows m (8 * rows.length)
theorem out_gon (x y : UInt8) (rows p : List UInt8) : anyS (fun m => mineN x y rows m && bitP p m) 2048 = gon x y rows p := by
  rw [Bool.eq_iff_iff, any_iff]
  unfold gon
  rw [gone_iff]
  constructor
  · rintro ⟨m, h1, h2⟩
    rw [Bool.and_eq_true] at h2
    obtain ⟨t, h3, h4⟩ := (hit_iff ..).1 h2.1
    exact ⟨t, m, h3, h4, h2.2⟩
  · rintro ⟨t, n, h1, h2, h3⟩
    exact ⟨n, plc_lt h2, by rw [Bool.and_eq_true]; exact ⟨(hit_iff ..).2 ⟨t, h1, h2⟩, h3⟩⟩
theorem gon_any (x y : UInt8) (rows p : List UInt8) (h : gon x y rows p = true) : anyS (mineN x y rows) 2048 = true := by
  unfold gon at h
  rw [gone_iff] at h
  obtain ⟨t, n, h1, h2, h3⟩ := h
  exact (any_iff _ _).2 ⟨n, plc_lt h2, (hit_iff ..).2 ⟨t, h1, h2⟩⟩
theorem drw_twice (x y : UInt8) (rows p : List UInt8) (hp : p.length = 256) : drw x y rows (drw x y rows p) = p := draw_twice _ _ _ _ hp _
theorem drw_bit (x y : UInt8) (rows p : List UInt8) (hp : p.length = 256) (m : Nat) : bitP (drw x y rows p) m = xor (bitP p m) (mineN x y rows m) := draw_bit _ _ _ _ hp _ _
theorem and7 (e : Nat) (h : e < 8) : bits .and .i64 (e : Int) 7 = (e : Int) := by
  have : ∀ i : Fin 8, bits .and .i64 (i.val : Int) 7 = (i.val : Int) := by decide +kernel
  exact this ⟨e, h⟩
/-- The first page's dot at a place, as the statement reads it. -/
theorem dot_read (p : List UInt8) (i j : Nat) : bitP p (64 * j + i) = (p.getD (8 * j + i / 8) 0 &&& mk (i % 8) != 0) := by
  unfold bitP
  rw [show (64 * j + i) / 8 = 8 * j + i / 8 by omega, show (64 * j + i) % 8 = i % 8 by omega]
/-- What the rounds keep. -/
structure Dt (w : World) (x y : UInt8) (sR : Option Addr) (n cR : Nat) (s1 : Option Addr) (q : List UInt8) (u : World) : Prop where
  f : Fm w [(w.heap.size, #[.int .u8 (x.toNat : Int), .int .u8 (y.toNat : Int), .slice sR n cR], 24)] u
  l : LB u s1 q
theorem Dt.below {w : World} {x y : UInt8} {sR : Option Addr} {n cR : Nat} {s1 : Option Addr} {q : List UInt8} {u v : World} (h : Dt w x y sR n cR s1 q u) (hb : Below u.heap.size u v) : Dt w x y sR n cR s1 q v := ⟨h.f.below hb, h.l.below hb⟩
theorem Dt.drew {w : World} {x y : UInt8} {sR : Option Addr} {n cR : Nat} {s1 : Option Addr} {q : List UInt8} {u : World} (h : Dt w x y sR n cR s1 q u) {k : Nat} : Dt w x y sR n cR s1 q (u.drewN k) := h.below (below_drewN (Below.refl _ _))
theorem dots_walk (w : World) (sp sR : Option Addr) (cap cR : Nat) (p rows : List UInt8) (x y : UInt8) (hl : Hid (LB w sp p)) (hR : Hid (LB w sR rows)) :
    Calls Try.prog 3 #[.slice sp p.length cap, .agg (stC x y (.slice sR rows.length cR))] w fun e w' => e = .returned (.bool true) ∧ Below w.heap.size w w' := by
  obtain ⟨np, hn⟩ : ∃ n, p.length = n := ⟨_, rfl⟩
  obtain ⟨n, hm⟩ : ∃ n, rows.length = n := ⟨_, rfl⟩
  rw [hn, hm]
  unfold stC
  by_cases h1 : 2147483647 < np
  · have q1 : decide ((2147483647 : Int) < (np : Int)) = true := by simp; omega
    clear h1 hn hm
    go_enter Try.func3, Try.ntmps3
    go_wp2
    go_ret
    exact ⟨rfl, below1 w _⟩
  have q1 : decide ((2147483647 : Int) < (np : Int)) = false := by simp; omega
  by_cases h2 : 2147483647 < n
  · have q2 : decide ((2147483647 : Int) < (n : Int)) = true := by simp; omega
    clear h1 hn hm h2
    go_enter Try.func3, Try.ntmps3
    go_wp2
    go_ret
    exact ⟨rfl, below1 w _⟩
  have q2 : decide ((2147483647 : Int) < (n : Int)) = false := by simp; omega
  have b1 : (np : Int) ≤ 2147483647 := by omega
  have b2 : (n : Int) ≤ 2147483647 := by omega
  by_cases h3 : 2147483647 < np + n
  · have q3 : decide ((2147483647 : Int) < (np : Int) + (n : Int)) = true := by simp; omega
    clear h1 hn hm h2 h3
    go_enter Try.func3, Try.ntmps3
    go_wp2
    go_ret
    exact ⟨rfl, below1 w _⟩
  have q3 : decide ((2147483647 : Int) < (np : Int) + (n : Int)) = false := by simp; omega
  have K0 : Hid (Fm w [(w.heap.size, #[.int .u8 (x.toNat : Int), .int .u8 (y.toNat : Int), .slice sR n cR], 24)] (w.alloc (.cells #[.int .u8 (x.toNat : Int), .int .u8 (y.toNat : Int), .slice sR n cR] 24))) := Fm.one w _ _
  by_cases h4 : np = 256 ∧ n ≤ 15
  · obtain ⟨rfl, h15⟩ := h4
    have q5 : decide ((15 : Int) < (n : Int)) = false := by simp; omega
    have dA : Hid (∀ (u : World) (s : Option Addr) (c : Nat) (q : List UInt8), q.length = 256 → Below w.heap.size w u → LB u s q → Calls Try.prog 6 #[.slice s 256 c, .int .u8 (x.toNat : Int), .int .u8 (y.toNat : Int), .slice sR n cR] u (DrE u (drw x y rows q) (gon x y rows q))) := fun u s c q hq hb hs => by
      have := draw_ok u s sR c cR q rows x y hq (by omega) hs (hR.out.below hb)
      rw [hm] at this
      exact this
    have wA : Hid (∀ (u : World) (s : Option Addr) (c : Nat), Below w.heap.size w u → LB u s (drw x y rows p) → Calls Try.prog 8 #[.slice s 256 c, .agg #[.int .u8 (x.toNat : Int), .int .u8 (y.toNat : Int), .slice sR n cR]] u fun e w' => e = .returned (.bool (gon x y rows (drw x y rows p))) ∧ Below u.heap.size u w') := fun u s c hb hs => by
      have := went_any u s sR c cR (drw x y rows p) rows x y (by rw [drw_len]; exact hn) (by omega) hs (hR.out.below hb)
      rw [hm] at this
      unfold gon
      rw [hm]
      exact this
    have hS : Hid (∀ (u : World) (s1 : Option Addr) (c1 : Nat), LB u s1 (drw x y rows (drw x y rows p)) → Below w.heap.size w u → Calls Try.prog 7 #[.slice s1 256 c1, .slice sp 256 cap] u fun e w' => e = .returned (.bool true) ∧ Below u.heap.size u w') := fun u s1 c1 k1 hb => by
      rw [drw_twice _ _ _ _ hn] at k1
      have := same_any u s1 sp c1 cap p p k1 (hl.out.below hb) (by omega) (by omega)
      rw [decide_eq_true rfl, hn] at this
      exact this
    have hp : Hid (p.length = 256) := hn
    have hq : Hid ((drw x y rows p).length = 256) := (drw_len ..).trans hn
    have hrn : Hid (rows.length = n ∧ n ≤ 15) := ⟨hm, h15⟩
    have hout : Hid (anyS (fun m => mineN x y rows m && bitP p m) 2048 = gon x y rows p) := out_gon x y rows p
    have hany : Hid (gon x y rows (drw x y rows p) = true → anyS (mineN x y rows) 2048 = true) := gon_any x y rows _
    have ax := and63 x
    have ay := and31 y
    obtain ⟨X', hX'⟩ : ∃ X', x.toNat % 64 = X' := ⟨_, rfl⟩
    obtain ⟨Y', hY'⟩ : ∃ X', y.toNat % 32 = X' := ⟨_, rfl⟩
    rw [hX'] at ax
    rw [hY'] at ay
    have hmx : Hid (x.toNat % 64 = X' ∧ y.toNat % 32 = Y') := ⟨hX', hY'⟩
    have xi : (X' : Int) < 64 := by omega
    have yi : (Y' : Int) < 32 := by omega
    have n15 : (n : Int) ≤ 15 := by omega
    clear h1 hn hm h2 h3 h15 hX' hY' q1
    go_enter Try.func3, Try.ntmps3
    go_wp2_with (go_at_call 6; refine (dA.out _ sp cap p hp.out K0.out.low (hl.out.below K0.out.low)).mono ?_; rintro e y1 ⟨s1, k1, rfl, H1⟩; have F1 : Hid (Dt w x y sR n cR s1 (drw x y rows p) y1) := ⟨K0.out.below H1.out.2, H1.out.1⟩; have d12 := (F1.out.f.bx 0 _ _ _ rfl).c 2 (.slice sR n cR) rfl)
    clear d12
    go_loopw [8, 9, 10] (fun ov av jv wz => ∃ (j : Nat) (u : World), u = wz ∧ j ≤ 32 ∧ ov = .bool (anyS (fun m => mineN x y rows m && bitP p m) (64 * j)) ∧ av = .bool (anyS (mineN x y rows) (64 * j)) ∧ jv = .int .i64 (j : Int) ∧ Hid (Dt w x y sR n cR s1 (drw x y rows p) u)) (fun _ _ jv _ => (32 - intOf jv).toNat)
    case atStart => exact ⟨0, y1, rfl, Nat.zero_le _, rfl, rfl, rfl, F1⟩
    case round =>
      obtain ⟨j, u, rfl, hj, rfl, rfl, rfl, K⟩ := hrel
      clear F1 H1 K0
      by_cases hj32 : j < 32
      · have hji : (j : Int) < 32 := by omega
        have hj' : Hid (j < 32) := hj32
        clear hj hj32
        obtain ⟨o0, ho0⟩ : ∃ o, anyS (fun m => mineN x y rows m && bitP p m) (64 * j) = o := ⟨_, rfl⟩
        obtain ⟨a0, ha0⟩ : ∃ o, anyS (mineN x y rows) (64 * j) = o := ⟨_, rfl⟩
        rw [ho0, ha0]
        replace ho0 : Hid (anyS (fun m => mineN x y rows m && bitP p m) (64 * j) = o0) := ho0
        replace ha0 : Hid (anyS (mineN x y rows) (64 * j) = a0) := ha0
        go_wp2
        go_loopw [8, 9, 11] (fun ov av iv wz => ∃ (i : Nat) (v : World) (o1 a1 : Bool), v = wz ∧ i ≤ 64 ∧ ov = .bool o1 ∧ av = .bool a1 ∧ iv = .int .i64 (i : Int) ∧ Hid (Dt w x y sR n cR s1 (drw x y rows p) v) ∧ Hid (anyS (fun m => mineN x y rows m && bitP p m) (64 * j + i) = o1 ∧ anyS (mineN x y rows) (64 * j + i) = a1)) (fun _ _ iv _ => (64 - intOf iv).toNat)
        case atStart => exact ⟨0, u, o0, a0, rfl, Nat.zero_le _, rfl, rfl, rfl, K, ⟨ho0.out, ha0.out⟩⟩
        case round =>
          obtain ⟨i, v, o1, a1, rfl, hi, rfl, rfl, rfl, L, hoa⟩ := hrel
          clear K
          by_cases hi64 : i < 64
          · have hii : (i : Int) < 64 := by omega
            obtain ⟨gp, op, rfl⟩ := lb_some hl.out (by have := hp.out; omega)
            obtain ⟨gq, oq, rfl⟩ := lb_some L.out.l (by have := hq.out; omega)
            have hj := hj'.out
            have cP := lb_at (hl.out.below L.out.f.low) (8 * j + i / 8) (by have := hp.out; omega)
            have cQ := lb_at L.out.l (8 * j + i / 8) (by have := hq.out; omega)
            have wP := dot_read p i j
            have wQ := dot_read (drw x y rows p) i j
            have hx := drw_bit x y rows p hp.out (64 * j + i)
            have s8 := sh8 (i % 8) (Nat.mod_lt _ (by decide))
            have ip := fun v => idxB .i64 gp op 256 cap (8 * j + i / 8) v (by omega)
            have iq := fun v => idxB .i64 gq oq 256 k1 (8 * j + i / 8) v (by omega)
            have hmn : Hid (mineN x y rows (64 * j + i) = mineS x.toNat y.toNat rows i j) := mine_hit x.toNat y.toNat rows i j hi64 hj
            have hnx : Hid (anyS (fun m => mineN x y rows m && bitP p m) (64 * j + i + 1) = (o1 || mineN x y rows (64 * j + i) && bitP p (64 * j + i)) ∧ anyS (mineN x y rows) (64 * j + i + 1) = (a1 || mineN x y rows (64 * j + i))) := ⟨by rw [← hoa.out.1]; rfl, by rw [← hoa.out.2]; rfl⟩
            obtain ⟨mi, hmi⟩ : ∃ m, mineN x y rows (64 * j + i) = m := ⟨_, rfl⟩
            rw [hmi] at hx hmn hnx
            obtain ⟨M, hM⟩ : ∃ M, mk (i % 8) = M := ⟨_, rfl⟩
            obtain ⟨A, hA⟩ : ∃ M, p.getD (8 * j + i / 8) 0 = M := ⟨_, rfl⟩
            obtain ⟨B, hB⟩ : ∃ M, (drw x y rows p).getD (8 * j + i / 8) 0 = M := ⟨_, rfl⟩
            rw [hM] at s8 wP wQ
            rw [hA] at cP wP
            rw [hB] at cQ wQ
            have qa := and8 A M
            have qb := and8 B M
            have za := nzero8 (A &&& M)
            have zb := nzero8 (B &&& M)
            rw [← wP] at za
            rw [← wQ, hx] at zb
            obtain ⟨ma, hma⟩ : ∃ z, (A &&& M).toNat = z := ⟨_, rfl⟩
            obtain ⟨mb, hmb⟩ : ∃ z, (B &&& M).toNat = z := ⟨_, rfl⟩
            obtain ⟨a, ha⟩ : ∃ z, A.toNat = z := ⟨_, rfl⟩
            obtain ⟨b, hb⟩ : ∃ z, B.toNat = z := ⟨_, rfl⟩
            obtain ⟨m, hm⟩ : ∃ z, M.toNat = z := ⟨_, rfl⟩
            rw [hma] at qa za
            rw [hmb] at qb zb
            rw [ha, hm] at qa
            rw [hb, hm] at qb
            rw [ha] at cP
            rw [hb] at cQ
            rw [hm] at s8
            obtain ⟨wa, hwa⟩ : ∃ c, bitP p (64 * j + i) = c := ⟨_, rfl⟩
            rw [hwa] at za zb hnx
            have c0 := (L.out.f.bx 0 _ _ _ rfl).c 0 (.int .u8 (x.toNat : Int)) rfl
            have c1 := (L.out.f.bx 0 _ _ _ rfl).c 1 (.int .u8 (y.toNat : Int)) rfl
            have c2 := (L.out.f.bx 0 _ _ _ rfl).c 2 (.slice sR n cR) rfl
            have hi' : Hid (i < 64) := hi64
            clear hj hi hi64 hma hmb ha hb hm hM hA hB wP wQ hx hmi hwa hoa
            unfold mineS at hmn
            rw [hmx.out.1, hmx.out.2, hrn.out.1] at hmn
            obtain ⟨wb, hwb⟩ : ∃ c, (wa ^^ mi) = c := ⟨_, rfl⟩
            rw [hwb] at zb
            have hwb : Hid ((wa ^^ mi) = wb) := hwb
            clear b1 b2 q2 q3 q5
            by_cases t1 : ¬ (Y' ≤ j)
            · have e0 : mi = false := by rw [hmn.out, decide_eq_false t1]; rfl
              subst e0
              have e1 : wa = wb := by have := hwb.out; cases wa <;> cases wb <;> simp at this ⊢
              subst e1
              have e2 : (wa != wa) = false := by simp
              have r1 : decide ((0 : Int) ≤ (j : Int) - (Y' : Int)) = false := by simp; omega
              have r2 : decide ((Y' : Int) ≤ (j : Int)) = false := by simp; omega
              have r3 : ¬ (Y' : Int) ≤ (j : Int) := by omega
              clear hmn hwb
              go_wp2
              go_quiet (fail)
              go_wp2
              go_quiet (fail)
              go_wp2
              go_quiet (fail)
              go_wp2
              all_goals
                go_roundw
                case rel => exact ⟨i + 1, _, _, _, rfl, hi'.out, rfl, rfl, by simp, L.out.drew, ⟨by rw [← Nat.add_assoc, hnx.out.1]; simp_all, by rw [← Nat.add_assoc, hnx.out.2]; simp_all⟩⟩
                case measure => have := hi'.out; simp [intOf]; omega
            replace t1 := Decidable.not_not.1 t1
            by_cases t2 : ¬ (j < Y' + n)
            · have e0 : mi = false := by rw [hmn.out, decide_eq_false t2]; simp
              subst e0
              have e1 : wa = wb := by have := hwb.out; cases wa <;> cases wb <;> simp at this ⊢
              subst e1
              have e2 : (wa != wa) = false := by simp
              have r1 : decide ((0 : Int) ≤ (j : Int) - (Y' : Int)) = true := by simp; omega
              have r2 : decide ((Y' : Int) ≤ (j : Int)) = true := by simp; omega
              have r3 : (Y' : Int) ≤ (j : Int) := by omega
              have r4 : decide ((j : Int) - (Y' : Int) < (n : Int)) = false := by simp; omega
              have r5 : ¬ (j : Int) - (Y' : Int) < (n : Int) := by omega
              clear hmn hwb
              go_wp2
              go_quiet (fail)
              go_wp2
              go_quiet (fail)
              go_wp2
              go_quiet (fail)
              go_wp2
              all_goals
                go_roundw
                case rel => exact ⟨i + 1, _, _, _, rfl, hi'.out, rfl, rfl, by simp, L.out.drew, ⟨by rw [← Nat.add_assoc, hnx.out.1]; simp_all, by rw [← Nat.add_assoc, hnx.out.2]; simp_all⟩⟩
                case measure => have := hi'.out; simp [intOf]; omega
            replace t2 := Decidable.not_not.1 t2
            by_cases t3 : ¬ (X' ≤ i)
            · have e0 : mi = false := by rw [hmn.out, decide_eq_false t3]; simp
              subst e0
              have e1 : wa = wb := by have := hwb.out; cases wa <;> cases wb <;> simp at this ⊢
              subst e1
              have e2 : (wa != wa) = false := by simp
              have r1 : decide ((0 : Int) ≤ (j : Int) - (Y' : Int)) = true := by simp; omega
              have r2 : decide ((Y' : Int) ≤ (j : Int)) = true := by simp; omega
              have r3 : (Y' : Int) ≤ (j : Int) := by omega
              have r4 : decide ((j : Int) - (Y' : Int) < (n : Int)) = true := by simp; omega
              have r5 : (j : Int) - (Y' : Int) < (n : Int) := by omega
              have r6 : decide ((0 : Int) ≤ (i : Int) - (X' : Int)) = false := by simp; omega
              have r7 : decide ((X' : Int) ≤ (i : Int)) = false := by simp; omega
              have r8 : ¬ (X' : Int) ≤ (i : Int) := by omega
              clear hmn hwb
              go_wp2
              go_quiet (fail)
              go_wp2
              go_quiet (fail)
              go_wp2
              go_quiet (fail)
              go_wp2
              all_goals
                go_roundw
                case rel => exact ⟨i + 1, _, _, _, rfl, hi'.out, rfl, rfl, by simp, L.out.drew, ⟨by rw [← Nat.add_assoc, hnx.out.1]; simp_all, by rw [← Nat.add_assoc, hnx.out.2]; simp_all⟩⟩
                case measure => have := hi'.out; simp [intOf]; omega
            replace t3 := Decidable.not_not.1 t3
            by_cases t4 : ¬ (i < X' + 8)
            · have e0 : mi = false := by rw [hmn.out, decide_eq_false t4]; simp
              subst e0
              have e1 : wa = wb := by have := hwb.out; cases wa <;> cases wb <;> simp at this ⊢
              subst e1
              have e2 : (wa != wa) = false := by simp
              have r1 : decide ((0 : Int) ≤ (j : Int) - (Y' : Int)) = true := by simp; omega
              have r2 : decide ((Y' : Int) ≤ (j : Int)) = true := by simp; omega
              have r3 : (Y' : Int) ≤ (j : Int) := by omega
              have r4 : decide ((j : Int) - (Y' : Int) < (n : Int)) = true := by simp; omega
              have r5 : (j : Int) - (Y' : Int) < (n : Int) := by omega
              have r6 : decide ((0 : Int) ≤ (i : Int) - (X' : Int)) = true := by simp; omega
              have r7 : decide ((X' : Int) ≤ (i : Int)) = true := by simp; omega
              have r8 : (X' : Int) ≤ (i : Int) := by omega
              have r9 : decide ((i : Int) - (X' : Int) < 8) = false := by simp; omega
              have r10 : ¬ (i : Int) - (X' : Int) < 8 := by omega
              clear hmn hwb
              go_wp2
              go_quiet (fail)
              go_wp2
              go_quiet (fail)
              go_wp2
              go_quiet (fail)
              go_wp2
              all_goals
                go_roundw
                case rel => exact ⟨i + 1, _, _, _, rfl, hi'.out, rfl, rfl, by simp, L.out.drew, ⟨by rw [← Nat.add_assoc, hnx.out.1]; simp_all, by rw [← Nat.add_assoc, hnx.out.2]; simp_all⟩⟩
                case measure => have := hi'.out; simp [intOf]; omega
            replace t4 := Decidable.not_not.1 t4
            have r1 : decide ((0 : Int) ≤ (j : Int) - (Y' : Int)) = true := by simp; omega
            have r2 : decide ((Y' : Int) ≤ (j : Int)) = true := by simp; omega
            have r3 : (Y' : Int) ≤ (j : Int) := by omega
            have r4 : decide ((j : Int) - (Y' : Int) < (n : Int)) = true := by simp; omega
            have r5 : (j : Int) - (Y' : Int) < (n : Int) := by omega
            have r6 : decide ((0 : Int) ≤ (i : Int) - (X' : Int)) = true := by simp; omega
            have r7 : decide ((X' : Int) ≤ (i : Int)) = true := by simp; omega
            have r8 : (X' : Int) ≤ (i : Int) := by omega
            have r9 : decide ((i : Int) - (X' : Int) < 8) = true := by simp; omega
            have r10 : (i : Int) - (X' : Int) < 8 := by omega
            replace hmn : Hid (mi = (rows.getD (j - Y') 0 &&& mk (i - X') != 0)) := by
              show mi = _
              rw [hmn.out, decide_eq_true t1, decide_eq_true t2, decide_eq_true t3, decide_eq_true t4]; rfl
            obtain ⟨kk, hkk⟩ : ∃ k, j - Y' = k := ⟨_, rfl⟩
            obtain ⟨ee, hee⟩ : ∃ k, i - X' = k := ⟨_, rfl⟩
            have ek : (j : Int) - (Y' : Int) = (kk : Int) := by omega
            have ed : (i : Int) - (X' : Int) = (ee : Int) := by omega
            have he8 : ee < 8 := by omega
            have hkn : kk < n := by omega
            have s9 := sh8 ee he8
            have a7 := and7 ee he8
            rw [← ed] at a7
            obtain ⟨gr, ro, rfl⟩ := lb_some hR.out (by have := hrn.out.1; omega)
            have cR2 := lb_at (hR.out.below L.out.f.low) kk (by have := hrn.out.1; omega)
            have ir : ∀ v, (Instr.indexAt 22 (.slice (some ⟨gr, ro, none⟩) n cR) (.int .i64 ((j : Int) - (Y' : Int)))).run Try.prog v = .ok (.pointer (some ⟨gr, ro + kk, none⟩)) v := fun v => by rw [ek]; exact idxB .i64 gr ro n cR kk v hkn
            rw [hkk, hee] at hmn
            obtain ⟨C, hC⟩ : ∃ C, rows.getD kk 0 = C := ⟨_, rfl⟩
            obtain ⟨D, hD⟩ : ∃ C, mk ee = C := ⟨_, rfl⟩
            rw [hC] at cR2 hmn
            rw [hD] at s9 hmn
            have qc := and8 C D
            have zc := nzero8 (C &&& D)
            rw [← hmn.out] at zc
            obtain ⟨mc, hmc⟩ : ∃ z, (C &&& D).toNat = z := ⟨_, rfl⟩
            obtain ⟨cc, hcc⟩ : ∃ z, C.toNat = z := ⟨_, rfl⟩
            obtain ⟨dd, hdd⟩ : ∃ z, D.toNat = z := ⟨_, rfl⟩
            rw [hmc] at qc zc
            rw [hcc, hdd] at qc
            rw [hcc] at cR2
            rw [hdd] at s9
            rw [← hee] at s9
            clear hmn hmc hcc hdd hC hD hkk hee ek ed t1 t2 t3 t4
            cases mi
            · have e1 : wa = wb := by have := hwb.out; cases wa <;> cases wb <;> simp at this ⊢
              subst e1
              have e2 : (wa != wa) = false := by simp
              clear hwb
              go_wp2
              go_quiet (fail)
              go_wp2
              go_quiet (fail)
              go_wp2
              go_quiet (fail)
              go_wp2
              all_goals
                go_roundw
                case rel => exact ⟨i + 1, _, _, _, rfl, hi'.out, rfl, rfl, by simp, L.out.drew, ⟨by rw [← Nat.add_assoc, hnx.out.1]; simp_all, by rw [← Nat.add_assoc, hnx.out.2]; simp_all⟩⟩
                case measure => have := hi'.out; simp [intOf]; omega
            · have e1 : (!wa) = wb := by have := hwb.out; cases wa <;> cases wb <;> simp at this ⊢
              subst e1
              have e2 : (wa != !wa) = true := by cases wa <;> rfl
              clear hwb
              go_wp2
              go_quiet (fail)
              go_wp2
              go_quiet (fail)
              go_wp2
              go_quiet (fail)
              go_wp2
              all_goals
                go_roundw
                case rel => exact ⟨i + 1, _, _, _, rfl, hi'.out, rfl, rfl, by simp, L.out.drew, ⟨by rw [← Nat.add_assoc, hnx.out.1]; simp_all, by rw [← Nat.add_assoc, hnx.out.2]; simp_all⟩⟩
                case measure => have := hi'.out; simp [intOf]; omega
          · have hie : i = 64 := by omega
            subst hie
            have h1 := hoa.out.1
            have h2 := hoa.out.2
            subst h1
            subst h2
            clear hi hi64
            go_wp2
            go_roundw
            case rel => exact ⟨j + 1, v, rfl, hj'.out, rfl, rfl, by simp, L⟩
            case measure => have := hj'.out; simp [intOf]; omega
      · have hje : j = 32 := by omega
        subst hje
        have ho : Hid (anyS (fun m => mineN x y rows m && bitP p m) (64 * 32) = gon x y rows p) := hout.out
        rw [ho.out]
        obtain ⟨g1, hg1⟩ : ∃ g, gon x y rows p = g := ⟨_, rfl⟩
        obtain ⟨g2, hg2⟩ : ∃ g, gon x y rows (drw x y rows p) = g := ⟨_, rfl⟩
        obtain ⟨A, hA⟩ : ∃ g, anyS (mineN x y rows) (64 * 32) = g := ⟨_, rfl⟩
        have hD := dA.out u s1 k1 (drw x y rows p) hq.out K.out.f.low K.out.l
        have hag : Hid (g2 = true → A = true) := fun h => by rw [← hA]; exact hany.out (hg2.trans h)
        rw [hg2] at hD
        rw [hg1, hA]
        have hW : Hid (∀ (v : World), Dt w x y sR n cR s1 (drw x y rows p) v → Calls Try.prog 8 #[.slice s1 256 k1, .agg #[.int .u8 (x.toNat : Int), .int .u8 (y.toNat : Int), .slice sR n cR]] v fun e w' => e = .returned (.bool g2) ∧ Below v.heap.size v w') := fun v hv => by
          rw [← hg2]
          exact wA.out v s1 k1 hv.f.low hv.l
        have c0 := (K.out.f.bx 0 _ _ _ rfl).c 0 (.int .u8 (x.toNat : Int)) rfl
        have c1 := (K.out.f.bx 0 _ _ _ rfl).c 1 (.int .u8 (y.toNat : Int)) rfl
        have c2 := (K.out.f.bx 0 _ _ _ rfl).c 2 (.slice sR n cR) rfl
        have e1 : (g1 == g1) = true := by simp
        have e2 : (g2 == g2) = true := by simp
        clear hj hj32 hout hany hg2 hA ho dA wA q2 b2 b1 q3 q5
        go_wp2_with (first
          | (go_at_call 8; refine (hW.out y3 F3.out).mono ?_; rintro e y4 ⟨rfl, H4⟩)
          | ((with_reducible refine at_load rtSt w.heap.size #[.int .u8 (x.toNat : Int), .int .u8 (y.toNat : Int), .slice sR n cR] ?_ ?_ (.tmp 3) ?_ ?_ ?_ ?_); exact F3.out.f.bx 0 _ _ _ rfl; rfl; kernel_rfl; rfl; rfl)
          | (go_at_call 7; refine (hS.out y2 s2 k2 H2.out.1 F2.out.f.low).mono ?_; rintro e y3 ⟨rfl, H3⟩; have F3 : Hid (Dt w x y sR n cR s1 (drw x y rows p) y3) := F2.out.below H3)
          | (go_at_call 6; refine hD.mono ?_; rintro e y2 ⟨s2, k2, rfl, H2⟩; have F2 : Hid (Dt w x y sR n cR s1 (drw x y rows p) y2) := K.out.below H2.out.2; clear hD))
        · go_ret
          exact ⟨rfl, F3.out.f.low.trans (H4.mono F3.out.f.low.size)⟩
        · have hA0 : A = false := by assumption
          have hg : g2 = false := by
            cases hg : g2
            · rfl
            · have := hag.out hg; rw [hA0] at this; cases this
          subst hg
          go_ret
          exact ⟨rfl, F3.out.f.low.trans (H4.mono F3.out.f.low.size)⟩
  · have hA : drawA p x.toNat y.toNat rows = ([], false, 1) := by unfold drawA; rw [hn, hm, if_neg h4]
    have hD := draw_any _ sp sR cap cR p rows x y (hl.out.below K0.out.low) (hR.out.below K0.out.low)
    rw [hA, hn, hm] at hD
    dsimp only at hD
    have hD2 : Calls Try.prog 6 #[.slice sp np cap, .int .u8 (x.toNat : Int), .int .u8 (y.toNat : Int), .slice sR n cR] (w.alloc (.cells #[.int .u8 (x.toNat : Int), .int .u8 (y.toNat : Int), .slice sR n cR] 24)) fun e w' => ∃ s1 c1, e = .returned (.tuple #[.slice s1 0 c1, .bool false, .int .i64 1]) ∧ Hid (Fm w [(w.heap.size, #[.int .u8 (x.toNat : Int), .int .u8 (y.toNat : Int), .slice sR n cR], 24)] w') := by
      refine hD.mono ?_
      rintro e w' ⟨v, rfl, K⟩
      obtain ⟨s2, c2, rfl, hl2, _⟩ := OwnL.open kByte.len K.out.own
      exact ⟨s2, c2, rfl, K0.out.below K.out.low⟩
    clear hD hA
    by_cases h5 : np = 256
    · have q5 : ((np : Int) != 256) = false := by simp; omega
      have q6 : decide ((15 : Int) < (n : Int)) = true := by simp; omega
      clear h1 hn hm h2 h3 h4 h5
      go_enter Try.func3, Try.ntmps3
      go_wp2_with (go_at_call 6; refine hD2.mono ?_; rintro e y1 ⟨s1, c1, rfl, K1⟩; have d1 := (K1.out.bx 0 _ _ _ rfl).c 2 (.slice sR n cR) rfl)
      go_ret
      exact ⟨rfl, K1.out.low⟩
    · have q5 : ((np : Int) != 256) = true := by simp; omega
      clear h1 hn hm h2 h3 h4 h5
      go_enter Try.func3, Try.ntmps3
      go_wp2_with (go_at_call 6; refine hD2.mono ?_; rintro e y1 ⟨s1, c1, rfl, K1⟩)
      go_ret
      exact ⟨rfl, K1.out.low⟩
end Go.Proofs.Ytiplellfpagclaa
