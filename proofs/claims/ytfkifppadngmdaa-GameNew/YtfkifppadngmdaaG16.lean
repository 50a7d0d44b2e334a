/- The leaf methods of a game that is worked on: what they read, what they write. -/
import Derived.Test.YtfkifppadngmdaaG15
import Derived.Test.YtfkifppadngmdaaP6
namespace Go.Proofs.Ytfkifppadngmdaa
open Go Go.RowKit Go.Shelf
set_option linter.unusedVariables false
set_option maxHeartbeats 1000000
set_option maxRecDepth 20000

/-- A call that only reads, and answers v. -/
def RdV (w : World) (v : Value) (e : Ending) (w' : World) : Prop := e = .returned v ∧ ∃ m, w' = w.drewN m
/-- What a method leaves. -/
def MdE (B : Nat) (w : World) (b : Nat) (o : Od) (f : Fo) (d : Fd) (r : Gm × Nat) (e : Ending) (w' : World) : Prop := e = .returned (.int .u8 (r.2 : Int)) ∧ Below B w w' ∧ (r.2 = 1 → PB B w' b r.1 o f d)
theorem MdE.drew {B : Nat} {w : World} {b : Nat} {o : Od} {f : Fo} {d : Fd} {r : Gm × Nat} {n : Nat} {e : Ending} {w' : World} (h : MdE B (w.drewN n) b o f d r e w') : MdE B w b o f d r e w' := ⟨h.1, (below_drewN (Below.refl _ _)).trans h.2.1, h.2.2⟩

theorem vx_any {B : Nat} (w : World) (b : Nat) (g : Gm) (o : Od) (f : Fo) (d : Fd) (h : PB B w b g o f d) : Calls Try.prog 56 #[.pointer (some ⟨b, 0, none⟩)] w fun e w' => e = .returned (.int .u8 ((g.v.getD o.x 0).toNat : Int)) ∧ ∃ m, w' = w.drewN m := by
  have c1 := h.cx
  have hx := h.oo.x
  have c2 := h.cv o.x hx
  obtain ⟨X, hX⟩ : ∃ X, o.x = X := ⟨_, rfl⟩
  obtain ⟨V, hV⟩ : ∃ V, (g.v.getD o.x 0).toNat = V := ⟨_, rfl⟩
  rw [hV]
  rw [hV, hX] at c2
  rw [hX] at c1 hx
  have ix := fun v => idxV b .u8 X v hx
  clear hX hV h
  go_enter Try.func56, Try.ntmps56
  go_wp2
  go_quiet (fail)
  go_wp2
  go_ret
  exact ⟨rfl, _, rfl⟩

theorem vy_any {B : Nat} (w : World) (b : Nat) (g : Gm) (o : Od) (f : Fo) (d : Fd) (h : PB B w b g o f d) : Calls Try.prog 57 #[.pointer (some ⟨b, 0, none⟩)] w fun e w' => e = .returned (.int .u8 ((g.v.getD o.y 0).toNat : Int)) ∧ ∃ m, w' = w.drewN m := by
  have c1 := h.cy
  have hx := h.oo.y
  have c2 := h.cv o.y hx
  obtain ⟨X, hX⟩ : ∃ X, o.y = X := ⟨_, rfl⟩
  obtain ⟨V, hV⟩ : ∃ V, (g.v.getD o.y 0).toNat = V := ⟨_, rfl⟩
  rw [hV]
  rw [hV, hX] at c2
  rw [hX] at c1 hx
  have ix := fun v => idxV b .u8 X v hx
  clear hX hV h
  go_enter Try.func57, Try.ntmps57
  go_wp2
  go_quiet (fail)
  go_wp2
  go_ret
  exact ⟨rfl, _, rfl⟩

theorem and15 (x : UInt8) : bits .and .u8 (x.toNat : Int) 15 = ((x.toNat % 16 : Nat) : Int) := by
  have := and8 x 15
  rw [show (((15 : UInt8).toNat : Nat) : Int) = 15 from rfl] at this
  rw [this]
  congr 1
  have e := UInt8.toNat_and x 15
  rw [e]
  exact Nat.and_two_pow_sub_one_eq_mod x.toNat 4
theorem digitOfVX_any {B : Nat} (w : World) (b : Nat) (g : Gm) (o : Od) (f : Fo) (d : Fd) (h : PB B w b g o f d) : Calls Try.prog 65 #[.pointer (some ⟨b, 0, none⟩)] w fun e w' => e = .returned (.int .u8 (((g.v.getD o.x 0).toNat % 16 : Nat) : Int)) ∧ ∃ m, w' = w.drewN m := by
  have hv := vx_any w b g o f d h
  have ha := and15 (g.v.getD o.x 0)
  have hl := (g.v.getD o.x 0).toNat_lt
  obtain ⟨V, hV⟩ : ∃ V, (g.v.getD o.x 0).toNat = V := ⟨_, rfl⟩
  rw [hV] at hv ha hl
  rw [hV]
  obtain ⟨Q, hQ⟩ : ∃ Q, V % 16 = Q := ⟨_, rfl⟩
  rw [hQ] at ha
  rw [hQ]
  clear hV h hQ
  go_enter Try.func65, Try.ntmps65
  go_wp2_with (go_at_call 56; refine hv.mono ?_; rintro e y1 ⟨rfl, m, rfl⟩)
  go_ret
  exact ⟨rfl, _, rfl⟩
theorem count_any {B : Nat} (w : World) (b : Nat) (g : Gm) (o : Od) (f : Fo) (d : Fd) (h : PB B w b g o f d) : Calls Try.prog 67 #[.pointer (some ⟨b, 0, none⟩)] w fun e w' => e = .returned (.int .i64 ((o.x + 1 : Nat) : Int)) ∧ ∃ m, w' = w.drewN m := by
  have c1 := h.cx
  have hx := h.oo.x
  obtain ⟨X, hX⟩ : ∃ X, o.x = X := ⟨_, rfl⟩
  rw [hX] at c1 hx
  rw [hX]
  have hx2 : (X : Int) < 16 := by omega
  clear hX h
  go_enter Try.func67, Try.ntmps67
  go_wp2
  go_ret
  exact ⟨by simp, 0, rfl⟩
theorem shk (k q : Nat) (hq : q < 16) : Op.shift .shr .u16 (k : Int) .u8 (q : Int) = pure (.int .u16 ((k >>> q : Nat) : Int)) := by
  unfold Op.shift
  rw [if_neg (by omega), Nat.shiftRight_eq_div_pow]
  have e : ((q : Int)).toNat = q := by omega
  have hk : q ≤ 16 := by omega
  simp only [e, IntKind.bits, Nat.min_eq_left hk]
  rw [Int.fdiv_eq_ediv_of_nonneg _ (Int.pow_nonneg (by decide))]
  push_cast
  rfl
theorem and1N (x : Nat) (hx : x < 65536) : bits .and .u16 (x : Int) 1 = ((x % 2 : Nat) : Int) := by
  have := andN x 1 hx (by decide)
  rw [show (((1 : Nat)) : Int) = 1 from rfl] at this
  rw [this, Nat.and_one_is_mod]
theorem down_any {B : Nat} (w : World) (b : Nat) (g : Gm) (o : Od) (f : Fo) (d : Fd) (h : PB B w b g o f d) : Calls Try.prog 64 #[.pointer (some ⟨b, 0, none⟩)] w fun e w' => e = .returned (.bool (d.ks >>> ((g.v.getD o.x 0).toNat % 16) % 2 == 1)) ∧ ∃ m, w' = w.drewN m := by
  have hv := fun n => digitOfVX_any (w.drewN n) b g o f d (h.drew n)
  have c1 := h.cks
  have hk := h.dk.ks
  obtain ⟨K, hK⟩ : ∃ K, d.ks = K := ⟨_, rfl⟩
  obtain ⟨Q, hQ⟩ : ∃ Q, (g.v.getD o.x 0).toNat % 16 = Q := ⟨_, rfl⟩
  have hq : Q < 16 := by omega
  rw [hQ] at hv
  rw [hK] at c1 hk
  rw [hK, hQ]
  obtain ⟨S, hS⟩ : ∃ S, K >>> Q = S := ⟨_, rfl⟩
  have s1 := shk K Q hq
  have sS : S ≤ K := by rw [← hS, Nat.shiftRight_eq_div_pow]; exact Nat.div_le_self _ _
  have s2 : (K : Int) / 2 ^ Q = (S : Int) := by rw [← hS, Nat.shiftRight_eq_div_pow]; push_cast; rfl
  have a1 := and1N S (by omega)
  rw [hS] at s1
  rw [hS]
  obtain ⟨R, hR⟩ : ∃ R, S % 2 = R := ⟨_, rfl⟩
  rw [hR] at a1
  rw [hR]
  have hr : R < 2 := by omega
  obtain ⟨z, hz⟩ : ∃ z, (R == 1) = z := ⟨_, rfl⟩
  have q1 : ((R : Int) != 0) = z := by rw [← hz]; rcases (show R = 0 ∨ R = 1 by omega) with rfl | rfl <;> rfl
  rw [hz]
  clear hK hQ hS hR hz h hr sS hk
  go_enter Try.func64, Try.ntmps64
  go_wp2
  go_quiet ((go_at_call 65; exact Calls.quiet_of (hv _)))
  go_wp2
  go_ret
  exact ⟨rfl, _, rfl⟩

theorem leadTo_any {B : Nat} (w : World) (b : Nat) (g : Gm) (o : Od) (f : Fo) (d : Fd) (h : PB B w b g o f d) (a : Nat) (ha : a < 65536) : Calls Try.prog 54 #[.pointer (some ⟨b, 0, none⟩), .int .u16 (a : Int)] w fun e w' => e = .returned (.int .u8 1) ∧ Below B w w' ∧ PB B w' b { g with pc := a } o f d := by
  have c1 := h.cpc
  have z1 := h.fz 17
  have hs : Hid (PB B (w.setCell ⟨b, 17, none⟩ (.int .u16 (a : Int))) b { g with pc := a } o f d ∧ Below B w (w.setCell ⟨b, 17, none⟩ (.int .u16 (a : Int)))) := h.setPC a ha
  clear h
  go_enter Try.func54, Try.ntmps54
  go_wp2
  go_ret
  exact ⟨rfl, hs.out.2, hs.out.1⟩

theorem pointTo_any {B : Nat} (w : World) (b : Nat) (g : Gm) (o : Od) (f : Fo) (d : Fd) (h : PB B w b g o f d) (a : Nat) (ha : a < 65536) : Calls Try.prog 60 #[.pointer (some ⟨b, 0, none⟩), .int .u16 (a : Int)] w fun e w' => e = .returned (.int .u8 1) ∧ Below B w w' ∧ PB B w' b { g with i := a } o f d := by
  have c1 := h.ci
  have z1 := h.fz 16
  have hs : Hid (PB B (w.setCell ⟨b, 16, none⟩ (.int .u16 (a : Int))) b { g with i := a } o f d ∧ Below B w (w.setCell ⟨b, 16, none⟩ (.int .u16 (a : Int)))) := h.setI a ha
  clear h
  go_enter Try.func60, Try.ntmps60
  go_wp2
  go_ret
  exact ⟨rfl, hs.out.2, hs.out.1⟩

theorem take_any {B : Nat} (w : World) (b : Nat) (g : Gm) (o : Od) (f : Fo) (d : Fd) (h : PB B w b g o f d) (t : UInt8) : Calls Try.prog 58 #[.pointer (some ⟨b, 0, none⟩), .int .u8 (t.toNat : Int)] w fun e w' => e = .returned (.int .u8 1) ∧ Below B w w' ∧ PB B w' b (setG g o.x t) o f d := by
  have c1 := h.cx
  have hx := h.oo.x
  have c2 := h.cv o.x hx
  have hs : Hid (∀ n, PB B ((w.drewN n).setCell ⟨b, o.x, none⟩ (.int .u8 (t.toNat : Int))) b (setG g o.x t) o f d ∧ Below B (w.drewN n) ((w.drewN n).setCell ⟨b, o.x, none⟩ (.int .u8 (t.toNat : Int)))) := fun n => (h.drew n).setV o.x hx t
  have z1 := h.fz o.x
  obtain ⟨G, hG⟩ : ∃ G, setG g o.x t = G := ⟨_, rfl⟩
  rw [hG] at hs
  rw [hG]
  clear hG
  obtain ⟨X, hX⟩ : ∃ X, o.x = X := ⟨_, rfl⟩
  rw [hX] at c1 hx c2 hs z1
  obtain ⟨V, hV⟩ : ∃ V, (g.v.getD X 0).toNat = V := ⟨_, rfl⟩
  rw [hV] at c2
  obtain ⟨T, hT⟩ : ∃ T, t.toNat = T := ⟨_, rfl⟩
  rw [hT] at hs
  rw [hT]
  have ix := fun v => idxV b .u8 X v hx
  clear hX hV hT h
  go_enter Try.func58, Try.ntmps58
  go_wp2
  refine region_class_tail 11 (fun y => ∃ n, y = w.drewN n) (by kernel_rfl) (by kernel_rfl) ⟨1, rfl⟩ ?_
  dsimp only [List.take, List.drop]
  repeat (go_big_quiet_step (fail))
  refine wpQuiet_nil ?_
  rintro _ ⟨nq, rfl⟩
  go_wp2
  go_ret
  exact ⟨rfl, (below_drewN (Below.refl _ _)).trans (hs.out nq).2, (hs.out nq).1⟩
theorem tell_any {B : Nat} (w : World) (b : Nat) (g : Gm) (o : Od) (f : Fo) (d : Fd) (h : PB B w b g o f d) (t : Bool) : Calls Try.prog 63 #[.pointer (some ⟨b, 0, none⟩), .bool t] w fun e w' => e = .returned (.int .u8 1) ∧ Below B w w' ∧ PB B w' b (setG g 15 (oneG t)) o f d := by
  have c2 := h.cv 15 (by decide)
  have z1 := h.fz 15
  obtain ⟨V, hV⟩ : ∃ V, (g.v.getD 15 0).toNat = V := ⟨_, rfl⟩
  rw [hV] at c2
  have ix := fun v => idxV b .i64 15 v (by decide)
  rw [show ((15 : Nat) : Int) = 15 from rfl] at ix
  have h0 := h.setV 15 (by decide) 0
  have h1 := h0.1.setV 15 (by decide) 1
  have e1 : setG (setG g 15 0) 15 1 = setG g 15 1 := by unfold setG; simp
  rw [e1] at h1
  replace h0 : Hid (PB B (w.setCell ⟨b, 15, none⟩ (.int .u8 0)) b (setG g 15 0) o f d ∧ Below B w (w.setCell ⟨b, 15, none⟩ (.int .u8 0))) := h0
  replace h1 : Hid (PB B ((w.setCell ⟨b, 15, none⟩ (.int .u8 0)).setCell ⟨b, 15, none⟩ (.int .u8 1)) b (setG g 15 1) o f d ∧ Below B (w.setCell ⟨b, 15, none⟩ (.int .u8 0)) ((w.setCell ⟨b, 15, none⟩ (.int .u8 0)).setCell ⟨b, 15, none⟩ (.int .u8 1))) := h1
  have c3 := h0.out.1.cv 15 (by decide)
  have z3 := h0.out.1.fz 15
  clear e1 hV h
  cases t
  · rw [show oneG false = 0 from rfl]
    go_enter Try.func63, Try.ntmps63
    go_wp2
    go_ret
    exact ⟨rfl, h0.out.2, h0.out.1⟩
  · rw [show oneG true = 1 from rfl]
    go_enter Try.func63, Try.ntmps63
    go_wp2_with ((with_reducible refine gen_world (w.setCell ⟨b, 15, none⟩ (.int .u8 0)) (fun y => ∃ V, y.cell? ⟨b, 15, none⟩ = some (.int .u8 V) ∧ y.frozen? ⟨b, 15, none⟩ = false ∧ PB B (y.setCell ⟨b, 15, none⟩ (.int .u8 1)) b (setG g 15 1) o f d ∧ Below B w (y.setCell ⟨b, 15, none⟩ (.int .u8 1))) ?_ ?_); exact ⟨_, c3, z3, h1.out.1, h0.out.2.trans h1.out.2⟩; intro y1 K1; obtain ⟨V1, d1, d2, K2⟩ := K1.out; replace K2 : Hid (PB B (y1.setCell ⟨b, 15, none⟩ (.int .u8 1)) b (setG g 15 1) o f d ∧ Below B w (y1.setCell ⟨b, 15, none⟩ (.int .u8 1))) := K2; clear K1 h0 h1 c3 z3)
    go_ret
    exact ⟨rfl, K2.out.2, K2.out.1⟩
theorem takeWith_any {B : Nat} (w : World) (b : Nat) (g : Gm) (o : Od) (f : Fo) (d : Fd) (h : PB B w b g o f d) (t : UInt8) (z : Bool) : Calls Try.prog 59 #[.pointer (some ⟨b, 0, none⟩), .int .u8 (t.toNat : Int), .bool z] w fun e w' => e = .returned (.int .u8 1) ∧ Below B w w' ∧ PB B w' b (setG (setG g o.x t) 15 (oneG z)) o f d := by
  have k1 := take_any w b g o f d h t
  have k2 := fun y (hy : PB B y b (setG g o.x t) o f d) => tell_any y b _ o f d hy z
  obtain ⟨T, hT⟩ : ∃ T, t.toNat = T := ⟨_, rfl⟩
  rw [hT] at k1
  rw [hT]
  clear hT h
  go_enter Try.func59, Try.ntmps59
  go_wp2_with (first
    | (go_at_call 63; refine (k2 y1 K1.out.2).mono ?_; rintro e y2 ⟨rfl, H2⟩; have K2 : Hid (Below B y1 y2 ∧ PB B y2 b (setG (setG g o.x t) 15 (oneG z)) o f d) := H2)
    | (go_at_call 58; refine k1.mono ?_; rintro e y1 ⟨rfl, H1⟩; have K1 : Hid (Below B w y1 ∧ PB B y1 b (setG g o.x t) o f d) := H1))
  go_ret
  exact ⟨rfl, K1.out.1.trans K2.out.1, K2.out.2⟩
theorem skipIf_any {B : Nat} (w : World) (b : Nat) (g : Gm) (o : Od) (f : Fo) (d : Fd) (h : PB B w b g o f d) (z : Bool) : Calls Try.prog 55 #[.pointer (some ⟨b, 0, none⟩), .bool z] w fun e w' => e = .returned (.int .u8 1) ∧ Below B w w' ∧ PB B w' b (skipG g z) o f d := by
  have c1 := h.cpc
  have z1 := h.fz 17
  have hp := h.ok.pc
  cases z
  · have h0 : Hid (PB B w b g o f d) := h
    rw [show skipG g false = g from rfl]
    clear h c1 z1 hp
    go_enter Try.func55, Try.ntmps55
    go_wp2
    go_ret
    exact ⟨rfl, Below.refl _ _, h0.out⟩
  · obtain ⟨q, hq⟩ : ∃ q, (g.pc + 2) % 65536 = q := ⟨_, rfl⟩
    have qq : IntKind.u16.wrap ((g.pc : Int) + 2) = (q : Int) := by rw [IntKind.wrap_u16]; omega
    have hs : Hid (PB B (w.setCell ⟨b, 17, none⟩ (.int .u16 (q : Int))) b { g with pc := q } o f d ∧ Below B w (w.setCell ⟨b, 17, none⟩ (.int .u16 (q : Int)))) := h.setPC q (by omega)
    rw [show skipG g true = { g with pc := q } by unfold skipG; rw [if_pos rfl, hq]]
    obtain ⟨p, hp2⟩ : ∃ p, g.pc = p := ⟨_, rfl⟩
    rw [hp2] at c1 hp qq
    have hp3 : (p : Int) < 65536 := by omega
    clear h hq hp2
    go_enter Try.func55, Try.ntmps55
    go_wp2
    go_ret
    exact ⟨rfl, hs.out.2, hs.out.1⟩
end Go.Proofs.Ytfkifppadngmdaa
