/- The methods of a game that is worked on which read and write its cells alone. -/
import Derived.Test.YtfkifppadngmdaaG16
namespace Go.Proofs.Ytfkifppadngmdaa
open Go Go.RowKit Go.Shelf
set_option linter.unusedVariables false
set_option maxHeartbeats 1000000
set_option maxRecDepth 20000

theorem add8 (x y : UInt8) : ((x.toNat : Int) + (y.toNat : Int)) % 256 = ((x + y).toNat : Int) := by
  rw [UInt8.toNat_add]
  omega
theorem sub8 (x y : UInt8) : ((x.toNat : Int) - (y.toNat : Int)) % 256 = ((x - y).toNat : Int) := by
  have h1 := x.toNat_lt
  have h2 := y.toNat_lt
  rw [UInt8.toNat_sub]
  omega
theorem ofB {n : Nat} (h : n < 256) : (UInt8.ofNat n).toNat = n := by
  rw [UInt8.toNat_ofNat']
  omega
theorem eqZ {x y : Nat} {z : Bool} (h : (x == y) = z) : ((x : Int) == (y : Int)) = z ∧ decide (x = y) = z ∧ decide ((x : Int) = (y : Int)) = z := by
  subst h
  refine ⟨?_, ?_, ?_⟩
  · rw [Bool.eq_iff_iff, beq_iff_eq, beq_iff_eq]
    omega
  · rw [Bool.eq_iff_iff, decide_eq_true_iff, beq_iff_eq]
  · rw [Bool.eq_iff_iff, decide_eq_true_iff, beq_iff_eq]
    omega
theorem neZ {x y : Nat} {z : Bool} (h : (x != y) = z) : ((x : Int) != (y : Int)) = z ∧ (!decide (x = y)) = z ∧ (!decide ((x : Int) = (y : Int))) = z := by
  subst h
  have k := eqZ (x := x) (y := y) rfl
  refine ⟨?_, ?_, ?_⟩
  · unfold bne
    rw [k.1]
  · unfold bne
    rw [k.2.1]
  · unfold bne
    rw [k.2.2]

theorem m_jump_any {B : Nat} (w : World) (b : Nat) (g : Gm) (o : Od) (f : Fo) (d : Fd) (h : PB B w b g o f d) (ho : o.op = 4) : Calls Try.prog 21 #[.pointer (some ⟨b, 0, none⟩)] w (MdE B w b o f d (doG g o f d)) := by
  have eD : doG g o f d = ({ g with pc := o.a }, 1) := by unfold doG; rw [ho]; rfl
  rw [eD]
  obtain ⟨R, hR⟩ : ∃ R, { g with pc := o.a } = R := ⟨_, rfl⟩
  rw [hR]
  have ca := h.ca
  have ia := h.oo.a
  obtain ⟨At, hAt⟩ : ∃ At, o.a = At := ⟨_, rfl⟩
  rw [hAt] at ca ia
  have ht := fun n => leadTo_any (w.drewN n) b g o f d (h.drew n) (o.a) (h.oo.a)
  have ht0 := leadTo_any w b g o f d h (o.a) (h.oo.a)
  rw [hR] at ht ht0
  rw [hAt] at ht ht0
  clear hR eD ho h hAt
  go_enter Try.func21, Try.ntmps21
  go_wp2_with (first
    | (go_at_call 54; first | (refine ht0.mono ?_; rintro e y ⟨rfl, H⟩; have K : Hid (Below B w y ∧ PB B y b R o f d) := H) | (refine (ht _).mono ?_; rintro e y ⟨rfl, H⟩; have K : Hid (Below B w y ∧ PB B y b R o f d) := ⟨(below_drewN (Below.refl _ _)).trans H.1, H.2⟩)))
  go_ret
  exact ⟨rfl, K.out.1, fun _ => K.out.2⟩

theorem m_jumpBy_any {B : Nat} (w : World) (b : Nat) (g : Gm) (o : Od) (f : Fo) (d : Fd) (h : PB B w b g o f d) (ho : o.op = 18) : Calls Try.prog 35 #[.pointer (some ⟨b, 0, none⟩)] w (MdE B w b o f d (doG g o f d)) := by
  have eD : doG g o f d = ({ g with pc := (o.a + (g.v.getD 0 0).toNat) % 65536 }, 1) := by unfold doG; rw [ho]; rfl
  rw [eD]
  obtain ⟨R, hR⟩ : ∃ R, { g with pc := (o.a + (g.v.getD 0 0).toNat) % 65536 } = R := ⟨_, rfl⟩
  rw [hR]
  have ca := h.ca
  have ia := h.oo.a
  obtain ⟨At, hAt⟩ : ∃ At, o.a = At := ⟨_, rfl⟩
  rw [hAt] at ca ia
  have c0 := h.cv 0 (by decide)
  have i0 := (g.v.getD 0 0).toNat_lt
  have ht := fun n => leadTo_any (w.drewN n) b g o f d (h.drew n) ((o.a + (g.v.getD 0 0).toNat) % 65536) (by omega)
  have ht0 := leadTo_any w b g o f d h ((o.a + (g.v.getD 0 0).toNat) % 65536) (by omega)
  rw [hR] at ht ht0
  obtain ⟨V, hV⟩ : ∃ V, (g.v.getD 0 0).toNat = V := ⟨_, rfl⟩
  rw [hV] at c0 i0
  obtain ⟨T, hT⟩ : ∃ T, (o.a + (g.v.getD 0 0).toNat) % 65536 = T := ⟨_, rfl⟩
  rw [hT] at ht ht0
  rw [hV, hAt] at hT
  have q1 : ((At : Int) + (V : Int)) % 65536 = (T : Int) := by omega
  have q2 : IntKind.u16.wrap ((At : Int) + (V : Int)) = (T : Int) := by rw [IntKind.wrap_u16]; exact q1
  have i1 : (At : Int) < 65536 := by omega
  have i2 : (V : Int) < 256 := by omega
  have ix := fun v => idxV b .i64 0 v (by decide)
  rw [show ((0 : Nat) : Int) = 0 from rfl] at ix
  clear hR eD ho h hAt hV hT
  go_enter Try.func35, Try.ntmps35
  go_wp2
  refine region_class_tail 14 (fun y => ∃ n, y = w.drewN n) (by kernel_rfl) (by kernel_rfl) ⟨1, rfl⟩ ?_
  dsimp only [List.take, List.drop]
  repeat (go_big_quiet_step (fail))
  refine wpQuiet_nil ?_
  rintro _ ⟨nq, rfl⟩
  go_wp2_with (first
    | (go_at_call 54; first | (refine ht0.mono ?_; rintro e y ⟨rfl, H⟩; have K : Hid (Below B w y ∧ PB B y b R o f d) := H) | (refine (ht _).mono ?_; rintro e y ⟨rfl, H⟩; have K : Hid (Below B w y ∧ PB B y b R o f d) := ⟨(below_drewN (Below.refl _ _)).trans H.1, H.2⟩)))
  go_ret
  exact ⟨rfl, K.out.1, fun _ => K.out.2⟩

theorem m_skipIs_any {B : Nat} (w : World) (b : Nat) (g : Gm) (o : Od) (f : Fo) (d : Fd) (h : PB B w b g o f d) (ho : o.op = 6) : Calls Try.prog 23 #[.pointer (some ⟨b, 0, none⟩)] w (MdE B w b o f d (doG g o f d)) := by
  have eD : doG g o f d = (skipG g ((g.v.getD o.x 0).toNat == o.b), 1) := by unfold doG; rw [ho]; rfl
  rw [eD]
  obtain ⟨R, hR⟩ : ∃ R, skipG g ((g.v.getD o.x 0).toNat == o.b) = R := ⟨_, rfl⟩
  rw [hR]
  have hvx := fun n => vx_any (w.drewN n) b g o f d (h.drew n)
  have hvx0 := vx_any w b g o f d h
  obtain ⟨V, hV⟩ : ∃ V, (g.v.getD o.x 0).toNat = V := ⟨_, rfl⟩
  rw [hV] at hvx hvx0
  have iV := (g.v.getD o.x 0).toNat_lt
  rw [hV] at iV
  have cb := h.cb
  have ib := h.oo.b
  have oB := ofB h.oo.b
  obtain ⟨Bt, hBt⟩ : ∃ Bt, o.b = Bt := ⟨_, rfl⟩
  rw [hBt] at cb ib
  have ht := fun n => skipIf_any (w.drewN n) b g o f d (h.drew n) ((g.v.getD o.x 0).toNat == o.b)
  have ht0 := skipIf_any w b g o f d h ((g.v.getD o.x 0).toNat == o.b)
  rw [hR] at ht ht0
  rw [hV, hBt] at ht ht0
  obtain ⟨z, hz⟩ : ∃ z, (V == Bt) = z := ⟨_, rfl⟩
  rw [hz] at ht ht0
  obtain ⟨q1, q2, q3⟩ := eqZ hz
  clear hR eD ho h hV hBt hz oB
  go_enter Try.func23, Try.ntmps23
  go_wp2
  refine region_class_tail 9 (fun y => ∃ n, y = w.drewN n) (by kernel_rfl) (by kernel_rfl) ⟨1, rfl⟩ ?_
  dsimp only [List.take, List.drop]
  repeat (go_big_quiet_step (first
    | (go_at_call 56; exact Calls.quiet_of (hvx _))))
  refine wpQuiet_nil ?_
  rintro _ ⟨nq, rfl⟩
  go_wp2_with (first
    | (go_at_call 55; first | (refine ht0.mono ?_; rintro e y ⟨rfl, H⟩; have K : Hid (Below B w y ∧ PB B y b R o f d) := H) | (refine (ht _).mono ?_; rintro e y ⟨rfl, H⟩; have K : Hid (Below B w y ∧ PB B y b R o f d) := ⟨(below_drewN (Below.refl _ _)).trans H.1, H.2⟩)))
  go_ret
  exact ⟨rfl, K.out.1, fun _ => K.out.2⟩

theorem m_skipNot_any {B : Nat} (w : World) (b : Nat) (g : Gm) (o : Od) (f : Fo) (d : Fd) (h : PB B w b g o f d) (ho : o.op = 7) : Calls Try.prog 24 #[.pointer (some ⟨b, 0, none⟩)] w (MdE B w b o f d (doG g o f d)) := by
  have eD : doG g o f d = (skipG g ((g.v.getD o.x 0).toNat != o.b), 1) := by unfold doG; rw [ho]; rfl
  rw [eD]
  obtain ⟨R, hR⟩ : ∃ R, skipG g ((g.v.getD o.x 0).toNat != o.b) = R := ⟨_, rfl⟩
  rw [hR]
  have hvx := fun n => vx_any (w.drewN n) b g o f d (h.drew n)
  have hvx0 := vx_any w b g o f d h
  obtain ⟨V, hV⟩ : ∃ V, (g.v.getD o.x 0).toNat = V := ⟨_, rfl⟩
  rw [hV] at hvx hvx0
  have iV := (g.v.getD o.x 0).toNat_lt
  rw [hV] at iV
  have cb := h.cb
  have ib := h.oo.b
  have oB := ofB h.oo.b
  obtain ⟨Bt, hBt⟩ : ∃ Bt, o.b = Bt := ⟨_, rfl⟩
  rw [hBt] at cb ib
  have ht := fun n => skipIf_any (w.drewN n) b g o f d (h.drew n) ((g.v.getD o.x 0).toNat != o.b)
  have ht0 := skipIf_any w b g o f d h ((g.v.getD o.x 0).toNat != o.b)
  rw [hR] at ht ht0
  rw [hV, hBt] at ht ht0
  obtain ⟨z, hz⟩ : ∃ z, (V != Bt) = z := ⟨_, rfl⟩
  rw [hz] at ht ht0
  obtain ⟨q1, q2, q3⟩ := neZ hz
  clear hR eD ho h hV hBt hz oB
  go_enter Try.func24, Try.ntmps24
  go_wp2
  refine region_class_tail 9 (fun y => ∃ n, y = w.drewN n) (by kernel_rfl) (by kernel_rfl) ⟨1, rfl⟩ ?_
  dsimp only [List.take, List.drop]
  repeat (go_big_quiet_step (first
    | (go_at_call 56; exact Calls.quiet_of (hvx _))))
  refine wpQuiet_nil ?_
  rintro _ ⟨nq, rfl⟩
  go_wp2_with (first
    | (go_at_call 55; first | (refine ht0.mono ?_; rintro e y ⟨rfl, H⟩; have K : Hid (Below B w y ∧ PB B y b R o f d) := H) | (refine (ht _).mono ?_; rintro e y ⟨rfl, H⟩; have K : Hid (Below B w y ∧ PB B y b R o f d) := ⟨(below_drewN (Below.refl _ _)).trans H.1, H.2⟩)))
  go_ret
  exact ⟨rfl, K.out.1, fun _ => K.out.2⟩

theorem m_skipSame_any {B : Nat} (w : World) (b : Nat) (g : Gm) (o : Od) (f : Fo) (d : Fd) (h : PB B w b g o f d) (ho : o.op = 8) : Calls Try.prog 25 #[.pointer (some ⟨b, 0, none⟩)] w (MdE B w b o f d (doG g o f d)) := by
  have eD : doG g o f d = (skipG g (g.v.getD o.x 0 == g.v.getD o.y 0), 1) := by unfold doG; rw [ho]; rfl
  rw [eD]
  obtain ⟨R, hR⟩ : ∃ R, skipG g (g.v.getD o.x 0 == g.v.getD o.y 0) = R := ⟨_, rfl⟩
  rw [hR]
  have hvx := fun n => vx_any (w.drewN n) b g o f d (h.drew n)
  have hvx0 := vx_any w b g o f d h
  obtain ⟨V, hV⟩ : ∃ V, (g.v.getD o.x 0).toNat = V := ⟨_, rfl⟩
  rw [hV] at hvx hvx0
  have iV := (g.v.getD o.x 0).toNat_lt
  rw [hV] at iV
  have hvy := fun n => vy_any (w.drewN n) b g o f d (h.drew n)
  have hvy0 := vy_any w b g o f d h
  obtain ⟨W, hW⟩ : ∃ W, (g.v.getD o.y 0).toNat = W := ⟨_, rfl⟩
  rw [hW] at hvy hvy0
  have iW := (g.v.getD o.y 0).toNat_lt
  rw [hW] at iW
  have ht := fun n => skipIf_any (w.drewN n) b g o f d (h.drew n) (g.v.getD o.x 0 == g.v.getD o.y 0)
  have ht0 := skipIf_any w b g o f d h (g.v.getD o.x 0 == g.v.getD o.y 0)
  rw [hR] at ht ht0
  have e1 : (g.v.getD o.x 0 == g.v.getD o.y 0) = ((g.v.getD o.x 0).toNat == (g.v.getD o.y 0).toNat) := by
    skip
    rw [Bool.eq_iff_iff]
    simp [← UInt8.toNat_inj]
  rw [e1, hV, hW] at ht ht0
  obtain ⟨z, hz⟩ : ∃ z, (V == W) = z := ⟨_, rfl⟩
  rw [hz] at ht ht0
  obtain ⟨q1, q2, q3⟩ := eqZ hz
  clear hR eD ho h hV hW hz e1
  go_enter Try.func25, Try.ntmps25
  go_wp2_with (first
    | (go_at_call 55; first | (refine ht0.mono ?_; rintro e y ⟨rfl, H⟩; have K : Hid (Below B w y ∧ PB B y b R o f d) := H) | (refine (ht _).mono ?_; rintro e y ⟨rfl, H⟩; have K : Hid (Below B w y ∧ PB B y b R o f d) := ⟨(below_drewN (Below.refl _ _)).trans H.1, H.2⟩))
    | (go_at_call 56; first | (refine hvx0.mono ?_; rintro e y ⟨rfl, m, rfl⟩) | (refine (hvx _).mono ?_; rintro e y ⟨rfl, m, rfl⟩))
    | (go_at_call 57; first | (refine hvy0.mono ?_; rintro e y ⟨rfl, m, rfl⟩) | (refine (hvy _).mono ?_; rintro e y ⟨rfl, m, rfl⟩)))
  go_ret
  exact ⟨rfl, K.out.1, fun _ => K.out.2⟩

theorem m_skipOther_any {B : Nat} (w : World) (b : Nat) (g : Gm) (o : Od) (f : Fo) (d : Fd) (h : PB B w b g o f d) (ho : o.op = 16) : Calls Try.prog 33 #[.pointer (some ⟨b, 0, none⟩)] w (MdE B w b o f d (doG g o f d)) := by
  have eD : doG g o f d = (skipG g (g.v.getD o.x 0 != g.v.getD o.y 0), 1) := by unfold doG; rw [ho]; rfl
  rw [eD]
  obtain ⟨R, hR⟩ : ∃ R, skipG g (g.v.getD o.x 0 != g.v.getD o.y 0) = R := ⟨_, rfl⟩
  rw [hR]
  have hvx := fun n => vx_any (w.drewN n) b g o f d (h.drew n)
  have hvx0 := vx_any w b g o f d h
  obtain ⟨V, hV⟩ : ∃ V, (g.v.getD o.x 0).toNat = V := ⟨_, rfl⟩
  rw [hV] at hvx hvx0
  have iV := (g.v.getD o.x 0).toNat_lt
  rw [hV] at iV
  have hvy := fun n => vy_any (w.drewN n) b g o f d (h.drew n)
  have hvy0 := vy_any w b g o f d h
  obtain ⟨W, hW⟩ : ∃ W, (g.v.getD o.y 0).toNat = W := ⟨_, rfl⟩
  rw [hW] at hvy hvy0
  have iW := (g.v.getD o.y 0).toNat_lt
  rw [hW] at iW
  have ht := fun n => skipIf_any (w.drewN n) b g o f d (h.drew n) (g.v.getD o.x 0 != g.v.getD o.y 0)
  have ht0 := skipIf_any w b g o f d h (g.v.getD o.x 0 != g.v.getD o.y 0)
  rw [hR] at ht ht0
  have e1 : (g.v.getD o.x 0 != g.v.getD o.y 0) = ((g.v.getD o.x 0).toNat != (g.v.getD o.y 0).toNat) := by
    unfold bne; congr 1
    rw [Bool.eq_iff_iff]
    simp [← UInt8.toNat_inj]
  rw [e1, hV, hW] at ht ht0
  obtain ⟨z, hz⟩ : ∃ z, (V != W) = z := ⟨_, rfl⟩
  rw [hz] at ht ht0
  obtain ⟨q1, q2, q3⟩ := neZ hz
  clear hR eD ho h hV hW hz e1
  go_enter Try.func33, Try.ntmps33
  go_wp2_with (first
    | (go_at_call 55; first | (refine ht0.mono ?_; rintro e y ⟨rfl, H⟩; have K : Hid (Below B w y ∧ PB B y b R o f d) := H) | (refine (ht _).mono ?_; rintro e y ⟨rfl, H⟩; have K : Hid (Below B w y ∧ PB B y b R o f d) := ⟨(below_drewN (Below.refl _ _)).trans H.1, H.2⟩))
    | (go_at_call 56; first | (refine hvx0.mono ?_; rintro e y ⟨rfl, m, rfl⟩) | (refine (hvx _).mono ?_; rintro e y ⟨rfl, m, rfl⟩))
    | (go_at_call 57; first | (refine hvy0.mono ?_; rintro e y ⟨rfl, m, rfl⟩) | (refine (hvy _).mono ?_; rintro e y ⟨rfl, m, rfl⟩)))
  go_ret
  exact ⟨rfl, K.out.1, fun _ => K.out.2⟩

theorem m_skipDown_any {B : Nat} (w : World) (b : Nat) (g : Gm) (o : Od) (f : Fo) (d : Fd) (h : PB B w b g o f d) (ho : o.op = 21) : Calls Try.prog 38 #[.pointer (some ⟨b, 0, none⟩)] w (MdE B w b o f d (doG g o f d)) := by
  have eD : doG g o f d = (skipG g (d.ks >>> ((g.v.getD o.x 0).toNat % 16) % 2 == 1), 1) := by unfold doG; rw [ho]; rfl
  rw [eD]
  obtain ⟨R, hR⟩ : ∃ R, skipG g (d.ks >>> ((g.v.getD o.x 0).toNat % 16) % 2 == 1) = R := ⟨_, rfl⟩
  rw [hR]
  have hdn := fun n => down_any (w.drewN n) b g o f d (h.drew n)
  have hdn0 := down_any w b g o f d h
  obtain ⟨Z, hZ⟩ : ∃ Z, (d.ks >>> ((g.v.getD o.x 0).toNat % 16) % 2 == 1) = Z := ⟨_, rfl⟩
  rw [hZ] at hdn hdn0
  have ht := fun n => skipIf_any (w.drewN n) b g o f d (h.drew n) (d.ks >>> ((g.v.getD o.x 0).toNat % 16) % 2 == 1)
  have ht0 := skipIf_any w b g o f d h (d.ks >>> ((g.v.getD o.x 0).toNat % 16) % 2 == 1)
  rw [hR] at ht ht0
  rw [hZ] at ht ht0
  clear hR eD ho h hZ
  go_enter Try.func38, Try.ntmps38
  go_wp2_with (first
    | (go_at_call 55; first | (refine ht0.mono ?_; rintro e y ⟨rfl, H⟩; have K : Hid (Below B w y ∧ PB B y b R o f d) := H) | (refine (ht _).mono ?_; rintro e y ⟨rfl, H⟩; have K : Hid (Below B w y ∧ PB B y b R o f d) := ⟨(below_drewN (Below.refl _ _)).trans H.1, H.2⟩))
    | (go_at_call 64; first | (refine hdn0.mono ?_; rintro e y ⟨rfl, m, rfl⟩) | (refine (hdn _).mono ?_; rintro e y ⟨rfl, m, rfl⟩)))
  go_ret
  exact ⟨rfl, K.out.1, fun _ => K.out.2⟩

theorem m_skipUp_any {B : Nat} (w : World) (b : Nat) (g : Gm) (o : Od) (f : Fo) (d : Fd) (h : PB B w b g o f d) (ho : o.op = 22) : Calls Try.prog 39 #[.pointer (some ⟨b, 0, none⟩)] w (MdE B w b o f d (doG g o f d)) := by
  have eD : doG g o f d = (skipG g (d.ks >>> ((g.v.getD o.x 0).toNat % 16) % 2 == 0), 1) := by unfold doG; rw [ho]; rfl
  rw [eD]
  obtain ⟨R, hR⟩ : ∃ R, skipG g (d.ks >>> ((g.v.getD o.x 0).toNat % 16) % 2 == 0) = R := ⟨_, rfl⟩
  rw [hR]
  have hdn := fun n => down_any (w.drewN n) b g o f d (h.drew n)
  have hdn0 := down_any w b g o f d h
  obtain ⟨Z, hZ⟩ : ∃ Z, (d.ks >>> ((g.v.getD o.x 0).toNat % 16) % 2 == 1) = Z := ⟨_, rfl⟩
  rw [hZ] at hdn hdn0
  have ht := fun n => skipIf_any (w.drewN n) b g o f d (h.drew n) (d.ks >>> ((g.v.getD o.x 0).toNat % 16) % 2 == 0)
  have ht0 := skipIf_any w b g o f d h (d.ks >>> ((g.v.getD o.x 0).toNat % 16) % 2 == 0)
  rw [hR] at ht ht0
  have e1 : (d.ks >>> ((g.v.getD o.x 0).toNat % 16) % 2 == 0) = !Z := by
    rw [← hZ]
    rcases (show d.ks >>> ((g.v.getD o.x 0).toNat % 16) % 2 = 0 ∨ d.ks >>> ((g.v.getD o.x 0).toNat % 16) % 2 = 1 by omega) with k | k <;> rw [k] <;> rfl
  rw [e1] at ht ht0
  clear hR eD ho h hZ e1
  go_enter Try.func39, Try.ntmps39
  go_wp2_with (first
    | (go_at_call 55; first | (refine ht0.mono ?_; rintro e y ⟨rfl, H⟩; have K : Hid (Below B w y ∧ PB B y b R o f d) := H) | (refine (ht _).mono ?_; rintro e y ⟨rfl, H⟩; have K : Hid (Below B w y ∧ PB B y b R o f d) := ⟨(below_drewN (Below.refl _ _)).trans H.1, H.2⟩))
    | (go_at_call 64; first | (refine hdn0.mono ?_; rintro e y ⟨rfl, m, rfl⟩) | (refine (hdn _).mono ?_; rintro e y ⟨rfl, m, rfl⟩)))
  go_ret
  exact ⟨rfl, K.out.1, fun _ => K.out.2⟩

theorem m_set_any {B : Nat} (w : World) (b : Nat) (g : Gm) (o : Od) (f : Fo) (d : Fd) (h : PB B w b g o f d) (ho : o.op = 9) : Calls Try.prog 26 #[.pointer (some ⟨b, 0, none⟩)] w (MdE B w b o f d (doG g o f d)) := by
  have eD : doG g o f d = (setG g o.x (UInt8.ofNat o.b), 1) := by unfold doG; rw [ho]; rfl
  rw [eD]
  obtain ⟨R, hR⟩ : ∃ R, setG g o.x (UInt8.ofNat o.b) = R := ⟨_, rfl⟩
  rw [hR]
  have cb := h.cb
  have ib := h.oo.b
  have oB := ofB h.oo.b
  obtain ⟨Bt, hBt⟩ : ∃ Bt, o.b = Bt := ⟨_, rfl⟩
  rw [hBt] at cb ib
  have ht := fun n => take_any (w.drewN n) b g o f d (h.drew n) (UInt8.ofNat o.b)
  have ht0 := take_any w b g o f d h (UInt8.ofNat o.b)
  rw [hR] at ht ht0
  obtain ⟨T, hT⟩ : ∃ T, (UInt8.ofNat o.b).toNat = T := ⟨_, rfl⟩
  rw [hT] at ht ht0
  rw [oB, hBt] at hT
  subst hT
  clear hR eD ho h hBt oB
  go_enter Try.func26, Try.ntmps26
  go_wp2_with (first
    | (go_at_call 58; first | (refine ht0.mono ?_; rintro e y ⟨rfl, H⟩; have K : Hid (Below B w y ∧ PB B y b R o f d) := H) | (refine (ht _).mono ?_; rintro e y ⟨rfl, H⟩; have K : Hid (Below B w y ∧ PB B y b R o f d) := ⟨(below_drewN (Below.refl _ _)).trans H.1, H.2⟩)))
  go_ret
  exact ⟨rfl, K.out.1, fun _ => K.out.2⟩

theorem m_add_any {B : Nat} (w : World) (b : Nat) (g : Gm) (o : Od) (f : Fo) (d : Fd) (h : PB B w b g o f d) (ho : o.op = 10) : Calls Try.prog 27 #[.pointer (some ⟨b, 0, none⟩)] w (MdE B w b o f d (doG g o f d)) := by
  have eD : doG g o f d = (setG g o.x (g.v.getD o.x 0 + UInt8.ofNat o.b), 1) := by unfold doG; rw [ho]; rfl
  rw [eD]
  obtain ⟨R, hR⟩ : ∃ R, setG g o.x (g.v.getD o.x 0 + UInt8.ofNat o.b) = R := ⟨_, rfl⟩
  rw [hR]
  have hvx := fun n => vx_any (w.drewN n) b g o f d (h.drew n)
  have hvx0 := vx_any w b g o f d h
  obtain ⟨V, hV⟩ : ∃ V, (g.v.getD o.x 0).toNat = V := ⟨_, rfl⟩
  rw [hV] at hvx hvx0
  have iV := (g.v.getD o.x 0).toNat_lt
  rw [hV] at iV
  have cb := h.cb
  have ib := h.oo.b
  have oB := ofB h.oo.b
  obtain ⟨Bt, hBt⟩ : ∃ Bt, o.b = Bt := ⟨_, rfl⟩
  rw [hBt] at cb ib
  have ht := fun n => take_any (w.drewN n) b g o f d (h.drew n) (g.v.getD o.x 0 + UInt8.ofNat o.b)
  have ht0 := take_any w b g o f d h (g.v.getD o.x 0 + UInt8.ofNat o.b)
  rw [hR] at ht ht0
  obtain ⟨T, hT⟩ : ∃ T, (g.v.getD o.x 0 + UInt8.ofNat o.b).toNat = T := ⟨_, rfl⟩
  rw [hT] at ht ht0
  have q1 := add8 (g.v.getD o.x 0) (UInt8.ofNat o.b)
  rw [hT, oB, hBt, hV] at q1
  have q2 : IntKind.u8.wrap ((V : Int) + (Bt : Int)) = (T : Int) := by rw [IntKind.wrap_u8]; exact q1
  clear hR eD ho h hBt oB hV hT
  go_enter Try.func27, Try.ntmps27
  go_wp2
  refine region_class_tail 9 (fun y => ∃ n, y = w.drewN n) (by kernel_rfl) (by kernel_rfl) ⟨1, rfl⟩ ?_
  dsimp only [List.take, List.drop]
  repeat (go_big_quiet_step (first
    | (go_at_call 56; exact Calls.quiet_of (hvx _))))
  refine wpQuiet_nil ?_
  rintro _ ⟨nq, rfl⟩
  go_wp2_with (first
    | (go_at_call 58; first | (refine ht0.mono ?_; rintro e y ⟨rfl, H⟩; have K : Hid (Below B w y ∧ PB B y b R o f d) := H) | (refine (ht _).mono ?_; rintro e y ⟨rfl, H⟩; have K : Hid (Below B w y ∧ PB B y b R o f d) := ⟨(below_drewN (Below.refl _ _)).trans H.1, H.2⟩)))
  go_ret
  exact ⟨rfl, K.out.1, fun _ => K.out.2⟩

theorem m_move_any {B : Nat} (w : World) (b : Nat) (g : Gm) (o : Od) (f : Fo) (d : Fd) (h : PB B w b g o f d) (ho : o.op = 11) : Calls Try.prog 28 #[.pointer (some ⟨b, 0, none⟩)] w (MdE B w b o f d (doG g o f d)) := by
  have eD : doG g o f d = (setG g o.x (g.v.getD o.y 0), 1) := by unfold doG; rw [ho]; rfl
  rw [eD]
  obtain ⟨R, hR⟩ : ∃ R, setG g o.x (g.v.getD o.y 0) = R := ⟨_, rfl⟩
  rw [hR]
  have hvy := fun n => vy_any (w.drewN n) b g o f d (h.drew n)
  have hvy0 := vy_any w b g o f d h
  obtain ⟨W, hW⟩ : ∃ W, (g.v.getD o.y 0).toNat = W := ⟨_, rfl⟩
  rw [hW] at hvy hvy0
  have iW := (g.v.getD o.y 0).toNat_lt
  rw [hW] at iW
  have ht := fun n => take_any (w.drewN n) b g o f d (h.drew n) (g.v.getD o.y 0)
  have ht0 := take_any w b g o f d h (g.v.getD o.y 0)
  rw [hR] at ht ht0
  obtain ⟨T, hT⟩ : ∃ T, (g.v.getD o.y 0).toNat = T := ⟨_, rfl⟩
  rw [hT] at ht ht0
  rw [hW] at hT
  subst hT
  clear hR eD ho h 
  go_enter Try.func28, Try.ntmps28
  go_wp2_with (first
    | (go_at_call 58; first | (refine ht0.mono ?_; rintro e y ⟨rfl, H⟩; have K : Hid (Below B w y ∧ PB B y b R o f d) := H) | (refine (ht _).mono ?_; rintro e y ⟨rfl, H⟩; have K : Hid (Below B w y ∧ PB B y b R o f d) := ⟨(below_drewN (Below.refl _ _)).trans H.1, H.2⟩))
    | (go_at_call 57; first | (refine hvy0.mono ?_; rintro e y ⟨rfl, m, rfl⟩) | (refine (hvy _).mono ?_; rintro e y ⟨rfl, m, rfl⟩)))
  go_ret
  exact ⟨rfl, K.out.1, fun _ => K.out.2⟩

theorem m_or_any {B : Nat} (w : World) (b : Nat) (g : Gm) (o : Od) (f : Fo) (d : Fd) (h : PB B w b g o f d) (ho : o.op = 12) : Calls Try.prog 29 #[.pointer (some ⟨b, 0, none⟩)] w (MdE B w b o f d (doG g o f d)) := by
  have eD : doG g o f d = (setG (setG g o.x (g.v.getD o.x 0 ||| g.v.getD o.y 0)) 15 0, 1) := by unfold doG; rw [ho]; rfl
  rw [eD]
  obtain ⟨R, hR⟩ : ∃ R, setG (setG g o.x (g.v.getD o.x 0 ||| g.v.getD o.y 0)) 15 0 = R := ⟨_, rfl⟩
  rw [hR]
  have hvx := fun n => vx_any (w.drewN n) b g o f d (h.drew n)
  have hvx0 := vx_any w b g o f d h
  obtain ⟨V, hV⟩ : ∃ V, (g.v.getD o.x 0).toNat = V := ⟨_, rfl⟩
  rw [hV] at hvx hvx0
  have iV := (g.v.getD o.x 0).toNat_lt
  rw [hV] at iV
  have hvy := fun n => vy_any (w.drewN n) b g o f d (h.drew n)
  have hvy0 := vy_any w b g o f d h
  obtain ⟨W, hW⟩ : ∃ W, (g.v.getD o.y 0).toNat = W := ⟨_, rfl⟩
  rw [hW] at hvy hvy0
  have iW := (g.v.getD o.y 0).toNat_lt
  rw [hW] at iW
  have ht := fun n => takeWith_any (w.drewN n) b g o f d (h.drew n) (g.v.getD o.x 0 ||| g.v.getD o.y 0) (false)
  have ht0 := takeWith_any w b g o f d h (g.v.getD o.x 0 ||| g.v.getD o.y 0) (false)
  first | rw [hR] at ht ht0 | (rw [show oneG false = 0 from rfl, hR] at ht ht0)
  obtain ⟨T, hT⟩ : ∃ T, (g.v.getD o.x 0 ||| g.v.getD o.y 0).toNat = T := ⟨_, rfl⟩
  rw [hT] at ht ht0
  have q1 := or8 (g.v.getD o.x 0) (g.v.getD o.y 0)
  rw [hV, hW, hT] at q1
  clear hR eD ho h hV hW hT
  go_enter Try.func29, Try.ntmps29
  go_wp2_with (first
    | (go_at_call 59; first | (refine ht0.mono ?_; rintro e y ⟨rfl, H⟩; have K : Hid (Below B w y ∧ PB B y b R o f d) := H) | (refine (ht _).mono ?_; rintro e y ⟨rfl, H⟩; have K : Hid (Below B w y ∧ PB B y b R o f d) := ⟨(below_drewN (Below.refl _ _)).trans H.1, H.2⟩))
    | (go_at_call 56; first | (refine hvx0.mono ?_; rintro e y ⟨rfl, m, rfl⟩) | (refine (hvx _).mono ?_; rintro e y ⟨rfl, m, rfl⟩))
    | (go_at_call 57; first | (refine hvy0.mono ?_; rintro e y ⟨rfl, m, rfl⟩) | (refine (hvy _).mono ?_; rintro e y ⟨rfl, m, rfl⟩)))
  go_ret
  exact ⟨rfl, K.out.1, fun _ => K.out.2⟩

theorem m_and_any {B : Nat} (w : World) (b : Nat) (g : Gm) (o : Od) (f : Fo) (d : Fd) (h : PB B w b g o f d) (ho : o.op = 13) : Calls Try.prog 30 #[.pointer (some ⟨b, 0, none⟩)] w (MdE B w b o f d (doG g o f d)) := by
  have eD : doG g o f d = (setG (setG g o.x (g.v.getD o.x 0 &&& g.v.getD o.y 0)) 15 0, 1) := by unfold doG; rw [ho]; rfl
  rw [eD]
  obtain ⟨R, hR⟩ : ∃ R, setG (setG g o.x (g.v.getD o.x 0 &&& g.v.getD o.y 0)) 15 0 = R := ⟨_, rfl⟩
  rw [hR]
  have hvx := fun n => vx_any (w.drewN n) b g o f d (h.drew n)
  have hvx0 := vx_any w b g o f d h
  obtain ⟨V, hV⟩ : ∃ V, (g.v.getD o.x 0).toNat = V := ⟨_, rfl⟩
  rw [hV] at hvx hvx0
  have iV := (g.v.getD o.x 0).toNat_lt
  rw [hV] at iV
  have hvy := fun n => vy_any (w.drewN n) b g o f d (h.drew n)
  have hvy0 := vy_any w b g o f d h
  obtain ⟨W, hW⟩ : ∃ W, (g.v.getD o.y 0).toNat = W := ⟨_, rfl⟩
  rw [hW] at hvy hvy0
  have iW := (g.v.getD o.y 0).toNat_lt
  rw [hW] at iW
  have ht := fun n => takeWith_any (w.drewN n) b g o f d (h.drew n) (g.v.getD o.x 0 &&& g.v.getD o.y 0) (false)
  have ht0 := takeWith_any w b g o f d h (g.v.getD o.x 0 &&& g.v.getD o.y 0) (false)
  first | rw [hR] at ht ht0 | (rw [show oneG false = 0 from rfl, hR] at ht ht0)
  obtain ⟨T, hT⟩ : ∃ T, (g.v.getD o.x 0 &&& g.v.getD o.y 0).toNat = T := ⟨_, rfl⟩
  rw [hT] at ht ht0
  have q1 := and8 (g.v.getD o.x 0) (g.v.getD o.y 0)
  rw [hV, hW, hT] at q1
  clear hR eD ho h hV hW hT
  go_enter Try.func30, Try.ntmps30
  go_wp2_with (first
    | (go_at_call 59; first | (refine ht0.mono ?_; rintro e y ⟨rfl, H⟩; have K : Hid (Below B w y ∧ PB B y b R o f d) := H) | (refine (ht _).mono ?_; rintro e y ⟨rfl, H⟩; have K : Hid (Below B w y ∧ PB B y b R o f d) := ⟨(below_drewN (Below.refl _ _)).trans H.1, H.2⟩))
    | (go_at_call 56; first | (refine hvx0.mono ?_; rintro e y ⟨rfl, m, rfl⟩) | (refine (hvx _).mono ?_; rintro e y ⟨rfl, m, rfl⟩))
    | (go_at_call 57; first | (refine hvy0.mono ?_; rintro e y ⟨rfl, m, rfl⟩) | (refine (hvy _).mono ?_; rintro e y ⟨rfl, m, rfl⟩)))
  go_ret
  exact ⟨rfl, K.out.1, fun _ => K.out.2⟩

theorem m_plus_any {B : Nat} (w : World) (b : Nat) (g : Gm) (o : Od) (f : Fo) (d : Fd) (h : PB B w b g o f d) (ho : o.op = 14) : Calls Try.prog 31 #[.pointer (some ⟨b, 0, none⟩)] w (MdE B w b o f d (doG g o f d)) := by
  have eD : doG g o f d = (setG (setG g o.x (g.v.getD o.x 0 + g.v.getD o.y 0)) 15 (oneG (decide (255 < (g.v.getD o.x 0).toNat + (g.v.getD o.y 0).toNat))), 1) := by unfold doG; rw [ho]; rfl
  rw [eD]
  obtain ⟨R, hR⟩ : ∃ R, setG (setG g o.x (g.v.getD o.x 0 + g.v.getD o.y 0)) 15 (oneG (decide (255 < (g.v.getD o.x 0).toNat + (g.v.getD o.y 0).toNat))) = R := ⟨_, rfl⟩
  rw [hR]
  have hvx := fun n => vx_any (w.drewN n) b g o f d (h.drew n)
  have hvx0 := vx_any w b g o f d h
  obtain ⟨V, hV⟩ : ∃ V, (g.v.getD o.x 0).toNat = V := ⟨_, rfl⟩
  rw [hV] at hvx hvx0
  have iV := (g.v.getD o.x 0).toNat_lt
  rw [hV] at iV
  have hvy := fun n => vy_any (w.drewN n) b g o f d (h.drew n)
  have hvy0 := vy_any w b g o f d h
  obtain ⟨W, hW⟩ : ∃ W, (g.v.getD o.y 0).toNat = W := ⟨_, rfl⟩
  rw [hW] at hvy hvy0
  have iW := (g.v.getD o.y 0).toNat_lt
  rw [hW] at iW
  have ht := fun n => takeWith_any (w.drewN n) b g o f d (h.drew n) (g.v.getD o.x 0 + g.v.getD o.y 0) (decide (255 < (g.v.getD o.x 0).toNat + (g.v.getD o.y 0).toNat))
  have ht0 := takeWith_any w b g o f d h (g.v.getD o.x 0 + g.v.getD o.y 0) (decide (255 < (g.v.getD o.x 0).toNat + (g.v.getD o.y 0).toNat))
  first | rw [hR] at ht ht0 | (rw [show oneG false = 0 from rfl, hR] at ht ht0)
  obtain ⟨T, hT⟩ : ∃ T, (g.v.getD o.x 0 + g.v.getD o.y 0).toNat = T := ⟨_, rfl⟩
  rw [hT] at ht ht0
  have q1 := add8 (g.v.getD o.x 0) (g.v.getD o.y 0)
  rw [hV, hW, hT] at q1
  have q2 : IntKind.u8.wrap ((V : Int) + (W : Int)) = (T : Int) := by rw [IntKind.wrap_u8]; exact q1
  obtain ⟨z, hz⟩ : ∃ z, decide (255 < V + W) = z := ⟨_, rfl⟩
  have q3 : decide (T < V) = z := by rw [← hz, decide_eq_decide]; omega
  have q4 : decide ((T : Int) < (V : Int)) = z := by rw [← hz, decide_eq_decide]; omega
  have iT : T < 256 := by omega
  rw [hV, hW, hz] at ht ht0
  clear hR eD ho h hV hW hT hz
  go_enter Try.func31, Try.ntmps31
  go_wp2_with (first
    | (go_at_call 59; first | (refine ht0.mono ?_; rintro e y ⟨rfl, H⟩; have K : Hid (Below B w y ∧ PB B y b R o f d) := H) | (refine (ht _).mono ?_; rintro e y ⟨rfl, H⟩; have K : Hid (Below B w y ∧ PB B y b R o f d) := ⟨(below_drewN (Below.refl _ _)).trans H.1, H.2⟩))
    | (go_at_call 56; first | (refine hvx0.mono ?_; rintro e y ⟨rfl, m, rfl⟩) | (refine (hvx _).mono ?_; rintro e y ⟨rfl, m, rfl⟩))
    | (go_at_call 57; first | (refine hvy0.mono ?_; rintro e y ⟨rfl, m, rfl⟩) | (refine (hvy _).mono ?_; rintro e y ⟨rfl, m, rfl⟩)))
  go_ret
  exact ⟨rfl, K.out.1, fun _ => K.out.2⟩

theorem m_minus_any {B : Nat} (w : World) (b : Nat) (g : Gm) (o : Od) (f : Fo) (d : Fd) (h : PB B w b g o f d) (ho : o.op = 15) : Calls Try.prog 32 #[.pointer (some ⟨b, 0, none⟩)] w (MdE B w b o f d (doG g o f d)) := by
  have eD : doG g o f d = (setG (setG g o.x (g.v.getD o.x 0 - g.v.getD o.y 0)) 15 (oneG (decide ((g.v.getD o.y 0).toNat ≤ (g.v.getD o.x 0).toNat))), 1) := by unfold doG; rw [ho]; rfl
  rw [eD]
  obtain ⟨R, hR⟩ : ∃ R, setG (setG g o.x (g.v.getD o.x 0 - g.v.getD o.y 0)) 15 (oneG (decide ((g.v.getD o.y 0).toNat ≤ (g.v.getD o.x 0).toNat))) = R := ⟨_, rfl⟩
  rw [hR]
  have hvx := fun n => vx_any (w.drewN n) b g o f d (h.drew n)
  have hvx0 := vx_any w b g o f d h
  obtain ⟨V, hV⟩ : ∃ V, (g.v.getD o.x 0).toNat = V := ⟨_, rfl⟩
  rw [hV] at hvx hvx0
  have iV := (g.v.getD o.x 0).toNat_lt
  rw [hV] at iV
  have hvy := fun n => vy_any (w.drewN n) b g o f d (h.drew n)
  have hvy0 := vy_any w b g o f d h
  obtain ⟨W, hW⟩ : ∃ W, (g.v.getD o.y 0).toNat = W := ⟨_, rfl⟩
  rw [hW] at hvy hvy0
  have iW := (g.v.getD o.y 0).toNat_lt
  rw [hW] at iW
  have ht := fun n => takeWith_any (w.drewN n) b g o f d (h.drew n) (g.v.getD o.x 0 - g.v.getD o.y 0) (decide ((g.v.getD o.y 0).toNat ≤ (g.v.getD o.x 0).toNat))
  have ht0 := takeWith_any w b g o f d h (g.v.getD o.x 0 - g.v.getD o.y 0) (decide ((g.v.getD o.y 0).toNat ≤ (g.v.getD o.x 0).toNat))
  first | rw [hR] at ht ht0 | (rw [show oneG false = 0 from rfl, hR] at ht ht0)
  obtain ⟨T, hT⟩ : ∃ T, (g.v.getD o.x 0 - g.v.getD o.y 0).toNat = T := ⟨_, rfl⟩
  rw [hT] at ht ht0
  have q1 := sub8 (g.v.getD o.x 0) (g.v.getD o.y 0)
  rw [hV, hW, hT] at q1
  have q2 : IntKind.u8.wrap ((V : Int) - (W : Int)) = (T : Int) := by rw [IntKind.wrap_u8]; exact q1
  obtain ⟨z, hz⟩ : ∃ z, decide (W ≤ V) = z := ⟨_, rfl⟩
  have q4 : decide ((W : Int) ≤ (V : Int)) = z := by rw [← hz, decide_eq_decide]; omega
  rw [hV, hW, hz] at ht ht0
  clear hR eD ho h hV hW hT
  go_enter Try.func32, Try.ntmps32
  go_wp2_with (first
    | (go_at_call 59; first | (refine ht0.mono ?_; rintro e y ⟨rfl, H⟩; have K : Hid (Below B w y ∧ PB B y b R o f d) := H) | (refine (ht _).mono ?_; rintro e y ⟨rfl, H⟩; have K : Hid (Below B w y ∧ PB B y b R o f d) := ⟨(below_drewN (Below.refl _ _)).trans H.1, H.2⟩))
    | (go_at_call 56; first | (refine hvx0.mono ?_; rintro e y ⟨rfl, m, rfl⟩) | (refine (hvx _).mono ?_; rintro e y ⟨rfl, m, rfl⟩))
    | (go_at_call 57; first | (refine hvy0.mono ?_; rintro e y ⟨rfl, m, rfl⟩) | (refine (hvy _).mono ?_; rintro e y ⟨rfl, m, rfl⟩)))
  go_ret
  exact ⟨rfl, K.out.1, fun _ => K.out.2⟩

theorem m_random_any {B : Nat} (w : World) (b : Nat) (g : Gm) (o : Od) (f : Fo) (d : Fd) (h : PB B w b g o f d) (ho : o.op = 19) : Calls Try.prog 36 #[.pointer (some ⟨b, 0, none⟩)] w (MdE B w b o f d (doG g o f d)) := by
  have eD : doG g o f d = (setG g o.x (d.rn &&& UInt8.ofNat o.b), 1) := by unfold doG; rw [ho]; rfl
  rw [eD]
  obtain ⟨R, hR⟩ : ∃ R, setG g o.x (d.rn &&& UInt8.ofNat o.b) = R := ⟨_, rfl⟩
  rw [hR]
  have cb := h.cb
  have ib := h.oo.b
  have oB := ofB h.oo.b
  obtain ⟨Bt, hBt⟩ : ∃ Bt, o.b = Bt := ⟨_, rfl⟩
  rw [hBt] at cb ib
  have ht := fun n => take_any (w.drewN n) b g o f d (h.drew n) (d.rn &&& UInt8.ofNat o.b)
  have ht0 := take_any w b g o f d h (d.rn &&& UInt8.ofNat o.b)
  rw [hR] at ht ht0
  obtain ⟨T, hT⟩ : ∃ T, (d.rn &&& UInt8.ofNat o.b).toNat = T := ⟨_, rfl⟩
  rw [hT] at ht ht0
  have cr := h.crn
  have q1 := and8 d.rn (UInt8.ofNat o.b)
  rw [hT, oB, hBt] at q1
  obtain ⟨N, hN⟩ : ∃ N, d.rn.toNat = N := ⟨_, rfl⟩
  rw [hN] at cr q1
  clear hR eD ho h hBt oB hT hN
  go_enter Try.func36, Try.ntmps36
  go_wp2
  refine region_class_tail 12 (fun y => ∃ n, y = w.drewN n) (by kernel_rfl) (by kernel_rfl) ⟨1, rfl⟩ ?_
  dsimp only [List.take, List.drop]
  repeat (go_big_quiet_step (fail))
  refine wpQuiet_nil ?_
  rintro _ ⟨nq, rfl⟩
  go_wp2_with (first
    | (go_at_call 58; first | (refine ht0.mono ?_; rintro e y ⟨rfl, H⟩; have K : Hid (Below B w y ∧ PB B y b R o f d) := H) | (refine (ht _).mono ?_; rintro e y ⟨rfl, H⟩; have K : Hid (Below B w y ∧ PB B y b R o f d) := ⟨(below_drewN (Below.refl _ _)).trans H.1, H.2⟩)))
  go_ret
  exact ⟨rfl, K.out.1, fun _ => K.out.2⟩

theorem m_timer_any {B : Nat} (w : World) (b : Nat) (g : Gm) (o : Od) (f : Fo) (d : Fd) (h : PB B w b g o f d) (ho : o.op = 23) : Calls Try.prog 40 #[.pointer (some ⟨b, 0, none⟩)] w (MdE B w b o f d (doG g o f d)) := by
  have eD : doG g o f d = (setG g o.x g.de, 1) := by unfold doG; rw [ho]; rfl
  rw [eD]
  obtain ⟨R, hR⟩ : ∃ R, setG g o.x g.de = R := ⟨_, rfl⟩
  rw [hR]
  have ht := fun n => take_any (w.drewN n) b g o f d (h.drew n) (g.de)
  have ht0 := take_any w b g o f d h (g.de)
  rw [hR] at ht ht0
  obtain ⟨T, hT⟩ : ∃ T, (g.de).toNat = T := ⟨_, rfl⟩
  rw [hT] at ht ht0
  have cd := h.cde
  rw [hT] at cd
  clear hR eD ho h hT
  go_enter Try.func40, Try.ntmps40
  go_wp2_with (first
    | (go_at_call 58; first | (refine ht0.mono ?_; rintro e y ⟨rfl, H⟩; have K : Hid (Below B w y ∧ PB B y b R o f d) := H) | (refine (ht _).mono ?_; rintro e y ⟨rfl, H⟩; have K : Hid (Below B w y ∧ PB B y b R o f d) := ⟨(below_drewN (Below.refl _ _)).trans H.1, H.2⟩)))
  go_ret
  exact ⟨rfl, K.out.1, fun _ => K.out.2⟩

theorem m_point_any {B : Nat} (w : World) (b : Nat) (g : Gm) (o : Od) (f : Fo) (d : Fd) (h : PB B w b g o f d) (ho : o.op = 17) : Calls Try.prog 34 #[.pointer (some ⟨b, 0, none⟩)] w (MdE B w b o f d (doG g o f d)) := by
  have eD : doG g o f d = ({ g with i := o.a }, 1) := by unfold doG; rw [ho]; rfl
  rw [eD]
  obtain ⟨R, hR⟩ : ∃ R, { g with i := o.a } = R := ⟨_, rfl⟩
  rw [hR]
  have ca := h.ca
  have ia := h.oo.a
  obtain ⟨At, hAt⟩ : ∃ At, o.a = At := ⟨_, rfl⟩
  rw [hAt] at ca ia
  have ht := fun n => pointTo_any (w.drewN n) b g o f d (h.drew n) (o.a) (h.oo.a)
  have ht0 := pointTo_any w b g o f d h (o.a) (h.oo.a)
  rw [hR] at ht ht0
  rw [hAt] at ht ht0
  clear hR eD ho h hAt
  go_enter Try.func34, Try.ntmps34
  go_wp2_with (first
    | (go_at_call 60; first | (refine ht0.mono ?_; rintro e y ⟨rfl, H⟩; have K : Hid (Below B w y ∧ PB B y b R o f d) := H) | (refine (ht _).mono ?_; rintro e y ⟨rfl, H⟩; have K : Hid (Below B w y ∧ PB B y b R o f d) := ⟨(below_drewN (Below.refl _ _)).trans H.1, H.2⟩)))
  go_ret
  exact ⟨rfl, K.out.1, fun _ => K.out.2⟩

theorem m_on_any {B : Nat} (w : World) (b : Nat) (g : Gm) (o : Od) (f : Fo) (d : Fd) (h : PB B w b g o f d) (ho : o.op = 27) : Calls Try.prog 44 #[.pointer (some ⟨b, 0, none⟩)] w (MdE B w b o f d (doG g o f d)) := by
  have eD : doG g o f d = ({ g with i := (g.i + (g.v.getD o.x 0).toNat) % 65536 }, 1) := by unfold doG; rw [ho]; rfl
  rw [eD]
  obtain ⟨R, hR⟩ : ∃ R, { g with i := (g.i + (g.v.getD o.x 0).toNat) % 65536 } = R := ⟨_, rfl⟩
  rw [hR]
  have hvx := fun n => vx_any (w.drewN n) b g o f d (h.drew n)
  have hvx0 := vx_any w b g o f d h
  obtain ⟨V, hV⟩ : ∃ V, (g.v.getD o.x 0).toNat = V := ⟨_, rfl⟩
  rw [hV] at hvx hvx0
  have iV := (g.v.getD o.x 0).toNat_lt
  rw [hV] at iV
  have ht := fun n => pointTo_any (w.drewN n) b g o f d (h.drew n) ((g.i + (g.v.getD o.x 0).toNat) % 65536) (by omega)
  have ht0 := pointTo_any w b g o f d h ((g.i + (g.v.getD o.x 0).toNat) % 65536) (by omega)
  rw [hR] at ht ht0
  have ci := h.ci
  have ii := h.ok.i
  obtain ⟨I, hI⟩ : ∃ I, g.i = I := ⟨_, rfl⟩
  obtain ⟨T, hT⟩ : ∃ T, (g.i + (g.v.getD o.x 0).toNat) % 65536 = T := ⟨_, rfl⟩
  rw [hT] at ht ht0
  rw [hV, hI] at hT
  rw [hI] at ci ii
  have q1 : ((I : Int) + (V : Int)) % 65536 = (T : Int) := by omega
  have q2 : IntKind.u16.wrap ((I : Int) + (V : Int)) = (T : Int) := by rw [IntKind.wrap_u16]; exact q1
  have i1 : (I : Int) < 65536 := by omega
  have i2 : (V : Int) < 256 := by omega
  clear hR eD ho h hI hV hT
  go_enter Try.func44, Try.ntmps44
  go_wp2
  refine region_class_tail 10 (fun y => ∃ n, y = w.drewN n) (by kernel_rfl) (by kernel_rfl) ⟨1, rfl⟩ ?_
  dsimp only [List.take, List.drop]
  repeat (go_big_quiet_step (first
    | (go_at_call 56; exact Calls.quiet_of (hvx _))))
  refine wpQuiet_nil ?_
  rintro _ ⟨nq, rfl⟩
  go_wp2_with (first
    | (go_at_call 60; first | (refine ht0.mono ?_; rintro e y ⟨rfl, H⟩; have K : Hid (Below B w y ∧ PB B y b R o f d) := H) | (refine (ht _).mono ?_; rintro e y ⟨rfl, H⟩; have K : Hid (Below B w y ∧ PB B y b R o f d) := ⟨(below_drewN (Below.refl _ _)).trans H.1, H.2⟩)))
  go_ret
  exact ⟨rfl, K.out.1, fun _ => K.out.2⟩

theorem m_digit_any {B : Nat} (w : World) (b : Nat) (g : Gm) (o : Od) (f : Fo) (d : Fd) (h : PB B w b g o f d) (ho : o.op = 28) : Calls Try.prog 45 #[.pointer (some ⟨b, 0, none⟩)] w (MdE B w b o f d (doG g o f d)) := by
  have eD : doG g o f d = ({ g with i := f.pl.getD ((g.v.getD o.x 0).toNat % 16) 0 }, 1) := by unfold doG; rw [ho]; rfl
  rw [eD]
  obtain ⟨R, hR⟩ : ∃ R, { g with i := f.pl.getD ((g.v.getD o.x 0).toNat % 16) 0 } = R := ⟨_, rfl⟩
  rw [hR]
  have hdg := fun n => digitOfVX_any (w.drewN n) b g o f d (h.drew n)
  obtain ⟨Q, hQ⟩ : ∃ Q, (g.v.getD o.x 0).toNat % 16 = Q := ⟨_, rfl⟩
  have iQ : Q < 16 := by omega
  rw [hQ] at hdg hR
  have cp := h.cpl Q iQ
  have ha : f.pl.getD Q 0 < 65536 := h.fo.pl _ (by rw [List.getD_eq_getElem?_getD, List.getElem?_eq_getElem (by rw [h.fo.n]; exact iQ)]; exact List.getElem_mem _)
  have ix := fun v => idxPl b .u8 Q v iQ
  have ht := fun n => pointTo_any (w.drewN n) b g o f d (h.drew n) (f.pl.getD Q 0) (ha)
  have ht0 := pointTo_any w b g o f d h (f.pl.getD Q 0) (ha)
  rw [hR] at ht ht0
  obtain ⟨T, hT⟩ : ∃ T, f.pl.getD Q 0 = T := ⟨_, rfl⟩
  rw [hT] at ht ht0 cp ha
  clear hR eD ho h hQ hT
  go_enter Try.func45, Try.ntmps45
  go_wp2
  refine region_class_tail 9 (fun y => ∃ n, y = w.drewN n) (by kernel_rfl) (by kernel_rfl) ⟨1, rfl⟩ ?_
  dsimp only [List.take, List.drop]
  repeat (go_big_quiet_step (first
    | (go_at_call 65; exact Calls.quiet_of (hdg _))))
  refine wpQuiet_nil ?_
  rintro _ ⟨nq, rfl⟩
  go_wp2_with (first
    | (go_at_call 60; first | (refine ht0.mono ?_; rintro e y ⟨rfl, H⟩; have K : Hid (Below B w y ∧ PB B y b R o f d) := H) | (refine (ht _).mono ?_; rintro e y ⟨rfl, H⟩; have K : Hid (Below B w y ∧ PB B y b R o f d) := ⟨(below_drewN (Below.refl _ _)).trans H.1, H.2⟩)))
  go_ret
  exact ⟨rfl, K.out.1, fun _ => K.out.2⟩

theorem m_key_any {B : Nat} (w : World) (b : Nat) (g : Gm) (o : Od) (f : Fo) (d : Fd) (h : PB B w b g o f d) (ho : o.op = 24) (hk : d.ky ≤ 15) : Calls Try.prog 41 #[.pointer (some ⟨b, 0, none⟩)] w (MdE B w b o f d (doG g o f d)) := by
  have eD : doG g o f d = if d.ky < 0 then (g, 2) else (setG g o.x (UInt8.ofNat d.ky.toNat), 1) := by unfold doG; rw [ho]; rfl
  rw [eD]
  have ck := h.cky
  have rk := h.dk.ky
  obtain ⟨K, hK⟩ : ∃ K, d.ky = K := ⟨_, rfl⟩
  rw [hK] at ck hk rk
  rw [hK]
  by_cases c : K < 0
  · rw [if_pos c]
    have q1 : decide (K < 0) = true := by simp; omega
    have h0 : Hid (PB B w b g o f d) := h
    clear eD ho h hK
    go_enter Try.func41, Try.ntmps41
    go_wp2
    go_ret
    exact ⟨rfl, Below.refl _ _, fun e => by cases e⟩
  · rw [if_neg c]
    have q1 : decide (K < 0) = false := by simp; omega
    have ht0 := take_any w b g o f d h (UInt8.ofNat K.toNat)
    obtain ⟨T, hT⟩ : ∃ T, (UInt8.ofNat K.toNat).toNat = T := ⟨_, rfl⟩
    rw [hT] at ht0
    rw [ofB (by omega)] at hT
    have q2 : IntKind.u8.wrap K = (T : Int) := by rw [IntKind.wrap_u8]; omega
    have q3 : K % 256 = (T : Int) := by omega
    obtain ⟨R, hR⟩ : ∃ R, setG g o.x (UInt8.ofNat K.toNat) = R := ⟨_, rfl⟩
    rw [hR]
    rw [hR] at ht0
    clear eD ho h hK hT hR
    go_enter Try.func41, Try.ntmps41
    go_wp2_with (go_at_call 58; refine ht0.mono ?_; rintro e y ⟨rfl, H⟩; have K2 : Hid (Below B w y ∧ PB B y b R o f d) := H)
    go_ret
    exact ⟨rfl, K2.out.1, fun _ => K2.out.2⟩

theorem m_delay_any {B : Nat} (w : World) (b : Nat) (g : Gm) (o : Od) (f : Fo) (d : Fd) (h : PB B w b g o f d) (ho : o.op = 25) : Calls Try.prog 42 #[.pointer (some ⟨b, 0, none⟩)] w (MdE B w b o f d (doG g o f d)) := by
  have eD : doG g o f d = ({ g with de := g.v.getD o.x 0 }, 1) := by unfold doG; rw [ho]; rfl
  rw [eD]
  have hvx0 := vx_any w b g o f d h
  have hs : Hid (∀ n, PB B ((w.drewN n).setCell ⟨b, 19, none⟩ (.int .u8 ((g.v.getD o.x 0).toNat : Int))) b { g with de := g.v.getD o.x 0 } o f d ∧ Below B (w.drewN n) ((w.drewN n).setCell ⟨b, 19, none⟩ (.int .u8 ((g.v.getD o.x 0).toNat : Int)))) := fun n => (h.drew n).setDe _
  have c1 := h.cde
  have z1 := h.fz 19
  obtain ⟨V, hV⟩ : ∃ V, (g.v.getD o.x 0).toNat = V := ⟨_, rfl⟩
  rw [hV] at hvx0 hs
  obtain ⟨R, hR⟩ : ∃ R, { g with de := g.v.getD o.x 0 } = R := ⟨_, rfl⟩
  rw [hR] at hs
  rw [hR]
  clear eD ho h hV hR
  go_enter Try.func42, Try.ntmps42
  go_wp2_with (go_at_call 56; refine hvx0.mono ?_; rintro e y ⟨rfl, m, rfl⟩)
  go_ret
  exact ⟨rfl, (below_drewN (Below.refl _ _)).trans (hs.out m).2, fun _ => (hs.out m).1⟩

theorem m_sound_any {B : Nat} (w : World) (b : Nat) (g : Gm) (o : Od) (f : Fo) (d : Fd) (h : PB B w b g o f d) (ho : o.op = 26) : Calls Try.prog 43 #[.pointer (some ⟨b, 0, none⟩)] w (MdE B w b o f d (doG g o f d)) := by
  have eD : doG g o f d = ({ g with so := g.v.getD o.x 0 }, 1) := by unfold doG; rw [ho]; rfl
  rw [eD]
  have hvx0 := vx_any w b g o f d h
  have hs : Hid (∀ n, PB B ((w.drewN n).setCell ⟨b, 20, none⟩ (.int .u8 ((g.v.getD o.x 0).toNat : Int))) b { g with so := g.v.getD o.x 0 } o f d ∧ Below B (w.drewN n) ((w.drewN n).setCell ⟨b, 20, none⟩ (.int .u8 ((g.v.getD o.x 0).toNat : Int)))) := fun n => (h.drew n).setSo _
  have c1 := h.cso
  have z1 := h.fz 20
  obtain ⟨V, hV⟩ : ∃ V, (g.v.getD o.x 0).toNat = V := ⟨_, rfl⟩
  rw [hV] at hvx0 hs
  obtain ⟨R, hR⟩ : ∃ R, { g with so := g.v.getD o.x 0 } = R := ⟨_, rfl⟩
  rw [hR] at hs
  rw [hR]
  clear eD ho h hV hR
  go_enter Try.func43, Try.ntmps43
  go_wp2_with (go_at_call 56; refine hvx0.mono ?_; rintro e y ⟨rfl, m, rfl⟩)
  go_ret
  exact ⟨rfl, (below_drewN (Below.refl _ _)).trans (hs.out m).2, fun _ => (hs.out m).1⟩

end Go.Proofs.Ytfkifppadngmdaa
