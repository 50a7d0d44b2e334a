/- A game that is worked on: registers stored and filled. -/
import Derived.Test.YtfkifppadngmdaaG21
namespace Go.Proofs.Ytfkifppadngmdaa
open Go Go.RowKit Go.Shelf
set_option linter.unusedVariables false
set_option maxHeartbeats 1000000
set_option maxRecDepth 20000

theorem slA (b n : Nat) (h : n ≤ 16) (v : World) : (Instr.sliceAt 25 (.pointer (some ⟨b, 0, none⟩)) none (some (.int .i64 (n : Int))) none).run Try.prog v = .ok (.slice (some ⟨b, 0, none⟩) n 16) v := by
  have hu : Try.prog.underlying 25 = some (.array (Try.prog.arrayLen 25) (Try.prog.elem 25)) := by kernel_rfl
  have h16 : Try.prog.arrayLen 25 = 16 := by kernel_rfl
  rw [run_sliceAt_array_h v _ ⟨b, 0, none⟩ hu .i64 (n : Int) (by omega) (by rw [h16]; omega)]
  have hz : ∀ v, (sizeOf (Try.prog.elem 25)).run Try.prog v = .ok 1 v := fun v => by kernel_rfl
  rw [hz]
  simp [slicedAt, h16, Addr.add_lit]
theorem slAll (b : Nat) (v : World) : (Instr.sliceAt 25 (.pointer (some ⟨b, 0, none⟩)) none none none).run Try.prog v = .ok (.slice (some ⟨b, 0, none⟩) 16 16) v := by
  have hu : Try.prog.underlying 25 = some (.array (Try.prog.arrayLen 25) (Try.prog.elem 25)) := by kernel_rfl
  have h16 : Try.prog.arrayLen 25 = 16 := by kernel_rfl
  rw [run_sliceAt_array_all v _ ⟨b, 0, none⟩ hu]
  have hz : ∀ v, (sizeOf (Try.prog.elem 25)).run Try.prog v = .ok 1 v := fun v => by kernel_rfl
  rw [hz]
  simp [slicedAt, h16, Addr.add_lit]
/-- I goes on by so many, behind. -/
theorem m_store_any {B : Nat} (w : World) (b : Nat) (g : Gm) (o : Od) (f : Fo) (d : Fd) (h : PB B w b g o f d) (ho : o.op = 30) : Calls Try.prog 47 #[.pointer (some ⟨b, 0, none⟩)] w (MdE B w b o f d (doG g o f d)) := by
  have eD : doG g o f d = if fitG g.i (o.x + 1) then ({ g with me := wr g.me (g.i - 512) g.v (o.x + 1), i := (g.i + (o.x + 1)) % 65536 }, 1) else (g, 7) := by unfold doG; rw [ho]; rfl
  rw [eD]
  have hx := h.oo.x
  have hm := may_iff.1 h.may
  have hv := h.ok.v
  have ii := h.ok.i
  have hL : (g.v.take (o.x + 1)).length = o.x + 1 := by simp; omega
  have hcnt := fun n => count_any (w.drewN n) b g o f d (h.drew n)
  have hwr := fun n => write_any (w.drewN n) b g o f d (h.drew n) ⟨b, 0, none⟩ (g.v.take (o.x + 1)) 16 (o.x + 1) hL (by omega) (by omega) (fun j v hj => by
    rw [Addr.add_lit, Nat.zero_add]
    have hj2 : j < o.x + 1 := by have := (List.getElem?_eq_some_iff.1 hj).1; rw [List.length_map, hL] at this; exact this
    have e1 := h.cv j (by omega)
    rw [List.getElem?_map, List.getElem?_take, if_pos hj2, List.getElem?_eq_getElem (by omega)] at hj
    injection hj with hj
    rw [← hj]
    rw [List.getD_eq_getElem?_getD, List.getElem?_eq_getElem (by omega)] at e1
    exact e1)
  rcases hf : fitG g.i (o.x + 1) with _ | _
  · simp only [hf] at hwr
    rw [if_neg (by decide)]
    obtain ⟨N, hN⟩ : ∃ N, o.x + 1 = N := ⟨_, rfl⟩
    simp only [hN] at hwr hcnt
    have hs := fun v => slA b N (by omega) v
    have i1 : (N : Int) ≤ 16 := by omega
    clear eD h ho hx hm hv ii hL hf hN
    go_enter Try.func47, Try.ntmps47
    go_wp2
    refine region_class_tail 8 (fun y => ∃ n, y = w.drewN n) (by kernel_rfl) (by kernel_rfl) ⟨1, rfl⟩ ?_
    dsimp only [List.take, List.drop]
    repeat (go_big_quiet_step ((go_at_call 67; exact Calls.quiet_of (hcnt _))))
    refine wpQuiet_nil ?_
    rintro _ ⟨nq, rfl⟩
    go_wp2_with (go_at_call 66; refine (hwr _).mono ?_; rintro e y1 ⟨rfl, H1⟩)
    go_ret
    exact ⟨rfl, (below_drewN (Below.refl _ _)).trans H1.out.1, fun e => by cases e⟩
  · simp only [hf] at hwr
    rw [if_pos rfl]
    have hfi : 512 ≤ g.i ∧ g.i + (o.x + 1) ≤ 3744 := by unfold fitG at hf; simpa using hf
    rw [← wr_take g.me (g.i - 512) g.v (o.x + 1) (by omega) (by rw [hm.2.1]; omega)] at hwr
    obtain ⟨R1, hR1⟩ : ∃ R1, { g with me := wr g.me (g.i - 512) g.v (o.x + 1) } = R1 := ⟨_, rfl⟩
    simp only [hR1] at hwr
    obtain ⟨T, hT⟩ : ∃ T, (g.i + (o.x + 1)) % 65536 = T := ⟨_, rfl⟩
    have hpt : Hid (∀ y, PB B y b R1 o f d → (y.cell? ⟨b, 16, none⟩ = some (.int .u16 (g.i : Int)) ∧ (∀ n, Calls Try.prog 67 #[.pointer (some ⟨b, 0, none⟩)] (y.drewN n) fun e w' => e = .returned (.int .i64 ((o.x + 1 : Nat) : Int)) ∧ ∃ m, w' = (y.drewN n).drewN m) ∧ ∀ n, Calls Try.prog 60 #[.pointer (some ⟨b, 0, none⟩), .int .u16 (T : Int)] (y.drewN n) fun e w' => e = .returned (.int .u8 1) ∧ Below B (y.drewN n) w' ∧ PB B w' b { R1 with i := T } o f d)) := fun y hy => ⟨by have := hy.ci; rw [← hR1] at this; exact this, fun n => count_any (y.drewN n) b _ o f d (hy.drew n), fun n => pointTo_any (y.drewN n) b _ o f d (hy.drew n) T (by omega)⟩
    have eR : { g with me := wr g.me (g.i - 512) g.v (o.x + 1), i := (g.i + (o.x + 1)) % 65536 } = { R1 with i := T } := by rw [← hR1, ← hT]
    rw [eR]
    obtain ⟨R, hR⟩ : ∃ R, { R1 with i := T } = R := ⟨_, rfl⟩
    rw [hR]
    simp only [hR] at hpt
    obtain ⟨I, hI⟩ : ∃ I, g.i = I := ⟨_, rfl⟩
    obtain ⟨N, hN⟩ : ∃ N, o.x + 1 = N := ⟨_, rfl⟩
    simp only [hN] at hwr hcnt hpt
    simp only [hI] at hpt
    rw [hI, hN] at hT
    have hs := fun v => slA b N (by omega) v
    have i1 : (N : Int) ≤ 16 := by omega
    have i2 : (I : Int) < 65536 := by omega
    have q1 : ((I : Int) + (N : Int)) % 65536 = (T : Int) := by omega
    have q2 : IntKind.u16.wrap ((I : Int) + (N : Int)) = (T : Int) := by rw [IntKind.wrap_u16]; exact q1
    clear eD h ho hx hm hv ii hL hf hN hI hT eR hR hR1 hfi
    go_enter Try.func47, Try.ntmps47
    go_wp2
    refine region_class_tail 8 (fun y => ∃ n, y = w.drewN n) (by kernel_rfl) (by kernel_rfl) ⟨1, rfl⟩ ?_
    dsimp only [List.take, List.drop]
    repeat (go_big_quiet_step ((go_at_call 67; exact Calls.quiet_of (hcnt _))))
    refine wpQuiet_nil ?_
    rintro _ ⟨nq, rfl⟩
    go_wp2_with (go_at_call 66; refine (hwr _).mono ?_; rintro e y1 ⟨rfl, H1⟩; obtain ⟨d1, d2, d3⟩ := hpt.out y1 (H1.out.2 (by first | trivial | rfl)); have H2 : Hid (Below B w y1) := (below_drewN (Below.refl _ _)).trans H1.out.1; clear H1 hpt hwr hcnt)
    refine region_class_tail 10 (fun y => ∃ n, y = y1.drewN n) (by kernel_rfl) (by kernel_rfl) ⟨1, rfl⟩ ?_
    dsimp only [List.take, List.drop]
    repeat (go_big_quiet_step ((go_at_call 67; exact Calls.quiet_of (d2 _))))
    refine wpQuiet_nil ?_
    rintro _ ⟨nq2, rfl⟩
    go_wp2_with (go_at_call 60; refine (d3 _).mono ?_; rintro e y2 ⟨rfl, H3⟩; have K : Hid (Below B w y2 ∧ PB B y2 b R o f d) := ⟨H2.out.trans ((below_drewN (Below.refl _ _)).trans H3.1), H3.2⟩)
    go_ret
    exact ⟨rfl, K.out.1, fun _ => K.out.2⟩
end Go.Proofs.Ytfkifppadngmdaa
