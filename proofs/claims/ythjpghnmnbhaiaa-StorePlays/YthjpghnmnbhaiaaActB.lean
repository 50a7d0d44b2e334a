/- The law's own act: the other kinds, and all of them. -/
import Derived.Test.YthjpghnmnbhaiaaActA
namespace Go.Proofs.Ythjpghnmnbhaiaa
open Go Go.RowKit
set_option linter.unusedVariables false
set_option maxHeartbeats 1000000
set_option maxRecDepth 20000

section
variable (w x : World) (g r m f : Nat) (S : St) (ot : Bool) (p : Int) (a : Nat) (b : Int) (on : Bool) (sp : Option Addr) (len cap : Nat) (Y : Nat → Int)

theorem act_4 (h : Two w x g r m f S S) :
    Calls Try.prog 16 #[.pointer (some ⟨g, 0, none⟩), .pointer (some ⟨r, 0, none⟩), .agg (actA 4 ot p a b on sp len cap)] x fun e y => ActOk w x g r m f e y := by
  have K : Hid (Bx w x (actA 4 ot p a b on sp len cap) g r m f S S (x.alloc (.cells (actA 4 ot p a b on sp len cap) 39))) := Bx.start h
  clear h
  unfold actA at K ⊢
  go_enter Try.func16, Try.ntmps16
  go_wp2_with (first
    | (go_at_call 27; refine (b_setLatch w x _ g r m f S S _ K on).mono ?_; rintro e y1 ⟨⟨v, rfl⟩, K1⟩; have d5 : y1.cell? ⟨x.heap.size, 5, none⟩ = some (.bool on) := K1.out.box 5 _ rfl)
    | (go_at_call 28; refine (b_rsetLatch w x _ g r m f _ S _ K1 on).mono ?_; rintro e y2 ⟨⟨v2, rfl⟩, K2⟩))
  go_ret
  exact ActOk.of K2.out

theorem act_5 (h : Two w x g r m f S S) :
    Calls Try.prog 16 #[.pointer (some ⟨g, 0, none⟩), .pointer (some ⟨r, 0, none⟩), .agg (actA 5 ot p a b on sp len cap)] x fun e y => ActOk w x g r m f e y := by
  have K : Hid (Bx w x (actA 5 ot p a b on sp len cap) g r m f S S (x.alloc (.cells (actA 5 ot p a b on sp len cap) 39))) := Bx.start h
  clear h
  unfold actA at K ⊢
  obtain ⟨q, hq⟩ : ∃ q, Hid (S.on = q) := ⟨_, (rfl : S.on = S.on)⟩
  go_enter Try.func16, Try.ntmps16
  go_wp2_with (first
    | (go_at_call 22; refine (b_latch w x _ g r m f S S _ K).mono ?_; rintro e y1 ⟨rfl, K1⟩; rw [hq.out])
    | (go_at_call 23; refine (b_rlatch w x _ g r m f S S _ K1).mono ?_; rintro e y2 ⟨rfl, K2⟩; rw [hq.out]))
  go_ret
  have e : (q == q) = true := by simp
  first | exact ActOk.of K2.out | (simp; exact ActOk.of K2.out)

theorem act_6 (h : Two w x g r m f S S) :
    Calls Try.prog 16 #[.pointer (some ⟨g, 0, none⟩), .pointer (some ⟨r, 0, none⟩), .agg (actA 6 ot p a b on sp len cap)] x fun e y => ActOk w x g r m f e y := by
  have K : Hid (Bx w x (actA 6 ot p a b on sp len cap) g r m f S S (x.alloc (.cells (actA 6 ot p a b on sp len cap) 39))) := Bx.start h
  obtain ⟨n, hn⟩ : ∃ n, Hid (S.n = n) := ⟨_, (rfl : S.n = S.n)⟩
  have hn32 : Hid (n ≤ 32768) := by rw [← hn.out]; exact h.okS.hi
  clear h
  unfold actA at K ⊢
  go_enter Try.func16, Try.ntmps16
  go_wp2_with (first
    | (go_at_call 18; first
        | (refine (b_ram w x _ g r m f S S _ n hn.out K1).mono ?_; rintro e y2 ⟨b2, rfl, L2⟩; have K2 : Hid _ := L2.out.2.2.2.1)
        | (refine (b_ram w x _ g r m f S S _ n hn.out K).mono ?_; rintro e y1 ⟨b1, rfl, L1⟩; have K1 : Hid _ := L1.out.2.2.2.1))
    | (go_at_call 19; refine (b_rram w x _ g r m f S S _ n hn.out K2).mono ?_; rintro e y3 ⟨b3, rfl, L3⟩; have K3 : Hid _ := L3.out.2.2.2.1; have L : Hid (Blk y3 b1 n S.ram ∧ Blk y3 b2 n S.ram ∧ Blk y3 b3 n S.ram ∧ x.heap.size < b1 ∧ b1 < b2 ∧ b2 < b3) := (by
        have q1 := L1.out
        have q2 := L2.out
        have q3 := L3.out
        have q0 := K.out.hi
        refine ⟨(q1.1.below q2.2.2.2.2).below q3.2.2.2.2, q2.1.below q3.2.2.2.2, q3.1, ?_, ?_, ?_⟩ <;> omega))
    | (go_at_call 36; refine (b_bytes w x _ g r m f S S _ n hn32.out S.ram b1 b2 b3 K3 L).mono ?_; rintro e y4 ⟨rfl, K4⟩))
  go_ret
  exact ActOk.of K4.out

theorem act_7 (h : Two w x g r m f S S) :
    Calls Try.prog 16 #[.pointer (some ⟨g, 0, none⟩), .pointer (some ⟨r, 0, none⟩), .agg (actA 7 ot p a b on sp len cap)] x fun e y => ActOk w x g r m f e y := by
  have K : Hid (Bx w x (actA 7 ot p a b on sp len cap) g r m f S S (x.alloc (.cells (actA 7 ot p a b on sp len cap) 39))) := Bx.start h
  clear h
  unfold actA at K ⊢
  go_enter Try.func16, Try.ntmps16
  go_wp2_with (first
    | (go_at_call 20; first
        | (refine (b_rom w x _ g r m f S S _ K1).mono ?_; rintro e y2 ⟨b2, rfl, L2⟩; have K2 : Hid _ := L2.out.2.2.2.1)
        | (refine (b_rom w x _ g r m f S S _ K).mono ?_; rintro e y1 ⟨b1, rfl, L1⟩; have K1 : Hid _ := L1.out.2.2.2.1))
    | (go_at_call 21; refine (b_rrom w x _ g r m f S S _ K2).mono ?_; rintro e y3 ⟨b3, rfl, L3⟩; have K3 : Hid _ := L3.out.2.2.2.1; have L : Hid (Blk y3 b1 512 S.rom ∧ Blk y3 b2 512 S.rom ∧ Blk y3 b3 512 S.rom ∧ x.heap.size < b1 ∧ b1 < b2 ∧ b2 < b3) := (by
        have q1 := L1.out
        have q2 := L2.out
        have q3 := L3.out
        have q0 := K.out.hi
        refine ⟨(q1.1.below q2.2.2.2.2).below q3.2.2.2.2, q2.1.below q3.2.2.2.2, q3.1, ?_, ?_, ?_⟩ <;> omega))
    | (go_at_call 36; refine (b_bytes w x _ g r m f S S _ 512 (by decide) S.rom b1 b2 b3 K3 L).mono ?_; rintro e y4 ⟨rfl, K4⟩))
  go_ret
  exact ActOk.of K4.out

theorem act_0 (k : Int) (h : Two w x g r m f S S) (ok : ActD.ok w ⟨k, ot, p, a, b, on, sp, len, cap, Y⟩) (h1 : k ≠ 1) (h3 : k ≠ 3) (h4 : k ≠ 4) (h5 : k ≠ 5) (h6 : k ≠ 6) (h7 : k ≠ 7) :
    Calls Try.prog 16 #[.pointer (some ⟨g, 0, none⟩), .pointer (some ⟨r, 0, none⟩), .agg (actA k ot p a b on sp len cap)] x fun e y => ActOk w x g r m f e y := by
  have K : Bx w x (actA k ot p a b on sp len cap) g r m f S S (x.alloc (.cells (actA k ot p a b on sp len cap) 39)) := Bx.start h
  have b1 : (k == 1) = false := by simpa using h1
  have b3 : (k == 3) = false := by simpa using h3
  have b4 : (k == 4) = false := by simpa using h4
  have b5 : (k == 5) = false := by simpa using h5
  have b6 : (k == 6) = false := by simpa using h6
  have b7 : (k == 7) = false := by simpa using h7
  have ha := ok.a
  have R1 := fun n => read_any ((x.alloc (.cells (actA k ot p a b on sp len cap) 39)).drewN n) g S K.two.okS K.two.sto.drewN a ha
  have R2 := fun n => rread_any ((x.alloc (.cells (actA k ot p a b on sp len cap) 39)).drewN n) r m f S K.two.drewN.ref a ha
  obtain ⟨vv, hvv⟩ : ∃ vv, S.read a = vv := ⟨_, rfl⟩
  rw [hvv] at R1 R2
  have F : Hid (∀ n, ActOk w x g r m f (.returned (.bool true)) ((x.alloc (.cells (actA k ot p a b on sp len cap) 39)).drewN n)) := fun n => ActOk.of (K.below (below_drewN (Below.refl _ _)))
  clear hvv K h ok h1 h3 h4 h5 h6 h7 ha
  unfold actA at R1 R2 F ⊢
  go_enter Try.func16, Try.ntmps16
  go_wp2
  go_quiet ((first | (go_at_call 29; exact quiet1D (R1 _)) | (go_at_call 30; exact quiet1S (R2 _))))
  go_wp2
  go_ret
  first | exact F.out _ | (simp; exact F.out _)

theorem act_any (k : Int) (h : Two w x g r m f S S) (ok : ActD.ok w ⟨k, ot, p, a, b, on, sp, len, cap, Y⟩) (hl : len ≤ 2147483647) :
    Calls Try.prog 16 #[.pointer (some ⟨g, 0, none⟩), .pointer (some ⟨r, 0, none⟩), .agg (actA k ot p a b on sp len cap)] x fun e y => ActOk w x g r m f e y := by
  by_cases h1 : k = 1
  · subst h1; exact act_1 w x g r m f S ot p a b on sp len cap Y h ok hl
  by_cases h3 : k = 3
  · subst h3; exact act_3 w x g r m f S ot p a b on sp len cap Y h ok
  by_cases h4 : k = 4
  · subst h4; exact act_4 w x g r m f S ot p a b on sp len cap h
  by_cases h5 : k = 5
  · subst h5; exact act_5 w x g r m f S ot p a b on sp len cap h
  by_cases h6 : k = 6
  · subst h6; exact act_6 w x g r m f S ot p a b on sp len cap h
  by_cases h7 : k = 7
  · subst h7; exact act_7 w x g r m f S ot p a b on sp len cap h
  exact act_0 w x g r m f S ot p a b on sp len cap Y k h ok h1 h3 h4 h5 h6 h7
end
end Go.Proofs.Ythjpghnmnbhaiaa
