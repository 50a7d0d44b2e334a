/- The rows' closures that read, over whatever functions they hold. -/
import Derived.Test.YtehnhjdjjalifaaGreatDoorQ3
import Derived.Laws.BytesString
import Derived.Lib.AppendStr
namespace Go.Proofs.YtehnhjdjjalifaaGreatDoor
open Go Go.RowKit Go.Shelf
set_option linter.unusedVariables false
set_option maxHeartbeats 2000000
set_option maxRecDepth 20000

theorem nr_q (w : World) (sp : Option Addr) (cap : Nat) (f : List UInt8) (hf : Hid (LB w sp f)) (hn : Hid (f.length = 8)) (b bo k : Nat) (caps : Array Value) (hbo : Hid (Bx w bo #[.func (.func k) #[] caps] 86)) (ek : ∀ args w, (callFunc k args).run Tryz.prog w = .ok (.enter k args) w) (R : World → Prop) (hk : Hid (∀ y, Below w.heap.size w y → Calls Tryz.prog k (#[.pointer (some ⟨b, 0, none⟩), .int .u64 ((getN f : Nat) : Int)] ++ caps) y fun e w' => e = .returned (.tuple #[]) ∧ R w')) :
    Calls Tryz.prog 108 #[.pointer (some ⟨b, 0, none⟩), .slice sp 8 cap, .pointer (some ⟨bo, 0, none⟩)] w fun e w' => e = .returned (.bool true) ∧ R w' := by
  have c0 := Bx.c hbo.out 0 _ rfl
  obtain ⟨N, hN⟩ : ∃ z, getN f = z := ⟨_, rfl⟩
  have hrd : Hid (∀ y, y.heap = w.heap → Calls Tryz.prog 25 #[.slice sp 8 cap] y fun e w' => e = .returned (.int .u64 (N : Int)) ∧ w' = y) := fun y hy => by
    rw [← hN]
    exact red_q y sp cap f (fun j a hj => by
      obtain ⟨g, o, e, h⟩ := hf.out j a hj
      exact ⟨g, o, e, fun i v hv => by have := h i v hv; unfold World.cell? at this ⊢; rw [hy]; exact this⟩) hn
  rw [hN] at hk
  clear hbo hf hN
  go_enter Tryz.func108, Tryz.ntmps108
  go_wp2
  refine region_class_tail 4 (fun y => ∃ n, y = w.drewN n) (by kernel_rfl) (by kernel_rfl) ⟨1, rfl⟩ ?_
  dsimp only [List.take, List.drop]
  repeat (go_big_quiet_step ((go_at_call 25; exact Calls.quiet_of_same (hrd.out _ rfl))))
  refine wpQuiet_nil ?_
  rintro _ ⟨nq, rfl⟩
  go_wp2_with (go_at_fn k; refine (hk.out _ (below_drewN (Below.refl _ w))).mono ?_; rintro e y1 ⟨rfl, H1⟩; have H1' : Hid (R y1) := H1; clear H1)
  go_ret
  exact ⟨rfl, H1'.out⟩
theorem nr_h (w : World) (sp : Option Addr) (cap : Nat) (f : List UInt8) (hf : Hid (LB w sp f)) (hn : Hid (f.length = 2)) (b bo k : Nat) (caps : Array Value) (hbo : Hid (Bx w bo #[.func (.func k) #[] caps] 75)) (ek : ∀ args w, (callFunc k args).run Tryz.prog w = .ok (.enter k args) w) (R : World → Prop) (hk : Hid (∀ y, Below w.heap.size w y → Calls Tryz.prog k (#[.pointer (some ⟨b, 0, none⟩), .int .u16 ((getN f : Nat) : Int)] ++ caps) y fun e w' => e = .returned (.tuple #[]) ∧ R w')) :
    Calls Tryz.prog 93 #[.pointer (some ⟨b, 0, none⟩), .slice sp 2 cap, .pointer (some ⟨bo, 0, none⟩)] w fun e w' => e = .returned (.bool true) ∧ R w' := by
  have c0 := Bx.c hbo.out 0 _ rfl
  obtain ⟨N, hN⟩ : ∃ z, getN f = z := ⟨_, rfl⟩
  have hrd : Hid (∀ y, y.heap = w.heap → Calls Tryz.prog 94 #[.slice sp 2 cap] y fun e w' => e = .returned (.int .u16 (N : Int)) ∧ w' = y) := fun y hy => by
    rw [← hN]
    exact red_h y sp cap f (fun j a hj => by
      obtain ⟨g, o, e, h⟩ := hf.out j a hj
      exact ⟨g, o, e, fun i v hv => by have := h i v hv; unfold World.cell? at this ⊢; rw [hy]; exact this⟩) hn
  rw [hN] at hk
  clear hbo hf hN
  go_enter Tryz.func93, Tryz.ntmps93
  go_wp2
  refine region_class_tail 4 (fun y => ∃ n, y = w.drewN n) (by kernel_rfl) (by kernel_rfl) ⟨1, rfl⟩ ?_
  dsimp only [List.take, List.drop]
  repeat (go_big_quiet_step ((go_at_call 94; exact Calls.quiet_of_same (hrd.out _ rfl))))
  refine wpQuiet_nil ?_
  rintro _ ⟨nq, rfl⟩
  go_wp2_with (go_at_fn k; refine (hk.out _ (below_drewN (Below.refl _ w))).mono ?_; rintro e y1 ⟨rfl, H1⟩; have H1' : Hid (R y1) := H1; clear H1)
  go_ret
  exact ⟨rfl, H1'.out⟩
theorem nr_y (w : World) (sp : Option Addr) (cap : Nat) (f : List UInt8) (hf : Hid (LB w sp f)) (hn : Hid (f.length = 1)) (b bo k : Nat) (caps : Array Value) (hbo : Hid (Bx w bo #[.func (.func k) #[] caps] 78)) (ek : ∀ args w, (callFunc k args).run Tryz.prog w = .ok (.enter k args) w) (R : World → Prop) (hk : Hid (∀ y, Below w.heap.size w y → Calls Tryz.prog k (#[.pointer (some ⟨b, 0, none⟩), .int .u8 ((getN f : Nat) : Int)] ++ caps) y fun e w' => e = .returned (.tuple #[]) ∧ R w')) :
    Calls Tryz.prog 98 #[.pointer (some ⟨b, 0, none⟩), .slice sp 1 cap, .pointer (some ⟨bo, 0, none⟩)] w fun e w' => e = .returned (.bool true) ∧ R w' := by
  have c0 := Bx.c hbo.out 0 _ rfl
  obtain ⟨N, hN⟩ : ∃ z, getN f = z := ⟨_, rfl⟩
  have hrd : Hid (∀ y, y.heap = w.heap → Calls Tryz.prog 99 #[.slice sp 1 cap] y fun e w' => e = .returned (.int .u8 (N : Int)) ∧ w' = y) := fun y hy => by
    rw [← hN]
    exact red_y y sp cap f (fun j a hj => by
      obtain ⟨g, o, e, h⟩ := hf.out j a hj
      exact ⟨g, o, e, fun i v hv => by have := h i v hv; unfold World.cell? at this ⊢; rw [hy]; exact this⟩) hn
  rw [hN] at hk
  clear hbo hf hN
  go_enter Tryz.func98, Tryz.ntmps98
  go_wp2
  refine region_class_tail 4 (fun y => ∃ n, y = w.drewN n) (by kernel_rfl) (by kernel_rfl) ⟨1, rfl⟩ ?_
  dsimp only [List.take, List.drop]
  repeat (go_big_quiet_step ((go_at_call 99; exact Calls.quiet_of_same (hrd.out _ rfl))))
  refine wpQuiet_nil ?_
  rintro _ ⟨nq, rfl⟩
  go_wp2_with (go_at_fn k; refine (hk.out _ (below_drewN (Below.refl _ w))).mono ?_; rintro e y1 ⟨rfl, H1⟩; have H1' : Hid (R y1) := H1; clear H1)
  go_ret
  exact ⟨rfl, H1'.out⟩
theorem nr_p (w : World) (sp : Option Addr) (cap : Nat) (f : List UInt8) (hf : Hid (LB w sp f)) (hn : Hid (f.length = 1)) (b bo k : Nat) (caps : Array Value) (hbo : Hid (Bx w bo #[.func (.func k) #[] caps] 83)) (ek : ∀ args w, (callFunc k args).run Tryz.prog w = .ok (.enter k args) w) (R : World → Prop) (hk : Hid (∀ y, Below w.heap.size w y → Calls Tryz.prog k (#[.pointer (some ⟨b, 0, none⟩), .int .u8 ((getN f : Nat) : Int)] ++ caps) y fun e w' => e = .returned (.tuple #[]) ∧ R w')) :
    Calls Tryz.prog 105 #[.pointer (some ⟨b, 0, none⟩), .slice sp 1 cap, .pointer (some ⟨bo, 0, none⟩)] w fun e w' => e = .returned (.bool true) ∧ R w' := by
  have c0 := Bx.c hbo.out 0 _ rfl
  obtain ⟨N, hN⟩ : ∃ z, getN f = z := ⟨_, rfl⟩
  have hrd : Hid (∀ y, y.heap = w.heap → Calls Tryz.prog 106 #[.slice sp 1 cap] y fun e w' => e = .returned (.int .u8 (N : Int)) ∧ w' = y) := fun y hy => by
    rw [← hN]
    exact red_p y sp cap f (fun j a hj => by
      obtain ⟨g, o, e, h⟩ := hf.out j a hj
      exact ⟨g, o, e, fun i v hv => by have := h i v hv; unfold World.cell? at this ⊢; rw [hy]; exact this⟩) hn
  rw [hN] at hk
  clear hbo hf hN
  go_enter Tryz.func105, Tryz.ntmps105
  go_wp2
  refine region_class_tail 4 (fun y => ∃ n, y = w.drewN n) (by kernel_rfl) (by kernel_rfl) ⟨1, rfl⟩ ?_
  dsimp only [List.take, List.drop]
  repeat (go_big_quiet_step ((go_at_call 106; exact Calls.quiet_of_same (hrd.out _ rfl))))
  refine wpQuiet_nil ?_
  rintro _ ⟨nq, rfl⟩
  go_wp2_with (go_at_fn k; refine (hk.out _ (below_drewN (Below.refl _ w))).mono ?_; rintro e y1 ⟨rfl, H1⟩; have H1' : Hid (R y1) := H1; clear H1)
  go_ret
  exact ⟨rfl, H1'.out⟩
end Go.Proofs.YtehnhjdjjalifaaGreatDoor
