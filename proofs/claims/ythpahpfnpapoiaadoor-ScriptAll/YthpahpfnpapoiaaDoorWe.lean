/- The statement's second function that is handed in: within it the cycles are gone through again. -/
import Derived.Test.YthpahpfnpapoiaaDoorWd
namespace Go.Proofs.YthpahpfnpapoiaaDoor
open Go Go.RowKit Go.Shelf
set_option linter.unusedVariables false
set_option maxHeartbeats 1000000
set_option maxRecDepth 100000

theorem cb_any (B : Nat) (W y0 : World) (hBW : B ≤ W.heap.size) (sp : Option Addr) (cap n : Nat) (l : List Sn) (hl : Hid (LiesS W sp l)) (hn : Hid (l.length = n)) (inn m k : Int) (hm : Hid (cyclesS l = m)) (hk : 1 ≤ k) (fv : Value) (b0 b1 b2 b3 b4 b5 b6 : Nat) (h5 : Hid (B ≤ b5)) (h6 : Hid (B ≤ b6)) (i : Nat) (ib : (i : Int) ≤ 4194304) (a : At)
    (hA : Hid (∀ z, Cu B (fun g _ => (fun q => q = b5 ∨ q = b6) g) y0 z → AllF B z fv l)) (hF : Hid (Fm W [(b0, #[.slice sp n cap], 23), (b1, #[.int .i64 inn], 3), (b2, #[.int .i64 m], 3), (b3, #[fv], 37), (b4, #[.int .i64 k], 3), (b5, #[.int .i64 (i)], 3), (b6, #[.bool true], 4)] y0)) :
    Calls Tryd.prog 20 #[.int .i64 (i : Int), .agg (spC ⟨1, a⟩), .pointer (some ⟨b5, 0, none⟩), .pointer (some ⟨b1, 0, none⟩), .pointer (some ⟨b0, 0, none⟩), .pointer (some ⟨b4, 0, none⟩), .pointer (some ⟨b3, 0, none⟩), .pointer (some ⟨b2, 0, none⟩), .pointer (some ⟨b6, 0, none⟩)] y0 fun e y => e = .returned (.bool (decide ((i : Int) < 100))) ∧ Hid (Sk B (fun q => q = b5 ∨ q = b6) W y0 [(b0, #[.slice sp n cap], 23), (b1, #[.int .i64 inn], 3), (b2, #[.int .i64 m], 3), (b3, #[fv], 37), (b4, #[.int .i64 k], 3), (b5, #[.int .i64 ((i : Int) + 1)], 3), (b6, #[.bool true], 4)] y) := by
  obtain ⟨S1, hS1⟩ : ∃ S : Sn, (⟨1, a⟩ : Sn) = S := ⟨_, rfl⟩
  rw [hS1]
  obtain ⟨MM, hMM⟩ : ∃ M : Nat → Prop, (fun q => q = b5 ∨ q = b6) = M := ⟨_, rfl⟩
  rw [hMM] at hA ⊢
  have m5 : Hid (MM b5) := by rw [← hMM]; exact .inl rfl
  have m6 : Hid (MM b6) := by rw [← hMM]; exact .inr rfl
  have hy0 : Hid (B ≤ y0.heap.size) := Nat.le_trans hBW hF.out.low.size
  obtain ⟨b10, hb10⟩ : ∃ b, y0.heap.size = b := ⟨_, rfl⟩
  have K1 : Hid (Sk B MM W y0 [(b0, #[.slice sp n cap], 23), (b1, #[.int .i64 inn], 3), (b2, #[.int .i64 m], 3), (b3, #[fv], 37), (b4, #[.int .i64 k], 3), (b5, #[.int .i64 (i)], 3), (b6, #[.bool true], 4), (b10, spC S1, 34)] (y0.alloc (.cells (spC S1) 34))) := by
    have := (show Sk B MM W y0 [(b0, #[.slice sp n cap], 23), (b1, #[.int .i64 inn], 3), (b2, #[.int .i64 m], 3), (b3, #[fv], 37), (b4, #[.int .i64 k], 3), (b5, #[.int .i64 (i)], 3), (b6, #[.bool true], 4)] y0 from ⟨hF.out, Cu.refl _ _ _⟩).new hy0.out (spC S1) 34
    rw [hb10] at this
    exact this
  have hSe : Hid (∀ z, Sk B MM W y0 [(b0, #[.slice sp n cap], 23), (b1, #[.int .i64 inn], 3), (b2, #[.int .i64 m], 3), (b3, #[fv], 37), (b4, #[.int .i64 k], 3), (b5, #[.int .i64 ((i : Int) + 1)], 3), (b6, #[.bool true], 4), (b10, spC S1, 34)] z → Calls Tryd.prog 19 #[.slice sp n cap, .int .i64 k, fv] z fun e y => e = .returned (.int .i64 (min k m)) ∧ Sk B MM W y0 [(b0, #[.slice sp n cap], 23), (b1, #[.int .i64 inn], 3), (b2, #[.int .i64 m], 3), (b3, #[fv], 37), (b4, #[.int .i64 k], 3), (b5, #[.int .i64 ((i : Int) + 1)], 3), (b6, #[.bool true], 4), (b10, spC S1, 34)] y) := fun z hz => by
    have hzB : B ≤ z.heap.size := Nat.le_trans hBW hz.fm.low.size
    have h := seen_any B z sp cap n l (hl.out.below hz.fm.low) hn k hk fv (hA.out z hz.cu) hzB
    rw [hm.out] at h
    exact h.mono fun e y he => ⟨he.1, hz.below hzB he.2.out⟩
  clear hMM hF hA hS1
  go_enter Tryd.func20, Tryd.ntmps20
  go_wp2_with (first
    | ((with_reducible refine gen_world (y0.alloc (.cells (spC S1) 34)) (Sk B MM W y0 [(b0, #[.slice sp n cap], 23), (b1, #[.int .i64 inn], 3), (b2, #[.int .i64 m], 3), (b3, #[fv], 37), (b4, #[.int .i64 k], 3), (b5, #[.int .i64 (i)], 3), (b6, #[.bool true], 4), (b10, spC S1, 34)]) ?_ ?_); exact K1.out; intro y1 K2; have d5 := (K2.out.fm.bx 5 _ _ _ rfl).c 0 _ rfl; have z5 := (K2.out.fm.bx 5 _ _ _ rfl).fz 0)
    | ((with_reducible refine gen_world (y1.setCell ⟨b5, 0, none⟩ (.int .i64 ((i : Int) + 1))) (Sk B MM W y0 [(b0, #[.slice sp n cap], 23), (b1, #[.int .i64 inn], 3), (b2, #[.int .i64 m], 3), (b3, #[fv], 37), (b4, #[.int .i64 k], 3), (b5, #[.int .i64 ((i : Int) + 1)], 3), (b6, #[.bool true], 4), (b10, spC S1, 34)]) ?_ ?_); exact K2.out.setCell 5 _ _ _ _ rfl h5.out (.inl m5.out) 0 _ rfl; intro y2 K3; have d1 := (K3.out.fm.bx 1 _ _ _ rfl).c 0 _ rfl))
  · refine region_class_tail 8 (Sk B MM W y0 [(b0, #[.slice sp n cap], 23), (b1, #[.int .i64 inn], 3), (b2, #[.int .i64 m], 3), (b3, #[fv], 37), (b4, #[.int .i64 k], 3), (b5, #[.int .i64 ((i : Int) + 1)], 3), (b6, #[.bool true], 4), (b10, spC S1, 34)]) (by kernel_rfl) (by kernel_rfl) (K3.out.below (Nat.le_trans hBW K3.out.fm.low.size) (below_drew (Below.refl _ _))) ?_
    simp only [List.take_succ_cons, List.take_zero, List.drop_succ_cons, List.drop_zero]
    with_reducible refine quiet_one (.slice sp n cap) ?_ ?_ ?_
    · kernel_rfl
    · intro q hq
      have d := (hq.fm.bx 0 _ _ _ rfl).c 0 _ rfl
      go_simp
    with_reducible refine quiet_one (.int .i64 k) ?_ ?_ ?_
    · kernel_rfl
    · intro q hq
      have d := (hq.fm.bx 4 _ _ _ rfl).c 0 _ rfl
      go_simp
    with_reducible refine quiet_one (fv) ?_ ?_ ?_
    · kernel_rfl
    · intro q hq
      have d := (hq.fm.bx 3 _ _ _ rfl).c 0 _ rfl
      go_simp
    with_reducible refine quiet_one (.int .i64 (min k m)) ?_ ?_ ?_
    · kernel_rfl
    · intro q hq
      have d := hSe.out q hq
      go_simp
      all_goals exact d
    with_reducible refine quiet_one (.int .i64 k) ?_ ?_ ?_
    · kernel_rfl
    · intro q hq
      have d := (hq.fm.bx 4 _ _ _ rfl).c 0 _ rfl
      go_simp
    with_reducible refine quiet_one (.int .i64 m) ?_ ?_ ?_
    · kernel_rfl
    · intro q hq
      have d := (hq.fm.bx 2 _ _ _ rfl).c 0 _ rfl
      go_simp
    with_reducible refine quiet_one (.int .i64 (min k m)) ?_ ?_ ?_
    · kernel_rfl
    · intro q hq
      go_simp
      split <;> omega
    with_reducible refine quiet_one (.bool true) ?_ ?_ ?_
    · kernel_rfl
    · intro q hq
      go_simp
    intro y4 hy4
    have K4 : Hid (Sk B MM W y0 [(b0, #[.slice sp n cap], 23), (b1, #[.int .i64 inn], 3), (b2, #[.int .i64 m], 3), (b3, #[fv], 37), (b4, #[.int .i64 k], 3), (b5, #[.int .i64 ((i : Int) + 1)], 3), (b6, #[.bool true], 4), (b10, spC S1, 34)] y4) := hy4
    have d6 := (K4.out.fm.bx 6 _ _ _ rfl).c 0 _ rfl
    have z6 := (K4.out.fm.bx 6 _ _ _ rfl).fz 0
    clear hy4
    go_wp2
    go_ret
    exact ⟨rfl, Sk.pre (bs := [(b0, #[.slice sp n cap], 23), (b1, #[.int .i64 inn], 3), (b2, #[.int .i64 m], 3), (b3, #[fv], 37), (b4, #[.int .i64 k], 3), (b5, #[.int .i64 ((i : Int) + 1)], 3), (b6, #[.bool true], 4)]) (K4.out.setCell 6 _ _ _ _ rfl h6.out (.inl m6.out) 0 _ rfl)⟩
  · go_ret
    exact ⟨rfl, Sk.pre (bs := [(b0, #[.slice sp n cap], 23), (b1, #[.int .i64 inn], 3), (b2, #[.int .i64 m], 3), (b3, #[fv], 37), (b4, #[.int .i64 k], 3), (b5, #[.int .i64 ((i : Int) + 1)], 3), (b6, #[.bool true], 4)]) K3.out⟩
end Go.Proofs.YthpahpfnpapoiaaDoor
