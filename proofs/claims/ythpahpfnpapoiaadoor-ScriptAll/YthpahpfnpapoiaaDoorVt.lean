/- What each part of a span is worth. -/
import Derived.Test.YthpahpfnpapoiaaDoorXh
import Derived.Test.YthpahpfnpapoiaaDoorXt
namespace Go.Proofs.YthpahpfnpapoiaaDoor
open Go Go.RowKit
set_option linter.unusedVariables false
set_option maxHeartbeats 1000000
set_option maxRecDepth 20000

/-- What each part of a span is worth, in a row. -/
def wC (a : At) : Array Value := #[.int .i64 a.Ke, .int .i64 (oneV a.Ta), .int .i64 (oneV a.Fl), .int .i64 (oneV a.DI), .int .i64 (oneV a.DO), .int .i64 (oneV a.In), .int .i64 (oneV a.Cl), .int .i64 (oneV a.Wa), .int .i64 a.Bu]
def w0 : Array Value := #[.int .i64 0, .int .i64 0, .int .i64 0, .int .i64 0, .int .i64 0, .int .i64 0, .int .i64 0, .int .i64 0, .int .i64 0]
theorem wC_one (a : At) : (wC a).all (·.oneCell') = true := by simp [wC, Value.oneCell']
theorem rtW : Rt Tryd.prog 74 9 := ⟨⟨_, Tryd.underlying74, rfl⟩, by kernel_rfl⟩
theorem zeroVW (w : World) : (zeroValue 74).run Tryd.prog w = .ok (.agg w0) w := by kernel_rfl
theorem built_wC (a : At) : Tryd.prog.built 74 [(0, .int .i64 a.Ke), (1, .int .i64 (oneV a.Ta)), (2, .int .i64 (oneV a.Fl)), (3, .int .i64 (oneV a.DI)), (4, .int .i64 (oneV a.DO)), (5, .int .i64 (oneV a.In)), (6, .int .i64 (oneV a.Cl)), (7, .int .i64 (oneV a.Wa)), (8, .int .i64 a.Bu)] = some (wC a) := by kernel_rfl
theorem worth_any (w : World) (b : Bool) : Calls Tryd.prog 59 #[.bool b] w fun e w' => e = .returned (.int .i64 (oneV b)) ∧ w' = w := by
  cases b
  all_goals
    go_enter Tryd.func59, Tryd.ntmps59
    go_wp2
    go_ret
    exact ⟨rfl, by first | rfl | trivial⟩
theorem worths_any (w : World) (s : Sn) (k0 : 0 ≤ s.a.Ke) (k1 : s.a.Ke ≤ 65535) (b0 : 0 ≤ s.a.Bu) (b1 : s.a.Bu ≤ 255) : Calls Tryd.prog 47 #[.agg (spC s)] w fun e w' => e = .returned (.agg (wC s.a)) ∧ Below w.heap.size w w' := by
  have zz := zeroVW
  have hF : Hid (Fm w [(w.heap.size, spC s, 34), (w.heap.size + 1, w0, 74)] ((w.alloc (.cells (spC s) 34)).alloc (.cells w0 74))) := Fm.two w _ _ _ _
  have hw := fun y b => worth_any y b
  have wKe : IntKind.i64.wrap s.a.Ke = s.a.Ke := by rw [IntKind.wrap_i64]; omega
  have wBu : IntKind.i64.wrap s.a.Bu = s.a.Bu := by rw [IntKind.wrap_i64]; omega
  go_enter Tryd.func47, Tryd.ntmps47
  go_wp2
  refine region_class_tail 27 (Fm w [(w.heap.size, spC s, 34), (w.heap.size + 1, w0, 74)]) (by kernel_rfl) (by kernel_rfl) (hF.out.below (below_drew (Below.refl _ _))) ?_
  simp only [List.take_succ_cons, List.take_zero, List.drop_succ_cons, List.drop_zero]
  with_reducible refine quiet_one (.pointer (some ⟨w.heap.size, 1, none⟩)) ?_ ?_ ?_
  · kernel_rfl
  · intro y hy
    go_simp
  with_reducible refine quiet_one (.int .u16 s.a.Ke) ?_ ?_ ?_
  · kernel_rfl
  · intro y hy
    have d := (hy.bx 0 _ _ _ rfl).c 1 _ (spC_Ke s)
    go_simp
  with_reducible refine quiet_one (.int .i64 s.a.Ke) ?_ ?_ ?_
  · kernel_rfl
  · intro y hy
    go_simp
    all_goals exact wKe
  with_reducible refine quiet_one (.pointer (some ⟨w.heap.size, 2, none⟩)) ?_ ?_ ?_
  · kernel_rfl
  · intro y hy
    go_simp
  with_reducible refine quiet_one (.bool s.a.Ta) ?_ ?_ ?_
  · kernel_rfl
  · intro y hy
    have d := (hy.bx 0 _ _ _ rfl).c 2 _ (spC_Ta s)
    go_simp
  with_reducible refine quiet_one (.int .i64 (oneV s.a.Ta)) ?_ ?_ ?_
  · kernel_rfl
  · intro y hy
    have d := (hw y s.a.Ta).mono fun e w' (h : _ ∧ _) => And.intro h.1 (show (Fm w [(w.heap.size, spC s, 34), (w.heap.size + 1, w0, 74)]) w' by rw [h.2]; exact hy)
    go_simp
    all_goals exact d
  with_reducible refine quiet_one (.pointer (some ⟨w.heap.size, 3, none⟩)) ?_ ?_ ?_
  · kernel_rfl
  · intro y hy
    go_simp
  with_reducible refine quiet_one (.bool s.a.Fl) ?_ ?_ ?_
  · kernel_rfl
  · intro y hy
    have d := (hy.bx 0 _ _ _ rfl).c 3 _ (spC_Fl s)
    go_simp
  with_reducible refine quiet_one (.int .i64 (oneV s.a.Fl)) ?_ ?_ ?_
  · kernel_rfl
  · intro y hy
    have d := (hw y s.a.Fl).mono fun e w' (h : _ ∧ _) => And.intro h.1 (show (Fm w [(w.heap.size, spC s, 34), (w.heap.size + 1, w0, 74)]) w' by rw [h.2]; exact hy)
    go_simp
    all_goals exact d
  with_reducible refine quiet_one (.pointer (some ⟨w.heap.size, 4, none⟩)) ?_ ?_ ?_
  · kernel_rfl
  · intro y hy
    go_simp
  with_reducible refine quiet_one (.bool s.a.DI) ?_ ?_ ?_
  · kernel_rfl
  · intro y hy
    have d := (hy.bx 0 _ _ _ rfl).c 4 _ (spC_DI s)
    go_simp
  with_reducible refine quiet_one (.int .i64 (oneV s.a.DI)) ?_ ?_ ?_
  · kernel_rfl
  · intro y hy
    have d := (hw y s.a.DI).mono fun e w' (h : _ ∧ _) => And.intro h.1 (show (Fm w [(w.heap.size, spC s, 34), (w.heap.size + 1, w0, 74)]) w' by rw [h.2]; exact hy)
    go_simp
    all_goals exact d
  with_reducible refine quiet_one (.pointer (some ⟨w.heap.size, 5, none⟩)) ?_ ?_ ?_
  · kernel_rfl
  · intro y hy
    go_simp
  with_reducible refine quiet_one (.bool s.a.DO) ?_ ?_ ?_
  · kernel_rfl
  · intro y hy
    have d := (hy.bx 0 _ _ _ rfl).c 5 _ (spC_DO s)
    go_simp
  with_reducible refine quiet_one (.int .i64 (oneV s.a.DO)) ?_ ?_ ?_
  · kernel_rfl
  · intro y hy
    have d := (hw y s.a.DO).mono fun e w' (h : _ ∧ _) => And.intro h.1 (show (Fm w [(w.heap.size, spC s, 34), (w.heap.size + 1, w0, 74)]) w' by rw [h.2]; exact hy)
    go_simp
    all_goals exact d
  with_reducible refine quiet_one (.pointer (some ⟨w.heap.size, 6, none⟩)) ?_ ?_ ?_
  · kernel_rfl
  · intro y hy
    go_simp
  with_reducible refine quiet_one (.bool s.a.In) ?_ ?_ ?_
  · kernel_rfl
  · intro y hy
    have d := (hy.bx 0 _ _ _ rfl).c 6 _ (spC_In s)
    go_simp
  with_reducible refine quiet_one (.int .i64 (oneV s.a.In)) ?_ ?_ ?_
  · kernel_rfl
  · intro y hy
    have d := (hw y s.a.In).mono fun e w' (h : _ ∧ _) => And.intro h.1 (show (Fm w [(w.heap.size, spC s, 34), (w.heap.size + 1, w0, 74)]) w' by rw [h.2]; exact hy)
    go_simp
    all_goals exact d
  with_reducible refine quiet_one (.pointer (some ⟨w.heap.size, 7, none⟩)) ?_ ?_ ?_
  · kernel_rfl
  · intro y hy
    go_simp
  with_reducible refine quiet_one (.bool s.a.Cl) ?_ ?_ ?_
  · kernel_rfl
  · intro y hy
    have d := (hy.bx 0 _ _ _ rfl).c 7 _ (spC_Cl s)
    go_simp
  with_reducible refine quiet_one (.int .i64 (oneV s.a.Cl)) ?_ ?_ ?_
  · kernel_rfl
  · intro y hy
    have d := (hw y s.a.Cl).mono fun e w' (h : _ ∧ _) => And.intro h.1 (show (Fm w [(w.heap.size, spC s, 34), (w.heap.size + 1, w0, 74)]) w' by rw [h.2]; exact hy)
    go_simp
    all_goals exact d
  with_reducible refine quiet_one (.pointer (some ⟨w.heap.size, 8, none⟩)) ?_ ?_ ?_
  · kernel_rfl
  · intro y hy
    go_simp
  with_reducible refine quiet_one (.bool s.a.Wa) ?_ ?_ ?_
  · kernel_rfl
  · intro y hy
    have d := (hy.bx 0 _ _ _ rfl).c 8 _ (spC_Wa s)
    go_simp
  with_reducible refine quiet_one (.int .i64 (oneV s.a.Wa)) ?_ ?_ ?_
  · kernel_rfl
  · intro y hy
    have d := (hw y s.a.Wa).mono fun e w' (h : _ ∧ _) => And.intro h.1 (show (Fm w [(w.heap.size, spC s, 34), (w.heap.size + 1, w0, 74)]) w' by rw [h.2]; exact hy)
    go_simp
    all_goals exact d
  with_reducible refine quiet_one (.pointer (some ⟨w.heap.size, 9, none⟩)) ?_ ?_ ?_
  · kernel_rfl
  · intro y hy
    go_simp
  with_reducible refine quiet_one (.int .u8 s.a.Bu) ?_ ?_ ?_
  · kernel_rfl
  · intro y hy
    have d := (hy.bx 0 _ _ _ rfl).c 9 _ (spC_Bu s)
    go_simp
  with_reducible refine quiet_one (.int .i64 s.a.Bu) ?_ ?_ ?_
  · kernel_rfl
  · intro y hy
    go_simp
    all_goals exact wBu
  refine wpQuiet_nil ?_
  intro y1 K1
  replace K1 : Hid _ := K1
  go_simp
  with_reducible refine at_bu (t := 74) #[(0, .tmp 5), (1, .tmp 8), (2, .tmp 11), (3, .tmp 14), (4, .tmp 17), (5, .tmp 20), (6, .tmp 23), (7, .tmp 26), (8, .tmp 29)] [(0, .int .i64 s.a.Ke), (1, .int .i64 (oneV s.a.Ta)), (2, .int .i64 (oneV s.a.Fl)), (3, .int .i64 (oneV s.a.DI)), (4, .int .i64 (oneV s.a.DO)), (5, .int .i64 (oneV s.a.In)), (6, .int .i64 (oneV s.a.Cl)), (7, .int .i64 (oneV s.a.Wa)), (8, .int .i64 s.a.Bu)] (wC s.a) ?_ ?_ ?_ ?_ ?_
  · kernel_rfl
  · rfl
  · kernel_rfl
  · exact built_wC s.a
  with_reducible refine at_st rtW (w.heap.size + 1) w0 (wC s.a) ?_ ?_ ?_ ?_ (.tmp 2) (.tmp 30) ?_ ?_ ?_ ?_ ?_
  · exact K1.out.bx 1 _ _ _ rfl
  · rfl
  · rfl
  · exact wC_one _
  · rfl
  · rfl
  · rfl
  · rfl
  intro y2 hw2
  have K2 : Hid (Fm w [(w.heap.size, spC s, 34), (w.heap.size + 1, wC s.a, 74)] y2) := K1.out.put 1 _ _ _ _ rfl hw2.out
  go_wp2
  refine ret_row rtW Tryd.results47 rfl (K2.out.bx 1 _ _ _ rfl) rfl rfl ?_
  exact ⟨rfl, K2.out.low⟩
end Go.Proofs.YthpahpfnpapoiaaDoor
