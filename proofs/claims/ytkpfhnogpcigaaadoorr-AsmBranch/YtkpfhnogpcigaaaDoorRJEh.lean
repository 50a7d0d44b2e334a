/- Labels: which stands ahead of which. -/
import Derived.Test.YtkpfhnogpcigaaaDoorRJEc
import Derived.BigQuiet
namespace Go.Proofs.YtkpfhnogpcigaaaDoorR
open Go Go.RowKit
set_option linter.unusedVariables false
set_option maxHeartbeats 1000000
set_option maxRecDepth 20000

def sLt (a b : ByteArray) : Bool := Op.bytesLess a.toList b.toList
/-- Does a label stand ahead of another one? -/
def befL (a b : La) : Bool := decide (a.a < b.a) || (decide (a.a = b.a) && sLt a.n b.n)
def cmpI (a b : Int) : Int := if a < b then -1 else if b < a then 1 else 0
def cmpS (a b : ByteArray) : Int := if sLt a b then -1 else if a = b then 0 else 1
def ordL (a b : La) : Int := if cmpI a.a b.a ≠ 0 then cmpI a.a b.a else cmpS a.n b.n
theorem rbefore_any (w : World) (a b : La) (ha : inI a.a) (hb : inI b.a) : Calls Tryd.prog 46 #[.agg (kl a), .agg (kl b)] w fun e w' => e = .returned (.bool (befL a b)) ∧ Below w.heap.size w w' := by
  have K1 : Hid (Fm w [(w.heap.size, kl a, 61), (w.heap.size + 1, kl b, 61)] ((w.alloc (.cells (kl a) 61)).alloc (.cells (kl b) 61))) := Fm.two w _ _ _ _
  have c0 := (K1.out.bx 0 _ _ _ rfl).c 0 (.string a.n) rfl
  have c1 := (K1.out.bx 0 _ _ _ rfl).c 1 (.int .i64 a.a) rfl
  have d0 := (K1.out.bx 1 _ _ _ rfl).c 0 (.string b.n) rfl
  have d1 := (K1.out.bx 1 _ _ _ rfl).c 1 (.int .i64 b.a) rfl
  obtain ⟨s, hs⟩ : ∃ s, sLt a.n b.n = s := ⟨_, rfl⟩
  have hs' : Op.bytesLess a.n.toList b.n.toList = s := hs
  have hR : Hid (befL a b = (decide (a.a < b.a) || (decide (a.a = b.a) && s))) := by show _ = _; unfold befL; rw [hs]
  by_cases h1 : a.a < b.a
  · have fin : Hid (befL a b = true) := by show _ = _; rw [hR.out, decide_eq_true h1]; rfl
    go_enter Tryd.func46, Tryd.ntmps46
    go_wp2
    go_ret
    rw [fin.out]
    exact ⟨rfl, K1.out.low⟩
  · by_cases h2 : a.a = b.a
    · have q2 : (a.a == b.a) = true := by rw [beq_iff_eq]; exact h2
      have fin : Hid (befL a b = s) := by show _ = _; rw [hR.out, decide_eq_false h1, decide_eq_true h2]; rfl
      replace h2 : Hid _ := h2
      go_enter Tryd.func46, Tryd.ntmps46
      go_wp2
      go_ret
      rw [fin.out]
      exact ⟨by first | rfl | simp, K1.out.low⟩
    · have q2 : (a.a == b.a) = false := by rw [beq_eq_false_iff_ne]; exact h2
      have fin : Hid (befL a b = false) := by show _ = _; rw [hR.out, decide_eq_false h1, decide_eq_false h2]; rfl
      replace h2 : Hid _ := h2
      go_enter Tryd.func46, Tryd.ntmps46
      go_wp2
      go_ret
      rw [fin.out]
      exact ⟨rfl, K1.out.low⟩
theorem nanI (x : Int) (w : World) : Calls Tryd.prog 74 #[.int .i64 x] w fun e w' => e = .returned (.bool false) ∧ w' = w := by
  have q : (x != x) = false := by simp
  go_enter Tryd.func74, Tryd.ntmps74
  go_wp2
  try (go_quiet (fail); go_wp2)
  go_ret
  exact ⟨rfl, rfl⟩
theorem nanS (x : ByteArray) (w : World) : Calls Tryd.prog 75 #[.string x] w fun e w' => e = .returned (.bool false) ∧ w' = w := by
  have q : (x.toList != x.toList) = false := by simp
  go_enter Tryd.func75, Tryd.ntmps75
  go_wp2
  try (go_quiet (fail); go_wp2)
  go_ret
  exact ⟨rfl, rfl⟩
theorem cmpI_any (a b : Int) (w : World) : Calls Tryd.prog 58 #[.int .i64 a, .int .i64 b] w fun e w' => e = .returned (.int .i64 (cmpI a b)) ∧ w' = w := by
  have hN := fun x v => nanI x v
  by_cases h1 : a < b
  · have fin : Hid (cmpI a b = -1) := by show _ = _; unfold cmpI; rw [if_pos h1]
    go_enter Tryd.func58, Tryd.ntmps58
    go_wp2_with (go_at_call 74; refine (hN _ _).mono ?_; rintro e y ⟨rfl, rfl⟩)
    go_ret
    rw [fin.out]
    exact ⟨rfl, rfl⟩
  · by_cases h2 : b < a
    · have fin : Hid (cmpI a b = 1) := by show _ = _; unfold cmpI; rw [if_neg h1, if_pos h2]
      go_enter Tryd.func58, Tryd.ntmps58
      go_wp2_with (go_at_call 74; refine (hN _ _).mono ?_; rintro e y ⟨rfl, rfl⟩)
      go_ret
      rw [fin.out]
      exact ⟨rfl, rfl⟩
    · have fin : Hid (cmpI a b = 0) := by show _ = _; unfold cmpI; rw [if_neg h1, if_neg h2]
      go_enter Tryd.func58, Tryd.ntmps58
      go_wp2_with (go_at_call 74; refine (hN _ _).mono ?_; rintro e y ⟨rfl, rfl⟩)
      go_ret
      rw [fin.out]
      exact ⟨rfl, rfl⟩
theorem cmpS_any (a b : ByteArray) (w : World) : Calls Tryd.prog 59 #[.string a, .string b] w fun e w' => e = .returned (.int .i64 (cmpS a b)) ∧ w' = w := by
  have hN := fun x v => nanS x v
  by_cases h1 : sLt a b = true
  · have q1 : Op.bytesLess a.toList b.toList = true := h1
    have fin : Hid (cmpS a b = -1) := by show _ = _; unfold cmpS; rw [if_pos h1]
    clear h1
    go_enter Tryd.func59, Tryd.ntmps59
    go_wp2_with (go_at_call 75; refine (hN _ _).mono ?_; rintro e y ⟨rfl, rfl⟩)
    go_ret
    rw [fin.out]
    exact ⟨rfl, rfl⟩
  · have q1 : Op.bytesLess a.toList b.toList = false := by unfold sLt at h1; simpa using h1
    by_cases h2 : a = b
    · have q2 : (a.toList == b.toList) = true := str_eq h2
      have fin : Hid (cmpS a b = 0) := by show _ = _; unfold cmpS; rw [if_neg h1, if_pos h2]
      replace h2 : Hid _ := h2
      clear h1
      go_enter Tryd.func59, Tryd.ntmps59
      go_wp2_with (go_at_call 75; refine (hN _ _).mono ?_; rintro e y ⟨rfl, rfl⟩)
      go_ret
      rw [fin.out]
      exact ⟨rfl, rfl⟩
    · have q2 : (a.toList == b.toList) = false := str_ne h2
      have fin : Hid (cmpS a b = 1) := by show _ = _; unfold cmpS; rw [if_neg h1, if_neg h2]
      replace h2 : Hid _ := h2
      clear h1
      go_enter Tryd.func59, Tryd.ntmps59
      go_wp2_with (go_at_call 75; refine (hN _ _).mono ?_; rintro e y ⟨rfl, rfl⟩)
      go_ret
      rw [fin.out]
      exact ⟨rfl, rfl⟩
theorem cmpOr_any (a b : Int) (g : Nat) (w : World) (h0 : w.cell? ⟨g, 0, none⟩ = some (.int .i64 a)) (h1 : w.cell? ⟨g, 1, none⟩ = some (.int .i64 b)) : Calls Tryd.prog 57 #[.slice (some ⟨g, 0, none⟩) 2 2] w fun e w' => e = .returned (.int .i64 (if a ≠ 0 then a else b)) ∧ w' = w := by
  have i0 : ∀ w, (Instr.indexAt 144 (.slice (some ⟨g, 0, none⟩) 2 2) (.int .i64 0)).run Tryd.prog w = .ok (.pointer (some ⟨g, 0, none⟩)) w := fun w => by
    have := idxP (P := Tryd.prog) (g := g) (off := 0) (len := 2) (cap := 2) Tryd.underlying144 (s := 1) (by kernel_rfl) .i64 0 w (by omega)
    exact this
  have i1 : ∀ w, (Instr.indexAt 144 (.slice (some ⟨g, 0, none⟩) 2 2) (.int .i64 1)).run Tryd.prog w = .ok (.pointer (some ⟨g, 1, none⟩)) w := fun w => by
    have := idxP (P := Tryd.prog) (g := g) (off := 0) (len := 2) (cap := 2) Tryd.underlying144 (s := 1) (by kernel_rfl) .i64 1 w (by omega)
    exact this
  by_cases ha : a = 0
  · subst ha
    rw [if_neg (by simp)]
    by_cases hb : b = 0
    · subst hb
      go_enter Tryd.func57, Tryd.ntmps57
      go_wp2
      refine wp_loop_rounds 3 ?_
      rw [rounds_succ]; go_wp2
      rw [rounds_succ]; go_wp2
      rw [rounds_succ]; go_wp2
      go_ret
      exact ⟨rfl, rfl⟩
    · have qb : (b != 0) = true := by rw [bne_iff_ne]; exact hb
      replace hb : Hid _ := hb
      go_enter Tryd.func57, Tryd.ntmps57
      go_wp2
      refine wp_loop_rounds 2 ?_
      rw [rounds_succ]; go_wp2
      rw [rounds_succ]; go_wp2
      go_ret
      exact ⟨rfl, rfl⟩
  · have qa : (a != 0) = true := by rw [bne_iff_ne]; exact ha
    rw [if_pos ha]
    replace ha : Hid _ := ha
    go_enter Tryd.func57, Tryd.ntmps57
    go_wp2
    refine wp_loop_rounds 1 ?_
    rw [rounds_succ]; go_wp2
    go_ret
    exact ⟨rfl, rfl⟩
theorem calls_same {f : FuncId} {args : Array Value} {v : Value} {u : World} {C : World → Prop} (h : Calls Tryd.prog f args u fun e w' => e = .returned v ∧ w' = u) (hC : C u) : Calls Tryd.prog f args u fun e w' => e = .returned v ∧ C w' := h.mono fun e w' k => ⟨k.1, by rw [k.2]; exact hC⟩
theorem order_any (w : World) (a b : La) (ha : inI a.a) (hb : inI b.a) : Calls Tryd.prog 43 #[.agg (kl a), .agg (kl b)] w fun e w' => e = .returned (.int .i64 (ordL a b)) ∧ Below w.heap.size w w' := by
  have K1 : Hid (Fm w [(w.heap.size, kl a, 61), (w.heap.size + 1, kl b, 61)] ((w.alloc (.cells (kl a) 61)).alloc (.cells (kl b) 61))) := Fm.two w _ _ _ _
  have hcl : Hid (∀ y, Fm w [(w.heap.size, kl a, 61), (w.heap.size + 1, kl b, 61)] y → y.cell? ⟨w.heap.size, 0, none⟩ = some (.string a.n) ∧ y.cell? ⟨w.heap.size, 1, none⟩ = some (.int .i64 a.a) ∧ y.cell? ⟨w.heap.size + 1, 0, none⟩ = some (.string b.n) ∧ y.cell? ⟨w.heap.size + 1, 1, none⟩ = some (.int .i64 b.a)) := fun y hy => ⟨(hy.bx 0 _ _ _ rfl).c 0 (.string a.n) rfl, (hy.bx 0 _ _ _ rfl).c 1 (.int .i64 a.a) rfl, (hy.bx 1 _ _ _ rfl).c 0 (.string b.n) rfl, (hy.bx 1 _ _ _ rfl).c 1 (.int .i64 b.a) rfl⟩
  have hI := fun v => cmpI_any a.a b.a v
  have hS := fun v => cmpS_any a.n b.n v
  have hO : Hid (∀ v g, v.cell? ⟨g, 0, none⟩ = some (.int .i64 (cmpI a.a b.a)) → v.cell? ⟨g, 1, none⟩ = some (.int .i64 (cmpS a.n b.n)) → Calls Tryd.prog 57 #[.slice (some ⟨g, 0, none⟩) 2 2] v fun e w' => e = .returned (.int .i64 (ordL a b)) ∧ w' = v) := fun v g h1 h2 => cmpOr_any _ _ g v h1 h2
  replace hI : Hid _ := hI
  replace hS : Hid _ := hS
  go_enter Tryd.func43, Tryd.ntmps43
  go_wp2
  refine region_class_tail 10 (Fm w [(w.heap.size, kl a, 61), (w.heap.size + 1, kl b, 61)]) (by kernel_rfl) (by kernel_rfl) (K1.out.below (below_drew (Below.refl _ _))) ?_
  simp only [List.take_succ_cons, List.take_zero, List.drop_succ_cons, List.drop_zero]
  with_reducible refine quiet_one (.pointer (some ⟨w.heap.size, 1, none⟩)) ?_ ?_ ?_
  · kernel_rfl
  · intro u hy
    go_simp
  with_reducible refine quiet_one (.int .i64 a.a) ?_ ?_ ?_
  · kernel_rfl
  · intro u hy
    have t := (hcl.out u hy).2.1
    go_simp
  with_reducible refine quiet_one (.pointer (some ⟨w.heap.size + 1, 1, none⟩)) ?_ ?_ ?_
  · kernel_rfl
  · intro u hy
    go_simp
  with_reducible refine quiet_one (.int .i64 b.a) ?_ ?_ ?_
  · kernel_rfl
  · intro u hy
    have t := (hcl.out u hy).2.2.2
    go_simp
  with_reducible refine quiet_one (.int .i64 (cmpI a.a b.a)) ?_ ?_ ?_
  · kernel_rfl
  · intro u hy
    have d := calls_same (C := Fm w [(w.heap.size, kl a, 61), (w.heap.size + 1, kl b, 61)]) (hI.out u) hy
    go_simp
    all_goals exact d
  with_reducible refine quiet_one (.pointer (some ⟨w.heap.size, 0, none⟩)) ?_ ?_ ?_
  · kernel_rfl
  · intro u hy
    go_simp
  with_reducible refine quiet_one (.string a.n) ?_ ?_ ?_
  · kernel_rfl
  · intro u hy
    have t := (hcl.out u hy).1
    go_simp
  with_reducible refine quiet_one (.pointer (some ⟨w.heap.size + 1, 0, none⟩)) ?_ ?_ ?_
  · kernel_rfl
  · intro u hy
    go_simp
  with_reducible refine quiet_one (.string b.n) ?_ ?_ ?_
  · kernel_rfl
  · intro u hy
    have t := (hcl.out u hy).2.2.1
    go_simp
  with_reducible refine quiet_one (.int .i64 (cmpS a.n b.n)) ?_ ?_ ?_
  · kernel_rfl
  · intro u hy
    have d := calls_same (C := Fm w [(w.heap.size, kl a, 61), (w.heap.size + 1, kl b, 61)]) (hS.out u) hy
    go_simp
    all_goals exact d
  refine wpQuiet_nil ?_
  intro z0 Z0
  replace Z0 : Hid _ := Z0
  go_simp
  have F3 : Hid (Fm w [(w.heap.size, kl a, 61), (w.heap.size + 1, kl b, 61), (z0.heap.size, #[.int .i64 (cmpI a.a b.a), .int .i64 (cmpS a.n b.n)], 3)] (z0.alloc (.cells #[.int .i64 (cmpI a.a b.a), .int .i64 (cmpS a.n b.n)] 3))) := Z0.out.new _ _
  go_wp2_with (go_at_call 57; refine (hO.out _ z0.heap.size ((F3.out.bx 2 _ _ _ rfl).c 0 _ rfl) ((F3.out.bx 2 _ _ _ rfl).c 1 _ rfl)).mono ?_; rintro e y ⟨rfl, rfl⟩)
  go_ret
  exact ⟨rfl, F3.out.low⟩
end Go.Proofs.YtkpfhnogpcigaaaDoorR
