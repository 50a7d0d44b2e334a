/- Rows of waves in memory; the document's Wave, Bit and the reading of a byte. -/
import Derived.Test.YtdfjfacilbahkaaDoorUa
import Derived.Test.YtdfjfacilbahkaaDoorLw
namespace Go.Proofs.YtdfjfacilbahkaaDoor
open Go Go.RowKit
set_option linter.unusedVariables false
set_option maxHeartbeats 1000000
set_option maxRecDepth 20000

def c2 (p : Int × Int) : List Value := [.int .i64 p.1, .int .i64 p.2]
theorem infoWa : (Tryd.prog.info? 49).map (fun i => (i.zero, i.size, i.bytes)) = some (some (.agg #[.int .i64 0, .int .i64 0]), 2, 16) := by kernel_rfl
theorem c2_one (p : Int × Int) : ∀ v ∈ c2 p, v.oneCell' = true := fun v hv => by
  simp [c2] at hv
  rcases hv with h | h <;> subst h <;> rfl
theorem c2_all (p : Int × Int) : (c2 p).toArray.all (·.oneCell') = true := by simp [c2, Value.oneCell']
theorem kWave : KdL 24 49 2 16 c2 := by
  obtain ⟨i, hi, e⟩ := Option.map_eq_some_iff.1 infoWa
  injection e with e1 e2
  injection e2 with e2 e3
  exact ⟨Tryd.underlying24, ⟨i, _, hi, e1, e2, e3, rfl⟩, fun _ => rfl, c2_one, by decide, by decide⟩
theorem rtWa : Rt Tryd.prog 49 2 := ⟨⟨_, Tryd.underlying49, rfl⟩, by kernel_rfl⟩
abbrev L2 (x : World) (sp : Option Addr) (l : List (Int × Int)) : Prop := LiesL 2 c2 x sp l
theorem l2_at {x : World} {sp : Option Addr} {l : List (Int × Int)} (h : L2 x sp l) (j : Nat) (p : Int × Int) (hj : l[j]? = some p) : ∃ g o, sp = some ⟨g, o, none⟩ ∧ x.rangeAt g (o + j * 2) (c2 p) ∧ x.cell? ⟨g, o + j * 2, none⟩ = some (.int .i64 p.1) ∧ x.cell? ⟨g, o + j * 2 + 1, none⟩ = some (.int .i64 p.2) := by
  obtain ⟨g, o, e, k⟩ := h j p hj
  exact ⟨g, o, e, k, k 0 _ rfl, k 1 _ rfl⟩
theorem row_at {α : Type} {l : List α} {j n : Nat} (hn : l.length = n) (h : j < n) : ∃ v, l[j]? = some v ∧ l.drop j = v :: l.drop (j + 1) := by
  subst hn
  exact ⟨l[j], by simp [h], by simp⟩
theorem builtWa (x y : Int) : Tryd.prog.built 49 [(0, .int .i64 x), (1, .int .i64 y)] = some (c2 (x, y)).toArray := by kernel_rfl
theorem rwave_any (w : World) (b : Int) : Calls Tryd.prog 25 #[.int .i64 b] w fun e w' => e = .returned (.agg (c2 (wv b)).toArray) ∧ Below w.heap.size w w' := by
  have hF : Hid (Fm w [(w.heap.size, #[.int .i64 0, .int .i64 0], 49)] (w.alloc (.cells #[.int .i64 0, .int .i64 0] 49))) := Fm.one w _ _
  have hb2 : Hid (∀ x y, Tryd.prog.built 49 [(0, .int .i64 x), (1, .int .i64 y)] = some (c2 (x, y)).toArray) := builtWa
  unfold wv
  by_cases hb : b = 1
  · rw [if_pos hb]
    subst hb
    go_enter Tryd.func25, Tryd.ntmps25
    go_wp2_with (first
      | ((with_reducible refine gen_world (w.alloc (.cells #[.int .i64 0, .int .i64 0] 49)) (Fm w [(w.heap.size, #[.int .i64 0, .int .i64 0], 49)]) hF.out ?_); intro y K)
      | ((with_reducible refine at_bu #[(0, .const (.int .i64 140)), (1, .const (.int .i64 140))] [(0, .int .i64 140), (1, .int .i64 140)] (c2 (140, 140)).toArray ?_ ?_ ?_ (hb2.out _ _) ?_); kernel_rfl; rfl; (simp only [List.map_toArray, List.map_cons, List.map_nil]; rfl))
      | ((with_reducible refine at_st rtWa w.heap.size #[.int .i64 0, .int .i64 0] (c2 (140, 140)).toArray ?_ ?_ ?_ ?_ (.tmp 2) (.tmp 5) ?_ ?_ ?_ ?_ ?_); exact K.out.bx 0 _ _ _ rfl; rfl; rfl; exact c2_all _; rfl; rfl; rfl; rfl; intro y2 hw2; have K2 : Hid (Fm w [(w.heap.size, (c2 (140, 140)).toArray, 49)] y2) := K.out.put 0 _ _ _ _ rfl hw2.out))
    exact ret_row rtWa rfl rfl (K2.out.bx 0 _ _ _ rfl) rfl rfl ⟨rfl, K2.out.low⟩
  · rw [if_neg hb]
    have q : (b == 1) = false := by simpa using hb
    clear hb
    go_enter Tryd.func25, Tryd.ntmps25
    go_wp2_with (first
      | ((with_reducible refine gen_world (w.alloc (.cells #[.int .i64 0, .int .i64 0] 49)) (Fm w [(w.heap.size, #[.int .i64 0, .int .i64 0], 49)]) hF.out ?_); intro y K)
      | ((with_reducible refine at_bu #[(0, .const (.int .i64 56)), (1, .const (.int .i64 56))] [(0, .int .i64 56), (1, .int .i64 56)] (c2 (56, 56)).toArray ?_ ?_ ?_ (hb2.out _ _) ?_); kernel_rfl; rfl; (simp only [List.map_toArray, List.map_cons, List.map_nil]; rfl))
      | ((with_reducible refine at_st rtWa w.heap.size #[.int .i64 0, .int .i64 0] (c2 (56, 56)).toArray ?_ ?_ ?_ ?_ (.tmp 2) (.tmp 6) ?_ ?_ ?_ ?_ ?_); exact K.out.bx 0 _ _ _ rfl; rfl; rfl; exact c2_all _; rfl; rfl; rfl; rfl; intro y2 hw2; have K2 : Hid (Fm w [(w.heap.size, (c2 (56, 56)).toArray, 49)] y2) := K.out.put 0 _ _ _ _ rfl hw2.out))
    exact ret_row rtWa rfl rfl (K2.out.bx 0 _ _ _ rfl) rfl rfl ⟨rfl, K2.out.low⟩
theorem rbit_any (w : World) (p : Int × Int) : Calls Tryd.prog 40 #[.agg (c2 p).toArray] w fun e w' => e = .returned (.int .i64 (bitW p)) ∧ Below w.heap.size w w' := by
  have hF : Hid (Fm w [(w.heap.size, (c2 p).toArray, 49)] (w.alloc (.cells (c2 p).toArray 49))) := Fm.one w _ _
  unfold bitW
  have h1 : Hid ((c2 p).toArray[0]? = some (.int .i64 p.1)) := rfl
  have h2 : Hid ((c2 p).toArray[1]? = some (.int .i64 p.2)) := rfl
  obtain ⟨h, eh⟩ : ∃ x, p.1 = x := ⟨_, rfl⟩
  obtain ⟨l, el⟩ : ∃ x, p.2 = x := ⟨_, rfl⟩
  rw [eh, el]
  rw [eh] at h1
  rw [el] at h2
  obtain ⟨C, eC⟩ : ∃ x, (c2 p).toArray = x := ⟨_, rfl⟩
  rw [eC] at hF h1 h2 ⊢
  clear eC eh el
  have main : ∀ (b1 b2 b3 b4 b5 b6 b7 : Bool), decide (h < 1) = b1 → decide (l < 1) = b2 → decide (800 < h) = b3 → decide (800 < l) = b4 → decide (h + l < 40) = b5 → decide (800 < h + l) = b6 → decide (h + l ≤ 195) = b7 → ∀ R, R = (if b1 || b2 || b3 || b4 then (-1 : Int) else if b5 || b6 then -1 else if b7 then 0 else 1) → Calls Tryd.prog 40 #[.agg C] w fun e w' => e = .returned (.int .i64 R) ∧ Below w.heap.size w w' := by
    intro b1 b2 b3 b4 b5 b6 b7 q1 q2 q3 q4 q5 q6 q7 R hR
    have hb : b1 = false → b2 = false → b3 = false → b4 = false → (-9223372036854775808 ≤ h + l ∧ h + l ≤ 9223372036854775807) := fun e1 e2 e3 e4 => by
      subst e1 e2 e3 e4
      simp at q1 q2 q3 q4
      omega
    cases b1
    · cases b2
      · cases b3
        · cases b4
          · obtain ⟨hb0, hb1⟩ := hb rfl rfl rfl rfl
            cases b5
            · cases b6
              · cases b7
                all_goals
                  go_enter Tryd.func40, Tryd.ntmps40
                  go_wp2_with ((with_reducible refine gen_world (w.alloc (.cells C 49)) (Fm w [(w.heap.size, C, 49)]) hF.out ?_); intro y K; have d0 := (K.out.bx 0 _ _ _ rfl).c 0 _ h1.out; have d1 := (K.out.bx 0 _ _ _ rfl).c 1 _ h2.out)
                  go_ret
                  exact ⟨by first | rfl | (rw [hR]; rfl), K.out.low⟩
              · go_enter Tryd.func40, Tryd.ntmps40
                go_wp2_with ((with_reducible refine gen_world (w.alloc (.cells C 49)) (Fm w [(w.heap.size, C, 49)]) hF.out ?_); intro y K; have d0 := (K.out.bx 0 _ _ _ rfl).c 0 _ h1.out; have d1 := (K.out.bx 0 _ _ _ rfl).c 1 _ h2.out)
                go_ret
                exact ⟨by first | rfl | (rw [hR]; rfl), K.out.low⟩
            · go_enter Tryd.func40, Tryd.ntmps40
              go_wp2_with ((with_reducible refine gen_world (w.alloc (.cells C 49)) (Fm w [(w.heap.size, C, 49)]) hF.out ?_); intro y K; have d0 := (K.out.bx 0 _ _ _ rfl).c 0 _ h1.out; have d1 := (K.out.bx 0 _ _ _ rfl).c 1 _ h2.out)
              go_ret
              exact ⟨by first | rfl | (rw [hR]; rfl), K.out.low⟩
          · go_enter Tryd.func40, Tryd.ntmps40
            go_wp2_with ((with_reducible refine gen_world (w.alloc (.cells C 49)) (Fm w [(w.heap.size, C, 49)]) hF.out ?_); intro y K; have d0 := (K.out.bx 0 _ _ _ rfl).c 0 _ h1.out; have d1 := (K.out.bx 0 _ _ _ rfl).c 1 _ h2.out)
            go_ret
            exact ⟨by first | rfl | (rw [hR]; rfl), K.out.low⟩
        · go_enter Tryd.func40, Tryd.ntmps40
          go_wp2_with ((with_reducible refine gen_world (w.alloc (.cells C 49)) (Fm w [(w.heap.size, C, 49)]) hF.out ?_); intro y K; have d0 := (K.out.bx 0 _ _ _ rfl).c 0 _ h1.out; have d1 := (K.out.bx 0 _ _ _ rfl).c 1 _ h2.out)
          go_ret
          exact ⟨by first | rfl | (rw [hR]; rfl), K.out.low⟩
      · go_enter Tryd.func40, Tryd.ntmps40
        go_wp2_with ((with_reducible refine gen_world (w.alloc (.cells C 49)) (Fm w [(w.heap.size, C, 49)]) hF.out ?_); intro y K; have d0 := (K.out.bx 0 _ _ _ rfl).c 0 _ h1.out; have d1 := (K.out.bx 0 _ _ _ rfl).c 1 _ h2.out)
        go_ret
        exact ⟨by first | rfl | (rw [hR]; rfl), K.out.low⟩
    · go_enter Tryd.func40, Tryd.ntmps40
      go_wp2_with ((with_reducible refine gen_world (w.alloc (.cells C 49)) (Fm w [(w.heap.size, C, 49)]) hF.out ?_); intro y K; have d0 := (K.out.bx 0 _ _ _ rfl).c 0 _ h1.out; have d1 := (K.out.bx 0 _ _ _ rfl).c 1 _ h2.out)
      go_ret
      exact ⟨by first | rfl | (rw [hR]; rfl), K.out.low⟩
  refine main _ _ _ _ _ _ _ rfl rfl rfl rfl rfl rfl rfl _ ?_
  simp only [Bool.or_eq_true, decide_eq_true_eq, or_assoc]
end Go.Proofs.YtdfjfacilbahkaaDoor
