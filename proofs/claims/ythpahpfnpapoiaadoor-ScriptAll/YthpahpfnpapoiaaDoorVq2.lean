/- Is a text too long, or of too many lines? The program's. -/
import Derived.Test.YthpahpfnpapoiaaDoorVq1
namespace Go.Proofs.YthpahpfnpapoiaaDoor
open Go Go.RowKit Go.Shelf
set_option linter.unusedVariables false
set_option maxHeartbeats 2000000
set_option maxRecDepth 100000
attribute [local go_sem] Oper.semAt_some

theorem load_one {t : TypeId} {w : World} {b : Nat} {v : Value} (ha : ∀ w, (isAgg t).run Tryd.prog w = .ok false w) (hc : w.cell? ⟨b, 0, none⟩ = some v) : (loadVar t ⟨b, 0, none⟩).run Tryd.prog w = .ok v w := by
  simp [loadVar, ha, hc, go_sem]
theorem res_one {fn : Func} {p : Tmp} {t : TypeId} {tmps : Array Value} {w : World} {b : Nat} {v : Value} (h : fn.results = #[.cell p t]) (ha : ∀ w, (isAgg t).run Tryd.prog w = .ok false w) (hp : tmps.getD p undef = .pointer (some ⟨b, 0, none⟩)) (hc : w.cell? ⟨b, 0, none⟩ = some v) : (results fn tmps).run Tryd.prog w = .ok v w := by
  have hp' : tmps[p]?.getD undef = .pointer (some ⟨b, 0, none⟩) := by simpa using hp
  simp [results, h, hp', asAddr, load_one ha hc]
theorem res_three {fn : Func} {p q r : Tmp} {t u s : TypeId} {tmps : Array Value} {w : World} {b c d : Nat} {v1 v2 v3 : Value} (h : fn.results = #[.cell p t, .cell q u, .cell r s]) (ht : ∀ w, (isAgg t).run Tryd.prog w = .ok false w) (hu : ∀ w, (isAgg u).run Tryd.prog w = .ok false w) (hs : ∀ w, (isAgg s).run Tryd.prog w = .ok false w)
    (hp : tmps.getD p undef = .pointer (some ⟨b, 0, none⟩)) (hq : tmps.getD q undef = .pointer (some ⟨c, 0, none⟩)) (hr : tmps.getD r undef = .pointer (some ⟨d, 0, none⟩)) (h1 : w.cell? ⟨b, 0, none⟩ = some v1) (h2 : w.cell? ⟨c, 0, none⟩ = some v2) (h3 : w.cell? ⟨d, 0, none⟩ = some v3) : (results fn tmps).run Tryd.prog w = .ok (.tuple #[v1, v2, v3]) w := by
  have hp' : tmps[p]?.getD undef = .pointer (some ⟨b, 0, none⟩) := by simpa using hp
  have hq' : tmps[q]?.getD undef = .pointer (some ⟨c, 0, none⟩) := by simpa using hq
  have hr' : tmps[r]?.getD undef = .pointer (some ⟨d, 0, none⟩) := by simpa using hr
  simp [results, h, hp', hq', hr', asAddr, load_one ht h1, load_one hu h2, load_one hs h3]
/-- A function leaves, with or without the mark of a range over a function. -/
theorem leave_plain {n : Nat} {fn : Func} {tmps : Array Value} {R : Ending → World → Prop} {w : World} {v : Value} (hr : (results fn tmps).run Tryd.prog w = .ok v w) (hR : R (.returned v) w) : LeavesInM Fence.wide n Tryd.prog fn tmps R [] .returning w := ⟨v, hr, hR⟩
theorem leave_mark {n D : Nat} {fn : Func} {tmps : Array Value} {R : Ending → World → Prop} {w : World} {v : Value} (hK : w.heap[D]? = some (.deferred (some []))) (hr : (results fn tmps).run Tryd.prog (w.putObj D (.deferred none)) = .ok v (w.putObj D (.deferred none))) (hR : R (.returned v) (w.putObj D (.deferred none))) : LeavesInM Fence.wide n Tryd.prog fn tmps R [{ target := .collected D, args := #[] }] .returning w :=
  ⟨by simp, .inl ⟨_, _, rfl, run_takeDeferred hK, ⟨v, hr, hR⟩⟩⟩
theorem Fm.mark {w W : World} {bs : List (Nat × Array Value × TypeId)} {D : Nat} (h : Fm w bs W) (hK : W.heap[D]? = some (.deferred (some []))) (hD : w.heap.size ≤ D) : Fm w bs (W.putObj D (.deferred none)) :=
  h.own (grownBy_putObj' W D _) (fun r e => by cases e; exact ⟨hD, _, hK, rfl⟩)

theorem mark_set {w W : World} {bs : List (Nat × Array Value × TypeId)} {D : Nat} {ds : Option (List Deferred)} (h : Fm w bs W) (i b : Nat) (cs : Array Value) (t : TypeId) (hi : bs[i]? = some (b, cs, t)) (hK : W.heap[D]? = some (.deferred ds)) (j : Nat) (v : Value) : (W.setCell ⟨b, j, none⟩ v).heap[D]? = some (.deferred ds) := by
  refine (heap_setCell_other W ⟨b, j, none⟩ D _ (fun e => ?_)).trans hK
  have e : D = b := e
  subst e
  have h4 := h.get i _ _ _ hi
  rw [hK] at h4
  cases h4
def Few (t : List UInt8) (pre : List (Ln t)) : Prop := ∀ x ∈ pre, x.1.1 + 1 ≤ 4096
def Many (t : List UInt8) (pre : List (Ln t)) : Prop := ∃ x ∈ pre, 4096 < x.1.1 + 1
theorem Few.snoc {t : List UInt8} {pre : List (Ln t)} (h : Few t pre) (x : Ln t) (hx : ¬ 4096 < x.1.1 + 1) : Few t (pre ++ [x]) := fun x' hx' => by
  rcases List.mem_append.1 hx' with h' | h'
  · exact h x' h'
  · rw [List.mem_singleton.1 h']; omega
theorem long_any (w : World) (text : ByteArray) (hs : text.size ≤ 9223372036854775807) : Calls Tryd.prog 42 #[.string text] w fun e w' => e = .returned (.bool (decide (65536 < text.size) || decide (4096 < (allL (strL text)).length))) ∧ Below w.heap.size w w' := by
  obtain ⟨m, hm⟩ : ∃ m, (allL (strL text)).length = m := ⟨_, rfl⟩
  have hm' : Hid ((allL (strL text)).length = m) := hm
  rw [hm]
  clear hm
  have hF : Hid (Fm w [(w.heap.size, #[.bool false], 4)] (w.alloc (.cells #[.bool false] 4))) := Fm.one w _ _
  have ag : ∀ w, (isAgg 4).run Tryd.prog w = .ok false w := Tryd.isAgg4
  by_cases hb : 65536 < text.size
  · have q : (65536 : Int) < text.size := by omega
    have e : (decide (65536 < text.size) || decide (4096 < m)) = true := by simp [hb]
    rw [e]
    refine (callsIn_wide (n := 9)).1 ?_
    refine callsIn_of_wp_marks Tryd.func42 rfl trivial ?_ rfl
    simp only [Tryd.ntmps42, List.size_toArray, List.length_cons, List.length_nil, Nat.reduceAdd, Nat.reduceSub, Array.replicate_succ, Array.replicate_zero, List.push_toArray, List.append_toArray, List.nil_append, List.cons_append]
    refine wpIn_wide.2 ?_
    clear e hb hm'
    go_wp2_with ((with_reducible refine gen_world (w.alloc (.cells #[.bool false] 4)) (Fm w [(w.heap.size, #[.bool false], 4)]) hF.out ?_); intro y K; have d := (K.out.bx 0 _ _ _ rfl).c 0 (.bool false) rfl; have z := (K.out.bx 0 _ _ _ rfl).fz 0)
    have K2 := K.out.setCell 0 _ _ _ _ rfl 0 (.bool true) rfl
    exact leave_plain (res_one rfl ag rfl ((K2.bx 0 _ _ _ rfl).c 0 (.bool true) rfl)) ⟨rfl, K2.low⟩
  · have q : ¬ (65536 : Int) < text.size := by omega
    have e : (decide (65536 < text.size) || decide (4096 < m)) = decide (4096 < m) := by simp [hb]
    rw [e]
    obtain ⟨b, hb4⟩ : ∃ b, decide (4096 < m) = b := ⟨_, rfl⟩
    rw [hb4]
    have hb4 : Hid (decide (4096 < m) = b) := hb4
    have hsz : Hid (text.size ≤ 65536) := by show text.size ≤ 65536; omega
    refine (callsIn_wide (n := 9)).1 ?_
    refine callsIn_of_wp_marks Tryd.func42 rfl trivial ?_ rfl
    simp only [Tryd.ntmps42, List.size_toArray, List.length_cons, List.length_nil, Nat.reduceAdd, Nat.reduceSub, Array.replicate_succ, Array.replicate_zero, List.push_toArray, List.append_toArray, List.nil_append, List.cons_append]
    refine wpIn_wide.2 ?_
    clear e hb
    go_wp2_with (first
      | ((with_reducible refine gen_world (w.alloc (.cells #[.bool false] 4)) (Fm w [(w.heap.size, #[.bool false], 4)]) hF.out ?_); intro y K)
      | (go_at_call 43; refine (lines_any y text).mono ?_; rintro e y2 ⟨rfl, h2⟩; have K2 : Hid (Fm w [(w.heap.size, #[.bool false], 4), (y.heap.size, #[.string text], 9)] y2) := (by rw [h2]; exact K.out.new _ _); clear h2))
    refine (wpIn_wide (n := 9)).1 ?_
    have hc := (K2.out.bx 1 _ _ _ rfl).c 0 (.string text) rfl
    have hlt := heap_lt (K2.out.get 1 _ _ _ rfl)
    have hle : w.heap.size ≤ y2.heap.size := K2.out.low.size
    refine wpIn_rangeFunc_ownG (F := Fence.wide) (n := 9) rfl (by decide) (gf := 50) (lb := #[.pointer (some ⟨y.heap.size, 0, none⟩)]) rfl trivial (enters_of Tryd.func50 (by kernel_rfl) rfl) (lines_stops 8 (by decide) y.heap.size text hsz.out y2 hlt hc) (fun _ _ => trivial) (fun _ _ _ _ _ _ _ _ => trivial) (Below.refl _ _) (fun _ => rfl)
      (fun pre W => Fm w [(w.heap.size, #[.bool false], 4)] W ∧ Few (strL text) pre)
      (fun c pre W => c = .ret ∧ Fm w [(w.heap.size, #[.bool true], 4)] W ∧ Many (strL text) pre)
      (fun s A B row hs hg hr => ⟨hs.1.own hg (fun r e => ⟨Nat.le_trans hle (hr r e).1, (hr r e).2⟩), hs.2⟩)
      (fun c s A B row hs hg hr => ⟨hs.1, hs.2.1.own hg (fun r e => ⟨Nat.le_trans hle (hr r e).1, (hr r e).2⟩), hs.2.2⟩)
      ⟨K2.out.pre (l := [_]), fun x hx => by simp at hx⟩ ?a1 ?assign ?body ?done ?stop
    case assign =>
      intro l x W K hK
      dsimp only [encLn]
      gi_wp2
      exact hK
    case body =>
      rintro l pre x W ⟨h1, h2⟩ h3
      have d := (h1.bx 0 _ _ _ rfl).c 0 (.bool false) rfl
      have z := (h1.bx 0 _ _ _ rfl).fz 0
      by_cases hx : 4096 < x.1.1 + 1
      · have q2 : (4096 : Int) < (x.1.1 : Int) + 1 := by omega
        gi_wp2
        exact ⟨(KeepsOthers.setCell _ _ _).from _, rfl, h1.setCell 0 _ _ _ _ rfl 0 (.bool true) rfl, ⟨x, by simp, hx⟩⟩
      · have q2 : ¬ (4096 : Int) < (x.1.1 : Int) + 1 := by omega
        gi_wp2
        exact ⟨(KeepsOthers.refl _).from _, trivial, h1, h2.snoc x hx⟩
    case done =>
      rintro D xs W hD hS ⟨h1, h2⟩ hK
      have hm4 : b = false := by
        rw [← hb4.out]
        simp only [decide_eq_false_iff_not]
        intro h
        have hl : 4096 < xs.length := by rw [hS.1, hm'.out]; exact h
        have h3 := hS.2 4096 _ (List.getElem?_eq_getElem hl)
        have h4 := h2 _ (List.getElem_mem hl)
        omega
      subst hm4
      have d := (h1.bx 0 _ _ _ rfl).c 0 (.bool false) rfl
      have z := (h1.bx 0 _ _ _ rfl).fz 0
      go_wp2
      have h3 := h1.setCell 0 _ _ _ _ rfl 0 (.bool false) rfl
      have hK3 := mark_set h1 0 _ _ _ rfl hK 0 (.bool false)
      have h4 := h3.mark hK3 (Nat.le_trans hle hD)
      exact leave_mark hK3 (res_one rfl ag rfl ((h4.bx 0 _ _ _ rfl).c 0 (.bool false) rfl)) ⟨rfl, h4.low⟩
    case stop =>
      rintro D c pre W hD ⟨k, hk, hU⟩ ⟨rfl, h1, x, hx, h2⟩ hK
      have hm4 : b = true := by
        rw [← hb4.out]
        simp only [decide_eq_true_eq]
        have h3 := (List.getElem?_eq_some_iff.1 x.2).1
        rw [hm'.out] at h3
        omega
      subst hm4
      refine wpIn_wide.2 ?_
      go_wp2
      have h4 := h1.mark hK (Nat.le_trans hle hD)
      exact leave_mark hK (res_one rfl ag rfl ((h4.bx 0 _ _ _ rfl).c 0 (.bool true) rfl)) ⟨rfl, h4.low⟩
end Go.Proofs.YthpahpfnpapoiaaDoor
