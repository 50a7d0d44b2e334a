/- The statement's look at a script's cycles, so many of them. -/
import Derived.Test.YthpahpfnpapoiaaDoorWc
namespace Go.Proofs.YthpahpfnpapoiaaDoor
open Go Go.RowKit Go.Shelf
set_option linter.unusedVariables false
set_option maxHeartbeats 1000000
set_option maxRecDepth 100000

theorem Fm.nxt {W y : World} {l : List (Nat × Array Value × TypeId)} (h : Fm W l y) (m : Nat) (hm : y.heap.size = m) (cs : Array Value) (t : TypeId) : Fm W (l ++ [(m, cs, t)]) (y.alloc (.cells cs t)) ∧ (y.alloc (.cells cs t)).heap.size = m + 1 := by
  subst hm
  exact ⟨h.new cs t, by simp⟩
theorem six_boxes (W : World) (c0 c1 c2 c3 c4 c5 : Array Value) (t0 t1 t2 t3 t4 t5 : TypeId) : Fm W [(W.heap.size, c0, t0), (W.heap.size + 1, c1, t1), (W.heap.size + 2, c2, t2), (W.heap.size + 3, c3, t3), (W.heap.size + 4, c4, t4), (W.heap.size + 5, c5, t5)] ((((((W.alloc (.cells c0 t0)).alloc (.cells c1 t1)).alloc (.cells c2 t2)).alloc (.cells c3 t3)).alloc (.cells c4 t4)).alloc (.cells c5 t5)) ∧ ((((((W.alloc (.cells c0 t0)).alloc (.cells c1 t1)).alloc (.cells c2 t2)).alloc (.cells c3 t3)).alloc (.cells c4 t4)).alloc (.cells c5 t5)).heap.size = W.heap.size + 6 := by
  have s0 := (Fm.nil W).nxt _ rfl c0 t0
  have s1 := s0.1.nxt _ s0.2 c1 t1
  have s2 := s1.1.nxt _ s1.2 c2 t2
  have s3 := s2.1.nxt _ s2.2 c3 t3
  have s4 := s3.1.nxt _ s3.2 c4 t4
  have s5 := s4.1.nxt _ s4.2 c5 t5
  exact s5
theorem all1_any (w : World) (x : Value) : Calls Tryd.prog 30 #[x] w fun e w' => (∃ u, e = .returned u) ∧ w' = w := by
  go_enter Tryd.func30, Tryd.ntmps30
  go_wp2
  go_end0
  exact ⟨⟨_, rfl⟩, rfl⟩
theorem seen_any (B : Nat) (W : World) (sp : Option Addr) (cap n : Nat) (l : List Sn) (hl : Hid (LiesS W sp l)) (hn : Hid (l.length = n)) (up : Int) (hup : 1 ≤ up) (fv : Value) (hA : Hid (AllF B W fv l)) (hBW : B ≤ W.heap.size) :
    Calls Tryd.prog 19 #[.slice sp n cap, .int .i64 up, fv] W fun e y => e = .returned (.int .i64 (min up (cyclesS l))) ∧ Hid (Below W.heap.size W y) := by
  obtain ⟨S6, hS6⟩ := six_boxes W #[.slice sp n cap] #[.int .i64 up] #[.int .i64 0] #[.int .i64 0] #[.int .i64 0] #[.bool true] 23 3 3 3 3 4
  rcases hA.out with ⟨h0, rfl⟩ | ⟨h0, bk, v, rfl, hbx, hown, hbk⟩
  · have hmin : min up (cyclesS l) = 0 := by unfold cyclesS; rw [if_neg h0]; omega
    rw [hmin]
    have hcall : Calls Tryd.prog 30 #[.func (.func 33) #[] #[.pointer (some ⟨W.heap.size + 3, 0, none⟩), .pointer (some ⟨W.heap.size, 0, none⟩), .pointer (some ⟨W.heap.size + 4, 0, none⟩), .pointer (some ⟨W.heap.size + 2, 0, none⟩), .pointer (some ⟨W.heap.size + 5, 0, none⟩), .pointer (some ⟨W.heap.size + 1, 0, none⟩)]] ((((((W.alloc (.cells #[.slice sp n cap] 23)).alloc (.cells #[.int .i64 up] 3)).alloc (.cells #[.int .i64 0] 3)).alloc (.cells #[.int .i64 0] 3)).alloc (.cells #[.int .i64 0] 3)).alloc (.cells #[.bool true] 4)) fun e y => (∃ u, e = .returned u) ∧ Hid (∃ t u : Nat, Fm W [(W.heap.size, #[.slice sp n cap], 23), (W.heap.size + 1, #[.int .i64 up], 3), (W.heap.size + 2, #[.int .i64 (0)], 3), (W.heap.size + 3, #[.int .i64 (t)], 3), (W.heap.size + 4, #[.int .i64 (u)], 3), (W.heap.size + 5, #[.bool true], 4)] y) := by
      refine (all1_any _ _).mono ?_
      rintro e y ⟨he, rfl⟩
      exact ⟨he, ⟨0, 0, S6⟩⟩
    clear S6 hS6 h0 hmin hA
    go_enter Tryd.func19, Tryd.ntmps19
    go_wp2_with (go_at_call 30; refine hcall.mono ?_; rintro e y ⟨⟨uu, rfl⟩, H⟩; obtain ⟨t, u, HF⟩ := H.out; have d5 : y.cell? ⟨W.heap.size + 1 + 1 + 1 + 1 + 1, 0, none⟩ = some (.bool true) := (HF.bx 5 _ _ _ rfl).c 0 _ rfl; have d2 : y.cell? ⟨W.heap.size + 1 + 1, 0, none⟩ = some (.int .i64 0) := (HF.bx 2 _ _ _ rfl).c 0 _ rfl; replace HF : Hid (Below W.heap.size W y) := HF.low)
    go_ret
    exact ⟨rfl, HF⟩
  · have hS6' := hS6
    obtain ⟨c1, c2, c3⟩ := check_ok h0
    have hlen := exp_len l c2.pos
    have hcyc : cyclesS l = ((expand l).length : Int) := by unfold cyclesS; rw [if_pos h0, hlen]
    rw [hcyc]
    have hcall : Calls Tryd.prog 32 #[.func (.func 33) #[] #[.pointer (some ⟨W.heap.size + 3, 0, none⟩), .pointer (some ⟨W.heap.size, 0, none⟩), .pointer (some ⟨W.heap.size + 4, 0, none⟩), .pointer (some ⟨W.heap.size + 2, 0, none⟩), .pointer (some ⟨W.heap.size + 5, 0, none⟩), .pointer (some ⟨W.heap.size + 1, 0, none⟩)], .pointer (some ⟨bk, 0, none⟩)] ((((((W.alloc (.cells #[.slice sp n cap] 23)).alloc (.cells #[.int .i64 up] 3)).alloc (.cells #[.int .i64 0] 3)).alloc (.cells #[.int .i64 0] 3)).alloc (.cells #[.int .i64 0] 3)).alloc (.cells #[.bool true] 4)) fun e y => (∃ u, e = .returned u) ∧ Hid (∃ t u : Nat, Fm W [(W.heap.size, #[.slice sp n cap], 23), (W.heap.size + 1, #[.int .i64 up], 3), (W.heap.size + 2, #[.int .i64 (min up ((expand l).length : Int))], 3), (W.heap.size + 3, #[.int .i64 (t)], 3), (W.heap.size + 4, #[.int .i64 (u)], 3), (W.heap.size + 5, #[.bool true], 4)] y) := by
      generalize ((((((W.alloc (.cells #[.slice sp n cap] 23)).alloc (.cells #[.int .i64 up] 3)).alloc (.cells #[.int .i64 0] 3)).alloc (.cells #[.int .i64 0] 3)).alloc (.cells #[.int .i64 0] 3)).alloc (.cells #[.bool true] 4)) = Y at S6 hS6 ⊢
      have hb0 : Below W.heap.size W Y := S6.low
      have hbkl := heap_lt hbx
      refine (all2_any Y B bk v l ((hb0.block bk hbkl).trans hbx) (hown.below hb0) (by omega) h0 (fun q => W.heap.size + 2 ≤ q ∧ q ≤ W.heap.size + 5) (fun q hq => ⟨by omega, by omega, by omega, fun e => by have := (World.ownsRow.lt hown q e).2; omega⟩) 33 #[.pointer (some ⟨W.heap.size + 3, 0, none⟩), .pointer (some ⟨W.heap.size, 0, none⟩), .pointer (some ⟨W.heap.size + 4, 0, none⟩), .pointer (some ⟨W.heap.size + 2, 0, none⟩), .pointer (some ⟨W.heap.size + 5, 0, none⟩), .pointer (some ⟨W.heap.size + 1, 0, none⟩)] (fun _ _ => rfl)
        (fun i y => ∃ t u : Nat, Ps l t u i ∧ (i = 0 ∨ (i : Int) < up) ∧ Fm W [(W.heap.size, #[.slice sp n cap], 23), (W.heap.size + 1, #[.int .i64 up], 3), (W.heap.size + 2, #[.int .i64 (i)], 3), (W.heap.size + 3, #[.int .i64 (t)], 3), (W.heap.size + 4, #[.int .i64 (u)], 3), (W.heap.size + 5, #[.bool true], 4)] y)
        (fun i y => ∃ t u : Nat, up = (i : Int) + 1 ∧ Fm W [(W.heap.size, #[.slice sp n cap], 23), (W.heap.size + 1, #[.int .i64 up], 3), (W.heap.size + 2, #[.int .i64 ((i : Int) + 1)], 3), (W.heap.size + 3, #[.int .i64 (t)], 3), (W.heap.size + 4, #[.int .i64 (u)], 3), (W.heap.size + 5, #[.bool true], 4)] y) ?_ ?_ ?_).mono ?_
      · rintro i y y' ⟨t, u, P, h, F⟩ hb
        exact ⟨t, u, P, h, F.below hb⟩
      · rintro i a y hi hsz ⟨t, u, P, hiu, F⟩
        have e8 : (#[.int .i64 (i : Int), .agg (spC ⟨1, a⟩)] ++ #[.pointer (some ⟨W.heap.size + 3, 0, none⟩), .pointer (some ⟨W.heap.size, 0, none⟩), .pointer (some ⟨W.heap.size + 4, 0, none⟩), .pointer (some ⟨W.heap.size + 2, 0, none⟩), .pointer (some ⟨W.heap.size + 5, 0, none⟩), .pointer (some ⟨W.heap.size + 1, 0, none⟩)] : Array Value) = #[.int .i64 (i : Int), .agg (spC ⟨1, a⟩), .pointer (some ⟨W.heap.size + 3, 0, none⟩), .pointer (some ⟨W.heap.size, 0, none⟩), .pointer (some ⟨W.heap.size + 4, 0, none⟩), .pointer (some ⟨W.heap.size + 2, 0, none⟩), .pointer (some ⟨W.heap.size + 5, 0, none⟩), .pointer (some ⟨W.heap.size + 1, 0, none⟩)] := by simp
        rw [e8]
        refine (seen1_any B W y hBW sp cap n l hl hn h0 up i a hi t u P F).mono ?_
        rintro e y' ⟨rfl, H⟩
        obtain ⟨t', u', P', K'⟩ := H.out
        refine ⟨K'.cu, ?_⟩
        by_cases h : (i : Int) + 1 < up
        · exact .inl ⟨by rw [decide_eq_true h], t', u', P', .inr (by omega), K'.fm⟩
        · exact .inr ⟨by rw [decide_eq_false h], t', u', by omega, K'.fm⟩
      · exact ⟨0, 0, Ps.zero l, .inl rfl, S6⟩
      · rintro e y ⟨he, H⟩
        refine ⟨he, ?_⟩
        rcases H.out.2 with ⟨t, u, P, h, F⟩ | ⟨i, hi, t, u, h, F⟩
        · rw [show min up ((expand l).length : Int) = ((expand l).length : Int) by omega]
          exact ⟨t, u, F⟩
        · rw [show min up ((expand l).length : Int) = (i : Int) + 1 by omega]
          exact ⟨t, u, F⟩
    obtain ⟨R, hR⟩ : ∃ R, min up ((expand l).length : Int) = R := ⟨_, rfl⟩
    rw [hR] at hcall ⊢
    clear S6 hS6 hS6' h0 hR hcyc hlen c1 c2 c3 hbx hown hbk hA
    go_enter Tryd.func19, Tryd.ntmps19
    go_wp2_with (go_at_call 32; refine hcall.mono ?_; rintro e y ⟨⟨uu, rfl⟩, H⟩; obtain ⟨t, u, HF⟩ := H.out; have d5 : y.cell? ⟨W.heap.size + 1 + 1 + 1 + 1 + 1, 0, none⟩ = some (.bool true) := (HF.bx 5 _ _ _ rfl).c 0 _ rfl; have d2 : y.cell? ⟨W.heap.size + 1 + 1, 0, none⟩ = some (.int .i64 R) := (HF.bx 2 _ _ _ rfl).c 0 _ rfl; replace HF : Hid (Below W.heap.size W y) := HF.low)
    go_ret
    exact ⟨rfl, HF⟩
end Go.Proofs.YthpahpfnpapoiaaDoor
