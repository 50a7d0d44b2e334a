/- ScriptAll's walk. -/
import Derived.Test.YthpahpfnpapoiaaDoorWf
import Derived.Test.YthpahpfnpapoiaaDoorXg
import Derived.Test.YthpahpfnpapoiaaDoorZe
import Derived.Test.YthpahpfnpapoiaaDoorXz
namespace Go.Proofs.YthpahpfnpapoiaaDoor
open Go Go.RowKit Go.Shelf
set_option linter.unusedVariables false
set_option maxHeartbeats 1000000
set_option maxRecDepth 100000

theorem three_boxes (w : World) (c0 c1 c2 : Array Value) (t0 t1 t2 : TypeId) : Fm w [(w.heap.size, c0, t0), (w.heap.size + 1, c1, t1), (w.heap.size + 1 + 1, c2, t2)] (((w.alloc (.cells c0 t0)).alloc (.cells c1 t1)).alloc (.cells c2 t2)) := by
  have s0 := (Fm.nil w).nxt _ rfl c0 t0
  have s1 := s0.1.nxt _ s0.2 c1 t1
  exact (s1.1.nxt _ s1.2 c2 t2).1
/-- Behind 'back': the boxes, and what the program's function holds. -/
theorem after_back {w yb y3 y4 : World} {bs : List (Nat × Array Value × TypeId)} {l : List Sn} (F : Fm w bs yb) (hL : LntS yb yb.heap.size l y3) (B b3 bk : Nat) (fv v : Value) (t : TypeId) (hB : yb.heap.size < B) (hb3 : B ≤ b3) (h3 : Bx y3 b3 #[fv] t) (hk : Bx y3 bk #[v] 23) (hbk : B ≤ bk) (ho : OwnS B y3 v l) (hC : Cu yb.heap.size (fun q _ => q = yb.heap.size) y3 y4) : Al w (bs ++ [(b3, #[fv], t)]) bk v l y4 := by
  have k := F.low.size
  refine ⟨F.add (hL.low.trans hC.low) b3 _ _ ((hC.blk b3 (heap_lt h3) (fun _ e => by omega)).trans h3) (by omega), (hC.blk bk (heap_lt hk) (fun _ e => by omega)).trans hk, OwnS.weak (ho.keepB fun g e => hC.blk g (World.ownsRow.lt ho g e).2 (fun _ e' => by have := (World.ownsRow.lt ho g e).1; omega)) (by omega), by omega⟩
theorem allF_ok {B : Nat} {W : World} {fv : Value} {l : List Sn} (h : AllF B W fv l) (h0 : checkS l = 0) : ∃ bk v, fv = (.func (.func 32) #[] #[.pointer (some ⟨bk, 0, none⟩)]) ∧ Hid (Bx W bk #[v] 23 ∧ OwnS B W v l ∧ B ≤ bk) := by
  rcases h with ⟨h1, _⟩ | ⟨_, bk, v, h2, h3, h4, h5⟩
  · exact absurd h0 h1
  · exact ⟨bk, v, h2, ⟨h3, h4, h5⟩⟩
theorem new_box {yb y1 y2 : World} {l : List Sn} {bk : Nat} {v : Value} (hL : LntS yb yb.heap.size l y1) (hb : Below y1.heap.size y1 y2) (H : Hid (Bx y2 bk #[v] 23 ∧ OwnS y1.heap.size y2 v l ∧ y1.heap.size ≤ bk)) : (fun y => LntS yb yb.heap.size l y ∧ y1.heap.size ≤ y2.heap.size ∧ Bx y y2.heap.size #[(.func (.func 32) #[] #[.pointer (some ⟨bk, 0, none⟩)])] 37 ∧ Bx y bk #[v] 23 ∧ y1.heap.size ≤ bk ∧ OwnS y1.heap.size y v l) (y2.alloc (.cells #[(.func (.func 32) #[] #[.pointer (some ⟨bk, 0, none⟩)])] 37)) := by
  have k := below1 y2 (.cells #[(.func (.func 32) #[] #[.pointer (some ⟨bk, 0, none⟩)])] 37)
  exact ⟨(hL.below hb).below k, hb.size, (Fm.one y2 _ _).bx 0 _ _ _ rfl, (k.block bk (heap_lt H.out.1)).trans H.out.1, H.out.2.2, H.out.2.1.below k⟩
theorem allF_bad {B : Nat} {W : World} {fv : Value} {l : List Sn} (h : AllF B W fv l) (h0 : checkS l ≠ 0) : fv = (.func (.func 30) #[] #[]) := by
  rcases h with ⟨_, h1⟩ | ⟨h1, _⟩
  · exact h1
  · exact absurd h1 h0
theorem new_box' {yb y1 y2 : World} {l : List Sn} (hL : LntS yb yb.heap.size l y1) (hb : Below y1.heap.size y1 y2) : (fun y => LntS yb yb.heap.size l y ∧ y1.heap.size ≤ y2.heap.size ∧ Bx y y2.heap.size #[(.func (.func 30) #[] #[])] 37) (y2.alloc (.cells #[(.func (.func 30) #[] #[])] 37)) := by
  have k := below1 y2 (.cells #[(.func (.func 30) #[] #[])] 37)
  exact ⟨(hL.below hb).below k, hb.size, (Fm.one y2 _ _).bx 0 _ _ _ rfl⟩
theorem back_box {w yb y3 y4 : World} {bs : List (Nat × Array Value × TypeId)} {l : List Sn} (F : Fm w bs yb) (hL : LntS yb yb.heap.size l y3) (B b3 : Nat) (fv : Value) (t : TypeId) (hB : yb.heap.size < B) (hb3 : B ≤ b3) (h3 : Bx y3 b3 #[fv] t) (hC : Cu yb.heap.size (fun q _ => q = yb.heap.size) y3 y4) : Fm w (bs ++ [(b3, #[fv], t)]) y4 :=
  F.add (hL.low.trans hC.low) b3 _ _ ((hC.blk b3 (heap_lt h3) (fun _ e => by omega)).trans h3) (by omega)
theorem all_walk (w : World) (tb : Hid (Tp w)) (sp : Option Addr) (cap : Nat) (l : List Sn) (hl : Hid (LiesS w sp l)) (hn : l.length ≤ 9223372036854775807) (nn inn : Int) :
    Calls Tryd.prog 5 #[.slice sp l.length cap, .int .i64 nn, .int .i64 inn] w fun e w' => e = .returned (.bool true) ∧ Below w.heap.size w w' := by
  obtain ⟨n, hn'⟩ : ∃ n, l.length = n := ⟨_, rfl⟩
  have ni : (n : Int) ≤ 9223372036854775807 := by omega
  by_cases hbig : 2147483647 < n
  · rw [hn']
    have q : decide ((2147483647 : Int) < n) = true := by simp; omega
    have F2 : Hid (Fm w [(w.heap.size, #[.slice sp n cap], 23), (w.heap.size + 1, #[.int .i64 inn], 3)] ((w.alloc (.cells #[.slice sp n cap] 23)).alloc (.cells #[.int .i64 inn] 3))) := Fm.two w _ _ _ _
    clear hbig hn hn'
    go_enter Tryd.func5, Tryd.ntmps5
    go_wp2
    go_ret
    exact ⟨rfl, F2.out.low⟩
  have q : decide ((2147483647 : Int) < n) = false := by simp; omega
  have hn2 : l.length ≤ 2147483647 := by omega
  obtain ⟨M0, hM0⟩ : ∃ x, bits .and .i64 nn 1023 = x := ⟨_, rfl⟩
  have hq := and_mask nn
  rw [hM0] at hq
  obtain ⟨q0, q1⟩ := hq
  obtain ⟨k, hk⟩ : ∃ k, 1 + M0 = k := ⟨_, rfl⟩
  have k1 : 1 ≤ k := by omega
  have k2 : k ≤ 1024 := by omega
  have hT : Hid (∀ y, Below w.heap.size w y → Calls Tryd.prog 15 #[.slice sp n cap] y fun e w' => e = .returned (.tuple #[.int .i64 (cyclesS l), .int .i64 (checkS l)]) ∧ w' = y) := fun y h => by
    have := rcycles_any y sp cap l (hl.out.below h) hn
    rw [hn'] at this
    exact this
  have hLt : Hid (∀ y, Below w.heap.size w y → Calls Tryd.prog 10 #[.slice sp n cap] y fun e w' => e = .returned (.slice (some ⟨y.heap.size, 0, none⟩) n (n + 1)) ∧ Hid (LntS y y.heap.size l w')) := fun y h => by
    have := lent_any y sp cap l (hl.out.below h) hn2
    rw [hn'] at this
    exact this
  have hBk : Hid (∀ yb y, LntS yb yb.heap.size l y → Below w.heap.size w y → Calls Tryd.prog 13 #[.slice (some ⟨yb.heap.size, 0, none⟩) n (n + 1), .slice sp n cap] y fun e w' => e = .returned (.bool true) ∧ Cu yb.heap.size (fun q _ => q = yb.heap.size) y w') := fun yb y h hb => by
    have := back_any yb y yb.heap.size sp cap l (Nat.le_refl _) h (hl.out.below hb) hn2
    rw [hn'] at this
    exact this
  have hAl : Hid (∀ y g, LiesS y (some ⟨g, 0, none⟩) l → Calls Tryd.prog 18 #[.slice (some ⟨g, 0, none⟩) n (n + 1)] y fun e w' => ∃ fv, e = .returned fv ∧ Hid (AllF y.heap.size w' fv l ∧ Below y.heap.size y w')) := fun y g h => by
    have := all_any y g (n + 1) l h hn2
    rw [hn'] at this
    exact this
  have hW : Hid (∀ y, Below w.heap.size w y → Calls Tryd.prog 9 #[] y fun e w' => e = .returned (.bool true) ∧ Below y.heap.size y w') := fun y h => awake_any y (tb.out.below h)
  obtain ⟨m, hm⟩ : ∃ x, cyclesS l = x := ⟨_, rfl⟩
  have hSe : Hid (∀ y (kk : Int) fv, 1 ≤ kk → AllF w.heap.size y fv l → Below w.heap.size w y → Calls Tryd.prog 19 #[.slice sp n cap, .int .i64 kk, fv] y fun e z => e = .returned (.int .i64 (min kk m)) ∧ Hid (Below y.heap.size y z)) := fun y kk fv h1 h2 h3 => by
    have := seen_any w.heap.size y sp cap n l (hl.out.below h3) hn' kk h1 fv h2 h3.size
    rw [hm] at this
    exact this
  have m0 : 0 ≤ m ∧ m ≤ 4194304 := by
    rw [← hm]
    unfold cyclesS
    split
    · rename_i h0
      obtain ⟨c1, c2, c3⟩ := check_ok h0
      have := exp_len l c2.pos
      omega
    · omega
  obtain ⟨m0, m1⟩ := m0
  have hs1 : min (m + 1) m = m := by omega
  obtain ⟨R, hR⟩ : ∃ R, min k m = R := ⟨_, rfl⟩
  have hR' : (if m < k then m else k) = R := by rw [← hR]; split <;> omega
  obtain ⟨C, hC⟩ : ∃ C, min 101 m = C := ⟨_, rfl⟩
  have hC' : (if m < 101 then m else 101) = C := by rw [← hC]; split <;> omega
  have hl' : Hid (l.length = n) := hn'
  have hCh : Hid (min 101 m = C) := hC
  have hSe1 : Hid (∀ y fv, AllF w.heap.size y fv l → Below w.heap.size w y → Calls Tryd.prog 19 #[.slice sp n cap, .int .i64 k, fv] y fun e z => e = .returned (.int .i64 R) ∧ Hid (Below y.heap.size y z)) := fun y fv h2 h3 => by
    have := hSe.out y k fv k1 h2 h3
    rw [hR] at this
    exact this
  have hSe2 : Hid (∀ y fv, AllF w.heap.size y fv l → Below w.heap.size w y → Calls Tryd.prog 19 #[.slice sp n cap, .int .i64 (m + 1), fv] y fun e z => e = .returned (.int .i64 m) ∧ Hid (Below y.heap.size y z)) := fun y fv h2 h3 => by
    have := hSe.out y (m + 1) fv (by omega) h2 h3
    rw [hs1] at this
    exact this
  rw [hn']
  have hmm : Hid (cyclesS l = m) := hm
  rw [hm] at hT
  have F2 : Hid (Fm w [(w.heap.size, #[.slice sp n cap], 23), (w.heap.size + 1, #[.int .i64 inn], 3)] ((w.alloc (.cells #[.slice sp n cap] 23)).alloc (.cells #[.int .i64 inn] 3))) := Fm.two w _ _ _ _
  by_cases h0 : checkS l = 0
  · rw [h0] at hT
    have h0 : Hid (checkS l = 0) := h0
    have F3 : Hid (Fm w [(w.heap.size, #[.slice sp n cap], 23), (w.heap.size + 1, #[.int .i64 inn], 3), (w.heap.size + 1 + 1, #[.int .i64 m], 3)] (((w.alloc (.cells #[.slice sp n cap] 23)).alloc (.cells #[.int .i64 inn] 3)).alloc (.cells #[.int .i64 m] 3))) := three_boxes w _ _ _ _ _ _
    have hst : ∀ (bk : Nat) (y : World) (a : Addr) (mm : Mode), (store a (.func (.func 32) #[] #[.pointer (some ⟨bk, 0, none⟩)]) mm).run Tryd.prog y = stored Tryd.prog y a (.func (.func 32) #[] #[.pointer (some ⟨bk, 0, none⟩)]) mm := fun bk y a mm => run_store Tryd.prog y a _ mm rfl
    have hnf : ∀ (bk : Nat) (y : World), (binOp .eql 37 (.func (.func 32) #[] #[.pointer (some ⟨bk, 0, none⟩)]) .nilFunc).run Tryd.prog y = .ok (.bool false) y := fun bk y => by kernel_rfl
    clear hbig hn hn2 hm hn' tb hSe
    go_enter Tryd.func5, Tryd.ntmps5
    go_wp2_with (first
      | (go_at_call 15; refine (hT.out _ F2.out.low).mono ?_; rintro e x ⟨rfl, hx⟩; subst hx)
      | ((with_reducible refine gen_world (((w.alloc (.cells #[.slice sp n cap] 23)).alloc (.cells #[.int .i64 inn] 3)).alloc (.cells #[.int .i64 m] 3)) (Fm w [(w.heap.size, #[.slice sp n cap], 23), (w.heap.size + 1, #[.int .i64 inn], 3), (w.heap.size + 1 + 1, #[.int .i64 m], 3)]) ?_ ?_); exact F3.out; intro yb K3; have d0 := (K3.out.bx 0 _ _ _ rfl).c 0 _ rfl)
      | (go_at_call 10; refine (hLt.out yb K3.out.low).mono ?_; rintro e y1 ⟨rfl, L1⟩)
      | (go_at_call 18; refine (hAl.out y1 yb.heap.size L1.out.lies).mono ?_; rintro e y2 ⟨fv, rfl, H2⟩; obtain ⟨bk, v, rfl, H3⟩ := allF_ok H2.out.1 h0.out; have KN : Hid ((fun y => LntS yb yb.heap.size l y ∧ y1.heap.size ≤ y2.heap.size ∧ Bx y y2.heap.size #[(.func (.func 32) #[] #[.pointer (some ⟨bk, 0, none⟩)])] 37 ∧ Bx y bk #[v] 23 ∧ y1.heap.size ≤ bk ∧ OwnS y1.heap.size y v l) (y2.alloc (.cells #[(.func (.func 32) #[] #[.pointer (some ⟨bk, 0, none⟩)])] 37))) := new_box L1.out H2.out.2 H3)
      | ((with_reducible refine gen_world (y2.alloc (.cells #[(.func (.func 32) #[] #[.pointer (some ⟨bk, 0, none⟩)])] 37)) (fun y => LntS yb yb.heap.size l y ∧ y1.heap.size ≤ y2.heap.size ∧ Bx y y2.heap.size #[(.func (.func 32) #[] #[.pointer (some ⟨bk, 0, none⟩)])] 37 ∧ Bx y bk #[v] 23 ∧ y1.heap.size ≤ bk ∧ OwnS y1.heap.size y v l) ?_ ?_); exact KN.out; intro y3 K4; have d0' := ((K3.out.below K4.out.1.low).bx 0 _ _ _ rfl).c 0 _ rfl)
      | (go_at_call 13; refine (hBk.out yb y3 K4.out.1 (K3.out.below K4.out.1.low).low).mono ?_; rintro e y4 ⟨rfl, H4⟩; have A4 : Hid (Al w [(w.heap.size, #[.slice sp n cap], 23), (w.heap.size + 1, #[.int .i64 inn], 3), (w.heap.size + 1 + 1, #[.int .i64 m], 3), (y2.heap.size, #[(.func (.func 32) #[] #[.pointer (some ⟨bk, 0, none⟩)])], 37)] bk v l y4) := after_back K3.out K4.out.1 y1.heap.size _ bk _ v _ (heap_lt L1.out.bx) K4.out.2.1 K4.out.2.2.1 K4.out.2.2.2.1 K4.out.2.2.2.2.1 K4.out.2.2.2.2.2 H4; have d3 := (A4.out.fm.bx 3 _ _ _ rfl).c 0 _ rfl)
      | ((with_reducible refine gen_world (y4.alloc (.cells #[.int .i64 k] 3)) (Al w [(w.heap.size, #[.slice sp n cap], 23), (w.heap.size + 1, #[.int .i64 inn], 3), (w.heap.size + 1 + 1, #[.int .i64 m], 3), (y2.heap.size, #[(.func (.func 32) #[] #[.pointer (some ⟨bk, 0, none⟩)])], 37), (y4.heap.size, #[.int .i64 k], 3)] bk v l) ?_ ?_); exact A4.out.new _ rfl _ _; intro y5 A5; have d50 := (A5.out.fm.bx 0 _ _ _ rfl).c 0 _ rfl; have d53 := (A5.out.fm.bx 3 _ _ _ rfl).c 0 _ rfl; have d54 := (A5.out.fm.bx 4 _ _ _ rfl).c 0 _ rfl)
      | (go_at_call 19; refine (hSe2.out y6 _ (A6.out.allF h0.out) A6.out.fm.low).mono ?_; rintro e y7 ⟨rfl, H7⟩; have A7 : Hid (Al w [(w.heap.size, #[.slice sp n cap], 23), (w.heap.size + 1, #[.int .i64 inn], 3), (w.heap.size + 1 + 1, #[.int .i64 m], 3), (y2.heap.size, #[(.func (.func 32) #[] #[.pointer (some ⟨bk, 0, none⟩)])], 37), (y4.heap.size, #[.int .i64 k], 3)] bk v l y7) := A6.out.below H7.out; have g5 : Hid (bk ≠ y7.heap.size ∧ v.ownBlock ≠ some y7.heap.size) := A7.out.off _ rfl; have A8 : Hid (Al w [(w.heap.size, #[.slice sp n cap], 23), (w.heap.size + 1, #[.int .i64 inn], 3), (w.heap.size + 1 + 1, #[.int .i64 m], 3), (y2.heap.size, #[(.func (.func 32) #[] #[.pointer (some ⟨bk, 0, none⟩)])], 37), (y4.heap.size, #[.int .i64 k], 3), (y7.heap.size, #[.int .i64 (0)], 3)] bk v l (y7.alloc (.cells #[.int .i64 0] 3))) := A7.out.new _ rfl _ _; have g6 : Hid (bk ≠ y7.heap.size + 1 ∧ v.ownBlock ≠ some (y7.heap.size + 1)) := A8.out.off _ (by simp); have A9' : Hid (Al w [(w.heap.size, #[.slice sp n cap], 23), (w.heap.size + 1, #[.int .i64 inn], 3), (w.heap.size + 1 + 1, #[.int .i64 m], 3), (y2.heap.size, #[(.func (.func 32) #[] #[.pointer (some ⟨bk, 0, none⟩)])], 37), (y4.heap.size, #[.int .i64 k], 3), (y7.heap.size, #[.int .i64 (0)], 3), (y7.heap.size + 1, #[.bool true], 4)] bk v l ((y7.alloc (.cells #[.int .i64 0] 3)).alloc (.cells #[.bool true] 4))) := A8.out.new _ (by simp) _ _)
      | (go_at_call 19; refine (hSe1.out y5 _ (A5.out.allF h0.out) A5.out.fm.low).mono ?_; rintro e y6 ⟨rfl, H6⟩; have A6 : Hid (Al w [(w.heap.size, #[.slice sp n cap], 23), (w.heap.size + 1, #[.int .i64 inn], 3), (w.heap.size + 1 + 1, #[.int .i64 m], 3), (y2.heap.size, #[(.func (.func 32) #[] #[.pointer (some ⟨bk, 0, none⟩)])], 37), (y4.heap.size, #[.int .i64 k], 3)] bk v l y6) := A5.out.below H6.out; have d60 := (A6.out.fm.bx 0 _ _ _ rfl).c 0 _ rfl; have d62 := (A6.out.fm.bx 2 _ _ _ rfl).c 0 _ rfl; have d63 := (A6.out.fm.bx 3 _ _ _ rfl).c 0 _ rfl)
      | ((with_reducible refine gen_world ((y7.alloc (.cells #[.int .i64 0] 3)).alloc (.cells #[.bool true] 4)) (Al w [(w.heap.size, #[.slice sp n cap], 23), (w.heap.size + 1, #[.int .i64 inn], 3), (w.heap.size + 1 + 1, #[.int .i64 m], 3), (y2.heap.size, #[(.func (.func 32) #[] #[.pointer (some ⟨bk, 0, none⟩)])], 37), (y4.heap.size, #[.int .i64 k], 3), (y7.heap.size, #[.int .i64 (0)], 3), (y7.heap.size + 1, #[.bool true], 4)] bk v l) ?_ ?_); exact A9'.out; intro y9 A9; have d93 := (A9.out.fm.bx 3 _ _ _ rfl).c 0 _ rfl)
      | (go_at_call 32; refine (cball_any w y9 sp cap n l hl hl' h0 inn m k hmm k1 bk v _ _ _ _ _ _ _ g5 g6 A9).mono ?_; rintro e y10 ⟨⟨u, rfl⟩, H10⟩; have K10 : Hid (Fm w [(w.heap.size, #[.slice sp n cap], 23), (w.heap.size + 1, #[.int .i64 inn], 3), (w.heap.size + 1 + 1, #[.int .i64 m], 3), (y2.heap.size, #[(.func (.func 32) #[] #[.pointer (some ⟨bk, 0, none⟩)])], 37), (y4.heap.size, #[.int .i64 k], 3), (y7.heap.size, #[.int .i64 (C)], 3), (y7.heap.size + 1, #[.bool true], 4)] y10) := by { have h := H10.out; rw [hCh.out] at h; exact h }; have e2 := (K10.out.bx 2 _ _ _ rfl).c 0 _ rfl; have e4 := (K10.out.bx 4 _ _ _ rfl).c 0 _ rfl; have e5 := (K10.out.bx 5 _ _ _ rfl).c 0 _ rfl; have e6 := (K10.out.bx 6 _ _ _ rfl).c 0 _ rfl)
      | (go_at_call 9; refine (hW.out y10 K10.out.low).mono ?_; rintro e y11 ⟨rfl, H11⟩))
    go_ret
    exact ⟨rfl, K10.out.low.trans (H11.mono K10.out.low.size)⟩
  · have hmz : m = 0 := by rw [← hm]; unfold cyclesS; rw [if_neg h0]
    have hC0 : C = 0 := by omega
    have hz : Hid ((.int .i64 0 : Value) = .int .i64 m) := by show _ = _; rw [hmz]
    obtain ⟨E, hE⟩ : ∃ x, checkS l = x := ⟨_, rfl⟩
    rw [hE] at hT
    have qe : (E != 0) = true := by rw [← hE]; simpa using h0
    have hAF : Hid (∀ y, AllF w.heap.size y (.func (.func 30) #[] #[]) l) := fun y => .inl ⟨h0, rfl⟩
    have h0 : Hid (checkS l ≠ 0) := h0
    have F3 : Hid (Fm w [(w.heap.size, #[.slice sp n cap], 23), (w.heap.size + 1, #[.int .i64 inn], 3), (w.heap.size + 1 + 1, #[.int .i64 m], 3)] (((w.alloc (.cells #[.slice sp n cap] 23)).alloc (.cells #[.int .i64 inn] 3)).alloc (.cells #[.int .i64 m] 3))) := three_boxes w _ _ _ _ _ _
    have hst : ∀ (y : World) (a : Addr) (mm : Mode), (store a (.func (.func 30) #[] #[]) mm).run Tryd.prog y = stored Tryd.prog y a (.func (.func 30) #[] #[]) mm := fun y a mm => run_store Tryd.prog y a _ mm rfl
    have hnf : ∀ (y : World), (binOp .eql 37 (.func (.func 30) #[] #[]) .nilFunc).run Tryd.prog y = .ok (.bool false) y := fun y => by kernel_rfl
    clear hbig hn hn2 hm hn' tb hSe hmz hE hCh hs1 hmm hR' hC'
    go_enter Tryd.func5, Tryd.ntmps5
    go_wp2_with (first
      | (go_at_call 15; refine (hT.out _ F2.out.low).mono ?_; rintro e x ⟨rfl, hx⟩; subst hx)
      | ((with_reducible refine gen_world (((w.alloc (.cells #[.slice sp n cap] 23)).alloc (.cells #[.int .i64 inn] 3)).alloc (.cells #[.int .i64 m] 3)) (Fm w [(w.heap.size, #[.slice sp n cap], 23), (w.heap.size + 1, #[.int .i64 inn], 3), (w.heap.size + 1 + 1, #[.int .i64 m], 3)]) ?_ ?_); exact F3.out; intro ya K2; have da := (K2.out.bx 2 _ _ _ rfl).c 0 _ rfl; have za := (K2.out.bx 2 _ _ _ rfl).fz 0; have KZ : Hid (Fm w [(w.heap.size, #[.slice sp n cap], 23), (w.heap.size + 1, #[.int .i64 inn], 3), (w.heap.size + 1 + 1, #[.int .i64 m], 3)] (ya.setCell ⟨w.heap.size + 1 + 1, 0, none⟩ (.int .i64 0))) := by { have h := K2.out.setCell 2 _ _ #[.int .i64 m] _ rfl 0 (.int .i64 m) rfl; rw [hz.out]; exact h })
      | ((with_reducible refine gen_world (ya.setCell ⟨w.heap.size + 1 + 1, 0, none⟩ (.int .i64 0)) (Fm w [(w.heap.size, #[.slice sp n cap], 23), (w.heap.size + 1, #[.int .i64 inn], 3), (w.heap.size + 1 + 1, #[.int .i64 m], 3)]) ?_ ?_); exact KZ.out; intro yb K3; have d0 := (K3.out.bx 0 _ _ _ rfl).c 0 _ rfl)
      | (go_at_call 10; refine (hLt.out yb K3.out.low).mono ?_; rintro e y1 ⟨rfl, L1⟩)
      | (go_at_call 18; refine (hAl.out y1 yb.heap.size L1.out.lies).mono ?_; rintro e y2 ⟨fv, rfl, H2⟩; obtain rfl := allF_bad H2.out.1 h0.out; have KN : Hid ((fun y => LntS yb yb.heap.size l y ∧ y1.heap.size ≤ y2.heap.size ∧ Bx y y2.heap.size #[(.func (.func 30) #[] #[])] 37) (y2.alloc (.cells #[(.func (.func 30) #[] #[])] 37))) := new_box' L1.out H2.out.2)
      | ((with_reducible refine gen_world (y2.alloc (.cells #[(.func (.func 30) #[] #[])] 37)) (fun y => LntS yb yb.heap.size l y ∧ y1.heap.size ≤ y2.heap.size ∧ Bx y y2.heap.size #[(.func (.func 30) #[] #[])] 37) ?_ ?_); exact KN.out; intro y3 K4; have d0' := ((K3.out.below K4.out.1.low).bx 0 _ _ _ rfl).c 0 _ rfl)
      | (go_at_call 13; refine (hBk.out yb y3 K4.out.1 (K3.out.below K4.out.1.low).low).mono ?_; rintro e y4 ⟨rfl, H4⟩; have A4 : Hid (Fm w [(w.heap.size, #[.slice sp n cap], 23), (w.heap.size + 1, #[.int .i64 inn], 3), (w.heap.size + 1 + 1, #[.int .i64 m], 3), (y2.heap.size, #[(.func (.func 30) #[] #[])], 37)] y4) := back_box K3.out K4.out.1 y1.heap.size _ _ _ (heap_lt L1.out.bx) K4.out.2.1 K4.out.2.2 H4; have d3 := (A4.out.bx 3 _ _ _ rfl).c 0 _ rfl)
      | ((with_reducible refine gen_world (y4.alloc (.cells #[.int .i64 k] 3)) (Fm w [(w.heap.size, #[.slice sp n cap], 23), (w.heap.size + 1, #[.int .i64 inn], 3), (w.heap.size + 1 + 1, #[.int .i64 m], 3), (y2.heap.size, #[(.func (.func 30) #[] #[])], 37), (y4.heap.size, #[.int .i64 k], 3)]) ?_ ?_); exact A4.out.new _ _; intro y5 A5; have d50 := (A5.out.bx 0 _ _ _ rfl).c 0 _ rfl; have d53 := (A5.out.bx 3 _ _ _ rfl).c 0 _ rfl; have d54 := (A5.out.bx 4 _ _ _ rfl).c 0 _ rfl)
      | (go_at_call 19; refine (hSe2.out y6 _ (hAF.out y6) A6.out.low).mono ?_; rintro e y7 ⟨rfl, H7⟩; have A7 : Hid (Fm w [(w.heap.size, #[.slice sp n cap], 23), (w.heap.size + 1, #[.int .i64 inn], 3), (w.heap.size + 1 + 1, #[.int .i64 m], 3), (y2.heap.size, #[(.func (.func 30) #[] #[])], 37), (y4.heap.size, #[.int .i64 k], 3)] y7) := A6.out.below H7.out; have A9' : Hid (Fm w [(w.heap.size, #[.slice sp n cap], 23), (w.heap.size + 1, #[.int .i64 inn], 3), (w.heap.size + 1 + 1, #[.int .i64 m], 3), (y2.heap.size, #[(.func (.func 30) #[] #[])], 37), (y4.heap.size, #[.int .i64 k], 3), (y7.heap.size, #[.int .i64 (0)], 3), (y7.heap.size + 1, #[.bool true], 4)] ((y7.alloc (.cells #[.int .i64 0] 3)).alloc (.cells #[.bool true] 4))) := ((A7.out.nxt _ rfl _ _).1.nxt _ (by simp) _ _).1)
      | (go_at_call 19; refine (hSe1.out y5 _ (hAF.out y5) A5.out.low).mono ?_; rintro e y6 ⟨rfl, H6⟩; have A6 : Hid (Fm w [(w.heap.size, #[.slice sp n cap], 23), (w.heap.size + 1, #[.int .i64 inn], 3), (w.heap.size + 1 + 1, #[.int .i64 m], 3), (y2.heap.size, #[(.func (.func 30) #[] #[])], 37), (y4.heap.size, #[.int .i64 k], 3)] y6) := A5.out.below H6.out; have d60 := (A6.out.bx 0 _ _ _ rfl).c 0 _ rfl; have d62 := (A6.out.bx 2 _ _ _ rfl).c 0 _ rfl; have d63 := (A6.out.bx 3 _ _ _ rfl).c 0 _ rfl)
      | ((with_reducible refine gen_world ((y7.alloc (.cells #[.int .i64 0] 3)).alloc (.cells #[.bool true] 4)) (Fm w [(w.heap.size, #[.slice sp n cap], 23), (w.heap.size + 1, #[.int .i64 inn], 3), (w.heap.size + 1 + 1, #[.int .i64 m], 3), (y2.heap.size, #[(.func (.func 30) #[] #[])], 37), (y4.heap.size, #[.int .i64 k], 3), (y7.heap.size, #[.int .i64 (0)], 3), (y7.heap.size + 1, #[.bool true], 4)]) ?_ ?_); exact A9'.out; intro y9 A9; have d93 := (A9.out.bx 3 _ _ _ rfl).c 0 _ rfl; have e2 := (A9.out.bx 2 _ _ _ rfl).c 0 _ rfl; have e4 := (A9.out.bx 4 _ _ _ rfl).c 0 _ rfl; have e5 := (A9.out.bx 5 _ _ _ rfl).c 0 _ rfl; have e6 := (A9.out.bx 6 _ _ _ rfl).c 0 _ rfl)
      | (go_at_call 30; refine (all1_any y9 _).mono ?_; rintro e y10 ⟨⟨u, rfl⟩, hx⟩; subst hx)
      | (go_at_call 9; refine (hW.out _ A9.out.low).mono ?_; rintro e y11 ⟨rfl, H11⟩))
    go_ret
    exact ⟨rfl, A9.out.low.trans (H11.mono A9.out.low.size)⟩
end Go.Proofs.YthpahpfnpapoiaaDoor
