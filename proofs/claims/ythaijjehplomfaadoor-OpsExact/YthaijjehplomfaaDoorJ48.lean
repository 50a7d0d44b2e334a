/- Program. -/
import Derived.Test.YthaijjehplomfaaDoorJ32
namespace Go.Proofs.YthaijjehplomfaaDoor
open Go Go.RowKit Go.Shelf
set_option linter.unusedVariables false
set_option maxHeartbeats 1000000
set_option maxRecDepth 100000
attribute [local go_sem] Oper.semAt_some

theorem load_one {t : TypeId} {w : World} {b : Nat} {v : Value} (ha : ∀ w, (isAgg t).run Tryd.prog w = .ok false w) (hc : w.cell? ⟨b, 0, none⟩ = some v) : (loadVar t ⟨b, 0, none⟩).run Tryd.prog w = .ok v w := by
  simp [loadVar, ha, hc, go_sem]
theorem res_three {fn : Func} {p q r : Tmp} {t u s : TypeId} {tmps : Array Value} {w : World} {b c d : Nat} {v1 v2 v3 : Value} (h : fn.results = #[.cell p t, .cell q u, .cell r s]) (ht : ∀ w, (isAgg t).run Tryd.prog w = .ok false w) (hu : ∀ w, (isAgg u).run Tryd.prog w = .ok false w) (hs : ∀ w, (isAgg s).run Tryd.prog w = .ok false w)
    (hp : tmps.getD p undef = .pointer (some ⟨b, 0, none⟩)) (hq : tmps.getD q undef = .pointer (some ⟨c, 0, none⟩)) (hr : tmps.getD r undef = .pointer (some ⟨d, 0, none⟩)) (h1 : w.cell? ⟨b, 0, none⟩ = some v1) (h2 : w.cell? ⟨c, 0, none⟩ = some v2) (h3 : w.cell? ⟨d, 0, none⟩ = some v3) : (results fn tmps).run Tryd.prog w = .ok (.tuple #[v1, v2, v3]) w := by
  have hp' : tmps[p]?.getD undef = .pointer (some ⟨b, 0, none⟩) := by simpa using hp
  have hq' : tmps[q]?.getD undef = .pointer (some ⟨c, 0, none⟩) := by simpa using hq
  have hr' : tmps[r]?.getD undef = .pointer (some ⟨d, 0, none⟩) := by simpa using hr
  simp [results, h, hp', hq', hr', asAddr, load_one ht h1, load_one hu h2, load_one hs h3]
theorem leave_plain {n : Nat} {fn : Func} {tmps : Array Value} {R : Ending → World → Prop} {w : World} {v : Value} (hr : (results fn tmps).run Tryd.prog w = .ok v w) (hR : R (.returned v) w) : LeavesInM Fence.wide n Tryd.prog fn tmps R [] .returning w := ⟨v, hr, hR⟩
theorem leave_mark {n D : Nat} {fn : Func} {tmps : Array Value} {R : Ending → World → Prop} {w : World} {v : Value} (hK : w.heap[D]? = some (.deferred (some []))) (hr : (results fn tmps).run Tryd.prog (w.putObj D (.deferred none)) = .ok v (w.putObj D (.deferred none))) (hR : R (.returned v) (w.putObj D (.deferred none))) : LeavesInM Fence.wide n Tryd.prog fn tmps R [{ target := .collected D, args := #[] }] .returning w :=
  ⟨by simp, .inl ⟨_, _, rfl, run_takeDeferred hK, ⟨v, hr, hR⟩⟩⟩
theorem agB (w : World) : (isAgg 45).run Tryd.prog w = .ok false w := by first | exact Tryd.isAgg45 w | kernel_rfl
theorem agE (w : World) : (isAgg 38).run Tryd.prog w = .ok false w := by first | exact Tryd.isAgg38 w | kernel_rfl
theorem agI (w : World) : (isAgg 3).run Tryd.prog w = .ok false w := by first | exact Tryd.isAgg3 w | kernel_rfl
/-- What Program answers. -/
def PrE (w : World) (s : ByteArray) (e : Ending) (z : World) : Prop :=
  (∃ er n : Nat, progP (strL s) = .inl (er, n) ∧ e = .returned (.tuple #[.slice none 0 0, .int .i64 (er : Int), .int .i64 (n : Int)]) ∧ Below w.heap.size w z) ∨
  (∃ bs v, progP (strL s) = .inr bs ∧ e = .returned (.tuple #[v, .int .i64 0, .int .i64 0]) ∧ OwnL 5 1 cU w.heap.size z v bs ∧ Below w.heap.size w z)
abbrev three (w : World) (v0 v1 v2 : Value) : List (Nat × Array Value × TypeId) := [(w.heap.size, #[v0], 45), (w.heap.size + 1, #[v1], 38), (w.heap.size + 1 + 1, #[v2], 3)]
theorem three_new (w : World) : Fm w (three w (.slice none 0 0) (.int .i64 0) (.int .i64 0)) (((w.alloc (.cells #[.slice none 0 0] 45)).alloc (.cells #[.int .i64 0] 38)).alloc (.cells #[.int .i64 0] 3)) := by
  have h := (Fm.two w #[.slice none 0 0] #[.int .i64 0] 45 38).new #[.int .i64 0] 3
  simpa using h
theorem program_long (w : World) (s : ByteArray) (hs : s.size ≤ 9223372036854775807) (hb : 65536 < s.size) : Calls Tryd.prog 14 #[.string s] w (PrE w s) := by
  have q : (65536 : Int) < s.size := by omega
  have fin : Hid (progP (strL s) = .inl (2, 0)) := by
    show _ = _
    unfold progP
    rw [if_pos (by rw [strL_len]; exact hb)]
  have hF : Hid (Fm w (three w (.slice none 0 0) (.int .i64 0) (.int .i64 0)) (((w.alloc (.cells #[.slice none 0 0] 45)).alloc (.cells #[.int .i64 0] 38)).alloc (.cells #[.int .i64 0] 3))) := three_new w
  refine (callsIn_wide (n := 9)).1 ?_
  refine callsIn_of_wp_marks Tryd.func14 rfl trivial ?_ rfl
  simp only [Tryd.ntmps14, List.size_toArray, List.length_cons, List.length_nil, Nat.reduceAdd, Nat.reduceSub, Array.replicate_succ, Array.replicate_zero, List.push_toArray, List.append_toArray, List.nil_append, List.cons_append]
  refine wpIn_wide.2 ?_
  clear hb
  go_wp2_with ((with_reducible refine gen_world (((w.alloc (.cells #[.slice none 0 0] 45)).alloc (.cells #[.int .i64 0] 38)).alloc (.cells #[.int .i64 0] 3)) (Fm w (three w (.slice none 0 0) (.int .i64 0) (.int .i64 0))) hF.out ?_); intro y K; have d0 := (K.out.bx 0 _ _ _ rfl).c 0 (.slice none 0 0) rfl; have d1 := (K.out.bx 1 _ _ _ rfl).c 0 (.int .i64 0) rfl; have d2 := (K.out.bx 2 _ _ _ rfl).c 0 (.int .i64 0) rfl; have z0 := (K.out.bx 0 _ _ _ rfl).fz 0; have z1 := (K.out.bx 1 _ _ _ rfl).fz 0; have z2 := (K.out.bx 2 _ _ _ rfl).fz 0)
  have K3 := ((K.out.setCell 0 _ _ #[.slice none 0 0] _ rfl 0 (.slice none 0 0) rfl).setCell 1 _ _ #[.int .i64 2] _ rfl 0 (.int .i64 2) rfl).setCell 2 _ _ #[.int .i64 0] _ rfl 0 (.int .i64 0) rfl
  exact leave_plain (res_three rfl agB agE agI rfl rfl rfl ((K3.bx 0 _ _ _ rfl).c 0 _ rfl) ((K3.bx 1 _ _ _ rfl).c 0 _ rfl) ((K3.bx 2 _ _ _ rfl).c 0 _ rfl)) (.inl ⟨2, 0, fin.out, rfl, K3.low⟩)
theorem pg_start (w y : World) (hy : Below w.heap.size w y) : Pg w (y.heap.size + 1) y.heap.size (.slice none 0 0) (.slice none 0 0) [] (fun _ => none) [] ((y.alloc (.map #[] 0)).alloc (.cells #[.slice none 0 0, .map (some y.heap.size), .slice none 0 0] 77)) := by
  have b1 := below1 y (.map #[] 0)
  have b2 := below1 (y.alloc (.map #[] 0)) (.cells #[.slice none 0 0, .map (some y.heap.size), .slice none 0 0] 77)
  have e : (y.alloc (.map #[] 0)).heap.size = y.heap.size + 1 := by simp
  have hs := hy.size
  refine ⟨?_, OwnL.nil _ _, ((MapF.new y).keep (b2.block _ (by omega)) : _), OwnL.nil _ _, by omega, hs, (hy.trans (b1.mono hs)).trans (b2.mono (by omega))⟩
  have h := World.alloc_heap_new (y.alloc (.map #[] 0)) (.cells #[.slice none 0 0, .map (some y.heap.size), .slice none 0 0] 77)
  rw [e] at h
  exact h
theorem settle_nil (w y : World) (P g : Nat) (vb vu : Value) (bs : List UInt8) (F : ByteArray → Option Nat) (K : Hid (Pg w P g vb vu bs F [] y)) :
    Calls Tryd.prog 33 #[.pointer (some ⟨P, 0, none⟩)] y (SeE w P g vb vu bs F [] y) := by
  obtain ⟨spu, capu, rfl, _⟩ := K.out.us.open kUs.len
  have dU := K.out.box.c 2 _ rfl
  go_enter Tryd.func33, Tryd.ntmps33
  go_wp2
  go_loopw [15] (fun j wz => j = .int .i64 0 ∧ y = wz) (fun j _ => 0)
  case atStart => exact ⟨rfl, rfl⟩
  case round =>
    obtain ⟨rfl, rfl⟩ := hrel
    go_wp2
    go_ret2
    exact .inl ⟨bs, rfl, rfl, K.out, Kp.refl _⟩
theorem settle_all (w y : World) (P g n capb : Nat) (spb : Option Addr) (vu : Value) (t : Sta) (K : Hid (Pg w P g (.slice spb n capb) vu t.1 t.2.1 t.2.2 y)) (hok : Hid (StOk t)) (hn : Hid (t.1.length = n)) (hle : n ≤ 3232) :
    Calls Tryd.prog 33 #[.pointer (some ⟨P, 0, none⟩)] y (SeE w P g (.slice spb n capb) vu t.1 t.2.1 t.2.2 y) := by
  obtain ⟨bs, F, us⟩ := t
  by_cases hu : us = []
  · subst hu
    exact settle_nil w y P g _ vu bs F K
  have h1 := hok.out.us
  have h2 : 1 ≤ us.length := by
    rcases us with _ | ⟨u, us⟩
    · exact absurd rfl hu
    · simp
  have h3 : bs.length = n := hn.out
  dsimp only at h1
  obtain ⟨gb, rfl⟩ : ∃ gb, spb = some ⟨gb, 0, none⟩ := by
    rcases K.out.bs.2 with ⟨_, h⟩ | ⟨g', cap, cur, h, _⟩
    · dsimp only at h; omega
    · injection h with h
      exact ⟨g', h⟩
  exact settle_any w y P g gb n capb vu bs F us K hn (by omega) us.length rfl (by omega) (fun u hu => ⟨(hok.out.go u hu).1, by have := (hok.out.go u hu).2; dsimp only at this; omega⟩) hok.out.lb
theorem three_ends {w z : World} {b0 b1 b2 q P D : Nat} {x0 x1 x2 : Value} (Fz : Fm w (boxesP b0 b1 b2 q P x0 x1 x2) z) (dz : z.heap[D]? = some (.deferred (some []))) (hD : w.heap.size ≤ D) (v0 v1 v2 : Value) :
    Fm w (boxesP b0 b1 b2 q P v0 v1 v2) ((((z.setCell ⟨b0, 0, none⟩ v0).setCell ⟨b1, 0, none⟩ v1).setCell ⟨b2, 0, none⟩ v2).putObj D (.deferred none)) ∧ (((z.setCell ⟨b0, 0, none⟩ v0).setCell ⟨b1, 0, none⟩ v1).setCell ⟨b2, 0, none⟩ v2).heap[D]? = some (.deferred (some [])) ∧
      ∀ (v : Value) (l : List UInt8), OwnL 5 1 cU w.heap.size z v l → OwnL 5 1 cU w.heap.size ((((z.setCell ⟨b0, 0, none⟩ v0).setCell ⟨b1, 0, none⟩ v1).setCell ⟨b2, 0, none⟩ v2).putObj D (.deferred none)) v l := by
  have K1 := Fz.setCell 0 _ _ #[v0] _ rfl 0 v0 rfl
  have d1 := rec_set dz rfl (Fz.bx 0 _ _ _ rfl) 0 v0
  have K2 := K1.setCell 1 _ _ #[v1] _ rfl 0 v1 rfl
  have d2 := rec_set d1 rfl (K1.bx 1 _ _ _ rfl) 0 v1
  have K3 := K2.setCell 2 _ _ #[v2] _ rfl 0 v2 rfl
  have d3 := rec_set d2 rfl (K2.bx 2 _ _ _ rfl) 0 v2
  refine ⟨K3.turn D _ _ d3 rfl hD, d3, fun v l h => h.keepB fun g e => ?_⟩
  obtain ⟨cs, hx⟩ := h.ty g e
  have e0 : g ≠ b0 := Bx.unlike hx (Fz.bx 0 _ _ _ rfl) (by decide)
  have e1 : g ≠ b1 := Bx.unlike hx (Fz.bx 1 _ _ _ rfl) (by decide)
  have e2 : g ≠ b2 := Bx.unlike hx (Fz.bx 2 _ _ _ rfl) (by decide)
  have e3 : g ≠ D := fun e => rec_ne dz rfl hx e.symm
  exact (World.putObj_heap_other e3).trans ((heap_setCell_other _ ⟨b2, 0, none⟩ g v2 e2).trans ((heap_setCell_other _ ⟨b1, 0, none⟩ g v1 e1).trans (heap_setCell_other z ⟨b0, 0, none⟩ g v0 e0)))
theorem program_any (w : World) (mx : Int) (T : Hid (Tm mx w)) (s : ByteArray) (hs : s.size ≤ 9223372036854775807) : Calls Tryd.prog 14 #[.string s] w (PrE w s) := by
  by_cases hb : 65536 < s.size
  · exact program_long w s hs hb
  have q : ¬ (65536 : Int) < s.size := by omega
  have hb' : Hid (s.size ≤ 65536) := by show _ ≤ _; omega
  have hF : Hid (Fm w (three w (.slice none 0 0) (.int .i64 0) (.int .i64 0)) (((w.alloc (.cells #[.slice none 0 0] 45)).alloc (.cells #[.int .i64 0] 38)).alloc (.cells #[.int .i64 0] 3))) := three_new w
  have hmm : ∀ v : World, (Instr.makeMap 74 none).run Tryd.prog v = .ok (.map (some v.heap.size)) (v.alloc (.map #[] 0)) := fun v => by first | rfl | kernel_rfl
  refine (callsIn_wide (n := 9)).1 ?_
  refine callsIn_of_wp_marks Tryd.func14 rfl trivial ?_ rfl
  simp only [Tryd.ntmps14, List.size_toArray, List.length_cons, List.length_nil, Nat.reduceAdd, Nat.reduceSub, Array.replicate_succ, Array.replicate_zero, List.push_toArray, List.append_toArray, List.nil_append, List.cons_append]
  refine wpIn_wide.2 ?_
  clear hb hs
  go_wp2_with (first
    | (go_at_call 31; refine ((callsIn_wide (n := 9)).1 (lines_in 9 s _)).mono ?_; rintro e y2 ⟨rfl, h2⟩; replace h2 : Hid _ := h2)
    | ((with_reducible refine gen_world (((w.alloc (.cells #[.slice none 0 0] 45)).alloc (.cells #[.int .i64 0] 38)).alloc (.cells #[.int .i64 0] 3)) (Fm w (three w (.slice none 0 0) (.int .i64 0) (.int .i64 0))) hF.out ?_); intro y K))
  rename_i K9 hK9
  replace hK9 : Hid _ := hK9
  have h9 := h2.out
  subst h9
  clear h2
  have P0 := pg_start w y K.out.low
  have e2 : ((y.alloc (.map #[] 0)).alloc (.cells #[.slice none 0 0, .map (some y.heap.size), .slice none 0 0] 77)).heap.size = y.heap.size + 1 + 1 := by simp
  have F3 := (K.out.below (((Below.refl _ y).alloc (Nat.le_refl _) (.map #[] 0)).alloc (by simp) (.cells #[.slice none 0 0, .map (some y.heap.size), .slice none 0 0] 77))).new #[.pointer (some ⟨y.heap.size + 1, 0, none⟩)] 73
  rw [e2] at F3
  have P3 := P0.below (below1 _ (.cells #[.pointer (some ⟨y.heap.size + 1, 0, none⟩)] 73))
  generalize hW2 : (y.alloc (.map #[] 0)).alloc (.cells #[.slice none 0 0, .map (some y.heap.size), .slice none 0 0] 77) = W2 at e2 F3 P3 ⊢
  have e3 : (W2.alloc (.cells #[.pointer (some ⟨y.heap.size + 1, 0, none⟩)] 73)).heap.size = y.heap.size + 1 + 1 + 1 := by rw [World.size_alloc, e2]
  generalize hW3 : W2.alloc (.cells #[.pointer (some ⟨y.heap.size + 1, 0, none⟩)] 73) = W3 at e3 F3 P3 ⊢
  have F4 := F3.below (below1 W3 (.cells #[.string s] 9))
  have P4 := P3.below (below1 W3 (.cells #[.string s] 9))
  have B4 : Bx (W3.alloc (.cells #[.string s] 9)) (y.heap.size + 1 + 1 + 1) #[.string s] 9 := by
    rw [← e3]
    exact World.alloc_heap_new W3 _
  generalize W3.alloc (.cells #[.string s] 9) = y2 at F4 P4 B4 ⊢
  clear F3 P3 P0 e2 e3 hW2 hW3 K hF
  obtain ⟨g, hg⟩ : ∃ g, y.heap.size = g := ⟨_, rfl⟩
  rw [hg] at F4 P4 B4 ⊢
  clear hg
  have F4 : Hid (Fm w (boxesP w.heap.size (w.heap.size + 1) (w.heap.size + 1 + 1) (g + 1 + 1) (g + 1) (.slice none 0 0) (.int .i64 0) (.int .i64 0)) y2) := F4
  have P4 : Hid (Pg w (g + 1) g (.slice none 0 0) (.slice none 0 0) [] (fun _ => none) [] y2) := P4
  have B4 : Hid (Bx y2 (g + 1 + 1 + 1) #[.string s] 9) := B4
  refine (wpIn_wide (n := 9)).1 ?_
  refine range_enter (F := Fence.wide) (n := 9) rfl (by decide) (gf := 43) (lb := #[.pointer (some ⟨g + 1 + 1 + 1, 0, none⟩)]) rfl trivial (enters_of Tryd.func43 (by kernel_rfl) rfl) ?_
  intro fn W R hR hfn hL hD hB
  have hlw : w.heap.size ≤ y2.heap.size + 1 := by have := F4.out.low.size; omega
  have hdw : w.heap.size ≤ y2.heap.size := F4.out.low.size
  replace hR : Hid (R = _) := hR
  generalize y2.heap.size + 1 = l at hL hlw ⊢
  obtain ⟨D, hDe⟩ : ∃ D, y2.heap.size = D := ⟨_, rfl⟩
  rw [hDe] at hD hdw hR ⊢
  have FW := F4.out.below hB
  have PW := P4.out.below hB
  have BW : Hid (Bx W (g + 1 + 1 + 1) #[.string s] 9) := (hB.block _ (heap_lt B4.out)).trans B4.out
  clear F4 P4 B4 hB hDe
  have J0 : Hid (Jp w w.heap.size (w.heap.size + 1) (w.heap.size + 1 + 1) (g + 1 + 1) (g + 1) g l D R s 0 W) := ⟨⟨([], fun _ => none, []), _, _, rfl, ok0, by decide, PW⟩, FW, hL, hD⟩
  clear FW PW hL hD
  refine (lines1_in 8 (by decide) l (g + 1 + 1 + 1) mx s hb' (Jp w w.heap.size (w.heap.size + 1) (w.heap.size + 1 + 1) (g + 1 + 1) (g + 1) g l D R s) (Jx w w.heap.size (w.heap.size + 1) (w.heap.size + 1 + 1) (g + 1 + 1) (g + 1) l D R s)
    (fun k W W' h hb => h.below hb) (fun k W h => T.out.below h.fm.low) (fun k L W hL hw h => h.skip hL hw) ?hY W BW J0).mono ?hE
  case hY =>
    intro k N L W1 gx c hk hLk hLl hJ hW hc hc0
    obtain ⟨t, vb, vu, hst, hok, hle, hPg⟩ := hJ.st
    have hy := run_yield (P := Tryd.prog) (args := #[.int .i64 (N : Int), .slice (some ⟨gx, 0, none⟩) c c]) hJ.lp (by rw [hR.out]; rfl)
    rw [hR.out] at hy
    dsimp only [recL] at hy
    refine ⟨fn, _, _, _, hy, roundIn_of_wpIn hfn ?_⟩
    clear hy
    gi_wp2
    have hne : Hid (D ≠ l) := fun e => by
      have h1 := hJ.lp
      have h2 := hJ.df
      rw [e, h1] at h2
      cases h2
    refine ⟨_, begin_go hR.out hJ.lp, ?_⟩
    have lp2 := putObj_same (o' := .loop (R .busy none)) hJ.lp
    have df2 := (World.putObj_heap_other (o := .loop (R .busy none)) hne.out).trans hJ.df
    have F2 := hJ.fm.turn l _ (.loop (R .busy none)) hJ.lp rfl hlw
    have P2 := hPg.turn l _ (.loop (R .busy none)) hJ.lp rfl hlw
    have WW : WdsAt (W1.putObj l (.loop (R .busy none))) gx 0 (wordsA L) := by
      obtain ⟨cs, hx, hcs⟩ := hW
      exact ⟨cs, (World.putObj_heap_other fun e => rec_ne hJ.lp rfl hx e.symm).trans hx, hcs⟩
    generalize W1.putObj l (.loop (R .busy none)) = W2 at lp2 df2 F2 P2 WW ⊢
    clear hW hPg hJ
    obtain ⟨sw, r, hwr⟩ : ∃ sw r, wordsA L = sw :: r := by
      rcases h : wordsA L with _ | ⟨a, b⟩
      · rw [h] at hc; simp at hc; omega
      · exact ⟨a, b, rfl⟩
    have hln := wordsA_len L
    have hsz : Hid (∀ x ∈ sw :: r, x.size ≤ maxLen) := fun x hx => by
      have := wordsA_sz L x (by rw [hwr]; exact hx)
      unfold maxLen
      omega
    rw [hwr] at hc WW
    have hTk := take_any w W2 (g + 1) g vb vu t.1 t.2.1 t.2.2 P2 hle (by have := hok.us; omega) N gx 0 c c (Nat.le_refl _) (by rw [hwr] at hln; simp only [List.length_cons] at hc hln; omega) sw r (by show _ = _; simpa using hc) WW hsz
    have hstep : linesP 1 (lnsG (strL s) []) ([], fun _ => none, []) = match stepL N L t with
        | .inl e => .inl e
        | .inr t' => linesP (N + 1) ((lnsG (strL s) []).drop (k + 1)) t' := by
      rw [← hk, hst, linesP_step hLk]
      rfl
    unfold stepL at hstep
    rw [hwr] at hstep
    dsimp only at hstep
    have F2 : Hid (Fm w (boxesP w.heap.size (w.heap.size + 1) (w.heap.size + 1 + 1) (g + 1 + 1) (g + 1) (.slice none 0 0) (.int .i64 0) (.int .i64 0)) W2) := F2
    have dq := (F2.out.bx 3 _ _ _ rfl).c 0 _ rfl
    have hlp2 : Hid (W2.heap[l]? = some (.loop (R .busy none)) ∧ W2.heap[D]? = some (.deferred (some []))) := ⟨lp2, df2⟩
    have hlw' : Hid (w.heap.size ≤ l) := hlw
    have hk' : Hid (k + 1 = N) := hk
    have hle' : Hid (t.1.length ≤ 3232) := hle
    have hok' : Hid (StOk t) := hok
    clear hst lp2 df2 hln hwr WW hsz P2 hk hLk hLl hc hc0 hle hok hlw hdw
    -- what the stores of an error leave
    have hbad : Hid (∀ (z : World) (er : Nat), linesP 1 (lnsG (strL s) []) ([], fun _ => none, []) = .inl (er, N) → Fm w (boxesP w.heap.size (w.heap.size + 1) (w.heap.size + 1 + 1) (g + 1 + 1) (g + 1) (.slice none 0 0) (.int .i64 0) (.int .i64 0)) z → z.heap[l]? = some (.loop (R .busy none)) → z.heap[D]? = some (.deferred (some [])) →
        ∃ v w', (Instr.endRound l (some .ret)).run Tryd.prog (((z.setCell ⟨w.heap.size, 0, none⟩ (.slice none 0 0)).setCell ⟨w.heap.size + 1, 0, none⟩ (.int .i64 (er : Int))).setCell ⟨w.heap.size + 1 + 1, 0, none⟩ (.int .i64 (N : Int))) = .ok v w' ∧ v = .bool false ∧ Jx w w.heap.size (w.heap.size + 1) (w.heap.size + 1 + 1) (g + 1 + 1) (g + 1) l D R s w') := fun z er he Fz lz dz => by
      have K1 := Fz.setCell 0 _ _ #[.slice none 0 0] _ rfl 0 (.slice none 0 0) rfl
      have l1 := rec_set lz rfl (Fz.bx 0 _ _ _ rfl) 0 (.slice none 0 0)
      have d1 := rec_set dz rfl (Fz.bx 0 _ _ _ rfl) 0 (.slice none 0 0)
      have K2 := K1.setCell 1 _ _ #[.int .i64 (er : Int)] _ rfl 0 (.int .i64 (er : Int)) rfl
      have l2 := rec_set l1 rfl (K1.bx 1 _ _ _ rfl) 0 (.int .i64 (er : Int))
      have d2 := rec_set d1 rfl (K1.bx 1 _ _ _ rfl) 0 (.int .i64 (er : Int))
      have K3 := K2.setCell 2 _ _ #[.int .i64 (N : Int)] _ rfl 0 (.int .i64 (N : Int)) rfl
      have l3 := rec_set l2 rfl (K2.bx 2 _ _ _ rfl) 0 (.int .i64 (N : Int))
      have d3 := rec_set d2 rfl (K2.bx 2 _ _ _ rfl) 0 (.int .i64 (N : Int))
      exact ⟨_, _, end_ret hR.out l3, rfl, ⟨er, N, he, K3.turn l _ _ l3 rfl hlw'.out⟩, putObj_same l3, (World.putObj_heap_other hne.out).trans d3⟩
    rcases hT : takP N sw r t with _ | t'
    · rw [hT] at hstep
      dsimp only at hstep
      have hT1 : Hid (Calls Tryd.prog 32 #[.pointer (some ⟨g + 1, 0, none⟩), .int .i64 (N : Int), .slice (some ⟨gx, 0, none⟩) c c] W2 fun e z => e = .returned (.bool false) ∧ Below w.heap.size w z ∧ Kp W2 z) := hTk.mono fun e z h => by
        rcases h with ⟨t', _, _, _, h2, _⟩ | ⟨h1, _, h3, h4⟩
        · rw [show takP N sw r (t.1, t.2.1, t.2.2) = none from hT] at h2; cases h2
        · exact ⟨h1, h3, h4⟩
      have hstep : Hid (linesP 1 (lnsG (strL s) []) ([], fun _ => none, []) = .inl (161, N)) := hstep
      clear hTk hT
      gi_wp2_with ((first | refine ⟨trivial, ?_⟩ | refine ⟨fun _ _ => trivial, ?_⟩ | skip); gi_at_call 32; refine (CallsIn.inRound l (callsIn_wide.2 hT1.out)).mono ?_; rintro e z ⟨rfl, hbz, hkz⟩; have hkz : Hid (Kp W2 z) := hkz; have Fz : Hid (Fm w (boxesP w.heap.size (w.heap.size + 1) (w.heap.size + 1 + 1) (g + 1 + 1) (g + 1) (.slice none 0 0) (.int .i64 0) (.int .i64 0)) z) := F2.out.kp hkz.out hbz boxes_ty; have d0 := (Fz.out.bx 0 _ _ _ rfl).c 0 (.slice none 0 0) rfl; have d1 := (Fz.out.bx 1 _ _ _ rfl).c 0 (.int .i64 0) rfl; have d2 := (Fz.out.bx 2 _ _ _ rfl).c 0 (.int .i64 0) rfl; have z0 := (Fz.out.bx 0 _ _ _ rfl).fz 0; have z1 := (Fz.out.bx 1 _ _ _ rfl).fz 0; have z2 := (Fz.out.bx 2 _ _ _ rfl).fz 0)
      obtain ⟨v, w', h1, rfl, h3⟩ := hbad.out z 161 hstep.out Fz.out (hkz.out.rc l _ hlp2.out.1 rfl) (hkz.out.rc D _ hlp2.out.2 rfl)
      exact ⟨_, _, h1, .inr ⟨rfl, h3⟩⟩
    · have hok2 : Hid (StOk t') := tak_ok hT hle'.out hok'.out
      rw [hT] at hstep
      dsimp only at hstep
      obtain ⟨n, hn⟩ : ∃ n, Hid (t'.1.length = n) := ⟨_, (rfl : t'.1.length = _)⟩
      rw [hn.out] at hstep
      have hT1 : Hid (Calls Tryd.prog 32 #[.pointer (some ⟨g + 1, 0, none⟩), .int .i64 (N : Int), .slice (some ⟨gx, 0, none⟩) c c] W2 fun e z => ∃ spb capb vu, e = .returned (.bool true) ∧ Hid (Pg w (g + 1) g (.slice spb n capb) vu t'.1 t'.2.1 t'.2.2 z) ∧ Hid (Kp W2 z)) := hTk.mono fun e z h => by
        rcases h with ⟨t2, vb, vu, h1, h2, h3, h4⟩ | ⟨_, h2, _⟩
        · rw [show takP N sw r (t.1, t.2.1, t.2.2) = some t' from hT] at h2
          injection h2 with h2
          subst h2
          obtain ⟨spb, capb, rfl, _⟩ := h3.bs.open kU.len
          rw [hn.out] at h3
          exact ⟨spb, capb, vu, h1, h3, h4⟩
        · rw [show takP N sw r (t.1, t.2.1, t.2.2) = some t' from hT] at h2; cases h2
      clear hTk hT
      by_cases hov : 3232 < n
      · rw [if_pos hov] at hstep
        have hstep : Hid (linesP 1 (lnsG (strL s) []) ([], fun _ => none, []) = .inl (2, N)) := hstep
        have q3 : (3232 : Int) < n := by omega
        clear hov
        gi_wp2_with ((first | refine ⟨trivial, ?_⟩ | refine ⟨fun _ _ => trivial, ?_⟩ | skip); gi_at_call 32; refine (CallsIn.inRound l (callsIn_wide.2 hT1.out)).mono ?_; rintro e z ⟨spb, capb, vu2, rfl, hPz, hkz⟩; have Fz : Hid (Fm w (boxesP w.heap.size (w.heap.size + 1) (w.heap.size + 1 + 1) (g + 1 + 1) (g + 1) (.slice none 0 0) (.int .i64 0) (.int .i64 0)) z) := F2.out.kp hkz.out hPz.out.low boxes_ty; have d0 := (Fz.out.bx 0 _ _ _ rfl).c 0 (.slice none 0 0) rfl; have d1 := (Fz.out.bx 1 _ _ _ rfl).c 0 (.int .i64 0) rfl; have d2 := (Fz.out.bx 2 _ _ _ rfl).c 0 (.int .i64 0) rfl; have z0 := (Fz.out.bx 0 _ _ _ rfl).fz 0; have z1 := (Fz.out.bx 1 _ _ _ rfl).fz 0; have z2 := (Fz.out.bx 2 _ _ _ rfl).fz 0; have d3 := (Fz.out.bx 3 _ _ _ rfl).c 0 _ rfl; have d4 := hPz.out.box.c 0 _ rfl)
        obtain ⟨v, w', h1, rfl, h3⟩ := hbad.out z 2 hstep.out Fz.out (hkz.out.rc l _ hlp2.out.1 rfl) (hkz.out.rc D _ hlp2.out.2 rfl)
        exact ⟨_, _, h1, .inr ⟨rfl, h3⟩⟩
      · rw [if_neg hov] at hstep
        have hstep : Hid (linesP 1 (lnsG (strL s) []) ([], fun _ => none, []) = linesP (N + 1) ((lnsG (strL s) []).drop (k + 1)) t') := hstep
        have q3 : ¬ (3232 : Int) < n := by omega
        have hov' : Hid (n ≤ 3232) := by show _ ≤ _; omega
        clear hov
        gi_wp2_with ((first | refine ⟨trivial, ?_⟩ | refine ⟨fun _ _ => trivial, ?_⟩ | skip); gi_at_call 32; refine (CallsIn.inRound l (callsIn_wide.2 hT1.out)).mono ?_; rintro e z ⟨spb, capb, vu2, rfl, hPz, hkz⟩; have Fz : Hid (Fm w (boxesP w.heap.size (w.heap.size + 1) (w.heap.size + 1 + 1) (g + 1 + 1) (g + 1) (.slice none 0 0) (.int .i64 0) (.int .i64 0)) z) := F2.out.kp hkz.out hPz.out.low boxes_ty; have d3 := (Fz.out.bx 3 _ _ _ rfl).c 0 _ rfl; have d4 := hPz.out.box.c 0 _ rfl)
        have l3 := hkz.out.rc l _ hlp2.out.1 rfl
        refine ⟨_, _, end_go hR.out l3, .inl ⟨rfl, ⟨t', _, vu2, ?_, hok2.out, by rw [hn.out]; exact hov'.out, hPz.out.turn l _ _ l3 rfl hlw'.out⟩, Fz.out.turn l _ _ l3 rfl hlw'.out, putObj_same l3, (World.putObj_heap_other hne.out).trans (hkz.out.rc D _ hlp2.out.2 rfl)⟩⟩
        have h9 := hstep.out
        rw [hk'.out] at h9
        exact h9
  case hE =>
    rintro e W9 ⟨⟨v, rfl⟩, (hJ | hX)⟩
    · obtain ⟨t, vb, vu, hst, hok, hle, hPg⟩ := hJ.st
      have hne : Hid (D ≠ l) := fun e => by
        have h1 := hJ.lp
        have h2 := hJ.df
        rw [e, h1] at h2
        cases h2
      have hst : Hid (linesP 1 (lnsG (strL s) []) ([], fun _ => none, []) = .inr t) := by
        show _ = _
        rw [hst, List.drop_length]
        rfl
      have l9 := hJ.lp
      have P2 := hPg.turn l _ (.loop (R .exhausted none)) l9 rfl hlw
      have F2 := hJ.fm.turn l _ (.loop (R .exhausted none)) l9 rfl hlw
      have d2 := (World.putObj_heap_other (o := .loop (R .exhausted none)) hne.out).trans hJ.df
      refine ⟨none, _, over_go hR.out l9, ?_⟩
      generalize W9.putObj l (.loop (R .exhausted none)) = W2 at P2 F2 d2 ⊢
      have F2 : Hid (Fm w (boxesP w.heap.size (w.heap.size + 1) (w.heap.size + 1 + 1) (g + 1 + 1) (g + 1) (.slice none 0 0) (.int .i64 0) (.int .i64 0)) W2) := F2
      have hd2 : Hid (W2.heap[D]? = some (.deferred (some []))) := d2
      clear l9 hJ hPg d2
      obtain ⟨n, hn⟩ : ∃ n, Hid (t.1.length = n) := ⟨_, (rfl : t.1.length = _)⟩
      obtain ⟨spb, capb, rfl, _⟩ := P2.bs.open kU.len
      rw [hn.out] at P2 hle
      have hSe := settle_all w W2 (g + 1) g n capb spb vu t P2 hok hn hle
      have dq := (F2.out.bx 3 _ _ _ rfl).c 0 _ rfl
      have hfin : Hid (progP (strL s) = endP t) := by
        show _ = _
        unfold progP
        rw [if_neg (by rw [strL_len]; have := hb'.out; omega), hst.out]
      refine (show K9 _ _ from ?_)
      refine hK9.out _ _ ?_
      clear hK9 hst hle hok P2
      rcases hS : setP t.2.1 t.2.2 t.1 with er | bs'
      · have hSe2 : Hid (Calls Tryd.prog 33 #[.pointer (some ⟨g + 1, 0, none⟩)] W2 fun e z => e = .returned (.tuple #[.int .i64 (er : Int), .bool false]) ∧ Below w.heap.size w z ∧ Kp W2 z) := hSe.mono fun e z h => by
          rcases h with ⟨bs', _, h2, _⟩ | ⟨n', h1, h2, h3, h4⟩
          · rw [hS] at h2; cases h2
          · rw [hS] at h2
            injection h2 with h2
            subst h2
            exact ⟨h1, h3, h4⟩
        have hfin2 : Hid (progP (strL s) = .inl (160, er)) := by
          show _ = _
          rw [hfin.out]
          unfold endP
          rw [hS]
        clear hSe hS hfin
        go_wp2_with (go_at_call 33; refine hSe2.out.mono ?_; rintro e z ⟨rfl, hbz, hkz⟩; have hkz : Hid (Kp W2 z) := hkz; have Fz : Hid (Fm w (boxesP w.heap.size (w.heap.size + 1) (w.heap.size + 1 + 1) (g + 1 + 1) (g + 1) (.slice none 0 0) (.int .i64 0) (.int .i64 0)) z) := F2.out.kp hkz.out hbz boxes_ty; have d0 := (Fz.out.bx 0 _ _ _ rfl).c 0 (.slice none 0 0) rfl; have d1 := (Fz.out.bx 1 _ _ _ rfl).c 0 (.int .i64 0) rfl; have d2 := (Fz.out.bx 2 _ _ _ rfl).c 0 (.int .i64 0) rfl; have z0 := (Fz.out.bx 0 _ _ _ rfl).fz 0; have z1 := (Fz.out.bx 1 _ _ _ rfl).fz 0; have z2 := (Fz.out.bx 2 _ _ _ rfl).fz 0)
        have dz := hkz.out.rc D _ hd2.out rfl
        obtain ⟨hK, d3, _⟩ := three_ends Fz.out dz hdw (.slice none 0 0) (.int .i64 160) (.int .i64 (er : Int))
        exact leave_mark d3 (res_three rfl agB agE agI rfl rfl rfl ((hK.bx 0 _ _ _ rfl).c 0 _ rfl) ((hK.bx 1 _ _ _ rfl).c 0 _ rfl) ((hK.bx 2 _ _ _ rfl).c 0 _ rfl)) (.inl ⟨160, er, hfin2.out, rfl, hK.low⟩)
      · have hSe2 : Hid (Calls Tryd.prog 33 #[.pointer (some ⟨g + 1, 0, none⟩)] W2 fun e z => e = .returned (.tuple #[.int .i64 0, .bool true]) ∧ Pg w (g + 1) g (.slice spb n capb) vu bs' t.2.1 t.2.2 z ∧ Kp W2 z) := hSe.mono fun e z h => by
          rcases h with ⟨bs2, h1, h2, h3, h4⟩ | ⟨n', _, h2, _⟩
          · rw [hS] at h2
            injection h2 with h2
            subst h2
            exact ⟨h1, h3, h4⟩
          · rw [hS] at h2; cases h2
        have hfin2 : Hid (progP (strL s) = .inr bs') := by
          show _ = _
          rw [hfin.out]
          unfold endP
          rw [hS]
        clear hSe hS hfin
        go_wp2_with (go_at_call 33; refine hSe2.out.mono ?_; rintro e z ⟨rfl, hPz, hkz⟩; have hkz : Hid (Kp W2 z) := hkz; have hPz : Hid (Pg w (g + 1) g (.slice spb n capb) vu bs' t.2.1 t.2.2 z) := hPz; have Fz : Hid (Fm w (boxesP w.heap.size (w.heap.size + 1) (w.heap.size + 1 + 1) (g + 1 + 1) (g + 1) (.slice none 0 0) (.int .i64 0) (.int .i64 0)) z) := F2.out.kp hkz.out hPz.out.low boxes_ty; have d0 := (Fz.out.bx 0 _ _ _ rfl).c 0 (.slice none 0 0) rfl; have d1 := (Fz.out.bx 1 _ _ _ rfl).c 0 (.int .i64 0) rfl; have d2 := (Fz.out.bx 2 _ _ _ rfl).c 0 (.int .i64 0) rfl; have z0 := (Fz.out.bx 0 _ _ _ rfl).fz 0; have z1 := (Fz.out.bx 1 _ _ _ rfl).fz 0; have z2 := (Fz.out.bx 2 _ _ _ rfl).fz 0; have d3 := (Fz.out.bx 3 _ _ _ rfl).c 0 _ rfl; have d4 := hPz.out.box.c 0 _ rfl)
        have dz := hkz.out.rc D _ hd2.out rfl
        obtain ⟨hK, d3, hO⟩ := three_ends Fz.out dz hdw (.slice spb n capb) (.int .i64 0) (.int .i64 0)
        exact leave_mark d3 (res_three rfl agB agE agI rfl rfl rfl ((hK.bx 0 _ _ _ rfl).c 0 _ rfl) ((hK.bx 1 _ _ _ rfl).c 0 _ rfl) ((hK.bx 2 _ _ _ rfl).c 0 _ rfl)) (.inr ⟨bs', _, hfin2.out, rfl, hO _ _ hPz.out.bs, hK.low⟩)
    · obtain ⟨er, n, hst, F9⟩ := hX.st
      have l9 := hX.lp
      have hne : Hid (D ≠ l) := fun e => by
        have h2 := hX.df
        rw [e, l9] at h2
        cases h2
      have F2 := F9.turn l _ (.loop (R .exhausted (some .ret))) l9 rfl hlw
      have d2 := (World.putObj_heap_other (o := .loop (R .exhausted (some .ret))) hne.out).trans hX.df
      refine ⟨some .ret, _, over_ret hR.out l9, ?_⟩
      generalize W9.putObj l (.loop (R .exhausted (some .ret))) = W2 at F2 d2 ⊢
      have fin : Hid (progP (strL s) = .inl (er, n)) := by
        show _ = _
        unfold progP
        rw [if_neg (by rw [strL_len]; have := hb'.out; omega), hst]
      clear l9 hX hst
      refine wpIn_wide.2 ?_
      go_wp2
      have K := F2.turn D _ (.deferred none) d2 rfl hdw
      exact leave_mark d2 (res_three rfl agB agE agI rfl rfl rfl ((K.bx 0 _ _ _ rfl).c 0 _ rfl) ((K.bx 1 _ _ _ rfl).c 0 _ rfl) ((K.bx 2 _ _ _ rfl).c 0 _ rfl)) (.inl ⟨er, n, fin.out, rfl, K.low⟩)
end Go.Proofs.YthaijjehplomfaaDoor
