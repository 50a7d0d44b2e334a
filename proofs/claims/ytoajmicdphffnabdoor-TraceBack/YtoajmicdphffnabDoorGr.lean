/- A record's line: the program's. -/
import Derived.Test.YtoajmicdphffnabDoorGq
import Derived.Test.YtoajmicdphffnabDoorGm
namespace Go.Proofs.YtoajmicdphffnabDoor
open Go Go.RowKit
set_option linter.unusedVariables false
set_option maxHeartbeats 4000000
set_option maxRecDepth 20000

theorem say_row (w : World) (tb : Tp w) (g p1 f1 p2 f2 p3 f3 : Nat) (hR : RwA w g p1 f1 p2 f2 p3 f3) (r : Rc) (gr : Rr r) (hm : mayR r = true) (j : Nat) (hj : j < 8) :
    ∃ b k cap F2, rowC p1 f1 p2 f2 p3 f3 j = #[.bool b, .func (.func k) #[] cap, F2] ∧ (rowC p1 f1 p2 f2 p3 f3 j).all (·.oneCell') = true ∧ (∀ z, (callFunc k (#[.agg (rcC r)] ++ cap)).run Tryd.prog z = .ok (.enter k (#[.agg (rcC r)] ++ cap)) z) ∧ ∀ y, Below w.heap.size w y → Calls Tryd.prog k (#[.agg (rcC r)] ++ cap) y fun e w' => e = .returned (.string (sayW r j)) ∧ Below y.heap.size y w' := by
  obtain ⟨m1, m2, m3, m4⟩ := (may_iff r).1 hm
  rcases (show j = 0 ∨ j = 1 ∨ j = 2 ∨ j = 3 ∨ j = 4 ∨ j = 5 ∨ j = 6 ∨ j = 7 by omega) with e | e | e | e | e | e | e | e <;> subst e
  · exact ⟨_, _, _, _, rfl, by simp [rowC, Value.oneCell'], fun z => by kernel_rfl, fun y _ => say0 y r gr m1⟩
  · exact ⟨_, _, _, _, rfl, by simp [rowC, Value.oneCell'], fun z => by kernel_rfl, fun y _ => say1 y r gr⟩
  · exact ⟨_, _, _, _, rfl, by simp [rowC, Value.oneCell'], fun z => by kernel_rfl, fun y _ => say2 y r gr⟩
  · exact ⟨_, _, _, _, rfl, by simp [rowC, Value.oneCell'], fun z => by kernel_rfl, fun y hy => say3 y r f1 p1 ⟨#[114]⟩ (hR.g1.keep hy) (hR.s1.keep hy)⟩
  · exact ⟨_, _, _, _, rfl, by simp [rowC, Value.oneCell'], fun z => by kernel_rfl, fun y hy => say4 y r f2 p2 ⟨#[119]⟩ (hR.g2.keep hy) (hR.s2.keep hy)⟩
  · exact ⟨_, _, _, _, rfl, by simp [rowC, Value.oneCell'], fun z => by kernel_rfl, fun y _ => say5 y r gr m2⟩
  · exact ⟨_, _, _, _, rfl, by simp [rowC, Value.oneCell'], fun z => by kernel_rfl, fun y hy => say6 y r f3 p3 ⟨#[113]⟩ (hR.g3.keep hy) (hR.s3.keep hy)⟩
  · exact ⟨_, _, _, _, rfl, by simp [rowC, Value.oneCell'], fun z => by kernel_rfl, fun y hy => say7 y r gr m3 (tb.below hy)⟩
def wds (r : Rc) (j : Nat) : List ByteArray := ((List.range j).map (sayW r)).filter (fun x => x.size != 0)
theorem wds_succ (r : Rc) (j : Nat) : wds r (j + 1) = wds r j ++ (if (sayW r j).size != 0 then [sayW r j] else []) := by
  unfold wds
  rw [List.range_succ, List.map_append, List.filter_append]
  simp [List.filter_cons]
theorem wds_len (r : Rc) (j : Nat) : (wds r j).length ≤ j := by
  unfold wds
  exact Nat.le_trans (List.length_filter_le _ _) (by simp)
/-- Words that grow in a list of its own, beside the record. -/
structure LK (w : World) (v : Value) (O : List ByteArray) (r : Rc) (y : World) : Prop where
  kt : KT w v O y
  bx : Bx y w.heap.size (rcC r) 45
theorem KT.off {w y : World} {v : Value} {O : List ByteArray} {b t : Nat} {cs : Array Value} (h : KT w v O y) (hx : Bx y b cs t) (ht : t ≠ 9) : some b ≠ v.ownBlock := fun e => by
  rcases h.1.2 with ⟨h0, _⟩ | ⟨g, cap, cur, hv, _, hg, _⟩
  · rw [h0] at e; cases e
  · rw [hv] at e
    have : b = g := by simpa [Value.ownBlock] using e
    subst this
    unfold Bx at hx
    rw [hx] at hg
    injection hg with hg
    injection hg with _ hg2 _
    exact ht hg2
theorem KT.below {w y z : World} {v : Value} {O : List ByteArray} (h : KT w v O y) (hb : Below y.heap.size y z) : KT w v O z := by
  refine ⟨⟨h.1.1, ?_⟩, h.2.trans (hb.mono h.2.size)⟩
  rcases h.1.2 with h0 | ⟨g, cap, cur, hv, hB, hg, hr⟩
  · exact .inl h0
  · exact .inr ⟨g, cap, cur, hv, hB, (hb.block g (heap_lt hg)).trans hg, hr⟩
theorem LK.below {w y z : World} {v : Value} {O : List ByteArray} {r : Rc} (h : LK w v O r y) (hb : Below y.heap.size y z) : LK w v O r z := ⟨h.kt.below hb, h.bx.keep hb⟩
theorem LK.add {w y w' : World} {v v' : Value} {O : List ByteArray} {x : ByteArray} {o : Obj} {r : Rc} (h : LK w v O r y) (ho : w'.ownsRow w.heap.size 9 1 v' (O.length + 1) (O.map .string ++ [.string x])) (hg : (y.alloc o).grownBy w' v.ownBlock) : LK w v' (O ++ [x]) r w' := by
  have h1 := h.below (below1 y o)
  exact ⟨h.kt.add ho hg, (hg.block _ (heap_lt h1.bx) (h1.kt.off h1.bx (by decide))).trans h1.bx⟩
theorem KT.opened {w y : World} {v : Value} {ws : List ByteArray} (h : KT w v ws y) : ∃ sp cap, v = .slice sp ws.length cap ∧ LiesT y sp ws ∧ ws.length ≤ cap := by
  obtain ⟨sp, cap, hv, hl⟩ := h.open
  refine ⟨sp, cap, hv, hl, ?_⟩
  rcases h.1.2 with ⟨h0, hn⟩ | ⟨g, cap', cur, hv', _, _, hle, _⟩
  · omega
  · rw [hv] at hv'
    simp at hv'
    omega
def fW (r : Rc) (j : Nat) : List ByteArray := if (sayW r j).size != 0 then [sayW r j] else []
theorem wds_all (r : Rc) : wds r 8 = fW r 0 ++ fW r 1 ++ fW r 2 ++ fW r 3 ++ fW r 4 ++ fW r 5 ++ fW r 6 ++ fW r 7 := by
  rw [wds_succ, wds_succ, wds_succ, wds_succ, wds_succ, wds_succ, wds_succ, wds_succ]
  rfl
theorem hex1 (n : Int) (h0 : 0 ≤ n) (h1 : n ≤ 7) : hexL 1 n.toNat = [dig n] := by
  rcases (show n = 0 ∨ n = 1 ∨ n = 2 ∨ n = 3 ∨ n = 4 ∨ n = 5 ∨ n = 6 ∨ n = 7 by omega) with h | h | h | h | h | h | h | h <;> subst h <;> decide
theorem fW_some {r : Rc} {j : Nat} {l : List UInt8} (h : strL (sayW r j) = l) (hl : l ≠ []) : fW r j = [sayW r j] := by
  unfold fW
  rw [if_pos]
  have : (sayW r j).size ≠ 0 := by
    rw [← strL_len, h]
    exact fun e => hl (List.eq_nil_of_length_eq_zero e)
  simpa using this
theorem fW_map {r : Rc} {j : Nat} {l : List UInt8} (h : strL (sayW r j) = l) : (fW r j).map strL = if l = [] then [] else [l] := by
  by_cases e : l = []
  · rw [if_pos e]
    unfold fW
    rw [if_neg]
    · rfl
    · have : (sayW r j).size = 0 := by rw [← strL_len, h, e]; rfl
      simp [this]
  · rw [if_neg e, fW_some h e]
    simp [h]
theorem fW_size {r : Rc} {j : Nat} {l : List UInt8} (h : strL (sayW r j) = l) (hl : l.length ≤ 8) : ∀ s ∈ fW r j, s.size ≤ 8 := fun s hs => by
  unfold fW at hs
  split at hs
  · simp at hs
    rw [hs, ← strL_len, h]
    exact hl
  · simp at hs
theorem wds8 (r : Rc) (gr : Rr r) (hm : mayR r = true) : 2 ≤ (wds r 8).length ∧ (∀ s ∈ wds r 8, s.size ≤ 8) ∧ joinA (wds r 8) = lineR r := by
  obtain ⟨m1, m2, m3, m4⟩ := (may_iff r).1 hm
  have c0 := gr.c0
  have a0 := gr.a0
  have a1 := gr.a1
  have d0 := gr.d0
  have d1 := gr.d1
  have p0 := gr.p0
  have o0 := gr.m0
  have z0 : strL (sayW r 0) = [115, dig r.co] := by
    show strL (⟨#[115]⟩ ++ hexOf r.co 1) = _
    have h := (hexOf_small r.co 1 c0 (by omega) (by decide)).1
    rw [hex1 r.co c0 (by omega)] at h
    rw [strL_app]
    show [115] ++ strL (hexOf r.co ((1 : Nat) : Int)) = _
    rw [h]
    rfl
  have z1 : strL (sayW r 1) = hexL 4 r.ad.toNat := (hexOf_small r.ad 4 a0 (by omega) (by decide)).1
  have z2 : strL (sayW r 2) = hexL 2 r.da.toNat := (hexOf_small r.da 2 d0 (by omega) (by decide)).1
  have z3 : strL (sayW r 3) = if r.re then wR else [] := by show strL (if r.re then _ else _) = _; cases r.re <;> rfl
  have z4 : strL (sayW r 4) = if r.wr then wW else [] := by show strL (if r.wr then _ else _) = _; cases r.wr <;> rfl
  have z5 : strL (sayW r 5) = if r.po ≠ 0 then [110, dig r.po] else [] := by
    show strL (if r.po = 0 then _ else _) = _
    by_cases h : r.po = 0
    · rw [if_pos h, if_neg (by simpa using h)]; rfl
    · rw [if_neg h, if_pos h, strL_app]
      have h2 := (hexOf_small r.po 1 p0 (by omega) (by decide)).1
      rw [hex1 r.po p0 m2] at h2
      show [110] ++ strL (hexOf r.po ((1 : Nat) : Int)) = _
      rw [h2]
      rfl
  have z6 : strL (sayW r 6) = if r.q then wQ else [] := by show strL (if r.q then _ else _) = _; cases r.q <;> rfl
  have z7 : strL (sayW r 7) = if r.mo = 1 then wPause else if r.mo = 2 then wReset else if r.mo = 3 then wLoad else [] := by
    show strL (moS r.mo) = _
    unfold moS
    (repeat' split) <;> rfl
  have e0 := fW_some z0 (by simp)
  have e1 := fW_some z1 (fun h => by have := congrArg List.length h; rw [hexL_len] at this; simp at this)
  have e2 := fW_some z2 (fun h => by have := congrArg List.length h; rw [hexL_len] at this; simp at this)
  refine ⟨?_, ?_, ?_⟩
  · rw [wds_all, e0, e1, e2]
    simp
  · rw [wds_all]
    intro s hs
    simp only [List.mem_append] at hs
    rcases hs with ((((((h | h) | h) | h) | h) | h) | h) | h
    · exact fW_size z0 (by simp) s h
    · exact fW_size z1 (by rw [hexL_len]; omega) s h
    · exact fW_size z2 (by rw [hexL_len]; omega) s h
    · exact fW_size z3 (by split <;> simp [wR]) s h
    · exact fW_size z4 (by split <;> simp [wW]) s h
    · exact fW_size z5 (by split <;> simp) s h
    · exact fW_size z6 (by split <;> simp [wQ]) s h
    · exact fW_size z7 (by (repeat' split) <;> simp [wPause, wReset, wLoad]) s h
  · rw [wds_all, e0]
    have ej : joinA ([sayW r 0] ++ fW r 1 ++ fW r 2 ++ fW r 3 ++ fW r 4 ++ fW r 5 ++ fW r 6 ++ fW r 7) = strL (sayW r 0) ++ joinT ((fW r 1 ++ fW r 2 ++ fW r 3 ++ fW r 4 ++ fW r 5 ++ fW r 6 ++ fW r 7).map strL) := by simp [joinA]
    rw [ej, z0]
    unfold lineR
    congr 2
    simp only [List.map_append]
    rw [e1, e2, fW_map z3, fW_map z4, fW_map z5, fW_map z6, fW_map z7]
    unfold restR endR moW
    simp only [List.map_cons, List.map_nil, z1, z2]
    cases r.re <;> cases r.wr <;> cases r.q <;> by_cases h5 : r.po = 0 <;> rcases (show r.mo = 0 ∨ r.mo = 1 ∨ r.mo = 2 ∨ r.mo = 3 by omega) with h7 | h7 | h7 | h7 <;> simp [h5, h7, wR, wW, wQ, wPause, wReset, wLoad]
theorem line_any (w : World) (tb : Hid (Tp w)) (g p1 f1 p2 f2 p3 f3 : Nat) (hR : Hid (RwA w g p1 f1 p2 f2 p3 f3)) (r : Rc) (gr : Rr r) (hm : mayR r = true) :
    Calls Tryd.prog 15 #[.slice (some ⟨g, 0, none⟩) 8 8, .agg (rcC r)] w fun e w' => ∃ st, e = .returned (.string st) ∧ Hid (strL st = lineR r ++ [10] ∧ st.size ≤ 26 ∧ Below w.heap.size w w') := by
  have W8 : Hid (2 ≤ (wds r 8).length ∧ (∀ s ∈ wds r 8, s.size ≤ 8) ∧ joinA (wds r 8) = lineR r) := wds8 r gr hm
  have hF : Hid (LK w (.slice none 0 0) [] r (w.alloc (.cells (rcC r) 45))) := ⟨⟨World.ownsRow_nil _ _ _ 1, below1 _ _⟩, one_bx _ _ _⟩
  have hsay : Hid (∀ j, j < 8 → ∃ b k cap F2, rowC p1 f1 p2 f2 p3 f3 j = #[.bool b, .func (.func k) #[] cap, F2] ∧ (rowC p1 f1 p2 f2 p3 f3 j).all (·.oneCell') = true ∧ (∀ z, (callFunc k (#[.agg (rcC r)] ++ cap)).run Tryd.prog z = .ok (.enter k (#[.agg (rcC r)] ++ cap)) z) ∧ ∀ y, Below w.heap.size w y → Calls Tryd.prog k (#[.agg (rcC r)] ++ cap) y fun e w' => e = .returned (.string (sayW r j)) ∧ Below y.heap.size y w') := fun j hj => say_row w tb.out g p1 f1 p2 f2 p3 f3 hR.out r gr hm j hj
  have zz := zeroV84
  obtain ⟨i9, hi9, hz0, hz1, hz2⟩ := info_parts infoT
  go_enter Tryd.func15, Tryd.ntmps15
  go_wp2_with ((with_reducible refine gen_world (w.alloc (.cells (rcC r) 45)) (LK w (.slice none 0 0) [] r) hF.out ?_); intro y0 K0)
  go_loopw [5, 11] (fun p t wz => ∃ (j : Nat) (va : Value) (y : World), y = wz ∧ va = p ∧ t = .int .i64 (j : Int) ∧ Hid (j ≤ 8) ∧ Hid (LK w va (wds r j) r y)) (fun _ t _ => (8 - intOf t).toNat)
  case atStart => exact ⟨0, _, y0, rfl, rfl, rfl, Nat.zero_le _, K0⟩
  case round =>
    obtain ⟨j, va, y, rfl, rfl, rfl, J, K⟩ := hrel
    by_cases hlt : j < 8
    · obtain ⟨b, k, cp, F2, hrow, hone, hent, hcall⟩ := hsay.out j hlt
      have hrg := row_range p1 f1 p2 f2 p3 f3 (hR.out.tab.keep K.out.kt.2) j hlt
      rw [hrow] at hrg hone
      rw [Nat.zero_add] at hrg
      have ij := fun v => idxP (g := g) (off := 0) (len := 8) (cap := 8) Tryd.underlying40 (s := 3) (by kernel_rfl) .i64 j v hlt
      have hji : (j : Int) < 8 := by omega
      have hlt' : Hid (j < 8) := hlt
      have hwl : Hid ((wds r j).length ≤ 8) := by have := wds_len r j; show _ ≤ 8; omega
      have hws := wds_succ r j
      obtain ⟨st, hst⟩ : ∃ x, sayW r j = x := ⟨_, rfl⟩
      simp only [hst] at hcall
      rw [hst] at hws
      obtain ⟨O, hO⟩ : ∃ x, wds r j = x := ⟨_, rfl⟩
      rw [hO] at K hwl hws
      replace hrg : Hid _ := hrg
      replace hone : Hid _ := hone
      replace hcall : Hid _ := hcall
      replace hws : Hid _ := hws
      clear hlt hrow hO hst
      by_cases hs0 : st.size = 0
      · have q : (st.toList != []) = false := by
          have : strL st = [] := List.eq_nil_of_length_eq_zero (by rw [strL_len]; exact hs0)
          rw [toL, this]
          rfl
        have hwd : Hid (wds r (j + 1) = O) := by show _ = _; rw [hws.out, hs0]; simp
        have est : st = ⟨#[]⟩ := by
          have : strL st = [] := List.eq_nil_of_length_eq_zero (by rw [strL_len]; exact hs0)
          rw [← strL_mk st, this]
        clear hs0 q hws
        subst est
        go_wp2_with (first
        | ((with_reducible refine at_loadm rt84 g (j * 3) #[.bool b, .func (.func k) #[] cp, F2] ?_ ?_ (.tmp 13) ?_ ?_ ?_ ?_); exact hrg.out; rfl; kernel_rfl; rfl; rfl)
        | ((with_reducible refine gen_world (y.alloc (.cells #[.bool false, Value.nilFunc, Value.nilFunc] 72)) (Fm y [(y.heap.size, #[.bool false, Value.nilFunc, Value.nilFunc], 72)]) ?_ ?_); exact Fm.one y _ _; intro y1 K1)
        | ((with_reducible refine at_st rt84 y.heap.size #[.bool false, Value.nilFunc, Value.nilFunc] #[.bool b, .func (.func k) #[] cp, F2] ?_ ?_ ?_ ?_ (.tmp 7) (.tmp 14) ?_ ?_ ?_ ?_ ?_); exact K1.out.bx 0 _ _ _ rfl; rfl; rfl; exact hone.out; rfl; rfl; rfl; rfl; intro y2 hw2; have K2 : Hid (Fm y [(y.heap.size, #[.bool b, .func (.func k) #[] cp, F2], 72)] y2) := K1.out.put 0 _ _ _ _ rfl hw2.out; have L2 : Hid (LK w va O r y2) := K.out.below K2.out.low; have d1 := (K2.out.bx 0 _ _ _ rfl).c 1 _ rfl)
        | ((with_reducible refine at_load rtR w.heap.size (rcC r) ?_ ?_ (.tmp 3) ?_ ?_ ?_ ?_); exact L2.out.bx; rfl; kernel_rfl; rfl; rfl)
        | ((with_reducible show Calls Tryd.prog k _ _ _); refine (hcall.out y2 L2.out.kt.2).mono ?_; rintro e y3 ⟨rfl, h3⟩; have L3 : Hid (LK w va O r y3) := L2.out.below h3; clear h3))
        go_roundw
        case rel => exact ⟨j + 1, va, y3, rfl, rfl, by simp, hlt'.out, by rw [hwd.out]; exact L3⟩
        case measure => have := hlt'.out; simp [intOf]; omega
      · have q : st.toList.isEmpty = false := by
          rw [toL]
          cases h : strL st with
          | nil => exact absurd (by rw [← strL_len, h]; rfl) hs0
          | cons a b => rfl
        have hwd : Hid (wds r (j + 1) = O ++ [st]) := by show _ = _; rw [hws.out, if_pos (by simpa using hs0)]
        clear hs0
        go_wp2_with (first
        | (at_builtin; refine wpList_append_own _ rfl (.tmp 21) (.tmp 23) 79 rfl w.heap.size 9 i9 (.string ⟨#[]⟩) 1 16 Tryd.underlying79 hi9 hz0 hz1 hz2 rfl (by decide) va O.length (O.map .string) rfl (L3.out.kt.1.alloc _) ⟨y3.heap.size, 0, none⟩ 1 1 [.string st] rfl rfl (one_str y3 st) (by simp [Value.oneCell']) ?_ ?_ ?_ ?_; (have h1 := hwl.out; unfold maxLen; omega); (have h1 := hwl.out; omega); (have := L3.out.kt.2.size; simp; omega); intro v6 y6 g3 g4 g5; have L6 : Hid (LK w v6 (O ++ [st]) r y6) := L3.out.add g3 g4; clear g3 g4 g5)
        | ((with_reducible refine at_loadm rt84 g (j * 3) #[.bool b, .func (.func k) #[] cp, F2] ?_ ?_ (.tmp 13) ?_ ?_ ?_ ?_); exact hrg.out; rfl; kernel_rfl; rfl; rfl)
        | ((with_reducible refine gen_world (y.alloc (.cells #[.bool false, Value.nilFunc, Value.nilFunc] 72)) (Fm y [(y.heap.size, #[.bool false, Value.nilFunc, Value.nilFunc], 72)]) ?_ ?_); exact Fm.one y _ _; intro y1 K1)
        | ((with_reducible refine at_st rt84 y.heap.size #[.bool false, Value.nilFunc, Value.nilFunc] #[.bool b, .func (.func k) #[] cp, F2] ?_ ?_ ?_ ?_ (.tmp 7) (.tmp 14) ?_ ?_ ?_ ?_ ?_); exact K1.out.bx 0 _ _ _ rfl; rfl; rfl; exact hone.out; rfl; rfl; rfl; rfl; intro y2 hw2; have K2 : Hid (Fm y [(y.heap.size, #[.bool b, .func (.func k) #[] cp, F2], 72)] y2) := K1.out.put 0 _ _ _ _ rfl hw2.out; have L2 : Hid (LK w va O r y2) := K.out.below K2.out.low; have d1 := (K2.out.bx 0 _ _ _ rfl).c 1 _ rfl)
        | ((with_reducible refine at_load rtR w.heap.size (rcC r) ?_ ?_ (.tmp 3) ?_ ?_ ?_ ?_); exact L2.out.bx; rfl; kernel_rfl; rfl; rfl)
        | ((with_reducible show Calls Tryd.prog k _ _ _); refine (hcall.out y2 L2.out.kt.2).mono ?_; rintro e y3 ⟨rfl, h3⟩; have L3 : Hid (LK w va O r y3) := L2.out.below h3; clear h3))
        go_roundw
        case rel => exact ⟨j + 1, v6, y6, rfl, rfl, by simp, hlt'.out, by rw [hwd.out]; exact L6⟩
        case measure => have := hlt'.out; simp [intOf]; omega
    · have hje : j = 8 := by have := J.out; omega
      subst hje
      obtain ⟨sp8, cap8, hv8, hLT8, hc8⟩ := K.out.kt.opened
      subst hv8
      have hjo := join_any y sp8 cap8 (wds r 8) hLT8 W8.out.1 (wds_len r 8) W8.out.2.1 hc8
      rw [W8.out.2.2] at hjo
      have hls : Hid ((lineR r).length ≤ 25) := (line_facts gr hm).2.1
      obtain ⟨WN, hWN⟩ : ∃ x, (wds r 8).length = x := ⟨_, rfl⟩
      rw [hWN] at hjo ⊢
      obtain ⟨LS, hLS⟩ : ∃ x : ByteArray, (⟨(lineR r).toArray⟩ : ByteArray) = x := ⟨_, rfl⟩
      have hLz : LS.size ≤ 25 := by rw [← hLS]; exact hls.out
      rw [hLS] at hjo
      have hLL : Hid (strL LS = lineR r) := by show _ = _; rw [← hLS]; simp [strL]
      clear hlt hWN hLS
      go_wp2_with (go_at_call 49; refine hjo.mono ?_; rintro e y6 ⟨rfl, H6⟩)
      go_ret
      refine ⟨_, rfl, by rw [strL_app, hLL.out]; rfl, ?_, K.out.kt.2.trans (H6.out.mono K.out.kt.2.size)⟩
      rw [← strL_len, strL_app, hLL.out, List.length_append]
      have := hls.out
      show _ + 1 ≤ _
      omega
end Go.Proofs.YtoajmicdphffnabDoor
