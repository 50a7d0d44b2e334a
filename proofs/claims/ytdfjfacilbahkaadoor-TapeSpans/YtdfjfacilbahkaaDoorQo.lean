/- Waves as spans: the program's. -/
import Derived.Test.YtdfjfacilbahkaaDoorQm
import Derived.Test.YtdfjfacilbahkaaDoorQn
import Derived.Test.YtdfjfacilbahkaaDoorQi
namespace Go.Proofs.YtdfjfacilbahkaaDoor
open Go Go.RowKit
set_option linter.unusedVariables false
set_option maxHeartbeats 2000000
set_option maxRecDepth 20000

/-- A list of spans that grows beside a span in a box. -/
structure Sq (w : World) (v : Value) (out : List Sn) (c : Array Value) (y : World) : Prop where
  bx : Bx y w.heap.size c 37
  own : OwnL 37 10 cS (w.heap.size + 1) y v out
  low : Below w.heap.size w y
theorem Sq.below {w y z : World} {v : Value} {out : List Sn} {c : Array Value} (h : Sq w v out c y) (hb : Below y.heap.size y z) : Sq w v out c z := ⟨(hb.block _ (heap_lt h.bx)).trans h.bx, h.own.below hb, h.low.trans (hb.mono h.low.size)⟩
theorem Sq.setC {w y : World} {v : Value} {out : List Sn} {c c' : Array Value} (h : Sq w v out c y) (i : Nat) (u : Value) (hc : c.setIfInBounds i u = c') : Sq w v out c' (y.setCell ⟨w.heap.size, i, none⟩ u) := by
  refine ⟨?_, h.own.keepB fun g e => heap_setCell_other y ⟨w.heap.size, i, none⟩ g u (by have := (h.own.lt g e).1; show g ≠ w.heap.size; omega), h.low.setCell (p := ⟨w.heap.size, i, none⟩) (Nat.le_refl _) u⟩
  have := heap_setCell_same y w.heap.size i c 37 u h.bx
  rw [hc] at this
  exact this
theorem Sq.add {w y z : World} {v v' : Value} {out : List Sn} {c : Array Value} {x : Sn} {o : Obj} (h : Sq w v out c y) (A : App1L 37 10 cS (w.heap.size + 1) v out x v' (y.alloc o) z) : Sq w v' (out ++ [x]) c z := by
  have hb := h.below (below1 y o)
  exact ⟨(A.cu.low.block _ (Nat.lt_succ_self _)).trans hb.bx, A.own, hb.low.trans (A.cu.low.mono (Nat.le_succ _))⟩
theorem App1L.boxW {n0 hb : Nat} {W y : World} {v v' : Value} {C : Array Value} {l : List Sn} {x : Sn} (A : App1L 37 10 cS n0 v l x v' W y) (ho : OwnL 37 10 cS n0 W v l) (hk : Bx W hb C 49) : Bx y hb C 49 := by
  refine (A.cu.blk hb (heap_lt hk) fun j hF => ?_).trans hk
  obtain ⟨cs, h⟩ := ho.ty hb hF.1
  exact hk.unlike h (by decide) rfl
theorem pspans_any (w : World) (sp : Option Addr) (cap : Nat) (l : List (Int × Int)) (c0 : Int) (sa : At) (hl : Hid (L2 w sp l)) (hn : l.length ≤ 4000000000) :
    Calls Tryd.prog 17 #[.slice sp l.length cap, .agg (spC ⟨c0, sa⟩)] w fun e w' => ∃ v, e = .returned (.tuple #[v, .int .i64 (spansW l sa).2]) ∧ Hid (KL 37 10 cS w v (spansW l sa).1 w') := by
  have hF : Hid (Fm w [(w.heap.size, spC ⟨c0, sa⟩, 37)] (w.alloc (.cells (spC ⟨c0, sa⟩) 37))) := Fm.one w _ _
  have hCf := fun y (h : L2 y sp l) => contains_any y sp cap l h (by omega)
  obtain ⟨n, hn'⟩ : ∃ n, l.length = n := ⟨_, rfl⟩
  have ni : (n : Int) ≤ 4000000000 := by omega
  obtain ⟨R, hR⟩ : ∃ x, spansW l sa = x := ⟨_, rfl⟩
  rw [hR]
  unfold spansW at hR
  rw [hn'] at hR hCf ⊢
  replace hR : Hid _ := hR
  have hl' : Hid (l.length = n) := hn'
  obtain ⟨y0, hy0⟩ : ∃ x, w.alloc (.cells (spC ⟨c0, sa⟩) 37) = x := ⟨_, rfl⟩
  have F0 : Hid (Fm w [(w.heap.size, spC ⟨c0, sa⟩, 37)] y0) := by have := hF; rw [hy0] at this; exact this
  have hz0 : Hid (y0.heap.size = w.heap.size + 1) := by rw [← hy0]; show _ = _; simp
  have hCf0 := hCf y0 (hl.out.below F0.out.low)
  obtain ⟨al, eal⟩ : ∃ b, l.all okW = b := ⟨_, rfl⟩
  rw [eal] at hCf0 hR
  obtain ⟨SC, hSC⟩ : ∃ x, spC ⟨c0, sa⟩ = x := ⟨_, rfl⟩
  rw [hSC] at hy0 F0 ⊢
  replace hSC : Hid _ := hSC
  have hn4 : Hid (n ≤ 4000000000) := by show _ ≤ _; omega
  clear hn hn' hF eal hCf
  cases al
  · have hR1 : Hid (R = ([], 1)) := by show _ = _; rw [← hR.out, if_pos rfl]
    go_enter Tryd.func17, Tryd.ntmps17
    go_wp2_with (go_at_call 29; refine hCf0.mono ?_; rintro e y1 ⟨rfl, h1⟩; replace h1 : Hid _ := h1)
    go_ret2
    exact ⟨.slice none 0 0, by rw [hR1.out]; rfl, by rw [hR1.out]; exact ((KL.nil y1).base h1.out).base F0.out.low⟩
  have hR1 : Hid ((if checkS (spanL l sa) = 0 then (spanL l sa, 0) else ([], checkS (spanL l sa))) = R) := by
    have h := hR.out
    rw [if_neg (by decide)] at h
    by_cases hbig : 2048 < n
    · rw [if_pos hbig] at h
      have e : checkS (spanL l sa) = 2 := by unfold checkS; rw [if_pos (by rw [spanL_len, hl'.out]; omega)]
      rw [e]
      exact h
    · rw [if_neg hbig] at h
      exact h
  clear hR
  have hmkc : Hid (∀ y1 : World, ∃ y2, (Instr.makeSlice 38 (.int .i64 0) (.int .i64 ((2 * n : Nat) : Int))).run Tryd.prog y1 = .ok (.slice (some ⟨y1.heap.size, 0, none⟩) 0 (2 * n)) y2 ∧ KL 37 10 cS y1 (.slice (some ⟨y1.heap.size, 0, none⟩) 0 (2 * n)) ([] : List Sn) y2) := fun y1 => makeL kSpan y1 (2 * n) (by have := hn4.out; omega)
  have e2n : (2 : Int) * (n : Int) = ((2 * n : Nat) : Int) := by push_cast; rfl
  go_enter Tryd.func17, Tryd.ntmps17
  go_wp2_with (go_at_call 29; refine hCf0.mono ?_; rintro e y1 ⟨rfl, h1⟩; refine stopAt ?_)
  obtain ⟨y2, hmk, hk2⟩ := hmkc.out y1
  have S2 : Hid (Sq w (.slice (some ⟨y1.heap.size, 0, none⟩) 0 (2 * n)) [] SC y2) := ⟨(hk2.low.block _ (by have := hz0.out; have := h1.size; omega)).trans ((h1.block _ (by have := hz0.out; omega)).trans (F0.out.bx 0 _ _ _ rfl)), hk2.own.weak (by have := hz0.out; have := h1.size; omega), F0.out.low.trans ((h1.mono F0.out.low.size).trans (hk2.low.mono (by have := F0.out.low.size; have := h1.size; omega)))⟩
  obtain ⟨v2, hv2⟩ : ∃ v, Value.slice (some ⟨y1.heap.size, 0, none⟩) 0 (2 * n) = v := ⟨_, rfl⟩
  rw [hv2] at hmk S2
  clear hk2 h1 hmkc hv2
  obtain ⟨n2, hn2⟩ : ∃ m : Nat, 2 * n = m := ⟨_, rfl⟩
  rw [hn2] at hmk e2n
  clear hn2
  refine Stop.go ?_
  go_wp2
  go_loopw [6, 18] (fun o' i wz => ∃ (k : Nat) (v : Value) (c : Int) (sb : At) (y : World), y = wz ∧ v = o' ∧ i = .int .i64 (k : Int) ∧ Hid (k ≤ n ∧ tOn sb = tOn sa ∧ tOff sb = tOff sa) ∧ Hid (Sq w v (spanL (l.take k) sa) (spC ⟨c, sb⟩) y)) (fun _ i _ => (n - intOf i).toNat)
  case atStart => exact ⟨0, v2, c0, sa, y2, rfl, rfl, rfl, ⟨Nat.zero_le _, rfl, rfl⟩, by rw [show spanL (l.take 0) sa = [] by simp [spanL], hSC.out]; exact S2⟩
  case round =>
    obtain ⟨k, v, c, sb, y, rfl, rfl, rfl, J, K⟩ := hrel
    by_cases hlt : k < n
    · obtain ⟨p, hp, hdrop⟩ := row_at hl'.out hlt
      have hsn : Hid (spanL (l.take (k + 1)) sa = spanL (l.take k) sa ++ [⟨p.1, tOn sb⟩] ++ [⟨p.2, tOff sb⟩]) := by
        show _ = _
        rw [spanL_snoc l sa k p hp, J.out.2.1, J.out.2.2]
        simp
      obtain ⟨g, o, rfl, hc, -, -⟩ := l2_at (hl.out.below K.out.low) k p hp
      replace hc : Hid (y.rangeAt g (o + k * 2) (c2 p).toArray.toList) := hc
      have ij := fun u => idxP (g := g) (off := o) (len := n) (cap := cap) Tryd.underlying24 (s := 2) (by kernel_rfl) .i64 k u hlt
      have hki : (k : Int) < n := by omega
      have hlt' : Hid (k < n) := hlt
      have k1 : Hid ((c2 p).toArray[0]? = some (.int .i64 p.1)) := rfl
      have k2 : Hid ((c2 p).toArray[1]? = some (.int .i64 p.2)) := rfl
      have hone : Hid ((c2 p).toArray.all (·.oneCell') = true ∧ (c2 p).toArray.size = 2) := ⟨c2_all p, rfl⟩
      obtain ⟨C, eC⟩ : ∃ x, (c2 p).toArray = x := ⟨_, rfl⟩
      rw [eC] at hc k1 k2 hone
      obtain ⟨h, eh⟩ : ∃ x, p.1 = x := ⟨_, rfl⟩
      obtain ⟨lo, el⟩ : ∃ x, p.2 = x := ⟨_, rfl⟩
      rw [eh, el] at hsn
      rw [eh] at k1
      rw [el] at k2
      have hol : Hid ((spanL (l.take k) sa).length ≤ 8000000000) := by
        show _ ≤ _
        rw [spanL_len, List.length_take]
        have := hn4.out
        omega
      obtain ⟨out, eo⟩ : ∃ x, spanL (l.take k) sa = x := ⟨_, rfl⟩
      rw [eo] at K hol hsn
      clear hlt hp hdrop eh el eo eC
      go_wp2_with (first
        | ((with_reducible refine at_loadm rtWa g (o + k * 2) C ?_ ?_ (.tmp 20) ?_ ?_ ?_ ?_); exact hc.out; exact hone.out.2; kernel_rfl; rfl; rfl)
        | ((with_reducible refine gen_world (y.alloc (.cells #[.int .i64 0, .int .i64 0] 49)) (Fm y [(y.heap.size, #[.int .i64 0, .int .i64 0], 49)]) (Fm.one y _ _) ?_); intro y3 K3)
        | ((with_reducible refine at_st rtWa y.heap.size #[.int .i64 0, .int .i64 0] C ?_ ?_ ?_ ?_ (.tmp 8) (.tmp 21) ?_ ?_ ?_ ?_ ?_); exact K3.out.bx 0 _ _ _ rfl; rfl; exact hone.out.2; exact hone.out.1; rfl; rfl; rfl; rfl; intro y4 hw4; have K4 : Hid (Fm y [(y.heap.size, C, 49)] y4) := K3.out.put 0 _ _ _ _ rfl hw4.out; refine stopAt ?_))
      have S4 : Hid (Sq w v out (spC ⟨c, sb⟩) y4 ∧ Bx y4 y.heap.size C 49) := ⟨K.out.below K4.out.low, K4.out.bx 0 _ _ _ rfl⟩
      have hne : Hid (w.heap.size ≠ y.heap.size) := by have := heap_lt K.out.bx; show _ ≠ _; omega
      obtain ⟨b8, eb8⟩ : ∃ b, y.heap.size = b := ⟨_, rfl⟩
      rw [eb8] at S4 hne ⊢
      clear K3 hw4 K4 eb8
      have d0 := S4.out.2.c 0 _ k1.out
      have d1 := S4.out.1.bx.c 0 _ (spC_c ⟨c, sb⟩)
      have z1 := S4.out.1.bx.fz 0
      refine Stop.go ?_
      go_wp2_with (first
        | ((with_reducible refine gen_world (y4.setCell ⟨w.heap.size, 0, none⟩ (.int .i64 h)) (fun z => Sq w v out (spC ⟨h, sb⟩) z ∧ Bx z b8 C 49) ?_ ?_); exact ⟨S4.out.1.setC 0 _ rfl, (heap_setCell_other y4 ⟨w.heap.size, 0, none⟩ b8 _ (fun e => hne.out e.symm)).trans S4.out.2⟩; intro y5 S5; have d3 := S5.out.1.bx.c 2 _ (spC_Ta ⟨h, sb⟩); have z3 := S5.out.1.bx.fz 2)
        | ((with_reducible refine gen_world (y5.setCell ⟨w.heap.size, 2, none⟩ (.bool true)) (fun z => Sq w v out (spC ⟨h, tOn sb⟩) z ∧ Bx z b8 C 49) ?_ ?_); exact ⟨S5.out.1.setC 2 _ rfl, (heap_setCell_other y5 ⟨w.heap.size, 2, none⟩ b8 _ (fun e => hne.out e.symm)).trans S5.out.2⟩; intro y6 S6)
        | ((with_reducible refine at_load rtS w.heap.size (spC ⟨h, tOn sb⟩) ?_ ?_ (.tmp 3) ?_ ?_ ?_ ?_); exact S6.out.1.bx; rfl; kernel_rfl; rfl; rfl)
        | ((with_reducible refine at_bsS ⟨h, tOn sb⟩ (.tmp 27) ?_ ?_ ?_ ?_); rfl; rfl; rfl)
        | (at_builtin; refine at_appL kSpan rfl (.tmp 26) (.tmp 28) rfl (w.heap.size + 1) v out rfl (S6.out.1.own.alloc _) y6.heap.size ⟨h, tOn sb⟩ rfl (bx1 _ _ _) ?_ ?_ ?_; (have := hol.out; omega); (have := heap_lt S6.out.1.bx; simp; omega); intro v' y7 A; refine stopAt ?_))
      have S7 : Hid (Sq w v' (out ++ [⟨h, tOn sb⟩]) (spC ⟨h, tOn sb⟩) y7 ∧ Bx y7 b8 C 49) := ⟨S6.out.1.add A.out, A.out.boxW (S6.out.1.own.alloc _) (((below1 _ _).block b8 (heap_lt S6.out.2)).trans S6.out.2)⟩
      have hol2 : Hid ((out ++ [(⟨h, tOn sb⟩ : Sn)]).length ≤ 8000000001) := by show _ ≤ _; have := hol.out; simp; omega
      obtain ⟨out2, eo2⟩ : ∃ x, out ++ [(⟨h, tOn sb⟩ : Sn)] = x := ⟨_, rfl⟩
      rw [eo2] at S7 hol2 hsn
      clear A S4 S5 S6 eo2 d0 d1 d3 z1 z3
      have d0 := S7.out.2.c 1 _ k2.out
      have d1 := S7.out.1.bx.c 0 _ (spC_c ⟨h, tOn sb⟩)
      have z1 := S7.out.1.bx.fz 0
      refine Stop.go ?_
      go_wp2_with (first
        | ((with_reducible refine gen_world (y7.setCell ⟨w.heap.size, 0, none⟩ (.int .i64 lo)) (fun z => Sq w v' out2 (spC ⟨lo, tOn sb⟩) z) ?_ ?_); exact S7.out.1.setC 0 _ rfl; intro y8 S8; have d3 := S8.out.bx.c 2 _ (spC_Ta ⟨lo, tOn sb⟩); have z3 := S8.out.bx.fz 2)
        | ((with_reducible refine gen_world (y8.setCell ⟨w.heap.size, 2, none⟩ (.bool false)) (fun z => Sq w v' out2 (spC ⟨lo, tOff sb⟩) z) ?_ ?_); exact S8.out.setC 2 _ rfl; intro y9 S9)
        | ((with_reducible refine at_load rtS w.heap.size (spC ⟨lo, tOff sb⟩) ?_ ?_ (.tmp 3) ?_ ?_ ?_ ?_); exact S9.out.bx; rfl; kernel_rfl; rfl; rfl)
        | ((with_reducible refine at_bsS ⟨lo, tOff sb⟩ (.tmp 35) ?_ ?_ ?_ ?_); rfl; rfl; rfl)
        | (at_builtin; refine at_appL kSpan rfl (.tmp 34) (.tmp 36) rfl (w.heap.size + 1) v' out2 rfl (S9.out.own.alloc _) y9.heap.size ⟨lo, tOff sb⟩ rfl (bx1 _ _ _) ?_ ?_ ?_; (have := hol2.out; omega); (have := heap_lt S9.out.bx; simp; omega); intro v9 y10 A; have S10 : Hid (Sq w v9 (out2 ++ [⟨lo, tOff sb⟩]) (spC ⟨lo, tOff sb⟩) y10) := S9.out.add A.out; clear A))
      go_roundw
      case rel => exact ⟨k + 1, v9, lo, tOff sb, y10, rfl, rfl, by simp, ⟨hlt'.out, by rw [← J.out.2.1]; rfl, by rw [← J.out.2.2]; rfl⟩, by rw [hsn.out]; exact S10⟩
      case measure => have := hlt'.out; simp [intOf]; omega
    · have hke : k = n := by have := J.out.1; omega
      subst hke
      have K2 : Hid (KL 37 10 cS w v (spanL l sa) y) := by
        have h := K.out
        rw [List.take_of_length_le (by rw [hl'.out]; exact Nat.le_refl _)] at h
        exact ⟨h.own.weak (Nat.le_succ _), h.low⟩
      obtain ⟨sp', cap', rfl, hL, -⟩ := K2.out.own.open kSpan.len
      have hS : LiesS y sp' (spanL l sa) := hL
      have hCh := check_any y sp' cap' (spanL l sa) hS (by rw [spanL_len, hl'.out]; have := hn4.out; omega)
      obtain ⟨mm, emm⟩ : ∃ m, (spanL l sa).length = m := ⟨_, rfl⟩
      rw [emm] at hCh K2 ⊢
      obtain ⟨E, eE⟩ : ∃ x, checkS (spanL l sa) = x := ⟨_, rfl⟩
      rw [eE] at hCh hR1
      clear hlt K eE emm hL hS J
      by_cases h0 : E = 0
      · subst h0
        have hR2 : Hid (R = (spanL l sa, 0)) := by
          have h := hR1.out
          rw [if_pos rfl] at h
          exact h.symm
        go_wp2_with (go_at_call 31; refine hCh.mono ?_; rintro e x ⟨rfl, hx⟩; replace hx : Hid _ := hx)
        go_ret2
        exact ⟨_, by rw [hR2.out]; rfl, by rw [hR2.out]; exact K2.out.below hx.out⟩
      · have hR2 : Hid (R = ([], E)) := by
          have h := hR1.out
          rw [if_neg h0] at h
          exact h.symm
        have qe : (E == 0) = false := by simpa using h0
        clear h0
        go_wp2_with (go_at_call 31; refine hCh.mono ?_; rintro e x ⟨rfl, hx⟩; replace hx : Hid _ := hx)
        go_ret2
        exact ⟨.slice none 0 0, by rw [hR2.out]; rfl, by rw [hR2.out]; exact ((KL.nil x).base hx.out).base K2.out.low⟩
end Go.Proofs.YtdfjfacilbahkaaDoor
