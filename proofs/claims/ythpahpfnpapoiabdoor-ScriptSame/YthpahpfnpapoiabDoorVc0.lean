/- So many cycles of a span put behind a script; are two spans alike? What as few spans as may be come to, one by one. -/
import Derived.Test.YthpahpfnpapoiabDoorVa
import Derived.Test.YthpahpfnpapoiabDoorXj
namespace Go.Proofs.YthpahpfnpapoiabDoor
open Go Go.RowKit
set_option linter.unusedVariables false
set_option maxHeartbeats 2000000
set_option maxRecDepth 20000

theorem Ct.appA2 {w y x w' : World} {va vb va' : Value} {A Bl : List Sn} {bs : List (Nat × Array Value × TypeId)} {s : Sn} (h : Ct w va vb A Bl bs y) (hb : Below y.heap.size y x) (a : App1 w.heap.size va A s va' x w') : Ct w va' vb (A ++ [s]) Bl bs w' := by
  have h1 := h.below hb
  refine ⟨h1.fm.cu a.cu fun i b cs t e j hF => (h.na i b cs t e).1 hF.1, a.own, h1.ob.keepB fun g e => a.cu.blk g (World.ownsRow.lt h1.ob g e).2 fun j hF => h.ap g hF.1 e, fun g e1 e2 => ?_, fun i b cs t e => ⟨fun e1 => ?_, (h.na i b cs t e).2⟩⟩
  · rcases a.new g e1 with e3 | e3
    · exact h.ap g e3 e2
    · have := (World.ownsRow.lt h1.ob g e2).2; omega
  · rcases a.new b e1 with e3 | e3
    · exact (h.na i b cs t e).1 e3
    · have := heap_lt (h1.fm.get i b cs t e); omega
theorem Ct.appB2 {w y x w' : World} {va vb vb' : Value} {A Bl : List Sn} {bs : List (Nat × Array Value × TypeId)} {s : Sn} (h : Ct w va vb A Bl bs y) (hb : Below y.heap.size y x) (a : App1 w.heap.size vb Bl s vb' x w') : Ct w va vb' A (Bl ++ [s]) bs w' := (h.flip.appA2 hb a).flip
theorem lay_zero (w : World) (v : Value) (s : Sn) : Calls Tryd.prog 27 #[v, .agg (spC s), .int .i64 0] w fun e w' => e = .returned v ∧ Below w.heap.size w w' := by
  have hF : Hid (Fm w [(w.heap.size, spC s, 43)] (w.alloc (.cells (spC s) 43))) := Fm.one w _ _
  go_enter Tryd.func27, Tryd.ntmps27
  go_wp2_with ((with_reducible refine gen_world (w.alloc (.cells (spC s) 43)) (Fm w [(w.heap.size, spC s, 43)]) hF.out ?_); intro y0 K0)
  go_ret
  exact ⟨rfl, K0.out.low⟩
theorem lay_more (w : World) (B : Nat) (hB : B ≤ w.heap.size) (v : Value) (A : List Sn) (hv : Hid (OwnS B w v A)) (hA : A.length ≤ 100000) (s : Sn) (c : Int) (hc : c ≠ 0) : Calls Tryd.prog 27 #[v, .agg (spC s), .int .i64 c] w fun e w' => ∃ v', e = .returned v' ∧ Hid (∃ x, Below w.heap.size w x ∧ App1 B v A ⟨c, s.a⟩ v' x w') := by
  have hF : Hid (Fm w [(w.heap.size, spC s, 43)] (w.alloc (.cells (spC s) 43))) := Fm.one w _ _
  have q : (c == 0) = false := by simpa using hc
  have e1 : Hid ((spC s).setIfInBounds 0 (.int .i64 c) = spC ⟨c, s.a⟩) := by show _ = _; rfl
  obtain ⟨S, hS⟩ : ∃ S : Sn, (⟨c, s.a⟩ : Sn) = S := ⟨_, rfl⟩
  rw [hS] at e1 ⊢
  clear hS hc
  go_enter Tryd.func27, Tryd.ntmps27
  go_wp2_with (first
    | ((with_reducible refine gen_world (w.alloc (.cells (spC s) 43)) (Fm w [(w.heap.size, spC s, 43)]) hF.out ?_); intro y0 K0; have d0 := (K0.out.bx 0 _ _ _ rfl).c 0 _ (spC_c s); have z0 := (K0.out.bx 0 _ _ _ rfl).fz 0)
    | ((with_reducible refine gen_world (y0.setCell ⟨w.heap.size, 0, none⟩ (.int .i64 c)) (Fm w [(w.heap.size, spC S, 43)]) ?_ ?_); exact K0.out.setCell 0 _ _ _ _ rfl 0 _ e1.out; intro y1 K1)
    | ((with_reducible refine at_load rtS w.heap.size (spC S) ?_ ?_ (.tmp 4) ?_ ?_ ?_ ?_); exact K1.out.bx 0 _ _ _ rfl; rfl; kernel_rfl; rfl; rfl)
    | ((with_reducible refine at_bsS S (.tmp 13) ?_ ?_ ?_ ?_); rfl; rfl; rfl)
    | (at_builtin; refine at_app rfl (.tmp 12) (.tmp 14) rfl B v A rfl ((hv.out.below K1.out.low).alloc _) y1.heap.size S rfl (one_bx _ _ _) ?_ ?_ ?_; omega; (have := K1.out.low.size; simp; omega); intro v' x7 H7))
  go_ret
  exact ⟨v', rfl, ⟨_, K1.out.low.alloc K1.out.low.size _, H7.out⟩⟩
theorem alike_any (w : World) (s t : Sn) : Calls Tryd.prog 28 #[.agg (spC s), .agg (spC t)] w fun e w' => e = .returned (.bool (atB s.a t.a)) ∧ Below w.heap.size w w' := by
  have hF : Hid (Fm w [(w.heap.size, spC s, 43), (w.heap.size + 1, spC t, 43)] ((w.alloc (.cells (spC s) 43)).alloc (.cells (spC t) 43))) := Fm.two w _ _ _ _
  have hE := eqS ⟨t.c, s.a⟩ t
  rw [show snB ⟨t.c, s.a⟩ t = atB s.a t.a by simp [snB]] at hE
  replace hE : Hid _ := hE
  obtain ⟨b, hb⟩ : ∃ b, atB s.a t.a = b := ⟨_, rfl⟩
  rw [hb] at hE ⊢
  obtain ⟨S0, hS0⟩ : ∃ x, (⟨t.c, s.a⟩ : Sn) = x := ⟨_, rfl⟩
  rw [hS0] at hE
  obtain ⟨c, hc⟩ : ∃ x, t.c = x := ⟨_, rfl⟩
  have e1 : Hid ((spC s).setIfInBounds 0 (.int .i64 c) = spC S0) := by show _ = _; rw [← hS0, ← hc]; rfl
  have hc : Hid (t.c = c) := hc
  clear hb hS0
  go_enter Tryd.func28, Tryd.ntmps28
  go_wp2_with (first
    | ((with_reducible refine gen_world ((w.alloc (.cells (spC s) 43)).alloc (.cells (spC t) 43)) (Fm w [(w.heap.size, spC s, 43), (w.heap.size + 1, spC t, 43)]) hF.out ?_); intro y K; have d0 := (K.out.bx 0 _ _ _ rfl).c 0 _ (spC_c s); have z0 := (K.out.bx 0 _ _ _ rfl).fz 0; have d1 := (K.out.bx 1 _ _ _ rfl).c 0 _ (spC_c t); rw [hc.out] at d1)
    | ((with_reducible refine gen_world (y.setCell ⟨w.heap.size, 0, none⟩ (.int .i64 c)) (Fm w [(w.heap.size, spC S0, 43), (w.heap.size + 1, spC t, 43)]) ?_ ?_); exact K.out.setCell 0 _ _ _ _ rfl 0 _ e1.out; intro y1 K1)
    | ((with_reducible refine at_load rtS w.heap.size (spC S0) ?_ ?_ (.tmp 2) ?_ ?_ ?_ ?_); exact K1.out.bx 0 _ _ _ rfl; rfl; kernel_rfl; rfl; rfl)
    | ((with_reducible refine at_load rtS (w.heap.size + 1) (spC t) ?_ ?_ (.tmp 3) ?_ ?_ ?_ ?_); exact K1.out.bx 1 _ _ _ rfl; rfl; kernel_rfl; rfl; rfl)
    | ((with_reducible refine at_eq hE.out (.tmp 8) (.tmp 9) 43 ?_ ?_ ?_ ?_ ?_); kernel_rfl; rfl; rfl; rfl))
  go_ret
  exact ⟨by first | rfl | simp, K1.out.low⟩
theorem emit_one (M : Nat) (hM : 0 < M) (a : At) (n : Nat) (h0 : 0 < n) (h1 : n ≤ M) : emit M a n = [⟨(n : Int), a⟩] := by
  rw [emit_step M hM a n h0, show min n M = n by omega, Nat.sub_self]
  rfl
theorem nrm_over (M : Nat) (hM : 0 < M) (b : At) : ∀ (r : List Sn) (n : Nat), M < n → nrm M (some (b, n)) r = ⟨(M : Int), b⟩ :: nrm M (some (b, n - M)) r
  | [], n, h => by
    simp only [nrm]
    rw [emit_step M hM b n (by omega), show min n M = M by omega]
  | s :: r, n, h => by
    simp only [nrm]
    split
    · rw [nrm_over M hM b r (n + s.c.toNat) (by omega), show n + s.c.toNat - M = n - M + s.c.toNat by omega]
    · rw [emit_step M hM b n (by omega), show min n M = M by omega, List.cons_append]
/-- As few spans as may be, so far. -/
def NSt (NN O r : List Sn) : Prop := (O = [] ∧ NN = nrm 1048576 none r) ∨ ∃ O' d b, O = O' ++ [⟨d, b⟩] ∧ (1 ≤ d ∧ d ≤ 1048576) ∧ NN = O' ++ nrm 1048576 (some (b, d.toNat)) r
theorem NSt.end {NN O : List Sn} (h : NSt NN O []) : NN = O := by
  rcases h with ⟨rfl, h⟩ | ⟨O', d, b, rfl, hd, h⟩
  · rw [h]; rfl
  · rw [h]
    simp only [nrm]
    rw [emit_one 1048576 (by decide) b d.toNat (by omega) (by omega), Int.toNat_of_nonneg (by omega)]
theorem nst_nil {NN r : List Sn} {c : Int} {sa : At} (hc : 1 ≤ c ∧ c ≤ 1048576) (h : NN = nrm 1048576 none (⟨c, sa⟩ :: r)) : NSt NN [⟨c, sa⟩] r := .inr ⟨[], c, sa, rfl, hc, h⟩
theorem nst_new {NN O' r : List Sn} {c d : Int} {sa b : At} (hc : 1 ≤ c ∧ c ≤ 1048576) (hd : 1 ≤ d ∧ d ≤ 1048576) (h : NN = O' ++ nrm 1048576 (some (b, d.toNat)) (⟨c, sa⟩ :: r)) (hb : atB b sa = false) : NSt NN ((O' ++ [⟨d, b⟩]) ++ [⟨c, sa⟩]) r := by
  refine .inr ⟨O' ++ [⟨d, b⟩], c, sa, rfl, hc, ?_⟩
  rw [h]
  simp only [nrm, hb]
  rw [if_neg (by simp), emit_one 1048576 (by decide) b d.toNat (by omega) (by omega), Int.toNat_of_nonneg (by omega), List.append_assoc]
theorem nst_fit {NN O' r : List Sn} {c d : Int} {sa b : At} (hc : 1 ≤ c ∧ c ≤ 1048576) (hd : 1 ≤ d ∧ d ≤ 1048576) (h : NN = O' ++ nrm 1048576 (some (b, d.toNat)) (⟨c, sa⟩ :: r)) (hb : atB b sa = true) (h1 : d + c ≤ 1048576) : NSt NN (O' ++ [⟨d + c, b⟩]) r := by
  refine .inr ⟨O', d + c, b, rfl, ⟨by omega, h1⟩, ?_⟩
  rw [h]
  simp only [nrm, hb]
  rw [if_pos trivial, show d.toNat + c.toNat = (d + c).toNat by omega]
theorem nst_over {NN O' r : List Sn} {c d : Int} {sa b : At} (hc : 1 ≤ c ∧ c ≤ 1048576) (hd : 1 ≤ d ∧ d ≤ 1048576) (h : NN = O' ++ nrm 1048576 (some (b, d.toNat)) (⟨c, sa⟩ :: r)) (hb : atB b sa = true) (h1 : ¬ d + c ≤ 1048576) : NSt NN ((O' ++ [⟨1048576, b⟩]) ++ [⟨c - (1048576 - d), sa⟩]) r := by
  have e := (atB_iff b sa).1 hb
  subst e
  refine .inr ⟨O' ++ [⟨1048576, b⟩], c - (1048576 - d), b, rfl, ⟨by omega, by omega⟩, ?_⟩
  rw [h]
  simp only [nrm, hb]
  rw [if_pos trivial, nrm_over 1048576 (by decide) b r _ (by omega), show d.toNat + c.toNat - 1048576 = (c - (1048576 - d)).toNat by omega, List.append_assoc]
  rfl
theorem rowS_setc (O' : List Sn) (d d' : Int) (b : At) : (rowS (O' ++ [⟨d, b⟩])).set (O'.length * 10) (.int .i64 d') = rowS (O' ++ [⟨d', b⟩]) := by
  rw [rowS_app, rowS_app, List.set_append_right _ _ (by rw [rowS_len]; exact Nat.le_refl _), rowS_len, Nat.sub_self]
  rfl
/-- The last span's cycles written over. -/
theorem OwnS.setc {B : Nat} {y : World} {g cap n : Nat} {O' : List Sn} {d : Int} {b : At} (h : OwnS B y (.slice (some ⟨g, 0, none⟩) n cap) (O' ++ [⟨d, b⟩])) (d' : Int) : OwnS B (y.setCell ⟨g, O'.length * 10, none⟩ (.int .i64 d')) (.slice (some ⟨g, 0, none⟩) n cap) (O' ++ [⟨d', b⟩]) := by
  unfold OwnS at h ⊢
  refine ⟨?_, ?_⟩
  · have h1 := h.1
    rw [rowS_len, List.length_append] at h1 ⊢
  · rcases h.2 with ⟨hv, _⟩ | ⟨g', cap', cur, hv, hB, hg, h1, h2, h3, h4⟩
    · cases hv
    · cases hv
      refine .inr ⟨g, cap, cur.setIfInBounds (O'.length * 10) (.int .i64 d'), by simp, hB, heap_setCell_same y g _ cur _ _ hg, by simpa using h1, h2, by simpa using h3, ?_⟩
      rw [Array.toList_setIfInBounds, List.take_set, show (O' ++ [(⟨d', b⟩ : Sn)]).length = (O' ++ [(⟨d, b⟩ : Sn)]).length by simp, h4]
      exact rowS_setc O' d d' b
theorem Ct.setc {w y : World} {g cap n : Nat} {vb : Value} {O' Bl : List Sn} {d : Int} {b : At} {bs : List (Nat × Array Value × TypeId)} (h : Ct w (.slice (some ⟨g, 0, none⟩) n cap) vb (O' ++ [⟨d, b⟩]) Bl bs y) (d' : Int) : Ct w (.slice (some ⟨g, 0, none⟩) n cap) vb (O' ++ [⟨d', b⟩]) Bl bs (y.setCell ⟨g, O'.length * 10, none⟩ (.int .i64 d')) := by
  have hge : w.heap.size ≤ g := (World.ownsRow.lt h.oa g rfl).1
  refine ⟨⟨fun i b' cs t e => ?_, h.fm.ge, h.fm.ne, h.fm.low.trans ((Below.refl _ y).setCell (p := ⟨g, O'.length * 10, none⟩) hge _)⟩, h.oa.setc d', h.ob.keepB fun q e => heap_setCell_other y ⟨g, O'.length * 10, none⟩ q _ (fun e1 => ?_), h.ap, h.na⟩
  · exact (heap_setCell_other y ⟨g, O'.length * 10, none⟩ b' _ (fun e1 => (h.na i b' cs t e).1 (by have e1 : b' = g := e1; rw [e1]; rfl))).trans (h.fm.get i b' cs t e)
  · have e1 : q = g := e1
    subst e1
    exact h.ap q rfl e
end Go.Proofs.YthpahpfnpapoiabDoor
