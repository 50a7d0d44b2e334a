/- A record put behind bytes, and how all begins: the program's. -/
import Derived.Test.YtoajmicdphffnabDoorGb
import Derived.Deep.RegionHeld3
import Derived.Deep.RegionWith
namespace Go.Proofs.YtoajmicdphffnabDoor
open Go Go.RowKit
set_option linter.unusedVariables false
set_option maxHeartbeats 2000000
set_option maxRecDepth 20000

theorem op_append {P : Program} {o : Oper} {a : Act} {K : Act → World → Prop} {Q : Exit → Act → World → Prop} {w w' : World} {v u v' : Value} (s x : Operand) (t : TypeId) (ho : o.op = .call { callee := .builtin .append, args := #[s, x], argTypes := #[t, t] }) (hs : a.eval s = v) (hx : a.eval x = u) (hr : (Builtin.append_ #[t, t] o.type #[v, u]).run P w = .ok v' w') (h : K (a.put o.dst v') w') : o.wp P a w K Q := by
  unfold Oper.wp execOp
  simp only [ho, resolve, invoke, builtin, Sem.run_bind, Sem.run_pure, Result.andThen_ok, List.map_toArray, List.map_cons, List.map_nil, hs, hx, hr]
  exact h
theorem KB.grew {w y0 y w' : World} {v v' : Value} {l bs : List UInt8} {o : Obj} {news : List Value} {m : Nat} (h : KB w v l y0) (hb : Below y0.heap.size y0 y) (hn : news = bs.map byV) (hm : bs.length = m) (ho : w'.ownsRow w.heap.size 5 1 v' (l.length + m) (l.map byV ++ news)) (hg : (y.alloc o).grownBy w' v.ownBlock) :
    KB w v' (l ++ bs) w' ∧ ∀ q, q < y0.heap.size → some q ≠ v.ownBlock → w'.heap[q]? = y0.heap[q]? := by
  subst hn
  subst hm
  have hk := h.below hb
  refine ⟨⟨by rw [List.length_append, List.map_append]; exact ho, Below.grown (hk.2.alloc hk.2.size o) hg (by have := hk.2.size; simp; omega) (fun q hq => ((hk.1.alloc o).lt q hq).1)⟩, fun q hq hne => ?_⟩
  have h1 : q < y.heap.size := Nat.lt_of_lt_of_le hq hb.size
  have h2 : (y.alloc o).heap[q]? = y.heap[q]? := (below1 y o).block q h1
  exact (hg.block q (by simp; omega) hne).trans (h2.trans (hb.block q hq))
theorem KB.weak {w y z : World} {v : Value} {l : List UInt8} (h : KB y v l z) (hb : Below w.heap.size w y) : KB w v l z := by
  refine ⟨⟨h.1.1, ?_⟩, hb.trans (h.2.mono hb.size)⟩
  rcases h.1.2 with h0 | ⟨g, cap, cur, hv, hB, hr⟩
  · exact .inl h0
  · exact .inr ⟨g, cap, cur, hv, Nat.le_trans hb.size hB, hr⟩
theorem app_any (w y0 : World) (v : Value) (l : List UInt8) (r : Rc) (next : Int) (hK : Hid (KB w v l y0)) (g : Rr r) (hm : mayR r = true) (hl : l.length ≤ 20971528) :
    Calls Tryd.prog 20 #[v, .agg (rcC r), .int .u16 next] y0 fun e y' => ∃ v', e = .returned v' ∧ Hid (KB w v' (l ++ bytesR r next) y' ∧ ∀ q, q < y0.heap.size → some q ≠ v.ownBlock → y'.heap[q]? = y0.heap[q]?) := by
  have hF : Hid (Fm y0 [(y0.heap.size, rcC r, 45)] (y0.alloc (.cells (rcC r) 45))) := Fm.one y0 _ _
  have hH := fun z => head_any z r g hm
  have hA := fun z => far_any z r next
  have hlt := headP_lt g hm
  have a0 := g.a0
  have a1 := g.a1
  have d0 := g.d0
  have d1 := g.d1
  have p0 := g.p0
  have p1 := g.p1
  have hB : Hid (KB w v l y0) := hK
  have hlen : Hid (l.length ≤ 20971528) := hl
  have hbs : Hid (bytesR r next = byN (headP r + 128 * bi (farR r next)) :: ((if farR r next then [byN r.po, byN (r.ad % 256), byN (r.ad / 256)] else []) ++ [byN r.da])) := by show _ = _; unfold bytesR headR headP; rfl
  obtain ⟨H, hH'⟩ : ∃ x, headP r = x := ⟨_, rfl⟩
  obtain ⟨ad, had⟩ : ∃ x, r.ad = x := ⟨_, rfl⟩
  obtain ⟨da, hda⟩ : ∃ x, r.da = x := ⟨_, rfl⟩
  obtain ⟨po, hpo⟩ : ∃ x, r.po = x := ⟨_, rfl⟩
  simp only [hH'] at hH
  rw [hH'] at hlt
  rw [had] at a0 a1
  rw [hda] at d0 d1
  rw [hpo] at p0 p1
  rw [hH', had, hda, hpo] at hbs
  have hlo := fun z => low_any ad z a0 a1
  have hhi := fun z => high_any ad z a0 a1
  have eN : Hid ([Value.int .u8 H, .int .u8 da] = [byN H, byN da].map byV) := by show _ = _; simp only [List.map_cons, List.map_nil]; rw [byV_N _ (by omega) (by omega), byV_N _ d0 d1]
  have eF : Hid ([Value.int .u8 (H + 128), .int .u8 po, .int .u8 (ad % 256), .int .u8 (ad / 256), .int .u8 da] = [byN (H + 128), byN po, byN (ad % 256), byN (ad / 256), byN da].map byV) := by show _ = _; simp only [List.map_cons, List.map_nil]; rw [byV_N _ (by omega) (by omega), byV_N _ p0 p1, byV_N _ (by omega) (by omega), byV_N _ (by omega) (by omega), byV_N _ d0 d1]
  have o128 : bits .or .u8 H 128 = H + 128 := or_bit H 128 (by simp) hlt.1 (by omega) (by omega)
  obtain ⟨i5, hi5, hz0, hz1, hz2⟩ := info_parts infoB
  replace had : Hid _ := had
  replace hda : Hid _ := hda
  replace hpo : Hid _ := hpo
  clear hK hl g hm hH'
  obtain ⟨f, hf⟩ : ∃ x, farR r next = x := ⟨_, rfl⟩
  simp only [hf] at hA
  rw [hf] at hbs
  clear hf
  cases f
  · replace hbs : Hid (bytesR r next = [byN H, byN da]) := by show _ = _; rw [hbs.out]; simp [bi]
    go_enter Tryd.func20, Tryd.ntmps20
    go_wp2_with (first
      | (at_builtin; refine wpList_append_own _ rfl (.tmp 14) (.tmp 18) 23 rfl w.heap.size 5 i5 (.int .u8 0) 1 1 Tryd.underlying23 hi5 hz0 hz1 hz2 rfl (by decide) v l.length (l.map byV) rfl ((hB.out.below K3.out.low).1.alloc _) ⟨y3.heap.size, 0, none⟩ 2 2 [.int .u8 H, .int .u8 da] rfl rfl (many_byt y3 _) (by simp [Value.oneCell']) ?_ ?_ ?_ ?_; (have h1 := hlen.out; unfold maxLen; omega); (have h1 := hlen.out; omega); (have := (hB.out.below K3.out.low).2.size; simp; omega); intro v6 y6 h3 h4 h5; have K6 : Hid _ := KB.grew (bs := [byN H, byN da]) hB.out K3.out.low eN.out rfl h3 h4; clear h3 h4 h5)
      | ((with_reducible refine gen_world (y0.alloc (.cells (rcC r) 45)) (Fm y0 [(y0.heap.size, rcC r, 45)]) hF.out ?_); intro y1 K1)
      | ((with_reducible refine at_load rtR y0.heap.size (rcC r) ?_ ?_ (.tmp 4) ?_ ?_ ?_ ?_); exact K2.out.bx 0 _ _ _ rfl; rfl; kernel_rfl; rfl; rfl)
      | ((with_reducible refine at_load rtR y0.heap.size (rcC r) ?_ ?_ (.tmp 4) ?_ ?_ ?_ ?_); exact K1.out.bx 0 _ _ _ rfl; rfl; kernel_rfl; rfl; rfl)
      | (go_at_call 50; refine (hH y1).mono ?_; rintro e y2 ⟨rfl, hb2⟩; have K2 : Hid (Fm y0 [(y0.heap.size, rcC r, 45)] y2) := K1.out.below hb2; clear hb2)
      | (go_at_call 51; refine (hA y2).mono ?_; rintro e y3 ⟨rfl, hb3⟩; have K3 : Hid (Fm y0 [(y0.heap.size, rcC r, 45)] y3) := K2.out.below hb3; clear hb3; have e2 := (K3.out.bx 0 _ _ _ rfl).c 2 _ (rcC_da r); rw [hda.out] at e2))
    go_ret
    refine ⟨_, rfl, ?_⟩
    rw [hbs.out]
    exact K6
  · replace hbs : Hid (bytesR r next = [byN (H + 128), byN po, byN (ad % 256), byN (ad / 256), byN da]) := by show _ = _; rw [hbs.out]; simp [bi]
    go_enter Tryd.func20, Tryd.ntmps20
    go_wp2_with (first
      | ((with_reducible refine gen_world (y0.alloc (.cells (rcC r) 45)) (Fm y0 [(y0.heap.size, rcC r, 45)]) hF.out ?_); intro y1 K1)
      | ((with_reducible refine at_load rtR y0.heap.size (rcC r) ?_ ?_ (.tmp 4) ?_ ?_ ?_ ?_); exact K2.out.bx 0 _ _ _ rfl; rfl; kernel_rfl; rfl; rfl)
      | ((with_reducible refine at_load rtR y0.heap.size (rcC r) ?_ ?_ (.tmp 4) ?_ ?_ ?_ ?_); exact K1.out.bx 0 _ _ _ rfl; rfl; kernel_rfl; rfl; rfl)
      | (go_at_call 50; refine (hH y1).mono ?_; rintro e y2 ⟨rfl, hb2⟩; have K2 : Hid (Fm y0 [(y0.heap.size, rcC r, 45)] y2) := K1.out.below hb2; clear hb2)
      | (go_at_call 51; refine (hA y2).mono ?_; rintro e y3 ⟨rfl, hb3⟩; have K3 : Hid (Fm y0 [(y0.heap.size, rcC r, 45)] y3) := K2.out.below hb3; clear hb3))
    have hx : Hid (Bx y3 y0.heap.size (rcC r) 45) := K3.out.bx 0 _ _ _ rfl
    have KK : Hid (Below y0.heap.size y0 y3.drew) := below_drew K3.out.low
    refine wp_region_held_drew (S := fun z => Bx z y0.heap.size (rcC r) 45) (by kernel_rfl) hx.out (fun hH => ?_)
    generalize y3.drew = z0 at hH KK ⊢
    have hKB : Hid (KB w v l z0) := hB.out.below KK.out
    obtain ⟨v6, y6, hrun, h3, h4, h5⟩ := run_append_own (P := Tryd.prog) (z0.alloc (.cells #[.int .u8 (H + 128), .int .u8 po, .int .u8 (ad % 256), .int .u8 (ad / 256), .int .u8 da] 5)) w.heap.size 23 23 5 i5 (.int .u8 0) 1 1 Tryd.underlying23 hi5 hz0 hz1 hz2 rfl (by decide) v l.length (l.map byV) (hKB.out.1.alloc _) ⟨z0.heap.size, 0, none⟩ 5 5 [.int .u8 (H + 128), .int .u8 po, .int .u8 (ad % 256), .int .u8 (ad / 256), .int .u8 da] rfl (many_byt z0 _) (by simp [Value.oneCell']) (by have h1 := hlen.out; unfold maxLen; omega) (by have h1 := hlen.out; omega) (by have := hKB.out.2.size; simp; omega)
    have K6 : Hid _ := KB.grew (bs := [byN (H + 128), byN po, byN (ad % 256), byN (ad / 256), byN da]) hB.out KK.out eF.out rfl h3 h4
    have hx6 : Hid (Bx y6 y0.heap.size (rcC r) 45) := (h4.block _ (by have := heap_lt hH; simp; omega) (hKB.out.apart hH)).trans (((below1 z0 _).block _ (heap_lt hH)).trans hH)
    clear h3 h4 h5
    refine wpAnyH_take (i := 0) (v := v) rfl (by kernel_rfl) (by kernel_rfl) (by kernel_rfl) (fun _ _ _ h => h) (.inl ⟨by kernel_rfl, fun u hu => by go_simp⟩) hH ?_
    try simp only [Act.put, List.setIfInBounds_toArray]
    refine wpAnyH_take (i := 1) (v := .int .u8 H) rfl (by kernel_rfl) (by kernel_rfl) (by kernel_rfl) (fun _ _ _ h => h) (.inl ⟨by kernel_rfl, fun u hu => by go_simp⟩) hH ?_
    try simp only [Act.put]
    refine wpAnyH_take (i := 2) (v := .int .u8 (H + 128)) rfl (by kernel_rfl) (by kernel_rfl) (by kernel_rfl) (fun _ _ _ h => h) (.inl ⟨by kernel_rfl, fun u hu => by go_simp⟩) hH ?_
    try simp only [Act.put]
    refine wpAnyH_take (i := 3) (v := .pointer (some ⟨y0.heap.size, 5, none⟩)) rfl (by kernel_rfl) (by kernel_rfl) (by kernel_rfl) (fun _ _ _ h => h) (.inl ⟨by kernel_rfl, fun u hu => by go_simp⟩) hH ?_
    try simp only [Act.put]
    refine wpAnyH_take (i := 4) (v := .int .u8 po) rfl (by kernel_rfl) (by kernel_rfl) (by kernel_rfl) (fun _ _ _ h => h) (.inl ⟨by kernel_rfl, fun u hu => by have c := hu.c 5 _ (rcC_po r); rw [hpo.out] at c; go_simp⟩) hH ?_
    try simp only [Act.put]
    refine wpAnyH_take (i := 5) (v := .pointer (some ⟨y0.heap.size, 1, none⟩)) rfl (by kernel_rfl) (by kernel_rfl) (by kernel_rfl) (fun _ _ _ h => h) (.inl ⟨by kernel_rfl, fun u hu => by go_simp⟩) hH ?_
    try simp only [Act.put]
    refine wpAnyH_take (i := 6) (v := .int .u16 ad) rfl (by kernel_rfl) (by kernel_rfl) (by kernel_rfl) (fun _ _ _ h => h) (.inl ⟨by kernel_rfl, fun u hu => by have c := hu.c 1 _ (rcC_ad r); rw [had.out] at c; go_simp⟩) hH ?_
    try simp only [Act.put]
    refine wpAnyH_take (i := 8) (v := .pointer (some ⟨y0.heap.size, 1, none⟩)) rfl (by kernel_rfl) (by kernel_rfl) (by kernel_rfl) (fun _ _ _ h => h) (.inl ⟨by kernel_rfl, fun u hu => by go_simp⟩) hH ?_
    try simp only [Act.put]
    refine wpAnyH_take (i := 9) (v := .int .u16 ad) rfl (by kernel_rfl) (by kernel_rfl) (by kernel_rfl) (fun _ _ _ h => h) (.inl ⟨by kernel_rfl, fun u hu => by have c := hu.c 1 _ (rcC_ad r); rw [had.out] at c; go_simp⟩) hH ?_
    try simp only [Act.put]
    refine wpAnyH_take (i := 11) (v := .pointer (some ⟨y0.heap.size, 2, none⟩)) rfl (by kernel_rfl) (by kernel_rfl) (by kernel_rfl) (fun _ _ _ h => h) (.inl ⟨by kernel_rfl, fun u hu => by go_simp⟩) hH ?_
    try simp only [Act.put]
    refine wpAnyH_take (i := 12) (v := .int .u8 da) rfl (by kernel_rfl) (by kernel_rfl) (by kernel_rfl) (fun _ _ _ h => h) (.inl ⟨by kernel_rfl, fun u hu => by have c := hu.c 2 _ (rcC_da r); rw [hda.out] at c; go_simp⟩) hH ?_
    try simp only [Act.put]
    refine wpAnyH_ready (rs := [7]) (by kernel_rfl) (by simp) (AllReadyH.cons rfl (fun K hK => ?_) AllReadyH.nil)
    · skip
      rw [if_pos (by rfl)]
      go_wp2_with (go_at_call 52; refine (hlo z0).mono ?_; rintro e u ⟨rfl, hu⟩; replace hu := hu.symm; subst hu)
      refine hK.out _ _ hH (fun hH => ?_)
      clear hK K
      try simp only [Act.put, List.setIfInBounds_toArray, List.set_cons_zero, List.set_cons_succ]
      refine wpAnyH_ready (rs := [10]) (by kernel_rfl) (by simp) (AllReadyH.cons rfl (fun K hK => ?_) AllReadyH.nil)
      rw [if_pos (by rfl)]
      go_wp2_with (go_at_call 53; refine (hhi z0).mono ?_; rintro e u ⟨rfl, hu⟩; replace hu := hu.symm; subst hu)
      refine hK.out _ _ hH (fun hH => ?_)
      clear hK K
      try simp only [Act.put, List.setIfInBounds_toArray, List.set_cons_zero, List.set_cons_succ]
      refine wpAnyH_ready (rs := [13]) (by kernel_rfl) (by simp) (AllReadyH.cons rfl (fun K hK => ?_) AllReadyH.nil)
      rw [if_pos (by rfl)]
      go_wp2
      refine hK.out _ _ ((below1 z0 _).block _ (heap_lt hH) |>.trans hH) (fun hH => ?_)
      clear hK K
      try simp only [Act.put, List.setIfInBounds_toArray, List.set_cons_zero, List.set_cons_succ]
      refine wpAnyH_ready (rs := [14]) (by kernel_rfl) (by simp) (AllReadyH.cons rfl (fun K hK => ?_) AllReadyH.nil)
      rw [if_pos (by rfl)]
      refine op_append (v := v) (u := .slice (some ⟨z0.heap.size, 0, none⟩) 5 5) (.tmp 20) (.tmp 33) 23 rfl rfl rfl hrun ?_
      refine hK.out _ _ hx6.out (fun hH => ?_)
      clear hK K
      try simp only [Act.put, List.setIfInBounds_toArray]
      refine wpAnyH_ready (rs := [15]) (by kernel_rfl) (by simp) (AllReadyH.cons rfl (fun K hK => ?_) AllReadyH.nil)
      rw [if_pos (by rfl)]
      go_wp2
      refine hK.out _ _ hx6.out (fun hH => ?_)
      clear hK K
      try simp only [Act.put, List.setIfInBounds_toArray, List.set_cons_zero, List.set_cons_succ]
      refine wpAnyH_done (by kernel_rfl) ?_ _
      go_wp2
      go_ret
      refine ⟨_, rfl, ?_⟩
      rw [hbs.out]
      exact K6
theorem open_any (y : World) (n : Nat) (hn : n ≤ 4194304) : Calls Tryd.prog 19 #[.int .i64 (n : Int)] y fun e y' => ∃ v, e = .returned v ∧ Hid (KB y v (begP n) y') := by
  obtain ⟨i5, hi5, hz0, hz1, hz2⟩ := info_parts infoB
  obtain ⟨c, hc⟩ : ∃ c : Nat, 8 + 2 * (n : Int) = (c : Int) := ⟨8 + 2 * n, by push_cast; rfl⟩
  have hc8 : c ≤ 8388616 := by omega
  obtain ⟨y1, hmake, hown, hgrow⟩ := run_make_own (P := Tryd.prog) y y.heap.size 23 5 i5 (.int .u8 0) 1 Tryd.underlying23 hi5 hz0 hz1 .i64 .i64 c (by rw [hz2]; omega) (by unfold maxLen; omega) (Nat.le_refl _)
  have ni : (n : Int) ≤ 4194304 := by omega
  have K1 : Hid (KB y (.slice (some ⟨y.heap.size, 0, none⟩) 0 c) [] y1) := ⟨hown, ⟨hgrow.os, hgrow.tape, hgrow.output, hgrow.size, fun k hk => hgrow.block k hk (by simp)⟩⟩
  have eB : Hid ([Value.int .u8 ((n : Int) % 256), .int .u8 ((n : Int) / 256 % 256), .int .u8 ((n : Int) / 65536), .int .u8 ((n : Int) / 16777216)] = [byN (n % 256), byN (n / 256 % 256), byN (n / 65536 % 256), byN (n / 16777216)].map byV) := by
    show _ = _
    simp only [List.map_cons, List.map_nil]
    rw [byV_N _ (by omega) (by omega), byV_N _ (by omega) (by omega), byV_N _ (by omega) (by omega), byV_N _ (by omega) (by omega)]
    rw [show (n : Int) / 65536 % 256 = (n : Int) / 65536 by omega]
  have eS : Hid (Lib.strCells ⟨#[86, 84, 82, 49]⟩ = [86, 84, 82, 49].map byV) := by show _ = _; rfl
  clear hn hown hgrow
  go_enter Tryd.func19, Tryd.ntmps19
  go_wp2_with (first
    | (at_builtin; refine Lib.wpList_append_own_string _ rfl (.tmp 8) (.const (.string ⟨#[86, 84, 82, 49]⟩)) 23 9 rfl y.heap.size 5 i5 Tryd.underlying23 Tryd.underlying9 hi5 hz0 hz1 hz2 (.slice (some ⟨y.heap.size, 0, none⟩) 0 c) 0 [] rfl K1.out.1 ⟨#[86, 84, 82, 49]⟩ rfl (by decide) (by decide) K1.out.2.size ?_; intro v2 y2 h3 h4 h5; have K2 : Hid (KB y v2 [86, 84, 82, 49] y2) := ⟨by rw [eS.out] at h3; exact h3, Below.grown K1.out.2 h4 K1.out.2.size (fun q hq => (K1.out.1.lt q hq).1)⟩; clear h3 h4 h5)
    | (at_builtin; refine wpList_append_own _ rfl (.tmp 10) (.tmp 22) 23 rfl y.heap.size 5 i5 (.int .u8 0) 1 1 Tryd.underlying23 hi5 hz0 hz1 hz2 rfl (by decide) v2 4 ([86, 84, 82, 49].map byV) rfl (K2.out.1.alloc _) ⟨y2.heap.size, 0, none⟩ 4 4 [Value.int .u8 ((n : Int) % 256), .int .u8 ((n : Int) / 256 % 256), .int .u8 ((n : Int) / 65536), .int .u8 ((n : Int) / 16777216)] rfl rfl (many_byt y2 _) (by simp [Value.oneCell']) (by decide) (by decide) ?_ ?_; (have := K2.out.2.size; simp; omega); intro v6 y6 h3 h4 h5; have K6 : Hid _ := KB.grew (bs := [byN (n % 256), byN (n / 256 % 256), byN (n / 65536 % 256), byN (n / 16777216)]) K2.out (Below.refl _ _) eB.out rfl h3 h4; clear h3 h4 h5))
  go_ret -- OPEN
  exact ⟨_, rfl, K6.out.1⟩
end Go.Proofs.YtoajmicdphffnabDoor
