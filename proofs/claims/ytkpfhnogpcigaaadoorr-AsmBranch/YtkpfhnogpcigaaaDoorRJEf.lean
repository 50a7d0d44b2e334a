/- The marks of all blocks: the program's look; the document's look at blocks. -/
import Derived.Test.YtkpfhnogpcigaaaDoorRJEd
namespace Go.Proofs.YtkpfhnogpcigaaaDoorR
open Go Go.RowKit
set_option linter.unusedVariables false
set_option maxHeartbeats 3000000
set_option maxRecDepth 20000

theorem LiesL.dropM {w : World} {g o : Nat} {l : List Mk} (h : LiesL 3 cM w (some ⟨g, o, none⟩) l) (k : Nat) (sp : Option Addr) (hs : k < l.length → sp = some ⟨g, o + k * 3, none⟩) : LiesL 3 cM w sp (l.drop k) := fun j b hj => by
  rw [List.getElem?_drop] at hj
  have hl := (List.getElem?_eq_some_iff.1 hj).1
  obtain ⟨g', o', e, hc⟩ := h (k + j) b hj
  cases e
  refine ⟨g, o + k * 3, hs (by omega), ?_⟩
  rw [show o + k * 3 + j * 3 = o + (k + j) * 3 by omega]
  exact hc
theorem mof_le : ∀ (ms : List Mk) (a : Int) (l : List UInt8) (p : Option Bool) (k : Nat), mof a l p ms = some k → k ≤ ms.length := by
  intro ms
  induction ms with
  | nil =>
    intro a l p k h
    rcases l with _ | ⟨x, r⟩
    · rw [mof_nil] at h; cases h; exact Nat.le_refl _
    · cases h
  | cons m r ih =>
    intro a l p k h
    rcases l with _ | ⟨x, t⟩
    · rw [mof_nil] at h; cases h; exact Nat.zero_le _
    · rw [mof_cons _ _ _ _ _ (by simp)] at h
      split at h
      · cases h
      · rcases e : mof (a + m.n) ((x :: t).drop m.n.toNat) (some m.c) r with _ | q
        · rw [e] at h; cases h
        · rw [e] at h
          cases h
          have := ih _ _ _ _ e
          simp
          omega
abbrev plB (B : List Bb) : List (Int × List UInt8) := B.map fun x => (x.1.a, x.2)
theorem marks_any (w : World) (T : Hid (Tabs w)) (bp : Option Addr) (bc : Nat) (B : List Bb) (mp : Option Addr) (mc : Nat) (ms : List Mk) (hb : Hid (LiesL 2 cK w bp (B.map (·.1)))) (hg : Hid (∀ x ∈ B, LB8 w x.1.sp x.2 ∧ x.2.length = x.1.m ∧ x.1.m ≤ x.1.cap ∧ 0 ≤ x.1.a ∧ x.1.a ≤ 65536 ∧ 1 ≤ x.1.m ∧ x.1.m ≤ 65536)) (hm : Hid (LiesL 3 cM w mp ms)) (him : Hid (∀ m ∈ ms, inI m.a ∧ inI m.n)) (hmc : ms.length ≤ mc) (hn : B.length ≤ 2147483647) (hnm : ms.length ≤ 2147483647) :
    Calls Tryd.prog 28 #[.slice bp B.length bc, .slice mp ms.length mc] w fun e w' => e = .returned (.bool (mrk (plB B) ms)) ∧ Hid (Below w.heap.size w w') := by
  obtain ⟨R, hR⟩ : ∃ R, mrk (plB B) ms = R := ⟨_, rfl⟩
  have H0 : Hid (mrk (plB B) ms = R ∧ ms.length ≤ mc ∧ ms.length ≤ 2147483647) := ⟨hR, hmc, hnm⟩
  obtain ⟨n, hn'⟩ : ∃ n, B.length = n := ⟨_, rfl⟩
  have hnn : Hid (B.length = n) := hn'
  rw [hR]
  rw [hn'] at hn ⊢
  have ni : (n : Int) ≤ 2147483647 := by omega
  have hMo : Hid (∀ v (x : Bb) (p : Option Addr) (c : Nat) (l : List Mk), x ∈ B → Below w.heap.size w v → LiesL 3 cM v p l → (∀ m ∈ l, inI m.a ∧ inI m.n) → l.length ≤ 2147483647 → Calls Tryd.prog 41 #[.agg (k2 x.1), .slice p l.length c] v fun e w' => ∃ N : Int, e = .returned (.tuple #[.int .i64 N, .bool (mof x.1.a x.2 none l).isSome]) ∧ Hid (Below v.heap.size v w' ∧ ∀ k, mof x.1.a x.2 none l = some k → N = (k : Int))) := fun v x p c l hx hv h1 h2 h3 => by
    obtain ⟨a1, a2, a3, a4, a5, a6, a7⟩ := hg.out x hx
    exact marksOf_any v (T.out.below hv) x.1 x.2 p c l ⟨a1.below hv, a2, a3⟩ ⟨a4, a5⟩ a7 h1 h2 h3
  have hg6 : Hid (∀ x ∈ B, x.2 ≠ []) := fun x hx e => by
    obtain ⟨a1, a2, a3, a4, a5, a6, a7⟩ := hg.out x hx
    rw [e] at a2
    simp at a2
    omega
  clear hn hn' hR hmc hnm hg
  go_enter Tryd.func28, Tryd.ntmps28
  go_wp2
  go_loopw [1, 11] (fun b t wz => ∃ (i : Nat) (p : Option Addr) (c : Nat) (l : List Mk) (y : World), y = wz ∧ b = .slice p l.length c ∧ t = .int .i64 (i : Int) ∧ Hid (i ≤ n ∧ mrk ((plB B).drop i) l = R ∧ l.length ≤ c ∧ l.length ≤ 2147483647 ∧ ∀ m ∈ l, inI m.a ∧ inI m.n) ∧ Hid (Below w.heap.size w y ∧ LiesL 3 cM y p l)) (fun _ t _ => (n - intOf t).toNat)
  case atStart => exact ⟨0, mp, mc, ms, w, rfl, rfl, rfl, ⟨Nat.zero_le _, H0.out.1, H0.out.2.1, H0.out.2.2, him.out⟩, Below.refl _ _, hm.out⟩
  case round =>
    obtain ⟨i, p, c, l, y, rfl, rfl, rfl, J, K⟩ := hrel
    obtain ⟨ln, hln⟩ : ∃ q, l.length = q := ⟨_, rfl⟩
    have hlnn : Hid (l.length = ln) := hln
    have lni : (ln : Int) ≤ 2147483647 := by have := J.out; omega
    by_cases hlt : i < n
    · obtain ⟨x, hx⟩ : ∃ x, B[i]? = some x := ⟨_, List.getElem?_eq_getElem (by rw [hnn.out]; exact hlt)⟩
      have hxm := List.mem_of_getElem? hx
      obtain ⟨g, o, rfl, hc⟩ := hb.out i x.1 (by rw [List.getElem?_map, hx]; rfl)
      have hc' : Hid (y.rangeAt g (o + i * 2) (k2 x.1).toList) := range_keep hc K.out.1
      have hd : (plB B).drop i = (x.1.a, x.2) :: (plB B).drop (i + 1) := by
        have h : (plB B)[i]? = some (x.1.a, x.2) := by rw [List.getElem?_map, hx]; rfl
        obtain ⟨h1, e⟩ := List.getElem?_eq_some_iff.1 h
        rw [List.drop_eq_getElem_cons h1, e]
      have hO : Hid (R = match mof x.1.a x.2 none l with | none => false | some k => mrk ((plB B).drop (i + 1)) (l.drop k)) := by
        have h1 := J.out.2.1
        rw [hd] at h1
        exact h1.symm
      have ij := fun w => idxP (P := Tryd.prog) (g := g) (off := o) (len := n) (cap := bc) Tryd.underlying22 (s := 2) (by kernel_rfl) .i64 i w hlt
      have hii : (i : Int) < n := by omega
      have hlt' : Hid (i < n) := hlt
      have hcall := fun v hv => hMo.out v x p c l hxm hv
      have hne := hg6.out x hxm
      obtain ⟨xb, hxb⟩ : ∃ b, x.1 = b := ⟨_, rfl⟩
      obtain ⟨o2, ho2⟩ : ∃ q, mof x.1.a x.2 none l = q := ⟨_, rfl⟩
      rw [ho2] at hO
      have hle : ∀ k, o2 = some k → k ≤ ln ∧ 1 ≤ k := fun k e => by
        rw [e] at ho2
        refine ⟨by rw [← hln]; exact mof_le _ _ _ _ _ ho2, ?_⟩
        rcases k with _ | k
        · exfalso
          rcases hl0 : l with _ | ⟨m, r⟩
          · rw [hl0, mof_none _ _ _ hne] at ho2; cases ho2
          · rw [hl0, mof_cons _ _ _ _ _ hne] at ho2
            split at ho2
            · cases ho2
            · rcases e9 : mof (x.1.a + m.n) (x.2.drop m.n.toNat) (some m.c) r with _ | q
              · rw [e9] at ho2; cases ho2
              · rw [e9] at ho2; simp at ho2
        · omega
      rw [ho2] at hcall
      have hcall' : Hid (∀ v, Below y.heap.size y v → Calls Tryd.prog 41 #[.agg (k2 xb), .slice p ln c] v fun e w' => ∃ N : Int, e = .returned (.tuple #[.int .i64 N, .bool o2.isSome]) ∧ Hid (Below v.heap.size v w' ∧ ∀ k, o2 = some k → N = (k : Int))) := fun v hv => by
        have h9 := hcall v (of_below K.out.1 hv) (K.out.2.below hv) J.out.2.2.2.2 J.out.2.2.2.1
        rw [hln, hxb] at h9
        exact h9
      rw [hxb] at hc'
      rw [hln]
      clear hlt hx hc hd ho2 hcall hxb
      rcases o2 with _ | k
      · have fin : Hid (R = false) := hO.out
        go_wp2_with (first
          | ((with_reducible refine at_loadm rtK g (o + i * 2) (k2 xb) ?_ ?_ (.tmp 13) ?_ ?_ ?_ ?_); exact hc'.out; rfl; kernel_rfl; rfl; rfl)
          | ((with_reducible refine gen_world (y.alloc (.cells #[.int .i64 0, .slice none 0 0] 42)) (Fm y [(y.heap.size, k2 zK, 42)]) ?_ ?_); exact Fm.one y _ _; intro y1 K1)
          | ((with_reducible refine at_st rtK y.heap.size (k2 zK) (k2 xb) ?_ ?_ ?_ ?_ (.tmp 6) (.tmp 14) ?_ ?_ ?_ ?_ ?_); exact K1.out.bx 0 _ _ _ rfl; rfl; rfl; exact oneK _; rfl; rfl; rfl; rfl; intro y2 hw2; have K2 : Hid (Fm y [(y.heap.size, k2 xb, 42)] y2) := K1.out.put 0 _ _ _ _ rfl hw2.out; clear hw2)
          | ((with_reducible refine at_load rtK y.heap.size (k2 xb) ?_ ?_ (.tmp 6) ?_ ?_ ?_ ?_); exact K2.out.bx 0 _ _ _ rfl; rfl; rfl; rfl; rfl)
          | (go_at_call 41; refine (hcall'.out y2 K2.out.low).mono ?_; rintro e y3 ⟨N, rfl, H3⟩; have K3 : Hid (Below w.heap.size w y3) := of_below (of_below K.out.1 K2.out.low) H3.out.1; clear H3))
        go_ret
        rw [fin.out]
        exact ⟨rfl, K3⟩
      · obtain ⟨hk1, hk2⟩ := hle k rfl
        obtain ⟨m0, hm0⟩ : ∃ m, l[0]? = some m := ⟨_, List.getElem?_eq_getElem (by omega)⟩
        obtain ⟨g2, o2, rfl, _⟩ := K.out.2 0 m0 hm0
        obtain ⟨sp1, hsl, hs1⟩ := slM g2 o2 ln c k hk1 (by have := J.out; omega)
        have J2 : Hid (∀ u, Below y.heap.size y u → mrk ((plB B).drop (i + 1)) (l.drop k) = R ∧ (l.drop k).length = ln - k ∧ (l.drop k).length ≤ c - k ∧ (l.drop k).length ≤ 2147483647 ∧ (∀ m ∈ l.drop k, inI m.a ∧ inI m.n) ∧ LiesL 3 cM u sp1 (l.drop k)) := fun u hu => by
          have hd2 : (l.drop k).length = ln - k := by rw [List.length_drop, hln]
          have := J.out
          exact ⟨hO.out.symm, hd2, by omega, by omega, fun m hm => J.out.2.2.2.2 m (List.mem_of_mem_drop hm), (K.out.2.below hu).dropM k sp1 (fun h => hs1 (by omega))⟩
        clear hm0 hk1 hk2 hs1 hle
        go_wp2_with (first
          | ((with_reducible refine at_loadm rtK g (o + i * 2) (k2 xb) ?_ ?_ (.tmp 13) ?_ ?_ ?_ ?_); exact hc'.out; rfl; kernel_rfl; rfl; rfl)
          | ((with_reducible refine gen_world (y.alloc (.cells #[.int .i64 0, .slice none 0 0] 42)) (Fm y [(y.heap.size, k2 zK, 42)]) ?_ ?_); exact Fm.one y _ _; intro y1 K1)
          | ((with_reducible refine at_st rtK y.heap.size (k2 zK) (k2 xb) ?_ ?_ ?_ ?_ (.tmp 6) (.tmp 14) ?_ ?_ ?_ ?_ ?_); exact K1.out.bx 0 _ _ _ rfl; rfl; rfl; exact oneK _; rfl; rfl; rfl; rfl; intro y2 hw2; have K2 : Hid (Fm y [(y.heap.size, k2 xb, 42)] y2) := K1.out.put 0 _ _ _ _ rfl hw2.out; clear hw2)
          | ((with_reducible refine at_load rtK y.heap.size (k2 xb) ?_ ?_ (.tmp 6) ?_ ?_ ?_ ?_); exact K2.out.bx 0 _ _ _ rfl; rfl; rfl; rfl; rfl)
          | (go_at_call 41; refine (hcall'.out y2 K2.out.low).mono ?_; rintro e y3 ⟨N, rfl, H3⟩; have K3 : Hid (Below y.heap.size y y3) := of_below K2.out.low H3.out.1; have eN := H3.out.2 k rfl; subst eN; clear H3)
          | ((with_reducible refine at_sl 23 (.tmp 23) (.tmp 24) (.slice (some ⟨g2, o2, none⟩) ln c) (.int .i64 (k : Int)) (.slice sp1 (ln - k) (c - k)) ?_ ?_ ?_ ?_ hsl ?_); kernel_rfl; rfl; rfl; rfl))
        go_roundw
        case rel =>
          obtain ⟨a1, a2, a3, a4, a5, a6⟩ := J2.out y3 K3.out
          exact ⟨i + 1, sp1, c - k, l.drop k, y3, rfl, by rw [a2], by simp, ⟨hlt'.out, a1, a3, a4, a5⟩, of_below K.out.1 K3.out, a6⟩
        case measure => have := hlt'.out; simp [intOf]; omega
    · have hie : i = n := by have := J.out.1; omega
      subst hie
      have fin : Hid (R = l.isEmpty) := by
        have h1 := J.out.2.1
        rw [List.drop_eq_nil_of_le (by rw [List.length_map, hnn.out]; exact Nat.le_refl _)] at h1
        exact h1.symm
      rw [hln]
      have hq : Hid (((ln : Int) == 0) = l.isEmpty) := by
        show _ = _
        rcases l with _ | ⟨m, r⟩
        · simp at hln
          subst hln
          rfl
        · simp at hln
          have h0 : ((ln : Int) == 0) = false := by rw [beq_eq_false_iff_ne]; omega
          rw [h0]
          rfl
      clear hlt hln
      go_wp2
      go_ret
      rw [fin.out, ← hq.out]
      exact ⟨by first | rfl | simp, K.out.1⟩
end Go.Proofs.YtkpfhnogpcigaaaDoorR
/- The document's look at blocks. -/
namespace Go.Proofs.YtkpfhnogpcigaaaDoorR
open Go Go.RowKit
set_option linter.unusedVariables false
set_option maxHeartbeats 3000000
set_option maxRecDepth 20000

theorem rblocks_any (w : World) (ob : Oo) (h : Hid (Lo w ob)) :
    Calls Tryd.prog 31 #[.agg (oC ob)] w fun e w' => e = .returned (.bool (blkOk 0 (ob.B.map (·.1)))) ∧ Hid (Below w.heap.size w w') := by
  obtain ⟨l, hl⟩ : ∃ l, ob.B.map (fun x : Bb => x.1) = l := ⟨_, rfl⟩
  have hL : Hid (LiesL 2 cK w ob.bp l ∧ (∀ b ∈ l, inI b.a ∧ b.m ≤ 2147483647) ∧ l.length ≤ 2147483647 ∧ l.length = ob.B.length) := by
    rw [← hl]
    refine ⟨h.out.b, fun b hb => ?_, by rw [List.length_map]; exact h.out.n.1, List.length_map ..⟩
    obtain ⟨x, hx, rfl⟩ := List.mem_map.1 hb
    exact h.out.ib x hx
  obtain ⟨R, hR⟩ : ∃ R, blkOk 0 l = R := ⟨_, rfl⟩
  have hR' : Hid (blkOk 0 l = R) := hR
  have K0 : Hid (Fm w [(w.heap.size, oC ob, 26)] (w.alloc (.cells (oC ob) 26))) := Fm.one w _ _
  obtain ⟨n, hn'⟩ : ∃ n, ob.B.length = n := ⟨_, rfl⟩
  have hnn : Hid (l.length = n ∧ ob.B.length = n) := ⟨by have := hL.out; omega, hn'⟩
  have ni : (n : Int) ≤ 2147483647 := by have := hL.out; omega
  obtain ⟨sp, hsp⟩ : ∃ q, ob.bp = q := ⟨_, rfl⟩
  obtain ⟨cap, hcap⟩ : ∃ q, ob.bc = q := ⟨_, rfl⟩
  have hd0 : Hid (∀ y, Fm w [(w.heap.size, oC ob, 26)] y → y.cell? ⟨w.heap.size, 0, none⟩ = some (.slice sp n cap)) := fun y hy => by
    have := (hy.bx 0 _ _ _ rfl).c 0 (.slice ob.bp ob.B.length ob.bc) rfl
    rw [hsp, hcap, hn'] at this
    exact this
  rw [hl, hR]
  rw [hsp] at hL
  clear hl hR hn' hsp hcap
  go_enter Tryd.func31, Tryd.ntmps31
  go_wp2
  go_loopw [3, 4] (fun p t wz => ∃ (i : Nat) (P : Int) (y : World), y = wz ∧ p = .int .i64 P ∧ t = .int .i64 (i : Int) ∧ Hid (i ≤ n ∧ blkOk (P + 1) (l.drop i) = R ∧ -1 ≤ P ∧ P ≤ 65536) ∧ Hid (Fm w [(w.heap.size, oC ob, 26)] y)) (fun _ t _ => (n - intOf t).toNat)
  case atStart => exact ⟨0, -1, _, rfl, rfl, rfl, ⟨Nat.zero_le _, hR'.out, by decide, by decide⟩, K0⟩
  case round =>
    obtain ⟨i, P, y, rfl, rfl, rfl, J, K⟩ := hrel
    have c0 := hd0.out y K.out
    by_cases hlt : i < n
    · obtain ⟨b, hb⟩ : ∃ b, l[i]? = some b := ⟨_, List.getElem?_eq_getElem (by rw [hnn.out.1]; exact hlt)⟩
      obtain ⟨g, o, rfl, hc⟩ := hL.out.1 i b hb
      have hc' : Hid (y.rangeAt g (o + i * 2) (k2 b).toList) := range_keep hc K.out.low
      obtain ⟨hia, hib⟩ := hL.out.2.1 b (List.mem_of_getElem? hb)
      have hd : Hid (l.drop i = b :: l.drop (i + 1)) := by
        show _ = _
        obtain ⟨h, e⟩ := List.getElem?_eq_some_iff.1 hb
        rw [List.drop_eq_getElem_cons h, e]
      have hO : Hid (blkOk (P + 1) (l.drop i) = (decide (P + 1 ≤ b.a ∧ 1 ≤ (b.m : Int) ∧ (b.m : Int) ≤ 65536 - b.a) && blkOk (b.a + b.m + 1) (l.drop (i + 1)))) := by show _ = _; rw [hd.out]; rfl
      have ij := fun w => idxP (P := Tryd.prog) (g := g) (off := o) (len := n) (cap := cap) Tryd.underlying22 (s := 2) (by kernel_rfl) .i64 i w hlt
      have hii : (i : Int) < n := by omega
      have hlt' : Hid (i < n) := hlt
      have p0 := J.out.2.2.1
      have p1 := J.out.2.2.2
      have mi : (b.m : Int) ≤ 2147483647 := by omega
      have a0 := hia.1
      have a1 := hia.2
      by_cases c : P + 1 ≤ b.a ∧ 1 ≤ (b.m : Int) ∧ (b.m : Int) ≤ 65536 - b.a
      · obtain ⟨c1, c2, c3⟩ := c
        have hJ : Hid (blkOk (b.a + b.m + 1) (l.drop (i + 1)) = R) := by
          have h1 := hO.out
          rw [J.out.2.1, decide_eq_true ⟨c1, c2, c3⟩, Bool.true_and] at h1
          exact h1.symm
        have q1 : ¬ b.a ≤ P := by omega
        have q2 : ((b.m : Int) == 0) = false := by rw [beq_eq_false_iff_ne]; omega
        have q3 : ¬ 65536 < (b.m : Int) := by omega
        have q4 : ¬ 65536 - (b.m : Int) < b.a := by omega
        clear hlt hb hc hia hib hd hO
        go_wp2_with (first
          | ((with_reducible refine at_loadm rtK g (o + i * 2) (k2 b) ?_ ?_ (.tmp 16) ?_ ?_ ?_ ?_); exact hc'.out; rfl; kernel_rfl; rfl; rfl)
          | ((with_reducible refine gen_world (y.alloc (.cells #[.int .i64 0, .slice none 0 0] 42)) (Fm w [(w.heap.size, oC ob, 26), (y.heap.size, k2 zK, 42)]) ?_ ?_); exact K.out.new _ _; intro y1 K1)
          | ((with_reducible refine at_st rtK y.heap.size (k2 zK) (k2 b) ?_ ?_ ?_ ?_ (.tmp 5) (.tmp 17) ?_ ?_ ?_ ?_ ?_); exact K1.out.bx 1 _ _ _ rfl; rfl; rfl; exact oneK _; rfl; rfl; rfl; rfl; intro y2 hw2; have K2 : Hid (Fm w [(w.heap.size, oC ob, 26), (y.heap.size, k2 b, 42)] y2) := K1.out.put 1 _ _ _ _ rfl hw2.out; clear hw2; have d0 := (K2.out.bx 1 _ _ _ rfl).c 0 (.int .i64 b.a) rfl; have d1 := (K2.out.bx 1 _ _ _ rfl).c 1 (.slice b.sp b.m b.cap) rfl))
        go_roundw
        case rel => exact ⟨i + 1, b.a + b.m, _, rfl, by first | rfl | simp, by simp, ⟨hlt'.out, hJ.out, by omega, by omega⟩, K2.out.pre⟩
        case measure => have := hlt'.out; simp [intOf]; omega
      · have fin : Hid (R = false) := by
          have h1 := hO.out
          rw [J.out.2.1, decide_eq_false c, Bool.false_and] at h1
          exact h1
        have q : (b.a ≤ P) ∨ (¬ b.a ≤ P ∧ ((b.m : Int) == 0) = true) ∨ (¬ b.a ≤ P ∧ ((b.m : Int) == 0) = false ∧ 65536 < (b.m : Int)) ∨ (¬ b.a ≤ P ∧ ((b.m : Int) == 0) = false ∧ ¬ 65536 < (b.m : Int) ∧ 65536 - (b.m : Int) < b.a) := by
          by_cases e0 : (b.m : Int) = 0
          · have e1 : ((b.m : Int) == 0) = true := by rw [beq_iff_eq]; exact e0
            by_cases e2 : b.a ≤ P
            · exact .inl e2
            · exact .inr (.inl ⟨e2, e1⟩)
          · have e1 : ((b.m : Int) == 0) = false := by rw [beq_eq_false_iff_ne]; exact e0
            by_cases e2 : b.a ≤ P
            · exact .inl e2
            · by_cases e3 : 65536 < (b.m : Int)
              · exact .inr (.inr (.inl ⟨e2, e1, e3⟩))
              · exact .inr (.inr (.inr ⟨e2, e1, e3, by omega⟩))
        clear hlt hb hc hia hib hd hO c
        rcases q with q1 | ⟨q1, q2⟩ | ⟨q1, q2, q3⟩ | ⟨q1, q2, q3, q4⟩
        all_goals
          go_wp2_with (first
          | ((with_reducible refine at_loadm rtK g (o + i * 2) (k2 b) ?_ ?_ (.tmp 16) ?_ ?_ ?_ ?_); exact hc'.out; rfl; kernel_rfl; rfl; rfl)
          | ((with_reducible refine gen_world (y.alloc (.cells #[.int .i64 0, .slice none 0 0] 42)) (Fm w [(w.heap.size, oC ob, 26), (y.heap.size, k2 zK, 42)]) ?_ ?_); exact K.out.new _ _; intro y1 K1)
          | ((with_reducible refine at_st rtK y.heap.size (k2 zK) (k2 b) ?_ ?_ ?_ ?_ (.tmp 5) (.tmp 17) ?_ ?_ ?_ ?_ ?_); exact K1.out.bx 1 _ _ _ rfl; rfl; rfl; exact oneK _; rfl; rfl; rfl; rfl; intro y2 hw2; have K2 : Hid (Fm w [(w.heap.size, oC ob, 26), (y.heap.size, k2 b, 42)] y2) := K1.out.put 1 _ _ _ _ rfl hw2.out; clear hw2; have d0 := (K2.out.bx 1 _ _ _ rfl).c 0 (.int .i64 b.a) rfl; have d1 := (K2.out.bx 1 _ _ _ rfl).c 1 (.slice b.sp b.m b.cap) rfl))
          go_ret
          rw [fin.out]
          exact ⟨rfl, K2.out.low⟩
    · have hie : i = n := by have := J.out.1; omega
      subst hie
      have fin : Hid (R = true) := by
        have h1 := J.out.2.1
        rw [List.drop_eq_nil_of_le (by rw [hnn.out.1]; exact Nat.le_refl _)] at h1
        exact h1.symm
      clear hlt
      go_wp2
      go_ret
      rw [fin.out]
      exact ⟨rfl, K.out.low⟩
end Go.Proofs.YtkpfhnogpcigaaaDoorR
