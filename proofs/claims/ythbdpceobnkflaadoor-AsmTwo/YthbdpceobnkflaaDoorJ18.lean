/- The marks of all blocks: the program's look; the document's look at blocks. The document's look at marks. Objects that may be, and their labels: the program's answers and the document's. An object's bytes, by plain mathematics; the document's answer. -/
import Derived.Test.YthbdpceobnkflaaDoorJ17
import Derived.Test.YthbdpceobnkflaaDoorJ11
import Derived.Test.YthbdpceobnkflaaDoorJ1
import Derived.Test.YthbdpceobnkflaaDoorJ8
import Derived.Deep.MidRow
namespace Go.Proofs.YthbdpceobnkflaaDoor
open Go Go.RowKit
set_option linter.unusedVariables false
set_option maxHeartbeats 3000000
set_option maxRecDepth 20000

theorem LiesL.dropM {w : World} {g o : Nat} {l : List Mk} (h : LiesL 3 cM w (some ⟨g, o, none⟩) l) (k : Nat) (sp : Option Addr) (hs : k < l.length → sp = some ⟨g, o + k * 3, none⟩) : LiesL 3 cM w sp (l.drop k) := fun j b hj => by
  rw [List.getElem?_drop] at hj
  have hl := (List.getElem?_eq_some_iff.1 hj).1
  obtain ⟨g', o', e, hc⟩ := h (k + j) b hj
  cases e
  refine ⟨g, o + k * 3, hs (by omega), ?_⟩
  rw [show o + k * 3 + j * 3 = o + (k + j) * 3 by omega]
  exact hc
theorem mof_le : ∀ (ms : List Mk) (a : Int) (l : List UInt8) (p : Option Bool) (k : Nat), mof a l p ms = some k → k ≤ ms.length := by
  intro ms
  induction ms with
  | nil =>
    intro a l p k h
    rcases l with _ | ⟨x, r⟩
    · rw [mof_nil] at h; cases h; exact Nat.le_refl _
    · cases h
  | cons m r ih =>
    intro a l p k h
    rcases l with _ | ⟨x, t⟩
    · rw [mof_nil] at h; cases h; exact Nat.zero_le _
    · rw [mof_cons _ _ _ _ _ (by simp)] at h
      split at h
      · cases h
      · rcases e : mof (a + m.n) ((x :: t).drop m.n.toNat) (some m.c) r with _ | q
        · rw [e] at h; cases h
        · rw [e] at h
          cases h
          have := ih _ _ _ _ e
          simp
          omega
abbrev plB (B : List Bb) : List (Int × List UInt8) := B.map fun x => (x.1.a, x.2)
theorem marks_any (w : World) (T : Hid (Tabs w)) (bp : Option Addr) (bc : Nat) (B : List Bb) (mp : Option Addr) (mc : Nat) (ms : List Mk) (hb : Hid (LiesL 2 cK w bp (B.map (·.1)))) (hg : Hid (∀ x ∈ B, LB8 w x.1.sp x.2 ∧ x.2.length = x.1.m ∧ x.1.m ≤ x.1.cap ∧ 0 ≤ x.1.a ∧ x.1.a ≤ 65536 ∧ 1 ≤ x.1.m ∧ x.1.m ≤ 65536)) (hm : Hid (LiesL 3 cM w mp ms)) (him : Hid (∀ m ∈ ms, inI m.a ∧ inI m.n)) (hmc : ms.length ≤ mc) (hn : B.length ≤ 2147483647) (hnm : ms.length ≤ 2147483647) :
    Calls Tryd.prog 28 #[.slice bp B.length bc, .slice mp ms.length mc] w fun e w' => e = .returned (.bool (mrk (plB B) ms)) ∧ Hid (Below w.heap.size w w') := by
  obtain ⟨R, hR⟩ : ∃ R, mrk (plB B) ms = R := ⟨_, rfl⟩
  have H0 : Hid (mrk (plB B) ms = R ∧ ms.length ≤ mc ∧ ms.length ≤ 2147483647) := ⟨hR, hmc, hnm⟩
  obtain ⟨n, hn'⟩ : ∃ n, B.length = n := ⟨_, rfl⟩
  have hnn : Hid (B.length = n) := hn'
  rw [hR]
  rw [hn'] at hn ⊢
  have ni : (n : Int) ≤ 2147483647 := by omega
  have hMo : Hid (∀ v (x : Bb) (p : Option Addr) (c : Nat) (l : List Mk), x ∈ B → Below w.heap.size w v → LiesL 3 cM v p l → (∀ m ∈ l, inI m.a ∧ inI m.n) → l.length ≤ 2147483647 → Calls Tryd.prog 38 #[.agg (k2 x.1), .slice p l.length c] v fun e w' => ∃ N : Int, e = .returned (.tuple #[.int .i64 N, .bool (mof x.1.a x.2 none l).isSome]) ∧ Hid (Below v.heap.size v w' ∧ ∀ k, mof x.1.a x.2 none l = some k → N = (k : Int))) := fun v x p c l hx hv h1 h2 h3 => by
    obtain ⟨a1, a2, a3, a4, a5, a6, a7⟩ := hg.out x hx
    exact marksOf_any v (T.out.below hv) x.1 x.2 p c l ⟨a1.below hv, a2, a3⟩ ⟨a4, a5⟩ a7 h1 h2 h3
  have hg6 : Hid (∀ x ∈ B, x.2 ≠ []) := fun x hx e => by
    obtain ⟨a1, a2, a3, a4, a5, a6, a7⟩ := hg.out x hx
    rw [e] at a2
    simp at a2
    omega
  clear hn hn' hR hmc hnm hg
  go_enter Tryd.func28, Tryd.ntmps28
  go_wp2
  go_loopw [1, 11] (fun b t wz => ∃ (i : Nat) (p : Option Addr) (c : Nat) (l : List Mk) (y : World), y = wz ∧ b = .slice p l.length c ∧ t = .int .i64 (i : Int) ∧ Hid (i ≤ n ∧ mrk ((plB B).drop i) l = R ∧ l.length ≤ c ∧ l.length ≤ 2147483647 ∧ ∀ m ∈ l, inI m.a ∧ inI m.n) ∧ Hid (Below w.heap.size w y ∧ LiesL 3 cM y p l)) (fun _ t _ => (n - intOf t).toNat)
  case atStart => exact ⟨0, mp, mc, ms, w, rfl, rfl, rfl, ⟨Nat.zero_le _, H0.out.1, H0.out.2.1, H0.out.2.2, him.out⟩, Below.refl _ _, hm.out⟩
  case round =>
    obtain ⟨i, p, c, l, y, rfl, rfl, rfl, J, K⟩ := hrel
    obtain ⟨ln, hln⟩ : ∃ q, l.length = q := ⟨_, rfl⟩
    have hlnn : Hid (l.length = ln) := hln
    have lni : (ln : Int) ≤ 2147483647 := by have := J.out; omega
    by_cases hlt : i < n
    · obtain ⟨x, hx⟩ : ∃ x, B[i]? = some x := ⟨_, List.getElem?_eq_getElem (by rw [hnn.out]; exact hlt)⟩
      have hxm := List.mem_of_getElem? hx
      obtain ⟨g, o, rfl, hc⟩ := hb.out i x.1 (by rw [List.getElem?_map, hx]; rfl)
      have hc' : Hid (y.rangeAt g (o + i * 2) (k2 x.1).toList) := range_keep hc K.out.1
      have hd : (plB B).drop i = (x.1.a, x.2) :: (plB B).drop (i + 1) := by
        have h : (plB B)[i]? = some (x.1.a, x.2) := by rw [List.getElem?_map, hx]; rfl
        obtain ⟨h1, e⟩ := List.getElem?_eq_some_iff.1 h
        rw [List.drop_eq_getElem_cons h1, e]
      have hO : Hid (R = match mof x.1.a x.2 none l with | none => false | some k => mrk ((plB B).drop (i + 1)) (l.drop k)) := by
        have h1 := J.out.2.1
        rw [hd] at h1
        exact h1.symm
      have ij := fun w => idxP (P := Tryd.prog) (g := g) (off := o) (len := n) (cap := bc) Tryd.underlying25 (s := 2) (by kernel_rfl) .i64 i w hlt
      have hii : (i : Int) < n := by omega
      have hlt' : Hid (i < n) := hlt
      have hcall := fun v hv => hMo.out v x p c l hxm hv
      have hne := hg6.out x hxm
      obtain ⟨xb, hxb⟩ : ∃ b, x.1 = b := ⟨_, rfl⟩
      obtain ⟨o2, ho2⟩ : ∃ q, mof x.1.a x.2 none l = q := ⟨_, rfl⟩
      rw [ho2] at hO
      have hle : ∀ k, o2 = some k → k ≤ ln ∧ 1 ≤ k := fun k e => by
        rw [e] at ho2
        refine ⟨by rw [← hln]; exact mof_le _ _ _ _ _ ho2, ?_⟩
        rcases k with _ | k
        · exfalso
          rcases hl0 : l with _ | ⟨m, r⟩
          · rw [hl0, mof_none _ _ _ hne] at ho2; cases ho2
          · rw [hl0, mof_cons _ _ _ _ _ hne] at ho2
            split at ho2
            · cases ho2
            · rcases e9 : mof (x.1.a + m.n) (x.2.drop m.n.toNat) (some m.c) r with _ | q
              · rw [e9] at ho2; cases ho2
              · rw [e9] at ho2; simp at ho2
        · omega
      rw [ho2] at hcall
      have hcall' : Hid (∀ v, Below y.heap.size y v → Calls Tryd.prog 38 #[.agg (k2 xb), .slice p ln c] v fun e w' => ∃ N : Int, e = .returned (.tuple #[.int .i64 N, .bool o2.isSome]) ∧ Hid (Below v.heap.size v w' ∧ ∀ k, o2 = some k → N = (k : Int))) := fun v hv => by
        have h9 := hcall v (of_below K.out.1 hv) (K.out.2.below hv) J.out.2.2.2.2 J.out.2.2.2.1
        rw [hln, hxb] at h9
        exact h9
      rw [hxb] at hc'
      rw [hln]
      clear hlt hx hc hd ho2 hcall hxb
      rcases o2 with _ | k
      · have fin : Hid (R = false) := hO.out
        go_wp2_with (first
          | ((with_reducible refine at_loadm rtK g (o + i * 2) (k2 xb) ?_ ?_ (.tmp 13) ?_ ?_ ?_ ?_); exact hc'.out; rfl; kernel_rfl; rfl; rfl)
          | ((with_reducible refine gen_world (y.alloc (.cells #[.int .i64 0, .slice none 0 0] 46)) (Fm y [(y.heap.size, k2 zK, 46)]) ?_ ?_); exact Fm.one y _ _; intro y1 K1)
          | ((with_reducible refine at_st rtK y.heap.size (k2 zK) (k2 xb) ?_ ?_ ?_ ?_ (.tmp 6) (.tmp 14) ?_ ?_ ?_ ?_ ?_); exact K1.out.bx 0 _ _ _ rfl; rfl; rfl; exact oneK _; rfl; rfl; rfl; rfl; intro y2 hw2; have K2 : Hid (Fm y [(y.heap.size, k2 xb, 46)] y2) := K1.out.put 0 _ _ _ _ rfl hw2.out; clear hw2)
          | ((with_reducible refine at_load rtK y.heap.size (k2 xb) ?_ ?_ (.tmp 6) ?_ ?_ ?_ ?_); exact K2.out.bx 0 _ _ _ rfl; rfl; rfl; rfl; rfl)
          | (go_at_call 38; refine (hcall'.out y2 K2.out.low).mono ?_; rintro e y3 ⟨N, rfl, H3⟩; have K3 : Hid (Below w.heap.size w y3) := of_below (of_below K.out.1 K2.out.low) H3.out.1; clear H3))
        go_ret
        rw [fin.out]
        exact ⟨rfl, K3⟩
      · obtain ⟨hk1, hk2⟩ := hle k rfl
        obtain ⟨m0, hm0⟩ : ∃ m, l[0]? = some m := ⟨_, List.getElem?_eq_getElem (by omega)⟩
        obtain ⟨g2, o2, rfl, _⟩ := K.out.2 0 m0 hm0
        obtain ⟨sp1, hsl, hs1⟩ := slM g2 o2 ln c k hk1 (by have := J.out; omega)
        have J2 : Hid (∀ u, Below y.heap.size y u → mrk ((plB B).drop (i + 1)) (l.drop k) = R ∧ (l.drop k).length = ln - k ∧ (l.drop k).length ≤ c - k ∧ (l.drop k).length ≤ 2147483647 ∧ (∀ m ∈ l.drop k, inI m.a ∧ inI m.n) ∧ LiesL 3 cM u sp1 (l.drop k)) := fun u hu => by
          have hd2 : (l.drop k).length = ln - k := by rw [List.length_drop, hln]
          have := J.out
          exact ⟨hO.out.symm, hd2, by omega, by omega, fun m hm => J.out.2.2.2.2 m (List.mem_of_mem_drop hm), (K.out.2.below hu).dropM k sp1 (fun h => hs1 (by omega))⟩
        clear hm0 hk1 hk2 hs1 hle
        go_wp2_with (first
          | ((with_reducible refine at_loadm rtK g (o + i * 2) (k2 xb) ?_ ?_ (.tmp 13) ?_ ?_ ?_ ?_); exact hc'.out; rfl; kernel_rfl; rfl; rfl)
          | ((with_reducible refine gen_world (y.alloc (.cells #[.int .i64 0, .slice none 0 0] 46)) (Fm y [(y.heap.size, k2 zK, 46)]) ?_ ?_); exact Fm.one y _ _; intro y1 K1)
          | ((with_reducible refine at_st rtK y.heap.size (k2 zK) (k2 xb) ?_ ?_ ?_ ?_ (.tmp 6) (.tmp 14) ?_ ?_ ?_ ?_ ?_); exact K1.out.bx 0 _ _ _ rfl; rfl; rfl; exact oneK _; rfl; rfl; rfl; rfl; intro y2 hw2; have K2 : Hid (Fm y [(y.heap.size, k2 xb, 46)] y2) := K1.out.put 0 _ _ _ _ rfl hw2.out; clear hw2)
          | ((with_reducible refine at_load rtK y.heap.size (k2 xb) ?_ ?_ (.tmp 6) ?_ ?_ ?_ ?_); exact K2.out.bx 0 _ _ _ rfl; rfl; rfl; rfl; rfl)
          | (go_at_call 38; refine (hcall'.out y2 K2.out.low).mono ?_; rintro e y3 ⟨N, rfl, H3⟩; have K3 : Hid (Below y.heap.size y y3) := of_below K2.out.low H3.out.1; have eN := H3.out.2 k rfl; subst eN; clear H3)
          | ((with_reducible refine at_sl 26 (.tmp 23) (.tmp 24) (.slice (some ⟨g2, o2, none⟩) ln c) (.int .i64 (k : Int)) (.slice sp1 (ln - k) (c - k)) ?_ ?_ ?_ ?_ hsl ?_); kernel_rfl; rfl; rfl; rfl))
        go_roundw
        case rel =>
          obtain ⟨a1, a2, a3, a4, a5, a6⟩ := J2.out y3 K3.out
          exact ⟨i + 1, sp1, c - k, l.drop k, y3, rfl, by rw [a2], by simp, ⟨hlt'.out, a1, a3, a4, a5⟩, of_below K.out.1 K3.out, a6⟩
        case measure => have := hlt'.out; simp [intOf]; omega
    · have hie : i = n := by have := J.out.1; omega
      subst hie
      have fin : Hid (R = l.isEmpty) := by
        have h1 := J.out.2.1
        rw [List.drop_eq_nil_of_le (by rw [List.length_map, hnn.out]; exact Nat.le_refl _)] at h1
        exact h1.symm
      rw [hln]
      have hq : Hid (((ln : Int) == 0) = l.isEmpty) := by
        show _ = _
        rcases l with _ | ⟨m, r⟩
        · simp at hln
          subst hln
          rfl
        · simp at hln
          have h0 : ((ln : Int) == 0) = false := by rw [beq_eq_false_iff_ne]; omega
          rw [h0]
          rfl
      clear hlt hln
      go_wp2
      go_ret
      rw [fin.out, ← hq.out]
      exact ⟨by first | rfl | simp, K.out.1⟩
end Go.Proofs.YthbdpceobnkflaaDoor

namespace Go.Proofs.YthbdpceobnkflaaDoor
open Go Go.RowKit
set_option linter.unusedVariables false
set_option maxHeartbeats 3000000
set_option maxRecDepth 20000

theorem slB2 (g o n cap l h : Nat) (L H : Int) (hL : L = (l : Int)) (hH : H = (h : Int)) (h1 : l ≤ h) (h2 : h ≤ n) (hc : n ≤ cap) : ∃ sp1, (∀ v, (Instr.sliceAt 33 (.slice (some ⟨g, o, none⟩) n cap) (some (.int .i64 L)) (some (.int .i64 H)) none).run Tryd.prog v = .ok (.slice sp1 (h - l) (cap - l)) v) ∧ (l < h → sp1 = some ⟨g, o + l, none⟩) := by
  subst hL hH
  refine ⟨if cap = l then some ⟨g, o, none⟩ else (some (⟨g, o, none⟩ : Addr)).map (·.add (l * 1)), fun v => ?_, fun h => ?_⟩
  · have hu : Tryd.prog.underlying 33 = some (.slice (Tryd.prog.elem 33)) := by kernel_rfl
    rw [run_sliceAt_slice v _ _ _ _ _ hu, run_slice_lh v _ _ _ _ hu .i64 .i64 (l : Int) (h : Int) (by omega) (by omega) (by omega)]
    have hz : ∀ v, (sizeOf (Tryd.prog.elem 33)).run Tryd.prog v = .ok 1 v := fun v => by kernel_rfl
    rw [hz]
    simp only [Result.andThen_ok, sliced, Int.toNat_natCast]
  · rw [if_neg (by omega)]
    simp [Addr.add_lit]
end Go.Proofs.YthbdpceobnkflaaDoor

namespace Go.Proofs.YthbdpceobnkflaaDoor
open Go Go.RowKit
set_option linter.unusedVariables false
set_option maxHeartbeats 3000000
set_option maxRecDepth 20000

theorem blk_bounds : ∀ (l : List Bk) (p : Int), 0 ≤ p → blkOk p l = true → ∀ b ∈ l, 0 ≤ b.a ∧ b.a ≤ 65536 ∧ 1 ≤ b.m ∧ b.m ≤ 65536 := by
  intro l
  induction l with
  | nil => intro p _ _ b hb; cases hb
  | cons x r ih =>
    intro p hp h b hb
    unfold blkOk at h
    rw [Bool.and_eq_true, decide_eq_true_eq] at h
    obtain ⟨⟨h1, h2, h3⟩, h4⟩ := h
    rcases List.mem_cons.1 hb with rfl | hb
    · exact ⟨by omega, by omega, by omega, by omega⟩
    · exact ih _ (by omega) h4 b hb
def okO (ob : Oo) : Bool := blkOk 0 (ob.B.map (·.1)) && (mrk (plB ob.B) ob.M && labG [] ob.L)
/-- What Check answers. -/
def chkO (ob : Oo) : Int := if okO ob then 0 else 1
/-- An object whose lists have their room. -/
structure Lco (w : World) (ob : Oo) : Prop where
  lo : Lo w ob
  cb : ∀ x ∈ ob.B, x.1.m ≤ x.1.cap
  cm : ob.M.length ≤ ob.mc
theorem Lco.below {w y : World} {ob : Oo} (h : Lco w ob) (hb : Below w.heap.size w y) : Lco y ob := ⟨h.lo.below hb, h.cb, h.cm⟩
theorem ocheck_any (w : World) (T : Hid (Tabs w)) (ob : Oo) (h : Hid (Lco w ob)) : Calls Tryd.prog 10 #[.agg (oC ob)] w fun e w' => e = .returned (.int .i64 (chkO ob)) ∧ Hid (Below w.heap.size w w') := by
  have K0 : Hid (Fm w [(w.heap.size, oC ob, 29)] (w.alloc (.cells (oC ob) 29))) := Fm.one w _ _
  have hd : Hid (∀ y, Fm w [(w.heap.size, oC ob, 29)] y → y.cell? ⟨w.heap.size, 0, none⟩ = some (.slice ob.bp ob.B.length ob.bc) ∧ y.cell? ⟨w.heap.size, 1, none⟩ = some (.slice ob.mp ob.M.length ob.mc) ∧ y.cell? ⟨w.heap.size, 2, none⟩ = some (.slice ob.lp ob.L.length ob.lc)) := fun y hy => ⟨(hy.bx 0 _ _ _ rfl).c 0 _ rfl, (hy.bx 0 _ _ _ rfl).c 1 _ rfl, (hy.bx 0 _ _ _ rfl).c 2 _ rfl⟩
  obtain ⟨e0, e1, e2⟩ := hd.out _ K0.out
  have hB : Hid (∀ v, Below w.heap.size w v → Calls Tryd.prog 27 #[.slice ob.bp ob.B.length ob.bc] v fun e w' => e = .returned (.bool (blkOk 0 (ob.B.map (·.1)))) ∧ Hid (Below v.heap.size v w')) := fun v hv => by
    have k := blocks_any v ob.bp ob.bc (ob.B.map fun x : Bb => x.1) (h.out.lo.below hv).b (fun b hb => by obtain ⟨x, hx, rfl⟩ := List.mem_map.1 hb; exact h.out.lo.ib x hx) (by rw [List.length_map]; exact h.out.lo.n.1)
    rw [List.length_map] at k
    exact k
  have hM : Hid (blkOk 0 (ob.B.map (·.1)) = true → ∀ v, Below w.heap.size w v → Calls Tryd.prog 28 #[.slice ob.bp ob.B.length ob.bc, .slice ob.mp ob.M.length ob.mc] v fun e w' => e = .returned (.bool (mrk (plB ob.B) ob.M)) ∧ Hid (Below v.heap.size v w')) := fun hb v hv => by
    have hl := h.out.lo.below hv
    refine marks_any v (T.out.below hv) ob.bp ob.bc ob.B ob.mp ob.mc ob.M hl.b (fun x hx => ?_) hl.m hl.im h.out.cm hl.n.1 hl.n.2.1
    obtain ⟨b1, b2, b3, b4⟩ := blk_bounds _ 0 (by decide) hb x.1 (List.mem_map_of_mem hx)
    exact ⟨(hl.g x hx).1, (hl.g x hx).2, h.out.cb x hx, b1, b2, b3, b4⟩
  have hL : Hid (∀ v, Below w.heap.size w v → Calls Tryd.prog 29 #[.slice ob.lp ob.L.length ob.lc] v fun e w' => e = .returned (.bool (labG [] ob.L)) ∧ Hid (Below v.heap.size v w')) := fun v hv => labels_any v (T.out.below hv) ob.lp ob.lc ob.L (h.out.lo.below hv).l (fun x hx => (h.out.lo.il x hx).1) h.out.lo.n.2.2
  obtain ⟨b1, hb1⟩ : ∃ b, blkOk 0 (ob.B.map fun x : Bb => x.1) = b := ⟨_, rfl⟩
  obtain ⟨b2, hb2⟩ : ∃ b, mrk (plB ob.B) ob.M = b := ⟨_, rfl⟩
  obtain ⟨b3, hb3⟩ : ∃ b, labG [] ob.L = b := ⟨_, rfl⟩
  have hR : Hid (chkO ob = if (b1 && (b2 && b3)) then 0 else 1) := by show _ = _; unfold chkO okO; rw [hb1, hb2, hb3]
  rw [hb1] at hB hM
  rw [hb2] at hM
  rw [hb3] at hL
  clear hb1 hb2 hb3
  cases b1
  · have fin : Hid (chkO ob = 1) := hR.out
    go_enter Tryd.func10, Tryd.ntmps10
    go_wp2_with (go_at_call 27; refine (hB.out _ K0.out.low).mono ?_; rintro e y1 ⟨rfl, H1⟩; have K1 : Hid (Fm w [(w.heap.size, oC ob, 29)] y1) := K0.out.below H1.out; clear H1)
    go_ret
    rw [fin.out]
    exact ⟨rfl, K1.out.low⟩
  · have hM2 : Hid (∀ v, Below w.heap.size w v → Calls Tryd.prog 28 #[.slice ob.bp ob.B.length ob.bc, .slice ob.mp ob.M.length ob.mc] v fun e w' => e = .returned (.bool b2) ∧ Hid (Below v.heap.size v w')) := hM.out rfl
    clear hM
    cases b2
    · have fin : Hid (chkO ob = 1) := hR.out
      go_enter Tryd.func10, Tryd.ntmps10
      go_wp2_with (first
        | (go_at_call 27; refine (hB.out _ K0.out.low).mono ?_; rintro e y1 ⟨rfl, H1⟩; have K1 : Hid (Fm w [(w.heap.size, oC ob, 29)] y1) := K0.out.below H1.out; clear H1 e0 e1 e2; obtain ⟨e0, e1, e2⟩ := hd.out _ K1.out)
        | (go_at_call 28; refine (hM2.out _ K1.out.low).mono ?_; rintro e y2 ⟨rfl, H2⟩; have K2 : Hid (Fm w [(w.heap.size, oC ob, 29)] y2) := K1.out.below H2.out; clear H2))
      go_ret
      rw [fin.out]
      exact ⟨rfl, K2.out.low⟩
    · cases b3
      all_goals
        go_enter Tryd.func10, Tryd.ntmps10
        go_wp2_with (first
          | (go_at_call 27; refine (hB.out _ K0.out.low).mono ?_; rintro e y1 ⟨rfl, H1⟩; have K1 : Hid (Fm w [(w.heap.size, oC ob, 29)] y1) := K0.out.below H1.out; clear H1 e0 e1 e2; obtain ⟨e0, e1, e2⟩ := hd.out _ K1.out)
          | (go_at_call 28; refine (hM2.out _ K1.out.low).mono ?_; rintro e y2 ⟨rfl, H2⟩; have K2 : Hid (Fm w [(w.heap.size, oC ob, 29)] y2) := K1.out.below H2.out; clear H2 e0 e1 e2; obtain ⟨e0, e1, e2⟩ := hd.out _ K2.out)
          | (go_at_call 29; refine (hL.out _ K2.out.low).mono ?_; rintro e y3 ⟨rfl, H3⟩; have K3 : Hid (Fm w [(w.heap.size, oC ob, 29)] y3) := K2.out.below H3.out; clear H3))
        go_ret
        rw [hR.out]
        exact ⟨rfl, K3.out.low⟩
end Go.Proofs.YthbdpceobnkflaaDoor

namespace Go.Proofs.YthbdpceobnkflaaDoor
open Go Go.RowKit
set_option linter.unusedVariables false
set_option maxHeartbeats 3000000
set_option maxRecDepth 20000

/-- Bytes laid over others: from fr on there is out, from a on there is bs. -/
def ovr (fr : Int) (out : List UInt8) (a : Int) (bs : List UInt8) : List UInt8 := (List.range out.length).map fun (k : Nat) => if a ≤ fr + k then (bs[(fr + k - a).toNat]?).getD (out.getD k 0) else out.getD k 0
def ovrAll (fr : Int) : List UInt8 → List (Int × List UInt8) → List UInt8
  | out, [] => out
  | out, b :: r => ovrAll fr (ovr fr out b.1 b.2) r
theorem ovr_len (fr : Int) (out : List UInt8) (a : Int) (bs : List UInt8) : (ovr fr out a bs).length = out.length := by unfold ovr; simp
theorem ovr_at (fr : Int) (out : List UInt8) (a : Int) (bs : List UInt8) (k : Nat) (h : k < out.length) : (ovr fr out a bs)[k]? = some (if a ≤ fr + k then (bs[(fr + k - a).toNat]?).getD (out.getD k 0) else out.getD k 0) := by
  unfold ovr
  rw [List.getElem?_map, List.getElem?_range h]
  rfl
theorem ovrAll_len : ∀ (B : List (Int × List UInt8)) (fr : Int) (out : List UInt8), (ovrAll fr out B).length = out.length := by
  intro B
  induction B with
  | nil => intro fr out; rfl
  | cons b r ih => intro fr out; show (ovrAll fr (ovr fr out b.1 b.2) r).length = _; rw [ih, ovr_len]
def bytE (ob : Oo) (fr to : Int) : Int := if chkO ob ≠ 0 then chkO ob else if fr < 0 ∨ to < fr ∨ 65536 < to then 1 else 0
def bytL (ob : Oo) (fr to : Int) : List UInt8 := if bytE ob fr to = 0 then ovrAll fr (List.replicate (to - fr).toNat 0) (plB ob.B) else []
theorem bytL_no {ob : Oo} {fr to : Int} (h : bytE ob fr to ≠ 0) : bytL ob fr to = [] := by unfold bytL; rw [if_neg h]
/-- What Bytes leaves: bytes in a block of their own, or none. -/
def ByE (w : World) (l : List UInt8) (E : Int) (e : Ending) (w' : World) : Prop := ∃ p c, e = .returned (.tuple #[.slice p l.length c, .int .i64 E]) ∧ Hid (Below w.heap.size w w' ∧ ((p = none ∧ c = 0 ∧ l = []) ∨ ∃ g, p = some ⟨g, 0, none⟩ ∧ w.heap.size ≤ g ∧ c = l.length ∧ Bx w' g (rU l) 5))
theorem chk01 (ob : Oo) : chkO ob = 0 ∨ chkO ob = 1 := by unfold chkO; split <;> simp
theorem hmkB (D : Nat) (L : Int) (hL : L = (D : Int)) (hD : D ≤ 65536) (y : World) : (Instr.makeSlice 33 (.int .i64 L) (.int .i64 L)).run Tryd.prog y = .ok (.slice (some ⟨y.heap.size, 0, none⟩) D D) (y.alloc (.cells (rU (List.replicate D 0)) 5)) := by
  subst hL
  obtain ⟨ib, hib, hb0, hb1, hb2⟩ := info_parts infoB
  have := run_make (P := Tryd.prog) y 33 5 ib _ Tryd.underlying33 hib hb0 .i64 .i64 (D : Int) (D : Int) (by omega) (Int.le_refl _) (by rw [hb2]; omega) (by omega)
  rw [hb1, Int.toNat_natCast] at this
  rw [← made_u8]
  exact this
end Go.Proofs.YthbdpceobnkflaaDoor
