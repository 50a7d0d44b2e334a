/- The law's own book: keep, walked. -/
import Derived.Test.YtbllnjifmcodbaaDoorKeepL
import Derived.Deep.RegionHeld3
namespace Go.Proofs.YtbllnjifmcodbaaDoor
open Go.RowKit
set_option linter.unusedVariables false
set_option maxHeartbeats 2000000
set_option maxRecDepth 20000

theorem info37 : (Tryd.prog.info? 37).map (fun i => (i.zero, i.size, i.bytes)) = some (some (.slice none 0 0), 1, 24) := by kernel_rfl
theorem info5' : (Tryd.prog.info? 5).map (fun i => (i.zero, i.size, i.bytes)) = some (some (.int .u8 0), 1, 1) := by kernel_rfl
theorem Bk.drewN {w : World} {B kb q : Nat} {es : List En} {T V : Value} (h : Bk w B kb es T V) : Bk (w.drewN q) B kb es T V := ⟨h.book, h.told, h.want, h.nil, h.ok, h.lt⟩
theorem frozen_heap {x : World} {b t : Nat} {cs : Array Value} (h : x.heap[b]? = some (.cells cs t (0, 0))) (j : Nat) : x.frozen? ⟨b, j, none⟩ = false := by unfold World.frozen?; simp [h]

theorem one_at (x : World) (v : Value) : ∀ (j : Nat) (u : Value), [v][j]? = some u → (x.alloc (.cells #[v] 37)).cell? ((⟨x.heap.size, 0, none⟩ : Addr).add j) = some u := fun j u hu => by
  cases j with
  | zero => simp at hu; subst hu; unfold World.cell? World.alloc Addr.add; simp
  | succ j => simp at hu
theorem own_form {x : World} {B n : Nat} {v : Value} {xs : List Value} (h : x.ownsRow B 37 1 v (n + 1) xs) : ∃ g cap, v = .slice (some ⟨g, 0, none⟩) (n + 1) cap := by
  rcases h.2 with ⟨_, h0⟩ | ⟨g, cap, cur, rfl, _⟩
  · omega
  · exact ⟨g, cap, rfl⟩
theorem row5 {x : World} {y n : Nat} {v : Value} {xs : List Value} (h : x.ownsRow y 5 1 v (0 + n) ([] ++ xs)) (hn : 1 ≤ n) : ∃ g cap cur, v = .slice (some ⟨g, 0, none⟩) n cap ∧ y ≤ g ∧ x.heap[g]? = some (.cells cur 5 (0, 0)) ∧ cur.toList.take n = xs := by
  rw [Nat.zero_add, List.nil_append] at h
  rcases h.2 with ⟨_, h0⟩ | ⟨g, cap, cur, rfl, h1, h2, _, _, _, h3⟩
  · omega
  · exact ⟨g, cap, cur, rfl, h1, h2, by simpa using h3⟩
theorem news5 {x : World} {b : Nat} {xs : List Value} {o : Obj} (h : x.heap[b]? = some (.cells xs.toArray 5 (0, 0))) : ∀ (j : Nat) (u : Value), xs[j]? = some u → (x.alloc o).cell? ((⟨b, 0, none⟩ : Addr).add j) = some u := fun j u hu => by
  rw [show (⟨b, 0, none⟩ : Addr).add j = ⟨b, j, none⟩ from by unfold Addr.add; split <;> simp_all, cell_heap (alloc_at h)]
  simpa using hu
theorem grown_drew {x y : World} {r : Option Nat} {k : Nat} (h : (x.drewN k).grownBy y r) : x.grownBy y r := ⟨h.os, h.tape, h.output, h.size, h.block⟩

theorem keep_fin {w w0 w2 w3 : World} {B kb lo tb n q g2 p2 : Nat} {cur2 : Array Value} {es : List En} {T V T1 V1 : Value} {l : List Int} {o : Obj} (hq : w0 = w.drewN q) (hb : Bk w0 B kb es T V) (hl : l.length = n) (h3 : n ≤ 3) (h : S2 w0 w2 B kb es V T1 (.slice (some ⟨tb, 0, none⟩) n n)) (hB : B ≤ kb) (hBs : B ≤ w.heap.size) (hBt : B ≤ tb)
    (ht : w.heap[tb]? = some (.cells (l.map (Value.int .u8)).toArray 5 (0, 0))) (hg0 : w0.heap.size ≤ g2) (hg1 : w2.heap[g2]? = some (.cells cur2 5 (0, 0))) (hg2 : cur2.toList.take n = l.map (Value.int .u8))
    (hlo : lo ≤ w.heap.size ∧ lo ≤ tb ∧ ∀ (j : Nat) (e : En), es[j]? = some e → ∀ b, e.tv.ownBlock = some b → b < lo)
    (ho : w3.ownsRow B 37 1 V1 (es.length + 1) (es.map En.wv ++ [.slice (some ⟨g2, 0, none⟩) n p2])) (hg : (w2.alloc o).grownBy w3 V.ownBlock) :
    Bk (w3.setCell ⟨kb, 1, none⟩ V1) B kb (es ++ [⟨.slice (some ⟨tb, 0, none⟩) n n, .slice (some ⟨g2, 0, none⟩) n p2, l⟩]) T1 V1 ∧ Below B w (w3.setCell ⟨kb, 1, none⟩ V1) := by
  subst hq
  subst hl
  have hs2 := h.low.size
  have := s4 (lo := lo) hb h hB hBs ho hg (Nat.le_trans hBs hs2) ⟨h3, .inr ⟨tb, rfl, hBt, ht⟩⟩ ⟨g2, p2, cur2, rfl, hg0, hg1, hg2⟩ hlo.1 hlo.2.2 (fun b hb => by simp [Value.ownBlock] at hb; subst hb; exact hlo.2.1)
  exact ⟨this.1, (below_drewN (Below.refl _ _)).trans this.2⟩
theorem Bk.drew {w : World} {B kb : Nat} {es : List En} {T V : Value} (h : Bk w B kb es T V) : Bk w.drew B kb es T V := ⟨h.book, h.told, h.want, h.nil, h.ok, h.lt⟩

theorem keep_row (w : World) (B kb lo tb wb n : Nat) (es : List En) (T V : Value) (l : List Int) (hb : Hid (Bk w B kb es T V)) (hl : Hid (l.length = n)) (h1 : 1 ≤ n) (h3 : n ≤ 3)
    (ht : Hid (w.heap[tb]? = some (.cells (l.map (Value.int .u8)).toArray 5 (0, 0)))) (hw : Hid (w.heap[wb]? = some (.cells (l.map (Value.int .u8)).toArray 5 (0, 0))))
    (hB : B ≤ kb) (hBs : B ≤ w.heap.size) (hBt : B ≤ tb) (hes : Hid (es.length ≤ 2147483647)) (hlo : Hid (lo ≤ w.heap.size ∧ lo ≤ tb ∧ ∀ (j : Nat) (e : En), es[j]? = some e → ∀ b, e.tv.ownBlock = some b → b < lo)) :
    Calls Tryd.prog 28 #[.pointer (some ⟨kb, 0, none⟩), .slice (some ⟨tb, 0, none⟩) n n, .slice (some ⟨wb, 0, none⟩) n n] w fun e w' => e = .returned (.bool true) ∧ ∃ wv T' V', Bk w' B kb (es ++ [⟨.slice (some ⟨tb, 0, none⟩) n n, wv, l⟩]) T' V' ∧ Below B w w' := by
  obtain ⟨i0, hi, hz0, hz1, hz2⟩ := info_parts info37
  obtain ⟨i5, hi5, hy0, hy1, hy2⟩ := info_parts info5'
  have hs := same_true w (some ⟨tb, 0, none⟩) (some ⟨wb, 0, none⟩) n n n (fun j => l.getD j 0) (by omega) (fun j hj => by
    have hl' := hl.out
    refine ⟨tb, 0, wb, 0, rfl, rfl, ?_, ?_⟩
    · rw [Nat.zero_add, cell_heap ht.out]; simp [List.getD, hl', hj]
    · rw [Nat.zero_add, cell_heap hw.out]; simp [List.getD, hl', hj])
  go_enter Tryd.func28, Tryd.ntmps28
  go_wp2_with (first
    | (go_at_call 15; refine hs.mono ?_; rintro e w0 ⟨rfl, q, hq⟩; have hb0 : Hid (Bk w0 B kb es T V) := (by rw [hq]; exact hb.out.drewN); have c0 : w0.cell? ⟨kb, 0, none⟩ = some T := (by rw [cell_heap hb0.out.book]; rfl); have c1 : w0.cell? ⟨kb, 1, none⟩ = some V := (by rw [cell_heap hb0.out.book]; rfl); have hq' : Hid (w0 = w.drewN q) := hq; clear hq)
    | (at_builtin; refine wpList_append_own _ rfl (.tmp 15) (.tmp 17) 43 rfl B 37 i0 (.slice none 0 0) 1 24 Tryd.underlying43 hi hz0 hz1 hz2 rfl (by decide) T es.length (es.map En.tv) rfl (hb0.out.told.alloc _) ⟨w0.heap.size, 0, none⟩ 1 1 [.slice (some ⟨tb, 0, none⟩) n n] rfl rfl ?a1 ?a2 ?a3 ?a4 ?a5 ?_))
  case a1 => exact one_at w0 _
  case a2 => simp [Value.oneCell']
  case a3 => have := hes.out; unfold maxLen; omega
  case a4 => have := hes.out; omega
  case a5 => rw [hq'.out]; simp; show B ≤ w.heap.size + 1; omega
  intro T1 w1 ho1 hg1 _
  obtain ⟨g1, p1, rfl⟩ := own_form ho1
  have H1 := s1 hb0.out (by rw [hq'.out]; exact hBs) ho1 hg1
  have c2 : w1.cell? ⟨kb, 0, none⟩ = some T := by rw [cell_heap H1.book]; rfl
  have f2 := frozen_heap H1.book 0
  have H2 : Hid (S2 w0 (w1.setCell ⟨kb, 0, none⟩ (.slice (some ⟨g1, 0, none⟩) (es.length + 1) p1)) B kb es V (.slice (some ⟨g1, 0, none⟩) (es.length + 1) p1) (.slice (some ⟨tb, 0, none⟩) n n)) := s2 H1 hB
  clear ho1 hg1 H1
  go_wp2
  obtain ⟨y, hy⟩ : ∃ y, w1.setCell ⟨kb, 0, none⟩ (.slice (some ⟨g1, 0, none⟩) (es.length + 1) p1) = y := ⟨_, rfl⟩
  rw [hy] at H2
  rw [hy]
  clear hy c2 f2 c0 c1
  have cy : y.cell? ⟨kb, 1, none⟩ = some V := by rw [cell_heap H2.out.book]; rfl
  have fy := frozen_heap H2.out.book 1
  have sB0 : B ≤ w0.heap.size := by rw [hq'.out]; exact hBs
  have sw : w0.heap.size ≤ y.heap.size := H2.out.low.size
  have sy : B ≤ y.heap.size := Nat.le_trans (by rw [hq'.out]; exact hBs) sw
  have hwb : y.heap[wb]? = some (.cells (l.map (Value.int .u8)).toArray 5 (0, 0)) := H2.out.five wb _ (by rw [hq'.out]; exact hw.out)
  have nw := fun o => news5 (o := o) hwb
  have own0 := World.ownsRow_made (e := 5) (size := 1) (base := y.heap.size) y #[] 0 (Nat.le_refl _) (Nat.zero_le _) rfl
  clear hwb
  have ny : ∀ o, (y.alloc o).cell? ⟨kb, 1, none⟩ = some V := fun o => by rw [cell_heap (alloc_at H2.out.book)]; rfl
  go_region_law ((first
      | (refine step_append_own rfl (.tmp 26) (.tmp 27) 37 rfl y.heap.size 5 i5 (.int .u8 0) 1 1 Tryd.underlying37 hi5 hy0 hy1 hy2 rfl (by decide) _ 0 [] (by rfl) own0 ⟨wb, 0, none⟩ n n (l.map (Value.int .u8)) (by rfl) (by simp [hl.out]) (nw _) (by simp [Value.oneCell']) (by unfold maxLen; omega) (by omega) (by simp) ?_
         intro wv w2 ho2 hg2 _
         obtain ⟨g2, p2, cur2, rfl, hg2a, hg2b, hg2c⟩ := row5 ho2 h1
         have H3 : Hid (S2 w0 w2 B kb es V (.slice (some ⟨g1, 0, none⟩) (es.length + 1) p1) (.slice (some ⟨tb, 0, none⟩) n n)) := s3 H2.out ⟨hg2.os, hg2.tape, hg2.output, hg2.size, hg2.block⟩ sy
         have cz : w2.cell? ⟨kb, 1, none⟩ = some V := (by rw [cell_heap H3.out.book]; rfl)
         have nz : ∀ o, (w2.alloc o).cell? ⟨kb, 1, none⟩ = some V := (fun o => by rw [cell_heap (alloc_at H3.out.book)]; rfl)
         clear ho2 hg2)
      | (refine step_append_own rfl (.tmp 25) (.tmp 29) 43 rfl B 37 i0 (.slice none 0 0) 1 24 Tryd.underlying43 hi hz0 hz1 hz2 rfl (by decide) V es.length (es.map En.wv) (by rfl) (H3.out.want.alloc _) ⟨w2.heap.size, 0, none⟩ 1 1 [.slice (some ⟨g2, 0, none⟩) n p2] (by rfl) rfl (one_at w2 _) (by simp [Value.oneCell']) (by have := hes.out; unfold maxLen; omega) (by have := hes.out; omega) (by have := H3.out.low.size; have := Nat.le_trans sB0 this; simp; omega) ?_
         intro V1 w3 ho3 hg3 _
         obtain ⟨g3, p3, rfl⟩ := own_form ho3
         have k4 := grown_at (H3.out.want.alloc _) ⟨hg3.os, hg3.tape, hg3.output, hg3.size, hg3.block⟩ (alloc_at H3.out.book) (by decide)
         have c4 : w3.cell? ⟨kb, 1, none⟩ = some V := (by rw [cell_heap k4]; rfl)
         have f4 := frozen_heap k4 1
         have HF : Hid (Bk (w3.setCell ⟨kb, 1, none⟩ (.slice (some ⟨g3, 0, none⟩) (es.length + 1) p3)) B kb (es ++ [⟨.slice (some ⟨tb, 0, none⟩) n n, .slice (some ⟨g2, 0, none⟩) n p2, l⟩]) _ _ ∧ Below B w (w3.setCell ⟨kb, 1, none⟩ (.slice (some ⟨g3, 0, none⟩) (es.length + 1) p3))) := keep_fin hq'.out hb0.out hl.out h3 H3.out hB hBs hBt ht.out (Nat.le_trans sw hg2a) hg2b hg2c hlo.out ho3 ⟨hg3.os, hg3.tape, hg3.output, hg3.size, hg3.block⟩
         clear k4 ho3 hg3)))
  all_goals
    go_wp2
    go_ret
    exact ⟨rfl, _, _, _, HF.out⟩
end Go.Proofs.YtbllnjifmcodbaaDoor
