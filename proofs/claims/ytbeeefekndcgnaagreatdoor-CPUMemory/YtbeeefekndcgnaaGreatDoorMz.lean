/- CPUMemory: a program in a memory of its own, cycle by cycle as the document's, the same memory at the end. -/
import Derived.Test.YtbeeefekndcgnaaGreatDoorMo
import Derived.Test.YtbeeefekndcgnaaGreatDoorCpU
namespace Go.Proofs.YtbeeefekndcgnaaGreatDoor
open Go Go.RowKit
set_option linter.unusedVariables false
set_option maxHeartbeats 40000000
set_option maxRecDepth 20000

def plC (at_ : Nat) (sp : Option Addr) (plen pcap : Nat) (a : Option Addr) (len cap : Nat) : Array Value := #[.int .u16 (at_ : Int), .slice sp plen pcap, .slice a len cap]
def IsMem (M : Array Value) (Y : Nat → Int) : Prop := M.size = 65536 ∧ ∀ j, j < 65536 → M[j]? = some (.int .u8 (Y j))
theorem IsMem.set {M : Array Value} {Y : Nat → Int} (h : IsMem M Y) (k : Nat) (v : Int) : IsMem (M.setIfInBounds k (.int .u8 v)) (fun j => if j = k then v else Y j) := by
  refine ⟨by simpa using h.1, fun j hj => ?_⟩
  by_cases e : j = k
  · subst e; simp [show j < M.size by rw [h.1]; exact hj]
  · rw [Array.getElem?_setIfInBounds_ne (by omega), h.2 j hj]; simp [e]
theorem Fm.blk {w : World} {l : List (Nat × Array Value × TypeId)} {y : World} {i g : Nat} {M : Array Value} {Y : Nat → Int} (h : Fm w l y) (hi : l[i]? = some (g, M, 5)) (hM : IsMem M Y) : Blk y g 65536 Y := ⟨M, h.get i _ _ _ hi, hM.1, hM.2⟩
theorem Fm.newM {w : World} {l : List (Nat × Array Value × TypeId)} {y y' : World} {Y : Nat → Int} (h : Fm w l y) (hB : Below y.heap.size y y') (k : Blk y' y.heap.size 65536 Y) : ∃ M, IsMem M Y ∧ Fm w (l ++ [(y.heap.size, M, 5)]) y' := by
  obtain ⟨M, h1, h2, h3⟩ := k
  have hb := h.below hB
  have key : ∀ (i b : Nat) (cs' : Array Value) (t' : TypeId), (l ++ [(y.heap.size, M, 5)])[i]? = some (b, cs', t') → l[i]? = some (b, cs', t') ∧ i < l.length ∨ i = l.length ∧ b = y.heap.size ∧ cs' = M ∧ t' = 5 := by
    intro i b cs' t' e
    rcases Nat.lt_or_ge i l.length with hi | hi
    · rw [List.getElem?_append_left hi] at e; exact .inl ⟨e, hi⟩
    · rw [List.getElem?_append_right hi] at e
      rcases Nat.eq_or_lt_of_le hi with h0 | h0
      · rw [← h0, Nat.sub_self] at e
        simp at e
        exact .inr ⟨h0.symm, e.1.symm, e.2.1.symm, e.2.2.symm⟩
      · rw [List.getElem?_eq_none (by simp; omega)] at e; cases e
  refine ⟨M, ⟨h2, h3⟩, fun i b cs' t' e => ?_, fun i b cs' t' e => ?_, fun i j b c1 c2 t1 t2 e1 e2 => ?_, hb.low⟩
  · rcases key i b cs' t' e with ⟨k, _⟩ | ⟨_, rfl, rfl, rfl⟩
    · exact hb.get i b cs' t' k
    · exact h1
  · rcases key i b cs' t' e with ⟨k, _⟩ | ⟨_, rfl, rfl, rfl⟩
    · exact h.ge i b cs' t' k
    · exact h.low.size
  · rcases key i b c1 t1 e1 with ⟨k1, l1⟩ | ⟨k1, kb, _⟩ <;> rcases key j b c2 t2 e2 with ⟨k2, l2⟩ | ⟨k2, kb2, _⟩
    · exact h.ne i j b c1 c2 t1 t2 k1 k2
    · exact absurd (heap_lt (h.get i b c1 t1 k1)) (by omega)
    · exact absurd (heap_lt (h.get j b c2 t2 k2)) (by omega)
    · omega
theorem Fm.updM {w : World} {l : List (Nat × Array Value × TypeId)} {y y' : World} {Y : Nat → Int} (h : Fm w l y) (i g : Nat) (M : Array Value) (hi : l[i]? = some (g, M, 5)) (k : Blk y' g 65536 Y) (u : Upd g y y') : ∃ M', IsMem M' Y ∧ Fm w (l.set i (g, M', 5)) y' := by
  obtain ⟨M', h1, h2, h3⟩ := k
  have key : ∀ (j b' : Nat) (c1 : Array Value) (t1 : TypeId), (l.set i (g, M', 5))[j]? = some (b', c1, t1) → (j = i ∧ b' = g ∧ c1 = M' ∧ t1 = 5) ∨ (j ≠ i ∧ l[j]? = some (b', c1, t1)) := by
    intro j b' c1 t1 e
    by_cases hj : i = j
    · subst hj
      rw [List.getElem?_set] at e
      have hl : i < l.length := (List.getElem?_eq_some_iff.1 hi).1
      simp [hl] at e
      exact .inl ⟨rfl, e.1.symm, e.2.1.symm, e.2.2.symm⟩
    · rw [List.getElem?_set_ne hj] at e; exact .inr ⟨fun x => hj x.symm, e⟩
  refine ⟨M', ⟨h2, h3⟩, fun j b' c1 t1 e => ?_, fun j b' c1 t1 e => ?_, fun j j' b' c1 c2 t1 t2 e1 e2 => ?_, h.low.trans (u.below h.low.size (h.ge i g M _ hi))⟩
  · rcases key j b' c1 t1 e with ⟨_, rfl, rfl, rfl⟩ | ⟨hj, e'⟩
    · exact h1
    · exact (u.block b' (heap_lt (h.get j b' c1 t1 e')) (fun x => hj (h.ne j i g c1 M t1 _ (x ▸ e') hi))).trans (h.get j b' c1 t1 e')
  · rcases key j b' c1 t1 e with ⟨_, rfl, rfl, rfl⟩ | ⟨_, e'⟩
    · exact h.ge i b' M _ hi
    · exact h.ge j b' c1 t1 e'
  · rcases key j b' c1 t1 e1 with ⟨rfl, rfl, _⟩ | ⟨hj, e1'⟩ <;> rcases key j' b' c2 t2 e2 with ⟨rfl, hb2, _⟩ | ⟨hj', e2'⟩
    · rfl
    · exact h.ne j j' b' M c2 _ t2 hi e2'
    · subst hb2; exact h.ne j j' b' c1 M t1 _ e1' hi
    · exact h.ne j j' b' c1 c2 t1 t2 e1' e2'
theorem at_loadPm {ops : Array Oper} {rest : List Oper} {o : Oper} {a : Act} {w : World} {Q : Exit → Act → World → Prop} (g i : Nat) (p : Pn) (h : w.rangeAt g i (pnC p).toList) (x : Operand) (hgd : o.guard = none) (ho : o.op = .load 38 x) (hx : a.eval x = .pointer (some ⟨g, i, none⟩))
    (k : wpList Tryz.prog ops Q rest (a.put o.dst (.agg (pnC p))) w) : wpList Tryz.prog ops Q (o :: rest) a w := by
  refine wpList_load_mid hgd 38 x ho g i hx (pnC p).toList _ h Tryz.underlying38 rfl infoP ?_
  rw [Array.toArray_toList]
  exact k
theorem wp_loadC {o : Oper} {a : Act} {w : World} {K : Act → World → Prop} {Q : Exit → Act → World → Prop} (b : Nat) (c : Cp) (h : BoxC w b c) (x : Operand) (ho : o.op = .load 26 x) (hx : a.eval x = .pointer (some ⟨b, 0, none⟩))
    (k : K (a.put o.dst (.agg (cpC c))) w) : o.wp Tryz.prog a w K Q := wp_load_row 26 x ho b hx 26 (cpC c) (0, 0) _ h Tryz.underlying26 rfl infoC k
theorem wp_storeC' {o : Oper} {a : Act} {w : World} {K : Act → World → Prop} {Q : Exit → Act → World → Prop} (b : Nat) (d0 d : Cp) (h : BoxC w b d0) (x y : Operand) (ho : o.op = .store 26 x y) (hx : a.eval x = .pointer (some ⟨b, 0, none⟩)) (hy : a.eval y = .agg (cpC d))
    (k : ∀ w', Hid (BoxC w' b d ∧ (∀ B, B ≤ b → Below B w w') ∧ ∀ q, q ≠ b → w'.heap[q]? = w.heap[q]?) → K (a.put o.dst undef) w') : o.wp Tryz.prog a w K Q :=
  wp_store_row 26 x y ho b (cpC d) hx hy 26 (cpC d0) h infoC rfl (cpC_one d) (k _ ⟨setRow_heap w b _ _ 26 _ h, fun B hB => ⟨rfl, rfl, rfl, by simp, fun q hq => setRow_other w b q _ (by omega)⟩, fun q hq => setRow_other w b q _ hq⟩)
theorem laidM_ok (at_ len : Nat) (P : Nat → Int) (h : ∀ j, 0 ≤ P j ∧ P j < 256) (j : Nat) : 0 ≤ laidM at_ len P j ∧ laidM at_ len P j < 256 := by
  unfold laidM
  split
  · exact h _
  · exact (by decide : (0 : Int) ≤ 0 ∧ (0 : Int) < 256)
theorem Fm.cpl (w : World) (c : Cp) (at_ : Nat) (sp : Option Addr) (plen pcap : Nat) (a : Option Addr) (len cap : Nat) : Fm w [(w.heap.size, cpC c, 26), (w.heap.size + 1, (plC at_ sp plen pcap a len cap), 42)] ((w.alloc (.cells (cpC c) 26)).alloc (.cells (plC at_ sp plen pcap a len cap) 42)) := by
  have h := ((Fm.nil w).new (cpC c) 26).new (plC at_ sp plen pcap a len cap) 42
  simpa using h
theorem mem_long1 (w : World) (c : Cp) (hc : c.wf) (at_ : Nat) (hat : at_ < 65536) (sp : Option Addr) (plen pcap : Nat) (hpl : plen ≤ maxLen) (a : Option Addr) (len cap : Nat) (hl : len ≤ maxLen) (h : (2147483647 : Int) < plen) : Calls Tryz.prog 4 #[.agg (cpC c), .agg (plC at_ sp plen pcap a len cap)] w fun e w' => e = .returned (.bool true) ∧ Below w.heap.size w w' := by
  have b1' : (plen : Int) ≤ 9223372036854775807 := by unfold maxLen at hpl; omega
  have b2' : (len : Int) ≤ 9223372036854775807 := by unfold maxLen at hl; omega
  have hF : Hid (Fm w [(w.heap.size, cpC c, 26), (w.heap.size + 1, (plC at_ sp plen pcap a len cap), 42)] ((w.alloc (.cells (cpC c) 26)).alloc (.cells (plC at_ sp plen pcap a len cap) 42))) := Fm.cpl w c at_ sp plen pcap a len cap
  clear hc hpl hl
  go_enter Tryz.func4, Tryz.ntmps4
  go_wp2_with (first
    | (refine gen_world ((w.alloc (.cells (cpC c) 26)).alloc (.cells (plC at_ sp plen pcap a len cap) 42)) (Fm w [(w.heap.size, cpC c, 26), (w.heap.size + 1, (plC at_ sp plen pcap a len cap), 42)]) hF.out ?_; intro y0 K0; have c0 : y0.cell? ⟨w.heap.size + 1, 0, none⟩ = some (.int .u16 (at_ : Int)) := cell_heap (K0.out.get 1 _ _ _ rfl) 0; have c1 : y0.cell? ⟨w.heap.size + 1, 1, none⟩ = some (.slice sp plen pcap) := cell_heap (K0.out.get 1 _ _ _ rfl) 1; have c2 : y0.cell? ⟨w.heap.size + 1, 2, none⟩ = some (.slice a len cap) := cell_heap (K0.out.get 1 _ _ _ rfl) 2; refine stopAt ?_))
  refine Stop.go ?_
  go_wp2
  go_ret
  exact ⟨rfl, K0.out.low⟩
theorem mem_long2 (w : World) (c : Cp) (hc : c.wf) (at_ : Nat) (hat : at_ < 65536) (sp : Option Addr) (plen pcap : Nat) (hpl : plen ≤ maxLen) (a : Option Addr) (len cap : Nat) (hl : len ≤ maxLen) (h1 : (plen : Int) ≤ 2147483647) (h : (2147483647 : Int) < len) : Calls Tryz.prog 4 #[.agg (cpC c), .agg (plC at_ sp plen pcap a len cap)] w fun e w' => e = .returned (.bool true) ∧ Below w.heap.size w w' := by
  have b1' : (plen : Int) ≤ 9223372036854775807 := by unfold maxLen at hpl; omega
  have b2' : (len : Int) ≤ 9223372036854775807 := by unfold maxLen at hl; omega
  have hF : Hid (Fm w [(w.heap.size, cpC c, 26), (w.heap.size + 1, (plC at_ sp plen pcap a len cap), 42)] ((w.alloc (.cells (cpC c) 26)).alloc (.cells (plC at_ sp plen pcap a len cap) 42))) := Fm.cpl w c at_ sp plen pcap a len cap
  clear hc hpl hl
  go_enter Tryz.func4, Tryz.ntmps4
  go_wp2_with (first
    | (refine gen_world ((w.alloc (.cells (cpC c) 26)).alloc (.cells (plC at_ sp plen pcap a len cap) 42)) (Fm w [(w.heap.size, cpC c, 26), (w.heap.size + 1, (plC at_ sp plen pcap a len cap), 42)]) hF.out ?_; intro y0 K0; have c0 : y0.cell? ⟨w.heap.size + 1, 0, none⟩ = some (.int .u16 (at_ : Int)) := cell_heap (K0.out.get 1 _ _ _ rfl) 0; have c1 : y0.cell? ⟨w.heap.size + 1, 1, none⟩ = some (.slice sp plen pcap) := cell_heap (K0.out.get 1 _ _ _ rfl) 1; have c2 : y0.cell? ⟨w.heap.size + 1, 2, none⟩ = some (.slice a len cap) := cell_heap (K0.out.get 1 _ _ _ rfl) 2; refine stopAt ?_))
  refine Stop.go ?_
  go_wp2
  go_ret
  exact ⟨rfl, K0.out.low⟩
theorem mem_long3 (w : World) (c : Cp) (hc : c.wf) (at_ : Nat) (hat : at_ < 65536) (sp : Option Addr) (plen pcap : Nat) (hpl : plen ≤ maxLen) (a : Option Addr) (len cap : Nat) (hl : len ≤ maxLen) (h1 : (plen : Int) ≤ 2147483647) (h2 : (len : Int) ≤ 2147483647) (h : (2147483647 : Int) < (plen : Int) + len) : Calls Tryz.prog 4 #[.agg (cpC c), .agg (plC at_ sp plen pcap a len cap)] w fun e w' => e = .returned (.bool true) ∧ Below w.heap.size w w' := by
  have b1' : (plen : Int) ≤ 9223372036854775807 := by unfold maxLen at hpl; omega
  have b2' : (len : Int) ≤ 9223372036854775807 := by unfold maxLen at hl; omega
  have hF : Hid (Fm w [(w.heap.size, cpC c, 26), (w.heap.size + 1, (plC at_ sp plen pcap a len cap), 42)] ((w.alloc (.cells (cpC c) 26)).alloc (.cells (plC at_ sp plen pcap a len cap) 42))) := Fm.cpl w c at_ sp plen pcap a len cap
  clear hc hpl hl
  go_enter Tryz.func4, Tryz.ntmps4
  go_wp2_with (first
    | (refine gen_world ((w.alloc (.cells (cpC c) 26)).alloc (.cells (plC at_ sp plen pcap a len cap) 42)) (Fm w [(w.heap.size, cpC c, 26), (w.heap.size + 1, (plC at_ sp plen pcap a len cap), 42)]) hF.out ?_; intro y0 K0; have c0 : y0.cell? ⟨w.heap.size + 1, 0, none⟩ = some (.int .u16 (at_ : Int)) := cell_heap (K0.out.get 1 _ _ _ rfl) 0; have c1 : y0.cell? ⟨w.heap.size + 1, 1, none⟩ = some (.slice sp plen pcap) := cell_heap (K0.out.get 1 _ _ _ rfl) 1; have c2 : y0.cell? ⟨w.heap.size + 1, 2, none⟩ = some (.slice a len cap) := cell_heap (K0.out.get 1 _ _ _ rfl) 2; refine stopAt ?_))
  refine Stop.go ?_
  go_wp2
  go_ret
  exact ⟨rfl, K0.out.low⟩
theorem mem_short (w : World) (c : Cp) (hc : c.wf) (at_ : Nat) (hat : at_ < 65536) (sp : Option Addr) (plen pcap : Nat) (hpl : plen ≤ maxLen) (a : Option Addr) (len cap : Nat) (hl : len ≤ maxLen) (h1 : (plen : Int) ≤ 2147483647) (h2 : (len : Int) ≤ 2147483647) (h3 : (plen : Int) + len ≤ 2147483647) (P : Nat → Int) (hP0 : ∀ j, 0 ≤ P j ∧ P j < 256) (hP : Lies w sp plen P) (hPin : PinsIn w a len) (tb : Tabs w) : Calls Tryz.prog 4 #[.agg (cpC c), .agg (plC at_ sp plen pcap a len cap)] w fun e w' => e = .returned (.bool true) ∧ Below w.heap.size w w' := by
  have hc' : Hid c.wf := hc
  have hP' : Hid (PinsIn w a len) := hPin
  have tb' : Hid (Tabs w) := tb
  have hRo : Hid (∀ v, Below w.heap.size w v → Calls Tryz.prog 13 #[.int .i64 (at_ : Int), .slice sp plen pcap] v fun e w' => e = .returned (.slice (some ⟨v.heap.size, 0, none⟩) 65536 65536) ∧ Hid (Blk w' v.heap.size 65536 (laidM at_ plen P) ∧ Below v.heap.size v w')) := fun v hb => lroom v at_ hat sp plen pcap hpl P (fun j hj => by obtain ⟨gb, ob, e, k⟩ := hP j hj; exact ⟨gb, ob, e, (World.cell?_of_block (w := w) (a := ⟨gb, ob + j, none⟩) (hb.block gb (World.block_lt_of_cell? w ⟨gb, ob + j, none⟩ k))).trans k⟩)
  have hY0 : Hid (∀ j, 0 ≤ laidM at_ plen P j ∧ laidM at_ plen P j < 256) := laidM_ok at_ plen P hP0
  have hF : Hid (Fm w [(w.heap.size, cpC c, 26), (w.heap.size + 1, (plC at_ sp plen pcap a len cap), 42)] ((w.alloc (.cells (cpC c) 26)).alloc (.cells (plC at_ sp plen pcap a len cap) 42))) := Fm.cpl w c at_ sp plen pcap a len cap
  have zz := zeroVC
  have zd := zeroVD
  have zp := zeroVP
  obtain ⟨Y0, hYe⟩ : ∃ Y, laidM at_ plen P = Y := ⟨_, rfl⟩
  rw [hYe] at hRo hY0
  have a1 : (at_ : Int) ≤ 65535 := by omega
  clear hc hat hpl hl hP0 hP hPin tb hYe
  go_enter Tryz.func4, Tryz.ntmps4
  go_wp2_with (first
    | (refine gen_world ((w.alloc (.cells (cpC c) 26)).alloc (.cells (plC at_ sp plen pcap a len cap) 42)) (Fm w [(w.heap.size, cpC c, 26), (w.heap.size + 1, (plC at_ sp plen pcap a len cap), 42)]) hF.out ?_; intro y0 K0; have c0 : y0.cell? ⟨w.heap.size + 1, 0, none⟩ = some (.int .u16 (at_ : Int)) := cell_heap (K0.out.get 1 _ _ _ rfl) 0; have c1 : y0.cell? ⟨w.heap.size + 1, 1, none⟩ = some (.slice sp plen pcap) := cell_heap (K0.out.get 1 _ _ _ rfl) 1; have c2 : y0.cell? ⟨w.heap.size + 1, 2, none⟩ = some (.slice a len cap) := cell_heap (K0.out.get 1 _ _ _ rfl) 2; refine stopAt ?_))
  refine Stop.go ?_
  go_wp2_with (first
    | (go_at_call 13; refine (hRo.out _ K1.out.low).mono ?_; rintro e v2 ⟨rfl, hr2⟩; obtain ⟨MB0, hM2, J2⟩ := K1.out.newM hr2.out.2 hr2.out.1; replace hM2 : Hid (IsMem MB0 Y0) := hM2; obtain ⟨gb, hg2⟩ : ∃ g, v1.heap.size = g := ⟨_, rfl⟩; rw [hg2] at J2 ⊢; have K2 : Hid (Fm w [(w.heap.size, cpC c, 26), (w.heap.size + 1, (plC at_ sp plen pcap a len cap), 42), (ga, MA0, 5), (gb, MB0, 5)] v2) := J2; clear J2 hr2 hg2; have c0 : v2.cell? ⟨w.heap.size + 1, 0, none⟩ = some (.int .u16 (at_ : Int)) := cell_heap (K2.out.get 1 _ _ _ rfl) 0; have c1 : v2.cell? ⟨w.heap.size + 1, 1, none⟩ = some (.slice sp plen pcap) := cell_heap (K2.out.get 1 _ _ _ rfl) 1; have c2 : v2.cell? ⟨w.heap.size + 1, 2, none⟩ = some (.slice a len cap) := cell_heap (K2.out.get 1 _ _ _ rfl) 2)
    | (go_at_call 13; refine (hRo.out _ K0.out.low).mono ?_; rintro e v1 ⟨rfl, hr1⟩; obtain ⟨MA0, hM1, J1⟩ := K0.out.newM hr1.out.2 hr1.out.1; replace hM1 : Hid (IsMem MA0 Y0) := hM1; obtain ⟨ga, hg1⟩ : ∃ g, y0.heap.size = g := ⟨_, rfl⟩; rw [hg1] at J1 ⊢; have K1 : Hid (Fm w [(w.heap.size, cpC c, 26), (w.heap.size + 1, (plC at_ sp plen pcap a len cap), 42), (ga, MA0, 5)] v1) := J1; clear J1 hr1 hg1; have c0 : v1.cell? ⟨w.heap.size + 1, 0, none⟩ = some (.int .u16 (at_ : Int)) := cell_heap (K1.out.get 1 _ _ _ rfl) 0; have c1 : v1.cell? ⟨w.heap.size + 1, 1, none⟩ = some (.slice sp plen pcap) := cell_heap (K1.out.get 1 _ _ _ rfl) 1; have c2 : v1.cell? ⟨w.heap.size + 1, 2, none⟩ = some (.slice a len cap) := cell_heap (K1.out.get 1 _ _ _ rfl) 2)
    | ((with_reducible refine gen_world _ (Fm w [(w.heap.size, cpC c, 26), (w.heap.size + 1, (plC at_ sp plen pcap a len cap), 42), (ga, MA0, 5), (gb, MB0, 5), (v2.heap.size, cpC zeroC, 26)]) ?_ ?_); exact K2.out.new _ _; intro y3 K3)
    | ((with_reducible refine at_storeC v2.heap.size zeroC c ?_ (.tmp 7) (.tmp 45) ?_ ?_ ?_ ?_ ?_); exact K3.out.get 4 _ _ _ rfl; rfl; rfl; rfl; rfl; intro y4 hw4; have K4 : Hid (Fm w [(w.heap.size, cpC c, 26), (w.heap.size + 1, (plC at_ sp plen pcap a len cap), 42), (ga, MA0, 5), (gb, MB0, 5), (v2.heap.size, cpC c, 26)] y4) := K3.out.put 4 _ _ _ _ rfl hw4.out)
    | ((with_reducible refine gen_world _ (Fm w [(w.heap.size, cpC c, 26), (w.heap.size + 1, (plC at_ sp plen pcap a len cap), 42), (ga, MA0, 5), (gb, MB0, 5), (v2.heap.size, cpC c, 26), (y4.heap.size, cpC zeroC, 26)]) ?_ ?_); exact K4.out.new _ _; intro y5 K5)
    | ((with_reducible refine at_storeC y4.heap.size zeroC c ?_ (.tmp 8) (.tmp 46) ?_ ?_ ?_ ?_ ?_); exact K5.out.get 5 _ _ _ rfl; rfl; rfl; rfl; rfl; intro y6 hw6; have K6 : Hid (Fm w [(w.heap.size, cpC c, 26), (w.heap.size + 1, (plC at_ sp plen pcap a len cap), 42), (ga, MA0, 5), (gb, MB0, 5), (v2.heap.size, cpC c, 26), (y4.heap.size, cpC c, 26)] y6) := K5.out.put 5 _ _ _ _ rfl hw6.out)
    | ((with_reducible refine at_loadC w.heap.size c ?_ (.tmp 2) ?_ ?_ ?_ ?_); exact K4.out.get 0 _ _ _ rfl; rfl; rfl; rfl)
    | ((with_reducible refine at_loadC w.heap.size c ?_ (.tmp 2) ?_ ?_ ?_ ?_); exact K2.out.get 0 _ _ _ rfl; rfl; rfl; rfl))
  obtain ⟨bx, hbx⟩ : ∃ b, v2.heap.size = b := ⟨_, rfl⟩
  obtain ⟨by_, hby⟩ : ∃ b, y4.heap.size = b := ⟨_, rfl⟩
  rw [hbx, hby] at K6 ⊢
  go_loopw [9] (fun i wz => ∃ (k : Nat) (wx : World) (X : Cp) (Y : Nat → Int) (MA MB : Array Value), wx = wz ∧ k ≤ len ∧ i = .int .i64 (k : Int) ∧ Hid X.wf ∧ Hid (∀ j, 0 ≤ Y j ∧ Y j < 256) ∧ Hid (IsMem MA Y ∧ IsMem MB Y) ∧ Hid (Fm w [(w.heap.size, cpC c, 26), (w.heap.size + 1, (plC at_ sp plen pcap a len cap), 42), (ga, MA, 5), (gb, MB, 5), (bx, cpC X, 26), (by_, cpC X, 26)] wx)) (fun i _ => (len - intOf i).toNat)
  case atStart => exact ⟨0, _, c, Y0, MA0, MB0, rfl, by omega, rfl, hc', hY0, ⟨hM1.out, hM2.out⟩, K6⟩
  case round =>
    clear K0 K1 K2 K3 K4 K5 K6 hM1 hM2 hw4 hw6 hF hRo hbx hby c0 c1 c2
    obtain ⟨k, wx, X, Y, MA, MB, rfl, hk, rfl, hX, hY, hM, K⟩ := hrel
    by_cases hlt : k < len
    · obtain ⟨g, off, p, rfl, hp, hr⟩ := hP'.out k hlt
      have q1 : (k : Int) < len := by omega
      obtain ⟨q, hq⟩ : ∃ q, off + k * 9 = q := ⟨_, rfl⟩
      have ij : ∀ v, (Instr.indexAt 27 (.slice (some ⟨g, off, none⟩) len cap) (.int .i64 (k : Int))).run Tryz.prog v = .ok (.pointer (some ⟨g, q, none⟩)) v := fun v => by
        have := idxP (g := g) (off := off) (len := len) (cap := cap) Tryz.underlying27 (s := 9) infoP .i64 k v hlt
        rw [hq] at this
        exact this
      rw [hq] at hr
      have hr' : Hid (∀ l y, Fm w l y → y.rangeAt g q (pnC p).toList) := fun l y hy => range_keep hr hy.low
      have hm' : Hid (∀ l y, Fm w l y → y.cell? ⟨g, q, none⟩ = some (.int .u8 (p.Mode : Int))) := fun l y hy => range_keep hr hy.low 0 _ rfl
      have hk' : Hid (k < len) := hlt
      have hga : w.heap.size ≤ ga := K.out.ge 2 _ _ _ rfl
      have hNw : Hid (cycM X Y p).wf := cycM_wf hX.out hY.out hp
      have hZ : Hid (∀ j, 0 ≤ memM X Y p j ∧ memM X Y p j < 256) := memM_ok hX.out hY.out hp
      have hC : Hid (∀ v, Below w.heap.size w v → Blk v ga 65536 Y → Calls Tryz.prog 14 #[.agg (cpC X), .slice (some ⟨ga, 0, none⟩) 65536 65536, .agg (pnC p)] v fun e w' => e = .returned (.agg (cpC (cycM X Y p))) ∧ Hid (Blk w' ga 65536 (memM X Y p) ∧ Upd ga v w')) := fun v hb hm => lcycle w v tb'.out hb ga hga Y hY.out hm X hX.out p hp
      have hD2 := fun v t => rdrive_any v X hX.out t p.Mode hp.Mode
      have hV0 := busM_ok hX.out hY.out hp
      have hS2 := fun v => rstep_any v X hX.out { p with Data := busM X Y p } ⟨hp.Mode, hV0⟩
      have hA0 := driveM_ok hX.out p.Mode
      have eN : stepM X { p with Data := busM X Y p } = cycM X Y p := rfl
      rw [eN] at hS2
      have hZe : memM X Y p = if (driveM X p.Mode).Wr then fun j => if j = (driveM X p.Mode).Addr.toNat then busM X Y p else Y j else Y := rfl
      have hVe : busM X Y p = if (driveM X p.Mode).Own then (driveM X p.Mode).Data else if (driveM X p.Mode).Rd then Y (driveM X p.Mode).Addr.toNat else p.Data := rfl
      obtain ⟨N, hN⟩ : ∃ N, cycM X Y p = N := ⟨_, rfl⟩
      obtain ⟨Z, hZn⟩ : ∃ Z, memM X Y p = Z := ⟨_, rfl⟩
      obtain ⟨V, hVn⟩ : ∃ V, busM X Y p = V := ⟨_, rfl⟩
      obtain ⟨D, hDn⟩ : ∃ D, driveM X p.Mode = D := ⟨_, rfl⟩
      rw [hN] at hNw hC hS2
      rw [hZn] at hZ hC hZe
      rw [hVn] at hS2 hVe hZe
      rw [hDn] at hD2 hA0 hVe hZe
      obtain ⟨A, hAn⟩ : ∃ A : Nat, D.Addr.toNat = A := ⟨_, rfl⟩
      have hA : D.Addr = (A : Int) := by omega
      have hA1 : A < 65536 := by omega
      rw [hAn] at hVe hZe
      obtain ⟨m, hmn⟩ : ∃ m : Int, (p.Mode : Int) = m := ⟨_, rfl⟩
      rw [hmn] at hD2 hm'
      have iA : ∀ v, (Instr.indexAt 40 (.slice (some ⟨gb, 0, none⟩) 65536 65536) (.int .u16 (A : Int))).run Tryz.prog v = .ok (.pointer (some ⟨gb, A, none⟩)) v := fun v => by
        have := idxS (g := gb) (off := 0) (len := 65536) (cap := 65536) Tryz.underlying40 (s := 1) (by kernel_rfl) .u16 A v hA1
        simpa using this
      have hmb : Hid (∀ l y (i : Nat), Fm w l y → l[i]? = some (gb, MB, 5) → y.cell? ⟨gb, A, none⟩ = some (.int .u8 (Y A)) ∧ y.frozen? ⟨gb, A, none⟩ = false) := fun l y i hy hi => ⟨(cell_heap (hy.get i _ _ _ hi) A).trans (hM.out.2.2 A hA1), frozen_heap (hy.get i _ _ _ hi) A⟩
      replace hA : Hid _ := hA
      have cc2 : Hid (∀ l y, Fm w ((w.heap.size, cpC c, 26) :: (w.heap.size + 1, plC at_ sp plen pcap (some ⟨g, off, none⟩) len cap, 42) :: l) y → y.cell? ⟨w.heap.size + 1, 2, none⟩ = some (.slice (some ⟨g, off, none⟩) len cap)) := fun l y hy => cell_heap (hy.get 1 _ _ _ rfl) 2
      have d2 := cc2.out _ _ K.out
      clear hr hq hlt hk hga hV0 hA0 eN hN hZn hVn hDn hAn hmn hA1 hp
      rcases g3 : D.Wr with _ | _ <;> rcases g4 : D.Own with _ | _
      · rcases g2 : D.Rd with _ | _
        · have e1 : Z = Y := by rw [hZe, g3]; rfl
          have e2 : V = p.Data := by rw [hVe, g4, g2]; rfl
          clear hZe hVe
          replace e1 : Hid _ := e1
          replace e2 : Hid _ := e2
          replace g2 : Hid _ := g2
          replace g3 : Hid _ := g3
          replace g4 : Hid _ := g4
          go_wp2
          refine region_class_tail 7 (Fm w [(w.heap.size, cpC c, 26), (w.heap.size + 1, (plC at_ sp plen pcap (some ⟨g, off, none⟩) len cap), 42), (ga, MA, 5), (gb, MB, 5), (bx, cpC X, 26), (by_, cpC X, 26)]) (by kernel_rfl) (by kernel_rfl) (K.out.below (below_drew (Below.refl _ _))) ?_
          simp only [List.take_succ_cons, List.take_zero, List.drop_succ_cons, List.drop_zero]
          refine quiet_one (.agg (cpC X)) rfl (quiet_loadC bx X (fun _ h => h.get 4 _ _ _ rfl) (.tmp 7) rfl (by go_simp)) ?_
          refine quiet_one (.slice (some ⟨ga, 0, none⟩) 65536 65536) rfl (fun u hy => by go_simp) ?_
          refine quiet_one (.pointer (some ⟨w.heap.size + 1, 2, none⟩)) rfl (fun u hy => by go_simp) ?_
          refine quiet_one (.slice (some ⟨g, off, none⟩) len cap) rfl (fun u hy => by have d := cc2.out _ _ hy; go_simp) ?_
          refine quiet_one (.int .i64 (k : Int)) rfl (fun u hy => by go_simp) ?_
          refine quiet_one (.pointer (some ⟨g, q, none⟩)) rfl (fun u hy => by go_simp) ?_
          refine quiet_one (.agg (pnC p)) rfl (fun u hy => by
            generalize ha : Act.put _ _ _ = a
            have e59 : a.eval (.tmp 59) = .pointer (some ⟨g, q, none⟩) := by rw [← ha]; go_simp
            clear ha
            exact quiet_loadPm (C := Fm w [(w.heap.size, cpC c, 26), (w.heap.size + 1, (plC at_ sp plen pcap (some ⟨g, off, none⟩) len cap), 42), (ga, MA, 5), (gb, MB, 5), (bx, cpC X, 26), (by_, cpC X, 26)]) g q p (fun _ h => hr'.out _ _ h) (.tmp 59) rfl e59 u hy) ?_
          refine wpQuiet_nil ?_
          intro z0 Kz
          replace Kz : Hid (Fm w [(w.heap.size, cpC c, 26), (w.heap.size + 1, (plC at_ sp plen pcap (some ⟨g, off, none⟩) len cap), 42), (ga, MA, 5), (gb, MB, 5), (bx, cpC X, 26), (by_, cpC X, 26)] z0) := Kz
          clear K
          go_simp
          go_wp2_with (first
            | (go_at_call 14; refine (hC.out _ Kz.out.low (Kz.out.blk (i := 2) rfl hM.out.1)).mono ?_; rintro e v7 ⟨rfl, hb7⟩; obtain ⟨MA7, hMA, J7⟩ := Kz.out.updM 2 ga MA rfl hb7.out.1 hb7.out.2; replace hMA : Hid (IsMem MA7 Z) := hMA; replace J7 : Hid (Fm w [(w.heap.size, cpC c, 26), (w.heap.size + 1, (plC at_ sp plen pcap (some ⟨g, off, none⟩) len cap), 42), (ga, MA7, 5), (gb, MB, 5), (bx, cpC X, 26), (by_, cpC X, 26)] v7) := J7)
            | (refine at_storeC bx X N (J7.out.get 4 _ _ _ rfl) _ _ rfl rfl rfl rfl ?_; intro y8 hw8; have K8 : Hid (Fm w [(w.heap.size, cpC c, 26), (w.heap.size + 1, (plC at_ sp plen pcap (some ⟨g, off, none⟩) len cap), 42), (ga, MA7, 5), (gb, MB, 5), (bx, cpC N, 26), (by_, cpC X, 26)] y8) := J7.out.put 4 _ _ _ _ rfl hw8.out))
          clear J7 hw8 hC Kz hb7
          refine wp_region_held_drew (S := Fm w [(w.heap.size, cpC c, 26), (w.heap.size + 1, (plC at_ sp plen pcap (some ⟨g, off, none⟩) len cap), 42), (ga, MA7, 5), (gb, MB, 5), (bx, cpC N, 26), (by_, cpC X, 26)]) (by kernel_rfl) (K8.out.below (below_drew (Below.refl _ _))) (fun hH => ?_)
          generalize y8.drew = z1 at hH ⊢
          clear K8
          refine wpAnyH_take (i := 0) (v := .agg (cpC X)) rfl (by kernel_rfl) (by kernel_rfl) (by kernel_rfl) (fun _ _ _ h => h) (yieldsC by_ X (fun _ h => h.get 5 _ _ _ rfl) _ rfl rfl rfl) hH ?_
          try simp only [Act.put, List.setIfInBounds_toArray]
          refine wpAnyH_take (i := 1) (v := .pointer (some ⟨w.heap.size + 1, 2, none⟩)) rfl (by kernel_rfl) (by kernel_rfl) (by kernel_rfl) (fun _ _ _ h => h) (.inl ⟨by rfl, fun u hu => by go_simp⟩) hH ?_
          try simp only [Act.put]
          refine wpAnyH_take (i := 2) (v := .slice (some ⟨g, off, none⟩) len cap) rfl (by kernel_rfl) (by kernel_rfl) (by kernel_rfl) (fun _ _ _ h => h) (.inl ⟨by rfl, fun u hu => by have d := cc2.out _ _ hu; go_simp⟩) hH ?_
          try simp only [Act.put]
          refine wpAnyH_take (i := 3) (v := .int .i64 (k : Int)) rfl (by kernel_rfl) (by kernel_rfl) (by kernel_rfl) (fun _ _ _ h => h) (.inl ⟨by rfl, fun u hu => by go_simp⟩) hH ?_
          try simp only [Act.put]
          refine wpAnyH_take (i := 4) (v := .pointer (some ⟨g, q, none⟩)) rfl (by kernel_rfl) (by kernel_rfl) (by kernel_rfl) (fun _ _ _ h => h) (.inl ⟨by rfl, fun u hu => by go_simp⟩) hH ?_
          try simp only [Act.put]
          refine wpAnyH_take (i := 5) (v := .pointer (some ⟨g, q, none⟩)) rfl (by kernel_rfl) (by kernel_rfl) (by kernel_rfl) (fun _ _ _ h => h) (.inl ⟨by rfl, fun u hu => by go_simp⟩) hH ?_
          try simp only [Act.put]
          refine wpAnyH_take (i := 6) (v := .int .u8 m) rfl (by kernel_rfl) (by kernel_rfl) (by kernel_rfl) (fun _ _ _ h => h) (.inl ⟨by rfl, fun u hu => by have d := hm'.out _ _ hu; go_simp⟩) hH ?_
          try simp only [Act.put]
          refine wpAnyH_ready (rs := [7, 8]) (by kernel_rfl) (by simp) (AllReadyH.cons rfl (fun K hK => ?_) (AllReadyH.cons rfl (fun K hK => ?_) AllReadyH.nil))
          · rw [if_pos (by rfl)]
            go_wp2_with (go_at_call 10; refine (hD2 _ (tb'.out.below hH.low)).mono ?_; rintro e v9 ⟨rfl, hb9⟩)
            refine hK.out _ _ (hH.below hb9) (fun hH => ?_)
            clear hK K hb9
            refine wpAnyH_ready (rs := [8]) (by kernel_rfl) (by simp) (AllReadyH.cons rfl (fun K hK => ?_) AllReadyH.nil)
            rw [if_pos (by rfl)]
            go_wp2
            have K4 := hH.new (dvC zeroD) 33
            refine hK.out _ _ (hH.below ((Below.refl _ _).alloc (Nat.le_refl _) _)) (fun hH => ?_)
            clear hK K
            generalize v9.heap.size = bd at K4 ⊢
            generalize v9.alloc _ = y10 at K4 hH ⊢
            refine wpAnyH_ready (rs := [9]) (by kernel_rfl) (by simp) (AllReadyH.cons rfl (fun K hK => ?_) AllReadyH.nil)
            rw [if_pos (by rfl)]
            refine wp_storeD bd zeroD D (K4.get 6 _ _ _ rfl) _ _ rfl rfl rfl ?_
            intro y11 hw11
            have K11 : Hid (Fm w [(w.heap.size, cpC c, 26), (w.heap.size + 1, (plC at_ sp plen pcap (some ⟨g, off, none⟩) len cap), 42), (ga, MA7, 5), (gb, MB, 5), (bx, cpC N, 26), (by_, cpC X, 26), (bd, dvC D, 33)] y11) := K4.put 6 _ _ _ _ rfl hw11.out
            refine hK.out _ _ (Fm.pre (l' := [(bd, dvC D, 33)]) K11.out) (fun _ => ?_)
            clear hK K hH K4 hw11
            refine wpAnyH_done (by kernel_rfl) ?_ _
            have d11 := cc2.out _ _ K11.out
            have pe : ({ p with Data := V } : Pn) = p := by rw [e2.out]
            rw [pe] at hS2
            clear pe
            go_wp2_with (first
              | (refine at_loadPm g q p (hr'.out _ _ K11.out) _ rfl rfl rfl ?_)
              | (refine gen_world (y11.alloc (.cells (pnC zeroP) 38)) (Fm w [(w.heap.size, cpC c, 26), (w.heap.size + 1, (plC at_ sp plen pcap (some ⟨g, off, none⟩) len cap), 42), (ga, MA7, 5), (gb, MB, 5), (bx, cpC N, 26), (by_, cpC X, 26), (bd, dvC D, 33), (y11.heap.size, pnC zeroP, 38)]) (K11.out.new _ _) ?_; intro y12 K12)
              | (refine at_storeP y11.heap.size zeroP p (K12.out.get 7 _ _ _ rfl) _ _ rfl rfl rfl rfl ?_; intro y13 hw13; have K13 : Hid (Fm w [(w.heap.size, cpC c, 26), (w.heap.size + 1, (plC at_ sp plen pcap (some ⟨g, off, none⟩) len cap), 42), (ga, MA7, 5), (gb, MB, 5), (bx, cpC N, 26), (by_, cpC X, 26), (bd, dvC D, 33), (y11.heap.size, pnC p, 38)] y13) := K12.out.put 7 _ _ _ _ rfl hw13.out; have f1 := BoxD.f1 (K13.out.get 6 _ _ _ rfl); have f2 := BoxD.f2 (K13.out.get 6 _ _ _ rfl); have f3 := BoxD.f3 (K13.out.get 6 _ _ _ rfl); have f4 := BoxD.f4 (K13.out.get 6 _ _ _ rfl); have f5 := BoxD.f5 (K13.out.get 6 _ _ _ rfl); rw [hA.out] at f1; rw [g3.out] at f3; rw [g4.out] at f4; rw [g2.out] at f2)
              | (go_at_call 12; refine (hS2 _).mono ?_; rintro e v19 ⟨rfl, hb19⟩; have K19 : Hid (Fm w [(w.heap.size, cpC c, 26), (w.heap.size + 1, (plC at_ sp plen pcap (some ⟨g, off, none⟩) len cap), 42), (ga, MA7, 5), (gb, MB, 5), (bx, cpC N, 26), (by_, cpC X, 26), (bd, dvC D, 33), (y11.heap.size, pnC p, 38)] v19) := K13.out.below hb19)
              | (refine at_storeC by_ X N (K19.out.get 5 _ _ _ rfl) _ _ rfl rfl rfl rfl ?_; intro y20 hw20; have K20 : Hid (Fm w [(w.heap.size, cpC c, 26), (w.heap.size + 1, (plC at_ sp plen pcap (some ⟨g, off, none⟩) len cap), 42), (ga, MA7, 5), (gb, MB, 5), (bx, cpC N, 26), (by_, cpC N, 26), (bd, dvC D, 33), (y11.heap.size, pnC p, 38)] y20) := K19.out.put 5 _ _ _ _ rfl hw20.out)
              | (refine at_neC N N rfl _ _ _ rfl rfl rfl rfl ?_)
              | (refine at_loadC bx N (K20.out.get 4 _ _ _ rfl) _ rfl rfl rfl ?_)
              | (refine at_loadC by_ N (K20.out.get 5 _ _ _ rfl) _ rfl rfl rfl ?_)
              | (refine at_loadC by_ X (K13.out.get 5 _ _ _ rfl) _ rfl rfl rfl ?_)
              | (refine at_loadP y11.heap.size p (K13.out.get 7 _ _ _ rfl) _ rfl rfl rfl ?_))
            go_roundw
            case rel => exact ⟨k + 1, _, N, Z, MA7, MB, rfl, by have := hk'.out; omega, by simp, hNw, hZ, ⟨hMA.out, (by rw [e1.out]; exact hM.out.2)⟩, Fm.pre (l' := [(bd, dvC D, 33), (y11.heap.size, pnC p, 38)]) K20.out⟩
            case measure => have := hk'.out; simp [intOf]; omega
          · rw [if_pos (by rfl)]
            go_wp2
            have K4 := hH.new (dvC zeroD) 33
            refine hK.out _ _ (hH.below ((Below.refl _ _).alloc (Nat.le_refl _) _)) (fun hH => ?_)
            clear hK K
            generalize z1.heap.size = bd at K4 ⊢
            generalize z1.alloc _ = y10 at K4 hH ⊢
            refine wpAnyH_ready (rs := [7]) (by kernel_rfl) (by simp) (AllReadyH.cons rfl (fun K hK => ?_) AllReadyH.nil)
            rw [if_pos (by rfl)]
            go_wp2_with (go_at_call 10; refine (hD2 _ (tb'.out.below hH.low)).mono ?_; rintro e v9 ⟨rfl, hb9⟩)
            replace K4 := K4.below hb9
            refine hK.out _ _ (hH.below hb9) (fun hH => ?_)
            clear hK K hb9
            refine wpAnyH_ready (rs := [9]) (by kernel_rfl) (by simp) (AllReadyH.cons rfl (fun K hK => ?_) AllReadyH.nil)
            rw [if_pos (by rfl)]
            refine wp_storeD bd zeroD D (K4.get 6 _ _ _ rfl) _ _ rfl rfl rfl ?_
            intro y11 hw11
            have K11 : Hid (Fm w [(w.heap.size, cpC c, 26), (w.heap.size + 1, (plC at_ sp plen pcap (some ⟨g, off, none⟩) len cap), 42), (ga, MA7, 5), (gb, MB, 5), (bx, cpC N, 26), (by_, cpC X, 26), (bd, dvC D, 33)] y11) := K4.put 6 _ _ _ _ rfl hw11.out
            refine hK.out _ _ (Fm.pre (l' := [(bd, dvC D, 33)]) K11.out) (fun _ => ?_)
            clear hK K hH K4 hw11
            refine wpAnyH_done (by kernel_rfl) ?_ _
            have d11 := cc2.out _ _ K11.out
            have pe : ({ p with Data := V } : Pn) = p := by rw [e2.out]
            rw [pe] at hS2
            clear pe
            go_wp2_with (first
              | (refine at_loadPm g q p (hr'.out _ _ K11.out) _ rfl rfl rfl ?_)
              | (refine gen_world (y11.alloc (.cells (pnC zeroP) 38)) (Fm w [(w.heap.size, cpC c, 26), (w.heap.size + 1, (plC at_ sp plen pcap (some ⟨g, off, none⟩) len cap), 42), (ga, MA7, 5), (gb, MB, 5), (bx, cpC N, 26), (by_, cpC X, 26), (bd, dvC D, 33), (y11.heap.size, pnC zeroP, 38)]) (K11.out.new _ _) ?_; intro y12 K12)
              | (refine at_storeP y11.heap.size zeroP p (K12.out.get 7 _ _ _ rfl) _ _ rfl rfl rfl rfl ?_; intro y13 hw13; have K13 : Hid (Fm w [(w.heap.size, cpC c, 26), (w.heap.size + 1, (plC at_ sp plen pcap (some ⟨g, off, none⟩) len cap), 42), (ga, MA7, 5), (gb, MB, 5), (bx, cpC N, 26), (by_, cpC X, 26), (bd, dvC D, 33), (y11.heap.size, pnC p, 38)] y13) := K12.out.put 7 _ _ _ _ rfl hw13.out; have f1 := BoxD.f1 (K13.out.get 6 _ _ _ rfl); have f2 := BoxD.f2 (K13.out.get 6 _ _ _ rfl); have f3 := BoxD.f3 (K13.out.get 6 _ _ _ rfl); have f4 := BoxD.f4 (K13.out.get 6 _ _ _ rfl); have f5 := BoxD.f5 (K13.out.get 6 _ _ _ rfl); rw [hA.out] at f1; rw [g3.out] at f3; rw [g4.out] at f4; rw [g2.out] at f2)
              | (go_at_call 12; refine (hS2 _).mono ?_; rintro e v19 ⟨rfl, hb19⟩; have K19 : Hid (Fm w [(w.heap.size, cpC c, 26), (w.heap.size + 1, (plC at_ sp plen pcap (some ⟨g, off, none⟩) len cap), 42), (ga, MA7, 5), (gb, MB, 5), (bx, cpC N, 26), (by_, cpC X, 26), (bd, dvC D, 33), (y11.heap.size, pnC p, 38)] v19) := K13.out.below hb19)
              | (refine at_storeC by_ X N (K19.out.get 5 _ _ _ rfl) _ _ rfl rfl rfl rfl ?_; intro y20 hw20; have K20 : Hid (Fm w [(w.heap.size, cpC c, 26), (w.heap.size + 1, (plC at_ sp plen pcap (some ⟨g, off, none⟩) len cap), 42), (ga, MA7, 5), (gb, MB, 5), (bx, cpC N, 26), (by_, cpC N, 26), (bd, dvC D, 33), (y11.heap.size, pnC p, 38)] y20) := K19.out.put 5 _ _ _ _ rfl hw20.out)
              | (refine at_neC N N rfl _ _ _ rfl rfl rfl rfl ?_)
              | (refine at_loadC bx N (K20.out.get 4 _ _ _ rfl) _ rfl rfl rfl ?_)
              | (refine at_loadC by_ N (K20.out.get 5 _ _ _ rfl) _ rfl rfl rfl ?_)
              | (refine at_loadC by_ X (K13.out.get 5 _ _ _ rfl) _ rfl rfl rfl ?_)
              | (refine at_loadP y11.heap.size p (K13.out.get 7 _ _ _ rfl) _ rfl rfl rfl ?_))
            go_roundw
            case rel => exact ⟨k + 1, _, N, Z, MA7, MB, rfl, by have := hk'.out; omega, by simp, hNw, hZ, ⟨hMA.out, (by rw [e1.out]; exact hM.out.2)⟩, Fm.pre (l' := [(bd, dvC D, 33), (y11.heap.size, pnC p, 38)]) K20.out⟩
            case measure => have := hk'.out; simp [intOf]; omega
        · have e1 : Z = Y := by rw [hZe, g3]; rfl
          have e2 : V = Y A := by rw [hVe, g4, g2]; rfl
          clear hZe hVe
          replace e1 : Hid _ := e1
          replace e2 : Hid _ := e2
          replace g2 : Hid _ := g2
          replace g3 : Hid _ := g3
          replace g4 : Hid _ := g4
          go_wp2
          refine region_class_tail 7 (Fm w [(w.heap.size, cpC c, 26), (w.heap.size + 1, (plC at_ sp plen pcap (some ⟨g, off, none⟩) len cap), 42), (ga, MA, 5), (gb, MB, 5), (bx, cpC X, 26), (by_, cpC X, 26)]) (by kernel_rfl) (by kernel_rfl) (K.out.below (below_drew (Below.refl _ _))) ?_
          simp only [List.take_succ_cons, List.take_zero, List.drop_succ_cons, List.drop_zero]
          refine quiet_one (.agg (cpC X)) rfl (quiet_loadC bx X (fun _ h => h.get 4 _ _ _ rfl) (.tmp 7) rfl (by go_simp)) ?_
          refine quiet_one (.slice (some ⟨ga, 0, none⟩) 65536 65536) rfl (fun u hy => by go_simp) ?_
          refine quiet_one (.pointer (some ⟨w.heap.size + 1, 2, none⟩)) rfl (fun u hy => by go_simp) ?_
          refine quiet_one (.slice (some ⟨g, off, none⟩) len cap) rfl (fun u hy => by have d := cc2.out _ _ hy; go_simp) ?_
          refine quiet_one (.int .i64 (k : Int)) rfl (fun u hy => by go_simp) ?_
          refine quiet_one (.pointer (some ⟨g, q, none⟩)) rfl (fun u hy => by go_simp) ?_
          refine quiet_one (.agg (pnC p)) rfl (fun u hy => by
            generalize ha : Act.put _ _ _ = a
            have e59 : a.eval (.tmp 59) = .pointer (some ⟨g, q, none⟩) := by rw [← ha]; go_simp
            clear ha
            exact quiet_loadPm (C := Fm w [(w.heap.size, cpC c, 26), (w.heap.size + 1, (plC at_ sp plen pcap (some ⟨g, off, none⟩) len cap), 42), (ga, MA, 5), (gb, MB, 5), (bx, cpC X, 26), (by_, cpC X, 26)]) g q p (fun _ h => hr'.out _ _ h) (.tmp 59) rfl e59 u hy) ?_
          refine wpQuiet_nil ?_
          intro z0 Kz
          replace Kz : Hid (Fm w [(w.heap.size, cpC c, 26), (w.heap.size + 1, (plC at_ sp plen pcap (some ⟨g, off, none⟩) len cap), 42), (ga, MA, 5), (gb, MB, 5), (bx, cpC X, 26), (by_, cpC X, 26)] z0) := Kz
          clear K
          go_simp
          go_wp2_with (first
            | (go_at_call 14; refine (hC.out _ Kz.out.low (Kz.out.blk (i := 2) rfl hM.out.1)).mono ?_; rintro e v7 ⟨rfl, hb7⟩; obtain ⟨MA7, hMA, J7⟩ := Kz.out.updM 2 ga MA rfl hb7.out.1 hb7.out.2; replace hMA : Hid (IsMem MA7 Z) := hMA; replace J7 : Hid (Fm w [(w.heap.size, cpC c, 26), (w.heap.size + 1, (plC at_ sp plen pcap (some ⟨g, off, none⟩) len cap), 42), (ga, MA7, 5), (gb, MB, 5), (bx, cpC X, 26), (by_, cpC X, 26)] v7) := J7)
            | (refine at_storeC bx X N (J7.out.get 4 _ _ _ rfl) _ _ rfl rfl rfl rfl ?_; intro y8 hw8; have K8 : Hid (Fm w [(w.heap.size, cpC c, 26), (w.heap.size + 1, (plC at_ sp plen pcap (some ⟨g, off, none⟩) len cap), 42), (ga, MA7, 5), (gb, MB, 5), (bx, cpC N, 26), (by_, cpC X, 26)] y8) := J7.out.put 4 _ _ _ _ rfl hw8.out))
          clear J7 hw8 hC Kz hb7
          refine wp_region_held_drew (S := Fm w [(w.heap.size, cpC c, 26), (w.heap.size + 1, (plC at_ sp plen pcap (some ⟨g, off, none⟩) len cap), 42), (ga, MA7, 5), (gb, MB, 5), (bx, cpC N, 26), (by_, cpC X, 26)]) (by kernel_rfl) (K8.out.below (below_drew (Below.refl _ _))) (fun hH => ?_)
          generalize y8.drew = z1 at hH ⊢
          clear K8
          refine wpAnyH_take (i := 0) (v := .agg (cpC X)) rfl (by kernel_rfl) (by kernel_rfl) (by kernel_rfl) (fun _ _ _ h => h) (yieldsC by_ X (fun _ h => h.get 5 _ _ _ rfl) _ rfl rfl rfl) hH ?_
          try simp only [Act.put, List.setIfInBounds_toArray]
          refine wpAnyH_take (i := 1) (v := .pointer (some ⟨w.heap.size + 1, 2, none⟩)) rfl (by kernel_rfl) (by kernel_rfl) (by kernel_rfl) (fun _ _ _ h => h) (.inl ⟨by rfl, fun u hu => by go_simp⟩) hH ?_
          try simp only [Act.put]
          refine wpAnyH_take (i := 2) (v := .slice (some ⟨g, off, none⟩) len cap) rfl (by kernel_rfl) (by kernel_rfl) (by kernel_rfl) (fun _ _ _ h => h) (.inl ⟨by rfl, fun u hu => by have d := cc2.out _ _ hu; go_simp⟩) hH ?_
          try simp only [Act.put]
          refine wpAnyH_take (i := 3) (v := .int .i64 (k : Int)) rfl (by kernel_rfl) (by kernel_rfl) (by kernel_rfl) (fun _ _ _ h => h) (.inl ⟨by rfl, fun u hu => by go_simp⟩) hH ?_
          try simp only [Act.put]
          refine wpAnyH_take (i := 4) (v := .pointer (some ⟨g, q, none⟩)) rfl (by kernel_rfl) (by kernel_rfl) (by kernel_rfl) (fun _ _ _ h => h) (.inl ⟨by rfl, fun u hu => by go_simp⟩) hH ?_
          try simp only [Act.put]
          refine wpAnyH_take (i := 5) (v := .pointer (some ⟨g, q, none⟩)) rfl (by kernel_rfl) (by kernel_rfl) (by kernel_rfl) (fun _ _ _ h => h) (.inl ⟨by rfl, fun u hu => by go_simp⟩) hH ?_
          try simp only [Act.put]
          refine wpAnyH_take (i := 6) (v := .int .u8 m) rfl (by kernel_rfl) (by kernel_rfl) (by kernel_rfl) (fun _ _ _ h => h) (.inl ⟨by rfl, fun u hu => by have d := hm'.out _ _ hu; go_simp⟩) hH ?_
          try simp only [Act.put]
          refine wpAnyH_ready (rs := [7, 8]) (by kernel_rfl) (by simp) (AllReadyH.cons rfl (fun K hK => ?_) (AllReadyH.cons rfl (fun K hK => ?_) AllReadyH.nil))
          · rw [if_pos (by rfl)]
            go_wp2_with (go_at_call 10; refine (hD2 _ (tb'.out.below hH.low)).mono ?_; rintro e v9 ⟨rfl, hb9⟩)
            refine hK.out _ _ (hH.below hb9) (fun hH => ?_)
            clear hK K hb9
            refine wpAnyH_ready (rs := [8]) (by kernel_rfl) (by simp) (AllReadyH.cons rfl (fun K hK => ?_) AllReadyH.nil)
            rw [if_pos (by rfl)]
            go_wp2
            have K4 := hH.new (dvC zeroD) 33
            refine hK.out _ _ (hH.below ((Below.refl _ _).alloc (Nat.le_refl _) _)) (fun hH => ?_)
            clear hK K
            generalize v9.heap.size = bd at K4 ⊢
            generalize v9.alloc _ = y10 at K4 hH ⊢
            refine wpAnyH_ready (rs := [9]) (by kernel_rfl) (by simp) (AllReadyH.cons rfl (fun K hK => ?_) AllReadyH.nil)
            rw [if_pos (by rfl)]
            refine wp_storeD bd zeroD D (K4.get 6 _ _ _ rfl) _ _ rfl rfl rfl ?_
            intro y11 hw11
            have K11 : Hid (Fm w [(w.heap.size, cpC c, 26), (w.heap.size + 1, (plC at_ sp plen pcap (some ⟨g, off, none⟩) len cap), 42), (ga, MA7, 5), (gb, MB, 5), (bx, cpC N, 26), (by_, cpC X, 26), (bd, dvC D, 33)] y11) := K4.put 6 _ _ _ _ rfl hw11.out
            refine hK.out _ _ (Fm.pre (l' := [(bd, dvC D, 33)]) K11.out) (fun _ => ?_)
            clear hK K hH K4 hw11
            refine wpAnyH_done (by kernel_rfl) ?_ _
            have d11 := cc2.out _ _ K11.out
            go_wp2_with (first
              | (refine at_loadPm g q p (hr'.out _ _ K11.out) _ rfl rfl rfl ?_)
              | (refine gen_world (y11.alloc (.cells (pnC zeroP) 38)) (Fm w [(w.heap.size, cpC c, 26), (w.heap.size + 1, (plC at_ sp plen pcap (some ⟨g, off, none⟩) len cap), 42), (ga, MA7, 5), (gb, MB, 5), (bx, cpC N, 26), (by_, cpC X, 26), (bd, dvC D, 33), (y11.heap.size, pnC zeroP, 38)]) (K11.out.new _ _) ?_; intro y12 K12)
              | (refine at_storeP y11.heap.size zeroP p (K12.out.get 7 _ _ _ rfl) _ _ rfl rfl rfl rfl ?_; intro y13 hw13; have K13 : Hid (Fm w [(w.heap.size, cpC c, 26), (w.heap.size + 1, (plC at_ sp plen pcap (some ⟨g, off, none⟩) len cap), 42), (ga, MA7, 5), (gb, MB, 5), (bx, cpC N, 26), (by_, cpC X, 26), (bd, dvC D, 33), (y11.heap.size, pnC p, 38)] y13) := K12.out.put 7 _ _ _ _ rfl hw13.out; have f1 := BoxD.f1 (K13.out.get 6 _ _ _ rfl); have f2 := BoxD.f2 (K13.out.get 6 _ _ _ rfl); have f3 := BoxD.f3 (K13.out.get 6 _ _ _ rfl); have f4 := BoxD.f4 (K13.out.get 6 _ _ _ rfl); have f5 := BoxD.f5 (K13.out.get 6 _ _ _ rfl); rw [hA.out] at f1; rw [g3.out] at f3; rw [g4.out] at f4; rw [g2.out] at f2; have mr := (hmb.out _ _ 3 K13.out rfl).1; rw [← e2.out] at mr; have pd := BoxP.fData (K13.out.get 7 _ _ _ rfl); have pz := frozen_heap (K13.out.get 7 _ _ _ rfl) 1; have Sp : Hid (Fm w [(w.heap.size, cpC c, 26), (w.heap.size + 1, (plC at_ sp plen pcap (some ⟨g, off, none⟩) len cap), 42), (ga, MA7, 5), (gb, MB, 5), (bx, cpC N, 26), (by_, cpC X, 26), (bd, dvC D, 33), (y11.heap.size, pnC { p with Data := V }, 38)] (y13.setCell ⟨y11.heap.size, 1, none⟩ (.int .u8 V))) := K13.out.setCell 7 _ _ _ _ rfl 1 _ rfl)
              | (refine gen_world (y13.setCell ⟨y11.heap.size, 1, none⟩ (.int .u8 V)) (Fm w [(w.heap.size, cpC c, 26), (w.heap.size + 1, (plC at_ sp plen pcap (some ⟨g, off, none⟩) len cap), 42), (ga, MA7, 5), (gb, MB, 5), (bx, cpC N, 26), (by_, cpC X, 26), (bd, dvC D, 33), (y11.heap.size, pnC { p with Data := V }, 38)]) Sp.out ?_; intro y14 K14; have f1 := BoxD.f1 (K14.out.get 6 _ _ _ rfl); have f2 := BoxD.f2 (K14.out.get 6 _ _ _ rfl); have f3 := BoxD.f3 (K14.out.get 6 _ _ _ rfl); have f4 := BoxD.f4 (K14.out.get 6 _ _ _ rfl); have f5 := BoxD.f5 (K14.out.get 6 _ _ _ rfl); rw [hA.out] at f1; rw [g3.out] at f3; rw [g4.out] at f4; rw [g2.out] at f2)
              | (go_at_call 12; refine (hS2 _).mono ?_; rintro e v19 ⟨rfl, hb19⟩; have K19 : Hid (Fm w [(w.heap.size, cpC c, 26), (w.heap.size + 1, (plC at_ sp plen pcap (some ⟨g, off, none⟩) len cap), 42), (ga, MA7, 5), (gb, MB, 5), (bx, cpC N, 26), (by_, cpC X, 26), (bd, dvC D, 33), (y11.heap.size, pnC { p with Data := V }, 38)] v19) := K14.out.below hb19)
              | (refine at_storeC by_ X N (K19.out.get 5 _ _ _ rfl) _ _ rfl rfl rfl rfl ?_; intro y20 hw20; have K20 : Hid (Fm w [(w.heap.size, cpC c, 26), (w.heap.size + 1, (plC at_ sp plen pcap (some ⟨g, off, none⟩) len cap), 42), (ga, MA7, 5), (gb, MB, 5), (bx, cpC N, 26), (by_, cpC N, 26), (bd, dvC D, 33), (y11.heap.size, pnC { p with Data := V }, 38)] y20) := K19.out.put 5 _ _ _ _ rfl hw20.out)
              | (refine at_neC N N rfl _ _ _ rfl rfl rfl rfl ?_)
              | (refine at_loadC bx N (K20.out.get 4 _ _ _ rfl) _ rfl rfl rfl ?_)
              | (refine at_loadC by_ N (K20.out.get 5 _ _ _ rfl) _ rfl rfl rfl ?_)
              | (refine at_loadC by_ X (K14.out.get 5 _ _ _ rfl) _ rfl rfl rfl ?_)
              | (refine at_loadP y11.heap.size { p with Data := V } (K14.out.get 7 _ _ _ rfl) _ rfl rfl rfl ?_))
            go_roundw
            case rel => exact ⟨k + 1, _, N, Z, MA7, MB, rfl, by have := hk'.out; omega, by simp, hNw, hZ, ⟨hMA.out, (by rw [e1.out]; exact hM.out.2)⟩, Fm.pre (l' := [(bd, dvC D, 33), (y11.heap.size, pnC { p with Data := V }, 38)]) K20.out⟩
            case measure => have := hk'.out; simp [intOf]; omega
          · rw [if_pos (by rfl)]
            go_wp2
            have K4 := hH.new (dvC zeroD) 33
            refine hK.out _ _ (hH.below ((Below.refl _ _).alloc (Nat.le_refl _) _)) (fun hH => ?_)
            clear hK K
            generalize z1.heap.size = bd at K4 ⊢
            generalize z1.alloc _ = y10 at K4 hH ⊢
            refine wpAnyH_ready (rs := [7]) (by kernel_rfl) (by simp) (AllReadyH.cons rfl (fun K hK => ?_) AllReadyH.nil)
            rw [if_pos (by rfl)]
            go_wp2_with (go_at_call 10; refine (hD2 _ (tb'.out.below hH.low)).mono ?_; rintro e v9 ⟨rfl, hb9⟩)
            replace K4 := K4.below hb9
            refine hK.out _ _ (hH.below hb9) (fun hH => ?_)
            clear hK K hb9
            refine wpAnyH_ready (rs := [9]) (by kernel_rfl) (by simp) (AllReadyH.cons rfl (fun K hK => ?_) AllReadyH.nil)
            rw [if_pos (by rfl)]
            refine wp_storeD bd zeroD D (K4.get 6 _ _ _ rfl) _ _ rfl rfl rfl ?_
            intro y11 hw11
            have K11 : Hid (Fm w [(w.heap.size, cpC c, 26), (w.heap.size + 1, (plC at_ sp plen pcap (some ⟨g, off, none⟩) len cap), 42), (ga, MA7, 5), (gb, MB, 5), (bx, cpC N, 26), (by_, cpC X, 26), (bd, dvC D, 33)] y11) := K4.put 6 _ _ _ _ rfl hw11.out
            refine hK.out _ _ (Fm.pre (l' := [(bd, dvC D, 33)]) K11.out) (fun _ => ?_)
            clear hK K hH K4 hw11
            refine wpAnyH_done (by kernel_rfl) ?_ _
            have d11 := cc2.out _ _ K11.out
            go_wp2_with (first
              | (refine at_loadPm g q p (hr'.out _ _ K11.out) _ rfl rfl rfl ?_)
              | (refine gen_world (y11.alloc (.cells (pnC zeroP) 38)) (Fm w [(w.heap.size, cpC c, 26), (w.heap.size + 1, (plC at_ sp plen pcap (some ⟨g, off, none⟩) len cap), 42), (ga, MA7, 5), (gb, MB, 5), (bx, cpC N, 26), (by_, cpC X, 26), (bd, dvC D, 33), (y11.heap.size, pnC zeroP, 38)]) (K11.out.new _ _) ?_; intro y12 K12)
              | (refine at_storeP y11.heap.size zeroP p (K12.out.get 7 _ _ _ rfl) _ _ rfl rfl rfl rfl ?_; intro y13 hw13; have K13 : Hid (Fm w [(w.heap.size, cpC c, 26), (w.heap.size + 1, (plC at_ sp plen pcap (some ⟨g, off, none⟩) len cap), 42), (ga, MA7, 5), (gb, MB, 5), (bx, cpC N, 26), (by_, cpC X, 26), (bd, dvC D, 33), (y11.heap.size, pnC p, 38)] y13) := K12.out.put 7 _ _ _ _ rfl hw13.out; have f1 := BoxD.f1 (K13.out.get 6 _ _ _ rfl); have f2 := BoxD.f2 (K13.out.get 6 _ _ _ rfl); have f3 := BoxD.f3 (K13.out.get 6 _ _ _ rfl); have f4 := BoxD.f4 (K13.out.get 6 _ _ _ rfl); have f5 := BoxD.f5 (K13.out.get 6 _ _ _ rfl); rw [hA.out] at f1; rw [g3.out] at f3; rw [g4.out] at f4; rw [g2.out] at f2; have mr := (hmb.out _ _ 3 K13.out rfl).1; rw [← e2.out] at mr; have pd := BoxP.fData (K13.out.get 7 _ _ _ rfl); have pz := frozen_heap (K13.out.get 7 _ _ _ rfl) 1; have Sp : Hid (Fm w [(w.heap.size, cpC c, 26), (w.heap.size + 1, (plC at_ sp plen pcap (some ⟨g, off, none⟩) len cap), 42), (ga, MA7, 5), (gb, MB, 5), (bx, cpC N, 26), (by_, cpC X, 26), (bd, dvC D, 33), (y11.heap.size, pnC { p with Data := V }, 38)] (y13.setCell ⟨y11.heap.size, 1, none⟩ (.int .u8 V))) := K13.out.setCell 7 _ _ _ _ rfl 1 _ rfl)
              | (refine gen_world (y13.setCell ⟨y11.heap.size, 1, none⟩ (.int .u8 V)) (Fm w [(w.heap.size, cpC c, 26), (w.heap.size + 1, (plC at_ sp plen pcap (some ⟨g, off, none⟩) len cap), 42), (ga, MA7, 5), (gb, MB, 5), (bx, cpC N, 26), (by_, cpC X, 26), (bd, dvC D, 33), (y11.heap.size, pnC { p with Data := V }, 38)]) Sp.out ?_; intro y14 K14; have f1 := BoxD.f1 (K14.out.get 6 _ _ _ rfl); have f2 := BoxD.f2 (K14.out.get 6 _ _ _ rfl); have f3 := BoxD.f3 (K14.out.get 6 _ _ _ rfl); have f4 := BoxD.f4 (K14.out.get 6 _ _ _ rfl); have f5 := BoxD.f5 (K14.out.get 6 _ _ _ rfl); rw [hA.out] at f1; rw [g3.out] at f3; rw [g4.out] at f4; rw [g2.out] at f2)
              | (go_at_call 12; refine (hS2 _).mono ?_; rintro e v19 ⟨rfl, hb19⟩; have K19 : Hid (Fm w [(w.heap.size, cpC c, 26), (w.heap.size + 1, (plC at_ sp plen pcap (some ⟨g, off, none⟩) len cap), 42), (ga, MA7, 5), (gb, MB, 5), (bx, cpC N, 26), (by_, cpC X, 26), (bd, dvC D, 33), (y11.heap.size, pnC { p with Data := V }, 38)] v19) := K14.out.below hb19)
              | (refine at_storeC by_ X N (K19.out.get 5 _ _ _ rfl) _ _ rfl rfl rfl rfl ?_; intro y20 hw20; have K20 : Hid (Fm w [(w.heap.size, cpC c, 26), (w.heap.size + 1, (plC at_ sp plen pcap (some ⟨g, off, none⟩) len cap), 42), (ga, MA7, 5), (gb, MB, 5), (bx, cpC N, 26), (by_, cpC N, 26), (bd, dvC D, 33), (y11.heap.size, pnC { p with Data := V }, 38)] y20) := K19.out.put 5 _ _ _ _ rfl hw20.out)
              | (refine at_neC N N rfl _ _ _ rfl rfl rfl rfl ?_)
              | (refine at_loadC bx N (K20.out.get 4 _ _ _ rfl) _ rfl rfl rfl ?_)
              | (refine at_loadC by_ N (K20.out.get 5 _ _ _ rfl) _ rfl rfl rfl ?_)
              | (refine at_loadC by_ X (K14.out.get 5 _ _ _ rfl) _ rfl rfl rfl ?_)
              | (refine at_loadP y11.heap.size { p with Data := V } (K14.out.get 7 _ _ _ rfl) _ rfl rfl rfl ?_))
            go_roundw
            case rel => exact ⟨k + 1, _, N, Z, MA7, MB, rfl, by have := hk'.out; omega, by simp, hNw, hZ, ⟨hMA.out, (by rw [e1.out]; exact hM.out.2)⟩, Fm.pre (l' := [(bd, dvC D, 33), (y11.heap.size, pnC { p with Data := V }, 38)]) K20.out⟩
            case measure => have := hk'.out; simp [intOf]; omega
      · have e1 : Z = Y := by rw [hZe, g3]; rfl
        have e2 : V = D.Data := by rw [hVe, g4]; rfl
        clear hZe hVe
        replace e1 : Hid _ := e1
        replace e2 : Hid _ := e2
        replace g3 : Hid _ := g3
        replace g4 : Hid _ := g4
        go_wp2
        refine region_class_tail 7 (Fm w [(w.heap.size, cpC c, 26), (w.heap.size + 1, (plC at_ sp plen pcap (some ⟨g, off, none⟩) len cap), 42), (ga, MA, 5), (gb, MB, 5), (bx, cpC X, 26), (by_, cpC X, 26)]) (by kernel_rfl) (by kernel_rfl) (K.out.below (below_drew (Below.refl _ _))) ?_
        simp only [List.take_succ_cons, List.take_zero, List.drop_succ_cons, List.drop_zero]
        refine quiet_one (.agg (cpC X)) rfl (quiet_loadC bx X (fun _ h => h.get 4 _ _ _ rfl) (.tmp 7) rfl (by go_simp)) ?_
        refine quiet_one (.slice (some ⟨ga, 0, none⟩) 65536 65536) rfl (fun u hy => by go_simp) ?_
        refine quiet_one (.pointer (some ⟨w.heap.size + 1, 2, none⟩)) rfl (fun u hy => by go_simp) ?_
        refine quiet_one (.slice (some ⟨g, off, none⟩) len cap) rfl (fun u hy => by have d := cc2.out _ _ hy; go_simp) ?_
        refine quiet_one (.int .i64 (k : Int)) rfl (fun u hy => by go_simp) ?_
        refine quiet_one (.pointer (some ⟨g, q, none⟩)) rfl (fun u hy => by go_simp) ?_
        refine quiet_one (.agg (pnC p)) rfl (fun u hy => by
          generalize ha : Act.put _ _ _ = a
          have e59 : a.eval (.tmp 59) = .pointer (some ⟨g, q, none⟩) := by rw [← ha]; go_simp
          clear ha
          exact quiet_loadPm (C := Fm w [(w.heap.size, cpC c, 26), (w.heap.size + 1, (plC at_ sp plen pcap (some ⟨g, off, none⟩) len cap), 42), (ga, MA, 5), (gb, MB, 5), (bx, cpC X, 26), (by_, cpC X, 26)]) g q p (fun _ h => hr'.out _ _ h) (.tmp 59) rfl e59 u hy) ?_
        refine wpQuiet_nil ?_
        intro z0 Kz
        replace Kz : Hid (Fm w [(w.heap.size, cpC c, 26), (w.heap.size + 1, (plC at_ sp plen pcap (some ⟨g, off, none⟩) len cap), 42), (ga, MA, 5), (gb, MB, 5), (bx, cpC X, 26), (by_, cpC X, 26)] z0) := Kz
        clear K
        go_simp
        go_wp2_with (first
          | (go_at_call 14; refine (hC.out _ Kz.out.low (Kz.out.blk (i := 2) rfl hM.out.1)).mono ?_; rintro e v7 ⟨rfl, hb7⟩; obtain ⟨MA7, hMA, J7⟩ := Kz.out.updM 2 ga MA rfl hb7.out.1 hb7.out.2; replace hMA : Hid (IsMem MA7 Z) := hMA; replace J7 : Hid (Fm w [(w.heap.size, cpC c, 26), (w.heap.size + 1, (plC at_ sp plen pcap (some ⟨g, off, none⟩) len cap), 42), (ga, MA7, 5), (gb, MB, 5), (bx, cpC X, 26), (by_, cpC X, 26)] v7) := J7)
          | (refine at_storeC bx X N (J7.out.get 4 _ _ _ rfl) _ _ rfl rfl rfl rfl ?_; intro y8 hw8; have K8 : Hid (Fm w [(w.heap.size, cpC c, 26), (w.heap.size + 1, (plC at_ sp plen pcap (some ⟨g, off, none⟩) len cap), 42), (ga, MA7, 5), (gb, MB, 5), (bx, cpC N, 26), (by_, cpC X, 26)] y8) := J7.out.put 4 _ _ _ _ rfl hw8.out))
        clear J7 hw8 hC Kz hb7
        refine wp_region_held_drew (S := Fm w [(w.heap.size, cpC c, 26), (w.heap.size + 1, (plC at_ sp plen pcap (some ⟨g, off, none⟩) len cap), 42), (ga, MA7, 5), (gb, MB, 5), (bx, cpC N, 26), (by_, cpC X, 26)]) (by kernel_rfl) (K8.out.below (below_drew (Below.refl _ _))) (fun hH => ?_)
        generalize y8.drew = z1 at hH ⊢
        clear K8
        refine wpAnyH_take (i := 0) (v := .agg (cpC X)) rfl (by kernel_rfl) (by kernel_rfl) (by kernel_rfl) (fun _ _ _ h => h) (yieldsC by_ X (fun _ h => h.get 5 _ _ _ rfl) _ rfl rfl rfl) hH ?_
        try simp only [Act.put, List.setIfInBounds_toArray]
        refine wpAnyH_take (i := 1) (v := .pointer (some ⟨w.heap.size + 1, 2, none⟩)) rfl (by kernel_rfl) (by kernel_rfl) (by kernel_rfl) (fun _ _ _ h => h) (.inl ⟨by rfl, fun u hu => by go_simp⟩) hH ?_
        try simp only [Act.put]
        refine wpAnyH_take (i := 2) (v := .slice (some ⟨g, off, none⟩) len cap) rfl (by kernel_rfl) (by kernel_rfl) (by kernel_rfl) (fun _ _ _ h => h) (.inl ⟨by rfl, fun u hu => by have d := cc2.out _ _ hu; go_simp⟩) hH ?_
        try simp only [Act.put]
        refine wpAnyH_take (i := 3) (v := .int .i64 (k : Int)) rfl (by kernel_rfl) (by kernel_rfl) (by kernel_rfl) (fun _ _ _ h => h) (.inl ⟨by rfl, fun u hu => by go_simp⟩) hH ?_
        try simp only [Act.put]
        refine wpAnyH_take (i := 4) (v := .pointer (some ⟨g, q, none⟩)) rfl (by kernel_rfl) (by kernel_rfl) (by kernel_rfl) (fun _ _ _ h => h) (.inl ⟨by rfl, fun u hu => by go_simp⟩) hH ?_
        try simp only [Act.put]
        refine wpAnyH_take (i := 5) (v := .pointer (some ⟨g, q, none⟩)) rfl (by kernel_rfl) (by kernel_rfl) (by kernel_rfl) (fun _ _ _ h => h) (.inl ⟨by rfl, fun u hu => by go_simp⟩) hH ?_
        try simp only [Act.put]
        refine wpAnyH_take (i := 6) (v := .int .u8 m) rfl (by kernel_rfl) (by kernel_rfl) (by kernel_rfl) (fun _ _ _ h => h) (.inl ⟨by rfl, fun u hu => by have d := hm'.out _ _ hu; go_simp⟩) hH ?_
        try simp only [Act.put]
        refine wpAnyH_ready (rs := [7, 8]) (by kernel_rfl) (by simp) (AllReadyH.cons rfl (fun K hK => ?_) (AllReadyH.cons rfl (fun K hK => ?_) AllReadyH.nil))
        · rw [if_pos (by rfl)]
          go_wp2_with (go_at_call 10; refine (hD2 _ (tb'.out.below hH.low)).mono ?_; rintro e v9 ⟨rfl, hb9⟩)
          refine hK.out _ _ (hH.below hb9) (fun hH => ?_)
          clear hK K hb9
          refine wpAnyH_ready (rs := [8]) (by kernel_rfl) (by simp) (AllReadyH.cons rfl (fun K hK => ?_) AllReadyH.nil)
          rw [if_pos (by rfl)]
          go_wp2
          have K4 := hH.new (dvC zeroD) 33
          refine hK.out _ _ (hH.below ((Below.refl _ _).alloc (Nat.le_refl _) _)) (fun hH => ?_)
          clear hK K
          generalize v9.heap.size = bd at K4 ⊢
          generalize v9.alloc _ = y10 at K4 hH ⊢
          refine wpAnyH_ready (rs := [9]) (by kernel_rfl) (by simp) (AllReadyH.cons rfl (fun K hK => ?_) AllReadyH.nil)
          rw [if_pos (by rfl)]
          refine wp_storeD bd zeroD D (K4.get 6 _ _ _ rfl) _ _ rfl rfl rfl ?_
          intro y11 hw11
          have K11 : Hid (Fm w [(w.heap.size, cpC c, 26), (w.heap.size + 1, (plC at_ sp plen pcap (some ⟨g, off, none⟩) len cap), 42), (ga, MA7, 5), (gb, MB, 5), (bx, cpC N, 26), (by_, cpC X, 26), (bd, dvC D, 33)] y11) := K4.put 6 _ _ _ _ rfl hw11.out
          refine hK.out _ _ (Fm.pre (l' := [(bd, dvC D, 33)]) K11.out) (fun _ => ?_)
          clear hK K hH K4 hw11
          refine wpAnyH_done (by kernel_rfl) ?_ _
          have d11 := cc2.out _ _ K11.out
          go_wp2_with (first
            | (refine at_loadPm g q p (hr'.out _ _ K11.out) _ rfl rfl rfl ?_)
            | (refine gen_world (y11.alloc (.cells (pnC zeroP) 38)) (Fm w [(w.heap.size, cpC c, 26), (w.heap.size + 1, (plC at_ sp plen pcap (some ⟨g, off, none⟩) len cap), 42), (ga, MA7, 5), (gb, MB, 5), (bx, cpC N, 26), (by_, cpC X, 26), (bd, dvC D, 33), (y11.heap.size, pnC zeroP, 38)]) (K11.out.new _ _) ?_; intro y12 K12)
            | (refine at_storeP y11.heap.size zeroP p (K12.out.get 7 _ _ _ rfl) _ _ rfl rfl rfl rfl ?_; intro y13 hw13; have K13 : Hid (Fm w [(w.heap.size, cpC c, 26), (w.heap.size + 1, (plC at_ sp plen pcap (some ⟨g, off, none⟩) len cap), 42), (ga, MA7, 5), (gb, MB, 5), (bx, cpC N, 26), (by_, cpC X, 26), (bd, dvC D, 33), (y11.heap.size, pnC p, 38)] y13) := K12.out.put 7 _ _ _ _ rfl hw13.out; have f1 := BoxD.f1 (K13.out.get 6 _ _ _ rfl); have f2 := BoxD.f2 (K13.out.get 6 _ _ _ rfl); have f3 := BoxD.f3 (K13.out.get 6 _ _ _ rfl); have f4 := BoxD.f4 (K13.out.get 6 _ _ _ rfl); have f5 := BoxD.f5 (K13.out.get 6 _ _ _ rfl); rw [hA.out] at f1; rw [g3.out] at f3; rw [g4.out] at f4; rw [← e2.out] at f5; have pd := BoxP.fData (K13.out.get 7 _ _ _ rfl); have pz := frozen_heap (K13.out.get 7 _ _ _ rfl) 1; have Sp : Hid (Fm w [(w.heap.size, cpC c, 26), (w.heap.size + 1, (plC at_ sp plen pcap (some ⟨g, off, none⟩) len cap), 42), (ga, MA7, 5), (gb, MB, 5), (bx, cpC N, 26), (by_, cpC X, 26), (bd, dvC D, 33), (y11.heap.size, pnC { p with Data := V }, 38)] (y13.setCell ⟨y11.heap.size, 1, none⟩ (.int .u8 V))) := K13.out.setCell 7 _ _ _ _ rfl 1 _ rfl)
            | (refine gen_world (y13.setCell ⟨y11.heap.size, 1, none⟩ (.int .u8 V)) (Fm w [(w.heap.size, cpC c, 26), (w.heap.size + 1, (plC at_ sp plen pcap (some ⟨g, off, none⟩) len cap), 42), (ga, MA7, 5), (gb, MB, 5), (bx, cpC N, 26), (by_, cpC X, 26), (bd, dvC D, 33), (y11.heap.size, pnC { p with Data := V }, 38)]) Sp.out ?_; intro y14 K14; have f1 := BoxD.f1 (K14.out.get 6 _ _ _ rfl); have f2 := BoxD.f2 (K14.out.get 6 _ _ _ rfl); have f3 := BoxD.f3 (K14.out.get 6 _ _ _ rfl); have f4 := BoxD.f4 (K14.out.get 6 _ _ _ rfl); have f5 := BoxD.f5 (K14.out.get 6 _ _ _ rfl); rw [hA.out] at f1; rw [g3.out] at f3; rw [g4.out] at f4)
            | (go_at_call 12; refine (hS2 _).mono ?_; rintro e v19 ⟨rfl, hb19⟩; have K19 : Hid (Fm w [(w.heap.size, cpC c, 26), (w.heap.size + 1, (plC at_ sp plen pcap (some ⟨g, off, none⟩) len cap), 42), (ga, MA7, 5), (gb, MB, 5), (bx, cpC N, 26), (by_, cpC X, 26), (bd, dvC D, 33), (y11.heap.size, pnC { p with Data := V }, 38)] v19) := K14.out.below hb19)
            | (refine at_storeC by_ X N (K19.out.get 5 _ _ _ rfl) _ _ rfl rfl rfl rfl ?_; intro y20 hw20; have K20 : Hid (Fm w [(w.heap.size, cpC c, 26), (w.heap.size + 1, (plC at_ sp plen pcap (some ⟨g, off, none⟩) len cap), 42), (ga, MA7, 5), (gb, MB, 5), (bx, cpC N, 26), (by_, cpC N, 26), (bd, dvC D, 33), (y11.heap.size, pnC { p with Data := V }, 38)] y20) := K19.out.put 5 _ _ _ _ rfl hw20.out)
            | (refine at_neC N N rfl _ _ _ rfl rfl rfl rfl ?_)
            | (refine at_loadC bx N (K20.out.get 4 _ _ _ rfl) _ rfl rfl rfl ?_)
            | (refine at_loadC by_ N (K20.out.get 5 _ _ _ rfl) _ rfl rfl rfl ?_)
            | (refine at_loadC by_ X (K14.out.get 5 _ _ _ rfl) _ rfl rfl rfl ?_)
            | (refine at_loadP y11.heap.size { p with Data := V } (K14.out.get 7 _ _ _ rfl) _ rfl rfl rfl ?_))
          go_roundw
          case rel => exact ⟨k + 1, _, N, Z, MA7, MB, rfl, by have := hk'.out; omega, by simp, hNw, hZ, ⟨hMA.out, (by rw [e1.out]; exact hM.out.2)⟩, Fm.pre (l' := [(bd, dvC D, 33), (y11.heap.size, pnC { p with Data := V }, 38)]) K20.out⟩
          case measure => have := hk'.out; simp [intOf]; omega
        · rw [if_pos (by rfl)]
          go_wp2
          have K4 := hH.new (dvC zeroD) 33
          refine hK.out _ _ (hH.below ((Below.refl _ _).alloc (Nat.le_refl _) _)) (fun hH => ?_)
          clear hK K
          generalize z1.heap.size = bd at K4 ⊢
          generalize z1.alloc _ = y10 at K4 hH ⊢
          refine wpAnyH_ready (rs := [7]) (by kernel_rfl) (by simp) (AllReadyH.cons rfl (fun K hK => ?_) AllReadyH.nil)
          rw [if_pos (by rfl)]
          go_wp2_with (go_at_call 10; refine (hD2 _ (tb'.out.below hH.low)).mono ?_; rintro e v9 ⟨rfl, hb9⟩)
          replace K4 := K4.below hb9
          refine hK.out _ _ (hH.below hb9) (fun hH => ?_)
          clear hK K hb9
          refine wpAnyH_ready (rs := [9]) (by kernel_rfl) (by simp) (AllReadyH.cons rfl (fun K hK => ?_) AllReadyH.nil)
          rw [if_pos (by rfl)]
          refine wp_storeD bd zeroD D (K4.get 6 _ _ _ rfl) _ _ rfl rfl rfl ?_
          intro y11 hw11
          have K11 : Hid (Fm w [(w.heap.size, cpC c, 26), (w.heap.size + 1, (plC at_ sp plen pcap (some ⟨g, off, none⟩) len cap), 42), (ga, MA7, 5), (gb, MB, 5), (bx, cpC N, 26), (by_, cpC X, 26), (bd, dvC D, 33)] y11) := K4.put 6 _ _ _ _ rfl hw11.out
          refine hK.out _ _ (Fm.pre (l' := [(bd, dvC D, 33)]) K11.out) (fun _ => ?_)
          clear hK K hH K4 hw11
          refine wpAnyH_done (by kernel_rfl) ?_ _
          have d11 := cc2.out _ _ K11.out
          go_wp2_with (first
            | (refine at_loadPm g q p (hr'.out _ _ K11.out) _ rfl rfl rfl ?_)
            | (refine gen_world (y11.alloc (.cells (pnC zeroP) 38)) (Fm w [(w.heap.size, cpC c, 26), (w.heap.size + 1, (plC at_ sp plen pcap (some ⟨g, off, none⟩) len cap), 42), (ga, MA7, 5), (gb, MB, 5), (bx, cpC N, 26), (by_, cpC X, 26), (bd, dvC D, 33), (y11.heap.size, pnC zeroP, 38)]) (K11.out.new _ _) ?_; intro y12 K12)
            | (refine at_storeP y11.heap.size zeroP p (K12.out.get 7 _ _ _ rfl) _ _ rfl rfl rfl rfl ?_; intro y13 hw13; have K13 : Hid (Fm w [(w.heap.size, cpC c, 26), (w.heap.size + 1, (plC at_ sp plen pcap (some ⟨g, off, none⟩) len cap), 42), (ga, MA7, 5), (gb, MB, 5), (bx, cpC N, 26), (by_, cpC X, 26), (bd, dvC D, 33), (y11.heap.size, pnC p, 38)] y13) := K12.out.put 7 _ _ _ _ rfl hw13.out; have f1 := BoxD.f1 (K13.out.get 6 _ _ _ rfl); have f2 := BoxD.f2 (K13.out.get 6 _ _ _ rfl); have f3 := BoxD.f3 (K13.out.get 6 _ _ _ rfl); have f4 := BoxD.f4 (K13.out.get 6 _ _ _ rfl); have f5 := BoxD.f5 (K13.out.get 6 _ _ _ rfl); rw [hA.out] at f1; rw [g3.out] at f3; rw [g4.out] at f4; rw [← e2.out] at f5; have pd := BoxP.fData (K13.out.get 7 _ _ _ rfl); have pz := frozen_heap (K13.out.get 7 _ _ _ rfl) 1; have Sp : Hid (Fm w [(w.heap.size, cpC c, 26), (w.heap.size + 1, (plC at_ sp plen pcap (some ⟨g, off, none⟩) len cap), 42), (ga, MA7, 5), (gb, MB, 5), (bx, cpC N, 26), (by_, cpC X, 26), (bd, dvC D, 33), (y11.heap.size, pnC { p with Data := V }, 38)] (y13.setCell ⟨y11.heap.size, 1, none⟩ (.int .u8 V))) := K13.out.setCell 7 _ _ _ _ rfl 1 _ rfl)
            | (refine gen_world (y13.setCell ⟨y11.heap.size, 1, none⟩ (.int .u8 V)) (Fm w [(w.heap.size, cpC c, 26), (w.heap.size + 1, (plC at_ sp plen pcap (some ⟨g, off, none⟩) len cap), 42), (ga, MA7, 5), (gb, MB, 5), (bx, cpC N, 26), (by_, cpC X, 26), (bd, dvC D, 33), (y11.heap.size, pnC { p with Data := V }, 38)]) Sp.out ?_; intro y14 K14; have f1 := BoxD.f1 (K14.out.get 6 _ _ _ rfl); have f2 := BoxD.f2 (K14.out.get 6 _ _ _ rfl); have f3 := BoxD.f3 (K14.out.get 6 _ _ _ rfl); have f4 := BoxD.f4 (K14.out.get 6 _ _ _ rfl); have f5 := BoxD.f5 (K14.out.get 6 _ _ _ rfl); rw [hA.out] at f1; rw [g3.out] at f3; rw [g4.out] at f4)
            | (go_at_call 12; refine (hS2 _).mono ?_; rintro e v19 ⟨rfl, hb19⟩; have K19 : Hid (Fm w [(w.heap.size, cpC c, 26), (w.heap.size + 1, (plC at_ sp plen pcap (some ⟨g, off, none⟩) len cap), 42), (ga, MA7, 5), (gb, MB, 5), (bx, cpC N, 26), (by_, cpC X, 26), (bd, dvC D, 33), (y11.heap.size, pnC { p with Data := V }, 38)] v19) := K14.out.below hb19)
            | (refine at_storeC by_ X N (K19.out.get 5 _ _ _ rfl) _ _ rfl rfl rfl rfl ?_; intro y20 hw20; have K20 : Hid (Fm w [(w.heap.size, cpC c, 26), (w.heap.size + 1, (plC at_ sp plen pcap (some ⟨g, off, none⟩) len cap), 42), (ga, MA7, 5), (gb, MB, 5), (bx, cpC N, 26), (by_, cpC N, 26), (bd, dvC D, 33), (y11.heap.size, pnC { p with Data := V }, 38)] y20) := K19.out.put 5 _ _ _ _ rfl hw20.out)
            | (refine at_neC N N rfl _ _ _ rfl rfl rfl rfl ?_)
            | (refine at_loadC bx N (K20.out.get 4 _ _ _ rfl) _ rfl rfl rfl ?_)
            | (refine at_loadC by_ N (K20.out.get 5 _ _ _ rfl) _ rfl rfl rfl ?_)
            | (refine at_loadC by_ X (K14.out.get 5 _ _ _ rfl) _ rfl rfl rfl ?_)
            | (refine at_loadP y11.heap.size { p with Data := V } (K14.out.get 7 _ _ _ rfl) _ rfl rfl rfl ?_))
          go_roundw
          case rel => exact ⟨k + 1, _, N, Z, MA7, MB, rfl, by have := hk'.out; omega, by simp, hNw, hZ, ⟨hMA.out, (by rw [e1.out]; exact hM.out.2)⟩, Fm.pre (l' := [(bd, dvC D, 33), (y11.heap.size, pnC { p with Data := V }, 38)]) K20.out⟩
          case measure => have := hk'.out; simp [intOf]; omega
      · rcases g2 : D.Rd with _ | _
        · have e1 : Z = fun j => if j = A then V else Y j := by rw [hZe, g3]; rfl
          have e2 : V = p.Data := by rw [hVe, g4, g2]; rfl
          clear hZe hVe
          replace e1 : Hid _ := e1
          replace e2 : Hid _ := e2
          replace g2 : Hid _ := g2
          replace g3 : Hid _ := g3
          replace g4 : Hid _ := g4
          go_wp2
          refine region_class_tail 7 (Fm w [(w.heap.size, cpC c, 26), (w.heap.size + 1, (plC at_ sp plen pcap (some ⟨g, off, none⟩) len cap), 42), (ga, MA, 5), (gb, MB, 5), (bx, cpC X, 26), (by_, cpC X, 26)]) (by kernel_rfl) (by kernel_rfl) (K.out.below (below_drew (Below.refl _ _))) ?_
          simp only [List.take_succ_cons, List.take_zero, List.drop_succ_cons, List.drop_zero]
          refine quiet_one (.agg (cpC X)) rfl (quiet_loadC bx X (fun _ h => h.get 4 _ _ _ rfl) (.tmp 7) rfl (by go_simp)) ?_
          refine quiet_one (.slice (some ⟨ga, 0, none⟩) 65536 65536) rfl (fun u hy => by go_simp) ?_
          refine quiet_one (.pointer (some ⟨w.heap.size + 1, 2, none⟩)) rfl (fun u hy => by go_simp) ?_
          refine quiet_one (.slice (some ⟨g, off, none⟩) len cap) rfl (fun u hy => by have d := cc2.out _ _ hy; go_simp) ?_
          refine quiet_one (.int .i64 (k : Int)) rfl (fun u hy => by go_simp) ?_
          refine quiet_one (.pointer (some ⟨g, q, none⟩)) rfl (fun u hy => by go_simp) ?_
          refine quiet_one (.agg (pnC p)) rfl (fun u hy => by
            generalize ha : Act.put _ _ _ = a
            have e59 : a.eval (.tmp 59) = .pointer (some ⟨g, q, none⟩) := by rw [← ha]; go_simp
            clear ha
            exact quiet_loadPm (C := Fm w [(w.heap.size, cpC c, 26), (w.heap.size + 1, (plC at_ sp plen pcap (some ⟨g, off, none⟩) len cap), 42), (ga, MA, 5), (gb, MB, 5), (bx, cpC X, 26), (by_, cpC X, 26)]) g q p (fun _ h => hr'.out _ _ h) (.tmp 59) rfl e59 u hy) ?_
          refine wpQuiet_nil ?_
          intro z0 Kz
          replace Kz : Hid (Fm w [(w.heap.size, cpC c, 26), (w.heap.size + 1, (plC at_ sp plen pcap (some ⟨g, off, none⟩) len cap), 42), (ga, MA, 5), (gb, MB, 5), (bx, cpC X, 26), (by_, cpC X, 26)] z0) := Kz
          clear K
          go_simp
          go_wp2_with (first
            | (go_at_call 14; refine (hC.out _ Kz.out.low (Kz.out.blk (i := 2) rfl hM.out.1)).mono ?_; rintro e v7 ⟨rfl, hb7⟩; obtain ⟨MA7, hMA, J7⟩ := Kz.out.updM 2 ga MA rfl hb7.out.1 hb7.out.2; replace hMA : Hid (IsMem MA7 Z) := hMA; replace J7 : Hid (Fm w [(w.heap.size, cpC c, 26), (w.heap.size + 1, (plC at_ sp plen pcap (some ⟨g, off, none⟩) len cap), 42), (ga, MA7, 5), (gb, MB, 5), (bx, cpC X, 26), (by_, cpC X, 26)] v7) := J7)
            | (refine at_storeC bx X N (J7.out.get 4 _ _ _ rfl) _ _ rfl rfl rfl rfl ?_; intro y8 hw8; have K8 : Hid (Fm w [(w.heap.size, cpC c, 26), (w.heap.size + 1, (plC at_ sp plen pcap (some ⟨g, off, none⟩) len cap), 42), (ga, MA7, 5), (gb, MB, 5), (bx, cpC N, 26), (by_, cpC X, 26)] y8) := J7.out.put 4 _ _ _ _ rfl hw8.out))
          clear J7 hw8 hC Kz hb7
          refine wp_region_held_drew (S := Fm w [(w.heap.size, cpC c, 26), (w.heap.size + 1, (plC at_ sp plen pcap (some ⟨g, off, none⟩) len cap), 42), (ga, MA7, 5), (gb, MB, 5), (bx, cpC N, 26), (by_, cpC X, 26)]) (by kernel_rfl) (K8.out.below (below_drew (Below.refl _ _))) (fun hH => ?_)
          generalize y8.drew = z1 at hH ⊢
          clear K8
          refine wpAnyH_take (i := 0) (v := .agg (cpC X)) rfl (by kernel_rfl) (by kernel_rfl) (by kernel_rfl) (fun _ _ _ h => h) (yieldsC by_ X (fun _ h => h.get 5 _ _ _ rfl) _ rfl rfl rfl) hH ?_
          try simp only [Act.put, List.setIfInBounds_toArray]
          refine wpAnyH_take (i := 1) (v := .pointer (some ⟨w.heap.size + 1, 2, none⟩)) rfl (by kernel_rfl) (by kernel_rfl) (by kernel_rfl) (fun _ _ _ h => h) (.inl ⟨by rfl, fun u hu => by go_simp⟩) hH ?_
          try simp only [Act.put]
          refine wpAnyH_take (i := 2) (v := .slice (some ⟨g, off, none⟩) len cap) rfl (by kernel_rfl) (by kernel_rfl) (by kernel_rfl) (fun _ _ _ h => h) (.inl ⟨by rfl, fun u hu => by have d := cc2.out _ _ hu; go_simp⟩) hH ?_
          try simp only [Act.put]
          refine wpAnyH_take (i := 3) (v := .int .i64 (k : Int)) rfl (by kernel_rfl) (by kernel_rfl) (by kernel_rfl) (fun _ _ _ h => h) (.inl ⟨by rfl, fun u hu => by go_simp⟩) hH ?_
          try simp only [Act.put]
          refine wpAnyH_take (i := 4) (v := .pointer (some ⟨g, q, none⟩)) rfl (by kernel_rfl) (by kernel_rfl) (by kernel_rfl) (fun _ _ _ h => h) (.inl ⟨by rfl, fun u hu => by go_simp⟩) hH ?_
          try simp only [Act.put]
          refine wpAnyH_take (i := 5) (v := .pointer (some ⟨g, q, none⟩)) rfl (by kernel_rfl) (by kernel_rfl) (by kernel_rfl) (fun _ _ _ h => h) (.inl ⟨by rfl, fun u hu => by go_simp⟩) hH ?_
          try simp only [Act.put]
          refine wpAnyH_take (i := 6) (v := .int .u8 m) rfl (by kernel_rfl) (by kernel_rfl) (by kernel_rfl) (fun _ _ _ h => h) (.inl ⟨by rfl, fun u hu => by have d := hm'.out _ _ hu; go_simp⟩) hH ?_
          try simp only [Act.put]
          refine wpAnyH_ready (rs := [7, 8]) (by kernel_rfl) (by simp) (AllReadyH.cons rfl (fun K hK => ?_) (AllReadyH.cons rfl (fun K hK => ?_) AllReadyH.nil))
          · rw [if_pos (by rfl)]
            go_wp2_with (go_at_call 10; refine (hD2 _ (tb'.out.below hH.low)).mono ?_; rintro e v9 ⟨rfl, hb9⟩)
            refine hK.out _ _ (hH.below hb9) (fun hH => ?_)
            clear hK K hb9
            refine wpAnyH_ready (rs := [8]) (by kernel_rfl) (by simp) (AllReadyH.cons rfl (fun K hK => ?_) AllReadyH.nil)
            rw [if_pos (by rfl)]
            go_wp2
            have K4 := hH.new (dvC zeroD) 33
            refine hK.out _ _ (hH.below ((Below.refl _ _).alloc (Nat.le_refl _) _)) (fun hH => ?_)
            clear hK K
            generalize v9.heap.size = bd at K4 ⊢
            generalize v9.alloc _ = y10 at K4 hH ⊢
            refine wpAnyH_ready (rs := [9]) (by kernel_rfl) (by simp) (AllReadyH.cons rfl (fun K hK => ?_) AllReadyH.nil)
            rw [if_pos (by rfl)]
            refine wp_storeD bd zeroD D (K4.get 6 _ _ _ rfl) _ _ rfl rfl rfl ?_
            intro y11 hw11
            have K11 : Hid (Fm w [(w.heap.size, cpC c, 26), (w.heap.size + 1, (plC at_ sp plen pcap (some ⟨g, off, none⟩) len cap), 42), (ga, MA7, 5), (gb, MB, 5), (bx, cpC N, 26), (by_, cpC X, 26), (bd, dvC D, 33)] y11) := K4.put 6 _ _ _ _ rfl hw11.out
            refine hK.out _ _ (Fm.pre (l' := [(bd, dvC D, 33)]) K11.out) (fun _ => ?_)
            clear hK K hH K4 hw11
            refine wpAnyH_done (by kernel_rfl) ?_ _
            have d11 := cc2.out _ _ K11.out
            have pe : ({ p with Data := V } : Pn) = p := by rw [e2.out]
            rw [pe] at hS2
            clear pe
            go_wp2_with (first
              | (refine at_loadPm g q p (hr'.out _ _ K11.out) _ rfl rfl rfl ?_)
              | (refine gen_world (y11.alloc (.cells (pnC zeroP) 38)) (Fm w [(w.heap.size, cpC c, 26), (w.heap.size + 1, (plC at_ sp plen pcap (some ⟨g, off, none⟩) len cap), 42), (ga, MA7, 5), (gb, MB, 5), (bx, cpC N, 26), (by_, cpC X, 26), (bd, dvC D, 33), (y11.heap.size, pnC zeroP, 38)]) (K11.out.new _ _) ?_; intro y12 K12)
              | (refine at_storeP y11.heap.size zeroP p (K12.out.get 7 _ _ _ rfl) _ _ rfl rfl rfl rfl ?_; intro y13 hw13; have K13 : Hid (Fm w [(w.heap.size, cpC c, 26), (w.heap.size + 1, (plC at_ sp plen pcap (some ⟨g, off, none⟩) len cap), 42), (ga, MA7, 5), (gb, MB, 5), (bx, cpC N, 26), (by_, cpC X, 26), (bd, dvC D, 33), (y11.heap.size, pnC p, 38)] y13) := K12.out.put 7 _ _ _ _ rfl hw13.out; have f1 := BoxD.f1 (K13.out.get 6 _ _ _ rfl); have f2 := BoxD.f2 (K13.out.get 6 _ _ _ rfl); have f3 := BoxD.f3 (K13.out.get 6 _ _ _ rfl); have f4 := BoxD.f4 (K13.out.get 6 _ _ _ rfl); have f5 := BoxD.f5 (K13.out.get 6 _ _ _ rfl); rw [hA.out] at f1; rw [g3.out] at f3; rw [g4.out] at f4; rw [g2.out] at f2; have qd : y13.cell? ⟨y11.heap.size, 1, none⟩ = some (.int .u8 V) := (by have := BoxP.fData (K13.out.get 7 _ _ _ rfl); rw [← e2.out] at this; exact this); have mw := (hmb.out _ _ 3 K13.out rfl).1; have mz := (hmb.out _ _ 3 K13.out rfl).2; have Sw : Hid (Fm w [(w.heap.size, cpC c, 26), (w.heap.size + 1, (plC at_ sp plen pcap (some ⟨g, off, none⟩) len cap), 42), (ga, MA7, 5), (gb, (MB.setIfInBounds A (.int .u8 V)), 5), (bx, cpC N, 26), (by_, cpC X, 26), (bd, dvC D, 33), (y11.heap.size, pnC p, 38)] (y13.setCell ⟨gb, A, none⟩ (.int .u8 V))) := K13.out.setCell 3 _ _ _ _ rfl A _ rfl)
              | (refine gen_world (y13.setCell ⟨gb, A, none⟩ (.int .u8 V)) (Fm w [(w.heap.size, cpC c, 26), (w.heap.size + 1, (plC at_ sp plen pcap (some ⟨g, off, none⟩) len cap), 42), (ga, MA7, 5), (gb, (MB.setIfInBounds A (.int .u8 V)), 5), (bx, cpC N, 26), (by_, cpC X, 26), (bd, dvC D, 33), (y11.heap.size, pnC p, 38)]) Sw.out ?_; intro y18 K18)
              | (go_at_call 12; refine (hS2 _).mono ?_; rintro e v19 ⟨rfl, hb19⟩; have K19 : Hid (Fm w [(w.heap.size, cpC c, 26), (w.heap.size + 1, (plC at_ sp plen pcap (some ⟨g, off, none⟩) len cap), 42), (ga, MA7, 5), (gb, (MB.setIfInBounds A (.int .u8 V)), 5), (bx, cpC N, 26), (by_, cpC X, 26), (bd, dvC D, 33), (y11.heap.size, pnC p, 38)] v19) := K18.out.below hb19)
              | (refine at_storeC by_ X N (K19.out.get 5 _ _ _ rfl) _ _ rfl rfl rfl rfl ?_; intro y20 hw20; have K20 : Hid (Fm w [(w.heap.size, cpC c, 26), (w.heap.size + 1, (plC at_ sp plen pcap (some ⟨g, off, none⟩) len cap), 42), (ga, MA7, 5), (gb, (MB.setIfInBounds A (.int .u8 V)), 5), (bx, cpC N, 26), (by_, cpC N, 26), (bd, dvC D, 33), (y11.heap.size, pnC p, 38)] y20) := K19.out.put 5 _ _ _ _ rfl hw20.out)
              | (refine at_neC N N rfl _ _ _ rfl rfl rfl rfl ?_)
              | (refine at_loadC bx N (K20.out.get 4 _ _ _ rfl) _ rfl rfl rfl ?_)
              | (refine at_loadC by_ N (K20.out.get 5 _ _ _ rfl) _ rfl rfl rfl ?_)
              | (refine at_loadC by_ X (K18.out.get 5 _ _ _ rfl) _ rfl rfl rfl ?_)
              | (refine at_loadP y11.heap.size p (K18.out.get 7 _ _ _ rfl) _ rfl rfl rfl ?_))
            go_roundw
            case rel => exact ⟨k + 1, _, N, Z, MA7, (MB.setIfInBounds A (.int .u8 V)), rfl, by have := hk'.out; omega, by simp, hNw, hZ, ⟨hMA.out, (by rw [e1.out]; exact hM.out.2.set A V)⟩, Fm.pre (l' := [(bd, dvC D, 33), (y11.heap.size, pnC p, 38)]) K20.out⟩
            case measure => have := hk'.out; simp [intOf]; omega
          · rw [if_pos (by rfl)]
            go_wp2
            have K4 := hH.new (dvC zeroD) 33
            refine hK.out _ _ (hH.below ((Below.refl _ _).alloc (Nat.le_refl _) _)) (fun hH => ?_)
            clear hK K
            generalize z1.heap.size = bd at K4 ⊢
            generalize z1.alloc _ = y10 at K4 hH ⊢
            refine wpAnyH_ready (rs := [7]) (by kernel_rfl) (by simp) (AllReadyH.cons rfl (fun K hK => ?_) AllReadyH.nil)
            rw [if_pos (by rfl)]
            go_wp2_with (go_at_call 10; refine (hD2 _ (tb'.out.below hH.low)).mono ?_; rintro e v9 ⟨rfl, hb9⟩)
            replace K4 := K4.below hb9
            refine hK.out _ _ (hH.below hb9) (fun hH => ?_)
            clear hK K hb9
            refine wpAnyH_ready (rs := [9]) (by kernel_rfl) (by simp) (AllReadyH.cons rfl (fun K hK => ?_) AllReadyH.nil)
            rw [if_pos (by rfl)]
            refine wp_storeD bd zeroD D (K4.get 6 _ _ _ rfl) _ _ rfl rfl rfl ?_
            intro y11 hw11
            have K11 : Hid (Fm w [(w.heap.size, cpC c, 26), (w.heap.size + 1, (plC at_ sp plen pcap (some ⟨g, off, none⟩) len cap), 42), (ga, MA7, 5), (gb, MB, 5), (bx, cpC N, 26), (by_, cpC X, 26), (bd, dvC D, 33)] y11) := K4.put 6 _ _ _ _ rfl hw11.out
            refine hK.out _ _ (Fm.pre (l' := [(bd, dvC D, 33)]) K11.out) (fun _ => ?_)
            clear hK K hH K4 hw11
            refine wpAnyH_done (by kernel_rfl) ?_ _
            have d11 := cc2.out _ _ K11.out
            have pe : ({ p with Data := V } : Pn) = p := by rw [e2.out]
            rw [pe] at hS2
            clear pe
            go_wp2_with (first
              | (refine at_loadPm g q p (hr'.out _ _ K11.out) _ rfl rfl rfl ?_)
              | (refine gen_world (y11.alloc (.cells (pnC zeroP) 38)) (Fm w [(w.heap.size, cpC c, 26), (w.heap.size + 1, (plC at_ sp plen pcap (some ⟨g, off, none⟩) len cap), 42), (ga, MA7, 5), (gb, MB, 5), (bx, cpC N, 26), (by_, cpC X, 26), (bd, dvC D, 33), (y11.heap.size, pnC zeroP, 38)]) (K11.out.new _ _) ?_; intro y12 K12)
              | (refine at_storeP y11.heap.size zeroP p (K12.out.get 7 _ _ _ rfl) _ _ rfl rfl rfl rfl ?_; intro y13 hw13; have K13 : Hid (Fm w [(w.heap.size, cpC c, 26), (w.heap.size + 1, (plC at_ sp plen pcap (some ⟨g, off, none⟩) len cap), 42), (ga, MA7, 5), (gb, MB, 5), (bx, cpC N, 26), (by_, cpC X, 26), (bd, dvC D, 33), (y11.heap.size, pnC p, 38)] y13) := K12.out.put 7 _ _ _ _ rfl hw13.out; have f1 := BoxD.f1 (K13.out.get 6 _ _ _ rfl); have f2 := BoxD.f2 (K13.out.get 6 _ _ _ rfl); have f3 := BoxD.f3 (K13.out.get 6 _ _ _ rfl); have f4 := BoxD.f4 (K13.out.get 6 _ _ _ rfl); have f5 := BoxD.f5 (K13.out.get 6 _ _ _ rfl); rw [hA.out] at f1; rw [g3.out] at f3; rw [g4.out] at f4; rw [g2.out] at f2; have qd : y13.cell? ⟨y11.heap.size, 1, none⟩ = some (.int .u8 V) := (by have := BoxP.fData (K13.out.get 7 _ _ _ rfl); rw [← e2.out] at this; exact this); have mw := (hmb.out _ _ 3 K13.out rfl).1; have mz := (hmb.out _ _ 3 K13.out rfl).2; have Sw : Hid (Fm w [(w.heap.size, cpC c, 26), (w.heap.size + 1, (plC at_ sp plen pcap (some ⟨g, off, none⟩) len cap), 42), (ga, MA7, 5), (gb, (MB.setIfInBounds A (.int .u8 V)), 5), (bx, cpC N, 26), (by_, cpC X, 26), (bd, dvC D, 33), (y11.heap.size, pnC p, 38)] (y13.setCell ⟨gb, A, none⟩ (.int .u8 V))) := K13.out.setCell 3 _ _ _ _ rfl A _ rfl)
              | (refine gen_world (y13.setCell ⟨gb, A, none⟩ (.int .u8 V)) (Fm w [(w.heap.size, cpC c, 26), (w.heap.size + 1, (plC at_ sp plen pcap (some ⟨g, off, none⟩) len cap), 42), (ga, MA7, 5), (gb, (MB.setIfInBounds A (.int .u8 V)), 5), (bx, cpC N, 26), (by_, cpC X, 26), (bd, dvC D, 33), (y11.heap.size, pnC p, 38)]) Sw.out ?_; intro y18 K18)
              | (go_at_call 12; refine (hS2 _).mono ?_; rintro e v19 ⟨rfl, hb19⟩; have K19 : Hid (Fm w [(w.heap.size, cpC c, 26), (w.heap.size + 1, (plC at_ sp plen pcap (some ⟨g, off, none⟩) len cap), 42), (ga, MA7, 5), (gb, (MB.setIfInBounds A (.int .u8 V)), 5), (bx, cpC N, 26), (by_, cpC X, 26), (bd, dvC D, 33), (y11.heap.size, pnC p, 38)] v19) := K18.out.below hb19)
              | (refine at_storeC by_ X N (K19.out.get 5 _ _ _ rfl) _ _ rfl rfl rfl rfl ?_; intro y20 hw20; have K20 : Hid (Fm w [(w.heap.size, cpC c, 26), (w.heap.size + 1, (plC at_ sp plen pcap (some ⟨g, off, none⟩) len cap), 42), (ga, MA7, 5), (gb, (MB.setIfInBounds A (.int .u8 V)), 5), (bx, cpC N, 26), (by_, cpC N, 26), (bd, dvC D, 33), (y11.heap.size, pnC p, 38)] y20) := K19.out.put 5 _ _ _ _ rfl hw20.out)
              | (refine at_neC N N rfl _ _ _ rfl rfl rfl rfl ?_)
              | (refine at_loadC bx N (K20.out.get 4 _ _ _ rfl) _ rfl rfl rfl ?_)
              | (refine at_loadC by_ N (K20.out.get 5 _ _ _ rfl) _ rfl rfl rfl ?_)
              | (refine at_loadC by_ X (K18.out.get 5 _ _ _ rfl) _ rfl rfl rfl ?_)
              | (refine at_loadP y11.heap.size p (K18.out.get 7 _ _ _ rfl) _ rfl rfl rfl ?_))
            go_roundw
            case rel => exact ⟨k + 1, _, N, Z, MA7, (MB.setIfInBounds A (.int .u8 V)), rfl, by have := hk'.out; omega, by simp, hNw, hZ, ⟨hMA.out, (by rw [e1.out]; exact hM.out.2.set A V)⟩, Fm.pre (l' := [(bd, dvC D, 33), (y11.heap.size, pnC p, 38)]) K20.out⟩
            case measure => have := hk'.out; simp [intOf]; omega
        · have e1 : Z = fun j => if j = A then V else Y j := by rw [hZe, g3]; rfl
          have e2 : V = Y A := by rw [hVe, g4, g2]; rfl
          clear hZe hVe
          replace e1 : Hid _ := e1
          replace e2 : Hid _ := e2
          replace g2 : Hid _ := g2
          replace g3 : Hid _ := g3
          replace g4 : Hid _ := g4
          go_wp2
          refine region_class_tail 7 (Fm w [(w.heap.size, cpC c, 26), (w.heap.size + 1, (plC at_ sp plen pcap (some ⟨g, off, none⟩) len cap), 42), (ga, MA, 5), (gb, MB, 5), (bx, cpC X, 26), (by_, cpC X, 26)]) (by kernel_rfl) (by kernel_rfl) (K.out.below (below_drew (Below.refl _ _))) ?_
          simp only [List.take_succ_cons, List.take_zero, List.drop_succ_cons, List.drop_zero]
          refine quiet_one (.agg (cpC X)) rfl (quiet_loadC bx X (fun _ h => h.get 4 _ _ _ rfl) (.tmp 7) rfl (by go_simp)) ?_
          refine quiet_one (.slice (some ⟨ga, 0, none⟩) 65536 65536) rfl (fun u hy => by go_simp) ?_
          refine quiet_one (.pointer (some ⟨w.heap.size + 1, 2, none⟩)) rfl (fun u hy => by go_simp) ?_
          refine quiet_one (.slice (some ⟨g, off, none⟩) len cap) rfl (fun u hy => by have d := cc2.out _ _ hy; go_simp) ?_
          refine quiet_one (.int .i64 (k : Int)) rfl (fun u hy => by go_simp) ?_
          refine quiet_one (.pointer (some ⟨g, q, none⟩)) rfl (fun u hy => by go_simp) ?_
          refine quiet_one (.agg (pnC p)) rfl (fun u hy => by
            generalize ha : Act.put _ _ _ = a
            have e59 : a.eval (.tmp 59) = .pointer (some ⟨g, q, none⟩) := by rw [← ha]; go_simp
            clear ha
            exact quiet_loadPm (C := Fm w [(w.heap.size, cpC c, 26), (w.heap.size + 1, (plC at_ sp plen pcap (some ⟨g, off, none⟩) len cap), 42), (ga, MA, 5), (gb, MB, 5), (bx, cpC X, 26), (by_, cpC X, 26)]) g q p (fun _ h => hr'.out _ _ h) (.tmp 59) rfl e59 u hy) ?_
          refine wpQuiet_nil ?_
          intro z0 Kz
          replace Kz : Hid (Fm w [(w.heap.size, cpC c, 26), (w.heap.size + 1, (plC at_ sp plen pcap (some ⟨g, off, none⟩) len cap), 42), (ga, MA, 5), (gb, MB, 5), (bx, cpC X, 26), (by_, cpC X, 26)] z0) := Kz
          clear K
          go_simp
          go_wp2_with (first
            | (go_at_call 14; refine (hC.out _ Kz.out.low (Kz.out.blk (i := 2) rfl hM.out.1)).mono ?_; rintro e v7 ⟨rfl, hb7⟩; obtain ⟨MA7, hMA, J7⟩ := Kz.out.updM 2 ga MA rfl hb7.out.1 hb7.out.2; replace hMA : Hid (IsMem MA7 Z) := hMA; replace J7 : Hid (Fm w [(w.heap.size, cpC c, 26), (w.heap.size + 1, (plC at_ sp plen pcap (some ⟨g, off, none⟩) len cap), 42), (ga, MA7, 5), (gb, MB, 5), (bx, cpC X, 26), (by_, cpC X, 26)] v7) := J7)
            | (refine at_storeC bx X N (J7.out.get 4 _ _ _ rfl) _ _ rfl rfl rfl rfl ?_; intro y8 hw8; have K8 : Hid (Fm w [(w.heap.size, cpC c, 26), (w.heap.size + 1, (plC at_ sp plen pcap (some ⟨g, off, none⟩) len cap), 42), (ga, MA7, 5), (gb, MB, 5), (bx, cpC N, 26), (by_, cpC X, 26)] y8) := J7.out.put 4 _ _ _ _ rfl hw8.out))
          clear J7 hw8 hC Kz hb7
          refine wp_region_held_drew (S := Fm w [(w.heap.size, cpC c, 26), (w.heap.size + 1, (plC at_ sp plen pcap (some ⟨g, off, none⟩) len cap), 42), (ga, MA7, 5), (gb, MB, 5), (bx, cpC N, 26), (by_, cpC X, 26)]) (by kernel_rfl) (K8.out.below (below_drew (Below.refl _ _))) (fun hH => ?_)
          generalize y8.drew = z1 at hH ⊢
          clear K8
          refine wpAnyH_take (i := 0) (v := .agg (cpC X)) rfl (by kernel_rfl) (by kernel_rfl) (by kernel_rfl) (fun _ _ _ h => h) (yieldsC by_ X (fun _ h => h.get 5 _ _ _ rfl) _ rfl rfl rfl) hH ?_
          try simp only [Act.put, List.setIfInBounds_toArray]
          refine wpAnyH_take (i := 1) (v := .pointer (some ⟨w.heap.size + 1, 2, none⟩)) rfl (by kernel_rfl) (by kernel_rfl) (by kernel_rfl) (fun _ _ _ h => h) (.inl ⟨by rfl, fun u hu => by go_simp⟩) hH ?_
          try simp only [Act.put]
          refine wpAnyH_take (i := 2) (v := .slice (some ⟨g, off, none⟩) len cap) rfl (by kernel_rfl) (by kernel_rfl) (by kernel_rfl) (fun _ _ _ h => h) (.inl ⟨by rfl, fun u hu => by have d := cc2.out _ _ hu; go_simp⟩) hH ?_
          try simp only [Act.put]
          refine wpAnyH_take (i := 3) (v := .int .i64 (k : Int)) rfl (by kernel_rfl) (by kernel_rfl) (by kernel_rfl) (fun _ _ _ h => h) (.inl ⟨by rfl, fun u hu => by go_simp⟩) hH ?_
          try simp only [Act.put]
          refine wpAnyH_take (i := 4) (v := .pointer (some ⟨g, q, none⟩)) rfl (by kernel_rfl) (by kernel_rfl) (by kernel_rfl) (fun _ _ _ h => h) (.inl ⟨by rfl, fun u hu => by go_simp⟩) hH ?_
          try simp only [Act.put]
          refine wpAnyH_take (i := 5) (v := .pointer (some ⟨g, q, none⟩)) rfl (by kernel_rfl) (by kernel_rfl) (by kernel_rfl) (fun _ _ _ h => h) (.inl ⟨by rfl, fun u hu => by go_simp⟩) hH ?_
          try simp only [Act.put]
          refine wpAnyH_take (i := 6) (v := .int .u8 m) rfl (by kernel_rfl) (by kernel_rfl) (by kernel_rfl) (fun _ _ _ h => h) (.inl ⟨by rfl, fun u hu => by have d := hm'.out _ _ hu; go_simp⟩) hH ?_
          try simp only [Act.put]
          refine wpAnyH_ready (rs := [7, 8]) (by kernel_rfl) (by simp) (AllReadyH.cons rfl (fun K hK => ?_) (AllReadyH.cons rfl (fun K hK => ?_) AllReadyH.nil))
          · rw [if_pos (by rfl)]
            go_wp2_with (go_at_call 10; refine (hD2 _ (tb'.out.below hH.low)).mono ?_; rintro e v9 ⟨rfl, hb9⟩)
            refine hK.out _ _ (hH.below hb9) (fun hH => ?_)
            clear hK K hb9
            refine wpAnyH_ready (rs := [8]) (by kernel_rfl) (by simp) (AllReadyH.cons rfl (fun K hK => ?_) AllReadyH.nil)
            rw [if_pos (by rfl)]
            go_wp2
            have K4 := hH.new (dvC zeroD) 33
            refine hK.out _ _ (hH.below ((Below.refl _ _).alloc (Nat.le_refl _) _)) (fun hH => ?_)
            clear hK K
            generalize v9.heap.size = bd at K4 ⊢
            generalize v9.alloc _ = y10 at K4 hH ⊢
            refine wpAnyH_ready (rs := [9]) (by kernel_rfl) (by simp) (AllReadyH.cons rfl (fun K hK => ?_) AllReadyH.nil)
            rw [if_pos (by rfl)]
            refine wp_storeD bd zeroD D (K4.get 6 _ _ _ rfl) _ _ rfl rfl rfl ?_
            intro y11 hw11
            have K11 : Hid (Fm w [(w.heap.size, cpC c, 26), (w.heap.size + 1, (plC at_ sp plen pcap (some ⟨g, off, none⟩) len cap), 42), (ga, MA7, 5), (gb, MB, 5), (bx, cpC N, 26), (by_, cpC X, 26), (bd, dvC D, 33)] y11) := K4.put 6 _ _ _ _ rfl hw11.out
            refine hK.out _ _ (Fm.pre (l' := [(bd, dvC D, 33)]) K11.out) (fun _ => ?_)
            clear hK K hH K4 hw11
            refine wpAnyH_done (by kernel_rfl) ?_ _
            have d11 := cc2.out _ _ K11.out
            go_wp2_with (first
              | (refine at_loadPm g q p (hr'.out _ _ K11.out) _ rfl rfl rfl ?_)
              | (refine gen_world (y11.alloc (.cells (pnC zeroP) 38)) (Fm w [(w.heap.size, cpC c, 26), (w.heap.size + 1, (plC at_ sp plen pcap (some ⟨g, off, none⟩) len cap), 42), (ga, MA7, 5), (gb, MB, 5), (bx, cpC N, 26), (by_, cpC X, 26), (bd, dvC D, 33), (y11.heap.size, pnC zeroP, 38)]) (K11.out.new _ _) ?_; intro y12 K12)
              | (refine at_storeP y11.heap.size zeroP p (K12.out.get 7 _ _ _ rfl) _ _ rfl rfl rfl rfl ?_; intro y13 hw13; have K13 : Hid (Fm w [(w.heap.size, cpC c, 26), (w.heap.size + 1, (plC at_ sp plen pcap (some ⟨g, off, none⟩) len cap), 42), (ga, MA7, 5), (gb, MB, 5), (bx, cpC N, 26), (by_, cpC X, 26), (bd, dvC D, 33), (y11.heap.size, pnC p, 38)] y13) := K12.out.put 7 _ _ _ _ rfl hw13.out; have f1 := BoxD.f1 (K13.out.get 6 _ _ _ rfl); have f2 := BoxD.f2 (K13.out.get 6 _ _ _ rfl); have f3 := BoxD.f3 (K13.out.get 6 _ _ _ rfl); have f4 := BoxD.f4 (K13.out.get 6 _ _ _ rfl); have f5 := BoxD.f5 (K13.out.get 6 _ _ _ rfl); rw [hA.out] at f1; rw [g3.out] at f3; rw [g4.out] at f4; rw [g2.out] at f2; have mr := (hmb.out _ _ 3 K13.out rfl).1; rw [← e2.out] at mr; have pd := BoxP.fData (K13.out.get 7 _ _ _ rfl); have pz := frozen_heap (K13.out.get 7 _ _ _ rfl) 1; have Sp : Hid (Fm w [(w.heap.size, cpC c, 26), (w.heap.size + 1, (plC at_ sp plen pcap (some ⟨g, off, none⟩) len cap), 42), (ga, MA7, 5), (gb, MB, 5), (bx, cpC N, 26), (by_, cpC X, 26), (bd, dvC D, 33), (y11.heap.size, pnC { p with Data := V }, 38)] (y13.setCell ⟨y11.heap.size, 1, none⟩ (.int .u8 V))) := K13.out.setCell 7 _ _ _ _ rfl 1 _ rfl)
              | (refine gen_world (y13.setCell ⟨y11.heap.size, 1, none⟩ (.int .u8 V)) (Fm w [(w.heap.size, cpC c, 26), (w.heap.size + 1, (plC at_ sp plen pcap (some ⟨g, off, none⟩) len cap), 42), (ga, MA7, 5), (gb, MB, 5), (bx, cpC N, 26), (by_, cpC X, 26), (bd, dvC D, 33), (y11.heap.size, pnC { p with Data := V }, 38)]) Sp.out ?_; intro y14 K14; have f1 := BoxD.f1 (K14.out.get 6 _ _ _ rfl); have f2 := BoxD.f2 (K14.out.get 6 _ _ _ rfl); have f3 := BoxD.f3 (K14.out.get 6 _ _ _ rfl); have f4 := BoxD.f4 (K14.out.get 6 _ _ _ rfl); have f5 := BoxD.f5 (K14.out.get 6 _ _ _ rfl); rw [hA.out] at f1; rw [g3.out] at f3; rw [g4.out] at f4; rw [g2.out] at f2; have qd : y14.cell? ⟨y11.heap.size, 1, none⟩ = some (.int .u8 V) := BoxP.fData (p := { p with Data := V }) (K14.out.get 7 _ _ _ rfl); have mw := (hmb.out _ _ 3 K14.out rfl).1; have mz := (hmb.out _ _ 3 K14.out rfl).2; have Sw : Hid (Fm w [(w.heap.size, cpC c, 26), (w.heap.size + 1, (plC at_ sp plen pcap (some ⟨g, off, none⟩) len cap), 42), (ga, MA7, 5), (gb, (MB.setIfInBounds A (.int .u8 V)), 5), (bx, cpC N, 26), (by_, cpC X, 26), (bd, dvC D, 33), (y11.heap.size, pnC { p with Data := V }, 38)] (y14.setCell ⟨gb, A, none⟩ (.int .u8 V))) := K14.out.setCell 3 _ _ _ _ rfl A _ rfl)
              | (refine gen_world (y14.setCell ⟨gb, A, none⟩ (.int .u8 V)) (Fm w [(w.heap.size, cpC c, 26), (w.heap.size + 1, (plC at_ sp plen pcap (some ⟨g, off, none⟩) len cap), 42), (ga, MA7, 5), (gb, (MB.setIfInBounds A (.int .u8 V)), 5), (bx, cpC N, 26), (by_, cpC X, 26), (bd, dvC D, 33), (y11.heap.size, pnC { p with Data := V }, 38)]) Sw.out ?_; intro y18 K18)
              | (go_at_call 12; refine (hS2 _).mono ?_; rintro e v19 ⟨rfl, hb19⟩; have K19 : Hid (Fm w [(w.heap.size, cpC c, 26), (w.heap.size + 1, (plC at_ sp plen pcap (some ⟨g, off, none⟩) len cap), 42), (ga, MA7, 5), (gb, (MB.setIfInBounds A (.int .u8 V)), 5), (bx, cpC N, 26), (by_, cpC X, 26), (bd, dvC D, 33), (y11.heap.size, pnC { p with Data := V }, 38)] v19) := K18.out.below hb19)
              | (refine at_storeC by_ X N (K19.out.get 5 _ _ _ rfl) _ _ rfl rfl rfl rfl ?_; intro y20 hw20; have K20 : Hid (Fm w [(w.heap.size, cpC c, 26), (w.heap.size + 1, (plC at_ sp plen pcap (some ⟨g, off, none⟩) len cap), 42), (ga, MA7, 5), (gb, (MB.setIfInBounds A (.int .u8 V)), 5), (bx, cpC N, 26), (by_, cpC N, 26), (bd, dvC D, 33), (y11.heap.size, pnC { p with Data := V }, 38)] y20) := K19.out.put 5 _ _ _ _ rfl hw20.out)
              | (refine at_neC N N rfl _ _ _ rfl rfl rfl rfl ?_)
              | (refine at_loadC bx N (K20.out.get 4 _ _ _ rfl) _ rfl rfl rfl ?_)
              | (refine at_loadC by_ N (K20.out.get 5 _ _ _ rfl) _ rfl rfl rfl ?_)
              | (refine at_loadC by_ X (K18.out.get 5 _ _ _ rfl) _ rfl rfl rfl ?_)
              | (refine at_loadP y11.heap.size { p with Data := V } (K18.out.get 7 _ _ _ rfl) _ rfl rfl rfl ?_))
            go_roundw
            case rel => exact ⟨k + 1, _, N, Z, MA7, (MB.setIfInBounds A (.int .u8 V)), rfl, by have := hk'.out; omega, by simp, hNw, hZ, ⟨hMA.out, (by rw [e1.out]; exact hM.out.2.set A V)⟩, Fm.pre (l' := [(bd, dvC D, 33), (y11.heap.size, pnC { p with Data := V }, 38)]) K20.out⟩
            case measure => have := hk'.out; simp [intOf]; omega
          · rw [if_pos (by rfl)]
            go_wp2
            have K4 := hH.new (dvC zeroD) 33
            refine hK.out _ _ (hH.below ((Below.refl _ _).alloc (Nat.le_refl _) _)) (fun hH => ?_)
            clear hK K
            generalize z1.heap.size = bd at K4 ⊢
            generalize z1.alloc _ = y10 at K4 hH ⊢
            refine wpAnyH_ready (rs := [7]) (by kernel_rfl) (by simp) (AllReadyH.cons rfl (fun K hK => ?_) AllReadyH.nil)
            rw [if_pos (by rfl)]
            go_wp2_with (go_at_call 10; refine (hD2 _ (tb'.out.below hH.low)).mono ?_; rintro e v9 ⟨rfl, hb9⟩)
            replace K4 := K4.below hb9
            refine hK.out _ _ (hH.below hb9) (fun hH => ?_)
            clear hK K hb9
            refine wpAnyH_ready (rs := [9]) (by kernel_rfl) (by simp) (AllReadyH.cons rfl (fun K hK => ?_) AllReadyH.nil)
            rw [if_pos (by rfl)]
            refine wp_storeD bd zeroD D (K4.get 6 _ _ _ rfl) _ _ rfl rfl rfl ?_
            intro y11 hw11
            have K11 : Hid (Fm w [(w.heap.size, cpC c, 26), (w.heap.size + 1, (plC at_ sp plen pcap (some ⟨g, off, none⟩) len cap), 42), (ga, MA7, 5), (gb, MB, 5), (bx, cpC N, 26), (by_, cpC X, 26), (bd, dvC D, 33)] y11) := K4.put 6 _ _ _ _ rfl hw11.out
            refine hK.out _ _ (Fm.pre (l' := [(bd, dvC D, 33)]) K11.out) (fun _ => ?_)
            clear hK K hH K4 hw11
            refine wpAnyH_done (by kernel_rfl) ?_ _
            have d11 := cc2.out _ _ K11.out
            go_wp2_with (first
              | (refine at_loadPm g q p (hr'.out _ _ K11.out) _ rfl rfl rfl ?_)
              | (refine gen_world (y11.alloc (.cells (pnC zeroP) 38)) (Fm w [(w.heap.size, cpC c, 26), (w.heap.size + 1, (plC at_ sp plen pcap (some ⟨g, off, none⟩) len cap), 42), (ga, MA7, 5), (gb, MB, 5), (bx, cpC N, 26), (by_, cpC X, 26), (bd, dvC D, 33), (y11.heap.size, pnC zeroP, 38)]) (K11.out.new _ _) ?_; intro y12 K12)
              | (refine at_storeP y11.heap.size zeroP p (K12.out.get 7 _ _ _ rfl) _ _ rfl rfl rfl rfl ?_; intro y13 hw13; have K13 : Hid (Fm w [(w.heap.size, cpC c, 26), (w.heap.size + 1, (plC at_ sp plen pcap (some ⟨g, off, none⟩) len cap), 42), (ga, MA7, 5), (gb, MB, 5), (bx, cpC N, 26), (by_, cpC X, 26), (bd, dvC D, 33), (y11.heap.size, pnC p, 38)] y13) := K12.out.put 7 _ _ _ _ rfl hw13.out; have f1 := BoxD.f1 (K13.out.get 6 _ _ _ rfl); have f2 := BoxD.f2 (K13.out.get 6 _ _ _ rfl); have f3 := BoxD.f3 (K13.out.get 6 _ _ _ rfl); have f4 := BoxD.f4 (K13.out.get 6 _ _ _ rfl); have f5 := BoxD.f5 (K13.out.get 6 _ _ _ rfl); rw [hA.out] at f1; rw [g3.out] at f3; rw [g4.out] at f4; rw [g2.out] at f2; have mr := (hmb.out _ _ 3 K13.out rfl).1; rw [← e2.out] at mr; have pd := BoxP.fData (K13.out.get 7 _ _ _ rfl); have pz := frozen_heap (K13.out.get 7 _ _ _ rfl) 1; have Sp : Hid (Fm w [(w.heap.size, cpC c, 26), (w.heap.size + 1, (plC at_ sp plen pcap (some ⟨g, off, none⟩) len cap), 42), (ga, MA7, 5), (gb, MB, 5), (bx, cpC N, 26), (by_, cpC X, 26), (bd, dvC D, 33), (y11.heap.size, pnC { p with Data := V }, 38)] (y13.setCell ⟨y11.heap.size, 1, none⟩ (.int .u8 V))) := K13.out.setCell 7 _ _ _ _ rfl 1 _ rfl)
              | (refine gen_world (y13.setCell ⟨y11.heap.size, 1, none⟩ (.int .u8 V)) (Fm w [(w.heap.size, cpC c, 26), (w.heap.size + 1, (plC at_ sp plen pcap (some ⟨g, off, none⟩) len cap), 42), (ga, MA7, 5), (gb, MB, 5), (bx, cpC N, 26), (by_, cpC X, 26), (bd, dvC D, 33), (y11.heap.size, pnC { p with Data := V }, 38)]) Sp.out ?_; intro y14 K14; have f1 := BoxD.f1 (K14.out.get 6 _ _ _ rfl); have f2 := BoxD.f2 (K14.out.get 6 _ _ _ rfl); have f3 := BoxD.f3 (K14.out.get 6 _ _ _ rfl); have f4 := BoxD.f4 (K14.out.get 6 _ _ _ rfl); have f5 := BoxD.f5 (K14.out.get 6 _ _ _ rfl); rw [hA.out] at f1; rw [g3.out] at f3; rw [g4.out] at f4; rw [g2.out] at f2; have qd : y14.cell? ⟨y11.heap.size, 1, none⟩ = some (.int .u8 V) := BoxP.fData (p := { p with Data := V }) (K14.out.get 7 _ _ _ rfl); have mw := (hmb.out _ _ 3 K14.out rfl).1; have mz := (hmb.out _ _ 3 K14.out rfl).2; have Sw : Hid (Fm w [(w.heap.size, cpC c, 26), (w.heap.size + 1, (plC at_ sp plen pcap (some ⟨g, off, none⟩) len cap), 42), (ga, MA7, 5), (gb, (MB.setIfInBounds A (.int .u8 V)), 5), (bx, cpC N, 26), (by_, cpC X, 26), (bd, dvC D, 33), (y11.heap.size, pnC { p with Data := V }, 38)] (y14.setCell ⟨gb, A, none⟩ (.int .u8 V))) := K14.out.setCell 3 _ _ _ _ rfl A _ rfl)
              | (refine gen_world (y14.setCell ⟨gb, A, none⟩ (.int .u8 V)) (Fm w [(w.heap.size, cpC c, 26), (w.heap.size + 1, (plC at_ sp plen pcap (some ⟨g, off, none⟩) len cap), 42), (ga, MA7, 5), (gb, (MB.setIfInBounds A (.int .u8 V)), 5), (bx, cpC N, 26), (by_, cpC X, 26), (bd, dvC D, 33), (y11.heap.size, pnC { p with Data := V }, 38)]) Sw.out ?_; intro y18 K18)
              | (go_at_call 12; refine (hS2 _).mono ?_; rintro e v19 ⟨rfl, hb19⟩; have K19 : Hid (Fm w [(w.heap.size, cpC c, 26), (w.heap.size + 1, (plC at_ sp plen pcap (some ⟨g, off, none⟩) len cap), 42), (ga, MA7, 5), (gb, (MB.setIfInBounds A (.int .u8 V)), 5), (bx, cpC N, 26), (by_, cpC X, 26), (bd, dvC D, 33), (y11.heap.size, pnC { p with Data := V }, 38)] v19) := K18.out.below hb19)
              | (refine at_storeC by_ X N (K19.out.get 5 _ _ _ rfl) _ _ rfl rfl rfl rfl ?_; intro y20 hw20; have K20 : Hid (Fm w [(w.heap.size, cpC c, 26), (w.heap.size + 1, (plC at_ sp plen pcap (some ⟨g, off, none⟩) len cap), 42), (ga, MA7, 5), (gb, (MB.setIfInBounds A (.int .u8 V)), 5), (bx, cpC N, 26), (by_, cpC N, 26), (bd, dvC D, 33), (y11.heap.size, pnC { p with Data := V }, 38)] y20) := K19.out.put 5 _ _ _ _ rfl hw20.out)
              | (refine at_neC N N rfl _ _ _ rfl rfl rfl rfl ?_)
              | (refine at_loadC bx N (K20.out.get 4 _ _ _ rfl) _ rfl rfl rfl ?_)
              | (refine at_loadC by_ N (K20.out.get 5 _ _ _ rfl) _ rfl rfl rfl ?_)
              | (refine at_loadC by_ X (K18.out.get 5 _ _ _ rfl) _ rfl rfl rfl ?_)
              | (refine at_loadP y11.heap.size { p with Data := V } (K18.out.get 7 _ _ _ rfl) _ rfl rfl rfl ?_))
            go_roundw
            case rel => exact ⟨k + 1, _, N, Z, MA7, (MB.setIfInBounds A (.int .u8 V)), rfl, by have := hk'.out; omega, by simp, hNw, hZ, ⟨hMA.out, (by rw [e1.out]; exact hM.out.2.set A V)⟩, Fm.pre (l' := [(bd, dvC D, 33), (y11.heap.size, pnC { p with Data := V }, 38)]) K20.out⟩
            case measure => have := hk'.out; simp [intOf]; omega
      · have e1 : Z = fun j => if j = A then V else Y j := by rw [hZe, g3]; rfl
        have e2 : V = D.Data := by rw [hVe, g4]; rfl
        clear hZe hVe
        replace e1 : Hid _ := e1
        replace e2 : Hid _ := e2
        replace g3 : Hid _ := g3
        replace g4 : Hid _ := g4
        go_wp2
        refine region_class_tail 7 (Fm w [(w.heap.size, cpC c, 26), (w.heap.size + 1, (plC at_ sp plen pcap (some ⟨g, off, none⟩) len cap), 42), (ga, MA, 5), (gb, MB, 5), (bx, cpC X, 26), (by_, cpC X, 26)]) (by kernel_rfl) (by kernel_rfl) (K.out.below (below_drew (Below.refl _ _))) ?_
        simp only [List.take_succ_cons, List.take_zero, List.drop_succ_cons, List.drop_zero]
        refine quiet_one (.agg (cpC X)) rfl (quiet_loadC bx X (fun _ h => h.get 4 _ _ _ rfl) (.tmp 7) rfl (by go_simp)) ?_
        refine quiet_one (.slice (some ⟨ga, 0, none⟩) 65536 65536) rfl (fun u hy => by go_simp) ?_
        refine quiet_one (.pointer (some ⟨w.heap.size + 1, 2, none⟩)) rfl (fun u hy => by go_simp) ?_
        refine quiet_one (.slice (some ⟨g, off, none⟩) len cap) rfl (fun u hy => by have d := cc2.out _ _ hy; go_simp) ?_
        refine quiet_one (.int .i64 (k : Int)) rfl (fun u hy => by go_simp) ?_
        refine quiet_one (.pointer (some ⟨g, q, none⟩)) rfl (fun u hy => by go_simp) ?_
        refine quiet_one (.agg (pnC p)) rfl (fun u hy => by
          generalize ha : Act.put _ _ _ = a
          have e59 : a.eval (.tmp 59) = .pointer (some ⟨g, q, none⟩) := by rw [← ha]; go_simp
          clear ha
          exact quiet_loadPm (C := Fm w [(w.heap.size, cpC c, 26), (w.heap.size + 1, (plC at_ sp plen pcap (some ⟨g, off, none⟩) len cap), 42), (ga, MA, 5), (gb, MB, 5), (bx, cpC X, 26), (by_, cpC X, 26)]) g q p (fun _ h => hr'.out _ _ h) (.tmp 59) rfl e59 u hy) ?_
        refine wpQuiet_nil ?_
        intro z0 Kz
        replace Kz : Hid (Fm w [(w.heap.size, cpC c, 26), (w.heap.size + 1, (plC at_ sp plen pcap (some ⟨g, off, none⟩) len cap), 42), (ga, MA, 5), (gb, MB, 5), (bx, cpC X, 26), (by_, cpC X, 26)] z0) := Kz
        clear K
        go_simp
        go_wp2_with (first
          | (go_at_call 14; refine (hC.out _ Kz.out.low (Kz.out.blk (i := 2) rfl hM.out.1)).mono ?_; rintro e v7 ⟨rfl, hb7⟩; obtain ⟨MA7, hMA, J7⟩ := Kz.out.updM 2 ga MA rfl hb7.out.1 hb7.out.2; replace hMA : Hid (IsMem MA7 Z) := hMA; replace J7 : Hid (Fm w [(w.heap.size, cpC c, 26), (w.heap.size + 1, (plC at_ sp plen pcap (some ⟨g, off, none⟩) len cap), 42), (ga, MA7, 5), (gb, MB, 5), (bx, cpC X, 26), (by_, cpC X, 26)] v7) := J7)
          | (refine at_storeC bx X N (J7.out.get 4 _ _ _ rfl) _ _ rfl rfl rfl rfl ?_; intro y8 hw8; have K8 : Hid (Fm w [(w.heap.size, cpC c, 26), (w.heap.size + 1, (plC at_ sp plen pcap (some ⟨g, off, none⟩) len cap), 42), (ga, MA7, 5), (gb, MB, 5), (bx, cpC N, 26), (by_, cpC X, 26)] y8) := J7.out.put 4 _ _ _ _ rfl hw8.out))
        clear J7 hw8 hC Kz hb7
        refine wp_region_held_drew (S := Fm w [(w.heap.size, cpC c, 26), (w.heap.size + 1, (plC at_ sp plen pcap (some ⟨g, off, none⟩) len cap), 42), (ga, MA7, 5), (gb, MB, 5), (bx, cpC N, 26), (by_, cpC X, 26)]) (by kernel_rfl) (K8.out.below (below_drew (Below.refl _ _))) (fun hH => ?_)
        generalize y8.drew = z1 at hH ⊢
        clear K8
        refine wpAnyH_take (i := 0) (v := .agg (cpC X)) rfl (by kernel_rfl) (by kernel_rfl) (by kernel_rfl) (fun _ _ _ h => h) (yieldsC by_ X (fun _ h => h.get 5 _ _ _ rfl) _ rfl rfl rfl) hH ?_
        try simp only [Act.put, List.setIfInBounds_toArray]
        refine wpAnyH_take (i := 1) (v := .pointer (some ⟨w.heap.size + 1, 2, none⟩)) rfl (by kernel_rfl) (by kernel_rfl) (by kernel_rfl) (fun _ _ _ h => h) (.inl ⟨by rfl, fun u hu => by go_simp⟩) hH ?_
        try simp only [Act.put]
        refine wpAnyH_take (i := 2) (v := .slice (some ⟨g, off, none⟩) len cap) rfl (by kernel_rfl) (by kernel_rfl) (by kernel_rfl) (fun _ _ _ h => h) (.inl ⟨by rfl, fun u hu => by have d := cc2.out _ _ hu; go_simp⟩) hH ?_
        try simp only [Act.put]
        refine wpAnyH_take (i := 3) (v := .int .i64 (k : Int)) rfl (by kernel_rfl) (by kernel_rfl) (by kernel_rfl) (fun _ _ _ h => h) (.inl ⟨by rfl, fun u hu => by go_simp⟩) hH ?_
        try simp only [Act.put]
        refine wpAnyH_take (i := 4) (v := .pointer (some ⟨g, q, none⟩)) rfl (by kernel_rfl) (by kernel_rfl) (by kernel_rfl) (fun _ _ _ h => h) (.inl ⟨by rfl, fun u hu => by go_simp⟩) hH ?_
        try simp only [Act.put]
        refine wpAnyH_take (i := 5) (v := .pointer (some ⟨g, q, none⟩)) rfl (by kernel_rfl) (by kernel_rfl) (by kernel_rfl) (fun _ _ _ h => h) (.inl ⟨by rfl, fun u hu => by go_simp⟩) hH ?_
        try simp only [Act.put]
        refine wpAnyH_take (i := 6) (v := .int .u8 m) rfl (by kernel_rfl) (by kernel_rfl) (by kernel_rfl) (fun _ _ _ h => h) (.inl ⟨by rfl, fun u hu => by have d := hm'.out _ _ hu; go_simp⟩) hH ?_
        try simp only [Act.put]
        refine wpAnyH_ready (rs := [7, 8]) (by kernel_rfl) (by simp) (AllReadyH.cons rfl (fun K hK => ?_) (AllReadyH.cons rfl (fun K hK => ?_) AllReadyH.nil))
        · rw [if_pos (by rfl)]
          go_wp2_with (go_at_call 10; refine (hD2 _ (tb'.out.below hH.low)).mono ?_; rintro e v9 ⟨rfl, hb9⟩)
          refine hK.out _ _ (hH.below hb9) (fun hH => ?_)
          clear hK K hb9
          refine wpAnyH_ready (rs := [8]) (by kernel_rfl) (by simp) (AllReadyH.cons rfl (fun K hK => ?_) AllReadyH.nil)
          rw [if_pos (by rfl)]
          go_wp2
          have K4 := hH.new (dvC zeroD) 33
          refine hK.out _ _ (hH.below ((Below.refl _ _).alloc (Nat.le_refl _) _)) (fun hH => ?_)
          clear hK K
          generalize v9.heap.size = bd at K4 ⊢
          generalize v9.alloc _ = y10 at K4 hH ⊢
          refine wpAnyH_ready (rs := [9]) (by kernel_rfl) (by simp) (AllReadyH.cons rfl (fun K hK => ?_) AllReadyH.nil)
          rw [if_pos (by rfl)]
          refine wp_storeD bd zeroD D (K4.get 6 _ _ _ rfl) _ _ rfl rfl rfl ?_
          intro y11 hw11
          have K11 : Hid (Fm w [(w.heap.size, cpC c, 26), (w.heap.size + 1, (plC at_ sp plen pcap (some ⟨g, off, none⟩) len cap), 42), (ga, MA7, 5), (gb, MB, 5), (bx, cpC N, 26), (by_, cpC X, 26), (bd, dvC D, 33)] y11) := K4.put 6 _ _ _ _ rfl hw11.out
          refine hK.out _ _ (Fm.pre (l' := [(bd, dvC D, 33)]) K11.out) (fun _ => ?_)
          clear hK K hH K4 hw11
          refine wpAnyH_done (by kernel_rfl) ?_ _
          have d11 := cc2.out _ _ K11.out
          go_wp2_with (first
            | (refine at_loadPm g q p (hr'.out _ _ K11.out) _ rfl rfl rfl ?_)
            | (refine gen_world (y11.alloc (.cells (pnC zeroP) 38)) (Fm w [(w.heap.size, cpC c, 26), (w.heap.size + 1, (plC at_ sp plen pcap (some ⟨g, off, none⟩) len cap), 42), (ga, MA7, 5), (gb, MB, 5), (bx, cpC N, 26), (by_, cpC X, 26), (bd, dvC D, 33), (y11.heap.size, pnC zeroP, 38)]) (K11.out.new _ _) ?_; intro y12 K12)
            | (refine at_storeP y11.heap.size zeroP p (K12.out.get 7 _ _ _ rfl) _ _ rfl rfl rfl rfl ?_; intro y13 hw13; have K13 : Hid (Fm w [(w.heap.size, cpC c, 26), (w.heap.size + 1, (plC at_ sp plen pcap (some ⟨g, off, none⟩) len cap), 42), (ga, MA7, 5), (gb, MB, 5), (bx, cpC N, 26), (by_, cpC X, 26), (bd, dvC D, 33), (y11.heap.size, pnC p, 38)] y13) := K12.out.put 7 _ _ _ _ rfl hw13.out; have f1 := BoxD.f1 (K13.out.get 6 _ _ _ rfl); have f2 := BoxD.f2 (K13.out.get 6 _ _ _ rfl); have f3 := BoxD.f3 (K13.out.get 6 _ _ _ rfl); have f4 := BoxD.f4 (K13.out.get 6 _ _ _ rfl); have f5 := BoxD.f5 (K13.out.get 6 _ _ _ rfl); rw [hA.out] at f1; rw [g3.out] at f3; rw [g4.out] at f4; rw [← e2.out] at f5; have pd := BoxP.fData (K13.out.get 7 _ _ _ rfl); have pz := frozen_heap (K13.out.get 7 _ _ _ rfl) 1; have Sp : Hid (Fm w [(w.heap.size, cpC c, 26), (w.heap.size + 1, (plC at_ sp plen pcap (some ⟨g, off, none⟩) len cap), 42), (ga, MA7, 5), (gb, MB, 5), (bx, cpC N, 26), (by_, cpC X, 26), (bd, dvC D, 33), (y11.heap.size, pnC { p with Data := V }, 38)] (y13.setCell ⟨y11.heap.size, 1, none⟩ (.int .u8 V))) := K13.out.setCell 7 _ _ _ _ rfl 1 _ rfl)
            | (refine gen_world (y13.setCell ⟨y11.heap.size, 1, none⟩ (.int .u8 V)) (Fm w [(w.heap.size, cpC c, 26), (w.heap.size + 1, (plC at_ sp plen pcap (some ⟨g, off, none⟩) len cap), 42), (ga, MA7, 5), (gb, MB, 5), (bx, cpC N, 26), (by_, cpC X, 26), (bd, dvC D, 33), (y11.heap.size, pnC { p with Data := V }, 38)]) Sp.out ?_; intro y14 K14; have f1 := BoxD.f1 (K14.out.get 6 _ _ _ rfl); have f2 := BoxD.f2 (K14.out.get 6 _ _ _ rfl); have f3 := BoxD.f3 (K14.out.get 6 _ _ _ rfl); have f4 := BoxD.f4 (K14.out.get 6 _ _ _ rfl); have f5 := BoxD.f5 (K14.out.get 6 _ _ _ rfl); rw [hA.out] at f1; rw [g3.out] at f3; rw [g4.out] at f4; have qd : y14.cell? ⟨y11.heap.size, 1, none⟩ = some (.int .u8 V) := BoxP.fData (p := { p with Data := V }) (K14.out.get 7 _ _ _ rfl); have mw := (hmb.out _ _ 3 K14.out rfl).1; have mz := (hmb.out _ _ 3 K14.out rfl).2; have Sw : Hid (Fm w [(w.heap.size, cpC c, 26), (w.heap.size + 1, (plC at_ sp plen pcap (some ⟨g, off, none⟩) len cap), 42), (ga, MA7, 5), (gb, (MB.setIfInBounds A (.int .u8 V)), 5), (bx, cpC N, 26), (by_, cpC X, 26), (bd, dvC D, 33), (y11.heap.size, pnC { p with Data := V }, 38)] (y14.setCell ⟨gb, A, none⟩ (.int .u8 V))) := K14.out.setCell 3 _ _ _ _ rfl A _ rfl)
            | (refine gen_world (y14.setCell ⟨gb, A, none⟩ (.int .u8 V)) (Fm w [(w.heap.size, cpC c, 26), (w.heap.size + 1, (plC at_ sp plen pcap (some ⟨g, off, none⟩) len cap), 42), (ga, MA7, 5), (gb, (MB.setIfInBounds A (.int .u8 V)), 5), (bx, cpC N, 26), (by_, cpC X, 26), (bd, dvC D, 33), (y11.heap.size, pnC { p with Data := V }, 38)]) Sw.out ?_; intro y18 K18)
            | (go_at_call 12; refine (hS2 _).mono ?_; rintro e v19 ⟨rfl, hb19⟩; have K19 : Hid (Fm w [(w.heap.size, cpC c, 26), (w.heap.size + 1, (plC at_ sp plen pcap (some ⟨g, off, none⟩) len cap), 42), (ga, MA7, 5), (gb, (MB.setIfInBounds A (.int .u8 V)), 5), (bx, cpC N, 26), (by_, cpC X, 26), (bd, dvC D, 33), (y11.heap.size, pnC { p with Data := V }, 38)] v19) := K18.out.below hb19)
            | (refine at_storeC by_ X N (K19.out.get 5 _ _ _ rfl) _ _ rfl rfl rfl rfl ?_; intro y20 hw20; have K20 : Hid (Fm w [(w.heap.size, cpC c, 26), (w.heap.size + 1, (plC at_ sp plen pcap (some ⟨g, off, none⟩) len cap), 42), (ga, MA7, 5), (gb, (MB.setIfInBounds A (.int .u8 V)), 5), (bx, cpC N, 26), (by_, cpC N, 26), (bd, dvC D, 33), (y11.heap.size, pnC { p with Data := V }, 38)] y20) := K19.out.put 5 _ _ _ _ rfl hw20.out)
            | (refine at_neC N N rfl _ _ _ rfl rfl rfl rfl ?_)
            | (refine at_loadC bx N (K20.out.get 4 _ _ _ rfl) _ rfl rfl rfl ?_)
            | (refine at_loadC by_ N (K20.out.get 5 _ _ _ rfl) _ rfl rfl rfl ?_)
            | (refine at_loadC by_ X (K18.out.get 5 _ _ _ rfl) _ rfl rfl rfl ?_)
            | (refine at_loadP y11.heap.size { p with Data := V } (K18.out.get 7 _ _ _ rfl) _ rfl rfl rfl ?_))
          go_roundw
          case rel => exact ⟨k + 1, _, N, Z, MA7, (MB.setIfInBounds A (.int .u8 V)), rfl, by have := hk'.out; omega, by simp, hNw, hZ, ⟨hMA.out, (by rw [e1.out]; exact hM.out.2.set A V)⟩, Fm.pre (l' := [(bd, dvC D, 33), (y11.heap.size, pnC { p with Data := V }, 38)]) K20.out⟩
          case measure => have := hk'.out; simp [intOf]; omega
        · rw [if_pos (by rfl)]
          go_wp2
          have K4 := hH.new (dvC zeroD) 33
          refine hK.out _ _ (hH.below ((Below.refl _ _).alloc (Nat.le_refl _) _)) (fun hH => ?_)
          clear hK K
          generalize z1.heap.size = bd at K4 ⊢
          generalize z1.alloc _ = y10 at K4 hH ⊢
          refine wpAnyH_ready (rs := [7]) (by kernel_rfl) (by simp) (AllReadyH.cons rfl (fun K hK => ?_) AllReadyH.nil)
          rw [if_pos (by rfl)]
          go_wp2_with (go_at_call 10; refine (hD2 _ (tb'.out.below hH.low)).mono ?_; rintro e v9 ⟨rfl, hb9⟩)
          replace K4 := K4.below hb9
          refine hK.out _ _ (hH.below hb9) (fun hH => ?_)
          clear hK K hb9
          refine wpAnyH_ready (rs := [9]) (by kernel_rfl) (by simp) (AllReadyH.cons rfl (fun K hK => ?_) AllReadyH.nil)
          rw [if_pos (by rfl)]
          refine wp_storeD bd zeroD D (K4.get 6 _ _ _ rfl) _ _ rfl rfl rfl ?_
          intro y11 hw11
          have K11 : Hid (Fm w [(w.heap.size, cpC c, 26), (w.heap.size + 1, (plC at_ sp plen pcap (some ⟨g, off, none⟩) len cap), 42), (ga, MA7, 5), (gb, MB, 5), (bx, cpC N, 26), (by_, cpC X, 26), (bd, dvC D, 33)] y11) := K4.put 6 _ _ _ _ rfl hw11.out
          refine hK.out _ _ (Fm.pre (l' := [(bd, dvC D, 33)]) K11.out) (fun _ => ?_)
          clear hK K hH K4 hw11
          refine wpAnyH_done (by kernel_rfl) ?_ _
          have d11 := cc2.out _ _ K11.out
          go_wp2_with (first
            | (refine at_loadPm g q p (hr'.out _ _ K11.out) _ rfl rfl rfl ?_)
            | (refine gen_world (y11.alloc (.cells (pnC zeroP) 38)) (Fm w [(w.heap.size, cpC c, 26), (w.heap.size + 1, (plC at_ sp plen pcap (some ⟨g, off, none⟩) len cap), 42), (ga, MA7, 5), (gb, MB, 5), (bx, cpC N, 26), (by_, cpC X, 26), (bd, dvC D, 33), (y11.heap.size, pnC zeroP, 38)]) (K11.out.new _ _) ?_; intro y12 K12)
            | (refine at_storeP y11.heap.size zeroP p (K12.out.get 7 _ _ _ rfl) _ _ rfl rfl rfl rfl ?_; intro y13 hw13; have K13 : Hid (Fm w [(w.heap.size, cpC c, 26), (w.heap.size + 1, (plC at_ sp plen pcap (some ⟨g, off, none⟩) len cap), 42), (ga, MA7, 5), (gb, MB, 5), (bx, cpC N, 26), (by_, cpC X, 26), (bd, dvC D, 33), (y11.heap.size, pnC p, 38)] y13) := K12.out.put 7 _ _ _ _ rfl hw13.out; have f1 := BoxD.f1 (K13.out.get 6 _ _ _ rfl); have f2 := BoxD.f2 (K13.out.get 6 _ _ _ rfl); have f3 := BoxD.f3 (K13.out.get 6 _ _ _ rfl); have f4 := BoxD.f4 (K13.out.get 6 _ _ _ rfl); have f5 := BoxD.f5 (K13.out.get 6 _ _ _ rfl); rw [hA.out] at f1; rw [g3.out] at f3; rw [g4.out] at f4; rw [← e2.out] at f5; have pd := BoxP.fData (K13.out.get 7 _ _ _ rfl); have pz := frozen_heap (K13.out.get 7 _ _ _ rfl) 1; have Sp : Hid (Fm w [(w.heap.size, cpC c, 26), (w.heap.size + 1, (plC at_ sp plen pcap (some ⟨g, off, none⟩) len cap), 42), (ga, MA7, 5), (gb, MB, 5), (bx, cpC N, 26), (by_, cpC X, 26), (bd, dvC D, 33), (y11.heap.size, pnC { p with Data := V }, 38)] (y13.setCell ⟨y11.heap.size, 1, none⟩ (.int .u8 V))) := K13.out.setCell 7 _ _ _ _ rfl 1 _ rfl)
            | (refine gen_world (y13.setCell ⟨y11.heap.size, 1, none⟩ (.int .u8 V)) (Fm w [(w.heap.size, cpC c, 26), (w.heap.size + 1, (plC at_ sp plen pcap (some ⟨g, off, none⟩) len cap), 42), (ga, MA7, 5), (gb, MB, 5), (bx, cpC N, 26), (by_, cpC X, 26), (bd, dvC D, 33), (y11.heap.size, pnC { p with Data := V }, 38)]) Sp.out ?_; intro y14 K14; have f1 := BoxD.f1 (K14.out.get 6 _ _ _ rfl); have f2 := BoxD.f2 (K14.out.get 6 _ _ _ rfl); have f3 := BoxD.f3 (K14.out.get 6 _ _ _ rfl); have f4 := BoxD.f4 (K14.out.get 6 _ _ _ rfl); have f5 := BoxD.f5 (K14.out.get 6 _ _ _ rfl); rw [hA.out] at f1; rw [g3.out] at f3; rw [g4.out] at f4; have qd : y14.cell? ⟨y11.heap.size, 1, none⟩ = some (.int .u8 V) := BoxP.fData (p := { p with Data := V }) (K14.out.get 7 _ _ _ rfl); have mw := (hmb.out _ _ 3 K14.out rfl).1; have mz := (hmb.out _ _ 3 K14.out rfl).2; have Sw : Hid (Fm w [(w.heap.size, cpC c, 26), (w.heap.size + 1, (plC at_ sp plen pcap (some ⟨g, off, none⟩) len cap), 42), (ga, MA7, 5), (gb, (MB.setIfInBounds A (.int .u8 V)), 5), (bx, cpC N, 26), (by_, cpC X, 26), (bd, dvC D, 33), (y11.heap.size, pnC { p with Data := V }, 38)] (y14.setCell ⟨gb, A, none⟩ (.int .u8 V))) := K14.out.setCell 3 _ _ _ _ rfl A _ rfl)
            | (refine gen_world (y14.setCell ⟨gb, A, none⟩ (.int .u8 V)) (Fm w [(w.heap.size, cpC c, 26), (w.heap.size + 1, (plC at_ sp plen pcap (some ⟨g, off, none⟩) len cap), 42), (ga, MA7, 5), (gb, (MB.setIfInBounds A (.int .u8 V)), 5), (bx, cpC N, 26), (by_, cpC X, 26), (bd, dvC D, 33), (y11.heap.size, pnC { p with Data := V }, 38)]) Sw.out ?_; intro y18 K18)
            | (go_at_call 12; refine (hS2 _).mono ?_; rintro e v19 ⟨rfl, hb19⟩; have K19 : Hid (Fm w [(w.heap.size, cpC c, 26), (w.heap.size + 1, (plC at_ sp plen pcap (some ⟨g, off, none⟩) len cap), 42), (ga, MA7, 5), (gb, (MB.setIfInBounds A (.int .u8 V)), 5), (bx, cpC N, 26), (by_, cpC X, 26), (bd, dvC D, 33), (y11.heap.size, pnC { p with Data := V }, 38)] v19) := K18.out.below hb19)
            | (refine at_storeC by_ X N (K19.out.get 5 _ _ _ rfl) _ _ rfl rfl rfl rfl ?_; intro y20 hw20; have K20 : Hid (Fm w [(w.heap.size, cpC c, 26), (w.heap.size + 1, (plC at_ sp plen pcap (some ⟨g, off, none⟩) len cap), 42), (ga, MA7, 5), (gb, (MB.setIfInBounds A (.int .u8 V)), 5), (bx, cpC N, 26), (by_, cpC N, 26), (bd, dvC D, 33), (y11.heap.size, pnC { p with Data := V }, 38)] y20) := K19.out.put 5 _ _ _ _ rfl hw20.out)
            | (refine at_neC N N rfl _ _ _ rfl rfl rfl rfl ?_)
            | (refine at_loadC bx N (K20.out.get 4 _ _ _ rfl) _ rfl rfl rfl ?_)
            | (refine at_loadC by_ N (K20.out.get 5 _ _ _ rfl) _ rfl rfl rfl ?_)
            | (refine at_loadC by_ X (K18.out.get 5 _ _ _ rfl) _ rfl rfl rfl ?_)
            | (refine at_loadP y11.heap.size { p with Data := V } (K18.out.get 7 _ _ _ rfl) _ rfl rfl rfl ?_))
          go_roundw
          case rel => exact ⟨k + 1, _, N, Z, MA7, (MB.setIfInBounds A (.int .u8 V)), rfl, by have := hk'.out; omega, by simp, hNw, hZ, ⟨hMA.out, (by rw [e1.out]; exact hM.out.2.set A V)⟩, Fm.pre (l' := [(bd, dvC D, 33), (y11.heap.size, pnC { p with Data := V }, 38)]) K20.out⟩
          case measure => have := hk'.out; simp [intOf]; omega
    · have hke : k = len := by omega
      subst hke
      have d2 : wx.cell? ⟨w.heap.size + 1, 2, none⟩ = some (.slice a k cap) := cell_heap (K.out.get 1 _ _ _ rfl) 2
      clear hk hlt hP'
      go_wp2
      go_loopw [12] (fun i wz => ∃ (j : Nat) (wy : World), wy = wz ∧ j ≤ 65536 ∧ i = .int .i64 (j : Int) ∧ Hid (Fm w [(w.heap.size, cpC c, 26), (w.heap.size + 1, (plC at_ sp plen pcap a k cap), 42), (ga, MA, 5), (gb, MB, 5), (bx, cpC X, 26), (by_, cpC X, 26)] wy)) (fun i _ => (65536 - intOf i).toNat)
      case atStart => exact ⟨0, _, rfl, by omega, rfl, K⟩
      case round =>
        clear K d2
        obtain ⟨j, wy, rfl, hj, rfl, K⟩ := hrel
        by_cases hlt : j < 65536
        · have q1 : (j : Int) < 65536 := by omega
          have ia : ∀ (g : Nat) v, (Instr.indexAt 40 (.slice (some ⟨g, 0, none⟩) 65536 65536) (.int .i64 (j : Int))).run Tryz.prog v = .ok (.pointer (some ⟨g, j, none⟩)) v := fun g v => by
            have := idxS (g := g) (off := 0) (len := 65536) (cap := 65536) Tryz.underlying40 (s := 1) (by kernel_rfl) .i64 j v hlt
            simpa using this
          have ha : Hid (∀ y, Fm w [(w.heap.size, cpC c, 26), (w.heap.size + 1, (plC at_ sp plen pcap a k cap), 42), (ga, MA, 5), (gb, MB, 5), (bx, cpC X, 26), (by_, cpC X, 26)] y → y.cell? ⟨ga, j, none⟩ = some (.int .u8 (Y j))) := fun y hy => (cell_heap (hy.get 2 _ _ _ rfl) j).trans (hM.out.1.2 j hlt)
          have hb : Hid (∀ y, Fm w [(w.heap.size, cpC c, 26), (w.heap.size + 1, (plC at_ sp plen pcap a k cap), 42), (ga, MA, 5), (gb, MB, 5), (bx, cpC X, 26), (by_, cpC X, 26)] y → y.cell? ⟨gb, j, none⟩ = some (.int .u8 (Y j))) := fun y hy => (cell_heap (hy.get 3 _ _ _ rfl) j).trans (hM.out.2.2 j hlt)
          obtain ⟨U, hU⟩ : ∃ U, Y j = U := ⟨_, rfl⟩
          rw [hU] at ha hb
          have hj' : Hid (j < 65536) := hlt
          clear hU hj hlt
          go_wp2
          refine region_class_tail 8 (Fm w [(w.heap.size, cpC c, 26), (w.heap.size + 1, (plC at_ sp plen pcap a k cap), 42), (ga, MA, 5), (gb, MB, 5), (bx, cpC X, 26), (by_, cpC X, 26)]) (by kernel_rfl) (by kernel_rfl) (K.out.below (below_drew (Below.refl _ _))) ?_
          simp only [List.take_succ_cons, List.take_zero, List.drop_succ_cons, List.drop_zero]
          refine quiet_one (.slice (some ⟨ga, 0, none⟩) 65536 65536) rfl (fun u hy => by go_simp) ?_
          refine quiet_one (.int .i64 (j : Int)) rfl (fun u hy => by go_simp) ?_
          refine quiet_one (.pointer (some ⟨ga, j, none⟩)) rfl (fun u hy => by go_simp) ?_
          refine quiet_one (.int .u8 U) rfl (fun u hy => by have d := ha.out _ hy; go_simp) ?_
          refine quiet_one (.slice (some ⟨gb, 0, none⟩) 65536 65536) rfl (fun u hy => by go_simp) ?_
          refine quiet_one (.int .i64 (j : Int)) rfl (fun u hy => by go_simp) ?_
          refine quiet_one (.pointer (some ⟨gb, j, none⟩)) rfl (fun u hy => by go_simp) ?_
          refine quiet_one (.int .u8 U) rfl (fun u hy => by have d := hb.out _ hy; go_simp) ?_
          refine wpQuiet_nil ?_
          intro z25 K25
          replace K25 : Hid _ := K25
          go_simp
          go_wp2
          go_roundw
          case rel => exact ⟨j + 1, _, rfl, by have := hj'.out; omega, by simp, K25⟩
          case measure => have := hj'.out; simp [intOf]; omega
        · have hje : j = 65536 := by omega
          subst hje
          clear hj hlt
          go_wp2
          go_ret
          exact ⟨by first | rfl | simp, K.out.low⟩
theorem mem_walk (w : World) (c : Cp) (hc : c.wf) (at_ : Nat) (hat : at_ < 65536) (sp : Option Addr) (plen pcap : Nat) (hpl : plen ≤ maxLen) (a : Option Addr) (len cap : Nat) (hl : len ≤ maxLen) (P : Nat → Int) (hP0 : ∀ j, 0 ≤ P j ∧ P j < 256) (hP : Lies w sp plen P) (hPin : PinsIn w a len) (tb : Tabs w) : Calls Tryz.prog 4 #[.agg (cpC c), .agg (plC at_ sp plen pcap a len cap)] w fun e w' => e = .returned (.bool true) ∧ Below w.heap.size w w' := by
  by_cases h1 : (2147483647 : Int) < plen
  · exact mem_long1 w c hc at_ hat sp plen pcap hpl a len cap hl h1
  by_cases h2 : (2147483647 : Int) < len
  · exact mem_long2 w c hc at_ hat sp plen pcap hpl a len cap hl (by omega) h2
  by_cases h3 : (2147483647 : Int) < (plen : Int) + len
  · exact mem_long3 w c hc at_ hat sp plen pcap hpl a len cap hl (by omega) (by omega) h3
  · exact mem_short w c hc at_ hat sp plen pcap hpl a len cap hl (by omega) (by omega) (by omega) P hP0 hP hPin tb
end Go.Proofs.YtbeeefekndcgnaaGreatDoor
