/- The bytes of the marks, in blocks. -/
import Derived.Test.YthbdpceobnkflaaDoorJ18
namespace Go.Proofs.YthbdpceobnkflaaDoor
open Go Go.RowKit
set_option linter.unusedVariables false
set_option maxHeartbeats 3000000
set_option maxRecDepth 20000

/-- Bytes behind the last row. -/
def addL : List (Int × List UInt8) → List UInt8 → List (Int × List UInt8)
  | [], _ => []
  | [x], s => [(x.1, x.2 ++ s)]
  | x :: y :: r, s => x :: addL (y :: r) s
theorem addL_app (x : Int × List UInt8) (s : List UInt8) : ∀ pre : List (Int × List UInt8), addL (pre ++ [x]) s = pre ++ [(x.1, x.2 ++ s)]
  | [] => rfl
  | [y] => rfl
  | y :: y' :: r => by
    have := addL_app x s (y' :: r)
    simp only [List.cons_append] at this ⊢
    rw [addL, this]
def segM (Mm : List UInt8) (m : Mk) : List UInt8 := (Mm.drop m.a.toNat).take m.n.toNat
def bst (Mm : List UInt8) (acc : List (Int × List UInt8)) (e : Int) (m : Mk) : List (Int × List UInt8) := addL (if m.a = e then acc else acc ++ [(m.a, [])]) (segM Mm m)
def blksF (Mm : List UInt8) : List (Int × List UInt8) → Int → List Mk → List (Int × List UInt8)
  | acc, _, [] => acc
  | acc, e, m :: r => blksF Mm (bst Mm acc e m) (m.a + m.n) r
/-- Marks that lie among the addresses. -/
def MkIn (m : Mk) : Prop := 0 ≤ m.a ∧ 1 ≤ m.n ∧ m.a + m.n ≤ 65536
theorem own_some {α : Type} {t : TypeId} {s : Nat} {c : α → List Value} {B : Nat} {w : World} {v : Value} {l : List α} (h : OwnL t s c B w v l) (hl : l ≠ []) : ∃ g cap, v = .slice (some ⟨g, 0, none⟩) l.length cap := by
  rcases h.2 with ⟨_, h0⟩ | ⟨g, cap, cur, rfl, _⟩
  · exact absurd (List.length_eq_zero_iff.1 h0) hl
  · exact ⟨g, cap, rfl⟩
theorem app1_bx {α : Type} {t t' : TypeId} {s : Nat} {c : α → List Value} {B : Nat} {v v' : Value} {l : List α} {x : α} {z z1 : World} {o : Obj} (h : OwnL t s c B z v l) (A : App1L t s c B v l x v' (z.alloc o) z1) {g : Nat} {cs : Array Value} (hne : t ≠ t') (hb : Bx z g cs t') : Bx z1 g cs t' := by
  have h1 : Bx (z.alloc o) g cs t' := hb.below (below1 z o)
  refine (A.cu.blk g (heap_lt h1) fun j hF => ?_).trans h1
  obtain ⟨c9, h9⟩ := h.ty g hF.1
  have := hb.symm.trans h9
  simp at this
  exact absurd this.2.symm hne
theorem slSeg (g : Nat) (a e : Int) (ha : 0 ≤ a) (h : a < e) (he : e ≤ 65536) : ∃ cp, ∀ v, (Instr.sliceAt 33 (.slice (some ⟨g, 0, none⟩) 65536 65536) (some (.int .i64 a)) (some (.int .i64 e)) none).run Tryd.prog v = .ok (.slice (some ⟨g, a.toNat, none⟩) (e - a).toNat cp) v := by
  obtain ⟨sp1, h1, h2⟩ := slB2 g 0 65536 65536 a.toNat e.toNat a e (by omega) (by omega) (by omega) (by omega) (by omega)
  have e1 := h2 (by omega)
  subst e1
  refine ⟨65536 - a.toNat, fun v => ?_⟩
  rw [h1 v, Nat.zero_add, show e.toNat - a.toNat = (e - a).toNat by omega]
theorem lies_seg {z : World} {g : Nat} {Mm : List UInt8} {t : TypeId} (h : Bx z g (rU Mm) t) (a k : Nat) : LiesL 1 cU z (some ⟨g, a, none⟩) ((Mm.drop a).take k) := fun j b hj => by
  refine ⟨g, a, rfl, fun i v hv => ?_⟩
  rw [List.getElem?_take] at hj
  split at hj
  · rw [List.getElem?_drop] at hj
    have hi : i = 0 := by
      have := (List.getElem?_eq_some_iff.1 hv).1
      simp [cU] at this
      exact this
    subst hi
    simp [cU] at hv
    subst hv
    rw [Nat.mul_one, Nat.add_zero]
    exact h.c _ _ (rU_get _ _ _ hj)
  · cases hj
theorem bls_box {y : World} {v : Value} {XB : List Bb} {z1 z2 : World} {bm : Nat} {cs cs' : Array Value} (h : Bls y v XB z1) (hb : Bx z1 bm cs 89) (hB : y.heap.size ≤ bm) (hw : Bx z2 bm cs' 89 ∧ (∀ B, B ≤ bm → Below B z1 z2) ∧ ∀ q, q ≠ bm → z2.heap[q]? = z1.heap[q]?) : Bls y v XB z2 :=
  ⟨h.low.trans (hw.2.1 _ hB), own_other hb (by decide) hw.2.2 h.o, fun X hX => ⟨own_other hb (by decide) hw.2.2 (h.r X hX).1, (h.r X hX).2⟩, h.ne⟩
/-- What blocks answers. -/
def BkE (y : World) (Bl : List (Int × List UInt8)) (e : Ending) (z : World) : Prop := ∃ v XB, e = .returned v ∧ Hid (Bls y v XB z ∧ plB XB = Bl)
theorem blocks_of (y : World) (q : Nu) (p : Nat) (vl : Value) (Mm : List UInt8) (hM : Mm.length = 65536) (hs : Hid (Bx y q.s (sC q p vl) 70)) (hb : Hid (Bx y q.b (rU Mm) 5)) (sp : Option Addr) (cap : Nat) (M : List Mk) (hl : Hid (LiesL 3 cM y sp M)) (hi : Hid (∀ m ∈ M, MkIn m)) (hn : M.length ≤ 65536) :
    Calls Tryd.prog 36 #[.pointer (some ⟨q.s, 0, none⟩), .slice sp M.length cap] y (BkE y (blksF Mm [] (-1) M)) := by
  obtain ⟨n, hn'⟩ : ∃ n, M.length = n := ⟨_, rfl⟩
  have hnn : Hid (M.length = n ∧ Mm.length = 65536) := ⟨hn', hM⟩
  rw [hn'] at hn ⊢
  have ni : (n : Int) ≤ 65536 := by omega
  have hfin : Hid (∀ v XB z, Bls y v XB z → plB XB = blksF Mm [] (-1) M → BkE y (blksF Mm [] (-1) M) (.returned v) z) := fun v XB z h1 h2 => ⟨v, XB, rfl, h1, h2⟩
  generalize BkE y (blksF Mm [] (-1) M) = Fin at hfin ⊢
  have K0 : Hid (Bls y (.slice none 0 0) [] y) := Bls.nil y
  clear hn hn' hM
  go_enter Tryd.func36, Tryd.ntmps36
  go_wp2
  go_loopw [5, 6, 12] (fun t5 t6 t12 wz => ∃ (i : Nat) (sb : Option Addr) (cb : Nat) (XB : List Bb) (e : Int) (z : World), z = wz ∧ t5 = .slice sb XB.length cb ∧ t6 = .int .i64 e ∧ t12 = .int .i64 (i : Int) ∧ Hid (i ≤ n ∧ XB.length ≤ i ∧ (XB = [] → e = -1) ∧ -1 ≤ e ∧ e ≤ 65536 ∧ (∀ pre X, XB = pre ++ [X] → X.1.a + (X.2.length : Int) = e ∧ 0 ≤ X.1.a) ∧ blksF Mm (plB XB) e (M.drop i) = blksF Mm [] (-1) M) ∧ Hid (Bls y (.slice sb XB.length cb) XB z)) (fun _ _ t12 _ => (n - intOf t12).toNat)
  case atStart => exact ⟨0, _, _, [], -1, _, rfl, rfl, rfl, rfl, ⟨Nat.zero_le _, Nat.zero_le _, fun _ => rfl, by decide, by decide, fun pre X h => absurd h (by simp), rfl⟩, K0⟩
  case round =>
    obtain ⟨i, sb, cb, XB, e, z, rfl, rfl, rfl, rfl, J, K⟩ := hrel
    clear K0
    by_cases hlt : i < n
    · obtain ⟨m, hx⟩ : ∃ m, M[i]? = some m := ⟨_, List.getElem?_eq_getElem (by rw [hnn.out.1]; exact hlt)⟩
      obtain ⟨m0, m1, m2⟩ := hi.out m (List.mem_of_getElem? hx)
      obtain ⟨gm, om, rfl, hc⟩ := hl.out i m hx
      have hc' : Hid (z.rangeAt gm (om + i * 3) (k3 m).toList) := range_keep hc K.out.low
      have hd : Hid (M.drop i = m :: M.drop (i + 1)) := by
        obtain ⟨h1, e1⟩ := List.getElem?_eq_some_iff.1 hx
        show _ = _
        rw [List.drop_eq_getElem_cons h1, e1]
      have ij := fun w => idxP (P := Tryd.prog) (g := gm) (off := om) (len := n) (cap := cap) Tryd.underlying26 (s := 3) (by kernel_rfl) .i64 i w hlt
      have hii : (i : Int) < n := by omega
      have hlt' : Hid (i < n) := hlt
      have wi : IntKind.i64.wrap ((i : Int) + 1) = (i : Int) + 1 := by rw [IntKind.wrap_i64]; omega
      have we : IntKind.i64.wrap (m.a + m.n) = m.a + m.n := by rw [IntKind.wrap_i64]; omega
      obtain ⟨cps, hsl⟩ := slSeg q.b m.a (m.a + m.n) m0 (by omega) m2
      rw [show m.a + m.n - m.a = m.n by omega] at hsl
      obtain ⟨a, ha⟩ : ∃ a, m.a = a := ⟨_, rfl⟩
      obtain ⟨mn, hmn⟩ : ∃ a, m.n = a := ⟨_, rfl⟩
      have hmm : Hid (m.a = a ∧ m.n = mn) := ⟨ha, hmn⟩
      rw [ha, hmn] at we hsl
      have hin : Hid (0 ≤ a ∧ 1 ≤ mn ∧ a + mn ≤ 65536) := by rw [← ha, ← hmn]; exact ⟨m0, m1, m2⟩
      have hc0 : Hid (cM m = [.int .i64 a, .int .i64 mn, .bool m.c]) := by show _ = _; rw [← ha, ← hmn]; rfl
      clear hlt hx hc m0 m1 m2 ha hmn
      have hyz : Hid (y.heap.size ≤ z.heap.size) := K.out.low.size
      by_cases hae : a = e
      · obtain ⟨pre, X, hXB⟩ : ∃ pre X, XB = pre ++ [X] := by
          rcases List.eq_nil_or_concat XB with h9 | ⟨pre, X, h9⟩
          · have := J.out.2.2.1 h9
            have := hin.out
            omega
          · exact ⟨pre, X, by rw [h9, List.concat_eq_append]⟩
        have hnx : (a != e) = false := by rw [bne_eq_false_iff_eq]; exact hae
        have hpl : Hid (pre.length + 1 ≤ i ∧ X.1.a + (X.2.length : Int) = a ∧ 0 ≤ X.1.a) := by
          have h1 := J.out.2.2.2.2.2.1 pre X hXB
          have h2 := J.out.2.1
          rw [hXB, List.length_append, List.length_singleton] at h2
          rw [hae]
          exact ⟨h2, h1⟩
        have hXl : Hid (X.2.length ≤ 65536) := by have h1 := hpl.out.2; have h2 := hin.out; show _ ≤ _; omega
        have hnext : Hid (∀ s6 m6 k6, i + 1 ≤ n ∧ (pre ++ [((⟨X.1.a, s6, m6, k6⟩ : Bk), X.2 ++ (Mm.drop a.toNat).take mn.toNat)]).length ≤ i + 1 ∧ (pre ++ [((⟨X.1.a, s6, m6, k6⟩ : Bk), X.2 ++ (Mm.drop a.toNat).take mn.toNat)] = [] → a + mn = -1) ∧ -1 ≤ a + mn ∧ a + mn ≤ 65536 ∧ (∀ pre' X', pre ++ [((⟨X.1.a, s6, m6, k6⟩ : Bk), X.2 ++ (Mm.drop a.toNat).take mn.toNat)] = pre' ++ [X'] → X'.1.a + (X'.2.length : Int) = a + mn ∧ 0 ≤ X'.1.a) ∧ blksF Mm (plB (pre ++ [((⟨X.1.a, s6, m6, k6⟩ : Bk), X.2 ++ (Mm.drop a.toNat).take mn.toNat)])) (a + mn) (M.drop (i + 1)) = blksF Mm [] (-1) M) := fun s6 m6 k6 => by
          have hii' := hin.out
          have hsg : ((Mm.drop a.toNat).take mn.toNat).length = mn.toNat := by
            rw [List.length_take, List.length_drop, hnn.out.2]
            omega
          refine ⟨hlt'.out, by simp; have := hpl.out.1; omega, fun h9 => absurd h9 (by simp), by omega, by omega, fun pre' X' h9 => ?_, ?_⟩
          · have h8 := List.append_inj' h9 rfl
            have h7 := h8.2
            simp at h7
            subst h7
            have h6 := hpl.out.2
            simp only [List.length_append, hsg]
            omega
          · rw [← J.out.2.2.2.2.2.2, hd.out]
            show _ = blksF Mm (bst Mm (plB XB) e m) (m.a + m.n) (M.drop (i + 1))
            rw [hmm.out.1, hmm.out.2]
            congr 1
            unfold bst segM
            rw [hmm.out.1, hmm.out.2, if_pos hae, hXB]
            unfold plB
            rw [List.map_append, List.map_append, List.map_singleton, List.map_singleton, addL_app]
        obtain ⟨g, cb9, hv⟩ := own_some K.out.o (by rw [hXB]; simp)
        rw [List.length_map] at hv
        injection hv with hv3 hv4 hv5
        subst hv3 hv5
        obtain ⟨N9, hN⟩ : ∃ N, XB.length = N := ⟨_, rfl⟩
        obtain ⟨L9, hL⟩ : ∃ L, pre.length = L := ⟨_, rfl⟩
        have hlx : pre.length + 1 = N9 := by rw [← hN, hXB]; simp
        have hN9 : Hid (pre.length + 1 = N9) := hlx
        have hL9 : Hid (pre.length = L9) := hL
        have il := fun w => idxP (P := Tryd.prog) (g := g) (off := 0) (len := N9) (cap := cb) Tryd.underlying25 (s := 2) (by kernel_rfl) .i64 L9 w (by omega)
        rw [Nat.zero_add] at il
        have wl : IntKind.i64.wrap ((N9 : Int) - 1) = (L9 : Int) := by rw [IntKind.wrap_i64]; have := hpl.out.1; have := hlt'.out; omega
        have hZ : Hid (∀ u, Bls y (.slice (some ⟨g, 0, none⟩) N9 cb) XB u → Bls y (.slice (some ⟨g, 0, none⟩) N9 cb) (pre ++ [X]) u) := fun u hu => by rw [hXB] at hu; exact hu
        rw [hN] at K ⊢
        clear hae hXB hlx hN hL
        go_wp2_with (first
          | ((with_reducible refine at_loadm rtM gm (om + i * 3) (k3 m) ?_ ?_ (.tmp 14) ?_ ?_ ?_ ?_); exact hc'.out; rfl; rfl; rfl; rfl)
          | ((with_reducible refine gen_world (z.alloc (.cells #[.int .i64 0, .int .i64 0, .bool false] 89)) (fun u => Bls y (.slice (some ⟨g, 0, none⟩) N9 cb) XB u ∧ Bx u z.heap.size (k3 zM) 89) ?_ ?_); exact ⟨K.out.below (below1 _ _), one_bxL _ _ _⟩; intro z1 K1)
          | ((with_reducible refine at_st rtM z.heap.size (k3 zM) (k3 m) ?_ ?_ ?_ ?_ (.tmp 8) (.tmp 15) ?_ ?_ ?_ ?_ ?_); exact K1.out.2; rfl; rfl; exact oneM _; rfl; rfl; rfl; rfl; intro z2 hw2; have K2 : Hid (Bls y (.slice (some ⟨g, 0, none⟩) N9 cb) XB z2 ∧ Bx z2 z.heap.size (k3 m) 89) := ⟨bls_box K1.out.1 K1.out.2 hyz.out hw2.out, hw2.out.1⟩; clear hw2 K1; have d0 : z2.cell? ⟨z.heap.size, 0, none⟩ = some (.int .i64 a) := by rw [← hmm.out.1]; exact K2.out.2.c 0 _ rfl
             have d1 : z2.cell? ⟨z.heap.size, 1, none⟩ = some (.int .i64 mn) := by rw [← hmm.out.2]; exact K2.out.2.c 1 _ rfl))
        have Z : Hid (Bls y (.slice (some ⟨g, 0, none⟩) N9 cb) (pre ++ [X]) z2 ∧ Bx z2 z.heap.size (k3 m) 89) := ⟨hZ.out z2 K2.out.1, K2.out.2⟩
        clear K2 K d0 d1
        refine wp_region_held_drew (S := fun u => Bx u q.s (sC q p vl) 70 ∧ Bx u z.heap.size (k3 m) 89) (by kernel_rfl) ⟨hs.out.below (below_drew Z.out.1.low), Z.out.2.below (below_drew (Below.refl _ _))⟩ (fun hH => ?_)
        have Z5 : Hid (Bls y (.slice (some ⟨g, 0, none⟩) N9 cb) (pre ++ [X]) z2.drew) := Z.out.1.below (below_drew (Below.refl _ _))
        clear Z
        generalize z2.drew = z5 at hH Z5 ⊢
        refine wpAnyH_take (i := 0) (v := .pointer (some ⟨g, L9 * 2, none⟩)) rfl (by kernel_rfl) (by kernel_rfl) (by kernel_rfl) (fun _ _ _ h => h) (.inl ⟨by kernel_rfl, fun u hu => by go_simp⟩) hH ?_
        try simp only [Act.put, List.setIfInBounds_toArray]
        refine wpAnyH_take (i := 1) (v := .pointer (some ⟨g, L9 * 2, none⟩)) rfl (by kernel_rfl) (by kernel_rfl) (by kernel_rfl) (fun _ _ _ h => h) (.inl ⟨by kernel_rfl, fun u hu => by go_simp⟩) hH ?_
        try simp only [Act.put]
        refine wpAnyH_take (i := 2) (v := .pointer (some ⟨g, L9 * 2, none⟩)) rfl (by kernel_rfl) (by kernel_rfl) (by kernel_rfl) (fun _ _ _ h => h) (.inl ⟨by kernel_rfl, fun u hu => by go_simp⟩) hH ?_
        try simp only [Act.put]
        refine wpAnyH_take (i := 3) (v := .pointer (some ⟨g, L9 * 2 + 1, none⟩)) rfl (by kernel_rfl) (by kernel_rfl) (by kernel_rfl) (fun _ _ _ h => h) (.inl ⟨by kernel_rfl, fun u hu => by go_simp⟩) hH ?_
        try simp only [Act.put]
        refine wpAnyH_take (i := 5) (v := .pointer (some ⟨q.s, 0, none⟩)) rfl (by kernel_rfl) (by kernel_rfl) (by kernel_rfl) (fun _ _ _ h => h) (.inl ⟨by kernel_rfl, fun u hu => by go_simp⟩) hH ?_
        try simp only [Act.put]
        refine wpAnyH_take (i := 6) (v := .pointer (some ⟨q.s, 0, none⟩)) rfl (by kernel_rfl) (by kernel_rfl) (by kernel_rfl) (fun _ _ _ h => h) (.inl ⟨by kernel_rfl, fun u hu => by go_simp⟩) hH ?_
        try simp only [Act.put]
        refine wpAnyH_take (i := 7) (v := .pointer (some ⟨q.s, 3, none⟩)) rfl (by kernel_rfl) (by kernel_rfl) (by kernel_rfl) (fun _ _ _ h => h) (.inl ⟨by kernel_rfl, fun u hu => by go_simp⟩) hH ?_
        try simp only [Act.put]
        refine wpAnyH_take (i := 8) (v := .slice (some ⟨q.b, 0, none⟩) 65536 65536) rfl (by kernel_rfl) (by kernel_rfl) (by kernel_rfl) (fun _ _ _ h => h) (.inl ⟨by kernel_rfl, fun u hu => by have d : u.cell? ⟨q.s, 3, none⟩ = some (.slice (some ⟨q.b, 0, none⟩) 65536 65536) := hu.1.c 3 _ rfl; go_simp⟩) hH ?_
        try simp only [Act.put]
        refine wpAnyH_take (i := 9) (v := .pointer (some ⟨z.heap.size, 0, none⟩)) rfl (by kernel_rfl) (by kernel_rfl) (by kernel_rfl) (fun _ _ _ h => h) (.inl ⟨by kernel_rfl, fun u hu => by go_simp⟩) hH ?_
        try simp only [Act.put]
        refine wpAnyH_take (i := 10) (v := .int .i64 a) rfl (by kernel_rfl) (by kernel_rfl) (by kernel_rfl) (fun _ _ _ h => h) (.inl ⟨by kernel_rfl, fun u hu => by have d : u.cell? ⟨z.heap.size, 0, none⟩ = some (.int .i64 a) := (hmm.out.1 ▸ hu.2.c 0 (.int .i64 m.a) rfl); go_simp⟩) hH ?_
        try simp only [Act.put]
        refine wpAnyH_take (i := 11) (v := .int .i64 (a + mn)) rfl (by kernel_rfl) (by kernel_rfl) (by kernel_rfl) (fun _ _ _ h => h) (.inl ⟨by kernel_rfl, fun u hu => by go_simp⟩) hH ?_
        try simp only [Act.put]
        refine wpAnyH_take (i := 12) (v := .slice (some ⟨q.b, a.toNat, none⟩) mn.toNat cps) rfl (by kernel_rfl) (by kernel_rfl) (by kernel_rfl) (fun _ _ _ h => h) (.inl ⟨by kernel_rfl, fun u hu => by have d := hsl u; go_simp⟩) hH ?_
        try simp only [Act.put]
        refine wpAnyH_ready (rs := [4]) (by kernel_rfl) (by simp) (AllReadyH.cons rfl (fun K hK => ?_) AllReadyH.nil)
        rw [if_pos (by rfl)]
        have c4 : z5.cell? ⟨g, L9 * 2 + 1, none⟩ = some (.slice X.1.sp X.1.m X.1.cap) := (hL9.out ▸ (own_cell1 Z5.out.o pre.length X.1 (by simp) none 0 0).1)
        go_wp2
        refine hK.out _ _ hH (fun hH => ?_)
        clear hK K c4
        try simp only [Act.put, List.setIfInBounds_toArray, List.set_cons_zero, List.set_cons_succ]
        refine wpAnyH_ready (rs := [13]) (by kernel_rfl) (by simp) (AllReadyH.cons rfl (fun K hK => ?_) AllReadyH.nil)
        rw [if_pos (by rfl)]
        have hX := Z5.out.r X (by simp)
        have hseg : ((Mm.drop a.toNat).take mn.toNat).length = mn.toNat := by
          rw [List.length_take, List.length_drop, hnn.out.2]
          have := hin.out
          omega
        obtain ⟨v6, z6, hrun, o6, g6, n6⟩ := run_appN kU z5 y.heap.size (.slice X.1.sp X.1.m X.1.cap) X.2 ((Mm.drop a.toNat).take mn.toNat) 33 hX.1 (some ⟨q.b, a.toNat, none⟩) mn.toNat cps hseg (lies_seg (hb.out.below Z5.out.low) _ _) (by have := hin.out; omega) (by have := hXl.out; have := hin.out; omega) Z5.out.low.size
        obtain ⟨s6, k6, e6, -⟩ := OwnL.open (c := cU) (s := 1) (fun _ => rfl) o6
        obtain ⟨m6, hm6⟩ : ∃ q, (X.2 ++ (Mm.drop a.toNat).take mn.toNat).length = q := ⟨_, rfl⟩
        rw [hm6] at e6
        subst e6
        obtain ⟨f1, f2, B6⟩ := Z5.out.grow o6 g6 n6 hm6
        rw [hL9.out] at f1 f2 B6
        replace B6 : Hid _ := B6
        refine wp_appR 33 (.tmp 40) (.tmp 48) rfl _ _ rfl rfl _ _ hrun ?_
        have hq6 : Hid (Bx z6 q.s (sC q p vl) 70 ∧ Bx z6 z.heap.size (k3 m) 89) := ⟨bx_grown hX.1 hH.1 (by decide) g6, bx_grown hX.1 hH.2 (by decide) g6⟩
        obtain ⟨cs6, hbk6⟩ := (Z5.out.o).ty g rfl
        have hbk7 : Hid (Bx z6 g cs6 46) := bx_grown hX.1 hbk6 (by decide) g6
        refine hK.out _ _ hq6.out (fun hH => ?_)
        clear hK K hrun o6 g6 n6 hX hseg hbk6 Z5 hm6
        try simp only [Act.put, List.setIfInBounds_toArray]
        refine wpAnyH_take (i := 14) (v := .pointer (some ⟨g, L9 * 2, none⟩)) rfl (by kernel_rfl) (by kernel_rfl) (by kernel_rfl) (fun _ _ _ h => h) (.inl ⟨by kernel_rfl, fun u hu => by go_simp⟩) hH ?_
        try simp only [Act.put]
        refine wpAnyH_take (i := 15) (v := .pointer (some ⟨g, L9 * 2 + 1, none⟩)) rfl (by kernel_rfl) (by kernel_rfl) (by kernel_rfl) (fun _ _ _ h => h) (.inl ⟨by kernel_rfl, fun u hu => by go_simp⟩) hH ?_
        try simp only [Act.put]
        refine wpAnyH_ready (rs := [16]) (by kernel_rfl) (by simp) (AllReadyH.cons rfl (fun K hK => ?_) AllReadyH.nil)
        rw [if_pos (by rfl)]
        go_wp2
        refine hK.out _ _ ⟨bx_other hbk7.out (by decide) (fun q' hq' => heap_setCell_other z6 ⟨g, L9 * 2 + 1, none⟩ q' _ hq') hH.1, bx_other hbk7.out (by decide) (fun q' hq' => heap_setCell_other z6 ⟨g, L9 * 2 + 1, none⟩ q' _ hq') hH.2⟩ (fun _ => ?_)
        refine wpAnyH_done (by kernel_rfl) ?_ _
        clear hK K f1 f2 hH hq6 hbk7
        go_wp2
        go_roundw
        case rel => exact ⟨i + 1, _, _, pre ++ [((⟨X.1.a, s6, m6, k6⟩ : Bk), X.2 ++ (Mm.drop a.toNat).take mn.toNat)], a + mn, _, rfl, by rw [List.length_append, List.length_singleton, hN9.out], rfl, by simp, hnext.out s6 m6 k6, by
          have e9 : (pre ++ [((⟨X.1.a, s6, m6, k6⟩ : Bk), X.2 ++ (Mm.drop a.toNat).take mn.toNat)]).length = N9 := by rw [← hN9.out]; simp
          rw [e9]
          exact B6⟩
        case measure => have := hlt'.out; simp [intOf]; omega
      · obtain ⟨pre, hpre⟩ : ∃ pre, XB = pre := ⟨_, rfl⟩
        obtain ⟨X, hX0⟩ : ∃ X : Bb, X = (⟨a, none, 0, 0⟩, []) := ⟨_, rfl⟩
        have hnx : (a != e) = true := by rw [bne_iff_ne]; exact hae
        have hpl : Hid (pre.length ≤ i ∧ X.1.a + (X.2.length : Int) = a ∧ 0 ≤ X.1.a) := by
          rw [hX0, ← hpre]
          exact ⟨J.out.2.1, by simp, hin.out.1⟩
        have hXl : Hid (X.2.length ≤ 65536) := by show _ ≤ _; rw [hX0]; simp
        have hnext : Hid (∀ s6 m6 k6, i + 1 ≤ n ∧ (pre ++ [((⟨X.1.a, s6, m6, k6⟩ : Bk), X.2 ++ (Mm.drop a.toNat).take mn.toNat)]).length ≤ i + 1 ∧ (pre ++ [((⟨X.1.a, s6, m6, k6⟩ : Bk), X.2 ++ (Mm.drop a.toNat).take mn.toNat)] = [] → a + mn = -1) ∧ -1 ≤ a + mn ∧ a + mn ≤ 65536 ∧ (∀ pre' X', pre ++ [((⟨X.1.a, s6, m6, k6⟩ : Bk), X.2 ++ (Mm.drop a.toNat).take mn.toNat)] = pre' ++ [X'] → X'.1.a + (X'.2.length : Int) = a + mn ∧ 0 ≤ X'.1.a) ∧ blksF Mm (plB (pre ++ [((⟨X.1.a, s6, m6, k6⟩ : Bk), X.2 ++ (Mm.drop a.toNat).take mn.toNat)])) (a + mn) (M.drop (i + 1)) = blksF Mm [] (-1) M) := fun s6 m6 k6 => by
          have hii' := hin.out
          have hsg : ((Mm.drop a.toNat).take mn.toNat).length = mn.toNat := by
            rw [List.length_take, List.length_drop, hnn.out.2]
            omega
          refine ⟨hlt'.out, by simp; have := hpl.out.1; omega, fun h9 => absurd h9 (by simp), by omega, by omega, fun pre' X' h9 => ?_, ?_⟩
          · have h8 := List.append_inj' h9 rfl
            have h7 := h8.2
            simp at h7
            subst h7
            have h6 := hpl.out.2
            simp only [List.length_append, hsg]
            omega
          · rw [← J.out.2.2.2.2.2.2, hd.out]
            show _ = blksF Mm (bst Mm (plB XB) e m) (m.a + m.n) (M.drop (i + 1))
            rw [hmm.out.1, hmm.out.2]
            congr 1
            unfold bst segM
            rw [hmm.out.1, hmm.out.2, if_neg hae, show plB XB ++ [(a, [])] = plB (pre ++ [X]) by rw [hX0, ← hpre]; unfold plB; simp]
            unfold plB
            rw [List.map_append, List.map_append, List.map_singleton, List.map_singleton, addL_app]
        obtain ⟨L9, hL⟩ : ∃ L, XB.length = L := ⟨_, rfl⟩
        have hL9 : Hid (pre.length = L9) := by show _ = _; rw [← hL, hpre]
        have hXbl : Hid (XB.length ≤ 65536) := by show _ ≤ _; have := J.out.1; have := J.out.2.1; omega
        have wl : ∀ N9 : Nat, N9 = L9 + 1 → IntKind.i64.wrap ((N9 : Int) - 1) = (L9 : Int) := fun N9 h9 => by rw [IntKind.wrap_i64]; have := hXbl.out; omega
        replace wl : Hid _ := wl
        have hX0' : Hid (X = (⟨a, none, 0, 0⟩, [])) := hX0
        have hpre' : Hid (XB = pre) := hpre
        rw [hL] at K ⊢
        have hL' : Hid (XB.length = L9) := hL
        clear hae hL hX0 hpre
        go_wp2_with (first
          | ((with_reducible refine at_loadm rtM gm (om + i * 3) (k3 m) ?_ ?_ (.tmp 14) ?_ ?_ ?_ ?_); exact hc'.out; rfl; rfl; rfl; rfl)
          | ((with_reducible refine gen_world (z.alloc (.cells #[.int .i64 0, .int .i64 0, .bool false] 89)) (fun u => Bls y (.slice sb L9 cb) XB u ∧ Bx u z.heap.size (k3 zM) 89) ?_ ?_); exact ⟨K.out.below (below1 _ _), one_bxL _ _ _⟩; intro z1 K1)
          | ((with_reducible refine at_st rtM z.heap.size (k3 zM) (k3 m) ?_ ?_ ?_ ?_ (.tmp 8) (.tmp 15) ?_ ?_ ?_ ?_ ?_); exact K1.out.2; rfl; rfl; exact oneM _; rfl; rfl; rfl; rfl; intro z2 hw2; have K2 : Hid (Bls y (.slice sb L9 cb) XB z2 ∧ Bx z2 z.heap.size (k3 m) 89) := ⟨bls_box K1.out.1 K1.out.2 hyz.out hw2.out, hw2.out.1⟩; clear hw2 K1; have d0 : z2.cell? ⟨z.heap.size, 0, none⟩ = some (.int .i64 a) := by rw [← hmm.out.1]; exact K2.out.2.c 0 _ rfl
             have d1 : z2.cell? ⟨z.heap.size, 1, none⟩ = some (.int .i64 mn) := by rw [← hmm.out.2]; exact K2.out.2.c 1 _ rfl)
          | ((with_reducible refine at_bu _ _ (k2 ⟨a, none, 0, 0⟩) ?_ ?_ ?_ ?_ ?_); rfl; rfl; rfl; kernel_rfl)
          | (at_builtin; refine at_appL kBk rfl (.tmp 20) (.tmp 24) rfl y.heap.size (.slice sb L9 cb) (XB.map (·.1)) rfl (K2.out.1.o.alloc _) z2.heap.size ⟨a, none, 0, 0⟩ rfl (one_bxL _ _ _) ?_ ?_ ?_; (rw [List.length_map]; have := hXbl.out; omega); (have := K2.out.1.low.size; simp; omega); intro v' z3 A; obtain ⟨g, cb9, hv⟩ := own_some A.out.own (by simp); rw [List.length_append, List.length_map, List.length_singleton] at hv; obtain ⟨N9, hN⟩ : ∃ N, XB.length + 1 = N := ⟨_, rfl⟩; rw [hN] at hv; subst hv; have hN9 : Hid (pre.length + 1 = N9) := (by show _ = _; rw [← hpre'.out]; exact hN); have K3 : Hid (Bls y (.slice (some ⟨g, 0, none⟩) N9 cb9) (XB ++ [(⟨a, none, 0, 0⟩, [])]) z3 ∧ Bx z3 z.heap.size (k3 m) 89) := ⟨K2.out.1.push A.out, app1_bx K2.out.1.o A.out (by decide) K2.out.2⟩; clear A; have wl9 := wl.out N9 (by rw [← hN, hL'.out]); have il := fun w => idxP (P := Tryd.prog) (g := g) (off := 0) (len := N9) (cap := cb9) Tryd.underlying25 (s := 2) (by kernel_rfl) .i64 L9 w (by rw [← hN, hL'.out]; omega); rw [Nat.zero_add] at il; clear hN; have e0 : z3.cell? ⟨z.heap.size, 0, none⟩ = some (.int .i64 a) := (hmm.out.1 ▸ K3.out.2.c 0 (.int .i64 m.a) rfl); have e1 : z3.cell? ⟨z.heap.size, 1, none⟩ = some (.int .i64 mn) := (hmm.out.2 ▸ K3.out.2.c 1 (.int .i64 m.n) rfl)))
        have Z : Hid (Bls y (.slice (some ⟨g, 0, none⟩) N9 cb9) (pre ++ [X]) z3 ∧ Bx z3 z.heap.size (k3 m) 89) := by rw [← hpre'.out, hX0'.out]; exact K3.out
        clear K3 K d0 d1 e0 e1
        refine wp_region_held_drew (S := fun u => Bx u q.s (sC q p vl) 70 ∧ Bx u z.heap.size (k3 m) 89) (by kernel_rfl) ⟨hs.out.below (below_drew Z.out.1.low), Z.out.2.below (below_drew (Below.refl _ _))⟩ (fun hH => ?_)
        have Z5 : Hid (Bls y (.slice (some ⟨g, 0, none⟩) N9 cb9) (pre ++ [X]) z3.drew) := Z.out.1.below (below_drew (Below.refl _ _))
        clear Z
        generalize z3.drew = z5 at hH Z5 ⊢
        refine wpAnyH_take (i := 0) (v := .pointer (some ⟨g, L9 * 2, none⟩)) rfl (by kernel_rfl) (by kernel_rfl) (by kernel_rfl) (fun _ _ _ h => h) (.inl ⟨by kernel_rfl, fun u hu => by go_simp⟩) hH ?_
        try simp only [Act.put, List.setIfInBounds_toArray]
        refine wpAnyH_take (i := 1) (v := .pointer (some ⟨g, L9 * 2, none⟩)) rfl (by kernel_rfl) (by kernel_rfl) (by kernel_rfl) (fun _ _ _ h => h) (.inl ⟨by kernel_rfl, fun u hu => by go_simp⟩) hH ?_
        try simp only [Act.put]
        refine wpAnyH_take (i := 2) (v := .pointer (some ⟨g, L9 * 2, none⟩)) rfl (by kernel_rfl) (by kernel_rfl) (by kernel_rfl) (fun _ _ _ h => h) (.inl ⟨by kernel_rfl, fun u hu => by go_simp⟩) hH ?_
        try simp only [Act.put]
        refine wpAnyH_take (i := 3) (v := .pointer (some ⟨g, L9 * 2 + 1, none⟩)) rfl (by kernel_rfl) (by kernel_rfl) (by kernel_rfl) (fun _ _ _ h => h) (.inl ⟨by kernel_rfl, fun u hu => by go_simp⟩) hH ?_
        try simp only [Act.put]
        refine wpAnyH_take (i := 5) (v := .pointer (some ⟨q.s, 0, none⟩)) rfl (by kernel_rfl) (by kernel_rfl) (by kernel_rfl) (fun _ _ _ h => h) (.inl ⟨by kernel_rfl, fun u hu => by go_simp⟩) hH ?_
        try simp only [Act.put]
        refine wpAnyH_take (i := 6) (v := .pointer (some ⟨q.s, 0, none⟩)) rfl (by kernel_rfl) (by kernel_rfl) (by kernel_rfl) (fun _ _ _ h => h) (.inl ⟨by kernel_rfl, fun u hu => by go_simp⟩) hH ?_
        try simp only [Act.put]
        refine wpAnyH_take (i := 7) (v := .pointer (some ⟨q.s, 3, none⟩)) rfl (by kernel_rfl) (by kernel_rfl) (by kernel_rfl) (fun _ _ _ h => h) (.inl ⟨by kernel_rfl, fun u hu => by go_simp⟩) hH ?_
        try simp only [Act.put]
        refine wpAnyH_take (i := 8) (v := .slice (some ⟨q.b, 0, none⟩) 65536 65536) rfl (by kernel_rfl) (by kernel_rfl) (by kernel_rfl) (fun _ _ _ h => h) (.inl ⟨by kernel_rfl, fun u hu => by have d : u.cell? ⟨q.s, 3, none⟩ = some (.slice (some ⟨q.b, 0, none⟩) 65536 65536) := hu.1.c 3 _ rfl; go_simp⟩) hH ?_
        try simp only [Act.put]
        refine wpAnyH_take (i := 9) (v := .pointer (some ⟨z.heap.size, 0, none⟩)) rfl (by kernel_rfl) (by kernel_rfl) (by kernel_rfl) (fun _ _ _ h => h) (.inl ⟨by kernel_rfl, fun u hu => by go_simp⟩) hH ?_
        try simp only [Act.put]
        refine wpAnyH_take (i := 10) (v := .int .i64 a) rfl (by kernel_rfl) (by kernel_rfl) (by kernel_rfl) (fun _ _ _ h => h) (.inl ⟨by kernel_rfl, fun u hu => by have d : u.cell? ⟨z.heap.size, 0, none⟩ = some (.int .i64 a) := (hmm.out.1 ▸ hu.2.c 0 (.int .i64 m.a) rfl); go_simp⟩) hH ?_
        try simp only [Act.put]
        refine wpAnyH_take (i := 11) (v := .int .i64 (a + mn)) rfl (by kernel_rfl) (by kernel_rfl) (by kernel_rfl) (fun _ _ _ h => h) (.inl ⟨by kernel_rfl, fun u hu => by go_simp⟩) hH ?_
        try simp only [Act.put]
        refine wpAnyH_take (i := 12) (v := .slice (some ⟨q.b, a.toNat, none⟩) mn.toNat cps) rfl (by kernel_rfl) (by kernel_rfl) (by kernel_rfl) (fun _ _ _ h => h) (.inl ⟨by kernel_rfl, fun u hu => by have d := hsl u; go_simp⟩) hH ?_
        try simp only [Act.put]
        refine wpAnyH_ready (rs := [4]) (by kernel_rfl) (by simp) (AllReadyH.cons rfl (fun K hK => ?_) AllReadyH.nil)
        rw [if_pos (by rfl)]
        have c4 : z5.cell? ⟨g, L9 * 2 + 1, none⟩ = some (.slice X.1.sp X.1.m X.1.cap) := (hL9.out ▸ (own_cell1 Z5.out.o pre.length X.1 (by simp) none 0 0).1)
        go_wp2
        refine hK.out _ _ hH (fun hH => ?_)
        clear hK K c4
        try simp only [Act.put, List.setIfInBounds_toArray, List.set_cons_zero, List.set_cons_succ]
        refine wpAnyH_ready (rs := [13]) (by kernel_rfl) (by simp) (AllReadyH.cons rfl (fun K hK => ?_) AllReadyH.nil)
        rw [if_pos (by rfl)]
        have hX := Z5.out.r X (by simp)
        have hseg : ((Mm.drop a.toNat).take mn.toNat).length = mn.toNat := by
          rw [List.length_take, List.length_drop, hnn.out.2]
          have := hin.out
          omega
        obtain ⟨v6, z6, hrun, o6, g6, n6⟩ := run_appN kU z5 y.heap.size (.slice X.1.sp X.1.m X.1.cap) X.2 ((Mm.drop a.toNat).take mn.toNat) 33 hX.1 (some ⟨q.b, a.toNat, none⟩) mn.toNat cps hseg (lies_seg (hb.out.below Z5.out.low) _ _) (by have := hin.out; omega) (by have := hXl.out; have := hin.out; omega) Z5.out.low.size
        obtain ⟨s6, k6, e6, -⟩ := OwnL.open (c := cU) (s := 1) (fun _ => rfl) o6
        obtain ⟨m6, hm6⟩ : ∃ q, (X.2 ++ (Mm.drop a.toNat).take mn.toNat).length = q := ⟨_, rfl⟩
        rw [hm6] at e6
        subst e6
        obtain ⟨f1, f2, B6⟩ := Z5.out.grow o6 g6 n6 hm6
        rw [hL9.out] at f1 f2 B6
        replace B6 : Hid _ := B6
        refine wp_appR 33 (.tmp 40) (.tmp 48) rfl _ _ rfl rfl _ _ hrun ?_
        have hq6 : Hid (Bx z6 q.s (sC q p vl) 70 ∧ Bx z6 z.heap.size (k3 m) 89) := ⟨bx_grown hX.1 hH.1 (by decide) g6, bx_grown hX.1 hH.2 (by decide) g6⟩
        obtain ⟨cs6, hbk6⟩ := (Z5.out.o).ty g rfl
        have hbk7 : Hid (Bx z6 g cs6 46) := bx_grown hX.1 hbk6 (by decide) g6
        refine hK.out _ _ hq6.out (fun hH => ?_)
        clear hK K hrun o6 g6 n6 hX hseg hbk6 Z5 hm6
        try simp only [Act.put, List.setIfInBounds_toArray]
        refine wpAnyH_take (i := 14) (v := .pointer (some ⟨g, L9 * 2, none⟩)) rfl (by kernel_rfl) (by kernel_rfl) (by kernel_rfl) (fun _ _ _ h => h) (.inl ⟨by kernel_rfl, fun u hu => by go_simp⟩) hH ?_
        try simp only [Act.put]
        refine wpAnyH_take (i := 15) (v := .pointer (some ⟨g, L9 * 2 + 1, none⟩)) rfl (by kernel_rfl) (by kernel_rfl) (by kernel_rfl) (fun _ _ _ h => h) (.inl ⟨by kernel_rfl, fun u hu => by go_simp⟩) hH ?_
        try simp only [Act.put]
        refine wpAnyH_ready (rs := [16]) (by kernel_rfl) (by simp) (AllReadyH.cons rfl (fun K hK => ?_) AllReadyH.nil)
        rw [if_pos (by rfl)]
        go_wp2
        refine hK.out _ _ ⟨bx_other hbk7.out (by decide) (fun q' hq' => heap_setCell_other z6 ⟨g, L9 * 2 + 1, none⟩ q' _ hq') hH.1, bx_other hbk7.out (by decide) (fun q' hq' => heap_setCell_other z6 ⟨g, L9 * 2 + 1, none⟩ q' _ hq') hH.2⟩ (fun _ => ?_)
        refine wpAnyH_done (by kernel_rfl) ?_ _
        clear hK K f1 f2 hH hq6 hbk7
        go_wp2
        go_roundw
        case rel => exact ⟨i + 1, _, _, pre ++ [((⟨X.1.a, s6, m6, k6⟩ : Bk), X.2 ++ (Mm.drop a.toNat).take mn.toNat)], a + mn, _, rfl, by rw [List.length_append, List.length_singleton, hN9.out], rfl, by simp, hnext.out s6 m6 k6, by
          have e9 : (pre ++ [((⟨X.1.a, s6, m6, k6⟩ : Bk), X.2 ++ (Mm.drop a.toNat).take mn.toNat)]).length = N9 := by rw [← hN9.out]; simp
          rw [e9]
          exact B6⟩
        case measure => have := hlt'.out; simp [intOf]; omega
    · have hie : i = n := by have := J.out.1; omega
      subst hie
      have hend : Hid (plB XB = blksF Mm [] (-1) M) := by
        show _ = _
        rw [← J.out.2.2.2.2.2.2, List.drop_eq_nil_of_le (by rw [hnn.out.1]; exact Nat.le_refl _)]
        rfl
      clear hlt
      go_wp2
      exact hfin.out _ XB _ K.out hend.out
end Go.Proofs.YthbdpceobnkflaaDoor
