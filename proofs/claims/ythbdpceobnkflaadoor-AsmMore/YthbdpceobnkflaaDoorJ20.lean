/- What the plain assembler keeps: places, marks and blocks among the addresses. The object of a sheet that is laid and filled. All labels of a sheet, sorted. -/
import Derived.Test.YthbdpceobnkflaaDoorJ14
import Derived.Test.YthbdpceobnkflaaDoorJ19
import Derived.Test.YthbdpceobnkflaaDoorJ15
import Derived.Test.YthbdpceobnkflaaDoorJ16
import Derived.Maps.RangeRun
import Derived.Maps.Range
namespace Go.Proofs.YthbdpceobnkflaaDoor
open Go Go.RowKit
set_option linter.unusedVariables false
set_option maxHeartbeats 1000000
set_option maxRecDepth 20000

theorem mks_in (U : List UInt8) (hU : U.length = 65536) : ∀ (f a : Nat), ∀ m ∈ mks U f a, MkIn m
  | 0, _, m, h => by cases h
  | f + 1, a, m, h => by
    unfold mks at h
    rcases h0 : U[a]? with _ | u
    · rw [h0] at h; cases h
    · rw [h0] at h
      simp only at h
      have h1 := (List.getElem?_eq_some_iff.1 h0).1
      have h2 := rEnd_ge U u (a + 1)
      have h3 := rEnd_le U u (a + 1) h1
      rcases List.mem_append.1 h with h | h
      · by_cases hu : u = 0
        · rw [if_pos hu] at h; cases h
        · rw [if_neg hu] at h
          rw [List.mem_singleton.1 h]
          unfold MkIn
          simp only
          omega
      · exact mks_in U hU f _ m h
theorem mks_bounds (U : List UInt8) (hU : U.length = 65536) : (marksU U).length ≤ 65536 := by
  have := mks_len U 65536 0 (Nat.zero_le _)
  rw [hU] at this
  exact this
/-- Rows of bytes that lie among the addresses. -/
def RwIn (acc : List (Int × List UInt8)) (e : Int) : Prop := (∀ x ∈ acc, 0 ≤ x.1 ∧ x.1 + (x.2.length : Int) ≤ 65536) ∧ (∀ pre x, acc = pre ++ [x] → x.1 + (x.2.length : Int) = e) ∧ (acc = [] → e = -1)
theorem bst_in (Mm : List UInt8) (hM : Mm.length = 65536) (acc : List (Int × List UInt8)) (e : Int) (m : Mk) (h : RwIn acc e) (hm : MkIn m) : RwIn (bst Mm acc e m) (m.a + m.n) := by
  obtain ⟨m0, m1, m2⟩ := hm
  have hsg : ((segM Mm m).length : Int) = m.n := by
    unfold segM
    rw [List.length_take, List.length_drop, hM]
    omega
  unfold bst
  by_cases he : m.a = e
  · rw [if_pos he]
    rcases List.eq_nil_or_concat acc with h9 | ⟨pre, x, h9⟩
    · have := h.2.2 h9
      omega
    · rw [List.concat_eq_append] at h9
      subst h9
      rw [addL_app]
      have h8 := h.2.1 pre x rfl
      have h7 := (h.1 x (by simp)).1
      have hl : ((x.2 ++ segM Mm m).length : Int) = x.2.length + m.n := by rw [List.length_append]; omega
      refine ⟨fun y hy => ?_, fun pre' x' e' => ?_, fun e' => absurd e' (by simp)⟩
      · rcases List.mem_append.1 hy with hy | hy
        · exact h.1 y (by simp [hy])
        · rw [List.mem_singleton.1 hy]
          simp only [hl]
          omega
      · have e2 := (List.append_inj' e' rfl).2
        simp at e2
        subst e2
        simp only [hl]
        omega
  · rw [if_neg he, addL_app]
    have hl : (([] ++ segM Mm m).length : Int) = m.n := by rw [List.nil_append]; exact hsg
    refine ⟨fun y hy => ?_, fun pre' x' e' => ?_, fun e' => absurd e' (by simp)⟩
    · rcases List.mem_append.1 hy with hy | hy
      · exact h.1 y hy
      · rw [List.mem_singleton.1 hy]
        simp only [hl]
        omega
    · have e2 := (List.append_inj' e' rfl).2
      simp at e2
      subst e2
      simp only [hsg]
theorem blks_in (Mm : List UInt8) (hM : Mm.length = 65536) : ∀ (M : List Mk) (acc : List (Int × List UInt8)) (e : Int), RwIn acc e → (∀ m ∈ M, MkIn m) → ∀ x ∈ blksF Mm acc e M, 0 ≤ x.1 ∧ x.1 + (x.2.length : Int) ≤ 65536
  | [], acc, e, h, _, x, hx => h.1 x hx
  | m :: r, acc, e, h, hm, x, hx => blks_in Mm hM r _ _ (bst_in Mm hM acc e m h (hm m (by simp))) (fun m' h' => hm m' (by simp [h'])) x hx
theorem blks_len (Mm : List UInt8) : ∀ (M : List Mk) (acc : List (Int × List UInt8)) (e : Int), (blksF Mm acc e M).length ≤ acc.length + M.length
  | [], acc, _ => Nat.le_refl _
  | m :: r, acc, e => by
    have ih := blks_len Mm r (bst Mm acc e m) (m.a + m.n)
    have hl : ∀ (l : List (Int × List UInt8)) (s : List UInt8), (addL l s).length = l.length := fun l s => by
      rcases List.eq_nil_or_concat l with h | ⟨pre, x, h⟩
      · rw [h]; rfl
      · rw [h, List.concat_eq_append, addL_app]; simp
    have h2 : (bst Mm acc e m).length ≤ acc.length + 1 := by
      unfold bst
      rw [hl]
      split
      · omega
      · simp
    rw [blksF, List.length_cons]
    omega
/-- A source that can be laid: each item's place, and that it fits. -/
theorem lay_fits : ∀ (l : List Ri) (s : Sh) (i : Nat), s.Ok → (∀ r ∈ l, mayI r = true) → layE s l i = none → ∀ (j : Nat) (r : Ri) (p : Nat), l[j]? = some r → (plcs s l)[j]? = some p → p ≤ 65536 ∧ ((r.k = 1 ∨ r.k = 4) ∨ p + szN r ≤ 65536)
  | [], s, i, _, _, _, j, r, p, h, _ => by simp at h
  | x :: l, s, i, hs, hm, hE, j, r, p, hj, hp => by
    have h0 : stE s x = 0 := by
      unfold layE at hE
      split at hE
      · assumption
      · cases hE
    have hE' : layE (stS s x) l (i + 1) = none := by
      unfold layE at hE
      rw [if_pos h0] at hE
      exact hE
    cases j with
    | zero =>
      simp [plcs] at hj hp
      subst hj hp
      refine ⟨hs.p, ?_⟩
      by_cases h1 : x.k = 1
      · exact .inl (.inl h1)
      · by_cases h4 : x.k = 4
        · exact .inl (.inr h4)
        · refine .inr ?_
          unfold stE at h0
          rw [if_neg h1, if_neg h4] at h0
          exact (clE_zero h0).1
    | succ j =>
      simp [plcs] at hj hp
      exact lay_fits l (stS s x) (i + 1) (hs.st (hm x (by simp)) h0) (fun r hr => hm r (by simp [hr])) hE' j r p hj hp
theorem plcs_len : ∀ (l : List Ri) (s : Sh), (plcs s l).length = l.length
  | [], _ => rfl
  | x :: l, s => by simp [plcs, plcs_len l]
/-- Names and places of labels. -/
def NmIn (N : List (ByteArray × Nat)) : Prop := ∀ x ∈ N, x.2 ≤ 65535 ∧ isNm x.1 = true
theorem nm_st {s : Sh} {r : Ri} (h : NmIn s.N) (hm : mayI r = true) (h0 : stE s r = 0) : NmIn (stS s r).N := by
  unfold stS
  split
  · rename_i hk
    unfold stE at h0
    rw [if_pos hk] at h0
    have h1 := (nmE_zero h0).1
    intro x hx
    rcases List.mem_cons.1 hx with rfl | hx
    · refine ⟨h1, ?_⟩
      rw [may1 hk] at hm
      simp at hm
      exact hm.1
    · exact h x hx
  · split
    · exact h
    · exact h
/-- What Assemble answers: why a source is none, and which item it is. -/
def zipP (L : List Itm) : List (Itm × Nat) := L.zip (plcs sh0 (L.map (·.1)))
/-- The object: its marks, its rows of bytes, its labels. -/
def asmU (L : List Itm) : List UInt8 := (layS sh0 (L.map (·.1))).U
def asmN (L : List Itm) : List (ByteArray × Nat) := (layS sh0 (L.map (·.1))).N
def asmMem (L : List Itm) : List UInt8 := filM (asmN L) (List.replicate 65536 0) (zipP L)
end Go.Proofs.YthbdpceobnkflaaDoor

namespace Go.Proofs.YthbdpceobnkflaaDoor
open Go Go.RowKit
set_option linter.unusedVariables false
set_option maxHeartbeats 3000000
set_option maxRecDepth 20000

/-- What sorted answers. -/
def SoE (y : World) (N : List (ByteArray × Nat)) (e : Ending) (z : World) : Prop := ∃ sp cap, e = .returned (.slice sp N.length cap) ∧ Hid (Below y.heap.size y z ∧ LiesL 2 cLa z sp (sortN N) ∧ N.length ≤ cap ∧ ∀ a, sp = some a → y.heap.size ≤ a.block)
/-- What object answers. -/
def OjE (y : World) (U Mm : List UInt8) (N : List (ByteArray × Nat)) (e : Ending) (z : World) : Prop := ∃ x : Oo, e = .returned (.agg (oC x)) ∧ Hid (Below y.heap.size y z ∧ Lco z x ∧ plB x.B = blksF Mm [] (-1) (marksU U) ∧ x.M = marksU U ∧ x.L = sortN N)
theorem lb_own {z : World} {B : Nat} {sp : Option Addr} {m cap : Nat} {L : List UInt8} (h : OwnL 5 1 cU B z (.slice sp m cap) L) : LB8 z sp L ∧ L.length ≤ cap ∧ ∀ a, sp = some a → B ≤ a.block := by
  obtain ⟨q1, k1, e1, l1, b1, -, c1⟩ := OwnL.open (c := cU) (s := 1) (fun _ => rfl) h
  injection e1 with e1 e2 e3
  subst e1 e3
  refine ⟨fun j b hj => ?_, c1, fun a ha => (b1 a ha).2.2.1⟩
  obtain ⟨g, o, e, hc⟩ := l1 j b hj
  refine ⟨g, o, e, ?_⟩
  have := hc 0 (byV b) rfl
  rw [Nat.mul_one, Nat.add_zero] at this
  exact this
theorem lies_other {α : Type} {s : Nat} {c : α → List Value} {w z : World} {sp : Option Addr} {l : List α} {b : Nat} (h : LiesL s c w sp l) (hb : ∀ a, sp = some a → a.block ≠ b) (hg : ∀ q, q ≠ b → z.heap[q]? = w.heap[q]?) : LiesL s c z sp l := fun j a hj => by
  obtain ⟨g, o, e, hc⟩ := h j a hj
  exact ⟨g, o, e, fun i v hv => (World.cell?_of_block (w := w) (a := ⟨g, o + j * s + i, none⟩) (hg g (hb _ e))).trans (hc i v hv)⟩
theorem lb_other {w z : World} {sp : Option Addr} {l : List UInt8} {b : Nat} (h : LB8 w sp l) (hb : ∀ a, sp = some a → a.block ≠ b) (hg : ∀ q, q ≠ b → z.heap[q]? = w.heap[q]?) : LB8 z sp l := fun j a hj => by
  obtain ⟨g, o, e, hc⟩ := h j a hj
  exact ⟨g, o, e, (World.cell?_of_block (w := w) (a := ⟨g, o + j, none⟩) (hg g (hb _ e))).trans hc⟩
theorem sortN_in {N : List (ByteArray × Nat)} (h : NmIn N) : ∀ x ∈ sortN N, inI x.a ∧ x.n.size ≤ 9223372036854775807 := fun x hx => by
  have hm := (List.mergeSort_perm (N.map toLa) leL).mem_iff.1 hx
  obtain ⟨p, hp, rfl⟩ := List.mem_map.1 hm
  have h1 := h p hp
  have h2 : p.1.size ≤ 16 := by
    have h9 := h1.2
    unfold isNm at h9
    simp only [decide_eq_true_eq] at h9
    exact h9.2.1
  unfold toLa inI
  simp only
  omega
theorem sheet_object (B : Nat) (q : Nu) (s : Sh) (Mm : List UInt8) (hM : Mm.length = 65536) (vl : Value) (l : List Lp) (y : World) (h : Hid (Sht B q s Mm vl l y)) (hN : NmIn s.N) (hNl : s.N.length ≤ 1000000)
    (hSo : Hid (∀ u, Below y.heap.size y u → Calls Tryd.prog 37 #[.pointer (some ⟨q.s, 0, none⟩)] u (SoE u s.N))) :
    Calls Tryd.prog 25 #[.pointer (some ⟨q.s, 0, none⟩)] y (OjE y s.U Mm s.N) := by
  have K0 : Hid (Fm y [(y.heap.size, #[.slice none 0 0, .slice none 0 0, .slice none 0 0], 29)] (y.alloc (.cells #[.slice none 0 0, .slice none 0 0, .slice none 0 0] 29))) := Fm.one y _ _
  have hMk : Hid (∀ u, Below y.heap.size y u → Calls Tryd.prog 35 #[.pointer (some ⟨q.s, 0, none⟩)] u fun e z => ∃ v, e = .returned v ∧ Hid (KL 89 3 cM u v (marksU s.U) z)) := fun u hu => marks_any' u q s.p vl s.U (h.out.bx.below hu) (h.out.u.below hu) h.out.ok.u
  have hBk : Hid (∀ u, Below y.heap.size y u → ∀ sp cap, LiesL 3 cM u sp (marksU s.U) → Calls Tryd.prog 36 #[.pointer (some ⟨q.s, 0, none⟩), .slice sp (marksU s.U).length cap] u (BkE u (blksF Mm [] (-1) (marksU s.U)))) := fun u hu sp cap hl => blocks_of u q s.p vl Mm hM (h.out.bx.below hu) (h.out.b.below hu) sp cap (marksU s.U) hl (mks_in s.U h.out.ok.u 65536 0) (mks_bounds s.U h.out.ok.u)
  have hin : Hid (∀ x ∈ blksF Mm [] (-1) (marksU s.U), 0 ≤ x.1 ∧ x.1 + (x.2.length : Int) ≤ 65536) := blks_in Mm hM (marksU s.U) [] (-1) ⟨fun x hx => (by cases hx), fun pre x e => absurd e (by simp), fun _ => rfl⟩ (mks_in s.U h.out.ok.u 65536 0)
  have hml : Hid ((marksU s.U).length ≤ 65536 ∧ (∀ m ∈ marksU s.U, MkIn m) ∧ NmIn s.N ∧ s.N.length ≤ 1000000 ∧ (blksF Mm [] (-1) (marksU s.U)).length ≤ 65536) := ⟨mks_bounds s.U h.out.ok.u, mks_in s.U h.out.ok.u 65536 0, hN, hNl, by have h1 := blks_len Mm (marksU s.U) [] (-1); have h2 := mks_bounds s.U h.out.ok.u; simp at h1; omega⟩
  have hfin : Hid (∀ (x : Oo) z, Below y.heap.size y z → Lco z x → plB x.B = blksF Mm [] (-1) (marksU s.U) → x.M = marksU s.U → x.L = sortN s.N → OjE y s.U Mm s.N (.returned (.agg (oC x))) z) := fun x z h1 h2 h3 h4 h5 => ⟨x, rfl, h1, h2, h3, h4, h5⟩
  generalize blksF Mm [] (-1) (marksU s.U) = Bl at hBk hin hml hfin
  generalize marksU s.U = Mk9 at hMk hBk hml hfin
  generalize OjE y s.U Mm s.N = Fin at hfin ⊢
  obtain ⟨M9, hM9⟩ : ∃ n, Mk9.length = n := ⟨_, rfl⟩
  obtain ⟨N9, hN9⟩ : ∃ n, s.N.length = n := ⟨_, rfl⟩
  have hMN : Hid (Mk9.length = M9 ∧ s.N.length = N9) := ⟨hM9, hN9⟩
  rw [hM9] at hBk
  unfold SoE at hSo
  rw [hN9] at hSo
  clear hM hN hNl h hM9 hN9
  go_enter Tryd.func25, Tryd.ntmps25
  go_wp2_with (first
    | ((with_reducible refine gen_world (y.alloc (.cells #[.slice none 0 0, .slice none 0 0, .slice none 0 0] 29)) (Fm y [(y.heap.size, #[.slice none 0 0, .slice none 0 0, .slice none 0 0], 29)]) ?_ ?_); exact K0.out; intro y1 K1)
    | (go_at_call 35; refine (hMk.out _ K1.out.low).mono ?_; rintro e y2 ⟨vm, rfl, HM⟩; obtain ⟨mp, mc, em, lm, bm, -, cm⟩ := OwnL.open (c := cM) (s := 3) (fun _ => rfl) HM.out.own; rw [hMN.out.1] at em; subst em; have K2 : Hid (Fm y [(y.heap.size, #[.slice none 0 0, .slice none 0 0, .slice none 0 0], 29)] y2 ∧ LiesL 3 cM y2 mp Mk9 ∧ Mk9.length ≤ mc ∧ (∀ a, mp = some a → a.block ≠ y.heap.size)) := ⟨K1.out.below HM.out.low, lm, cm, fun a ha => by have h1 := (bm a ha).2.2.1; have h2 := heap_lt (K1.out.bx 0 _ _ _ rfl); omega⟩; clear HM lm cm bm)
    | (go_at_call 36; refine (hBk.out _ K2.out.1.low mp mc K2.out.2.1).mono ?_; rintro e y3 ⟨vb, XB, rfl, HB⟩; obtain ⟨bp, bc, eb, lb, bb, -, cb⟩ := OwnL.open (c := cK) (s := 2) (fun _ => rfl) HB.out.1.o; rw [List.length_map] at eb; obtain ⟨B9, hB9⟩ : ∃ n, XB.length = n := ⟨_, rfl⟩; rw [hB9] at eb; subst eb; replace hB9 : Hid _ := hB9; have K3 : Hid (Fm y [(y.heap.size, #[.slice none 0 0, .slice none 0 0, .slice none 0 0], 29)] y3 ∧ LiesL 3 cM y3 mp Mk9 ∧ Mk9.length ≤ mc ∧ (∀ a, mp = some a → a.block ≠ y.heap.size) ∧ LiesL 2 cK y3 bp (XB.map (·.1)) ∧ (∀ a, bp = some a → a.block ≠ y.heap.size) ∧ (∀ X ∈ XB, LB8 y3 X.1.sp X.2 ∧ X.2.length = X.1.m ∧ X.1.m ≤ X.1.cap ∧ (∀ a, X.1.sp = some a → a.block ≠ y.heap.size)) ∧ plB XB = Bl) := ⟨K2.out.1.below HB.out.1.low, K2.out.2.1.below HB.out.1.low, K2.out.2.2.1, K2.out.2.2.2, lb, fun a ha => (by have h1 := (bb a ha).2.2.1; have h2 := heap_lt (K2.out.1.bx 0 _ _ _ rfl); omega), fun X hX => ⟨(lb_own (HB.out.1.r X hX).1).1, (HB.out.1.r X hX).2, (by rw [← (HB.out.1.r X hX).2]; exact (lb_own (HB.out.1.r X hX).1).2.1), fun a ha => (by have h1 := (lb_own (HB.out.1.r X hX).1).2.2 a ha; have h2 := heap_lt (K2.out.1.bx 0 _ _ _ rfl); omega)⟩, HB.out.2⟩; clear HB lb cb bb)
    | (go_at_call 37; refine (hSo.out _ K3.out.1.low).mono ?_; rintro e y4 ⟨lp, lc, rfl, HS⟩; have K4 : Hid (Fm y [(y.heap.size, #[.slice none 0 0, .slice none 0 0, .slice none 0 0], 29)] y4 ∧ Below y3.heap.size y3 y4 ∧ LiesL 2 cLa y4 lp (sortN s.N) ∧ ∀ a, lp = some a → a.block ≠ y.heap.size) := ⟨K3.out.1.below HS.out.1, HS.out.1, HS.out.2.1, fun a ha => (by have h1 := HS.out.2.2.2 a ha; have h2 := heap_lt (K3.out.1.bx 0 _ _ _ rfl); omega)⟩; clear HS)
    | ((with_reducible refine at_st rtO y.heap.size #[.slice none 0 0, .slice none 0 0, .slice none 0 0] #[.slice bp B9 bc, .slice mp M9 mc, .slice lp N9 lc] ?_ ?_ ?_ ?_ (.tmp 2) (.tmp 12) ?_ ?_ ?_ ?_ ?_); exact K4.out.1.bx 0 _ _ _ rfl; rfl; rfl; simp [Value.oneCell']; rfl; rfl; rfl; rfl; intro y5 hw5; have K5 : Hid (Fm y [(y.heap.size, #[.slice bp B9 bc, .slice mp M9 mc, .slice lp N9 lc], 29)] y5 ∧ ∀ q, q ≠ y.heap.size → y5.heap[q]? = y4.heap[q]?) := ⟨K4.out.1.put 0 _ _ _ _ rfl hw5.out, hw5.out.2.2⟩; clear hw5))
  have hx : #[Value.slice bp B9 bc, .slice mp M9 mc, .slice lp N9 lc] = oC ⟨bp, bc, XB, mp, mc, Mk9, lp, lc, sortN s.N⟩ := by
    unfold oC
    simp only
    rw [hB9.out, hMN.out.1, show (sortN s.N).length = N9 by unfold sortN; rw [List.length_mergeSort, List.length_map, hMN.out.2]]
  have K5' := K5.out.1.bx 0 _ _ _ rfl
  rw [hx] at K5'
  refine ret_row rtO rfl rfl K5' rfl rfl (hfin.out _ _ K5.out.1.low ⟨⟨?_, ?_, ?_, fun X hX => ?_, fun X hX => ?_, fun m hm => ?_, sortN_in hml.out.2.2.1, ⟨?_, ?_, ?_⟩⟩, fun X hX => ?_, ?_⟩ K3.out.2.2.2.2.2.2.2 rfl rfl)
  · exact lies_other (K3.out.2.2.2.2.1.below K4.out.2.1) K3.out.2.2.2.2.2.1 K5.out.2
  · exact lies_other (K3.out.2.1.below K4.out.2.1) K3.out.2.2.2.1 K5.out.2
  · exact lies_other K4.out.2.2.1 K4.out.2.2.2 K5.out.2
  · have h1 := K3.out.2.2.2.2.2.2.1 X hX
    exact ⟨lb_other (h1.1.below K4.out.2.1) h1.2.2.2 K5.out.2, h1.2.1⟩
  · have h1 := K3.out.2.2.2.2.2.2.1 X hX
    have h2 := hin.out (X.1.a, X.2) (by rw [← K3.out.2.2.2.2.2.2.2]; exact List.mem_map_of_mem hX)
    simp only at h2
    unfold inI
    rw [← h1.2.1]
    omega
  · have h1 := hml.out.2.1 m hm
    unfold MkIn at h1
    unfold inI
    omega
  · show XB.length ≤ _
    have h1 := congrArg List.length K3.out.2.2.2.2.2.2.2
    unfold plB at h1
    rw [List.length_map] at h1
    have := hml.out.2.2.2.2
    omega
  · show Mk9.length ≤ _
    have := hml.out.1
    omega
  · show (sortN s.N).length ≤ _
    unfold sortN
    rw [List.length_mergeSort, List.length_map]
    have := hml.out.2.2.2.1
    omega
  · exact (K3.out.2.2.2.2.2.2.1 X hX).2.2.1
  · exact K3.out.2.2.1
end Go.Proofs.YthbdpceobnkflaaDoor

namespace Go.Proofs.YthbdpceobnkflaaDoor
open Go Go.RowKit
set_option linter.unusedVariables false
set_option maxHeartbeats 3000000
set_option maxRecDepth 20000

/-- The labels that have come, by the stamps that were seen. -/
def comeL (N : List (ByteArray × Nat)) (seen : Array Nat) : List La := seen.toList.map fun i => toLa ((N.reverse[i]?).getD (⟨#[]⟩, 0))
theorem comeL_all {N : List (ByteArray × Nat)} {seen : Array Nat} (hn : seen.toList.Nodup) (hlt : ∀ i ∈ seen.toList, i < N.length) (hall : ∀ i, i < N.length → i ∈ seen.toList) : (comeL N seen).Perm (N.map toLa) := by
  have h1 : seen.toList.Perm (List.range N.length) := (List.perm_ext_iff_of_nodup hn List.nodup_range).2 fun i => ⟨fun h => List.mem_range.2 (hlt i h), fun h => hall i (List.mem_range.1 h)⟩
  have h2 : (List.range N.length).map (fun i => toLa ((N.reverse[i]?).getD (⟨#[]⟩, 0))) = N.reverse.map toLa := by
    apply List.ext_getElem?
    intro i
    rw [List.getElem?_map, List.getElem?_map]
    by_cases hi : i < N.length
    · rw [List.getElem?_range hi]
      rcases h9 : N.reverse[i]? with _ | x
      · have := List.getElem?_eq_none_iff.1 h9
        rw [List.length_reverse] at this
        omega
      · simp [h9]
    · rw [List.getElem?_eq_none (by rw [List.length_range]; omega), List.getElem?_eq_none (by rw [List.length_reverse]; omega)]
      rfl
  have h3 := h1.map (fun i => toLa ((N.reverse[i]?).getD (⟨#[]⟩, 0)))
  rw [h2] at h3
  exact h3.trans ((List.reverse_perm N).map toLa)
theorem app1_obj {α : Type} {t : TypeId} {s : Nat} {c : α → List Value} {B : Nat} {v v' : Value} {l : List α} {x : α} {z z1 : World} {o : Obj} (h : OwnL t s c B z v l) (A : App1L t s c B v l x v' (z.alloc o) z1) {g : Nat} {ob : Obj} (hb : z.heap[g]? = some ob) (hne : ∀ cs t f, ob ≠ .cells cs t f) : z1.heap[g]? = some ob := by
  have h1 : (z.alloc o).heap[g]? = some ob := ((below1 z o).block g (heap_lt hb)).trans hb
  refine (A.cu.blk g (heap_lt h1) fun j hF => ?_).trans h1
  obtain ⟨c9, h9⟩ := h.ty g hF.1
  have := hb.symm.trans h9
  simp at this
  exact hne _ _ _ this
theorem sorted_any (I : Inhabited La) (q : Nu) (p : Nat) (vl : Value) (N : List (ByteArray × Nat)) (y : World) (hs : Hid (Bx y q.s (sC q p vl) 70)) (hm : Hid (MapE y q.m N)) (hN : ∀ x ∈ N, x.1.size ≤ 1000000) (hl : N.length ≤ 1000000) :
    Calls Tryd.prog 37 #[.pointer (some ⟨q.s, 0, none⟩)] y (SoE y N) := by
  have c4 : y.cell? ⟨q.s, 4, none⟩ = some (.map (some q.m)) := hs.out.c 4 _ rfl
  have hrg := run_range_map (P := Tryd.prog) y 68 9 3 q.m (esOf N).toArray N.length mapUL hm.out.1
  obtain ⟨it, hit⟩ : ∃ o, Obj.mapIter (some q.m) N.length #[] N.length = o := ⟨_, rfl⟩
  have hst : Hid (KL 52 2 cLa y (.slice none 0 0) [] (y.alloc it) ∧ (y.alloc it).heap[q.m]? = some (.map (esOf N).toArray N.length) ∧ (y.alloc it).heap[y.heap.size]? = some (.mapIter (some q.m) N.length #[] N.length)) := by
    refine ⟨⟨OwnL.nil _ _, below1 y _⟩, ((below1 y it).block _ hm.out.lt).trans hm.out.1, ?_⟩
    rw [hit]
    exact alloc_last' y it
  rw [hit] at hrg
  have hmN : Hid (MapE y q.m N ∧ (∀ x ∈ N, x.1.size ≤ 1000000) ∧ N.length ≤ 1000000) := ⟨hm.out, hN, hl⟩
  have hfin : Hid (∀ sp cap z, Below y.heap.size y z → LiesL 2 cLa z sp (sortN N) → N.length ≤ cap → (∀ a, sp = some a → y.heap.size ≤ a.block) → SoE y N (.returned (.slice sp N.length cap)) z) := fun sp cap z h1 h2 h3 h4 => ⟨sp, cap, rfl, h1, h2, h3, h4⟩
  generalize SoE y N = Fin at hfin ⊢
  clear hm hN hl hs hit
  obtain ⟨n, hn⟩ : ∃ n, N.length = n := ⟨_, rfl⟩
  have hnn : Hid (N.length = n) := hn
  go_enter Tryd.func37, Tryd.ntmps37
  go_wp2
  go_loopw [3] (fun t3 wz => ∃ (sl : Option Addr) (cl : Nat) (l : List La) (seen : Array Nat) (z : World), z = wz ∧ t3 = .slice sl l.length cl ∧ Hid (seen.toList.Nodup ∧ (∀ i ∈ seen.toList, i < N.length) ∧ l = comeL N seen ∧ l.length + (leftOf (esOf N).toArray seen).size ≤ N.length) ∧ Hid (KL 52 2 cLa y (.slice sl l.length cl) l z ∧ z.heap[q.m]? = some (.map (esOf N).toArray N.length) ∧ z.heap[y.heap.size]? = some (.mapIter (some q.m) N.length seen N.length))) (fun _ wz => wz.rangeLeft q.m y.heap.size)
  case atStart => exact ⟨none, 0, [], #[], _, rfl, rfl, ⟨List.nodup_nil, fun i h => (by simp at h), rfl, by
    have h9 : (leftOf (esOf N).toArray #[]).size ≤ (esOf N).toArray.size := by unfold leftOf; exact Array.size_filter_le
    have h8 := esOf_len N
    simp at h9
    simp
    omega⟩, hst⟩
  case round =>
    obtain ⟨sl, cl, l, seen, z, rfl, rfl, J, K⟩ := hrel
    clear hst hrg c4
    have hold : ∀ x ∈ (esOf N).toArray.toList, x.born < N.length := fun x hx => by
      obtain ⟨i, hi, ei⟩ := List.getElem_of_mem hx
      obtain ⟨w, hw, rfl⟩ := esOf_at N i x (by rw [List.getElem?_eq_getElem hi, ei])
      have := (List.getElem?_eq_some_iff.1 hw).1
      rw [List.length_reverse] at this
      exact this
    have hborn : ((esOf N).toArray.toList.map (·.born)).Nodup := by
      have e : (esOf N).toArray.toList.map (·.born) = List.range N.length := by
        apply List.ext_getElem?
        intro i
        rw [List.getElem?_map]
        by_cases hi : i < N.length
        · rw [List.getElem?_range hi, List.getElem?_eq_getElem (by simpa [esOf_len] using hi)]
          obtain ⟨w, hw, e9⟩ := esOf_at N i ((esOf N).toArray.toList[i]'(by simpa [esOf_len] using hi)) (by rw [← List.getElem?_eq_getElem])
          rw [e9]
          rfl
        · rw [List.getElem?_eq_none (by simp [esOf_len]; omega), List.getElem?_eq_none (by simp; omega)]
          rfl
      rw [e]
      exact List.nodup_range
    rcases run_next_at (P := Tryd.prog) z 0 y.heap.size q.m N.length N.length seen (esOf N).toArray N.length K.out.2.2 K.out.2.1 hold (Nat.le_refl _) with ⟨h0, hrun⟩ | ⟨e, he, w1, hal, hrun⟩
    · have hall : ∀ i, i < N.length → i ∈ seen.toList := fun i hi => by
        have hx : (esOf N).toArray.toList[i]'(by simpa [esOf_len] using hi) ∈ (esOf N).toArray.toList := List.getElem_mem _
        have h9 := all_seen (esOf N).toArray seen h0 _ hx
        obtain ⟨w, hw, e9⟩ := esOf_at N i ((esOf N).toArray.toList[i]'(by simpa [esOf_len] using hi)) (by rw [← List.getElem?_eq_getElem])
        rw [e9] at h9
        simpa [enN] using h9
      have hp := comeL_all J.out.1 J.out.2.1 hall
      rw [← J.out.2.2.1] at hp
      have hlen : l.length = N.length := by rw [hp.length_eq, List.length_map]
      have hsrt : Hid (l.mergeSort leL = sortN N ∧ l.length = N.length) := ⟨sort_perm hp, hlen⟩
      have hSt := sort_any I y z sl cl l K.out.1 (by rw [hlen]; exact hmN.out.2.2)
      have hbk : Hid (∀ a, sl = some a → y.heap.size ≤ a.block) := by
        obtain ⟨q1, k1, e1, -, b1, -, -⟩ := OwnL.open (c := cLa) (s := 2) (fun _ => rfl) K.out.1.own
        injection e1 with e1 e2 e3
        rw [e1]
        exact fun a ha => (b1 a ha).2.2.1
      clear hall hp hlen h0 hold hborn hn
      go_wp2_with (go_at_call 52; refine hSt.mono ?_; rintro e z' ⟨rfl, H⟩)
      have h9 := hfin.out sl cl z' H.out.1 (by rw [← hsrt.out.1]; exact H.out.2.1) (by rw [← hsrt.out.2]; exact H.out.2.2) hbk.out
      rw [← hsrt.out.2] at h9
      exact h9
    · obtain ⟨hem, hes⟩ := mem_left he
      obtain ⟨i, hi, ei⟩ := List.getElem_of_mem hem
      obtain ⟨x, hx, hex⟩ := esOf_at N i e (by rw [List.getElem?_eq_getElem hi, ei])
      have hil : i < N.length := by
        have := (List.getElem?_eq_some_iff.1 hx).1
        rw [List.length_reverse] at this
        exact this
      have hxm : x ∈ N := List.mem_reverse.1 (List.mem_of_getElem? hx)
      have hsh := left_shrinks (esOf N).toArray seen e he
      subst hex
      have hbi : (enN x i).born = i := rfl
      rw [hbi] at hes hsh hrun
      have hr1 : w1.heap[y.heap.size]? = some (.mapIter (some q.m) N.length seen N.length) := by rcases hal with rfl | rfl <;> exact K.out.2.2
      have hb1 : w1.heap[q.m]? = some (.map (esOf N).toArray N.length) := by rcases hal with rfl | rfl <;> exact K.out.2.1
      have hqm : q.m ≠ y.heap.size := fun e9 => by rw [e9, hr1] at hb1; cases hb1
      have hset : ∀ k, k ≠ y.heap.size → (Go.ChangeMaps.setBlock w1 y.heap.size (.mapIter (some q.m) N.length (seen.push i) N.length)).heap[k]? = w1.heap[k]? := fun k hk => by unfold Go.ChangeMaps.setBlock; simp [hk.symm]
      have hsetr : (Go.ChangeMaps.setBlock w1 y.heap.size (.mapIter (some q.m) N.length (seen.push i) N.length)).heap[y.heap.size]? = some (.mapIter (some q.m) N.length (seen.push i) N.length) := by unfold Go.ChangeMaps.setBlock; simp [heap_lt hr1]
      have hw1 : Below z.heap.size z w1 := by rcases hal with rfl | rfl; exact Below.refl _ _; exact below_drew (Below.refl _ _)
      obtain ⟨z1, hz1⟩ : ∃ z1, Go.ChangeMaps.setBlock w1 y.heap.size (.mapIter (some q.m) N.length (seen.push i) N.length) = z1 := ⟨_, rfl⟩
      rw [hz1] at hrun hset hsetr
      have hzs : z1.heap.size = w1.heap.size := by rw [← hz1]; unfold Go.ChangeMaps.setBlock; simp
      have hlow1 : Below y.heap.size w1 z1 := by rw [← hz1]; exact ⟨rfl, rfl, rfl, by unfold Go.ChangeMaps.setBlock; simp, fun k hk => by unfold Go.ChangeMaps.setBlock; simp [show y.heap.size ≠ k by omega]⟩
      have hent := run_entry_at (P := Tryd.prog) z1 y.heap.size q.m N.length seen (esOf N).toArray N.length (enN x i) hsetr ((hset _ hqm).trans hb1) hem hborn
      have K1 : Hid (KL 52 2 cLa y (.slice sl l.length cl) l z1 ∧ z1.heap[q.m]? = some (.map (esOf N).toArray N.length) ∧ z1.heap[y.heap.size]? = some (.mapIter (some q.m) N.length (seen.push i) N.length)) := by
        refine ⟨⟨(K.out.1.own.below hw1).keepB fun g eg => hset g fun e9 => ?_, (K.out.1.low.trans (hw1.mono K.out.1.low.size)).trans hlow1⟩, (hset _ hqm).trans hb1, hsetr⟩
        subst e9
        obtain ⟨c9, h9⟩ := (K.out.1.own.below hw1).ty _ eg
        have := h9.symm.trans hr1
        simp at this
      have J1 : Hid ((seen.push i).toList.Nodup ∧ (∀ j ∈ (seen.push i).toList, j < N.length) ∧ l ++ [toLa x] = comeL N (seen.push i) ∧ (l ++ [toLa x]).length + (leftOf (esOf N).toArray (seen.push i)).size ≤ N.length) := by
        have hni : i ∉ seen.toList := by simpa using hes
        refine ⟨?_, ?_, ?_, ?_⟩
        · rw [Array.toList_push]
          refine List.nodup_append.2 ⟨J.out.1, by simp, fun a ha b hb e9 => ?_⟩
          rw [List.mem_singleton.1 hb] at e9
          exact hni (e9 ▸ ha)
        · intro j hj
          rw [Array.toList_push] at hj
          rcases List.mem_append.1 hj with hj | hj
          · exact J.out.2.1 j hj
          · rw [List.mem_singleton.1 hj]; exact hil
        · unfold comeL
          rw [Array.toList_push, List.map_append, J.out.2.2.1]
          unfold comeL
          simp [hx]
        · rw [List.length_append, List.length_singleton]
          have := J.out.2.2.2
          omega
      have hms : Hid (z1.rangeLeft q.m y.heap.size < z.rangeLeft q.m y.heap.size) := by
        show _ < _
        unfold World.rangeLeft
        rw [K1.out.2.1, K1.out.2.2, K.out.2.1, K.out.2.2]
        exact hsh
      have hCl := fun v => clone_any x.1 v (hmN.out.2.1 x hxm)
      have hln : Hid (l.length ≤ 1000000) := by have h1 := J.out.2.2.2; have h2 := hmN.out.2.2; show _ ≤ _; omega
      replace hCl : Hid _ := hCl
      simp only [enN] at hrun hent
      clear hal hset hsetr hw1 hz1 hzs hlow1 hqm hr1 hb1 hsh hbi hes hil hem hi ei he hold hborn hn K J hx hxm
      go_wp2_with (first
        | (go_at_call 51; refine (hCl.out _).mono ?_; rintro e9 z2 ⟨rfl, H2⟩; have K2 : Hid (KL 52 2 cLa y (.slice sl l.length cl) l z2 ∧ z2.heap[q.m]? = some (.map (esOf N).toArray N.length) ∧ z2.heap[y.heap.size]? = some (.mapIter (some q.m) N.length (seen.push i) N.length)) := ⟨K1.out.1.below H2, (H2.block _ (heap_lt K1.out.2.1)).trans K1.out.2.1, (H2.block _ (heap_lt K1.out.2.2)).trans K1.out.2.2⟩; clear H2)
        | (at_builtin; refine at_appL kLa rfl (.tmp 16) (.tmp 21) rfl y.heap.size _ l rfl (K2.out.1.own.alloc _) z2.heap.size (toLa x) rfl (one_bxL _ _ _) ?_ ?_ ?_; (have := hln.out; omega); (have := K2.out.1.low.size; simp; omega); intro v' z3 A; obtain ⟨sp9, cp9, e9, _⟩ := OwnL.open (c := cLa) (s := 2) (fun _ => rfl) A.out.own; subst e9; have K3 : Hid (KL 52 2 cLa y _ (l ++ [toLa x]) z3 ∧ z3.heap[q.m]? = some (.map (esOf N).toArray N.length) ∧ z3.heap[y.heap.size]? = some (.mapIter (some q.m) N.length (seen.push i) N.length)) := ⟨K2.out.1.add A.out, app1_obj K2.out.1.own A.out K2.out.2.1 (fun cs t f e => by cases e), app1_obj K2.out.1.own A.out K2.out.2.2 (fun cs t f e => by cases e)⟩; clear A))
      go_roundw
      case rel => exact ⟨_, _, _, _, _, rfl, by rw [List.length_append, List.length_singleton], J1, K3⟩
      case measure =>
        refine Nat.lt_of_le_of_lt (Nat.le_of_eq ?_) hms.out
        unfold World.rangeLeft
        rw [K1.out.2.1, K1.out.2.2, K3.out.2.1, K3.out.2.2]
end Go.Proofs.YthbdpceobnkflaaDoor
