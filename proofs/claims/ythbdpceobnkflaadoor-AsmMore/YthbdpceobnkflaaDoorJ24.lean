/- The statements' own awake: the walk. Where each item of an assembled source lies, item by item: plain mathematics; what Assemble and Bytes answer, said so. Two sources behind one another: what their objects say of the object of both, by plain mathematics. -/
import Derived.Test.YthbdpceobnkflaaDoorJ23
import Derived.Test.YthbdpceobnkflaaDoorJ15
namespace Go.Proofs.YthbdpceobnkflaaDoor
open Go Go.RowKit
set_option linter.unusedVariables false
set_option maxHeartbeats 3000000
set_option maxRecDepth 20000

theorem lb8_conv {w : World} {sp : Option Addr} {l : List UInt8} (h : LB8 w sp l) (hne : l ≠ []) (cap : Nat) : (convert 33 9 (.slice sp l.length cap)).run Tryd.prog w = .ok (.string ⟨l.toArray⟩) w := by
  cases sp with
  | none =>
    cases l with
    | nil => exact absurd rfl hne
    | cons a r => obtain ⟨g, o, e, _⟩ := h 0 a rfl; cases e
  | some a =>
    refine run_convert_bytes_back (P := Tryd.prog) w 33 9 5 a cap l Tryd.underlying33 Tryd.underlying5 Tryd.underlying9 (fun j hj => ?_)
    obtain ⟨g, o, e, c⟩ := h j l[j] (List.getElem?_eq_getElem hj)
    cases e
    rw [Addr.add_lit]
    exact c
theorem aw_fill : Instr.fill (fun i => some (i * 6, 6)) ((Array.range (3 * 6)).map ((Value.agg (i6 z0)).cells[· % (Value.agg (i6 z0)).cells.size]!)) [(0, .agg (i6 aw0)), (1, .agg (i6 aw1)), (2, .agg (i6 aw2))] = some (rowL c6 (awL.map (·.1))).toArray := by kernel_rfl
theorem at_bs3 {ops : Array Oper} {rest : List Oper} {o : Oper} {a : Act} {w : World} {Q : Exit → Act → World → Prop} (x0 x1 x2 : Operand) (hgd : o.guard = none) (ho : o.op = .buildSlice 22 3 #[(0, x0), (1, x1), (2, x2)]) (h0 : a.eval x0 = .agg (i6 aw0)) (h1 : a.eval x1 = .agg (i6 aw1)) (h2 : a.eval x2 = .agg (i6 aw2))
    (h : wpList Tryd.prog ops Q rest (a.put o.dst (.slice (some ⟨w.heap.size, 0, none⟩) 3 3)) (w.alloc (.cells (rowL c6 (awL.map (·.1))).toArray 40))) : wpList Tryd.prog ops Q (o :: rest) a w := wpList_plain hgd fun _ hK => by
  obtain ⟨i, hi, hz0, hz1, hz2⟩ := info_parts infoIt9
  refine wp_buildSlice 22 40 3 #[(0, x0), (1, x1), (2, x2)] ho (rowL c6 (awL.map (·.1))).toArray i _ Tryd.underlying22 hi hz0 (by rw [hz1]; decide) (by rw [hz1]; decide) ?_ (hK _ _ h)
  rw [hz1]
  have e : (#[(0, x0), (1, x1), (2, x2)].map fun (i, x) => (i, a.eval x)).toList = [(0, .agg (i6 aw0)), (1, .agg (i6 aw1)), (2, .agg (i6 aw2))] := by simp [h0, h1, h2]
  rw [e]
  exact aw_fill
/-- What Assemble answers. -/
theorem asm_aw (v : World) (Tb : Hid (Tabs v)) (sp : Option Addr) (cap : Nat) (hl : Hid (LiesL 6 c6 v sp (awL.map (·.1)))) :
    Calls Tryd.prog 8 #[.slice sp 3 cap] v fun e z => ∃ x, e = .returned (.tuple #[.agg (oC x), .int .i64 0, .int .i64 0]) ∧ Hid (Below v.heap.size v z ∧ Lco z x ∧ plB x.B = [(0, [248, 5, 48, 0])] ∧ x.L = [⟨aB, 0⟩]) := by
  obtain ⟨H, o1, o2, o3⟩ := aw_obj
  refine (assemble_any v Tb sp cap awL hl (fun x hx => by
    simp only [awL, List.mem_cons, List.not_mem_nil, or_false] at hx
    rcases hx with rfl | rfl | rfl <;> exact ⟨lb_nil _ _, rfl⟩) (by show 3 ≤ 9223372036854775807; decide)).mono fun e z h => ?_
  rcases h with ⟨E, k, rfl, h⟩ | ⟨x, rfl, h⟩
  · exfalso
    rcases h.out.2 with ⟨h1, _⟩ | ⟨_, i, h1, h2⟩ | ⟨_, h1, i, h2, h3⟩
    · exact h1 H.c
    · rw [H.l] at h1; cases h1
    · have hf : filE (layS sh0 (awL.map (·.1))).N (awL.zip (plcs sh0 (awL.map (·.1)))) 0 = none := H.f
      rw [hf] at h2
      cases h2
  · obtain ⟨hb, hx, _, h1, h2, h3, h4, h5⟩ := h.out
    rw [o1] at h3
    rw [o3] at h5
    exact ⟨x, rfl, hb, hx, h3, h5⟩
theorem awake14_any (w : World) (Tb : Hid (Tabs w)) : Calls Tryd.prog 7 #[] w fun e w' => e = .returned (.bool true) ∧ Hid (Below w.heap.size w w') := by
  have K1 : Hid (Fm w [(w.heap.size, (rowL c6 (awL.map (·.1))).toArray, 40)] (w.alloc (.cells (rowL c6 (awL.map (·.1))).toArray 40))) := Fm.one w _ _
  have hAs : Hid (∀ v, Fm w [(w.heap.size, (rowL c6 (awL.map (·.1))).toArray, 40)] v → Calls Tryd.prog 8 #[.slice (some ⟨w.heap.size, 0, none⟩) 3 3] v fun e z => ∃ x, e = .returned (.tuple #[.agg (oC x), .int .i64 0, .int .i64 0]) ∧ Hid (Below v.heap.size v z ∧ Lco z x ∧ plB x.B = [(0, [248, 5, 48, 0])] ∧ x.L = [⟨aB, 0⟩])) := fun v h => asm_aw v (Tb.out.below h.low) _ 3 (lies_items (h.bx 0 _ _ _ rfl))
  go_enter Tryd.func7, Tryd.ntmps7
  go_wp2_with (first
    | ((with_reducible refine at_bs3 (.tmp 5) (.tmp 6) (.tmp 7) ?_ ?_ ?_ ?_ ?_ ?_); rfl; rfl; rfl; rfl; rfl)
    | ((with_reducible refine gen_world (w.alloc (.cells (rowL c6 (awL.map (·.1))).toArray 40)) (Fm w [(w.heap.size, (rowL c6 (awL.map (·.1))).toArray, 40)]) K1.out ?_); intro y2 K2; have hAz := hAs.out y2 K2.out)
    | (go_at_call 8; refine hAz.mono ?_; rintro e y3 ⟨x, rfl, H3⟩; clear hAz; have K3 : Hid (Fm w [(w.heap.size, (rowL c6 (awL.map (·.1))).toArray, 40)] y3) := K2.out.below H3.out.1)
    | ((with_reducible refine gen_world (y3.alloc (.cells #[.slice none 0 0, .slice none 0 0, .slice none 0 0] 29)) (fun y => Fm w [(w.heap.size, (rowL c6 (awL.map (·.1))).toArray, 40), (y3.heap.size, oC zO, 29)] y ∧ Below y3.heap.size y3 y) ?_ ?_); exact ⟨K3.out.new _ _, Below.alloc (Below.refl _ _) (Nat.le_refl _) _⟩; intro y4 K4)
    | ((with_reducible refine at_st rtO y3.heap.size (oC zO) (oC x) ?_ ?_ ?_ ?_ (.tmp 1) (.tmp 10) ?_ ?_ ?_ ?_ ?_); exact K4.out.1.bx 1 _ _ _ rfl; rfl; rfl; exact oneO _; rfl; rfl; rfl; rfl; intro y5 hw5; have K : Hid (Fm w [(w.heap.size, (rowL c6 (awL.map (·.1))).toArray, 40), (y3.heap.size, oC x, 29)] y5) := K4.out.1.put 1 _ _ _ _ rfl hw5.out; have V5 : Hid (Below y3.heap.size y3 y5) := K4.out.2.trans (hw5.out.2.1 _ (Nat.le_refl _)); clear hw5 K4 K3; refine stopAt ?_))
  obtain ⟨bx, hbx⟩ : ∃ q, y3.heap.size = q := ⟨_, rfl⟩
  have hX : Hid (Lco y5 x) := H3.out.2.1.below V5.out
  have hB := H3.out.2.2.1
  have hLl := H3.out.2.2.2
  obtain ⟨q, hq⟩ : ∃ q, x.B = [q] := by
    have := congrArg List.length hB
    unfold plB at this
    rw [List.length_map] at this
    exact List.length_eq_one_iff.1 this
  have h1 : q.2 = [248, 5, 48, 0] := by
    rw [hq] at hB
    have : (q.1.a, q.2) = ((0 : Int), [248, 5, 48, 0]) := by simpa [plB] using hB
    exact congrArg Prod.snd this
  obtain ⟨gb, o, hbp, hcx⟩ := hX.out.lo.b 0 q.1 (by rw [hq]; rfl)
  have hg := hX.out.lo.g q (by rw [hq]; simp)
  have h2 : q.1.m = 4 := by rw [← hg.2, h1]; rfl
  have c0 : y5.cell? ⟨bx, 0, none⟩ = some (.slice (some ⟨gb, o, none⟩) 1 x.bc) := by
    have := (K.out.bx 1 _ _ _ rfl).c 0 (.slice x.bp x.B.length x.bc) rfl
    rw [hbx, hbp, hq] at this
    exact this
  have c2 : y5.cell? ⟨bx, 2, none⟩ = some (.slice x.lp 1 x.lc) := by
    have := (K.out.bx 1 _ _ _ rfl).c 2 (.slice x.lp x.L.length x.lc) rfl
    rw [hbx, hLl] at this
    exact this
  have c1 : y5.cell? ⟨gb, o + 0 * 2 + 1, none⟩ = some (.slice q.1.sp 4 q.1.cap) := by
    have := hcx 1 (.slice q.1.sp q.1.m q.1.cap) rfl
    rw [h2] at this
    exact this
  have c1' : y5.cell? ⟨gb, o + 1, none⟩ = some (.slice q.1.sp 4 q.1.cap) := by simpa using c1
  have ij : ∀ v, (Instr.indexAt 25 (.slice (some ⟨gb, o, none⟩) 1 x.bc) (.int .i64 0)).run Tryd.prog v = .ok (.pointer (some ⟨gb, o, none⟩)) v := fun v => by
    have := idxP (P := Tryd.prog) (g := gb) (off := o) (len := 1) (cap := x.bc) Tryd.underlying25 (s := 2) (by kernel_rfl) .i64 0 v (by decide)
    simpa using this
  have hcv : (convert 33 9 (.slice q.1.sp 4 q.1.cap)).run Tryd.prog y5 = .ok (.string ⟨#[248, 5, 48, 0]⟩) y5 := by
    have := lb8_conv (l := q.2) hg.1 (by rw [h1]; simp) q.1.cap
    rw [h1] at this
    exact this
  rw [hbx] at K ⊢
  clear H3 V5 hB hLl hq h1 h2 hcx hg c1
  refine Stop.go ?_
  go_wp2
  go_ret
  exact ⟨rfl, K.out.low⟩
end Go.Proofs.YthbdpceobnkflaaDoor

namespace Go.Proofs.YthbdpceobnkflaaDoor
open Go Go.RowKit
set_option linter.unusedVariables false
set_option maxHeartbeats 3000000
set_option maxRecDepth 20000

theorem lay_ok : ∀ (l : List Ri) (s : Sh) (i : Nat), s.Ok → (∀ r ∈ l, mayI r = true) → layE s l i = none → (layS s l).Ok
  | [], s, i, hs, _, _ => hs
  | r :: l, s, i, hs, hm, h => by
    unfold layE at h
    split at h
    · rename_i h0
      exact lay_ok l _ _ (hs.st (hm r (by simp)) h0) (fun q hq => hm q (by simp [hq])) h
    · cases h
theorem lay_ne : ∀ (l : List Ri) (s : Sh) (i : Nat) (E : Int) (k : Nat), layE s l i = some (E, k) → E ≠ 0
  | [], s, i, E, k, h => by cases h
  | r :: l, s, i, E, k, h => by
    unfold layE at h
    split at h
    · exact lay_ne l _ _ E k h
    · rename_i h0
      simp at h
      rw [← h.1]
      exact h0
theorem fil_ne (N : List (ByteArray × Nat)) : ∀ (Z : List (Itm × Nat)) (i : Nat) (E : Int) (k : Nat), filE N Z i = some (E, k) → E ≠ 0
  | [], i, E, k, h => by cases h
  | z :: Z, i, E, k, h => by
    unfold filE at h
    split at h
    · exact fil_ne N Z _ E k h
    · rename_i h0
      simp at h
      rw [← h.1]
      exact h0
theorem bad_ne {L : List Itm} {s : Sh} {E n : Int} (h : BadA L s E n) : E ≠ 0 := by
  rcases h with ⟨h1, h2, _⟩ | ⟨_, i, h1, _⟩ | ⟨_, _, i, h1, _⟩
  · rw [h2]; exact h1
  · exact lay_ne _ _ _ _ _ h1
  · exact fil_ne _ _ _ _ _ h1
/-- What Assemble answers, in one row. -/
def AsT (w : World) (L : List Itm) (e : Ending) (z : World) : Prop := ∃ (x : Oo) (E n : Int), e = .returned (.tuple #[.agg (oC x), .int .i64 E, .int .i64 n]) ∧ Hid (Below w.heap.size w z ∧ ((E ≠ 0 ∧ x = zO) ∨ (E = 0 ∧ Lco z x ∧ AsmOk L ∧ plB x.B = blksF (asmMem L) [] (-1) (marksU (asmU L)) ∧ x.M = marksU (asmU L) ∧ x.L = sortN (asmN L))))
theorem assemble_one (w : World) (T : Hid (Tabs w)) (sp : Option Addr) (cap : Nat) (L : List Itm) (hl : Hid (LiesL 6 c6 w sp (L.map (·.1)))) (hg : Hid (∀ x ∈ L, LB8 w x.1.sp x.2 ∧ x.2.length = x.1.m)) (hn : L.length ≤ 9223372036854775807) :
    Calls Tryd.prog 8 #[.slice sp L.length cap] w (AsT w L) :=
  (assemble_any w T sp cap L hl hg hn).mono fun e z h => by
    rcases h with ⟨E, k, h1, h⟩ | ⟨x, h1, h⟩
    · exact ⟨zO, E, k, h1, h.out.1, .inl ⟨bad_ne h.out.2, rfl⟩⟩
    · obtain ⟨h2, h3, h4, h5, h6, h7, h8, h9⟩ := h.out
      exact ⟨x, 0, 0, h1, h2, .inr ⟨rfl, h3, ⟨h4, h5, h6, fun x hx => (hg.out x hx).2⟩, h7, h8, h9⟩⟩
/-- The place ahead of an item, the bytes and the labels of the items ahead of it. -/
def plI (L : List Itm) (i : Nat) : Nat := (layS sh0 ((L.map (·.1)).take i)).p
def szI (L : List Itm) (i : Nat) : Nat := sizesN ((L.map (·.1)).take i)
def nlI (L : List Itm) (i : Nat) : Nat := (layS sh0 ((L.map (·.1)).take i)).N.length
theorem sz_add (l : List Ri) (r : Ri) : sizesN (l ++ [r]) = sizesN l + (if r.k = 1 ∨ r.k = 4 then 0 else szN r) := by unfold sizesN; simp
section
variable {L : List Itm} (H : AsmOk L)
include H
omit H in
theorem at_pl {i : Nat} {x : Itm} (h : L[i]? = some x) : AtJ L i x (plI L i) := ⟨h, plcs_at _ sh0 i x.1 (by rw [List.getElem?_map, h]; rfl)⟩
omit H in
theorem sz_one {i : Nat} {x : Itm} (h : L[i]? = some x) : szI L (i + 1) = szI L i + (if x.1.k = 1 ∨ x.1.k = 4 then 0 else szN x.1) := by
  unfold szI
  rw [List.take_add_one, List.getElem?_map, h]
  exact sz_add _ _
theorem AsmOk.moved {i : Nat} {x : Itm} (h : L[i]? = some x) (hk : x.1.k = 4) : ((plI L (i + 1) : Nat) : Int) = x.1.a ∧ szI L (i + 1) = szI L i ∧ nlI L (i + 1) = nlI L i := by
  have ha := may_at (H.may (at_pl h)) hk
  have h1 : (L.map (·.1))[i]? = some x.1 := by rw [List.getElem?_map, h]; rfl
  refine ⟨?_, ?_, ?_⟩
  · unfold plI
    rw [layS_take _ sh0 i x.1 h1]
    unfold stS
    rw [if_neg (by omega), if_pos hk]
    show ((x.1.a.toNat : Nat) : Int) = x.1.a
    omega
  · rw [sz_one h, if_pos (.inr hk)]; rfl
  · unfold nlI
    rw [layS_take _ sh0 i x.1 h1]
    unfold stS
    rw [if_neg (by omega), if_pos hk]
omit H in
theorem at_named {i : Nat} {x : Itm} (h : L[i]? = some x) (hk : x.1.k = 1) : plI L (i + 1) = plI L i ∧ szI L (i + 1) = szI L i ∧ nlI L (i + 1) = nlI L i + 1 := by
  have h1 : (L.map (·.1))[i]? = some x.1 := by rw [List.getElem?_map, h]; rfl
  refine ⟨?_, ?_, ?_⟩
  · unfold plI
    rw [layS_take _ sh0 i x.1 h1]
    unfold stS
    rw [if_pos hk]
    rfl
  · rw [sz_one h, if_pos (.inl hk)]; rfl
  · unfold nlI
    rw [layS_take _ sh0 i x.1 h1]
    unfold stS
    rw [if_pos hk]
    rfl
theorem AsmOk.laid {i : Nat} {x : Itm} (h : L[i]? = some x) (k1 : x.1.k ≠ 1) (k4 : x.1.k ≠ 4) : plI L (i + 1) = plI L i + (flB (asmN L) x).length ∧ szI L (i + 1) = szI L i + (flB (asmN L) x).length ∧ nlI L (i + 1) = nlI L i := by
  have h1 : (L.map (·.1))[i]? = some x.1 := by rw [List.getElem?_map, h]; rfl
  have hn : ¬ (x.1.k = 1 ∨ x.1.k = 4) := fun e => e.elim k1 k4
  have hle := H.len (at_pl h)
  rw [if_neg hn] at hle
  refine ⟨?_, ?_, ?_⟩
  · unfold plI
    rw [layS_take _ sh0 i x.1 h1, hle]
    unfold stS
    rw [if_neg k1, if_neg k4]
    rfl
  · rw [sz_one h, if_neg hn, hle]
  · unfold nlI
    rw [layS_take _ sh0 i x.1 h1]
    unfold stS
    rw [if_neg k1, if_neg k4]
    rfl
theorem AsmOk.few : L.length ≤ 4096 := by
  have := (check_may H.c).1
  rw [List.length_map] at this
  exact this
theorem AsmOk.pl_le {i : Nat} (h : i < L.length) : plI L i ≤ 65536 := by
  obtain ⟨x, hx⟩ : ∃ x, L[i]? = some x := ⟨_, List.getElem?_eq_getElem h⟩
  have ha := at_pl hx
  exact (lay_fits _ sh0 0 sh0_ok H.all H.l i x.1 _ ha.r ha.2).1
end
end Go.Proofs.YthbdpceobnkflaaDoor

namespace Go.Proofs.YthbdpceobnkflaaDoor
open Go Go.RowKit
set_option linter.unusedVariables false
set_option maxHeartbeats 3000000
set_option maxRecDepth 20000

section
variable {L : List Itm} (H : AsmOk L)
include H
end
theorem layS_app : ∀ (l m : List Ri) (s : Sh), layS s (l ++ m) = layS (layS s l) m
  | [], m, s => rfl
  | r :: l, m, s => layS_app l m (stS s r)
theorem plcs_app : ∀ (l m : List Ri) (s : Sh), plcs s (l ++ m) = plcs s l ++ plcs (layS s l) m
  | [], m, s => rfl
  | r :: l, m, s => by
    show s.p :: plcs (stS s r) (l ++ m) = s.p :: (plcs (stS s r) l ++ plcs (layS (stS s r) l) m)
    rw [plcs_app l m]
theorem st_p {s t : Sh} (h : s.p = t.p) (r : Ri) : (stS s r).p = (stS t r).p := by
  unfold stS
  split
  · exact h
  · split
    · rfl
    · show s.p + szN r = t.p + szN r
      rw [h]
theorem plcs_same : ∀ (l : List Ri) (s t : Sh), s.p = t.p → plcs s l = plcs t l
  | [], s, t, _ => rfl
  | r :: l, s, t, h => by
    show s.p :: plcs (stS s r) l = t.p :: plcs (stS t r) l
    rw [h, plcs_same l _ _ (st_p h r)]
theorem lay_N : ∀ (l : List Ri) (s t : Sh), s.p = t.p → ∃ D, (layS s l).N = D ++ s.N ∧ (layS t l).N = D ++ t.N
  | [], s, t, _ => ⟨[], rfl, rfl⟩
  | r :: l, s, t, h => by
    obtain ⟨D, h1, h2⟩ := lay_N l (stS s r) (stS t r) (st_p h r)
    by_cases hk : r.k = 1
    · refine ⟨D ++ [(r.n, s.p)], ?_, ?_⟩
      · show (layS (stS s r) l).N = _
        rw [h1]
        unfold stS
        rw [if_pos hk]
        simp [nmS]
      · show (layS (stS t r) l).N = _
        rw [h2]
        unfold stS
        rw [if_pos hk, h]
        simp [nmS]
    · have e : ∀ s : Sh, (stS s r).N = s.N := fun s => by
        unfold stS
        rw [if_neg hk]
        split <;> rfl
      exact ⟨D, by show (layS (stS s r) l).N = _; rw [h1, e], by show (layS (stS t r) l).N = _; rw [h2, e]⟩
theorem st_four (s : Sh) {r : Ri} (hk : r.k = 4) : stS s r = ⟨r.a.toNat, s.U, s.N⟩ := by
  unfold stS
  rw [if_neg (by omega), if_pos hk]
theorem AsmOk.pw {L : List Itm} (H : AsmOk L) : (asmN L).Pairwise (fun a b => a.1 ≠ b.1) := (lay_names _ sh0 0 sh0_ok H.all H.l (fun y hy => by cases hy) List.Pairwise.nil).2
/-- An object of a source that was assembled. -/
structure ObA (L : List Itm) (x : Oo) : Prop where
  h : AsmOk L
  b : plB x.B = blksF (asmMem L) [] (-1) (marksU (asmU L))
  m : x.M = marksU (asmU L)
  l : x.L = sortN (asmN L)
  g : ∀ q ∈ x.B, q.2.length = q.1.m
end Go.Proofs.YthbdpceobnkflaaDoor
