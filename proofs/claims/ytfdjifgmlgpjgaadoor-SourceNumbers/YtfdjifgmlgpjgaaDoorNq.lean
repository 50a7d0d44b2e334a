/- A list of items that grows, each with bytes of its own, beside boxes: what stays, what an append leaves. -/
import Derived.Test.YtfdjifgmlgpjgaaDoorNp
import Derived.Test.YtfdjifgmlgpjgaaDoorRv
import Derived.Laws.Pointers
import Derived.Laws.Entries
namespace Go.Proofs.YtfdjifgmlgpjgaaDoor
open Go Go.RowKit
set_option linter.unusedVariables false
set_option maxHeartbeats 2000000
set_option maxRecDepth 20000

theorem infoI : (Tryd.prog.info? 35).map (fun i => (i.zero, i.size, i.bytes)) = some (some (.agg (i6 z0)), 6, 80) := by kernel_rfl
theorem kItem : KdL (α := Ri) 23 35 6 80 c6 := by
  obtain ⟨i, hi, hz0, hz1, hz2⟩ := info_parts infoI
  exact ⟨Tryd.underlying23, ⟨i, _, hi, hz0, hz1, hz2, rfl⟩, fun x => rfl, fun x v hv => by
    have := one6 x
    rw [Array.all_eq_true'] at this
    exact this v (by unfold c6 at hv; simpa using hv), by decide, by decide⟩
/-- Items that came out: the list is owned, and each one's bytes are, apart from all others. -/
structure Pq (w : World) (va : Value) (X : List Itm) (bs : List (Nat × Array Value × TypeId)) (y : World) : Prop where
  fm : Fm w bs y
  own : OwnL 35 6 c6 w.heap.size y va (X.map (·.1))
  byt : ∀ (i : Nat) (x : Itm), X[i]? = some x → y.ownsRow w.heap.size 5 1 (.slice x.1.sp x.1.m x.1.cap) x.2.length (x.2.map byV)
  apt : ∀ (i j : Nat) (x x' : Itm) (a a' : Addr), X[i]? = some x → X[j]? = some x' → x.1.sp = some a → x'.1.sp = some a' → a.block = a'.block → i = j
theorem own_ty {y z : World} {B t s : Nat} {v : Value} {n : Nat} {xs : List Value} (h : y.ownsRow B t s v n xs) (hk : ∀ g cs, Bx y g cs t → z.heap[g]? = y.heap[g]?) : z.ownsRow B t s v n xs := by
  refine ⟨h.1, ?_⟩
  rcases h.2 with h0 | ⟨g, cap, cur, hv, hB, hg, hr⟩
  · exact .inl h0
  · exact .inr ⟨g, cap, cur, hv, hB, (hk g cur hg).trans hg, hr⟩
theorem Pq.keep {w y z : World} {va : Value} {X : List Itm} {bs bs' : List (Nat × Array Value × TypeId)} (h : Pq w va X bs y) (hf : Fm w bs' z) (hk : ∀ g cs t, (t = 35 ∨ t = 5) → Bx y g cs t → z.heap[g]? = y.heap[g]?) : Pq w va X bs' z :=
  ⟨hf, own_ty h.own (fun g cs hx => hk g cs _ (.inl rfl) hx), fun i x hx => own_ty (h.byt i x hx) (fun g cs hx => hk g cs _ (.inr rfl) hx), h.apt⟩
theorem Pq.below {w y z : World} {va : Value} {X : List Itm} {bs : List (Nat × Array Value × TypeId)} (h : Pq w va X bs y) (hb : Below y.heap.size y z) : Pq w va X bs z := h.keep (h.fm.below hb) fun g cs t _ hx => hb.block g (heap_lt hx)
theorem Pq.nil0 {w y : World} {bs : List (Nat × Array Value × TypeId)} (hf : Fm w bs y) : Pq w (.slice none 0 0) [] bs y := ⟨hf, OwnL.nil _ _, fun i x h => by simp at h, fun i j x x' a a' h => by simp at h⟩
theorem Pq.setCell {w y : World} {va : Value} {X : List Itm} {bs : List (Nat × Array Value × TypeId)} (h : Pq w va X bs y) (i b : Nat) (cs cs' : Array Value) (t : TypeId) (hi : bs[i]? = some (b, cs, t)) (ht : t ≠ 35 ∧ t ≠ 5) (j : Nat) (v : Value) (hv : cs.setIfInBounds j v = cs') : Pq w va X (bs.set i (b, cs', t)) (y.setCell ⟨b, j, none⟩ v) :=
  h.keep (h.fm.setCell i b cs cs' t hi j v hv) fun g c u hu hx => heap_setCell_other y ⟨b, j, none⟩ g v (Bx.unlike hx (h.fm.get i b cs t hi) (by rcases hu with rfl | rfl; exact Ne.symm ht.1; exact Ne.symm ht.2))
theorem Pq.pre {w y : World} {va : Value} {X : List Itm} {bs bs' : List (Nat × Array Value × TypeId)} (h : Pq w va X (bs ++ bs') y) : Pq w va X bs y := ⟨h.fm.pre, h.own, h.byt, h.apt⟩
theorem Pq.op {w y : World} {va : Value} {X : List Itm} {bs : List (Nat × Array Value × TypeId)} (h : Pq w va X bs y) : ∃ sp cap, va = .slice sp X.length cap := by
  obtain ⟨sp, cap, e, _⟩ := OwnL.open kItem.len h.own
  rw [List.length_map] at e
  exact ⟨sp, cap, e⟩
theorem RdN.setCell {y : World} {g n b t : Nat} {cs : Array Value} (h : RdN y g n) (hb : Bx y b cs t) (ht : t ≠ 9) (v : Value) : RdN (y.setCell ⟨b, 0, none⟩ v) g n := h.keep fun q o ho hq => by
  refine (heap_setCell_other y ⟨b, 0, none⟩ q v fun e => ?_).trans hq
  subst e
  unfold Bx at hb
  rw [hb] at hq
  injection hq with hq
  rcases ho with ⟨es, c, rfl⟩ | ⟨cs', rfl⟩
  · cases hq
  · injection hq with _ h2 _
    exact ht h2
/-- The block of an owned row, where it is. -/
theorem own_block {y : World} {B t s : Nat} {sp : Option Addr} {m cap n : Nat} {xs : List Value} (h : y.ownsRow B t s (.slice sp m cap) n xs) (a : Addr) (ha : sp = some a) : B ≤ a.block ∧ a.block < y.heap.size := by
  rcases h.2 with ⟨h0, _⟩ | ⟨g, c, cur, hv, hB, hg, _⟩
  · subst ha
    cases h0
  · subst ha
    injection hv with e
    injection e with e
    subst e
    exact ⟨hB, heap_lt hg⟩
theorem op_append {P : Program} {o : Oper} {a : Act} {K : Act → World → Prop} {Q : Exit → Act → World → Prop} {w w' : World} {v u v' : Value} (s x : Operand) (t : TypeId) (ho : o.op = .call { callee := .builtin .append, args := #[s, x], argTypes := #[t, t] }) (hs : a.eval s = v) (hx : a.eval x = u) (hr : (Builtin.append_ #[t, t] o.type #[v, u]).run P w = .ok v' w') (h : K (a.put o.dst v') w') : o.wp P a w K Q := by
  unfold Oper.wp execOp
  simp only [ho, resolve, invoke, builtin, Sem.run_bind, Sem.run_pure, Result.andThen_ok, List.map_toArray, List.map_cons, List.map_nil, hs, hx, hr]
  exact h
theorem fillI (s : Ri) : Instr.fill (fun i => some (i * 6, 6)) ((Array.range (1 * 6)).map ((Value.agg (i6 z0)).cells[· % (Value.agg (i6 z0)).cells.size]!)) [(0, .agg (i6 s))] = some (i6 s) := by kernel_rfl
theorem op_bsI {o : Oper} {a : Act} {w : World} {K : Act → World → Prop} {Q : Exit → Act → World → Prop} (s : Ri) (x : Operand) (ho : o.op = .buildSlice 23 1 #[(0, x)]) (hx : a.eval x = .agg (i6 s))
    (h : K (a.put o.dst (.slice (some ⟨w.heap.size, 0, none⟩) 1 1)) (w.alloc (.cells (i6 s) 35))) : o.wp Tryd.prog a w K Q := by
  obtain ⟨i, hi, hz0, hz1, hz2⟩ := info_parts infoI
  refine wp_buildSlice 23 35 1 #[(0, x)] ho (i6 s) i _ Tryd.underlying23 hi hz0 (by rw [hz1]; decide) (by rw [hz1]; decide) ?_ h
  rw [hz1]
  have e : (#[(0, x)].map fun (i, x) => (i, a.eval x)).toList = [(0, .agg (i6 s))] := by simp [hx]
  rw [e]
  exact fillI s
theorem at_bsI {ops : Array Oper} {rest : List Oper} {o : Oper} {a : Act} {w : World} {Q : Exit → Act → World → Prop} (s : Ri) (x : Operand) (hgd : o.guard = none) (ho : o.op = .buildSlice 23 1 #[(0, x)]) (hx : a.eval x = .agg (i6 s))
    (h : wpList Tryd.prog ops Q rest (a.put o.dst (.slice (some ⟨w.heap.size, 0, none⟩) 1 1)) (w.alloc (.cells (i6 s) 35))) : wpList Tryd.prog ops Q (o :: rest) a w := wpList_plain hgd fun _ hK => op_bsI s x ho hx (hK _ _ h)
/-- One item put behind the others. -/
theorem Pq.app {w y : World} {va : Value} {X : List Itm} {bs : List (Nat × Array Value × TypeId)} (h : Pq w va X bs y) (hb : ∀ (i b : Nat) cs t, bs[i]? = some (b, cs, t) → t ≠ 35) (x : Itm) (hx : y.ownsRow w.heap.size 5 1 (.slice x.1.sp x.1.m x.1.cap) x.2.length (x.2.map byV)) (hap : ∀ (i : Nat) (x' : Itm) (a a' : Addr), X[i]? = some x' → x'.1.sp = some a' → x.1.sp = some a → a.block ≠ a'.block) (hn : X.length ≤ 1000000) :
    ∃ s' k' c' z, (Builtin.append_ #[23, 23] 23 #[va, .slice (some ⟨y.heap.size, 0, none⟩) 1 1]).run Tryd.prog (y.alloc (.cells (i6 x.1) 35)) = .ok (.slice s' k' c') z ∧ Pq w (.slice s' k' c') (X ++ [x]) bs z ∧ (∀ (q : Nat) (o : Obj), (∀ cs, o ≠ Obj.cells cs 35 (0, 0)) → y.heap[q]? = some o → z.heap[q]? = some o) ∧ Below w.heap.size y z := by
  obtain ⟨i, hi, hz0, hz1, hz2⟩ := info_parts infoI
  have hc : ∀ j u', (i6 x.1).toList[j]? = some u' → (y.alloc (.cells (i6 x.1) 35)).cell? ((⟨y.heap.size, 0, none⟩ : Addr).add j) = some u' := fun j u' hj => by
    rw [Addr.add_lit, Nat.zero_add]
    exact Bx.c (alloc_last' y _) j u' (by rw [← Array.getElem?_toList]; exact hj)
  have hnews : ∀ u ∈ (i6 x.1).toList, u.oneCell' = true := kItem.one x.1
  obtain ⟨v', z, hrun, h3, h4, h5⟩ := run_append_own (P := Tryd.prog) (y.alloc (.cells (i6 x.1) 35)) w.heap.size 23 23 35 i (.agg (i6 z0)) 6 80 Tryd.underlying23 hi hz0 hz1 hz2 rfl (by decide) va (X.map (·.1)).length (rowL c6 (X.map (·.1))) (World.ownsRow.alloc h.own _) ⟨y.heap.size, 0, none⟩ 1 1 (i6 x.1).toList rfl hc hnews (by rw [List.length_map]; unfold maxLen; omega) (by rw [List.length_map]; omega) (by have := h.fm.low.size; simp; omega)
  have ho : OwnL 35 6 c6 w.heap.size z v' ((X ++ [x]).map (·.1)) := by
    unfold OwnL
    rw [List.map_append, rowL_app, List.length_append, List.map_cons, List.map_nil, rowL_one]
    exact h3
  have hlow : Below w.heap.size y z := Below.grown ((Below.refl _ _).alloc h.fm.low.size _) h4 (by have := h.fm.low.size; simp; omega) (fun q hq => (World.ownsRow.lt h.own q hq).1)
  have keep : ∀ (q : Nat) (o : Obj), (∀ cs, o ≠ Obj.cells cs 35 (0, 0)) → y.heap[q]? = some o → z.heap[q]? = some o := fun q o hne hq => by
    have h1 := ((below1 y (.cells (i6 x.1) 35)).block q (heap_lt hq)).trans hq
    refine (h4.block q (by have := heap_lt hq; simp; omega) fun e => ?_).trans h1
    obtain ⟨cs', h2⟩ := h.own.ty q e.symm
    unfold Bx at h2
    rw [hq] at h2
    injection h2 with h2
    exact hne cs' h2
  have keepB : ∀ g cs, Bx y g cs 5 → z.heap[g]? = y.heap[g]? := fun g cs hx => (keep g _ (fun cs' e => by injection e with _ e2 _; exact absurd e2 (by decide)) hx).trans hx.symm
  obtain ⟨s', c', e', _⟩ := OwnL.open kItem.len ho
  rw [e'] at hrun ho
  refine ⟨s', _, c', z, hrun, ⟨⟨fun i b cs t e => keep b _ (fun cs' e2 => by injection e2 with _ e3 _; exact hb i b cs t e e3) (h.fm.get i b cs t e), h.fm.ge, h.fm.ne, h.fm.low.trans hlow⟩, ho, fun k x' hk => ?_, fun k l x1 x2 a1 a2 hk hl e1 e2 eb => ?_⟩, keep, hlow⟩
  · rcases Nat.lt_or_ge k X.length with hlt | hge
    · rw [List.getElem?_append_left hlt] at hk
      exact own_ty (h.byt k x' hk) keepB
    · rw [List.getElem?_append_right hge] at hk
      have hk0 : k - X.length = 0 := by
        rcases Nat.eq_zero_or_pos (k - X.length) with h0 | h0
        · exact h0
        · rw [List.getElem?_eq_none (by simp; omega)] at hk; cases hk
      rw [hk0] at hk
      have hk' : x = x' := by simpa using hk
      subst hk'
      exact own_ty hx keepB
  · have last : ∀ (k : Nat) (x' : Itm), (X ++ [x])[k]? = some x' → (k < X.length ∧ X[k]? = some x') ∨ (k = X.length ∧ x' = x) := fun k x' hk => by
      rcases Nat.lt_or_ge k X.length with hlt | hge
      · rw [List.getElem?_append_left hlt] at hk
        exact .inl ⟨hlt, hk⟩
      · rw [List.getElem?_append_right hge] at hk
        rcases Nat.eq_zero_or_pos (k - X.length) with h0 | h0
        · rw [h0] at hk
          have hk' : x = x' := by simpa using hk
          exact .inr ⟨by omega, hk'.symm⟩
        · rw [List.getElem?_eq_none (by simp; omega)] at hk; cases hk
    rcases last k x1 hk with ⟨l1, k1⟩ | ⟨l1, rfl⟩ <;> rcases last l x2 hl with ⟨l2, k2⟩ | ⟨l2, rfl⟩
    · exact h.apt k l x1 x2 a1 a2 k1 k2 e1 e2 eb
    · exact absurd eb.symm (hap k x1 a2 a1 k1 e1 e2)
    · exact absurd eb (hap l x2 a1 a2 k2 e2 e1)
    · omega
def bsI (b0 b1 b2 b3 : Nat) (va : Value) (e p a : Int) : List (Nat × Array Value × TypeId) := [(b0, #[va], 23), (b1, #[.int .i64 e], 26), (b2, #[.int .i64 p], 3), (b3, #[.int .i64 a], 3)]
theorem bsI_ty (b0 b1 b2 b3 : Nat) (va : Value) (e p a : Int) : ∀ (i b : Nat) cs t, (bsI b0 b1 b2 b3 va e p a)[i]? = some (b, cs, t) → t ≠ 35 := fun i b cs t h => by
  have := List.mem_of_getElem? h
  simp [bsI] at this
  rcases this with h | h | h | h <;> (obtain ⟨_, _, rfl⟩ := h; decide)
theorem startI (w : World) : Fm w (bsI w.heap.size (w.heap.size + 1) (w.heap.size + 1 + 1) (w.heap.size + 1 + 1 + 1) (.slice none 0 0) 0 0 0) ((((w.alloc (.cells #[.slice none 0 0] 23)).alloc (.cells #[.int .i64 0] 26)).alloc (.cells #[.int .i64 0] 3)).alloc (.cells #[.int .i64 0] 3)) := by
  have h := ((((Fm.nil w).new #[.slice none 0 0] 23).new #[.int .i64 0] 26).new #[.int .i64 0] 3).new #[.int .i64 0] 3
  simpa [bsI] using h
theorem bsI_ne {w : World} {b0 b1 b2 b3 : Nat} {va : Value} {e p a : Int} {y : World} (h : Fm w (bsI b0 b1 b2 b3 va e p a) y) : b1 ≠ b0 ∧ b2 ≠ b0 ∧ b2 ≠ b1 := by
  refine ⟨fun e' => ?_, fun e' => ?_, fun e' => ?_⟩
  · subst e'; have := h.ne 0 1 b1 _ _ _ _ rfl rfl; omega
  · subst e'; have := h.ne 0 2 b2 _ _ _ _ rfl rfl; omega
  · subst e'; have := h.ne 1 2 b2 _ _ _ _ rfl rfl; omega
theorem Bx.setO {w : World} {b c t : Nat} {cs : Array Value} (h : Bx w b cs t) (v : Value) (hne : b ≠ c) : Bx (w.setCell ⟨c, 0, none⟩ v) b cs t := (heap_setCell_other w ⟨c, 0, none⟩ b v hne).trans h

theorem Lat.word {t : List UInt8} {ls : List (List UInt8)} {x r cur : List UInt8} (h : Lat t ls (x ++ r) cur) (hx : ∀ c ∈ x, c ≠ 10) : Lat t ls r (cur ++ x) := by
  induction x generalizing cur with
  | nil => simpa using h
  | cons c x ih =>
    have h1 := Lat.more (c := c) (r := x ++ r) h (hx c (by simp))
    have := ih h1 (fun d hd => hx d (by simp [hd]))
    rwa [List.append_assoc] at this
theorem Lat.next {t : List UInt8} {ls : List (List UInt8)} {rest own oth : ByteArray} (h : Lat t ls (strL rest) []) (hne : 0 < rest.size) (hc : (own = rest ∧ oth = ⟨#[]⟩ ∧ ∀ x ∈ strL rest, x ≠ 10) ∨ (strL rest = strL own ++ 10 :: strL oth ∧ (∀ x ∈ strL own, x ≠ 10) ∧ own.size + oth.size + 1 = rest.size)) :
    (∀ x, lineO (strL own) = some x → Lat t (ls ++ [strL own]) (strL oth) []) ∧ (lineO (strL own) = none → badO (linesG t []) 1 = some (ls.length + 1)) ∧ own.size ≤ rest.size ∧ oth.size < rest.size := by
  rcases hc with ⟨rfl, rfl, h10⟩ | ⟨h1, h10, h2⟩
  · have hL := Lat.word (x := strL own) (r := []) (by rw [List.append_nil]; exact h) h10
    rw [List.nil_append] at hL
    have hn0 : strL own ≠ [] := fun e => by have := strL_len own; rw [e] at this; simp at this; omega
    exact ⟨fun x hx => hL.last hn0 hx, fun hx => hL.badLast hn0 hx, Nat.le_refl _, hne⟩
  · rw [h1] at h
    have hL := Lat.word h h10
    rw [List.nil_append] at hL
    exact ⟨fun x hx => hL.line hx, fun hx => hL.bad hx, by omega, by omega⟩
end Go.Proofs.YtfdjifgmlgpjgaaDoor
