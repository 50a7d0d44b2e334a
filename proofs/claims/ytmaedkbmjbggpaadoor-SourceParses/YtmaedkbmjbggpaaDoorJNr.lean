/- A list of items that grows, each with bytes of its own, beside boxes: what stays, what an append leaves. -/
import Derived.Test.YtmaedkbmjbggpaaDoorJNp
import Derived.Test.YtmaedkbmjbggpaaDoorJRv
import Derived.Laws.Pointers
import Derived.Laws.Entries
namespace Go.Proofs.YtmaedkbmjbggpaaDoor
open Go Go.RowKit
set_option linter.unusedVariables false
set_option maxHeartbeats 2000000
set_option maxRecDepth 20000

theorem infoI : (Tryd.prog.info? 39).map (fun i => (i.zero, i.size, i.bytes)) = some (some (.agg (i6 z0)), 6, 80) := by kernel_rfl
theorem kItem : KdL (α := Ri) 22 39 6 80 c6 := by
  obtain ⟨i, hi, hz0, hz1, hz2⟩ := info_parts infoI
  exact ⟨Tryd.underlying22, ⟨i, _, hi, hz0, hz1, hz2, rfl⟩, fun x => rfl, fun x v hv => by
    have := one6 x
    rw [Array.all_eq_true'] at this
    exact this v (by unfold c6 at hv; simpa using hv), by decide, by decide⟩
/-- Items that came out: the list is owned, and each one's bytes are, apart from all others. -/
structure Pq (w : World) (va : Value) (X : List Itm) (bs : List (Nat × Array Value × TypeId)) (y : World) : Prop where
  fm : Fm w bs y
  own : OwnL 39 6 c6 w.heap.size y va (X.map (·.1))
  byt : ∀ (i : Nat) (x : Itm), X[i]? = some x → y.ownsRow w.heap.size 5 1 (.slice x.1.sp x.1.m x.1.cap) x.2.length (x.2.map byV)
  apt : ∀ (i j : Nat) (x x' : Itm) (a a' : Addr), X[i]? = some x → X[j]? = some x' → x.1.sp = some a → x'.1.sp = some a' → a.block = a'.block → i = j
theorem own_ty {y z : World} {B t s : Nat} {v : Value} {n : Nat} {xs : List Value} (h : y.ownsRow B t s v n xs) (hk : ∀ g cs, Bx y g cs t → z.heap[g]? = y.heap[g]?) : z.ownsRow B t s v n xs := by
  refine ⟨h.1, ?_⟩
  rcases h.2 with h0 | ⟨g, cap, cur, hv, hB, hg, hr⟩
  · exact .inl h0
  · exact .inr ⟨g, cap, cur, hv, hB, (hk g cur hg).trans hg, hr⟩
theorem Pq.keep {w y z : World} {va : Value} {X : List Itm} {bs bs' : List (Nat × Array Value × TypeId)} (h : Pq w va X bs y) (hf : Fm w bs' z) (hk : ∀ g cs t, (t = 39 ∨ t = 5) → Bx y g cs t → z.heap[g]? = y.heap[g]?) : Pq w va X bs' z :=
  ⟨hf, own_ty h.own (fun g cs hx => hk g cs _ (.inl rfl) hx), fun i x hx => own_ty (h.byt i x hx) (fun g cs hx => hk g cs _ (.inr rfl) hx), h.apt⟩
theorem Pq.below {w y z : World} {va : Value} {X : List Itm} {bs : List (Nat × Array Value × TypeId)} (h : Pq w va X bs y) (hb : Below y.heap.size y z) : Pq w va X bs z := h.keep (h.fm.below hb) fun g cs t _ hx => hb.block g (heap_lt hx)
theorem Pq.nil0 {w y : World} {bs : List (Nat × Array Value × TypeId)} (hf : Fm w bs y) : Pq w (.slice none 0 0) [] bs y := ⟨hf, OwnL.nil _ _, fun i x h => by simp at h, fun i j x x' a a' h => by simp at h⟩
theorem Pq.setCell {w y : World} {va : Value} {X : List Itm} {bs : List (Nat × Array Value × TypeId)} (h : Pq w va X bs y) (i b : Nat) (cs cs' : Array Value) (t : TypeId) (hi : bs[i]? = some (b, cs, t)) (ht : t ≠ 39 ∧ t ≠ 5) (j : Nat) (v : Value) (hv : cs.setIfInBounds j v = cs') : Pq w va X (bs.set i (b, cs', t)) (y.setCell ⟨b, j, none⟩ v) :=
  h.keep (h.fm.setCell i b cs cs' t hi j v hv) fun g c u hu hx => heap_setCell_other y ⟨b, j, none⟩ g v (Bx.unlike hx (h.fm.get i b cs t hi) (by rcases hu with rfl | rfl; exact Ne.symm ht.1; exact Ne.symm ht.2))
theorem Pq.pre {w y : World} {va : Value} {X : List Itm} {bs bs' : List (Nat × Array Value × TypeId)} (h : Pq w va X (bs ++ bs') y) : Pq w va X bs y := ⟨h.fm.pre, h.own, h.byt, h.apt⟩
theorem Pq.op {w y : World} {va : Value} {X : List Itm} {bs : List (Nat × Array Value × TypeId)} (h : Pq w va X bs y) : ∃ sp cap, va = .slice sp X.length cap := by
  obtain ⟨sp, cap, e, _⟩ := OwnL.open kItem.len h.own
  rw [List.length_map] at e
  exact ⟨sp, cap, e⟩
theorem RdN.setCell {y : World} {g n b t : Nat} {cs : Array Value} (h : RdN y g n) (hb : Bx y b cs t) (ht : t ≠ 9) (v : Value) : RdN (y.setCell ⟨b, 0, none⟩ v) g n := h.keep fun q o ho hq => by
  refine (heap_setCell_other y ⟨b, 0, none⟩ q v fun e => ?_).trans hq
  subst e
  unfold Bx at hb
  rw [hb] at hq
  injection hq with hq
  rcases ho with ⟨es, c, rfl⟩ | ⟨cs', rfl⟩
  · cases hq
  · injection hq with _ h2 _
    exact ht h2
/-- The block of an owned row, where it is. -/
theorem own_block {y : World} {B t s : Nat} {sp : Option Addr} {m cap n : Nat} {xs : List Value} (h : y.ownsRow B t s (.slice sp m cap) n xs) (a : Addr) (ha : sp = some a) : B ≤ a.block ∧ a.block < y.heap.size := by
  rcases h.2 with ⟨h0, _⟩ | ⟨g, c, cur, hv, hB, hg, _⟩
  · subst ha
    cases h0
  · subst ha
    injection hv with e
    injection e with e
    subst e
    exact ⟨hB, heap_lt hg⟩
theorem op_append {P : Program} {o : Oper} {a : Act} {K : Act → World → Prop} {Q : Exit → Act → World → Prop} {w w' : World} {v u v' : Value} (s x : Operand) (t : TypeId) (ho : o.op = .call { callee := .builtin .append, args := #[s, x], argTypes := #[t, t] }) (hs : a.eval s = v) (hx : a.eval x = u) (hr : (Builtin.append_ #[t, t] o.type #[v, u]).run P w = .ok v' w') (h : K (a.put o.dst v') w') : o.wp P a w K Q := by
  unfold Oper.wp execOp
  simp only [ho, resolve, invoke, builtin, Sem.run_bind, Sem.run_pure, Result.andThen_ok, List.map_toArray, List.map_cons, List.map_nil, hs, hx, hr]
  exact h
theorem fillI (s : Ri) : Instr.fill (fun i => some (i * 6, 6)) ((Array.range (1 * 6)).map ((Value.agg (i6 z0)).cells[· % (Value.agg (i6 z0)).cells.size]!)) [(0, .agg (i6 s))] = some (i6 s) := by kernel_rfl
theorem op_bsI {o : Oper} {a : Act} {w : World} {K : Act → World → Prop} {Q : Exit → Act → World → Prop} (s : Ri) (x : Operand) (ho : o.op = .buildSlice 22 1 #[(0, x)]) (hx : a.eval x = .agg (i6 s))
    (h : K (a.put o.dst (.slice (some ⟨w.heap.size, 0, none⟩) 1 1)) (w.alloc (.cells (i6 s) 39))) : o.wp Tryd.prog a w K Q := by
  obtain ⟨i, hi, hz0, hz1, hz2⟩ := info_parts infoI
  refine wp_buildSlice 22 39 1 #[(0, x)] ho (i6 s) i _ Tryd.underlying22 hi hz0 (by rw [hz1]; decide) (by rw [hz1]; decide) ?_ h
  rw [hz1]
  have e : (#[(0, x)].map fun (i, x) => (i, a.eval x)).toList = [(0, .agg (i6 s))] := by simp [hx]
  rw [e]
  exact fillI s
theorem at_bsI {ops : Array Oper} {rest : List Oper} {o : Oper} {a : Act} {w : World} {Q : Exit → Act → World → Prop} (s : Ri) (x : Operand) (hgd : o.guard = none) (ho : o.op = .buildSlice 22 1 #[(0, x)]) (hx : a.eval x = .agg (i6 s))
    (h : wpList Tryd.prog ops Q rest (a.put o.dst (.slice (some ⟨w.heap.size, 0, none⟩) 1 1)) (w.alloc (.cells (i6 s) 39))) : wpList Tryd.prog ops Q (o :: rest) a w := wpList_plain hgd fun _ hK => op_bsI s x ho hx (hK _ _ h)
/-- One item put behind the others. -/
theorem Pq.app {w y : World} {va : Value} {X : List Itm} {bs : List (Nat × Array Value × TypeId)} (h : Pq w va X bs y) (hb : ∀ (i b : Nat) cs t, bs[i]? = some (b, cs, t) → t ≠ 39) (x : Itm) (hx : y.ownsRow w.heap.size 5 1 (.slice x.1.sp x.1.m x.1.cap) x.2.length (x.2.map byV)) (hap : ∀ (i : Nat) (x' : Itm) (a a' : Addr), X[i]? = some x' → x'.1.sp = some a' → x.1.sp = some a → a.block ≠ a'.block) (hn : X.length ≤ 1000000) :
    ∃ s' k' c' z, (Builtin.append_ #[22, 22] 22 #[va, .slice (some ⟨y.heap.size, 0, none⟩) 1 1]).run Tryd.prog (y.alloc (.cells (i6 x.1) 39)) = .ok (.slice s' k' c') z ∧ Pq w (.slice s' k' c') (X ++ [x]) bs z ∧ (∀ (q : Nat) (o : Obj), (∀ cs, o ≠ Obj.cells cs 39 (0, 0)) → y.heap[q]? = some o → z.heap[q]? = some o) ∧ Below w.heap.size y z := by
  obtain ⟨i, hi, hz0, hz1, hz2⟩ := info_parts infoI
  have hc : ∀ j u', (i6 x.1).toList[j]? = some u' → (y.alloc (.cells (i6 x.1) 39)).cell? ((⟨y.heap.size, 0, none⟩ : Addr).add j) = some u' := fun j u' hj => by
    rw [Addr.add_lit, Nat.zero_add]
    exact Bx.c (alloc_last' y _) j u' (by rw [← Array.getElem?_toList]; exact hj)
  have hnews : ∀ u ∈ (i6 x.1).toList, u.oneCell' = true := kItem.one x.1
  obtain ⟨v', z, hrun, h3, h4, h5⟩ := run_append_own (P := Tryd.prog) (y.alloc (.cells (i6 x.1) 39)) w.heap.size 22 22 39 i (.agg (i6 z0)) 6 80 Tryd.underlying22 hi hz0 hz1 hz2 rfl (by decide) va (X.map (·.1)).length (rowL c6 (X.map (·.1))) (World.ownsRow.alloc h.own _) ⟨y.heap.size, 0, none⟩ 1 1 (i6 x.1).toList rfl hc hnews (by rw [List.length_map]; unfold maxLen; omega) (by rw [List.length_map]; omega) (by have := h.fm.low.size; simp; omega)
  have ho : OwnL 39 6 c6 w.heap.size z v' ((X ++ [x]).map (·.1)) := by
    unfold OwnL
    rw [List.map_append, rowL_app, List.length_append, List.map_cons, List.map_nil, rowL_one]
    exact h3
  have hlow : Below w.heap.size y z := Below.grown ((Below.refl _ _).alloc h.fm.low.size _) h4 (by have := h.fm.low.size; simp; omega) (fun q hq => (World.ownsRow.lt h.own q hq).1)
  have keep : ∀ (q : Nat) (o : Obj), (∀ cs, o ≠ Obj.cells cs 39 (0, 0)) → y.heap[q]? = some o → z.heap[q]? = some o := fun q o hne hq => by
    have h1 := ((below1 y (.cells (i6 x.1) 39)).block q (heap_lt hq)).trans hq
    refine (h4.block q (by have := heap_lt hq; simp; omega) fun e => ?_).trans h1
    obtain ⟨cs', h2⟩ := h.own.ty q e.symm
    unfold Bx at h2
    rw [hq] at h2
    injection h2 with h2
    exact hne cs' h2
  have keepB : ∀ g cs, Bx y g cs 5 → z.heap[g]? = y.heap[g]? := fun g cs hx => (keep g _ (fun cs' e => by injection e with _ e2 _; exact absurd e2 (by decide)) hx).trans hx.symm
  obtain ⟨s', c', e', _⟩ := OwnL.open kItem.len ho
  rw [e'] at hrun ho
  refine ⟨s', _, c', z, hrun, ⟨⟨fun i b cs t e => keep b _ (fun cs' e2 => by injection e2 with _ e3 _; exact hb i b cs t e e3) (h.fm.get i b cs t e), h.fm.ge, h.fm.ne, h.fm.low.trans hlow⟩, ho, fun k x' hk => ?_, fun k l x1 x2 a1 a2 hk hl e1 e2 eb => ?_⟩, keep, hlow⟩
  · rcases Nat.lt_or_ge k X.length with hlt | hge
    · rw [List.getElem?_append_left hlt] at hk
      exact own_ty (h.byt k x' hk) keepB
    · rw [List.getElem?_append_right hge] at hk
      have hk0 : k - X.length = 0 := by
        rcases Nat.eq_zero_or_pos (k - X.length) with h0 | h0
        · exact h0
        · rw [List.getElem?_eq_none (by simp; omega)] at hk; cases hk
      rw [hk0] at hk
      have hk' : x = x' := by simpa using hk
      subst hk'
      exact own_ty hx keepB
  · have last : ∀ (k : Nat) (x' : Itm), (X ++ [x])[k]? = some x' → (k < X.length ∧ X[k]? = some x') ∨ (k = X.length ∧ x' = x) := fun k x' hk => by
      rcases Nat.lt_or_ge k X.length with hlt | hge
      · rw [List.getElem?_append_left hlt] at hk
        exact .inl ⟨hlt, hk⟩
      · rw [List.getElem?_append_right hge] at hk
        rcases Nat.eq_zero_or_pos (k - X.length) with h0 | h0
        · rw [h0] at hk
          have hk' : x = x' := by simpa using hk
          exact .inr ⟨by omega, hk'.symm⟩
        · rw [List.getElem?_eq_none (by simp; omega)] at hk; cases hk
    rcases last k x1 hk with ⟨l1, k1⟩ | ⟨l1, rfl⟩ <;> rcases last l x2 hl with ⟨l2, k2⟩ | ⟨l2, rfl⟩
    · exact h.apt k l x1 x2 a1 a2 k1 k2 e1 e2 eb
    · exact absurd eb.symm (hap k x1 a2 a1 k1 e1 e2)
    · exact absurd eb (hap l x2 a1 a2 k2 e2 e1)
    · omega
def bsI (b0 b1 b2 b3 : Nat) (va : Value) (e p a : Int) : List (Nat × Array Value × TypeId) := [(b0, #[va], 22), (b1, #[.int .i64 e], 26), (b2, #[.int .i64 p], 3), (b3, #[.int .i64 a], 3)]
theorem bsI_ty (b0 b1 b2 b3 : Nat) (va : Value) (e p a : Int) : ∀ (i b : Nat) cs t, (bsI b0 b1 b2 b3 va e p a)[i]? = some (b, cs, t) → t ≠ 39 := fun i b cs t h => by
  have := List.mem_of_getElem? h
  simp [bsI] at this
  rcases this with h | h | h | h <;> (obtain ⟨_, _, rfl⟩ := h; decide)
theorem startI (w : World) : Fm w (bsI w.heap.size (w.heap.size + 1) (w.heap.size + 1 + 1) (w.heap.size + 1 + 1 + 1) (.slice none 0 0) 0 0 0) ((((w.alloc (.cells #[.slice none 0 0] 22)).alloc (.cells #[.int .i64 0] 26)).alloc (.cells #[.int .i64 0] 3)).alloc (.cells #[.int .i64 0] 3)) := by
  have h := ((((Fm.nil w).new #[.slice none 0 0] 22).new #[.int .i64 0] 26).new #[.int .i64 0] 3).new #[.int .i64 0] 3
  simpa [bsI] using h
theorem bsI_ne {w : World} {b0 b1 b2 b3 : Nat} {va : Value} {e p a : Int} {y : World} (h : Fm w (bsI b0 b1 b2 b3 va e p a) y) : b1 ≠ b0 ∧ b2 ≠ b0 ∧ b2 ≠ b1 := by
  refine ⟨fun e' => ?_, fun e' => ?_, fun e' => ?_⟩
  · subst e'; have := h.ne 0 1 b1 _ _ _ _ rfl rfl; omega
  · subst e'; have := h.ne 0 2 b2 _ _ _ _ rfl rfl; omega
  · subst e'; have := h.ne 1 2 b2 _ _ _ _ rfl rfl; omega
theorem Bx.setO {w : World} {b c t : Nat} {cs : Array Value} (h : Bx w b cs t) (v : Value) (hne : b ≠ c) : Bx (w.setCell ⟨c, 0, none⟩ v) b cs t := (heap_setCell_other w ⟨c, 0, none⟩ b v hne).trans h

theorem Lat.word {t : List UInt8} {ls : List (List UInt8)} {x r cur : List UInt8} (h : Lat t ls (x ++ r) cur) (hx : ∀ c ∈ x, c ≠ 10) : Lat t ls r (cur ++ x) := by
  induction x generalizing cur with
  | nil => simpa using h
  | cons c x ih =>
    have h1 := Lat.more (c := c) (r := x ++ r) h (hx c (by simp))
    have := ih h1 (fun d hd => hx d (by simp [hd]))
    rwa [List.append_assoc] at this
theorem Lat.next {t : List UInt8} {ls : List (List UInt8)} {rest own oth : ByteArray} (h : Lat t ls (strL rest) []) (hne : 0 < rest.size) (hc : (own = rest ∧ oth = ⟨#[]⟩ ∧ ∀ x ∈ strL rest, x ≠ 10) ∨ (strL rest = strL own ++ 10 :: strL oth ∧ (∀ x ∈ strL own, x ≠ 10) ∧ own.size + oth.size + 1 = rest.size)) :
    (∀ x, lineO (strL own) = some x → Lat t (ls ++ [strL own]) (strL oth) []) ∧ (lineO (strL own) = none → badO (linesG t []) 1 = some (ls.length + 1)) ∧ own.size ≤ rest.size ∧ oth.size < rest.size := by
  rcases hc with ⟨rfl, rfl, h10⟩ | ⟨h1, h10, h2⟩
  · have hL := Lat.word (x := strL own) (r := []) (by rw [List.append_nil]; exact h) h10
    rw [List.nil_append] at hL
    have hn0 : strL own ≠ [] := fun e => by have := strL_len own; rw [e] at this; simp at this; omega
    exact ⟨fun x hx => hL.last hn0 hx, fun hx => hL.badLast hn0 hx, Nat.le_refl _, hne⟩
  · rw [h1] at h
    have hL := Lat.word h h10
    rw [List.nil_append] at hL
    exact ⟨fun x hx => hL.line hx, fun hx => hL.bad hx, by omega, by omega⟩
end Go.Proofs.YtmaedkbmjbggpaaDoor
/- A source's text read: the program's Parse. -/
namespace Go.Proofs.YtmaedkbmjbggpaaDoor
open Go Go.RowKit
set_option linter.unusedVariables false
set_option maxHeartbeats 8000000
set_option maxRecDepth 20000

theorem catchP (pa pl pe pp : Nat) (at' : Int) (v x z : Value) (older : List PanicEntry) (w : World) (ha : Bx w pa #[.int .i64 at'] 3) (hl : Bx w pl #[v] 22) (he : Bx w pe #[x] 26) (hp : Bx w pp #[z] 3) (n1 : pe ≠ pl) (n2 : pp ≠ pl) (n3 : pp ≠ pe) :
    CallsD Tryd.prog 28 #[.pointer (some ⟨pa, 0, none⟩), .pointer (some ⟨pl, 0, none⟩), .pointer (some ⟨pe, 0, none⟩), .pointer (some ⟨pp, 0, none⟩)] (.panicking ({ v := pv, recovered := false } :: older)) w fun e' u' w' =>
      e' = .returned (.tuple #[]) ∧ u' = .panicking ({ v := pv, recovered := true } :: older) ∧ w' = ((w.setCell ⟨pl, 0, none⟩ (.slice none 0 0)).setCell ⟨pe, 0, none⟩ (.int .i64 131)).setCell ⟨pp, 0, none⟩ (.int .i64 at') := by
  have a0 := ha.c 0 _ rfl
  have l0 := hl.c 0 _ rfl
  have l1 := hl.fz 0
  have e0 := (he.setO (c := pl) (.slice none 0 0) n1).c 0 _ rfl
  have e1 := (he.setO (c := pl) (.slice none 0 0) n1).fz 0
  have p0 := ((hp.setO (c := pl) (.slice none 0 0) n2).setO (c := pe) (.int .i64 131) n3).c 0 _ rfl
  have p1 := ((hp.setO (c := pl) (.slice none 0 0) n2).setO (c := pe) (.int .i64 131) n3).fz 0
  clear ha hl he hp n1 n2 n3
  refine callsD_of_wpS Tryd.func28 rfl fun c₀ cs hu => ?_
  rw [show (#[.pointer (some ⟨pa, 0, none⟩), .pointer (some ⟨pl, 0, none⟩), .pointer (some ⟨pe, 0, none⟩), .pointer (some ⟨pp, 0, none⟩)] ++ Array.replicate (Tryd.f28.ntmps - (#[.pointer (some ⟨pa, 0, none⟩), .pointer (some ⟨pl, 0, none⟩), .pointer (some ⟨pe, 0, none⟩), .pointer (some ⟨pp, 0, none⟩)] : Array Value).size) undef : Array Value) = #[.pointer (some ⟨pa, 0, none⟩), .pointer (some ⟨pl, 0, none⟩), .pointer (some ⟨pe, 0, none⟩), .pointer (some ⟨pp, 0, none⟩), undef, undef, undef] from by rw [Tryd.ntmps28]; rfl]
  refine wpS_rec (v := pv) (cs' := { c₀ with mode := .panicking ({ v := pv, recovered := true } :: older) } :: cs) rfl (by kernel_rfl) (by rfl) (.inl (by simp [recoverD, hu, pv])) ?_
  unfold pv
  go_simp
  go_wp2
  exact ⟨rfl, _, rfl, .tuple #[], by simp [results, Tryd.results28], rfl, rfl, rfl⟩
theorem restP (pa pl pe pp : Nat) (w : World) :
    CallsD Tryd.prog 28 #[.pointer (some ⟨pa, 0, none⟩), .pointer (some ⟨pl, 0, none⟩), .pointer (some ⟨pe, 0, none⟩), .pointer (some ⟨pp, 0, none⟩)] .returning w fun e' u' w' => e' = .returned (.tuple #[]) ∧ u' = .returning ∧ w' = w := by
  refine callsD_of_wpS Tryd.func28 rfl fun c₀ cs hu => ?_
  rw [show (#[.pointer (some ⟨pa, 0, none⟩), .pointer (some ⟨pl, 0, none⟩), .pointer (some ⟨pe, 0, none⟩), .pointer (some ⟨pp, 0, none⟩)] ++ Array.replicate (Tryd.f28.ntmps - (#[.pointer (some ⟨pa, 0, none⟩), .pointer (some ⟨pl, 0, none⟩), .pointer (some ⟨pe, 0, none⟩), .pointer (some ⟨pp, 0, none⟩)] : Array Value).size) undef : Array Value) = #[.pointer (some ⟨pa, 0, none⟩), .pointer (some ⟨pl, 0, none⟩), .pointer (some ⟨pe, 0, none⟩), .pointer (some ⟨pp, 0, none⟩), undef, undef, undef] from by rw [Tryd.ntmps28]; rfl]
  refine wpS_rec (v := .nilIface) (cs' := c₀ :: cs) rfl (by kernel_rfl) (by rfl) (.inr ⟨by simp [recoverD, hu], rfl, rfl⟩) ?_
  go_simp
  go_wp2
  refine ⟨rfl, .returning, ?_, .tuple #[], by simp [results, Tryd.results28], rfl, rfl, rfl⟩
  cases c₀
  simp_all
theorem Leaves.cong {P : Program} {fn : Func} {R : Ending → World → Prop} {t t' : Array Value} (h : results fn t = results fn t') : ∀ (ds : List Deferred) (u : FrameMode) (w : World), Leaves P fn t R ds u w → Leaves P fn t' R ds u w
  | [], .returning, w, hl => by
    obtain ⟨v, h1, h2⟩ := hl
    exact ⟨v, h ▸ h1, h2⟩
  | [], .panicking chain, w, hl => hl
  | [], .run, w, hl => hl
  | d :: ds, u, w, hl => by
    obtain ⟨h0, fv, cap, f, args, h1, h2, h3⟩ := hl
    refine ⟨h0, fv, cap, f, args, h1, h2, h3.mono ?_⟩
    intro e u' w' he
    cases e with
    | returned v => exact Leaves.cong h ds _ _ he
    | panicked c => exact Leaves.cong h ds _ _ he
    | outgrown => exact he
theorem res_put (t : Array Value) (d : Nat) (v : Value) (hd : 4 < d) : results Tryd.f15 (t.setIfInBounds d v) = results Tryd.f15 t := by
  have e : ∀ k, k ≤ 4 → (t.setIfInBounds d v)[k]?.getD undef = t[k]?.getD undef := fun k hk => by
    rw [Array.getElem?_setIfInBounds_ne (by omega)]
  unfold results
  rw [Tryd.results15]
  simp [e 2 (by omega), e 3 (by omega), e 4 (by omega)]
theorem Fm.caught {w y : World} {b0 b1 b2 b3 : Nat} {va : Value} {e p a : Int} (h : Fm w (bsI b0 b1 b2 b3 va e p a) y) (E A : Int) :
    (((y.setCell ⟨b0, 0, none⟩ (.slice none 0 0)).setCell ⟨b1, 0, none⟩ (.int .i64 E)).setCell ⟨b2, 0, none⟩ (.int .i64 A)).cell? ⟨b0, 0, none⟩ = some (.slice none 0 0) ∧
    (((y.setCell ⟨b0, 0, none⟩ (.slice none 0 0)).setCell ⟨b1, 0, none⟩ (.int .i64 E)).setCell ⟨b2, 0, none⟩ (.int .i64 A)).cell? ⟨b1, 0, none⟩ = some (.int .i64 E) ∧
    (((y.setCell ⟨b0, 0, none⟩ (.slice none 0 0)).setCell ⟨b1, 0, none⟩ (.int .i64 E)).setCell ⟨b2, 0, none⟩ (.int .i64 A)).cell? ⟨b2, 0, none⟩ = some (.int .i64 A) ∧
    Pq w (.slice none 0 0) [] [] (((y.setCell ⟨b0, 0, none⟩ (.slice none 0 0)).setCell ⟨b1, 0, none⟩ (.int .i64 E)).setCell ⟨b2, 0, none⟩ (.int .i64 A)) := by
  have L : Fm w (bsI b0 b1 b2 b3 (.slice none 0 0) E A a) (((y.setCell ⟨b0, 0, none⟩ (.slice none 0 0)).setCell ⟨b1, 0, none⟩ (.int .i64 E)).setCell ⟨b2, 0, none⟩ (.int .i64 A)) :=
    ((h.setCell 0 b0 _ #[.slice none 0 0] _ rfl 0 _ rfl).setCell 1 b1 _ #[.int .i64 E] _ rfl 0 _ rfl).setCell 2 b2 _ #[.int .i64 A] _ rfl 0 _ rfl
  exact ⟨(L.bx 0 _ _ _ rfl).c 0 _ rfl, (L.bx 1 _ _ _ rfl).c 0 _ rfl, (L.bx 2 _ _ _ rfl).c 0 _ rfl, Pq.nil0 (L.pre (l := []))⟩
/-- What a text leaves. -/
def PaE (w : World) (text : ByteArray) (e : Ending) (w' : World) : Prop := ∃ v X, e = .returned (.tuple #[v, .int .i64 (srcE text), .int .i64 (srcN text)]) ∧ Hid (Pq w v X [] w' ∧ X.map pu = srcL text)
theorem parse_long (w : World) (T : Hid (Tw w)) (text : ByteArray) (hs : text.size ≤ 9223372036854775807) (hbig : 65536 < text.size) : Calls Tryd.prog 15 #[.string text] w (PaE w text) := by
  have hmf : ∀ (fn : Fn) (first cap : Array Value) (w : World), (Instr.makeFunc fn first cap).run Tryd.prog w = .ok (.func fn first cap) w := fun _ _ _ _ => rfl
  have hS : Hid _ := startI w
  have si : (text.size : Int) ≤ 9223372036854775807 := by omega
  obtain ⟨e1, e2, e3⟩ := src_long hbig
  unfold PaE
  rw [e1, e2, e3]
  have q : decide ((65536 : Int) < text.size) = true := by simp; omega
  clear hbig hs e1 e2 e3
  go_enter_defers Tryd.func15, Tryd.ntmps15
  go_wp2
  refine leaves_cons (f := 28) (args := #[.pointer (some ⟨w.heap.size + 1 + 1 + 1, 0, none⟩), .pointer (some ⟨w.heap.size, 0, none⟩), .pointer (some ⟨w.heap.size + 1, 0, none⟩), .pointer (some ⟨w.heap.size + 1 + 1, 0, none⟩)]) (by simp) (by simp [go_sem]) ?_
  refine (restP _ _ _ _ _).mono ?_
  rintro e u' w' ⟨rfl, rfl, rfl⟩
  have Fx : Fm w [(w.heap.size, #[.slice none 0 0], 22), (w.heap.size + 1, #[.int .i64 2], 26), (w.heap.size + 1 + 1, #[.int .i64 0], 3), (w.heap.size + 1 + 1 + 1, #[.int .i64 0], 3)] ((((w.alloc (.cells #[.slice none 0 0] 22)).alloc (.cells #[.int .i64 2] 26)).alloc (.cells #[.int .i64 0] 3)).alloc (.cells #[.int .i64 0] 3)) := by
    have h := ((((Fm.nil w).new #[.slice none 0 0] 22).new #[.int .i64 2] 26).new #[.int .i64 0] 3).new #[.int .i64 0] 3
    simpa using h
  have r1 := (Fx.bx 0 _ _ _ rfl).c 0 _ rfl
  have r2 := (Fx.bx 1 _ _ _ rfl).c 0 _ rfl
  have r3 := (Fx.bx 2 _ _ _ rfl).c 0 _ rfl
  have fin2 : Hid (Pq w (.slice none 0 0) [] [] _) := Pq.nil0 (Fx.pre (l := []))
  clear Fx
  generalize (((w.alloc (.cells #[.slice none 0 0] 22)).alloc (.cells #[.int .i64 2] 26)).alloc (.cells #[.int .i64 0] 3)).alloc (.cells #[.int .i64 0] 3) = W at r1 r2 r3 fin2 ⊢
  simp [Leaves, settle, results, Tryd.results15, go_sem, r1, r2, r3]
  exact ⟨[], fin2.out, rfl⟩
theorem pparse_any (w : World) (T : Hid (Tw w)) (text : ByteArray) (hs : text.size ≤ 9223372036854775807) : Calls Tryd.prog 15 #[.string text] w (PaE w text) := by
  by_cases hbig : 65536 < text.size
  · exact parse_long w T text hs hbig
  have hmf : ∀ (fn : Fn) (first cap : Array Value) (w : World), (Instr.makeFunc fn first cap).run Tryd.prog w = .ok (.func fn first cap) w := fun _ _ _ _ => rfl
  have hS : Hid _ := startI w
  have si : (text.size : Int) ≤ 9223372036854775807 := by omega
  have q : decide ((65536 : Int) < text.size) = false := by simp; omega
  have hsz : Hid (¬ 65536 < text.size) := hbig
  have hrd : Hid (∀ v, Below w.heap.size w v → Calls Tryd.prog 29 #[] v fun e w' => ∃ g, e = .returned (.map (some g)) ∧ Hid (Rd w' g ∧ Below v.heap.size v w')) := fun v hv => readers_any v (T.out.below hv)
  clear hbig hs
  go_enter_defers Tryd.func15, Tryd.ntmps15
  go_wp2_with (go_at_call 29; refine (hrd.out _ hS.out.low).mono ?_; rintro e y1 ⟨g, rfl, H1⟩; have K1 : Hid (Fm w (bsI w.heap.size (w.heap.size + 1) (w.heap.size + 1 + 1) (w.heap.size + 1 + 1 + 1) (.slice none 0 0) 0 0 0) y1) := hS.out.below H1.out.2; have R1 : Hid (Rd y1 g) := H1.out.1; clear H1; refine stopAt ?_)
  refine Stop.go ?_
  obtain ⟨b0, q0⟩ : ∃ b, w.heap.size = b := ⟨_, rfl⟩
  obtain ⟨b1, q1⟩ : ∃ b, w.heap.size + 1 = b := ⟨_, rfl⟩
  obtain ⟨b2, q2⟩ : ∃ b, w.heap.size + 1 + 1 = b := ⟨_, rfl⟩
  obtain ⟨b3, q3⟩ : ∃ b, w.heap.size + 1 + 1 + 1 = b := ⟨_, rfl⟩
  rw [q3, q2, q1] at K1 ⊢
  have K0 : Hid (Pq w (.slice none 0 0) [] (bsI b0 b1 b2 b3 (.slice none 0 0) 0 0 0) y1) := by rw [← q0]; exact Pq.nil0 K1.out
  rw [q0]
  clear K1 hS q0 q1 q2 q3 si q
  go_wp2
  go_loopw [7] (fun t wz => ∃ (i : Nat) (ls : List (List UInt8)) (rest : ByteArray) (va : Value) (X : List Itm) (y : World), y = wz ∧ t = .string rest ∧ Hid (i + rest.size ≤ 65536 ∧ X.length ≤ i ∧ Lat (strL text) ls (strL rest) [] ∧ ls.length = i ∧ X.map pu = itemsO ls) ∧ Hid (Pq w va X (bsI b0 b1 b2 b3 va 0 0 i) y ∧ Rd y g)) (fun t _ => match t with | .string s => s.size | _ => 0)
  case atStart => exact ⟨0, [], text, _, [], y1, rfl, rfl, ⟨by have := hsz.out; omega, Nat.le_refl _, Lat.start _, rfl, rfl⟩, K0.out, R1.out⟩
  case round =>
    obtain ⟨i, ls, rest, va, X, y, rfl, rfl, J, K⟩ := hrel
    have ii : (i : Int) ≤ 65536 := by have := J.out.1; omega
    have d3 := (K.out.1.fm.bx 3 _ _ _ rfl).c 0 _ rfl
    have f3' := (K.out.1.fm.bx 3 _ _ _ rfl).fz 0
    by_cases hz : rest.size = 0
    · obtain rfl := size_zero hz
      have hd := src_done hsz.out (show Lat (strL text) ls [] [] from J.out.2.2.1)
      have hlen : (itemsO ls).length = X.length := by rw [← J.out.2.2.2.2, List.length_map]
      rw [hlen] at hd
      have hXl : Hid (X.length ≤ 65536) := by have := J.out; show _ ≤ _; omega
      obtain ⟨s3, c3, hva⟩ := K.out.1.op
      obtain ⟨k3, hk3⟩ : ∃ k, X.length = k := ⟨_, rfl⟩
      rw [hk3] at hva
      subst hva
      have ki : (k3 : Int) ≤ 65536 := by have := hXl.out; omega
      have c0 := (K.out.1.fm.bx 0 _ _ _ rfl).c 0 _ rfl
      have g0 := (K.out.1.fm.bx 0 _ _ _ rfl).fz 0
      by_cases h4 : 4096 < X.length
      · have fin : Hid (srcE text = 2 ∧ srcN text = 0 ∧ srcL text = []) := ⟨(hd.2.1 h4).1, hd.1, (hd.2.1 h4).2⟩
        have q4 : decide ((4096 : Int) < k3) = true := by simp; omega
        clear hz d3 f3' hd h4 hk3 hlen
        have L1 : Hid (Pq w (.slice s3 k3 c3) X (bsI b0 b1 b2 b3 (.slice none 0 0) 0 0 i) (y.setCell ⟨b0, 0, none⟩ (.slice none 0 0))) := K.out.1.setCell 0 b0 _ #[(.slice none 0 0)] _ rfl (by decide) 0 _ rfl
        have c1 := (L1.out.fm.bx 1 _ _ _ rfl).c 0 _ rfl
        have g1 := (L1.out.fm.bx 1 _ _ _ rfl).fz 0
        have L2 : Hid (Pq w (.slice s3 k3 c3) X (bsI b0 b1 b2 b3 (.slice none 0 0) 2 0 i) ((y.setCell ⟨b0, 0, none⟩ (.slice none 0 0)).setCell ⟨b1, 0, none⟩ (.int .i64 2))) := L1.out.setCell 1 b1 _ #[.int .i64 2] _ rfl (by decide) 0 _ rfl
        have c2 := (L2.out.fm.bx 2 _ _ _ rfl).c 0 _ rfl
        have g2 := (L2.out.fm.bx 2 _ _ _ rfl).fz 0
        have L3 : Hid (Pq w (.slice s3 k3 c3) X (bsI b0 b1 b2 b3 (.slice none 0 0) 2 0 i) (((y.setCell ⟨b0, 0, none⟩ (.slice none 0 0)).setCell ⟨b1, 0, none⟩ (.int .i64 2)).setCell ⟨b2, 0, none⟩ (.int .i64 0))) := L2.out.setCell 2 b2 _ #[.int .i64 0] _ rfl (by decide) 0 _ rfl
        have r1 := (L3.out.fm.bx 0 _ _ _ rfl).c 0 _ rfl
        have r2 := (L3.out.fm.bx 1 _ _ _ rfl).c 0 _ rfl
        have r3 := (L3.out.fm.bx 2 _ _ _ rfl).c 0 _ rfl
        have r4 : Hid (Pq w (.slice none 0 0) [] [] (((y.setCell ⟨b0, 0, none⟩ (.slice none 0 0)).setCell ⟨b1, 0, none⟩ (.int .i64 2)).setCell ⟨b2, 0, none⟩ (.int .i64 0))) := Pq.nil0 (L3.out.fm.pre (l := []))
        clear L1 L2 L3
        go_wp2
        refine leaves_cons (f := 28) (args := #[.pointer (some ⟨b3, 0, none⟩), .pointer (some ⟨b0, 0, none⟩), .pointer (some ⟨b1, 0, none⟩), .pointer (some ⟨b2, 0, none⟩)]) (by simp) (by simp [go_sem]) ?_
        refine (restP _ _ _ _ _).mono ?_
        rintro e u' w' ⟨rfl, rfl, rfl⟩
        unfold PaE
        rw [fin.out.1, fin.out.2.1, fin.out.2.2]
        simp [Leaves, settle, results, Tryd.results15, go_sem, r1, r2, r3]
        exact ⟨[], r4.out, rfl⟩
      · have fin : Hid (srcE text = 0 ∧ srcN text = 0 ∧ srcL text = itemsO ls) := ⟨(hd.2.2 h4).1, hd.1, (hd.2.2 h4).2⟩
        have q4 : decide ((4096 : Int) < k3) = false := by simp; omega
        have hXp : Hid (X.map pu = itemsO ls) := J.out.2.2.2.2
        clear hz d3 f3' hd h4 hk3 hlen
        have L1 : Hid (Pq w (.slice s3 k3 c3) X (bsI b0 b1 b2 b3 (.slice s3 k3 c3) 0 0 i) (y.setCell ⟨b0, 0, none⟩ (.slice s3 k3 c3))) := K.out.1.setCell 0 b0 _ #[(.slice s3 k3 c3)] _ rfl (by decide) 0 _ rfl
        have c1 := (L1.out.fm.bx 1 _ _ _ rfl).c 0 _ rfl
        have g1 := (L1.out.fm.bx 1 _ _ _ rfl).fz 0
        have L2 : Hid (Pq w (.slice s3 k3 c3) X (bsI b0 b1 b2 b3 (.slice s3 k3 c3) 0 0 i) ((y.setCell ⟨b0, 0, none⟩ (.slice s3 k3 c3)).setCell ⟨b1, 0, none⟩ (.int .i64 0))) := L1.out.setCell 1 b1 _ #[.int .i64 0] _ rfl (by decide) 0 _ rfl
        have c2 := (L2.out.fm.bx 2 _ _ _ rfl).c 0 _ rfl
        have g2 := (L2.out.fm.bx 2 _ _ _ rfl).fz 0
        have L3 : Hid (Pq w (.slice s3 k3 c3) X (bsI b0 b1 b2 b3 (.slice s3 k3 c3) 0 0 i) (((y.setCell ⟨b0, 0, none⟩ (.slice s3 k3 c3)).setCell ⟨b1, 0, none⟩ (.int .i64 0)).setCell ⟨b2, 0, none⟩ (.int .i64 0))) := L2.out.setCell 2 b2 _ #[.int .i64 0] _ rfl (by decide) 0 _ rfl
        have r1 := (L3.out.fm.bx 0 _ _ _ rfl).c 0 _ rfl
        have r2 := (L3.out.fm.bx 1 _ _ _ rfl).c 0 _ rfl
        have r3 := (L3.out.fm.bx 2 _ _ _ rfl).c 0 _ rfl
        have r4 : Hid (Pq w (.slice s3 k3 c3) X [] (((y.setCell ⟨b0, 0, none⟩ (.slice s3 k3 c3)).setCell ⟨b1, 0, none⟩ (.int .i64 0)).setCell ⟨b2, 0, none⟩ (.int .i64 0))) := L3.out.pre (bs := [])
        clear L1 L2 L3
        go_wp2
        refine leaves_cons (f := 28) (args := #[.pointer (some ⟨b3, 0, none⟩), .pointer (some ⟨b0, 0, none⟩), .pointer (some ⟨b1, 0, none⟩), .pointer (some ⟨b2, 0, none⟩)]) (by simp) (by simp [go_sem]) ?_
        refine (restP _ _ _ _ _).mono ?_
        rintro e u' w' ⟨rfl, rfl, rfl⟩
        unfold PaE
        rw [fin.out.1, fin.out.2.1, fin.out.2.2]
        simp [Leaves, settle, results, Tryd.results15, go_sem, r1, r2, r3]
        exact ⟨X, r4.out, hXp.out⟩
    · have qe : rest.toList.isEmpty = false := emp_no hz
      have hpos : Hid (0 < rest.size) := by show 0 < _; omega
      have hrz : Hid (rest.size ≤ 65536) := by have := J.out.1; show _ ≤ _; omega
      have hcut : Hid (∀ z, Below w.heap.size w z → Calls Tryd.prog 30 #[.string rest, .string ⟨#[10]⟩] z fun e w' => ∃ a b f, e = .returned (.tuple #[.string a, .string b, .bool f]) ∧ Hid ((a = rest ∧ b = ⟨#[]⟩ ∧ (∀ x ∈ strL rest, x ≠ 10)) ∨ (strL rest = strL a ++ 10 :: strL b ∧ (∀ x ∈ strL a, x ≠ 10) ∧ a.size + b.size + 1 = rest.size)) ∧ Hid (Below z.heap.size z w')) := fun z hz => cutc_any z (T.out.below hz) 10 rest (by have := hrz.out; omega)
      have K1 : Hid (Pq w va X (bsI b0 b1 b2 b3 va 0 0 ((i : Int) + 1)) (y.setCell ⟨b3, 0, none⟩ (.int .i64 ((i : Int) + 1))) ∧ Rd (y.setCell ⟨b3, 0, none⟩ (.int .i64 ((i : Int) + 1))) g) := ⟨K.out.1.setCell 3 b3 _ #[.int .i64 ((i : Int) + 1)] _ rfl (by decide) 0 _ rfl, K.out.2.setCell (K.out.1.fm.bx 3 _ _ _ rfl) (by decide) _⟩
      have hwo : Hid (∀ (z : World) (a : ByteArray), Below w.heap.size w z → a.size ≤ 65536 → Calls Tryd.prog 31 #[.string a] z fun e w' => ∃ A, e = .returned (.slice (some ⟨A, 0, none⟩) (wordsA (strL a)).length (wordsA (strL a)).length) ∧ Hid (KT z (.slice (some ⟨A, 0, none⟩) (wordsA (strL a)).length (wordsA (strL a)).length) (wordsA (strL a)) w')) := fun z a hz ha => words_any z (T.out.below hz) a (by omega)
      clear hz
      go_wp2_with (first
        | ((with_reducible refine gen_world (y.setCell ⟨b3, 0, none⟩ (.int .i64 ((i : Int) + 1))) (fun z => Pq w va X (bsI b0 b1 b2 b3 va 0 0 ((i : Int) + 1)) z ∧ Rd z g) ?_ ?_); exact K1.out; intro y2 K2)
        | (go_at_call 30; refine (hcut.out y2 K2.out.1.fm.low).mono ?_; rintro e y2b ⟨own, oth, fd, rfl, H3, B3⟩; have K2b : Hid (Pq w va X (bsI b0 b1 b2 b3 va 0 0 ((i : Int) + 1)) y2b ∧ Rd y2b g) := ⟨K2.out.1.below B3.out, K2.out.2.below B3.out⟩; have hN := Lat.next J.out.2.2.1 hpos.out H3.out; have hown : Hid (own.size ≤ 65536) := Nat.le_trans hN.2.2.1 hrz.out; replace hN : Hid _ := hN)
        | (go_at_call 31; refine (hwo.out y2b own K2b.out.1.fm.low hown.out).mono ?_; rintro e y3 ⟨A, rfl, H4⟩; have K3 : Hid (Pq w va X (bsI b0 b1 b2 b3 va 0 0 ((i : Int) + 1)) y3 ∧ Rd y3 g) := ⟨K2b.out.1.below H4.out.2, K2b.out.2.below H4.out.2⟩; refine stopAt ?_))
      refine Stop.go ?_
      have hoth : Hid (oth.size < rest.size) := hN.out.2.2.2
      obtain ⟨ws, hws⟩ : ∃ ws, wordsA (strL own) = ws := ⟨_, rfl⟩
      rw [hws] at H4 ⊢
      clear d3 f3' K1 qe
      by_cases hw0 : ws = []
      · -- a line without words
        have hline : lineO (strL own) = some [] := by unfold lineO; rw [hws, if_pos hw0]
        have J2 : Hid (i + 1 + oth.size ≤ 65536 ∧ X.length ≤ i + 1 ∧ Lat (strL text) (ls ++ [strL own]) (strL oth) [] ∧ (ls ++ [strL own]).length = i + 1 ∧ X.map pu = itemsO (ls ++ [strL own])) := by
          have h1 := J.out
          have h2 := hoth.out
          refine ⟨by omega, by omega, hN.out.1 _ hline, by rw [List.length_append, h1.2.2.2.1]; rfl, ?_⟩
          rw [itemsO_app, itemsO_one, hline, h1.2.2.2.2]
          simp
        subst hw0
        clear hline hws
        go_wp2
        go_roundw
        case rel => exact ⟨i + 1, ls ++ [strL own], oth, _, X, _, rfl, rfl, J2, by have h := K3.out; rw [show ((i : Int) + 1) = ((i + 1 : Nat) : Int) by push_cast; rfl] at h; exact h⟩
        case measure => have := hoth.out; simp; omega
      · have hLw : Hid (LiesT y3 (some ⟨A, 0, none⟩) ws ∧ A < y3.heap.size ∧ ws ≠ []) := by
          obtain ⟨sp', cap', e', hl'⟩ := H4.out.open
          injection e' with e1 e2 e3
          subst e1
          refine ⟨hl', ?_, hw0⟩
          rcases hx : ws with _ | ⟨x, r⟩
          · exact absurd hx hw0
          · obtain ⟨g', e', c⟩ := hl' 0 x (by rw [hx]; rfl)
            cases e'
            exact World.block_lt_of_cell? y3 _ c
        have hrl : Hid (∀ z, Below w.heap.size w z → Rd z g → LiesT z (some ⟨A, 0, none⟩) ws → Calls Tryd.prog 32 #[.map (some g), .string own, .slice (some ⟨A, 0, none⟩) ws.length ws.length] z (RdE z (itemO (frontL (strL own)) ws))) := fun z hz hr hl => readline_any z (T.out.below hz) g hr own (by have := hown.out; omega) A ws hws.symm hw0 hl
        have hXl : Hid (X.length ≤ 65536) := by have := J.out; show _ ≤ _; omega
        obtain ⟨s3, c3, hva⟩ := K3.out.1.op
        obtain ⟨k3, hk3⟩ : ∃ k, X.length = k := ⟨_, rfl⟩
        rw [hk3] at hva
        subst hva
        obtain ⟨n, hn⟩ : ∃ n, ws.length = n := ⟨_, rfl⟩
        have hn0 : (0 : Int) < n := by
          have : 0 < ws.length := List.length_pos_iff.2 hw0
          omega
        rw [hn] at hrl ⊢
        have hlineE : lineO (strL own) = match itemO (frontL (strL own)) ws with | none => none | some q => some [q] := by unfold lineO; rw [hws, if_neg hw0]; rcases itemO (frontL (strL own)) ws with _ | q <;> rfl
        rcases ho : itemO (frontL (strL own)) ws with _ | q
        · rw [ho] at hrl hlineE
          have fin : Hid (srcE text = 131 ∧ srcN text = (i : Int) + 1 ∧ srcL text = []) := by
            have h1 := src_bad hsz.out (hN.out.2.1 hlineE)
            rw [J.out.2.2.2.1] at h1
            exact ⟨h1.1, by rw [h1.2.1]; push_cast; rfl, h1.2.2⟩
          clear ho hlineE hws hw0 hk3 hn
          go_wp2
          refine wp_region_held_drew (S := fun z => (Pq w (.slice s3 k3 c3) X (bsI b0 b1 b2 b3 (.slice s3 k3 c3) 0 0 ((i : Int) + 1)) z ∧ Rd z g) ∧ LiesT z (some ⟨A, 0, none⟩) ws) (by kernel_rfl) ⟨⟨K3.out.1.below (below_drew (Below.refl _ _)), K3.out.2.below (below_drew (Below.refl _ _))⟩, hLw.out.1.below (below_drew (Below.refl _ _))⟩ (fun hH => ?_)
          generalize y3.drew = z0 at hH ⊢
          refine wpAnyH_take (i := 0) (v := (.slice s3 k3 c3)) rfl (by kernel_rfl) (by kernel_rfl) (by kernel_rfl) (fun _ a _ h => Leaves.cong (res_put a.tmps _ _ (by decide)) _ _ _ h) (.inl ⟨by kernel_rfl, fun u hu => by have c := (hu.1.1.fm.bx 0 _ _ _ rfl).c 0 _ rfl; go_simp⟩) hH ?_
          try simp only [Act.put, List.setIfInBounds_toArray]
          refine wpAnyH_take (i := 1) (v := .map (some g)) rfl (by kernel_rfl) (by kernel_rfl) (by kernel_rfl) (fun _ a _ h => Leaves.cong (res_put a.tmps _ _ (by decide)) _ _ _ h) (.inl ⟨by kernel_rfl, fun u hu => by go_simp⟩) hH ?_
          try simp only [Act.put]
          refine wpAnyH_take (i := 2) (v := .string own) rfl (by kernel_rfl) (by kernel_rfl) (by kernel_rfl) (fun _ a _ h => Leaves.cong (res_put a.tmps _ _ (by decide)) _ _ _ h) (.inl ⟨by kernel_rfl, fun u hu => by go_simp⟩) hH ?_
          try simp only [Act.put]
          refine wpAnyH_take (i := 3) (v := .slice (some ⟨A, 0, none⟩) n n) rfl (by kernel_rfl) (by kernel_rfl) (by kernel_rfl) (fun _ a _ h => Leaves.cong (res_put a.tmps _ _ (by decide)) _ _ _ h) (.inl ⟨by kernel_rfl, fun u hu => by go_simp⟩) hH ?_
          try simp only [Act.put]
          refine wpAnyH_ready (rs := [4]) (by kernel_rfl) (by simp) (AllReadyH.cons rfl (fun K hK => ?_) AllReadyH.nil)
          rw [if_pos (by rfl)]
          have U0 : Hid _ := hH
          go_wp2_with (go_at_call 32; refine (hrl.out z0 U0.out.1.1.fm.low U0.out.1.2 U0.out.2).mono ?_; rintro e y5 ⟨rfl, H5⟩; have K5 : Hid (Fm w (bsI b0 b1 b2 b3 (.slice s3 k3 c3) 0 0 ((i : Int) + 1)) y5) := U0.out.1.1.fm.below H5)
          refine leaves_cons (f := 28) (args := #[.pointer (some ⟨b3, 0, none⟩), .pointer (some ⟨b0, 0, none⟩), .pointer (some ⟨b1, 0, none⟩), .pointer (some ⟨b2, 0, none⟩)]) (by simp) (by simp [go_sem]) ?_
          refine (catchP b3 b0 b1 b2 ((i : Int) + 1) _ _ _ [] _ (K5.out.bx 3 _ _ _ rfl) (K5.out.bx 0 _ _ _ rfl) (K5.out.bx 1 _ _ _ rfl) (K5.out.bx 2 _ _ _ rfl) (bsI_ne K5.out).1 (bsI_ne K5.out).2.1 (bsI_ne K5.out).2.2).mono ?_
          rintro e u' w' ⟨rfl, rfl, rfl⟩
          obtain ⟨r1, r2, r3, r4⟩ := K5.out.caught 131 ((i : Int) + 1)
          replace r4 : Hid _ := r4
          unfold PaE
          rw [fin.out.1, fin.out.2.1, fin.out.2.2]
          simp [Leaves, settle, results, Tryd.results15, go_sem, r1, r2, r3]
          exact ⟨[], r4.out, rfl⟩
        · rw [ho] at hrl hlineE
          have J3 : ∀ sp5 cap5, Hid (i + 1 + oth.size ≤ 65536 ∧ (X ++ [(q.ri sp5 cap5, q.b)]).length ≤ i + 1 ∧ Lat (strL text) (ls ++ [strL own]) (strL oth) [] ∧ (ls ++ [strL own]).length = i + 1 ∧ (X ++ [(q.ri sp5 cap5, q.b)]).map pu = itemsO (ls ++ [strL own])) := fun sp5 cap5 => by
            have h1 := J.out
            have h2 := hoth.out
            refine ⟨by omega, by simp; omega, hN.out.1 _ hlineE, by rw [List.length_append, h1.2.2.2.1]; rfl, ?_⟩
            rw [itemsO_app, itemsO_one, hlineE, List.map_append, h1.2.2.2.2]
            rfl
          have J3' : Hid _ := J3
          clear ho hlineE hws hw0 hk3 hn J3
          have J3 := J3'.out
          replace J3 : Hid _ := J3
          go_wp2
          refine wp_region_held_drew (S := fun _ => True) (by kernel_rfl) trivial (fun hH => ?_)
          have U0 : Hid (Pq w (.slice s3 k3 c3) X (bsI b0 b1 b2 b3 (.slice s3 k3 c3) 0 0 ((i : Int) + 1)) y3.drew ∧ Rd y3.drew g) := ⟨K3.out.1.below (below_drew (Below.refl _ _)), K3.out.2.below (below_drew (Below.refl _ _))⟩
          have Lz : Hid (LiesT y3.drew (some ⟨A, 0, none⟩) ws) := hLw.out.1.below (below_drew (Below.refl _ _))
          generalize y3.drew = z0 at U0 Lz ⊢
          refine wpAnyH_take (i := 1) (v := .map (some g)) rfl (by kernel_rfl) (by kernel_rfl) (by kernel_rfl) (fun _ a _ h => Leaves.cong (res_put a.tmps _ _ (by decide)) _ _ _ h) (.inl ⟨by kernel_rfl, fun u hu => by go_simp⟩) hH ?_
          try simp only [Act.put, List.setIfInBounds_toArray]
          refine wpAnyH_take (i := 2) (v := .string own) rfl (by kernel_rfl) (by kernel_rfl) (by kernel_rfl) (fun _ a _ h => Leaves.cong (res_put a.tmps _ _ (by decide)) _ _ _ h) (.inl ⟨by kernel_rfl, fun u hu => by go_simp⟩) hH ?_
          try simp only [Act.put]
          refine wpAnyH_take (i := 3) (v := .slice (some ⟨A, 0, none⟩) n n) rfl (by kernel_rfl) (by kernel_rfl) (by kernel_rfl) (fun _ a _ h => Leaves.cong (res_put a.tmps _ _ (by decide)) _ _ _ h) (.inl ⟨by kernel_rfl, fun u hu => by go_simp⟩) hH ?_
          try simp only [Act.put]
          refine wpAnyH_ready (rs := [0, 4]) (by kernel_rfl) (by simp) (AllReadyH.cons rfl (fun K hK => ?_) (AllReadyH.cons rfl (fun K hK => ?_) AllReadyH.nil))
          · rw [if_pos (by rfl)]
            have c0 := (U0.out.1.fm.bx 0 _ _ _ rfl).c 0 _ rfl
            go_wp2
            refine hK.out _ _ trivial (fun _ => ?_)
            clear hK K c0
            try simp only [Act.put, List.setIfInBounds_toArray, List.set_cons_zero, List.set_cons_succ]
            refine wpAnyH_ready (rs := [4]) (by kernel_rfl) (by simp) (AllReadyH.cons rfl (fun K hK => ?_) AllReadyH.nil)
            rw [if_pos (by rfl)]
            go_wp2_with (go_at_call 32; refine (hrl.out z0 U0.out.1.fm.low U0.out.2 Lz.out).mono ?_; rintro e y5 ⟨sp5, cap5, rfl, H5, B5⟩; refine stopAt ?_)
            refine Stop.go ?_
            have K5 : Hid (Pq w (.slice s3 k3 c3) X (bsI b0 b1 b2 b3 (.slice s3 k3 c3) 0 0 ((i : Int) + 1)) y5 ∧ Rd y5 g) := ⟨U0.out.1.below B5, U0.out.2.below B5⟩
            obtain ⟨s4, k4, c4, y12, hrun, H12, keep, low12⟩ := K5.out.1.app (bsI_ty _ _ _ _ _ _ _ _) (q.ri sp5 cap5, q.b) (own_weak H5 U0.out.1.fm.low.size) (fun i' x' a a' h1 h2 h3 e => by have h4 := (own_block H5 a h3).1; have h5 := (own_block (U0.out.1.byt i' x' h1) a' h2).2; omega) (by have := hXl.out; omega)
            have K12 : Hid (Pq w (.slice s4 k4 c4) (X ++ [(q.ri sp5 cap5, q.b)]) (bsI b0 b1 b2 b3 (.slice s3 k3 c3) 0 0 ((i : Int) + 1)) y12 ∧ Rd y12 g) := ⟨H12, K5.out.2.keep fun q' o' ho hq => keep q' o' (fun cs' e2 => by rcases ho with ⟨es, ck, rfl⟩ | ⟨cs2, rfl⟩; cases e2; (injection e2 with _ e3 _; exact absurd e3 (by decide))) hq⟩
            replace hrun : Hid _ := hrun
            clear H12 keep low12
            refine hK.out _ _ trivial (fun _ => ?_)
            clear hK K
            try simp only [Act.put, List.setIfInBounds_toArray, List.set_cons_zero, List.set_cons_succ]
            refine wpAnyH_ready (rs := [5]) (by kernel_rfl) (by simp) (AllReadyH.cons rfl (fun K hK => ?_) AllReadyH.nil)
            rw [if_pos (by rfl)]
            refine op_bsI (o := ⟨some 38, _, _, _, _, _⟩) (q.ri sp5 cap5) (.tmp 37) rfl rfl ?_
            refine hK.out _ _ trivial (fun _ => ?_)
            clear hK K
            try simp only [Act.put, List.setIfInBounds_toArray, List.set_cons_zero, List.set_cons_succ]
            refine wpAnyH_ready (rs := [6]) (by kernel_rfl) (by simp) (AllReadyH.cons rfl (fun K hK => ?_) AllReadyH.nil)
            rw [if_pos (by rfl)]
            refine op_append (o := ⟨some 39, _, _, _, _, _⟩) (v := (.slice s3 k3 c3)) (u := .slice (some ⟨y5.heap.size, 0, none⟩) 1 1) (.tmp 33) (.tmp 38) 22 rfl rfl rfl hrun.out ?_
            refine hK.out _ _ trivial (fun _ => ?_)
            clear hK K
            try simp only [Act.put, List.setIfInBounds_toArray, List.set_cons_zero, List.set_cons_succ]
            refine wpAnyH_ready (rs := [7]) (by kernel_rfl) (by simp) (AllReadyH.cons rfl (fun K hK => ?_) AllReadyH.nil)
            rw [if_pos (by rfl)]
            have c12 := (K12.out.1.fm.bx 0 _ _ _ rfl).c 0 _ rfl
            have f12 := (K12.out.1.fm.bx 0 _ _ _ rfl).fz 0
            go_wp2
            refine hK.out _ _ trivial (fun _ => ?_)
            clear hK K c12 f12
            try simp only [Act.put, List.setIfInBounds_toArray, List.set_cons_zero, List.set_cons_succ]
            refine wpAnyH_done (by kernel_rfl) ?_ _
            have K13 : Hid (Pq w (.slice s4 k4 c4) (X ++ [(q.ri sp5 cap5, q.b)]) (bsI b0 b1 b2 b3 (.slice s4 k4 c4) 0 0 ((i : Int) + 1)) (y12.setCell ⟨b0, 0, none⟩ (.slice s4 k4 c4)) ∧ Rd (y12.setCell ⟨b0, 0, none⟩ (.slice s4 k4 c4)) g) := ⟨K12.out.1.setCell 0 b0 _ #[.slice s4 k4 c4] _ rfl (by decide) 0 _ rfl, K12.out.2.setCell (K12.out.1.fm.bx 0 _ _ _ rfl) (by decide) _⟩
            generalize y12.setCell ⟨b0, 0, none⟩ (.slice s4 k4 c4) = y13 at K13 ⊢
            go_wp2
            go_roundw
            case rel => exact ⟨i + 1, ls ++ [strL own], oth, _, X ++ [(q.ri sp5 cap5, q.b)], _, rfl, rfl, J3.out sp5 cap5, by have h := K13.out; rw [show ((i : Int) + 1) = ((i + 1 : Nat) : Int) by push_cast; rfl] at h; exact h⟩
            case measure => have := hoth.out; simp; omega
          · rw [if_pos (by rfl)]
            go_wp2_with (go_at_call 32; refine (hrl.out z0 U0.out.1.fm.low U0.out.2 Lz.out).mono ?_; rintro e y5 ⟨sp5, cap5, rfl, H5, B5⟩; refine stopAt ?_)
            refine Stop.go ?_
            have K5 : Hid (Pq w (.slice s3 k3 c3) X (bsI b0 b1 b2 b3 (.slice s3 k3 c3) 0 0 ((i : Int) + 1)) y5 ∧ Rd y5 g) := ⟨U0.out.1.below B5, U0.out.2.below B5⟩
            obtain ⟨s4, k4, c4, y12, hrun, H12, keep, low12⟩ := K5.out.1.app (bsI_ty _ _ _ _ _ _ _ _) (q.ri sp5 cap5, q.b) (own_weak H5 U0.out.1.fm.low.size) (fun i' x' a a' h1 h2 h3 e => by have h4 := (own_block H5 a h3).1; have h5 := (own_block (U0.out.1.byt i' x' h1) a' h2).2; omega) (by have := hXl.out; omega)
            have K12 : Hid (Pq w (.slice s4 k4 c4) (X ++ [(q.ri sp5 cap5, q.b)]) (bsI b0 b1 b2 b3 (.slice s3 k3 c3) 0 0 ((i : Int) + 1)) y12 ∧ Rd y12 g) := ⟨H12, K5.out.2.keep fun q' o' ho hq => keep q' o' (fun cs' e2 => by rcases ho with ⟨es, ck, rfl⟩ | ⟨cs2, rfl⟩; cases e2; (injection e2 with _ e3 _; exact absurd e3 (by decide))) hq⟩
            replace hrun : Hid _ := hrun
            clear H12 keep low12
            refine hK.out _ _ trivial (fun _ => ?_)
            clear hK K
            try simp only [Act.put, List.setIfInBounds_toArray, List.set_cons_zero, List.set_cons_succ]
            refine wpAnyH_ready (rs := [0, 5]) (by kernel_rfl) (by simp) (AllReadyH.cons rfl (fun K hK => ?_) (AllReadyH.cons rfl (fun K hK => ?_) AllReadyH.nil))
            · rw [if_pos (by rfl)]
              have c0 := (K5.out.1.fm.bx 0 _ _ _ rfl).c 0 _ rfl
              go_wp2
              refine hK.out _ _ trivial (fun _ => ?_)
              clear hK K c0
              try simp only [Act.put, List.setIfInBounds_toArray, List.set_cons_zero, List.set_cons_succ]
              refine wpAnyH_ready (rs := [5]) (by kernel_rfl) (by simp) (AllReadyH.cons rfl (fun K hK => ?_) AllReadyH.nil)
              rw [if_pos (by rfl)]
              refine op_bsI (o := ⟨some 38, _, _, _, _, _⟩) (q.ri sp5 cap5) (.tmp 37) rfl rfl ?_
              refine hK.out _ _ trivial (fun _ => ?_)
              clear hK K
              try simp only [Act.put, List.setIfInBounds_toArray, List.set_cons_zero, List.set_cons_succ]
              refine wpAnyH_ready (rs := [6]) (by kernel_rfl) (by simp) (AllReadyH.cons rfl (fun K hK => ?_) AllReadyH.nil)
              rw [if_pos (by rfl)]
              refine op_append (o := ⟨some 39, _, _, _, _, _⟩) (v := (.slice s3 k3 c3)) (u := .slice (some ⟨y5.heap.size, 0, none⟩) 1 1) (.tmp 33) (.tmp 38) 22 rfl rfl rfl hrun.out ?_
              refine hK.out _ _ trivial (fun _ => ?_)
              clear hK K
              try simp only [Act.put, List.setIfInBounds_toArray, List.set_cons_zero, List.set_cons_succ]
              refine wpAnyH_ready (rs := [7]) (by kernel_rfl) (by simp) (AllReadyH.cons rfl (fun K hK => ?_) AllReadyH.nil)
              rw [if_pos (by rfl)]
              have c12 := (K12.out.1.fm.bx 0 _ _ _ rfl).c 0 _ rfl
              have f12 := (K12.out.1.fm.bx 0 _ _ _ rfl).fz 0
              go_wp2
              refine hK.out _ _ trivial (fun _ => ?_)
              clear hK K c12 f12
              try simp only [Act.put, List.setIfInBounds_toArray, List.set_cons_zero, List.set_cons_succ]
              refine wpAnyH_done (by kernel_rfl) ?_ _
              have K13 : Hid (Pq w (.slice s4 k4 c4) (X ++ [(q.ri sp5 cap5, q.b)]) (bsI b0 b1 b2 b3 (.slice s4 k4 c4) 0 0 ((i : Int) + 1)) (y12.setCell ⟨b0, 0, none⟩ (.slice s4 k4 c4)) ∧ Rd (y12.setCell ⟨b0, 0, none⟩ (.slice s4 k4 c4)) g) := ⟨K12.out.1.setCell 0 b0 _ #[.slice s4 k4 c4] _ rfl (by decide) 0 _ rfl, K12.out.2.setCell (K12.out.1.fm.bx 0 _ _ _ rfl) (by decide) _⟩
              generalize y12.setCell ⟨b0, 0, none⟩ (.slice s4 k4 c4) = y13 at K13 ⊢
              go_wp2
              go_roundw
              case rel => exact ⟨i + 1, ls ++ [strL own], oth, _, X ++ [(q.ri sp5 cap5, q.b)], _, rfl, rfl, J3.out sp5 cap5, by have h := K13.out; rw [show ((i : Int) + 1) = ((i + 1 : Nat) : Int) by push_cast; rfl] at h; exact h⟩
              case measure => have := hoth.out; simp; omega
            · rw [if_pos (by rfl)]
              refine op_bsI (o := ⟨some 38, _, _, _, _, _⟩) (q.ri sp5 cap5) (.tmp 37) rfl rfl ?_
              refine hK.out _ _ trivial (fun _ => ?_)
              clear hK K
              try simp only [Act.put, List.setIfInBounds_toArray, List.set_cons_zero, List.set_cons_succ]
              refine wpAnyH_ready (rs := [0]) (by kernel_rfl) (by simp) (AllReadyH.cons rfl (fun K hK => ?_) AllReadyH.nil)
              rw [if_pos (by rfl)]
              have c0 := ((K5.out.1.below (below1 y5 (.cells (i6 (q.ri sp5 cap5)) 39))).fm.bx 0 _ _ _ rfl).c 0 _ rfl
              go_wp2
              refine hK.out _ _ trivial (fun _ => ?_)
              clear hK K c0
              try simp only [Act.put, List.setIfInBounds_toArray, List.set_cons_zero, List.set_cons_succ]
              refine wpAnyH_ready (rs := [6]) (by kernel_rfl) (by simp) (AllReadyH.cons rfl (fun K hK => ?_) AllReadyH.nil)
              rw [if_pos (by rfl)]
              refine op_append (o := ⟨some 39, _, _, _, _, _⟩) (v := (.slice s3 k3 c3)) (u := .slice (some ⟨y5.heap.size, 0, none⟩) 1 1) (.tmp 33) (.tmp 38) 22 rfl rfl rfl hrun.out ?_
              refine hK.out _ _ trivial (fun _ => ?_)
              clear hK K
              try simp only [Act.put, List.setIfInBounds_toArray, List.set_cons_zero, List.set_cons_succ]
              refine wpAnyH_ready (rs := [7]) (by kernel_rfl) (by simp) (AllReadyH.cons rfl (fun K hK => ?_) AllReadyH.nil)
              rw [if_pos (by rfl)]
              have c12 := (K12.out.1.fm.bx 0 _ _ _ rfl).c 0 _ rfl
              have f12 := (K12.out.1.fm.bx 0 _ _ _ rfl).fz 0
              go_wp2
              refine hK.out _ _ trivial (fun _ => ?_)
              clear hK K c12 f12
              try simp only [Act.put, List.setIfInBounds_toArray, List.set_cons_zero, List.set_cons_succ]
              refine wpAnyH_done (by kernel_rfl) ?_ _
              have K13 : Hid (Pq w (.slice s4 k4 c4) (X ++ [(q.ri sp5 cap5, q.b)]) (bsI b0 b1 b2 b3 (.slice s4 k4 c4) 0 0 ((i : Int) + 1)) (y12.setCell ⟨b0, 0, none⟩ (.slice s4 k4 c4)) ∧ Rd (y12.setCell ⟨b0, 0, none⟩ (.slice s4 k4 c4)) g) := ⟨K12.out.1.setCell 0 b0 _ #[.slice s4 k4 c4] _ rfl (by decide) 0 _ rfl, K12.out.2.setCell (K12.out.1.fm.bx 0 _ _ _ rfl) (by decide) _⟩
              generalize y12.setCell ⟨b0, 0, none⟩ (.slice s4 k4 c4) = y13 at K13 ⊢
              go_wp2
              go_roundw
              case rel => exact ⟨i + 1, ls ++ [strL own], oth, _, X ++ [(q.ri sp5 cap5, q.b)], _, rfl, rfl, J3.out sp5 cap5, by have h := K13.out; rw [show ((i : Int) + 1) = ((i + 1 : Nat) : Int) by push_cast; rfl] at h; exact h⟩
              case measure => have := hoth.out; simp; omega
end Go.Proofs.YtmaedkbmjbggpaaDoor
