/- A range over a function, entered; what stands between two lines of a program. -/
import Derived.Test.YtfdikiafbfljaaaDoorPc1
namespace Go.Proofs.YtfdikiafbfljaaaDoor
open Go Go.RowKit Go.Shelf
set_option linter.unusedVariables false
set_option maxHeartbeats 1000000
set_option maxRecDepth 100000
attribute [local go_sem] Oper.semAt_some

/-- The record of a range over a function. -/
def recL (fn : FuncId) (tmps : Array Value) (ps : Array Tmp) (assign body : Code) (D : Nat) (st : LoopState) (pe : Option Code) : Loop := { state := st, pending := pe, fn, tmps, params := ps, assign, body, defers := D }
/-- Entered: what is owed is the one call, with the record and the block for deferred calls as they then lie. -/
theorem range_enter {F : Fence} {n : Nat} {P : Program} {g : Operand} {ps : Array Tmp} {assign body : Code} {Q : Exit → Act → World → Prop} {a : Act} {w : World} (hro : F.round = none) (h1 : 1 ≤ n) {gf : Nat} {lb : Array Value} (hg : a.eval g = .func (.func gf) #[] lb) (hFg : F.fn gf)
    (eg : ∀ args w, (callFunc gf args).run P w = .ok (.enter gf args) w)
    (h : ∀ (fn : FuncId) (W : World) (R : LoopState → Option Code → Loop), R = recL fn a.tmps ps assign body w.heap.size → F.fn fn → W.heap[w.heap.size + 1]? = some (.loop (R .ready none)) → W.heap[w.heap.size]? = some (.deferred (some [])) → Below w.heap.size w W →
      CallsIn F (n - 1) P gf (#[.func (.yield (w.heap.size + 1)) #[] #[]] ++ lb) W (rangePost F n P (w.heap.size + 1) Q { a with defers := { target := .collected w.heap.size, args := #[] } :: a.defers })) :
    (Code.rangeFunc g ps assign body).wpIn F n P Q a w := by
  refine wpIn_rangeFunc fun fn hfn => ?_
  obtain ⟨W1, hW1⟩ : ∃ W1, (w.alloc (.deferred (some []))).alloc (.loop (recL fn a.tmps ps assign body w.heap.size .ready none)) = W1 := ⟨_, rfl⟩
  have e0 : (Instr.enterLoop fn a.tmps ps assign body none).run P w = .ok (w.heap.size + 1, [{ target := .collected w.heap.size, args := #[] }]) W1 := by
    rw [← hW1]
    exact run_enterLoop_outer _ _ _ _ _
  rw [hro]
  have h3 := h fn W1 _ rfl hfn (by
      rw [← hW1]
      have x := World.alloc_heap_new (w.alloc (.deferred (some []))) (.loop (recL fn a.tmps ps assign body w.heap.size .ready none))
      rwa [World.size_alloc] at x) (by
      rw [← hW1]
      exact (Below.heap_alloc _ _ _ (by simp)).trans (World.alloc_heap_new w _)) (by
      rw [← hW1]
      exact ((Below.refl _ w).alloc (Nat.le_refl _) _).alloc (by simp) _)
  clear h hW1
  have p1 : (resolve a.eval (rangeCall g (w.heap.size + 1)) 0).run P W1 = .ok { target := .fn (.func gf) lb, args := #[.func (.yield (w.heap.size + 1)) #[] #[]] } W1 := by
    simp only [resolve, hg]
    simp [go_sem]
  have p2 : ∀ f', Target.leads P W1 (Target.fn (.func gf) lb) #[.func (.yield (w.heap.size + 1)) #[] #[]] = some f' → F.fn f' := by
    intro f' hf'
    simp [Target.leads] at hf'
    subst hf'
    exact hFg
  have p3 : (invoke (Target.fn (.func gf) lb) #[.func (.yield (w.heap.size + 1)) #[] #[]]).run P W1 = .ok (.enter gf (#[.func (.yield (w.heap.size + 1)) #[] #[]] ++ lb)) W1 := by
    simp [invoke, go_sem, eg]
  exact ⟨_, _, _, _, _, _, _, _, e0, p1, p2, p3, fun _ => h1, h3⟩
section
variable {P : Program} {fn : FuncId} {tm : Array Value} {ps : Array Tmp} {ca bo : Code} {D l : Nat} {R : LoopState → Option Code → Loop} {W : World}
theorem begin_go (hR : R = recL fn tm ps ca bo D) (h : W.heap[l]? = some (.loop (R .ready none))) : (Instr.beginRound l).run P W = .ok () (W.putObj l (.loop (R .busy none))) := by
  have h := run_beginRound (P := P) h (by rw [hR]; rfl)
  rw [hR] at h ⊢
  exact h
theorem end_go (hR : R = recL fn tm ps ca bo D) (h : W.heap[l]? = some (.loop (R .busy none))) : (Instr.endRound l none).run P W = .ok (.bool true) (W.putObj l (.loop (R .ready none))) := by
  have h := run_endRound (P := P) none h
  rw [hR] at h ⊢
  exact h
theorem end_ret (hR : R = recL fn tm ps ca bo D) (h : W.heap[l]? = some (.loop (R .busy none))) : (Instr.endRound l (some .ret)).run P W = .ok (.bool false) (W.putObj l (.loop (R .done (some .ret)))) := by
  have h := run_endRound (P := P) (some .ret) h
  rw [hR] at h ⊢
  exact h
theorem over_go (hR : R = recL fn tm ps ca bo D) (h : W.heap[l]? = some (.loop (R .ready none))) : (Instr.endLoop l).run P W = .ok none (W.putObj l (.loop (R .exhausted none))) := by
  have h := run_endLoop (P := P) h (by rw [hR]; simp [recL])
  rw [hR] at h ⊢
  exact h
theorem over_ret (hR : R = recL fn tm ps ca bo D) (h : W.heap[l]? = some (.loop (R .done (some .ret)))) : (Instr.endLoop l).run P W = .ok (some .ret) (W.putObj l (.loop (R .exhausted (some .ret)))) := by
  have h := run_endLoop (P := P) h (by rw [hR]; simp [recL])
  rw [hR] at h ⊢
  exact h
end
/-- A program as it lies abides the turn of a block that is none of its own. -/
theorem Pg.turn {w : World} {P g : Nat} {vb vu : Value} {bs : List UInt8} {F : ByteArray → Option Nat} {us : List Us} {y : World} (h : Pg w P g vb vu bs F us y) (l : Nat) (o o' : Obj) (hl : y.heap[l]? = some o) (hr : isRec o = true) (hw : w.heap.size ≤ l) : Pg w P g vb vu bs F us (y.putObj l o') := by
  have oth : ∀ q, q ≠ l → (y.putObj l o').heap[q]? = y.heap[q]? := fun q hq => World.putObj_heap_other hq
  refine ⟨(oth P fun e => rec_ne hl hr h.box e.symm).trans h.box, h.bs.keepB fun q e => oth q fun e' => ?_, h.mp.keep (oth g fun e => rec_nm hl hr h.mp e.symm), h.us.keepB fun q e => oth q fun e' => ?_, h.geP, h.geg, h.low.grown (grownBy_putObj' y l o') h.low.size (fun k e => by cases e; exact hw)⟩
  · obtain ⟨cs, hx⟩ := h.bs.ty q e
    exact rec_ne hl hr hx e'.symm
  · obtain ⟨cs, hx⟩ := h.us.ty q e
    exact rec_ne hl hr hx e'.symm
theorem Fm.turn {w W : World} {bs : List (Nat × Array Value × TypeId)} (h : Fm w bs W) (l : Nat) (o o' : Obj) (hl : W.heap[l]? = some o) (hr : isRec o = true) (hw : w.heap.size ≤ l) : Fm w bs (W.putObj l o') := by
  have oth : ∀ q, q ≠ l → (W.putObj l o').heap[q]? = W.heap[q]? := fun q hq => World.putObj_heap_other hq
  exact ⟨fun i b cs t e => (oth b fun e' => rec_ne hl hr (h.get i b cs t e) e'.symm).trans (h.get i b cs t e), h.ge, h.ne, h.low.grown (grownBy_putObj' W l o') h.low.size (fun k e => by cases e; exact hw)⟩
theorem Fm.kp {w y z : World} {bs : List (Nat × Array Value × TypeId)} (h : Fm w bs y) (k : Kp y z) (hl : Below w.heap.size w z) (ht : ∀ (i b : Nat) (cs : Array Value) (t : TypeId), bs[i]? = some (b, cs, t) → t ≠ 5 ∧ t ≠ 105 ∧ t ≠ 70) : Fm w bs z :=
  ⟨fun i b cs t e => k.ty b cs t (h.get i b cs t e) (ht i b cs t e).1 (ht i b cs t e).2.1 (ht i b cs t e).2.2, h.ge, h.ne, hl⟩
theorem putObj_same {W : World} {l : Nat} {o o' : Obj} (h : W.heap[l]? = some o) : (W.putObj l o').heap[l]? = some o' := World.putObj_heap_same (heap_lt h)
theorem rec_set {W : World} {l b t : Nat} {o : Obj} {cs : Array Value} (h : W.heap[l]? = some o) (hr : isRec o = true) (hx : Bx W b cs t) (j : Nat) (v : Value) : (W.setCell ⟨b, j, none⟩ v).heap[l]? = some o :=
  (heap_setCell_other W ⟨b, j, none⟩ l v (rec_ne h hr hx)).trans h
/-- The boxes of Program's: its three results, and p. -/
abbrev boxesP (b0 b1 b2 q P : Nat) (v0 v1 v2 : Value) : List (Nat × Array Value × TypeId) := [(b0, #[v0], 37), (b1, #[v1], 40), (b2, #[v2], 3), (q, #[.pointer (some ⟨P, 0, none⟩)], 66)]
theorem boxes_ty {b0 b1 b2 q P : Nat} {v0 v1 v2 : Value} (i b : Nat) (cs : Array Value) (t : TypeId) (h : (boxesP b0 b1 b2 q P v0 v1 v2)[i]? = some (b, cs, t)) : t ≠ 5 ∧ t ≠ 105 ∧ t ≠ 70 := by
  rcases i with _ | _ | _ | _ | i
  · simp [boxesP] at h; obtain ⟨_, _, rfl⟩ := h; decide
  · simp [boxesP] at h; obtain ⟨_, _, rfl⟩ := h; decide
  · simp [boxesP] at h; obtain ⟨_, _, rfl⟩ := h; decide
  · simp [boxesP] at h; obtain ⟨_, _, rfl⟩ := h; decide
  · simp [boxesP] at h
/-- What is so between two lines: the record R of the loop at l, the block for deferred calls at D. -/
structure Jp (w : World) (b0 b1 b2 q P g l D : Nat) (R : LoopState → Option Code → Loop) (s : ByteArray) (k : Nat) (W : World) : Prop where
  st : ∃ (t : Sta) (vb vu : Value), linesP 1 (lnsG (strL s) []) ([], fun _ => none, []) = linesP (k + 1) ((lnsG (strL s) []).drop k) t ∧ StOk t ∧ t.1.length ≤ 3232 ∧ Pg w P g vb vu t.1 t.2.1 t.2.2 W
  fm : Fm w (boxesP b0 b1 b2 q P (.slice none 0 0) (.int .i64 0) (.int .i64 0)) W
  lp : W.heap[l]? = some (.loop (R .ready none))
  df : W.heap[D]? = some (.deferred (some []))
theorem Jp.below {w : World} {b0 b1 b2 q P g l D : Nat} {R : LoopState → Option Code → Loop} {s : ByteArray} {k : Nat} {W W' : World} (h : Jp w b0 b1 b2 q P g l D R s k W) (hb : Below W.heap.size W W') : Jp w b0 b1 b2 q P g l D R s k W' := by
  obtain ⟨t, vb, vu, h1, h2, h3, h4⟩ := h.st
  exact ⟨⟨t, vb, vu, h1, h2, h3, h4.below hb⟩, h.fm.below hb, (hb.block l (heap_lt h.lp)).trans h.lp, (hb.block D (heap_lt h.df)).trans h.df⟩
theorem drop_one {α : Type} {l : List α} {k : Nat} {x : α} (h : l[k]? = some x) : l.drop k = x :: l.drop (k + 1) := by
  obtain ⟨h1, h2⟩ := List.getElem?_eq_some_iff.1 h
  rw [List.drop_eq_getElem_cons h1, h2]
theorem linesP_step {n : Nat} {ls : List (List UInt8)} {k : Nat} {L : List UInt8} {t : Sta} (h : ls[k]? = some L) : linesP n (ls.drop k) t = match stepL n L t with
    | .inl e => .inl e
    | .inr t' => linesP (n + 1) (ls.drop (k + 1)) t' := by
  rw [drop_one h]
  rfl
theorem Jp.skip {w : World} {b0 b1 b2 q P g l D : Nat} {R : LoopState → Option Code → Loop} {s : ByteArray} {k : Nat} {L : List UInt8} {W : World} (h : Jp w b0 b1 b2 q P g l D R s k W) (hL : (lnsG (strL s) [])[k]? = some L) (hw : wordsA L = []) : Jp w b0 b1 b2 q P g l D R s (k + 1) W := by
  obtain ⟨t, vb, vu, h1, h2, h3, h4⟩ := h.st
  refine ⟨⟨t, vb, vu, ?_, h2, h3, h4⟩, h.fm, h.lp, h.df⟩
  rw [h1, linesP_step hL]
  unfold stepL
  rw [hw]
/-- A line has ended it. -/
structure Jx (w : World) (b0 b1 b2 q P l D : Nat) (R : LoopState → Option Code → Loop) (s : ByteArray) (W : World) : Prop where
  st : ∃ (er n : Nat), linesP 1 (lnsG (strL s) []) ([], fun _ => none, []) = .inl (er, n) ∧ Fm w (boxesP b0 b1 b2 q P (.slice none 0 0) (.int .i64 (er : Int)) (.int .i64 (n : Int))) W
  lp : W.heap[l]? = some (.loop (R .done (some .ret)))
  df : W.heap[D]? = some (.deferred (some []))
end Go.Proofs.YtfdikiafbfljaaaDoor
