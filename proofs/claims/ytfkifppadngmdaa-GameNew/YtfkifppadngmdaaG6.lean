/- The document's own: bytes and machines in memory of their own. -/
import Derived.Test.YtfkifppadngmdaaG5
namespace Go.Proofs.Ytfkifppadngmdaa
open Go Go.RowKit Go.Shelf
set_option linter.unusedVariables false
set_option maxHeartbeats 1000000
set_option maxRecDepth 20000

/-- A row that is made. -/
theorem mk_row {α : Type} {T t : TypeId} {s bts : Nat} {c : α → List Value} (K : KdL T t s bts c) (n : Nat) (hb : bts * n ≤ 281474976710656) (hn : n ≤ 9223372036854775807) :
    ∃ M : Array Value, M.size = n * s ∧ ∀ v, (Instr.makeSlice T (.int .i64 (n : Int)) (.int .i64 (n : Int))).run Try.prog v = .ok (.slice (some ⟨v.heap.size, 0, none⟩) n n) (v.alloc (.cells M t)) := by
  obtain ⟨i, z, hi, hz0, hz1, hz2, hz3⟩ := K.i
  refine ⟨madeCells z.cells (n * s), by simp [size_madeCells], fun v => ?_⟩
  have := run_make (P := Try.prog) v T t i z K.u hi hz0 .i64 .i64 (n : Int) (n : Int) (by omega) (Int.le_refl _) (by rw [hz2, ← Int.natCast_mul]; omega) (by omega)
  rw [hz1, Int.toNat_natCast] at this
  exact this
theorem splice_all {M : Array Value} {L : List Value} (h : L.length = M.size) : (splice M.toList 0 L).toArray = L.toArray := by
  unfold splice
  rw [List.drop_eq_nil_of_le (by simp; omega)]
  simp
/-- A block that holds a row is that row's own. -/
theorem own_row {α : Type} {t : TypeId} {s : Nat} {c : α → List Value} (hc : ∀ x, (c x).length = s) {B : Nat} {w : World} {g : Nat} {l : List α} (h : Bx w g (rowL c l).toArray t) (hB : B ≤ g) (hm : l.length ≤ maxLen) : OwnL t s c B w (.slice (some ⟨g, 0, none⟩) l.length l.length) l := by
  refine ⟨rowL_len hc l, .inr ⟨g, l.length, (rowL c l).toArray, rfl, hB, h, Nat.le_refl _, hm, ?_, ?_⟩⟩
  · simp [rowL_len hc l]
  · rw [List.take_of_length_le (by simp [rowL_len hc l])]
/-- A machine in memory of its own. -/
structure GO (B : Nat) (w : World) (C : Array Value) (g : Gm) : Prop where
  c : ∃ vS vP vM : Value, C = gCs g.v g.i g.pc vS g.de g.so vP vM ∧ OwnL 26 1 cW B w vS g.st ∧ OwnL 5 1 cB B w vP g.pg ∧ OwnL 5 1 cB B w vM g.me ∧ (∀ q, vP.ownBlock = some q → vM.ownBlock ≠ some q)
  ok : g.Ok
theorem GO.lies {B : Nat} {w : World} {C : Array Value} {g : Gm} (h : GO B w C g) : GL w C g := by
  obtain ⟨⟨vS, vP, vM, e, h1, h2, h3, _⟩, ok⟩ := h
  obtain ⟨s1, c1, e1, l1, _⟩ := OwnL.open kWord.len h1
  obtain ⟨s2, c2, e2, l2, _⟩ := OwnL.open kByte.len h2
  obtain ⟨s3, c3, e3, l3, _⟩ := OwnL.open kByte.len h3
  exact ⟨⟨s1, s2, s3, c1, c2, c3, by rw [e, e1, e2, e3], l1, l2, l3⟩, ok⟩
theorem Fm.add {w : World} {l : List (Nat × Array Value × TypeId)} {y y' : World} (h : Fm w l y) (hb : Below y.heap.size y y') {g : Nat} {cs : Array Value} {t : TypeId} (hg : y.heap.size ≤ g) (k : Bx y' g cs t) : Fm w (l ++ [(g, cs, t)]) y' := by
  have hb' := h.below hb
  have key : ∀ (i b : Nat) (cs' : Array Value) (t' : TypeId), (l ++ [(g, cs, t)])[i]? = some (b, cs', t') → l[i]? = some (b, cs', t') ∧ i < l.length ∨ i = l.length ∧ b = g ∧ cs' = cs ∧ t' = t := by
    intro i b cs' t' e
    rcases Nat.lt_or_ge i l.length with hi | hi
    · rw [List.getElem?_append_left hi] at e
      exact .inl ⟨e, hi⟩
    · rw [List.getElem?_append_right hi] at e
      rcases Nat.eq_or_lt_of_le hi with h0 | h0
      · rw [← h0, Nat.sub_self] at e
        simp at e
        exact .inr ⟨h0.symm, e.1.symm, e.2.1.symm, e.2.2.symm⟩
      · rw [List.getElem?_eq_none (by simp; omega)] at e
        cases e
  refine ⟨fun i b cs' t' e => ?_, fun i b cs' t' e => ?_, fun i j b c1 c2 t1 t2 e1 e2 => ?_, hb'.low⟩
  · rcases key i b cs' t' e with ⟨k', _⟩ | ⟨_, rfl, rfl, rfl⟩
    · exact hb'.get i b cs' t' k'
    · exact k
  · rcases key i b cs' t' e with ⟨k', _⟩ | ⟨_, rfl, rfl, rfl⟩
    · exact h.ge i b cs' t' k'
    · exact Nat.le_trans h.low.size hg
  · rcases key i b c1 t1 e1 with ⟨k1, l1⟩ | ⟨k1, kb, _⟩ <;> rcases key j b c2 t2 e2 with ⟨k2, l2⟩ | ⟨k2, kb2, _⟩
    · exact h.ne i j b c1 c2 t1 t2 k1 k2
    · exact absurd (heap_lt (h.get i b c1 t1 k1)) (by omega)
    · exact absurd (heap_lt (h.get j b c2 t2 k2)) (by omega)
    · omega
/-- A copy that fills a block, of any rows, the empty one too. -/
theorem at_copyF {α : Type} {T t : TypeId} {s bts : Nat} {c : α → List Value} (K : KdL T t s bts c) {ops : Array Oper} {rest : List Oper} {o : Oper} {a : Act} {w : World} {Q : Exit → Act → World → Prop} (hgd : o.guard = none) (d e : Operand)
    (ho : o.op = .call { callee := .builtin .copy, args := #[d, e], argTypes := #[T, T] })
    (g dCap : Nat) (sp : Option Addr) (n sCap : Nat) (hd : a.eval d = .slice (some ⟨g, 0, none⟩) n dCap) (hs : a.eval e = .slice sp n sCap)
    (cur : Array Value) (hg : Bx w g cur t) (l : List α) (hlen : l.length = n) (hl : LiesL s c w sp l) (hfit : cur.size = n * s)
    (h : ∀ w', Hid (Bx w' g (rowL c l).toArray t ∧ (∀ B, B ≤ g → Below B w w') ∧ ∀ q, q ≠ g → w'.heap[q]? = w.heap[q]?) → wpList Try.prog ops Q rest (a.put o.dst (goInt n)) w') : wpList Try.prog ops Q (o :: rest) a w := by
  refine wpList_plain hgd fun K' hK => ?_
  by_cases h0 : n = 0
  · subst h0
    obtain rfl : l = [] := List.eq_nil_of_length_eq_zero hlen
    have hrun := run_copyL0 K w o.type (some ⟨g, 0, none⟩) sp 0 dCap sCap
    obtain rfl : cur = #[] := Array.eq_empty_of_size_eq_zero (by omega)
    unfold Oper.wp
    simp [execOp, ho, resolve, invoke, builtin, hd, hs, hrun, Result.andThen]
    exact hK _ _ (h w ⟨hg, fun B _ => Below.refl _ _, fun _ _ => rfl⟩)
  · obtain ⟨gb, ob, rfl, _⟩ := hl 0 _ (List.getElem?_eq_getElem (by omega))
    have hsrc : ∀ j v, (rowL c l)[j]? = some v → w.cell? ((⟨gb, ob, none⟩ : Addr).add j) = some v := fun j v hv => by
      rw [Addr.add_lit]
      exact LiesL.cells K.len K.s0 hl j v hv
    have hrun := run_copyL K w o.type g n dCap ⟨gb, ob, none⟩ n sCap cur (rowL c l) hg (by rw [rowL_len K.len, hlen]) (Nat.le_refl _) hsrc (by rw [rowL_len K.len, hlen]; omega) (rowL_cell K.one l)
    rw [splice_all (by rw [rowL_len K.len, hlen, hfit])] at hrun
    unfold Oper.wp
    simp [execOp, ho, resolve, invoke, builtin, hd, hs, hrun, Result.andThen]
    exact hK _ _ (h _ ⟨setRow_heap w g cur _ _ _ hg, fun B hB => below_setRow (Below.refl _ _) hB _, fun q hq => setRow_other w g q _ hq⟩)
/-- A machine of noughts. -/
def gZ : Array Value := #[.int .u8 0, .int .u8 0, .int .u8 0, .int .u8 0, .int .u8 0, .int .u8 0, .int .u8 0, .int .u8 0, .int .u8 0, .int .u8 0, .int .u8 0, .int .u8 0, .int .u8 0, .int .u8 0, .int .u8 0, .int .u8 0, .int .u16 0, .int .u16 0, .slice none 0 0, .int .u8 0, .int .u8 0, .slice none 0 0, .slice none 0 0]
theorem rtG : Rt Try.prog 29 23 := ⟨⟨_, Try.underlying29, rfl⟩, by kernel_rfl⟩
end Go.Proofs.Ytfkifppadngmdaa
