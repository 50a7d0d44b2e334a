/- The document's own: bytes in memory of their own. -/
import Derived.Test.YtehnhjdjjalifaaGreatDoorX5
import Derived.Test.YtehnhjdjjalifaaGreatDoorLc
namespace Go.Proofs.YtehnhjdjjalifaaGreatDoor
open Go Go.RowKit
set_option linter.unusedVariables false
set_option maxHeartbeats 4000000
set_option maxRecDepth 20000

theorem mk_row {α : Type} {T t : TypeId} {s bts : Nat} {c : α → List Value} (K : KdL T t s bts c) (n : Nat) (hb : bts * n ≤ 281474976710656) (hn : n ≤ 9223372036854775807) :
    ∃ M : Array Value, M.size = n * s ∧ ∀ v, (Instr.makeSlice T (.int .i64 (n : Int)) (.int .i64 (n : Int))).run Tryz.prog v = .ok (.slice (some ⟨v.heap.size, 0, none⟩) n n) (v.alloc (.cells M t)) := by
  obtain ⟨i, z, hi, hz0, hz1, hz2, hz3⟩ := K.i
  refine ⟨madeCells z.cells (n * s), by simp [size_madeCells], fun v => ?_⟩
  have := run_make (P := Tryz.prog) v T t i z K.u hi hz0 .i64 .i64 (n : Int) (n : Int) (by omega) (Int.le_refl _) (by rw [hz2, ← Int.natCast_mul]; omega) (by omega)
  rw [hz1, Int.toNat_natCast] at this
  exact this
theorem splice_all {M : Array Value} {L : List Value} (h : L.length = M.size) : (splice M.toList 0 L).toArray = L.toArray := by
  unfold splice
  rw [List.drop_eq_nil_of_le (by simp; omega)]
  simp
/-- A block that holds a row is that row's own. -/
theorem own_row {α : Type} {t : TypeId} {s : Nat} {c : α → List Value} (hc : ∀ x, (c x).length = s) {B : Nat} {w : World} {g : Nat} {l : List α} (h : Bx w g (rowL c l).toArray t) (hB : B ≤ g) (hm : l.length ≤ maxLen) : OwnL t s c B w (.slice (some ⟨g, 0, none⟩) l.length l.length) l := by
  refine ⟨rowL_len hc l, .inr ⟨g, l.length, (rowL c l).toArray, rfl, hB, h, Nat.le_refl _, hm, ?_, ?_⟩⟩
  · simp [rowL_len hc l]
  · rw [List.take_of_length_le (by simp [rowL_len hc l])]
theorem bytes08_any (w : World) (sp : Option Addr) (cap : Nat) (l : List UInt8) (hl : Hid (LB w sp l)) (hn : l.length ≤ 4000000000) :
    Calls Tryz.prog 28 #[.slice sp l.length cap] w fun e w' => e = .returned (.slice (some ⟨w.heap.size, 0, none⟩) l.length l.length) ∧ Hid (Bx w' w.heap.size (rowL cB l).toArray 5 ∧ Below w.heap.size w w') := by
  obtain ⟨n, hn'⟩ : ∃ n, l.length = n := ⟨_, rfl⟩
  obtain ⟨M, hM, hmk⟩ := mk_row kByte n (by omega) (by omega)
  have hli : (n : Int) ≤ 4000000000 := by omega
  have hnn : Hid (l.length = n) := hn'
  rw [hn']
  obtain ⟨g, hg⟩ : ∃ g, w.heap.size = g := ⟨_, rfl⟩
  have hmk' := hmk w
  rw [hg] at hmk'
  rw [hg]
  have hA : Hid ((w.alloc (.cells M 5)).heap[g]? = some (.cells M 5 (0, 0)) ∧ LB (w.alloc (.cells M 5)) sp l ∧ Below g w (w.alloc (.cells M 5))) := ⟨by rw [← hg]; exact alloc_last' w _, hl.out.below (below1 w _), by rw [← hg]; exact below1 w _⟩
  have hM' : Hid (M.size = n) := by show _ = _; omega
  clear hn hn' hmk hg hM
  go_enter Tryz.func28, Tryz.ntmps28
  go_wp2_with (refine at_copyL kByte rfl (.tmp 7) (.tmp 8) rfl g n n sp n cap rfl rfl M hA.out.1 l hnn.out (Nat.le_refl _) hA.out.2.1 ?_ g (Nat.le_refl _) ?_)
  · rw [hM'.out]; omega
  intro w1 H1
  have K1 : Hid (Bx w1 g (rowL cB l).toArray 5 ∧ Below g w w1) := by
    refine ⟨?_, hA.out.2.2.trans H1.out.2⟩
    have := H1.out.1
    rw [splice_all (by rw [rowL_len kByte.len, hnn.out, hM'.out, Nat.mul_one])] at this
    exact this
  clear H1 hA hmk'
  go_wp2
  go_ret
  exact ⟨rfl, K1⟩
/-- A copy that fills a block, of any rows, the empty one too. -/
theorem at_copyF {α : Type} {T t : TypeId} {s bts : Nat} {c : α → List Value} (K : KdL T t s bts c) {ops : Array Oper} {rest : List Oper} {o : Oper} {a : Act} {w : World} {Q : Exit → Act → World → Prop} (hgd : o.guard = none) (d e : Operand)
    (ho : o.op = .call { callee := .builtin .copy, args := #[d, e], argTypes := #[T, T] })
    (g dCap : Nat) (sp : Option Addr) (n sCap : Nat) (hd : a.eval d = .slice (some ⟨g, 0, none⟩) n dCap) (hs : a.eval e = .slice sp n sCap)
    (cur : Array Value) (hg : Bx w g cur t) (l : List α) (hlen : l.length = n) (hl : LiesL s c w sp l) (hfit : cur.size = n * s)
    (h : ∀ w', Hid (Bx w' g (rowL c l).toArray t ∧ (∀ B, B ≤ g → Below B w w') ∧ ∀ q, q ≠ g → w'.heap[q]? = w.heap[q]?) → wpList Tryz.prog ops Q rest (a.put o.dst (goInt n)) w') : wpList Tryz.prog ops Q (o :: rest) a w := by
  refine wpList_plain hgd fun K' hK => ?_
  by_cases h0 : n = 0
  · subst h0
    obtain rfl : l = [] := List.eq_nil_of_length_eq_zero hlen
    have hrun := run_copyL0 K w o.type (some ⟨g, 0, none⟩) sp 0 dCap sCap
    obtain rfl : cur = #[] := Array.eq_empty_of_size_eq_zero (by omega)
    unfold Oper.wp
    simp [execOp, ho, resolve, invoke, builtin, hd, hs, hrun, Result.andThen]
    exact hK _ _ (h w ⟨hg, fun B _ => Below.refl _ _, fun _ _ => rfl⟩)
  · obtain ⟨gb, ob, rfl, _⟩ := hl 0 _ (List.getElem?_eq_getElem (by omega))
    have hsrc : ∀ j v, (rowL c l)[j]? = some v → w.cell? ((⟨gb, ob, none⟩ : Addr).add j) = some v := fun j v hv => by
      rw [Addr.add_lit]
      exact LiesL.cells K.len K.s0 hl j v hv
    have hrun := run_copyL K w o.type g n dCap ⟨gb, ob, none⟩ n sCap cur (rowL c l) hg (by rw [rowL_len K.len, hlen]) (Nat.le_refl _) hsrc (by rw [rowL_len K.len, hlen]; omega) (rowL_cell K.one l)
    rw [splice_all (by rw [rowL_len K.len, hlen, hfit])] at hrun
    unfold Oper.wp
    simp [execOp, ho, resolve, invoke, builtin, hd, hs, hrun, Result.andThen]
    exact hK _ _ (h _ ⟨setRow_heap w g cur _ _ _ hg, fun B hB => below_setRow (Below.refl _ _) hB _, fun q hq => setRow_other w g q _ hq⟩)
end Go.Proofs.YtehnhjdjjalifaaGreatDoor
