/- The law: a byte turned, bytes cut off, bytes behind. -/
import Derived.Test.YtehnhjdjjalifaaGreatDoorJs
import Derived.Test.YtehnhjdjjalifaaGreatDoorLn
namespace Go.Proofs.YtehnhjdjjalifaaGreatDoor
open Go Go.RowKit Go.Shelf
set_option linter.unusedVariables false
set_option maxHeartbeats 4000000
set_option maxRecDepth 20000

section
variable {α : Type} {T t : TypeId} {s bts : Nat} {c : α → List Value}
theorem run_app0 (K : KdL T t s bts c) (w : World) (ty : TypeId) (B : Nat) (v : Value) (l : List α) (hown : OwnL t s c B w v l) (p : Option Addr) (cp : Nat) : (Builtin.append_ #[T, T] ty #[v, .slice p 0 cp]).run Tryz.prog w = .ok v w := by
  obtain ⟨i, z, hi, hz0, hz1, hz2, hz3⟩ := K.i
  have hl : ∀ (x : Addr), (loadCells x 0).run Tryz.prog w = .ok #[] w := fun x => by simpa using run_loadCells_list (P := Tryz.prog) w x [] (by simp)
  rcases hown.2 with ⟨rfl, h0⟩ | ⟨g, cap, cur, rfl, _, _, hnc, _⟩
  · cases p <;> simp [Builtin.append_, run_underlying K.u, sizeOf, typeInfo, hi, Builtin.lenOf, Builtin.firstCells, hl]
  · cases p <;> simp [Builtin.append_, run_underlying K.u, sizeOf, typeInfo, hi, Builtin.lenOf, Builtin.firstCells, hnc, storeCells, hl]
theorem at_appA (K : KdL T t s bts c) {ops : Array Oper} {rest : List Oper} {o : Oper} {a : Act} {w : World} {Q : Exit → Act → World → Prop} (hgd : o.guard = none) (sl x : Operand)
    (ho : o.op = .call { callee := .builtin .append, args := #[sl, x], argTypes := #[T, T] }) (B : Nat) (v : Value) (l : List α) (hs : a.eval sl = v) (hown : OwnL t s c B w v l)
    (p : Option Addr) (m cm : Nat) (us : List α) (hm : us.length = m) (hx : a.eval x = .slice p m cm) (hu : LiesL s c w p us) (hn : l.length + m ≤ 100000000000) (hB : B ≤ w.heap.size)
    (k : ∀ v' w', Hid (AppNL t s c B v l us v' w w') → wpList Tryz.prog ops Q rest (a.put o.dst v') w') : wpList Tryz.prog ops Q (o :: rest) a w := by
  by_cases h0 : m = 0
  · subst h0
    have hl0 : us = [] := List.eq_nil_of_length_eq_zero hm
    subst hl0
    refine wpList_plain hgd fun K' hK => ?_
    have hrun := run_app0 K w o.type B v l hown p cm
    unfold Oper.wp
    simp [execOp, ho, resolve, invoke, builtin, hs, hx, hrun, Result.andThen]
    exact hK _ _ (k v w ⟨by rw [List.append_nil]; exact hown, fun g hg => .inl hg, CuL.refl _ _ _⟩)
  · obtain ⟨gb, ob, rfl, _⟩ := hu 0 _ (List.getElem?_eq_getElem (by omega))
    exact at_appNL K hgd sl x ho B v l hs hown gb ob m cm us hm hx hu (by omega) hn hB k
end
theorem lo_E (w : World) (tb : Hid (Tbs w)) (l : List UInt8) (hn : l.length ≤ 4000000000) : ∃ E : Int, ((E == 0) = decide (formB l = true ∧ sumOk l = true ∧ chkB (bdOf l) = 0)) ∧ ∀ y sp cap, Below w.heap.size w y → LB y sp l → l.length ≤ cap → Calls Tryz.prog 11 #[.slice sp l.length cap] y fun e w' => ∃ M, e = .returned (.tuple #[.agg M, .int .i64 E]) ∧ Hid (Below y.heap.size y w' ∧ M.size = 35 ∧ M.all (·.oneCell') = true) := by
  by_cases h : formB l = true ∧ sumOk l = true ∧ chkB (bdOf l) = 0
  · refine ⟨0, by rw [decide_eq_true h]; rfl, fun y sp cap hy hl hc => (lo_ok w tb l (bdOf l) hn h.1 h.2.1 rfl h.2.2 y sp cap hy hl hc).mono fun e w' k => ?_⟩
    obtain ⟨M, e1, k⟩ := k
    exact ⟨M, e1, k.out.1, BL.facts k.out.2.1⟩
  · obtain ⟨E, _, q, k⟩ := lo_no w tb l hn h
    refine ⟨E, by rw [decide_eq_false h]; exact q, fun y sp cap hy hl hc => (k y sp cap hy hl hc).mono fun e w' k => ?_⟩
    exact ⟨zBd, k.1, k.2.out, rfl, zBd_one⟩
theorem two_new (w : World) (A B : Array Value) (a b : TypeId) : Fm w [(w.heap.size, A, a), (w.heap.size + 1, B, b)] ((w.alloc (.cells A a)).alloc (.cells B b)) := by
  have := (Fm.one w A a).new B b
  simpa [World.size_alloc] using this
theorem and20 (a : Int) : ∃ q : Nat, q < 1048576 ∧ bits .and .i64 a 1048575 = (q : Int) := by
  refine ⟨(BitVec.ofInt 64 a &&& BitVec.ofInt 64 1048575).toNat, ?_, ?_⟩
  · rw [BitVec.toNat_and]
    have : (BitVec.ofInt 64 a).toNat &&& (BitVec.ofInt 64 1048575).toNat ≤ (BitVec.ofInt 64 1048575).toNat := Nat.and_le_right
    have e : (BitVec.ofInt 64 1048575).toNat = 1048575 := by decide
    omega
  · show IntKind.i64.wrap ((BitVec.ofInt 64 a &&& BitVec.ofInt 64 1048575).toNat : Int) = _
    rw [BitVec.toNat_and]
    have : (BitVec.ofInt 64 a).toNat &&& (BitVec.ofInt 64 1048575).toNat ≤ (BitVec.ofInt 64 1048575).toNat := Nat.and_le_right
    have e : (BitVec.ofInt 64 1048575).toNat = 1048575 := by decide
    rw [IntKind.wrap_i64]
    omega
/-- A byte that is turned. -/
theorem turn_ok (P : List UInt8) (hf : formB P = true) (hs : sumOk P = true) (hc : chkB (bdOf P) = 0) (k : Nat) (hk : k < P.length) (b : UInt8) : decide (formB (P.set k (byteB P k ^^^ b)) = true ∧ sumOk (P.set k (byteB P k ^^^ b)) = true ∧ chkB (bdOf (P.set k (byteB P k ^^^ b))) = 0) = (b == 0) := by
  by_cases h : b = 0
  · subst h
    have e : byteB P k ^^^ 0 = byteB P k := by simp
    have e2 : P.set k (byteB P k) = P := by
      apply List.ext_getElem?
      intro j
      by_cases hj : k = j
      · subst hj
        rw [List.getElem?_set_self hk]
        unfold byteB
        rw [List.getD_eq_getElem?_getD, List.getElem?_eq_getElem hk]
        rfl
      · rw [List.getElem?_set_ne hj]
    rw [e, e2]
    rw [decide_eq_true ⟨hf, hs, hc⟩]
    rfl
  · have hne : byteB P k ^^^ b ≠ byteB P k := fun e => h (by
      have := congrArg (byteB P k ^^^ ·) e
      simpa [← UInt8.xor_assoc] using this)
    have := turned_off P hs (by have := (form_facts hf).1; omega) k hk _ hne
    rw [decide_eq_false (fun x => by rw [this] at x; cases x.2.1)]
    exact (beq_eq_false_iff_ne.2 h).symm
end Go.Proofs.YtehnhjdjjalifaaGreatDoor
