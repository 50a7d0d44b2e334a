/- Bytes read as a trace: the program's face, first part. -/
import Derived.Test.YtoajmicdphffnabDoorGe
import Derived.Test.YtoajmicdphffnabDoorGh
import Derived.Test.YtoajmicdphffnabDoorKk
import Derived.Test.YtoajmicdphffnabDoorRv
import Derived.Test.YtoajmicdphffnabDoorGd
import Derived.Test.YtoajmicdphffnabDoorKo
import Derived.Laws.Pointers
import Derived.Laws.Entries
namespace Go.Proofs.YtoajmicdphffnabDoor
open Go Go.RowKit
set_option linter.unusedVariables false
set_option maxHeartbeats 4000000
set_option maxRecDepth 20000

theorem catchU (pa pl pe pp : Nat) (at' : Int) (v x z : Value) (older : List PanicEntry) (w : World) (ha : Bx w pa #[.int .i64 at'] 3) (hl : Bx w pl #[v] 22) (he : Bx w pe #[x] 24) (hp : Bx w pp #[z] 3) (n1 : pe ≠ pl) (n2 : pp ≠ pl) (n3 : pp ≠ pe) :
    CallsD Tryd.prog 26 #[.pointer (some ⟨pa, 0, none⟩), .pointer (some ⟨pl, 0, none⟩), .pointer (some ⟨pe, 0, none⟩), .pointer (some ⟨pp, 0, none⟩)] (.panicking ({ v := pv, recovered := false } :: older)) w fun e' u' w' =>
      e' = .returned (.tuple #[]) ∧ u' = .panicking ({ v := pv, recovered := true } :: older) ∧ w' = ((w.setCell ⟨pl, 0, none⟩ (.slice none 0 0)).setCell ⟨pe, 0, none⟩ (.int .i64 91)).setCell ⟨pp, 0, none⟩ (.int .i64 at') := by
  have a0 := ha.c 0 _ rfl
  have l0 := hl.c 0 _ rfl
  have l1 := hl.fz 0
  have e0 := (he.setO (c := pl) (.slice none 0 0) n1).c 0 _ rfl
  have e1 := (he.setO (c := pl) (.slice none 0 0) n1).fz 0
  have p0 := ((hp.setO (c := pl) (.slice none 0 0) n2).setO (c := pe) (.int .i64 91) n3).c 0 _ rfl
  have p1 := ((hp.setO (c := pl) (.slice none 0 0) n2).setO (c := pe) (.int .i64 91) n3).fz 0
  clear ha hl he hp n1 n2 n3
  refine callsD_of_wpS Tryd.func26 rfl fun c₀ cs hu => ?_
  rw [show (#[.pointer (some ⟨pa, 0, none⟩), .pointer (some ⟨pl, 0, none⟩), .pointer (some ⟨pe, 0, none⟩), .pointer (some ⟨pp, 0, none⟩)] ++ Array.replicate (Tryd.f26.ntmps - (#[.pointer (some ⟨pa, 0, none⟩), .pointer (some ⟨pl, 0, none⟩), .pointer (some ⟨pe, 0, none⟩), .pointer (some ⟨pp, 0, none⟩)] : Array Value).size) undef : Array Value) = #[.pointer (some ⟨pa, 0, none⟩), .pointer (some ⟨pl, 0, none⟩), .pointer (some ⟨pe, 0, none⟩), .pointer (some ⟨pp, 0, none⟩), undef, undef, undef] from by rw [Tryd.ntmps26]; rfl]
  refine wpS_rec (v := pv) (cs' := { c₀ with mode := .panicking ({ v := pv, recovered := true } :: older) } :: cs) rfl (by kernel_rfl) (by rfl) (.inl (by simp [recoverD, hu, pv])) ?_
  unfold pv
  go_simp
  go_wp2
  exact ⟨rfl, _, rfl, .tuple #[], by simp [results, Tryd.results26], rfl, rfl, rfl⟩
theorem restU (pa pl pe pp : Nat) (w : World) :
    CallsD Tryd.prog 26 #[.pointer (some ⟨pa, 0, none⟩), .pointer (some ⟨pl, 0, none⟩), .pointer (some ⟨pe, 0, none⟩), .pointer (some ⟨pp, 0, none⟩)] .returning w fun e' u' w' => e' = .returned (.tuple #[]) ∧ u' = .returning ∧ w' = w := by
  refine callsD_of_wpS Tryd.func26 rfl fun c₀ cs hu => ?_
  rw [show (#[.pointer (some ⟨pa, 0, none⟩), .pointer (some ⟨pl, 0, none⟩), .pointer (some ⟨pe, 0, none⟩), .pointer (some ⟨pp, 0, none⟩)] ++ Array.replicate (Tryd.f26.ntmps - (#[.pointer (some ⟨pa, 0, none⟩), .pointer (some ⟨pl, 0, none⟩), .pointer (some ⟨pe, 0, none⟩), .pointer (some ⟨pp, 0, none⟩)] : Array Value).size) undef : Array Value) = #[.pointer (some ⟨pa, 0, none⟩), .pointer (some ⟨pl, 0, none⟩), .pointer (some ⟨pe, 0, none⟩), .pointer (some ⟨pp, 0, none⟩), undef, undef, undef] from by rw [Tryd.ntmps26]; rfl]
  refine wpS_rec (v := .nilIface) (cs' := c₀ :: cs) rfl (by kernel_rfl) (by rfl) (.inr ⟨by simp [recoverD, hu], rfl, rfl⟩) ?_
  go_simp
  go_wp2
  refine ⟨rfl, .returning, ?_, .tuple #[], by simp [results, Tryd.results26], rfl, rfl, rfl⟩
  cases c₀
  simp_all
/-- The face's own variables: the list, the error, the place, and how far it is. -/
def bsU (b0 b1 b2 b3 : Nat) (va : Value) (e p a : Int) : List (Nat × Array Value × TypeId) := [(b0, #[va], 22), (b1, #[.int .i64 e], 24), (b2, #[.int .i64 p], 3), (b3, #[.int .i64 a], 3)]
theorem startU (w : World) : Ct w (.slice none 0 0) (.slice none 0 0) [] [] (bsU w.heap.size (w.heap.size + 1) (w.heap.size + 1 + 1) (w.heap.size + 1 + 1 + 1) (.slice none 0 0) 0 0 0) ((((w.alloc (.cells #[.slice none 0 0] 22)).alloc (.cells #[.int .i64 0] 24)).alloc (.cells #[.int .i64 0] 3)).alloc (.cells #[.int .i64 0] 3)) := by
  have h := ((((Ct.nil w).new #[.slice none 0 0] 22).new #[.int .i64 0] 24).new #[.int .i64 0] 3).new #[.int .i64 0] 3
  simpa [bsU] using h
/-- Behind a panic that was caught. -/
theorem Ct.caught {w y : World} {va : Value} {O : List Rc} {b0 b1 b2 b3 : Nat} {e p a : Int} (h : Ct w va (.slice none 0 0) O [] (bsU b0 b1 b2 b3 va e p a) y) (e' p' : Int) :
    (((y.setCell ⟨b0, 0, none⟩ (.slice none 0 0)).setCell ⟨b1, 0, none⟩ (.int .i64 e')).setCell ⟨b2, 0, none⟩ (.int .i64 p')).cell? ⟨b0, 0, none⟩ = some (.slice none 0 0) ∧ (((y.setCell ⟨b0, 0, none⟩ (.slice none 0 0)).setCell ⟨b1, 0, none⟩ (.int .i64 e')).setCell ⟨b2, 0, none⟩ (.int .i64 p')).cell? ⟨b1, 0, none⟩ = some (.int .i64 e') ∧ (((y.setCell ⟨b0, 0, none⟩ (.slice none 0 0)).setCell ⟨b1, 0, none⟩ (.int .i64 e')).setCell ⟨b2, 0, none⟩ (.int .i64 p')).cell? ⟨b2, 0, none⟩ = some (.int .i64 p') ∧ Ct w (.slice none 0 0) (.slice none 0 0) [] [] [] (((y.setCell ⟨b0, 0, none⟩ (.slice none 0 0)).setCell ⟨b1, 0, none⟩ (.int .i64 e')).setCell ⟨b2, 0, none⟩ (.int .i64 p')) := by
  have h1 := ((h.fm.setCell 0 b0 _ #[.slice none 0 0] _ rfl 0 (.slice none 0 0) rfl).setCell 1 b1 _ #[.int .i64 e'] _ rfl 0 (.int .i64 e') rfl).setCell 2 b2 _ #[.int .i64 p'] _ rfl 0 (.int .i64 p') rfl
  exact ⟨(h1.bx 0 _ _ _ rfl).c 0 _ rfl, (h1.bx 1 _ _ _ rfl).c 0 _ rfl, (h1.bx 2 _ _ _ rfl).c 0 _ rfl, (Ct.nil w).below h1.low⟩
theorem bsU_ne {w y : World} {va : Value} {O : List Rc} {b0 b1 b2 b3 : Nat} {e p a : Int} (h : Ct w va (.slice none 0 0) O [] (bsU b0 b1 b2 b3 va e p a) y) : b1 ≠ b0 ∧ b2 ≠ b0 ∧ b2 ≠ b1 := ⟨fun x => by subst x; exact absurd (h.fm.ne 1 0 _ _ _ _ _ rfl rfl) (by decide), fun x => by subst x; exact absurd (h.fm.ne 2 0 _ _ _ _ _ rfl rfl) (by decide), fun x => by subst x; exact absurd (h.fm.ne 2 1 _ _ _ _ _ rfl rfl) (by decide)⟩
theorem OwnR.op {B : Nat} {w : World} {v : Value} {l : List Rc} (h : OwnR B w v l) : ∃ sp k cap, v = .slice sp k cap := by
  obtain ⟨a, b, c, _⟩ := h.open
  exact ⟨_, _, _, c⟩
theorem LiesB.drop {x : World} {g o : Nat} {l : List UInt8} (h : LiesB x (some ⟨g, o, none⟩) l) (a : Nat) : LiesB x (some ⟨g, o + a, none⟩) (l.drop a) := fun j b hj => by
  rw [List.getElem?_drop] at hj
  obtain ⟨g', o', e, c⟩ := h (a + j) b hj
  cases e
  exact ⟨g, o + a, rfl, by rw [Nat.add_assoc]; exact c⟩
theorem at_sl {ops : Array Oper} {rest : List Oper} {o : Oper} {a : Act} {w : World} {Q : Exit → Act → World → Prop} (t : TypeId) (x lo : Operand) (X L v : Value) (hg : Region.wanted o (yielded ops a.tmps) = true) (ho : o.op = .slice t x (some lo) none none) (hx : a.eval x = X) (hl : a.eval lo = L)
    (h : ∀ w, (Instr.sliceAt t X (some L) none none).run Tryd.prog w = .ok v w) (k : wpList Tryd.prog ops Q rest (a.put o.dst v) w) : wpList Tryd.prog ops Q (o :: rest) a w := by
  refine at_op v hg ?_ k
  unfold execOp
  simp only [ho, hx, hl, Option.map_some, Option.map_none, Sem.run_bind, h, Result.andThen_ok, Sem.run_pure]
theorem slU (g o n cap a : Nat) (ha : a ≤ n) (hn : n ≤ cap) : ∃ sp1, (∀ v, (Instr.sliceAt 23 (.slice (some ⟨g, o, none⟩) n cap) (some (.int .i64 (a : Int))) none none).run Tryd.prog v = .ok (.slice sp1 (n - a) (cap - a)) v) ∧ (a < n → sp1 = some ⟨g, o + a, none⟩) := by
  refine ⟨if cap = a then some ⟨g, o, none⟩ else (some (⟨g, o, none⟩ : Addr)).map (·.add (a * 1)), fun v => ?_, fun h => ?_⟩
  · have hu : Tryd.prog.underlying 23 = some (.slice (Tryd.prog.elem 23)) := by kernel_rfl
    rw [run_sliceAt_slice v _ _ _ _ _ hu, run_slice_l v _ _ _ _ hu .i64 (a : Int) (by omega) (by omega)]
    have hz : ∀ v, (sizeOf (Tryd.prog.elem 23)).run Tryd.prog v = .ok 1 v := fun v => by kernel_rfl
    rw [hz]
    simp only [Result.andThen_ok, sliced, Int.toNat_natCast]
  · rw [if_neg (by omega)]
    simp [Addr.add_lit]
theorem Ct.made {w y y1 : World} {bs : List (Nat × Array Value × TypeId)} {c : Nat} (h : Ct w (.slice none 0 0) (.slice none 0 0) [] [] bs y) (ho : y1.ownsRow w.heap.size 45 8 (.slice (some ⟨y.heap.size, 0, none⟩) 0 c) 0 []) (hg : y.grownBy y1 none) : Ct w (.slice (some ⟨y.heap.size, 0, none⟩) 0 c) (.slice none 0 0) [] [] bs y1 := by
  have hb : Below y.heap.size y y1 := ⟨hg.os, hg.tape, hg.output, hg.size, fun k hk => hg.block k hk (by simp)⟩
  refine ⟨h.fm.below hb, ho, OwnR.nil _ _, fun g _ => by simp [Value.ownBlock], fun i b cs t e => ⟨fun e1 => ?_, by simp [Value.ownBlock]⟩⟩
  have h1 := heap_lt (h.fm.get i b cs t e)
  simp [Value.ownBlock] at e1
  omega
end Go.Proofs.YtoajmicdphffnabDoor
