/- The register that gives an address. Drive's frames; the byte that the processor puts on the bus itself. -/
import Derived.Test.YtbeeefekndcgnaaGreatDoorCy
import Derived.Test.YtbeeefekndcgnaaGreatDoorPl
import Derived.Test.YtbeeefekndcgnaaGreatDoorInfo
import Derived.Test.YtbeeefekndcgnaaGreatDoorDr
import Derived.Test.YtbeeefekndcgnaaGreatDoorYk
import Derived.Test.YtbeeefekndcgnaaGreatDoorBus
namespace Go.Proofs.YtbeeefekndcgnaaGreatDoor
open Go Go.RowKit
set_option linter.unusedVariables false
set_option maxHeartbeats 1000000
set_option maxRecDepth 20000

theorem ypointed (w : World) (c : Cp) (hc : c.wf) (hP : c.P < 16) (hX : c.X < 16) (k : Int) (hk : 0 ≤ k ∧ k ≤ 4) : Calls Tryz.prog 36 #[.agg (cpC c), .int .u8 k] w fun e w' => e = .returned (.int .u16 (addrM c k)) ∧ Below w.heap.size w w' := by
  obtain ⟨q, hq⟩ : ∃ q, c.Op % 16 = q := ⟨_, rfl⟩
  have hq16 : q < 16 := by omega
  have hl : bits .and .u8 (c.Op : Int) 15 = (q : Int) := by rw [low4 c.Op hc.Op]; omega
  unfold addrM
  rw [hq]
  have c18 : (cpC c)[18]? = some (.int .u8 (c.P : Int)) := rfl
  have c19 : (cpC c)[19]? = some (.int .u8 (c.X : Int)) := rfl
  have c23 : (cpC c)[23]? = some (.int .u8 (c.Op : Int)) := rfl
  have r0 : (cpC c)[0]? = some (.int .u16 (c.R 0)) := rfl
  have r2 : (cpC c)[2]? = some (.int .u16 (c.R 2)) := rfl
  have rP := cpC_R c c.P hP
  have rX := cpC_R c c.X hX
  have rq := cpC_R c q hq16
  have iP := fun v => idx (g := w.heap.size) (off := 0) (N := 16) Tryz.underlying23 infoR .u8 c.P v hP
  have iX := fun v => idx (g := w.heap.size) (off := 0) (N := 16) Tryz.underlying23 infoR .u8 c.X v hX
  have iq := fun v => idx (g := w.heap.size) (off := 0) (N := 16) Tryz.underlying23 infoR .u8 q v hq16
  simp only [Nat.zero_add, Nat.mul_one] at iP iX iq
  clear hq hc hP hX hq16
  rcases (show k = 0 ∨ k = 1 ∨ k = 2 ∨ k = 3 ∨ k = 4 by omega) with rfl | rfl | rfl | rfl | rfl
  all_goals
    go_enter Tryz.func36, Tryz.ntmps36
    go_wp2
    go_ret
    refine ⟨by first | rfl | simp, ?_⟩
    repeat (first | exact Below.refl _ _ | refine below_put ?_ (Nat.le_refl _) | refine below_put ?_ (Nat.le_succ _) | refine below_drewN ?_ | refine Below.alloc ?_ (Nat.le_refl _) _ | refine Below.alloc ?_ (by simp) _)
end Go.Proofs.YtbeeefekndcgnaaGreatDoor

namespace Go.Proofs.YtbeeefekndcgnaaGreatDoor
open Go Go.RowKit
set_option linter.unusedVariables false
set_option maxHeartbeats 1000000
set_option maxRecDepth 20000

def useC (a : Int) (r w o : Bool) (t : Int) : Array Value := #[.int .u8 a, .bool r, .bool w, .bool o, .int .u8 t]
def BoxU (x : World) (b : Nat) (a : Int) (r w o : Bool) (t : Int) : Prop := x.heap[b]? = some (.cells (useC a r w o t) 64 (0, 0))
theorem useC_one (a : Int) (r w o : Bool) (t : Int) : (useC a r w o t).all (·.oneCell') = true := by simp [useC, Value.oneCell']
theorem zeroVU (w : World) : (zeroValue 64).run Tryz.prog w = .ok (.agg (useC 0 false false false 0)) w := by kernel_rfl
theorem infoU : (Tryz.prog.info? 64).map (·.size) = some 5 := by kernel_rfl
theorem BoxU.f {x : World} {b : Nat} {a t : Int} {r w o : Bool} (h : BoxU x b a r w o t) (i : Nat) (v : Value) (hv : (useC a r w o t)[i]? = some v) : x.cell? ⟨b, i, none⟩ = some v := (cell_heap h i).trans hv
theorem BoxU.f0 {x : World} {b : Nat} {a t : Int} {r w o : Bool} (h : BoxU x b a r w o t) : x.cell? ⟨b, 0, none⟩ = some (.int .u8 a) := h.f 0 _ rfl
theorem BoxU.f1 {x : World} {b : Nat} {a t : Int} {r w o : Bool} (h : BoxU x b a r w o t) : x.cell? ⟨b, 1, none⟩ = some (.bool r) := h.f 1 _ rfl
theorem BoxU.f2 {x : World} {b : Nat} {a t : Int} {r w o : Bool} (h : BoxU x b a r w o t) : x.cell? ⟨b, 2, none⟩ = some (.bool w) := h.f 2 _ rfl
theorem BoxU.f3 {x : World} {b : Nat} {a t : Int} {r w o : Bool} (h : BoxU x b a r w o t) : x.cell? ⟨b, 3, none⟩ = some (.bool o) := h.f 3 _ rfl
theorem BoxU.f4 {x : World} {b : Nat} {a t : Int} {r w o : Bool} (h : BoxU x b a r w o t) : x.cell? ⟨b, 4, none⟩ = some (.int .u8 t) := h.f 4 _ rfl
theorem at_storeU {ops : Array Oper} {rest : List Oper} {o : Oper} {a : Act} {w : World} {Q : Exit → Act → World → Prop} (b : Nat) (u u' : Array Value) (hs : u.size = u'.size) (h5 : u'.size = 5) (h1 : u'.all (·.oneCell') = true) (h : Hid (w.heap[b]? = some (.cells u 64 (0, 0)))) (x y : Operand) (hgd : o.guard = none) (ho : o.op = .store 64 x y) (hx : a.eval x = .pointer (some ⟨b, 0, none⟩)) (hy : a.eval y = .agg u')
    (k : ∀ w', Hid (w'.heap[b]? = some (.cells u' 64 (0, 0)) ∧ (∀ B, B ≤ b → Below B w w') ∧ ∀ q, q ≠ b → w'.heap[q]? = w.heap[q]?) → wpList Tryz.prog ops Q rest (a.put o.dst undef) w') : wpList Tryz.prog ops Q (o :: rest) a w :=
  wpList_store_row hgd 64 x y ho b u' hx hy 64 u h.out (by rw [h5]; exact infoU) hs h1 (k _ ⟨setRow_heap w b _ _ 64 _ h.out, fun B hB => ⟨rfl, rfl, rfl, by simp, fun q hq => setRow_other w b q _ (by omega)⟩, fun q hq => setRow_other w b q _ hq⟩)
theorem pbus_eq (n : Nat) (b : Bool) (h : n < 256) (hb : b = true → n / 16 = 12) : pbusV n b = .agg (useC (rptI n) (rrdB n) (rwrB n) (rowB n) (if n / 16 = 6 then ((n % 8 : Nat) : Int) else 0)) := by
  have e : ∀ n : Nat, n < 256 → ((useN (ku n) : Nat) : Int) = rptI n ∧ useR (ku n) = rrdB n ∧ useW (ku n) = rwrB n ∧ useO (ku n) = rowB n := by decide +kernel
  obtain ⟨e0, e1, e2, e3⟩ := e n h
  unfold pbusV useC
  rw [if_neg (by rintro ⟨h1, h2⟩; exact h2 (hb h1)), e0, e1, e2, e3]
  by_cases h6 : n / 16 = 6
  · rw [if_pos h6, if_pos h6]
  · rw [if_neg h6, if_neg h6]; rfl
theorem rptI_le (n : Nat) (h : n < 256) : 0 ≤ rptI n ∧ rptI n ≤ 4 := by
  have e : ∀ n : Nat, n < 256 → 0 ≤ rptI n ∧ rptI n ≤ 4 := by decide +kernel
  exact e n h
structure Gu (w : World) (b0 : Nat) (c : Cp) (b2 : Nat) (z : Dv) (bu : Nat) (u : Array Value) (y : World) : Prop where
  f : Ge w b0 c b2 z y
  u : y.heap[bu]? = some (.cells u 64 (0, 0))
  lu : w.heap.size ≤ bu
  n0 : b0 ≠ bu
  n2 : b2 ≠ bu
theorem Gu.new {w : World} {b0 b2 : Nat} {c : Cp} {z : Dv} {y : World} (h : Ge w b0 c b2 z y) (u : Array Value) : Gu w b0 c b2 z y.heap.size u (y.alloc (.cells u 64)) := by
  have h0 := heap_lt h.c
  have h2 := heap_lt h.z
  exact ⟨h.below ((Below.refl _ _).alloc (Nat.le_refl _) _), alloc_last' y _, h.low.size, by omega, by omega⟩
theorem Gu.below {w : World} {b0 b2 bu : Nat} {c : Cp} {z : Dv} {u : Array Value} {y y' : World} (h : Gu w b0 c b2 z bu u y) (hb : Below y.heap.size y y') : Gu w b0 c b2 z bu u y' := ⟨h.f.below hb, (hb.block bu (heap_lt h.u)).trans h.u, h.lu, h.n0, h.n2⟩
theorem Gu.putU {w : World} {b0 b2 bu : Nat} {c : Cp} {z : Dv} {u u' : Array Value} {y y' : World} (h : Gu w b0 c b2 z bu u y) (k : y'.heap[bu]? = some (.cells u' 64 (0, 0)) ∧ (∀ B, B ≤ bu → Below B y y') ∧ ∀ q, q ≠ bu → y'.heap[q]? = y.heap[q]?) : Gu w b0 c b2 z bu u' y' :=
  ⟨⟨(k.2.2 b0 h.n0).trans h.f.c, (k.2.2 b2 h.n2).trans h.f.z, h.f.low.trans (k.2.1 _ h.lu), h.f.l0, h.f.l2, h.f.ne⟩, k.1, h.lu, h.n0, h.n2⟩
structure Gv (w : World) (b0 : Nat) (c : Cp) (b2 : Nat) (z : Dv) (bu : Nat) (u : Array Value) (bl : Nat) (l : Dv) (y : World) : Prop where
  g : Gu w b0 c b2 z bu u y
  l : BoxD y bl l
  ll : w.heap.size ≤ bl
  n0 : b0 ≠ bl
  n2 : b2 ≠ bl
  nu : bu ≠ bl
theorem Gv.new {w : World} {b0 b2 bu : Nat} {c : Cp} {z : Dv} {u : Array Value} {y : World} (h : Gu w b0 c b2 z bu u y) (l : Dv) : Gv w b0 c b2 z bu u y.heap.size l (y.alloc (.cells (dvC l) 33)) := by
  have h0 := heap_lt h.f.c
  have h2 := heap_lt h.f.z
  have h3 := heap_lt h.u
  exact ⟨h.below ((Below.refl _ _).alloc (Nat.le_refl _) _), BoxD.new y l, h.f.low.size, by omega, by omega, by omega⟩
theorem Gv.below {w : World} {b0 b2 bu bl : Nat} {c : Cp} {z l : Dv} {u : Array Value} {y y' : World} (h : Gv w b0 c b2 z bu u bl l y) (hb : Below y.heap.size y y') : Gv w b0 c b2 z bu u bl l y' := ⟨h.g.below hb, h.l.below hb, h.ll, h.n0, h.n2, h.nu⟩
theorem Gv.putL {w : World} {b0 b2 bu bl : Nat} {c : Cp} {z l l' : Dv} {u : Array Value} {y y' : World} (h : Gv w b0 c b2 z bu u bl l y) (k : BoxD y' bl l' ∧ (∀ B, B ≤ bl → Below B y y') ∧ ∀ q, q ≠ bl → y'.heap[q]? = y.heap[q]?) : Gv w b0 c b2 z bu u bl l' y' :=
  ⟨⟨⟨(k.2.2 b0 h.n0).trans h.g.f.c, (k.2.2 b2 h.n2).trans h.g.f.z, h.g.f.low.trans (k.2.1 _ h.ll), h.g.f.l0, h.g.f.l2, h.g.f.ne⟩, (k.2.2 bu h.nu).trans h.g.u, h.g.lu, h.g.n0, h.g.n2⟩, k.1, h.ll, h.n0, h.n2, h.nu⟩
theorem Gv.setL {w : World} {b0 b2 bu bl : Nat} {c : Cp} {z l l' : Dv} {u : Array Value} {y : World} (h : Gv w b0 c b2 z bu u bl l y) (i : Nat) (v : Value) (hv : (dvC l).setIfInBounds i v = dvC l') : Gv w b0 c b2 z bu u bl l' (y.setCell ⟨bl, i, none⟩ v) :=
  ⟨⟨⟨(heap_setCell_other y ⟨bl, i, none⟩ b0 v h.n0).trans h.g.f.c, (heap_setCell_other y ⟨bl, i, none⟩ b2 v h.n2).trans h.g.f.z, h.g.f.low.setCell (p := ⟨bl, i, none⟩) h.ll v, h.g.f.l0, h.g.f.l2, h.g.f.ne⟩, (heap_setCell_other y ⟨bl, i, none⟩ bu v h.nu).trans h.g.u, h.g.lu, h.g.n0, h.g.n2⟩, h.l.set i v hv, h.ll, h.n0, h.n2, h.nu⟩
def OwnOf (c : Cp) : Prop := ∃ (Fn : Nat) (g0 g1 : Value), (∀ v, (Instr.index 70 (.agg rtab) (.int .u8 ((c.Op / 16 : Nat) : Int))).run Tryz.prog v = .ok (.agg #[g0, g1, .func (.func Fn) #[] #[]]) v) ∧ (∀ v, Sem.run Tryz.prog (callFunc Fn #[.agg (cyC c zeroP)]) v = .ok (.enter Fn #[.agg (cyC c zeroP)]) v)
  ∧ ∀ v, Calls Tryz.prog Fn #[.agg (cyC c zeroP)] v fun e w' => e = .returned (.int .u8 (ownM c)) ∧ Below v.heap.size v w'
theorem zeroP_wf : zeroP.wf := ⟨by decide, by decide⟩
theorem yownof (c : Cp) (hc : c.wf) (hP : c.P < 16) (hX : c.X < 16) (hw : rowB c.Op = true) : OwnOf c := by
  have ho := hc.Op
  have hz := zeroP_wf
  have hk : c.Op = 115 ∨ c.Op = 120 ∨ c.Op = 121 ∨ c.Op / 16 = 5 ∨ c.Op / 16 = 8 ∨ c.Op / 16 = 9 ∨ c.Op / 16 = 10 ∨ c.Op / 16 = 11 ∨ c.Op / 16 = 13 ∨ c.Op / 16 = 14 := by
    unfold rowB rwrB at hw
    simp only [decide_eq_true_eq] at hw
    omega
  unfold OwnOf ownM
  rcases hk with h | h | h | h | h | h | h | h | h | h
  · rw [h]; exact ⟨61, (.func (.func 60) #[] #[]), .nilFunc, fun v => by kernel_rfl, fun v => by kernel_rfl, fun v => ysaved2 v c hc zeroP hz hP hX (by omega)⟩
  · rw [h]; exact ⟨61, (.func (.func 60) #[] #[]), .nilFunc, fun v => by kernel_rfl, fun v => by kernel_rfl, fun v => ysaved0 v c hc zeroP hz hP hX h⟩
  · rw [h]; exact ⟨61, (.func (.func 60) #[] #[]), .nilFunc, fun v => by kernel_rfl, fun v => by kernel_rfl, fun v => ysaved1 v c hc zeroP hz hP hX h⟩
  · simp only [h]; exact ⟨58, (.func (.func 57) #[] #[]), .nilFunc, fun v => by kernel_rfl, fun v => by kernel_rfl, fun v => yacc v c hc zeroP hz⟩
  · simp only [h]; exact ⟨63, (.func (.func 62) #[] #[]), .nilFunc, fun v => by kernel_rfl, fun v => by kernel_rfl, fun v => ylow v c hc zeroP hz⟩
  · simp only [h]; exact ⟨65, (.func (.func 64) #[] #[]), .nilFunc, fun v => by kernel_rfl, fun v => by kernel_rfl, fun v => yhigh v c hc zeroP hz⟩
  · simp only [h]; exact ⟨58, (.func (.func 66) #[] #[]), .nilFunc, fun v => by kernel_rfl, fun v => by kernel_rfl, fun v => yacc v c hc zeroP hz⟩
  · simp only [h]; exact ⟨58, (.func (.func 67) #[] #[]), .nilFunc, fun v => by kernel_rfl, fun v => by kernel_rfl, fun v => yacc v c hc zeroP hz⟩
  · simp only [h]; exact ⟨71, (.func (.func 70) #[] #[]), .nilFunc, fun v => by kernel_rfl, fun v => by kernel_rfl, fun v => ytwice v c hc zeroP hz⟩
  · simp only [h]; exact ⟨71, (.func (.func 72) #[] #[]), .nilFunc, fun v => by kernel_rfl, fun v => by kernel_rfl, fun v => ytwice v c hc zeroP hz⟩
end Go.Proofs.YtbeeefekndcgnaaGreatDoor
