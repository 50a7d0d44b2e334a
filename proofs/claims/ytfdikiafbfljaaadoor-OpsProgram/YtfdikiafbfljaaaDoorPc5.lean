/- Two rows of bytes side by side; a text's bytes put behind a row; whether two rows are the same. -/
import Derived.Test.YtfdikiafbfljaaaDoorPc3
import Derived.Test.YtfdikiafbfljaaaDoorPc4
import Derived.Lib.AppendStr
namespace Go.Proofs.YtfdikiafbfljaaaDoor
open Go Go.RowKit
set_option linter.unusedVariables false
set_option maxHeartbeats 1000000
set_option maxRecDepth 20000

theorem strCells_row (s : ByteArray) : Lib.strCells s = rowL cU (strL s) := by
  unfold Lib.strCells rowL strL
  generalize s.data.toList = l
  induction l with
  | nil => rfl
  | cons b l ih =>
    rw [List.map_cons, ih]
    rfl
/-- What a text's bytes put behind a row leave. -/
structure ApS (w : World) (B : Nat) (v : Value) (l us : List UInt8) (v' : Value) (w' : World) : Prop where
  own : OwnL 5 1 cU B w' v' (l ++ us)
  new : ∀ g, v'.ownBlock = some g → v.ownBlock = some g ∨ w.heap.size ≤ g
  gr : w.grownBy w' v.ownBlock
theorem run_appS (w : World) (B : Nat) (v : Value) (l : List UInt8) (ty : TypeId) (hown : OwnL 5 1 cU B w v l) (s : ByteArray) (hn : l.length + s.size ≤ 100000000) (hB : B ≤ w.heap.size) :
    ∃ v' w', (Builtin.append_ #[37, 9] ty #[v, .string s]).run Tryd.prog w = .ok v' w' ∧ ApS w B v l (strL s) v' w' := by
  obtain ⟨i, hi, hz0, hz1, hz2⟩ := info_parts infoU
  have h63 : l.length + s.size ≤ maxLen := by unfold maxLen; omega
  have hb : l.length + s.size ≤ 140737488355328 := by omega
  have fin : ∀ (B' : Nat) (v' : Value) (w' : World), w'.ownsRow B' 5 1 v' (l.length + s.size) (rowL cU l ++ Lib.strCells s) → OwnL 5 1 cU B' w' v' (l ++ strL s) := fun B' v' w' h => by
    unfold OwnL
    rw [rowL_app, List.length_append, strL_len, ← strCells_row]
    exact h
  have hown' := hown
  rcases hown.2 with ⟨rfl, h0⟩ | ⟨g, cap, cur, rfl, hbg, hg, hnc, hcm, hcs, htake⟩
  · have hl : l = [] := List.eq_nil_of_length_eq_zero h0
    subst hl
    obtain ⟨v', w', hr, h2, h3, _⟩ := Lib.run_append_own_string (P := Tryd.prog) w w.heap.size 37 9 ty 5 i Tryd.underlying37 Tryd.underlying9 hi hz0 hz1 hz2 (.slice none 0 0) 0 [] (World.ownsRow_nil w _ _ 1) s (by simpa using h63) (by simpa using hb) (Nat.le_refl _)
    have ho := fin w.heap.size v' w' (by rw [show rowL cU [] = [] from rfl]; simpa using h2)
    exact ⟨v', w', hr, ho.weak hB, fun g e => .inr (ho.lt g e).1, h3⟩
  · obtain ⟨v', w', hr, h2, h3, _⟩ := Lib.run_append_own_string (P := Tryd.prog) w B 37 9 ty 5 i Tryd.underlying37 Tryd.underlying9 hi hz0 hz1 hz2 (.slice (some ⟨g, 0, none⟩) l.length cap) l.length (rowL cU l) hown' s h63 hb hB
    refine ⟨v', w', hr, fin B v' w' h2, fun q e => ?_, h3⟩
    by_cases hroom : l.length + s.size ≤ cap
    · have hr2 := Lib.run_append_room_string (P := Tryd.prog) w 37 9 ty 5 i Tryd.underlying37 Tryd.underlying9 hi hz1 g l.length cap cur hg s hroom (by omega)
      rw [hr2] at hr
      injection hr with e1 e2
      rw [← e1] at e
      exact .inl e
    · have holds : ∀ j u, (rowL cU l)[j]? = some u → w.cell? ((⟨g, 0, none⟩ : Addr).add j) = some u := World.ownsRow.cells (g := g) hown' rfl
      have hr2 := Lib.run_append_grow_string (P := Tryd.prog) w 37 9 ty 5 i (.int .u8 0) Tryd.underlying37 Tryd.underlying9 hi hz0 ⟨g, 0, none⟩ l.length cap (rowL cU l) (by rw [rowL_len kU.len, hz1]) holds s (by omega) (by omega) (by rw [hz2]; exact growslice_fits (by omega) (by omega))
      rw [hr2] at hr
      injection hr with e1 e2
      rw [← e1] at e
      simp [Value.ownBlock] at e
      exact .inr (by omega)
theorem at_appS {ops : Array Oper} {rest : List Oper} {o : Oper} {a : Act} {w : World} {Q : Exit → Act → World → Prop} (hgd : o.guard = none) (sl x : Operand)
    (ho : o.op = .call { callee := .builtin .append, args := #[sl, x], argTypes := #[37, 9] }) (B : Nat) (v : Value) (l : List UInt8) (hs : a.eval sl = v) (hown : OwnL 5 1 cU B w v l)
    (s : ByteArray) (hx : a.eval x = .string s) (hn : l.length + s.size ≤ 100000000) (hB : B ≤ w.heap.size)
    (k : ∀ v' w', Hid (ApS w B v l (strL s) v' w') → wpList Tryd.prog ops Q rest (a.put o.dst v') w') : wpList Tryd.prog ops Q (o :: rest) a w := by
  refine wpList_plain hgd fun K hK => ?_
  obtain ⟨v', w', hr, h2⟩ := run_appS w B v l o.type hown s hn hB
  unfold Oper.wp execOp
  simp only [ho, resolve, invoke, builtin, Sem.run_bind, Sem.run_pure, Result.andThen_ok, List.map_toArray, List.map_cons, List.map_nil, hs, hx, hr]
  exact hK _ _ (k v' w' h2)
/-- Two rows of bytes, each its own. -/
structure Tw (w : World) (vT vW : Value) (tx wt : List UInt8) (y : World) : Prop where
  ot : OwnL 5 1 cU w.heap.size y vT tx
  ow : OwnL 5 1 cU w.heap.size y vW wt
  ne : ∀ g, vT.ownBlock = some g → vW.ownBlock ≠ some g
  low : Below w.heap.size w y
theorem Tw.nil (w : World) : Tw w (.slice none 0 0) (.slice none 0 0) [] [] w := ⟨OwnL.nil _ _, OwnL.nil _ _, fun g e => by simp [Value.ownBlock] at e, Below.refl _ _⟩
theorem Tw.below {w : World} {vT vW : Value} {tx wt : List UInt8} {y z : World} (h : Tw w vT vW tx wt y) (hb : Below y.heap.size y z) : Tw w vT vW tx wt z := ⟨h.ot.below hb, h.ow.below hb, h.ne, h.low.trans (hb.mono h.low.size)⟩
theorem Tw.swap {w : World} {vT vW : Value} {tx wt : List UInt8} {y : World} (h : Tw w vT vW tx wt y) : Tw w vW vT wt tx y := ⟨h.ow, h.ot, fun g e1 e2 => h.ne g e2 e1, h.low⟩
theorem Tw.of {w : World} {vT vW v' : Value} {tx wt tx' : List UInt8} {y y' : World} (h : Tw w vT vW tx wt y) (own : OwnL 5 1 cU w.heap.size y' v' tx') (new : ∀ g, v'.ownBlock = some g → vT.ownBlock = some g ∨ y.heap.size ≤ g)
    (blk : ∀ g, g < y.heap.size → vT.ownBlock ≠ some g → y'.heap[g]? = y.heap[g]?) (low : Below w.heap.size w y') : Tw w v' vW tx' wt y' := by
  refine ⟨own, h.ow.keepB fun g e => blk g (h.ow.lt g e).2 fun e' => h.ne g e' e, fun g e e2 => ?_, low⟩
  rcases new g e with e1 | e1
  · exact h.ne g e1 e2
  · have := (h.ow.lt g e2).2; omega
theorem Tw.addS {w : World} {vT vW v' : Value} {tx wt us : List UInt8} {y y' : World} (h : Tw w vT vW tx wt y) (a : ApS y w.heap.size vT tx us v' y') : Tw w v' vW (tx ++ us) wt y' :=
  h.of a.own a.new (fun g hg e => a.gr.block g hg fun e' => e e'.symm) (h.low.grown a.gr h.low.size (fun k e => (h.ot.lt k e).1))
theorem Tw.add1 {w : World} {vT vW v' : Value} {tx wt : List UInt8} {x : UInt8} {y y' : World} (h : Tw w vT vW tx wt y) (a : App1L 5 1 cU w.heap.size vT tx x v' y y') : Tw w v' vW (tx ++ [x]) wt y' :=
  h.of a.own a.new (fun g hg e => a.cu.blk g hg fun j hF => e hF.1) (h.low.trans a.cu.low)
theorem Tw.addN {w : World} {vT vW v' : Value} {tx wt us : List UInt8} {y y' : World} (h : Tw w vT vW tx wt y) (a : AppNL 5 1 cU w.heap.size vT tx us v' y y') : Tw w v' vW (tx ++ us) wt y' :=
  h.of a.own a.new (fun g hg e => a.cu.blk g hg fun j hF => e hF.1) (h.low.trans a.cu.low)
/-- A row of bytes in memory, one by one. -/
theorem byte_at {w : World} {sp : Option Addr} {l : List UInt8} (h : LiesL 1 cU w sp l) (k : Nat) (b : UInt8) (hk : l[k]? = some b) : ∃ g o, sp = some ⟨g, o, none⟩ ∧ w.cell? ⟨g, o + k, none⟩ = some (byV b) := by
  obtain ⟨g, o, e, h1⟩ := h k b hk
  refine ⟨g, o, e, ?_⟩
  have h2 := h1 0 (byV b) rfl
  rwa [Nat.mul_one, Nat.add_zero] at h2
theorem same16_true (w : World) (spa spb : Option Addr) (ca cb n : Nat) (l : List UInt8) (hl : Hid (l.length = n)) (hn : (n : Int) ≤ 4000000000) (ha : Hid (LiesL 1 cU w spa l)) (hb : Hid (LiesL 1 cU w spb l)) :
    Calls Tryd.prog 11 #[.slice spa n ca, .slice spb n cb] w fun e w' => e = .returned (.bool true) ∧ Below w.heap.size w w' := by
  have q1 : ((n : Int) != (n : Int)) = false := by simp
  go_enter Tryd.func11, Tryd.ntmps11
  go_wp2
  go_loopw [5] (fun i wz => ∃ (k : Nat) (y : World), y = wz ∧ k ≤ n ∧ i = .int .i64 (k : Int) ∧ Hid (Below w.heap.size w y)) (fun i _ => (n - intOf i).toNat)
  case atStart => exact ⟨0, w, rfl, Nat.zero_le _, rfl, Below.refl _ _⟩
  case round =>
    obtain ⟨k, y, rfl, hk, rfl, K⟩ := hrel
    by_cases hlt : k < n
    · have hki : (k : Int) < n := by omega
      obtain ⟨b, hkb⟩ : ∃ b, l[k]? = some b := ⟨_, List.getElem?_eq_getElem (by rw [hl.out]; exact hlt)⟩
      obtain ⟨ga, oa, rfl, c1⟩ := byte_at ha.out k b hkb
      obtain ⟨gb, ob, rfl, c2⟩ := byte_at hb.out k b hkb
      replace c1 := (K.out.cell (World.block_lt_of_cell? w _ c1)).trans c1
      replace c2 := (K.out.cell (World.block_lt_of_cell? w _ c2)).trans c2
      unfold byV at c1 c2
      obtain ⟨bn, hbn⟩ : ∃ bn : Int, (b.toNat : Int) = bn := ⟨_, rfl⟩
      rw [hbn] at c1 c2
      have ia := fun v => idxP (P := Tryd.prog) (t := 37) (e := 5) (s := 1) (g := ga) (off := oa) (len := n) (cap := ca) Tryd.underlying37 (by kernel_rfl) .i64 k v hlt
      have ib := fun v => idxP (P := Tryd.prog) (t := 37) (e := 5) (s := 1) (g := gb) (off := ob) (len := n) (cap := cb) Tryd.underlying37 (by kernel_rfl) .i64 k v hlt
      have q2 : (bn != bn) = false := by simp
      have hlt' : Hid (k < n) := hlt
      have K2 : Hid (Below w.heap.size w y) := K
      rw [Nat.mul_one] at ia ib
      clear hlt hkb hbn ha hb
      go_wp2
      go_quiet (fail)
      go_wp2
      go_roundw
      case rel => exact ⟨k + 1, _, rfl, hlt'.out, by simp, by first | exact K2.out.trans (below_drewN (Below.refl _ _)) | exact below_drewN K2.out | exact K2.out⟩
      case measure => have := hlt'.out; simp [intOf]; omega
    · have hke : k = n := by omega
      subst hke
      clear hlt
      go_wp2
      go_ret
      exact ⟨rfl, K.out⟩
end Go.Proofs.YtfdikiafbfljaaaDoor
