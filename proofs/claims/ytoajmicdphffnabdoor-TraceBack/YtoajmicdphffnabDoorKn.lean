/- The record that begins at a place: what is asked; none is there whole. -/
import Derived.Test.YtoajmicdphffnabDoorKp
namespace Go.Proofs.YtoajmicdphffnabDoor
open Go Go.RowKit
set_option linter.unusedVariables false
set_option maxHeartbeats 20000000
set_option maxRecDepth 20000

/-- Bytes that lie in a row. -/
def LiesB (x : World) (sp : Option Addr) (l : List UInt8) : Prop := ∀ j b, l[j]? = some b → ∃ g o, sp = some ⟨g, o, none⟩ ∧ x.cell? ⟨g, o + j, none⟩ = some (byV b)
theorem LiesB.below {x y : World} {sp : Option Addr} {l : List UInt8} (h : LiesB x sp l) (hb : Below x.heap.size x y) : LiesB y sp l := fun j s hj => by
  obtain ⟨g, o, e, c⟩ := h j s hj
  exact ⟨g, o, e, (hb.cell (p := ⟨g, o + j, none⟩) (World.block_lt_of_cell? x _ c)).trans c⟩
def oneK : Option (Rc × Nat) → Int
  | none => 0
  | some x => (x.2 : Int)
theorem built7 (a b c : Int) (p q r : Bool) (d : Int) : Tryd.prog.built 45 [(0, .int .u8 a), (3, .bool p), (4, .bool q), (6, .bool r), (7, .int .u8 d), (1, .int .u16 b), (2, .int .u8 c)] = some (rcC ⟨a, b, c, p, q, 0, r, d⟩) := by kernel_rfl
theorem idxB (g o n cap k : Nat) (h : k < n) (v : World) : (Instr.indexAt 23 (.slice (some ⟨g, o, none⟩) n cap) (.int .i64 (k : Int))).run Tryd.prog v = .ok (.pointer (some ⟨g, o + k, none⟩)) v := by
  have := idxP (g := g) (off := o) (len := n) (cap := cap) Tryd.underlying23 (s := 1) (by kernel_rfl) .i64 k v h
  rw [Nat.mul_one] at this
  exact this
theorem one_none (l : List UInt8) (next : Int) (h : ∀ x t, l = x :: t → t.length < (if 128 ≤ x.toNat then 4 else 1)) : oneR l next = none := by
  match l, h with
  | [], _ => rfl
  | x :: t, h =>
    have h1 := h x t rfl
    simp only [oneR]
    by_cases hx : 128 ≤ x.toNat
    · rw [if_pos hx] at h1 ⊢
      match t, h1 with
      | [], _ => rfl
      | [_], _ => rfl
      | [_, _], _ => rfl
      | [_, _, _], _ => rfl
      | _ :: _ :: _ :: _ :: _, h1 => simp at h1; omega
    · rw [if_neg hx] at h1 ⊢
      match t, h1 with
      | [], _ => rfl
      | _ :: _, h1 => simp at h1
theorem get_drop {l : List UInt8} {k : Nat} (h : k < l.length) : ∃ x, l[k]? = some x ∧ l.drop k = x :: l.drop (k + 1) := ⟨l[k], List.getElem?_eq_getElem h, List.drop_eq_getElem_cons h⟩
end Go.Proofs.YtoajmicdphffnabDoor
