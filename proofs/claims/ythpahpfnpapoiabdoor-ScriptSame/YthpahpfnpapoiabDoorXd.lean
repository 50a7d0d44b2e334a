/- Rows of spans in memory; whether a script may be, how many cycles it has, by the document. -/
import Derived.Test.YthpahpfnpapoiabDoorXb
namespace Go.Proofs.YthpahpfnpapoiabDoor
open Go Go.RowKit
set_option linter.unusedVariables false
set_option maxHeartbeats 400000
set_option maxRecDepth 20000

def spC (s : Sn) : Array Value := #[.int .i64 s.c, .int .u16 s.a.Ke, .bool s.a.Ta, .bool s.a.Fl, .bool s.a.DI, .bool s.a.DO, .bool s.a.In, .bool s.a.Cl, .bool s.a.Wa, .int .u8 s.a.Bu]
theorem spC_size (s : Sn) : (spC s).size = 10 := rfl
theorem spC_one (s : Sn) : (spC s).all (·.oneCell') = true := by simp [spC, Value.oneCell']
theorem spC_c (s : Sn) : (spC s)[0]? = some (.int .i64 s.c) := rfl
theorem spC_Ke (s : Sn) : (spC s)[1]? = some (.int .u16 s.a.Ke) := rfl
theorem spC_Ta (s : Sn) : (spC s)[2]? = some (.bool s.a.Ta) := rfl
theorem spC_Fl (s : Sn) : (spC s)[3]? = some (.bool s.a.Fl) := rfl
theorem spC_DI (s : Sn) : (spC s)[4]? = some (.bool s.a.DI) := rfl
theorem spC_DO (s : Sn) : (spC s)[5]? = some (.bool s.a.DO) := rfl
theorem spC_In (s : Sn) : (spC s)[6]? = some (.bool s.a.In) := rfl
theorem spC_Cl (s : Sn) : (spC s)[7]? = some (.bool s.a.Cl) := rfl
theorem spC_Wa (s : Sn) : (spC s)[8]? = some (.bool s.a.Wa) := rfl
theorem spC_Bu (s : Sn) : (spC s)[9]? = some (.int .u8 s.a.Bu) := rfl
theorem rtS : Rt Tryd.prog 43 10 := ⟨⟨_, Tryd.underlying43, rfl⟩, by kernel_rfl⟩
/-- Spans that lie in a row. -/
def LiesS (x : World) (sp : Option Addr) (l : List Sn) : Prop := ∀ j s, l[j]? = some s → ∃ gb ob, sp = some ⟨gb, ob, none⟩ ∧ x.rangeAt gb (ob + j * 10) (spC s).toList
theorem LiesS.below {x y : World} {sp : Option Addr} {l : List Sn} (h : LiesS x sp l) (hb : Below x.heap.size x y) : LiesS y sp l := fun j s hj => by
  obtain ⟨gb, ob, e, c⟩ := h j s hj
  exact ⟨gb, ob, e, range_keep c hb⟩
theorem LiesS.low {x y : World} {B : Nat} {sp : Option Addr} {l : List Sn} (h : LiesS x sp l) (hs : ∀ a, sp = some a → 0 < l.length → a.block < B) (hb : Below B x y) : LiesS y sp l := fun j s hj => by
  obtain ⟨gb, ob, e, c⟩ := h j s hj
  refine ⟨gb, ob, e, fun i v hi => ?_⟩
  exact (hb.cell (p := ⟨gb, ob + j * 10 + i, none⟩) (show gb < B from hs ⟨gb, ob, none⟩ e (by have := (List.getElem?_eq_some_iff.1 hj).1; omega))).trans (c i v hi)
theorem rangeC {x : World} {g o : Nat} {s : Sn} (h : x.rangeAt g o (spC s).toList) (i : Nat) (v : Value) (hv : (spC s)[i]? = some v) : x.cell? ⟨g, o + i, none⟩ = some v := h i v (by rw [Array.getElem?_toList]; exact hv)
theorem at_list {α : Type} {l : List α} {j n : Nat} (hn : l.length = n) (h : j < n) : ∃ v, l[j]? = some v ∧ l.drop j = v :: l.drop (j + 1) := by
  have hl : j < l.length := by omega
  exact ⟨l[j], List.getElem?_eq_getElem hl, List.drop_eq_getElem_cons hl⟩
/-- Has each span 1 to 1048576 cycles? -/
def inB : List Sn → Bool
  | [] => true
  | s :: l => decide (1 ≤ s.c) && decide (s.c ≤ 1048576) && inB l
theorem inB_iff (l : List Sn) : inB l = true ↔ InM 1048576 l := by
  induction l with
  | nil => simp [inB, InM]
  | cons s l ih => simp [inB, InM, ih]
def checkS (l : List Sn) : Int := if 4096 < l.length then 2 else if inB l = true ∧ sumC l ≤ 4194304 then 0 else 70
def cyclesS (l : List Sn) : Int := if checkS l = 0 then sumC l else 0

theorem check_ok {l : List Sn} (h : checkS l = 0) : l.length ≤ 4096 ∧ InM 1048576 l ∧ sumC l ≤ 4194304 := by
  unfold checkS at h
  split at h
  · omega
  · rename_i h1
    split at h
    · rename_i h2
      exact ⟨by omega, (inB_iff l).1 h2.1, h2.2⟩
    · omega
theorem drop_pos {l : List Sn} (h : Pos l) (j : Nat) : Pos (l.drop j) := by
  induction l generalizing j with
  | nil => simp [Pos]
  | cons s l ih =>
    cases j with
    | zero => exact h
    | succ j => exact ih h.2 j
theorem drop_in {M : Int} {l : List Sn} (h : InM M l) (j : Nat) : InM M (l.drop j) := by
  induction l generalizing j with
  | nil => simp [InM]
  | cons s l ih =>
    cases j with
    | zero => exact h
    | succ j => exact ih h.2 j
end Go.Proofs.YthpahpfnpapoiabDoor
