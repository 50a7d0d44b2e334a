/- What came in, opened: a row of bytes; a script of acts. -/
import Derived.Test.YthjpghnmnbhaiaaCel
import Derived.Deep.Slices
import Derived.ChangeSlices
import Derived.ChangeArms
import Derived.SizedLaws
import Derived.ProofKit
import Derived.OpenShut
namespace Go.Proofs.Ythjpghnmnbhaiaa
open Go.RowKit Go.ChangeShapes Go.WideShapes
set_option linter.unusedVariables false
set_option maxHeartbeats 1000000

def IsRow (k : IntKind) (w : World) (a : Option Addr) (len cap : Nat) (zs : List Int) : Prop :=
  (a = none ∧ len = 0 ∧ cap = 0 ∧ zs = []) ∨
  ∃ x, a = some x ∧ len ≤ cap ∧ cap ≤ maxLen ∧ zs.length = cap ∧ (∀ i, i < zs.length → w.cell? (x.add i) = some (.int k (zs.getD i 0))) ∧ ∀ n ∈ zs, (Lit.int k n).wf = true

theorem IsRow.open1 {w : World} {a : Option Addr} {len cap : Nat} {zs : List Int} (h : IsRow .u8 w a len cap zs) (hl : 0 < len) :
    ∃ (g off : Nat) (B : Nat → Nat), a = some ⟨g, off, none⟩ ∧ len ≤ cap ∧ cap ≤ maxLen ∧ (∀ i, B i < 256) ∧ g < w.heap.size ∧ ∀ i, i < len → w.cell? ⟨g, off + i, none⟩ = some (.int .u8 (B i : Nat)) := by
  rcases h with ⟨_, rfl, _⟩ | ⟨x, rfl, h1, h2, h3, h4, h5⟩
  · omega
  · obtain ⟨g, off, spot⟩ := x
    have c0 := h4 0 (by omega)
    have e0 : (⟨g, off, spot⟩ : Addr).add 0 = ⟨g, off, spot⟩ := rfl
    rw [e0] at c0
    have hs : spot = none := by
      cases spot with
      | none => rfl
      | some s =>
        exfalso
        unfold World.cell? at c0
        split at c0 <;> simp at c0
    subst hs
    have hwf : ∀ i, i < zs.length → 0 ≤ zs.getD i 0 ∧ zs.getD i 0 ≤ 255 := fun i hi => by
      have hm : zs.getD i 0 ∈ zs := by rw [List.getD_eq_getElem?_getD, List.getElem?_eq_getElem hi]; exact List.getElem_mem hi
      exact bounds_u8 (h5 _ hm)
    refine ⟨g, off, fun i => if i < zs.length then (zs.getD i 0).toNat else 0, rfl, h1, h2, fun i => ?_, own_size c0, fun i hi => ?_⟩
    · by_cases hi : i < zs.length
      · have := hwf i hi
        simp only [if_pos hi]
        omega
      · simp only [if_neg hi]; omega
    · have hi' : i < zs.length := by omega
      have hc := h4 i hi'
      rw [addN] at hc
      rw [hc]
      have := hwf i hi'
      simp only [if_pos hi']
      congr 2
      omega
/-- A row of bytes: where it lies, and its bytes. -/
structure Row (w : World) (a : Option Addr) (len : Nat) (Y : Nat → Int) : Prop where
  lies : Lies w a len Y
  ok : ∀ j, 0 ≤ Y j ∧ Y j < 256
  low : ∀ ad, a = some ad → 0 < len → ad.block < w.heap.size
theorem row_lies {w : World} {a : Option Addr} {len cap : Nat} {zs : List Int} (h : IsRow .u8 w a len cap zs) : len ≤ maxLen ∧ ∃ Y : Nat → Int, Row w a len Y := by
  rcases Nat.eq_zero_or_pos len with rfl | hp
  · exact ⟨Nat.zero_le _, fun _ => 0, fun j hj => absurd hj (by omega), fun j => by simp, fun _ _ h => absurd h (by omega)⟩
  · obtain ⟨g, off, B, rfl, h1, h2, h3, h4, h5⟩ := h.open1 hp
    exact ⟨by omega, fun j => (B j : Int), fun j hj => ⟨g, off, rfl, h5 j hj⟩, fun j => by have := h3 j; show 0 ≤ (B j : Int) ∧ (B j : Int) < 256; omega, fun ad h _ => by cases h; exact h4⟩
theorem open_bytes {H : Type} {enc : TypeId × Value → H} {w : World} {m : Nat} {a : Option Addr} {len cap : Nat} {x : DataW H × List MemPlace} (hf : DataW.trod enc Try.prog w 0 (fun _ => true) true m 23 [.slice a len cap] = some x) : len ≤ maxLen ∧ ∃ Y : Nat → Int, Row w a len Y := by
  have : ∃ zs, IsRow .u8 w a len cap zs := by
    rcases open_ints Try.underlying23 Try.underlying5 (by kernel_rfl) hf with ⟨hcs, _⟩ | ⟨x, l, c, zs, hcs, _, hl, hm, hz, _, hcell, hwz⟩
    · simp at hcs
      obtain ⟨rfl, rfl, rfl⟩ := hcs
      exact ⟨[], .inl ⟨rfl, rfl, rfl, rfl⟩⟩
    · simp at hcs
      obtain ⟨rfl, rfl, rfl⟩ := hcs
      exact ⟨zs, .inr ⟨_, rfl, hl, hm, by simpa using hz, hcell, hwz⟩⟩
  obtain ⟨zs, h⟩ := this
  exact row_lies h

/-- What one act's cells hold. -/
structure ActD where
  k : Int
  ot : Bool
  at_ : Int
  a : Nat
  b : Int
  on : Bool
  sp : Option Addr
  len : Nat
  cap : Nat
  Y : Nat → Int
structure ActD.ok (w : World) (o : ActD) : Prop where
  at1 : -9223372036854775808 ≤ o.at_
  at2 : o.at_ ≤ 9223372036854775807
  a : o.a < 65536
  b : 0 ≤ o.b ∧ o.b < 256
  len : o.len ≤ maxLen
  row : Row w o.sp o.len o.Y
def ActD.cells (o : ActD) : List Value := [.int .i64 o.k, .bool o.ot, .int .i64 o.at_, .int .u16 (o.a : Int), .int .u8 o.b, .bool o.on, .slice o.sp o.len o.cap]
theorem list7 {α : Type} {l : List α} (h : l.length = 7) : ∃ a b c d e f g, l = [a, b, c, d, e, f, g] := by
  match l, h with
  | [a, b, c, d, e, f, g], _ => exact ⟨a, b, c, d, e, f, g, rfl⟩
theorem act_open {H : Type} {enc : TypeId × Value → H} {w : World} {m : Nat} {cs : List Value} {x : DataW H × List MemPlace} (h : DataW.trod enc Try.prog w 0 (fun _ => true) true m 39 cs = some x) : ∃ o : ActD, o.ok w ∧ cs = o.cells := by
  obtain ⟨xs, n, _, rfl, hl, hxl, hf⟩ := DataW.trod_struct Try.underlying39 h
  obtain ⟨c0, c1, c2, c3, c4, c5, c6, rfl⟩ := list7 (hl.trans (by kernel_rfl))
  have g0 := hf 0 _ rfl
  have g1 := hf 1 _ rfl
  have g2 := hf 2 _ rfl
  have g3 := hf 3 _ rfl
  have g4 := hf 4 _ rfl
  have g5 := hf 5 _ rfl
  have g6 := hf 6 _ rfl
  have k3 : Try.prog.cellsOf 3 = 1 := by kernel_rfl
  have k5 : Try.prog.cellsOf 5 = 1 := by kernel_rfl
  have k4 : Try.prog.cellsOf 4 = 1 := by kernel_rfl
  have k37 : Try.prog.cellsOf 37 = 1 := by kernel_rfl
  have k23 : Try.prog.cellsOf 23 = 1 := by kernel_rfl
  simp [k3, k4, k5, k37, k23] at g0 g1 g2 g3 g4 g5 g6
  have hx7 : xs.length = 7 := hxl
  have at' : ∀ i, i < 7 → ∃ y, xs[i]? = some y := fun i hi => ⟨_, List.getElem?_eq_getElem (by omega)⟩
  obtain ⟨y0, e0⟩ := at' 0 (by decide)
  obtain ⟨y1, e1⟩ := at' 1 (by decide)
  obtain ⟨y2, e2⟩ := at' 2 (by decide)
  obtain ⟨y3, e3⟩ := at' 3 (by decide)
  obtain ⟨y4, e4⟩ := at' 4 (by decide)
  obtain ⟨y5, e5⟩ := at' 5 (by decide)
  obtain ⟨y6, e6⟩ := at' 6 (by decide)
  obtain ⟨k, q0, _, _⟩ := DataW.trod_int Try.underlying3 (g0.trans e0)
  obtain ⟨ot, q1, _⟩ := DataW.trod_bool Try.underlying4 (g1.trans e1)
  obtain ⟨p, q2, _, wp⟩ := DataW.trod_int Try.underlying3 (g2.trans e2)
  obtain ⟨a, q3, _, wa⟩ := DataW.trod_int Try.underlying37 (g3.trans e3)
  obtain ⟨b, q4, _, wb⟩ := DataW.trod_int Try.underlying5 (g4.trans e4)
  obtain ⟨on, q5, _⟩ := DataW.trod_bool Try.underlying4 (g5.trans e5)
  have hb := bounds_u8 wb
  have ha := bounds_u16 wa
  have hp := bounds_i64 wp
  obtain ⟨sp, len, cap, rfl⟩ : ∃ sp len cap, c6 = .slice sp len cap := by
    rcases Go.Deep.open_slice Try.underlying23 (g6.trans e6) with ⟨hcs, _⟩ | ⟨ad, len', cap', M, n, D, Pl, hcs, _⟩
    · simp at hcs
      exact ⟨_, _, _, hcs⟩
    · simp at hcs
      exact ⟨_, _, _, hcs⟩
  obtain ⟨hlen, Y, hY⟩ := open_bytes (g6.trans e6)
  simp at q0 q1 q2 q3 q4 q5
  subst q0 q1 q2 q3 q4 q5
  refine ⟨⟨k, ot, p, a.toNat, b, on, sp, len, cap, Y⟩, ⟨hp.1, hp.2, by show a.toNat < 65536; omega, ⟨hb.1, by show b < 256; omega⟩, hlen, hY⟩, ?_⟩
  unfold ActD.cells
  simp
  omega

/-- The script: nil, or a row of acts. -/
def Script (w : World) (a : Option Addr) (len cap : Nat) : Prop := len ≤ maxLen ∧ (0 < len → ∃ g off, a = some ⟨g, off, none⟩ ∧ g < w.heap.size ∧ ∀ j, j < len → ∃ o : ActD, o.ok w ∧ ∀ i v, o.cells[i]? = some v → w.cell? ⟨g, off + j * 7 + i, none⟩ = some v)
theorem script_open {H : Type} {enc : TypeId × Value → H} {w : World} {m : Nat} {a : Option Addr} {len cap : Nat} {x : DataW H × List MemPlace} (h : DataW.trod enc Try.prog w 0 (fun _ => true) true m 24 [.slice a len cap] = some x) : Script w a len cap := by
  rcases Go.Deep.open_slice Try.underlying24 h with ⟨hcs, _⟩ | ⟨ad, len', cap', M, n, D, Pl, hcs, _, hl, hm, hM, rfl, hx⟩
  · simp at hcs
    obtain ⟨rfl, rfl, rfl⟩ := hcs
    exact ⟨Nat.zero_le _, fun h => absurd h (by omega)⟩
  · simp at hcs
    obtain ⟨rfl, rfl, rfl⟩ := hcs
    simp at hM
    subst hM
    have hC : Try.prog.cellsOf 39 = 7 := by kernel_rfl
    rw [hC] at hx
    refine ⟨by omega, fun hp => ?_⟩
    obtain ⟨g, off, spot⟩ := ad
    have each : ∀ j, j < len → ∃ o : ActD, o.ok w ∧ ∀ i v, o.cells[i]? = some v → w.cell? ((⟨g, off, spot⟩ : Addr).add (j * 7 + i)) = some v := fun j hj => by
      obtain ⟨cs, h1, h2⟩ := hx j (by omega)
      obtain ⟨o, ho, rfl⟩ := act_open h2
      obtain ⟨_, _, hc⟩ := World.cells?_some h1
      refine ⟨o, ho, fun i v hv => ?_⟩
      have hi : i < 7 := by
        rcases Nat.lt_or_ge i 7 with h | h
        · exact h
        · rw [List.getElem?_eq_none (by simpa [ActD.cells] using h)] at hv; cases hv
      rw [← Go.Deep.add_add, hc i hi, hv]
    have hs : spot = none := by
      obtain ⟨o, _, ho⟩ := each 0 hp
      have c0 := ho 0 _ rfl
      rw [show (⟨g, off, spot⟩ : Addr).add (0 * 7 + 0) = ⟨g, off, spot⟩ from rfl] at c0
      cases spot with
      | none => rfl
      | some s =>
        exfalso
        unfold World.cell? at c0
        split at c0 <;> simp at c0
    subst hs
    refine ⟨g, off, rfl, ?_, fun j hj => ?_⟩
    · obtain ⟨o, _, ho⟩ := each 0 hp
      have c0 := ho 0 _ rfl
      rw [addN] at c0
      exact own_size c0
    · obtain ⟨o, h1, ho⟩ := each j hj
      exact ⟨o, h1, fun i v hv => by have := ho i v hv; rw [addN, ← Nat.add_assoc] at this; exact this⟩
end Go.Proofs.Ythjpghnmnbhaiaa
