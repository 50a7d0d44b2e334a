/- An operation of the script that came in, opened. -/
import Derived.Test.YtbllnjifmcodbaaDoorStep
import Derived.Test.YtbllnjifmcodbaaDoorRow
import Derived.Deep.Slices
import Derived.ChangeSlices
import Derived.ChangeArms
import Derived.SizedLaws
namespace Go.Proofs.YtbllnjifmcodbaaDoor
open Go.RowKit Go.ChangeShapes Go.WideShapes
set_option linter.unusedVariables false
set_option maxHeartbeats 1000000

/-- What one operation's cells hold. -/
structure OpD where
  k : Int
  n : Nat
  ag : Bool
  S : ByteArray
  A : Int
  L : ByteArray
  sp : Option Addr
  len : Nat
  cap : Nat
  Y : Nat → Int
def OpD.ok (w : World) (o : OpD) : Prop := o.n < 256 ∧ o.S.size ≤ 140737488355328 ∧ o.L.size ≤ 140737488355328 ∧ o.len ≤ 140737488355328 ∧ Lies w o.sp o.len o.Y ∧ ∀ j, j < o.len → 0 ≤ o.Y j ∧ o.Y j < 256
def OpD.cells (o : OpD) : List Value := [.int .i64 o.k, .int .u8 o.n, .bool o.ag, .string o.S, .int .i64 o.A, .string o.L, .slice o.sp o.len o.cap]

theorem list7 {α : Type} {l : List α} (h : l.length = 7) : ∃ a b c d e f g, l = [a, b, c, d, e, f, g] := by
  match l, h with
  | [a, b, c, d, e, f, g], _ => exact ⟨a, b, c, d, e, f, g, rfl⟩
theorem row_lies {w : World} {a : Option Addr} {len cap : Nat} {zs : List Int} (h : IsRow .u8 w a len cap zs) : len ≤ maxLen ∧ ∃ Y : Nat → Int, Lies w a len Y ∧ ∀ j, j < len → 0 ≤ Y j ∧ Y j < 256 := by
  rcases Nat.eq_zero_or_pos len with rfl | hp
  · exact ⟨Nat.zero_le _, fun _ => 0, fun j hj => absurd hj (by omega), fun j hj => absurd hj (by omega)⟩
  · obtain ⟨g, off, B, rfl, h1, h2, h3, h4, h5⟩ := h.open1 hp
    exact ⟨by omega, fun j => (B j : Int), fun j hj => ⟨g, off, rfl, h5 j hj⟩, fun j hj => by have := h3 j; show 0 ≤ (B j : Int) ∧ (B j : Int) < 256; omega⟩

theorem op_open {H : Type} {enc : TypeId × Value → H} {w : World} {m : Nat} {cs : List Value} {x : DataW H × List MemPlace} (h : DataW.trod enc Tryd.prog w 0 (fun _ => true) true m 47 cs = some x) (hw : ∀ y ∈ x.1.weights Tryd.prog 47, y ≤ reachBytes) : ∃ o : OpD, o.ok w ∧ cs = o.cells := by
  obtain ⟨xs, n, _, rfl, hl, hxl, hf⟩ := DataW.trod_struct Tryd.underlying47 h
  obtain ⟨c0, c1, c2, c3, c4, c5, c6, rfl⟩ := list7 (hl.trans (by kernel_rfl))
  have g0 := hf 0 _ rfl
  have g1 := hf 1 _ rfl
  have g2 := hf 2 _ rfl
  have g3 := hf 3 _ rfl
  have g4 := hf 4 _ rfl
  have g5 := hf 5 _ rfl
  have k3 : Tryd.prog.cellsOf 3 = 1 := by kernel_rfl
  have k5 : Tryd.prog.cellsOf 5 = 1 := by kernel_rfl
  have k4 : Tryd.prog.cellsOf 4 = 1 := by kernel_rfl
  have k33 : Tryd.prog.cellsOf 33 = 2 := by kernel_rfl
  have k9 : Tryd.prog.cellsOf 9 = 1 := by kernel_rfl
  have k37 : Tryd.prog.cellsOf 37 = 1 := by kernel_rfl
  simp [k3, k4, k5, k33, k9, k37] at g0 g1 g2 g3 g4 g5
  have hx6 : xs.length = 6 := hxl
  have at' : ∀ i, i < 6 → ∃ y, xs[i]? = some y := fun i hi => ⟨_, List.getElem?_eq_getElem (by omega)⟩
  obtain ⟨y0, e0⟩ := at' 0 (by decide)
  obtain ⟨y1, e1⟩ := at' 1 (by decide)
  obtain ⟨y2, e2⟩ := at' 2 (by decide)
  obtain ⟨y3, e3⟩ := at' 3 (by decide)
  obtain ⟨y4, e4⟩ := at' 4 (by decide)
  obtain ⟨y5, e5⟩ := at' 5 (by decide)
  obtain ⟨k, q0, _, _⟩ := DataW.trod_int Tryd.underlying3 (g0.trans e0)
  obtain ⟨b, q1, _, wb⟩ := DataW.trod_int Tryd.underlying5 (g1.trans e1)
  obtain ⟨ag, q2, _⟩ := DataW.trod_bool Tryd.underlying4 (g2.trans e2)
  have hwe : ∀ y ∈ DataW.weightsEach Tryd.prog [3, 5, 4, 33, 9, 37] (xs.map (·.1)), y ≤ reachBytes := fun y hy => hw y (by simp only [DataW.weights, Tryd.underlying47]; exact hy)
  have wy : ∀ (i t : Nat) (y : DataW H × List MemPlace), [3, 5, 4, 33, 9, 37][i]? = some t → xs[i]? = some y → ∀ z ∈ y.1.weights Tryd.prog t, z ≤ reachBytes := fun i t y ht hy z hz => hwe z (DataW.weights_mem_each (j := i) ht (by simp [hy]) z hz)
  have hr := reachBytes_lt
  obtain ⟨L, q4, x4, _⟩ := DataW.trod_string Tryd.underlying9 (g4.trans e4)
  have hL : L.size ≤ 140737488355328 := by
    have := wy 4 9 y4 rfl e4 L.data.toList.length (by rw [x4]; simp [DataW.weights])
    rw [Array.length_toList] at this
    have : L.size ≤ reachBytes := this
    omega
  obtain ⟨us, n', _, x3, _, hul, hu⟩ := DataW.trod_struct Tryd.underlying33 (g3.trans e3)
  have u0 := hu 0 _ rfl
  have u1 := hu 1 _ rfl
  simp [k3, k9] at u0 u1
  have hx2 : us.length = 2 := hul
  obtain ⟨z0, f0⟩ : ∃ y, us[0]? = some y := ⟨_, List.getElem?_eq_getElem (by omega)⟩
  obtain ⟨z1, f1⟩ : ∃ y, us[1]? = some y := ⟨_, List.getElem?_eq_getElem (by omega)⟩
  obtain ⟨S, q5, x5, _⟩ := DataW.trod_string Tryd.underlying9 (u0.trans f0)
  have hS : S.size ≤ 140737488355328 := by
    have hm : S.data.toList.length ∈ DataW.weightsEach Tryd.prog [9, 3] (us.map (·.1)) := DataW.weights_mem_each (j := 0) (t := 9) (d := .lit (.string S.data.toList)) rfl (by simp [f0, x5]) _ (by simp [DataW.weights])
    have := wy 3 33 y3 rfl e3 S.data.toList.length (by rw [x3]; simp only [DataW.weights, Tryd.underlying33]; exact hm)
    rw [Array.length_toList] at this
    have : S.size ≤ reachBytes := this
    omega
  obtain ⟨A, q6, _, _⟩ := DataW.trod_int Tryd.underlying3 (u1.trans f1)
  have hb := bounds_u8 wb
  obtain ⟨sp, len, cap, zs, q3, hrow, hlen⟩ : ∃ sp len cap zs, c6 = .slice sp len cap ∧ IsRow .u8 w sp len cap zs ∧ len ≤ 140737488355328 := by
    rcases open_ints Tryd.underlying37 Tryd.underlying5 (by kernel_rfl) (g5.trans e5) with ⟨hcs, _⟩ | ⟨x, l, c, zs, hcs, _, hl, hm, hz, hxx, hcell, hwz⟩
    · simp at hcs
      exact ⟨none, 0, 0, [], hcs, .inl ⟨rfl, rfl, rfl, rfl⟩, by omega⟩
    · simp at hcs
      have hk : Tryd.prog.bytesOf 5 = 1 := by kernel_rfl
      have := wy 5 37 y5 rfl e5 _ (by rw [hxx]; simp only [DataW.weights, Tryd.underlying37]; exact List.mem_cons_self)
      rw [hk] at this
      simp [lits] at this hz
      exact ⟨_, _, _, zs, hcs, .inr ⟨_, rfl, hl, hm, by simpa using hz, hcell, hwz⟩, by omega⟩
  obtain ⟨_, Y, hY, hYb⟩ := row_lies hrow
  simp at q0 q1 q2 q4 q5 q6
  subst q0 q1 q2 q3 q4 q5 q6
  refine ⟨⟨k, b.toNat, ag, S, A, L, sp, len, cap, Y⟩, ⟨by show b.toNat < 256; omega, hS, hL, hlen, hY, hYb⟩, ?_⟩
  unfold OpD.cells
  simp
  omega

theorem mem_all {H : Type} {P : Program} {e : TypeId} {d : DataW H} {y : Nat} : ∀ {l : List (DataW H)}, d ∈ l → y ∈ d.weights P e → y ∈ DataW.weightsAll P e l
  | a :: r, hd, hy => by
    simp only [DataW.weightsAll, List.mem_append]
    rcases List.mem_cons.1 hd with rfl | h
    · exact .inl hy
    · exact .inr (mem_all h hy)
/-- The script: nil, or a row of operations. -/
def Script (w : World) (a : Option Addr) (len cap : Nat) : Prop := len ≤ maxLen ∧ (0 < len → ∃ g off, a = some ⟨g, off, none⟩ ∧ g < w.heap.size ∧ ∀ j, j < len → ∃ o : OpD, o.ok w ∧ ∀ i v, o.cells[i]? = some v → w.cell? ⟨g, off + j * 7 + i, none⟩ = some v)
theorem script_open {H : Type} {enc : TypeId × Value → H} {w : World} {m : Nat} {a : Option Addr} {len cap : Nat} {x : DataW H × List MemPlace} (h : DataW.trod enc Tryd.prog w 0 (fun _ => true) true m 41 [.slice a len cap] = some x) (hw : ∀ y ∈ x.1.weights Tryd.prog 41, y ≤ reachBytes) : Script w a len cap := by
  rcases Go.Deep.open_slice Tryd.underlying41 h with ⟨hcs, _⟩ | ⟨ad, len', cap', M, n, D, Pl, hcs, _, hl, hm, hM, rfl, hx⟩
  · simp at hcs
    obtain ⟨rfl, rfl, rfl⟩ := hcs
    exact ⟨Nat.zero_le _, fun h => absurd h (by omega)⟩
  · simp at hcs
    obtain ⟨rfl, rfl, rfl⟩ := hcs
    simp at hM
    subst hM
    have hC : Tryd.prog.cellsOf 47 = 7 := by kernel_rfl
    rw [hC] at hx
    refine ⟨by omega, fun hp => ?_⟩
    obtain ⟨g, off, spot⟩ := ad
    have each : ∀ j, j < len → ∃ o : OpD, o.ok w ∧ ∀ i v, o.cells[i]? = some v → w.cell? ((⟨g, off, spot⟩ : Addr).add (j * 7 + i)) = some v := fun j hj => by
      obtain ⟨cs, h1, h2⟩ := hx j (by omega)
      obtain ⟨o, ho, rfl⟩ := op_open h2 (fun y hy => hw y (by simp only [DataW.weights, Tryd.underlying41]; exact List.mem_cons_of_mem _ (List.mem_append_left _ (mem_all (List.mem_map_of_mem (List.mem_range.2 hj)) hy))))
      obtain ⟨_, _, hc⟩ := World.cells?_some h1
      refine ⟨o, ho, fun i v hv => ?_⟩
      have hi : i < 7 := by
        rcases Nat.lt_or_ge i 7 with h | h
        · exact h
        · rw [List.getElem?_eq_none (by simpa [OpD.cells] using h)] at hv; cases hv
      rw [← Go.Deep.add_add, hc i hi, hv]
    have hs : spot = none := by
      obtain ⟨o, _, ho⟩ := each 0 hp
      have c0 := ho 0 _ rfl
      rw [show (⟨g, off, spot⟩ : Addr).add (0 * 7 + 0) = ⟨g, off, spot⟩ from rfl] at c0
      cases spot with
      | none => rfl
      | some s =>
        exfalso
        unfold World.cell? at c0
        split at c0 <;> simp at c0
    subst hs
    have addN : ∀ i, (⟨g, off, none⟩ : Addr).add i = ⟨g, off + i, none⟩ := fun i => by unfold Addr.add; split <;> simp_all
    refine ⟨g, off, rfl, ?_, fun j hj => ?_⟩
    · obtain ⟨o, _, ho⟩ := each 0 hp
      have c0 := ho 0 _ rfl
      rw [addN] at c0
      exact own_size c0
    · obtain ⟨o, h1, ho⟩ := each j hj
      exact ⟨o, h1, fun i v hv => by have := ho i v hv; rw [addN, ← Nat.add_assoc] at this; exact this⟩
end Go.Proofs.YtbllnjifmcodbaaDoor
