/- Reading the rows, plain: where each stands, what there is when so many are read. -/
import Derived.Test.YtehnhjdjjalifaaGreatDoorQ11
import Derived.Test.YtehnhjdjjalifaaGreatDoorX10
namespace Go.Proofs.YtehnhjdjjalifaaGreatDoor
open Go Go.RowKit Go.Shelf
set_option linter.unusedVariables false
set_option maxHeartbeats 4000000
set_option maxRecDepth 20000

/-- Where a row begins. -/
def offR (i n : Nat) : Nat := ([0, 4, 6, 8, 10, 12, 14, 16, 18, 20, 22, 24, 26, 28, 30, 32, 34, 36, 37, 38, 39, 40, 41, 42, 43, 44, 45, 46, 48, 49, 50, 51, 52, 53, 61, 63, 63 + n, 575 + n] : List Nat).getD i 0
theorem offR_succ (i n : Nat) (hi : i < 37) : offR (i + 1) n = offR i n + szR i n := by
  rcases (show i = 0 ∨ i = 1 ∨ i = 2 ∨ i = 3 ∨ i = 4 ∨ i = 5 ∨ i = 6 ∨ i = 7 ∨ i = 8 ∨ i = 9 ∨ i = 10 ∨ i = 11 ∨ i = 12 ∨ i = 13 ∨ i = 14 ∨ i = 15 ∨ i = 16 ∨ i = 17 ∨ i = 18 ∨ i = 19 ∨ i = 20 ∨ i = 21 ∨ i = 22 ∨ i = 23 ∨ i = 24 ∨ i = 25 ∨ i = 26 ∨ i = 27 ∨ i = 28 ∨ i = 29 ∨ i = 30 ∨ i = 31 ∨ i = 32 ∨ i = 33 ∨ i = 34 ∨ i = 35 ∨ i = 36 by omega) with rfl | rfl | rfl | rfl | rfl | rfl | rfl | rfl | rfl | rfl | rfl | rfl | rfl | rfl | rfl | rfl | rfl | rfl | rfl | rfl | rfl | rfl | rfl | rfl | rfl | rfl | rfl | rfl | rfl | rfl | rfl | rfl | rfl | rfl | rfl | rfl | rfl
  · rfl
  · rfl
  · rfl
  · rfl
  · rfl
  · rfl
  · rfl
  · rfl
  · rfl
  · rfl
  · rfl
  · rfl
  · rfl
  · rfl
  · rfl
  · rfl
  · rfl
  · rfl
  · rfl
  · rfl
  · rfl
  · rfl
  · rfl
  · rfl
  · rfl
  · rfl
  · rfl
  · rfl
  · rfl
  · rfl
  · rfl
  · rfl
  · rfl
  · rfl
  · rfl
  · rfl
  · show 575 + n = 63 + n + 512; omega
theorem offR_35 (n : Nat) : offR 35 n = 63 := rfl
theorem offR_36 (n : Nat) : offR 36 n = 63 + n := rfl
theorem offR_37 (n : Nat) : offR 37 n = 575 + n := rfl
theorem offR_mono (n : Nat) {i j : Nat} (h : i ≤ j) (hj : j ≤ 37) : offR i n ≤ offR j n := by
  induction j with
  | zero => rw [Nat.le_zero.1 h]; exact Nat.le_refl _
  | succ j ih =>
    rcases Nat.lt_or_ge i (j + 1) with h1 | h1
    · rw [offR_succ j n (by omega)]
      have := ih (by omega) (by omega)
      omega
    · rw [show i = j + 1 by omega]; exact Nat.le_refl _
/-- A row's bytes among all. -/
def plR (l : List UInt8) (i : Nat) : List UInt8 := (l.drop (offR i (ramN l))).take (szR i (ramN l))
def wholeB (l : List UInt8) : Bool := (List.range 37).all fun i => Nat.ble (offR (i + 1) (ramN l)) l.length && okR i (plR l i)
theorem plR_len (l : List UInt8) (i : Nat) (hi : i < 37) (h : offR (i + 1) (ramN l) ≤ l.length) : (plR l i).length = szR i (ramN l) := by
  rw [offR_succ i _ hi] at h
  unfold plR
  rw [List.length_take, List.length_drop]
  omega
theorem wholeB_at {l : List UInt8} (h : wholeB l = true) (i : Nat) (hi : i < 37) : offR (i + 1) (ramN l) ≤ l.length ∧ okR i (plR l i) = true := by
  unfold wholeB at h
  rw [List.all_eq_true] at h
  have := h i (List.mem_range.2 hi)
  rw [Bool.and_eq_true, Nat.ble_eq] at this
  exact this
theorem wholeB_of {l : List UInt8} (h : ∀ i, i < 37 → offR (i + 1) (ramN l) ≤ l.length ∧ okR i (plR l i) = true) : wholeB l = true := by
  unfold wholeB
  rw [List.all_eq_true]
  intro i hi
  rw [Bool.and_eq_true, Nat.ble_eq]
  exact h i (List.mem_range.1 hi)
theorem wholeB_not {l : List UInt8} (i : Nat) (hi : i < 37) (h : ¬ (offR (i + 1) (ramN l) ≤ l.length ∧ okR i (plR l i) = true)) : wholeB l = false := by
  rcases e : wholeB l with _ | _
  · rfl
  · exact absurd (wholeB_at e i hi) h
theorem one_at (l : List UInt8) (k : Nat) : ((l.drop k).take 1).getD 0 0 = byteB l k := by
  unfold byteB
  rw [List.getD_eq_getElem?_getD, List.getElem?_take, if_pos (by decide), List.getElem?_drop, Nat.add_zero, ← List.getD_eq_getElem?_getD]
theorem formB_whole (l : List UInt8) : formB l = true ↔ wholeB l = true ∧ l.length = 583 + ramN l := by
  constructor
  · intro h
    obtain ⟨h63, h4, hlen, hfl⟩ := form_facts h
    refine ⟨wholeB_of fun i hi => ⟨?_, ?_⟩, hlen⟩
    · have := offR_mono (ramN l) (show i + 1 ≤ 37 by omega) (Nat.le_refl _)
      rw [offR_37] at this
      omega
    · have e0 : plR l 0 = l.take 4 := by unfold plR; rfl
      have fl : ∀ i k, plR l i = (l.drop k).take 1 → (byteB l k).toNat ≤ 1 → Nat.ble ((plR l i).getD 0 0).toNat 1 = true := fun i k e hk => by
        rw [e, one_at, Nat.ble_eq]
        exact hk
      rcases (show i = 0 ∨ i = 1 ∨ i = 2 ∨ i = 3 ∨ i = 4 ∨ i = 5 ∨ i = 6 ∨ i = 7 ∨ i = 8 ∨ i = 9 ∨ i = 10 ∨ i = 11 ∨ i = 12 ∨ i = 13 ∨ i = 14 ∨ i = 15 ∨ i = 16 ∨ i = 17 ∨ i = 18 ∨ i = 19 ∨ i = 20 ∨ i = 21 ∨ i = 22 ∨ i = 23 ∨ i = 24 ∨ i = 25 ∨ i = 26 ∨ i = 27 ∨ i = 28 ∨ i = 29 ∨ i = 30 ∨ i = 31 ∨ i = 32 ∨ i = 33 ∨ i = 34 ∨ i = 35 ∨ i = 36 by omega) with rfl | rfl | rfl | rfl | rfl | rfl | rfl | rfl | rfl | rfl | rfl | rfl | rfl | rfl | rfl | rfl | rfl | rfl | rfl | rfl | rfl | rfl | rfl | rfl | rfl | rfl | rfl | rfl | rfl | rfl | rfl | rfl | rfl | rfl | rfl | rfl | rfl
      · show (plR l 0 == [86, 83, 80, 49]) = true
        rw [e0, h4]
        rfl
      · rfl
      · rfl
      · rfl
      · rfl
      · rfl
      · rfl
      · rfl
      · rfl
      · rfl
      · rfl
      · rfl
      · rfl
      · rfl
      · rfl
      · rfl
      · rfl
      · rfl
      · exact fl 18 37 rfl (hfl 37 (by simp))
      · rfl
      · rfl
      · rfl
      · exact fl 22 41 rfl (hfl 41 (by simp))
      · exact fl 23 42 rfl (hfl 42 (by simp))
      · rfl
      · rfl
      · rfl
      · rfl
      · rfl
      · exact fl 29 49 rfl (hfl 49 (by simp))
      · rfl
      · rfl
      · exact fl 32 52 rfl (hfl 52 (by simp))
      · rfl
      · rfl
      · rfl
      · rfl
  · rintro ⟨h, hlen⟩
    have e0 : plR l 0 = l.take 4 := by unfold plR; rfl
    have h4 := (wholeB_at h 0 (by decide)).2
    have h4' : (plR l 0 == [86, 83, 80, 49]) = true := h4
    rw [e0] at h4'
    have fl : ∀ i k, i < 37 → plR l i = (l.drop k).take 1 → okR i (plR l i) = Nat.ble ((plR l i).getD 0 0).toNat 1 → Nat.ble (byteB l k).toNat 1 = true := fun i k hi e hk => by
      have := (wholeB_at h i hi).2
      rw [hk, e, one_at] at this
      exact this
    unfold formB
    rw [h4', hlen]
    have f1 := fl 18 37 (by decide) rfl rfl
    have f2 := fl 22 41 (by decide) rfl rfl
    have f3 := fl 23 42 (by decide) rfl rfl
    have f4 := fl 29 49 (by decide) rfl rfl
    have f5 := fl 32 52 (by decide) rfl rfl
    simp only [List.all_cons, List.all_nil, f1, f2, f3, f4, f5, Bool.and_true, beq_self_eq_true]
    rw [Nat.ble_eq]
    omega
/-- What the machine's box holds when so many rows are read. -/
structure GoodM (l : List UInt8) (i B : Nat) (M : Array Value) (y : World) : Prop where
  size : M.size = 35
  num : ∀ k, 0 < k → k < i → k < 34 → M[cellR k]? = some (valR k (plR l k))
  cnt : i = 35 → ∃ g, M[32]? = some (.slice (some ⟨g, 0, none⟩) (ramN l) (ramN l))
  ram : 36 ≤ i → ∃ g, M[32]? = some (.slice (some ⟨g, 0, none⟩) (plR l 35).length (plR l 35).length) ∧ Bx y g (rowL cB (plR l 35)).toArray 5 ∧ B ≤ g ∧ (37 ≤ i → ∃ g', M[33]? = some (.slice (some ⟨g', 0, none⟩) (plR l 36).length (plR l 36).length) ∧ Bx y g' (rowL cB (plR l 36)).toArray 5 ∧ B ≤ g' ∧ g ≠ g')
theorem cell_ne : ∀ i, i < 37 → ∀ k, k < 34 → 0 < k → k < i → cellR k ≠ cellR i := by decide +kernel
theorem GoodM.step {l : List UInt8} {i B b : Nat} {M M' : Array Value} {y z w' : World} (h : GoodM l i B M y) (hi : i < 37) (hw : offR (i + 1) (ramN l) ≤ l.length) (hyz : Below y.heap.size y z) (hB : B ≤ z.heap.size) (hst : StpR i (plR l i) z M M' w') (hs : Sto b z w') (hb : b < B) : GoodM l (i + 1) B M' w' := by
  have keep : ∀ g (X : Array Value) t, B ≤ g → Bx y g X t → Bx w' g X t := fun g X t hg hx => by
    have hx2 : Bx z g X t := (hyz.block g (heap_lt hx)).trans hx
    exact (hs.oth g (by omega) (heap_lt hx2)).trans hx2
  refine ⟨hst.size, fun k h0 hk h34 => ?_, fun e => ?_, fun e => ?_⟩
  · rcases Nat.lt_or_ge k i with h1 | h1
    · rw [hst.oth _ (cell_ne i hi k h34 h0 h1)]
      exact h.num k h0 h1 h34
    · obtain rfl : k = i := by omega
      exact hst.num h0 h34
  · obtain rfl : i = 34 := by omega
    obtain ⟨g, hg⟩ := hst.cnt rfl
    refine ⟨g, ?_⟩
    have e : getN (plR l 34) = ramN l := rfl
    rw [← e]
    exact hg
  · rcases (show i = 35 ∨ i = 36 by omega) with rfl | rfl
    · obtain ⟨g, h1, h2, h3⟩ := hst.lst (by decide)
      exact ⟨g, h1, h2, Nat.le_trans hB h3, fun h => absurd h (by decide)⟩
    · obtain ⟨g', h1, h2, h3⟩ := hst.lst (by decide)
      obtain ⟨g, a1, a2, a3, _⟩ := h.ram (by decide)
      refine ⟨g, ?_, keep g _ _ a3 a2, a3, fun _ => ⟨g', h1, h2, Nat.le_trans hB h3, ?_⟩⟩
      · rw [hst.oth 32 (by decide)]
        exact a1
      · have := heap_lt ((hyz.block g (heap_lt a2)).trans a2)
        omega
theorem get1 (l : List UInt8) (k : Nat) (h : k < l.length) : getN ((l.drop k).take 1) = (byteB l k).toNat := by
  have e : (l.drop k).take 1 = [byteB l k] := by
    apply List.ext_getElem?
    intro j
    rw [List.getElem?_take]
    rcases Nat.lt_or_ge j 1 with h1 | h1
    · obtain rfl : j = 0 := by omega
      rw [if_pos h1, List.getElem?_drop, Nat.add_zero]
      unfold byteB
      rw [List.getD_eq_getElem?_getD, List.getElem?_eq_getElem h]
      rfl
    · rw [if_neg (by omega)]
      symm
      rw [List.getElem?_eq_none_iff]
      simpa using h1
  rw [e]
  simp [getN]
theorem GoodM.fin {l : List UInt8} {B : Nat} {M : Array Value} {y : World} (h : GoodM l 37 B M y) (hw : wholeB l = true) : ∃ g g', M = bCs (bdOf l) (.slice (some ⟨g, 0, none⟩) (bdOf l).ram.length (bdOf l).ram.length) (.slice (some ⟨g', 0, none⟩) (bdOf l).rom.length (bdOf l).rom.length) ∧ Bx y g (rowL cB (bdOf l).ram).toArray 5 ∧ Bx y g' (rowL cB (bdOf l).rom).toArray 5 ∧ B ≤ g ∧ B ≤ g' ∧ g ≠ g' := by
  obtain ⟨g, a1, a2, a3, a4⟩ := h.ram (by decide)
  obtain ⟨g', b1, b2, b3, b4⟩ := a4 (by decide)
  have hlen : 575 + ramN l ≤ l.length := by
    have := (wholeB_at hw 36 (by decide)).1
    rwa [offR_37] at this
  have e35 : plR l 35 = (bdOf l).ram := by unfold plR; rw [offR_35]; rfl
  have e36 : plR l 36 = (bdOf l).rom := by unfold plR; rw [offR_36]; rfl
  rw [e35] at a1 a2
  rw [e36] at b1 b2
  refine ⟨g, g', ?_, a2, b2, a3, b3, b4⟩
  generalize Value.slice (some ⟨g, 0, none⟩) (bdOf l).ram.length (bdOf l).ram.length = vR at a1 ⊢
  generalize Value.slice (some ⟨g', 0, none⟩) (bdOf l).rom.length (bdOf l).rom.length = vO at b1 ⊢
  have hn := h.num
  have hs := h.size
  have hsz : (bCs (bdOf l) vR vO).size = 35 := rfl
  apply Array.ext_getElem?
  intro k
  rcases Nat.lt_or_ge k 35 with hk | hk
  · rcases (show k = 0 ∨ k = 1 ∨ k = 2 ∨ k = 3 ∨ k = 4 ∨ k = 5 ∨ k = 6 ∨ k = 7 ∨ k = 8 ∨ k = 9 ∨ k = 10 ∨ k = 11 ∨ k = 12 ∨ k = 13 ∨ k = 14 ∨ k = 15 ∨ k = 16 ∨ k = 17 ∨ k = 18 ∨ k = 19 ∨ k = 20 ∨ k = 21 ∨ k = 22 ∨ k = 23 ∨ k = 24 ∨ k = 25 ∨ k = 26 ∨ k = 27 ∨ k = 28 ∨ k = 29 ∨ k = 30 ∨ k = 31 ∨ k = 32 ∨ k = 33 ∨ k = 34 by omega) with rfl | rfl | rfl | rfl | rfl | rfl | rfl | rfl | rfl | rfl | rfl | rfl | rfl | rfl | rfl | rfl | rfl | rfl | rfl | rfl | rfl | rfl | rfl | rfl | rfl | rfl | rfl | rfl | rfl | rfl | rfl | rfl | rfl | rfl | rfl
    · exact hn 1 (by decide) (by decide) (by decide)
    · exact hn 2 (by decide) (by decide) (by decide)
    · exact hn 3 (by decide) (by decide) (by decide)
    · exact hn 4 (by decide) (by decide) (by decide)
    · exact hn 5 (by decide) (by decide) (by decide)
    · exact hn 6 (by decide) (by decide) (by decide)
    · exact hn 7 (by decide) (by decide) (by decide)
    · exact hn 8 (by decide) (by decide) (by decide)
    · exact hn 9 (by decide) (by decide) (by decide)
    · exact hn 10 (by decide) (by decide) (by decide)
    · exact hn 11 (by decide) (by decide) (by decide)
    · exact hn 12 (by decide) (by decide) (by decide)
    · exact hn 13 (by decide) (by decide) (by decide)
    · exact hn 14 (by decide) (by decide) (by decide)
    · exact hn 15 (by decide) (by decide) (by decide)
    · exact hn 16 (by decide) (by decide) (by decide)
    · refine (hn 17 (by decide) (by decide) (by decide)).trans ?_
      show some (Value.int .u8 ((getN ((l.drop 36).take 1) : Nat) : Int)) = some _
      rw [get1 l 36 (by omega)]
      rfl
    · refine (hn 18 (by decide) (by decide) (by decide)).trans ?_
      show some (Value.bool (((l.drop 37).take 1).getD 0 0 == 1)) = some _
      rw [one_at]
      rfl
    · refine (hn 19 (by decide) (by decide) (by decide)).trans ?_
      show some (Value.int .u8 ((getN ((l.drop 38).take 1) : Nat) : Int)) = some _
      rw [get1 l 38 (by omega)]
      rfl
    · refine (hn 20 (by decide) (by decide) (by decide)).trans ?_
      show some (Value.int .u8 ((getN ((l.drop 39).take 1) : Nat) : Int)) = some _
      rw [get1 l 39 (by omega)]
      rfl
    · refine (hn 21 (by decide) (by decide) (by decide)).trans ?_
      show some (Value.int .u8 ((getN ((l.drop 40).take 1) : Nat) : Int)) = some _
      rw [get1 l 40 (by omega)]
      rfl
    · refine (hn 22 (by decide) (by decide) (by decide)).trans ?_
      show some (Value.bool (((l.drop 41).take 1).getD 0 0 == 1)) = some _
      rw [one_at]
      rfl
    · refine (hn 23 (by decide) (by decide) (by decide)).trans ?_
      show some (Value.bool (((l.drop 42).take 1).getD 0 0 == 1)) = some _
      rw [one_at]
      rfl
    · refine (hn 24 (by decide) (by decide) (by decide)).trans ?_
      show some (Value.int .u8 ((getN ((l.drop 43).take 1) : Nat) : Int)) = some _
      rw [get1 l 43 (by omega)]
      rfl
    · refine (hn 25 (by decide) (by decide) (by decide)).trans ?_
      show some (Value.int .u8 ((getN ((l.drop 44).take 1) : Nat) : Int)) = some _
      rw [get1 l 44 (by omega)]
      rfl
    · refine (hn 26 (by decide) (by decide) (by decide)).trans ?_
      show some (Value.int .u8 ((getN ((l.drop 45).take 1) : Nat) : Int)) = some _
      rw [get1 l 45 (by omega)]
      rfl
    · exact hn 27 (by decide) (by decide) (by decide)
    · refine (hn 28 (by decide) (by decide) (by decide)).trans ?_
      show some (Value.int .i64 ((getN ((l.drop 48).take 1) : Nat) : Int)) = some _
      rw [get1 l 48 (by omega)]
      rfl
    · refine (hn 29 (by decide) (by decide) (by decide)).trans ?_
      show some (Value.bool (((l.drop 49).take 1).getD 0 0 == 1)) = some _
      rw [one_at]
      rfl
    · refine (hn 30 (by decide) (by decide) (by decide)).trans ?_
      show some (Value.int .i64 ((getN ((l.drop 50).take 1) : Nat) : Int)) = some _
      rw [get1 l 50 (by omega)]
      rfl
    · refine (hn 31 (by decide) (by decide) (by decide)).trans ?_
      show some (Value.int .u8 ((getN ((l.drop 51).take 1) : Nat) : Int)) = some _
      rw [get1 l 51 (by omega)]
      rfl
    · refine (hn 32 (by decide) (by decide) (by decide)).trans ?_
      show some (Value.bool (((l.drop 52).take 1).getD 0 0 == 1)) = some _
      rw [one_at]
      rfl
    · exact a1
    · exact b1
    · exact hn 33 (by decide) (by decide) (by decide)
  · rw [Array.getElem?_eq_none (by omega), Array.getElem?_eq_none (by omega)]
end Go.Proofs.YtehnhjdjjalifaaGreatDoor
