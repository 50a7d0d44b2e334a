/- The law's own lending of bytes: a copy with marked room behind it, and that it came back as it was. -/
import Derived.Test.YtbllnjifmcodbaaDoorMark
import Derived.Laws.CopyOwn
import Derived.Deep.OwnRows
namespace Go.Proofs.YtbllnjifmcodbaaDoor
open Go.RowKit
set_option linter.unusedVariables false
set_option maxHeartbeats 1000000
set_option maxRecDepth 20000

theorem infoB : (Tryd.prog.info? 5).map (fun i => (i.zero, i.size, i.bytes)) = some (some (.int .u8 0), 1, 1) := by kernel_rfl
/-- What a lent row holds: the bytes, then the marks. -/
theorem keepAt0 {v v' : World} {p : Addr} {u : Value} (hb : Below v.heap.size v v') (hc : v.cell? p = some u) : v'.cell? p = some u := (hb.cell (World.block_lt_of_cell? v p hc)).trans hc
def LentAt (x : World) (g len : Nat) (Z : List Value) : Prop :=
  ∃ cur, x.heap[g]? = some (.cells cur 5 (0, 0)) ∧ cur.size = len + 9 ∧ (∀ j, j < len → cur[j]? = Z[j]?) ∧ ∀ j, len ≤ j → j < len + 9 → cur[j]? = some (.int .u8 90)

theorem alloc_last' (w : World) (o : Obj) : (w.alloc o).heap[w.heap.size]? = some o := by unfold World.alloc; simp
theorem lent_any (w : World) (sp : Option Addr) (len cap : Nat) (hlen : len ≤ 2147483647) (Z : List Value) (hZ : Z.length = len) (hZc : Hid (0 < len → ∃ ad, sp = some ad ∧ ∀ j v, Z[j]? = some v → w.cell? (ad.add j) = some v)) (hZ1 : Hid (∀ u ∈ Z, u.oneCell' = true)) :
    Calls Tryd.prog 29 #[.slice sp len cap] w fun e w' => ∃ g, w.heap.size ≤ g ∧ e = .returned (.slice (some ⟨g, 0, none⟩) len (len + 9)) ∧ LentAt w' g len Z ∧ Below w.heap.size w w' := by
  have hmk := run_make_row' (P := Tryd.prog) 37 5 (.int .u8 0) 1 Tryd.underlying37 infoB rfl .i64 .i64 (len + 9) (by omega) (by omega)
  have hmk' : ∀ w, (Instr.makeSlice 37 (.int .i64 ((len : Int) + 9)) (.int .i64 ((len : Int) + 9))).run Tryd.prog w = .ok (.slice (some ⟨w.heap.size, 0, none⟩) (len + 9) (len + 9)) (w.alloc (.cells (madeCells #[.int .u8 0] (len + 9)) 5)) := fun w => hmk w
  clear hmk
  have hms : (madeCells #[Value.int .u8 0] (len + 9)).size = len + 9 := by simp [size_madeCells]
  have hkeep : ∀ j v, Z[j]? = some v → ∀ ad, sp = some ad → (∀ j v, Z[j]? = some v → w.cell? (ad.add j) = some v) → (w.alloc (.cells (madeCells #[.int .u8 0] (len + 9)) 5)).cell? (ad.add j) = some v := fun j v hv ad _ h => keepAt0 ((Below.refl _ _).alloc (Nat.le_refl _) _) (h j v hv)
  go_enter Tryd.func29, Tryd.ntmps29
  go_wp2_with (refine wpList_copy_splice rfl (.tmp 9) (.tmp 10) 37 37 rfl 5 Tryd.underlying37 (by kernel_rfl) (some ⟨w.heap.size, 0, none⟩) sp (len + 9) (len + 9) len cap rfl rfl w.heap.size 0 (madeCells #[.int .u8 0] (len + 9)).toList 5 ?h1 Z ?h2 ?h3 ?h4 hZ1.out w.heap.size w ?h5 (Nat.le_refl _) ?_)
  case h1 => rw [Array.toArray_toList]; exact alloc_last' w _
  case h2 => rw [hZ]; show len = min len (len + 9); omega
  case h3 =>
    intro hp
    obtain ⟨ad, h1, h2⟩ := hZc.out (by omega)
    first | exact ⟨rfl, ad, h1, fun j v hv => hkeep j v hv ad h1 h2⟩ | exact ⟨ad, h1, fun j v hv => hkeep j v hv ad h1 h2⟩
  case h4 => simp [hms, hZ]
  case h5 => exact (Below.refl _ _).alloc (Nat.le_refl _) _
  intro w1 hw1 HB1
  clear hkeep hmk'
  have hspl : Hid (∃ cur, w1.heap[w.heap.size]? = some (.cells cur 5 (0, 0)) ∧ cur.size = len + 9 ∧ ∀ j, j < len → cur[j]? = Z[j]?) := by
    refine ⟨_, hw1.out, ?_, fun j hj => ?_⟩
    · have := length_splice (madeCells #[Value.int .u8 0] (len + 9)).toList 0 Z (by simp [hms, hZ])
      simpa [hms] using this
    · simp only [splice, List.take_zero, List.nil_append]
      have hjZ : j < Z.length := by omega
      rw [List.getElem?_toArray, List.getElem?_append_left hjZ]
  clear hw1 hms
  go_wp2
  go_loopw [4] (fun i wz => ∃ (k : Nat) (wx : World), wx = wz ∧ len ≤ k ∧ k ≤ len + 9 ∧ i = .int .i64 (k : Int) ∧ Hid (∃ cur, wx.heap[w.heap.size]? = some (.cells cur 5 (0, 0)) ∧ cur.size = len + 9 ∧ (∀ j, j < len → cur[j]? = Z[j]?) ∧ ∀ j, len ≤ j → j < k → cur[j]? = some (.int .u8 90)) ∧ Below w.heap.size w wx) (fun i _ => (len + 9 - intOf i).toNat)
  case atStart =>
    obtain ⟨cur, h1, h2, h3⟩ := hspl.out
    exact ⟨len, _, rfl, by omega, by omega, rfl, ⟨cur, h1, h2, h3, fun j a b => absurd a (by omega)⟩, HB1⟩
  case round =>
    obtain ⟨k, wx, rfl, hk1, hk, rfl, hcur, HX⟩ := hrel
    clear hspl HB1
    by_cases hlt : k < len + 9
    · obtain ⟨cur, h1, h2, h3, h4⟩ := hcur.out
      obtain ⟨u, hc⟩ : ∃ u, wx.cell? ⟨w.heap.size, k, none⟩ = some u := ⟨cur[k]'(by omega), by unfold World.cell?; simp [h1]⟩
      have hfz : wx.frozen? ⟨w.heap.size, k, none⟩ = false := by unfold World.frozen?; simp [h1]
      have ij := fun v => idxS (g := w.heap.size) (off := 0) (len := len + 9) (cap := len + 9) Tryd.underlying37 (s := 1) (by kernel_rfl) .i64 k v hlt
      simp only [Nat.zero_add, Nat.mul_one] at ij
      have hset : Hid (∃ cur, (wx.setCell ⟨w.heap.size, k, none⟩ (.int .u8 90)).heap[w.heap.size]? = some (.cells cur 5 (0, 0)) ∧ cur.size = len + 9 ∧ (∀ j, j < len → cur[j]? = Z[j]?) ∧ ∀ j, len ≤ j → j < k + 1 → cur[j]? = some (.int .u8 90)) := by
        refine ⟨_, heap_setCell_same wx w.heap.size k cur 5 (.int .u8 90) h1, by simpa using h2, fun j hj => ?_, fun j a b => ?_⟩
        · rw [Array.getElem?_setIfInBounds_ne (by omega)]; exact h3 j hj
        · by_cases e : j = k
          · subst e; simp [show j < cur.size by omega]
          · rw [Array.getElem?_setIfInBounds_ne (by omega)]; exact h4 j a (by omega)
      clear h1 h2 h3 h4 hcur
      go_wp2
      go_roundw
      case rel => exact ⟨k + 1, _, rfl, by omega, by omega, by simp, hset, below_set HX (Nat.le_refl _)⟩
      case measure => simp [intOf]; omega
    · have hke : k = len + 9 := by omega
      subst hke
      go_wp2
      go_ret
      exact ⟨_, Nat.le_refl _, rfl, hcur.out, HX⟩
end Go.Proofs.YtbllnjifmcodbaaDoor
