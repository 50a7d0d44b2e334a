/- The law's own lending of bytes, and that they came back as they were. -/
import Derived.Test.YthjpghnmnbhaiaaPair
namespace Go.Proofs.Ythjpghnmnbhaiaa
open Go Go.RowKit
set_option linter.unusedVariables false
set_option maxHeartbeats 1000000
set_option maxRecDepth 20000

/-- Lent bytes: the bytes, then two marks. -/
def lentY (len : Nat) (Y : Nat → Int) (j : Nat) : Int := if j < len then Y j else if j = len then 201 else 202
theorem Blk.splice {y : World} {g n : Nat} {Y Z : Nat → Int} {p len : Nat} {cur : Array Value} (h1 : cur.size = n) (h2 : ∀ j, j < n → cur[j]? = some (.int .u8 (Z j))) (hy : y.heap[g]? = some (.cells (splice cur.toList p (rowOf len Y)).toArray 5 (0, 0))) (hp : p + len ≤ n) : Blk y g n (fun k => if p ≤ k ∧ k < p + len then Y (k - p) else Z k) := Blk.lay (x := y) h1 h2 hy hp

theorem lent_any (w : World) (sp : Option Addr) (len cap : Nat) (hlen : len ≤ 2147483647) (Y : Nat → Int) (hY : Hid (Lies w sp len Y)) :
    Calls Try.prog 10 #[.slice sp len cap] w fun e w' => e = .returned (.slice (some ⟨w.heap.size, 0, none⟩) len (len + 2)) ∧ Hid (Blk w' w.heap.size (len + 2) (lentY len Y) ∧ Below w.heap.size w w') := by
  have hmk : ∀ v, (Instr.makeSlice 23 (.int .i64 ((len : Int) + 2)) (.int .i64 ((len : Int) + 2))).run Try.prog v = .ok (.slice (some ⟨v.heap.size, 0, none⟩) (len + 2) (len + 2)) (v.alloc (.cells (madeCells #[.int .u8 0] (len + 2)) 5)) := fun v => run_make_row' (P := Try.prog) 23 5 (.int .u8 0) 1 Try.underlying23 infoB rfl .i64 .i64 (len + 2) (by omega) (by omega) v
  have hms : Hid ((madeCells #[Value.int .u8 0] (len + 2)).size = len + 2 ∧ ∀ j, j < len + 2 → (madeCells #[Value.int .u8 0] (len + 2))[j]? = some (.int .u8 0)) := by
    obtain ⟨cur, h1, h2, h3⟩ := made_blk w (len + 2)
    rw [alloc_last'] at h1
    simp at h1
    subst h1
    exact ⟨h2, h3⟩
  obtain ⟨M, hM⟩ : ∃ M, madeCells #[Value.int .u8 0] (len + 2) = M := ⟨_, rfl⟩
  rw [hM] at hmk hms
  have HB0 : Below w.heap.size w (w.alloc (.cells M 5)) := (Below.refl _ _).alloc (Nat.le_refl _) _
  have hli : (len : Int) ≤ 2147483647 := by omega
  have i0 := fun v => idxS (g := w.heap.size) (off := 0) (len := len + 2) (cap := len + 2) Try.underlying23 (s := 1) (by kernel_rfl) .i64 len v (by omega)
  have i1 : ∀ v, (Instr.indexAt 23 (.slice (some ⟨w.heap.size, 0, none⟩) (len + 2) (len + 2)) (.int .i64 ((len : Int) + 1))).run Try.prog v = .ok (.pointer (some ⟨w.heap.size, len + 1, none⟩)) v := fun v => by
    have := idxS (g := w.heap.size) (off := 0) (len := len + 2) (cap := len + 2) Try.underlying23 (s := 1) (by kernel_rfl) .i64 (len + 1) v (by omega)
    simp only [Nat.zero_add, Nat.mul_one] at this
    exact this
  simp only [Nat.zero_add, Nat.mul_one] at i0
  clear hM hlen
  go_enter Try.func10, Try.ntmps10
  go_wp2_with (refine wpList_copy_splice rfl (.tmp 8) (.tmp 9) 23 23 rfl 5 Try.underlying23 (by kernel_rfl) (some ⟨w.heap.size, 0, none⟩) sp (len + 2) (len + 2) len cap rfl rfl w.heap.size 0 M.toList 5 ?g1 (rowOf len Y) ?g2 ?g3 ?g4 (rowOf_one _ _) w.heap.size w HB0 (Nat.le_refl _) ?_)
  case g1 => rw [Array.toArray_toList]; exact alloc_last' w _
  case g2 => rw [rowOf_len]; show len = min len (len + 2); omega
  case g3 =>
    intro hp
    rw [rowOf_len] at hp
    obtain ⟨ad, e, hc⟩ := (hY.out.below HB0).src (Nat.le_refl _) hp
    first | exact ⟨ad, e, hc⟩ | exact ⟨rfl, ad, e, hc⟩
  case g4 => rw [rowOf_len, Array.length_toList, hms.out.1]; omega
  intro w1 hw1 HB1
  have B1 := Blk.splice hms.out.1 hms.out.2 hw1.out (by omega)
  have c0 := B1.cell len (by omega)
  have f0 := B1.frozen len
  obtain ⟨u0, hu0⟩ : ∃ u, (if 0 ≤ len ∧ len < 0 + len then Y (len - 0) else 0) = u := ⟨_, rfl⟩
  rw [hu0] at c0
  have B2 := B1.set len (by omega) 201
  have c1 := B2.cell (len + 1) (by omega)
  have f1 := B2.frozen (len + 1)
  obtain ⟨u1, hu1⟩ : ∃ u, (if len + 1 = len then 201 else if 0 ≤ len + 1 ∧ len + 1 < 0 + len then Y (len + 1 - 0) else 0) = u := ⟨_, rfl⟩
  rw [hu1] at c1
  have B3 := B2.set (len + 1) (by omega) 202
  have fin : Hid (Blk ((w1.setCell ⟨w.heap.size, len, none⟩ (.int .u8 201)).setCell ⟨w.heap.size, len + 1, none⟩ (.int .u8 202)) w.heap.size (len + 2) (lentY len Y) ∧ Below w.heap.size w ((w1.setCell ⟨w.heap.size, len, none⟩ (.int .u8 201)).setCell ⟨w.heap.size, len + 1, none⟩ (.int .u8 202))) := by
    refine ⟨B3.congr fun j hj => ?_, below_set (below_set HB1 (Nat.le_refl _)) (Nat.le_refl _)⟩
    unfold lentY
    by_cases h1 : j < len
    · rw [if_neg (by omega), if_neg (by omega), if_pos (by omega), if_pos h1]; rfl
    · rw [if_neg h1]
      by_cases h2 : j = len
      · rw [if_neg (by omega), if_pos h2, if_pos h2]
      · rw [if_pos (by omega), if_neg h2]
  clear hw1 B1 B2 B3 hu0 hu1 HB0 HB1 hms hmk
  go_wp2
  go_ret
  exact ⟨rfl, fin⟩

theorem back_any (w : World) (g : Nat) (sp : Option Addr) (len cap : Nat) (hlen : len ≤ 2147483647) (Y : Nat → Int) (hY : Hid (Lies w sp len Y)) (hL : Hid (Blk w g (len + 2) (lentY len Y))) :
    Calls Try.prog 13 #[.slice (some ⟨g, 0, none⟩) len (len + 2), .slice sp len cap] w fun e w' => e = .returned (.bool true) ∧ Upd (· = g) w w' := by
  have hli : (len : Int) ≤ 2147483647 := by omega
  have hs := same_true w (some ⟨g, 0, none⟩) sp len (len + 2) cap Y (by omega) (fun j hj => ⟨g, 0, rfl, by
    rw [Nat.zero_add, hL.out.cell j (by omega)]; unfold lentY; rw [if_pos hj]⟩ : Lies _ _ _ _) hY
  have i0 := fun v => idxS (g := g) (off := 0) (len := len + 2) (cap := len + 2) Try.underlying23 (s := 1) (by kernel_rfl) .i64 len v (by omega)
  have i1 : ∀ v, (Instr.indexAt 23 (.slice (some ⟨g, 0, none⟩) (len + 2) (len + 2)) (.int .i64 ((len : Int) + 1))).run Try.prog v = .ok (.pointer (some ⟨g, len + 1, none⟩)) v := fun v => by
    have := idxS (g := g) (off := 0) (len := len + 2) (cap := len + 2) Try.underlying23 (s := 1) (by kernel_rfl) .i64 (len + 1) v (by omega)
    simp only [Nat.zero_add, Nat.mul_one] at this
    exact this
  simp only [Nat.zero_add, Nat.mul_one] at i0
  have c0 : w.cell? ⟨g, len, none⟩ = some (.int .u8 201) := by rw [hL.out.cell len (by omega)]; simp [lentY]
  have c1 : w.cell? ⟨g, len + 1, none⟩ = some (.int .u8 202) := by rw [hL.out.cell (len + 1) (by omega)]; unfold lentY; rw [if_neg (by omega), if_neg (by omega)]
  clear hlen
  go_enter Try.func13, Try.ntmps13
  go_wp2_with (go_at_call 17; refine hs.mono ?_; rintro e w1 ⟨rfl, q, hq⟩; subst hq)
  go_loopw [7] (fun i wz => ∃ (k : Nat) (wx : World), wx = wz ∧ k ≤ len + 2 ∧ i = .int .i64 (k : Int) ∧ Hid ((∃ Z, Blk wx g (len + 2) Z) ∧ Upd (· = g) w wx)) (fun i _ => (len + 2 - intOf i).toNat)
  case atStart => exact ⟨0, _, rfl, by omega, rfl, ⟨⟨_, hL.out⟩, Upd.drewN (Upd.refl _ _)⟩⟩
  case round =>
    obtain ⟨k, wx, rfl, hk, rfl, HX⟩ := hrel
    clear c0 c1 i0 i1 hs
    by_cases hlt : k < len + 2
    · obtain ⟨⟨Z, hZ⟩, hU⟩ := HX.out
      have c := hZ.cell k hlt
      have fz := hZ.frozen k
      obtain ⟨z, hz⟩ : ∃ z, Z k = z := ⟨_, rfl⟩
      rw [hz] at c
      have ij := fun v => idxS (g := g) (off := 0) (len := len + 2) (cap := len + 2) Try.underlying23 (s := 1) (by kernel_rfl) .i64 k v hlt
      simp only [Nat.zero_add, Nat.mul_one] at ij
      have fin : Hid (∀ u, (∃ Z, Blk (wx.setCell ⟨g, k, none⟩ (.int .u8 u)) g (len + 2) Z) ∧ Upd (· = g) w (wx.setCell ⟨g, k, none⟩ (.int .u8 u))) := fun u => ⟨⟨_, hZ.set k hlt u⟩, hU.trans (Upd.set _)⟩
      clear hZ hU hz HX
      go_wp2
      go_roundw
      case rel => exact ⟨k + 1, _, rfl, by omega, by simp, fin.out _⟩
      case measure => simp [intOf]; omega
    · go_wp2
      go_ret
      exact ⟨rfl, HX.out.2⟩
end Go.Proofs.Ythjpghnmnbhaiaa
