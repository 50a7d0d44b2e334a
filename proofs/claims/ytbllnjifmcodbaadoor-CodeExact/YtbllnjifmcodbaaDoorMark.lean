/- The law's own marking of what was told. -/
import Derived.Test.YtbllnjifmcodbaaDoorSame
import Derived.Laws.Rows
namespace Go.Proofs.YtbllnjifmcodbaaDoor
open Go.RowKit
set_option linter.unusedVariables false
set_option maxHeartbeats 1000000
set_option maxRecDepth 20000

/-- All but one block is as it was. -/
structure But (b : Nat) (w w' : World) : Prop where
  os : w'.os = w.os
  tape : w'.tape = w.tape
  output : w'.output = w.output
  size : w'.heap.size = w.heap.size
  block : ∀ k, k ≠ b → w'.heap[k]? = w.heap[k]?
theorem But.refl (b : Nat) (w : World) : But b w w := ⟨rfl, rfl, rfl, rfl, fun _ _ => rfl⟩
theorem But.set {b : Nat} {w w' : World} (h : But b w w') (j : Nat) (u : Value) : But b w (w'.setCell ⟨b, j, none⟩ u) :=
  ⟨h.os, h.tape, h.output, by simp [h.size], fun k hk => (heap_setCell_other w' ⟨b, j, none⟩ k u hk).trans (h.block k hk)⟩
theorem But.below {b B : Nat} {w w' a : World} (h : But b w w') (hb : B ≤ b) (ha : Below B a w) : Below B a w' :=
  ⟨h.os.trans ha.os, h.tape.trans ha.tape, h.output.trans ha.output, by rw [h.size]; exact ha.size, fun k hk => (h.block k (by omega)).trans (ha.block k hk)⟩

theorem mark_nil (w : World) : Calls Tryd.prog 34 #[.slice none 0 0] w fun e w' => (∃ v, e = .returned v) ∧ w' = w := by
  go_enter Tryd.func34, Tryd.ntmps34
  go_wp2
  go_loopw [3] (fun i wz => i = .int .i64 0 ∧ wz = w) (fun _ _ => 0)
  case atStart => exact ⟨rfl, rfl⟩
  case round =>
    obtain ⟨rfl, rfl⟩ := hrel
    go_wp2
    go_returns
    exact ⟨⟨_, rfl⟩, rfl⟩

theorem mark_row (w : World) (b n : Nat) (cur0 : Array Value) (hg : w.heap[b]? = some (.cells cur0 5 (0, 0))) (hn : cur0.size = n) (hn' : n ≤ 9223372036854775807) :
    Calls Tryd.prog 34 #[.slice (some ⟨b, 0, none⟩) n n] w fun e w' => (∃ v, e = .returned v) ∧ But b w w' := by
  have hg' : Hid (w.heap[b]? = some (.cells cur0 5 (0, 0))) := hg
  clear hg
  go_enter Tryd.func34, Tryd.ntmps34
  go_wp2
  go_loopw [3] (fun i wz => ∃ (k : Nat) (cur : Array Value) (wx : World), wx = wz ∧ k ≤ n ∧ i = .int .i64 (k : Int) ∧ Hid (wx.heap[b]? = some (.cells cur 5 (0, 0))) ∧ cur.size = n ∧ But b w wx) (fun i _ => (n - intOf i).toNat)
  case atStart => exact ⟨0, cur0, _, rfl, by omega, rfl, hg', hn, But.refl _ _⟩
  case round =>
    obtain ⟨k, cur, wx, rfl, hk, rfl, hgx, hcur, HX⟩ := hrel
    by_cases hlt : k < n
    · have hjc : k < cur.size := by omega
      have hc : wx.cell? ⟨b, k, none⟩ = some cur[k] := by unfold World.cell?; simp [hgx.out, hjc]
      have hfz : wx.frozen? ⟨b, k, none⟩ = false := by unfold World.frozen?; simp [hgx.out]
      have ij := fun v => idxS (g := b) (off := 0) (len := n) (cap := n) Tryd.underlying37 (s := 1) (by kernel_rfl) .i64 k v hlt
      simp only [Nat.zero_add, Nat.mul_one] at ij
      have hset : Hid ((wx.setCell ⟨b, k, none⟩ (.int .u8 165)).heap[b]? = some (.cells (cur.setIfInBounds k (.int .u8 165)) 5 (0, 0))) := heap_setCell_same wx b k cur 5 (.int .u8 165) hgx.out
      go_wp2
      go_roundw
      case rel => exact ⟨k + 1, _, _, rfl, by omega, by simp, hset, by simpa using hcur, HX.set _ _⟩
      case measure => simp [intOf]; omega
    · go_wp2
      go_returns
      exact ⟨⟨_, rfl⟩, HX⟩
end Go.Proofs.YtbllnjifmcodbaaDoor
