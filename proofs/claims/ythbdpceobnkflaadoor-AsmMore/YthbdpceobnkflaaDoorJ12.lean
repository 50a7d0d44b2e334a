/- The statements' own: bytes that are the same, and the room behind them. The statements' own: bytes with room behind them. -/
import Derived.Test.YthbdpceobnkflaaDoorJ11
import Derived.Test.YthbdpceobnkflaaDoorJ7
import Derived.Deep.MidRow
import Derived.BigQuiet
namespace Go.Proofs.YthbdpceobnkflaaDoor
open Go Go.RowKit
set_option linter.unusedVariables false
set_option maxHeartbeats 3000000
set_option maxRecDepth 20000

theorem idxU8 (g o n cap k : Nat) (h : k < n) (w : World) : (Instr.indexAt 33 (.slice (some ⟨g, o, none⟩) n cap) (.int .i64 (k : Int))).run Tryd.prog w = .ok (.pointer (some ⟨g, o + k, none⟩)) w := by
  have := idxP (P := Tryd.prog) (g := g) (off := o) (len := n) (cap := cap) Tryd.underlying33 (s := 1) (by kernel_rfl) .i64 k w h
  rw [Nat.mul_one] at this
  exact this
theorem sameO_true (w : World) (pa pb : Option Addr) (ca cb : Nat) (l : List UInt8) (ha : Hid (LB8 w pa l)) (hb : Hid (LB8 w pb l)) (hn : l.length ≤ 2147483647) :
    Calls Tryd.prog 13 #[.slice pa l.length ca, .slice pb l.length cb] w fun e w' => e = .returned (.bool true) ∧ Hid (Below w.heap.size w w') := by
  obtain ⟨n, hn'⟩ : ∃ n, l.length = n := ⟨_, rfl⟩
  have hnn : Hid (l.length = n) := hn'
  rw [hn'] at hn ⊢
  have ni : (n : Int) ≤ 2147483647 := by omega
  clear hn hn'
  go_enter Tryd.func13, Tryd.ntmps13
  go_wp2
  go_loopw [5] (fun t wz => ∃ (i : Nat), t = .int .i64 (i : Int) ∧ Hid (i ≤ n) ∧ Hid (Below w.heap.size w wz)) (fun t _ => (n - intOf t).toNat)
  case atStart => exact ⟨0, rfl, Nat.zero_le _, Below.refl _ _⟩
  case round =>
    obtain ⟨i, rfl, J, U⟩ := hrel
    by_cases hlt : i < n
    · obtain ⟨b, hbb⟩ : ∃ b, l[i]? = some b := ⟨_, List.getElem?_eq_getElem (by rw [hnn.out]; exact hlt)⟩
      obtain ⟨g1, o1, rfl, c1⟩ := (ha.out.below U.out) i b hbb
      obtain ⟨g2, o2, rfl, c2⟩ := (hb.out.below U.out) i b hbb
      obtain ⟨v, hv⟩ : ∃ v, byV b = v := ⟨_, rfl⟩
      have e1 := fun w => idxU8 g1 o1 n ca i hlt w
      have e2 := fun w => idxU8 g2 o2 n cb i hlt w
      have c1' : _ = some (Value.int .u8 (b.toNat : Int)) := c1
      have c2' : _ = some (Value.int .u8 (b.toNat : Int)) := c2
      have hii : (i : Int) < n := by omega
      have hlt' : Hid (i < n) := hlt
      clear hlt hbb c1 c2 hv
      go_wp2
      go_quiet (fail)
      go_wp2
      go_roundw
      case rel => exact ⟨i + 1, by simp, hlt'.out, U.out.trans (below_drewN (Below.refl _ _))⟩
      case measure => have := hlt'.out; simp [intOf]; omega
    · have hie : i = n := by have := J.out; omega
      subst hie
      clear hlt
      go_wp2
      go_ret
      exact ⟨rfl, U⟩
end Go.Proofs.YthbdpceobnkflaaDoor

namespace Go.Proofs.YthbdpceobnkflaaDoor
open Go Go.RowKit
set_option linter.unusedVariables false
set_option maxHeartbeats 3000000
set_option maxRecDepth 20000

theorem hmkV (D : Nat) (hD : D ≤ 2147483652) (y : World) : (Instr.makeSlice 33 (.int .i64 (D : Int)) (.int .i64 (D : Int))).run Tryd.prog y = .ok (.slice (some ⟨y.heap.size, 0, none⟩) D D) (y.alloc (.cells (rU (List.replicate D 0)) 5)) := by
  obtain ⟨ib, hib, hb0, hb1, hb2⟩ := info_parts infoB
  have := run_make (P := Tryd.prog) y 33 5 ib _ Tryd.underlying33 hib hb0 .i64 .i64 (D : Int) (D : Int) (by omega) (Int.le_refl _) (by rw [hb2]; omega) (by omega)
  rw [hb1, Int.toNat_natCast] at this
  rw [← made_u8]
  exact this
end Go.Proofs.YthbdpceobnkflaaDoor
