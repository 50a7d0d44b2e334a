/- CPUAdds: words added and taken from one another byte by byte -/
import Derived.Test.YtbeeefekndcgnabDoorMr
import Derived.Test.YtbeeefekndcgnabDoorLc
import Derived.Test.YtbeeefekndcgnabDoorRv
namespace Go.Proofs.YtbeeefekndcgnabDoor
open Go Go.RowKit
set_option linter.unusedVariables false
set_option maxHeartbeats 1000000
set_option maxRecDepth 20000

theorem adds_walk (w : World) (tb : Tabs w) (a b : Int) (a0 : 0 ≤ a) (a1 : a ≤ 65535) (b0 : 0 ≤ b) (b1 : b ≤ 65535) : Calls Tryd.prog 3 #[.int .u16 a, .int .u16 b] w fun e w' => e = .returned (.bool true) ∧ Below w.heap.size w w' := by
  have hRo : Calls Tryd.prog 5 #[.int .i64 0, .slice (some ⟨w.heap.size, 0, none⟩) 30 30] (w.alloc (.cells #[Value.int IntKind.u8 248, Value.int IntKind.u8 (a % 256), Value.int IntKind.u8 252, Value.int IntKind.u8 (b % 256), Value.int IntKind.u8 164, Value.int IntKind.u8 248, Value.int IntKind.u8 (a / 256), Value.int IntKind.u8 124, Value.int IntKind.u8 (b / 256), Value.int IntKind.u8 180, Value.int IntKind.u8 248, Value.int IntKind.u8 (a % 256), Value.int IntKind.u8 255, Value.int IntKind.u8 (b % 256), Value.int IntKind.u8 165, Value.int IntKind.u8 248, Value.int IntKind.u8 (a / 256), Value.int IntKind.u8 127, Value.int IntKind.u8 (b / 256), Value.int IntKind.u8 181, Value.int IntKind.u8 248, Value.int IntKind.u8 (b % 256), Value.int IntKind.u8 253, Value.int IntKind.u8 (a % 256), Value.int IntKind.u8 166, Value.int IntKind.u8 248, Value.int IntKind.u8 (b / 256), Value.int IntKind.u8 125, Value.int IntKind.u8 (a / 256), Value.int IntKind.u8 182] 5)) fun e w' => e = .returned (.slice (some ⟨w.heap.size + 1, 0, none⟩) 65536 65536) ∧ Hid (Blk w' (w.heap.size + 1) 65536 (laidM 0 30 (fun j => ([248, a % 256, 252, b % 256, 164, 248, a / 256, 124, b / 256, 180, 248, a % 256, 255, b % 256, 165, 248, a / 256, 127, b / 256, 181, 248, b % 256, 253, a % 256, 166, 248, b / 256, 125, a / 256, 182] : List Int).getD j 0)) ∧ Below w.heap.size w w') := lroom_lit w 0 (by decide) [248, a % 256, 252, b % 256, 164, 248, a / 256, 124, b / 256, 180, 248, a % 256, 255, b % 256, 165, 248, a / 256, 127, b / 256, 181, 248, b % 256, 253, a % 256, 166, 248, b / 256, 125, a / 256, 182] (by simp)
  obtain ⟨Y, hYe⟩ : ∃ Y, laidM 0 ([248, a % 256, 252, b % 256, 164, 248, a / 256, 124, b / 256, 180, 248, a % 256, 255, b % 256, 165, 248, a / 256, 127, b / 256, 181, 248, b % 256, 253, a % 256, 166, 248, b / 256, 125, a / 256, 182] : List Int).length (fun j => ([248, a % 256, 252, b % 256, 164, 248, a / 256, 124, b / 256, 180, 248, a % 256, 255, b % 256, 165, 248, a / 256, 127, b / 256, 181, 248, b % 256, 253, a % 256, 166, 248, b / 256, 125, a / 256, 182] : List Int).getD j 0) = Y := ⟨_, rfl⟩
  have hYe' : laidM 0 30 (fun j => ([248, a % 256, 252, b % 256, 164, 248, a / 256, 124, b / 256, 180, 248, a % 256, 255, b % 256, 165, 248, a / 256, 127, b / 256, 181, 248, b % 256, 253, a % 256, 166, 248, b / 256, 125, a / 256, 182] : List Int).getD j 0) = Y := hYe
  rw [hYe'] at hRo
  have hY : ∀ j, 0 ≤ Y j ∧ Y j < 256 := fun j => by rw [← hYe]; exact laid_ok 0 [248, a % 256, 252, b % 256, 164, 248, a / 256, 124, b / 256, 180, 248, a % 256, 255, b % 256, 165, 248, a / 256, 127, b / 256, 181, 248, b % 256, 253, a % 256, 166, 248, b / 256, 125, a / 256, 182] (fun x hx => by simp at hx; omega) j
  have m0 : Y ((0 : Int)).toNat = 248 := by rw [← hYe]; exact laid_at 0 [248, a % 256, 252, b % 256, 164, 248, a / 256, 124, b / 256, 180, 248, a % 256, 255, b % 256, 165, 248, a / 256, 127, b / 256, 181, 248, b % 256, 253, a % 256, 166, 248, b / 256, 125, a / 256, 182] 0 _ (by simp) rfl _ (by decide)
  have m1 : Y ((0 : Int) + 1).toNat = a % 256 := by rw [← hYe]; exact laid_at 0 [248, a % 256, 252, b % 256, 164, 248, a / 256, 124, b / 256, 180, 248, a % 256, 255, b % 256, 165, 248, a / 256, 127, b / 256, 181, 248, b % 256, 253, a % 256, 166, 248, b / 256, 125, a / 256, 182] 1 _ (by simp) rfl _ (by decide)
  have m2 : Y ((0 : Int) + 2).toNat = 252 := by rw [← hYe]; exact laid_at 0 [248, a % 256, 252, b % 256, 164, 248, a / 256, 124, b / 256, 180, 248, a % 256, 255, b % 256, 165, 248, a / 256, 127, b / 256, 181, 248, b % 256, 253, a % 256, 166, 248, b / 256, 125, a / 256, 182] 2 _ (by simp) rfl _ (by decide)
  have m3 : Y ((0 : Int) + 3).toNat = b % 256 := by rw [← hYe]; exact laid_at 0 [248, a % 256, 252, b % 256, 164, 248, a / 256, 124, b / 256, 180, 248, a % 256, 255, b % 256, 165, 248, a / 256, 127, b / 256, 181, 248, b % 256, 253, a % 256, 166, 248, b / 256, 125, a / 256, 182] 3 _ (by simp) rfl _ (by decide)
  have m4 : Y ((0 : Int) + 4).toNat = 164 := by rw [← hYe]; exact laid_at 0 [248, a % 256, 252, b % 256, 164, 248, a / 256, 124, b / 256, 180, 248, a % 256, 255, b % 256, 165, 248, a / 256, 127, b / 256, 181, 248, b % 256, 253, a % 256, 166, 248, b / 256, 125, a / 256, 182] 4 _ (by simp) rfl _ (by decide)
  have m5 : Y ((0 : Int) + 5).toNat = 248 := by rw [← hYe]; exact laid_at 0 [248, a % 256, 252, b % 256, 164, 248, a / 256, 124, b / 256, 180, 248, a % 256, 255, b % 256, 165, 248, a / 256, 127, b / 256, 181, 248, b % 256, 253, a % 256, 166, 248, b / 256, 125, a / 256, 182] 5 _ (by simp) rfl _ (by decide)
  have m6 : Y ((0 : Int) + 6).toNat = a / 256 := by rw [← hYe]; exact laid_at 0 [248, a % 256, 252, b % 256, 164, 248, a / 256, 124, b / 256, 180, 248, a % 256, 255, b % 256, 165, 248, a / 256, 127, b / 256, 181, 248, b % 256, 253, a % 256, 166, 248, b / 256, 125, a / 256, 182] 6 _ (by simp) rfl _ (by decide)
  have m7 : Y ((0 : Int) + 7).toNat = 124 := by rw [← hYe]; exact laid_at 0 [248, a % 256, 252, b % 256, 164, 248, a / 256, 124, b / 256, 180, 248, a % 256, 255, b % 256, 165, 248, a / 256, 127, b / 256, 181, 248, b % 256, 253, a % 256, 166, 248, b / 256, 125, a / 256, 182] 7 _ (by simp) rfl _ (by decide)
  have m8 : Y ((0 : Int) + 8).toNat = b / 256 := by rw [← hYe]; exact laid_at 0 [248, a % 256, 252, b % 256, 164, 248, a / 256, 124, b / 256, 180, 248, a % 256, 255, b % 256, 165, 248, a / 256, 127, b / 256, 181, 248, b % 256, 253, a % 256, 166, 248, b / 256, 125, a / 256, 182] 8 _ (by simp) rfl _ (by decide)
  have m9 : Y ((0 : Int) + 9).toNat = 180 := by rw [← hYe]; exact laid_at 0 [248, a % 256, 252, b % 256, 164, 248, a / 256, 124, b / 256, 180, 248, a % 256, 255, b % 256, 165, 248, a / 256, 127, b / 256, 181, 248, b % 256, 253, a % 256, 166, 248, b / 256, 125, a / 256, 182] 9 _ (by simp) rfl _ (by decide)
  have m10 : Y ((10 : Int)).toNat = 248 := by rw [← hYe]; exact laid_at 0 [248, a % 256, 252, b % 256, 164, 248, a / 256, 124, b / 256, 180, 248, a % 256, 255, b % 256, 165, 248, a / 256, 127, b / 256, 181, 248, b % 256, 253, a % 256, 166, 248, b / 256, 125, a / 256, 182] 10 _ (by simp) rfl _ (by decide)
  have m11 : Y ((10 : Int) + 1).toNat = a % 256 := by rw [← hYe]; exact laid_at 0 [248, a % 256, 252, b % 256, 164, 248, a / 256, 124, b / 256, 180, 248, a % 256, 255, b % 256, 165, 248, a / 256, 127, b / 256, 181, 248, b % 256, 253, a % 256, 166, 248, b / 256, 125, a / 256, 182] 11 _ (by simp) rfl _ (by decide)
  have m12 : Y ((10 : Int) + 2).toNat = 255 := by rw [← hYe]; exact laid_at 0 [248, a % 256, 252, b % 256, 164, 248, a / 256, 124, b / 256, 180, 248, a % 256, 255, b % 256, 165, 248, a / 256, 127, b / 256, 181, 248, b % 256, 253, a % 256, 166, 248, b / 256, 125, a / 256, 182] 12 _ (by simp) rfl _ (by decide)
  have m13 : Y ((10 : Int) + 3).toNat = b % 256 := by rw [← hYe]; exact laid_at 0 [248, a % 256, 252, b % 256, 164, 248, a / 256, 124, b / 256, 180, 248, a % 256, 255, b % 256, 165, 248, a / 256, 127, b / 256, 181, 248, b % 256, 253, a % 256, 166, 248, b / 256, 125, a / 256, 182] 13 _ (by simp) rfl _ (by decide)
  have m14 : Y ((10 : Int) + 4).toNat = 165 := by rw [← hYe]; exact laid_at 0 [248, a % 256, 252, b % 256, 164, 248, a / 256, 124, b / 256, 180, 248, a % 256, 255, b % 256, 165, 248, a / 256, 127, b / 256, 181, 248, b % 256, 253, a % 256, 166, 248, b / 256, 125, a / 256, 182] 14 _ (by simp) rfl _ (by decide)
  have m15 : Y ((10 : Int) + 5).toNat = 248 := by rw [← hYe]; exact laid_at 0 [248, a % 256, 252, b % 256, 164, 248, a / 256, 124, b / 256, 180, 248, a % 256, 255, b % 256, 165, 248, a / 256, 127, b / 256, 181, 248, b % 256, 253, a % 256, 166, 248, b / 256, 125, a / 256, 182] 15 _ (by simp) rfl _ (by decide)
  have m16 : Y ((10 : Int) + 6).toNat = a / 256 := by rw [← hYe]; exact laid_at 0 [248, a % 256, 252, b % 256, 164, 248, a / 256, 124, b / 256, 180, 248, a % 256, 255, b % 256, 165, 248, a / 256, 127, b / 256, 181, 248, b % 256, 253, a % 256, 166, 248, b / 256, 125, a / 256, 182] 16 _ (by simp) rfl _ (by decide)
  have m17 : Y ((10 : Int) + 7).toNat = 127 := by rw [← hYe]; exact laid_at 0 [248, a % 256, 252, b % 256, 164, 248, a / 256, 124, b / 256, 180, 248, a % 256, 255, b % 256, 165, 248, a / 256, 127, b / 256, 181, 248, b % 256, 253, a % 256, 166, 248, b / 256, 125, a / 256, 182] 17 _ (by simp) rfl _ (by decide)
  have m18 : Y ((10 : Int) + 8).toNat = b / 256 := by rw [← hYe]; exact laid_at 0 [248, a % 256, 252, b % 256, 164, 248, a / 256, 124, b / 256, 180, 248, a % 256, 255, b % 256, 165, 248, a / 256, 127, b / 256, 181, 248, b % 256, 253, a % 256, 166, 248, b / 256, 125, a / 256, 182] 18 _ (by simp) rfl _ (by decide)
  have m19 : Y ((10 : Int) + 9).toNat = 181 := by rw [← hYe]; exact laid_at 0 [248, a % 256, 252, b % 256, 164, 248, a / 256, 124, b / 256, 180, 248, a % 256, 255, b % 256, 165, 248, a / 256, 127, b / 256, 181, 248, b % 256, 253, a % 256, 166, 248, b / 256, 125, a / 256, 182] 19 _ (by simp) rfl _ (by decide)
  have m20 : Y ((20 : Int)).toNat = 248 := by rw [← hYe]; exact laid_at 0 [248, a % 256, 252, b % 256, 164, 248, a / 256, 124, b / 256, 180, 248, a % 256, 255, b % 256, 165, 248, a / 256, 127, b / 256, 181, 248, b % 256, 253, a % 256, 166, 248, b / 256, 125, a / 256, 182] 20 _ (by simp) rfl _ (by decide)
  have m21 : Y ((20 : Int) + 1).toNat = b % 256 := by rw [← hYe]; exact laid_at 0 [248, a % 256, 252, b % 256, 164, 248, a / 256, 124, b / 256, 180, 248, a % 256, 255, b % 256, 165, 248, a / 256, 127, b / 256, 181, 248, b % 256, 253, a % 256, 166, 248, b / 256, 125, a / 256, 182] 21 _ (by simp) rfl _ (by decide)
  have m22 : Y ((20 : Int) + 2).toNat = 253 := by rw [← hYe]; exact laid_at 0 [248, a % 256, 252, b % 256, 164, 248, a / 256, 124, b / 256, 180, 248, a % 256, 255, b % 256, 165, 248, a / 256, 127, b / 256, 181, 248, b % 256, 253, a % 256, 166, 248, b / 256, 125, a / 256, 182] 22 _ (by simp) rfl _ (by decide)
  have m23 : Y ((20 : Int) + 3).toNat = a % 256 := by rw [← hYe]; exact laid_at 0 [248, a % 256, 252, b % 256, 164, 248, a / 256, 124, b / 256, 180, 248, a % 256, 255, b % 256, 165, 248, a / 256, 127, b / 256, 181, 248, b % 256, 253, a % 256, 166, 248, b / 256, 125, a / 256, 182] 23 _ (by simp) rfl _ (by decide)
  have m24 : Y ((20 : Int) + 4).toNat = 166 := by rw [← hYe]; exact laid_at 0 [248, a % 256, 252, b % 256, 164, 248, a / 256, 124, b / 256, 180, 248, a % 256, 255, b % 256, 165, 248, a / 256, 127, b / 256, 181, 248, b % 256, 253, a % 256, 166, 248, b / 256, 125, a / 256, 182] 24 _ (by simp) rfl _ (by decide)
  have m25 : Y ((20 : Int) + 5).toNat = 248 := by rw [← hYe]; exact laid_at 0 [248, a % 256, 252, b % 256, 164, 248, a / 256, 124, b / 256, 180, 248, a % 256, 255, b % 256, 165, 248, a / 256, 127, b / 256, 181, 248, b % 256, 253, a % 256, 166, 248, b / 256, 125, a / 256, 182] 25 _ (by simp) rfl _ (by decide)
  have m26 : Y ((20 : Int) + 6).toNat = b / 256 := by rw [← hYe]; exact laid_at 0 [248, a % 256, 252, b % 256, 164, 248, a / 256, 124, b / 256, 180, 248, a % 256, 255, b % 256, 165, 248, a / 256, 127, b / 256, 181, 248, b % 256, 253, a % 256, 166, 248, b / 256, 125, a / 256, 182] 26 _ (by simp) rfl _ (by decide)
  have m27 : Y ((20 : Int) + 7).toNat = 125 := by rw [← hYe]; exact laid_at 0 [248, a % 256, 252, b % 256, 164, 248, a / 256, 124, b / 256, 180, 248, a % 256, 255, b % 256, 165, 248, a / 256, 127, b / 256, 181, 248, b % 256, 253, a % 256, 166, 248, b / 256, 125, a / 256, 182] 27 _ (by simp) rfl _ (by decide)
  have m28 : Y ((20 : Int) + 8).toNat = a / 256 := by rw [← hYe]; exact laid_at 0 [248, a % 256, 252, b % 256, 164, 248, a / 256, 124, b / 256, 180, 248, a % 256, 255, b % 256, 165, 248, a / 256, 127, b / 256, 181, 248, b % 256, 253, a % 256, 166, 248, b / 256, 125, a / 256, 182] 28 _ (by simp) rfl _ (by decide)
  have m29 : Y ((20 : Int) + 9).toNat = 182 := by rw [← hYe]; exact laid_at 0 [248, a % 256, 252, b % 256, 164, 248, a / 256, 124, b / 256, 180, 248, a % 256, 255, b % 256, 165, 248, a / 256, 127, b / 256, 181, 248, b % 256, 253, a % 256, 166, 248, b / 256, 125, a / 256, 182] 29 _ (by simp) rfl _ (by decide)
  have A4 := add_v a b 0 false ⟨a0, by omega⟩ ⟨b0, by omega⟩
  have A5 := fun f => sub_v a b f ⟨a0, by omega⟩ ⟨b0, by omega⟩
  have A6 := fun f => rev_v a b f ⟨a0, by omega⟩ ⟨b0, by omega⟩
  have g1 := sa_group4 0 0 0 0 0 false 0 Y (a % 256) (b % 256) (a / 256) (b / 256) (by decide) (by decide) m0 m1 m2 m3 m4 m5 m6 m7 m8 m9
  rw [A4.1, A4.2, show (0 : Int) + 10 = 10 from rfl] at g1
  obtain ⟨d1, hd1⟩ : ∃ d, doV 5 (a / 256) (b / 256) (doF 4 (a % 256) (b % 256) false) = d := ⟨_, rfl⟩
  rw [hd1] at g1
  have g2 := sa_group5 10 ((a + b) % 65536) 0 0 d1 (decide (65535 < a + b)) 180 Y (a % 256) (b % 256) (a / 256) (b / 256) (by decide) (by decide) m10 m11 m12 m13 m14 m15 m16 m17 m18 m19
  rw [(A5 _).1, (A5 _).2, show (10 : Int) + 10 = 20 from rfl] at g2
  obtain ⟨d2, hd2⟩ : ∃ d, doV 9 (a / 256) (b / 256) (doF 8 (a % 256) (b % 256) (decide (65535 < a + b))) = d := ⟨_, rfl⟩
  rw [hd2] at g2
  have g3 := sa_group6 20 ((a + b) % 65536) ((a - b) % 65536) 0 d2 (decide (b ≤ a)) 181 Y (b % 256) (a % 256) (b / 256) (a / 256) (by decide) (by decide) m20 m21 m22 m23 m24 m25 m26 m27 m28 m29
  rw [(A6 _).1, (A6 _).2, show (20 : Int) + 10 = 30 from rfl] at g3
  obtain ⟨d3, hd3⟩ : ∃ d, doV 7 (b / 256) (a / 256) (doF 6 (b % 256) (a % 256) (decide (b ≤ a))) = d := ⟨_, rfl⟩
  rw [hd3] at g3
  have hbg : bg 0 = sa 0 0 0 0 0 false 0 1 := bg_sa 0
  have wf0 : (sa 0 0 0 0 0 false 0 1).wf := by rw [← hbg]; exact bg_wf _ (by decide)
  have wf1 : (sa 10 ((a + b) % 65536) 0 0 d1 (decide (65535 < a + b)) 180 1).wf := by have := (runsM_ok 12 wf0 hY).1; rw [g1] at this; exact this
  have hR1 := fun (v : World) (hb : Below w.heap.size w v) (g : Nat) (hg : w.heap.size ≤ g) (hm : Blk v g 65536 Y) => lruns w v tb hb g hg Y hY hm (sa 0 0 0 0 0 false 0 1) wf0 12 (by decide) _ g1
  have wf2 : (sa 20 ((a + b) % 65536) ((a - b) % 65536) 0 d2 (decide (b ≤ a)) 181 1).wf := by have := (runsM_ok 12 wf1 hY).1; rw [g2] at this; exact this
  have hR2 := fun (v : World) (hb : Below w.heap.size w v) (g : Nat) (hg : w.heap.size ≤ g) (hm : Blk v g 65536 Y) => lruns w v tb hb g hg Y hY hm (sa 10 ((a + b) % 65536) 0 0 d1 (decide (65535 < a + b)) 180 1) wf1 12 (by decide) _ g2
  have wf3 : (sa 30 ((a + b) % 65536) ((a - b) % 65536) ((a - b) % 65536) d3 (decide (b ≤ a)) 182 1).wf := by have := (runsM_ok 12 wf2 hY).1; rw [g3] at this; exact this
  have hR3 := fun (v : World) (hb : Below w.heap.size w v) (g : Nat) (hg : w.heap.size ≤ g) (hm : Blk v g 65536 Y) => lruns w v tb hb g hg Y hY hm (sa 20 ((a + b) % 65536) ((a - b) % 65536) 0 d2 (decide (b ≤ a)) 181 1) wf2 12 (by decide) _ g3
  have c1r : Hid ((cpC (sa 10 ((a + b) % 65536) 0 0 d1 (decide (65535 < a + b)) 180 1))[4]? = some (.int .u16 ((a + b) % 65536))) := (rfl : (cpC (sa 10 ((a + b) % 65536) 0 0 d1 (decide (65535 < a + b)) 180 1))[4]? = some (.int .u16 ((a + b) % 65536)))
  have c1f : Hid ((cpC (sa 10 ((a + b) % 65536) 0 0 d1 (decide (65535 < a + b)) 180 1))[17]? = some (.bool (decide (65535 < a + b)))) := (rfl : (cpC (sa 10 ((a + b) % 65536) 0 0 d1 (decide (65535 < a + b)) 180 1))[17]? = some (.bool (decide (65535 < a + b))))
  have c2r : Hid ((cpC (sa 20 ((a + b) % 65536) ((a - b) % 65536) 0 d2 (decide (b ≤ a)) 181 1))[5]? = some (.int .u16 ((a - b) % 65536))) := (rfl : (cpC (sa 20 ((a + b) % 65536) ((a - b) % 65536) 0 d2 (decide (b ≤ a)) 181 1))[5]? = some (.int .u16 ((a - b) % 65536)))
  have c2f : Hid ((cpC (sa 20 ((a + b) % 65536) ((a - b) % 65536) 0 d2 (decide (b ≤ a)) 181 1))[17]? = some (.bool (decide (b ≤ a)))) := (rfl : (cpC (sa 20 ((a + b) % 65536) ((a - b) % 65536) 0 d2 (decide (b ≤ a)) 181 1))[17]? = some (.bool (decide (b ≤ a))))
  have c3r : Hid ((cpC (sa 30 ((a + b) % 65536) ((a - b) % 65536) ((a - b) % 65536) d3 (decide (b ≤ a)) 182 1))[6]? = some (.int .u16 ((a - b) % 65536))) := (rfl : (cpC (sa 30 ((a + b) % 65536) ((a - b) % 65536) ((a - b) % 65536) d3 (decide (b ≤ a)) 182 1))[6]? = some (.int .u16 ((a - b) % 65536)))
  have c3f : Hid ((cpC (sa 30 ((a + b) % 65536) ((a - b) % 65536) ((a - b) % 65536) d3 (decide (b ≤ a)) 182 1))[17]? = some (.bool (decide (b ≤ a)))) := (rfl : (cpC (sa 30 ((a + b) % 65536) ((a - b) % 65536) ((a - b) % 65536) d3 (decide (b ≤ a)) 182 1))[17]? = some (.bool (decide (b ≤ a))))
  have hB := fun v t => lbegun v t 0
  rw [hbg] at hB
  obtain ⟨S0, hS0⟩ : ∃ S, (sa 0 0 0 0 0 false 0 1) = S := ⟨_, rfl⟩
  obtain ⟨S1, hS1⟩ : ∃ S, (sa 10 ((a + b) % 65536) 0 0 d1 (decide (65535 < a + b)) 180 1) = S := ⟨_, rfl⟩
  obtain ⟨S2, hS2⟩ : ∃ S, (sa 20 ((a + b) % 65536) ((a - b) % 65536) 0 d2 (decide (b ≤ a)) 181 1) = S := ⟨_, rfl⟩
  obtain ⟨S3, hS3⟩ : ∃ S, (sa 30 ((a + b) % 65536) ((a - b) % 65536) ((a - b) % 65536) d3 (decide (b ≤ a)) 182 1) = S := ⟨_, rfl⟩
  rw [hS0] at hB hR1
  rw [hS1] at hR1 hR2 c1r c1f
  rw [hS2] at hR2 hR3 c2r c2f
  rw [hS3] at hR3 c3r c3f
  have ix4 : ∀ g v, (Instr.indexAt 26 (.pointer (some ⟨g, 0, none⟩)) (.int .i64 4)).run Tryd.prog v = .ok (.pointer (some ⟨g, 4, none⟩)) v := fun g v => by have := idx (g := g) (off := 0) (N := 16) Tryd.underlying26 infoR .i64 4 v (by decide); simpa using this
  have ix5 : ∀ g v, (Instr.indexAt 26 (.pointer (some ⟨g, 0, none⟩)) (.int .i64 5)).run Tryd.prog v = .ok (.pointer (some ⟨g, 5, none⟩)) v := fun g v => by have := idx (g := g) (off := 0) (N := 16) Tryd.underlying26 infoR .i64 5 v (by decide); simpa using this
  have ix6 : ∀ g v, (Instr.indexAt 26 (.pointer (some ⟨g, 0, none⟩)) (.int .i64 6)).run Tryd.prog v = .ok (.pointer (some ⟨g, 6, none⟩)) v := fun g v => by have := idx (g := g) (off := 0) (N := 16) Tryd.underlying26 infoR .i64 6 v (by decide); simpa using this
  have zz := zeroVC
  have tb' : Hid (Tabs w) := tb
  clear m0 m1 m2 m3 m4 m5 m6 m7 m8 m9 m10 m11 m12 m13 m14 m15 m16 m17 m18 m19 m20 m21 m22 m23 m24 m25 m26 m27 m28 m29 A4 A5 A6 g1 g2 g3 hd1 hd2 hd3 hbg wf0 wf1 wf2 wf3 hS0 hS1 hS2 hS3 hYe hYe' hY tb
  go_enter Tryd.func3, Tryd.ntmps3
  go_wp2_with (first
    | (refine at_loadC v4.heap.size S2 (K8.out.get 0 _ _ _ rfl) _ rfl rfl rfl ?_)
    | (go_at_call 6; refine (hR3 _ (hb2.out.trans (K8.out.upd.below hb2.out.size hg.out)) (w.heap.size + 1) hg.out K8.out.mem).mono ?_; rintro e v8 ⟨rfl, hb7⟩; have K37 : Hid (Fb v2 [(v4.heap.size, cpC S2, 29)] (w.heap.size + 1) Y v8) := K8.out.mov hb7.out.1 hb7.out.2)
    | (refine at_storeC v4.heap.size S2 S3 (K37.out.get 0 _ _ _ rfl) _ _ rfl rfl rfl rfl ?_; intro y10 hw8; have K10 : Hid (Fb v2 [(v4.heap.size, cpC S3, 29)] (w.heap.size + 1) Y y10) := K37.out.put 0 _ _ _ _ rfl hw8.out; have dr := BoxC.f (K10.out.get 0 _ _ _ rfl) 6 _ c3r.out; have df := BoxC.f (K10.out.get 0 _ _ _ rfl) 17 _ c3f.out)
    | (refine at_loadC v4.heap.size S1 (K6.out.get 0 _ _ _ rfl) _ rfl rfl rfl ?_)
    | (go_at_call 6; refine (hR2 _ (hb2.out.trans (K6.out.upd.below hb2.out.size hg.out)) (w.heap.size + 1) hg.out K6.out.mem).mono ?_; rintro e v7 ⟨rfl, hb7⟩; have K27 : Hid (Fb v2 [(v4.heap.size, cpC S1, 29)] (w.heap.size + 1) Y v7) := K6.out.mov hb7.out.1 hb7.out.2)
    | (refine at_storeC v4.heap.size S1 S2 (K27.out.get 0 _ _ _ rfl) _ _ rfl rfl rfl rfl ?_; intro y8 hw8; have K8 : Hid (Fb v2 [(v4.heap.size, cpC S2, 29)] (w.heap.size + 1) Y y8) := K27.out.put 0 _ _ _ _ rfl hw8.out; have dr := BoxC.f (K8.out.get 0 _ _ _ rfl) 5 _ c2r.out; have df := BoxC.f (K8.out.get 0 _ _ _ rfl) 17 _ c2f.out)
    | (go_at_call_of 5 (Value.int IntKind.i64 0); refine hRo.mono ?_; rintro e v2 ⟨rfl, hr2⟩; have hb2 : Hid (Below w.heap.size w v2) := hr2.out.2; have hg : Hid (w.heap.size ≤ w.heap.size + 1) := Nat.le_succ _; have K0 : Hid (Fb v2 [] (w.heap.size + 1) Y v2) := Fb.nil hr2.out.1)
    | (go_at_call_of 7 (Value.int IntKind.u16 0); refine (hB _ (tb'.out.below hb2.out)).mono ?_; rintro e v3 ⟨rfl, hb3⟩; have K1 : Hid (Fb v2 [] (w.heap.size + 1) Y v3) := K0.out.below hb3)
    | (go_at_call 6; refine (hR1 _ (hb2.out.trans (K1.out.upd.below hb2.out.size hg.out)) (w.heap.size + 1) hg.out K1.out.mem).mono ?_; rintro e v4 ⟨rfl, hb4⟩; have K2 : Hid (Fb v2 [] (w.heap.size + 1) Y v4) := K1.out.mov hb4.out.1 hb4.out.2; clear hR1)
    | (refine gen_world (v4.alloc (.cells (cpC zeroC) 29)) (Fb v2 [(v4.heap.size, cpC zeroC, 29)] (w.heap.size + 1) Y) (K2.out.new _ _) ?_; intro y5 K5)
    | (refine at_storeC v4.heap.size zeroC S1 (K5.out.get 0 _ _ _ rfl) _ _ rfl rfl rfl rfl ?_; intro y6 hw6; have K6 : Hid (Fb v2 [(v4.heap.size, cpC S1, 29)] (w.heap.size + 1) Y y6) := K5.out.put 0 _ _ _ _ rfl hw6.out; have dr := BoxC.f (K6.out.get 0 _ _ _ rfl) 4 _ c1r.out; have df := BoxC.f (K6.out.get 0 _ _ _ rfl) 17 _ c1f.out))
  go_ret
  exact ⟨by first | rfl | simp, hb2.out.trans (K10.out.upd.below hb2.out.size hg.out)⟩
end Go.Proofs.YtbeeefekndcgnabDoor
