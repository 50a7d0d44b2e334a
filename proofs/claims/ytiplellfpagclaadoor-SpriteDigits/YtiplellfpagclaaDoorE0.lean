/- The digits' pictures: the program's table, the document's list. -/
import Derived.Test.YtiplellfpagclaaDoorD1
import Derived.Test.YtiplellfpagclaaDoorTab
namespace Go.Proofs.YtiplellfpagclaaDoor
open Go Go.RowKit
set_option linter.unusedVariables false
set_option maxHeartbeats 1000000
set_option maxRecDepth 20000

def picL : List Nat := [240, 144, 144, 144, 240, 32, 96, 32, 32, 112, 240, 16, 240, 128, 240, 240, 16, 240, 16, 240, 144, 144, 240, 16, 16, 240, 128, 240, 16, 240, 240, 128, 240, 144, 240, 240, 16, 16, 16, 16, 240, 144, 240, 144, 240, 240, 144, 240, 16, 240, 240, 144, 240, 144, 144, 224, 144, 224, 144, 224, 240, 128, 128, 128, 240, 224, 144, 144, 144, 224, 240, 128, 240, 128, 240, 240, 128, 240, 128, 128]
/-- The k-th row of a picture. -/
def pic (n k : Nat) : Nat := picL.getD (n * 5 + k) 0
/-- A picture's cells. -/
def dgC (n : Nat) : Array Value := #[.int .u8 (pic n 0 : Nat), .int .u8 (pic n 1 : Nat), .int .u8 (pic n 2 : Nat), .int .u8 (pic n 3 : Nat), .int .u8 (pic n 4 : Nat)]
/-- What the table of pictures holds. -/
structure Tg (w : World) : Prop where
  c : ∀ i : Nat, i < 80 → w.cell? ⟨0, i, none⟩ = some (.int .u8 (picL.getD i 0 : Nat))
  size : 0 < w.heap.size
theorem Tg.below {w w' : World} (h : Tg w) (hb : Below w.heap.size w w') : Tg w' := ⟨fun i hi => (hb.cell h.size).trans (h.c i hi), Nat.lt_of_lt_of_le h.size hb.size⟩
theorem rtDg : Rt Tryd.prog 22 5 := ⟨⟨_, Tryd.underlying22, rfl⟩, by kernel_rfl⟩
theorem dg_one (n : Nat) : (dgC n).all (·.oneCell') = true := by kernel_rfl
theorem pic_big (n k : Nat) (h : 16 ≤ n) (hk : k < 5) : pic n k = 0 := by
  unfold pic
  rw [List.getD, List.getElem?_eq_none (by show 80 ≤ _; omega)]
  rfl
theorem dg_big (n : Nat) (h : 16 ≤ n) : dgC n = #[.int .u8 0, .int .u8 0, .int .u8 0, .int .u8 0, .int .u8 0] := by
  unfold dgC
  rw [pic_big n 0 h (by decide), pic_big n 1 h (by decide), pic_big n 2 h (by decide), pic_big n 3 h (by decide), pic_big n 4 h (by decide)]
  rfl
theorem zeroDg (w : World) : (zeroValue 22).run Tryd.prog w = .ok (.agg #[.int .u8 0, .int .u8 0, .int .u8 0, .int .u8 0, .int .u8 0]) w := by kernel_rfl
theorem digit_any (w : World) (n : Nat) (hn : n < 256) (T : Hid (Tg w)) : Calls Tryd.prog 5 #[.int .u8 (n : Int)] w fun e w' => e = .returned (.agg (dgC n)) ∧ Below w.heap.size w w' := by
  by_cases h : n < 16
  · have hr : ∀ v, Below w.heap.size w v → v.rangeAt 0 (n * 5) (dgC n).toList := fun v hv k u hu => by
      have hk : k < 5 := (List.getElem?_eq_some_iff.1 hu).1
      have := (T.out.below hv).c (n * 5 + k) (by omega)
      rw [this]
      have : k = 0 ∨ k = 1 ∨ k = 2 ∨ k = 3 ∨ k = 4 := by omega
      rcases this with rfl | rfl | rfl | rfl | rfl <;> (simp [dgC] at hu; subst hu; rfl)
    have q : decide ((16 : Int) ≤ (n : Int)) = false := by simp; omega
    have ix := fun v => idx (g := 0) (off := 0) (N := 16) (s := 5) Tryd.underlying40 (by kernel_rfl) .u8 n v h
    simp only [Nat.zero_add] at ix
    have hni : (n : Int) < 256 := by omega
    have K0 : Hid (Fm w [(w.heap.size, #[.int .u8 0, .int .u8 0, .int .u8 0, .int .u8 0, .int .u8 0], 22)] (w.alloc (.cells #[.int .u8 0, .int .u8 0, .int .u8 0, .int .u8 0, .int .u8 0] 22))) := Fm.one w _ _
    have hr : Hid (∀ v, Below w.heap.size w v → v.rangeAt 0 (n * 5) (dgC n).toList) := hr
    have hz := zeroDg
    clear h hn
    go_enter Tryd.func5, Tryd.ntmps5
    go_wp2_with (first
      | ((with_reducible refine at_st rtDg w.heap.size #[.int .u8 0, .int .u8 0, .int .u8 0, .int .u8 0, .int .u8 0] (dgC n) ?_ ?_ ?_ ?_ (.tmp 2) (.tmp 9) ?_ ?_ ?_ ?_ ?_); exact K0.out.bx 0 _ _ _ rfl; rfl; rfl; exact dg_one n; rfl; rfl; rfl; rfl; intro y2 H2; have K2 : Hid (Fm w [(w.heap.size, dgC n, 22)] y2) := K0.out.put 0 _ _ _ _ rfl H2.out)
      | ((with_reducible refine at_loadm rtDg 0 (n * 5) (dgC n) ?_ ?_ (.tmp 8) ?_ ?_ ?_ ?_); exact hr.out _ K0.out.low; rfl; kernel_rfl; rfl; rfl))
    exact ret_row rtDg rfl rfl (K2.out.bx 0 _ _ _ rfl) rfl rfl ⟨rfl, K2.out.low⟩
  · have q : decide ((16 : Int) ≤ (n : Int)) = true := by simp; omega
    rw [dg_big n (by omega)]
    have hni : (n : Int) < 256 := by omega
    have K0 : Hid (Fm w [(w.heap.size, #[.int .u8 0, .int .u8 0, .int .u8 0, .int .u8 0, .int .u8 0], 22)] (w.alloc (.cells #[.int .u8 0, .int .u8 0, .int .u8 0, .int .u8 0, .int .u8 0] 22))) := Fm.one w _ _
    have hz := zeroDg
    clear h hn
    go_enter Tryd.func5, Tryd.ntmps5
    go_wp2_with (first
      | ((with_reducible refine at_st rtDg w.heap.size #[.int .u8 0, .int .u8 0, .int .u8 0, .int .u8 0, .int .u8 0] #[.int .u8 0, .int .u8 0, .int .u8 0, .int .u8 0, .int .u8 0] ?_ ?_ ?_ ?_ (.tmp 2) (.tmp 6) ?_ ?_ ?_ ?_ ?_); exact K0.out.bx 0 _ _ _ rfl; rfl; rfl; kernel_rfl; rfl; rfl; rfl; rfl; intro y2 H2; have K2 : Hid (Fm w [(w.heap.size, #[.int .u8 0, .int .u8 0, .int .u8 0, .int .u8 0, .int .u8 0], 22)] y2) := K0.out.put 0 _ _ _ _ rfl H2.out)
      | ((with_reducible refine at_bu #[] [] #[.int .u8 0, .int .u8 0, .int .u8 0, .int .u8 0, .int .u8 0] ?_ ?_ ?_ ?_ ?_); kernel_rfl; rfl; rfl; kernel_rfl))
    first
      | exact ret_row rtDg rfl rfl (K2.out.bx 0 _ _ _ rfl) rfl rfl ⟨rfl, K2.out.low⟩
      | exact ret_row rtDg rfl rfl (K0.out.bx 0 _ _ _ rfl) rfl rfl ⟨rfl, K0.out.low⟩

end Go.Proofs.YtiplellfpagclaaDoor
