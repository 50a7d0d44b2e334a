/- A memory with a program in it -/
import Derived.Test.YtbeeefekndcgnaaGreatDoorMm
import Derived.Test.YtbeeefekndcgnaaGreatDoorMc
namespace Go.Proofs.YtbeeefekndcgnaaGreatDoor
open Go Go.RowKit
set_option linter.unusedVariables false
set_option maxHeartbeats 1000000
set_option maxRecDepth 20000

/-- Bytes that lie in a row. -/
def Lies (x : World) (sp : Option Addr) (len : Nat) (Y : Nat → Int) : Prop := ∀ j, j < len → ∃ gb ob, sp = some ⟨gb, ob, none⟩ ∧ x.cell? ⟨gb, ob + j, none⟩ = some (.int .u8 (Y j))
theorem Lies.below {B : Nat} {x y : World} {sp : Option Addr} {len : Nat} {Y : Nat → Int} (h : Lies x sp len Y) (hb : Below x.heap.size x y) : Lies y sp len Y := fun j hj => by
  obtain ⟨gb, ob, e, k⟩ := h j hj
  refine ⟨gb, ob, e, ?_⟩
  have hl : gb < x.heap.size := World.block_lt_of_cell? x ⟨gb, ob + j, none⟩ k
  exact (World.cell?_of_block (w := x) (a := ⟨gb, ob + j, none⟩) (hb.block gb hl)).trans k
def laidM (at_ len : Nat) (P : Nat → Int) : Nat → Int := fun j => if at_ ≤ j ∧ j < at_ + len then P (j - at_) else 0
theorem lroom (w : World) (at_ : Nat) (hat : at_ < 65536) (sp : Option Addr) (len cap : Nat) (hlen : len ≤ maxLen) (P : Nat → Int) (hP : Lies w sp len P) : Calls Tryz.prog 13 #[.int .i64 (at_ : Int), .slice sp len cap] w fun e w' => e = .returned (.slice (some ⟨w.heap.size, 0, none⟩) 65536 65536) ∧ Hid (Blk w' w.heap.size 65536 (laidM at_ len P) ∧ Below w.heap.size w w') := by
  have hmk : ∀ v, (Instr.makeSlice 40 (.int .i64 65536) (.int .i64 65536)).run Tryz.prog v = .ok (.slice (some ⟨v.heap.size, 0, none⟩) 65536 65536) (v.alloc (.cells (madeCells #[.int .u8 0] 65536) 5)) := fun v => run_make_row' (P := Tryz.prog) 40 5 (.int .u8 0) 1 Tryz.underlying40 infoB1 rfl .i64 .i64 65536 (by decide) (by decide) v
  have hb0 := made_blk w 65536
  obtain ⟨M, hM⟩ : ∃ M, madeCells #[Value.int .u8 0] 65536 = M := ⟨_, rfl⟩
  rw [hM] at hmk hb0
  have hb0' : Hid (Blk (w.alloc (.cells M 5)) w.heap.size 65536 (laidM at_ 0 P)) := hb0.congr fun j _ => by unfold laidM; rw [if_neg (by omega)]
  have HB0 : Hid (Below w.heap.size w (w.alloc (.cells M 5))) := (Below.refl _ _).alloc (Nat.le_refl _) _
  have bl : (len : Int) ≤ 9223372036854775807 := by unfold maxLen at hlen; omega
  have hP' : Hid (Lies w sp len P) := hP
  clear hM hb0 hP hlen
  go_enter Tryz.func13, Tryz.ntmps13
  go_wp2
  go_loopw [6] (fun i wz => ∃ (k : Nat) (wx : World), wx = wz ∧ k ≤ len ∧ at_ + k ≤ 65536 ∧ i = .int .i64 (k : Int) ∧ Hid (Blk wx w.heap.size 65536 (laidM at_ k P)) ∧ Hid (Below w.heap.size w wx)) (fun i _ => (len - intOf i).toNat)
  case atStart => exact ⟨0, _, rfl, by omega, by omega, rfl, hb0', HB0⟩
  case round =>
    clear hb0' HB0 hmk
    obtain ⟨k, wx, rfl, hk, hk2, rfl, hblk, HX⟩ := hrel
    by_cases hlt : k < len
    · by_cases h2 : at_ + k < 65536
      · obtain ⟨gb, ob, rfl, hcell⟩ := (hP'.out.below (B := 0) HX.out) k hlt
        have c := hblk.out.cell (at_ + k) h2
        have hfz := hblk.out.frozen (at_ + k)
        have ij := fun v => idxS (g := w.heap.size) (off := 0) (len := 65536) (cap := 65536) Tryz.underlying40 (s := 1) (by kernel_rfl) .i64 (at_ + k) v h2
        have ik := fun v => idxS (g := gb) (off := ob) (len := len) (cap := cap) Tryz.underlying40 (s := 1) (by kernel_rfl) .i64 k v hlt
        simp only [Nat.zero_add, Nat.mul_one, Int.natCast_add] at ij ik
        have hset : Hid (Blk (wx.setCell ⟨w.heap.size, at_ + k, none⟩ (.int .u8 (P k))) w.heap.size 65536 (laidM at_ (k + 1) P)) := (hblk.out.set (at_ + k) h2 _).congr fun j _ => by
          unfold laidM
          by_cases e : j = at_ + k
          · subst e; rw [if_pos rfl, if_pos (by omega)]; congr 1; omega
          · rw [if_neg e]
            by_cases h : at_ ≤ j ∧ j < at_ + k
            · rw [if_pos h, if_pos (by omega)]
            · rw [if_neg h, if_neg (by omega)]
        have HX' : Hid (Below w.heap.size w (wx.setCell ⟨w.heap.size, at_ + k, none⟩ (.int .u8 (P k)))) := HX.out.setCell (p := ⟨w.heap.size, at_ + k, none⟩) (Nat.le_refl _) _
        obtain ⟨u, hu⟩ : ∃ u, laidM at_ k P (at_ + k) = u := ⟨_, rfl⟩
        rw [hu] at c
        have q1 : (k : Int) < len := by omega
        have q2 : (at_ : Int) + k < 65536 := by omega
        have q3 : Hid (at_ + k < 65536 ∧ k < len) := ⟨h2, hlt⟩
        clear hu hblk hk hk2 HX hlt h2
        go_wp2
        go_roundw
        case rel => exact ⟨k + 1, _, rfl, by have := q3.out; omega, by have := q3.out; omega, by simp, hset, HX'⟩
        case measure => have := q3.out; simp [intOf]; omega
      · have q1 : (k : Int) < len := by omega
        have q2 : (at_ : Int) + k = 65536 := by omega
        have hfin : Hid (Blk wx w.heap.size 65536 (laidM at_ len P)) := hblk.out.congr fun j hj => by
          unfold laidM
          by_cases h : at_ ≤ j ∧ j < at_ + k
          · rw [if_pos h, if_pos (by omega)]
          · rw [if_neg h, if_neg (by omega)]
        clear hblk hk hk2 hlt h2
        go_wp2
        go_ret
        exact ⟨rfl, hfin.out, HX.out⟩
    · have hke : k = len := by omega
      subst hke
      have q1 : ¬ (k : Int) < k := by omega
      clear hk hk2 hlt
      go_wp2
      go_ret
      exact ⟨rfl, hblk.out, HX.out⟩
end Go.Proofs.YtbeeefekndcgnaaGreatDoor
