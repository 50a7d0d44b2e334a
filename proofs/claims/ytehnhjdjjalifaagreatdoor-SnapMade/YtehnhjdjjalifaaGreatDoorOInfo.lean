/- code.Info: what it returns of every op. -/
import Derived.Test.YtehnhjdjjalifaaGreatDoorOData
import Derived.WalkKit
import Derived.WalkSpells
import Derived.WalkLawsBesides
import Derived.ChangeKeysEq
import Derived.Deep.QuietTactic
import Derived.BigQuiet
import Derived.Deep.OwnRows
import Derived.Handy
namespace Go.Proofs.YtehnhjdjjalifaaGreatDoor
open Go.RowKit
set_option maxHeartbeats 400000

theorem idx {P : Program} {t e : TypeId} {N s g off : Nat} (ht : P.underlying t = some (.array N e)) (hs : (P.info? e).map (·.size) = some s) (k : IntKind) (i : Nat) (w : World) (h : i < N) :
   (Instr.indexAt t (.pointer (some ⟨g, off, none⟩)) (.int k (i : Int))).run P w = .ok (.pointer (some ⟨g, off + i * s, none⟩)) w := by
  have e1 : P.arrayLen t = N := by unfold Program.arrayLen; rw [ht]
  have e2 : P.elem t = e := by unfold Program.elem; rw [ht]
  rw [run_indexAt_array _ _ _ _ _ (by rw [e1, e2, ht]), e1, e2, if_pos ⟨by omega, by omega⟩]
  obtain ⟨inf, hi, rfl⟩ := Option.map_eq_some_iff.1 hs
  have e3 : P.cellsOf e = inf.size := by unfold Program.cellsOf; rw [hi]; rfl
  rw [run_sizeOf _ hi, e3]
  have e4 : (⟨g, off, none⟩ : Addr).add (i * inf.size) = ⟨g, off + i * inf.size, none⟩ := by
    unfold Addr.add
    split
    · rename_i h0; rw [h0]; rfl
    · rfl
  simp [e4]

theorem below_drewN {B : Nat} {a w : World} (h : Below B a w) {n : Nat} : Below B a (w.drewN n) := ⟨h.os, h.tape, h.output, h.size, h.block⟩
theorem below_set {B : Nat} {a w : World} (h : Below B a w) {g off : Nat} {u : Value} (hg : B ≤ g) : Below B a (w.setCell ⟨g, off, none⟩ u) := h.setCell (p := ⟨g, off, none⟩) hg u
theorem low4 (n : Nat) (h : n < 256) : bits .and .u8 (n : Int) 15 = (n : Int) % 16 := by
  have : ∀ n : Nat, n < 256 → bits .and .u8 (n : Int) 15 = (n : Int) % 16 := by decide +kernel
  exact this n h
theorem spr_le (i : Nat) (h : i < 16) : spr i ≤ 6 := by revert i; decide +kernel
theorem rowFm_le (i : Nat) (h : i < 16) : rowFm i ≤ 6 := by revert i; decide +kernel
theorem splFm_le (i : Nat) (h : i < 96) : splFm i ≤ 6 := by revert i; decide +kernel

/-- An op's name and form, by the program's tables. -/
def nm (n : Nat) : ByteArray := if spr (n / 16) = 0 then rowNm (n / 16) else splNm ((spr (n / 16) - 1) * 16 + n % 16)
def fm (n : Nat) : Nat := if spr (n / 16) = 0 then rowFm (n / 16) else splFm ((spr (n / 16) - 1) * 16 + n % 16)

/-- What Info says of an op. -/
def cyc (n : Nat) : Nat := if n / 16 = 12 then 3 else 2
def infoV (n : Nat) : Value := .agg #[.string (nm n), .int .u8 (fm n : Nat), .int .i64 (lay (fm n * 3) : Nat), .int .i64 (cyc n : Nat)]

theorem info_row (n : Nat) (w : World) (T : Tabs w) (h : n < 256) (hs : spr (n / 16) = 0) (hc : n / 16 ≠ 12) :
    Calls Tryz.prog 116 #[.int .u8 n] w fun e w' => e = .returned (.agg #[.string (rowNm (n / 16)), .int .u8 (rowFm (n / 16) : Nat), .int .i64 (lay (rowFm (n / 16) * 3) : Nat), .int .i64 2]) ∧ Below w.heap.size w w' := by
  have f6 := rowFm_le (n / 16) (by omega)
  have a0 := T.rn (n / 16) (by omega)
  have a1 := T.rf (n / 16) (by omega)
  have a2 := T.sr (n / 16) (by omega)
  have a5 := T.ly (rowFm (n / 16) * 3) (by omega)
  rw [hs] at a2
  have hz := T.size
  have z0 : 1 < w.heap.size := by omega
  have z1 : 2 < w.heap.size := by omega
  have z2 : 3 < w.heap.size := by omega
  have z5 : 6 < w.heap.size := by omega
  have i0 := fun w => idx (g := 1) (off := 0) Tryz.underlying115 (s := 1) (by kernel_rfl) .u8 (n / 16) w (by omega)
  have i1 := fun w => idx (g := 2) (off := 0) Tryz.underlying116 (s := 1) (by kernel_rfl) .u8 (n / 16) w (by omega)
  have i2 := fun w => idx (g := 3) (off := 0) Tryz.underlying117 (s := 1) (by kernel_rfl) .u8 (n / 16) w (by omega)
  have i5 := fun w => idx (g := 6) (off := 0) Tryz.underlying122 (s := 3) (by kernel_rfl) .u8 (rowFm (n / 16)) w (by omega)
  simp only [Int.natCast_ediv, Nat.zero_add, Nat.mul_one, Int.cast_ofNat_Int] at i0 i1 i2 i5
  have hl := low4 n h
  have hc' : ((n : Int) / 16 == 12) = false := by simp; omega
  go_enter Tryz.func116, Tryz.ntmps116
  go_wp2
  go_quiet (fail)
  go_wp2
  go_returns
  refine ⟨rfl, ?_⟩
  repeat (first | exact Below.refl _ _ | refine below_set ?_ (Nat.le_refl _) | refine below_drewN ?_ | refine Below.alloc ?_ (Nat.le_refl _) _)

theorem info_spl (n k : Nat) (w : World) (T : Tabs w) (h : n < 256) (hs : spr (n / 16) = k + 1) (c : Nat) (hc : c = cyc n) :
    Calls Tryz.prog 116 #[.int .u8 n] w fun e w' => e = .returned (.agg #[.string (splNm (k * 16 + n % 16)), .int .u8 (splFm (k * 16 + n % 16) : Nat), .int .i64 (lay (splFm (k * 16 + n % 16) * 3) : Nat), .int .i64 (c : Nat)]) ∧ Below w.heap.size w w' := by
  have hk := spr_le (n / 16) (by omega)
  have f6 := splFm_le (k * 16 + n % 16) (by omega)
  have a0 := T.rn (n / 16) (by omega)
  have a1 := T.rf (n / 16) (by omega)
  have a2 := T.sr (n / 16) (by omega)
  have a3 := T.sn (k * 16 + n % 16) (by omega)
  have a4 := T.sf (k * 16 + n % 16) (by omega)
  have a5 := T.ly (splFm (k * 16 + n % 16) * 3) (by omega)
  rw [hs] at a2
  have hz := T.size
  have z0 : 1 < w.heap.size := by omega
  have z1 : 2 < w.heap.size := by omega
  have z2 : 3 < w.heap.size := by omega
  have z3 : 4 < w.heap.size := by omega
  have z4 : 5 < w.heap.size := by omega
  have z5 : 6 < w.heap.size := by omega
  have i0 := fun w => idx (g := 1) (off := 0) Tryz.underlying115 (s := 1) (by kernel_rfl) .u8 (n / 16) w (by omega)
  have i1 := fun w => idx (g := 2) (off := 0) Tryz.underlying116 (s := 1) (by kernel_rfl) .u8 (n / 16) w (by omega)
  have i2 := fun w => idx (g := 3) (off := 0) Tryz.underlying117 (s := 1) (by kernel_rfl) .u8 (n / 16) w (by omega)
  have i3 := fun w => idx (g := 4) (off := 0) Tryz.underlying118 (s := 16) (by kernel_rfl) .u8 k w (by omega)
  have i3' := fun w => idx (g := 4) (off := k * 16) Tryz.underlying115 (s := 1) (by kernel_rfl) .u8 (n % 16) w (by omega)
  have i4 := fun w => idx (g := 5) (off := 0) Tryz.underlying119 (s := 16) (by kernel_rfl) .u8 k w (by omega)
  have i4' := fun w => idx (g := 5) (off := k * 16) Tryz.underlying116 (s := 1) (by kernel_rfl) .u8 (n % 16) w (by omega)
  have i5 := fun w => idx (g := 6) (off := 0) Tryz.underlying122 (s := 3) (by kernel_rfl) .u8 (splFm (k * 16 + n % 16)) w (by omega)
  simp only [Int.natCast_ediv, Int.natCast_emod, Nat.zero_add, Nat.mul_one, Int.cast_ofNat_Int] at i0 i1 i2 i3 i3' i4 i4' i5
  have hl := low4 n h
  have hk1 : ((k + 1 : Nat) : Int) = (k : Int) + 1 := by omega
  rw [hk1] at a2
  unfold cyc at hc
  subst hc
  by_cases hh : n / 16 = 12
  · rw [if_pos hh]
    have hc' : ((n : Int) / 16 == 12) = true := by simp; omega
    clear hh
    go_enter Tryz.func116, Tryz.ntmps116
    go_wp2
    go_quiet (fail)
    go_wp2
    go_quiet (fail)
    go_wp2
    go_returns
    refine ⟨rfl, ?_⟩
    repeat (first | exact Below.refl _ _ | refine below_set ?_ (Nat.le_refl _) | refine below_drewN ?_ | refine Below.alloc ?_ (Nat.le_refl _) _)
  · rw [if_neg hh]
    have hc' : ((n : Int) / 16 == 12) = false := by simp; omega
    go_enter Tryz.func116, Tryz.ntmps116
    go_wp2
    go_quiet (fail)
    go_wp2
    go_quiet (fail)
    go_wp2
    go_returns
    refine ⟨rfl, ?_⟩
    repeat (first | exact Below.refl _ _ | refine below_set ?_ (Nat.le_refl _) | refine below_drewN ?_ | refine Below.alloc ?_ (Nat.le_refl _) _)

/-- code.Info, whole. -/
theorem info_any (n : Nat) (w : World) (T : Tabs w) (h : n < 256) :
    Calls Tryz.prog 116 #[.int .u8 n] w fun e w' => e = .returned (infoV n) ∧ Below w.heap.size w w' := by
  rcases hs : spr (n / 16) with _ | k
  · have hc : n / 16 ≠ 12 := by intro e; rw [e] at hs; revert hs; decide
    have := info_row n w T h hs hc
    unfold infoV nm fm cyc
    rw [if_pos hs, if_pos hs, if_neg hc]
    exact this
  · have := info_spl n k w T h hs _ rfl
    unfold infoV nm fm
    rw [if_neg (by omega), if_neg (by omega), show spr (n / 16) - 1 = k from by omega]
    exact this
end Go.Proofs.YtehnhjdjjalifaaGreatDoor
