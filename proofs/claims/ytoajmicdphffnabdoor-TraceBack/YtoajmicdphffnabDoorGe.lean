/- How bytes begin: the program's. -/
import Derived.Test.YtoajmicdphffnabDoorGa
import Derived.Test.YtoajmicdphffnabDoorJa
import Derived.Deep.RegionHeld3
import Derived.Deep.RegionWith
import Derived.Laws.BitsLemmas
import Derived.Laws.BitsAllLaws
namespace Go.Proofs.YtoajmicdphffnabDoor
open Go Go.RowKit
set_option linter.unusedVariables false
set_option maxHeartbeats 4000000
set_option maxRecDepth 20000

def okO (l : List UInt8) : Bool := decide (8 ≤ l.length) && decide (l.take 4 = [86, 84, 82, 49]) && decide (manyP l ≤ 4194304)
theorem or_shl (k : Nat) (a b : Int) (hk : k = 8 ∨ k = 16 ∨ k = 24) (a0 : 0 ≤ a) (a1 : a < 2 ^ k) (b0 : 0 ≤ b) (b1 : b ≤ 255) : bits .or .u32 a (b * 2 ^ k) = a + b * 2 ^ k := by
  obtain ⟨x, rfl⟩ := Int.eq_ofNat_of_zero_le a0
  obtain ⟨y, rfl⟩ := Int.eq_ofNat_of_zero_le b0
  have hx : x < 2 ^ k := by exact_mod_cast a1
  have hy : y < 2 ^ 8 := by omega
  have hk24 : k ≤ 24 := by omega
  have hp : y * 2 ^ k < 2 ^ 32 := by
    have h1 : y * 2 ^ k < 2 ^ 8 * 2 ^ k := Nat.mul_lt_mul_of_pos_right hy (Nat.pow_pos (by decide))
    have h2 : 2 ^ 8 * 2 ^ k ≤ 2 ^ 32 := by rw [← Nat.pow_add]; exact Nat.pow_le_pow_right (by decide) (by omega)
    omega
  have hx2 : x < 2 ^ 32 := Nat.lt_of_lt_of_le hx (Nat.pow_le_pow_right (by decide) (by omega))
  have e : (x ||| y * 2 ^ k) = x + y * 2 ^ k := by
    rw [Nat.or_comm, Nat.add_comm, Nat.mul_comm, Nat.two_pow_add_eq_or_of_lt hx]
  have hs : x + y * 2 ^ k < 2 ^ 32 := by
    rw [← e]
    exact Nat.or_lt_two_pow hx2 hp
  have em : ((y : Int) * 2 ^ k) = ((y * 2 ^ k : Nat) : Int) := by push_cast; rfl
  rw [em]
  show IntKind.u32.wrap ((BitVec.ofInt 32 (x : Int) ||| BitVec.ofInt 32 ((y * 2 ^ k : Nat) : Int)).toNat : Int) = _
  have b32 : ∀ m : Nat, BitVec.ofInt 32 (m : Int) = BitVec.ofNat 32 m := fun m => by apply BitVec.eq_of_toInt_eq; simp
  rw [b32, b32, BitVec.toNat_or, BitVec.toNat_ofNat, BitVec.toNat_ofNat, Nat.mod_eq_of_lt hx2, Nat.mod_eq_of_lt hp, e, IntKind.wrap_u32]
  have ez : (x : Int) + ((y * 2 ^ k : Nat) : Int) = ((x + y * 2 ^ k : Nat) : Int) := by push_cast; rfl
  rw [ez]
  generalize x + y * 2 ^ k = z at hs ⊢
  omega
theorem ropen_any (w : World) (sp : Option Addr) (cap : Nat) (l : List UInt8) (hl : Hid (LiesB w sp l)) (hn : l.length ≤ 4611686018427387904) (hcap : l.length ≤ cap) :
    Calls Tryd.prog 27 #[.slice sp l.length cap] w fun e w' => e = (if okO l then .returned (.int .i64 (manyP l)) else .panicked [{ v := pv, recovered := false }]) ∧ Below w.heap.size w w' := by
  obtain ⟨n, hn'⟩ : ∃ n, l.length = n := ⟨_, rfl⟩
  have hnn : Hid (l.length = n) := hn'
  have ni : (n : Int) ≤ 4611686018427387904 := by omega
  rw [hn'] at hcap ⊢
  by_cases h8 : n < 8
  · have fin : Hid (okO l = false) := by show _ = _; unfold okO; rw [hn']; simp; omega
    have q8 : decide (8 ≤ (n : Int)) = false := by simp; omega
    rw [fin.out]
    clear h8 hn hn' fin
    go_enter Tryd.func27, Tryd.ntmps27
    go_wp2_with (go_at_call 23; refine (need_no w).mono ?_; rintro e y ⟨rfl, hy⟩; replace hy := hy.symm; subst hy)
    exact ⟨rfl, rfl, Below.refl _ _⟩
  have q8 : decide (8 ≤ (n : Int)) = true := by simp; omega
  obtain ⟨b0, b1, b2, b3, b4, b5, b6, b7, r, hlr⟩ : ∃ b0 b1 b2 b3 b4 b5 b6 b7 r, l = b0 :: b1 :: b2 :: b3 :: b4 :: b5 :: b6 :: b7 :: r := by
    have h : 8 ≤ l.length := by omega
    match l, h with
    | a0 :: a1 :: a2 :: a3 :: a4 :: a5 :: a6 :: a7 :: t, _ => exact ⟨a0, a1, a2, a3, a4, a5, a6, a7, t, rfl⟩
  obtain ⟨g, o, rfl, _⟩ := hl.out 0 b0 (by rw [hlr]; rfl)
  have x0 : l[0]? = some b0 := by rw [hlr]; rfl
  have c0 : w.cell? ⟨g, o, none⟩ = some (.int .u8 (b0.toNat : Int)) := by
    obtain ⟨g', o', e', c⟩ := hl.out 0 b0 x0
    cases e'
    exact c
  have i0 : ∀ v, (Instr.indexAt 23 (.slice (some ⟨g, o, none⟩) n cap) (.int .i64 0)).run Tryd.prog v = .ok (.pointer (some ⟨g, o, none⟩)) v := fun v => idxB g o n cap 0 (by omega) v
  have u0 : (b0.toNat : Int) ≤ 255 := by have := UInt8.toNat_lt b0; omega
  have v0 : 0 ≤ (b0.toNat : Int) := by omega
  have x1 : l[1]? = some b1 := by rw [hlr]; rfl
  have c1 : w.cell? ⟨g, o + 1, none⟩ = some (.int .u8 (b1.toNat : Int)) := by
    obtain ⟨g', o', e', c⟩ := hl.out 1 b1 x1
    cases e'
    exact c
  have i1 : ∀ v, (Instr.indexAt 23 (.slice (some ⟨g, o, none⟩) n cap) (.int .i64 1)).run Tryd.prog v = .ok (.pointer (some ⟨g, o + 1, none⟩)) v := fun v => idxB g o n cap 1 (by omega) v
  have u1 : (b1.toNat : Int) ≤ 255 := by have := UInt8.toNat_lt b1; omega
  have v1 : 0 ≤ (b1.toNat : Int) := by omega
  have x2 : l[2]? = some b2 := by rw [hlr]; rfl
  have c2 : w.cell? ⟨g, o + 2, none⟩ = some (.int .u8 (b2.toNat : Int)) := by
    obtain ⟨g', o', e', c⟩ := hl.out 2 b2 x2
    cases e'
    exact c
  have i2 : ∀ v, (Instr.indexAt 23 (.slice (some ⟨g, o, none⟩) n cap) (.int .i64 2)).run Tryd.prog v = .ok (.pointer (some ⟨g, o + 2, none⟩)) v := fun v => idxB g o n cap 2 (by omega) v
  have u2 : (b2.toNat : Int) ≤ 255 := by have := UInt8.toNat_lt b2; omega
  have v2 : 0 ≤ (b2.toNat : Int) := by omega
  have x3 : l[3]? = some b3 := by rw [hlr]; rfl
  have c3 : w.cell? ⟨g, o + 3, none⟩ = some (.int .u8 (b3.toNat : Int)) := by
    obtain ⟨g', o', e', c⟩ := hl.out 3 b3 x3
    cases e'
    exact c
  have i3 : ∀ v, (Instr.indexAt 23 (.slice (some ⟨g, o, none⟩) n cap) (.int .i64 3)).run Tryd.prog v = .ok (.pointer (some ⟨g, o + 3, none⟩)) v := fun v => idxB g o n cap 3 (by omega) v
  have u3 : (b3.toNat : Int) ≤ 255 := by have := UInt8.toNat_lt b3; omega
  have v3 : 0 ≤ (b3.toNat : Int) := by omega
  have x4 : l[4]? = some b4 := by rw [hlr]; rfl
  have c4 : w.cell? ⟨g, o + 4, none⟩ = some (.int .u8 (b4.toNat : Int)) := by
    obtain ⟨g', o', e', c⟩ := hl.out 4 b4 x4
    cases e'
    exact c
  have i4 : ∀ v, (Instr.indexAt 23 (.slice (some ⟨g, o, none⟩) n cap) (.int .i64 4)).run Tryd.prog v = .ok (.pointer (some ⟨g, o + 4, none⟩)) v := fun v => idxB g o n cap 4 (by omega) v
  have u4 : (b4.toNat : Int) ≤ 255 := by have := UInt8.toNat_lt b4; omega
  have v4 : 0 ≤ (b4.toNat : Int) := by omega
  have x5 : l[5]? = some b5 := by rw [hlr]; rfl
  have c5 : w.cell? ⟨g, o + 5, none⟩ = some (.int .u8 (b5.toNat : Int)) := by
    obtain ⟨g', o', e', c⟩ := hl.out 5 b5 x5
    cases e'
    exact c
  have i5 : ∀ v, (Instr.indexAt 23 (.slice (some ⟨g, o, none⟩) n cap) (.int .i64 5)).run Tryd.prog v = .ok (.pointer (some ⟨g, o + 5, none⟩)) v := fun v => idxB g o n cap 5 (by omega) v
  have u5 : (b5.toNat : Int) ≤ 255 := by have := UInt8.toNat_lt b5; omega
  have v5 : 0 ≤ (b5.toNat : Int) := by omega
  have x6 : l[6]? = some b6 := by rw [hlr]; rfl
  have c6 : w.cell? ⟨g, o + 6, none⟩ = some (.int .u8 (b6.toNat : Int)) := by
    obtain ⟨g', o', e', c⟩ := hl.out 6 b6 x6
    cases e'
    exact c
  have i6 : ∀ v, (Instr.indexAt 23 (.slice (some ⟨g, o, none⟩) n cap) (.int .i64 6)).run Tryd.prog v = .ok (.pointer (some ⟨g, o + 6, none⟩)) v := fun v => idxB g o n cap 6 (by omega) v
  have u6 : (b6.toNat : Int) ≤ 255 := by have := UInt8.toNat_lt b6; omega
  have v6 : 0 ≤ (b6.toNat : Int) := by omega
  have x7 : l[7]? = some b7 := by rw [hlr]; rfl
  have c7 : w.cell? ⟨g, o + 7, none⟩ = some (.int .u8 (b7.toNat : Int)) := by
    obtain ⟨g', o', e', c⟩ := hl.out 7 b7 x7
    cases e'
    exact c
  have i7 : ∀ v, (Instr.indexAt 23 (.slice (some ⟨g, o, none⟩) n cap) (.int .i64 7)).run Tryd.prog v = .ok (.pointer (some ⟨g, o + 7, none⟩)) v := fun v => idxB g o n cap 7 (by omega) v
  have u7 : (b7.toNat : Int) ≤ 255 := by have := UInt8.toNat_lt b7; omega
  have v7 : 0 ≤ (b7.toNat : Int) := by omega
  have htk : Hid (l.take 4 = [b0, b1, b2, b3]) := by show _ = _; rw [hlr]; rfl
  have hmany : Hid (manyP l = (b4.toNat : Int) + 256 * b5.toNat + 65536 * b6.toNat + 16777216 * b7.toNat) := by show _ = _; rw [hlr]; rfl
  have hok : Hid (okO l = (decide ([b0, b1, b2, b3] = [86, 84, 82, 49]) && decide (manyP l ≤ 4194304))) := by show _ = _; unfold okO; rw [htk.out, hn', show decide (8 ≤ n) = true from by simp; omega, Bool.true_and]
  have hcv : (convert 23 9 (.slice (some ⟨g, o, none⟩) 4 cap)).run Tryd.prog w = .ok (.string ⟨#[b0, b1, b2, b3]⟩) w := by
    have h4 : LiesB w (some ⟨g, o, none⟩) [b0, b1, b2, b3] := fun j b hj => by
      refine hl.out j b ?_
      rw [← htk.out] at hj
      have := (List.getElem?_eq_some_iff.1 hj).1
      rw [List.getElem?_take_of_lt (by rw [List.length_take] at this; omega)] at hj
      exact hj
    exact h4.conv cap
  obtain ⟨sg, hsg⟩ : ∃ x : ByteArray, (⟨#[b0, b1, b2, b3]⟩ : ByteArray) = x := ⟨_, rfl⟩
  rw [hsg] at hcv
  have hc4 : (4 : Int) ≤ (cap : Int) := by omega
  have nn4 : 4 ≤ cap := by omega
  replace hlr : Hid _ := hlr
  replace x0 : Hid _ := x0
  replace x1 : Hid _ := x1
  replace x2 : Hid _ := x2
  replace x3 : Hid _ := x3
  replace x4 : Hid _ := x4
  replace x5 : Hid _ := x5
  replace x6 : Hid _ := x6
  replace x7 : Hid _ := x7
  obtain ⟨B0, hB0⟩ : ∃ x : Int, (b0.toNat : Int) = x := ⟨_, rfl⟩
  rw [hB0] at c0 u0 v0
  obtain ⟨B1, hB1⟩ : ∃ x : Int, (b1.toNat : Int) = x := ⟨_, rfl⟩
  rw [hB1] at c1 u1 v1
  obtain ⟨B2, hB2⟩ : ∃ x : Int, (b2.toNat : Int) = x := ⟨_, rfl⟩
  rw [hB2] at c2 u2 v2
  obtain ⟨B3, hB3⟩ : ∃ x : Int, (b3.toNat : Int) = x := ⟨_, rfl⟩
  rw [hB3] at c3 u3 v3
  obtain ⟨B4, hB4⟩ : ∃ x : Int, (b4.toNat : Int) = x := ⟨_, rfl⟩
  rw [hB4] at c4 u4 v4
  obtain ⟨B5, hB5⟩ : ∃ x : Int, (b5.toNat : Int) = x := ⟨_, rfl⟩
  rw [hB5] at c5 u5 v5
  obtain ⟨B6, hB6⟩ : ∃ x : Int, (b6.toNat : Int) = x := ⟨_, rfl⟩
  rw [hB6] at c6 u6 v6
  obtain ⟨B7, hB7⟩ : ∃ x : Int, (b7.toNat : Int) = x := ⟨_, rfl⟩
  rw [hB7] at c7 u7 v7
  by_cases hs : [b0, b1, b2, b3] = [86, 84, 82, 49]
  · have q4 : (sg.toList == [86, 84, 82, 49]) = true := by rw [toL, ← hsg]; show ([b0, b1, b2, b3] == [86, 84, 82, 49]) = true; rw [hs]; rfl
    rw [hok.out, hs]
    have hsum : Hid (manyP l = B4 + 256 * B5 + 65536 * B6 + 16777216 * B7) := by show _ = _; rw [hmany.out, hB4, hB5, hB6, hB7]
    obtain ⟨SM, hSM⟩ : ∃ x, B4 + B5 * 256 + B6 * 65536 + B7 * 16777216 = x := ⟨_, rfl⟩
    have hs2 : manyP l = SM := by rw [hsum.out, ← hSM]; omega
    have t4 : IntKind.u32.wrap B4 = B4 := by rw [IntKind.wrap_u32]; omega
    have t5 : IntKind.u32.wrap B5 = B5 := by rw [IntKind.wrap_u32]; omega
    have t6 : IntKind.u32.wrap B6 = B6 := by rw [IntKind.wrap_u32]; omega
    have t7 : IntKind.u32.wrap B7 = B7 := by rw [IntKind.wrap_u32]; omega
    have s5 : IntKind.u32.wrap (B5 * 256) = B5 * 256 := by rw [IntKind.wrap_u32]; omega
    have s6 : IntKind.u32.wrap (B6 * 65536) = B6 * 65536 := by rw [IntKind.wrap_u32]; omega
    have s7 : IntKind.u32.wrap (B7 * 16777216) = B7 * 16777216 := by rw [IntKind.wrap_u32]; omega
    have o5 : bits .or .u32 B4 (B5 * 256) = B4 + B5 * 256 := by simpa using or_shl 8 B4 B5 (by simp) v4 (by omega) v5 u5
    have o6 : bits .or .u32 (B4 + B5 * 256) (B6 * 65536) = B4 + B5 * 256 + B6 * 65536 := by simpa using or_shl 16 (B4 + B5 * 256) B6 (by simp) (by omega) (by omega) v6 u6
    have o7 : bits .or .u32 (B4 + B5 * 256 + B6 * 65536) (B7 * 16777216) = SM := by rw [← hSM]; simpa using or_shl 24 (B4 + B5 * 256 + B6 * 65536) B7 (by simp) (by omega) (by omega) v7 u7
    have m0 : 0 ≤ SM := by omega
    have m1 : SM ≤ 4294967295 := by omega
    obtain ⟨bb, qb⟩ : ∃ b, decide (SM ≤ 4194304) = b := ⟨_, rfl⟩
    rw [hs2, qb]
    have hH : Hid (w.cell? ⟨g, o + 4, none⟩ = some (.int .u8 B4) ∧ w.cell? ⟨g, o + 5, none⟩ = some (.int .u8 B5) ∧ w.cell? ⟨g, o + 6, none⟩ = some (.int .u8 B6) ∧ w.cell? ⟨g, o + 7, none⟩ = some (.int .u8 B7)) := ⟨c4, c5, c6, c7⟩
    clear hs hsg hcap hn hn' h8 hB0 hB1 hB2 hB3 hB4 hB5 hB6 hB7 hSM hs2 c0 c1 c2 c3 c4 c5 c6 c7 i0 i1 i2 i3
    go_enter Tryd.func27, Tryd.ntmps27
    go_wp2_with (go_at_call 23; refine (need_ok w).mono ?_; rintro e y ⟨rfl, hy⟩; replace hy := hy.symm; subst hy)
    have hW : Hid (Below w.heap.size w w.drew) := below_drew (Below.refl _ _)
    refine wp_region_held_drew (S := fun z => z.cell? ⟨g, o + 4, none⟩ = some (.int .u8 B4) ∧ z.cell? ⟨g, o + 5, none⟩ = some (.int .u8 B5) ∧ z.cell? ⟨g, o + 6, none⟩ = some (.int .u8 B6) ∧ z.cell? ⟨g, o + 7, none⟩ = some (.int .u8 B7)) (by kernel_rfl) hH.out (fun hH => ?_)
    generalize w.drew = z0 at hH hW ⊢
    refine wpAnyH_take (i := 0) (v := .slice (some ⟨g, o, none⟩) n cap) rfl (by kernel_rfl) (by kernel_rfl) (by kernel_rfl) (fun _ _ _ h => h) (.inl ⟨by kernel_rfl, fun u hu => by obtain ⟨h4, h5, h6, h7⟩ := hu; go_simp⟩) hH ?_
    try simp only [Act.put, List.setIfInBounds_toArray]
    refine wpAnyH_take (i := 1) (v := .pointer (some ⟨g, o + 4, none⟩)) rfl (by kernel_rfl) (by kernel_rfl) (by kernel_rfl) (fun _ _ _ h => h) (.inl ⟨by kernel_rfl, fun u hu => by obtain ⟨h4, h5, h6, h7⟩ := hu; go_simp⟩) hH ?_
    try simp only [Act.put]
    refine wpAnyH_take (i := 2) (v := .int .u8 B4) rfl (by kernel_rfl) (by kernel_rfl) (by kernel_rfl) (fun _ _ _ h => h) (.inl ⟨by kernel_rfl, fun u hu => by obtain ⟨h4, h5, h6, h7⟩ := hu; go_simp⟩) hH ?_
    try simp only [Act.put]
    refine wpAnyH_take (i := 3) (v := .int .u32 (B4)) rfl (by kernel_rfl) (by kernel_rfl) (by kernel_rfl) (fun _ _ _ h => h) (.inl ⟨by kernel_rfl, fun u hu => by obtain ⟨h4, h5, h6, h7⟩ := hu; go_simp⟩) hH ?_
    try simp only [Act.put]
    refine wpAnyH_take (i := 4) (v := .slice (some ⟨g, o, none⟩) n cap) rfl (by kernel_rfl) (by kernel_rfl) (by kernel_rfl) (fun _ _ _ h => h) (.inl ⟨by kernel_rfl, fun u hu => by obtain ⟨h4, h5, h6, h7⟩ := hu; go_simp⟩) hH ?_
    try simp only [Act.put]
    refine wpAnyH_take (i := 5) (v := .pointer (some ⟨g, o + 5, none⟩)) rfl (by kernel_rfl) (by kernel_rfl) (by kernel_rfl) (fun _ _ _ h => h) (.inl ⟨by kernel_rfl, fun u hu => by obtain ⟨h4, h5, h6, h7⟩ := hu; go_simp⟩) hH ?_
    try simp only [Act.put]
    refine wpAnyH_take (i := 6) (v := .int .u8 B5) rfl (by kernel_rfl) (by kernel_rfl) (by kernel_rfl) (fun _ _ _ h => h) (.inl ⟨by kernel_rfl, fun u hu => by obtain ⟨h4, h5, h6, h7⟩ := hu; go_simp⟩) hH ?_
    try simp only [Act.put]
    refine wpAnyH_take (i := 7) (v := .int .u32 (B5)) rfl (by kernel_rfl) (by kernel_rfl) (by kernel_rfl) (fun _ _ _ h => h) (.inl ⟨by kernel_rfl, fun u hu => by obtain ⟨h4, h5, h6, h7⟩ := hu; go_simp⟩) hH ?_
    try simp only [Act.put]
    refine wpAnyH_take (i := 8) (v := .int .u32 (B5 * 256)) rfl (by kernel_rfl) (by kernel_rfl) (by kernel_rfl) (fun _ _ _ h => h) (.inl ⟨by kernel_rfl, fun u hu => by obtain ⟨h4, h5, h6, h7⟩ := hu; go_simp⟩) hH ?_
    try simp only [Act.put]
    refine wpAnyH_take (i := 9) (v := .int .u32 (B4 + B5 * 256)) rfl (by kernel_rfl) (by kernel_rfl) (by kernel_rfl) (fun _ _ _ h => h) (.inl ⟨by kernel_rfl, fun u hu => by obtain ⟨h4, h5, h6, h7⟩ := hu; go_simp⟩) hH ?_
    try simp only [Act.put]
    refine wpAnyH_take (i := 10) (v := .slice (some ⟨g, o, none⟩) n cap) rfl (by kernel_rfl) (by kernel_rfl) (by kernel_rfl) (fun _ _ _ h => h) (.inl ⟨by kernel_rfl, fun u hu => by obtain ⟨h4, h5, h6, h7⟩ := hu; go_simp⟩) hH ?_
    try simp only [Act.put]
    refine wpAnyH_take (i := 11) (v := .pointer (some ⟨g, o + 6, none⟩)) rfl (by kernel_rfl) (by kernel_rfl) (by kernel_rfl) (fun _ _ _ h => h) (.inl ⟨by kernel_rfl, fun u hu => by obtain ⟨h4, h5, h6, h7⟩ := hu; go_simp⟩) hH ?_
    try simp only [Act.put]
    refine wpAnyH_take (i := 12) (v := .int .u8 B6) rfl (by kernel_rfl) (by kernel_rfl) (by kernel_rfl) (fun _ _ _ h => h) (.inl ⟨by kernel_rfl, fun u hu => by obtain ⟨h4, h5, h6, h7⟩ := hu; go_simp⟩) hH ?_
    try simp only [Act.put]
    refine wpAnyH_take (i := 13) (v := .int .u32 (B6)) rfl (by kernel_rfl) (by kernel_rfl) (by kernel_rfl) (fun _ _ _ h => h) (.inl ⟨by kernel_rfl, fun u hu => by obtain ⟨h4, h5, h6, h7⟩ := hu; go_simp⟩) hH ?_
    try simp only [Act.put]
    refine wpAnyH_take (i := 14) (v := .int .u32 (B6 * 65536)) rfl (by kernel_rfl) (by kernel_rfl) (by kernel_rfl) (fun _ _ _ h => h) (.inl ⟨by kernel_rfl, fun u hu => by obtain ⟨h4, h5, h6, h7⟩ := hu; go_simp⟩) hH ?_
    try simp only [Act.put]
    refine wpAnyH_take (i := 15) (v := .int .u32 (B4 + B5 * 256 + B6 * 65536)) rfl (by kernel_rfl) (by kernel_rfl) (by kernel_rfl) (fun _ _ _ h => h) (.inl ⟨by kernel_rfl, fun u hu => by obtain ⟨h4, h5, h6, h7⟩ := hu; go_simp⟩) hH ?_
    try simp only [Act.put]
    refine wpAnyH_take (i := 16) (v := .slice (some ⟨g, o, none⟩) n cap) rfl (by kernel_rfl) (by kernel_rfl) (by kernel_rfl) (fun _ _ _ h => h) (.inl ⟨by kernel_rfl, fun u hu => by obtain ⟨h4, h5, h6, h7⟩ := hu; go_simp⟩) hH ?_
    try simp only [Act.put]
    refine wpAnyH_take (i := 17) (v := .pointer (some ⟨g, o + 7, none⟩)) rfl (by kernel_rfl) (by kernel_rfl) (by kernel_rfl) (fun _ _ _ h => h) (.inl ⟨by kernel_rfl, fun u hu => by obtain ⟨h4, h5, h6, h7⟩ := hu; go_simp⟩) hH ?_
    try simp only [Act.put]
    refine wpAnyH_take (i := 18) (v := .int .u8 B7) rfl (by kernel_rfl) (by kernel_rfl) (by kernel_rfl) (fun _ _ _ h => h) (.inl ⟨by kernel_rfl, fun u hu => by obtain ⟨h4, h5, h6, h7⟩ := hu; go_simp⟩) hH ?_
    try simp only [Act.put]
    refine wpAnyH_take (i := 19) (v := .int .u32 (B7)) rfl (by kernel_rfl) (by kernel_rfl) (by kernel_rfl) (fun _ _ _ h => h) (.inl ⟨by kernel_rfl, fun u hu => by obtain ⟨h4, h5, h6, h7⟩ := hu; go_simp⟩) hH ?_
    try simp only [Act.put]
    refine wpAnyH_take (i := 20) (v := .int .u32 (B7 * 16777216)) rfl (by kernel_rfl) (by kernel_rfl) (by kernel_rfl) (fun _ _ _ h => h) (.inl ⟨by kernel_rfl, fun u hu => by obtain ⟨h4, h5, h6, h7⟩ := hu; go_simp⟩) hH ?_
    try simp only [Act.put]
    refine wpAnyH_take (i := 21) (v := .int .u32 (SM)) rfl (by kernel_rfl) (by kernel_rfl) (by kernel_rfl) (fun _ _ _ h => h) (.inl ⟨by kernel_rfl, fun u hu => by obtain ⟨h4, h5, h6, h7⟩ := hu; go_simp⟩) hH ?_
    try simp only [Act.put]
    refine wpAnyH_take (i := 22) (v := .int .u32 (SM)) rfl (by kernel_rfl) (by kernel_rfl) (by kernel_rfl) (fun _ _ _ h => h) (.inl ⟨by kernel_rfl, fun u hu => by obtain ⟨h4, h5, h6, h7⟩ := hu; go_simp⟩) hH ?_
    try simp only [Act.put]
    refine wpAnyH_done (by kernel_rfl) ?_ _
    clear hH
    cases bb
    · go_wp2_with (go_at_call 23; refine (need_no z0).mono ?_; rintro e y ⟨rfl, hy⟩; replace hy := hy.symm; subst hy)
      exact ⟨rfl, rfl, hW.out⟩
    · go_wp2_with (go_at_call 23; refine (need_ok z0).mono ?_; rintro e y ⟨rfl, hy⟩; replace hy := hy.symm; subst hy)
      go_ret
      exact ⟨rfl, hW.out⟩
  · have q4 : (sg.toList == [86, 84, 82, 49]) = false := by rw [toL, ← hsg]; show ([b0, b1, b2, b3] == [86, 84, 82, 49]) = false; exact beq_eq_false_iff_ne.2 hs
    rw [hok.out, show (decide ([b0, b1, b2, b3] = [86, 84, 82, 49])) = false from by simpa using hs]
    clear hs hsg hcap hn hn' h8 hB0 hB1 hB2 hB3 hB4 hB5 hB6 hB7
    go_enter Tryd.func27, Tryd.ntmps27
    go_wp2_with (first
      | (go_at_call 23; refine (need_no w).mono ?_; rintro e y ⟨rfl, hy⟩; replace hy := hy.symm; subst hy)
      | (go_at_call 23; refine (need_ok w).mono ?_; rintro e y ⟨rfl, hy⟩; replace hy := hy.symm; subst hy))
    exact ⟨rfl, rfl, Below.refl _ _⟩
end Go.Proofs.YtoajmicdphffnabDoor
