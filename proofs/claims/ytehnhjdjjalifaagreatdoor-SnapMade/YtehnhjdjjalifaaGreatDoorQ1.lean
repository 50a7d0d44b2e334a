/- The program's own: numbers as bytes and back; the sum. -/
import Derived.Test.YtehnhjdjjalifaaGreatDoorX8
namespace Go.Proofs.YtehnhjdjjalifaaGreatDoor
open Go Go.RowKit
set_option linter.unusedVariables false
set_option maxHeartbeats 2000000
set_option maxRecDepth 20000

theorem or64 (a b : Nat) (ha : a < 18446744073709551616) (hb : b < 18446744073709551616) : bits .or .u64 (a : Int) (b : Int) = ((a ||| b : Nat) : Int) := by
  have e1 : BitVec.ofInt 64 (a : Int) = BitVec.ofNat 64 a := by
    apply BitVec.eq_of_toNat_eq
    rw [BitVec.toNat_ofInt, BitVec.toNat_ofNat]
    omega
  have e2 : BitVec.ofInt 64 (b : Int) = BitVec.ofNat 64 b := by
    apply BitVec.eq_of_toNat_eq
    rw [BitVec.toNat_ofInt, BitVec.toNat_ofNat]
    omega
  show IntKind.u64.wrap ((BitVec.ofInt 64 (a : Int) ||| BitVec.ofInt 64 (b : Int)).toNat : Int) = _
  rw [e1, e2, BitVec.toNat_or, BitVec.toNat_ofNat, BitVec.toNat_ofNat, IntKind.wrap_u64, Nat.mod_eq_of_lt ha, Nat.mod_eq_of_lt hb]
  have : a ||| b < 2 ^ 64 := Nat.or_lt_two_pow ha hb
  omega
theorem or_add (m b : Nat) (hb : b < 256) : 256 * m ||| b = 256 * m + b := by
  have := Nat.two_pow_add_eq_or_of_lt (i := 8) (b := b) (by simpa using hb) m
  simpa using this.symm
theorem wid_q (w : World) : Calls Tryz.prog 24 #[] w fun e w' => e = .returned (.int .i64 8) ∧ w' = w := by
  go_enter Tryz.func24, Tryz.ntmps24
  go_wp2
  go_loopw [1, 2] (fun nv mv wz => w = wz ∧ ((nv = .int .i64 0 ∧ mv = .int .u64 18446744073709551615) ∨ (nv = .int .i64 1 ∧ mv = .int .u64 72057594037927935) ∨ (nv = .int .i64 2 ∧ mv = .int .u64 281474976710655) ∨ (nv = .int .i64 3 ∧ mv = .int .u64 1099511627775) ∨ (nv = .int .i64 4 ∧ mv = .int .u64 4294967295) ∨ (nv = .int .i64 5 ∧ mv = .int .u64 16777215) ∨ (nv = .int .i64 6 ∧ mv = .int .u64 65535) ∨ (nv = .int .i64 7 ∧ mv = .int .u64 255) ∨ (nv = .int .i64 8 ∧ mv = .int .u64 0))) (fun _ mv _ => (intOf mv).toNat)
  case atStart => exact ⟨rfl, .inl ⟨by simp, by first | kernel_rfl | (simp; kernel_rfl)⟩⟩
  case round =>
    obtain ⟨hw, hrel⟩ := hrel
    subst hw
    rcases hrel with ⟨rfl, rfl⟩ | ⟨rfl, rfl⟩ | ⟨rfl, rfl⟩ | ⟨rfl, rfl⟩ | ⟨rfl, rfl⟩ | ⟨rfl, rfl⟩ | ⟨rfl, rfl⟩ | ⟨rfl, rfl⟩ | ⟨rfl, rfl⟩
    · go_wp2
      go_roundw
      case rel => exact ⟨trivial, .inr (.inl ⟨by simp, by simp⟩)⟩
      case measure => simp [intOf]
    · go_wp2
      go_roundw
      case rel => exact ⟨trivial, .inr (.inr (.inl ⟨by simp, by simp⟩))⟩
      case measure => simp [intOf]
    · go_wp2
      go_roundw
      case rel => exact ⟨trivial, .inr (.inr (.inr (.inl ⟨by simp, by simp⟩)))⟩
      case measure => simp [intOf]
    · go_wp2
      go_roundw
      case rel => exact ⟨trivial, .inr (.inr (.inr (.inr (.inl ⟨by simp, by simp⟩))))⟩
      case measure => simp [intOf]
    · go_wp2
      go_roundw
      case rel => exact ⟨trivial, .inr (.inr (.inr (.inr (.inr (.inl ⟨by simp, by simp⟩)))))⟩
      case measure => simp [intOf]
    · go_wp2
      go_roundw
      case rel => exact ⟨trivial, .inr (.inr (.inr (.inr (.inr (.inr (.inl ⟨by simp, by simp⟩))))))⟩
      case measure => simp [intOf]
    · go_wp2
      go_roundw
      case rel => exact ⟨trivial, .inr (.inr (.inr (.inr (.inr (.inr (.inr (.inl ⟨by simp, by simp⟩)))))))⟩
      case measure => simp [intOf]
    · go_wp2
      go_roundw
      case rel => exact ⟨trivial, .inr (.inr (.inr (.inr (.inr (.inr (.inr (.inr (⟨by simp, by simp⟩))))))))⟩
      case measure => simp [intOf]
    · go_wp2
      go_ret
      exact ⟨rfl, rfl⟩
theorem wid_h (w : World) : Calls Tryz.prog 90 #[] w fun e w' => e = .returned (.int .i64 2) ∧ w' = w := by
  go_enter Tryz.func90, Tryz.ntmps90
  go_wp2
  go_loopw [1, 2] (fun nv mv wz => w = wz ∧ ((nv = .int .i64 0 ∧ mv = .int .u64 65535) ∨ (nv = .int .i64 1 ∧ mv = .int .u64 255) ∨ (nv = .int .i64 2 ∧ mv = .int .u64 0))) (fun _ mv _ => (intOf mv).toNat)
  case atStart => exact ⟨rfl, .inl ⟨by simp, by first | kernel_rfl | (simp; kernel_rfl)⟩⟩
  case round =>
    obtain ⟨hw, hrel⟩ := hrel
    subst hw
    rcases hrel with ⟨rfl, rfl⟩ | ⟨rfl, rfl⟩ | ⟨rfl, rfl⟩
    · go_wp2
      go_roundw
      case rel => exact ⟨trivial, .inr (.inl ⟨by simp, by simp⟩)⟩
      case measure => simp [intOf]
    · go_wp2
      go_roundw
      case rel => exact ⟨trivial, .inr (.inr (⟨by simp, by simp⟩))⟩
      case measure => simp [intOf]
    · go_wp2
      go_ret
      exact ⟨rfl, rfl⟩
theorem wid_y (w : World) : Calls Tryz.prog 95 #[] w fun e w' => e = .returned (.int .i64 1) ∧ w' = w := by
  go_enter Tryz.func95, Tryz.ntmps95
  go_wp2
  go_loopw [1, 2] (fun nv mv wz => w = wz ∧ ((nv = .int .i64 0 ∧ mv = .int .u64 255) ∨ (nv = .int .i64 1 ∧ mv = .int .u64 0))) (fun _ mv _ => (intOf mv).toNat)
  case atStart => exact ⟨rfl, .inl ⟨by simp, by first | kernel_rfl | (simp; kernel_rfl)⟩⟩
  case round =>
    obtain ⟨hw, hrel⟩ := hrel
    subst hw
    rcases hrel with ⟨rfl, rfl⟩ | ⟨rfl, rfl⟩
    · go_wp2
      go_roundw
      case rel => exact ⟨trivial, .inr (⟨by simp, by simp⟩)⟩
      case measure => simp [intOf]
    · go_wp2
      go_ret
      exact ⟨rfl, rfl⟩
theorem wid_p (w : World) : Calls Tryz.prog 102 #[] w fun e w' => e = .returned (.int .i64 1) ∧ w' = w := by
  go_enter Tryz.func102, Tryz.ntmps102
  go_wp2
  go_loopw [1, 2] (fun nv mv wz => w = wz ∧ ((nv = .int .i64 0 ∧ mv = .int .u64 255) ∨ (nv = .int .i64 1 ∧ mv = .int .u64 0))) (fun _ mv _ => (intOf mv).toNat)
  case atStart => exact ⟨rfl, .inl ⟨by simp, by first | kernel_rfl | (simp; kernel_rfl)⟩⟩
  case round =>
    obtain ⟨hw, hrel⟩ := hrel
    subst hw
    rcases hrel with ⟨rfl, rfl⟩ | ⟨rfl, rfl⟩
    · go_wp2
      go_roundw
      case rel => exact ⟨trivial, .inr (⟨by simp, by simp⟩)⟩
      case measure => simp [intOf]
    · go_wp2
      go_ret
      exact ⟨rfl, rfl⟩
theorem app_q (w : World) (B : Nat) (v : Value) (l : List UInt8) (hv : Hid (OwnL 5 1 cB B w v l)) (hB : Hid (B ≤ w.heap.size)) (hl : Hid (l.length ≤ 10000000000)) (N : Nat) (hN : N < 18446744073709551616) :
    Calls Tryz.prog 17 #[v, .int .u64 (N : Int)] w fun e w' => ∃ v', e = .returned v' ∧ Hid (OwnL 5 1 cB B w' v' (l ++ putN N 8) ∧ Below B w w') := by
  have iN : (N : Int) < 18446744073709551616 := by omega
  have hN' : Hid (N < 18446744073709551616) := by show N < _; omega
  have hW : Hid (∀ y, Calls Tryz.prog 24 #[] y fun e w' => e = .returned (.int .i64 8) ∧ w' = y) := fun y => wid_q y
  clear hN
  go_enter Tryz.func17, Tryz.ntmps17
  go_wp2_with (go_at_call 24; refine (hW.out _).mono ?_; rintro e y0 ⟨rfl, rfl⟩)
  go_loopw [0, 5, 8] (fun bv nv iv wz => ∃ (j m : Nat) (vj : Value) (y : World), y = wz ∧ j ≤ 8 ∧ bv = vj ∧ nv = .int .u64 (m : Int) ∧ iv = .int .i64 (j : Int) ∧ Hid (m = N / 256 ^ j) ∧ Hid (OwnL 5 1 cB B y vj (l ++ putN N j) ∧ Below B y0 y ∧ B ≤ y.heap.size)) (fun _ _ iv _ => (8 - intOf iv).toNat)
  case atStart => exact ⟨0, N, v, _, rfl, Nat.zero_le _, rfl, rfl, rfl, (by show N = N / 256 ^ 0; simp), ⟨by show OwnL _ _ _ _ _ _ (l ++ []); rw [List.append_nil]; exact hv.out, Below.refl _ _, hB.out⟩⟩
  case round =>
    obtain ⟨j, m, vj, y, rfl, hj, rfl, rfl, rfl, Hm, K⟩ := hrel
    by_cases hlt : j < 8
    · have hji : (j : Int) < 8 := by omega
      have hlt' : Hid (j < 8) := hlt
      have hml : m < 18446744073709551616 := by rw [Hm.out]; exact Nat.lt_of_le_of_lt (Nat.div_le_self _ _) hN'.out
      have im : (m : Int) < 18446744073709551616 := by omega
      obtain ⟨r, hr⟩ : ∃ t, m % 256 = t := ⟨_, rfl⟩
      obtain ⟨q, hq⟩ : ∃ t, m / 256 = t := ⟨_, rfl⟩
      have wr1 : (m : Int) % 256 = (r : Int) := by omega
      have wr2 : IntKind.u8.wrap (m : Int) = (r : Int) := by rw [IntKind.wrap_u8]; exact wr1
      have wq1 : (m : Int) / 256 = (q : Int) := by omega
      have ir : (r : Int) < 256 := by omega
      have iq : (q : Int) < 18446744073709551616 := by omega
      have hrB : Hid (cB (UInt8.ofNat r) = [.int .u8 (r : Int)]) := by
        show [byV (UInt8.ofNat r)] = _
        unfold byV
        rw [UInt8.toNat_ofNat', Nat.mod_eq_of_lt (by omega)]
      have Hq : Hid (q = N / 256 ^ (j + 1)) := by
        show q = _
        rw [← hq, Hm.out, Nat.div_div_eq_div_mul, Nat.pow_succ]
      have Hs : Hid (l ++ putN N (j + 1) = (l ++ putN N j) ++ [UInt8.ofNat r]) := by
        show _ = _
        rw [putN_snoc, ← Hm.out, hr, List.append_assoc]
      obtain ⟨sv, cv, hvj, _⟩ := K.out.1.open kByte.len
      have hlen : Hid ((l ++ putN N j).length ≤ 100000000000) := by
        show _ ≤ _
        rw [List.length_append, putN_len]
        have := hl.out
        have := hlt'.out
        omega
      generalize (l ++ putN N j).length = nj at hvj
      subst hvj
      clear hj hlt hml hr hq
      go_wp2_with (at_builtin; refine at_appL kByte rfl (.tmp 10) (.tmp 13) rfl B (.slice sv nj cv) (l ++ putN N j) rfl (K.out.1.alloc _) y.heap.size (UInt8.ofNat r) rfl ?_ ?_ ?_ ?_; (show Bx _ _ (cB (UInt8.ofNat r)).toArray _; rw [hrB.out]; exact one_bxL y _ _); exact hlen.out; (have := K.out.2.2; simp [World.size_alloc]; omega); intro v2 y2 K2; have N2 : Hid (OwnL 5 1 cB B y2 v2 ((l ++ putN N j) ++ [UInt8.ofNat r]) ∧ Below B y0 y2 ∧ B ≤ y2.heap.size) := ⟨K2.out.own, K.out.2.1.trans (((Below.refl _ y).alloc K.out.2.2 _).trans K2.out.cu.low), Nat.le_trans K.out.2.2 (Nat.le_trans (by simp [World.size_alloc]) K2.out.cu.low.size)⟩; clear K2)
      go_roundw
      case rel => exact ⟨j + 1, q, v2, _, rfl, hlt'.out, rfl, by simp, by simp, Hq, by rw [Hs.out]; exact N2.out⟩
      case measure => have := hlt'.out; simp [intOf]; omega
    · obtain rfl : j = 8 := by omega
      clear hj hlt
      go_wp2
      go_ret
      exact ⟨_, rfl, ⟨K.out.1, K.out.2.1⟩⟩
theorem app_h (w : World) (B : Nat) (v : Value) (l : List UInt8) (hv : Hid (OwnL 5 1 cB B w v l)) (hB : Hid (B ≤ w.heap.size)) (hl : Hid (l.length ≤ 10000000000)) (N : Nat) (hN : N < 65536) :
    Calls Tryz.prog 92 #[v, .int .u16 (N : Int)] w fun e w' => ∃ v', e = .returned v' ∧ Hid (OwnL 5 1 cB B w' v' (l ++ putN N 2) ∧ Below B w w') := by
  have iN : (N : Int) < 65536 := by omega
  have hN' : Hid (N < 18446744073709551616) := by show N < _; omega
  have hW : Hid (∀ y, Calls Tryz.prog 90 #[] y fun e w' => e = .returned (.int .i64 2) ∧ w' = y) := fun y => wid_h y
  clear hN
  go_enter Tryz.func92, Tryz.ntmps92
  go_wp2_with (go_at_call 90; refine (hW.out _).mono ?_; rintro e y0 ⟨rfl, rfl⟩)
  go_loopw [0, 5, 9] (fun bv nv iv wz => ∃ (j m : Nat) (vj : Value) (y : World), y = wz ∧ j ≤ 2 ∧ bv = vj ∧ nv = .int .u64 (m : Int) ∧ iv = .int .i64 (j : Int) ∧ Hid (m = N / 256 ^ j) ∧ Hid (OwnL 5 1 cB B y vj (l ++ putN N j) ∧ Below B y0 y ∧ B ≤ y.heap.size)) (fun _ _ iv _ => (2 - intOf iv).toNat)
  case atStart => exact ⟨0, N, v, _, rfl, Nat.zero_le _, rfl, rfl, rfl, (by show N = N / 256 ^ 0; simp), ⟨by show OwnL _ _ _ _ _ _ (l ++ []); rw [List.append_nil]; exact hv.out, Below.refl _ _, hB.out⟩⟩
  case round =>
    obtain ⟨j, m, vj, y, rfl, hj, rfl, rfl, rfl, Hm, K⟩ := hrel
    by_cases hlt : j < 2
    · have hji : (j : Int) < 2 := by omega
      have hlt' : Hid (j < 2) := hlt
      have hml : m < 18446744073709551616 := by rw [Hm.out]; exact Nat.lt_of_le_of_lt (Nat.div_le_self _ _) hN'.out
      have im : (m : Int) < 18446744073709551616 := by omega
      obtain ⟨r, hr⟩ : ∃ t, m % 256 = t := ⟨_, rfl⟩
      obtain ⟨q, hq⟩ : ∃ t, m / 256 = t := ⟨_, rfl⟩
      have wr1 : (m : Int) % 256 = (r : Int) := by omega
      have wr2 : IntKind.u8.wrap (m : Int) = (r : Int) := by rw [IntKind.wrap_u8]; exact wr1
      have wq1 : (m : Int) / 256 = (q : Int) := by omega
      have ir : (r : Int) < 256 := by omega
      have iq : (q : Int) < 18446744073709551616 := by omega
      have hrB : Hid (cB (UInt8.ofNat r) = [.int .u8 (r : Int)]) := by
        show [byV (UInt8.ofNat r)] = _
        unfold byV
        rw [UInt8.toNat_ofNat', Nat.mod_eq_of_lt (by omega)]
      have Hq : Hid (q = N / 256 ^ (j + 1)) := by
        show q = _
        rw [← hq, Hm.out, Nat.div_div_eq_div_mul, Nat.pow_succ]
      have Hs : Hid (l ++ putN N (j + 1) = (l ++ putN N j) ++ [UInt8.ofNat r]) := by
        show _ = _
        rw [putN_snoc, ← Hm.out, hr, List.append_assoc]
      obtain ⟨sv, cv, hvj, _⟩ := K.out.1.open kByte.len
      have hlen : Hid ((l ++ putN N j).length ≤ 100000000000) := by
        show _ ≤ _
        rw [List.length_append, putN_len]
        have := hl.out
        have := hlt'.out
        omega
      generalize (l ++ putN N j).length = nj at hvj
      subst hvj
      clear hj hlt hml hr hq
      go_wp2_with (at_builtin; refine at_appL kByte rfl (.tmp 11) (.tmp 14) rfl B (.slice sv nj cv) (l ++ putN N j) rfl (K.out.1.alloc _) y.heap.size (UInt8.ofNat r) rfl ?_ ?_ ?_ ?_; (show Bx _ _ (cB (UInt8.ofNat r)).toArray _; rw [hrB.out]; exact one_bxL y _ _); exact hlen.out; (have := K.out.2.2; simp [World.size_alloc]; omega); intro v2 y2 K2; have N2 : Hid (OwnL 5 1 cB B y2 v2 ((l ++ putN N j) ++ [UInt8.ofNat r]) ∧ Below B y0 y2 ∧ B ≤ y2.heap.size) := ⟨K2.out.own, K.out.2.1.trans (((Below.refl _ y).alloc K.out.2.2 _).trans K2.out.cu.low), Nat.le_trans K.out.2.2 (Nat.le_trans (by simp [World.size_alloc]) K2.out.cu.low.size)⟩; clear K2)
      go_roundw
      case rel => exact ⟨j + 1, q, v2, _, rfl, hlt'.out, rfl, by simp, by simp, Hq, by rw [Hs.out]; exact N2.out⟩
      case measure => have := hlt'.out; simp [intOf]; omega
    · obtain rfl : j = 2 := by omega
      clear hj hlt
      go_wp2
      go_ret
      exact ⟨_, rfl, ⟨K.out.1, K.out.2.1⟩⟩
theorem app_y (w : World) (B : Nat) (v : Value) (l : List UInt8) (hv : Hid (OwnL 5 1 cB B w v l)) (hB : Hid (B ≤ w.heap.size)) (hl : Hid (l.length ≤ 10000000000)) (N : Nat) (hN : N < 256) :
    Calls Tryz.prog 97 #[v, .int .u8 (N : Int)] w fun e w' => ∃ v', e = .returned v' ∧ Hid (OwnL 5 1 cB B w' v' (l ++ putN N 1) ∧ Below B w w') := by
  have iN : (N : Int) < 256 := by omega
  have hN' : Hid (N < 18446744073709551616) := by show N < _; omega
  have hW : Hid (∀ y, Calls Tryz.prog 95 #[] y fun e w' => e = .returned (.int .i64 1) ∧ w' = y) := fun y => wid_y y
  clear hN
  go_enter Tryz.func97, Tryz.ntmps97
  go_wp2_with (go_at_call 95; refine (hW.out _).mono ?_; rintro e y0 ⟨rfl, rfl⟩)
  go_loopw [0, 5, 9] (fun bv nv iv wz => ∃ (j m : Nat) (vj : Value) (y : World), y = wz ∧ j ≤ 1 ∧ bv = vj ∧ nv = .int .u64 (m : Int) ∧ iv = .int .i64 (j : Int) ∧ Hid (m = N / 256 ^ j) ∧ Hid (OwnL 5 1 cB B y vj (l ++ putN N j) ∧ Below B y0 y ∧ B ≤ y.heap.size)) (fun _ _ iv _ => (1 - intOf iv).toNat)
  case atStart => exact ⟨0, N, v, _, rfl, Nat.zero_le _, rfl, rfl, rfl, (by show N = N / 256 ^ 0; simp), ⟨by show OwnL _ _ _ _ _ _ (l ++ []); rw [List.append_nil]; exact hv.out, Below.refl _ _, hB.out⟩⟩
  case round =>
    obtain ⟨j, m, vj, y, rfl, hj, rfl, rfl, rfl, Hm, K⟩ := hrel
    by_cases hlt : j < 1
    · have hji : (j : Int) < 1 := by omega
      have hlt' : Hid (j < 1) := hlt
      have hml : m < 18446744073709551616 := by rw [Hm.out]; exact Nat.lt_of_le_of_lt (Nat.div_le_self _ _) hN'.out
      have im : (m : Int) < 18446744073709551616 := by omega
      obtain ⟨r, hr⟩ : ∃ t, m % 256 = t := ⟨_, rfl⟩
      obtain ⟨q, hq⟩ : ∃ t, m / 256 = t := ⟨_, rfl⟩
      have wr1 : (m : Int) % 256 = (r : Int) := by omega
      have wr2 : IntKind.u8.wrap (m : Int) = (r : Int) := by rw [IntKind.wrap_u8]; exact wr1
      have wq1 : (m : Int) / 256 = (q : Int) := by omega
      have ir : (r : Int) < 256 := by omega
      have iq : (q : Int) < 18446744073709551616 := by omega
      have hrB : Hid (cB (UInt8.ofNat r) = [.int .u8 (r : Int)]) := by
        show [byV (UInt8.ofNat r)] = _
        unfold byV
        rw [UInt8.toNat_ofNat', Nat.mod_eq_of_lt (by omega)]
      have Hq : Hid (q = N / 256 ^ (j + 1)) := by
        show q = _
        rw [← hq, Hm.out, Nat.div_div_eq_div_mul, Nat.pow_succ]
      have Hs : Hid (l ++ putN N (j + 1) = (l ++ putN N j) ++ [UInt8.ofNat r]) := by
        show _ = _
        rw [putN_snoc, ← Hm.out, hr, List.append_assoc]
      obtain ⟨sv, cv, hvj, _⟩ := K.out.1.open kByte.len
      have hlen : Hid ((l ++ putN N j).length ≤ 100000000000) := by
        show _ ≤ _
        rw [List.length_append, putN_len]
        have := hl.out
        have := hlt'.out
        omega
      generalize (l ++ putN N j).length = nj at hvj
      subst hvj
      clear hj hlt hml hr hq
      go_wp2_with (at_builtin; refine at_appL kByte rfl (.tmp 11) (.tmp 14) rfl B (.slice sv nj cv) (l ++ putN N j) rfl (K.out.1.alloc _) y.heap.size (UInt8.ofNat r) rfl ?_ ?_ ?_ ?_; (show Bx _ _ (cB (UInt8.ofNat r)).toArray _; rw [hrB.out]; exact one_bxL y _ _); exact hlen.out; (have := K.out.2.2; simp [World.size_alloc]; omega); intro v2 y2 K2; have N2 : Hid (OwnL 5 1 cB B y2 v2 ((l ++ putN N j) ++ [UInt8.ofNat r]) ∧ Below B y0 y2 ∧ B ≤ y2.heap.size) := ⟨K2.out.own, K.out.2.1.trans (((Below.refl _ y).alloc K.out.2.2 _).trans K2.out.cu.low), Nat.le_trans K.out.2.2 (Nat.le_trans (by simp [World.size_alloc]) K2.out.cu.low.size)⟩; clear K2)
      go_roundw
      case rel => exact ⟨j + 1, q, v2, _, rfl, hlt'.out, rfl, by simp, by simp, Hq, by rw [Hs.out]; exact N2.out⟩
      case measure => have := hlt'.out; simp [intOf]; omega
    · obtain rfl : j = 1 := by omega
      clear hj hlt
      go_wp2
      go_ret
      exact ⟨_, rfl, ⟨K.out.1, K.out.2.1⟩⟩
theorem app_p (w : World) (B : Nat) (v : Value) (l : List UInt8) (hv : Hid (OwnL 5 1 cB B w v l)) (hB : Hid (B ≤ w.heap.size)) (hl : Hid (l.length ≤ 10000000000)) (N : Nat) (hN : N < 256) :
    Calls Tryz.prog 104 #[v, .int .u8 (N : Int)] w fun e w' => ∃ v', e = .returned v' ∧ Hid (OwnL 5 1 cB B w' v' (l ++ putN N 1) ∧ Below B w w') := by
  have iN : (N : Int) < 256 := by omega
  have hN' : Hid (N < 18446744073709551616) := by show N < _; omega
  have hW : Hid (∀ y, Calls Tryz.prog 102 #[] y fun e w' => e = .returned (.int .i64 1) ∧ w' = y) := fun y => wid_p y
  clear hN
  go_enter Tryz.func104, Tryz.ntmps104
  go_wp2_with (go_at_call 102; refine (hW.out _).mono ?_; rintro e y0 ⟨rfl, rfl⟩)
  go_loopw [0, 5, 9] (fun bv nv iv wz => ∃ (j m : Nat) (vj : Value) (y : World), y = wz ∧ j ≤ 1 ∧ bv = vj ∧ nv = .int .u64 (m : Int) ∧ iv = .int .i64 (j : Int) ∧ Hid (m = N / 256 ^ j) ∧ Hid (OwnL 5 1 cB B y vj (l ++ putN N j) ∧ Below B y0 y ∧ B ≤ y.heap.size)) (fun _ _ iv _ => (1 - intOf iv).toNat)
  case atStart => exact ⟨0, N, v, _, rfl, Nat.zero_le _, rfl, rfl, rfl, (by show N = N / 256 ^ 0; simp), ⟨by show OwnL _ _ _ _ _ _ (l ++ []); rw [List.append_nil]; exact hv.out, Below.refl _ _, hB.out⟩⟩
  case round =>
    obtain ⟨j, m, vj, y, rfl, hj, rfl, rfl, rfl, Hm, K⟩ := hrel
    by_cases hlt : j < 1
    · have hji : (j : Int) < 1 := by omega
      have hlt' : Hid (j < 1) := hlt
      have hml : m < 18446744073709551616 := by rw [Hm.out]; exact Nat.lt_of_le_of_lt (Nat.div_le_self _ _) hN'.out
      have im : (m : Int) < 18446744073709551616 := by omega
      obtain ⟨r, hr⟩ : ∃ t, m % 256 = t := ⟨_, rfl⟩
      obtain ⟨q, hq⟩ : ∃ t, m / 256 = t := ⟨_, rfl⟩
      have wr1 : (m : Int) % 256 = (r : Int) := by omega
      have wr2 : IntKind.u8.wrap (m : Int) = (r : Int) := by rw [IntKind.wrap_u8]; exact wr1
      have wq1 : (m : Int) / 256 = (q : Int) := by omega
      have ir : (r : Int) < 256 := by omega
      have iq : (q : Int) < 18446744073709551616 := by omega
      have hrB : Hid (cB (UInt8.ofNat r) = [.int .u8 (r : Int)]) := by
        show [byV (UInt8.ofNat r)] = _
        unfold byV
        rw [UInt8.toNat_ofNat', Nat.mod_eq_of_lt (by omega)]
      have Hq : Hid (q = N / 256 ^ (j + 1)) := by
        show q = _
        rw [← hq, Hm.out, Nat.div_div_eq_div_mul, Nat.pow_succ]
      have Hs : Hid (l ++ putN N (j + 1) = (l ++ putN N j) ++ [UInt8.ofNat r]) := by
        show _ = _
        rw [putN_snoc, ← Hm.out, hr, List.append_assoc]
      obtain ⟨sv, cv, hvj, _⟩ := K.out.1.open kByte.len
      have hlen : Hid ((l ++ putN N j).length ≤ 100000000000) := by
        show _ ≤ _
        rw [List.length_append, putN_len]
        have := hl.out
        have := hlt'.out
        omega
      generalize (l ++ putN N j).length = nj at hvj
      subst hvj
      clear hj hlt hml hr hq
      go_wp2_with (at_builtin; refine at_appL kByte rfl (.tmp 11) (.tmp 14) rfl B (.slice sv nj cv) (l ++ putN N j) rfl (K.out.1.alloc _) y.heap.size (UInt8.ofNat r) rfl ?_ ?_ ?_ ?_; (show Bx _ _ (cB (UInt8.ofNat r)).toArray _; rw [hrB.out]; exact one_bxL y _ _); exact hlen.out; (have := K.out.2.2; simp [World.size_alloc]; omega); intro v2 y2 K2; have N2 : Hid (OwnL 5 1 cB B y2 v2 ((l ++ putN N j) ++ [UInt8.ofNat r]) ∧ Below B y0 y2 ∧ B ≤ y2.heap.size) := ⟨K2.out.own, K.out.2.1.trans (((Below.refl _ y).alloc K.out.2.2 _).trans K2.out.cu.low), Nat.le_trans K.out.2.2 (Nat.le_trans (by simp [World.size_alloc]) K2.out.cu.low.size)⟩; clear K2)
      go_roundw
      case rel => exact ⟨j + 1, q, v2, _, rfl, hlt'.out, rfl, by simp, by simp, Hq, by rw [Hs.out]; exact N2.out⟩
      case measure => have := hlt'.out; simp [intOf]; omega
    · obtain rfl : j = 1 := by omega
      clear hj hlt
      go_wp2
      go_ret
      exact ⟨_, rfl, ⟨K.out.1, K.out.2.1⟩⟩
theorem red_q (w : World) (sp : Option Addr) (cap : Nat) (l : List UInt8) (hl : Hid (LB w sp l)) (hn : Hid (l.length = 8)) :
    Calls Tryz.prog 25 #[.slice sp 8 cap] w fun e w' => e = .returned (.int .u64 (getN l : Nat)) ∧ w' = w := by
  go_enter Tryz.func25, Tryz.ntmps25
  go_wp2
  go_loopw [3, 4] (fun nv iv wz => ∃ (j m : Nat) (z : Int), w = wz ∧ j ≤ 8 ∧ nv = .int .u64 (m : Int) ∧ iv = .int .i64 z ∧ Hid (z = (j : Int) - 1) ∧ Hid (m = getN (l.drop j))) (fun _ iv _ => (intOf iv + 1).toNat)
  case atStart => exact ⟨8, 0, 7, rfl, Nat.le_refl _, rfl, by simp, (by show (7 : Int) = _; decide), (by show 0 = _; rw [List.drop_of_length_le (by rw [hn.out]; exact Nat.le_refl _)]; rfl)⟩
  case round =>
    obtain ⟨j, m, z, hw, hj, rfl, rfl, hz, Hm⟩ := hrel
    subst hw
    have hz' := hz.out
    rcases j with _ | j
    · obtain rfl : z = -1 := by omega
      have fin : m = getN l := Hm.out
      have lt : m < 18446744073709551616 := by
        rw [fin]
        have := getN_lt l
        rw [hn.out] at this
        exact this
      have im : (m : Int) < 18446744073709551616 := by omega
      replace fin : Hid (m = getN l) := fin
      clear hj hz hz' lt
      go_wp2
      go_ret
      exact ⟨congrArg (fun z : Nat => Ending.returned (.int .u64 (z : Int))) fin.out, rfl⟩
    · obtain rfl : z = (j : Int) := by omega
      have q0 : decide ((0 : Int) ≤ (j : Int)) = true := by simp
      have hjk : Hid (j + 1 ≤ 8) := hj
      have hjn : j < l.length := by rw [hn.out]; omega
      obtain ⟨gb, ob, rfl⟩ := lb_some hl.out (by rw [hn.out]; omega)
      have ix := fun v => idxB .i64 gb ob 8 cap j v (by omega)
      have cs := lb_at hl.out j hjn
      obtain ⟨bv, hbv⟩ : ∃ t, (l.getD j 0).toNat = t := ⟨_, rfl⟩
      rw [hbv] at cs
      have hb8 : bv < 256 := by rw [← hbv]; exact UInt8.toNat_lt _
      obtain ⟨Y, hY⟩ : ∃ t, 256 * m + bv = t := ⟨_, rfl⟩
      have Hn : Y = getN (l.drop j) := by
        have e : l.getD j 0 = l[j] := by rw [List.getD_eq_getElem?_getD, List.getElem?_eq_getElem hjn]; rfl
        rw [List.drop_eq_getElem_cons hjn, ← e]
        show Y = (l.getD j 0).toNat + 256 * getN (l.drop (j + 1))
        rw [hbv, ← Hm.out, ← hY]
        omega
      have hYl : Y < 18446744073709551616 := by
        rw [Hn]
        refine Nat.lt_of_lt_of_le (getN_lt _) (Nat.le_trans (Nat.pow_le_pow_right (by decide) (show (l.drop j).length ≤ 8 by rw [List.length_drop, hn.out]; omega)) (by decide))
      obtain ⟨M, hM⟩ : ∃ t, 256 * m = t := ⟨_, rfl⟩
      have wm1 : (m : Int) * 256 = (M : Int) := by omega
      have wm2 : ((m : Int) * 256) % 18446744073709551616 = (M : Int) := by omega
      have wm3 : IntKind.u64.wrap ((m : Int) * 256) = (M : Int) := by rw [IntKind.wrap_u64]; exact wm2
      have wo : bits .or .u64 (M : Int) (bv : Int) = (Y : Int) := by rw [or64 M bv (by omega) (by omega), ← hM, or_add m bv hb8, hY]
      have iY : (Y : Int) < 18446744073709551616 := by omega
      have iM : (M : Int) < 18446744073709551616 := by omega
      have ib : (bv : Int) < 256 := by omega
      have ij : (j : Int) ≤ 8 := by omega
      have Hn' : Hid (Y = getN (l.drop j)) := Hn
      clear hj hz hz' hjn hbv hb8 hY Hn hYl hM
      go_wp2
      go_roundw
      case rel => exact ⟨j, Y, (j : Int) - 1, trivial, by have := hjk.out; omega, rfl, rfl, (rfl : (j : Int) - 1 = _), Hn'⟩
      case measure => simp [intOf]
theorem red_h (w : World) (sp : Option Addr) (cap : Nat) (l : List UInt8) (hl : Hid (LB w sp l)) (hn : Hid (l.length = 2)) :
    Calls Tryz.prog 94 #[.slice sp 2 cap] w fun e w' => e = .returned (.int .u16 (getN l : Nat)) ∧ w' = w := by
  go_enter Tryz.func94, Tryz.ntmps94
  go_wp2
  go_loopw [3, 4] (fun nv iv wz => ∃ (j m : Nat) (z : Int), w = wz ∧ j ≤ 2 ∧ nv = .int .u64 (m : Int) ∧ iv = .int .i64 z ∧ Hid (z = (j : Int) - 1) ∧ Hid (m = getN (l.drop j))) (fun _ iv _ => (intOf iv + 1).toNat)
  case atStart => exact ⟨2, 0, 1, rfl, Nat.le_refl _, rfl, by simp, (by show (1 : Int) = _; decide), (by show 0 = _; rw [List.drop_of_length_le (by rw [hn.out]; exact Nat.le_refl _)]; rfl)⟩
  case round =>
    obtain ⟨j, m, z, hw, hj, rfl, rfl, hz, Hm⟩ := hrel
    subst hw
    have hz' := hz.out
    rcases j with _ | j
    · obtain rfl : z = -1 := by omega
      have fin : m = getN l := Hm.out
      have lt : m < 65536 := by
        rw [fin]
        have := getN_lt l
        rw [hn.out] at this
        exact this
      have im : (m : Int) < 65536 := by omega
      replace fin : Hid (m = getN l) := fin
      clear hj hz hz' lt
      go_wp2
      go_ret
      exact ⟨congrArg (fun z : Nat => Ending.returned (.int .u16 (z : Int))) fin.out, rfl⟩
    · obtain rfl : z = (j : Int) := by omega
      have q0 : decide ((0 : Int) ≤ (j : Int)) = true := by simp
      have hjk : Hid (j + 1 ≤ 2) := hj
      have hjn : j < l.length := by rw [hn.out]; omega
      obtain ⟨gb, ob, rfl⟩ := lb_some hl.out (by rw [hn.out]; omega)
      have ix := fun v => idxB .i64 gb ob 2 cap j v (by omega)
      have cs := lb_at hl.out j hjn
      obtain ⟨bv, hbv⟩ : ∃ t, (l.getD j 0).toNat = t := ⟨_, rfl⟩
      rw [hbv] at cs
      have hb8 : bv < 256 := by rw [← hbv]; exact UInt8.toNat_lt _
      obtain ⟨Y, hY⟩ : ∃ t, 256 * m + bv = t := ⟨_, rfl⟩
      have Hn : Y = getN (l.drop j) := by
        have e : l.getD j 0 = l[j] := by rw [List.getD_eq_getElem?_getD, List.getElem?_eq_getElem hjn]; rfl
        rw [List.drop_eq_getElem_cons hjn, ← e]
        show Y = (l.getD j 0).toNat + 256 * getN (l.drop (j + 1))
        rw [hbv, ← Hm.out, ← hY]
        omega
      have hYl : Y < 18446744073709551616 := by
        rw [Hn]
        refine Nat.lt_of_lt_of_le (getN_lt _) (Nat.le_trans (Nat.pow_le_pow_right (by decide) (show (l.drop j).length ≤ 8 by rw [List.length_drop, hn.out]; omega)) (by decide))
      obtain ⟨M, hM⟩ : ∃ t, 256 * m = t := ⟨_, rfl⟩
      have wm1 : (m : Int) * 256 = (M : Int) := by omega
      have wm2 : ((m : Int) * 256) % 18446744073709551616 = (M : Int) := by omega
      have wm3 : IntKind.u64.wrap ((m : Int) * 256) = (M : Int) := by rw [IntKind.wrap_u64]; exact wm2
      have wo : bits .or .u64 (M : Int) (bv : Int) = (Y : Int) := by rw [or64 M bv (by omega) (by omega), ← hM, or_add m bv hb8, hY]
      have iY : (Y : Int) < 18446744073709551616 := by omega
      have iM : (M : Int) < 18446744073709551616 := by omega
      have ib : (bv : Int) < 256 := by omega
      have ij : (j : Int) ≤ 2 := by omega
      have Hn' : Hid (Y = getN (l.drop j)) := Hn
      clear hj hz hz' hjn hbv hb8 hY Hn hYl hM
      go_wp2
      go_roundw
      case rel => exact ⟨j, Y, (j : Int) - 1, trivial, by have := hjk.out; omega, rfl, rfl, (rfl : (j : Int) - 1 = _), Hn'⟩
      case measure => simp [intOf]
theorem red_y (w : World) (sp : Option Addr) (cap : Nat) (l : List UInt8) (hl : Hid (LB w sp l)) (hn : Hid (l.length = 1)) :
    Calls Tryz.prog 99 #[.slice sp 1 cap] w fun e w' => e = .returned (.int .u8 (getN l : Nat)) ∧ w' = w := by
  go_enter Tryz.func99, Tryz.ntmps99
  go_wp2
  go_loopw [3, 4] (fun nv iv wz => ∃ (j m : Nat) (z : Int), w = wz ∧ j ≤ 1 ∧ nv = .int .u64 (m : Int) ∧ iv = .int .i64 z ∧ Hid (z = (j : Int) - 1) ∧ Hid (m = getN (l.drop j))) (fun _ iv _ => (intOf iv + 1).toNat)
  case atStart => exact ⟨1, 0, 0, rfl, Nat.le_refl _, rfl, by simp, (by show (0 : Int) = _; decide), (by show 0 = _; rw [List.drop_of_length_le (by rw [hn.out]; exact Nat.le_refl _)]; rfl)⟩
  case round =>
    obtain ⟨j, m, z, hw, hj, rfl, rfl, hz, Hm⟩ := hrel
    subst hw
    have hz' := hz.out
    rcases j with _ | j
    · obtain rfl : z = -1 := by omega
      have fin : m = getN l := Hm.out
      have lt : m < 256 := by
        rw [fin]
        have := getN_lt l
        rw [hn.out] at this
        exact this
      have im : (m : Int) < 256 := by omega
      replace fin : Hid (m = getN l) := fin
      clear hj hz hz' lt
      go_wp2
      go_ret
      exact ⟨congrArg (fun z : Nat => Ending.returned (.int .u8 (z : Int))) fin.out, rfl⟩
    · obtain rfl : z = (j : Int) := by omega
      have q0 : decide ((0 : Int) ≤ (j : Int)) = true := by simp
      have hjk : Hid (j + 1 ≤ 1) := hj
      have hjn : j < l.length := by rw [hn.out]; omega
      obtain ⟨gb, ob, rfl⟩ := lb_some hl.out (by rw [hn.out]; omega)
      have ix := fun v => idxB .i64 gb ob 1 cap j v (by omega)
      have cs := lb_at hl.out j hjn
      obtain ⟨bv, hbv⟩ : ∃ t, (l.getD j 0).toNat = t := ⟨_, rfl⟩
      rw [hbv] at cs
      have hb8 : bv < 256 := by rw [← hbv]; exact UInt8.toNat_lt _
      obtain ⟨Y, hY⟩ : ∃ t, 256 * m + bv = t := ⟨_, rfl⟩
      have Hn : Y = getN (l.drop j) := by
        have e : l.getD j 0 = l[j] := by rw [List.getD_eq_getElem?_getD, List.getElem?_eq_getElem hjn]; rfl
        rw [List.drop_eq_getElem_cons hjn, ← e]
        show Y = (l.getD j 0).toNat + 256 * getN (l.drop (j + 1))
        rw [hbv, ← Hm.out, ← hY]
        omega
      have hYl : Y < 18446744073709551616 := by
        rw [Hn]
        refine Nat.lt_of_lt_of_le (getN_lt _) (Nat.le_trans (Nat.pow_le_pow_right (by decide) (show (l.drop j).length ≤ 8 by rw [List.length_drop, hn.out]; omega)) (by decide))
      obtain ⟨M, hM⟩ : ∃ t, 256 * m = t := ⟨_, rfl⟩
      have wm1 : (m : Int) * 256 = (M : Int) := by omega
      have wm2 : ((m : Int) * 256) % 18446744073709551616 = (M : Int) := by omega
      have wm3 : IntKind.u64.wrap ((m : Int) * 256) = (M : Int) := by rw [IntKind.wrap_u64]; exact wm2
      have wo : bits .or .u64 (M : Int) (bv : Int) = (Y : Int) := by rw [or64 M bv (by omega) (by omega), ← hM, or_add m bv hb8, hY]
      have iY : (Y : Int) < 18446744073709551616 := by omega
      have iM : (M : Int) < 18446744073709551616 := by omega
      have ib : (bv : Int) < 256 := by omega
      have ij : (j : Int) ≤ 1 := by omega
      have Hn' : Hid (Y = getN (l.drop j)) := Hn
      clear hj hz hz' hjn hbv hb8 hY Hn hYl hM
      go_wp2
      go_roundw
      case rel => exact ⟨j, Y, (j : Int) - 1, trivial, by have := hjk.out; omega, rfl, rfl, (rfl : (j : Int) - 1 = _), Hn'⟩
      case measure => simp [intOf]
theorem red_p (w : World) (sp : Option Addr) (cap : Nat) (l : List UInt8) (hl : Hid (LB w sp l)) (hn : Hid (l.length = 1)) :
    Calls Tryz.prog 106 #[.slice sp 1 cap] w fun e w' => e = .returned (.int .u8 (getN l : Nat)) ∧ w' = w := by
  go_enter Tryz.func106, Tryz.ntmps106
  go_wp2
  go_loopw [3, 4] (fun nv iv wz => ∃ (j m : Nat) (z : Int), w = wz ∧ j ≤ 1 ∧ nv = .int .u64 (m : Int) ∧ iv = .int .i64 z ∧ Hid (z = (j : Int) - 1) ∧ Hid (m = getN (l.drop j))) (fun _ iv _ => (intOf iv + 1).toNat)
  case atStart => exact ⟨1, 0, 0, rfl, Nat.le_refl _, rfl, by simp, (by show (0 : Int) = _; decide), (by show 0 = _; rw [List.drop_of_length_le (by rw [hn.out]; exact Nat.le_refl _)]; rfl)⟩
  case round =>
    obtain ⟨j, m, z, hw, hj, rfl, rfl, hz, Hm⟩ := hrel
    subst hw
    have hz' := hz.out
    rcases j with _ | j
    · obtain rfl : z = -1 := by omega
      have fin : m = getN l := Hm.out
      have lt : m < 256 := by
        rw [fin]
        have := getN_lt l
        rw [hn.out] at this
        exact this
      have im : (m : Int) < 256 := by omega
      replace fin : Hid (m = getN l) := fin
      clear hj hz hz' lt
      go_wp2
      go_ret
      exact ⟨congrArg (fun z : Nat => Ending.returned (.int .u8 (z : Int))) fin.out, rfl⟩
    · obtain rfl : z = (j : Int) := by omega
      have q0 : decide ((0 : Int) ≤ (j : Int)) = true := by simp
      have hjk : Hid (j + 1 ≤ 1) := hj
      have hjn : j < l.length := by rw [hn.out]; omega
      obtain ⟨gb, ob, rfl⟩ := lb_some hl.out (by rw [hn.out]; omega)
      have ix := fun v => idxB .i64 gb ob 1 cap j v (by omega)
      have cs := lb_at hl.out j hjn
      obtain ⟨bv, hbv⟩ : ∃ t, (l.getD j 0).toNat = t := ⟨_, rfl⟩
      rw [hbv] at cs
      have hb8 : bv < 256 := by rw [← hbv]; exact UInt8.toNat_lt _
      obtain ⟨Y, hY⟩ : ∃ t, 256 * m + bv = t := ⟨_, rfl⟩
      have Hn : Y = getN (l.drop j) := by
        have e : l.getD j 0 = l[j] := by rw [List.getD_eq_getElem?_getD, List.getElem?_eq_getElem hjn]; rfl
        rw [List.drop_eq_getElem_cons hjn, ← e]
        show Y = (l.getD j 0).toNat + 256 * getN (l.drop (j + 1))
        rw [hbv, ← Hm.out, ← hY]
        omega
      have hYl : Y < 18446744073709551616 := by
        rw [Hn]
        refine Nat.lt_of_lt_of_le (getN_lt _) (Nat.le_trans (Nat.pow_le_pow_right (by decide) (show (l.drop j).length ≤ 8 by rw [List.length_drop, hn.out]; omega)) (by decide))
      obtain ⟨M, hM⟩ : ∃ t, 256 * m = t := ⟨_, rfl⟩
      have wm1 : (m : Int) * 256 = (M : Int) := by omega
      have wm2 : ((m : Int) * 256) % 18446744073709551616 = (M : Int) := by omega
      have wm3 : IntKind.u64.wrap ((m : Int) * 256) = (M : Int) := by rw [IntKind.wrap_u64]; exact wm2
      have wo : bits .or .u64 (M : Int) (bv : Int) = (Y : Int) := by rw [or64 M bv (by omega) (by omega), ← hM, or_add m bv hb8, hY]
      have iY : (Y : Int) < 18446744073709551616 := by omega
      have iM : (M : Int) < 18446744073709551616 := by omega
      have ib : (bv : Int) < 256 := by omega
      have ij : (j : Int) ≤ 1 := by omega
      have Hn' : Hid (Y = getN (l.drop j)) := Hn
      clear hj hz hz' hjn hbv hb8 hY Hn hYl hM
      go_wp2
      go_roundw
      case rel => exact ⟨j, Y, (j : Int) - 1, trivial, by have := hjk.out; omega, rfl, rfl, (rfl : (j : Int) - 1 = _), Hn'⟩
      case measure => simp [intOf]
theorem psum_any (w : World) (sp : Option Addr) (n cap : Nat) (l : List UInt8) (hl : Hid (LB w sp l)) (hn : Hid (l.length = n)) (hn2 : n ≤ 9000000000) :
    Calls Tryz.prog 18 #[.slice sp n cap] w fun e w' => e = .returned (.int .u64 (sumB l : Nat)) ∧ w' = w := by
  have ni : (n : Int) ≤ 9000000000 := by omega
  clear hn2
  go_enter Tryz.func18, Tryz.ntmps18
  go_wp2
  go_loopw [3, 8] (fun hv kv wz => ∃ (k h : Nat), w = wz ∧ k ≤ n ∧ hv = .int .u64 (h : Int) ∧ kv = .int .i64 (k : Int) ∧ Hid (h = sumH h0 (l.take k))) (fun _ kv _ => (n - intOf kv).toNat)
  case atStart => exact ⟨0, h0, rfl, Nat.zero_le _, rfl, rfl, (rfl : h0 = sumH h0 (l.take 0))⟩
  case round =>
    obtain ⟨k, h, hw, hk, rfl, rfl, Hh⟩ := hrel
    subst hw
    by_cases hlt : k < n
    · have hki : (k : Int) < (n : Int) := by omega
      have hlt' : Hid (k < n) := hlt
      obtain ⟨gb, ob, rfl⟩ := lb_some hl.out (by rw [hn.out]; omega)
      have ix := fun v => idxB .i64 gb ob n cap k v hlt
      have cs := lb_at hl.out k (by rw [hn.out]; exact hlt)
      obtain ⟨bv, hbv⟩ : ∃ t, (l.getD k 0).toNat = t := ⟨_, rfl⟩
      rw [hbv] at cs
      have hb8 : bv < 256 := by rw [← hbv]; exact UInt8.toNat_lt _
      have hh : h < 18446744073709551616 := by rw [Hh.out]; exact sumH_lt _ _ (by decide)
      obtain ⟨X, hX⟩ : ∃ t, h ^^^ bv = t := ⟨_, rfl⟩
      have wx : bits .xor .u64 (h : Int) (bv : Int) = (X : Int) := by rw [← hX]; exact bits_xor_u64_nat h bv hh (by omega)
      obtain ⟨Y, hY⟩ : ∃ t, X * 1099511628211 % 18446744073709551616 = t := ⟨_, rfl⟩
      have wy : IntKind.u64.wrap ((X : Int) * 1099511628211) = (Y : Int) := by rw [IntKind.wrap_u64]; omega
      have wy' : ((X : Int) * 1099511628211) % 18446744073709551616 = (Y : Int) := by omega
      have ib : (bv : Int) < 256 := by omega
      have Hn : Hid (Y = sumH h0 (l.take (k + 1))) := by
        show Y = _
        rw [sumH_take h0 l k (by rw [hn.out]; exact hlt), ← Hh.out]
        unfold stpH
        rw [hbv, hX, hY]
      clear hk hlt hbv hh hX hY hb8
      go_wp2
      go_roundw
      case rel => exact ⟨k + 1, Y, trivial, hlt'.out, rfl, by simp, Hn⟩
      case measure => have := hlt'.out; simp [intOf]; omega
    · obtain rfl : k = n := by omega
      have fin : Hid (h = sumB l) := by
        show h = sumB l
        rw [Hh.out, List.take_of_length_le (by rw [hn.out]; exact Nat.le_refl _)]
        rfl
      clear hk hlt
      go_wp2
      go_ret
      exact ⟨congrArg (fun z : Nat => Ending.returned (.int .u64 (z : Int))) fin.out, rfl⟩
end Go.Proofs.YtehnhjdjjalifaaGreatDoor
