/- The document's own: numbers as bytes, and back. -/
import Derived.Test.YtehnhjdjjalifaaGreatDoorX1
namespace Go.Proofs.YtehnhjdjjalifaaGreatDoor
open Go Go.RowKit
set_option linter.unusedVariables false
set_option maxHeartbeats 1000000
set_option maxRecDepth 20000

theorem num_succ (l : List UInt8) (a m : Nat) (ha : a < l.length) : numB l a (m + 1) = (l.getD a 0).toNat + 256 * numB l (a + 1) m := by
  have e : l.getD a 0 = l[a] := by rw [List.getD_eq_getElem?_getD, List.getElem?_eq_getElem ha]; rfl
  unfold numB
  rw [List.drop_eq_getElem_cons ha, List.take_succ_cons, e]
  rfl
theorem num_lt (l : List UInt8) (a m : Nat) : numB l a m < 256 ^ m := by
  unfold numB
  refine Nat.lt_of_lt_of_le (getN_lt _) (Nat.pow_le_pow_right (by decide) ?_)
  rw [List.length_take]
  omega
theorem rget_any (w : World) (sp : Option Addr) (n cap : Nat) (l : List UInt8) (hl : Hid (LB w sp l)) (hn : Hid (l.length = n)) (hn2 : n ≤ 9000000000) (at0 k : Nat) (hk8 : k ≤ 8) (hat : at0 + k ≤ n) :
    Calls Tryz.prog 26 #[.slice sp n cap, .int .i64 (at0 : Int), .int .i64 (k : Int)] w fun e w' => e = .returned (.int .u64 (numB l at0 k : Nat)) ∧ Below w.heap.size w w' := by
  have ni : (n : Int) ≤ 9000000000 := by omega
  have ai : (at0 : Int) ≤ 9000000000 := by omega
  have ki : (k : Int) ≤ 8 := by omega
  have hh : Hid (k ≤ 8 ∧ at0 + k ≤ n) := ⟨hk8, hat⟩
  clear hn2 hk8 hat
  go_enter Tryz.func26, Tryz.ntmps26
  go_wp2
  go_loopw [7, 8] (fun nv iv wz => ∃ (j m : Nat) (z : Int) (u : World), u = wz ∧ j ≤ k ∧ nv = .int .u64 (m : Int) ∧ iv = .int .i64 z ∧ Hid (z = (j : Int) - 1) ∧ Hid (m = numB l (at0 + j) (k - j)) ∧ Hid (Below w.heap.size w u)) (fun _ iv _ => (intOf iv + 1).toNat)
  case atStart => exact ⟨k, 0, (k : Int) - 1, _, rfl, Nat.le_refl _, rfl, rfl, (rfl : (k : Int) - 1 = _), (by show 0 = _; rw [Nat.sub_self]; unfold numB; rw [List.take_zero]; rfl), Below.refl _ _⟩
  case round =>
    obtain ⟨j, m, z, u, rfl, hj, rfl, rfl, hz, Hm, Hb⟩ := hrel
    have hz' := hz.out
    rcases j with _ | j
    · obtain rfl : z = -1 := by omega
      have fin : Hid (m = numB l at0 k) := by
        show m = _
        rw [Hm.out]
        rfl
      clear hj hz hz'
      go_wp2
      go_ret
      exact ⟨congrArg (fun z : Nat => Ending.returned (.int .u64 (z : Int))) fin.out, Hb.out⟩
    · obtain rfl : z = (j : Int) := by omega
      have q0 : decide ((0 : Int) ≤ (j : Int)) = true := by simp
      have hjk : Hid (j + 1 ≤ k) := hj
      have hin : at0 + j < n := by have := hh.out.2; omega
      have hL := hl.out.below Hb.out
      obtain ⟨gb, ob, rfl⟩ := lb_some hL (by rw [hn.out]; omega)
      obtain ⟨aj, haj⟩ : ∃ t, at0 + j = t := ⟨_, rfl⟩
      have ix := fun v => idxB .i64 gb ob n cap aj v (by omega)
      have cs := lb_at hL aj (by rw [hn.out]; omega)
      obtain ⟨bv, hbv⟩ : ∃ t, (l.getD aj 0).toNat = t := ⟨_, rfl⟩
      rw [hbv] at cs
      have hb8 : bv < 256 := by rw [← hbv]; exact UInt8.toNat_lt _
      have w1 : (at0 : Int) + (j : Int) = (aj : Int) := by omega
      obtain ⟨Y, hY⟩ : ∃ t, 256 * m + bv = t := ⟨_, rfl⟩
      have Hn : Y = numB l (at0 + j) (k - j) := by
        have e : k - j = (k - (j + 1)) + 1 := by omega
        rw [e, num_succ l (at0 + j) _ (by rw [hn.out]; exact hin), haj, hbv, ← hY, Hm.out, show at0 + (j + 1) = aj + 1 by omega]
        omega
      have hYl : Y < 18446744073709551616 := by
        rw [Hn]
        exact Nat.lt_of_lt_of_le (num_lt _ _ _) (Nat.le_trans (Nat.pow_le_pow_right (by decide) (show k - j ≤ 8 by have := hh.out.1; omega)) (by decide))
      have wm : ((256 : Int) * (m : Int)) % 18446744073709551616 = 256 * (m : Int) := by omega
      have wm' : IntKind.u64.wrap ((256 : Int) * (m : Int)) = 256 * (m : Int) := by rw [IntKind.wrap_u64]; exact wm
      have wy : ((256 : Int) * (m : Int) + (bv : Int)) = (Y : Int) := by omega
      have iY : (Y : Int) < 18446744073709551616 := by omega
      have i256 : (256 : Int) * (m : Int) < 18446744073709551616 := by omega
      have ib : (bv : Int) < 256 := by omega
      have iaj : (aj : Int) ≤ 9000000000 := by omega
      have ij : (j : Int) ≤ 8 := by omega
      have Hn' : Hid (Y = numB l (at0 + j) (k - j)) := Hn
      have ij2 : (j : Int) - 1 = (j : Int) - 1 := rfl
      clear hj hz hz' hin hL hbv hb8 hY Hn hYl haj ij2
      go_wp2
      go_roundw
      case rel => exact ⟨j, Y, (j : Int) - 1, _, rfl, by have := hjk.out; omega, rfl, rfl, (rfl : (j : Int) - 1 = _), Hn', Hb⟩
      case measure => simp [intOf]
theorem putN_snoc : ∀ (j N : Nat), putN N (j + 1) = putN N j ++ [UInt8.ofNat (N / 256 ^ j % 256)]
  | 0, N => by simp [putN]
  | j + 1, N => by
    have h := putN_snoc j (N / 256)
    show UInt8.ofNat (N % 256) :: putN (N / 256) (j + 1) = (UInt8.ofNat (N % 256) :: putN (N / 256) j) ++ _
    rw [h, List.cons_append, Nat.div_div_eq_div_mul, Nat.pow_succ, Nat.mul_comm 256]
theorem rput_any (w : World) (B : Nat) (v : Value) (l : List UInt8) (hv : Hid (OwnL 5 1 cB B w v l)) (hB : Hid (B ≤ w.heap.size)) (hl : Hid (l.length ≤ 10000000000)) (N k : Nat) (hN : N < 18446744073709551616) (hk8 : k ≤ 8) :
    Calls Tryz.prog 20 #[v, .int .u64 (N : Int), .int .i64 (k : Int)] w fun e w' => ∃ v', e = .returned v' ∧ Hid (OwnL 5 1 cB B w' v' (l ++ putN N k) ∧ Below B w w') := by
  have ki : (k : Int) ≤ 8 := by omega
  have hk8' : Hid (k ≤ 8 ∧ N < 18446744073709551616) := ⟨hk8, hN⟩
  clear hN hk8
  go_enter Tryz.func20, Tryz.ntmps20
  go_wp2
  go_loopw [0, 1, 7] (fun bv nv iv wz => ∃ (j m : Nat) (vj : Value) (y : World), y = wz ∧ j ≤ k ∧ bv = vj ∧ nv = .int .u64 (m : Int) ∧ iv = .int .i64 (j : Int) ∧ Hid (m = N / 256 ^ j) ∧ Hid (OwnL 5 1 cB B y vj (l ++ putN N j) ∧ Below B w y ∧ B ≤ y.heap.size)) (fun _ _ iv _ => (k - intOf iv).toNat)
  case atStart => exact ⟨0, N, v, _, rfl, Nat.zero_le _, rfl, rfl, rfl, (by show N = N / 256 ^ 0; simp), ⟨by show OwnL _ _ _ _ _ _ (l ++ []); rw [List.append_nil]; exact hv.out, Below.refl _ _, hB.out⟩⟩
  case round =>
    obtain ⟨j, m, vj, y, rfl, hj, rfl, rfl, rfl, Hm, K⟩ := hrel
    by_cases hlt : j < k
    · have hji : (j : Int) < (k : Int) := by omega
      have hlt' : Hid (j < k) := hlt
      have hml : m < 18446744073709551616 := by rw [Hm.out]; exact Nat.lt_of_le_of_lt (Nat.div_le_self _ _) hk8'.out.2
      have im : (m : Int) < 18446744073709551616 := by omega
      obtain ⟨r, hr⟩ : ∃ t, m % 256 = t := ⟨_, rfl⟩
      obtain ⟨q, hq⟩ : ∃ t, m / 256 = t := ⟨_, rfl⟩
      have wr1 : (m : Int) % 256 = (r : Int) := by omega
      have wr2 : Int.tmod (m : Int) 256 = (r : Int) := by rw [Int.tmod_eq_emod_of_nonneg (by omega)]; exact wr1
      have wq1 : (m : Int) / 256 = (q : Int) := by omega
      have wq2 : Int.tdiv (m : Int) 256 = (q : Int) := by rw [Int.tdiv_eq_ediv_of_nonneg (by omega)]; exact wq1
      have ir : (r : Int) < 256 := by omega
      have iq : (q : Int) < 18446744073709551616 := by omega
      have hrB : Hid (cB (UInt8.ofNat r) = [.int .u8 (r : Int)]) := by
        show [byV (UInt8.ofNat r)] = _
        unfold byV
        rw [UInt8.toNat_ofNat', Nat.mod_eq_of_lt (by omega)]
      have Hq : Hid (q = N / 256 ^ (j + 1)) := by
        show q = _
        rw [← hq, Hm.out, Nat.div_div_eq_div_mul, Nat.pow_succ]
      have Hs : Hid (l ++ putN N (j + 1) = (l ++ putN N j) ++ [UInt8.ofNat r]) := by
        show _ = _
        rw [putN_snoc, ← Hm.out, hr, List.append_assoc]
      obtain ⟨sv, cv, hvj, _⟩ := K.out.1.open kByte.len
      have hlen : Hid ((l ++ putN N j).length ≤ 100000000000) := by
        show _ ≤ _
        rw [List.length_append, putN_len]
        have := hl.out
        have := hk8'.out.1
        omega
      generalize (l ++ putN N j).length = nj at hvj
      subst hvj
      clear hj hlt hml hr hq
      go_wp2_with (at_builtin; refine at_appL kByte rfl (.tmp 13) (.tmp 17) rfl B (.slice sv nj cv) (l ++ putN N j) rfl (K.out.1.alloc _) y.heap.size (UInt8.ofNat r) rfl ?_ ?_ ?_ ?_; (show Bx _ _ (cB (UInt8.ofNat r)).toArray _; rw [hrB.out]; exact one_bxL y _ _); exact hlen.out; (have := K.out.2.2; simp [World.size_alloc]; omega); intro v2 y2 K2; have N2 : Hid (OwnL 5 1 cB B y2 v2 ((l ++ putN N j) ++ [UInt8.ofNat r]) ∧ Below B w y2 ∧ B ≤ y2.heap.size) := ⟨K2.out.own, K.out.2.1.trans (((Below.refl _ y).alloc K.out.2.2 _).trans K2.out.cu.low), Nat.le_trans K.out.2.2 (Nat.le_trans (by simp [World.size_alloc]) K2.out.cu.low.size)⟩; clear K2)
      go_roundw
      case rel => exact ⟨j + 1, q, v2, _, rfl, hlt'.out, rfl, rfl, by simp, Hq, by rw [Hs.out]; exact N2.out⟩
      case measure => have := hlt'.out; simp [intOf]; omega
    · obtain rfl : j = k := by omega
      clear hj hlt
      go_wp2
      go_ret
      exact ⟨_, rfl, ⟨K.out.1, K.out.2.1⟩⟩
end Go.Proofs.YtehnhjdjjalifaaGreatDoor
