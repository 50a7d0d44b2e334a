/- The document's answer: Parse where there are as many digits as there must be. -/
import Derived.Test.YtfdjifgmlgpjgaaDoorORefH
namespace Go.Proofs.YtfdjifgmlgpjgaaDoor
open Go.RowKit
set_option linter.unusedVariables false
set_option maxHeartbeats 1000000
set_option maxRecDepth 20000

theorem valI_none {c : Int} (h : digV c = none) : valI c = -1 := by unfold valI; rw [h]
theorem valI_some {c v : Int} (h : digV c = some v) : valI c = v := by unfold valI; rw [h]
theorem acc_small {acc : Int} {p : Nat} (h : acc < 16 ^ (p - 1)) (hp : p ≤ 5) : acc < 268435456 := by
  have h3 : (16 : Int) ^ (p - 1) ≤ 16 ^ 7 := by
    have := Nat.pow_le_pow_right (show 0 < 16 by decide) (show p - 1 ≤ 7 by omega)
    have e1 : ((16 ^ (p - 1) : Nat) : Int) = (16 : Int) ^ (p - 1) := by simp
    omega
  omega
theorem rparse_dig0 (s : ByteArray) (w : World) (hs : s.size ≤ 2147483647) (K : Nat) (hK : K ≤ s.size) (hno : Hid (∀ j (hj : j < s.size), j < K → s[j] ≠ 32)) (hb : Hid (∀ h : K < s.size, s[K] = 32)) (N0 R : ByteArray) (hN : Hid (s.extract 0 K = N0)) (hR : Hid (s.extract K s.size = R)) (n : Nat) (ho : Hid (opOf N0 = some n)) (hn : (n : Int) < 256) (F D : Nat) (hF : ∀ v, Calls Tryd.prog 77 #[.int .u8 n] v fun e v' => e = .returned (.int .u8 F) ∧ v' = v) (hW : ∀ v, Calls Tryd.prog 85 #[.int .u8 F] v fun e v' => e = .returned (.int .i64 D) ∧ v' = v) (hD : 1 ≤ D) (hD8 : D ≤ 4) (hRe : R.size = D + 1) (hno' : Hid (numFrom R 1 0 = none)) :
    Calls Tryd.prog 93 #[.string s] w fun e w' => e = retI ⟨#[]⟩ 0 21 ∧ Below w.heap.size w w' := by
  have hD0 : ((D : Int) == 0) = false := by simp; omega
  have hRe' : ((R.size : Int) != (D : Int) + 1) = false := by simp; omega
  go_enter Tryd.func93, Tryd.ntmps93
  go_wp2
  go_loopw [4] (fun i wz => ∃ k : Nat, k ≤ K ∧ i = .int .i64 (k : Int) ∧ wz = w.alloc (.cells #[.string ⟨#[]⟩, .int .i64 0] 83)) (fun i _ => (K - intOf i).toNat)
  case atStart => exact ⟨0, by omega, rfl, rfl⟩
  case round =>
    obtain ⟨k, hk, rfl, rfl⟩ := hrel
    by_cases hlt : k < K
    · have hks : k < s.size := by omega
      have hne := ne32 (hno.out k hks hlt)
      go_wp2
      go_roundw
      case rel => exact ⟨k + 1, by omega, by simp, trivial⟩
      case measure => simp [intOf]; omega
    · have hkK : k = K := by omega
      subst hkK
      clear hk hlt
      have hN' := hN.out
      have hR' := hR.out
      by_cases hend : k < s.size
      · have hbk := hb.out hend
        go_wp2_with (first | (go_at_call 49; refine (rfirst_any N0 _ ho _).mono ?_; unfold firstI; rintro e v1 ⟨rfl, hb1⟩; have M := mine_new hb1; replace hb1 := below_own hb1; have m0 : v1.cell? ⟨w.heap.size, 0, none⟩ = some (.string ⟨#[]⟩) := M.cells 0 (by simp); have m1 : v1.cell? ⟨w.heap.size, 1, none⟩ = some (.int .i64 0) := M.cells 1 (by simp); have f0 := M.free 0; have f1 := M.free 1; clear M) | (go_at_call 77; refine (hF _).mono ?_; rintro e v ⟨rfl, rfl⟩) | (go_at_call 85; refine (hW _).mono ?_; rintro e v ⟨rfl, rfl⟩))
        go_loopw [8, 9] (fun n i wz => ∃ (p : Nat) (acc : Int), 1 ≤ p ∧ p ≤ D + 1 ∧ i = .int .i64 (p : Int) ∧ n = .int .i64 acc ∧ 0 ≤ acc ∧ Hid (acc < 16 ^ (p - 1)) ∧ Hid (numFrom R p acc = numFrom R 1 0) ∧ v = wz) (fun _ i _ => (D + 1 - intOf i).toNat)
        case atStart => exact ⟨1, 0, by omega, by omega, rfl, rfl, by omega, show (0 : Int) < 16 ^ (1 - 1) by decide, show numFrom R 1 0 = numFrom R 1 0 from rfl, rfl⟩
        case round =>
          obtain ⟨p, acc, hp1, hp, rfl, rfl, ha, hA, hE, rfl⟩ := hrel
          by_cases hpl : p < D + 1
          · have hpR : p < R.size := by omega
            have hab : acc < 268435456 := acc_small hA.out (by omega)
            cases hv : digV ((R[p]'hpR).toNat : Int) with
            | none =>
              have hvI := fun v => rvalue_any ((R[p]'hpR).toNat : Int) v (by omega) (by have := (R[p]'hpR).toNat_lt; omega)
              rw [valI_none hv] at hvI
              clear hv
              go_wp2_with (go_at_call 108; refine (hvI _).mono ?_; rintro e v ⟨rfl, rfl⟩)
              (try simp only [Exit.inBlock, Exit.then])
              refine bodyPost_ret (by simp [results, Tryd.results93, go_sem, m0, m1]; try rfl) rfl ?_
              refine ⟨rfl, ?_⟩
              repeat (first | exact hb1 | refine below_set ?_ (Nat.le_refl _))
            | some x =>
              have hvI := fun v => rvalue_any ((R[p]'hpR).toNat : Int) v (by omega) (by have := (R[p]'hpR).toNat_lt; omega)
              rw [valI_some hv] at hvI
              obtain ⟨x0, x1⟩ := digV_bd _ _ hv
              have HV : Hid (digV ((R[p]'hpR).toNat : Int) = some x) := hv
              clear hv
              go_wp2_with (go_at_call 108; refine (hvI _).mono ?_; rintro e v ⟨rfl, rfl⟩)
              go_roundw
              case rel => exact ⟨p + 1, acc * 16 + x, by omega, by omega, by go_num, by go_num, by omega, by have := num_lt (p - 1) acc x x1 hA.out; rw [show p + 1 - 1 = p - 1 + 1 by omega]; exact this, (numFrom_some R p acc x hpR HV.out).symm.trans hE.out, trivial⟩
              case measure => simp [intOf]; omega
          · have hpe : p = D + 1 := by omega
            subst hpe
            have hnum : some acc = numFrom R 1 0 := (numFrom_end R (D + 1) acc (by omega)).symm.trans hE.out
            rw [hno'.out] at hnum
            cases hnum
      · have hlt0 : (s.size : Int) ≤ (k : Int) := by omega
        clear hend
        go_wp2_with (first | (go_at_call 49; refine (rfirst_any N0 _ ho _).mono ?_; unfold firstI; rintro e v1 ⟨rfl, hb1⟩; have M := mine_new hb1; replace hb1 := below_own hb1; have m0 : v1.cell? ⟨w.heap.size, 0, none⟩ = some (.string ⟨#[]⟩) := M.cells 0 (by simp); have m1 : v1.cell? ⟨w.heap.size, 1, none⟩ = some (.int .i64 0) := M.cells 1 (by simp); have f0 := M.free 0; have f1 := M.free 1; clear M) | (go_at_call 77; refine (hF _).mono ?_; rintro e v ⟨rfl, rfl⟩) | (go_at_call 85; refine (hW _).mono ?_; rintro e v ⟨rfl, rfl⟩))
        go_loopw [8, 9] (fun n i wz => ∃ (p : Nat) (acc : Int), 1 ≤ p ∧ p ≤ D + 1 ∧ i = .int .i64 (p : Int) ∧ n = .int .i64 acc ∧ 0 ≤ acc ∧ Hid (acc < 16 ^ (p - 1)) ∧ Hid (numFrom R p acc = numFrom R 1 0) ∧ v = wz) (fun _ i _ => (D + 1 - intOf i).toNat)
        case atStart => exact ⟨1, 0, by omega, by omega, rfl, rfl, by omega, show (0 : Int) < 16 ^ (1 - 1) by decide, show numFrom R 1 0 = numFrom R 1 0 from rfl, rfl⟩
        case round =>
          obtain ⟨p, acc, hp1, hp, rfl, rfl, ha, hA, hE, rfl⟩ := hrel
          by_cases hpl : p < D + 1
          · have hpR : p < R.size := by omega
            have hab : acc < 268435456 := acc_small hA.out (by omega)
            cases hv : digV ((R[p]'hpR).toNat : Int) with
            | none =>
              have hvI := fun v => rvalue_any ((R[p]'hpR).toNat : Int) v (by omega) (by have := (R[p]'hpR).toNat_lt; omega)
              rw [valI_none hv] at hvI
              clear hv
              go_wp2_with (go_at_call 108; refine (hvI _).mono ?_; rintro e v ⟨rfl, rfl⟩)
              (try simp only [Exit.inBlock, Exit.then])
              refine bodyPost_ret (by simp [results, Tryd.results93, go_sem, m0, m1]; try rfl) rfl ?_
              refine ⟨rfl, ?_⟩
              repeat (first | exact hb1 | refine below_set ?_ (Nat.le_refl _))
            | some x =>
              have hvI := fun v => rvalue_any ((R[p]'hpR).toNat : Int) v (by omega) (by have := (R[p]'hpR).toNat_lt; omega)
              rw [valI_some hv] at hvI
              obtain ⟨x0, x1⟩ := digV_bd _ _ hv
              have HV : Hid (digV ((R[p]'hpR).toNat : Int) = some x) := hv
              clear hv
              go_wp2_with (go_at_call 108; refine (hvI _).mono ?_; rintro e v ⟨rfl, rfl⟩)
              go_roundw
              case rel => exact ⟨p + 1, acc * 16 + x, by omega, by omega, by go_num, by go_num, by omega, by have := num_lt (p - 1) acc x x1 hA.out; rw [show p + 1 - 1 = p - 1 + 1 by omega]; exact this, (numFrom_some R p acc x hpR HV.out).symm.trans hE.out, trivial⟩
              case measure => simp [intOf]; omega
          · have hpe : p = D + 1 := by omega
            subst hpe
            have hnum : some acc = numFrom R 1 0 := (numFrom_end R (D + 1) acc (by omega)).symm.trans hE.out
            rw [hno'.out] at hnum
            cases hnum
theorem rparse_dig1 (s : ByteArray) (w : World) (hs : s.size ≤ 2147483647) (K : Nat) (hK : K ≤ s.size) (hno : Hid (∀ j (hj : j < s.size), j < K → s[j] ≠ 32)) (hb : Hid (∀ h : K < s.size, s[K] = 32)) (N0 R : ByteArray) (hN : Hid (s.extract 0 K = N0)) (hR : Hid (s.extract K s.size = R)) (n : Nat) (ho : Hid (opOf N0 = some n)) (hn : (n : Int) < 256) (F D : Nat) (hF : ∀ v, Calls Tryd.prog 77 #[.int .u8 n] v fun e v' => e = .returned (.int .u8 F) ∧ v' = v) (hW : ∀ v, Calls Tryd.prog 85 #[.int .u8 F] v fun e v' => e = .returned (.int .i64 D) ∧ v' = v) (hD : 1 ≤ D) (hD8 : D ≤ 4) (hRe : R.size = D + 1) (x : Int) (hx : Hid (numFrom R 1 0 = some x)) (hM : ∀ v, Calls Tryd.prog 99 #[.int .u8 n, .int .i64 x] v fun e v' => e = .returned (.bool false) ∧ v' = v) :
    Calls Tryd.prog 93 #[.string s] w fun e w' => e = retI ⟨#[]⟩ 0 21 ∧ Below w.heap.size w w' := by
  have hD0 : ((D : Int) == 0) = false := by simp; omega
  have hRe' : ((R.size : Int) != (D : Int) + 1) = false := by simp; omega
  go_enter Tryd.func93, Tryd.ntmps93
  go_wp2
  go_loopw [4] (fun i wz => ∃ k : Nat, k ≤ K ∧ i = .int .i64 (k : Int) ∧ wz = w.alloc (.cells #[.string ⟨#[]⟩, .int .i64 0] 83)) (fun i _ => (K - intOf i).toNat)
  case atStart => exact ⟨0, by omega, rfl, rfl⟩
  case round =>
    obtain ⟨k, hk, rfl, rfl⟩ := hrel
    by_cases hlt : k < K
    · have hks : k < s.size := by omega
      have hne := ne32 (hno.out k hks hlt)
      go_wp2
      go_roundw
      case rel => exact ⟨k + 1, by omega, by simp, trivial⟩
      case measure => simp [intOf]; omega
    · have hkK : k = K := by omega
      subst hkK
      clear hk hlt
      have hN' := hN.out
      have hR' := hR.out
      by_cases hend : k < s.size
      · have hbk := hb.out hend
        go_wp2_with (first | (go_at_call 49; refine (rfirst_any N0 _ ho _).mono ?_; unfold firstI; rintro e v1 ⟨rfl, hb1⟩; have M := mine_new hb1; replace hb1 := below_own hb1; have m0 : v1.cell? ⟨w.heap.size, 0, none⟩ = some (.string ⟨#[]⟩) := M.cells 0 (by simp); have m1 : v1.cell? ⟨w.heap.size, 1, none⟩ = some (.int .i64 0) := M.cells 1 (by simp); have f0 := M.free 0; have f1 := M.free 1; clear M) | (go_at_call 77; refine (hF _).mono ?_; rintro e v ⟨rfl, rfl⟩) | (go_at_call 85; refine (hW _).mono ?_; rintro e v ⟨rfl, rfl⟩))
        go_loopw [8, 9] (fun n i wz => ∃ (p : Nat) (acc : Int), 1 ≤ p ∧ p ≤ D + 1 ∧ i = .int .i64 (p : Int) ∧ n = .int .i64 acc ∧ 0 ≤ acc ∧ Hid (acc < 16 ^ (p - 1)) ∧ Hid (numFrom R p acc = numFrom R 1 0) ∧ v = wz) (fun _ i _ => (D + 1 - intOf i).toNat)
        case atStart => exact ⟨1, 0, by omega, by omega, rfl, rfl, by omega, show (0 : Int) < 16 ^ (1 - 1) by decide, show numFrom R 1 0 = numFrom R 1 0 from rfl, rfl⟩
        case round =>
          obtain ⟨p, acc, hp1, hp, rfl, rfl, ha, hA, hE, rfl⟩ := hrel
          by_cases hpl : p < D + 1
          · have hpR : p < R.size := by omega
            have hab : acc < 268435456 := acc_small hA.out (by omega)
            cases hv : digV ((R[p]'hpR).toNat : Int) with
            | none =>
              have hvI := fun v => rvalue_any ((R[p]'hpR).toNat : Int) v (by omega) (by have := (R[p]'hpR).toNat_lt; omega)
              rw [valI_none hv] at hvI
              exfalso
              have := numFrom_none R p acc hpR hv
              rw [hE.out, hx.out] at this
              cases this
            | some x =>
              have hvI := fun v => rvalue_any ((R[p]'hpR).toNat : Int) v (by omega) (by have := (R[p]'hpR).toNat_lt; omega)
              rw [valI_some hv] at hvI
              obtain ⟨x0, x1⟩ := digV_bd _ _ hv
              have HV : Hid (digV ((R[p]'hpR).toNat : Int) = some x) := hv
              clear hv
              go_wp2_with (go_at_call 108; refine (hvI _).mono ?_; rintro e v ⟨rfl, rfl⟩)
              go_roundw
              case rel => exact ⟨p + 1, acc * 16 + x, by omega, by omega, by go_num, by go_num, by omega, by have := num_lt (p - 1) acc x x1 hA.out; rw [show p + 1 - 1 = p - 1 + 1 by omega]; exact this, (numFrom_some R p acc x hpR HV.out).symm.trans hE.out, trivial⟩
              case measure => simp [intOf]; omega
          · have hpe : p = D + 1 := by omega
            subst hpe
            have hnum : some acc = numFrom R 1 0 := (numFrom_end R (D + 1) acc (by omega)).symm.trans hE.out
            rw [hx.out] at hnum
            have hxa := Option.some.inj hnum
            subst hxa
            clear hnum
            go_wp2_with (go_at_call 99; refine (hM _).mono ?_; rintro e v ⟨rfl, rfl⟩)
            (try simp only [Exit.inBlock, Exit.then])
            refine bodyPost_ret (by simp [results, Tryd.results93, go_sem, m0, m1]; try rfl) rfl ?_
            refine ⟨rfl, ?_⟩
            repeat (first | exact hb1 | refine below_set ?_ (Nat.le_refl _))
      · have hlt0 : (s.size : Int) ≤ (k : Int) := by omega
        clear hend
        go_wp2_with (first | (go_at_call 49; refine (rfirst_any N0 _ ho _).mono ?_; unfold firstI; rintro e v1 ⟨rfl, hb1⟩; have M := mine_new hb1; replace hb1 := below_own hb1; have m0 : v1.cell? ⟨w.heap.size, 0, none⟩ = some (.string ⟨#[]⟩) := M.cells 0 (by simp); have m1 : v1.cell? ⟨w.heap.size, 1, none⟩ = some (.int .i64 0) := M.cells 1 (by simp); have f0 := M.free 0; have f1 := M.free 1; clear M) | (go_at_call 77; refine (hF _).mono ?_; rintro e v ⟨rfl, rfl⟩) | (go_at_call 85; refine (hW _).mono ?_; rintro e v ⟨rfl, rfl⟩))
        go_loopw [8, 9] (fun n i wz => ∃ (p : Nat) (acc : Int), 1 ≤ p ∧ p ≤ D + 1 ∧ i = .int .i64 (p : Int) ∧ n = .int .i64 acc ∧ 0 ≤ acc ∧ Hid (acc < 16 ^ (p - 1)) ∧ Hid (numFrom R p acc = numFrom R 1 0) ∧ v = wz) (fun _ i _ => (D + 1 - intOf i).toNat)
        case atStart => exact ⟨1, 0, by omega, by omega, rfl, rfl, by omega, show (0 : Int) < 16 ^ (1 - 1) by decide, show numFrom R 1 0 = numFrom R 1 0 from rfl, rfl⟩
        case round =>
          obtain ⟨p, acc, hp1, hp, rfl, rfl, ha, hA, hE, rfl⟩ := hrel
          by_cases hpl : p < D + 1
          · have hpR : p < R.size := by omega
            have hab : acc < 268435456 := acc_small hA.out (by omega)
            cases hv : digV ((R[p]'hpR).toNat : Int) with
            | none =>
              have hvI := fun v => rvalue_any ((R[p]'hpR).toNat : Int) v (by omega) (by have := (R[p]'hpR).toNat_lt; omega)
              rw [valI_none hv] at hvI
              exfalso
              have := numFrom_none R p acc hpR hv
              rw [hE.out, hx.out] at this
              cases this
            | some x =>
              have hvI := fun v => rvalue_any ((R[p]'hpR).toNat : Int) v (by omega) (by have := (R[p]'hpR).toNat_lt; omega)
              rw [valI_some hv] at hvI
              obtain ⟨x0, x1⟩ := digV_bd _ _ hv
              have HV : Hid (digV ((R[p]'hpR).toNat : Int) = some x) := hv
              clear hv
              go_wp2_with (go_at_call 108; refine (hvI _).mono ?_; rintro e v ⟨rfl, rfl⟩)
              go_roundw
              case rel => exact ⟨p + 1, acc * 16 + x, by omega, by omega, by go_num, by go_num, by omega, by have := num_lt (p - 1) acc x x1 hA.out; rw [show p + 1 - 1 = p - 1 + 1 by omega]; exact this, (numFrom_some R p acc x hpR HV.out).symm.trans hE.out, trivial⟩
              case measure => simp [intOf]; omega
          · have hpe : p = D + 1 := by omega
            subst hpe
            have hnum : some acc = numFrom R 1 0 := (numFrom_end R (D + 1) acc (by omega)).symm.trans hE.out
            rw [hx.out] at hnum
            have hxa := Option.some.inj hnum
            subst hxa
            clear hnum
            go_wp2_with (go_at_call 99; refine (hM _).mono ?_; rintro e v ⟨rfl, rfl⟩)
            (try simp only [Exit.inBlock, Exit.then])
            refine bodyPost_ret (by simp [results, Tryd.results93, go_sem, m0, m1]; try rfl) rfl ?_
            refine ⟨rfl, ?_⟩
            repeat (first | exact hb1 | refine below_set ?_ (Nat.le_refl _))
theorem rparse_dig2 (s : ByteArray) (w : World) (hs : s.size ≤ 2147483647) (K : Nat) (hK : K ≤ s.size) (hno : Hid (∀ j (hj : j < s.size), j < K → s[j] ≠ 32)) (hb : Hid (∀ h : K < s.size, s[K] = 32)) (N0 R : ByteArray) (hN : Hid (s.extract 0 K = N0)) (hR : Hid (s.extract K s.size = R)) (n : Nat) (ho : Hid (opOf N0 = some n)) (hn : (n : Int) < 256) (F D : Nat) (hF : ∀ v, Calls Tryd.prog 77 #[.int .u8 n] v fun e v' => e = .returned (.int .u8 F) ∧ v' = v) (hW : ∀ v, Calls Tryd.prog 85 #[.int .u8 F] v fun e v' => e = .returned (.int .i64 D) ∧ v' = v) (hD : 1 ≤ D) (hD8 : D ≤ 4) (hRe : R.size = D + 1) (x : Int) (hx : Hid (numFrom R 1 0 = some x)) (hM : ∀ v, Calls Tryd.prog 99 #[.int .u8 n, .int .i64 x] v fun e v' => e = .returned (.bool true) ∧ v' = v) :
    Calls Tryd.prog 93 #[.string s] w fun e w' => e = retI N0 x 0 ∧ Below w.heap.size w w' := by
  have hD0 : ((D : Int) == 0) = false := by simp; omega
  have hRe' : ((R.size : Int) != (D : Int) + 1) = false := by simp; omega
  go_enter Tryd.func93, Tryd.ntmps93
  go_wp2
  go_loopw [4] (fun i wz => ∃ k : Nat, k ≤ K ∧ i = .int .i64 (k : Int) ∧ wz = w.alloc (.cells #[.string ⟨#[]⟩, .int .i64 0] 83)) (fun i _ => (K - intOf i).toNat)
  case atStart => exact ⟨0, by omega, rfl, rfl⟩
  case round =>
    obtain ⟨k, hk, rfl, rfl⟩ := hrel
    by_cases hlt : k < K
    · have hks : k < s.size := by omega
      have hne := ne32 (hno.out k hks hlt)
      go_wp2
      go_roundw
      case rel => exact ⟨k + 1, by omega, by simp, trivial⟩
      case measure => simp [intOf]; omega
    · have hkK : k = K := by omega
      subst hkK
      clear hk hlt
      have hN' := hN.out
      have hR' := hR.out
      by_cases hend : k < s.size
      · have hbk := hb.out hend
        go_wp2_with (first | (go_at_call 49; refine (rfirst_any N0 _ ho _).mono ?_; unfold firstI; rintro e v1 ⟨rfl, hb1⟩; have M := mine_new hb1; replace hb1 := below_own hb1; have m0 : v1.cell? ⟨w.heap.size, 0, none⟩ = some (.string ⟨#[]⟩) := M.cells 0 (by simp); have m1 : v1.cell? ⟨w.heap.size, 1, none⟩ = some (.int .i64 0) := M.cells 1 (by simp); have f0 := M.free 0; have f1 := M.free 1; clear M) | (go_at_call 77; refine (hF _).mono ?_; rintro e v ⟨rfl, rfl⟩) | (go_at_call 85; refine (hW _).mono ?_; rintro e v ⟨rfl, rfl⟩))
        go_loopw [8, 9] (fun n i wz => ∃ (p : Nat) (acc : Int), 1 ≤ p ∧ p ≤ D + 1 ∧ i = .int .i64 (p : Int) ∧ n = .int .i64 acc ∧ 0 ≤ acc ∧ Hid (acc < 16 ^ (p - 1)) ∧ Hid (numFrom R p acc = numFrom R 1 0) ∧ v = wz) (fun _ i _ => (D + 1 - intOf i).toNat)
        case atStart => exact ⟨1, 0, by omega, by omega, rfl, rfl, by omega, show (0 : Int) < 16 ^ (1 - 1) by decide, show numFrom R 1 0 = numFrom R 1 0 from rfl, rfl⟩
        case round =>
          obtain ⟨p, acc, hp1, hp, rfl, rfl, ha, hA, hE, rfl⟩ := hrel
          by_cases hpl : p < D + 1
          · have hpR : p < R.size := by omega
            have hab : acc < 268435456 := acc_small hA.out (by omega)
            cases hv : digV ((R[p]'hpR).toNat : Int) with
            | none =>
              have hvI := fun v => rvalue_any ((R[p]'hpR).toNat : Int) v (by omega) (by have := (R[p]'hpR).toNat_lt; omega)
              rw [valI_none hv] at hvI
              exfalso
              have := numFrom_none R p acc hpR hv
              rw [hE.out, hx.out] at this
              cases this
            | some x =>
              have hvI := fun v => rvalue_any ((R[p]'hpR).toNat : Int) v (by omega) (by have := (R[p]'hpR).toNat_lt; omega)
              rw [valI_some hv] at hvI
              obtain ⟨x0, x1⟩ := digV_bd _ _ hv
              have HV : Hid (digV ((R[p]'hpR).toNat : Int) = some x) := hv
              clear hv
              go_wp2_with (go_at_call 108; refine (hvI _).mono ?_; rintro e v ⟨rfl, rfl⟩)
              go_roundw
              case rel => exact ⟨p + 1, acc * 16 + x, by omega, by omega, by go_num, by go_num, by omega, by have := num_lt (p - 1) acc x x1 hA.out; rw [show p + 1 - 1 = p - 1 + 1 by omega]; exact this, (numFrom_some R p acc x hpR HV.out).symm.trans hE.out, trivial⟩
              case measure => simp [intOf]; omega
          · have hpe : p = D + 1 := by omega
            subst hpe
            have hnum : some acc = numFrom R 1 0 := (numFrom_end R (D + 1) acc (by omega)).symm.trans hE.out
            rw [hx.out] at hnum
            have hxa := Option.some.inj hnum
            subst hxa
            clear hnum
            go_wp2_with (go_at_call 99; refine (hM _).mono ?_; rintro e v ⟨rfl, rfl⟩)
            (try simp only [Exit.inBlock, Exit.then])
            refine bodyPost_ret (by simp [results, Tryd.results93, go_sem, m0, m1]; try rfl) rfl ?_
            refine ⟨rfl, ?_⟩
            repeat (first | exact hb1 | refine below_set ?_ (Nat.le_refl _))
      · have hlt0 : (s.size : Int) ≤ (k : Int) := by omega
        clear hend
        go_wp2_with (first | (go_at_call 49; refine (rfirst_any N0 _ ho _).mono ?_; unfold firstI; rintro e v1 ⟨rfl, hb1⟩; have M := mine_new hb1; replace hb1 := below_own hb1; have m0 : v1.cell? ⟨w.heap.size, 0, none⟩ = some (.string ⟨#[]⟩) := M.cells 0 (by simp); have m1 : v1.cell? ⟨w.heap.size, 1, none⟩ = some (.int .i64 0) := M.cells 1 (by simp); have f0 := M.free 0; have f1 := M.free 1; clear M) | (go_at_call 77; refine (hF _).mono ?_; rintro e v ⟨rfl, rfl⟩) | (go_at_call 85; refine (hW _).mono ?_; rintro e v ⟨rfl, rfl⟩))
        go_loopw [8, 9] (fun n i wz => ∃ (p : Nat) (acc : Int), 1 ≤ p ∧ p ≤ D + 1 ∧ i = .int .i64 (p : Int) ∧ n = .int .i64 acc ∧ 0 ≤ acc ∧ Hid (acc < 16 ^ (p - 1)) ∧ Hid (numFrom R p acc = numFrom R 1 0) ∧ v = wz) (fun _ i _ => (D + 1 - intOf i).toNat)
        case atStart => exact ⟨1, 0, by omega, by omega, rfl, rfl, by omega, show (0 : Int) < 16 ^ (1 - 1) by decide, show numFrom R 1 0 = numFrom R 1 0 from rfl, rfl⟩
        case round =>
          obtain ⟨p, acc, hp1, hp, rfl, rfl, ha, hA, hE, rfl⟩ := hrel
          by_cases hpl : p < D + 1
          · have hpR : p < R.size := by omega
            have hab : acc < 268435456 := acc_small hA.out (by omega)
            cases hv : digV ((R[p]'hpR).toNat : Int) with
            | none =>
              have hvI := fun v => rvalue_any ((R[p]'hpR).toNat : Int) v (by omega) (by have := (R[p]'hpR).toNat_lt; omega)
              rw [valI_none hv] at hvI
              exfalso
              have := numFrom_none R p acc hpR hv
              rw [hE.out, hx.out] at this
              cases this
            | some x =>
              have hvI := fun v => rvalue_any ((R[p]'hpR).toNat : Int) v (by omega) (by have := (R[p]'hpR).toNat_lt; omega)
              rw [valI_some hv] at hvI
              obtain ⟨x0, x1⟩ := digV_bd _ _ hv
              have HV : Hid (digV ((R[p]'hpR).toNat : Int) = some x) := hv
              clear hv
              go_wp2_with (go_at_call 108; refine (hvI _).mono ?_; rintro e v ⟨rfl, rfl⟩)
              go_roundw
              case rel => exact ⟨p + 1, acc * 16 + x, by omega, by omega, by go_num, by go_num, by omega, by have := num_lt (p - 1) acc x x1 hA.out; rw [show p + 1 - 1 = p - 1 + 1 by omega]; exact this, (numFrom_some R p acc x hpR HV.out).symm.trans hE.out, trivial⟩
              case measure => simp [intOf]; omega
          · have hpe : p = D + 1 := by omega
            subst hpe
            have hnum : some acc = numFrom R 1 0 := (numFrom_end R (D + 1) acc (by omega)).symm.trans hE.out
            rw [hx.out] at hnum
            have hxa := Option.some.inj hnum
            subst hxa
            clear hnum
            go_wp2_with (go_at_call 99; refine (hM _).mono ?_; rintro e v ⟨rfl, rfl⟩)
            (try simp only [Exit.inBlock, Exit.then])
            refine bodyPost_ret (by simp [results, Tryd.results93, go_sem, m0, m1]; try rfl) rfl ?_
            refine ⟨rfl, ?_⟩
            repeat (first | exact hb1 | refine below_set ?_ (Nat.le_refl _))
end Go.Proofs.YtfdjifgmlgpjgaaDoor
