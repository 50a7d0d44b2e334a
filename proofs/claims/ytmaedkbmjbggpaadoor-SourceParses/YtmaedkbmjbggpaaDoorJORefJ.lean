/- The document's answer: Parse, walked. -/
import Derived.Test.YtmaedkbmjbggpaaDoorJORefG
import Derived.Test.YtmaedkbmjbggpaaDoorJOBack
namespace Go.Proofs.YtmaedkbmjbggpaaDoor
open Go.RowKit
set_option linter.unusedVariables false
set_option maxHeartbeats 1000000
set_option maxRecDepth 20000

theorem ne32 {s : ByteArray} {k : Nat} {h : k < s.size} (hn : s[k] ≠ 32) : (((s[k]'h).toNat : Int) != 32) = true := by
  rw [bne_iff_ne]
  intro e
  apply hn
  apply UInt8.toNat_inj.1
  have : (32 : UInt8).toNat = 32 := rfl
  omega
theorem rparse_none (s : ByteArray) (w : World) (hs : s.size ≤ 2147483647) (K : Nat) (hK : K ≤ s.size) (hno : Hid (∀ j (hj : j < s.size), j < K → s[j] ≠ 32)) (hb : Hid (∀ h : K < s.size, s[K] = 32)) (N0 R : ByteArray) (hN : Hid (s.extract 0 K = N0)) (hR : Hid (s.extract K s.size = R)) (ho : Hid (opOf N0 = none)) :
    Calls Tryd.prog 83 #[.string s] w fun e w' => e = retI ⟨#[]⟩ 0 20 ∧ Below w.heap.size w w' := by
  go_enter Tryd.func83, Tryd.ntmps83
  go_wp2
  go_loopw [4] (fun i wz => ∃ k : Nat, k ≤ K ∧ i = .int .i64 (k : Int) ∧ wz = w.alloc (.cells #[.string ⟨#[]⟩, .int .i64 0] 71)) (fun i _ => (K - intOf i).toNat)
  case atStart => exact ⟨0, by omega, rfl, rfl⟩
  case round =>
    obtain ⟨k, hk, rfl, rfl⟩ := hrel
    by_cases hlt : k < K
    · have hks : k < s.size := by omega
      have hne := ne32 (hno.out k hks hlt)
      go_wp2
      go_roundw
      case rel => exact ⟨k + 1, by omega, by simp, trivial⟩
      case measure => simp [intOf]; omega
    · have hkK : k = K := by omega
      subst hkK
      clear hk hlt
      have hN' := hN.out
      have hR' := hR.out
      by_cases hend : k < s.size
      · have hbk := hb.out hend
        go_wp2_with (go_at_call 75; refine (rfirst_any N0 _ ho _).mono ?_; unfold firstI; rintro e v1 ⟨rfl, hb1⟩; have M := mine_new hb1; replace hb1 := below_own hb1; have m0 : v1.cell? ⟨w.heap.size, 0, none⟩ = some (.string ⟨#[]⟩) := M.cells 0 (by simp); have m1 : v1.cell? ⟨w.heap.size, 1, none⟩ = some (.int .i64 0) := M.cells 1 (by simp); have f0 := M.free 0; have f1 := M.free 1; clear M)
        (try simp only [Exit.inBlock, Exit.then])
        refine bodyPost_ret (by simp [results, Tryd.results83, go_sem, m0, m1]; try rfl) rfl ?_
        refine ⟨rfl, ?_⟩
        repeat (first | exact hb1 | refine below_set ?_ (Nat.le_refl _))
      · have hlt0 : (s.size : Int) ≤ (k : Int) := by omega
        clear hend
        go_wp2_with (go_at_call 75; refine (rfirst_any N0 _ ho _).mono ?_; unfold firstI; rintro e v1 ⟨rfl, hb1⟩; have M := mine_new hb1; replace hb1 := below_own hb1; have m0 : v1.cell? ⟨w.heap.size, 0, none⟩ = some (.string ⟨#[]⟩) := M.cells 0 (by simp); have m1 : v1.cell? ⟨w.heap.size, 1, none⟩ = some (.int .i64 0) := M.cells 1 (by simp); have f0 := M.free 0; have f1 := M.free 1; clear M)
        (try simp only [Exit.inBlock, Exit.then])
        refine bodyPost_ret (by simp [results, Tryd.results83, go_sem, m0, m1]; try rfl) rfl ?_
        refine ⟨rfl, ?_⟩
        repeat (first | exact hb1 | refine below_set ?_ (Nat.le_refl _))

theorem rparse_bare0 (s : ByteArray) (w : World) (hs : s.size ≤ 2147483647) (K : Nat) (hK : K ≤ s.size) (hno : Hid (∀ j (hj : j < s.size), j < K → s[j] ≠ 32)) (hb : Hid (∀ h : K < s.size, s[K] = 32)) (N0 R : ByteArray) (hN : Hid (s.extract 0 K = N0)) (hR : Hid (s.extract K s.size = R)) (n : Nat) (ho : Hid (opOf N0 = some n)) (hn : (n : Int) < 256) (F D : Nat) (hF : ∀ v, Calls Tryd.prog 74 #[.int .u8 n] v fun e v' => e = .returned (.int .u8 F) ∧ v' = v) (hW : ∀ v, Calls Tryd.prog 73 #[.int .u8 F] v fun e v' => e = .returned (.int .i64 D) ∧ v' = v) (hD : D = 0) (hRe : Hid (R = ⟨#[]⟩)) :
    Calls Tryd.prog 83 #[.string s] w fun e w' => e = retI N0 0 0 ∧ Below w.heap.size w w' := by
  subst hD
  go_enter Tryd.func83, Tryd.ntmps83
  go_wp2
  go_loopw [4] (fun i wz => ∃ k : Nat, k ≤ K ∧ i = .int .i64 (k : Int) ∧ wz = w.alloc (.cells #[.string ⟨#[]⟩, .int .i64 0] 71)) (fun i _ => (K - intOf i).toNat)
  case atStart => exact ⟨0, by omega, rfl, rfl⟩
  case round =>
    obtain ⟨k, hk, rfl, rfl⟩ := hrel
    by_cases hlt : k < K
    · have hks : k < s.size := by omega
      have hne := ne32 (hno.out k hks hlt)
      go_wp2
      go_roundw
      case rel => exact ⟨k + 1, by omega, by simp, trivial⟩
      case measure => simp [intOf]; omega
    · have hkK : k = K := by omega
      subst hkK
      clear hk hlt
      have hN' := hN.out
      have hR' := hR.out
      rw [hRe.out] at hR'
      by_cases hend : k < s.size
      · have hbk := hb.out hend
        go_wp2_with (first | (go_at_call 75; refine (rfirst_any N0 _ ho _).mono ?_; unfold firstI; rintro e v1 ⟨rfl, hb1⟩; have M := mine_new hb1; replace hb1 := below_own hb1; have m0 : v1.cell? ⟨w.heap.size, 0, none⟩ = some (.string ⟨#[]⟩) := M.cells 0 (by simp); have m1 : v1.cell? ⟨w.heap.size, 1, none⟩ = some (.int .i64 0) := M.cells 1 (by simp); have f0 := M.free 0; have f1 := M.free 1; clear M) | (go_at_call 74; refine (hF _).mono ?_; rintro e v ⟨rfl, rfl⟩) | (go_at_call 73; refine (hW _).mono ?_; rintro e v ⟨rfl, rfl⟩))
        (try simp only [Exit.inBlock, Exit.then])
        refine bodyPost_ret (by simp [results, Tryd.results83, go_sem, m0, m1]; try rfl) rfl ?_
        refine ⟨rfl, ?_⟩
        repeat (first | exact hb1 | refine below_set ?_ (Nat.le_refl _))
      · have hlt0 : (s.size : Int) ≤ (k : Int) := by omega
        clear hend
        go_wp2_with (first | (go_at_call 75; refine (rfirst_any N0 _ ho _).mono ?_; unfold firstI; rintro e v1 ⟨rfl, hb1⟩; have M := mine_new hb1; replace hb1 := below_own hb1; have m0 : v1.cell? ⟨w.heap.size, 0, none⟩ = some (.string ⟨#[]⟩) := M.cells 0 (by simp); have m1 : v1.cell? ⟨w.heap.size, 1, none⟩ = some (.int .i64 0) := M.cells 1 (by simp); have f0 := M.free 0; have f1 := M.free 1; clear M) | (go_at_call 74; refine (hF _).mono ?_; rintro e v ⟨rfl, rfl⟩) | (go_at_call 73; refine (hW _).mono ?_; rintro e v ⟨rfl, rfl⟩))
        (try simp only [Exit.inBlock, Exit.then])
        refine bodyPost_ret (by simp [results, Tryd.results83, go_sem, m0, m1]; try rfl) rfl ?_
        refine ⟨rfl, ?_⟩
        repeat (first | exact hb1 | refine below_set ?_ (Nat.le_refl _))

theorem rparse_bare1 (s : ByteArray) (w : World) (hs : s.size ≤ 2147483647) (K : Nat) (hK : K ≤ s.size) (hno : Hid (∀ j (hj : j < s.size), j < K → s[j] ≠ 32)) (hb : Hid (∀ h : K < s.size, s[K] = 32)) (N0 R : ByteArray) (hN : Hid (s.extract 0 K = N0)) (hR : Hid (s.extract K s.size = R)) (n : Nat) (ho : Hid (opOf N0 = some n)) (hn : (n : Int) < 256) (F D : Nat) (hF : ∀ v, Calls Tryd.prog 74 #[.int .u8 n] v fun e v' => e = .returned (.int .u8 F) ∧ v' = v) (hW : ∀ v, Calls Tryd.prog 73 #[.int .u8 F] v fun e v' => e = .returned (.int .i64 D) ∧ v' = v) (hD : D = 0) (hRe : Hid (R ≠ ⟨#[]⟩)) :
    Calls Tryd.prog 83 #[.string s] w fun e w' => e = retI ⟨#[]⟩ 0 21 ∧ Below w.heap.size w w' := by
  subst hD
  have hBn : (R.toList == []) = false := by have h := str_ne hRe.out; rw [toList_eq ⟨#[]⟩] at h; exact h
  have hBn' : R.toList.isEmpty = false := by revert hBn; cases R.toList <;> simp
  go_enter Tryd.func83, Tryd.ntmps83
  go_wp2
  go_loopw [4] (fun i wz => ∃ k : Nat, k ≤ K ∧ i = .int .i64 (k : Int) ∧ wz = w.alloc (.cells #[.string ⟨#[]⟩, .int .i64 0] 71)) (fun i _ => (K - intOf i).toNat)
  case atStart => exact ⟨0, by omega, rfl, rfl⟩
  case round =>
    obtain ⟨k, hk, rfl, rfl⟩ := hrel
    by_cases hlt : k < K
    · have hks : k < s.size := by omega
      have hne := ne32 (hno.out k hks hlt)
      go_wp2
      go_roundw
      case rel => exact ⟨k + 1, by omega, by simp, trivial⟩
      case measure => simp [intOf]; omega
    · have hkK : k = K := by omega
      subst hkK
      clear hk hlt
      have hN' := hN.out
      have hR' := hR.out
      by_cases hend : k < s.size
      · have hbk := hb.out hend
        go_wp2_with (first | (go_at_call 75; refine (rfirst_any N0 _ ho _).mono ?_; unfold firstI; rintro e v1 ⟨rfl, hb1⟩; have M := mine_new hb1; replace hb1 := below_own hb1; have m0 : v1.cell? ⟨w.heap.size, 0, none⟩ = some (.string ⟨#[]⟩) := M.cells 0 (by simp); have m1 : v1.cell? ⟨w.heap.size, 1, none⟩ = some (.int .i64 0) := M.cells 1 (by simp); have f0 := M.free 0; have f1 := M.free 1; clear M) | (go_at_call 74; refine (hF _).mono ?_; rintro e v ⟨rfl, rfl⟩) | (go_at_call 73; refine (hW _).mono ?_; rintro e v ⟨rfl, rfl⟩))
        (try simp only [Exit.inBlock, Exit.then])
        refine bodyPost_ret (by simp [results, Tryd.results83, go_sem, m0, m1]; try rfl) rfl ?_
        refine ⟨rfl, ?_⟩
        repeat (first | exact hb1 | refine below_set ?_ (Nat.le_refl _))
      · have hlt0 : (s.size : Int) ≤ (k : Int) := by omega
        clear hend
        go_wp2_with (first | (go_at_call 75; refine (rfirst_any N0 _ ho _).mono ?_; unfold firstI; rintro e v1 ⟨rfl, hb1⟩; have M := mine_new hb1; replace hb1 := below_own hb1; have m0 : v1.cell? ⟨w.heap.size, 0, none⟩ = some (.string ⟨#[]⟩) := M.cells 0 (by simp); have m1 : v1.cell? ⟨w.heap.size, 1, none⟩ = some (.int .i64 0) := M.cells 1 (by simp); have f0 := M.free 0; have f1 := M.free 1; clear M) | (go_at_call 74; refine (hF _).mono ?_; rintro e v ⟨rfl, rfl⟩) | (go_at_call 73; refine (hW _).mono ?_; rintro e v ⟨rfl, rfl⟩))
        (try simp only [Exit.inBlock, Exit.then])
        refine bodyPost_ret (by simp [results, Tryd.results83, go_sem, m0, m1]; try rfl) rfl ?_
        refine ⟨rfl, ?_⟩
        repeat (first | exact hb1 | refine below_set ?_ (Nat.le_refl _))

theorem rparse_len (s : ByteArray) (w : World) (hs : s.size ≤ 2147483647) (K : Nat) (hK : K ≤ s.size) (hno : Hid (∀ j (hj : j < s.size), j < K → s[j] ≠ 32)) (hb : Hid (∀ h : K < s.size, s[K] = 32)) (N0 R : ByteArray) (hN : Hid (s.extract 0 K = N0)) (hR : Hid (s.extract K s.size = R)) (n : Nat) (ho : Hid (opOf N0 = some n)) (hn : (n : Int) < 256) (F D : Nat) (hF : ∀ v, Calls Tryd.prog 74 #[.int .u8 n] v fun e v' => e = .returned (.int .u8 F) ∧ v' = v) (hW : ∀ v, Calls Tryd.prog 73 #[.int .u8 F] v fun e v' => e = .returned (.int .i64 D) ∧ v' = v) (hD : 1 ≤ D) (hD8 : D ≤ 8) (hRs : R.size ≤ 2147483647) (hRe : R.size ≠ D + 1) :
    Calls Tryd.prog 83 #[.string s] w fun e w' => e = retI ⟨#[]⟩ 0 21 ∧ Below w.heap.size w w' := by
  have hD0 : ((D : Int) == 0) = false := by simp; omega
  have hRe' : ((R.size : Int) != (D : Int) + 1) = true := by simp; omega
  go_enter Tryd.func83, Tryd.ntmps83
  go_wp2
  go_loopw [4] (fun i wz => ∃ k : Nat, k ≤ K ∧ i = .int .i64 (k : Int) ∧ wz = w.alloc (.cells #[.string ⟨#[]⟩, .int .i64 0] 71)) (fun i _ => (K - intOf i).toNat)
  case atStart => exact ⟨0, by omega, rfl, rfl⟩
  case round =>
    obtain ⟨k, hk, rfl, rfl⟩ := hrel
    by_cases hlt : k < K
    · have hks : k < s.size := by omega
      have hne := ne32 (hno.out k hks hlt)
      go_wp2
      go_roundw
      case rel => exact ⟨k + 1, by omega, by simp, trivial⟩
      case measure => simp [intOf]; omega
    · have hkK : k = K := by omega
      subst hkK
      clear hk hlt
      have hN' := hN.out
      have hR' := hR.out
      by_cases hend : k < s.size
      · have hbk := hb.out hend
        go_wp2_with (first | (go_at_call 75; refine (rfirst_any N0 _ ho _).mono ?_; unfold firstI; rintro e v1 ⟨rfl, hb1⟩; have M := mine_new hb1; replace hb1 := below_own hb1; have m0 : v1.cell? ⟨w.heap.size, 0, none⟩ = some (.string ⟨#[]⟩) := M.cells 0 (by simp); have m1 : v1.cell? ⟨w.heap.size, 1, none⟩ = some (.int .i64 0) := M.cells 1 (by simp); have f0 := M.free 0; have f1 := M.free 1; clear M) | (go_at_call 74; refine (hF _).mono ?_; rintro e v ⟨rfl, rfl⟩) | (go_at_call 73; refine (hW _).mono ?_; rintro e v ⟨rfl, rfl⟩))
        (try simp only [Exit.inBlock, Exit.then])
        refine bodyPost_ret (by simp [results, Tryd.results83, go_sem, m0, m1]; try rfl) rfl ?_
        refine ⟨rfl, ?_⟩
        repeat (first | exact hb1 | refine below_set ?_ (Nat.le_refl _))
      · have hlt0 : (s.size : Int) ≤ (k : Int) := by omega
        clear hend
        go_wp2_with (first | (go_at_call 75; refine (rfirst_any N0 _ ho _).mono ?_; unfold firstI; rintro e v1 ⟨rfl, hb1⟩; have M := mine_new hb1; replace hb1 := below_own hb1; have m0 : v1.cell? ⟨w.heap.size, 0, none⟩ = some (.string ⟨#[]⟩) := M.cells 0 (by simp); have m1 : v1.cell? ⟨w.heap.size, 1, none⟩ = some (.int .i64 0) := M.cells 1 (by simp); have f0 := M.free 0; have f1 := M.free 1; clear M) | (go_at_call 74; refine (hF _).mono ?_; rintro e v ⟨rfl, rfl⟩) | (go_at_call 73; refine (hW _).mono ?_; rintro e v ⟨rfl, rfl⟩))
        (try simp only [Exit.inBlock, Exit.then])
        refine bodyPost_ret (by simp [results, Tryd.results83, go_sem, m0, m1]; try rfl) rfl ?_
        refine ⟨rfl, ?_⟩
        repeat (first | exact hb1 | refine below_set ?_ (Nat.le_refl _))
end Go.Proofs.YtmaedkbmjbggpaaDoor
/- The document's answer: Parse where there are as many digits as there must be. -/
namespace Go.Proofs.YtmaedkbmjbggpaaDoor
open Go.RowKit
set_option linter.unusedVariables false
set_option maxHeartbeats 1000000
set_option maxRecDepth 20000

theorem valI_none {c : Int} (h : digV c = none) : valI c = -1 := by unfold valI; rw [h]
theorem valI_some {c v : Int} (h : digV c = some v) : valI c = v := by unfold valI; rw [h]
theorem acc_small {acc : Int} {p : Nat} (h : acc < 16 ^ (p - 1)) (hp : p ≤ 5) : acc < 268435456 := by
  have h3 : (16 : Int) ^ (p - 1) ≤ 16 ^ 7 := by
    have := Nat.pow_le_pow_right (show 0 < 16 by decide) (show p - 1 ≤ 7 by omega)
    have e1 : ((16 ^ (p - 1) : Nat) : Int) = (16 : Int) ^ (p - 1) := by simp
    omega
  omega
theorem rparse_dig0 (s : ByteArray) (w : World) (hs : s.size ≤ 2147483647) (K : Nat) (hK : K ≤ s.size) (hno : Hid (∀ j (hj : j < s.size), j < K → s[j] ≠ 32)) (hb : Hid (∀ h : K < s.size, s[K] = 32)) (N0 R : ByteArray) (hN : Hid (s.extract 0 K = N0)) (hR : Hid (s.extract K s.size = R)) (n : Nat) (ho : Hid (opOf N0 = some n)) (hn : (n : Int) < 256) (F D : Nat) (hF : ∀ v, Calls Tryd.prog 74 #[.int .u8 n] v fun e v' => e = .returned (.int .u8 F) ∧ v' = v) (hW : ∀ v, Calls Tryd.prog 73 #[.int .u8 F] v fun e v' => e = .returned (.int .i64 D) ∧ v' = v) (hD : 1 ≤ D) (hD8 : D ≤ 4) (hRe : R.size = D + 1) (hno' : Hid (numFrom R 1 0 = none)) :
    Calls Tryd.prog 83 #[.string s] w fun e w' => e = retI ⟨#[]⟩ 0 21 ∧ Below w.heap.size w w' := by
  have hD0 : ((D : Int) == 0) = false := by simp; omega
  have hRe' : ((R.size : Int) != (D : Int) + 1) = false := by simp; omega
  go_enter Tryd.func83, Tryd.ntmps83
  go_wp2
  go_loopw [4] (fun i wz => ∃ k : Nat, k ≤ K ∧ i = .int .i64 (k : Int) ∧ wz = w.alloc (.cells #[.string ⟨#[]⟩, .int .i64 0] 71)) (fun i _ => (K - intOf i).toNat)
  case atStart => exact ⟨0, by omega, rfl, rfl⟩
  case round =>
    obtain ⟨k, hk, rfl, rfl⟩ := hrel
    by_cases hlt : k < K
    · have hks : k < s.size := by omega
      have hne := ne32 (hno.out k hks hlt)
      go_wp2
      go_roundw
      case rel => exact ⟨k + 1, by omega, by simp, trivial⟩
      case measure => simp [intOf]; omega
    · have hkK : k = K := by omega
      subst hkK
      clear hk hlt
      have hN' := hN.out
      have hR' := hR.out
      by_cases hend : k < s.size
      · have hbk := hb.out hend
        go_wp2_with (first | (go_at_call 75; refine (rfirst_any N0 _ ho _).mono ?_; unfold firstI; rintro e v1 ⟨rfl, hb1⟩; have M := mine_new hb1; replace hb1 := below_own hb1; have m0 : v1.cell? ⟨w.heap.size, 0, none⟩ = some (.string ⟨#[]⟩) := M.cells 0 (by simp); have m1 : v1.cell? ⟨w.heap.size, 1, none⟩ = some (.int .i64 0) := M.cells 1 (by simp); have f0 := M.free 0; have f1 := M.free 1; clear M) | (go_at_call 74; refine (hF _).mono ?_; rintro e v ⟨rfl, rfl⟩) | (go_at_call 73; refine (hW _).mono ?_; rintro e v ⟨rfl, rfl⟩))
        go_loopw [8, 9] (fun n i wz => ∃ (p : Nat) (acc : Int), 1 ≤ p ∧ p ≤ D + 1 ∧ i = .int .i64 (p : Int) ∧ n = .int .i64 acc ∧ 0 ≤ acc ∧ Hid (acc < 16 ^ (p - 1)) ∧ Hid (numFrom R p acc = numFrom R 1 0) ∧ v = wz) (fun _ i _ => (D + 1 - intOf i).toNat)
        case atStart => exact ⟨1, 0, by omega, by omega, rfl, rfl, by omega, show (0 : Int) < 16 ^ (1 - 1) by decide, show numFrom R 1 0 = numFrom R 1 0 from rfl, rfl⟩
        case round =>
          obtain ⟨p, acc, hp1, hp, rfl, rfl, ha, hA, hE, rfl⟩ := hrel
          by_cases hpl : p < D + 1
          · have hpR : p < R.size := by omega
            have hab : acc < 268435456 := acc_small hA.out (by omega)
            cases hv : digV ((R[p]'hpR).toNat : Int) with
            | none =>
              have hvI := fun v => rvalue_any ((R[p]'hpR).toNat : Int) v (by omega) (by have := (R[p]'hpR).toNat_lt; omega)
              rw [valI_none hv] at hvI
              clear hv
              go_wp2_with (go_at_call 100; refine (hvI _).mono ?_; rintro e v ⟨rfl, rfl⟩)
              (try simp only [Exit.inBlock, Exit.then])
              refine bodyPost_ret (by simp [results, Tryd.results83, go_sem, m0, m1]; try rfl) rfl ?_
              refine ⟨rfl, ?_⟩
              repeat (first | exact hb1 | refine below_set ?_ (Nat.le_refl _))
            | some x =>
              have hvI := fun v => rvalue_any ((R[p]'hpR).toNat : Int) v (by omega) (by have := (R[p]'hpR).toNat_lt; omega)
              rw [valI_some hv] at hvI
              obtain ⟨x0, x1⟩ := digV_bd _ _ hv
              have HV : Hid (digV ((R[p]'hpR).toNat : Int) = some x) := hv
              clear hv
              go_wp2_with (go_at_call 100; refine (hvI _).mono ?_; rintro e v ⟨rfl, rfl⟩)
              go_roundw
              case rel => exact ⟨p + 1, acc * 16 + x, by omega, by omega, by go_num, by go_num, by omega, by have := num_lt (p - 1) acc x x1 hA.out; rw [show p + 1 - 1 = p - 1 + 1 by omega]; exact this, (numFrom_some R p acc x hpR HV.out).symm.trans hE.out, trivial⟩
              case measure => simp [intOf]; omega
          · have hpe : p = D + 1 := by omega
            subst hpe
            have hnum : some acc = numFrom R 1 0 := (numFrom_end R (D + 1) acc (by omega)).symm.trans hE.out
            rw [hno'.out] at hnum
            cases hnum
      · have hlt0 : (s.size : Int) ≤ (k : Int) := by omega
        clear hend
        go_wp2_with (first | (go_at_call 75; refine (rfirst_any N0 _ ho _).mono ?_; unfold firstI; rintro e v1 ⟨rfl, hb1⟩; have M := mine_new hb1; replace hb1 := below_own hb1; have m0 : v1.cell? ⟨w.heap.size, 0, none⟩ = some (.string ⟨#[]⟩) := M.cells 0 (by simp); have m1 : v1.cell? ⟨w.heap.size, 1, none⟩ = some (.int .i64 0) := M.cells 1 (by simp); have f0 := M.free 0; have f1 := M.free 1; clear M) | (go_at_call 74; refine (hF _).mono ?_; rintro e v ⟨rfl, rfl⟩) | (go_at_call 73; refine (hW _).mono ?_; rintro e v ⟨rfl, rfl⟩))
        go_loopw [8, 9] (fun n i wz => ∃ (p : Nat) (acc : Int), 1 ≤ p ∧ p ≤ D + 1 ∧ i = .int .i64 (p : Int) ∧ n = .int .i64 acc ∧ 0 ≤ acc ∧ Hid (acc < 16 ^ (p - 1)) ∧ Hid (numFrom R p acc = numFrom R 1 0) ∧ v = wz) (fun _ i _ => (D + 1 - intOf i).toNat)
        case atStart => exact ⟨1, 0, by omega, by omega, rfl, rfl, by omega, show (0 : Int) < 16 ^ (1 - 1) by decide, show numFrom R 1 0 = numFrom R 1 0 from rfl, rfl⟩
        case round =>
          obtain ⟨p, acc, hp1, hp, rfl, rfl, ha, hA, hE, rfl⟩ := hrel
          by_cases hpl : p < D + 1
          · have hpR : p < R.size := by omega
            have hab : acc < 268435456 := acc_small hA.out (by omega)
            cases hv : digV ((R[p]'hpR).toNat : Int) with
            | none =>
              have hvI := fun v => rvalue_any ((R[p]'hpR).toNat : Int) v (by omega) (by have := (R[p]'hpR).toNat_lt; omega)
              rw [valI_none hv] at hvI
              clear hv
              go_wp2_with (go_at_call 100; refine (hvI _).mono ?_; rintro e v ⟨rfl, rfl⟩)
              (try simp only [Exit.inBlock, Exit.then])
              refine bodyPost_ret (by simp [results, Tryd.results83, go_sem, m0, m1]; try rfl) rfl ?_
              refine ⟨rfl, ?_⟩
              repeat (first | exact hb1 | refine below_set ?_ (Nat.le_refl _))
            | some x =>
              have hvI := fun v => rvalue_any ((R[p]'hpR).toNat : Int) v (by omega) (by have := (R[p]'hpR).toNat_lt; omega)
              rw [valI_some hv] at hvI
              obtain ⟨x0, x1⟩ := digV_bd _ _ hv
              have HV : Hid (digV ((R[p]'hpR).toNat : Int) = some x) := hv
              clear hv
              go_wp2_with (go_at_call 100; refine (hvI _).mono ?_; rintro e v ⟨rfl, rfl⟩)
              go_roundw
              case rel => exact ⟨p + 1, acc * 16 + x, by omega, by omega, by go_num, by go_num, by omega, by have := num_lt (p - 1) acc x x1 hA.out; rw [show p + 1 - 1 = p - 1 + 1 by omega]; exact this, (numFrom_some R p acc x hpR HV.out).symm.trans hE.out, trivial⟩
              case measure => simp [intOf]; omega
          · have hpe : p = D + 1 := by omega
            subst hpe
            have hnum : some acc = numFrom R 1 0 := (numFrom_end R (D + 1) acc (by omega)).symm.trans hE.out
            rw [hno'.out] at hnum
            cases hnum
theorem rparse_dig1 (s : ByteArray) (w : World) (hs : s.size ≤ 2147483647) (K : Nat) (hK : K ≤ s.size) (hno : Hid (∀ j (hj : j < s.size), j < K → s[j] ≠ 32)) (hb : Hid (∀ h : K < s.size, s[K] = 32)) (N0 R : ByteArray) (hN : Hid (s.extract 0 K = N0)) (hR : Hid (s.extract K s.size = R)) (n : Nat) (ho : Hid (opOf N0 = some n)) (hn : (n : Int) < 256) (F D : Nat) (hF : ∀ v, Calls Tryd.prog 74 #[.int .u8 n] v fun e v' => e = .returned (.int .u8 F) ∧ v' = v) (hW : ∀ v, Calls Tryd.prog 73 #[.int .u8 F] v fun e v' => e = .returned (.int .i64 D) ∧ v' = v) (hD : 1 ≤ D) (hD8 : D ≤ 4) (hRe : R.size = D + 1) (x : Int) (hx : Hid (numFrom R 1 0 = some x)) (hM : ∀ v, Calls Tryd.prog 90 #[.int .u8 n, .int .i64 x] v fun e v' => e = .returned (.bool false) ∧ v' = v) :
    Calls Tryd.prog 83 #[.string s] w fun e w' => e = retI ⟨#[]⟩ 0 21 ∧ Below w.heap.size w w' := by
  have hD0 : ((D : Int) == 0) = false := by simp; omega
  have hRe' : ((R.size : Int) != (D : Int) + 1) = false := by simp; omega
  go_enter Tryd.func83, Tryd.ntmps83
  go_wp2
  go_loopw [4] (fun i wz => ∃ k : Nat, k ≤ K ∧ i = .int .i64 (k : Int) ∧ wz = w.alloc (.cells #[.string ⟨#[]⟩, .int .i64 0] 71)) (fun i _ => (K - intOf i).toNat)
  case atStart => exact ⟨0, by omega, rfl, rfl⟩
  case round =>
    obtain ⟨k, hk, rfl, rfl⟩ := hrel
    by_cases hlt : k < K
    · have hks : k < s.size := by omega
      have hne := ne32 (hno.out k hks hlt)
      go_wp2
      go_roundw
      case rel => exact ⟨k + 1, by omega, by simp, trivial⟩
      case measure => simp [intOf]; omega
    · have hkK : k = K := by omega
      subst hkK
      clear hk hlt
      have hN' := hN.out
      have hR' := hR.out
      by_cases hend : k < s.size
      · have hbk := hb.out hend
        go_wp2_with (first | (go_at_call 75; refine (rfirst_any N0 _ ho _).mono ?_; unfold firstI; rintro e v1 ⟨rfl, hb1⟩; have M := mine_new hb1; replace hb1 := below_own hb1; have m0 : v1.cell? ⟨w.heap.size, 0, none⟩ = some (.string ⟨#[]⟩) := M.cells 0 (by simp); have m1 : v1.cell? ⟨w.heap.size, 1, none⟩ = some (.int .i64 0) := M.cells 1 (by simp); have f0 := M.free 0; have f1 := M.free 1; clear M) | (go_at_call 74; refine (hF _).mono ?_; rintro e v ⟨rfl, rfl⟩) | (go_at_call 73; refine (hW _).mono ?_; rintro e v ⟨rfl, rfl⟩))
        go_loopw [8, 9] (fun n i wz => ∃ (p : Nat) (acc : Int), 1 ≤ p ∧ p ≤ D + 1 ∧ i = .int .i64 (p : Int) ∧ n = .int .i64 acc ∧ 0 ≤ acc ∧ Hid (acc < 16 ^ (p - 1)) ∧ Hid (numFrom R p acc = numFrom R 1 0) ∧ v = wz) (fun _ i _ => (D + 1 - intOf i).toNat)
        case atStart => exact ⟨1, 0, by omega, by omega, rfl, rfl, by omega, show (0 : Int) < 16 ^ (1 - 1) by decide, show numFrom R 1 0 = numFrom R 1 0 from rfl, rfl⟩
        case round =>
          obtain ⟨p, acc, hp1, hp, rfl, rfl, ha, hA, hE, rfl⟩ := hrel
          by_cases hpl : p < D + 1
          · have hpR : p < R.size := by omega
            have hab : acc < 268435456 := acc_small hA.out (by omega)
            cases hv : digV ((R[p]'hpR).toNat : Int) with
            | none =>
              have hvI := fun v => rvalue_any ((R[p]'hpR).toNat : Int) v (by omega) (by have := (R[p]'hpR).toNat_lt; omega)
              rw [valI_none hv] at hvI
              exfalso
              have := numFrom_none R p acc hpR hv
              rw [hE.out, hx.out] at this
              cases this
            | some x =>
              have hvI := fun v => rvalue_any ((R[p]'hpR).toNat : Int) v (by omega) (by have := (R[p]'hpR).toNat_lt; omega)
              rw [valI_some hv] at hvI
              obtain ⟨x0, x1⟩ := digV_bd _ _ hv
              have HV : Hid (digV ((R[p]'hpR).toNat : Int) = some x) := hv
              clear hv
              go_wp2_with (go_at_call 100; refine (hvI _).mono ?_; rintro e v ⟨rfl, rfl⟩)
              go_roundw
              case rel => exact ⟨p + 1, acc * 16 + x, by omega, by omega, by go_num, by go_num, by omega, by have := num_lt (p - 1) acc x x1 hA.out; rw [show p + 1 - 1 = p - 1 + 1 by omega]; exact this, (numFrom_some R p acc x hpR HV.out).symm.trans hE.out, trivial⟩
              case measure => simp [intOf]; omega
          · have hpe : p = D + 1 := by omega
            subst hpe
            have hnum : some acc = numFrom R 1 0 := (numFrom_end R (D + 1) acc (by omega)).symm.trans hE.out
            rw [hx.out] at hnum
            have hxa := Option.some.inj hnum
            subst hxa
            clear hnum
            go_wp2_with (go_at_call 90; refine (hM _).mono ?_; rintro e v ⟨rfl, rfl⟩)
            (try simp only [Exit.inBlock, Exit.then])
            refine bodyPost_ret (by simp [results, Tryd.results83, go_sem, m0, m1]; try rfl) rfl ?_
            refine ⟨rfl, ?_⟩
            repeat (first | exact hb1 | refine below_set ?_ (Nat.le_refl _))
      · have hlt0 : (s.size : Int) ≤ (k : Int) := by omega
        clear hend
        go_wp2_with (first | (go_at_call 75; refine (rfirst_any N0 _ ho _).mono ?_; unfold firstI; rintro e v1 ⟨rfl, hb1⟩; have M := mine_new hb1; replace hb1 := below_own hb1; have m0 : v1.cell? ⟨w.heap.size, 0, none⟩ = some (.string ⟨#[]⟩) := M.cells 0 (by simp); have m1 : v1.cell? ⟨w.heap.size, 1, none⟩ = some (.int .i64 0) := M.cells 1 (by simp); have f0 := M.free 0; have f1 := M.free 1; clear M) | (go_at_call 74; refine (hF _).mono ?_; rintro e v ⟨rfl, rfl⟩) | (go_at_call 73; refine (hW _).mono ?_; rintro e v ⟨rfl, rfl⟩))
        go_loopw [8, 9] (fun n i wz => ∃ (p : Nat) (acc : Int), 1 ≤ p ∧ p ≤ D + 1 ∧ i = .int .i64 (p : Int) ∧ n = .int .i64 acc ∧ 0 ≤ acc ∧ Hid (acc < 16 ^ (p - 1)) ∧ Hid (numFrom R p acc = numFrom R 1 0) ∧ v = wz) (fun _ i _ => (D + 1 - intOf i).toNat)
        case atStart => exact ⟨1, 0, by omega, by omega, rfl, rfl, by omega, show (0 : Int) < 16 ^ (1 - 1) by decide, show numFrom R 1 0 = numFrom R 1 0 from rfl, rfl⟩
        case round =>
          obtain ⟨p, acc, hp1, hp, rfl, rfl, ha, hA, hE, rfl⟩ := hrel
          by_cases hpl : p < D + 1
          · have hpR : p < R.size := by omega
            have hab : acc < 268435456 := acc_small hA.out (by omega)
            cases hv : digV ((R[p]'hpR).toNat : Int) with
            | none =>
              have hvI := fun v => rvalue_any ((R[p]'hpR).toNat : Int) v (by omega) (by have := (R[p]'hpR).toNat_lt; omega)
              rw [valI_none hv] at hvI
              exfalso
              have := numFrom_none R p acc hpR hv
              rw [hE.out, hx.out] at this
              cases this
            | some x =>
              have hvI := fun v => rvalue_any ((R[p]'hpR).toNat : Int) v (by omega) (by have := (R[p]'hpR).toNat_lt; omega)
              rw [valI_some hv] at hvI
              obtain ⟨x0, x1⟩ := digV_bd _ _ hv
              have HV : Hid (digV ((R[p]'hpR).toNat : Int) = some x) := hv
              clear hv
              go_wp2_with (go_at_call 100; refine (hvI _).mono ?_; rintro e v ⟨rfl, rfl⟩)
              go_roundw
              case rel => exact ⟨p + 1, acc * 16 + x, by omega, by omega, by go_num, by go_num, by omega, by have := num_lt (p - 1) acc x x1 hA.out; rw [show p + 1 - 1 = p - 1 + 1 by omega]; exact this, (numFrom_some R p acc x hpR HV.out).symm.trans hE.out, trivial⟩
              case measure => simp [intOf]; omega
          · have hpe : p = D + 1 := by omega
            subst hpe
            have hnum : some acc = numFrom R 1 0 := (numFrom_end R (D + 1) acc (by omega)).symm.trans hE.out
            rw [hx.out] at hnum
            have hxa := Option.some.inj hnum
            subst hxa
            clear hnum
            go_wp2_with (go_at_call 90; refine (hM _).mono ?_; rintro e v ⟨rfl, rfl⟩)
            (try simp only [Exit.inBlock, Exit.then])
            refine bodyPost_ret (by simp [results, Tryd.results83, go_sem, m0, m1]; try rfl) rfl ?_
            refine ⟨rfl, ?_⟩
            repeat (first | exact hb1 | refine below_set ?_ (Nat.le_refl _))
theorem rparse_dig2 (s : ByteArray) (w : World) (hs : s.size ≤ 2147483647) (K : Nat) (hK : K ≤ s.size) (hno : Hid (∀ j (hj : j < s.size), j < K → s[j] ≠ 32)) (hb : Hid (∀ h : K < s.size, s[K] = 32)) (N0 R : ByteArray) (hN : Hid (s.extract 0 K = N0)) (hR : Hid (s.extract K s.size = R)) (n : Nat) (ho : Hid (opOf N0 = some n)) (hn : (n : Int) < 256) (F D : Nat) (hF : ∀ v, Calls Tryd.prog 74 #[.int .u8 n] v fun e v' => e = .returned (.int .u8 F) ∧ v' = v) (hW : ∀ v, Calls Tryd.prog 73 #[.int .u8 F] v fun e v' => e = .returned (.int .i64 D) ∧ v' = v) (hD : 1 ≤ D) (hD8 : D ≤ 4) (hRe : R.size = D + 1) (x : Int) (hx : Hid (numFrom R 1 0 = some x)) (hM : ∀ v, Calls Tryd.prog 90 #[.int .u8 n, .int .i64 x] v fun e v' => e = .returned (.bool true) ∧ v' = v) :
    Calls Tryd.prog 83 #[.string s] w fun e w' => e = retI N0 x 0 ∧ Below w.heap.size w w' := by
  have hD0 : ((D : Int) == 0) = false := by simp; omega
  have hRe' : ((R.size : Int) != (D : Int) + 1) = false := by simp; omega
  go_enter Tryd.func83, Tryd.ntmps83
  go_wp2
  go_loopw [4] (fun i wz => ∃ k : Nat, k ≤ K ∧ i = .int .i64 (k : Int) ∧ wz = w.alloc (.cells #[.string ⟨#[]⟩, .int .i64 0] 71)) (fun i _ => (K - intOf i).toNat)
  case atStart => exact ⟨0, by omega, rfl, rfl⟩
  case round =>
    obtain ⟨k, hk, rfl, rfl⟩ := hrel
    by_cases hlt : k < K
    · have hks : k < s.size := by omega
      have hne := ne32 (hno.out k hks hlt)
      go_wp2
      go_roundw
      case rel => exact ⟨k + 1, by omega, by simp, trivial⟩
      case measure => simp [intOf]; omega
    · have hkK : k = K := by omega
      subst hkK
      clear hk hlt
      have hN' := hN.out
      have hR' := hR.out
      by_cases hend : k < s.size
      · have hbk := hb.out hend
        go_wp2_with (first | (go_at_call 75; refine (rfirst_any N0 _ ho _).mono ?_; unfold firstI; rintro e v1 ⟨rfl, hb1⟩; have M := mine_new hb1; replace hb1 := below_own hb1; have m0 : v1.cell? ⟨w.heap.size, 0, none⟩ = some (.string ⟨#[]⟩) := M.cells 0 (by simp); have m1 : v1.cell? ⟨w.heap.size, 1, none⟩ = some (.int .i64 0) := M.cells 1 (by simp); have f0 := M.free 0; have f1 := M.free 1; clear M) | (go_at_call 74; refine (hF _).mono ?_; rintro e v ⟨rfl, rfl⟩) | (go_at_call 73; refine (hW _).mono ?_; rintro e v ⟨rfl, rfl⟩))
        go_loopw [8, 9] (fun n i wz => ∃ (p : Nat) (acc : Int), 1 ≤ p ∧ p ≤ D + 1 ∧ i = .int .i64 (p : Int) ∧ n = .int .i64 acc ∧ 0 ≤ acc ∧ Hid (acc < 16 ^ (p - 1)) ∧ Hid (numFrom R p acc = numFrom R 1 0) ∧ v = wz) (fun _ i _ => (D + 1 - intOf i).toNat)
        case atStart => exact ⟨1, 0, by omega, by omega, rfl, rfl, by omega, show (0 : Int) < 16 ^ (1 - 1) by decide, show numFrom R 1 0 = numFrom R 1 0 from rfl, rfl⟩
        case round =>
          obtain ⟨p, acc, hp1, hp, rfl, rfl, ha, hA, hE, rfl⟩ := hrel
          by_cases hpl : p < D + 1
          · have hpR : p < R.size := by omega
            have hab : acc < 268435456 := acc_small hA.out (by omega)
            cases hv : digV ((R[p]'hpR).toNat : Int) with
            | none =>
              have hvI := fun v => rvalue_any ((R[p]'hpR).toNat : Int) v (by omega) (by have := (R[p]'hpR).toNat_lt; omega)
              rw [valI_none hv] at hvI
              exfalso
              have := numFrom_none R p acc hpR hv
              rw [hE.out, hx.out] at this
              cases this
            | some x =>
              have hvI := fun v => rvalue_any ((R[p]'hpR).toNat : Int) v (by omega) (by have := (R[p]'hpR).toNat_lt; omega)
              rw [valI_some hv] at hvI
              obtain ⟨x0, x1⟩ := digV_bd _ _ hv
              have HV : Hid (digV ((R[p]'hpR).toNat : Int) = some x) := hv
              clear hv
              go_wp2_with (go_at_call 100; refine (hvI _).mono ?_; rintro e v ⟨rfl, rfl⟩)
              go_roundw
              case rel => exact ⟨p + 1, acc * 16 + x, by omega, by omega, by go_num, by go_num, by omega, by have := num_lt (p - 1) acc x x1 hA.out; rw [show p + 1 - 1 = p - 1 + 1 by omega]; exact this, (numFrom_some R p acc x hpR HV.out).symm.trans hE.out, trivial⟩
              case measure => simp [intOf]; omega
          · have hpe : p = D + 1 := by omega
            subst hpe
            have hnum : some acc = numFrom R 1 0 := (numFrom_end R (D + 1) acc (by omega)).symm.trans hE.out
            rw [hx.out] at hnum
            have hxa := Option.some.inj hnum
            subst hxa
            clear hnum
            go_wp2_with (go_at_call 90; refine (hM _).mono ?_; rintro e v ⟨rfl, rfl⟩)
            (try simp only [Exit.inBlock, Exit.then])
            refine bodyPost_ret (by simp [results, Tryd.results83, go_sem, m0, m1]; try rfl) rfl ?_
            refine ⟨rfl, ?_⟩
            repeat (first | exact hb1 | refine below_set ?_ (Nat.le_refl _))
      · have hlt0 : (s.size : Int) ≤ (k : Int) := by omega
        clear hend
        go_wp2_with (first | (go_at_call 75; refine (rfirst_any N0 _ ho _).mono ?_; unfold firstI; rintro e v1 ⟨rfl, hb1⟩; have M := mine_new hb1; replace hb1 := below_own hb1; have m0 : v1.cell? ⟨w.heap.size, 0, none⟩ = some (.string ⟨#[]⟩) := M.cells 0 (by simp); have m1 : v1.cell? ⟨w.heap.size, 1, none⟩ = some (.int .i64 0) := M.cells 1 (by simp); have f0 := M.free 0; have f1 := M.free 1; clear M) | (go_at_call 74; refine (hF _).mono ?_; rintro e v ⟨rfl, rfl⟩) | (go_at_call 73; refine (hW _).mono ?_; rintro e v ⟨rfl, rfl⟩))
        go_loopw [8, 9] (fun n i wz => ∃ (p : Nat) (acc : Int), 1 ≤ p ∧ p ≤ D + 1 ∧ i = .int .i64 (p : Int) ∧ n = .int .i64 acc ∧ 0 ≤ acc ∧ Hid (acc < 16 ^ (p - 1)) ∧ Hid (numFrom R p acc = numFrom R 1 0) ∧ v = wz) (fun _ i _ => (D + 1 - intOf i).toNat)
        case atStart => exact ⟨1, 0, by omega, by omega, rfl, rfl, by omega, show (0 : Int) < 16 ^ (1 - 1) by decide, show numFrom R 1 0 = numFrom R 1 0 from rfl, rfl⟩
        case round =>
          obtain ⟨p, acc, hp1, hp, rfl, rfl, ha, hA, hE, rfl⟩ := hrel
          by_cases hpl : p < D + 1
          · have hpR : p < R.size := by omega
            have hab : acc < 268435456 := acc_small hA.out (by omega)
            cases hv : digV ((R[p]'hpR).toNat : Int) with
            | none =>
              have hvI := fun v => rvalue_any ((R[p]'hpR).toNat : Int) v (by omega) (by have := (R[p]'hpR).toNat_lt; omega)
              rw [valI_none hv] at hvI
              exfalso
              have := numFrom_none R p acc hpR hv
              rw [hE.out, hx.out] at this
              cases this
            | some x =>
              have hvI := fun v => rvalue_any ((R[p]'hpR).toNat : Int) v (by omega) (by have := (R[p]'hpR).toNat_lt; omega)
              rw [valI_some hv] at hvI
              obtain ⟨x0, x1⟩ := digV_bd _ _ hv
              have HV : Hid (digV ((R[p]'hpR).toNat : Int) = some x) := hv
              clear hv
              go_wp2_with (go_at_call 100; refine (hvI _).mono ?_; rintro e v ⟨rfl, rfl⟩)
              go_roundw
              case rel => exact ⟨p + 1, acc * 16 + x, by omega, by omega, by go_num, by go_num, by omega, by have := num_lt (p - 1) acc x x1 hA.out; rw [show p + 1 - 1 = p - 1 + 1 by omega]; exact this, (numFrom_some R p acc x hpR HV.out).symm.trans hE.out, trivial⟩
              case measure => simp [intOf]; omega
          · have hpe : p = D + 1 := by omega
            subst hpe
            have hnum : some acc = numFrom R 1 0 := (numFrom_end R (D + 1) acc (by omega)).symm.trans hE.out
            rw [hx.out] at hnum
            have hxa := Option.some.inj hnum
            subst hxa
            clear hnum
            go_wp2_with (go_at_call 90; refine (hM _).mono ?_; rintro e v ⟨rfl, rfl⟩)
            (try simp only [Exit.inBlock, Exit.then])
            refine bodyPost_ret (by simp [results, Tryd.results83, go_sem, m0, m1]; try rfl) rfl ?_
            refine ⟨rfl, ?_⟩
            repeat (first | exact hb1 | refine below_set ?_ (Nat.le_refl _))
end Go.Proofs.YtmaedkbmjbggpaaDoor
/- The document's answer: Print and Parse, whole: they say what the program's say. -/
namespace Go.Proofs.YtmaedkbmjbggpaaDoor
open Go.RowKit
set_option linter.unusedVariables false
set_option maxHeartbeats 400000

theorem digs_lt (n : Nat) (h : n < 256) : fm n ≠ 1 → 1 ≤ digs n ∧ digs n ≤ 4 ∧ lay (fm n * 3 + 2) < 16 ^ digs n := by revert n; decide +kernel
theorem digs_bare (n : Nat) (h : n < 256) : fm n = 1 → digs n = 0 ∧ mayB n 0 = true := by revert n; decide +kernel

theorem hexOf_S (a D : Nat) (h1 : a < 16 ^ D) (hD : 1 ≤ D) (hD' : D ≤ 8) : hexOf (a : Int) (D : Nat) = hexS D a := hexOf_yes a D hD hD' (by rw [Nat.sub_zero]; exact Nat.div_eq_of_lt h1)
theorem hexS_size (D a : Nat) : (hexS D a).size = D := by show (hexL D a).toArray.size = _; simp [hexL_len]
theorem may_nat {n : Nat} {A : Int} (hn : n < 256) (hm : may n A) (h1 : fm n ≠ 1) : ∃ a : Nat, A = a ∧ a < 16 ^ digs n ∧ a ≤ 65535 := by
  have h0 : 0 ≤ A := by have := hm.1; omega
  obtain ⟨a, rfl⟩ := Int.eq_ofNat_of_zero_le h0
  have h2 := hm.2
  have h3 := (digs_lt n hn h1).2.2
  have h4 := most_le n hn
  exact ⟨a, rfl, by omega, by omega⟩

theorem rprint_any (S : ByteArray) (A : Int) (w : World) :
    Calls Tryd.prog 45 #[.agg #[.string S, .int .i64 A]] w fun e w' => e = .returned (.tuple #[.string (printS S A), .int .i64 (printE S A)]) ∧ Below w.heap.size w w' := by
  unfold printS printE
  rcases ho : opOf S with _ | n
  · exact rprint_none S A ho w
  · obtain ⟨hn, hS⟩ := opOf_lt ho
    by_cases hm : may n A
    · simp only [(mayB_iff n A).2 hm, if_true]
      have hf := fm_le n hn
      have hF := fun v => rform_any n v hn
      unfold textOf
      by_cases h1 : fm n = 1
      · rw [if_pos h1, hS]
        rw [h1] at hF
        exact rprint_bare S A n ho hm (by omega) hF w
      · rw [if_neg h1, hS]
        obtain ⟨a, rfl, h2, h3⟩ := may_nat hn hm h1
        obtain ⟨d1, d2, _⟩ := digs_lt n hn h1
        rw [hexOf_S a (digs n) h2 d1 (by omega)]
        exact rprint_reg S a n ho hm (by omega) (fm n) (digs n) hF (fun v => rwide_any (fm n) v hf.1 hf.2) (by rw [← hS]; exact nm_size n hn) d1 (by omega) h3 w
    · simp only [mayB_no hm]
      exact rprint_bad S A n ho hm w

/-- Where the first blank stands; behind the end, if there is none. -/
def fstB (s : ByteArray) : Nat := s.data.toList.findIdx (· == 32)
theorem fstB_le (s : ByteArray) : fstB s ≤ s.size := by
  have := List.findIdx_le_length (xs := s.data.toList) (p := (· == 32))
  unfold fstB
  simpa using this
theorem fstB_no (s : ByteArray) (j : Nat) (hj : j < s.size) (h : j < fstB s) : s[j] ≠ 32 := by
  have := List.not_of_lt_findIdx h
  intro e
  apply absurd this
  have e' : s.data.toList[j]'(by simpa using hj) = s[j] := by simp; rfl
  simp only [e', e]
  simp
theorem fstB_at (s : ByteArray) (h : fstB s < s.size) : s[fstB s] = 32 := by
  have := List.findIdx_getElem (xs := s.data.toList) (p := (· == 32)) (w := by have h' := h; unfold fstB at h'; simpa using h')
  have e' : s.data.toList[fstB s]'(by simpa using h) = s[fstB s] := by simp; rfl
  have h2 : (s[fstB s] == 32) = true := by rw [← e']; exact this
  simpa using h2
theorem data_at (s : ByteArray) (j : Nat) (hj : j < s.size) : s.data[j]? = some s[j] := by
  rw [Array.getElem?_eq_getElem (by simpa using hj)]; rfl

theorem blk_here (s : ByteArray) (h : fstB s < s.size) (h4 : fstB s ≤ 4) : blk s = some (fstB s) := by
  unfold blk
  rw [List.find?_range_eq_some]
  refine ⟨?_, by simp; omega, fun j hj => ?_⟩
  · rw [data_at s _ h, fstB_at s h]; rfl
  · rw [data_at s j (by omega)]
    have := fstB_no s j (by omega) hj
    simpa using this
theorem blk_far (s : ByteArray) (h : fstB s = s.size ∨ 4 < fstB s) : blk s = none := by
  unfold blk
  rw [List.find?_range_eq_none]
  intro j hj
  rcases Nat.lt_or_ge j s.size with hl | hl
  · rw [data_at s j hl]
    have := fstB_no s j hl (by omega)
    simpa using this
  · rw [Array.getElem?_eq_none (by simpa using hl)]; rfl
theorem opOf_small {S : ByteArray} {n : Nat} (h : opOf S = some n) : S.size ≤ 4 := by
  obtain ⟨hn, hS⟩ := opOf_lt h
  rw [← hS]; exact nm_size n hn
theorem opOf_long {S : ByteArray} (h : 4 < S.size) : opOf S = none := by
  rcases e : opOf S with _ | n
  · rfl
  · have := opOf_small e; omega
theorem extract_all (s : ByteArray) : s.extract 0 s.size = s := by
  apply ba_ext
  simp []
theorem split_at (s : ByteArray) (h : fstB s < s.size) : s = s.extract 0 (fstB s) ++ ⟨#[32]⟩ ++ s.extract (fstB s + 1) s.size := by
  apply ba_ext
  have h1 := data_at s _ h
  rw [fstB_at s h] at h1
  have h2 : s.data.toList[fstB s]? = some 32 := by simpa using h1
  simp only [ByteArray.data_append, ByteArray.data_extract, Array.toList_append, Array.toList_extract]
  simp
  have h3 : s.data.toList.drop (fstB s) = 32 :: s.data.toList.drop (fstB s + 1) := by
    rw [List.drop_eq_getElem_cons (by simpa using h)]
    congr 1
    rw [List.getElem?_eq_getElem (by simpa using h)] at h2
    exact Option.some.inj h2
  have h4 : List.take (s.size - (fstB s + 1)) (s.data.toList.drop (fstB s + 1)) = s.data.toList.drop (fstB s + 1) := List.take_of_length_le (by simp)
  rw [h4, ← h3, List.take_append_drop]

theorem ext_size (s : ByteArray) (a : Nat) (h : a ≤ s.size) : (s.extract a s.size).size = s.size - a := by rw [ByteArray.size_extract]; omega
theorem ext_size0 (s : ByteArray) (a : Nat) (h : a ≤ s.size) : (s.extract 0 a).size = a := by rw [ByteArray.size_extract]; omega
theorem ok_iff {s : ByteArray} {n : Nat} (hn : n < 256) (hb : bs n = n) : okS s n = true ↔ may n (argS s) ∧ textOf n (argS s) = s := by
  unfold okS printE printS
  rw [opOf_nm n hn, hb]
  simp only [Bool.and_eq_true, decide_eq_true_eq]
  by_cases hm : may n (argS s)
  · simp [(mayB_iff n _).2 hm, hm]
  · simp [mayB_no hm, hm]
theorem ok_no {s : ByteArray} {n : Nat} (h : ¬ okS s n = true) : okS s n = false := by
  rcases e : okS s n with _ | _
  · rfl
  · exact absurd e h
theorem numFrom_R (s : ByteArray) (h : fstB s < s.size) : numFrom (s.extract (fstB s) s.size) 1 0 = numGo (s.extract (fstB s + 1) s.size).data.toList 0 := by
  unfold numFrom
  congr 1
  simp [ByteArray.data_extract]
  rw [List.take_of_length_le (by simp), List.take_of_length_le (by simp), List.tail_drop]

theorem parse_of (s : ByteArray) (n : Nat) (ho : opOf (cutN s) = some n) : (okS s n = true → parseN s = nm n ∧ parseA s = argS s ∧ parseE s = 0) ∧ (okS s n = false → parseN s = ⟨#[]⟩ ∧ parseA s = 0 ∧ parseE s = 21) := by
  unfold parseN parseA parseE
  rw [ho]
  constructor
  · intro h; simp [h]
  · intro h; simp [h]
theorem parse_none' (s : ByteArray) (ho : opOf (cutN s) = none) : parseN s = ⟨#[]⟩ ∧ parseA s = 0 ∧ parseE s = 20 := by
  unfold parseN parseA parseE
  rw [ho]
  exact ⟨rfl, rfl, rfl⟩

theorem rparse_any (s : ByteArray) (hs : s.size ≤ 2147483647) (w : World) :
    Calls Tryd.prog 83 #[.string s] w fun e w' => e = retI (parseN s) (parseA s) (parseE s) ∧ Below w.heap.size w w' := by
  have hK := fstB_le s
  have hno : ∀ j (hj : j < s.size), j < fstB s → s[j] ≠ 32 := fun j hj h => fstB_no s j hj h
  have hb : ∀ h : fstB s < s.size, s[fstB s] = 32 := fun h => fstB_at s h
  have hRsz := ext_size s (fstB s) hK
  have hNsz := ext_size0 s (fstB s) hK
  have hN : s.extract 0 (fstB s) = s.extract 0 (fstB s) := rfl
  have hR : s.extract (fstB s) s.size = s.extract (fstB s) s.size := rfl
  rcases ho : opOf (s.extract 0 (fstB s)) with _ | n
  · -- no name stands there
    have hc : opOf (cutN s) = none := by
      unfold cutN
      rcases Nat.lt_or_ge (fstB s) s.size with h | h
      · rcases Nat.lt_or_ge 4 (fstB s) with h4 | h4
        · rw [blk_far s (.inr h4)]
          show opOf s = none
          exact opOf_long (by omega)
        · rw [blk_here s h h4]
          exact ho
      · have e : fstB s = s.size := by omega
        rw [blk_far s (.inl e)]
        rw [e, extract_all] at ho
        exact ho
    obtain ⟨p1, p2, p3⟩ := parse_none' s hc
    rw [p1, p2, p3]
    exact rparse_none s w hs (fstB s) hK hno hb _ _ hN hR ho
  · obtain ⟨hn, hS⟩ := opOf_lt ho
    have hbs := opOf_bs ho
    have h4 := opOf_small ho
    rw [hNsz] at h4
    have hf := fm_le n hn
    have hF := fun v => rform_any n v hn
    have hW := fun v => rwide_any (fm n) v hf.1 hf.2
    have hni : (n : Int) < 256 := by omega
    rcases Nat.lt_or_ge (fstB s) s.size with h | h
    · -- a blank stands behind the name
      have hblk := blk_here s h h4
      have hcN : cutN s = s.extract 0 (fstB s) := by unfold cutN; rw [hblk]
      have hcB : cutB s = s.extract (fstB s + 1) s.size := by unfold cutB; rw [hblk]
      have hsp := split_at s h
      rw [← hS, ← hcB] at hsp
      have hBsz : (cutB s).size = s.size - (fstB s + 1) := by rw [hcB]; exact ext_size s _ (by omega)
      have hnsz : (nm n).size = fstB s := by rw [hS]; exact hNsz
      obtain ⟨pT, pF⟩ := parse_of s n (by rw [hcN]; exact ho)
      by_cases h1 : fm n = 1
      · have hD : digs n = 0 := (digs_bare n hn h1).1
        have hbad : okS s n = false := ok_no fun e => by
          have := ((ok_iff hn hbs).1 e).2
          unfold textOf at this
          rw [if_pos h1] at this
          have hz := congrArg ByteArray.size this
          omega
        obtain ⟨p1, p2, p3⟩ := pF hbad
        rw [p1, p2, p3]
        refine rparse_bare1 s w hs (fstB s) hK hno hb _ _ hN hR n ho hni (fm n) (digs n) hF hW hD ?_
        intro e
        have := congrArg ByteArray.size e
        rw [hRsz] at this
        have : (ByteArray.mk #[]).size = 0 := rfl
        omega
      · obtain ⟨d1, d2, d3⟩ := digs_lt n hn h1
        have htx : ∀ A, may n A → textOf n A = s → (cutB s).size = digs n ∧ ∃ a : Nat, A = a ∧ a < 16 ^ digs n ∧ cutB s = hexS (digs n) a := fun A hm ht => by
          obtain ⟨a, rfl, ha, _⟩ := may_nat hn hm h1
          unfold textOf at ht
          rw [if_neg h1, hexOf_S a (digs n) ha d1 (by omega)] at ht
          have e : hexS (digs n) a = cutB s := by
            have := congrArg cutB ht
            rw [cutB_text n hn] at this
            exact this
          exact ⟨by rw [← e, hexS_size], a, rfl, ha, e.symm⟩
        by_cases hl : (s.extract (fstB s) s.size).size = digs n + 1
        · have hD : (cutB s).size = digs n := by omega
          have hnf := numFrom_R s h
          rw [← hcB] at hnf
          have hno' : numOf (cutB s) = numGo (cutB s).data.toList 0 := by unfold numOf; rw [if_pos (by omega)]
          have hBne : cutB s ≠ ⟨#[]⟩ := fun e => by
            have := congrArg ByteArray.size e
            have : (ByteArray.mk #[]).size = 0 := rfl
            omega
          rcases hg : numGo (cutB s).data.toList 0 with _ | x
          · have hbad : okS s n = false := ok_no fun e => by
              obtain ⟨hm, ht⟩ := (ok_iff hn hbs).1 e
              obtain ⟨_, a, _, ha, hc⟩ := htx _ hm ht
              rw [hc, show (hexS (digs n) a).data.toList = hexL (digs n) a by simp [hexS], numGo_hexL (digs n) a ha] at hg
              cases hg
            obtain ⟨p1, p2, p3⟩ := pF hbad
            rw [p1, p2, p3]
            exact rparse_dig0 s w hs (fstB s) hK hno hb _ _ hN hR n ho hni (fm n) (digs n) hF hW d1 d2 hl (hnf.trans hg)
          · have hA : argS s = x := by unfold argS numV; rw [if_neg hBne, hno', hg]; rfl
            by_cases hm : may n x
            · have hM := fun v => rmay_any n x v hn hbs
              rw [(mayB_iff n x).2 hm] at hM
              have hx0 : 0 ≤ x := by have := hm.1; omega
              have hhex := hexL_numGo _ x hg
              have hlen : (cutB s).data.toList.length = digs n := by simpa using hD
              rw [hlen] at hhex
              have hgood : okS s n = true := (ok_iff hn hbs).2 ⟨by rw [hA]; exact hm, by
                obtain ⟨a, e, ha, _⟩ := may_nat hn hm h1
                subst e
                rw [hA]
                unfold textOf
                rw [if_neg h1, hexOf_S a (digs n) ha d1 (by omega)]
                have : hexS (digs n) a = cutB s := by
                  apply ba_ext
                  simpa [hexS] using hhex
                rw [this]
                exact hsp.symm⟩
              obtain ⟨p1, p2, p3⟩ := pT hgood
              rw [p1, p2, p3, hA, hS]
              exact rparse_dig2 s w hs (fstB s) hK hno hb _ _ hN hR n ho hni (fm n) (digs n) hF hW d1 d2 hl x (hnf.trans hg) hM
            · have hM := fun v => rmay_any n x v hn hbs
              rw [mayB_no hm] at hM
              have hbad : okS s n = false := ok_no fun e => hm (by have := ((ok_iff hn hbs).1 e).1; rw [hA] at this; exact this)
              obtain ⟨p1, p2, p3⟩ := pF hbad
              rw [p1, p2, p3]
              exact rparse_dig1 s w hs (fstB s) hK hno hb _ _ hN hR n ho hni (fm n) (digs n) hF hW d1 d2 hl x (hnf.trans hg) hM
        · have hbad : okS s n = false := ok_no fun e => by
            obtain ⟨hm, ht⟩ := (ok_iff hn hbs).1 e
            have := (htx _ hm ht).1
            omega
          obtain ⟨p1, p2, p3⟩ := pF hbad
          rw [p1, p2, p3]
          exact rparse_len s w hs (fstB s) hK hno hb _ _ hN hR n ho hni (fm n) (digs n) hF hW d1 (by omega) (by omega) hl
    · -- no blank
      have e : fstB s = s.size := by omega
      have hblk := blk_far s (.inl e)
      have hcN : cutN s = s := by unfold cutN; rw [hblk]
      have hcB : cutB s = ⟨#[]⟩ := by unfold cutB; rw [hblk]
      have hS' : nm n = s := by rw [hS, e, extract_all]
      have ho' : opOf (cutN s) = some n := by rw [hcN, ← hS', opOf_nm n hn, hbs]
      have hA : argS s = 0 := by unfold argS; rw [if_pos hcB]
      obtain ⟨pT, pF⟩ := parse_of s n ho'
      by_cases h1 : fm n = 1
      · obtain ⟨hD, hm0⟩ := digs_bare n hn h1
        have hgood : okS s n = true := (ok_iff hn hbs).2 (by
          rw [hA]
          refine ⟨(mayB_iff n 0).1 hm0, ?_⟩
          unfold textOf
          rw [if_pos h1]
          exact hS')
        obtain ⟨p1, p2, p3⟩ := pT hgood
        rw [p1, p2, p3, hA, hS]
        refine rparse_bare0 s w hs (fstB s) hK hno hb _ _ hN hR n ho hni (fm n) (digs n) hF hW hD ?_
        have hz : (s.extract (fstB s) s.size).size = 0 := by omega
        show s.extract (fstB s) s.size = ⟨#[]⟩
        apply ba_ext
        have : (s.extract (fstB s) s.size).data.toList.length = 0 := by simpa using hz
        rw [List.length_eq_zero_iff.1 this]
      · obtain ⟨d1, d2, d3⟩ := digs_lt n hn h1
        have hbad : okS s n = false := ok_no fun e' => by
          have := ((ok_iff hn hbs).1 e').2
          unfold textOf at this
          rw [if_neg h1] at this
          have hz := congrArg ByteArray.size this
          rw [ByteArray.size_append, ByteArray.size_append, hS'] at hz
          have : (ByteArray.mk #[32]).size = 1 := rfl
          omega
        obtain ⟨p1, p2, p3⟩ := pF hbad
        rw [p1, p2, p3]
        exact rparse_len s w hs (fstB s) hK hno hb _ _ hN hR n ho hni (fm n) (digs n) hF hW d1 (by omega) (by omega) (by omega)
end Go.Proofs.YtmaedkbmjbggpaaDoor
