/- The document's answer: Parse, walked. -/
import Derived.Test.YtfdjifgmlgpjgaaDoorORefG
import Derived.Test.YtfdjifgmlgpjgaaDoorOBack
namespace Go.Proofs.YtfdjifgmlgpjgaaDoor
open Go.RowKit
set_option linter.unusedVariables false
set_option maxHeartbeats 1000000
set_option maxRecDepth 20000

theorem ne32 {s : ByteArray} {k : Nat} {h : k < s.size} (hn : s[k] ≠ 32) : (((s[k]'h).toNat : Int) != 32) = true := by
  rw [bne_iff_ne]
  intro e
  apply hn
  apply UInt8.toNat_inj.1
  have : (32 : UInt8).toNat = 32 := rfl
  omega
theorem rparse_none (s : ByteArray) (w : World) (hs : s.size ≤ 2147483647) (K : Nat) (hK : K ≤ s.size) (hno : Hid (∀ j (hj : j < s.size), j < K → s[j] ≠ 32)) (hb : Hid (∀ h : K < s.size, s[K] = 32)) (N0 R : ByteArray) (hN : Hid (s.extract 0 K = N0)) (hR : Hid (s.extract K s.size = R)) (ho : Hid (opOf N0 = none)) :
    Calls Tryd.prog 93 #[.string s] w fun e w' => e = retI ⟨#[]⟩ 0 20 ∧ Below w.heap.size w w' := by
  go_enter Tryd.func93, Tryd.ntmps93
  go_wp2
  go_loopw [4] (fun i wz => ∃ k : Nat, k ≤ K ∧ i = .int .i64 (k : Int) ∧ wz = w.alloc (.cells #[.string ⟨#[]⟩, .int .i64 0] 83)) (fun i _ => (K - intOf i).toNat)
  case atStart => exact ⟨0, by omega, rfl, rfl⟩
  case round =>
    obtain ⟨k, hk, rfl, rfl⟩ := hrel
    by_cases hlt : k < K
    · have hks : k < s.size := by omega
      have hne := ne32 (hno.out k hks hlt)
      go_wp2
      go_roundw
      case rel => exact ⟨k + 1, by omega, by simp, trivial⟩
      case measure => simp [intOf]; omega
    · have hkK : k = K := by omega
      subst hkK
      clear hk hlt
      have hN' := hN.out
      have hR' := hR.out
      by_cases hend : k < s.size
      · have hbk := hb.out hend
        go_wp2_with (go_at_call 49; refine (rfirst_any N0 _ ho _).mono ?_; unfold firstI; rintro e v1 ⟨rfl, hb1⟩; have M := mine_new hb1; replace hb1 := below_own hb1; have m0 : v1.cell? ⟨w.heap.size, 0, none⟩ = some (.string ⟨#[]⟩) := M.cells 0 (by simp); have m1 : v1.cell? ⟨w.heap.size, 1, none⟩ = some (.int .i64 0) := M.cells 1 (by simp); have f0 := M.free 0; have f1 := M.free 1; clear M)
        (try simp only [Exit.inBlock, Exit.then])
        refine bodyPost_ret (by simp [results, Tryd.results93, go_sem, m0, m1]; try rfl) rfl ?_
        refine ⟨rfl, ?_⟩
        repeat (first | exact hb1 | refine below_set ?_ (Nat.le_refl _))
      · have hlt0 : (s.size : Int) ≤ (k : Int) := by omega
        clear hend
        go_wp2_with (go_at_call 49; refine (rfirst_any N0 _ ho _).mono ?_; unfold firstI; rintro e v1 ⟨rfl, hb1⟩; have M := mine_new hb1; replace hb1 := below_own hb1; have m0 : v1.cell? ⟨w.heap.size, 0, none⟩ = some (.string ⟨#[]⟩) := M.cells 0 (by simp); have m1 : v1.cell? ⟨w.heap.size, 1, none⟩ = some (.int .i64 0) := M.cells 1 (by simp); have f0 := M.free 0; have f1 := M.free 1; clear M)
        (try simp only [Exit.inBlock, Exit.then])
        refine bodyPost_ret (by simp [results, Tryd.results93, go_sem, m0, m1]; try rfl) rfl ?_
        refine ⟨rfl, ?_⟩
        repeat (first | exact hb1 | refine below_set ?_ (Nat.le_refl _))

theorem rparse_bare0 (s : ByteArray) (w : World) (hs : s.size ≤ 2147483647) (K : Nat) (hK : K ≤ s.size) (hno : Hid (∀ j (hj : j < s.size), j < K → s[j] ≠ 32)) (hb : Hid (∀ h : K < s.size, s[K] = 32)) (N0 R : ByteArray) (hN : Hid (s.extract 0 K = N0)) (hR : Hid (s.extract K s.size = R)) (n : Nat) (ho : Hid (opOf N0 = some n)) (hn : (n : Int) < 256) (F D : Nat) (hF : ∀ v, Calls Tryd.prog 77 #[.int .u8 n] v fun e v' => e = .returned (.int .u8 F) ∧ v' = v) (hW : ∀ v, Calls Tryd.prog 85 #[.int .u8 F] v fun e v' => e = .returned (.int .i64 D) ∧ v' = v) (hD : D = 0) (hRe : Hid (R = ⟨#[]⟩)) :
    Calls Tryd.prog 93 #[.string s] w fun e w' => e = retI N0 0 0 ∧ Below w.heap.size w w' := by
  subst hD
  go_enter Tryd.func93, Tryd.ntmps93
  go_wp2
  go_loopw [4] (fun i wz => ∃ k : Nat, k ≤ K ∧ i = .int .i64 (k : Int) ∧ wz = w.alloc (.cells #[.string ⟨#[]⟩, .int .i64 0] 83)) (fun i _ => (K - intOf i).toNat)
  case atStart => exact ⟨0, by omega, rfl, rfl⟩
  case round =>
    obtain ⟨k, hk, rfl, rfl⟩ := hrel
    by_cases hlt : k < K
    · have hks : k < s.size := by omega
      have hne := ne32 (hno.out k hks hlt)
      go_wp2
      go_roundw
      case rel => exact ⟨k + 1, by omega, by simp, trivial⟩
      case measure => simp [intOf]; omega
    · have hkK : k = K := by omega
      subst hkK
      clear hk hlt
      have hN' := hN.out
      have hR' := hR.out
      rw [hRe.out] at hR'
      by_cases hend : k < s.size
      · have hbk := hb.out hend
        go_wp2_with (first | (go_at_call 49; refine (rfirst_any N0 _ ho _).mono ?_; unfold firstI; rintro e v1 ⟨rfl, hb1⟩; have M := mine_new hb1; replace hb1 := below_own hb1; have m0 : v1.cell? ⟨w.heap.size, 0, none⟩ = some (.string ⟨#[]⟩) := M.cells 0 (by simp); have m1 : v1.cell? ⟨w.heap.size, 1, none⟩ = some (.int .i64 0) := M.cells 1 (by simp); have f0 := M.free 0; have f1 := M.free 1; clear M) | (go_at_call 77; refine (hF _).mono ?_; rintro e v ⟨rfl, rfl⟩) | (go_at_call 85; refine (hW _).mono ?_; rintro e v ⟨rfl, rfl⟩))
        (try simp only [Exit.inBlock, Exit.then])
        refine bodyPost_ret (by simp [results, Tryd.results93, go_sem, m0, m1]; try rfl) rfl ?_
        refine ⟨rfl, ?_⟩
        repeat (first | exact hb1 | refine below_set ?_ (Nat.le_refl _))
      · have hlt0 : (s.size : Int) ≤ (k : Int) := by omega
        clear hend
        go_wp2_with (first | (go_at_call 49; refine (rfirst_any N0 _ ho _).mono ?_; unfold firstI; rintro e v1 ⟨rfl, hb1⟩; have M := mine_new hb1; replace hb1 := below_own hb1; have m0 : v1.cell? ⟨w.heap.size, 0, none⟩ = some (.string ⟨#[]⟩) := M.cells 0 (by simp); have m1 : v1.cell? ⟨w.heap.size, 1, none⟩ = some (.int .i64 0) := M.cells 1 (by simp); have f0 := M.free 0; have f1 := M.free 1; clear M) | (go_at_call 77; refine (hF _).mono ?_; rintro e v ⟨rfl, rfl⟩) | (go_at_call 85; refine (hW _).mono ?_; rintro e v ⟨rfl, rfl⟩))
        (try simp only [Exit.inBlock, Exit.then])
        refine bodyPost_ret (by simp [results, Tryd.results93, go_sem, m0, m1]; try rfl) rfl ?_
        refine ⟨rfl, ?_⟩
        repeat (first | exact hb1 | refine below_set ?_ (Nat.le_refl _))

theorem rparse_bare1 (s : ByteArray) (w : World) (hs : s.size ≤ 2147483647) (K : Nat) (hK : K ≤ s.size) (hno : Hid (∀ j (hj : j < s.size), j < K → s[j] ≠ 32)) (hb : Hid (∀ h : K < s.size, s[K] = 32)) (N0 R : ByteArray) (hN : Hid (s.extract 0 K = N0)) (hR : Hid (s.extract K s.size = R)) (n : Nat) (ho : Hid (opOf N0 = some n)) (hn : (n : Int) < 256) (F D : Nat) (hF : ∀ v, Calls Tryd.prog 77 #[.int .u8 n] v fun e v' => e = .returned (.int .u8 F) ∧ v' = v) (hW : ∀ v, Calls Tryd.prog 85 #[.int .u8 F] v fun e v' => e = .returned (.int .i64 D) ∧ v' = v) (hD : D = 0) (hRe : Hid (R ≠ ⟨#[]⟩)) :
    Calls Tryd.prog 93 #[.string s] w fun e w' => e = retI ⟨#[]⟩ 0 21 ∧ Below w.heap.size w w' := by
  subst hD
  have hBn : (R.toList == []) = false := by have h := str_ne hRe.out; rw [toList_eq ⟨#[]⟩] at h; exact h
  have hBn' : R.toList.isEmpty = false := by revert hBn; cases R.toList <;> simp
  go_enter Tryd.func93, Tryd.ntmps93
  go_wp2
  go_loopw [4] (fun i wz => ∃ k : Nat, k ≤ K ∧ i = .int .i64 (k : Int) ∧ wz = w.alloc (.cells #[.string ⟨#[]⟩, .int .i64 0] 83)) (fun i _ => (K - intOf i).toNat)
  case atStart => exact ⟨0, by omega, rfl, rfl⟩
  case round =>
    obtain ⟨k, hk, rfl, rfl⟩ := hrel
    by_cases hlt : k < K
    · have hks : k < s.size := by omega
      have hne := ne32 (hno.out k hks hlt)
      go_wp2
      go_roundw
      case rel => exact ⟨k + 1, by omega, by simp, trivial⟩
      case measure => simp [intOf]; omega
    · have hkK : k = K := by omega
      subst hkK
      clear hk hlt
      have hN' := hN.out
      have hR' := hR.out
      by_cases hend : k < s.size
      · have hbk := hb.out hend
        go_wp2_with (first | (go_at_call 49; refine (rfirst_any N0 _ ho _).mono ?_; unfold firstI; rintro e v1 ⟨rfl, hb1⟩; have M := mine_new hb1; replace hb1 := below_own hb1; have m0 : v1.cell? ⟨w.heap.size, 0, none⟩ = some (.string ⟨#[]⟩) := M.cells 0 (by simp); have m1 : v1.cell? ⟨w.heap.size, 1, none⟩ = some (.int .i64 0) := M.cells 1 (by simp); have f0 := M.free 0; have f1 := M.free 1; clear M) | (go_at_call 77; refine (hF _).mono ?_; rintro e v ⟨rfl, rfl⟩) | (go_at_call 85; refine (hW _).mono ?_; rintro e v ⟨rfl, rfl⟩))
        (try simp only [Exit.inBlock, Exit.then])
        refine bodyPost_ret (by simp [results, Tryd.results93, go_sem, m0, m1]; try rfl) rfl ?_
        refine ⟨rfl, ?_⟩
        repeat (first | exact hb1 | refine below_set ?_ (Nat.le_refl _))
      · have hlt0 : (s.size : Int) ≤ (k : Int) := by omega
        clear hend
        go_wp2_with (first | (go_at_call 49; refine (rfirst_any N0 _ ho _).mono ?_; unfold firstI; rintro e v1 ⟨rfl, hb1⟩; have M := mine_new hb1; replace hb1 := below_own hb1; have m0 : v1.cell? ⟨w.heap.size, 0, none⟩ = some (.string ⟨#[]⟩) := M.cells 0 (by simp); have m1 : v1.cell? ⟨w.heap.size, 1, none⟩ = some (.int .i64 0) := M.cells 1 (by simp); have f0 := M.free 0; have f1 := M.free 1; clear M) | (go_at_call 77; refine (hF _).mono ?_; rintro e v ⟨rfl, rfl⟩) | (go_at_call 85; refine (hW _).mono ?_; rintro e v ⟨rfl, rfl⟩))
        (try simp only [Exit.inBlock, Exit.then])
        refine bodyPost_ret (by simp [results, Tryd.results93, go_sem, m0, m1]; try rfl) rfl ?_
        refine ⟨rfl, ?_⟩
        repeat (first | exact hb1 | refine below_set ?_ (Nat.le_refl _))

theorem rparse_len (s : ByteArray) (w : World) (hs : s.size ≤ 2147483647) (K : Nat) (hK : K ≤ s.size) (hno : Hid (∀ j (hj : j < s.size), j < K → s[j] ≠ 32)) (hb : Hid (∀ h : K < s.size, s[K] = 32)) (N0 R : ByteArray) (hN : Hid (s.extract 0 K = N0)) (hR : Hid (s.extract K s.size = R)) (n : Nat) (ho : Hid (opOf N0 = some n)) (hn : (n : Int) < 256) (F D : Nat) (hF : ∀ v, Calls Tryd.prog 77 #[.int .u8 n] v fun e v' => e = .returned (.int .u8 F) ∧ v' = v) (hW : ∀ v, Calls Tryd.prog 85 #[.int .u8 F] v fun e v' => e = .returned (.int .i64 D) ∧ v' = v) (hD : 1 ≤ D) (hD8 : D ≤ 8) (hRs : R.size ≤ 2147483647) (hRe : R.size ≠ D + 1) :
    Calls Tryd.prog 93 #[.string s] w fun e w' => e = retI ⟨#[]⟩ 0 21 ∧ Below w.heap.size w w' := by
  have hD0 : ((D : Int) == 0) = false := by simp; omega
  have hRe' : ((R.size : Int) != (D : Int) + 1) = true := by simp; omega
  go_enter Tryd.func93, Tryd.ntmps93
  go_wp2
  go_loopw [4] (fun i wz => ∃ k : Nat, k ≤ K ∧ i = .int .i64 (k : Int) ∧ wz = w.alloc (.cells #[.string ⟨#[]⟩, .int .i64 0] 83)) (fun i _ => (K - intOf i).toNat)
  case atStart => exact ⟨0, by omega, rfl, rfl⟩
  case round =>
    obtain ⟨k, hk, rfl, rfl⟩ := hrel
    by_cases hlt : k < K
    · have hks : k < s.size := by omega
      have hne := ne32 (hno.out k hks hlt)
      go_wp2
      go_roundw
      case rel => exact ⟨k + 1, by omega, by simp, trivial⟩
      case measure => simp [intOf]; omega
    · have hkK : k = K := by omega
      subst hkK
      clear hk hlt
      have hN' := hN.out
      have hR' := hR.out
      by_cases hend : k < s.size
      · have hbk := hb.out hend
        go_wp2_with (first | (go_at_call 49; refine (rfirst_any N0 _ ho _).mono ?_; unfold firstI; rintro e v1 ⟨rfl, hb1⟩; have M := mine_new hb1; replace hb1 := below_own hb1; have m0 : v1.cell? ⟨w.heap.size, 0, none⟩ = some (.string ⟨#[]⟩) := M.cells 0 (by simp); have m1 : v1.cell? ⟨w.heap.size, 1, none⟩ = some (.int .i64 0) := M.cells 1 (by simp); have f0 := M.free 0; have f1 := M.free 1; clear M) | (go_at_call 77; refine (hF _).mono ?_; rintro e v ⟨rfl, rfl⟩) | (go_at_call 85; refine (hW _).mono ?_; rintro e v ⟨rfl, rfl⟩))
        (try simp only [Exit.inBlock, Exit.then])
        refine bodyPost_ret (by simp [results, Tryd.results93, go_sem, m0, m1]; try rfl) rfl ?_
        refine ⟨rfl, ?_⟩
        repeat (first | exact hb1 | refine below_set ?_ (Nat.le_refl _))
      · have hlt0 : (s.size : Int) ≤ (k : Int) := by omega
        clear hend
        go_wp2_with (first | (go_at_call 49; refine (rfirst_any N0 _ ho _).mono ?_; unfold firstI; rintro e v1 ⟨rfl, hb1⟩; have M := mine_new hb1; replace hb1 := below_own hb1; have m0 : v1.cell? ⟨w.heap.size, 0, none⟩ = some (.string ⟨#[]⟩) := M.cells 0 (by simp); have m1 : v1.cell? ⟨w.heap.size, 1, none⟩ = some (.int .i64 0) := M.cells 1 (by simp); have f0 := M.free 0; have f1 := M.free 1; clear M) | (go_at_call 77; refine (hF _).mono ?_; rintro e v ⟨rfl, rfl⟩) | (go_at_call 85; refine (hW _).mono ?_; rintro e v ⟨rfl, rfl⟩))
        (try simp only [Exit.inBlock, Exit.then])
        refine bodyPost_ret (by simp [results, Tryd.results93, go_sem, m0, m1]; try rfl) rfl ?_
        refine ⟨rfl, ?_⟩
        repeat (first | exact hb1 | refine below_set ?_ (Nat.le_refl _))
end Go.Proofs.YtfdjifgmlgpjgaaDoor
