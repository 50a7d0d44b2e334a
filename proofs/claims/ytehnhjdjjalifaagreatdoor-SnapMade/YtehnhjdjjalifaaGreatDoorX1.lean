/- The document's own: the sum, numbers as bytes and back. -/
import Derived.Test.YtehnhjdjjalifaaGreatDoorD1
import Derived.Test.YtehnhjdjjalifaaGreatDoorLc
import Derived.Test.YtehnhjdjjalifaaGreatDoorX0b
import Derived.Laws.Bits64
import Derived.BigRegion
namespace Go.Proofs.YtehnhjdjjalifaaGreatDoor
open Go Go.RowKit
set_option linter.unusedVariables false
set_option maxHeartbeats 1000000
set_option maxRecDepth 20000

theorem flag_any (w : World) (b : Bool) : Calls Tryz.prog 21 #[.bool b] w fun e w' => e = .returned (.int .u8 ((flB b).toNat : Int)) ∧ w' = w := by
  cases b
  all_goals
    go_enter Tryz.func21, Tryz.ntmps21
    go_wp2
    go_ret
    exact ⟨rfl, rfl⟩
theorem sumH_take (h : Nat) (l : List UInt8) (k : Nat) (hk : k < l.length) : sumH h (l.take (k + 1)) = stpH (sumH h (l.take k)) (l.getD k 0) := by
  have e : l[k]? = some (l.getD k 0) := by rw [List.getD_eq_getElem?_getD, List.getElem?_eq_getElem hk]; rfl
  rw [List.take_add_one, e]
  unfold sumH
  rw [Option.toList_some, List.foldl_append, List.foldl_cons, List.foldl_nil]
theorem rsum_any (w : World) (sp : Option Addr) (n cap : Nat) (l : List UInt8) (hl : Hid (LB w sp l)) (hn : Hid (l.length = n)) (hn2 : n ≤ 9000000000) :
    Calls Tryz.prog 14 #[.slice sp n cap] w fun e w' => e = .returned (.int .u64 (sumB l : Nat)) ∧ Below w.heap.size w w' := by
  have ni : (n : Int) ≤ 9000000000 := by omega
  clear hn2
  go_enter Tryz.func14, Tryz.ntmps14
  go_wp2
  go_loopw [3, 4] (fun hv kv wz => ∃ (k h : Nat) (u : World), u = wz ∧ k ≤ n ∧ hv = .int .u64 (h : Int) ∧ kv = .int .i64 (k : Int) ∧ Hid (h = sumH h0 (l.take k)) ∧ Hid (Below w.heap.size w u)) (fun _ kv _ => (n - intOf kv).toNat)
  case atStart => exact ⟨0, h0, _, rfl, Nat.zero_le _, rfl, rfl, (rfl : h0 = sumH h0 (l.take 0)), Below.refl _ _⟩
  case round =>
    obtain ⟨k, h, u, rfl, hk, rfl, rfl, Hh, Hb⟩ := hrel
    by_cases hlt : k < n
    · have hki : (k : Int) < (n : Int) := by omega
      have hlt' : Hid (k < n) := hlt
      have hL := hl.out.below Hb.out
      obtain ⟨gb, ob, rfl⟩ := lb_some hL (by rw [hn.out]; omega)
      have ix := fun v => idxB .i64 gb ob n cap k v hlt
      have cs := lb_at hL k (by rw [hn.out]; exact hlt)
      obtain ⟨bv, hbv⟩ : ∃ t, (l.getD k 0).toNat = t := ⟨_, rfl⟩
      rw [hbv] at cs
      have hb8 : bv < 256 := by rw [← hbv]; exact UInt8.toNat_lt _
      have hh : h < 18446744073709551616 := by rw [Hh.out]; exact sumH_lt _ _ (by decide)
      obtain ⟨X, hX⟩ : ∃ t, h ^^^ bv = t := ⟨_, rfl⟩
      have wx : bits .xor .u64 (h : Int) (bv : Int) = (X : Int) := by rw [← hX]; exact bits_xor_u64_nat h bv hh (by omega)
      obtain ⟨Y, hY⟩ : ∃ t, X * 1099511628211 % 18446744073709551616 = t := ⟨_, rfl⟩
      have wy : IntKind.u64.wrap ((X : Int) * 1099511628211) = (Y : Int) := by rw [IntKind.wrap_u64]; omega
      have wy' : ((X : Int) * 1099511628211) % 18446744073709551616 = (Y : Int) := by omega
      have ib : (bv : Int) < 256 := by omega
      have Hn : Hid (Y = sumH h0 (l.take (k + 1))) := by
        show Y = _
        rw [sumH_take h0 l k (by rw [hn.out]; exact hlt), ← Hh.out]
        unfold stpH
        rw [hbv, hX, hY]
      clear hk hlt hL hbv hh hX hY hb8
      go_wp2
      go_roundw
      case rel => exact ⟨k + 1, Y, _, rfl, hlt'.out, rfl, by simp, Hn, Hb⟩
      case measure => have := hlt'.out; simp [intOf]; omega
    · obtain rfl : k = n := by omega
      have fin : Hid (h = sumB l) := by
        show h = sumB l
        rw [Hh.out, List.take_of_length_le (by rw [hn.out]; exact Nat.le_refl _)]
        rfl
      clear hk hlt
      go_wp2
      go_ret
      exact ⟨congrArg (fun z : Nat => Ending.returned (.int .u64 (z : Int))) fin.out, Hb.out⟩
end Go.Proofs.YtehnhjdjjalifaaGreatDoor
