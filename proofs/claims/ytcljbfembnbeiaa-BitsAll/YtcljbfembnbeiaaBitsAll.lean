/- vesperlaw01.BitsAll returns true: all sums of all bytes, with DF and without, are the document's; no condition. -/
import Derived.Test.YtcljbfembnbeiaaRows
import Derived.WalkKit
import Derived.ProofKit
import Derived.OpenShut
import Derived.Deep.RegionWith
import Derived.Test.YtcljbfembnbeiaaEnd
import Derived.Test.YtcljbfembnbeiaaWake
import Derived.Test.YtcljbfembnbeiaaRefDo
import Derived.ShutString
namespace Go.Proofs.Ytcljbfembnbeiaa.bitsAll
open Go.ChangeShapes Go.WideShapes Go.ChangeAt Go.RowKit
open Go.ChangeMaps (open_string shut_string)
set_option linter.unusedVariables false      -- a walk need not use every 'w<i>' (that an integer argument fits its kind)


set_option maxRecDepth 100000 in
set_option maxHeartbeats 1000000 in
theorem walk  (w : World) :
    Calls Try.prog 5 #[] w fun e w' => e = .returned (.bool true) ∧ Below w.heap.size w w' := by
  go_enter Try.func5, Try.ntmps5
  go_wp2
  go_loopw [1] (fun s wr => ∃ k : Int, 0 ≤ k ∧ k ≤ 15 ∧ s = .int .i64 k ∧ Below w.heap.size w wr) (fun s _ => (15 - intOf s).toNat)
  case atStart => exact ⟨0, by omega, by omega, rfl, Below.refl _ _⟩
  case round =>
    obtain ⟨k, k0, k1, rfl, HB⟩ := hrel
    by_cases hk : k ≤ 14
    · go_wp2
      go_loopw [2] (fun d wd => ∃ m : Int, 0 ≤ m ∧ m ≤ 256 ∧ d = .int .i64 m ∧ Below w.heap.size w wd) (fun d _ => (256 - intOf d).toNat)
      case atStart => exact ⟨0, by omega, by omega, rfl, HB⟩
      case round =>
        clear HB
        obtain ⟨m, m0, m1, rfl, HB⟩ := hrel
        by_cases hm : m < 256
        · go_wp2
          go_loopw [3] (fun b wb => ∃ j : Int, 0 ≤ j ∧ j ≤ 256 ∧ b = .int .i64 j ∧ Below w.heap.size w wb) (fun b _ => (256 - intOf b).toNat)
          case atStart => exact ⟨0, by omega, by omega, rfl, HB⟩
          case round =>
            clear HB
            obtain ⟨j, j0, j1, rfl, HB⟩ := hrel
            by_cases hj : j < 256
            · go_wp2_with (first | (go_at_call 10; refine (do_any _ _ _ _ (by omega) (by omega) (by omega) (by omega) (by omega) (by omega) _).mono ?_; rintro e v1 ⟨rfl, hb1⟩; replace HB := HB.trans (hb1.mono HB.size)) | (go_at_call 11; refine (rdo_any _ _ _ _ (by omega) (by omega) (by omega) (by omega) (by omega) _).mono ?_; rintro e v2 ⟨rfl, rfl⟩))
              go_roundw
              case rel => exact ⟨j + 1, by omega, by omega, rfl, HB⟩
              case measure => simp [intOf]; omega
            · go_wp2
              go_roundw
              case rel => exact ⟨m + 1, by omega, by omega, rfl, HB⟩
              case measure => simp [intOf]; omega
        · go_wp2
          go_roundw
          case rel => exact ⟨k + 1, by omega, by omega, rfl, HB⟩
          case measure => simp [intOf]; omega
    · go_wp2_with (go_at_call 9; refine (awake_any _).mono ?_; rintro e v3 ⟨rfl, hb3⟩)
      go_ret
      exact ⟨rfl, HB.trans (hb3.mono HB.size)⟩

set_option maxRecDepth 100000 in
theorem lifted (os : Os) (started : os.Started) (H : Type) (enc : TypeId × Value → H) :
    ReturnsInHanded {} Try.checked os 5 .any (Rows.bitsAllSpec.pre6 enc Try.prog Try.f5 Rows.bitsAllRow.domain false) (Rows.bitsAllSpec.post enc Try.prog Try.f5 false true false false) := by
  refine returnsInHanded_of_change (C := Try.checked) own started (by kernel_rfl) Try.func5
    (ChangeSpec.witness6 (enc := enc) (C := Try.checked) false ⟨#[], #[], []⟩ 8 (by kernel_rfl) (by kernel_rfl) (by kernel_rfl) (by kernel_rfl)) ?_
  intro W base args ds gs before hval0 hW hcnd _
  have hval : ∀ (j : Nat) t v, Try.f5.params[j]? = some t → args[j]? = some v → Value.okWide Try.prog W .any base t v := hval0
  have hW' := hW
  obtain ⟨p, q, hA0, hV, rfl, hfz, hnd⟩ := hW
  have hA : DataW.TrodAll enc Try.prog W 0 (fun _ => true) true Try.f5.params.toList args.toList ds p := hA0
  rw [Try.params5] at hA hval
  obtain ⟨rfl, rfl, rfl⟩ := trodAll_none hA
  obtain ⟨rfl, rfl⟩ := trodVars_none hV
  clear hA0 hval0
  simp only [List.append_nil] at hW'
  refine (walk  W).mono fun e W' ⟨he, hg⟩ => ?_
  subst he
  exact ⟨_, rfl, post_of_below (pa := []) (pv := []) hW' (fun _ _ _ => (trodAll_cons_mk (shut_bool Try.underlying4 _) trodAll_mk0)) (fun sp _ => rfl) (fun _ _ => rfl) hg⟩

theorem over : Rows.bitsAllRow.holds Try.pinned (OpenSpec.ofChange Rows.bitsAllSpec) :=
  OpenClaim.holds_of_wide 5 Try.f5 rfl rfl rfl rfl rfl rfl rfl ⟨rfl, rfl, rfl, rfl, rfl⟩ rfl rfl rfl rfl rfl (by kernel_rfl) Try.func5 (by kernel_rfl)
    (of_decide_eq_true (by kernel_rfl)) (by unfold Func.isWrapper; first | (rw [if_pos (by decide +kernel)]; kernel_rfl) | (rw [if_neg (by decide +kernel)]; exact ⟨rfl, rfl⟩))
    (fun os started H enc _ => lifted os started H enc)

theorem proved : Rows.BitsAllSaid :=
  over
#print axioms proved
end Go.Proofs.Ytcljbfembnbeiaa.bitsAll
