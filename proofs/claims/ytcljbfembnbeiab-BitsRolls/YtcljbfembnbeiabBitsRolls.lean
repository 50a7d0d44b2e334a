/- vesperlaw01.BitsRolls returns true for every byte, DF and byte beside: nine shifts through DF, one way or the other, are nothing, and one to the right and one to the left neither; no condition. -/
import Derived.Test.YtcljbfembnbeiabRows
import Derived.WalkKit
import Derived.ProofKit
import Derived.OpenShut
import Derived.Deep.RegionWith
import Derived.Test.YtcljbfembnbeiabEnd
import Derived.Test.YtcljbfembnbeiabWake
import Derived.ShutString
namespace Go.Proofs.Ytcljbfembnbeiab.bitsRolls
open Go.ChangeShapes Go.WideShapes Go.ChangeAt Go.RowKit
open Go.ChangeMaps (open_string shut_string)
set_option linter.unusedVariables false      -- a walk need not use every 'w<i>' (that an integer argument fits its kind)


/-- One shift through DF to the right, one to the left; so many of them. -/
def stepR (p : Int × Bool) : Int × Bool := (doV 11 p.1 0 p.2, doF 11 p.1 0 p.2)
def stepL (p : Int × Bool) : Int × Bool := (doV 13 p.1 0 p.2, doF 13 p.1 0 p.2)
def itR : Nat → Int × Bool → Int × Bool
  | 0, p => p
  | k + 1, p => stepR (itR k p)
def itL : Nat → Int × Bool → Int × Bool
  | 0, p => p
  | k + 1, p => stepL (itL k p)
theorem nineR : ∀ (d : Fin 256) (c : Bool), itR 9 ((d.val : Int), c) = ((d.val : Int), c) := by decide +kernel
theorem nineL : ∀ (d : Fin 256) (c : Bool), itL 9 ((d.val : Int), c) = ((d.val : Int), c) := by decide +kernel
theorem bothLR : ∀ (d : Fin 256) (c : Bool), stepL (stepR ((d.val : Int), c)) = ((d.val : Int), c) := by decide +kernel
theorem itR_bd (d : Int) (c : Bool) (h0 : 0 ≤ d) (h1 : d ≤ 255) : ∀ k, 0 ≤ (itR k (d, c)).1 ∧ (itR k (d, c)).1 ≤ 255 := by
  intro k
  induction k with
  | zero => exact ⟨h0, h1⟩
  | succ k ih =>
    show 0 ≤ doV 11 (itR k (d, c)).1 0 (itR k (d, c)).2 ∧ doV 11 (itR k (d, c)).1 0 (itR k (d, c)).2 ≤ 255
    exact ⟨doV_lo _ _ _ _ ih.1 (by decide), doV_hi _ _ _ _ ih.1 ih.2 (by decide) (by decide)⟩
theorem itL_bd (d : Int) (c : Bool) (h0 : 0 ≤ d) (h1 : d ≤ 255) : ∀ k, 0 ≤ (itL k (d, c)).1 ∧ (itL k (d, c)).1 ≤ 255 := by
  intro k
  induction k with
  | zero => exact ⟨h0, h1⟩
  | succ k ih =>
    show 0 ≤ doV 13 (itL k (d, c)).1 0 (itL k (d, c)).2 ∧ doV 13 (itL k (d, c)).1 0 (itL k (d, c)).2 ≤ 255
    exact ⟨doV_lo _ _ _ _ ih.1 (by decide), doV_hi _ _ _ _ ih.1 ih.2 (by decide) (by decide)⟩

theorem right_any (p : Int × Bool) (b : Int) (w : World) (h : 0 ≤ p.1 ∧ p.1 ≤ 255) (b0 : 0 ≤ b) (b1 : b ≤ 255) :
    Calls Try.prog 6 #[.int .u8 11, .int .u8 p.1, .int .u8 b, .bool p.2] w fun e w' => e = .returned (.tuple #[.int .u8 (stepR p).1, .bool (stepR p).2]) ∧ Below w.heap.size w w' :=
  do11 p.1 b p.2 h.1 h.2 b0 b1 w
theorem left_any (p : Int × Bool) (b : Int) (w : World) (h : 0 ≤ p.1 ∧ p.1 ≤ 255) (b0 : 0 ≤ b) (b1 : b ≤ 255) :
    Calls Try.prog 6 #[.int .u8 13, .int .u8 p.1, .int .u8 b, .bool p.2] w fun e w' => e = .returned (.tuple #[.int .u8 (stepL p).1, .bool (stepL p).2]) ∧ Below w.heap.size w w' :=
  do13 p.1 b p.2 h.1 h.2 b0 b1 w

set_option maxRecDepth 100000 in
set_option maxHeartbeats 1000000 in
theorem walk (a0 : Int) (a1 : Bool) (a2 : Int) (w0 : (Lit.int .u8 a0).wf = true) (w2 : (Lit.int .u8 a2).wf = true) (w : World) :
    Calls Try.prog 4 #[.int .u8 a0, .bool a1, .int .u8 a2] w fun e w' => e = .returned (.bool true) ∧ Below w.heap.size w w' := by
  obtain ⟨p0, p1⟩ := bounds_u8 w0
  obtain ⟨q0, q1⟩ := bounds_u8 w2
  obtain ⟨D, rfl⟩ := Int.eq_ofNat_of_zero_le p0
  have n1 := nineR ⟨D, by omega⟩ a1
  have n2 := nineL ⟨D, by omega⟩ a1
  have n3 := bothLR ⟨D, by omega⟩ a1
  have N1 : Hid (itR 9 ((D : Int), a1) = ((D : Int), a1)) := n1
  have N2 : Hid (itL 9 ((D : Int), a1) = ((D : Int), a1)) := n2
  have e1 : ((stepL (stepR ((D : Int), a1))).1 == (D : Int)) = true := by rw [n3]; simp
  have e2 : ((stepL (stepR ((D : Int), a1))).2 == a1) = true := by rw [n3]; simp
  clear n1 n2 n3
  have bR := itR_bd (D : Int) a1 (by omega) p1
  have bL := itL_bd (D : Int) a1 (by omega) p1
  go_enter Try.func4, Try.ntmps4
  go_wp2
  go_loopw [7, 8, 9, 10, 11] (fun x c y e i wr => ∃ k : Nat, k ≤ 9 ∧ i = .int .i64 (k : Int) ∧ x = .int .u8 (itR k ((D : Int), a1)).1 ∧ c = .bool (itR k ((D : Int), a1)).2 ∧ y = .int .u8 (itL k ((D : Int), a1)).1 ∧ e = .bool (itL k ((D : Int), a1)).2 ∧ Below w.heap.size w wr) (fun _ _ _ _ i _ => (9 - intOf i).toNat)
  case atStart => exact ⟨0, by omega, rfl, rfl, rfl, rfl, rfl, Below.refl _ _⟩
  case round =>
    obtain ⟨k, hk, rfl, rfl, rfl, rfl, rfl, HB⟩ := hrel
    by_cases hlt : k < 9
    · have bk := bR k
      have bl := bL k
      go_wp2_with (first | (go_at_call_of 6 (Value.int IntKind.u8 11); refine (right_any (itR k ((D : Int), a1)) _ _ bk q0 q1).mono ?_; rintro e v1 ⟨rfl, hb1⟩; replace HB := HB.trans (hb1.mono HB.size)) | (go_at_call_of 6 (Value.int IntKind.u8 13); refine (left_any (itL k ((D : Int), a1)) _ _ bl q0 q1).mono ?_; rintro e v1 ⟨rfl, hb1⟩; replace HB := HB.trans (hb1.mono HB.size)))
      go_roundw
      case rel => exact ⟨k + 1, by omega, by go_num, rfl, rfl, rfl, rfl, HB⟩
      case measure => simp [intOf]; omega
    · have ek : k = 9 := by omega
      subst ek
      rw [N1.out, N2.out]
      have bs : 0 ≤ (stepR ((D : Int), a1)).1 ∧ (stepR ((D : Int), a1)).1 ≤ 255 := bR 1
      go_wp2_with (first | (go_at_call_of 6 (Value.int IntKind.u8 11); refine (right_any ((D : Int), a1) _ _ ⟨by omega, p1⟩ q0 q1).mono ?_; rintro e v1 ⟨rfl, hb1⟩; replace HB := HB.trans (hb1.mono HB.size)) | (go_at_call_of 6 (Value.int IntKind.u8 13); refine (left_any (stepR ((D : Int), a1)) _ _ bs q0 q1).mono ?_; rintro e v1 ⟨rfl, hb1⟩; replace HB := HB.trans (hb1.mono HB.size)) | (go_at_call 8; refine (awake_any _).mono ?_; rintro e v1 ⟨rfl, hb1⟩; replace HB := HB.trans (hb1.mono HB.size)))
      go_ret
      exact ⟨rfl, HB⟩

set_option maxRecDepth 100000 in
theorem lifted (os : Os) (started : os.Started) (H : Type) (enc : TypeId × Value → H) :
    ReturnsInHanded {} Try.checked os 4 .any (Rows.bitsRollsSpec.pre6 enc Try.prog Try.f4 Rows.bitsRollsRow.domain false) (Rows.bitsRollsSpec.post enc Try.prog Try.f4 false true false false) := by
  refine returnsInHanded_of_change (C := Try.checked) own started (by kernel_rfl) Try.func4
    (ChangeSpec.witness6 (enc := enc) (C := Try.checked) false ⟨#[], #[.int .u8 0, .bool false, .int .u8 0], []⟩ 8 (by kernel_rfl) (by kernel_rfl) (by kernel_rfl) (by kernel_rfl)) ?_
  intro W base args ds gs before hval0 hW hcnd _
  have hval : ∀ (j : Nat) t v, Try.f4.params[j]? = some t → args[j]? = some v → Value.okWide Try.prog W .any base t v := hval0
  have hW' := hW
  obtain ⟨p, q, hA0, hV, rfl, hfz, hnd⟩ := hW
  have hA : DataW.TrodAll enc Try.prog W 0 (fun _ => true) true Try.f4.params.toList args.toList ds p := hA0
  rw [Try.params4] at hA hval
  obtain ⟨v0, vs0, d0, ds0, p0, q0, hargs, rfl, rfl, h0, r0⟩ := trodAll_cons hA
  obtain ⟨v1, vs1, d1, ds1, p1, q1, rfl, rfl, rfl, h1, r1⟩ := trodAll_cons r0
  obtain ⟨v2, vs2, d2, ds2, p2, q2, rfl, rfl, rfl, h2, r2⟩ := trodAll_cons r1
  obtain ⟨rfl, rfl, rfl⟩ := trodAll_nil r2
  obtain rfl : args = #[v0, v1, v2] := by cases args; simp_all
  obtain ⟨rfl, rfl⟩ := trodVars_none hV
  obtain ⟨a0, rfl, rfl, rfl, w0⟩ := open_int Try.underlying5 (hval 0 5 v0 rfl rfl) h0
  obtain ⟨a1, rfl, rfl, rfl⟩ := open_bool Try.underlying4 (hval 1 4 v1 rfl rfl) h1
  obtain ⟨a2, rfl, rfl, rfl, w2⟩ := open_int Try.underlying5 (hval 2 5 v2 rfl rfl) h2
  clear hA0 hval0
  simp only [List.append_nil] at hW'
  refine (walk a0 a1 a2 w0 w2 W).mono fun e W' ⟨he, hg⟩ => ?_
  subst he
  exact ⟨_, rfl, post_of_below (pa := []) (pv := []) hW' (fun _ _ _ => (trodAll_cons_mk (shut_bool Try.underlying4 _) trodAll_mk0)) (fun sp _ => (trodAll_cons_mk (shut_int Try.underlying5 w0) (trodAll_cons_mk (shut_bool Try.underlying4 _) (trodAll_cons_mk (shut_int Try.underlying5 w2) trodAll_mk0)))) (fun _ _ => rfl) hg⟩

theorem over : Rows.bitsRollsRow.holds Try.pinned (OpenSpec.ofChange Rows.bitsRollsSpec) :=
  OpenClaim.holds_of_wide 4 Try.f4 rfl rfl rfl rfl rfl rfl rfl ⟨rfl, rfl, rfl, rfl, rfl⟩ rfl rfl rfl rfl rfl (by kernel_rfl) Try.func4 (by kernel_rfl)
    (of_decide_eq_true (by kernel_rfl)) (by unfold Func.isWrapper; first | (rw [if_pos (by decide +kernel)]; kernel_rfl) | (rw [if_neg (by decide +kernel)]; exact ⟨rfl, rfl⟩))
    (fun os started H enc _ => lifted os started H enc)

theorem proved : Rows.BitsRollsSaid :=
  over
#print axioms proved
end Go.Proofs.Ytcljbfembnbeiab.bitsRolls
