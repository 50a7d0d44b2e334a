/- vesperlaw01.BitsLong returns true for every two words and DF: words are added and subtracted byte by byte, whatever DF was, and the two ways of subtracting agree; no condition. -/
import Derived.Test.YtcljbfembnbeiabRows
import Derived.WalkKit
import Derived.ProofKit
import Derived.OpenShut
import Derived.Deep.RegionWith
import Derived.Test.YtcljbfembnbeiabEnd
import Derived.Test.YtcljbfembnbeiabWake
import Derived.ShutString
namespace Go.Proofs.Ytcljbfembnbeiab.bitsLong
open Go.ChangeShapes Go.WideShapes Go.ChangeAt Go.RowKit
open Go.ChangeMaps (open_string shut_string)
set_option linter.unusedVariables false      -- a walk need not use every 'w<i>' (that an integer argument fits its kind)


def twoV (a b lo hi : Int) (df : Bool) : Int := doV hi (a / 256) (b / 256) (doF lo (a % 256) (b % 256) df) * 256 + doV lo (a % 256) (b % 256) df
def twoF (a b lo hi : Int) (df : Bool) : Bool := doF hi (a / 256) (b / 256) (doF lo (a % 256) (b % 256) df)

set_option maxHeartbeats 400000 in
theorem two_any (a b lo hi : Int) (df : Bool) (w : World) (a0 : 0 ≤ a) (a1 : a ≤ 65535) (b0 : 0 ≤ b) (b1 : b ≤ 65535) (l0 : 0 ≤ lo) (l1 : lo ≤ 255) (h0 : 0 ≤ hi) (h1 : hi ≤ 255) :
    Calls Try.prog 5 #[.int .u16 a, .int .u16 b, .int .u8 lo, .int .u8 hi, .bool df] w fun e w' => e = .returned (.tuple #[.int .u16 (twoV a b lo hi df), .bool (twoF a b lo hi df)]) ∧ Below w.heap.size w w' := by
  have HB := Below.refl w.heap.size w
  have x0 := doV_lo lo (a % 256) (b % 256) df (by omega) (by omega)
  have x1 := doV_hi lo (a % 256) (b % 256) df (by omega) (by omega) (by omega) (by omega)
  have y0 := doV_lo hi (a / 256) (b / 256) (doF lo (a % 256) (b % 256) df) (by omega) (by omega)
  have y1 := doV_hi hi (a / 256) (b / 256) (doF lo (a % 256) (b % 256) df) (by omega) (by omega) (by omega) (by omega)
  go_enter Try.func5, Try.ntmps5
  go_wp2_with (first | (go_at_call 7; refine (low_any _ _ (by omega) (by omega)).mono ?_; rintro e w' ⟨rfl, rfl⟩) | (go_at_call 9; refine (high_any _ _ (by omega) (by omega)).mono ?_; rintro e w' ⟨rfl, rfl⟩) | (go_at_call 10; refine (word_any _ _ _ (by omega) (by omega) (by omega) (by omega)).mono ?_; rintro e w' ⟨rfl, rfl⟩) | (go_at_call 6; refine (do_any _ _ _ _ (by omega) (by omega) (by omega) (by omega) (by omega) (by omega) _).mono ?_; rintro e v1 ⟨rfl, hb1⟩; replace HB := HB.trans (hb1.mono HB.size)))
  go_ret2
  exact ⟨rfl, HB⟩

theorem add_eq (a b : Int) (df : Bool) (a0 : 0 ≤ a) (a1 : a ≤ 65535) (b0 : 0 ≤ b) (b1 : b ≤ 65535) : twoV a b 4 5 df = (a + b) % 65536 ∧ twoF a b 4 5 df = decide (65535 < a + b) := by
  unfold twoV twoF
  rw [doV5, doF5, doV4, doF4]
  by_cases h : 255 < a % 256 + b % 256
  · have e : cw (decide (255 < a % 256 + b % 256)) = 1 := by simp [cw, h]
    rw [e, Bool.eq_iff_iff]; simp; omega
  · have e : cw (decide (255 < a % 256 + b % 256)) = 0 := by simp [cw, h]
    rw [e, Bool.eq_iff_iff]; simp; omega
theorem less_eq (a b : Int) (df : Bool) (a0 : 0 ≤ a) (a1 : a ≤ 65535) (b0 : 0 ≤ b) (b1 : b ≤ 65535) : twoV a b 8 9 df = (a - b) % 65536 ∧ twoF a b 8 9 df = decide (b ≤ a) := by
  unfold twoV twoF
  rw [doV9, doF9, doV8, doF8]
  by_cases h : b % 256 ≤ a % 256
  · have e : cw (decide (b % 256 ≤ a % 256)) = 1 := by simp [cw, h]
    rw [e, Bool.eq_iff_iff]; simp; omega
  · have e : cw (decide (b % 256 ≤ a % 256)) = 0 := by simp [cw, h]
    rw [e, Bool.eq_iff_iff]; simp; omega
theorem from_eq (a b : Int) (df : Bool) (a0 : 0 ≤ a) (a1 : a ≤ 65535) (b0 : 0 ≤ b) (b1 : b ≤ 65535) : twoV b a 6 7 df = (a - b) % 65536 ∧ twoF b a 6 7 df = decide (b ≤ a) := by
  unfold twoV twoF
  rw [doV7, doF7, doV6, doF6]
  by_cases h : b % 256 ≤ a % 256
  · have e : cw (decide (b % 256 ≤ a % 256)) = 1 := by simp [cw, h]
    rw [e, Bool.eq_iff_iff]; simp; omega
  · have e : cw (decide (b % 256 ≤ a % 256)) = 0 := by simp [cw, h]
    rw [e, Bool.eq_iff_iff]; simp; omega

theorem two_add (a b : Int) (df : Bool) (w : World) (a0 : 0 ≤ a) (a1 : a ≤ 65535) (b0 : 0 ≤ b) (b1 : b ≤ 65535) : Calls Try.prog 5 #[.int .u16 a, .int .u16 b, .int .u8 4, .int .u8 5, .bool df] w fun e w' => e = .returned (.tuple #[.int .u16 ((a + b) % 65536), .bool (decide (65535 < a + b))]) ∧ Below w.heap.size w w' :=
  (two_any a b 4 5 df w a0 a1 b0 b1 (by decide) (by decide) (by decide) (by decide)).mono fun _ _ ⟨he, hb⟩ => ⟨he.trans (ret2 (add_eq a b df a0 a1 b0 b1).1 (add_eq a b df a0 a1 b0 b1).2), hb⟩
theorem two_less (a b : Int) (df : Bool) (w : World) (a0 : 0 ≤ a) (a1 : a ≤ 65535) (b0 : 0 ≤ b) (b1 : b ≤ 65535) : Calls Try.prog 5 #[.int .u16 a, .int .u16 b, .int .u8 8, .int .u8 9, .bool df] w fun e w' => e = .returned (.tuple #[.int .u16 ((a - b) % 65536), .bool (decide (b ≤ a))]) ∧ Below w.heap.size w w' :=
  (two_any a b 8 9 df w a0 a1 b0 b1 (by decide) (by decide) (by decide) (by decide)).mono fun _ _ ⟨he, hb⟩ => ⟨he.trans (ret2 (less_eq a b df a0 a1 b0 b1).1 (less_eq a b df a0 a1 b0 b1).2), hb⟩
theorem two_from (a b : Int) (df : Bool) (w : World) (a0 : 0 ≤ a) (a1 : a ≤ 65535) (b0 : 0 ≤ b) (b1 : b ≤ 65535) : Calls Try.prog 5 #[.int .u16 b, .int .u16 a, .int .u8 6, .int .u8 7, .bool df] w fun e w' => e = .returned (.tuple #[.int .u16 ((a - b) % 65536), .bool (decide (b ≤ a))]) ∧ Below w.heap.size w w' :=
  (two_any b a 6 7 df w b0 b1 a0 a1 (by decide) (by decide) (by decide) (by decide)).mono fun _ _ ⟨he, hb⟩ => ⟨he.trans (ret2 (from_eq a b df a0 a1 b0 b1).1 (from_eq a b df a0 a1 b0 b1).2), hb⟩

set_option maxRecDepth 100000 in
set_option maxHeartbeats 1000000 in
theorem walk (a0 : Int) (a1 : Int) (a2 : Bool) (w0 : (Lit.int .u16 a0).wf = true) (w1 : (Lit.int .u16 a1).wf = true) (w : World) :
    Calls Try.prog 3 #[.int .u16 a0, .int .u16 a1, .bool a2] w fun e w' => e = .returned (.bool true) ∧ Below w.heap.size w w' := by
  obtain ⟨p0, p1⟩ := bounds_u16 w0
  obtain ⟨q0, q1⟩ := bounds_u16 w1
  have HB := Below.refl w.heap.size w
  have e1 : (doV 7 (a0 % 256) (a1 % 256) true == doV 6 (a0 % 256) (a1 % 256) a2) = true := by rw [doV7, doV6, beq_iff_eq]; simp only [cw, if_true]; omega
  have e2 : (doF 7 (a0 % 256) (a1 % 256) true == doF 6 (a0 % 256) (a1 % 256) a2) = true := by rw [doF7, doF6, beq_iff_eq, Bool.eq_iff_iff]; simp [cw]; omega
  have e3 : (doV 5 (a0 % 256) (a1 % 256) false == doV 4 (a0 % 256) (a1 % 256) a2) = true := by rw [doV5, doV4, beq_iff_eq]; simp [cw]
  have e4 : (doF 5 (a0 % 256) (a1 % 256) false == doF 4 (a0 % 256) (a1 % 256) a2) = true := by rw [doF5, doF4, beq_iff_eq, Bool.eq_iff_iff]; simp [cw]
  go_enter Try.func3, Try.ntmps3
  go_wp2_with (first | (go_at_call 8; refine (awake_any _).mono ?_; rintro e v1 ⟨rfl, hb1⟩; replace HB := HB.trans (hb1.mono HB.size)) | (go_at_call_of 5 (Value.int IntKind.u8 4); refine (two_add _ _ _ _ p0 p1 q0 q1).mono ?_; rintro e v1 ⟨rfl, hb1⟩; replace HB := HB.trans (hb1.mono HB.size)) | (go_at_call_of 5 (Value.int IntKind.u8 8); refine (two_less _ _ _ _ p0 p1 q0 q1).mono ?_; rintro e v1 ⟨rfl, hb1⟩; replace HB := HB.trans (hb1.mono HB.size)) | (go_at_call_of 5 (Value.int IntKind.u8 6); refine (two_from _ _ _ _ p0 p1 q0 q1).mono ?_; rintro e v1 ⟨rfl, hb1⟩; replace HB := HB.trans (hb1.mono HB.size)) | (go_at_call 7; refine (low_any _ _ (by omega) (by omega)).mono ?_; rintro e w' ⟨rfl, rfl⟩) | (go_at_call 6; refine (do_any _ _ _ _ (by omega) (by omega) (by omega) (by omega) (by omega) (by omega) _).mono ?_; rintro e v1 ⟨rfl, hb1⟩; replace HB := HB.trans (hb1.mono HB.size)))
  go_ret
  exact ⟨rfl, HB⟩

set_option maxRecDepth 100000 in
theorem lifted (os : Os) (started : os.Started) (H : Type) (enc : TypeId × Value → H) :
    ReturnsInHanded {} Try.checked os 3 .any (Rows.bitsLongSpec.pre6 enc Try.prog Try.f3 Rows.bitsLongRow.domain false) (Rows.bitsLongSpec.post enc Try.prog Try.f3 false true false false) := by
  refine returnsInHanded_of_change (C := Try.checked) own started (by kernel_rfl) Try.func3
    (ChangeSpec.witness6 (enc := enc) (C := Try.checked) false ⟨#[], #[.int .u16 0, .int .u16 0, .bool false], []⟩ 8 (by kernel_rfl) (by kernel_rfl) (by kernel_rfl) (by kernel_rfl)) ?_
  intro W base args ds gs before hval0 hW hcnd _
  have hval : ∀ (j : Nat) t v, Try.f3.params[j]? = some t → args[j]? = some v → Value.okWide Try.prog W .any base t v := hval0
  have hW' := hW
  obtain ⟨p, q, hA0, hV, rfl, hfz, hnd⟩ := hW
  have hA : DataW.TrodAll enc Try.prog W 0 (fun _ => true) true Try.f3.params.toList args.toList ds p := hA0
  rw [Try.params3] at hA hval
  obtain ⟨v0, vs0, d0, ds0, p0, q0, hargs, rfl, rfl, h0, r0⟩ := trodAll_cons hA
  obtain ⟨v1, vs1, d1, ds1, p1, q1, rfl, rfl, rfl, h1, r1⟩ := trodAll_cons r0
  obtain ⟨v2, vs2, d2, ds2, p2, q2, rfl, rfl, rfl, h2, r2⟩ := trodAll_cons r1
  obtain ⟨rfl, rfl, rfl⟩ := trodAll_nil r2
  obtain rfl : args = #[v0, v1, v2] := by cases args; simp_all
  obtain ⟨rfl, rfl⟩ := trodVars_none hV
  obtain ⟨a0, rfl, rfl, rfl, w0⟩ := open_int Try.underlying22 (hval 0 22 v0 rfl rfl) h0
  obtain ⟨a1, rfl, rfl, rfl, w1⟩ := open_int Try.underlying22 (hval 1 22 v1 rfl rfl) h1
  obtain ⟨a2, rfl, rfl, rfl⟩ := open_bool Try.underlying4 (hval 2 4 v2 rfl rfl) h2
  clear hA0 hval0
  simp only [List.append_nil] at hW'
  refine (walk a0 a1 a2 w0 w1 W).mono fun e W' ⟨he, hg⟩ => ?_
  subst he
  exact ⟨_, rfl, post_of_below (pa := []) (pv := []) hW' (fun _ _ _ => (trodAll_cons_mk (shut_bool Try.underlying4 _) trodAll_mk0)) (fun sp _ => (trodAll_cons_mk (shut_int Try.underlying22 w0) (trodAll_cons_mk (shut_int Try.underlying22 w1) (trodAll_cons_mk (shut_bool Try.underlying4 _) trodAll_mk0)))) (fun _ _ => rfl) hg⟩

theorem over : Rows.bitsLongRow.holds Try.pinned (OpenSpec.ofChange Rows.bitsLongSpec) :=
  OpenClaim.holds_of_wide 3 Try.f3 rfl rfl rfl rfl rfl rfl rfl ⟨rfl, rfl, rfl, rfl, rfl⟩ rfl rfl rfl rfl rfl (by kernel_rfl) Try.func3 (by kernel_rfl)
    (of_decide_eq_true (by kernel_rfl)) (by unfold Func.isWrapper; first | (rw [if_pos (by decide +kernel)]; kernel_rfl) | (rw [if_neg (by decide +kernel)]; exact ⟨rfl, rfl⟩))
    (fun os started H enc _ => lifted os started H enc)

theorem proved : Rows.BitsLongSaid :=
  over
#print axioms proved
end Go.Proofs.Ytcljbfembnbeiab.bitsLong
