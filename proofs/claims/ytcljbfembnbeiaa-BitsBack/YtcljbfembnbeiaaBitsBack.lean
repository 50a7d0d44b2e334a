/- vesperlaw01.BitsBack returns true for every number, count of digits and text: digits that were written are read as the number, a text that is read is written again as it was; no condition. -/
import Derived.Test.YtcljbfembnbeiaaRows
import Derived.WalkKit
import Derived.ProofKit
import Derived.OpenShut
import Derived.Deep.RegionWith
import Derived.Test.YtcljbfembnbeiaaEnd
import Derived.Test.YtcljbfembnbeiaaWake
import Derived.Test.YtcljbfembnbeiaaRefHex
import Derived.ShutString
namespace Go.Proofs.Ytcljbfembnbeiaa.bitsBack
open Go.ChangeShapes Go.WideShapes Go.ChangeAt Go.RowKit
open Go.ChangeMaps (open_string shut_string)
set_option linter.unusedVariables false      -- a walk need not use every 'w<i>' (that an integer argument fits its kind)


theorem back1 (n d : Int) (h : hexOf n d ≠ ⟨#[]⟩) : numOf (hexOf n d) = some n ∧ ((hexOf n d).size : Int) = d ∧ 1 ≤ d ∧ d ≤ 8 := by
  by_cases c : 1 ≤ d ∧ d ≤ 8 ∧ 0 ≤ n ∧ n / 16 ^ d.toNat = 0
  · have e : hexOf n d = hexS d.toNat n.toNat := by unfold hexOf; rw [if_pos c]
    obtain ⟨c1, c2, c3, c4⟩ := c
    obtain ⟨N, rfl⟩ := Int.eq_ofNat_of_zero_le c3
    obtain ⟨D, rfl⟩ := Int.eq_ofNat_of_zero_le (show 0 ≤ d by omega)
    have es : (hexS D N).size = D := by simp [hexS, ByteArray.size, hexL_len]
    have hl : N < 16 ^ D := by
      have e1 : (N : Int) / 16 ^ D = ((N / 16 ^ D : Nat) : Int) := by simp
      rw [Int.toNat_natCast, e1] at c4
      have c5 : N / 16 ^ D = 0 := Int.ofNat.inj c4
      exact (Nat.div_eq_zero_iff_lt (Nat.pow_pos (by decide))).1 c5
    rw [e]
    simp only [Int.toNat_natCast]
    refine ⟨?_, by rw [es], c1, c2⟩
    unfold numOf
    rw [es, if_pos ⟨by omega, by omega⟩]
    have el : (hexS D N).data.toList = hexL D N := by simp [hexS]
    rw [el, numGo_hexL D N hl]
  · exact absurd (by unfold hexOf; rw [if_neg c]) h
theorem back2 (s : ByteArray) (x : Int) (h : numOf s = some x) : hexOf x s.size = s ∧ 1 ≤ s.size ∧ s.size ≤ 8 ∧ x ≤ 9223372036854775807 := by
  unfold numOf at h
  split at h
  · rename_i c
    have hl : s.data.toList.length = s.size := Array.length_toList
    obtain ⟨x0, x1⟩ := numGo_le _ 0 x (by omega) h
    rw [hl] at x1
    have hp : (16 : Int) ^ s.size ≤ 16 ^ 8 := by
      have h0 := Nat.pow_le_pow_right (show 0 < 16 by decide) c.2
      have e1 : ((16 ^ s.size : Nat) : Int) = (16 : Int) ^ s.size := Int.natCast_pow 16 s.size
      omega
    refine ⟨?_, c.1, c.2, by omega⟩
    unfold hexOf
    rw [if_pos ⟨by omega, by omega, x0, by rw [Int.toNat_natCast]; exact Int.ediv_eq_zero_of_lt x0 (by simpa using x1)⟩]
    have := hexL_numGo _ x h
    rw [hl] at this
    simp only [Int.toNat_natCast, hexS, this, Array.toArray_toList]
  · cases h

theorem hex_is (n d : Int) (S : ByteArray) (w : World) (hn : n ≤ 9223372036854775807) (h : S = hexOf n d) :
    Calls Try.prog 18 #[.int .i64 n, .int .i64 d] w fun e w' => e = .returned (.string S) ∧ Below w.heap.size w w' :=
  (hex_any n d w hn).mono fun _ _ ⟨he, hb⟩ => ⟨he.trans (ret_str h.symm), hb⟩
theorem hex_empty (n d : Int) (w : World) (hn : n ≤ 9223372036854775807) (h : hexOf n d = ⟨#[]⟩) :
    Calls Try.prog 18 #[.int .i64 n, .int .i64 d] w fun e w' => e = .returned (.string ⟨#[]⟩) ∧ Below w.heap.size w w' :=
  (hex_any n d w hn).mono fun _ _ ⟨he, hb⟩ => ⟨he.trans (ret_str h), hb⟩
theorem num_read (s : ByteArray) (x : Int) (w : World) (h : numOf s = some x) (hs : s.size ≤ maxLen) :
    Calls Try.prog 19 #[.string s] w fun e w' => e = .returned (.tuple #[.int .i64 x, .int .i64 0]) ∧ Below w.heap.size w w' :=
  (number_any s w hs).mono fun _ _ ⟨he, hb⟩ => ⟨he.trans (ret_num (num_some s x h).1 (num_some s x h).2), hb⟩
theorem num_not (s : ByteArray) (w : World) (h : numOf s = none) (hs : s.size ≤ maxLen) :
    Calls Try.prog 19 #[.string s] w fun e w' => e = .returned (.tuple #[.int .i64 0, .int .i64 1]) ∧ Below w.heap.size w w' :=
  (number_any s w hs).mono fun _ _ ⟨he, hb⟩ => ⟨he.trans (ret_num (num_none s h).1 (num_none s h).2), hb⟩
theorem hex_back (s : ByteArray) (x : Int) (w : World) (h : numOf s = some x) :
    Calls Try.prog 18 #[.int .i64 x, .int .i64 (s.size : Int)] w fun e w' => e = .returned (.string s) ∧ Below w.heap.size w w' :=
  (hex_any x s.size w (back2 s x h).2.2.2).mono fun _ _ ⟨he, hb⟩ => ⟨he.trans (ret_str (back2 s x h).1), hb⟩

set_option maxHeartbeats 400000 in
theorem walk (a0 : Int) (a1 : Int) (a2 : ByteArray) (w0 : (Lit.int .i64 a0).wf = true) (w1 : (Lit.int .i64 a1).wf = true) (w2 : a2.size ≤ maxLen) (w : World) :
    Calls Try.prog 8 #[.int .i64 a0, .int .i64 a1, .string a2] w fun e w' => e = .returned (.bool true) ∧ Below w.heap.size w w' := by
  have b0 := bounds_i64 w0
  obtain ⟨b00, b01⟩ := b0
  by_cases hx : hexOf a0 a1 = ⟨#[]⟩
  · have HX : Hid (hexOf a0 a1 = ⟨#[]⟩) := hx
    clear hx
    cases hn : numOf a2 with
    | none =>
      have HN : Hid (numOf a2 = none) := hn
      clear hn
      go_enter Try.func8, Try.ntmps8
      go_wp2_with (first | (go_at_call 9; refine (awake_any _).mono ?_; rintro e v5 ⟨rfl, hb5⟩) | (go_at_call 18; refine (hex_empty _ _ _ b01 HX.out).mono ?_; rintro e v1 ⟨rfl, hb1⟩) | (go_at_call 19; refine (num_not _ _ HN.out w2).mono ?_; rintro e v2 ⟨rfl, hb2⟩))
      go_ret
      exact ⟨rfl, (hb1.trans (hb2.mono hb1.size)).trans (hb5.mono (Nat.le_trans hb1.size hb2.size))⟩
    | some x =>
      have HN : Hid (numOf a2 = some x) := hn
      clear hn
      obtain ⟨_, s1, s2, _⟩ := back2 a2 x HN.out
      go_enter Try.func8, Try.ntmps8
      go_wp2_with (first | (go_at_call 9; refine (awake_any _).mono ?_; rintro e v5 ⟨rfl, hb5⟩) | (go_at_call_of 18 (Value.int IntKind.i64 a0); refine (hex_empty _ _ _ b01 HX.out).mono ?_; rintro e v1 ⟨rfl, hb1⟩) | (go_at_call 19; refine (num_read _ _ _ HN.out w2).mono ?_; rintro e v2 ⟨rfl, hb2⟩) | (go_at_call_of 18 (Value.int IntKind.i64 x); refine (hex_back _ _ _ HN.out).mono ?_; rintro e v3 ⟨rfl, hb3⟩))
      go_ret
      exact ⟨rfl, ((hb1.trans (hb2.mono hb1.size)).trans (hb3.mono (Nat.le_trans hb1.size hb2.size))).trans (hb5.mono (Nat.le_trans hb1.size (Nat.le_trans hb2.size hb3.size)))⟩
  · obtain ⟨f1, f2, f3, f4⟩ := back1 a0 a1 hx
    have hS : ∃ S : ByteArray, Hid (S = hexOf a0 a1) := ⟨_, rfl⟩
    obtain ⟨S, hS⟩ := hS
    have F1 : Hid (numOf S = some a0) := by show _; rw [hS.out]; exact f1
    have F2 : ((S.size : Int) != a1) = false := by rw [hS.out, f2]; simp
    have F3 : S.size ≤ 8 := by rw [hS.out]; omega
    have F4 : 1 ≤ S.size := by rw [hS.out]; omega
    clear f1 f2 hx
    cases hn : numOf a2 with
    | none =>
      have HN : Hid (numOf a2 = none) := hn
      clear hn
      go_enter Try.func8, Try.ntmps8
      go_wp2_with (first | (go_at_call 9; refine (awake_any _).mono ?_; rintro e v5 ⟨rfl, hb5⟩) | (go_at_call 18; refine (hex_is _ _ S _ b01 hS.out).mono ?_; rintro e v1 ⟨rfl, hb1⟩) | (go_at_call_of 19 (Value.string S); refine (num_read _ _ _ F1.out (by unfold maxLen; omega)).mono ?_; rintro e v2 ⟨rfl, hb2⟩) | (go_at_call_of 19 (Value.string a2); refine (num_not _ _ HN.out w2).mono ?_; rintro e v3 ⟨rfl, hb3⟩))
      · go_ret
        exact ⟨rfl, ((hb1.trans (hb2.mono hb1.size)).trans (hb3.mono (Nat.le_trans hb1.size hb2.size))).trans (hb5.mono (Nat.le_trans hb1.size (Nat.le_trans hb2.size hb3.size)))⟩
      · go_ret
        exact ⟨rfl, (hb1.trans (hb3.mono hb1.size)).trans (hb5.mono (Nat.le_trans hb1.size hb3.size))⟩
    | some x =>
      have HN : Hid (numOf a2 = some x) := hn
      clear hn
      obtain ⟨_, s1, s2, _⟩ := back2 a2 x HN.out
      go_enter Try.func8, Try.ntmps8
      go_wp2_with (first | (go_at_call 9; refine (awake_any _).mono ?_; rintro e v5 ⟨rfl, hb5⟩) | (go_at_call_of 18 (Value.int IntKind.i64 a0); refine (hex_is _ _ S _ b01 hS.out).mono ?_; rintro e v1 ⟨rfl, hb1⟩) | (go_at_call_of 19 (Value.string S); refine (num_read _ _ _ F1.out (by unfold maxLen; omega)).mono ?_; rintro e v2 ⟨rfl, hb2⟩) | (go_at_call_of 19 (Value.string a2); refine (num_read _ _ _ HN.out w2).mono ?_; rintro e v3 ⟨rfl, hb3⟩) | (go_at_call_of 18 (Value.int IntKind.i64 x); refine (hex_back _ _ _ HN.out).mono ?_; rintro e v4 ⟨rfl, hb4⟩))
      · go_ret
        exact ⟨rfl, (((hb1.trans (hb2.mono hb1.size)).trans (hb3.mono (Nat.le_trans hb1.size hb2.size))).trans (hb4.mono (Nat.le_trans hb1.size (Nat.le_trans hb2.size hb3.size)))).trans (hb5.mono (Nat.le_trans hb1.size (Nat.le_trans hb2.size (Nat.le_trans hb3.size hb4.size))))⟩
      · go_ret
        exact ⟨rfl, ((hb1.trans (hb3.mono hb1.size)).trans (hb4.mono (Nat.le_trans hb1.size hb3.size))).trans (hb5.mono (Nat.le_trans hb1.size (Nat.le_trans hb3.size hb4.size)))⟩

set_option maxRecDepth 100000 in
theorem lifted (os : Os) (started : os.Started) (H : Type) (enc : TypeId × Value → H) :
    ReturnsInHanded {} Try.checked os 8 .any (Rows.bitsBackSpec.pre6 enc Try.prog Try.f8 Rows.bitsBackRow.domain false) (Rows.bitsBackSpec.post enc Try.prog Try.f8 false true false false) := by
  refine returnsInHanded_of_change (C := Try.checked) own started (by kernel_rfl) Try.func8
    (ChangeSpec.witness6 (enc := enc) (C := Try.checked) false ⟨#[], #[.int .i64 0, .int .i64 0, .string ByteArray.empty], []⟩ 8 (by kernel_rfl) (by kernel_rfl) (by kernel_rfl) (by kernel_rfl)) ?_
  intro W base args ds gs before hval0 hW hcnd _
  have hval : ∀ (j : Nat) t v, Try.f8.params[j]? = some t → args[j]? = some v → Value.okWide Try.prog W .any base t v := hval0
  have hW' := hW
  obtain ⟨p, q, hA0, hV, rfl, hfz, hnd⟩ := hW
  have hA : DataW.TrodAll enc Try.prog W 0 (fun _ => true) true Try.f8.params.toList args.toList ds p := hA0
  rw [Try.params8] at hA hval
  obtain ⟨v0, vs0, d0, ds0, p0, q0, hargs, rfl, rfl, h0, r0⟩ := trodAll_cons hA
  obtain ⟨v1, vs1, d1, ds1, p1, q1, rfl, rfl, rfl, h1, r1⟩ := trodAll_cons r0
  obtain ⟨v2, vs2, d2, ds2, p2, q2, rfl, rfl, rfl, h2, r2⟩ := trodAll_cons r1
  obtain ⟨rfl, rfl, rfl⟩ := trodAll_nil r2
  obtain rfl : args = #[v0, v1, v2] := by cases args; simp_all
  obtain ⟨rfl, rfl⟩ := trodVars_none hV
  obtain ⟨a0, rfl, rfl, rfl, w0⟩ := open_int Try.underlying3 (hval 0 3 v0 rfl rfl) h0
  obtain ⟨a1, rfl, rfl, rfl, w1⟩ := open_int Try.underlying3 (hval 1 3 v1 rfl rfl) h1
  obtain ⟨a2, rfl, rfl, rfl, w2⟩ := open_string Try.underlying9 (hval 2 9 v2 rfl rfl) h2
  clear hA0 hval0
  simp only [List.append_nil] at hW'
  refine (walk a0 a1 a2 w0 w1 w2 W).mono fun e W' ⟨he, hg⟩ => ?_
  subst he
  exact ⟨_, rfl, post_of_below (pa := []) (pv := []) hW' (fun _ _ _ => (trodAll_cons_mk (shut_bool Try.underlying4 _) trodAll_mk0)) (fun sp _ => (trodAll_cons_mk (shut_int Try.underlying3 w0) (trodAll_cons_mk (shut_int Try.underlying3 w1) (trodAll_cons_mk (shut_string Try.underlying9 w2) trodAll_mk0)))) (fun _ _ => rfl) hg⟩

theorem over : Rows.bitsBackRow.holds Try.pinned (OpenSpec.ofChange Rows.bitsBackSpec) :=
  OpenClaim.holds_of_wide 8 Try.f8 rfl rfl rfl rfl rfl rfl rfl ⟨rfl, rfl, rfl, rfl, rfl⟩ rfl rfl rfl rfl rfl (by kernel_rfl) Try.func8 (by kernel_rfl)
    (of_decide_eq_true (by kernel_rfl)) (by unfold Func.isWrapper; first | (rw [if_pos (by decide +kernel)]; kernel_rfl) | (rw [if_neg (by decide +kernel)]; exact ⟨rfl, rfl⟩))
    (fun os started H enc _ => lifted os started H enc)

theorem proved : Rows.BitsBackSaid :=
  over
#print axioms proved
end Go.Proofs.Ytcljbfembnbeiaa.bitsBack
