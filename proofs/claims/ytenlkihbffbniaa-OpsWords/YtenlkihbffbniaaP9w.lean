/- OpsWords: all words, decoded and encoded again. -/
import Derived.Test.YtenlkihbffbniaaP8
import Derived.Test.YtenlkihbffbniaaP9
namespace Go.Proofs.Ytenlkihbffbniaa
open Go Go.RowKit
set_option linter.unusedVariables false
set_option maxHeartbeats 1000000
set_option maxRecDepth 20000

theorem OdR.put {o : Od} (h : OdR o) (k v : Nat) (hv : v < 65536) : OdR (putK k o v) := by
  unfold putK
  split
  · exact ⟨h.op, Nat.mod_lt _ (by decide), h.y, h.n, h.b, h.a⟩
  · split
    · exact ⟨h.op, h.x, Nat.mod_lt _ (by decide), h.n, h.b, h.a⟩
    · split
      · exact ⟨h.op, h.x, h.y, Nat.mod_lt _ (by decide), h.b, h.a⟩
      · split
        · exact ⟨h.op, h.x, h.y, h.n, Nat.mod_lt _ (by decide), h.a⟩
        · exact ⟨h.op, h.x, h.y, h.n, h.b, hv⟩
theorem fldV_word (k w : Nat) (hw : w < 65536) : fldV k w < 65536 := by
  unfold fldV
  rw [Nat.shiftRight_eq_div_pow]
  exact Nat.lt_of_le_of_lt (Nat.div_le_self _ _) (Nat.lt_of_le_of_lt Nat.and_le_left hw)
theorem OdR.ord (w : Nat) (hw : w < 65536) : ∀ (fs : List Nat) (o : Od), OdR o → OdR (ordF o w fs) := by
  intro fs
  induction fs with
  | nil => intro o h; exact h
  | cons k fs ih => intro o h; exact ih _ (h.put k _ (fldV_word k w hw))
theorem OdR.zero (op : Nat) (h : op < 256) : OdR ⟨op, 0, 0, 0, 0, 0⟩ := ⟨h, (by decide : 0 < 256), (by decide : 0 < 256), (by decide : 0 < 256), (by decide : 0 < 256), (by decide : 0 < 65536)⟩
theorem decO_R (w : Nat) (hw : w < 65536) : OdR (decO w) := by
  unfold decO
  split
  · rename_i i hi
    exact OdR.ord w hw _ _ (OdR.zero _ (by have := (op_bnd i (fstI_of hi).1).2; omega))
  · exact OdR.zero 0 (by decide)
theorem words_walk (w : World) : Calls Try.prog 3 #[] w fun e w' => e = .returned (.bool true) ∧ Below w.heap.size w w' := by
  have hall : Hid (cntW 65536 = 47024) := cntW_all
  go_enter Try.func3, Try.ntmps3
  go_wp2
  go_loopw [2, 1] (fun i c wz => ∃ p n : Nat, (p : Int) ≤ 65536 ∧ i = .int .i64 (p : Int) ∧ c = .int .i64 (n : Int) ∧ (n : Int) ≤ p ∧ Hid (n = cntW p) ∧ Hid (Below w.heap.size w wz)) (fun i _ _ => (65536 - intOf i).toNat)
  case atStart => exact ⟨0, 0, by decide, rfl, rfl, by decide, (rfl : 0 = cntW 0), (Below.refl _ _ : Below w.heap.size w w)⟩
  case round =>
    obtain ⟨p, n, hp, rfl, rfl, hnp, hn, hb⟩ := hrel
    by_cases hlt : (p : Int) < 65536
    · have hp6 : Hid (p < 65536) := by show _ < _; omega
      have hp0 : (0 : Int) ≤ p := by omega
      have hn0 : (0 : Int) ≤ n := by omega
      have hdec := fun z => decode_any z p hp6.out
      have henc := fun z => encode_any z (decO p) (decO_R p hp6.out)
      have K0 : Hid (Fm wr [] wr) := Fm.nil wr
      have hlt' : Hid ((p : Int) < 65536) := hlt
      have hcv : ∀ z, (convert 3 23 (.int .i64 (p : Int))).run Try.prog z = .ok (.int .u16 (p : Int)) z := fun z => by go_simp; rw [IntKind.wrap_u16]; omega
      have hltd : decide ((p : Int) < 65536) = true := decide_eq_true hlt
      have hpp : ((p : Int) != p) = false := by simp
      replace hnp : Hid ((n : Int) ≤ p) := hnp
      have hnw : IntKind.i64.wrap ((n : Int) + 1) = (n : Int) + 1 := by rw [IntKind.wrap_i64]; have := hnp.out; omega
      have hpw : IntKind.i64.wrap ((p : Int) + 1) = (p : Int) + 1 := by rw [IntKind.wrap_i64]; omega
      clear hlt
      rcases hd : decB p with _ | _
      · have e0 := dec_none p hd
        have en : Hid (cntW (p + 1) = cntW p) := by show cntW p + _ = _; rw [hd]; rfl
        rw [hd, e0] at hdec
        rw [e0, enc_zero] at henc
        simp only [Option.getD_none, Option.isSome_none, Int.ofNat_zero, Bool.false_eq_true, if_false] at henc
        have hE : Hid (Eqs Try.prog 25 (o6 od0) (o6 od0) true) := eqO od0 od0
        clear hd e0 hp
        go_wp2_with (first
          | ((with_reducible refine at_ne hE.out (.tmp 24) (.tmp 25) 25 ?_ ?_ ?_ ?_ ?_); kernel_rfl; rfl; rfl; rfl)
          | ((with_reducible refine at_load rtO y1.heap.size (o6 od0) ?_ ?_ (.tmp 3) ?_ ?_ ?_ ?_); exact K4.out.bx 0 _ _ _ rfl; rfl; kernel_rfl; rfl; rfl)
          | (go_at_call 5; refine (henc _).mono ?_; rintro e y4 ⟨rfl, hb4⟩; have K4 : Hid (Fm wr [(y1.heap.size, o6 od0, 25)] y4) := K3.out.below hb4)
          | ((with_reducible refine at_load rtO y1.heap.size (o6 od0) ?_ ?_ (.tmp 3) ?_ ?_ ?_ ?_); exact K3.out.bx 0 _ _ _ rfl; rfl; kernel_rfl; rfl; rfl)
          | ((with_reducible refine at_st rtO y1.heap.size (o6 od0) (o6 od0) ?_ ?_ ?_ ?_ (.tmp 3) (.tmp 15) ?_ ?_ ?_ ?_ ?_); exact K2.out.bx 0 _ _ _ rfl; rfl; rfl; exact o6_one _; rfl; rfl; rfl; rfl; intro y3 hw3; have K3 : Hid (Fm wr [(y1.heap.size, o6 od0, 25)] y3) := K2.out.put 0 _ _ _ _ rfl hw3.out)
          | ((with_reducible refine gen_world (y1.alloc (.cells #[.int .u8 0, .int .u8 0, .int .u8 0, .int .u8 0, .int .u8 0, .int .u16 0] 25)) (Fm wr [(y1.heap.size, o6 od0, 25)]) ?_ ?_); exact K1.out.new _ _; intro y2 K2)
          | (go_at_call 4; refine (hdec _).mono ?_; rintro e y1 ⟨rfl, hb1⟩; have K1 : Hid (Fm wr [] y1) := K0.out.below hb1))
        go_roundw
        case rel => exact ⟨p + 1, n, by have := hlt'.out; omega, by simp [], rfl, by have := hnp.out; omega, by rw [en.out]; exact hn, hb.out.trans (K4.out.low.mono hb.out.size)⟩
        case measure => have := hlt'.out; simp [intOf]; omega
      · obtain ⟨o1, o2⟩ := dec_op p hd
        have e1 := enc_dec p hp6.out hd
        have en : Hid (cntW (p + 1) = cntW p + 1) := by show cntW p + _ = _; rw [hd]; rfl
        rw [hd] at hdec
        rw [e1] at henc
        simp only [Option.getD_some, Option.isSome_some, if_true] at henc
        generalize decO p = O at hdec henc o1 o2
        obtain ⟨x, hx⟩ : ∃ x : Int, (O.op : Int) = x := ⟨_, rfl⟩
        have o3' : decide (x < 1) = false := decide_eq_false (by omega)
        have o4' : decide (31 < x) = false := decide_eq_false (by omega)
        have hcell : Hid ((o6 O)[0]? = some (.int .u8 x)) := by show _ = _; rw [← hx]; rfl
        clear hd e1 hp o1 o2 hx
        go_wp2_with (first
          | (go_at_call 5; refine (henc _).mono ?_; rintro e y4 ⟨rfl, hb4⟩; have K4 : Hid (Fm wr [(y1.heap.size, o6 O, 25)] y4) := K3.out.below hb4; have d0 := (K4.out.bx 0 _ _ _ rfl).c 0 (.int .u8 x) hcell.out)
          | ((with_reducible refine at_load rtO y1.heap.size (o6 O) ?_ ?_ (.tmp 3) ?_ ?_ ?_ ?_); exact K3.out.bx 0 _ _ _ rfl; rfl; kernel_rfl; rfl; rfl)
          | ((with_reducible refine at_st rtO y1.heap.size (o6 od0) (o6 O) ?_ ?_ ?_ ?_ (.tmp 3) (.tmp 15) ?_ ?_ ?_ ?_ ?_); exact K2.out.bx 0 _ _ _ rfl; rfl; rfl; exact o6_one _; rfl; rfl; rfl; rfl; intro y3 hw3; have K3 : Hid (Fm wr [(y1.heap.size, o6 O, 25)] y3) := K2.out.put 0 _ _ _ _ rfl hw3.out)
          | ((with_reducible refine gen_world (y1.alloc (.cells #[.int .u8 0, .int .u8 0, .int .u8 0, .int .u8 0, .int .u8 0, .int .u16 0] 25)) (Fm wr [(y1.heap.size, o6 od0, 25)]) ?_ ?_); exact K1.out.new _ _; intro y2 K2)
          | (go_at_call 4; refine (hdec _).mono ?_; rintro e y1 ⟨rfl, hb1⟩; have K1 : Hid (Fm wr [] y1) := K0.out.below hb1))
        go_roundw
        case rel => exact ⟨p + 1, n + 1, by have := hlt'.out; omega, by simp [], by simp [], by have := hnp.out; omega, by rw [en.out, ← hn.out]; rfl, hb.out.trans (K4.out.low.mono hb.out.size)⟩
        case measure => have := hlt'.out; simp [intOf]; omega
    · have hpe : p = 65536 := by omega
      have hne : Hid (((n : Int) == 47024) = true) := by
        show _ = _
        rw [hn.out, hpe, hall.out]
        rfl
      have hne' := hne.out
      clear hpe hall
      go_wp2
      go_ret
      exact ⟨rfl, hb.out⟩
end Go.Proofs.Ytenlkihbffbniaa
