/- The document's own: a label's name; a field of a line's word. -/
import Derived.Test.YthaijjehplomfaaDoorJ15
import Derived.Test.YthaijjehplomfaaDoorJ12
import Derived.Test.YthaijjehplomfaaDoorJ7
namespace Go.Proofs.YthaijjehplomfaaDoor
open Go Go.RowKit
set_option linter.unusedVariables false
set_option maxHeartbeats 1000000
set_option maxRecDepth 20000

theorem emp_is (s : ByteArray) : s.toList.isEmpty = decide (s.size = 0) := by
  rw [toList_eq]
  rcases h : s.data.toList with _ | ⟨a, r⟩
  · have : s.size = 0 := by show s.data.size = 0; rw [← Array.length_toList, h]; rfl
    simp [this]
  · have : s.size ≠ 0 := by show s.data.size ≠ 0; rw [← Array.length_toList, h]; simp
    simp [this]
theorem emp_no {s : ByteArray} (h : s.size ≠ 0) : s.toList.isEmpty = false := by rw [emp_is]; exact decide_eq_false h
theorem risn_any (s : ByteArray) (w : World) : Calls Tryd.prog 75 #[.string s] w fun e w' => e = .returned (.bool (isNm s)) ∧ w' = w := by
  obtain ⟨b, hb⟩ : ∃ b, Hid (isNm s = b) := ⟨_, (rfl : isNm s = isNm s)⟩
  rw [hb.out]
  by_cases h0 : s.size = 0
  · obtain rfl := size_zero h0
    have hq : (⟨#[]⟩ : ByteArray).toList.isEmpty = true := emp_is _
    go_enter Tryd.func75, Tryd.ntmps75
    go_wp2
    go_ret
    exact ⟨bool_ret (by rw [← hb.out]; exact (decide_eq_false fun h => absurd h.1 (by decide)).symm), rfl⟩
  · have hp : (0 : Int) < s.size := by omega
    have hq := emp_no (s := s) h0
    by_cases h1 : s.size ≤ 16
    · have h1i : (s.size : Int) ≤ 16 := by omega
      by_cases h2 : 97 ≤ (s[0]'(by omega)).toNat ∧ (s[0]'(by omega)).toNat ≤ 122
      · have g1 : decide (((s[0]'(by omega)).toNat : Int) < 97) = false := decide_eq_false (by omega)
        have g2 : decide ((122 : Int) < ((s[0]'(by omega)).toNat : Int)) = false := decide_eq_false (by omega)
        have h2' : Hid (97 ≤ (s[0]'(by omega)).toNat ∧ (s[0]'(by omega)).toNat ≤ 122) := h2
        clear h2
        go_enter Tryd.func75, Tryd.ntmps75
        go_wp2
        go_loopw [3] (fun i wz => ∃ p : Nat, p ≤ s.size ∧ i = .int .i64 (p : Int) ∧ Hid (∀ j (h : j < s.size), j < p → nmc (s[j]'h) = true) ∧ wz = w) (fun i _ => (s.size - intOf i).toNat)
        case atStart => exact ⟨0, by omega, rfl, (fun j _ h => absurd h (by omega) : ∀ j (h : j < s.size), j < 0 → nmc (s[j]'h) = true), rfl⟩
        case round =>
          obtain ⟨p, hps, rfl, J, rfl⟩ := hrel
          by_cases hlt : p < s.size
          · have hpi : (p : Int) < s.size := by omega
            have hlt' : Hid (p < s.size) := hlt
            by_cases hn : nmc (s[p]'hlt) = true
            · have fin : Hid (∀ j (h : j < s.size), j < p + 1 → nmc (s[j]'h) = true) := fun j h hj => by
                rcases Nat.lt_succ_iff_lt_or_eq.1 hj with h' | rfl
                · exact J.out j h h'
                · exact hn
              have hn' := of_decide_eq_true hn
              replace hn : Hid _ := hn
              rcases (show (97 : Int) ≤ ((s[p]'hlt).toNat : Int) ∧ ((s[p]'hlt).toNat : Int) ≤ 122 ∨ (48 : Int) ≤ ((s[p]'hlt).toNat : Int) ∧ ((s[p]'hlt).toNat : Int) ≤ 57 ∨ ((s[p]'hlt).toNat : Int) = 45 by omega) with k | k | k
              · have e_a : decide (((s[p]'hlt).toNat : Int) < 97) = false := decide_eq_false (by omega)
                have e_b : decide ((122 : Int) < ((s[p]'hlt).toNat : Int)) = false := decide_eq_false (by omega)
                clear hn' k
                go_wp2
                go_roundw
                case rel => exact ⟨p + 1, by have := hlt'.out; omega, by simp, fin, by first | trivial | rfl⟩
                case measure => have := hlt'.out; simp [intOf]; omega
              · have e_a : decide (((s[p]'hlt).toNat : Int) < 97) = true := decide_eq_true (by omega)
                have e_c : decide (((s[p]'hlt).toNat : Int) < 48) = false := decide_eq_false (by omega)
                have e_d : decide ((57 : Int) < ((s[p]'hlt).toNat : Int)) = false := decide_eq_false (by omega)
                clear hn' k
                go_wp2
                go_roundw
                case rel => exact ⟨p + 1, by have := hlt'.out; omega, by simp, fin, by first | trivial | rfl⟩
                case measure => have := hlt'.out; simp [intOf]; omega
              · have e_a : decide (((s[p]'hlt).toNat : Int) < 97) = true := decide_eq_true (by omega)
                have e_c : decide (((s[p]'hlt).toNat : Int) < 48) = true := decide_eq_true (by omega)
                have e_e : (((s[p]'hlt).toNat : Int) != 45) = false := by rw [bne_eq_false_iff_eq]; omega
                clear hn' k
                go_wp2
                go_roundw
                case rel => exact ⟨p + 1, by have := hlt'.out; omega, by simp, fin, by first | trivial | rfl⟩
                case measure => have := hlt'.out; simp [intOf]; omega
            · have fin : Hid (isNm s = false) := decide_eq_false fun h => hn (h.2.2.2 p hlt)
              have hn' : ¬ ((97 ≤ (s[p]'hlt).toNat ∧ (s[p]'hlt).toNat ≤ 122) ∨ (48 ≤ (s[p]'hlt).toNat ∧ (s[p]'hlt).toNat ≤ 57) ∨ (s[p]'hlt).toNat = 45) := fun h => hn (decide_eq_true h)
              replace hn : Hid _ := hn
              rcases (show ((s[p]'hlt).toNat : Int) < 48 ∧ ((s[p]'hlt).toNat : Int) ≠ 45 ∨ (57 : Int) < ((s[p]'hlt).toNat : Int) ∧ ((s[p]'hlt).toNat : Int) < 97 ∨ (122 : Int) < ((s[p]'hlt).toNat : Int) by omega) with k | k | k
              · have e_a : decide (((s[p]'hlt).toNat : Int) < 97) = true := decide_eq_true (by omega)
                have e_c : decide (((s[p]'hlt).toNat : Int) < 48) = true := decide_eq_true (by omega)
                have e_e : (((s[p]'hlt).toNat : Int) != 45) = true := by rw [bne_iff_ne]; omega
                clear hn' k
                go_wp2
                go_ret
                exact ⟨bool_ret (by rw [← hb.out, fin.out]), rfl⟩
              · have e_a : decide (((s[p]'hlt).toNat : Int) < 97) = true := decide_eq_true (by omega)
                have e_c : decide (((s[p]'hlt).toNat : Int) < 48) = false := decide_eq_false (by omega)
                have e_d : decide ((57 : Int) < ((s[p]'hlt).toNat : Int)) = true := decide_eq_true (by omega)
                have e_e : (((s[p]'hlt).toNat : Int) != 45) = true := by rw [bne_iff_ne]; omega
                clear hn' k
                go_wp2
                go_ret
                exact ⟨bool_ret (by rw [← hb.out, fin.out]), rfl⟩
              · have e_a : decide (((s[p]'hlt).toNat : Int) < 97) = false := decide_eq_false (by omega)
                have e_b : decide ((122 : Int) < ((s[p]'hlt).toNat : Int)) = true := decide_eq_true (by omega)
                have e_c : decide (((s[p]'hlt).toNat : Int) < 48) = false := decide_eq_false (by omega)
                have e_d : decide ((57 : Int) < ((s[p]'hlt).toNat : Int)) = true := decide_eq_true (by omega)
                have e_e : (((s[p]'hlt).toNat : Int) != 45) = true := by rw [bne_iff_ne]; omega
                clear hn' k
                go_wp2
                go_ret
                exact ⟨bool_ret (by rw [← hb.out, fin.out]), rfl⟩
          · have hpe : p = s.size := by omega
            subst hpe
            go_wp2
            go_ret
            exact ⟨bool_ret (by rw [← hb.out]; exact (decide_eq_true ⟨by omega, h1, ⟨by omega, h2'.out⟩, fun j h => J.out j h h⟩).symm), rfl⟩
      · have fin : Hid (isNm s = false) := decide_eq_false fun h => h2 h.2.2.1.2
        rcases (show ((s[0]'(by omega)).toNat : Int) < 97 ∨ (122 : Int) < ((s[0]'(by omega)).toNat : Int) by omega) with k | k
        all_goals
          clear h2
          go_enter Tryd.func75, Tryd.ntmps75
          go_wp2
        all_goals go_ret
        all_goals exact ⟨bool_ret (by rw [← hb.out, fin.out]), rfl⟩
    · have h1i : (16 : Int) < s.size := by omega
      have fin : Hid (isNm s = false) := decide_eq_false fun h => h1 h.2.1
      go_enter Tryd.func75, Tryd.ntmps75
      go_wp2
      go_ret
      exact ⟨bool_ret (by rw [← hb.out, fin.out]), rfl⟩
/-- What read makes of an order. -/
def rdE (k : Nat) (s : List UInt8) (o : Od) : Od × Bool := match rdK k s with
  | none => (o, false)
  | some v => (putK k o v, true)
theorem rdK_v (k : Nat) (hk : k < 2) (s : ByteArray) (h2 : s.size = 2) (h0 : s[0]'(by omega) = 118) : rdK k s.data.toList = numK (s.extract 1 2).data.toList 1 := by
  have hd : s.data.toList = 118 :: (s.extract 1 2).data.toList := by
    cases s with
    | mk d =>
      have hs : d.size = 2 := h2
      have h9 : d[0]'(by omega) = 118 := h0
      apply List.ext_getElem
      · simp [hs, ByteArray.data_extract]
      · intro j h3 h4
        simp at h3
        rcases (show j = 0 ∨ j = 1 by omega) with rfl | rfl
        · simpa using h9
        · simp [ByteArray.data_extract]
  have e1 : ledK k = [118] := by unfold ledK; rcases (show k = 0 ∨ k = 1 by omega) with rfl | rfl <;> rfl
  have e2 : digK k = 1 := by unfold digK; rcases (show k = 0 ∨ k = 1 by omega) with rfl | rfl <;> rfl
  unfold rdK
  rw [e1, e2, hd]
  rfl
theorem rdK_n (k : Nat) (hk : k < 2) (s : ByteArray) (h : ¬ (s.size = 2 ∧ ∃ h : 0 < s.size, s[0]'h = 118)) : rdK k s.data.toList = none := by
  have e1 : ledK k = [118] := by unfold ledK; rcases (show k = 0 ∨ k = 1 by omega) with rfl | rfl <;> rfl
  have e2 : digK k = 1 := by unfold digK; rcases (show k = 0 ∨ k = 1 by omega) with rfl | rfl <;> rfl
  unfold rdK
  rw [e1, e2]
  split
  · rename_i hp
    unfold Lib.hasPrefix at hp
    rw [List.isPrefixOf_iff_prefix] at hp
    obtain ⟨t, ht⟩ := hp
    unfold numK
    rw [if_neg]
    intro hl
    rw [← ht] at hl
    simp at hl
    have hsz := sz_list s
    rw [← ht] at hsz
    simp [hl] at hsz
    refine h ⟨by omega, by omega, ?_⟩
    have h0 : s.data.toList[0]? = some 118 := by rw [← ht]; rfl
    rw [Array.getElem?_toList, Array.getElem?_eq_getElem (show 0 < s.data.size from (by have : s.size = s.data.size := rfl; omega))] at h0
    injection h0
  · rfl
theorem rdK_p (k : Nat) (hk : 2 ≤ k) (s : List UInt8) : rdK k s = numK s (digK k) := by
  have e1 : ledK k = [] := by unfold ledK; rw [if_neg (by omega), if_neg (by omega)]
  unfold rdK
  rw [e1]
  rfl
theorem rread_0 (w : World) (o : Od) (ho : OdR o) (s : ByteArray) (hs : s.size ≤ 9223372036854775807) : Calls Tryd.prog 42 #[.agg (o6 o), .int .u8 120, .string s] w fun e w' => e = .returned (.tuple #[.agg (o6 (rdE 0 s.data.toList o).1), .bool (rdE 0 s.data.toList o).2]) ∧ Below w.heap.size w w' := by
  have hF : Hid ((Fm w [(w.heap.size, o6 o, 30), (w.heap.size + 1, o6 od0, 30)]) ((w.alloc (.cells (o6 o) 30)).alloc (.cells #[.int .u8 0, .int .u8 0, .int .u8 0, .int .u8 0, .int .u8 0, .int .u16 0] 30))) := Fm.two w _ _ _ _
  by_cases hA : s.size = 2 ∧ ∃ h : 0 < s.size, s[0]'h = 118
  · obtain ⟨h2, hp, h0⟩ := hA
    have hrp := rdK_v 0 (by omega) s h2 h0
    have hN := fun z => rnumber_any z (s.extract 1 2) 1 (by omega) (by rw [ByteArray.size_extract]; omega)
    have hsz : (s.size : Int) = 2 := by omega
    have ixs : ∀ v, (Instr.index 9 (.string s) (.int .i64 0)).run Tryd.prog v = .ok (.int .u8 118) v := fun v => by
      rw [run_index_string v _ s _ _ Tryd.underlying9, dif_pos ⟨by omega, by omega⟩]
      congr 2
      have : s[(0 : Int).toNat]'(by omega) = 118 := h0
      rw [this]
      rfl
    have hsl : ∀ z, (Instr.sliceAt 9 (.string s) (some (.int .i64 1)) none none).run Tryd.prog z = .ok (.string (s.extract 1 2)) z := fun z => by
      rw [run_sliceAt_string z _ _ _ _ _ Tryd.underlying9, run_slice_string_l z _ s Tryd.underlying9 .i64 1 (by omega) (by omega), h2]
      rfl
    generalize s.extract 1 2 = X at hrp hN hsl
    unfold rdE
    rcases hr : rdK 0 s.data.toList with _ | v
    · rw [show numK X.data.toList 1 = none from hrp.symm.trans hr] at hN
      dsimp only at hN ⊢
      clear hrp hr ho h2 h0 hs
      go_enter Tryd.func42, Tryd.ntmps42
      go_wp2_with (first
        | ((with_reducible refine at_st rtO (w.heap.size + 1) (o6 od0) (o6 o) ?_ ?_ ?_ ?_ (.tmp 6) (.tmp 38) ?_ ?_ ?_ ?_ ?_); exact K1.out.bx 1 _ _ _ rfl; rfl; rfl; exact o6_one _; rfl; rfl; rfl; rfl; intro y4 hw4; have K4 : Hid (Fm w [(w.heap.size, o6 o, 30), (w.heap.size + 1, o6 o, 30)] y4) := K1.out.put 1 _ _ _ _ rfl hw4.out)
        | ((with_reducible refine at_load rtO w.heap.size (o6 o) ?_ ?_ (.tmp 3) ?_ ?_ ?_ ?_); exact K1.out.bx 0 _ _ _ rfl; rfl; kernel_rfl; rfl; rfl)
        | (go_at_call 69; refine (hN _).mono ?_; rintro e z ⟨rfl, hz⟩; replace hz := hz.symm; subst hz)
        | ((with_reducible refine gen_world ((w.alloc (.cells (o6 o) 30)).alloc (.cells #[.int .u8 0, .int .u8 0, .int .u8 0, .int .u8 0, .int .u8 0, .int .u16 0] 30)) (Fm w [(w.heap.size, o6 o, 30), (w.heap.size + 1, o6 od0, 30)]) hF.out ?_); intro y1 K1))
      exact ret_two (v := .bool false) rtO rfl rfl rfl (K4.out.bx 1 _ _ _ rfl) rfl rfl ⟨rfl, K4.out.low⟩
    · rw [show numK X.data.toList 1 = some v from hrp.symm.trans hr] at hN
      dsimp only at hN ⊢
      clear hrp ho h2 h0 hs
      have hv := rdK_lt hr
      obtain ⟨v8, hv8⟩ : ∃ v8, v % 256 = v8 := ⟨_, rfl⟩
      have hcv : ∀ z, (convert 3 5 (.int .i64 (v : Int))).run Tryd.prog z = .ok (.int .u8 (v8 : Int)) z := fun z => by rw [← hv8]; go_simp; try (rw [IntKind.wrap_u8]; omega)
      obtain ⟨OP, hOPe⟩ : ∃ OP, o6 (putK 0 o v) = OP := ⟨_, rfl⟩
      have hOP : Hid ((o6 o).setIfInBounds 1 (.int .u8 (v8 : Int)) = OP ∧ OP.size = 6 ∧ OP.all (·.oneCell') = true) := ⟨by rw [← hOPe, ← hv8]; rfl, by rw [← hOPe]; rfl, by rw [← hOPe]; exact o6_one _⟩
      have c0 : (o6 o)[1]? = some (.int .u8 o.x) := rfl
      have vi : ¬ (v : Int) < 0 := by omega
      rw [hOPe]
      clear hOPe hr hv hv8
      go_enter Tryd.func42, Tryd.ntmps42
      go_wp2_with (first
        | ((with_reducible refine at_st rtO (w.heap.size + 1) (o6 od0) OP ?_ ?_ ?_ ?_ (.tmp 6) (.tmp 65) ?_ ?_ ?_ ?_ ?_); exact K3.out.bx 1 _ _ _ rfl; rfl; exact hOP.out.2.1; exact hOP.out.2.2; rfl; rfl; rfl; rfl; intro y4 hw4; have K4 : Hid (Fm w [(w.heap.size, OP, 30), (w.heap.size + 1, OP, 30)] y4) := K3.out.put 1 _ _ _ _ rfl hw4.out)
        | ((with_reducible refine at_load rtO w.heap.size OP ?_ ?_ (.tmp 3) ?_ ?_ ?_ ?_); exact K3.out.bx 0 _ _ _ rfl; exact hOP.out.2.1; kernel_rfl; rfl; rfl)
        | ((with_reducible refine gen_world (y1.setCell ⟨w.heap.size, 1, none⟩ (.int .u8 (v8 : Int))) (Fm w [(w.heap.size, OP, 30), (w.heap.size + 1, o6 od0, 30)]) ?_ ?_); exact K1.out.setCell 0 _ _ _ _ rfl 1 _ hOP.out.1; intro y3 K3)
        | (go_at_call 69; refine (hN _).mono ?_; rintro e z ⟨rfl, hz⟩; replace hz := hz.symm; subst hz)
        | ((with_reducible refine gen_world ((w.alloc (.cells (o6 o) 30)).alloc (.cells #[.int .u8 0, .int .u8 0, .int .u8 0, .int .u8 0, .int .u8 0, .int .u16 0] 30)) (Fm w [(w.heap.size, o6 o, 30), (w.heap.size + 1, o6 od0, 30)]) hF.out ?_); intro y1 K1; have d := (K1.out.bx 0 _ _ _ rfl).c 1 _ c0; have zf := (K1.out.bx 0 _ _ _ rfl).fz 1))
      exact ret_two (v := .bool true) rtO rfl rfl rfl (K4.out.bx 1 _ _ _ rfl) hOP.out.2.1 rfl ⟨rfl, K4.out.low⟩
  · have hr := rdK_n 0 (by omega) s hA
    unfold rdE
    rw [hr]
    dsimp only
    by_cases h2 : s.size = 2
    · have hp : 0 < s.size := by omega
      obtain ⟨b, hb⟩ : ∃ b, s[0]'hp = b := ⟨_, rfl⟩
      have hbn : b ≠ 118 := fun e => hA ⟨h2, hp, by rw [hb, e]⟩
      have hsz : (s.size : Int) = 2 := by omega
      have e1 : ((b.toNat : Int) == 118) = false := by
        rw [beq_eq_false_iff_ne]
        intro e
        exact hbn (UInt8.toNat_inj.1 (show b.toNat = 118 by omega))
      have ixs : ∀ v, (Instr.index 9 (.string s) (.int .i64 0)).run Tryd.prog v = .ok (.int .u8 (b.toNat : Int)) v := fun v => by
        rw [run_index_string v _ s _ _ Tryd.underlying9, dif_pos ⟨by omega, by omega⟩, ← hb]
        congr 3
      obtain ⟨bn, hbe⟩ : ∃ bn : Int, (b.toNat : Int) = bn := ⟨_, rfl⟩
      rw [hbe] at e1 ixs
      clear hA hr hb hbn hbe h2 hs ho
      go_enter Tryd.func42, Tryd.ntmps42
      go_wp2_with (first
        | ((with_reducible refine at_st rtO (w.heap.size + 1) (o6 od0) (o6 o) ?_ ?_ ?_ ?_ (.tmp 6) (.tmp 38) ?_ ?_ ?_ ?_ ?_); exact K1.out.bx 1 _ _ _ rfl; rfl; rfl; exact o6_one _; rfl; rfl; rfl; rfl; intro y4 hw4; have K4 : Hid (Fm w [(w.heap.size, o6 o, 30), (w.heap.size + 1, o6 o, 30)] y4) := K1.out.put 1 _ _ _ _ rfl hw4.out)
        | ((with_reducible refine at_load rtO w.heap.size (o6 o) ?_ ?_ (.tmp 3) ?_ ?_ ?_ ?_); exact K1.out.bx 0 _ _ _ rfl; rfl; kernel_rfl; rfl; rfl)
        | ((with_reducible refine gen_world ((w.alloc (.cells (o6 o) 30)).alloc (.cells #[.int .u8 0, .int .u8 0, .int .u8 0, .int .u8 0, .int .u8 0, .int .u16 0] 30)) (Fm w [(w.heap.size, o6 o, 30), (w.heap.size + 1, o6 od0, 30)]) hF.out ?_); intro y1 K1))
      exact ret_two (v := .bool false) rtO rfl rfl rfl (K4.out.bx 1 _ _ _ rfl) rfl rfl ⟨rfl, K4.out.low⟩
    · have e1 : ((s.size : Int) == 2) = false := by simp; omega
      clear hA hr h2 hs ho
      go_enter Tryd.func42, Tryd.ntmps42
      go_wp2_with (first
        | ((with_reducible refine at_st rtO (w.heap.size + 1) (o6 od0) (o6 o) ?_ ?_ ?_ ?_ (.tmp 6) (.tmp 38) ?_ ?_ ?_ ?_ ?_); exact K1.out.bx 1 _ _ _ rfl; rfl; rfl; exact o6_one _; rfl; rfl; rfl; rfl; intro y4 hw4; have K4 : Hid (Fm w [(w.heap.size, o6 o, 30), (w.heap.size + 1, o6 o, 30)] y4) := K1.out.put 1 _ _ _ _ rfl hw4.out)
        | ((with_reducible refine at_load rtO w.heap.size (o6 o) ?_ ?_ (.tmp 3) ?_ ?_ ?_ ?_); exact K1.out.bx 0 _ _ _ rfl; rfl; kernel_rfl; rfl; rfl)
        | ((with_reducible refine gen_world ((w.alloc (.cells (o6 o) 30)).alloc (.cells #[.int .u8 0, .int .u8 0, .int .u8 0, .int .u8 0, .int .u8 0, .int .u16 0] 30)) (Fm w [(w.heap.size, o6 o, 30), (w.heap.size + 1, o6 od0, 30)]) hF.out ?_); intro y1 K1))
      exact ret_two (v := .bool false) rtO rfl rfl rfl (K4.out.bx 1 _ _ _ rfl) rfl rfl ⟨rfl, K4.out.low⟩
theorem rread_1 (w : World) (o : Od) (ho : OdR o) (s : ByteArray) (hs : s.size ≤ 9223372036854775807) : Calls Tryd.prog 42 #[.agg (o6 o), .int .u8 121, .string s] w fun e w' => e = .returned (.tuple #[.agg (o6 (rdE 1 s.data.toList o).1), .bool (rdE 1 s.data.toList o).2]) ∧ Below w.heap.size w w' := by
  have hF : Hid ((Fm w [(w.heap.size, o6 o, 30), (w.heap.size + 1, o6 od0, 30)]) ((w.alloc (.cells (o6 o) 30)).alloc (.cells #[.int .u8 0, .int .u8 0, .int .u8 0, .int .u8 0, .int .u8 0, .int .u16 0] 30))) := Fm.two w _ _ _ _
  by_cases hA : s.size = 2 ∧ ∃ h : 0 < s.size, s[0]'h = 118
  · obtain ⟨h2, hp, h0⟩ := hA
    have hrp := rdK_v 1 (by omega) s h2 h0
    have hN := fun z => rnumber_any z (s.extract 1 2) 1 (by omega) (by rw [ByteArray.size_extract]; omega)
    have hsz : (s.size : Int) = 2 := by omega
    have ixs : ∀ v, (Instr.index 9 (.string s) (.int .i64 0)).run Tryd.prog v = .ok (.int .u8 118) v := fun v => by
      rw [run_index_string v _ s _ _ Tryd.underlying9, dif_pos ⟨by omega, by omega⟩]
      congr 2
      have : s[(0 : Int).toNat]'(by omega) = 118 := h0
      rw [this]
      rfl
    have hsl : ∀ z, (Instr.sliceAt 9 (.string s) (some (.int .i64 1)) none none).run Tryd.prog z = .ok (.string (s.extract 1 2)) z := fun z => by
      rw [run_sliceAt_string z _ _ _ _ _ Tryd.underlying9, run_slice_string_l z _ s Tryd.underlying9 .i64 1 (by omega) (by omega), h2]
      rfl
    generalize s.extract 1 2 = X at hrp hN hsl
    unfold rdE
    rcases hr : rdK 1 s.data.toList with _ | v
    · rw [show numK X.data.toList 1 = none from hrp.symm.trans hr] at hN
      dsimp only at hN ⊢
      clear hrp hr ho h2 h0 hs
      go_enter Tryd.func42, Tryd.ntmps42
      go_wp2_with (first
        | ((with_reducible refine at_st rtO (w.heap.size + 1) (o6 od0) (o6 o) ?_ ?_ ?_ ?_ (.tmp 6) (.tmp 38) ?_ ?_ ?_ ?_ ?_); exact K1.out.bx 1 _ _ _ rfl; rfl; rfl; exact o6_one _; rfl; rfl; rfl; rfl; intro y4 hw4; have K4 : Hid (Fm w [(w.heap.size, o6 o, 30), (w.heap.size + 1, o6 o, 30)] y4) := K1.out.put 1 _ _ _ _ rfl hw4.out)
        | ((with_reducible refine at_load rtO w.heap.size (o6 o) ?_ ?_ (.tmp 3) ?_ ?_ ?_ ?_); exact K1.out.bx 0 _ _ _ rfl; rfl; kernel_rfl; rfl; rfl)
        | (go_at_call 69; refine (hN _).mono ?_; rintro e z ⟨rfl, hz⟩; replace hz := hz.symm; subst hz)
        | ((with_reducible refine gen_world ((w.alloc (.cells (o6 o) 30)).alloc (.cells #[.int .u8 0, .int .u8 0, .int .u8 0, .int .u8 0, .int .u8 0, .int .u16 0] 30)) (Fm w [(w.heap.size, o6 o, 30), (w.heap.size + 1, o6 od0, 30)]) hF.out ?_); intro y1 K1))
      exact ret_two (v := .bool false) rtO rfl rfl rfl (K4.out.bx 1 _ _ _ rfl) rfl rfl ⟨rfl, K4.out.low⟩
    · rw [show numK X.data.toList 1 = some v from hrp.symm.trans hr] at hN
      dsimp only at hN ⊢
      clear hrp ho h2 h0 hs
      have hv := rdK_lt hr
      obtain ⟨v8, hv8⟩ : ∃ v8, v % 256 = v8 := ⟨_, rfl⟩
      have hcv : ∀ z, (convert 3 5 (.int .i64 (v : Int))).run Tryd.prog z = .ok (.int .u8 (v8 : Int)) z := fun z => by rw [← hv8]; go_simp; try (rw [IntKind.wrap_u8]; omega)
      obtain ⟨OP, hOPe⟩ : ∃ OP, o6 (putK 1 o v) = OP := ⟨_, rfl⟩
      have hOP : Hid ((o6 o).setIfInBounds 2 (.int .u8 (v8 : Int)) = OP ∧ OP.size = 6 ∧ OP.all (·.oneCell') = true) := ⟨by rw [← hOPe, ← hv8]; rfl, by rw [← hOPe]; rfl, by rw [← hOPe]; exact o6_one _⟩
      have c0 : (o6 o)[2]? = some (.int .u8 o.y) := rfl
      have vi : ¬ (v : Int) < 0 := by omega
      rw [hOPe]
      clear hOPe hr hv hv8
      go_enter Tryd.func42, Tryd.ntmps42
      go_wp2_with (first
        | ((with_reducible refine at_st rtO (w.heap.size + 1) (o6 od0) OP ?_ ?_ ?_ ?_ (.tmp 6) (.tmp 65) ?_ ?_ ?_ ?_ ?_); exact K3.out.bx 1 _ _ _ rfl; rfl; exact hOP.out.2.1; exact hOP.out.2.2; rfl; rfl; rfl; rfl; intro y4 hw4; have K4 : Hid (Fm w [(w.heap.size, OP, 30), (w.heap.size + 1, OP, 30)] y4) := K3.out.put 1 _ _ _ _ rfl hw4.out)
        | ((with_reducible refine at_load rtO w.heap.size OP ?_ ?_ (.tmp 3) ?_ ?_ ?_ ?_); exact K3.out.bx 0 _ _ _ rfl; exact hOP.out.2.1; kernel_rfl; rfl; rfl)
        | ((with_reducible refine gen_world (y1.setCell ⟨w.heap.size, 2, none⟩ (.int .u8 (v8 : Int))) (Fm w [(w.heap.size, OP, 30), (w.heap.size + 1, o6 od0, 30)]) ?_ ?_); exact K1.out.setCell 0 _ _ _ _ rfl 2 _ hOP.out.1; intro y3 K3)
        | (go_at_call 69; refine (hN _).mono ?_; rintro e z ⟨rfl, hz⟩; replace hz := hz.symm; subst hz)
        | ((with_reducible refine gen_world ((w.alloc (.cells (o6 o) 30)).alloc (.cells #[.int .u8 0, .int .u8 0, .int .u8 0, .int .u8 0, .int .u8 0, .int .u16 0] 30)) (Fm w [(w.heap.size, o6 o, 30), (w.heap.size + 1, o6 od0, 30)]) hF.out ?_); intro y1 K1; have d := (K1.out.bx 0 _ _ _ rfl).c 2 _ c0; have zf := (K1.out.bx 0 _ _ _ rfl).fz 2))
      exact ret_two (v := .bool true) rtO rfl rfl rfl (K4.out.bx 1 _ _ _ rfl) hOP.out.2.1 rfl ⟨rfl, K4.out.low⟩
  · have hr := rdK_n 1 (by omega) s hA
    unfold rdE
    rw [hr]
    dsimp only
    by_cases h2 : s.size = 2
    · have hp : 0 < s.size := by omega
      obtain ⟨b, hb⟩ : ∃ b, s[0]'hp = b := ⟨_, rfl⟩
      have hbn : b ≠ 118 := fun e => hA ⟨h2, hp, by rw [hb, e]⟩
      have hsz : (s.size : Int) = 2 := by omega
      have e1 : ((b.toNat : Int) == 118) = false := by
        rw [beq_eq_false_iff_ne]
        intro e
        exact hbn (UInt8.toNat_inj.1 (show b.toNat = 118 by omega))
      have ixs : ∀ v, (Instr.index 9 (.string s) (.int .i64 0)).run Tryd.prog v = .ok (.int .u8 (b.toNat : Int)) v := fun v => by
        rw [run_index_string v _ s _ _ Tryd.underlying9, dif_pos ⟨by omega, by omega⟩, ← hb]
        congr 3
      obtain ⟨bn, hbe⟩ : ∃ bn : Int, (b.toNat : Int) = bn := ⟨_, rfl⟩
      rw [hbe] at e1 ixs
      clear hA hr hb hbn hbe h2 hs ho
      go_enter Tryd.func42, Tryd.ntmps42
      go_wp2_with (first
        | ((with_reducible refine at_st rtO (w.heap.size + 1) (o6 od0) (o6 o) ?_ ?_ ?_ ?_ (.tmp 6) (.tmp 38) ?_ ?_ ?_ ?_ ?_); exact K1.out.bx 1 _ _ _ rfl; rfl; rfl; exact o6_one _; rfl; rfl; rfl; rfl; intro y4 hw4; have K4 : Hid (Fm w [(w.heap.size, o6 o, 30), (w.heap.size + 1, o6 o, 30)] y4) := K1.out.put 1 _ _ _ _ rfl hw4.out)
        | ((with_reducible refine at_load rtO w.heap.size (o6 o) ?_ ?_ (.tmp 3) ?_ ?_ ?_ ?_); exact K1.out.bx 0 _ _ _ rfl; rfl; kernel_rfl; rfl; rfl)
        | ((with_reducible refine gen_world ((w.alloc (.cells (o6 o) 30)).alloc (.cells #[.int .u8 0, .int .u8 0, .int .u8 0, .int .u8 0, .int .u8 0, .int .u16 0] 30)) (Fm w [(w.heap.size, o6 o, 30), (w.heap.size + 1, o6 od0, 30)]) hF.out ?_); intro y1 K1))
      exact ret_two (v := .bool false) rtO rfl rfl rfl (K4.out.bx 1 _ _ _ rfl) rfl rfl ⟨rfl, K4.out.low⟩
    · have e1 : ((s.size : Int) == 2) = false := by simp; omega
      clear hA hr h2 hs ho
      go_enter Tryd.func42, Tryd.ntmps42
      go_wp2_with (first
        | ((with_reducible refine at_st rtO (w.heap.size + 1) (o6 od0) (o6 o) ?_ ?_ ?_ ?_ (.tmp 6) (.tmp 38) ?_ ?_ ?_ ?_ ?_); exact K1.out.bx 1 _ _ _ rfl; rfl; rfl; exact o6_one _; rfl; rfl; rfl; rfl; intro y4 hw4; have K4 : Hid (Fm w [(w.heap.size, o6 o, 30), (w.heap.size + 1, o6 o, 30)] y4) := K1.out.put 1 _ _ _ _ rfl hw4.out)
        | ((with_reducible refine at_load rtO w.heap.size (o6 o) ?_ ?_ (.tmp 3) ?_ ?_ ?_ ?_); exact K1.out.bx 0 _ _ _ rfl; rfl; kernel_rfl; rfl; rfl)
        | ((with_reducible refine gen_world ((w.alloc (.cells (o6 o) 30)).alloc (.cells #[.int .u8 0, .int .u8 0, .int .u8 0, .int .u8 0, .int .u8 0, .int .u16 0] 30)) (Fm w [(w.heap.size, o6 o, 30), (w.heap.size + 1, o6 od0, 30)]) hF.out ?_); intro y1 K1))
      exact ret_two (v := .bool false) rtO rfl rfl rfl (K4.out.bx 1 _ _ _ rfl) rfl rfl ⟨rfl, K4.out.low⟩
theorem rread_2 (w : World) (o : Od) (ho : OdR o) (s : ByteArray) (hs : s.size ≤ 9223372036854775807) : Calls Tryd.prog 42 #[.agg (o6 o), .int .u8 110, .string s] w fun e w' => e = .returned (.tuple #[.agg (o6 (rdE 2 s.data.toList o).1), .bool (rdE 2 s.data.toList o).2]) ∧ Below w.heap.size w w' := by
  have hF : Hid ((Fm w [(w.heap.size, o6 o, 30), (w.heap.size + 1, o6 od0, 30)]) ((w.alloc (.cells (o6 o) 30)).alloc (.cells #[.int .u8 0, .int .u8 0, .int .u8 0, .int .u8 0, .int .u8 0, .int .u16 0] 30))) := Fm.two w _ _ _ _
  have hN := fun z => rnumber_any z s 1 (by omega) hs
  have hrp := rdK_p 2 (by omega) s.data.toList
  unfold rdE
  rcases hr : rdK 2 s.data.toList with _ | v
  · rw [show numK s.data.toList 1 = none from hrp.symm.trans hr] at hN
    dsimp only at hN ⊢
    clear hrp hr ho
    go_enter Tryd.func42, Tryd.ntmps42
    go_wp2_with (first
      | ((with_reducible refine at_st rtO (w.heap.size + 1) (o6 od0) (o6 o) ?_ ?_ ?_ ?_ (.tmp 6) (.tmp 38) ?_ ?_ ?_ ?_ ?_); exact K1.out.bx 1 _ _ _ rfl; rfl; rfl; exact o6_one _; rfl; rfl; rfl; rfl; intro y4 hw4; have K4 : Hid (Fm w [(w.heap.size, o6 o, 30), (w.heap.size + 1, o6 o, 30)] y4) := K1.out.put 1 _ _ _ _ rfl hw4.out)
      | ((with_reducible refine at_load rtO w.heap.size (o6 o) ?_ ?_ (.tmp 3) ?_ ?_ ?_ ?_); exact K1.out.bx 0 _ _ _ rfl; rfl; kernel_rfl; rfl; rfl)
      | (go_at_call 69; refine (hN _).mono ?_; rintro e z ⟨rfl, hz⟩; replace hz := hz.symm; subst hz)
      | ((with_reducible refine gen_world ((w.alloc (.cells (o6 o) 30)).alloc (.cells #[.int .u8 0, .int .u8 0, .int .u8 0, .int .u8 0, .int .u8 0, .int .u16 0] 30)) (Fm w [(w.heap.size, o6 o, 30), (w.heap.size + 1, o6 od0, 30)]) hF.out ?_); intro y1 K1))
    exact ret_two (v := .bool false) rtO rfl rfl rfl (K4.out.bx 1 _ _ _ rfl) rfl rfl ⟨rfl, K4.out.low⟩
  · rw [show numK s.data.toList 1 = some v from hrp.symm.trans hr] at hN
    dsimp only at hN ⊢
    clear hrp ho
    have hv := rdK_lt hr
    obtain ⟨v8, hv8⟩ : ∃ v8, v % 256 = v8 := ⟨_, rfl⟩
    have hcv : ∀ z, (convert 3 5 (.int .i64 (v : Int))).run Tryd.prog z = .ok (.int .u8 (v8 : Int)) z := fun z => by rw [← hv8]; go_simp; try (rw [IntKind.wrap_u8]; omega)
    obtain ⟨OP, hOPe⟩ : ∃ OP, o6 (putK 2 o v) = OP := ⟨_, rfl⟩
    have hOP : Hid ((o6 o).setIfInBounds 3 (.int .u8 (v8 : Int)) = OP ∧ OP.size = 6 ∧ OP.all (·.oneCell') = true) := ⟨by rw [← hOPe, ← hv8]; rfl, by rw [← hOPe]; rfl, by rw [← hOPe]; exact o6_one _⟩
    have c0 : (o6 o)[3]? = some (.int .u8 o.n) := rfl
    have vi : ¬ (v : Int) < 0 := by omega
    rw [hOPe]
    clear hOPe hr hv hv8
    go_enter Tryd.func42, Tryd.ntmps42
    go_wp2_with (first
      | ((with_reducible refine at_st rtO (w.heap.size + 1) (o6 od0) OP ?_ ?_ ?_ ?_ (.tmp 6) (.tmp 65) ?_ ?_ ?_ ?_ ?_); exact K3.out.bx 1 _ _ _ rfl; rfl; exact hOP.out.2.1; exact hOP.out.2.2; rfl; rfl; rfl; rfl; intro y4 hw4; have K4 : Hid (Fm w [(w.heap.size, OP, 30), (w.heap.size + 1, OP, 30)] y4) := K3.out.put 1 _ _ _ _ rfl hw4.out)
      | ((with_reducible refine at_load rtO w.heap.size OP ?_ ?_ (.tmp 3) ?_ ?_ ?_ ?_); exact K3.out.bx 0 _ _ _ rfl; exact hOP.out.2.1; kernel_rfl; rfl; rfl)
      | ((with_reducible refine gen_world (y1.setCell ⟨w.heap.size, 3, none⟩ (.int .u8 (v8 : Int))) (Fm w [(w.heap.size, OP, 30), (w.heap.size + 1, o6 od0, 30)]) ?_ ?_); exact K1.out.setCell 0 _ _ _ _ rfl 3 _ hOP.out.1; intro y3 K3)
      | (go_at_call 69; refine (hN _).mono ?_; rintro e z ⟨rfl, hz⟩; replace hz := hz.symm; subst hz)
      | ((with_reducible refine gen_world ((w.alloc (.cells (o6 o) 30)).alloc (.cells #[.int .u8 0, .int .u8 0, .int .u8 0, .int .u8 0, .int .u8 0, .int .u16 0] 30)) (Fm w [(w.heap.size, o6 o, 30), (w.heap.size + 1, o6 od0, 30)]) hF.out ?_); intro y1 K1; have d := (K1.out.bx 0 _ _ _ rfl).c 3 _ c0; have zf := (K1.out.bx 0 _ _ _ rfl).fz 3))
    exact ret_two (v := .bool true) rtO rfl rfl rfl (K4.out.bx 1 _ _ _ rfl) hOP.out.2.1 rfl ⟨rfl, K4.out.low⟩
theorem rread_3 (w : World) (o : Od) (ho : OdR o) (s : ByteArray) (hs : s.size ≤ 9223372036854775807) : Calls Tryd.prog 42 #[.agg (o6 o), .int .u8 98, .string s] w fun e w' => e = .returned (.tuple #[.agg (o6 (rdE 3 s.data.toList o).1), .bool (rdE 3 s.data.toList o).2]) ∧ Below w.heap.size w w' := by
  have hF : Hid ((Fm w [(w.heap.size, o6 o, 30), (w.heap.size + 1, o6 od0, 30)]) ((w.alloc (.cells (o6 o) 30)).alloc (.cells #[.int .u8 0, .int .u8 0, .int .u8 0, .int .u8 0, .int .u8 0, .int .u16 0] 30))) := Fm.two w _ _ _ _
  have hN := fun z => rnumber_any z s 2 (by omega) hs
  have hrp := rdK_p 3 (by omega) s.data.toList
  unfold rdE
  rcases hr : rdK 3 s.data.toList with _ | v
  · rw [show numK s.data.toList 2 = none from hrp.symm.trans hr] at hN
    dsimp only at hN ⊢
    clear hrp hr ho
    go_enter Tryd.func42, Tryd.ntmps42
    go_wp2_with (first
      | ((with_reducible refine at_st rtO (w.heap.size + 1) (o6 od0) (o6 o) ?_ ?_ ?_ ?_ (.tmp 6) (.tmp 38) ?_ ?_ ?_ ?_ ?_); exact K1.out.bx 1 _ _ _ rfl; rfl; rfl; exact o6_one _; rfl; rfl; rfl; rfl; intro y4 hw4; have K4 : Hid (Fm w [(w.heap.size, o6 o, 30), (w.heap.size + 1, o6 o, 30)] y4) := K1.out.put 1 _ _ _ _ rfl hw4.out)
      | ((with_reducible refine at_load rtO w.heap.size (o6 o) ?_ ?_ (.tmp 3) ?_ ?_ ?_ ?_); exact K1.out.bx 0 _ _ _ rfl; rfl; kernel_rfl; rfl; rfl)
      | (go_at_call 69; refine (hN _).mono ?_; rintro e z ⟨rfl, hz⟩; replace hz := hz.symm; subst hz)
      | ((with_reducible refine gen_world ((w.alloc (.cells (o6 o) 30)).alloc (.cells #[.int .u8 0, .int .u8 0, .int .u8 0, .int .u8 0, .int .u8 0, .int .u16 0] 30)) (Fm w [(w.heap.size, o6 o, 30), (w.heap.size + 1, o6 od0, 30)]) hF.out ?_); intro y1 K1))
    exact ret_two (v := .bool false) rtO rfl rfl rfl (K4.out.bx 1 _ _ _ rfl) rfl rfl ⟨rfl, K4.out.low⟩
  · rw [show numK s.data.toList 2 = some v from hrp.symm.trans hr] at hN
    dsimp only at hN ⊢
    clear hrp ho
    have hv := rdK_lt hr
    obtain ⟨v8, hv8⟩ : ∃ v8, v % 256 = v8 := ⟨_, rfl⟩
    have hcv : ∀ z, (convert 3 5 (.int .i64 (v : Int))).run Tryd.prog z = .ok (.int .u8 (v8 : Int)) z := fun z => by rw [← hv8]; go_simp; try (rw [IntKind.wrap_u8]; omega)
    obtain ⟨OP, hOPe⟩ : ∃ OP, o6 (putK 3 o v) = OP := ⟨_, rfl⟩
    have hOP : Hid ((o6 o).setIfInBounds 4 (.int .u8 (v8 : Int)) = OP ∧ OP.size = 6 ∧ OP.all (·.oneCell') = true) := ⟨by rw [← hOPe, ← hv8]; rfl, by rw [← hOPe]; rfl, by rw [← hOPe]; exact o6_one _⟩
    have c0 : (o6 o)[4]? = some (.int .u8 o.b) := rfl
    have vi : ¬ (v : Int) < 0 := by omega
    rw [hOPe]
    clear hOPe hr hv hv8
    go_enter Tryd.func42, Tryd.ntmps42
    go_wp2_with (first
      | ((with_reducible refine at_st rtO (w.heap.size + 1) (o6 od0) OP ?_ ?_ ?_ ?_ (.tmp 6) (.tmp 65) ?_ ?_ ?_ ?_ ?_); exact K3.out.bx 1 _ _ _ rfl; rfl; exact hOP.out.2.1; exact hOP.out.2.2; rfl; rfl; rfl; rfl; intro y4 hw4; have K4 : Hid (Fm w [(w.heap.size, OP, 30), (w.heap.size + 1, OP, 30)] y4) := K3.out.put 1 _ _ _ _ rfl hw4.out)
      | ((with_reducible refine at_load rtO w.heap.size OP ?_ ?_ (.tmp 3) ?_ ?_ ?_ ?_); exact K3.out.bx 0 _ _ _ rfl; exact hOP.out.2.1; kernel_rfl; rfl; rfl)
      | ((with_reducible refine gen_world (y1.setCell ⟨w.heap.size, 4, none⟩ (.int .u8 (v8 : Int))) (Fm w [(w.heap.size, OP, 30), (w.heap.size + 1, o6 od0, 30)]) ?_ ?_); exact K1.out.setCell 0 _ _ _ _ rfl 4 _ hOP.out.1; intro y3 K3)
      | (go_at_call 69; refine (hN _).mono ?_; rintro e z ⟨rfl, hz⟩; replace hz := hz.symm; subst hz)
      | ((with_reducible refine gen_world ((w.alloc (.cells (o6 o) 30)).alloc (.cells #[.int .u8 0, .int .u8 0, .int .u8 0, .int .u8 0, .int .u8 0, .int .u16 0] 30)) (Fm w [(w.heap.size, o6 o, 30), (w.heap.size + 1, o6 od0, 30)]) hF.out ?_); intro y1 K1; have d := (K1.out.bx 0 _ _ _ rfl).c 4 _ c0; have zf := (K1.out.bx 0 _ _ _ rfl).fz 4))
    exact ret_two (v := .bool true) rtO rfl rfl rfl (K4.out.bx 1 _ _ _ rfl) hOP.out.2.1 rfl ⟨rfl, K4.out.low⟩
theorem rread_4 (w : World) (o : Od) (ho : OdR o) (s : ByteArray) (hs : s.size ≤ 9223372036854775807) : Calls Tryd.prog 42 #[.agg (o6 o), .int .u8 97, .string s] w fun e w' => e = .returned (.tuple #[.agg (o6 (rdE 4 s.data.toList o).1), .bool (rdE 4 s.data.toList o).2]) ∧ Below w.heap.size w w' := by
  have hF : Hid ((Fm w [(w.heap.size, o6 o, 30), (w.heap.size + 1, o6 od0, 30)]) ((w.alloc (.cells (o6 o) 30)).alloc (.cells #[.int .u8 0, .int .u8 0, .int .u8 0, .int .u8 0, .int .u8 0, .int .u16 0] 30))) := Fm.two w _ _ _ _
  have hN := fun z => rnumber_any z s 3 (by omega) hs
  have hrp := rdK_p 4 (by omega) s.data.toList
  unfold rdE
  rcases hr : rdK 4 s.data.toList with _ | v
  · rw [show numK s.data.toList 3 = none from hrp.symm.trans hr] at hN
    dsimp only at hN ⊢
    clear hrp hr ho
    go_enter Tryd.func42, Tryd.ntmps42
    go_wp2_with (first
      | ((with_reducible refine at_st rtO (w.heap.size + 1) (o6 od0) (o6 o) ?_ ?_ ?_ ?_ (.tmp 6) (.tmp 38) ?_ ?_ ?_ ?_ ?_); exact K1.out.bx 1 _ _ _ rfl; rfl; rfl; exact o6_one _; rfl; rfl; rfl; rfl; intro y4 hw4; have K4 : Hid (Fm w [(w.heap.size, o6 o, 30), (w.heap.size + 1, o6 o, 30)] y4) := K1.out.put 1 _ _ _ _ rfl hw4.out)
      | ((with_reducible refine at_load rtO w.heap.size (o6 o) ?_ ?_ (.tmp 3) ?_ ?_ ?_ ?_); exact K1.out.bx 0 _ _ _ rfl; rfl; kernel_rfl; rfl; rfl)
      | (go_at_call 69; refine (hN _).mono ?_; rintro e z ⟨rfl, hz⟩; replace hz := hz.symm; subst hz)
      | ((with_reducible refine gen_world ((w.alloc (.cells (o6 o) 30)).alloc (.cells #[.int .u8 0, .int .u8 0, .int .u8 0, .int .u8 0, .int .u8 0, .int .u16 0] 30)) (Fm w [(w.heap.size, o6 o, 30), (w.heap.size + 1, o6 od0, 30)]) hF.out ?_); intro y1 K1))
    exact ret_two (v := .bool false) rtO rfl rfl rfl (K4.out.bx 1 _ _ _ rfl) rfl rfl ⟨rfl, K4.out.low⟩
  · rw [show numK s.data.toList 3 = some v from hrp.symm.trans hr] at hN
    dsimp only at hN ⊢
    clear hrp ho
    have hv := rdK_lt hr
    have hcv : ∀ z, (convert 3 27 (.int .i64 (v : Int))).run Tryd.prog z = .ok (.int .u16 (v : Int)) z := fun z => by go_simp; rw [IntKind.wrap_u16]; omega
    obtain ⟨OP, hOPe⟩ : ∃ OP, o6 (putK 4 o v) = OP := ⟨_, rfl⟩
    have hOP : Hid ((o6 o).setIfInBounds 5 (.int .u16 (v : Int)) = OP ∧ OP.size = 6 ∧ OP.all (·.oneCell') = true) := ⟨by rw [← hOPe]; rfl, by rw [← hOPe]; rfl, by rw [← hOPe]; exact o6_one _⟩
    have c0 : (o6 o)[5]? = some (.int .u16 o.a) := rfl
    have vi : ¬ (v : Int) < 0 := by omega
    rw [hOPe]
    clear hOPe hr hv
    go_enter Tryd.func42, Tryd.ntmps42
    go_wp2_with (first
      | ((with_reducible refine at_st rtO (w.heap.size + 1) (o6 od0) OP ?_ ?_ ?_ ?_ (.tmp 6) (.tmp 65) ?_ ?_ ?_ ?_ ?_); exact K3.out.bx 1 _ _ _ rfl; rfl; exact hOP.out.2.1; exact hOP.out.2.2; rfl; rfl; rfl; rfl; intro y4 hw4; have K4 : Hid (Fm w [(w.heap.size, OP, 30), (w.heap.size + 1, OP, 30)] y4) := K3.out.put 1 _ _ _ _ rfl hw4.out)
      | ((with_reducible refine at_load rtO w.heap.size OP ?_ ?_ (.tmp 3) ?_ ?_ ?_ ?_); exact K3.out.bx 0 _ _ _ rfl; exact hOP.out.2.1; kernel_rfl; rfl; rfl)
      | ((with_reducible refine gen_world (y1.setCell ⟨w.heap.size, 5, none⟩ (.int .u16 (v : Int))) (Fm w [(w.heap.size, OP, 30), (w.heap.size + 1, o6 od0, 30)]) ?_ ?_); exact K1.out.setCell 0 _ _ _ _ rfl 5 _ hOP.out.1; intro y3 K3)
      | (go_at_call 69; refine (hN _).mono ?_; rintro e z ⟨rfl, hz⟩; replace hz := hz.symm; subst hz)
      | ((with_reducible refine gen_world ((w.alloc (.cells (o6 o) 30)).alloc (.cells #[.int .u8 0, .int .u8 0, .int .u8 0, .int .u8 0, .int .u8 0, .int .u16 0] 30)) (Fm w [(w.heap.size, o6 o, 30), (w.heap.size + 1, o6 od0, 30)]) hF.out ?_); intro y1 K1; have d := (K1.out.bx 0 _ _ _ rfl).c 5 _ c0; have zf := (K1.out.bx 0 _ _ _ rfl).fz 5))
    exact ret_two (v := .bool true) rtO rfl rfl rfl (K4.out.bx 1 _ _ _ rfl) hOP.out.2.1 rfl ⟨rfl, K4.out.low⟩
theorem rread_any (w : World) (k : Nat) (hk : k < 5) (o : Od) (ho : OdR o) (s : ByteArray) (hs : s.size ≤ 9223372036854775807) : Calls Tryd.prog 42 #[.agg (o6 o), .int .u8 (fsC k : Int), .string s] w fun e w' => e = .returned (.tuple #[.agg (o6 (rdE k s.data.toList o).1), .bool (rdE k s.data.toList o).2]) ∧ Below w.heap.size w w' := by
  rcases (show k = 0 ∨ k = 1 ∨ k = 2 ∨ k = 3 ∨ k = 4 by omega) with rfl | rfl | rfl | rfl | rfl
  · exact rread_0 w o ho s hs
  · exact rread_1 w o ho s hs
  · exact rread_2 w o ho s hs
  · exact rread_3 w o ho s hs
  · exact rread_4 w o ho s hs
end Go.Proofs.YthaijjehplomfaaDoor
