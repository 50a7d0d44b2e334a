/- What a label's name is. The document's own: a number in digits, a field as it stands in a line, a number read, a label's name. -/
import Derived.Test.YthaijjehplomfaaDoorJ1
import Derived.BigQuiet
import Derived.Test.YthaijjehplomfaaDoorJ14
namespace Go.Proofs.YthaijjehplomfaaDoor
open Go Go.RowKit
set_option linter.unusedVariables false
set_option maxHeartbeats 3000000
set_option maxRecDepth 20000

theorem bool_ret {a b : Bool} (h : a = b) : Ending.returned (.bool a) = .returned (.bool b) := by rw [h]
def nmc (c : UInt8) : Bool := decide ((97 ≤ c.toNat ∧ c.toNat ≤ 122) ∨ (48 ≤ c.toNat ∧ c.toNat ≤ 57) ∨ c.toNat = 45)
/-- Is it a label's name? -/
def isNm (s : ByteArray) : Bool := decide (0 < s.size ∧ s.size ≤ 16 ∧ (∃ h : 0 < s.size, 97 ≤ (s[0]'h).toNat ∧ (s[0]'h).toNat ≤ 122) ∧ ∀ j (h : j < s.size), nmc (s[j]'h) = true)
theorem size_zero {s : ByteArray} (h : s.size = 0) : s = ⟨#[]⟩ := by
  cases s with
  | mk d =>
    congr 1
    exact Array.size_eq_zero_iff.1 h
theorem ne_empty {s : ByteArray} (h : 0 < s.size) : ¬ s = ⟨#[]⟩ := fun e => by rw [e] at h; exact absurd h (by decide)
theorem letter_yes (x : Int) (w : World) (h1 : 97 ≤ x) (h2 : x ≤ 122) : Calls Tryd.prog 83 #[.int .u8 x] w fun e w' => e = .returned (.bool true) ∧ w' = w := by
  go_enter Tryd.func83, Tryd.ntmps83
  go_wp2
  go_ret
  exact ⟨rfl, rfl⟩
theorem letter_no (x : Int) (w : World) (h : x < 97 ∨ 122 < x) : Calls Tryd.prog 83 #[.int .u8 x] w fun e w' => e = .returned (.bool false) ∧ w' = w := by
  by_cases h1 : x < 97
  · have h' : ¬ 97 ≤ x := by omega
    clear h h1
    go_enter Tryd.func83, Tryd.ntmps83
    go_wp2
    go_ret
    exact ⟨rfl, rfl⟩
  · have h1' : 97 ≤ x := by omega
    have h2 : ¬ x ≤ 122 := by omega
    clear h h1
    go_enter Tryd.func83, Tryd.ntmps83
    go_wp2
    go_ret
    exact ⟨rfl, rfl⟩
theorem dig_yes (x : Int) (w : World) (h1 : 48 ≤ x) (h2 : x ≤ 57) : Calls Tryd.prog 84 #[.int .u8 x] w fun e w' => e = .returned (.bool true) ∧ w' = w := by
  go_enter Tryd.func84, Tryd.ntmps84
  go_wp2
  go_ret
  exact ⟨rfl, rfl⟩
theorem dig_no (x : Int) (w : World) (h : x < 48 ∨ 57 < x) : Calls Tryd.prog 84 #[.int .u8 x] w fun e w' => e = .returned (.bool false) ∧ w' = w := by
  by_cases h1 : x < 48
  · have h' : ¬ 48 ≤ x := by omega
    clear h h1
    go_enter Tryd.func84, Tryd.ntmps84
    go_wp2
    go_ret
    exact ⟨rfl, rfl⟩
  · have h1' : 48 ≤ x := by omega
    have h2 : ¬ x ≤ 57 := by omega
    clear h h1
    go_enter Tryd.func84, Tryd.ntmps84
    go_wp2
    go_ret
    exact ⟨rfl, rfl⟩

theorem pisname_any (s : ByteArray) (w : World) : Calls Tryd.prog 74 #[.string s] w fun e w' => e = .returned (.bool (isNm s)) ∧ w' = w := by
  obtain ⟨b, hb⟩ : ∃ b, Hid (isNm s = b) := ⟨_, (rfl : isNm s = isNm s)⟩
  rw [hb.out]
  by_cases h0 : s.size = 0
  · have fin : Hid (isNm s = false) := decide_eq_false fun h => by omega
    have hp : (s.size : Int) < 1 := by omega
    clear h0
    go_enter Tryd.func74, Tryd.ntmps74
    go_wp2
    go_ret
    exact ⟨bool_ret (by rw [← hb.out, fin.out]), rfl⟩
  have hp : (0 : Int) < s.size := by omega
  have hp1 : ¬ (s.size : Int) < 1 := by omega
  by_cases h1 : s.size ≤ 16
  · have h1i : (s.size : Int) ≤ 16 := by omega
    have h1n : ¬ (16 : Int) < s.size := by omega
    by_cases h2 : 97 ≤ (s[0]'(by omega)).toNat ∧ (s[0]'(by omega)).toNat ≤ 122
    · have hL0 := fun v => letter_yes ((s[0]'(by omega)).toNat : Int) v (by omega) (by omega)
      have h2' : Hid (97 ≤ (s[0]'(by omega)).toNat ∧ (s[0]'(by omega)).toNat ≤ 122) := h2
      clear h2
      go_enter Tryd.func74, Tryd.ntmps74
      go_wp2_with (go_at_call 83; refine (hL0 _).mono ?_; rintro e y ⟨rfl, rfl⟩)
      go_loopw [20] (fun i wz => ∃ p : Nat, p ≤ s.size ∧ i = .int .i64 (p : Int) ∧ Hid (∀ j (h : j < s.size), j < p → nmc (s[j]'h) = true) ∧ wz = y) (fun i _ => (s.size - intOf i).toNat)
      case atStart => exact ⟨0, by omega, rfl, (fun j _ h => absurd h (by omega) : ∀ j (h : j < s.size), j < 0 → nmc (s[j]'h) = true), rfl⟩
      case round =>
        obtain ⟨p, hps, rfl, J, rfl⟩ := hrel
        by_cases hlt : p < s.size
        · have hpi : (p : Int) < s.size := by omega
          have hlt' : Hid (p < s.size) := hlt
          by_cases hn : nmc (s[p]'hlt) = true
          · have fin : Hid (∀ j (h : j < s.size), j < p + 1 → nmc (s[j]'h) = true) := fun j h hj => by
              rcases Nat.lt_succ_iff_lt_or_eq.1 hj with h' | rfl
              · exact J.out j h h'
              · exact hn
            have hn' := of_decide_eq_true hn
            replace hn : Hid _ := hn
            rcases (show (97 : Int) ≤ ((s[p]'hlt).toNat : Int) ∧ ((s[p]'hlt).toNat : Int) ≤ 122 ∨ (48 : Int) ≤ ((s[p]'hlt).toNat : Int) ∧ ((s[p]'hlt).toNat : Int) ≤ 57 ∨ ((s[p]'hlt).toNat : Int) = 45 by omega) with k | k | k
            · have hL := fun v => letter_yes ((s[p]'hlt).toNat : Int) v k.1 k.2
              clear hn' k
              go_wp2_with (go_at_call 83; refine (hL _).mono ?_; rintro e y2 ⟨rfl, rfl⟩)
              go_roundw
              case rel => exact ⟨p + 1, by have := hlt'.out; omega, by simp, fin, by first | trivial | rfl⟩
              case measure => have := hlt'.out; simp [intOf]; omega
            · have hL := fun v => letter_no ((s[p]'hlt).toNat : Int) v (by omega)
              have hD := fun v => dig_yes ((s[p]'hlt).toNat : Int) v k.1 k.2
              clear hn' k
              go_wp2_with (first | (go_at_call 83; refine (hL _).mono ?_; rintro e y2 ⟨rfl, rfl⟩) | (go_at_call 84; refine (hD _).mono ?_; rintro e y3 ⟨rfl, rfl⟩))
              go_roundw
              case rel => exact ⟨p + 1, by have := hlt'.out; omega, by simp, fin, by first | trivial | rfl⟩
              case measure => have := hlt'.out; simp [intOf]; omega
            · have hL := fun v => letter_no ((s[p]'hlt).toNat : Int) v (by omega)
              have hD := fun v => dig_no ((s[p]'hlt).toNat : Int) v (by omega)
              have e_e : (((s[p]'hlt).toNat : Int) != 45) = false := by rw [bne_eq_false_iff_eq]; omega
              clear hn' k
              go_wp2_with (first | (go_at_call 83; refine (hL _).mono ?_; rintro e y2 ⟨rfl, rfl⟩) | (go_at_call 84; refine (hD _).mono ?_; rintro e y3 ⟨rfl, rfl⟩))
              go_roundw
              case rel => exact ⟨p + 1, by have := hlt'.out; omega, by simp, fin, by first | trivial | rfl⟩
              case measure => have := hlt'.out; simp [intOf]; omega
          · have fin : Hid (isNm s = false) := decide_eq_false fun h => hn (h.2.2.2 p hlt)
            have hn' : ¬ ((97 ≤ (s[p]'hlt).toNat ∧ (s[p]'hlt).toNat ≤ 122) ∨ (48 ≤ (s[p]'hlt).toNat ∧ (s[p]'hlt).toNat ≤ 57) ∨ (s[p]'hlt).toNat = 45) := fun h => hn (decide_eq_true h)
            replace hn : Hid _ := hn
            have hL := fun v => letter_no ((s[p]'hlt).toNat : Int) v (by omega)
            have hD := fun v => dig_no ((s[p]'hlt).toNat : Int) v (by omega)
            have e_e : (((s[p]'hlt).toNat : Int) != 45) = true := by rw [bne_iff_ne]; omega
            clear hn'
            go_wp2_with (first | (go_at_call 83; refine (hL _).mono ?_; rintro e y2 ⟨rfl, rfl⟩) | (go_at_call 84; refine (hD _).mono ?_; rintro e y3 ⟨rfl, rfl⟩))
            go_ret
            exact ⟨bool_ret (by rw [← hb.out, fin.out]), rfl⟩
        · have hpe : p = s.size := by omega
          subst hpe
          go_wp2
          go_ret
          exact ⟨bool_ret (by rw [← hb.out]; exact (decide_eq_true ⟨by omega, h1, ⟨by omega, h2'.out⟩, fun j h => J.out j h h⟩).symm), rfl⟩
    · have fin : Hid (isNm s = false) := decide_eq_false fun h => h2 h.2.2.1.2
      have hL0 := fun v => letter_no ((s[0]'(by omega)).toNat : Int) v (by omega)
      clear h2
      go_enter Tryd.func74, Tryd.ntmps74
      go_wp2_with (go_at_call 83; refine (hL0 _).mono ?_; rintro e y ⟨rfl, rfl⟩)
      go_ret
      exact ⟨bool_ret (by rw [← hb.out, fin.out]), rfl⟩
  · have h1i : (16 : Int) < s.size := by omega
    have fin : Hid (isNm s = false) := decide_eq_false fun h => h1 h.2.1
    go_enter Tryd.func74, Tryd.ntmps74
    go_wp2
    go_ret
    exact ⟨bool_ret (by rw [← hb.out, fin.out]), rfl⟩

end Go.Proofs.YthaijjehplomfaaDoor

namespace Go.Proofs.YthaijjehplomfaaDoor
open Go Go.RowKit
set_option linter.unusedVariables false
set_option maxHeartbeats 1000000
set_option maxRecDepth 20000

def strD (s : ByteArray) : List UInt8 := s.data.toList
def digB (d : Nat) : ByteArray := ⟨#[UInt8.ofNat (hexC (d : Int)).toNat]⟩
def hexS16 : ByteArray := ⟨#[48, 49, 50, 51, 52, 53, 54, 55, 56, 57, 97, 98, 99, 100, 101, 102]⟩
theorem dig_cut : ∀ d : Fin 16, hexS16.extract d.val (d.val + 1) = digB d.val := by decide +kernel
theorem rdigits_any (w : World) (N m : Nat) (hN : N < 65536) (hm : m ≤ 3) : Calls Tryd.prog 39 #[.int .i64 (N : Int), .int .i64 (m : Int)] w fun e w' => e = .returned (.string ⟨(hexL m N).toArray⟩) ∧ w' = w := by
  have hmi : (m : Int) ≤ 3 := by omega
  obtain ⟨F, hF⟩ : ∃ F : ByteArray, Hid ((⟨(hexL m N).toArray⟩ : ByteArray) = F) := ⟨_, (rfl : (⟨(hexL m N).toArray⟩ : ByteArray) = _)⟩
  rw [hF.out]
  have hm' : Hid (m ≤ 3) := hm
  have hN' : Hid (N < 65536) := hN
  clear hm hN
  go_enter Tryd.func39, Tryd.ntmps39
  go_wp2
  go_loopw [0, 5, 6] (fun fn fs fi wz => ∃ (i n : Nat) (s : ByteArray), w = wz ∧ fn = .int .i64 (n : Int) ∧ fs = .string s ∧ fi = .int .i64 (i : Int) ∧ i ≤ m ∧ Hid (hexL m N = hexL (m - i) n ++ strD s ∧ n < 65536 ∧ s.size = i)) (fun _ _ fi _ => (m - intOf fi).toNat)
  case atStart => exact ⟨0, N, ⟨#[]⟩, rfl, rfl, rfl, rfl, by omega, ⟨by simp [strD], hN'.out, rfl⟩⟩
  case round =>
    obtain ⟨i, n, s, hw, rfl, rfl, rfl, him, K⟩ := hrel
    subst hw
    by_cases hlt : i < m
    · have hii : (i : Int) < m := by omega
      have hn : (n : Int) < 65536 := by have := K.out.2.1; omega
      obtain ⟨d, hd⟩ : ∃ d, n % 16 = d := ⟨_, rfl⟩
      obtain ⟨q, hq⟩ : ∃ q, n / 16 = q := ⟨_, rfl⟩
      have hd16 : d < 16 := by omega
      have e1 : Int.tmod (n : Int) 16 = (d : Int) := by rw [Int.tmod_eq_emod_of_nonneg (by omega)]; omega
      have e2 : Int.tdiv (n : Int) 16 = (q : Int) := by rw [Int.tdiv_eq_ediv_of_nonneg (by omega)]; omega
      have hdi : (d : Int) < 16 := by omega
      have hw2 : IntKind.i64.wrap (q : Int) = (q : Int) := by rw [IntKind.wrap_i64]; omega
      have hw1 : IntKind.i64.wrap ((d : Int) + 1) = ((d + 1 : Nat) : Int) := by rw [IntKind.wrap_i64]; omega
      have hsl : ∀ z, (Instr.sliceAt 9 (.string ⟨#[48, 49, 50, 51, 52, 53, 54, 55, 56, 57, 97, 98, 99, 100, 101, 102]⟩) (some (.int .i64 (d : Int))) (some (.int .i64 ((d + 1 : Nat) : Int))) none).run Tryd.prog z = .ok (.string (digB d)) z := fun z => by
        have h : ((d + 1 : Nat) : Int) ≤ ((⟨#[48, 49, 50, 51, 52, 53, 54, 55, 56, 57, 97, 98, 99, 100, 101, 102]⟩ : ByteArray).size : Int) := by show _ ≤ ((16 : Nat) : Int); omega
        rw [run_sliceAt_string z _ _ _ _ _ Tryd.underlying9, run_slice_string z _ _ .i64 .i64 (d : Int) ((d + 1 : Nat) : Int) Tryd.underlying9 (by omega) (by omega) h]
        have := dig_cut ⟨d, hd16⟩
        unfold hexS16 at this
        rw [← this]
        rfl
      have hcat : ∀ z, (Op.stringOp .add (digB d) s).run Tryd.prog z = .ok (.string (digB d ++ s)) z := fun z => cat_run Tryd.prog _ _ z (by have h1 := K.out.2.2; have h2 := hm'.out; have h3 : (digB d).size = 1 := rfl; omega)
      have nxt : Hid (hexL m N = hexL (m - (i + 1)) q ++ strD (digB d ++ s) ∧ q < 65536 ∧ (digB d ++ s).size = i + 1) := by
        have h1 := K.out.1
        rw [show m - i = (m - (i + 1)) + 1 by omega, hexL_succ, hq, hd] at h1
        refine ⟨?_, by have := K.out.2.1; omega, ?_⟩
        · rw [h1, List.append_assoc]
          congr 1
        · rw [ByteArray.size_append, K.out.2.2, show (digB d).size = 1 from rfl]; omega
      obtain ⟨D1, hD1⟩ : ∃ D1, d + 1 = D1 := ⟨_, rfl⟩
      rw [hD1] at hw1 hsl
      generalize digB d ++ s = s2 at hcat nxt
      generalize digB d = X at hcat hsl
      have hlt' : Hid (i < m) := hlt
      clear hlt him K hd hq hd16 hdi hD1
      go_wp2
      go_roundw
      case rel => exact ⟨i + 1, q, s2, by first | rfl | trivial, rfl, rfl, by simp, hlt'.out, nxt⟩
      case measure => have := hlt'.out; simp [intOf]; omega
    · have hie : i = m := by omega
      have fin : Hid (s = F) := by
        show _ = _
        have h1 := K.out.1
        rw [hie, Nat.sub_self, show hexL 0 n = [] from rfl, List.nil_append] at h1
        rw [← hF.out, h1]
        cases s
        simp [strD]
      have fin' := fin.out
      subst fin'
      have hii : ¬ (i : Int) < m := by omega
      clear hlt him hie
      go_wp2
      go_ret
      exact ⟨rfl, rfl⟩
/-- A field's sign in a row. -/
def fsC (k : Nat) : Nat := if k = 0 then 120 else if k = 1 then 121 else if k = 2 then 110 else if k = 3 then 98 else 97
def fldW (k : Nat) (o : Od) : ByteArray := ⟨(wdK k (getK k o)).toArray⟩
theorem rfield_any (w : World) (k : Nat) (hk : k < 5) (o : Od) (ho : OdR o) : Calls Tryd.prog 26 #[.agg (o6 o), .int .u8 (fsC k : Int)] w fun e w' => e = .returned (.string (fldW k o)) ∧ Below w.heap.size w w' := by
  have hF : Hid (Fm w [(w.heap.size, o6 o, 30)] (w.alloc (.cells (o6 o) 30))) := Fm.one w _ _
  have hg := getK_lt k o ho
  have key : ∀ (K m : Nat) (L : ByteArray) (R : ByteArray), k = K → digK k = m → (⟨(ledK k).toArray⟩ : ByteArray) = L → R = (⟨(hexL m (getK k o)).toArray⟩ : ByteArray) → L ++ R = fldW k o := fun K m L R h1 h2 h3 h4 => by
    rw [h4, ← h3, ← h2]
    unfold fldW wdK
    apply ByteArray.ext
    simp
  have hD := fun z (m : Nat) (hm : m ≤ 3) => rdigits_any z (getK k o) m (by omega) hm
  obtain ⟨gv, hgv⟩ : ∃ gv, Hid (getK k o = gv) := ⟨_, (rfl : getK k o = _)⟩
  rw [hgv.out] at hD
  have hcv8 : ∀ z, (convert 5 3 (.int .u8 (gv : Int))).run Tryd.prog z = .ok (.int .i64 (gv : Int)) z := fun z => by
    have := hgv.out
    go_simp
    rw [IntKind.wrap_i64]
    omega
  have hcv16 : ∀ z, (convert 27 3 (.int .u16 (gv : Int))).run Tryd.prog z = .ok (.int .i64 (gv : Int)) z := fun z => by
    have := hgv.out
    go_simp
    rw [IntKind.wrap_i64]
    omega
  obtain ⟨R, hR⟩ : ∃ R : ByteArray, Hid (R = ⟨(hexL (digK k) gv).toArray⟩) := ⟨_, (rfl : _ = (⟨(hexL (digK k) gv).toArray⟩ : ByteArray))⟩
  have hRs : R.size = digK k := by
    rw [hR.out]
    show (hexL (digK k) gv).toArray.size = _
    rw [List.size_toArray, hexL_len]
  have hcat : ∀ z, (Op.stringOp .add ⟨#[118]⟩ R).run Tryd.prog z = .ok (.string (⟨#[118]⟩ ++ R)) z := fun z => cat_run Tryd.prog _ _ z (by have h1 : (⟨#[118]⟩ : ByteArray).size = 1 := rfl; have := (digK_bd k).2; omega)
  have hkey := key k (digK k) ⟨(ledK k).toArray⟩ R rfl rfl rfl (by rw [hgv.out]; exact hR.out)
  have hDm := fun z => hD z (digK k) (digK_bd k).2
  rw [← hR.out] at hDm
  have ho6 : Hid (∀ v, (o6 o)[k + 1]? = some v → v = (if k = 4 then .int .u16 (gv : Int) else .int .u8 (gv : Int))) := fun v hv => by
    rw [← hgv.out]
    rcases (show k = 0 ∨ k = 1 ∨ k = 2 ∨ k = 3 ∨ k = 4 by omega) with rfl | rfl | rfl | rfl | rfl <;> (simp [o6] at hv; rw [← hv]; rfl)
  clear hg key hD hRs
  rcases (show k = 0 ∨ k = 1 ∨ k = 2 ∨ k = 3 ∨ k = 4 by omega) with rfl | rfl | rfl | rfl | rfl
  · have c0 : (o6 o)[1]? = some (.int .u8 (gv : Int)) := by
      have h : ∃ v, (o6 o)[1]? = some v := ⟨_, rfl⟩
      obtain ⟨v, hv⟩ := h
      rw [hv, ho6.out v hv]
      rfl
    have hk1 : ⟨#[118]⟩ ++ R = fldW 0 o := hkey
    have hDm : ∀ z, Calls Tryd.prog 39 #[.int .i64 (gv : Int), .int .i64 1] z fun e w' => e = .returned (.string R) ∧ w' = z := hDm
    generalize fldW 0 o = FW at hk1 ⊢
    obtain ⟨OC, hOC⟩ : ∃ OC, o6 o = OC := ⟨_, rfl⟩
    rw [hOC] at hF c0 ⊢
    clear hkey ho6 hOC
    rw [hk1] at hcat
    clear hk1
    go_enter Tryd.func26, Tryd.ntmps26
    go_wp2_with (first
      | (go_at_call 39; refine (hDm _).mono ?_; rintro e z ⟨rfl, hz⟩; replace hz := hz.symm; subst hz)
      | ((with_reducible refine gen_world (w.alloc (.cells OC 30)) (Fm w [(w.heap.size, OC, 30)]) hF.out ?_); intro y0 K; have d := (K.out.bx 0 _ _ _ rfl).c 1 _ c0))
    go_ret
    exact ⟨rfl, K.out.low⟩
  · have c1 : (o6 o)[2]? = some (.int .u8 (gv : Int)) := by
      have h : ∃ v, (o6 o)[2]? = some v := ⟨_, rfl⟩
      obtain ⟨v, hv⟩ := h
      rw [hv, ho6.out v hv]
      rfl
    have hk1 : ⟨#[118]⟩ ++ R = fldW 1 o := hkey
    have hDm : ∀ z, Calls Tryd.prog 39 #[.int .i64 (gv : Int), .int .i64 1] z fun e w' => e = .returned (.string R) ∧ w' = z := hDm
    generalize fldW 1 o = FW at hk1 ⊢
    obtain ⟨OC, hOC⟩ : ∃ OC, o6 o = OC := ⟨_, rfl⟩
    rw [hOC] at hF c1 ⊢
    clear hkey ho6 hOC
    rw [hk1] at hcat
    clear hk1
    go_enter Tryd.func26, Tryd.ntmps26
    go_wp2_with (first
      | (go_at_call 39; refine (hDm _).mono ?_; rintro e z ⟨rfl, hz⟩; replace hz := hz.symm; subst hz)
      | ((with_reducible refine gen_world (w.alloc (.cells OC 30)) (Fm w [(w.heap.size, OC, 30)]) hF.out ?_); intro y0 K; have d := (K.out.bx 0 _ _ _ rfl).c 2 _ c1))
    go_ret
    exact ⟨rfl, K.out.low⟩
  · have c2 : (o6 o)[3]? = some (.int .u8 (gv : Int)) := by
      have h : ∃ v, (o6 o)[3]? = some v := ⟨_, rfl⟩
      obtain ⟨v, hv⟩ := h
      rw [hv, ho6.out v hv]
      rfl
    have hk1 : ⟨#[]⟩ ++ R = fldW 2 o := hkey
    have hDm : ∀ z, Calls Tryd.prog 39 #[.int .i64 (gv : Int), .int .i64 1] z fun e w' => e = .returned (.string R) ∧ w' = z := hDm
    generalize fldW 2 o = FW at hk1 ⊢
    obtain ⟨OC, hOC⟩ : ∃ OC, o6 o = OC := ⟨_, rfl⟩
    rw [hOC] at hF c2 ⊢
    clear hkey ho6 hOC
    have hk2 : R = FW := by rw [← hk1]; cases R; rfl
    subst hk2
    clear hk1 hcat
    go_enter Tryd.func26, Tryd.ntmps26
    go_wp2_with (first
      | (go_at_call 39; refine (hDm _).mono ?_; rintro e z ⟨rfl, hz⟩; replace hz := hz.symm; subst hz)
      | ((with_reducible refine gen_world (w.alloc (.cells OC 30)) (Fm w [(w.heap.size, OC, 30)]) hF.out ?_); intro y0 K; have d := (K.out.bx 0 _ _ _ rfl).c 3 _ c2))
    go_ret
    exact ⟨rfl, K.out.low⟩
  · have c3 : (o6 o)[4]? = some (.int .u8 (gv : Int)) := by
      have h : ∃ v, (o6 o)[4]? = some v := ⟨_, rfl⟩
      obtain ⟨v, hv⟩ := h
      rw [hv, ho6.out v hv]
      rfl
    have hk1 : ⟨#[]⟩ ++ R = fldW 3 o := hkey
    have hDm : ∀ z, Calls Tryd.prog 39 #[.int .i64 (gv : Int), .int .i64 2] z fun e w' => e = .returned (.string R) ∧ w' = z := hDm
    generalize fldW 3 o = FW at hk1 ⊢
    obtain ⟨OC, hOC⟩ : ∃ OC, o6 o = OC := ⟨_, rfl⟩
    rw [hOC] at hF c3 ⊢
    clear hkey ho6 hOC
    have hk2 : R = FW := by rw [← hk1]; cases R; rfl
    subst hk2
    clear hk1 hcat
    go_enter Tryd.func26, Tryd.ntmps26
    go_wp2_with (first
      | (go_at_call 39; refine (hDm _).mono ?_; rintro e z ⟨rfl, hz⟩; replace hz := hz.symm; subst hz)
      | ((with_reducible refine gen_world (w.alloc (.cells OC 30)) (Fm w [(w.heap.size, OC, 30)]) hF.out ?_); intro y0 K; have d := (K.out.bx 0 _ _ _ rfl).c 4 _ c3))
    go_ret
    exact ⟨rfl, K.out.low⟩
  · have c4 : (o6 o)[5]? = some (.int .u16 (gv : Int)) := by
      have h : ∃ v, (o6 o)[5]? = some v := ⟨_, rfl⟩
      obtain ⟨v, hv⟩ := h
      rw [hv, ho6.out v hv]
      rfl
    have hk1 : ⟨#[]⟩ ++ R = fldW 4 o := hkey
    have hDm : ∀ z, Calls Tryd.prog 39 #[.int .i64 (gv : Int), .int .i64 3] z fun e w' => e = .returned (.string R) ∧ w' = z := hDm
    generalize fldW 4 o = FW at hk1 ⊢
    obtain ⟨OC, hOC⟩ : ∃ OC, o6 o = OC := ⟨_, rfl⟩
    rw [hOC] at hF c4 ⊢
    clear hkey ho6 hOC
    have hk2 : R = FW := by rw [← hk1]; cases R; rfl
    subst hk2
    clear hk1 hcat
    go_enter Tryd.func26, Tryd.ntmps26
    go_wp2_with (first
      | (go_at_call 39; refine (hDm _).mono ?_; rintro e z ⟨rfl, hz⟩; replace hz := hz.symm; subst hz)
      | ((with_reducible refine gen_world (w.alloc (.cells OC 30)) (Fm w [(w.heap.size, OC, 30)]) hF.out ?_); intro y0 K; have d := (K.out.bx 0 _ _ _ rfl).c 5 _ c4))
    go_ret
    exact ⟨rfl, K.out.low⟩
theorem rnumber_any (w : World) (s : ByteArray) (m : Nat) (hm : m ≤ 3) (hs : s.size ≤ 9223372036854775807) : Calls Tryd.prog 69 #[.string s, .int .i64 (m : Int)] w fun e w' => e = .returned (.int .i64 (match numK s.data.toList m with | none => -1 | some v => (v : Int))) ∧ w' = w := by
  have hlen := sz_list s
  by_cases hsm : s.size = m
  · obtain ⟨R, hR⟩ : ∃ R : Int, Hid ((match numK s.data.toList m with | none => (-1 : Int) | some v => (v : Int)) = R) := ⟨_, rfl⟩
    rw [hR.out]
    have hR2 : Hid (R = match numGo s.data.toList 0 with | none => -1 | some x => x) := by
      show _ = _
      rw [← hR.out]
      unfold numK
      rw [if_pos (by rw [hlen, hsm])]
      rcases hx : numGo s.data.toList 0 with _ | x
      · rfl
      · have := (numGo_le _ 0 x (by omega) hx).1
        show ((x.toNat : Nat) : Int) = x
        omega
    have e1 : ((s.size : Int) != (m : Int)) = false := by simp; omega
    have hmi : (m : Int) ≤ 3 := by omega
    have hsi : (s.size : Int) = (m : Int) := by omega
    have hsm' : Hid (s.size = m ∧ m ≤ 3) := ⟨hsm, hm⟩
    clear hsm hm hs hR
    go_enter Tryd.func69, Tryd.ntmps69
    go_wp2
    go_loopw [5, 6] (fun fn fi wz => ∃ (i : Nat) (n : Int), w = wz ∧ fn = .int .i64 n ∧ fi = .int .i64 (i : Int) ∧ i ≤ m ∧ Hid (numGo s.data.toList 0 = numGo (s.data.toList.drop i) n ∧ 0 ≤ n ∧ n < 16 ^ i)) (fun _ fi _ => (m - intOf fi).toNat)
    case atStart => exact ⟨0, 0, rfl, rfl, rfl, by omega, ⟨rfl, by decide, by decide⟩⟩
    case round =>
      obtain ⟨i, n, hw, rfl, rfl, him, K⟩ := hrel
      subst hw
      by_cases hlt : i < m
      · have hii : (i : Int) < m := by omega
        have his : i < s.size := by have := hsm'.out.1; omega
        have hiis : (i : Int) < s.size := by omega
        obtain ⟨b, hb⟩ : ∃ b, s[i]'his = b := ⟨_, rfl⟩
        have hgb : s.data.toList[i]? = some b := by
          rw [Array.getElem?_toList, Array.getElem?_eq_getElem (show i < s.data.size from his)]
          exact congrArg some hb
        have ixs : ∀ v, (Instr.index 9 (.string s) (.int .i64 (i : Int))).run Tryd.prog v = .ok (.int .u8 (b.toNat : Int)) v := fun v => by
          rw [run_index_string v _ s _ _ Tryd.underlying9, dif_pos ⟨by omega, by omega⟩, ← hb]
          congr 3
        have hdr : s.data.toList.drop i = b :: s.data.toList.drop (i + 1) := by
          obtain ⟨h1, h2⟩ := List.getElem?_eq_some_iff.1 hgb
          rw [List.drop_eq_getElem_cons h1, h2]
        have hgo : numGo s.data.toList 0 = match digV (b.toNat : Int) with | none => none | some v => numGo (s.data.toList.drop (i + 1)) (n * 16 + v) := by
          rw [K.out.1, hdr]
          rfl
        have hn3 : n < 256 := by
          have h1 := K.out.2.2
          have h2 : i ≤ 2 := by have := hsm'.out.2; omega
          rcases (show i = 0 ∨ i = 1 ∨ i = 2 by omega) with rfl | rfl | rfl <;> omega
        have hn0 := K.out.2.1
        have hp : Hid ((16 : Int) ^ (i + 1) = 16 ^ i * 16) := Int.pow_succ _ _
        obtain ⟨bn, hbn⟩ : ∃ bn : Int, (b.toNat : Int) = bn := ⟨_, rfl⟩
        have hbl : 0 ≤ bn ∧ bn < 256 := by have := b.toNat_lt; omega
        rw [hbn] at ixs hgo
        have hlt' : Hid (i < m) := hlt
        have hKn := K
        clear hb hgb hdr hbn hlt him his
        by_cases h1 : 48 ≤ bn ∧ bn ≤ 57
        · have hv : digV bn = some (bn - 48) := by unfold digV; rw [if_pos h1]
          rw [hv] at hgo
          dsimp only at hgo
          have q1 : (48 : Int) ≤ bn := h1.1
          have q2 : bn ≤ 57 := h1.2
          have w1 : IntKind.u8.wrap (bn - 48) = bn - 48 := by rw [IntKind.wrap_u8]; omega
          have w2 : IntKind.i64.wrap (16 * n) = 16 * n := by rw [IntKind.wrap_i64]; omega
          have w3 : IntKind.i64.wrap (bn - 48) = bn - 48 := by rw [IntKind.wrap_i64]; omega
          have w4 : IntKind.i64.wrap (16 * n + (bn - 48)) = 16 * n + (bn - 48) := by rw [IntKind.wrap_i64]; omega
          have nxt : Hid (numGo s.data.toList 0 = numGo (s.data.toList.drop (i + 1)) (16 * n + (bn - 48)) ∧ 0 ≤ 16 * n + (bn - 48) ∧ 16 * n + (bn - 48) < 16 ^ (i + 1)) := ⟨by rw [hgo]; congr 1; omega, by omega, by have h2 := K.out.2.2; rw [hp.out]; omega⟩
          clear hgo hv K hKn
          go_wp2
          go_roundw
          case rel => exact ⟨i + 1, 16 * n + (bn - 48), by first | rfl | trivial, by first | rfl | (congr 1; omega), by simp, hlt'.out, nxt⟩
          case measure => have := hlt'.out; simp [intOf]; omega
        · by_cases h2 : 97 ≤ bn ∧ bn ≤ 102
          · have hv : digV bn = some (bn - 87) := by unfold digV; rw [if_neg h1, if_pos h2]
            rw [hv] at hgo
            dsimp only at hgo
            have q1 : (97 : Int) ≤ bn := h2.1
            have q2 : bn ≤ 102 := h2.2
            have q3 : (48 : Int) ≤ bn := by omega
            have q4 : ¬ bn ≤ 57 := by omega
            have w1 : IntKind.u8.wrap (bn - 97) = bn - 97 := by rw [IntKind.wrap_u8]; omega
            have w2 : IntKind.i64.wrap (16 * n) = 16 * n := by rw [IntKind.wrap_i64]; omega
            have w3 : IntKind.i64.wrap (bn - 97) = bn - 97 := by rw [IntKind.wrap_i64]; omega
            have w4 : IntKind.i64.wrap (16 * n + (bn - 97)) = 16 * n + (bn - 97) := by rw [IntKind.wrap_i64]; omega
            have w5 : IntKind.i64.wrap (16 * n + (bn - 97) + 10) = 16 * n + (bn - 97) + 10 := by rw [IntKind.wrap_i64]; omega
            have nxt : Hid (numGo s.data.toList 0 = numGo (s.data.toList.drop (i + 1)) (16 * n + (bn - 97) + 10) ∧ 0 ≤ 16 * n + (bn - 97) + 10 ∧ 16 * n + (bn - 97) + 10 < 16 ^ (i + 1)) := ⟨by rw [hgo]; congr 1; omega, by omega, by have h2 := K.out.2.2; rw [hp.out]; omega⟩
            clear hgo hv K hKn
            go_wp2
            go_roundw
            case rel => exact ⟨i + 1, 16 * n + (bn - 97) + 10, by first | rfl | trivial, by first | rfl | (congr 1; omega), by simp, hlt'.out, nxt⟩
            case measure => have := hlt'.out; simp [intOf]; omega
          · have hv : digV bn = none := by unfold digV; rw [if_neg h1, if_neg h2]
            rw [hv] at hgo
            dsimp only at hgo
            have fin : Hid (R = -1) := by rw [hR2.out, hgo]; exact (rfl : (-1 : Int) = -1)
            have fin' := fin.out
            subst fin'
            clear hgo hv K hKn
            by_cases g1 : (48 : Int) ≤ bn
            · have g2 : ¬ bn ≤ 57 := by omega
              by_cases g3 : (97 : Int) ≤ bn
              · have g4 : ¬ bn ≤ 102 := by omega
                clear h1 h2
                go_wp2
                go_ret
                exact ⟨rfl, rfl⟩
              · clear h1 h2
                go_wp2
                go_ret
                exact ⟨rfl, rfl⟩
            · have g3 : ¬ (97 : Int) ≤ bn := by omega
              clear h1 h2
              go_wp2
              go_ret
              exact ⟨rfl, rfl⟩
      · have hie : i = m := by omega
        have fin : Hid (R = n) := by
          rw [hR2.out, K.out.1, List.drop_eq_nil_of_le (by rw [hlen]; have := hsm'.out.1; omega)]
          exact (rfl : n = n)
        have fin' := fin.out
        subst fin'
        have hii : ¬ (i : Int) < m := by omega
        clear hlt
        go_wp2
        go_ret
        exact ⟨rfl, rfl⟩
  · have e0 : numK s.data.toList m = none := by
      unfold numK
      rw [if_neg (by rw [hlen]; exact hsm)]
    rw [e0]
    have e1 : ((s.size : Int) != (m : Int)) = true := by simp; omega
    clear hm hs
    go_enter Tryd.func69, Tryd.ntmps69
    go_wp2
    go_ret
    exact ⟨rfl, rfl⟩
end Go.Proofs.YthaijjehplomfaaDoor
