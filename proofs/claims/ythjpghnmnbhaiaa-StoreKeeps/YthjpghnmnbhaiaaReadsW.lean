/- vesperlaw03.StoreReads, walked. -/
import Derived.Test.YthjpghnmnbhaiaaPair
import Derived.Test.YthjpghnmnbhaiaaAwake
import Derived.Test.YthjpghnmnbhaiaaOpen
namespace Go.Proofs.Ythjpghnmnbhaiaa
open Go Go.RowKit
set_option linter.unusedVariables false
set_option maxHeartbeats 400000
set_option maxRecDepth 20000

theorem Row.at {w x : World} {a : Option Addr} {len : Nat} {Y : Nat → Int} (h : Row w a len Y) (hb : Below w.heap.size w x) : Lies x a len Y := fun j hj => by
  obtain ⟨gb, ob, e, c⟩ := h.lies j hj
  exact ⟨gb, ob, e, (hb.cell (p := ⟨gb, ob + j, none⟩) (h.low ⟨gb, ob, none⟩ e (by omega))).trans c⟩
theorem rom_low (w x : World) (hb : Hid (Below w.heap.size w x)) : Calls Try.prog 24 #[] x fun e y => ∃ b, e = .returned (.slice (some ⟨b, 0, none⟩) 512 512) ∧ Hid (Blk y b 512 romY ∧ Below w.heap.size w y) :=
  (rom_any x).mono fun e y ⟨h1, h2, h3⟩ => ⟨_, h1, h2, hb.out.trans (h3.mono hb.out.size)⟩
theorem rom_std (w x : World) (g : Nat) (S : St) (K : Hid (Std w x g S)) : Calls Try.prog 24 #[] x fun e y => ∃ b, e = .returned (.slice (some ⟨b, 0, none⟩) 512 512) ∧ Hid (Blk y b 512 romY ∧ Std w y g S) :=
  (rom_any x).mono fun e y ⟨h1, h2, h3⟩ => ⟨_, h1, h2, K.out.below h3⟩
theorem new_low (w x : World) (b n : Nat) (h1 : 2048 ≤ n) (h2 : n ≤ 32768) (h3 : n % 2048 = 0) (Y : Nat → Int) (sp : Option Addr) (cap : Nat) (K : Hid (Lies x sp 512 Y ∧ Below w.heap.size w x)) :
    Calls Try.prog 11 #[.int .i64 (n : Int), .slice sp 512 cap] x fun e y => ∃ g, e = .returned (.tuple #[.pointer (some ⟨g, 0, none⟩), .int .i64 0]) ∧ Hid (Std w y g { St.fresh n true with rom := Y }) :=
  (new_some x n h1 h2 h3 sp cap Y K.out.1).mono fun e y ⟨e1, e2, e3⟩ => ⟨_, e1, e2, K.out.2.trans (e3.mono K.out.2.size), K.out.2.size⟩
theorem rnew_std (w x : World) (g n : Nat) (h1 : 2048 ≤ n) (h2 : n ≤ 32768) (h3 : n % 2048 = 0) (S : St) (ok : S.ok) (Y : Nat → Int) (hY : ∀ j, 0 ≤ Y j ∧ Y j < 256) (sp : Option Addr) (cap : Nat) (K : Hid (Lies x sp 512 Y ∧ Std w x g S)) :
    Calls Try.prog 12 #[.int .i64 (n : Int), .slice sp 512 cap] x fun e y => ∃ r m f, e = .returned (.tuple #[.pointer (some ⟨r, 0, none⟩), .int .i64 0]) ∧ Hid (Two w y g r m f S { St.fresh n true with rom := Y }) :=
  (rnew_some x n h1 h2 h3 sp cap Y K.out.1).mono fun e y ⟨r, m, f, e1, lr, lm, lf, e2, e3⟩ => by
    have k := K.out.2.below e3
    have hs := K.out.2.2.1.size
    exact ⟨r, m, f, e1, k.1, e2, ok, St.fresh_ok h1 h2 h3 hY, k.2.1, k.2.2, by omega, by omega, by omega⟩
theorem awake_two (w x : World) (g r m f : Nat) (S T : St) (K : Hid (Two w x g r m f S T)) : Calls Try.prog 8 #[] x fun e y => e = .returned (.bool true) ∧ Hid (Two w y g r m f S T) :=
  (awake_any x).mono fun e y ⟨h1, h2⟩ => ⟨h1, K.out.below h2⟩
theorem awake_low (w x : World) (hb : Hid (Below w.heap.size w x)) : Calls Try.prog 8 #[] x fun e y => e = .returned (.bool true) ∧ Hid (Below w.heap.size w y) :=
  (awake_any x).mono fun e y ⟨h1, h2⟩ => ⟨h1, hb.out.trans (h2.mono hb.out.size)⟩
theorem new_size_low (w x : World) (n : Int) (hn : ¬ (2048 ≤ n ∧ n ≤ 32768 ∧ n.tmod 2048 = 0)) (sp : Option Addr) (len cap : Nat) (hb : Hid (Below w.heap.size w x)) :
    Calls Try.prog 11 #[.int .i64 n, .slice sp len cap] x fun e y => e = .returned (.tuple #[.pointer none, .int .i64 30]) ∧ Hid (Below w.heap.size w y) :=
  (new_size x n hn sp len cap).mono fun e y ⟨h1, h2⟩ => ⟨h1, by rw [h2]; exact hb⟩
theorem rnew_size_low (w x : World) (n : Int) (hn : ¬ (2048 ≤ n ∧ n ≤ 32768 ∧ n.tmod 2048 = 0)) (sp : Option Addr) (len cap : Nat) (hb : Hid (Below w.heap.size w x)) :
    Calls Try.prog 12 #[.int .i64 n, .slice sp len cap] x fun e y => e = .returned (.tuple #[.pointer none, .int .i64 30]) ∧ Hid (Below w.heap.size w y) :=
  (rnew_size x n hn sp len cap).mono fun e y ⟨h1, h2⟩ => ⟨h1, by rw [h2]; exact hb⟩

theorem reads_long (w : World) (n : Int) (sp : Option Addr) (len cap : Nat) (on : Bool) (h : (2147483647 : Int) < len) (h2 : len ≤ maxLen) :
    Calls Try.prog 5 #[.int .i64 n, .slice sp len cap, .bool on] w fun e w' => e = .returned (.bool true) ∧ Below w.heap.size w w' := by
  have h3 : (len : Int) ≤ 9223372036854775807 := by unfold maxLen at h2; omega
  clear h2
  go_enter Try.func5, Try.ntmps5
  go_wp2
  go_ret
  exact ⟨rfl, Below.refl _ _⟩
theorem reads_bad (w : World) (n : Int) (hn : Hid (¬ (2048 ≤ n ∧ n ≤ 32768 ∧ n.tmod 2048 = 0))) (sp : Option Addr) (len cap : Nat) (on : Bool) (h : (len : Int) ≤ 2147483647) :
    Calls Try.prog 5 #[.int .i64 n, .slice sp len cap, .bool on] w fun e w' => e = .returned (.bool true) ∧ Below w.heap.size w w' := by
  have K : Hid (Below w.heap.size w w) := Below.refl _ _
  go_enter Try.func5, Try.ntmps5
  go_wp2_with (first
    | (go_at_call 24; refine (rom_low w _ K).mono ?_; rintro e x ⟨b, rfl, K1⟩; replace K : Hid _ := K1.out.2)
    | (go_at_call 11; refine (new_size_low w _ n hn.out _ _ _ K).mono ?_; rintro e x ⟨rfl, K1⟩; replace K := K1)
    | (go_at_call 12; refine (rnew_size_low w _ n hn.out _ _ _ K).mono ?_; rintro e x ⟨rfl, K1⟩; replace K := K1)
    | (go_at_call 8; refine (awake_low w _ K).mono ?_; rintro e x ⟨rfl, K1⟩; replace K := K1))
  go_ret
  exact ⟨rfl, K.out⟩

theorem wrapk {k : Nat} (h : Hid (k < 65536)) : wrap64 ((k : Int) + 1) = (k : Int) + 1 := by have := h.out; unfold wrap64; omega
theorem reads_good (w : World) (n : Nat) (h1 : 2048 ≤ n) (h2 : n ≤ 32768) (h3 : n % 2048 = 0) (sp : Option Addr) (len cap : Nat) (on : Bool) (h : (len : Int) ≤ 2147483647) (Y : Nat → Int) (hY : Hid (Row w sp len Y)) :
    Calls Try.prog 5 #[.int .i64 (n : Int), .slice sp len cap, .bool on] w fun e w' => e = .returned (.bool true) ∧ Below w.heap.size w w' := by
  have K : Hid (Below w.heap.size w w) := Below.refl _ _
  obtain ⟨S, hS⟩ : ∃ S, Hid (S = ({ St.fresh n true with rom := romY } : St)) := ⟨_, (rfl : _ = _)⟩
  have hn : Hid (2048 ≤ n ∧ n ≤ 32768 ∧ n % 2048 = 0) := ⟨h1, h2, h3⟩
  have okS : Hid S.ok := by rw [hS.out]; exact St.fresh_ok h1 h2 h3 romY_ok
  have nS : Hid (S.n = n) := by rw [hS.out]; rfl
  have hlen : Hid (len ≤ maxLen) := by show len ≤ maxLen; unfold maxLen; omega
  clear h1 h2 h3
  go_enter Try.func5, Try.ntmps5
  go_wp2_with (first
    | (go_at_call 24; first
       | (refine (rom_std w _ _ S K1).mono ?_; rintro e x ⟨b, rfl, K2⟩; replace K2 : Hid (Lies x (some ⟨b, 0, none⟩) 512 romY ∧ Std w x g S) := ⟨K2.out.1.lies, K2.out.2⟩)
       | (refine (rom_low w _ K).mono ?_; rintro e x ⟨b, rfl, K0⟩; replace K0 : Hid (Lies x (some ⟨b, 0, none⟩) 512 romY ∧ Below w.heap.size w x) := ⟨K0.out.1.lies, K0.out.2⟩))
    | (go_at_call 11; refine (new_low w _ 0 n hn.out.1 hn.out.2.1 hn.out.2.2 romY _ _ K0).mono ?_; rintro e x ⟨g, rfl, K1⟩; replace K1 : Hid (Std w x g S) := (by rw [hS.out]; exact K1))
    | (go_at_call 12; refine (rnew_std w _ g n hn.out.1 hn.out.2.1 hn.out.2.2 S okS.out romY romY_ok _ _ K2).mono ?_; rintro e x ⟨r, m, f, rfl, K3⟩; replace K3 : Hid (Two w x g r m f S S) := (by have := K3.out; rw [← hS.out] at this; exact this))
    | (go_at_call 8; refine (awake_two w _ g r m f S S K3).mono ?_; rintro e x ⟨rfl, K4⟩; have L4 : Hid (Lies x sp len Y) := hY.out.at K4.out.low)
    | (go_at_call 25; refine (p_lay w _ g r m f S S K4 0 (by decide) (by decide) sp len cap hlen.out Y L4 hY.out.ok).mono ?_; rintro e x ⟨rfl, K5⟩; have L5 : Hid (Lies x sp len Y) := hY.out.at K5.out.1.low)
    | (go_at_call 26; refine (p_rlay w _ g r m f _ S K5.out.1 0 (by decide) (by decide) sp len cap hlen.out Y L5 hY.out.ok).mono ?_; rintro e x ⟨rfl, K6⟩)
    | (go_at_call 27; refine (p_setLatch w _ g r m f _ _ K6.out.1 on).mono ?_; rintro e x ⟨⟨v, rfl⟩, K7⟩)
    | (go_at_call 28; refine (p_rsetLatch w _ g r m f _ _ K7.out.1 on).mono ?_; rintro e x ⟨⟨v, rfl⟩, K8⟩))
  obtain ⟨T, hT⟩ : ∃ T, (S.layd 0 len Y).latch on = T := ⟨_, rfl⟩
  rw [hT] at K8
  have K9 : Hid (Two w x g r m f T T) := K8.out.1
  clear K0 K1 K2 K3 K4 K5 K6 K7 K8 L4 L5 hT hS okS nS hlen hn hY
  go_loopw [11] (fun i wz => ∃ (k : Nat) (wx : World), wx = wz ∧ k ≤ 65536 ∧ i = .int .i64 (k : Int) ∧ Hid (Two w wx g r m f T T)) (fun i _ => (65536 - intOf i).toNat)
  case atStart => exact ⟨0, _, rfl, by omega, rfl, K9⟩
  case round =>
    clear K9
    obtain ⟨k, wx, rfl, hk, rfl, HX⟩ := hrel
    by_cases hlt : k < 65536
    · have q1 : decide ((k : Int) < 65536) = true := by simp; omega
      have e2 : IntKind.u16.wrap (k : Int) = (k : Int) := by rw [IntKind.wrap_u16]; omega
      have hlt' : Hid (k < 65536) := hlt
      clear hk hlt
      go_wp2_with (first
        | (go_at_call 29; refine (p_read w _ g r m f T T HX k hlt'.out).mono ?_; rintro e x ⟨rfl, K1⟩)
        | (go_at_call 30; refine (p_rread w _ g r m f T T K1.out.1 k hlt'.out).mono ?_; rintro e x ⟨rfl, K2⟩))
      go_roundw
      case rel => exact ⟨k + 1, _, rfl, by have := hlt'.out; omega, by rw [wrapk hlt']; simp, K2.out.1⟩
      case measure => have := hlt'.out; rw [wrapk hlt']; simp [intOf]; omega
    · have q1 : decide ((k : Int) < 65536) = false := by simp; omega
      clear hk hlt
      go_wp2
      go_ret
      exact ⟨rfl, HX.out.low⟩

theorem reads_any (w : World) (n : Int) (sp : Option Addr) (len cap : Nat) (on : Bool) (h : len ≤ maxLen ∧ ∃ Y : Nat → Int, Row w sp len Y) :
    Calls Try.prog 5 #[.int .i64 n, .slice sp len cap, .bool on] w fun e w' => e = .returned (.bool true) ∧ Below w.heap.size w w' := by
  obtain ⟨h0, Y, hY⟩ := h
  by_cases hl : (2147483647 : Int) < len
  · exact reads_long w n sp len cap on hl h0
  by_cases hn : 2048 ≤ n ∧ n ≤ 32768 ∧ n.tmod 2048 = 0
  · obtain ⟨k, rfl⟩ := Int.eq_ofNat_of_zero_le (show 0 ≤ n by omega)
    have h3 : k % 2048 = 0 := by have := hn.2.2; rw [Int.tmod_eq_emod_of_nonneg (by omega)] at this; omega
    exact reads_good w k (by omega) (by omega) h3 sp len cap on (by omega) Y hY
  · exact reads_bad w n hn sp len cap on (by omega)
end Go.Proofs.Ythjpghnmnbhaiaa
