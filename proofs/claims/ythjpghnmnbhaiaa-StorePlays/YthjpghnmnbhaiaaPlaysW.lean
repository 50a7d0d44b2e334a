/- vesperlaw03.StorePlays, walked. -/
import Derived.Test.YthjpghnmnbhaiaaDuo
namespace Go.Proofs.Ythjpghnmnbhaiaa
open Go Go.RowKit
set_option linter.unusedVariables false
set_option maxHeartbeats 1000000
set_option maxRecDepth 20000

def LB (w : World) (b len : Nat) (Y : Nat → Int) (y : World) : Prop := Blk y b (len + 2) (lentY len Y) ∧ w.heap.size ≤ b ∧ Below w.heap.size w y
theorem LB.below {w : World} {b len : Nat} {Y : Nat → Int} {y z : World} (h : LB w b len Y y) (hb : Below y.heap.size y z) : LB w b len Y z := ⟨h.1.below hb, h.2.1, h.2.2.trans (hb.mono h.2.2.size)⟩
theorem l_back (w : World) (sp : Option Addr) (len cap : Nat) (hlen : len ≤ 2147483647) (Y : Nat → Int) (hR : Hid (Row w sp len Y)) (b : Nat) (y : World) (K : Hid (LB w b len Y y)) :
    Calls Try.prog 13 #[.slice (some ⟨b, 0, none⟩) len (len + 2), .slice sp len cap] y fun e z => e = .returned (.bool true) ∧ Hid (Below w.heap.size w z) := by
  refine (back_any y b sp len cap hlen Y (hR.out.at K.out.2.2) K.out.1).mono ?_
  rintro e z ⟨rfl, u⟩
  exact ⟨rfl, K.out.2.2.trans (u.below K.out.2.2.size (fun k hk => by subst hk; exact K.out.2.1))⟩
/-- Lent bytes beside a store. -/
def LS (w : World) (b len : Nat) (Y : Nat → Int) (g : Nat) (S : St) (y : World) : Prop := Blk y b (len + 2) (lentY len Y) ∧ w.heap.size ≤ b ∧ b ≠ g ∧ b < y.heap.size ∧ Std w y g S
theorem l_new (w : World) (n : Nat) (h1 : 2048 ≤ n) (h2 : n ≤ 32768) (h3 : n % 2048 = 0) (Y : Nat → Int) (b : Nat) (y : World) (K : Hid (LB w b 512 Y y)) :
    Calls Try.prog 11 #[.int .i64 (n : Int), .slice (some ⟨b, 0, none⟩) 512 514] y fun e z => ∃ g, e = .returned (.tuple #[.pointer (some ⟨g, 0, none⟩), .int .i64 0]) ∧ Hid (LS w b 512 Y g { St.fresh n true with rom := Y } z) := by
  refine (new_some y n h1 h2 h3 (some ⟨b, 0, none⟩) 514 Y (lent_lies K.out.1)).mono ?_
  rintro e z ⟨rfl, hs, hb⟩
  have hl := K.out.1.lt
  exact ⟨_, rfl, K.out.1.below hb, K.out.2.1, by omega, Nat.lt_of_lt_of_le hl hb.size, hs, K.out.2.2.trans (hb.mono K.out.2.2.size), K.out.2.2.size⟩
theorem l_rnew (w : World) (n : Nat) (h1 : 2048 ≤ n) (h2 : n ≤ 32768) (h3 : n % 2048 = 0) (sp : Option Addr) (cap : Nat) (Y : Nat → Int) (hR : Hid (Row w sp 512 Y)) (b g : Nat) (S : St) (ok : S.ok) (y : World) (K : Hid (LS w b 512 Y g S y)) :
    Calls Try.prog 12 #[.int .i64 (n : Int), .slice sp 512 cap] y fun e z => ∃ r m f, e = .returned (.tuple #[.pointer (some ⟨r, 0, none⟩), .int .i64 0]) ∧ Hid (Blk z b 514 (lentY 512 Y) ∧ w.heap.size ≤ b ∧ ¬ Foot g r m f b ∧ Two w z g r m f S { St.fresh n true with rom := Y }) := by
  obtain ⟨k1, k2, k3, k4, k5⟩ := K.out
  refine (rnew_some y n h1 h2 h3 sp cap Y (hR.out.at k5.2.1)).mono ?_
  rintro e z ⟨r, m, f, rfl, l1, l2, l3, hr, hb⟩
  have k := k5.below hb
  have hs := k5.2.1.size
  exact ⟨r, m, f, rfl, k1.below hb, k2, fun h => by rcases h with h | h | h | h <;> omega, k.1, hr, ok, St.fresh_ok h1 h2 h3 hR.out.ok, k.2.1, k.2.2, by omega, by omega, by omega⟩
theorem l_back2 (w : World) (sp : Option Addr) (cap : Nat) (Y : Nat → Int) (hR : Hid (Row w sp 512 Y)) (b g r m f : Nat) (S T : St) (y : World) (K : Hid (Blk y b 514 (lentY 512 Y) ∧ w.heap.size ≤ b ∧ ¬ Foot g r m f b ∧ Two w y g r m f S T)) :
    Calls Try.prog 13 #[.slice (some ⟨b, 0, none⟩) 512 514, .slice sp 512 cap] y fun e z => e = .returned (.bool true) ∧ Hid (Two w z g r m f S T) := by
  obtain ⟨k1, k2, k3, k4⟩ := K.out
  refine (back_any y b sp 512 cap (by decide) Y (hR.out.at k4.low) k1).mono ?_
  rintro e z ⟨rfl, u⟩
  exact ⟨rfl, k4.keep u (fun k hk => by subst hk; exact k2) (fun k hk => by subst hk; exact k3)⟩
theorem nsz_LB (w x : World) (n : Int) (hn : ¬ (2048 ≤ n ∧ n ≤ 32768 ∧ n.tmod 2048 = 0)) (sp : Option Addr) (l cap : Nat) (b len : Nat) (Y : Nat → Int) (K : Hid (LB w b len Y x)) :
    Calls Try.prog 11 #[.int .i64 n, .slice sp l cap] x fun e y => e = .returned (.tuple #[.pointer none, .int .i64 30]) ∧ Hid (LB w b len Y y) :=
  (new_size x n hn sp l cap).mono fun e y ⟨h1, h2⟩ => ⟨h1, by rw [h2]; exact K⟩
theorem rnsz_LB (w x : World) (n : Int) (hn : ¬ (2048 ≤ n ∧ n ≤ 32768 ∧ n.tmod 2048 = 0)) (sp : Option Addr) (l cap : Nat) (b len : Nat) (Y : Nat → Int) (K : Hid (LB w b len Y x)) :
    Calls Try.prog 12 #[.int .i64 n, .slice sp l cap] x fun e y => e = .returned (.tuple #[.pointer none, .int .i64 30]) ∧ Hid (LB w b len Y y) :=
  (rnew_size x n hn sp l cap).mono fun e y ⟨h1, h2⟩ => ⟨h1, by rw [h2]; exact K⟩
theorem nro_LB (w x : World) (n : Nat) (h1 : 2048 ≤ n) (h2 : n ≤ 32768) (h3 : n % 2048 = 0) (sp : Option Addr) (l cap : Nat) (hl : l ≠ 512) (b len : Nat) (Y : Nat → Int) (K : Hid (LB w b len Y x)) :
    Calls Try.prog 11 #[.int .i64 (n : Int), .slice sp l cap] x fun e y => e = .returned (.tuple #[.pointer none, .int .i64 31]) ∧ Hid (LB w b len Y y) :=
  (new_rom x n h1 h2 h3 sp l cap hl).mono fun e y ⟨h1, h2⟩ => ⟨h1, by rw [h2]; exact K⟩
theorem rnro_LB (w x : World) (n : Nat) (h1 : 2048 ≤ n) (h2 : n ≤ 32768) (h3 : n % 2048 = 0) (sp : Option Addr) (l cap : Nat) (hl : l ≠ 512) (b len : Nat) (Y : Nat → Int) (K : Hid (LB w b len Y x)) :
    Calls Try.prog 12 #[.int .i64 (n : Int), .slice sp l cap] x fun e y => e = .returned (.tuple #[.pointer none, .int .i64 31]) ∧ Hid (LB w b len Y y) :=
  (rnew_rom x n h1 h2 h3 sp l cap hl).mono fun e y ⟨h1, h2⟩ => ⟨h1, by rw [h2]; exact K⟩

theorem plays_bad (w : World) (n : Int) (hn : Hid (¬ (2048 ≤ n ∧ n ≤ 32768 ∧ n.tmod 2048 = 0))) (sp : Option Addr) (len cap : Nat) (hlen : len ≤ maxLen) (Y : Nat → Int) (hR : Hid (Row w sp len Y)) (a : Option Addr) (sl sc : Nat) (h : Script w a sl sc) :
    Calls Try.prog 4 #[.int .i64 n, .slice sp len cap, .slice a sl sc] w fun e w' => e = .returned (.bool true) ∧ Below w.heap.size w w' := by
  have hv := vast_any w sp len cap hlen a sl sc h
  have K : Hid (Below w.heap.size w w) := Below.refl _ _
  have H : ∀ b, Hid (b = false → (len : Int) ≤ 2147483647 ∧ (sl : Int) ≤ 2147483647 ∧ Mild w a sl) → b = false → Hid (len ≤ 2147483647) := fun b h1 h2 => by have := (h1.out h2).1; show len ≤ 2147483647; omega
  clear h hlen
  go_enter Try.func4, Try.ntmps4
  go_wp2_with (first
    | (go_at_call 9; refine hv.mono ?_; rintro e x ⟨b, rfl, hw, hvb⟩; replace hw := hw.symm; subst hw; have hvb' : Hid _ := hvb; clear hvb)
    | (go_at_call 10; have hl : Hid (len ≤ 2147483647) := H _ hvb' (by assumption); refine (l_lent w sp len cap hl.out Y hR).mono ?_; rintro e x ⟨bb, rfl, K0⟩; replace K0 : Hid (LB w bb len Y x) := K0.out)
    | (go_at_call 11; refine (nsz_LB w _ n hn.out _ _ _ bb len Y K0).mono ?_; rintro e x ⟨rfl, K1⟩)
    | (go_at_call 12; refine (rnsz_LB w _ n hn.out _ _ _ bb len Y K1).mono ?_; rintro e x ⟨rfl, K2⟩)
    | (go_at_call 13; refine (l_back w sp len cap hl.out Y hR bb _ K2).mono ?_; rintro e x ⟨rfl, K3⟩)
    | (go_at_call 8; refine (awake_low w _ K3).mono ?_; rintro e x ⟨rfl, K4⟩))
  · go_ret
    exact ⟨rfl, K.out⟩
  · go_ret
    exact ⟨rfl, K4.out⟩

theorem plays_rom (w : World) (n : Nat) (h1 : 2048 ≤ n) (h2 : n ≤ 32768) (h3 : n % 2048 = 0) (sp : Option Addr) (len cap : Nat) (hlen : len ≤ maxLen) (h5 : len ≠ 512) (Y : Nat → Int) (hR : Hid (Row w sp len Y)) (a : Option Addr) (sl sc : Nat) (h : Script w a sl sc) :
    Calls Try.prog 4 #[.int .i64 (n : Int), .slice sp len cap, .slice a sl sc] w fun e w' => e = .returned (.bool true) ∧ Below w.heap.size w w' := by
  have hv := vast_any w sp len cap hlen a sl sc h
  have K : Hid (Below w.heap.size w w) := Below.refl _ _
  have H : ∀ b, Hid (b = false → (len : Int) ≤ 2147483647 ∧ (sl : Int) ≤ 2147483647 ∧ Mild w a sl) → b = false → Hid (len ≤ 2147483647) := fun b h1 h2 => by have := (h1.out h2).1; show len ≤ 2147483647; omega
  have hn : Hid (2048 ≤ n ∧ n ≤ 32768 ∧ n % 2048 = 0 ∧ len ≠ 512) := ⟨h1, h2, h3, h5⟩
  clear h hlen h1 h2 h3 h5
  go_enter Try.func4, Try.ntmps4
  go_wp2_with (first
    | (go_at_call 9; refine hv.mono ?_; rintro e x ⟨b, rfl, hw, hvb⟩; replace hw := hw.symm; subst hw; have hvb' : Hid _ := hvb; clear hvb)
    | (go_at_call 10; have hl : Hid (len ≤ 2147483647) := H _ hvb' (by assumption); refine (l_lent w sp len cap hl.out Y hR).mono ?_; rintro e x ⟨bb, rfl, K0⟩; replace K0 : Hid (LB w bb len Y x) := K0.out)
    | (go_at_call 11; refine (nro_LB w _ n hn.out.1 hn.out.2.1 hn.out.2.2.1 _ _ _ hn.out.2.2.2 bb len Y K0).mono ?_; rintro e x ⟨rfl, K1⟩)
    | (go_at_call 12; refine (rnro_LB w _ n hn.out.1 hn.out.2.1 hn.out.2.2.1 _ _ _ hn.out.2.2.2 bb len Y K1).mono ?_; rintro e x ⟨rfl, K2⟩)
    | (go_at_call 13; refine (l_back w sp len cap hl.out Y hR bb _ K2).mono ?_; rintro e x ⟨rfl, K3⟩)
    | (go_at_call 8; refine (awake_low w _ K3).mono ?_; rintro e x ⟨rfl, K4⟩))
  · go_ret
    exact ⟨rfl, K.out⟩
  · go_ret
    exact ⟨rfl, K4.out⟩
end Go.Proofs.Ythjpghnmnbhaiaa
