/- Two stores with their twins, side by side. -/
import Derived.Test.YthjpghnmnbhaiaaActB
namespace Go.Proofs.Ythjpghnmnbhaiaa
open Go Go.RowKit
set_option linter.unusedVariables false
set_option maxHeartbeats 400000
set_option maxRecDepth 20000

structure Duo (w : World) (g r m f : Nat) (S : St) (g2 r2 m2 f2 : Nat) (S2 : St) (x : World) : Prop where
  one : Two w x g r m f S S
  two : Two w x g2 r2 m2 f2 S2 S2
  apart : ∀ k, Foot g r m f k → ¬ Foot g2 r2 m2 f2 k
theorem Duo.below {w : World} {g r m f : Nat} {S : St} {g2 r2 m2 f2 : Nat} {S2 : St} (x y : World) (h : Duo w g r m f S g2 r2 m2 f2 S2 x) (hb : Below x.heap.size x y) : Duo w g r m f S g2 r2 m2 f2 S2 y := ⟨h.one.below hb, h.two.below hb, h.apart⟩
theorem Duo.first {w x y : World} {g r m f : Nat} {S S' : St} {g2 r2 m2 f2 : Nat} {S2 : St} (h : Duo w g r m f S g2 r2 m2 f2 S2 x) (k : Goes w x g r m f S' S' y) : Duo w g r m f S' g2 r2 m2 f2 S2 y :=
  ⟨k.1, h.two.keep k.2 h.one.ge h.apart, h.apart⟩
theorem Duo.second {w x y : World} {g r m f : Nat} {S S' : St} {g2 r2 m2 f2 : Nat} {S2 : St} (h : Duo w g r m f S g2 r2 m2 f2 S2 x) (k : Goes w x g2 r2 m2 f2 S' S' y) : Duo w g r m f S g2 r2 m2 f2 S' y :=
  ⟨h.one.keep k.2 h.two.ge fun k h2 h1 => h.apart k h1 h2, k.1, h.apart⟩
theorem Ref.trim {x : World} {r m f : Nat} {S : St} (h : Ref x r m f S) : Ref x r m f S.trim :=
  ⟨h.box, h.mem.congr fun j hj => (by show S.ram j = if 0 ≤ j ∧ j < 0 + S.n then S.ram (j - 0) else 0; rw [if_pos (by omega)]; rfl), h.fix, h.ne⟩
/-- A clone of both, beside what else stands. -/
theorem c_clone (D : World → Prop) (hB : ∀ y z, D y → Below y.heap.size y z → D z) {w : World} {g r m f : Nat} {S : St} (pr : ∀ y, D y → Two w y g r m f S S) (x : World) (K : Hid (D x)) :
    Calls Try.prog 14 #[.pointer (some ⟨g, 0, none⟩)] x fun e y => ∃ g', e = .returned (.pointer (some ⟨g', 0, none⟩)) ∧ Hid (x.heap.size ≤ g' ∧ x.heap.size ≤ y.heap.size ∧ Sto y g' S.trim ∧ D y) := by
  have t := pr x K.out
  refine (clone_any x g S t.okS t.sto).mono ?_
  rintro e y ⟨rfl, hs, hb⟩
  exact ⟨_, rfl, Nat.le_refl _, hb.size, hs, hB x y K.out hb⟩
theorem c_rclone (D : World → Prop) (hB : ∀ y z, D y → Below y.heap.size y z → D z) {w : World} {g r m f : Nat} {S : St} (pr : ∀ y, D y → Two w y g r m f S S) (N g' : Nat) (x : World) (K : Hid (N ≤ g' ∧ N ≤ x.heap.size ∧ Sto x g' S.trim ∧ D x)) (hN : Hid (w.heap.size ≤ N)) :
    Calls Try.prog 15 #[.pointer (some ⟨r, 0, none⟩)] x fun e y => ∃ r' m' f', e = .returned (.pointer (some ⟨r', 0, none⟩)) ∧ Hid (Two w y g' r' m' f' S.trim S.trim ∧ D y ∧ ∀ k, Foot g' r' m' f' k → N ≤ k) := by
  obtain ⟨k1, k2, k3, k4⟩ := K.out
  have hN' := hN.out
  have t := pr x k4
  refine (rclone_any x r m f S t.okT t.ref).mono ?_
  rintro e y ⟨r', m', f', rfl, l1, l2, l3, hr, hb⟩
  have k := hB x y k4 hb
  refine ⟨r', m', f', rfl, ⟨k3.keep (F := fun _ => False) (Upd.of_below hb) (fun h => h), hr.trim, t.okS.trim, t.okS.trim, (pr y k).low, by omega, by omega, by omega, by omega⟩, k, fun q hq => ?_⟩
  rcases hq with rfl | rfl | rfl | rfl <;> omega

section
variable (D : World → Prop) (hB : ∀ y z, D y → Below y.heap.size y z → D z)
theorem d_ram (hB : ∀ y z, D y → Below y.heap.size y z → D z) {w : World} {g r m f : Nat} {S : St} (pr : ∀ y, D y → Two w y g r m f S S) (n : Nat) (hn : S.n = n) (x : World) (K : Hid (D x)) :
    Calls Try.prog 18 #[.pointer (some ⟨g, 0, none⟩)] x fun e y => ∃ b, e = .returned (.slice (some ⟨b, 0, none⟩) n n) ∧ Hid (Blk y b n S.ram ∧ D y) := by
  subst hn
  have t := pr x K.out
  refine (ram_any x g S t.okS t.sto).mono ?_
  rintro e y ⟨rfl, hb, hb2⟩
  exact ⟨_, rfl, hb, hB x y K.out hb2⟩
theorem d_rram (hB : ∀ y z, D y → Below y.heap.size y z → D z) {w : World} {g r m f : Nat} {S : St} (pr : ∀ y, D y → Two w y g r m f S S) (n : Nat) (hn : S.n = n) (b : Nat) (x : World) (K : Hid (Blk x b n S.ram ∧ D x)) :
    Calls Try.prog 19 #[.pointer (some ⟨r, 0, none⟩)] x fun e y => ∃ c, e = .returned (.slice (some ⟨c, 0, none⟩) n n) ∧ Hid (Blk y b n S.ram ∧ Blk y c n S.ram ∧ D y) := by
  subst hn
  have t := pr x K.out.2
  refine (rram_any x r m f S t.okT t.ref).mono ?_
  rintro e y ⟨rfl, hb, hb2⟩
  exact ⟨_, rfl, K.out.1.below hb2, hb, hB x y K.out.2 hb2⟩
theorem d_rom (hB : ∀ y z, D y → Below y.heap.size y z → D z) {w : World} {g r m f : Nat} {S : St} (pr : ∀ y, D y → Two w y g r m f S S) (x : World) (K : Hid (D x)) :
    Calls Try.prog 20 #[.pointer (some ⟨g, 0, none⟩)] x fun e y => ∃ b, e = .returned (.slice (some ⟨b, 0, none⟩) 512 512) ∧ Hid (Blk y b 512 S.rom ∧ D y) := by
  have t := pr x K.out
  refine (romm_any x g S t.sto).mono ?_
  rintro e y ⟨rfl, hb, hb2⟩
  exact ⟨_, rfl, hb, hB x y K.out hb2⟩
theorem d_rrom (hB : ∀ y z, D y → Below y.heap.size y z → D z) {w : World} {g r m f : Nat} {S : St} (pr : ∀ y, D y → Two w y g r m f S S) (b : Nat) (x : World) (K : Hid (Blk x b 512 S.rom ∧ D x)) :
    Calls Try.prog 21 #[.pointer (some ⟨r, 0, none⟩)] x fun e y => ∃ c, e = .returned (.slice (some ⟨c, 0, none⟩) 512 512) ∧ Hid (Blk y b 512 S.rom ∧ Blk y c 512 S.rom ∧ D y) := by
  have t := pr x K.out.2
  refine (rrom_any x r m f S t.ref).mono ?_
  rintro e y ⟨rfl, hb, hb2⟩
  exact ⟨_, rfl, K.out.1.below hb2, hb, hB x y K.out.2 hb2⟩
theorem d_same (hB : ∀ y z, D y → Below y.heap.size y z → D z) (n : Nat) (hn : n ≤ 32768) (Y : Nat → Int) (b c : Nat) (x : World) (K : Hid (Blk x b n Y ∧ Blk x c n Y ∧ D x)) :
    Calls Try.prog 17 #[.slice (some ⟨b, 0, none⟩) n n, .slice (some ⟨c, 0, none⟩) n n] x fun e y => e = .returned (.bool true) ∧ Hid (D y) := by
  refine (same_true x (some ⟨b, 0, none⟩) (some ⟨c, 0, none⟩) n n n Y (by omega) K.out.1.lies K.out.2.1.lies).mono ?_
  rintro e y ⟨rfl, k, rfl⟩
  exact ⟨rfl, hB _ _ K.out.2.2 (below_drewN (Below.refl _ _))⟩
theorem d_latch {w : World} {g r m f : Nat} {S : St} (pr : ∀ y, D y → Two w y g r m f S S) (q : Bool) (hq : S.on = q) (x : World) (K : Hid (D x)) :
    Calls Try.prog 22 #[.pointer (some ⟨g, 0, none⟩)] x fun e y => e = .returned (.bool q) ∧ Hid (D y) := by
  subst hq
  refine (latch_any x g S (pr x K.out).sto).mono ?_
  rintro e y ⟨rfl, rfl⟩
  exact ⟨rfl, K⟩
theorem d_rlatch {w : World} {g r m f : Nat} {S : St} (pr : ∀ y, D y → Two w y g r m f S S) (q : Bool) (hq : S.on = q) (x : World) (K : Hid (D x)) :
    Calls Try.prog 23 #[.pointer (some ⟨r, 0, none⟩)] x fun e y => e = .returned (.bool q) ∧ Hid (D y) := by
  subst hq
  refine (rlatch_any x r m f S (pr x K.out).ref).mono ?_
  rintro e y ⟨rfl, rfl⟩
  exact ⟨rfl, K⟩
end

/-- Lent bytes beside what stands. -/
theorem l_lent (w : World) (sp : Option Addr) (len cap : Nat) (hlen : len ≤ 2147483647) (Y : Nat → Int) (hR : Hid (Row w sp len Y)) :
    Calls Try.prog 10 #[.slice sp len cap] w fun e y => ∃ b, e = .returned (.slice (some ⟨b, 0, none⟩) len (len + 2)) ∧ Hid (Blk y b (len + 2) (lentY len Y) ∧ w.heap.size ≤ b ∧ Below w.heap.size w y) := by
  refine (lent_any w sp len cap hlen Y hR.out.lies).mono ?_
  rintro e z ⟨rfl, hb⟩
  exact ⟨_, rfl, hb.out.1, Nat.le_refl _, hb.out.2⟩
theorem lent_lies {x : World} {b len : Nat} {Y : Nat → Int} (h : Blk x b (len + 2) (lentY len Y)) : Lies x (some ⟨b, 0, none⟩) len Y := fun j hj => ⟨b, 0, rfl, by rw [Nat.zero_add, h.cell j (by omega)]; unfold lentY; rw [if_pos hj]⟩
end Go.Proofs.Ythjpghnmnbhaiaa
