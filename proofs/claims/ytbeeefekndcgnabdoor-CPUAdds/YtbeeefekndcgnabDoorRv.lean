/- Words added and taken from one another byte by byte, on a memory of its own: of the plain answers. -/
import Derived.Test.YtbeeefekndcgnabDoorRu
namespace Go.Proofs.YtbeeefekndcgnabDoor
open Go
set_option linter.unusedVariables false
set_option maxRecDepth 20000

/-- The adding processor. -/
def sa (r0 r4 r5 r6 d : Int) (f : Bool) (op ph : Nat) : Cp := ⟨fun k => if k = 0 then r0 else if k = 4 then r4 else if k = 5 then r5 else if k = 6 then r6 else 0, d, f, 0, 0, 0, true, false, op, 0, ph⟩
theorem sa_set0 (r0 r4 r5 r6 d : Int) (f : Bool) (op ph : Nat) (v : Int) : (sa r0 r4 r5 r6 d f op ph).setR 0 v = sa v r4 r5 r6 d f op ph := by
  unfold sa Cp.setR
  simp only [Cp.mk.injEq, and_self, and_true]
  funext k
  by_cases h : k = 0 <;> simp [h]
theorem sa_set4 (r0 r4 r5 r6 d : Int) (f : Bool) (op ph : Nat) (v : Int) : (sa r0 r4 r5 r6 d f op ph).setR 4 v = sa r0 v r5 r6 d f op ph := by
  unfold sa Cp.setR
  simp only [Cp.mk.injEq, and_self, and_true]
  funext k
  rcases (show k = 0 ∨ k = 4 ∨ k ≠ 0 ∧ k ≠ 4 by omega) with h | h | ⟨h, h'⟩
  · subst h; simp
  · subst h; simp
  · simp [h, h']
theorem sa_set5 (r0 r4 r5 r6 d : Int) (f : Bool) (op ph : Nat) (v : Int) : (sa r0 r4 r5 r6 d f op ph).setR 5 v = sa r0 r4 v r6 d f op ph := by
  unfold sa Cp.setR
  simp only [Cp.mk.injEq, and_self, and_true]
  funext k
  rcases (show k = 0 ∨ k = 4 ∨ k = 5 ∨ k ≠ 0 ∧ k ≠ 4 ∧ k ≠ 5 by omega) with h | h | h | ⟨h, h', h''⟩
  · subst h; simp
  · subst h; simp
  · subst h; simp
  · simp [h, h', h'']
theorem sa_set6 (r0 r4 r5 r6 d : Int) (f : Bool) (op ph : Nat) (v : Int) : (sa r0 r4 r5 r6 d f op ph).setR 6 v = sa r0 r4 r5 v d f op ph := by
  unfold sa Cp.setR
  simp only [Cp.mk.injEq, and_self, and_true]
  funext k
  rcases (show k = 0 ∨ k = 4 ∨ k = 5 ∨ k = 6 ∨ k ≠ 0 ∧ k ≠ 4 ∧ k ≠ 5 ∧ k ≠ 6 by omega) with h | h | h | h | ⟨h, h', h'', h3⟩
  · subst h; simp
  · subst h; simp
  · subst h; simp
  · subst h; simp
  · simp [h, h', h'', h3]
theorem sa_fetch (r0 r4 r5 r6 d : Int) (f : Bool) (op : Nat) (m : Nat → Int) (b : Nat) (h0 : 0 ≤ r0) (h1 : r0 < 65535) (hb : m r0.toNat = (b : Int)) : run1 (sa r0 r4 r5 r6 d f op 1, m) = (sa (r0 + 1) r4 r5 r6 d f b 2, m) := by
  have e : run1 (sa r0 r4 r5 r6 d f op 1, m) = ({ ((sa r0 r4 r5 r6 d f (m r0.toNat).toNat 1).setR 0 ((r0 + 1) % 65536)) with Ph := 2 }, m) := by kernel_rfl
  rw [e, sa_set0, hb, show (r0 + 1) % 65536 = r0 + 1 by omega]
  rfl
theorem sa_ldi (r0 r4 r5 r6 d : Int) (f : Bool) (m : Nat → Int) (b : Int) (h0 : 0 ≤ r0) (h1 : r0 < 65535) (hb : m r0.toNat = b) : run1 (sa r0 r4 r5 r6 d f 248 2, m) = (sa (r0 + 1) r4 r5 r6 (doV 0 d b f) (doF 0 d b f) 248 1, m) := by
  have e : run1 (sa r0 r4 r5 r6 d f 248 2, m) = ({ ((sa r0 r4 r5 r6 (doV 0 d (m r0.toNat) f) (doF 0 d (m r0.toNat) f) 248 2).setR 0 ((r0 + 1) % 65536)) with Ph := 1 }, m) := by kernel_rfl
  rw [e, sa_set0, hb, show (r0 + 1) % 65536 = r0 + 1 by omega]
  rfl
theorem sa_adi (r0 r4 r5 r6 d : Int) (f : Bool) (m : Nat → Int) (b : Int) (h0 : 0 ≤ r0) (h1 : r0 < 65535) (hb : m r0.toNat = b) : run1 (sa r0 r4 r5 r6 d f 252 2, m) = (sa (r0 + 1) r4 r5 r6 (doV 4 d b f) (doF 4 d b f) 252 1, m) := by
  have e : run1 (sa r0 r4 r5 r6 d f 252 2, m) = ({ ((sa r0 r4 r5 r6 (doV 4 d (m r0.toNat) f) (doF 4 d (m r0.toNat) f) 252 2).setR 0 ((r0 + 1) % 65536)) with Ph := 1 }, m) := by kernel_rfl
  rw [e, sa_set0, hb, show (r0 + 1) % 65536 = r0 + 1 by omega]
  rfl
theorem sa_smi (r0 r4 r5 r6 d : Int) (f : Bool) (m : Nat → Int) (b : Int) (h0 : 0 ≤ r0) (h1 : r0 < 65535) (hb : m r0.toNat = b) : run1 (sa r0 r4 r5 r6 d f 255 2, m) = (sa (r0 + 1) r4 r5 r6 (doV 8 d b f) (doF 8 d b f) 255 1, m) := by
  have e : run1 (sa r0 r4 r5 r6 d f 255 2, m) = ({ ((sa r0 r4 r5 r6 (doV 8 d (m r0.toNat) f) (doF 8 d (m r0.toNat) f) 255 2).setR 0 ((r0 + 1) % 65536)) with Ph := 1 }, m) := by kernel_rfl
  rw [e, sa_set0, hb, show (r0 + 1) % 65536 = r0 + 1 by omega]
  rfl
theorem sa_sdi (r0 r4 r5 r6 d : Int) (f : Bool) (m : Nat → Int) (b : Int) (h0 : 0 ≤ r0) (h1 : r0 < 65535) (hb : m r0.toNat = b) : run1 (sa r0 r4 r5 r6 d f 253 2, m) = (sa (r0 + 1) r4 r5 r6 (doV 6 d b f) (doF 6 d b f) 253 1, m) := by
  have e : run1 (sa r0 r4 r5 r6 d f 253 2, m) = ({ ((sa r0 r4 r5 r6 (doV 6 d (m r0.toNat) f) (doF 6 d (m r0.toNat) f) 253 2).setR 0 ((r0 + 1) % 65536)) with Ph := 1 }, m) := by kernel_rfl
  rw [e, sa_set0, hb, show (r0 + 1) % 65536 = r0 + 1 by omega]
  rfl
theorem sa_adc (r0 r4 r5 r6 d : Int) (f : Bool) (m : Nat → Int) (b : Int) (h0 : 0 ≤ r0) (h1 : r0 < 65535) (hb : m r0.toNat = b) : run1 (sa r0 r4 r5 r6 d f 124 2, m) = (sa (r0 + 1) r4 r5 r6 (doV 5 d b f) (doF 5 d b f) 124 1, m) := by
  have e : run1 (sa r0 r4 r5 r6 d f 124 2, m) = ({ ((sa r0 r4 r5 r6 (doV 5 d (m r0.toNat) f) (doF 5 d (m r0.toNat) f) 124 2).setR 0 ((r0 + 1) % 65536)) with Ph := 1 }, m) := by kernel_rfl
  rw [e, sa_set0, hb, show (r0 + 1) % 65536 = r0 + 1 by omega]
  rfl
theorem sa_smb (r0 r4 r5 r6 d : Int) (f : Bool) (m : Nat → Int) (b : Int) (h0 : 0 ≤ r0) (h1 : r0 < 65535) (hb : m r0.toNat = b) : run1 (sa r0 r4 r5 r6 d f 127 2, m) = (sa (r0 + 1) r4 r5 r6 (doV 9 d b f) (doF 9 d b f) 127 1, m) := by
  have e : run1 (sa r0 r4 r5 r6 d f 127 2, m) = ({ ((sa r0 r4 r5 r6 (doV 9 d (m r0.toNat) f) (doF 9 d (m r0.toNat) f) 127 2).setR 0 ((r0 + 1) % 65536)) with Ph := 1 }, m) := by kernel_rfl
  rw [e, sa_set0, hb, show (r0 + 1) % 65536 = r0 + 1 by omega]
  rfl
theorem sa_sdb (r0 r4 r5 r6 d : Int) (f : Bool) (m : Nat → Int) (b : Int) (h0 : 0 ≤ r0) (h1 : r0 < 65535) (hb : m r0.toNat = b) : run1 (sa r0 r4 r5 r6 d f 125 2, m) = (sa (r0 + 1) r4 r5 r6 (doV 7 d b f) (doF 7 d b f) 125 1, m) := by
  have e : run1 (sa r0 r4 r5 r6 d f 125 2, m) = ({ ((sa r0 r4 r5 r6 (doV 7 d (m r0.toNat) f) (doF 7 d (m r0.toNat) f) 125 2).setR 0 ((r0 + 1) % 65536)) with Ph := 1 }, m) := by kernel_rfl
  rw [e, sa_set0, hb, show (r0 + 1) % 65536 = r0 + 1 by omega]
  rfl
theorem sa_plo4 (r0 r4 r5 r6 d : Int) (f : Bool) (m : Nat → Int) : run1 (sa r0 r4 r5 r6 d f 164 2, m) = (sa r0 (r4 / 256 * 256 + d) r5 r6 d f 164 1, m) := by
  have e : run1 (sa r0 r4 r5 r6 d f 164 2, m) = ({ ((sa r0 r4 r5 r6 d f 164 2).setR 4 (r4 / 256 * 256 + d)) with Ph := 1 }, m) := by kernel_rfl
  rw [e, sa_set4]
  rfl
theorem sa_phi4 (r0 r4 r5 r6 d : Int) (f : Bool) (m : Nat → Int) : run1 (sa r0 r4 r5 r6 d f 180 2, m) = (sa r0 (d * 256 + r4 % 256) r5 r6 d f 180 1, m) := by
  have e : run1 (sa r0 r4 r5 r6 d f 180 2, m) = ({ ((sa r0 r4 r5 r6 d f 180 2).setR 4 (d * 256 + r4 % 256)) with Ph := 1 }, m) := by kernel_rfl
  rw [e, sa_set4]
  rfl
theorem sa_plo5 (r0 r4 r5 r6 d : Int) (f : Bool) (m : Nat → Int) : run1 (sa r0 r4 r5 r6 d f 165 2, m) = (sa r0 r4 (r5 / 256 * 256 + d) r6 d f 165 1, m) := by
  have e : run1 (sa r0 r4 r5 r6 d f 165 2, m) = ({ ((sa r0 r4 r5 r6 d f 165 2).setR 5 (r5 / 256 * 256 + d)) with Ph := 1 }, m) := by kernel_rfl
  rw [e, sa_set5]
  rfl
theorem sa_phi5 (r0 r4 r5 r6 d : Int) (f : Bool) (m : Nat → Int) : run1 (sa r0 r4 r5 r6 d f 181 2, m) = (sa r0 r4 (d * 256 + r5 % 256) r6 d f 181 1, m) := by
  have e : run1 (sa r0 r4 r5 r6 d f 181 2, m) = ({ ((sa r0 r4 r5 r6 d f 181 2).setR 5 (d * 256 + r5 % 256)) with Ph := 1 }, m) := by kernel_rfl
  rw [e, sa_set5]
  rfl
theorem sa_plo6 (r0 r4 r5 r6 d : Int) (f : Bool) (m : Nat → Int) : run1 (sa r0 r4 r5 r6 d f 166 2, m) = (sa r0 r4 r5 (r6 / 256 * 256 + d) d f 166 1, m) := by
  have e : run1 (sa r0 r4 r5 r6 d f 166 2, m) = ({ ((sa r0 r4 r5 r6 d f 166 2).setR 6 (r6 / 256 * 256 + d)) with Ph := 1 }, m) := by kernel_rfl
  rw [e, sa_set6]
  rfl
theorem sa_phi6 (r0 r4 r5 r6 d : Int) (f : Bool) (m : Nat → Int) : run1 (sa r0 r4 r5 r6 d f 182 2, m) = (sa r0 r4 r5 (d * 256 + r6 % 256) d f 182 1, m) := by
  have e : run1 (sa r0 r4 r5 r6 d f 182 2, m) = ({ ((sa r0 r4 r5 r6 d f 182 2).setR 6 (d * 256 + r6 % 256)) with Ph := 1 }, m) := by kernel_rfl
  rw [e, sa_set6]
  rfl
theorem sa_group4 (a r4 r5 r6 d : Int) (f : Bool) (op : Nat) (m : Nat → Int) (x1 y1 x2 y2 : Int) (h0 : 0 ≤ a) (h1 : a + 10 < 65536) (m0 : m a.toNat = 248) (m1 : m (a + 1).toNat = x1) (m2 : m (a + 2).toNat = 252) (m3 : m (a + 3).toNat = y1) (m4 : m (a + 4).toNat = 164) (m5 : m (a + 5).toNat = 248) (m6 : m (a + 6).toNat = x2) (m7 : m (a + 7).toNat = 124) (m8 : m (a + 8).toNat = y2) (m9 : m (a + 9).toNat = 180) :
    runsM 12 (sa a r4 r5 r6 d f op 1, m) = (sa (a + 10) ((doV 5 x2 y2 (doF 4 x1 y1 f)) * 256 + (r4 / 256 * 256 + (doV 4 x1 y1 f)) % 256) r5 r6 (doV 5 x2 y2 (doF 4 x1 y1 f)) (doF 5 x2 y2 (doF 4 x1 y1 f)) 180 1, m) := by
  have e : ∀ s, runsM 12 s = run1 (run1 (run1 (run1 (run1 (run1 (run1 (run1 (run1 (run1 (run1 (run1 s))))))))))) := fun _ => rfl
  have v0 : ∀ (d b : Int) (f : Bool), doV 0 d b f = b := fun _ _ _ => rfl
  have f0 : ∀ (d b : Int) (f : Bool), doF 0 d b f = f := fun _ _ _ => rfl
  rw [e, sa_fetch _ _ _ _ _ _ _ _ 248 (by omega) (by omega) m0, sa_ldi _ _ _ _ _ _ _ x1 (by omega) (by omega) m1, show a + 1 + 1 = a + 2 by omega, sa_fetch _ _ _ _ _ _ _ _ 252 (by omega) (by omega) m2, show a + 2 + 1 = a + 3 by omega,
    sa_adi _ _ _ _ _ _ _ y1 (by omega) (by omega) m3, show a + 3 + 1 = a + 4 by omega, sa_fetch _ _ _ _ _ _ _ _ 164 (by omega) (by omega) m4, show a + 4 + 1 = a + 5 by omega, sa_plo4,
    sa_fetch _ _ _ _ _ _ _ _ 248 (by omega) (by omega) m5, show a + 5 + 1 = a + 6 by omega, sa_ldi _ _ _ _ _ _ _ x2 (by omega) (by omega) m6, show a + 6 + 1 = a + 7 by omega, sa_fetch _ _ _ _ _ _ _ _ 124 (by omega) (by omega) m7, show a + 7 + 1 = a + 8 by omega,
    sa_adc _ _ _ _ _ _ _ y2 (by omega) (by omega) m8, show a + 8 + 1 = a + 9 by omega, sa_fetch _ _ _ _ _ _ _ _ 180 (by omega) (by omega) m9, show a + 9 + 1 = a + 10 by omega, sa_phi4]
  simp only [v0, f0]
theorem sa_group5 (a r4 r5 r6 d : Int) (f : Bool) (op : Nat) (m : Nat → Int) (x1 y1 x2 y2 : Int) (h0 : 0 ≤ a) (h1 : a + 10 < 65536) (m0 : m a.toNat = 248) (m1 : m (a + 1).toNat = x1) (m2 : m (a + 2).toNat = 255) (m3 : m (a + 3).toNat = y1) (m4 : m (a + 4).toNat = 165) (m5 : m (a + 5).toNat = 248) (m6 : m (a + 6).toNat = x2) (m7 : m (a + 7).toNat = 127) (m8 : m (a + 8).toNat = y2) (m9 : m (a + 9).toNat = 181) :
    runsM 12 (sa a r4 r5 r6 d f op 1, m) = (sa (a + 10) r4 ((doV 9 x2 y2 (doF 8 x1 y1 f)) * 256 + (r5 / 256 * 256 + (doV 8 x1 y1 f)) % 256) r6 (doV 9 x2 y2 (doF 8 x1 y1 f)) (doF 9 x2 y2 (doF 8 x1 y1 f)) 181 1, m) := by
  have e : ∀ s, runsM 12 s = run1 (run1 (run1 (run1 (run1 (run1 (run1 (run1 (run1 (run1 (run1 (run1 s))))))))))) := fun _ => rfl
  have v0 : ∀ (d b : Int) (f : Bool), doV 0 d b f = b := fun _ _ _ => rfl
  have f0 : ∀ (d b : Int) (f : Bool), doF 0 d b f = f := fun _ _ _ => rfl
  rw [e, sa_fetch _ _ _ _ _ _ _ _ 248 (by omega) (by omega) m0, sa_ldi _ _ _ _ _ _ _ x1 (by omega) (by omega) m1, show a + 1 + 1 = a + 2 by omega, sa_fetch _ _ _ _ _ _ _ _ 255 (by omega) (by omega) m2, show a + 2 + 1 = a + 3 by omega,
    sa_smi _ _ _ _ _ _ _ y1 (by omega) (by omega) m3, show a + 3 + 1 = a + 4 by omega, sa_fetch _ _ _ _ _ _ _ _ 165 (by omega) (by omega) m4, show a + 4 + 1 = a + 5 by omega, sa_plo5,
    sa_fetch _ _ _ _ _ _ _ _ 248 (by omega) (by omega) m5, show a + 5 + 1 = a + 6 by omega, sa_ldi _ _ _ _ _ _ _ x2 (by omega) (by omega) m6, show a + 6 + 1 = a + 7 by omega, sa_fetch _ _ _ _ _ _ _ _ 127 (by omega) (by omega) m7, show a + 7 + 1 = a + 8 by omega,
    sa_smb _ _ _ _ _ _ _ y2 (by omega) (by omega) m8, show a + 8 + 1 = a + 9 by omega, sa_fetch _ _ _ _ _ _ _ _ 181 (by omega) (by omega) m9, show a + 9 + 1 = a + 10 by omega, sa_phi5]
  simp only [v0, f0]
theorem sa_group6 (a r4 r5 r6 d : Int) (f : Bool) (op : Nat) (m : Nat → Int) (x1 y1 x2 y2 : Int) (h0 : 0 ≤ a) (h1 : a + 10 < 65536) (m0 : m a.toNat = 248) (m1 : m (a + 1).toNat = x1) (m2 : m (a + 2).toNat = 253) (m3 : m (a + 3).toNat = y1) (m4 : m (a + 4).toNat = 166) (m5 : m (a + 5).toNat = 248) (m6 : m (a + 6).toNat = x2) (m7 : m (a + 7).toNat = 125) (m8 : m (a + 8).toNat = y2) (m9 : m (a + 9).toNat = 182) :
    runsM 12 (sa a r4 r5 r6 d f op 1, m) = (sa (a + 10) r4 r5 ((doV 7 x2 y2 (doF 6 x1 y1 f)) * 256 + (r6 / 256 * 256 + (doV 6 x1 y1 f)) % 256) (doV 7 x2 y2 (doF 6 x1 y1 f)) (doF 7 x2 y2 (doF 6 x1 y1 f)) 182 1, m) := by
  have e : ∀ s, runsM 12 s = run1 (run1 (run1 (run1 (run1 (run1 (run1 (run1 (run1 (run1 (run1 (run1 s))))))))))) := fun _ => rfl
  have v0 : ∀ (d b : Int) (f : Bool), doV 0 d b f = b := fun _ _ _ => rfl
  have f0 : ∀ (d b : Int) (f : Bool), doF 0 d b f = f := fun _ _ _ => rfl
  rw [e, sa_fetch _ _ _ _ _ _ _ _ 248 (by omega) (by omega) m0, sa_ldi _ _ _ _ _ _ _ x1 (by omega) (by omega) m1, show a + 1 + 1 = a + 2 by omega, sa_fetch _ _ _ _ _ _ _ _ 253 (by omega) (by omega) m2, show a + 2 + 1 = a + 3 by omega,
    sa_sdi _ _ _ _ _ _ _ y1 (by omega) (by omega) m3, show a + 3 + 1 = a + 4 by omega, sa_fetch _ _ _ _ _ _ _ _ 166 (by omega) (by omega) m4, show a + 4 + 1 = a + 5 by omega, sa_plo6,
    sa_fetch _ _ _ _ _ _ _ _ 248 (by omega) (by omega) m5, show a + 5 + 1 = a + 6 by omega, sa_ldi _ _ _ _ _ _ _ x2 (by omega) (by omega) m6, show a + 6 + 1 = a + 7 by omega, sa_fetch _ _ _ _ _ _ _ _ 125 (by omega) (by omega) m7, show a + 7 + 1 = a + 8 by omega,
    sa_sdb _ _ _ _ _ _ _ y2 (by omega) (by omega) m8, show a + 8 + 1 = a + 9 by omega, sa_fetch _ _ _ _ _ _ _ _ 182 (by omega) (by omega) m9, show a + 9 + 1 = a + 10 by omega, sa_phi6]
  simp only [v0, f0]
theorem bg_sa (a : Int) : ({ zeroC with IE := true, Ph := 1 } : Cp).setR 0 a = sa a 0 0 0 0 false 0 1 := by
  unfold sa Cp.setR zeroC
  simp only [Cp.mk.injEq, and_self, and_true]
  funext k
  by_cases h : k = 0 <;> simp [h]
theorem add_v (a b r : Int) (f : Bool) (ha : 0 ≤ a ∧ a < 65536) (hb : 0 ≤ b ∧ b < 65536) : doV 5 (a / 256) (b / 256) (doF 4 (a % 256) (b % 256) f) * 256 + (0 / 256 * 256 + doV 4 (a % 256) (b % 256) f) % 256 = (a + b) % 65536 ∧ doF 5 (a / 256) (b / 256) (doF 4 (a % 256) (b % 256) f) = decide (65535 < a + b) := by
  have e1 : doV 4 (a % 256) (b % 256) f = (a % 256 + b % 256) % 256 := rfl
  have e2 : doF 4 (a % 256) (b % 256) f = decide (255 < a % 256 + b % 256) := rfl
  rw [e1, e2]
  by_cases h : 255 < a % 256 + b % 256
  · have e3 : doV 5 (a / 256) (b / 256) (decide (255 < a % 256 + b % 256)) = (a / 256 + b / 256 + 1) % 256 := by rw [decide_eq_true h]; rfl
    have e4 : doF 5 (a / 256) (b / 256) (decide (255 < a % 256 + b % 256)) = decide (255 < a / 256 + b / 256 + 1) := by rw [decide_eq_true h]; rfl
    rw [e3, e4]
    refine ⟨by omega, ?_⟩
    rw [decide_eq_decide]
    omega
  · have e3 : doV 5 (a / 256) (b / 256) (decide (255 < a % 256 + b % 256)) = (a / 256 + b / 256 + 0) % 256 := by rw [decide_eq_false h]; rfl
    have e4 : doF 5 (a / 256) (b / 256) (decide (255 < a % 256 + b % 256)) = decide (255 < a / 256 + b / 256 + 0) := by rw [decide_eq_false h]; rfl
    rw [e3, e4]
    refine ⟨by omega, ?_⟩
    rw [decide_eq_decide]
    omega
theorem sub_v (a b : Int) (f : Bool) (ha : 0 ≤ a ∧ a < 65536) (hb : 0 ≤ b ∧ b < 65536) : doV 9 (a / 256) (b / 256) (doF 8 (a % 256) (b % 256) f) * 256 + (0 / 256 * 256 + doV 8 (a % 256) (b % 256) f) % 256 = (a - b) % 65536 ∧ doF 9 (a / 256) (b / 256) (doF 8 (a % 256) (b % 256) f) = decide (b ≤ a) := by
  have e1 : doV 8 (a % 256) (b % 256) f = (a % 256 - b % 256) % 256 := rfl
  have e2 : doF 8 (a % 256) (b % 256) f = decide (b % 256 ≤ a % 256) := rfl
  rw [e1, e2]
  by_cases h : b % 256 ≤ a % 256
  · have e3 : doV 9 (a / 256) (b / 256) (decide (b % 256 ≤ a % 256)) = (a / 256 - b / 256 - 1 + 1) % 256 := by rw [decide_eq_true h]; rfl
    have e4 : doF 9 (a / 256) (b / 256) (decide (b % 256 ≤ a % 256)) = decide (b / 256 < a / 256 + 1) := by rw [decide_eq_true h]; rfl
    rw [e3, e4]
    refine ⟨by omega, ?_⟩
    rw [decide_eq_decide]
    omega
  · have e3 : doV 9 (a / 256) (b / 256) (decide (b % 256 ≤ a % 256)) = (a / 256 - b / 256 - 1 + 0) % 256 := by rw [decide_eq_false h]; rfl
    have e4 : doF 9 (a / 256) (b / 256) (decide (b % 256 ≤ a % 256)) = decide (b / 256 < a / 256 + 0) := by rw [decide_eq_false h]; rfl
    rw [e3, e4]
    refine ⟨by omega, ?_⟩
    rw [decide_eq_decide]
    omega
theorem rev_v (a b : Int) (f : Bool) (ha : 0 ≤ a ∧ a < 65536) (hb : 0 ≤ b ∧ b < 65536) : doV 7 (b / 256) (a / 256) (doF 6 (b % 256) (a % 256) f) * 256 + (0 / 256 * 256 + doV 6 (b % 256) (a % 256) f) % 256 = (a - b) % 65536 ∧ doF 7 (b / 256) (a / 256) (doF 6 (b % 256) (a % 256) f) = decide (b ≤ a) := by
  have e1 : doV 6 (b % 256) (a % 256) f = (a % 256 - b % 256) % 256 := rfl
  have e2 : doF 6 (b % 256) (a % 256) f = decide (b % 256 ≤ a % 256) := rfl
  rw [e1, e2]
  by_cases h : b % 256 ≤ a % 256
  · have e3 : doV 7 (b / 256) (a / 256) (decide (b % 256 ≤ a % 256)) = (a / 256 - b / 256 - 1 + 1) % 256 := by rw [decide_eq_true h]; rfl
    have e4 : doF 7 (b / 256) (a / 256) (decide (b % 256 ≤ a % 256)) = decide (b / 256 < a / 256 + 1) := by rw [decide_eq_true h]; rfl
    rw [e3, e4]
    refine ⟨by omega, ?_⟩
    rw [decide_eq_decide]
    omega
  · have e3 : doV 7 (b / 256) (a / 256) (decide (b % 256 ≤ a % 256)) = (a / 256 - b / 256 - 1 + 0) % 256 := by rw [decide_eq_false h]; rfl
    have e4 : doF 7 (b / 256) (a / 256) (decide (b % 256 ≤ a % 256)) = decide (b / 256 < a / 256 + 0) := by rw [decide_eq_false h]; rfl
    rw [e3, e4]
    refine ⟨by omega, ?_⟩
    rw [decide_eq_decide]
    omega
end Go.Proofs.YtbeeefekndcgnabDoor
