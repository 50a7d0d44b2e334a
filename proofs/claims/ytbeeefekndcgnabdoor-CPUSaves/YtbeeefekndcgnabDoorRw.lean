/- An interrupt that saves and returns, on a memory of its own: of the plain answers. -/
import Derived.Test.YtbeeefekndcgnabDoorRu
namespace Go.Proofs.YtbeeefekndcgnabDoor
open Go
set_option linter.unusedVariables false
set_option maxRecDepth 20000

/-- The processor that is interrupted. -/
def sv (c : Cp) (r1 r2 : Int) (p x : Nat) (t : Int) (ie : Bool) (op ph : Nat) : Cp := ⟨fun k => if k = 1 then r1 else if k = 2 then r2 else c.R k, c.D, c.DF, p, x, t, ie, c.Q, op, 0, ph⟩
theorem sv_set1 (c : Cp) (r1 r2 : Int) (p x : Nat) (t : Int) (ie : Bool) (op ph : Nat) (v : Int) : (sv c r1 r2 p x t ie op ph).setR 1 v = sv c v r2 p x t ie op ph := by
  unfold sv Cp.setR
  simp only [Cp.mk.injEq, and_self, and_true]
  funext k
  by_cases h : k = 1 <;> simp [h]
theorem sv_set2 (c : Cp) (r1 r2 : Int) (p x : Nat) (t : Int) (ie : Bool) (op ph : Nat) (v : Int) : (sv c r1 r2 p x t ie op ph).setR 2 v = sv c r1 v p x t ie op ph := by
  unfold sv Cp.setR
  simp only [Cp.mk.injEq, and_self, and_true]
  funext k
  rcases (show k = 1 ∨ k = 2 ∨ k ≠ 1 ∧ k ≠ 2 by omega) with h | h | ⟨h, h'⟩
  · subst h; simp
  · subst h; simp
  · simp [h, h']
theorem sv_check (c : Cp) (r1 r2 : Int) (p x : Nat) (t : Int) (op : Nat) (hp : p ≤ 15) (hx : x ≤ 15) : checkB (sv c r1 r2 p x t true op 8) = true := by
  rw [checkB_iff]
  exact ⟨hp, hx, by show 1 ≤ 8; decide, by show 8 ≤ 8; decide, fun h => absurd h (by show ¬ 8 = 3; decide), fun _ => rfl, fun h => h.elim (fun h => absurd h (by show ¬ 8 = 4; decide)) (fun h => absurd h (by show ¬ 8 = 5; decide))⟩
theorem sv_s3 (c : Cp) (r1 r2 : Int) (p x : Nat) (t : Int) (op : Nat) (m : Nat → Int) (hp : p ≤ 15) (hx : x ≤ 15) : run1 (sv c r1 r2 p x t true op 8, m) = (sv c r1 r2 1 2 (16 * (x : Int) + p) false op 1, m) := by
  have hk := sv_check c r1 r2 p x t op hp hx
  have hd : driveM (sv c r1 r2 p x t true op 8) 0 = runM (sv c r1 r2 p x t true op 8) := by unfold driveM; rw [if_pos hk, if_pos rfl]
  have hr : (runM (sv c r1 r2 p x t true op 8)).Wr = false ∧ (runM (sv c r1 r2 p x t true op 8)).Own = false ∧ (runM (sv c r1 r2 p x t true op 8)).Rd = false := ⟨rfl, rfl, rfl⟩
  have hb : busM (sv c r1 r2 p x t true op 8) m zeroP = 0 := by
    unfold busM
    rw [show zeroP.Mode = 0 from rfl, hd, hr.2.1, hr.2.2]
    rfl
  have hm : memM (sv c r1 r2 p x t true op 8) m zeroP = m := by
    unfold memM
    rw [show zeroP.Mode = 0 from rfl, hd, hr.1]
    rfl
  unfold run1
  show (cycM _ m zeroP, memM _ m zeroP) = _
  rw [hm]
  unfold cycM
  rw [hb]
  have hs : stepM (sv c r1 r2 p x t true op 8) { zeroP with Data := 0 } = goOnM (sv c r1 r2 p x t true op 8) { zeroP with Data := 0 } := by unfold stepM; rw [if_pos hk]; exact if_pos rfl
  rw [hs]
  rfl
theorem sv_fetch (c : Cp) (r1 r2 : Int) (t : Int) (op : Nat) (m : Nat → Int) (b : Nat) (h0 : 0 ≤ r1) (h1 : r1 < 65535) (hb : m r1.toNat = (b : Int)) : run1 (sv c r1 r2 1 2 t false op 1, m) = (sv c (r1 + 1) r2 1 2 t false b 2, m) := by
  have e : run1 (sv c r1 r2 1 2 t false op 1, m) = ({ ((sv c r1 r2 1 2 t false (m r1.toNat).toNat 1).setR 1 ((r1 + 1) % 65536)) with Ph := 2 }, m) := by kernel_rfl
  rw [e, sv_set1, hb, show (r1 + 1) % 65536 = r1 + 1 by omega]
  rfl
theorem sv_dec (c : Cp) (r1 r2 : Int) (t : Int) (m : Nat → Int) : run1 (sv c r1 r2 1 2 t false 34 2, m) = (sv c r1 ((r2 - 1) % 65536) 1 2 t false 34 1, m) := by
  have e : run1 (sv c r1 r2 1 2 t false 34 2, m) = ({ ((sv c r1 r2 1 2 t false 34 2).setR 2 ((r2 - 1) % 65536)) with Ph := 1 }, m) := by kernel_rfl
  rw [e, sv_set2]
  rfl
theorem sv_sav (c : Cp) (r1 r2 : Int) (t : Int) (m : Nat → Int) : run1 (sv c r1 r2 1 2 t false 120 2, m) = (sv c r1 r2 1 2 t false 120 1, fun j => if j = r2.toNat then t else m j) := by kernel_rfl
theorem sv_ret (c : Cp) (r1 r2 : Int) (t : Int) (m : Nat → Int) (hb : m r2.toNat = t) : run1 (sv c r1 r2 1 2 t false 112 2, m) = (sv c r1 ((r2 + 1) % 65536) (t % 16).toNat (t / 16).toNat t true 112 1, m) := by
  have e : run1 (sv c r1 r2 1 2 t false 112 2, m) = ({ ((sv c r1 r2 1 2 t true 112 2).setR 2 ((r2 + 1) % 65536)) with X := (m r2.toNat / 16).toNat, P := (m r2.toNat % 16).toNat, Ph := 1 }, m) := by kernel_rfl
  rw [e, sv_set2, hb]
  rfl
theorem sv_all (c : Cp) (s : Int) (p x : Nat) (t : Int) (op : Nat) (m : Nat → Int) (hp : p ≤ 15) (hx : x ≤ 15) (hs : 0 ≤ s ∧ s < 65536) (hs' : s < 16384 ∨ 16640 ≤ s) (m0 : m 16384 = 34) (m1 : m 16385 = 120) (m2 : m 16386 = 112) :
    runsM 7 (sv c 16384 s p x t true op 8, m) = (sv c 16387 s p x (16 * (x : Int) + p) true 112 1, fun j => if j = ((s - 1) % 65536).toNat then 16 * (x : Int) + p else m j) := by
  have e : ∀ s, runsM 7 s = run1 (run1 (run1 (run1 (run1 (run1 (run1 s)))))) := fun _ => rfl
  rw [e, sv_s3 _ _ _ _ _ _ _ _ hp hx, sv_fetch _ _ _ _ _ _ 34 (by decide) (by decide) m0, sv_dec, sv_fetch _ _ _ _ _ _ 120 (by decide) (by decide) m1, sv_sav,
    sv_fetch _ _ _ _ _ _ 112 (by decide) (by decide) (by rw [if_neg (by show ¬ (16386 : Nat) = _; omega)]; exact m2), sv_ret _ _ _ _ _ (by rw [if_pos rfl])]
  have e1 : ((s - 1) % 65536 + 1) % 65536 = s := by omega
  have e2 : ((16 * (x : Int) + p) % 16).toNat = p := by omega
  have e3 : ((16 * (x : Int) + p) / 16).toNat = x := by omega
  rw [e1, e2, e3]
  rfl
end Go.Proofs.YtbeeefekndcgnabDoor
