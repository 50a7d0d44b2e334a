/- A processor on a memory of its own, as plain functions: a cycle, so many cycles; a loop, sums of words, an interrupt that saves. -/
import Derived.Test.YtbeeefekndcgnaaGreatDoorLb
import Derived.Test.YtbeeefekndcgnaaGreatDoorCy
namespace Go.Proofs.YtbeeefekndcgnaaGreatDoor
open Go
set_option linter.unusedVariables false
set_option maxRecDepth 20000

def busM (c : Cp) (m : Nat → Int) (p : Pn) : Int := if (driveM c p.Mode).Own then (driveM c p.Mode).Data else if (driveM c p.Mode).Rd then m (driveM c p.Mode).Addr.toNat else p.Data
def memM (c : Cp) (m : Nat → Int) (p : Pn) : Nat → Int := if (driveM c p.Mode).Wr then fun j => if j = (driveM c p.Mode).Addr.toNat then busM c m p else m j else m
def cycM (c : Cp) (m : Nat → Int) (p : Pn) : Cp := stepM c { p with Data := busM c m p }
def run1 (s : Cp × (Nat → Int)) : Cp × (Nat → Int) := (cycM s.1 s.2 zeroP, memM s.1 s.2 zeroP)
def runsM : Nat → Cp × (Nat → Int) → Cp × (Nat → Int)
  | 0, s => s
  | k + 1, s => run1 (runsM k s)
theorem runsM_add (a b : Nat) (s : Cp × (Nat → Int)) : runsM (a + b) s = runsM b (runsM a s) := by
  induction b with
  | zero => rfl
  | succ b ih => show run1 (runsM (a + b) s) = run1 (runsM b (runsM a s)); rw [ih]
theorem runsM_one (k : Nat) (s : Cp × (Nat → Int)) : runsM (k + 1) s = runsM k (run1 s) := by rw [Nat.add_comm]; exact runsM_add 1 k s
/-- A memory with a program from an address on. -/
def roomM (at_ : Nat) (l : List Int) : Nat → Int := fun j => if at_ ≤ j then l.getD (j - at_) 0 else 0
theorem roomM_at (at_ : Nat) (l : List Int) (i : Nat) : roomM at_ l (at_ + i) = l.getD i 0 := by
  unfold roomM
  rw [if_pos (by omega)]
  congr 1
  omega

/-- The loop's processor. -/
def st (r0 r3 d : Int) (op ph : Nat) (q : Bool) : Cp := ⟨fun k => if k = 0 then r0 else if k = 3 then r3 else 0, d, false, 0, 0, 0, true, q, op, 0, ph⟩
theorem st_set0 (r0 r3 d : Int) (op ph : Nat) (q : Bool) (v : Int) : (st r0 r3 d op ph q).setR 0 v = st v r3 d op ph q := by
  unfold st Cp.setR
  simp only [Cp.mk.injEq, and_self, and_true]
  funext k
  by_cases h : k = 0 <;> simp [h]
theorem st_set3 (r0 r3 d : Int) (op ph : Nat) (q : Bool) (v : Int) : (st r0 r3 d op ph q).setR 3 v = st r0 v d op ph q := by
  unfold st Cp.setR
  simp only [Cp.mk.injEq, and_self, and_true]
  funext k
  by_cases h : k = 3
  · subst h; simp
  · by_cases h0 : k = 0
    · subst h0; simp
    · simp [h, h0]
theorem st_fetch (r0 r3 d : Int) (op : Nat) (q : Bool) (m : Nat → Int) (b : Nat) (h0 : 0 ≤ r0) (h1 : r0 < 65535) (hb : m r0.toNat = (b : Int)) : run1 (st r0 r3 d op 1 q, m) = (st (r0 + 1) r3 d b 2 q, m) := by
  have e : run1 (st r0 r3 d op 1 q, m) = ({ ((st r0 r3 d (m r0.toNat).toNat 1 q).setR 0 ((r0 + 1) % 65536)) with Ph := 2 }, m) := by kernel_rfl
  rw [e, st_set0, hb, show (r0 + 1) % 65536 = r0 + 1 by omega]
  rfl
theorem st_ldi (r0 r3 d : Int) (q : Bool) (m : Nat → Int) (b : Int) (h0 : 0 ≤ r0) (h1 : r0 < 65535) (hb : m r0.toNat = b) : run1 (st r0 r3 d 248 2 q, m) = (st (r0 + 1) r3 b 248 1 q, m) := by
  have e : run1 (st r0 r3 d 248 2 q, m) = ({ ((st r0 r3 (m r0.toNat) 248 2 q).setR 0 ((r0 + 1) % 65536)) with Ph := 1 }, m) := by kernel_rfl
  rw [e, st_set0, hb, show (r0 + 1) % 65536 = r0 + 1 by omega]
  rfl
theorem st_plo (r0 r3 d : Int) (q : Bool) (m : Nat → Int) : run1 (st r0 r3 d 163 2 q, m) = (st r0 (r3 / 256 * 256 + d) d 163 1 q, m) := by
  have e : run1 (st r0 r3 d 163 2 q, m) = ({ ((st r0 r3 d 163 2 q).setR 3 (r3 / 256 * 256 + d)) with Ph := 1 }, m) := by kernel_rfl
  rw [e, st_set3]
  rfl
theorem st_dec (r0 r3 d : Int) (q : Bool) (m : Nat → Int) : run1 (st r0 r3 d 35 2 q, m) = (st r0 ((r3 - 1) % 65536) d 35 1 q, m) := by
  have e : run1 (st r0 r3 d 35 2 q, m) = ({ ((st r0 r3 d 35 2 q).setR 3 ((r3 - 1) % 65536)) with Ph := 1 }, m) := by kernel_rfl
  rw [e, st_set3]
  rfl
theorem st_glo (r0 r3 d : Int) (q : Bool) (m : Nat → Int) : run1 (st r0 r3 d 131 2 q, m) = (st r0 r3 (r3 % 256) 131 1 q, m) := by kernel_rfl
theorem st_seq (r0 r3 d : Int) (q : Bool) (m : Nat → Int) : run1 (st r0 r3 d 123 2 q, m) = (st r0 r3 d 123 1 true, m) := by kernel_rfl
theorem st_idl (r0 r3 d : Int) (q : Bool) (m : Nat → Int) : run1 (st r0 r3 d 0 2 q, m) = (st r0 r3 d 0 4 q, m) := by kernel_rfl
theorem st_bnz (r0 r3 d : Int) (q : Bool) (m : Nat → Int) (b : Int) (h0 : 0 ≤ r0) (h1 : r0 < 65535) (hb : m r0.toNat = b) : run1 (st r0 r3 d 58 2 q, m) = (st (if d = 0 then r0 + 1 else r0 / 256 * 256 + b) r3 d 58 1 q, m) := by
  have e : run1 (st r0 r3 d 58 2 q, m) = ({ (if (d == 0) = false then (st r0 r3 d 58 2 q).setR 0 (r0 / 256 * 256 + m r0.toNat) else (st r0 r3 d 58 2 q).setR 0 ((r0 + 1) % 65536)) with Ph := 1 }, m) := by kernel_rfl
  rw [e, st_set0, st_set0, hb, show (r0 + 1) % 65536 = r0 + 1 by omega]
  by_cases h : d = 0
  · subst h; rfl
  · rw [if_pos (by simpa using h), if_neg h]; rfl

/-- Once round the loop. -/
theorem st_round (a r3 d : Int) (op : Nat) (q : Bool) (m : Nat → Int) (h0 : 0 ≤ a) (h1 : a + 10 < 65536) (hpage : (a + 6) / 256 = a / 256 ∧ (a + 3) / 256 = a / 256)
    (m3 : m (a + 3).toNat = 35) (m4 : m (a + 4).toNat = 131) (m5 : m (a + 5).toNat = 58) (m6 : m (a + 6).toNat = (a + 3) % 256) :
    runsM 6 (st (a + 3) r3 d op 1 q, m) = (st (if (r3 - 1) % 65536 % 256 = 0 then a + 7 else a + 3) ((r3 - 1) % 65536) ((r3 - 1) % 65536 % 256) 58 1 q, m) := by
  have e : ∀ s, runsM 6 s = run1 (run1 (run1 (run1 (run1 (run1 s))))) := fun _ => rfl
  rw [e, st_fetch _ _ _ _ _ _ 35 (by omega) (by omega) m3, st_dec, show a + 3 + 1 = a + 4 by omega, st_fetch _ _ _ _ _ _ 131 (by omega) (by omega) m4, st_glo, show a + 4 + 1 = a + 5 by omega,
    st_fetch _ _ _ _ _ _ 58 (by omega) (by omega) m5, show a + 5 + 1 = a + 6 by omega, st_bnz _ _ _ _ _ _ (by omega) (by omega) m6]
  have e1 : (a + 6) / 256 * 256 + (a + 3) % 256 = a + 3 := by omega
  rw [e1, show a + 6 + 1 = a + 7 by omega]
theorem bg_st (a : Int) : ({ zeroC with IE := true, Ph := 1 } : Cp).setR 0 a = st a 0 0 0 1 false := by
  unfold st Cp.setR zeroC
  simp only [Cp.mk.injEq, and_self, and_true]
  funext k
  by_cases h : k = 0 <;> simp [h]
/-- The loop, behind so many rounds. -/
theorem st_loop (a n : Int) (m : Nat → Int) (h0 : 0 ≤ a) (h1 : a + 10 < 65536) (hn : 0 ≤ n ∧ n < 256) (hpage : (a + 6) / 256 = a / 256 ∧ (a + 3) / 256 = a / 256)
    (m0 : m a.toNat = 248) (m1 : m (a + 1).toNat = n) (m2 : m (a + 2).toNat = 163) (m3 : m (a + 3).toNat = 35) (m4 : m (a + 4).toNat = 131) (m5 : m (a + 5).toNat = 58) (m6 : m (a + 6).toNat = (a + 3) % 256) (k : Nat) (hk : k < (if n = 0 then 256 else n.toNat)) :
    runsM (4 + 6 * k) (st a 0 0 0 1 false, m) = (st (a + 3) ((n - k) % 65536) (if k = 0 then n else (n - k) % 65536 % 256) (if k = 0 then 163 else 58) 1 false, m) := by
  induction k with
  | zero =>
    have e : ∀ s, runsM (4 + 6 * 0) s = run1 (run1 (run1 (run1 s))) := fun _ => rfl
    rw [e, st_fetch _ _ _ _ _ _ 248 (by omega) (by omega) m0, st_ldi _ _ _ _ _ n (by omega) (by omega) m1, show a + 1 + 1 = a + 2 by omega, st_fetch _ _ _ _ _ _ 163 (by omega) (by omega) m2, st_plo, show a + 2 + 1 = a + 3 by omega]
    rw [if_pos rfl, if_pos rfl, show (n - ((0 : Nat) : Int)) % 65536 = 0 / 256 * 256 + n by omega]
  | succ k ih =>
    have hk' : k < (if n = 0 then 256 else n.toNat) := by omega
    rw [show 4 + 6 * (k + 1) = (4 + 6 * k) + 6 by omega, runsM_add, ih hk', st_round a _ _ _ _ _ h0 h1 hpage m3 m4 m5 m6]
    have e1 : ((n - (k : Int)) % 65536 - 1) % 65536 = (n - ((k + 1 : Nat) : Int)) % 65536 := by omega
    have e2 : (n - ((k + 1 : Nat) : Int)) % 65536 % 256 ≠ 0 := by
      by_cases hz : n = 0
      · rw [if_pos hz] at hk; omega
      · rw [if_neg hz] at hk; omega
    rw [e1, if_neg e2, if_neg (by omega), if_neg (by omega)]
theorem st_end (a n : Int) (m : Nat → Int) (h0 : 0 ≤ a) (h1 : a + 10 < 65536) (hn : 0 ≤ n ∧ n < 256) (hpage : (a + 6) / 256 = a / 256 ∧ (a + 3) / 256 = a / 256)
    (m0 : m a.toNat = 248) (m1 : m (a + 1).toNat = n) (m2 : m (a + 2).toNat = 163) (m3 : m (a + 3).toNat = 35) (m4 : m (a + 4).toNat = 131) (m5 : m (a + 5).toNat = 58) (m6 : m (a + 6).toNat = (a + 3) % 256) (t : Nat) (ht : t = (if n = 0 then 256 else n.toNat)) :
    runsM (4 + 6 * t) (st a 0 0 0 1 false, m) = (st (a + 7) ((n - t) % 65536) 0 58 1 false, m) := by
  obtain ⟨k, rfl⟩ : ∃ k, t = k + 1 := ⟨t - 1, by by_cases hz : n = 0 <;> simp [hz] at ht <;> omega⟩
  have hk : k < (if n = 0 then 256 else n.toNat) := by omega
  rw [show 4 + 6 * (k + 1) = (4 + 6 * k) + 6 by omega, runsM_add, st_loop a n m h0 h1 hn hpage m0 m1 m2 m3 m4 m5 m6 k hk, st_round a _ _ _ _ _ h0 h1 hpage m3 m4 m5 m6]
  have e1 : ((n - (k : Int)) % 65536 - 1) % 65536 = (n - ((k + 1 : Nat) : Int)) % 65536 := by omega
  have e2 : (n - ((k + 1 : Nat) : Int)) % 65536 % 256 = 0 := by
    by_cases hz : n = 0
    · rw [if_pos hz] at ht; omega
    · rw [if_neg hz] at ht; omega
  rw [e1, e2, if_pos rfl]
theorem st_last (a r3 d : Int) (op : Nat) (m : Nat → Int) (h0 : 0 ≤ a) (h1 : a + 10 < 65536) (m7 : m (a + 7).toNat = 123) (m8 : m (a + 8).toNat = 0) : runsM 4 (st (a + 7) r3 d op 1 false, m) = (st (a + 9) r3 d 0 4 true, m) := by
  have e : ∀ s, runsM 4 s = run1 (run1 (run1 (run1 s))) := fun _ => rfl
  rw [e, st_fetch _ _ _ _ _ _ 123 (by omega) (by omega) m7, st_seq, show a + 7 + 1 = a + 8 by omega, st_fetch _ _ _ _ _ _ 0 (by omega) (by omega) m8, st_idl, show a + 8 + 1 = a + 9 by omega]
end Go.Proofs.YtbeeefekndcgnaaGreatDoor
