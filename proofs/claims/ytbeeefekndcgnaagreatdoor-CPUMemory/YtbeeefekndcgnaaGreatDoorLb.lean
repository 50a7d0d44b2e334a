/- What comes of a processor that may be may be again: of the plain answers. -/
import Derived.Test.YtbeeefekndcgnaaGreatDoorPl
namespace Go.Proofs.YtbeeefekndcgnaaGreatDoor
open Go
set_option linter.unusedVariables false

structure Ok (c : Cp) : Prop where
  wf : c.wf
  P : c.P < 16
  X : c.X < 16
theorem Cp.wf.setR {c : Cp} (h : c.wf) (i : Nat) (v : Int) (hv : 0 ≤ v ∧ v < 65536) : (c.setR i v).wf := ⟨fun k => by
  show 0 ≤ (if k = i then v else c.R k) ∧ (if k = i then v else c.R k) < 65536
  by_cases e : k = i
  · rw [if_pos e]; exact hv
  · rw [if_neg e]; exact h.R k, h.D, h.P, h.X, h.T, h.Op, h.B, h.Ph⟩
theorem Ok.setR {c : Cp} (h : Ok c) (i : Nat) (v : Int) (hv : 0 ≤ v ∧ v < 65536) : Ok (c.setR i v) := ⟨h.wf.setR i v hv, h.P, h.X⟩
theorem Ok.up {c : Cp} (h : Ok c) (i : Nat) : Ok (c.up i) := h.setR i _ (by omega)
theorem Ok.down {c : Cp} (h : Ok c) (i : Nat) : Ok (c.down i) := h.setR i _ (by omega)
theorem Ok.setD {c : Cp} (h : Ok c) {v : Int} (hv : 0 ≤ v ∧ v < 256) : Ok { c with D := v } := ⟨⟨h.wf.R, hv, h.wf.P, h.wf.X, h.wf.T, h.wf.Op, h.wf.B, h.wf.Ph⟩, h.P, h.X⟩
theorem Ok.setB {c : Cp} (h : Ok c) {v : Int} (hv : 0 ≤ v ∧ v < 256) : Ok { c with B := v } := ⟨h.wf.setB hv, h.P, h.X⟩
theorem Ok.setPh {c : Cp} (h : Ok c) {v : Nat} (hv : v < 256) : Ok { c with Ph := v } := ⟨⟨h.wf.R, h.wf.D, h.wf.P, h.wf.X, h.wf.T, h.wf.Op, h.wf.B, hv⟩, h.P, h.X⟩
theorem Ok.setOp {c : Cp} (h : Ok c) {v : Nat} (hv : v < 256) : Ok { c with Op := v } := ⟨⟨h.wf.R, h.wf.D, h.wf.P, h.wf.X, h.wf.T, hv, h.wf.B, h.wf.Ph⟩, h.P, h.X⟩
theorem Ok.setIE {c : Cp} (h : Ok c) (v : Bool) : Ok { c with IE := v } := ⟨⟨h.wf.R, h.wf.D, h.wf.P, h.wf.X, h.wf.T, h.wf.Op, h.wf.B, h.wf.Ph⟩, h.P, h.X⟩
theorem Ok.setQ {c : Cp} (h : Ok c) (v : Bool) : Ok { c with Q := v } := ⟨⟨h.wf.R, h.wf.D, h.wf.P, h.wf.X, h.wf.T, h.wf.Op, h.wf.B, h.wf.Ph⟩, h.P, h.X⟩
theorem Ok.setPX {c : Cp} (h : Ok c) {a b : Nat} (ha : a < 16) (hb : b < 16) : Ok { c with X := a, P := b } := ⟨⟨h.wf.R, h.wf.D, by show b < 256; omega, by show a < 256; omega, h.wf.T, h.wf.Op, h.wf.B, h.wf.Ph⟩, hb, ha⟩
theorem Ok.setT {c : Cp} (h : Ok c) {v : Int} (hv : 0 ≤ v ∧ v < 256) : Ok { c with T := v } := ⟨⟨h.wf.R, h.wf.D, h.wf.P, h.wf.X, hv, h.wf.Op, h.wf.B, h.wf.Ph⟩, h.P, h.X⟩
theorem Ok.sum {c : Cp} (h : Ok c) (s : Nat) (b : Int) (hb : 0 ≤ b ∧ b < 256) : Ok (sumM c s b) := ⟨h.wf.sum s b hb, h.P, h.X⟩
theorem shortM_ok {c : Cp} {p : Pn} (h : Ok c) (hp : p.wf) : Ok (shortM c p) := by
  have hr := h.wf.R c.P
  have hd := hp.Data
  unfold shortM
  split
  · exact h.setR _ _ (by omega)
  · exact h.up _
theorem portsM_ok {c : Cp} {p : Pn} (h : Ok c) (hp : p.wf) : Ok (portsM c p) := by
  unfold portsM
  split
  · exact h.up _
  · split
    · exact h.setD hp.Data
    · exact h
theorem ctrlM_ok {c : Cp} {p : Pn} (h : Ok c) (hp : p.wf) : Ok (ctrlM c p) := by
  have hd := hp.Data
  have h0 : (0 : Int) ≤ 0 ∧ (0 : Int) < 256 := by decide
  have hx : (p.Data / 16).toNat < 16 := by omega
  have hq : (p.Data % 16).toNat < 16 := by omega
  have hP := h.P
  have hX := h.X
  unfold ctrlM
  split
  · exact ((h.setIE true).up c.X).setPX hx hq
  · exact ((h.setIE false).up c.X).setPX hx hq
  · exact (h.setD hd).up _
  · exact h.down _
  · exact h.sum _ _ hd
  · exact h.sum _ _ hd
  · exact h.sum _ _ h0
  · exact h.sum _ _ hd
  · exact (((h.setT (v := 16 * (c.X : Int) + c.P) (by omega)).setPX hP hP)).down 2
  · exact h.setQ _
  · exact h.setQ _
  · exact (h.sum _ _ hd).up _
  · exact (h.sum _ _ hd).up _
  · exact h.sum _ _ h0
  · exact (h.sum _ _ hd).up _
  · exact h
theorem sumsM_ok {c : Cp} {p : Pn} (h : Ok c) (hp : p.wf) : Ok (sumsM c p) := by
  have hd := hp.Data
  have h0 : (0 : Int) ≤ 0 ∧ (0 : Int) < 256 := by decide
  unfold sumsM
  split
  all_goals first | exact h.sum _ _ hd | exact h.sum _ _ h0 | exact (h.sum _ _ hd).up _ | exact h
theorem long1M_ok {c : Cp} {p : Pn} (h : Ok c) (hp : p.wf) : Ok (long1M c p) := by
  unfold long1M
  split
  · exact (h.setB hp.Data).up _
  · split
    · exact h.up _
    · exact h
theorem long2M_ok {c : Cp} {p : Pn} (h : Ok c) (hp : p.wf) : Ok (long2M c p) := by
  have hb := h.wf.B
  have hd := hp.Data
  unfold long2M
  refine Ok.setB ?_ (by decide)
  split
  · exact h.setR _ _ (by omega)
  · split
    · exact h.up _
    · exact h
theorem doesM_ok {c : Cp} {p : Pn} (h : Ok c) (hp : p.wf) : Ok (doesM c p) := by
  have hr := h.wf.R (c.Op % 16)
  have hD := h.wf.D
  unfold doesM
  split
  · split
    · exact h
    · exact h.setD hp.Data
  · exact h.up _
  · exact h.down _
  · exact shortM_ok h hp
  · exact (h.setD hp.Data).up _
  · exact portsM_ok h hp
  · exact ctrlM_ok h hp
  · exact h.setD (by omega)
  · exact h.setD (by omega)
  · exact h.setR _ _ (by omega)
  · exact h.setR _ _ (by omega)
  · exact long1M_ok h hp
  · exact h.setPX h.X (by omega)
  · exact h.setPX (by omega) h.P
  · exact sumsM_ok h hp
  · exact h
theorem doesM_Op (c : Cp) (p : Pn) : (doesM c p).Op = c.Op := by
  unfold doesM shortM portsM ctrlM sumsM long1M
  repeat' split
  all_goals rfl
theorem doesM_B (c : Cp) (p : Pn) (h12 : c.Op / 16 ≠ 12) : (doesM c p).B = c.B := by
  unfold doesM shortM portsM ctrlM sumsM
  repeat' split
  all_goals first | rfl | (exact absurd (by assumption) h12)
theorem long2M_Op (c : Cp) (p : Pn) : (long2M c p).Op = c.Op := by
  unfold long2M
  repeat' split
  all_goals rfl
theorem long2M_B (c : Cp) (p : Pn) : (long2M c p).B = 0 := rfl
theorem askedM_le (c : Cp) (p : Pn) (q : Bool) (r : Nat) (h1 : 1 ≤ r) (h8 : r ≤ 8) : 1 ≤ askedM c p q r ∧ askedM c p q r ≤ 8 := by
  unfold askedM
  repeat' split
  all_goals omega
theorem askedM_34 (c : Cp) (p : Pn) (q : Bool) (r : Nat) : (askedM c p q r = 3 → r = 3) ∧ (askedM c p q r = 4 → r = 4) ∧ (askedM c p q r = 5 → r = 5) := by
  unfold askedM
  repeat' split
  all_goals omega
theorem may_ok {c : Cp} (hc : c.wf) (hm : mayM c) : Ok c := ⟨hc, by have := hm.1; omega, by have := hm.2.1; omega⟩
/-- A cycle's processor, from its parts. -/
theorem may_of {d : Cp} (h : Ok d) (r : Nat) (h1 : 1 ≤ r) (h8 : r ≤ 8) (h3 : r = 3 → d.Op / 16 = 12) (hB : r ≠ 3 → d.B = 0) (h45 : r = 4 ∨ r = 5 → d.Op = 0) : Ok { d with Ph := r } ∧ mayM { d with Ph := r } :=
  ⟨h.setPh (by omega), by have := h.P; show d.P ≤ 15; omega, by have := h.X; show d.X ≤ 15; omega, h1, h8, h3, hB, h45⟩
theorem goOnM_may {c : Cp} {p : Pn} (hc : c.wf) (hp : p.wf) (hm : mayM c) : Ok (goOnM c p) ∧ mayM (goOnM c p) := by
  have ho := may_ok hc hm
  obtain ⟨h1, h2, h3, h4, h5, h6, h7⟩ := hm
  have hd := hp.Data
  have hP := ho.P
  have hX := ho.X
  have al := fun d q r a b => askedM_le d p q r a b
  have a3 := fun d q r => askedM_34 d p q r
  unfold goOnM
  rcases (show c.Ph = 1 ∨ c.Ph = 2 ∨ c.Ph = 3 ∨ c.Ph = 4 ∨ c.Ph = 5 ∨ c.Ph = 6 ∨ c.Ph = 7 ∨ c.Ph = 8 by omega) with h | h | h | h | h | h | h | h <;> simp only [h]
  · exact may_of ((ho.setOp (v := p.Data.toNat) (by omega)).up c.P) 2 (by decide) (by decide) (fun h => by omega) (fun _ => h6 (by omega)) (fun h => by omega)
  · have hdo := doesM_ok ho hp
    by_cases h12 : c.Op / 16 = 12
    · rw [if_pos h12]
      exact may_of hdo 3 (by decide) (by decide) (fun _ => by rw [doesM_Op]; exact h12) (fun h => absurd rfl h) (fun h => by omega)
    · rw [if_neg h12]
      have hB : (doesM c p).B = 0 := by rw [doesM_B c p h12]; exact h6 (by omega)
      by_cases h0 : c.Op = 0
      · rw [if_pos h0]
        have := al (doesM c p) false 4 (by decide) (by decide)
        have t := a3 (doesM c p) false 4
        exact may_of hdo _ this.1 this.2 (fun e => absurd (t.1 e) (by decide)) (fun _ => hB) (fun _ => by rw [doesM_Op]; exact h0)
      · rw [if_neg h0]
        have := al (doesM c p) false 1 (by decide) (by decide)
        have t := a3 (doesM c p) false 1
        exact may_of hdo _ this.1 this.2 (fun e => absurd (t.1 e) (by decide)) (fun _ => hB) (fun e => e.elim (fun e => absurd (t.2.1 e) (by decide)) (fun e => absurd (t.2.2 e) (by decide)))
  · have := al (long2M c p) false 1 (by decide) (by decide)
    have t := a3 (long2M c p) false 1
    exact may_of (long2M_ok ho hp) _ this.1 this.2 (fun e => absurd (t.1 e) (by decide)) (fun _ => rfl) (fun e => e.elim (fun e => absurd (t.2.1 e) (by decide)) (fun e => absurd (t.2.2 e) (by decide)))
  · have := al c false 4 (by decide) (by decide)
    have t := a3 c false 4
    exact may_of ho _ this.1 this.2 (fun e => absurd (t.1 e) (by decide)) (fun _ => h6 (by omega)) (fun _ => h7 (.inl h))
  · have := al c true 1 (by decide) (by decide)
    have t := a3 c true 1
    exact may_of (d := begunM c) ((ho.setR 0 0 (by decide)).setPX (by decide) (by decide)) _ this.1 this.2 (fun e => absurd (t.1 e) (by decide)) (fun _ => h6 (by omega)) (fun e => e.elim (fun e => absurd (t.2.1 e) (by decide)) (fun e => absurd (t.2.2 e) (by decide)))
  · have := al c false 1 (by decide) (by decide)
    have t := a3 c false 1
    exact may_of (ho.up 0) _ this.1 this.2 (fun e => absurd (t.1 e) (by decide)) (fun _ => h6 (by omega)) (fun e => e.elim (fun e => absurd (t.2.1 e) (by decide)) (fun e => absurd (t.2.2 e) (by decide)))
  · have := al c false 1 (by decide) (by decide)
    have t := a3 c false 1
    exact may_of (ho.up 0) _ this.1 this.2 (fun e => absurd (t.1 e) (by decide)) (fun _ => h6 (by omega)) (fun e => e.elim (fun e => absurd (t.2.1 e) (by decide)) (fun e => absurd (t.2.2 e) (by decide)))
  · have := al c true 1 (by decide) (by decide)
    have t := a3 c true 1
    exact may_of (d := { c with T := 16 * (c.X : Int) + c.P, P := 1, X := 2, IE := false }) ((((ho.setT (v := 16 * (c.X : Int) + c.P) (by omega)).setPX (a := 2) (b := 1) (by decide) (by decide))).setIE false) _ this.1 this.2 (fun e => absurd (t.1 e) (by decide)) (fun _ => h6 (by omega)) (fun e => e.elim (fun e => absurd (t.2.1 e) (by decide)) (fun e => absurd (t.2.2 e) (by decide)))
theorem zeroC_wf : zeroC.wf := ⟨fun _ => (by decide : (0 : Int) ≤ 0 ∧ (0 : Int) < 65536), (by decide : (0 : Int) ≤ 0 ∧ (0 : Int) < 256), (by decide : 0 < 256), (by decide : 0 < 256), (by decide : (0 : Int) ≤ 0 ∧ (0 : Int) < 256), (by decide : 0 < 256), (by decide : (0 : Int) ≤ 0 ∧ (0 : Int) < 256), (by decide : 0 < 256)⟩
theorem loadM_may {c : Cp} {p : Pn} (hc : c.wf) (hm : mayM c) : Ok (loadM c p) ∧ mayM (loadM c p) := by
  have ho := may_ok hc hm
  obtain ⟨h1, h2, h3, h4, h5, h6, h7⟩ := hm
  have key : ∀ d : Cp, d = (if c.Ph = 5 then begunM c else if c.Ph = 6 then c.up 0 else { c with Op := 0, B := 0 }) → Ok d ∧ d.B = 0 := by
    intro d hd
    subst hd
    split
    · exact ⟨(ho.setR 0 0 (by decide)).setPX (by decide) (by decide), h6 (by omega)⟩
    · split
      · exact ⟨ho.up 0, h6 (by omega)⟩
      · exact ⟨(ho.setOp (v := 0) (by decide)).setB (by decide), rfl⟩
  obtain ⟨k1, k2⟩ := key _ rfl
  unfold loadM
  split
  · exact may_of k1 6 (by decide) (by decide) (fun h => by omega) (fun _ => k2) (fun h => by omega)
  · exact may_of (k1.setOp (v := 0) (by decide)) 4 (by decide) (by decide) (fun h => by omega) (fun _ => k2) (fun _ => rfl)
theorem resetM_may {c : Cp} (hc : c.wf) (hm : mayM c) : Ok (resetM c) ∧ mayM (resetM c) := by
  have ho := may_ok hc hm
  exact may_of (d := { c with Op := 0, B := 0, Q := false, IE := true }) ((((ho.setOp (v := 0) (by decide)).setB (v := 0) (by decide)).setQ false).setIE true) 5 (by decide) (by decide) (fun h => by omega) (fun _ => rfl) (fun _ => rfl)
theorem stepM_wf {c : Cp} {p : Pn} (hc : c.wf) (hp : p.wf) : (stepM c p).wf := by
  unfold stepM
  rcases hch : checkB c with _ | _
  · exact zeroC_wf
  · have hm := (checkB_iff c).1 hch
    rw [if_pos rfl]
    repeat' split
    · exact (goOnM_may hc hp hm).1.wf
    · exact hc
    · exact (resetM_may hc hm).1.wf
    · exact (loadM_may hc hm).1.wf
    · exact zeroC_wf
theorem stepM_may {c : Cp} {p : Pn} (hc : c.wf) (hp : p.wf) (hm : mayM c) (h3 : p.Mode ≤ 3) : mayM (stepM c p) := by
  have hch := (checkB_iff c).2 hm
  unfold stepM
  rw [if_pos hch]
  by_cases m0 : p.Mode = 0
  · rw [if_pos m0]; exact (goOnM_may hc hp hm).2
  · rw [if_neg m0]
    by_cases m1 : p.Mode = 1
    · rw [if_pos m1]; exact hm
    · rw [if_neg m1]
      by_cases m2 : p.Mode = 2
      · rw [if_pos m2]; exact (resetM_may hc hm).2
      · rw [if_neg m2, if_pos (by omega)]; exact (loadM_may hc hm).2
end Go.Proofs.YtbeeefekndcgnaaGreatDoor
