/- Where Data, the flags and the lines do not matter: of the plain answers. -/
import Derived.Test.YtbeeefekndcgnaaDoorLb
namespace Go.Proofs.YtbeeefekndcgnaaDoor
open Go
set_option linter.unusedVariables false

theorem does_data (c : Cp) (p : Pn) (e : Int) (h : rrdB c.Op = false) (h' : rwrB c.Op = false ∨ rowB c.Op = true) : doesM c { p with Data := e } = doesM c p := by
  rcases (show c.Op / 16 = 0 ∨ c.Op / 16 = 1 ∨ c.Op / 16 = 2 ∨ c.Op / 16 = 3 ∨ c.Op / 16 = 4 ∨ c.Op / 16 = 5 ∨ c.Op / 16 = 6 ∨ c.Op / 16 = 7 ∨ c.Op / 16 = 8 ∨ c.Op / 16 = 9 ∨ c.Op / 16 = 10 ∨ c.Op / 16 = 11 ∨ c.Op / 16 = 12 ∨ c.Op / 16 = 13 ∨ c.Op / 16 = 14 ∨ c.Op / 16 = 15 ∨ 15 < c.Op / 16 by omega) with k | k | k | k | k | k | k | k | k | k | k | k | k | k | k | k | k
  case inr.inr.inr.inr.inr.inr.inl =>
    have ki : (c.Op : Int) / 16 = 6 := by omega
    unfold rrdB at h
    unfold rowB rwrB at h'
    simp [ki] at h h'
    unfold doesM portsM
    simp only [k]
    rw [if_neg (by omega), if_neg (by omega), if_neg (by omega), if_neg (by omega)]
  case inr.inr.inr.inr.inr.inr.inr.inl =>
    have ki : (c.Op : Int) / 16 = 7 := by omega
    unfold rrdB at h
    simp [ki] at h
    unfold doesM
    simp only [k]
    unfold ctrlM
    rcases (show c.Op % 16 = 3 ∨ c.Op % 16 = 6 ∨ c.Op % 16 = 8 ∨ c.Op % 16 = 9 ∨ c.Op % 16 = 10 ∨ c.Op % 16 = 11 ∨ c.Op % 16 = 14 by omega) with j | j | j | j | j | j | j <;> simp only [j]
  case inr.inr.inr.inr.inr.inr.inr.inr.inr.inr.inr.inr.inr.inr.inr.inl =>
    have ki : (c.Op : Int) / 16 = 15 := by omega
    unfold rrdB at h
    simp [ki] at h
    unfold doesM
    simp only [k]
    unfold sumsM
    rcases (show c.Op % 16 = 6 ∨ c.Op % 16 = 14 by omega) with j | j <;> simp only [j]
  case inr.inr.inr.inr.inr.inr.inr.inr.inr.inr.inr.inr.inr.inr.inr.inr =>
    unfold doesM
    split <;> first | rfl | omega
  all_goals first
    | (unfold doesM; simp only [k]; done)
    | (have ki : (c.Op : Int) / 16 = 0 := by omega
       unfold rrdB at h; simp [ki] at h; done)
    | (have ki : (c.Op : Int) / 16 = 3 := by omega
       unfold rrdB at h; simp [ki] at h; done)
    | (have ki : (c.Op : Int) / 16 = 4 := by omega
       unfold rrdB at h; simp [ki] at h; done)
    | (have ki : (c.Op : Int) / 16 = 12 := by omega
       unfold rrdB at h; simp [ki] at h; done)
theorem asked_data (d : Cp) (p : Pn) (e : Int) (q : Bool) (r : Nat) : askedM d { p with Data := e } q r = askedM d p q r := rfl
theorem goOn_data {c : Cp} {p : Pn} {e : Int} (hch : checkB c = true) (h : c.Ph ≠ 1) (h2 : c.Ph = 2 ∨ c.Ph = 3 → (runM c).Rd = false ∧ ((runM c).Wr = false ∨ (runM c).Own = true)) : goOnM c { p with Data := e } = goOnM c p := by
  have hm := (checkB_iff c).1 hch
  obtain ⟨m1, m2, m3, m4, m5, m6, m7⟩ := hm
  rcases (show c.Ph = 2 ∨ c.Ph = 3 ∨ c.Ph = 4 ∨ c.Ph = 5 ∨ c.Ph = 6 ∨ c.Ph = 7 ∨ c.Ph = 8 by omega) with k | k | k | k | k | k | k
  · have := h2 (.inl k)
    unfold runM at this
    simp only [k] at this
    unfold goOnM
    simp only [k]
    rw [does_data c p e this.1 this.2]
    rfl
  · have := h2 (.inr k)
    unfold runM at this
    simp only [k] at this
    have t1 := this.1
    have ki : (c.Op : Int) / 16 = 12 := by have := m5 k; omega
    unfold execM rrdB at t1
    simp [ki] at t1
  all_goals (unfold goOnM; simp only [k]; rfl)
theorem step_data {c : Cp} {p : Pn} {e : Int} (hch : checkB c = true) (h : p.Mode = 0 → c.Ph ≠ 1 ∧ (c.Ph = 2 ∨ c.Ph = 3 → (runM c).Rd = false ∧ ((runM c).Wr = false ∨ (runM c).Own = true))) : stepM c { p with Data := e } = stepM c p := by
  unfold stepM
  rw [if_pos hch, if_pos hch]
  by_cases m : p.Mode = 0
  · rw [if_pos m, if_pos m]
    exact goOn_data hch (h m).1 (h m).2
  · rw [if_neg m, if_neg m]
    rfl
theorem short_ef (c : Cp) (p : Pn) (e : Nat → Bool) (h : c.Op % 8 < 4) : shortM c { p with EF := e } = shortM c p := by
  have : holdsM c { p with EF := e } (c.Op % 16 % 8) = holdsM c p (c.Op % 16 % 8) := by
    unfold holdsM
    rcases (show c.Op % 16 % 8 = 0 ∨ c.Op % 16 % 8 = 1 ∨ c.Op % 16 % 8 = 2 ∨ c.Op % 16 % 8 = 3 by omega) with j | j | j | j <;> simp only [j] <;> rfl
  unfold shortM
  rw [this]
theorem does_ef (c : Cp) (p : Pn) (e : Nat → Bool) (h : c.Op / 16 = 3 → c.Op % 8 < 4) : doesM c { p with EF := e } = doesM c p := by
  by_cases k : c.Op / 16 = 3
  · unfold doesM
    simp only [k]
    exact short_ef c p e (h k)
  · unfold doesM
    split
    all_goals first | rfl | exact absurd (by assumption) k
theorem step_ef {c : Cp} {p : Pn} {e : Nat → Bool} (h : p.Mode = 0 → c.Ph = 2 → c.Op / 16 = 3 → c.Op % 8 < 4) : stepM c { p with EF := e } = stepM c p := by
  unfold stepM
  by_cases hch : checkB c = true
  · rw [if_pos hch, if_pos hch]
    by_cases m : p.Mode = 0
    · rw [if_pos m, if_pos m]
      by_cases k : c.Ph = 2
      · unfold goOnM
        simp only [k]
        rw [does_ef c p e (h m k)]
        rfl
      · unfold goOnM
        split
        all_goals first | rfl | exact absurd (by assumption) k
    · rw [if_neg m, if_neg m]
      rfl
  · rw [if_neg hch, if_neg hch]
theorem step_lines {c : Cp} {p : Pn} {a b d : Bool} (h : p.Mode = 2 ∨ p.Mode = 1 ∨ p.Mode = 0 ∧ (c.Ph = 1 ∨ c.Ph = 2 ∧ c.Op / 16 = 12)) : stepM c { p with DI := a, DO := b, Int_ := d } = stepM c p := by
  unfold stepM
  by_cases hch : checkB c = true
  · rw [if_pos hch, if_pos hch]
    rcases h with m | m | ⟨m, k⟩
    · simp only [m]; rfl
    · simp only [m]; rfl
    · rw [if_pos m, if_pos m]
      rcases k with k | ⟨k, k'⟩
      · unfold goOnM
        simp only [k]
      · unfold goOnM
        simp only [k]
        rw [if_pos k', if_pos k']
        have : doesM c { p with DI := a, DO := b, Int_ := d } = doesM c p := by
          unfold doesM
          simp only [k']
          rfl
        rw [this]
  · rw [if_neg hch, if_neg hch]
end Go.Proofs.YtbeeefekndcgnaaDoor
