/- Rows of a bit, told as lengths: there and back, beeps and waves of them. -/
import Derived.WalkKit
namespace Go.Proofs.Ytbiifkcphaljeaa
open Go.RowKit
set_option linter.unusedVariables false
set_option maxHeartbeats 400000

def levGo : List Bool → Bool → Int → List Int → List Int
  | [], _, n, out => if 0 < n then out ++ [n] else out
  | b :: l, q, n, out => if b = q then levGo l q (n + 1) out else levGo l b 1 (out ++ [n])
/-- How many are low, high, low .. -/
def levels (qs : List Bool) : List Int := levGo qs false 0 []
def unl : List Int → Bool → List Bool
  | [], _ => []
  | n :: v, q => List.replicate n.toNat q ++ unl v (!q)
def oddB (k : Nat) : Bool := k % 2 == 1
theorem oddB_succ (k : Nat) : oddB (k + 1) = !oddB k := by
  unfold oddB
  rcases Nat.mod_two_eq_zero_or_one k with h | h
  · rw [h, show (k + 1) % 2 = 1 by omega]; rfl
  · rw [h, show (k + 1) % 2 = 0 by omega]; rfl
theorem unl_app (a b : List Int) : ∀ q, unl (a ++ b) q = unl a q ++ unl b (q != oddB a.length) := by
  induction a with
  | nil => intro q; simp [unl, oddB]
  | cons n a ih =>
    intro q
    simp only [List.cons_append, unl, ih, List.append_assoc, List.length_cons, oddB_succ]
    congr 3
    cases q <;> cases oddB a.length <;> rfl
theorem unl_lev (l : List Bool) : ∀ (q : Bool) (n : Int) (out : List Int), 0 ≤ n → oddB out.length = q → unl (levGo l q n out) false = unl out false ++ (List.replicate n.toNat q ++ l) := by
  induction l with
  | nil =>
    intro q n out hn hq
    unfold levGo
    split
    · rw [unl_app, hq]
      simp [unl]
    · have : n = 0 := by omega
      subst this
      simp
  | cons b l ih =>
    intro q n out hn hq
    unfold levGo
    split
    · rename_i hb
      rw [ih q (n + 1) out (by omega) hq, hb, show (n + 1).toNat = n.toNat + 1 by omega, List.replicate_succ', List.append_assoc]
      rfl
    · rename_i hb
      have hbq : b = !q := by revert hb; cases b <;> cases q <;> simp
      rw [ih b 1 (out ++ [n]) (by omega) (by rw [List.length_append]; show oddB (out.length + 1) = b; rw [oddB_succ, hq, hbq]), unl_app, hq]
      simp [unl]
theorem unl_levels (qs : List Bool) : unl (levels qs) false = qs := by
  unfold levels
  rw [unl_lev qs false 0 [] (by omega) rfl]
  simp [unl]
theorem levels_inj {a b : List Bool} (h : levels a = levels b) : a = b := by rw [← unl_levels a, ← unl_levels b, h]
theorem lev_good (l : List Bool) : ∀ (q : Bool) (n : Int) (out : List Int), 0 ≤ n → (0 < out.length → 0 < n) → (∀ (i : Nat) (x : Int), out[i]? = some x → 0 ≤ x ∧ (0 < i → 0 < x)) → ∀ (i : Nat) (x : Int), (levGo l q n out)[i]? = some x → 0 ≤ x ∧ (0 < i → 0 < x) := by
  have key : ∀ (n : Int) (out : List Int), 0 ≤ n → (0 < out.length → 0 < n) → (∀ (i : Nat) (x : Int), out[i]? = some x → 0 ≤ x ∧ (0 < i → 0 < x)) → ∀ (i : Nat) (x : Int), (out ++ [n])[i]? = some x → 0 ≤ x ∧ (0 < i → 0 < x) := by
    intro n out h0 h1 h2 i x hx
    rcases Nat.lt_or_ge i out.length with h | h
    · rw [List.getElem?_append_left h] at hx
      exact h2 i x hx
    · rw [List.getElem?_append_right h] at hx
      have hi : i = out.length := by
        have := (List.getElem?_eq_some_iff.1 hx).1
        simp at this
        omega
      subst hi
      simp at hx
      subst hx
      exact ⟨h0, fun h => h1 h⟩
  induction l with
  | nil =>
    intro q n out h0 h1 h2
    unfold levGo
    split
    · exact key n out h0 h1 h2
    · exact h2
  | cons b l ih =>
    intro q n out h0 h1 h2
    unfold levGo
    split
    · exact ih q (n + 1) out (by omega) (fun _ => by omega) h2
    · exact ih b 1 (out ++ [n]) (by omega) (fun _ => by omega) (key n out h0 h1 h2)
theorem levels_good (qs : List Bool) : ∀ (i : Nat) (x : Int), (levels qs)[i]? = some x → 0 ≤ x ∧ (0 < i → 0 < x) := lev_good qs false 0 [] (by omega) (fun h => by simp at h) (fun i x h => by simp at h)
theorem lev_sum (l : List Bool) : ∀ (q : Bool) (n : Int) (out : List Int), 0 ≤ n → (levGo l q n out).sum = out.sum + n + l.length := by
  induction l with
  | nil =>
    intro q n out h0
    unfold levGo
    split
    · simp
    · simp; omega
  | cons b l ih =>
    intro q n out h0
    unfold levGo
    split
    · rw [ih q (n + 1) out (by omega)]; simp; omega
    · rw [ih b 1 (out ++ [n]) (by omega)]; simp; omega
theorem levels_sum (qs : List Bool) : (levels qs).sum = qs.length := by
  unfold levels
  rw [lev_sum qs false 0 [] (by omega)]
  simp
theorem lev_len (l : List Bool) : ∀ (q : Bool) (n : Int) (out : List Int), (levGo l q n out).length ≤ out.length + l.length + 1 := by
  induction l with
  | nil =>
    intro q n out
    unfold levGo
    split <;> simp
  | cons b l ih =>
    intro q n out
    unfold levGo
    split
    · have := ih q (n + 1) out; simp; omega
    · have := ih b 1 (out ++ [n]); simp at this ⊢; omega
theorem levels_len (qs : List Bool) : (levels qs).length ≤ qs.length + 1 := by
  have := lev_len qs false 0 []
  unfold levels
  simpa using this
/-- Where a row begins. -/
def posV (v : List Int) (k : Nat) : Int := (v.take k).sum
theorem posV_zero (v : List Int) : posV v 0 = 0 := by simp [posV]
theorem posV_succ (v : List Int) (k : Nat) (x : Int) (h : v[k]? = some x) : posV v (k + 1) = posV v k + x := by
  unfold posV
  rw [List.take_add_one, h]
  simp
theorem posV_all (v : List Int) : posV v v.length = v.sum := by simp [posV]
theorem posV_past (v : List Int) (k : Nat) (h : v.length ≤ k) : posV v k = v.sum := by unfold posV; rw [List.take_of_length_le h]
theorem posV_mono (v : List Int) (hv : ∀ (i : Nat) (x : Int), v[i]? = some x → 0 ≤ x) (a : Nat) : ∀ d, posV v a ≤ posV v (a + d) := by
  intro d
  induction d with
  | zero => exact Int.le_refl _
  | succ d ih =>
    rcases Nat.lt_or_ge (a + d) v.length with h | h
    · have e := posV_succ v (a + d) _ (List.getElem?_eq_getElem h)
      have := hv (a + d) _ (List.getElem?_eq_getElem h)
      rw [← Nat.add_assoc, e]
      omega
    · rw [← Nat.add_assoc, posV_past v (a + d + 1) (by omega)]
      rw [posV_past v (a + d) h] at ih
      exact ih
theorem posV_le (v : List Int) (hv : ∀ (i : Nat) (x : Int), v[i]? = some x → 0 ≤ x) {a b : Nat} (h : a ≤ b) : posV v a ≤ posV v b := by
  have := posV_mono v hv a (b - a)
  rwa [show a + (b - a) = b by omega] at this
theorem posV_hi (v : List Int) (hv : ∀ (i : Nat) (x : Int), v[i]? = some x → 0 ≤ x) (a : Nat) : 0 ≤ posV v a ∧ posV v a ≤ v.sum := by
  have h0 := posV_le v hv (Nat.zero_le a)
  rw [posV_zero] at h0
  refine ⟨h0, ?_⟩
  rcases Nat.le_total a v.length with h | h
  · have := posV_le v hv h
    rwa [posV_all] at this
  · rw [posV_past v a h]; exact Int.le_refl _
theorem unl_at (v : List Int) : ∀ (q : Bool) (i k : Nat), (∀ (j : Nat) (x : Int), v[j]? = some x → 0 ≤ x) → k < v.length → posV v k ≤ i → (i : Int) < posV v (k + 1) → (unl v q)[i]? = some (q != oddB k) := by
  induction v with
  | nil => intro q i k _ hk; simp at hk
  | cons n v ih =>
    intro q i k hv hk h1 h2
    have hn := hv 0 n rfl
    have hc : ∀ m, posV (n :: v) (m + 1) = n + posV v m := fun m => by simp [posV]
    have hrl : (List.replicate n.toNat q).length = n.toNat := by simp
    cases k with
    | zero =>
      rw [hc, posV_zero] at h2
      unfold unl
      rw [List.getElem?_append_left (by rw [hrl]; omega), List.getElem?_replicate, if_pos (by omega)]
      cases q <;> rfl
    | succ k =>
      rw [hc] at h1 h2
      have hk' : k < v.length := by simpa using hk
      have p0 := (posV_hi v (fun j x hx => hv (j + 1) x (by simpa using hx)) k).1
      unfold unl
      rw [List.getElem?_append_right (by rw [hrl]; omega), hrl, ih (!q) (i - n.toNat) k (fun j x hx => hv (j + 1) x (by simpa using hx)) hk' (by omega) (by omega), oddB_succ]
      cases q <;> cases oddB k <;> rfl
theorem pos_find (v : List Int) (i : Nat) : ∀ K, K ≤ v.length → (i : Int) < posV v K → ∃ k, k < K ∧ posV v k ≤ i ∧ (i : Int) < posV v (k + 1) := by
  intro K
  induction K with
  | zero => intro _ h; rw [posV_zero] at h; omega
  | succ K ih =>
    intro hK h
    by_cases hl : (i : Int) < posV v K
    · obtain ⟨k, h1, h2⟩ := ih (by omega) hl
      exact ⟨k, by omega, h2⟩
    · exact ⟨K, by omega, by omega, h⟩
/-- Beeps. -/
def bepL (v : List Int) : List (Int × Int) := (List.range (v.length / 2)).map fun j => (posV v (2 * j + 1), posV v (2 * j + 2))
/-- Waves. -/
def wavL (v : List Int) : List (Int × Int) := (List.range (v.length / 2)).map fun j => (v.getD (2 * j + 1) 0, v.getD (2 * j + 2) 0)
theorem bepL_len (v : List Int) : (bepL v).length = v.length / 2 := by simp [bepL]
theorem wavL_len (v : List Int) : (wavL v).length = v.length / 2 := by simp [wavL]
theorem bepL_at (v : List Int) (j : Nat) (h : j < v.length / 2) : (bepL v)[j]? = some (posV v (2 * j + 1), posV v (2 * j + 2)) := by simp [bepL, h]
theorem wavL_at (v : List Int) (j : Nat) (h : j < v.length / 2) : (wavL v)[j]? = some (v.getD (2 * j + 1) 0, v.getD (2 * j + 2) 0) := by simp [wavL, h]
/-- What is high lies in a beep. -/
theorem in_beep (qs : List Bool) (i at' : Nat) (hi : i < qs.length) (ha : at' ≤ (levels qs).length / 2) (h1 : ∀ k, k < at' → posV (levels qs) (2 * k + 2) ≤ i) (h2 : at' < (levels qs).length / 2 → (i : Int) < posV (levels qs) (2 * at' + 2)) :
    qs[i]? = some (decide (at' < (levels qs).length / 2 ∧ posV (levels qs) (2 * at' + 1) ≤ i)) := by
  have hv : ∀ (j : Nat) (x : Int), (levels qs)[j]? = some x → 0 ≤ x := fun j x h => (levels_good qs j x h).1
  obtain ⟨k, k1, k2, k3⟩ := pos_find (levels qs) i (levels qs).length (Nat.le_refl _) (by rw [posV_all, levels_sum]; omega)
  have hq := unl_at (levels qs) false i k hv k1 k2 k3
  rw [unl_levels] at hq
  rw [hq]
  congr 1
  have e : (false != oddB k) = oddB k := by cases oddB k <;> rfl
  rw [e]
  rw [Bool.eq_iff_iff]
  simp only [decide_eq_true_eq]
  constructor
  · intro ho
    have ho : k % 2 = 1 := by simpa [oddB] using ho
    obtain ⟨j, rfl⟩ : ∃ j, k = 2 * j + 1 := ⟨k / 2, by omega⟩
    have hjB : j < (levels qs).length / 2 := by omega
    have hge : at' ≤ j := by
      rcases Nat.lt_or_ge j at' with h | h
      · have := h1 j h
        rw [show 2 * j + 2 = 2 * j + 1 + 1 by omega] at this
        omega
      · exact h
    rcases Nat.lt_or_ge at' j with h | h
    · have a1 := h2 (by omega)
      have a2 := posV_le (levels qs) hv (show 2 * at' + 2 ≤ 2 * j + 1 by omega)
      omega
    · have : at' = j := by omega
      subst this
      exact ⟨hjB, k2⟩
  · rintro ⟨hB, hle⟩
    have a1 := h2 hB
    have e1 := unl_at (levels qs) false i (2 * at' + 1) hv (by omega) hle (by rw [show 2 * at' + 1 + 1 = 2 * at' + 2 by omega]; exact a1)
    rw [unl_levels, hq] at e1
    have := Option.some.inj e1
    rw [e] at this
    rw [this]
    have e2 : oddB (2 * at' + 1) = true := by unfold oddB; rw [show (2 * at' + 1) % 2 = 1 by omega]; rfl
    rw [e2]
    rfl
/-- What each beep is. -/
theorem beep_facts (qs : List Bool) (j : Nat) (h : j < (levels qs).length / 2) : ∃ F T H L, posV (levels qs) (2 * j + 1) = F ∧ posV (levels qs) (2 * j + 2) = T ∧ (levels qs).getD (2 * j + 1) 0 = H ∧ (levels qs).getD (2 * j + 2) 0 = L ∧ 0 ≤ F ∧ F < T ∧ T ≤ qs.length ∧ H = T - F ∧ (j + 1 < (levels qs).length / 2 → posV (levels qs) (2 * (j + 1) + 1) = T + L) ∧ (¬ j + 1 < (levels qs).length / 2 → (qs.length : Int) = T + L) ∧ (0 < j → posV (levels qs) (2 * (j - 1) + 2) < F) := by
  have hg := levels_good qs
  have hv : ∀ (j : Nat) (x : Int), (levels qs)[j]? = some x → 0 ≤ x := fun j x h => (hg j x h).1
  have l1 : 2 * j + 1 < (levels qs).length := by omega
  have g1 := List.getElem?_eq_getElem l1
  have p1 := posV_succ (levels qs) (2 * j + 1) _ g1
  have q1 := hg _ _ g1
  have d1 : (levels qs).getD (2 * j + 1) 0 = (levels qs)[2 * j + 1] := by rw [List.getD_eq_getElem?_getD, g1]; rfl
  have t := (posV_hi (levels qs) hv (2 * j + 2)).2
  rw [levels_sum] at t
  refine ⟨_, _, _, _, rfl, rfl, rfl, rfl, (posV_hi (levels qs) hv _).1, ?_, t, ?_, fun h2 => ?_, fun h2 => ?_, fun h0 => ?_⟩
  · have := q1.2 (by omega)
    rw [show 2 * j + 2 = 2 * j + 1 + 1 by omega, p1]
    omega
  · rw [d1, show 2 * j + 2 = 2 * j + 1 + 1 by omega, p1]
    omega
  · have l2 : 2 * j + 2 < (levels qs).length := by omega
    have g2 := List.getElem?_eq_getElem l2
    have p2 := posV_succ (levels qs) (2 * j + 2) _ g2
    rw [List.getD_eq_getElem?_getD, g2, show 2 * (j + 1) + 1 = 2 * j + 2 + 1 by omega, p2]
    rfl
  · rw [← levels_sum qs]
    rcases Nat.lt_or_ge (2 * j + 2) (levels qs).length with l2 | l2
    · have g2 := List.getElem?_eq_getElem l2
      have p2 := posV_succ (levels qs) (2 * j + 2) _ g2
      rw [List.getD_eq_getElem?_getD, g2, ← posV_all, show (levels qs).length = 2 * j + 2 + 1 by omega, p2]
      rfl
    · rw [List.getD_eq_getElem?_getD, List.getElem?_eq_none l2, posV_past _ _ l2]
      simp
  · have l3 : 2 * j < (levels qs).length := by omega
    have g3 := List.getElem?_eq_getElem l3
    have p3 := posV_succ (levels qs) (2 * j) _ g3
    have q3 := (hg _ _ g3).2 (by omega)
    rw [show 2 * (j - 1) + 2 = 2 * j by omega, p3]
    omega
end Go.Proofs.Ytbiifkcphaljeaa
