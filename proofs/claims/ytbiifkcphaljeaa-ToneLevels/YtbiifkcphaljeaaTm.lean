/- Rows of a bit one behind the other, and what is made of them row by row: levels, beeps, waves. -/
import Derived.Test.YtbiifkcphaljeaaTa
namespace Go.Proofs.Ytbiifkcphaljeaa
open Go.RowKit
set_option linter.unusedVariables false
set_option maxHeartbeats 400000

/-- A row: its first record, the first one behind it, whether it is high. -/
structure Rw where
  a : Int
  b : Int
  h : Bool
/-- What a row may be. -/
def Rw.ok (x : Rw) : Prop := 0 ≤ x.a ∧ x.a ≤ x.b ∧ x.b ≤ 2147483647
abbrev Rk := { x : Rw // x.ok }
def baseL (q : Bool) (v : List Int) : List Int := if q = true ∧ v.length = 0 then v ++ [0] else v
def levS (v : List Int) (x : Rw) : List Int := baseL x.h v ++ [x.b - x.a]
def bepS (v : List (Int × Int)) (x : Rw) : List (Int × Int) := if x.h = true then v ++ [(x.a, x.b)] else v
def wavS (v : List (Int × Int)) (x : Rw) : List (Int × Int) := if x.h = true then v ++ [(x.b - x.a, 0)] else match v[v.length - 1]? with
  | none => v
  | some p => v.set (v.length - 1) (p.1, x.b - x.a)
def levF (l : List Rk) : List Int := l.foldl (fun v x => levS v x.1) []
def bepF (l : List Rk) : List (Int × Int) := l.foldl (fun v x => bepS v x.1) []
def wavF (l : List Rk) : List (Int × Int) := l.foldl (fun v x => wavS v x.1) []
theorem levF_snoc (l : List Rk) (x : Rk) : levF (l ++ [x]) = levS (levF l) x.1 := by simp [levF]
theorem bepF_snoc (l : List Rk) (x : Rk) : bepF (l ++ [x]) = bepS (bepF l) x.1 := by simp [bepF]
theorem wavF_snoc (l : List Rk) (x : Rk) : wavF (l ++ [x]) = wavS (wavF l) x.1 := by simp [wavF]
theorem wavS_len (v : List (Int × Int)) (x : Rw) : (wavS v x).length ≤ v.length + 1 := by
  unfold wavS
  split
  · simp
  · split <;> simp
theorem bepS_len (v : List (Int × Int)) (x : Rw) : (bepS v x).length ≤ v.length + 1 := by
  unfold bepS
  split <;> simp
theorem baseL_len (q : Bool) (v : List Int) : (baseL q v).length ≤ v.length + 1 := by
  unfold baseL
  split <;> simp
theorem lev_lenS (n : Nat) : ∀ l : List Rk, l.length = n → (levF l).length ≤ n + 1 ∧ (0 < n → 0 < (levF l).length) := by
  induction n with
  | zero =>
    intro l h
    have : l = [] := List.eq_nil_of_length_eq_zero h
    subst this
    simp [levF]
  | succ n ih =>
    intro l h
    obtain ⟨l', x, rfl⟩ : ∃ l' x, l = l' ++ [x] := by
      have hne : l ≠ [] := fun e => by subst e; simp at h
      exact ⟨l.dropLast, l.getLast hne, (List.dropLast_concat_getLast hne).symm⟩
    have hl : l'.length = n := by simpa using h
    have hi := ih l' hl
    rw [levF_snoc]
    unfold levS baseL
    rw [List.length_append]
    refine ⟨?_, by simp⟩
    split
    · rename_i hc
      simp
      omega
    · simp
      omega
theorem fold_len {β : Type} (f : List β → Rw → List β) (hf : ∀ v x, (f v x).length ≤ v.length + 1) (l : List Rk) : ∀ v, (l.foldl (fun v x => f v x.1) v).length ≤ v.length + l.length := by
  induction l with
  | nil => intro v; simp
  | cons x l ih =>
    intro v
    have h1 := ih (f v x.1)
    have h2 := hf v x.1
    simp only [List.foldl_cons, List.length_cons]
    omega
theorem bepF_len (l : List Rk) : (bepF l).length ≤ l.length := by
  have := fold_len bepS bepS_len l []
  simpa [bepF] using this
theorem wavF_len (l : List Rk) : (wavF l).length ≤ l.length := by
  have := fold_len wavS wavS_len l []
  simpa [wavF] using this
/-- Where the rows of a trace have come to record k. -/
structure Rs (qs : List Bool) (pre : List Rk) (k : Nat) : Prop where
  kle : k ≤ qs.length
  cnt : pre.length ≤ k
  lev : ∀ q, qs[k]? = some q → levels qs = levGo (qs.drop k) q 0 (baseL q (levF pre)) ∧ oddB (baseL q (levF pre)).length = q
  fin : k = qs.length → levels qs = levF pre
  bep : bepF pre = bepL (levF pre)
  wav : wavF pre = wavL (levF pre)
  sum : (levF pre).sum = k
theorem Rs.start (qs : List Bool) : Rs qs [] 0 := by
  refine ⟨Nat.zero_le _, Nat.le_refl _, fun q hq => ?_, fun h => ?_, ?_, ?_, ?_⟩
  · obtain ⟨l, rfl⟩ : ∃ l, qs = q :: l := by
      cases qs with
      | nil => simp at hq
      | cons b l => simp at hq; exact ⟨l, by rw [hq]⟩
    cases q with
    | false => exact ⟨rfl, rfl⟩
    | true => exact ⟨rfl, rfl⟩
  · have : qs = [] := List.eq_nil_of_length_eq_zero h.symm
    subst this
    rfl
  · rfl
  · rfl
  · rfl
theorem lev_skip (qs : List Bool) (q : Bool) (out : List Int) (k : Nat) : ∀ (d : Nat), (∀ i, k ≤ i → i < k + d → qs[i]? = some q) → levGo (qs.drop k) q 0 out = levGo (qs.drop (k + d)) q d out := by
  intro d
  induction d with
  | zero => intro _; rfl
  | succ d ih =>
    intro h
    rw [ih fun i h1 h2 => h i h1 (by omega)]
    have hq := h (k + d) (by omega) (by omega)
    obtain ⟨hlt, he⟩ := List.getElem?_eq_some_iff.1 hq
    rw [List.drop_eq_getElem_cons hlt, he]
    rw [show levGo (q :: qs.drop (k + d + 1)) q (d : Int) out = levGo (qs.drop (k + d + 1)) q ((d : Int) + 1) out from if_pos rfl]
    rfl
theorem posV_take (a b : List Int) (k : Nat) (h : k ≤ a.length) : posV (a ++ b) k = posV a k := by
  unfold posV
  rw [List.take_append_of_le_length h]
theorem bepL_low (v : List Int) (m : Int) (h : v.length % 2 = 0) : bepL (v ++ [m]) = bepL v := by
  unfold bepL
  have e : (v ++ [m]).length / 2 = v.length / 2 := by simp; omega
  rw [e]
  apply List.map_congr_left
  intro j hj
  have := List.mem_range.1 hj
  rw [posV_take _ _ _ (by omega), posV_take _ _ _ (by omega)]
theorem bepL_high (v : List Int) (m : Int) (h : v.length % 2 = 1) : bepL (v ++ [m]) = bepL v ++ [(v.sum, v.sum + m)] := by
  unfold bepL
  obtain ⟨j, hj⟩ : ∃ j, v.length = 2 * j + 1 := ⟨v.length / 2, by omega⟩
  have e : (v ++ [m]).length / 2 = v.length / 2 + 1 := by simp; omega
  rw [e, List.range_succ, List.map_append]
  congr 1
  · apply List.map_congr_left
    intro i hi
    have := List.mem_range.1 hi
    rw [posV_take _ _ _ (by omega), posV_take _ _ _ (by omega)]
  · simp only [List.map_cons, List.map_nil]
    rw [show 2 * (v.length / 2) + 1 = v.length by omega, show 2 * (v.length / 2) + 2 = (v ++ [m]).length by simp; omega, posV_all, posV_take _ _ _ (Nat.le_refl _), posV_all]
    simp
theorem getD_app1 (v : List Int) (m : Int) (k : Nat) (h : k < v.length) : (v ++ [m]).getD k 0 = v.getD k 0 := by
  rw [List.getD_eq_getElem?_getD, List.getD_eq_getElem?_getD, List.getElem?_append_left h]
theorem getD_app2 (v : List Int) (m : Int) : (v ++ [m]).getD v.length 0 = m := by
  rw [List.getD_eq_getElem?_getD, List.getElem?_append_right (Nat.le_refl _)]
  simp
theorem getD_past (v : List Int) (k : Nat) (h : v.length ≤ k) : v.getD k 0 = 0 := by
  rw [List.getD_eq_getElem?_getD, List.getElem?_eq_none h]
  rfl
theorem wavL_high (v : List Int) (m : Int) (h : v.length % 2 = 1) : wavL (v ++ [m]) = wavL v ++ [(m, 0)] := by
  unfold wavL
  have e : (v ++ [m]).length / 2 = v.length / 2 + 1 := by simp; omega
  rw [e, List.range_succ, List.map_append]
  congr 1
  · apply List.map_congr_left
    intro i hi
    have := List.mem_range.1 hi
    rw [getD_app1 _ _ _ (by omega), getD_app1 _ _ _ (by omega)]
  · simp only [List.map_cons, List.map_nil]
    rw [show 2 * (v.length / 2) + 1 = v.length by omega, getD_app2, getD_past _ _ (by simp; omega)]
theorem wavL_low (v : List Int) (m a : Int) (h : v.length % 2 = 0) : wavL (v ++ [m]) = wavS (wavL v) ⟨a, a + m, false⟩ := by
  unfold wavS
  rw [if_neg (by simp), wavL_len]
  have e : (v ++ [m]).length / 2 = v.length / 2 := by simp; omega
  rcases Nat.eq_zero_or_pos (v.length / 2) with h0 | h0
  · have e1 : wavL v = [] := List.eq_nil_of_length_eq_zero (by rw [wavL_len, h0])
    have e2 : wavL (v ++ [m]) = [] := List.eq_nil_of_length_eq_zero (by rw [wavL_len, e, h0])
    rw [e1, e2]
    rfl
  · rw [wavL_at v (v.length / 2 - 1) (by omega)]
    dsimp only
    apply List.ext_getElem?
    intro i
    rcases Nat.lt_or_ge i (v.length / 2) with hi | hi
    · rw [wavL_at _ i (by rw [e]; exact hi)]
      rcases Nat.lt_or_ge i (v.length / 2 - 1) with h1 | h1
      · rw [List.getElem?_set_ne (by omega), wavL_at v i hi, getD_app1 _ _ _ (by omega), getD_app1 _ _ _ (by omega)]
      · have hi' : i = v.length / 2 - 1 := by omega
        subst hi'
        rw [List.getElem?_set_self (by rw [wavL_len]; exact hi), getD_app1 _ _ _ (by omega), show 2 * (v.length / 2 - 1) + 2 = v.length by omega, getD_app2]
        congr 2
        omega
    · rw [List.getElem?_eq_none (by rw [wavL_len, e]; exact hi), List.getElem?_eq_none (by rw [List.length_set, wavL_len]; exact hi)]
theorem oddB_of {k : Nat} {q : Bool} (h : oddB k = q) : k % 2 = if q then 1 else 0 := by
  subst h
  unfold oddB
  rcases Nat.mod_two_eq_zero_or_one k with h | h <;> rw [h] <;> rfl
theorem bepL_short (v : List Int) (h : v.length < 2) : bepL v = [] := List.eq_nil_of_length_eq_zero (by rw [bepL_len]; omega)
theorem wavL_short (v : List Int) (h : v.length < 2) : wavL v = [] := List.eq_nil_of_length_eq_zero (by rw [wavL_len]; omega)
theorem baseL_facts (q : Bool) (v : List Int) : bepL (baseL q v) = bepL v ∧ wavL (baseL q v) = wavL v ∧ (baseL q v).sum = v.sum ∧ (q = false → baseL q v = v) ∧ (0 < v.length → baseL q v = v) := by
  unfold baseL
  split
  · rename_i h
    have : v = [] := List.eq_nil_of_length_eq_zero h.2
    subst this
    exact ⟨rfl, rfl, rfl, (fun hq => by rw [h.1] at hq; cases hq), (fun h0 => by simp at h0)⟩
  · exact ⟨rfl, rfl, rfl, fun _ => rfl, fun _ => rfl⟩
/-- One row further. -/
theorem Rs.next {qs : List Bool} {pre : List Rk} {k : Nat} (h : Rs qs pre k) (q : Bool) (e : Nat) (hk : k < e) (he : e ≤ qs.length) (hrow : ∀ i, k ≤ i → i < e → qs[i]? = some q) (hend : ∀ q', qs[e]? = some q' → q' ≠ q) (x : Rk) (hx : x.1 = ⟨k, e, q⟩) : Rs qs (pre ++ [x]) e := by
  have hq := hrow k (Nat.le_refl _) hk
  obtain ⟨hlev, hpar⟩ := h.lev q hq
  obtain ⟨f1, f2, f3, f4, f5⟩ := baseL_facts q (levF pre)
  have hm : levF (pre ++ [x]) = baseL q (levF pre) ++ [(e : Int) - k] := by rw [levF_snoc, hx]; rfl
  have hsk := lev_skip qs q (baseL q (levF pre)) k (e - k) (fun i h1 h2 => hrow i h1 (by omega))
  rw [show k + (e - k) = e by omega, ← hlev, show ((e - k : Nat) : Int) = (e : Int) - k by omega] at hsk
  have hp := oddB_of hpar
  have hsum : (baseL q (levF pre)).sum = k := by rw [f3, h.sum]
  refine ⟨he, ?_, fun q' hq' => ?_, fun hf => ?_, ?_, ?_, ?_⟩
  · have := h.cnt
    simp
    omega
  · have hne := hend q' hq'
    obtain ⟨hlt, hge⟩ := List.getElem?_eq_some_iff.1 hq'
    have hb : baseL q' (levF (pre ++ [x])) = levF (pre ++ [x]) := (baseL_facts q' _).2.2.2.2 (by rw [hm]; simp)
    rw [hb, hm, hsk, List.drop_eq_getElem_cons hlt, hge]
    constructor
    · rw [show ∀ (l : List Bool) (n : Int) (out : List Int), levGo (q' :: l) q n out = levGo l q' 1 (out ++ [n]) from fun l n out => if_neg hne, show ∀ (l : List Bool) (out : List Int), levGo (q' :: l) q' 0 out = levGo l q' (0 + 1) out from fun l out => if_pos rfl]
      rfl
    · rw [List.length_append]
      show oddB ((baseL q (levF pre)).length + 1) = q'
      rw [oddB_succ, hpar]
      revert hne
      cases q <;> cases q' <;> simp
  · rw [hm, hsk, hf, List.drop_length]
    rw [show ∀ (n : Int) (out : List Int), levGo [] q n out = if 0 < n then out ++ [n] else out from fun _ _ => rfl, if_pos (by omega)]
  · rw [bepF_snoc, h.bep, hm, hx]
    unfold bepS
    cases q with
    | true =>
      rw [if_pos rfl, bepL_high _ _ hp, f1, hsum]
      dsimp only
      rw [show (k : Int) + ((e : Int) - k) = e by omega]
    | false =>
      rw [if_neg (by simp), bepL_low _ _ hp, f1]
  · rw [wavF_snoc, h.wav, hm, hx]
    cases q with
    | true =>
      rw [wavL_high _ _ hp, f2]
      rfl
    | false =>
      rw [wavL_low _ _ k hp, f2]
      congr 2
      omega
  · rw [hm, List.sum_append, hsum]
    simp
    omega
/-- Behind the last row. -/
theorem Rs.done {qs : List Bool} {pre : List Rk} (h : Rs qs pre qs.length) : levF pre = levels qs ∧ bepF pre = bepL (levels qs) ∧ wavF pre = wavL (levels qs) := by
  have := h.fin rfl
  rw [this]
  exact ⟨rfl, h.bep, h.wav⟩
end Go.Proofs.Ytbiifkcphaljeaa
