/- Words with one blank between each two, and lines. -/
import Derived.Test.YtoajmicdphffnaaDoorText
namespace Go.Proofs.YtoajmicdphffnaaDoor
open Go Go.RowKit
set_option linter.unusedVariables false
set_option maxHeartbeats 400000

def joinT : List (List UInt8) → List UInt8
  | [] => []
  | w :: r => 32 :: (w ++ joinT r)
theorem joinT_app (a b : List (List UInt8)) : joinT (a ++ b) = joinT a ++ joinT b := by
  induction a with
  | nil => rfl
  | cons w a ih => simp only [List.cons_append, joinT, ih, List.append_assoc]
def splitW : List UInt8 → List (List UInt8)
  | [] => [[]]
  | b :: l => if b = 32 then [] :: splitW l else match splitW l with | w :: r => (b :: w) :: r | [] => [[b]]
theorem splitW_cons (b : UInt8) (l : List UInt8) : splitW (b :: l) = if b = 32 then [] :: splitW l else match splitW l with | w :: r => (b :: w) :: r | [] => [[b]] := rfl
theorem splitW_ne (l : List UInt8) : splitW l ≠ [] := by
  cases l with
  | nil => simp [splitW]
  | cons b l =>
    unfold splitW
    split
    · simp
    · split <;> simp
theorem splitW_word (w : List UInt8) : ∀ l, (∀ b ∈ w, b ≠ 32) → (l = [] ∨ ∃ r, l = 32 :: r) → splitW (w ++ l) = w :: (match l with | [] => [] | _ :: r => splitW r) := by
  induction w with
  | nil =>
    intro l _ hl
    rcases hl with rfl | ⟨r, rfl⟩
    · rfl
    · simp [splitW]
  | cons b w ih =>
    intro l hw hl
    rw [List.cons_append, splitW_cons, if_neg (hw b (by simp)), ih l (fun c hc => hw c (by simp [hc])) hl]
def noBlank (ws : List (List UInt8)) : Prop := ∀ w ∈ ws, ∀ b ∈ w, b ≠ 32
theorem split_join (r : List (List UInt8)) : ∀ w, (∀ b ∈ w, b ≠ 32) → noBlank r → splitW (w ++ joinT r) = w :: r := by
  induction r with
  | nil => intro w hw _; exact splitW_word w [] hw (.inl rfl)
  | cons v r ih =>
    intro w hw hr
    rw [splitW_word w (joinT (v :: r)) hw (.inr ⟨_, rfl⟩)]
    show w :: splitW (v ++ joinT r) = _
    rw [ih v (hr v (by simp)) (fun x hx => hr x (by simp [hx]))]
theorem join_split (l : List UInt8) : ∃ w r, splitW l = w :: r ∧ w ++ joinT r = l := by
  induction l with
  | nil => exact ⟨[], [], rfl, rfl⟩
  | cons b l ih =>
    obtain ⟨w, r, h1, h2⟩ := ih
    unfold splitW
    by_cases hb : b = 32
    · rw [if_pos hb]
      subst hb
      exact ⟨[], _, rfl, by rw [h1]; simp only [List.nil_append, joinT, h2]⟩
    · rw [if_neg hb, h1]
      exact ⟨b :: w, r, rfl, by rw [List.cons_append, h2]⟩
theorem hex_byte (D N : Nat) : ∀ b ∈ hexL D N, 48 ≤ b.toNat ∧ b.toNat ≤ 102 := by
  intro b hb
  obtain ⟨j, hj⟩ := List.getElem?_of_mem hb
  obtain ⟨hl, e⟩ := List.getElem?_eq_some_iff.1 hj
  have h1 := hexL_get D N j hl
  rw [e] at h1
  have h2 := hexAt_hi D N j
  have h3 : 48 ≤ hexAt D N j := by
    unfold hexAt hexC
    split <;> omega
  omega
theorem hex_word (D N : Nat) (w : List UInt8) (hw : ∃ b ∈ w, 102 < b.toNat) : hexL D N ≠ w := fun e => by
  obtain ⟨b, hb, h⟩ := hw
  rw [← e] at hb
  have := hex_byte D N b hb
  omega
/-- A byte of a word: no blank, no line feed. -/
def plainB (b : UInt8) : Prop := b ≠ 32 ∧ b ≠ 10
theorem plain_big (b : UInt8) (h : 48 ≤ b.toNat) : plainB b := by
  refine ⟨fun e => ?_, fun e => ?_⟩ <;> subst e <;> exact absurd h (by decide)
def plainW (ws : List (List UInt8)) : Prop := ∀ w ∈ ws, ∀ b ∈ w, plainB b
theorem plainW.app {a b : List (List UInt8)} (h : plainW a) (k : plainW b) : plainW (a ++ b) := fun w hw => by
  rcases List.mem_append.1 hw with h1 | h1
  · exact h w h1
  · exact k w h1
theorem plain_if (p : Prop) [Decidable p] (l : List (List UInt8)) (h : plainW l) : plainW (if p then l else []) := by
  split
  · exact h
  · intro w hw; simp at hw
theorem word_big (w : List UInt8) (h : ∀ b ∈ w, 48 ≤ b.toNat) : plainW [w] := fun v hv b hb => by
  have e := List.mem_singleton.1 hv
  subst e
  exact plain_big b (h b hb)
theorem joinT_if (p : Prop) [Decidable p] (l : List (List UInt8)) (n : Nat) (h : (joinT l).length ≤ n) : (joinT (if p then l else [])).length ≤ n := by
  split
  · exact h
  · simp [joinT]
/-- A text's lines, and what stands behind the last line feed. -/
def linesL : List UInt8 → List (List UInt8) × List UInt8
  | [] => ([], [])
  | b :: l => if b = 10 then ([] :: (linesL l).1, (linesL l).2) else match linesL l with | (w :: r, t) => ((b :: w) :: r, t) | ([], t) => ([], b :: t)
theorem linesL_cons (b : UInt8) (l : List UInt8) : linesL (b :: l) = if b = 10 then ([] :: (linesL l).1, (linesL l).2) else match linesL l with | (w :: r, t) => ((b :: w) :: r, t) | ([], t) => ([], b :: t) := rfl
theorem lines_word (w : List UInt8) : ∀ l, (∀ b ∈ w, b ≠ 10) → linesL (w ++ 10 :: l) = (w :: (linesL l).1, (linesL l).2) := by
  induction w with
  | nil => intro l _; rw [List.nil_append, linesL_cons, if_pos rfl]
  | cons b w ih =>
    intro l hw
    rw [List.cons_append, linesL_cons, if_neg (hw b (by simp)), ih l (fun c hc => hw c (by simp [hc]))]
def unlines : List (List UInt8) → List UInt8
  | [] => []
  | w :: r => w ++ 10 :: unlines r
theorem lines_un (l : List UInt8) : unlines (linesL l).1 ++ (linesL l).2 = l := by
  induction l with
  | nil => rfl
  | cons b l ih =>
    rw [linesL_cons]
    by_cases hb : b = 10
    · rw [if_pos hb]
      subst hb
      simp only [unlines, List.nil_append, List.cons_append, ih]
    · rw [if_neg hb]
      rcases hx : linesL l with ⟨ws, t⟩
      rw [hx] at ih
      cases ws with
      | nil => simp only [unlines, List.nil_append] at ih ⊢; rw [ih]
      | cons w r => simp only [unlines, List.cons_append] at ih ⊢; rw [ih]
theorem plain_join : ∀ ws : List (List UInt8), plainW ws → ∀ b ∈ joinT ws, b ≠ 10 := by
  intro ws
  induction ws with
  | nil => intro _ b hb; simp [joinT] at hb
  | cons w ws ih =>
    intro hw b hb
    simp only [joinT, List.mem_cons, List.mem_append] at hb
    rcases hb with h | h | h
    · subst h; decide
    · exact (hw w (by simp) b h).2
    · exact ih (fun v hv => hw v (by simp [hv])) b h
theorem un_len : ∀ l : List (List UInt8), l.length ≤ (unlines l).length ∧ ∀ x ∈ l, x.length ≤ (unlines l).length := by
  intro l
  induction l with
  | nil => exact ⟨Nat.le_refl _, fun x hx => by simp at hx⟩
  | cons a l ih =>
    simp only [unlines, List.length_append, List.length_cons]
    refine ⟨by have := ih.1; omega, fun x hx => ?_⟩
    rcases List.mem_cons.1 hx with rfl | hx
    · omega
    · have := ih.2 x hx; omega
end Go.Proofs.YtoajmicdphffnaaDoor
