/- What a program's lines are, plain: the lines of a text, taken up one behind the other, and settled. -/
import Derived.Test.YtfdikiafbfljaaaDoorPbb
namespace Go.Proofs.YtfdikiafbfljaaaDoor
open Go Go.RowKit
set_option linter.unusedVariables false
set_option maxHeartbeats 1000000
set_option maxRecDepth 20000

/-- The lines of a text. -/
def lnsG : List UInt8 → List UInt8 → List (List UInt8)
  | [], cur => if cur = [] then [] else [cur]
  | c :: r, cur => if c = 10 then cur :: lnsG r [] else lnsG r (cur ++ [c])
theorem lns_app (a r : List UInt8) (h : ∀ x ∈ a, x ≠ 10) : ∀ cur, lnsG (a ++ r) cur = lnsG r (cur ++ a) := by
  induction a with
  | nil => intro cur; simp
  | cons c a ih =>
    intro cur
    show lnsG (c :: (a ++ r)) cur = _
    conv => lhs; unfold lnsG
    rw [if_neg (h c (by simp)), ih (fun x hx => h x (by simp [hx])), List.append_assoc]
    rfl
theorem lns_hit (a b : List UInt8) (h : ∀ x ∈ a, x ≠ 10) : lnsG (a ++ 10 :: b) [] = a :: lnsG b [] := by
  rw [lns_app a _ h]
  conv => lhs; unfold lnsG
  rw [if_pos rfl, List.nil_append]
theorem lns_no (a : List UInt8) (h : ∀ x ∈ a, x ≠ 10) (ha : a ≠ []) : lnsG a [] = [a] := by
  have := lns_app a [] h []
  rw [List.append_nil, List.nil_append] at this
  rw [this]
  conv => lhs; unfold lnsG
  rw [if_neg ha]
/-- How many words a line has at most, and how long they are. -/
theorem words_bnd (l : List UInt8) : ∀ cur : List UInt8, (wordsG l cur).length ≤ l.length + min 1 cur.length ∧ ∀ x ∈ wordsG l cur, x.length ≤ cur.length + l.length := by
  have push : ∀ cur : List UInt8, (pushW cur).length ≤ min 1 cur.length ∧ ∀ x ∈ pushW cur, x.length ≤ cur.length := by
    intro cur
    unfold pushW
    split
    · exact ⟨by simp, fun x hx => by simp at hx⟩
    · rename_i h
      have : 1 ≤ cur.length := by
        rcases cur with _ | ⟨c, r⟩
        · exact absurd rfl h
        · simp
      refine ⟨by simp; omega, fun x hx => ?_⟩
      simp at hx
      rw [hx]
      exact Nat.le_refl _
  induction l with
  | nil =>
    intro cur
    have h := push cur
    exact ⟨by show (pushW cur).length ≤ _; simp only [List.length_nil]; omega, fun x hx => by have := h.2 x hx; simp only [List.length_nil]; omega⟩
  | cons c r ih =>
    intro cur
    have h := push cur
    unfold wordsG
    split
    · exact ⟨by simp only [List.length_cons]; omega, fun x hx => by have := h.2 x hx; simp only [List.length_cons]; omega⟩
    · split
      · have i := ih []
        refine ⟨by rw [List.length_append]; have := i.1; simp only [List.length_cons, List.length_nil] at *; omega, fun x hx => ?_⟩
        rcases List.mem_append.1 hx with hx | hx
        · have := h.2 x hx; simp only [List.length_cons]; omega
        · have := i.2 x hx; simp only [List.length_cons, List.length_nil] at *; omega
      · have i := ih (cur ++ [c])
        have e : (cur ++ [c]).length = cur.length + 1 := by simp
        rw [e] at i
        exact ⟨by have := i.1; simp only [List.length_cons]; omega, fun x hx => by have := i.2 x hx; simp only [List.length_cons]; omega⟩
theorem wordsA_len (l : List UInt8) : (wordsA l).length ≤ l.length := by
  have := (words_bnd l []).1
  unfold wordsA
  rw [List.length_map]
  simpa using this
theorem wordsA_sz (l : List UInt8) (x : ByteArray) (hx : x ∈ wordsA l) : x.size ≤ l.length := by
  unfold wordsA at hx
  obtain ⟨y, hy, rfl⟩ := List.mem_map.1 hx
  have := (words_bnd l []).2 y hy
  simp only [List.length_nil, Nat.zero_add] at this
  show y.toArray.size ≤ _
  rw [List.size_toArray]
  exact this
/-- What is so of what lines have told. -/
structure StOk (t : Sta) : Prop where
  us : 2 * t.2.2.length ≤ t.1.length
  go : ∀ u ∈ t.2.2, OdR u.o ∧ u.pl + 1 < t.1.length
  lb : ∀ s a, t.2.1 s = some a → a < 65536
theorem StOk.more {bs d : List UInt8} {F : ByteArray → Option Nat} {us : List Us} (h : StOk (bs, F, us)) : StOk (bs ++ d, F, us) :=
  ⟨by have := h.us; simp only [List.length_append] at *; omega, fun u hu => ⟨(h.go u hu).1, by have := (h.go u hu).2; simp only [List.length_append] at *; omega⟩, h.lb⟩
theorem rdO_R {ws : List (List UInt8)} {o : Od} (h : rdO ws = some o) : OdR o := by
  unfold rdO at h
  split at h
  · cases h
  · split at h
    · cases h
    · split at h
      · rename_i he
        injection h with h
        subst h
        obtain ⟨x, hx⟩ := Option.isSome_iff_exists.1 he
        exact enc_R hx
      · cases h
theorem encB_len (o : Od) : (encB o).length = 2 := rfl
theorem tak_ok {n : Nat} {s : ByteArray} {r : List ByteArray} {t t' : Sta} (h : takP n s r t = some t') (hl : t.1.length ≤ 3232) (k : StOk t) : StOk t' := by
  obtain ⟨bs, F, us⟩ := t
  unfold takP at h
  split at h
  · unfold datP at h
    split at h
    · cases h
    · rcases hd : datW r with _ | d
      · rw [hd] at h; cases h
      · rw [hd] at h
        injection h with h
        subst h
        exact k.more
  · split at h
    · unfold labP at h
      split at h
      · injection h with h
        subst h
        refine ⟨k.us, k.go, fun s a hs => ?_⟩
        simp only [putN] at hs
        split at hs
        · injection hs with hs
          subst hs
          simp only at hl
          omega
        · exact k.lb s a hs
      · cases h
    · split at h
      · unfold useP at h
        rcases ho : rdO (useW s) with _ | o
        · rw [ho] at h; cases h
        · rw [ho] at h
          simp only at h
          split at h
          · injection h with h
            subst h
            refine ⟨?_, fun u hu => ?_, k.lb⟩
            · have := k.us
              simp only [List.length_append, List.length_cons, List.length_nil, encB_len] at *
              omega
            · rcases List.mem_append.1 hu with hu | hu
              · exact ⟨(k.go u hu).1, by have := (k.go u hu).2; simp only [List.length_append, encB_len] at *; omega⟩
              · simp only [List.mem_singleton] at hu
                subst hu
                exact ⟨rdO_R ho, by simp only [List.length_append, encB_len]; omega⟩
          · cases h
      · unfold readP at h
        split at h
        · cases h
        · injection h with h
          subst h
          exact k.more
/-- One line. -/
def stepL (n : Nat) (l : List UInt8) (t : Sta) : (Nat × Nat) ⊕ Sta :=
  match wordsA l with
  | [] => .inr t
  | s :: r => match takP n s r t with
    | none => .inl (161, n)
    | some t' => if 3232 < t'.1.length then .inl (2, n) else .inr t'
/-- Lines, the first one's number told. -/
def linesP : Nat → List (List UInt8) → Sta → (Nat × Nat) ⊕ Sta
  | _, [], t => .inr t
  | n, l :: ls, t => match stepL n l t with
    | .inl e => .inl e
    | .inr t' => linesP (n + 1) ls t'
def endP (t : Sta) : (Nat × Nat) ⊕ List UInt8 := match setP t.2.1 t.2.2 t.1 with
  | .inl n => .inl (160, n)
  | .inr bs => .inr bs
/-- A program's text: the error's number and line, or the bytes. -/
def progP (s : List UInt8) : (Nat × Nat) ⊕ List UInt8 :=
  if 65536 < s.length then .inl (2, 0) else match linesP 1 (lnsG s []) ([], fun _ => none, []) with
  | .inl e => .inl e
  | .inr t => endP t
theorem ok0 : StOk ([], fun _ => none, []) := ⟨by decide, fun u hu => by simp at hu, fun s a h => by cases h⟩
end Go.Proofs.YtfdikiafbfljaaaDoor
