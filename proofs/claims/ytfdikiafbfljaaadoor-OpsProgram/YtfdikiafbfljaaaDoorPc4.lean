/- What a program of orders' lines is: the mathematics of OpsProgram. -/
import Derived.Test.YtfdikiafbfljaaaDoorPc0
namespace Go.Proofs.YtfdikiafbfljaaaDoor
open Go Go.RowKit
set_option linter.unusedVariables false
set_option maxHeartbeats 1000000
set_option maxRecDepth 20000

theorem hexC_no (x : Int) (h0 : 0 ≤ x) (h1 : x < 16) : UInt8.ofNat (hexC x).toNat ≠ 32 ∧ UInt8.ofNat (hexC x).toNat ≠ 59 ∧ UInt8.ofNat (hexC x).toNat ≠ 10 ∧ UInt8.ofNat (hexC x).toNat ≠ 116 := by
  obtain ⟨n, rfl⟩ : ∃ n : Nat, x = n := ⟨x.toNat, by omega⟩
  have hn : n < 16 := by omega
  have key : ∀ m : Fin 16, UInt8.ofNat (hexC (m.val : Int)).toNat ≠ 32 ∧ UInt8.ofNat (hexC (m.val : Int)).toNat ≠ 59 ∧ UInt8.ofNat (hexC (m.val : Int)).toNat ≠ 10 ∧ UInt8.ofNat (hexC (m.val : Int)).toNat ≠ 116 := by decide
  exact key ⟨n, hn⟩
/-- Signs that words of an order have not. -/
def plainC (c : UInt8) : Prop := c ≠ 32 ∧ c ≠ 59 ∧ c ≠ 10 ∧ c ≠ 116
theorem wdK_no (k v : Nat) : ∀ c ∈ wdK k v, plainC c := by
  intro c h
  unfold wdK at h
  rcases List.mem_append.1 h with h | h
  · unfold ledK at h
    split at h
    · simp at h; rw [h]; unfold plainC; decide
    · split at h
      · simp at h; rw [h]; unfold plainC; decide
      · simp at h
  · unfold hexL at h
    obtain ⟨j, _, rfl⟩ := List.mem_map.1 h
    unfold hexAt
    exact hexC_no _ (by omega) (by omega)
theorem wdK_some (k v : Nat) : wdK k v ≠ [] := fun e => by
  have h := congrArg List.length e
  unfold wdK at h
  rw [List.length_append, hexL_len] at h
  have := (digK_bd k).1
  simp at h
  omega
theorem nm_no : ∀ i, i < 31 → ∀ c ∈ nmR i, c ≠ 32 ∧ c ≠ 59 ∧ c ≠ 10 := by decide +kernel
theorem nm_data : ∀ i, i < 31 → nmR i ≠ [100, 97, 116, 97] := by decide +kernel
theorem nm_suf : ∀ i, i < 31 → Lib.hasSuffix (nmR i) [58] = false := by decide +kernel
theorem mkB_data (l : List UInt8) : (mkB l).data.toList = l := by simp [mkB]
/-- The words of words with blanks between them, a remark behind. -/
theorem words_lin (r : List UInt8) : ∀ (ws : List (List UInt8)) (a : List UInt8), wdcs a → a ≠ [] → (∀ x ∈ ws, wdcs x ∧ x ≠ []) → wordsG (linL a ws ++ 32 :: 59 :: r) [] = a :: ws := by
  intro ws
  induction ws with
  | nil =>
    intro a ha hn _
    show wordsG (a ++ 32 :: 59 :: r) [] = _
    rw [wordsG_wd2 a _ _ ha, List.nil_append]
    conv => lhs; unfold wordsG
    rw [if_neg (by decide), if_pos rfl, pushW_of hn, wordsG_mark, pushW_nil]
    rfl
  | cons x ws ih =>
    intro a ha hn h
    rw [linL_cons, List.append_assoc, wordsG_wd2 a _ _ ha, List.nil_append]
    show wordsG (32 :: (linL x ws ++ 32 :: 59 :: r)) a = _
    conv => lhs; unfold wordsG
    rw [if_neg (by decide), if_pos rfl, pushW_of hn, ih x (h x (by simp)).1 (h x (by simp)).2 fun y hy => h y (by simp [hy])]
    rfl
/-- An order's line, as OpsProgram writes it. -/
def ordL (w : Nat) (nt : List UInt8) : List UInt8 := 32 :: ((lineB (decO w)).data.toList ++ 32 :: 59 :: nt)
theorem ord_parts (w : Nat) (hw : w < 65536) (hd : decB w = true) : ∃ i, i < 31 ∧ (lineB (decO w)).data.toList = linL (nmR i) (wdsO (decO w) (fsR i)) ∧ rdO (nmR i :: wdsO (decO w) (fsR i)) = some (decO w) := by
  have h := enc_dec w hw hd
  obtain ⟨i, hi, hr, hop, hf, ho⟩ := enc_row h
  have hwl : (wdsO (decO w) (fsR i)).length = (fsR i).length := by unfold wdsO; simp
  refine ⟨i, hi, lineB_data _ i hr hf, ?_⟩
  unfold rdO
  rw [row_first i hi _ hwl]
  dsimp only [List.tail_cons]
  rw [rdF_there i w hi _ ho hf]
  dsimp only
  rw [h]
  rfl
theorem wdsO_no (o : Od) (fs : List Nat) : ∀ x ∈ wdsO o fs, (∀ c ∈ x, plainC c) ∧ x ≠ [] := by
  intro x hx
  unfold wdsO at hx
  obtain ⟨k, _, rfl⟩ := List.mem_map.1 hx
  exact ⟨wdK_no _ _, wdK_some _ _⟩
theorem lin_no (ws : List (List UInt8)) : ∀ a : List UInt8, (∀ c ∈ a, c ≠ 10) → (∀ x ∈ ws, ∀ c ∈ x, c ≠ 10) → ∀ c ∈ linL a ws, c ≠ 10 := by
  induction ws with
  | nil => intro a h _ c hc; exact h c hc
  | cons x ws ih =>
    intro a h hx c hc
    rw [linL_cons] at hc
    rcases List.mem_append.1 hc with hc | hc
    · exact h c hc
    · rcases List.mem_cons.1 hc with hc | hc
      · rw [hc]; decide
      · exact ih x (hx x (by simp)) (fun y hy => hx y (by simp [hy])) c hc
theorem ordL_no (w : Nat) (hw : w < 65536) (hd : decB w = true) (nt : List UInt8) (hn : ∀ c ∈ nt, c ≠ 10) : ∀ c ∈ ordL w nt, c ≠ 10 := by
  obtain ⟨i, hi, hl, _⟩ := ord_parts w hw hd
  intro c hc
  unfold ordL at hc
  rw [hl] at hc
  rcases List.mem_cons.1 hc with hc | hc
  · rw [hc]; decide
  · rcases List.mem_append.1 hc with hc | hc
    · exact lin_no _ _ (fun c h => (nm_no i hi c h).2.2) (fun x hx c h => ((wdsO_no _ _ x hx).1 c h).2.2.1) c hc
    · rcases List.mem_cons.1 hc with hc | hc
      · rw [hc]; decide
      · rcases List.mem_cons.1 hc with hc | hc
        · rw [hc]; decide
        · exact hn c hc
theorem ord_step (n w : Nat) (hw : w < 65536) (hd : decB w = true) (nt bs : List UInt8) (F : ByteArray → Option Nat) (us : List Us) :
    stepL n (ordL w nt) (bs, F, us) = if 3232 < (bs ++ [UInt8.ofNat (w / 256), UInt8.ofNat (w % 256)]).length then .inl (2, n) else .inr (bs ++ [UInt8.ofNat (w / 256), UInt8.ofNat (w % 256)], F, us) := by
  obtain ⟨i, hi, hl, hr⟩ := ord_parts w hw hd
  have hws : wordsA (ordL w nt) = mkB (nmR i) :: (wdsO (decO w) (fsR i)).map mkB := by
    unfold wordsA ordL
    rw [hl]
    conv => lhs; unfold wordsG
    rw [if_neg (by decide), if_pos rfl, pushW_nil, List.nil_append, words_lin nt _ _ (fun c h => ⟨(nm_no i hi c h).1, (nm_no i hi c h).2.1⟩) (fun e => by have := (nm_bnd i hi).2.1; rw [e] at this; simp at this)
      (fun x hx => ⟨fun c h => ⟨((wdsO_no _ _ x hx).1 c h).1, ((wdsO_no _ _ x hx).1 c h).2.1⟩, (wdsO_no _ _ x hx).2⟩)]
    rfl
  have hmap : (mkB (nmR i) :: (wdsO (decO w) (fsR i)).map mkB).map (·.data.toList) = nmR i :: wdsO (decO w) (fsR i) := by
    rw [List.map_cons, List.map_map, mkB_data]
    congr 1
    conv => rhs; rw [← List.map_id (wdsO (decO w) (fsR i))]
    exact List.map_congr_left fun x _ => mkB_data x
  have he : encB (decO w) = [UInt8.ofNat (w / 256), UInt8.ofNat (w % 256)] := by
    unfold encB
    rw [enc_dec w hw hd]
    rfl
  have ht : takP n (mkB (nmR i)) ((wdsO (decO w) (fsR i)).map mkB) (bs, F, us) = some (bs ++ [UInt8.ofNat (w / 256), UInt8.ofNat (w % 256)], F, us) := by
    unfold takP
    rw [if_neg (fun e => nm_data i hi (by have := congrArg (·.data.toList) e; simpa [mkB] using this)), if_neg (by rw [mkB_data, nm_suf i hi]; decide), if_neg]
    · unfold readP
      rw [hmap, hr]
      dsimp only
      rw [he]
    · rintro ⟨h1, h2⟩
      have hx := wdsO_no (decO w) (fsR i)
      rcases hz : wdsO (decO w) (fsR i) with _ | ⟨x, t⟩
      · rw [hz] at h1; simp at h1
      · rw [hz] at h2 hx
        simp only [List.map_cons, List.headD_cons] at h2
        have e : x = [116, 111] := by have := congrArg (·.data.toList) h2; simpa [mkB] using this
        exact ((hx x (by simp)).1 116 (by rw [e]; simp)).2.2.2 rfl
  unfold stepL
  rw [hws]
  dsimp only
  rw [ht]
/-- What OpsProgram has written so far: the text, the bytes wanted, the lines, the line with which they are too many. -/
structure Bt where
  tx : List UInt8
  wt : List UInt8
  ln : Nat
  ov : Nat
def hereL : List UInt8 := [104, 101, 114, 101, 58]
def hereB (h : Bool) (t : Bt) : Bt := if h = true then ⟨t.tx ++ [104, 101, 114, 101, 58, 10, 10], t.wt, t.ln + 2, t.ov⟩ else t
def ordB (nt : List UInt8) (w : Nat) (t : Bt) : Bt :=
  ⟨t.tx ++ (ordL w nt ++ [10]), t.wt ++ [UInt8.ofNat (w / 256), UInt8.ofNat (w % 256)], t.ln + 1, if t.ov = 0 ∧ 3232 < (t.wt ++ [UInt8.ofNat (w / 256), UInt8.ofNat (w % 256)]).length then t.ln + 1 else t.ov⟩
abbrev st0 : Sta := ([], fun _ => none, [])
theorem linesP_app (A B : List (List UInt8)) : ∀ (n : Nat) (t : Sta), linesP n (A ++ B) t = match linesP n A t with
    | .inl e => .inl e
    | .inr t' => linesP (n + A.length) B t' := by
  induction A with
  | nil => intro n t; rfl
  | cons L A ih =>
    intro n t
    rw [show linesP n (L :: A ++ B) t = (match stepL n L t with | Sum.inl e => Sum.inl e | Sum.inr t' => linesP (n + 1) (A ++ B) t') from rfl, show linesP n (L :: A) t = (match stepL n L t with | Sum.inl e => Sum.inl e | Sum.inr t' => linesP (n + 1) A t') from rfl]
    rcases stepL n L t with e | t'
    · rfl
    · dsimp only
      rw [ih, List.length_cons, show n + 1 + A.length = n + (A.length + 1) by omega]
theorem linesP_one (n : Nat) (L : List UInt8) (t : Sta) : linesP n [L] t = stepL n L t := by
  rw [show linesP n [L] t = (match stepL n L t with | Sum.inl e => Sum.inl e | Sum.inr t' => linesP (n + 1) [] t') from rfl]
  rcases stepL n L t with e | t'
  · rfl
  · rfl
/-- What is so of it. -/
structure Bok (t : Bt) (F : ByteArray → Option Nat) : Prop where
  lns : ∃ LN : List (List UInt8), LN.length = t.ln ∧ (∀ r, lnsG (t.tx ++ r) [] = LN ++ lnsG r []) ∧ linesP 1 LN st0 = (if t.ov = 0 then .inr (t.wt, F, []) else .inl (2, t.ov))
  le : t.ov = 0 → t.wt.length ≤ 3232
theorem Bok.zero : Bok ⟨[], [], 0, 0⟩ (fun _ => none) := ⟨⟨[], rfl, fun r => rfl, rfl⟩, fun _ => by decide⟩
theorem here_words : wordsA hereL = [⟨#[104, 101, 114, 101, 58]⟩] := by decide +kernel
theorem here_name : nameB ⟨#[104, 101, 114, 101, 58]⟩ = ⟨#[104, 101, 114, 101]⟩ := by decide +kernel
theorem here_is : isNm ⟨#[104, 101, 114, 101]⟩ = true := by
  unfold isNm
  rw [decide_eq_true_iff]
  refine ⟨by decide, by decide, ⟨by decide, by decide⟩, ?_⟩
  intro j h
  have h4 : j < 4 := h
  rcases (show j = 0 ∨ j = 1 ∨ j = 2 ∨ j = 3 by omega) with rfl | rfl | rfl | rfl <;> first | exact (by decide : nmc 104 = true) | exact (by decide : nmc 101 = true) | exact (by decide : nmc 114 = true)
theorem here_step (n : Nat) (bs : List UInt8) (hb : bs.length ≤ 3232) : ∃ F, stepL n hereL (bs, (fun _ => none), []) = .inr (bs, F, []) := by
  refine ⟨putN (fun _ => none) ⟨#[104, 101, 114, 101]⟩ (512 + bs.length), ?_⟩
  have ht : takP n ⟨#[104, 101, 114, 101, 58]⟩ [] (bs, (fun _ => none), []) = some (bs, putN (fun _ => none) ⟨#[104, 101, 114, 101]⟩ (512 + bs.length), []) := by
    unfold takP
    rw [if_neg (by decide), if_pos (by decide +kernel)]
    unfold labP
    rw [here_name, if_pos ⟨rfl, rfl, here_is⟩]
  unfold stepL
  rw [here_words]
  dsimp only
  rw [ht]
  dsimp only
  rw [if_neg (by omega)]
theorem none_step (n : Nat) (t : Sta) : stepL n [] t = .inr t := by
  unfold stepL
  rw [show wordsA [] = [] from by unfold wordsA; rw [show wordsG [] [] = pushW [] from rfl, pushW_nil]; rfl]
theorem Bok.here {t : Bt} (h : Bok t (fun _ => none)) (b : Bool) : ∃ F, Bok (hereB b t) F ∧ (b = false → F = fun _ => none) := by
  cases b with
  | false => exact ⟨_, h, fun _ => rfl⟩
  | true =>
    obtain ⟨⟨LN, h1, h2, h3⟩, h4⟩ := h
    have hl : ∀ r, lnsG (t.tx ++ [104, 101, 114, 101, 58, 10, 10] ++ r) [] = (LN ++ [hereL, []]) ++ lnsG r [] := fun r => by
      rw [List.append_assoc, h2, List.append_assoc]
      congr 1
    by_cases ho : t.ov = 0
    · obtain ⟨F, hF⟩ := here_step (t.ln + 1) t.wt (h4 ho)
      refine ⟨F, ⟨⟨LN ++ [hereL, []], by simp [h1, hereB], hl, ?_⟩, h4⟩, fun e => by cases e⟩
      rw [linesP_app, h3, if_pos ho, h1]
      rw [if_pos (show (hereB true t).ov = 0 from ho)]
      show linesP (1 + t.ln) ([hereL] ++ [[]]) _ = _
      rw [linesP_app, linesP_one, Nat.add_comm 1, hF]
      dsimp only
      rw [linesP_one, none_step]
      rfl
    · refine ⟨fun _ => none, ⟨⟨LN ++ [hereL, []], by simp [h1, hereB], hl, ?_⟩, h4⟩, fun e => by cases e⟩
      rw [linesP_app, h3, if_neg ho]
      rw [if_neg (show ¬ (hereB true t).ov = 0 from ho)]
      rfl
theorem Bok.ord {t : Bt} {F : ByteArray → Option Nat} (h : Bok t F) (w : Nat) (hw : w < 65536) (hd : decB w = true) (nt : List UInt8) (hn : ∀ c ∈ nt, c ≠ 10) : Bok (ordB nt w t) F := by
  obtain ⟨⟨LN, h1, h2, h3⟩, h4⟩ := h
  have hl : ∀ r, lnsG (t.tx ++ (ordL w nt ++ [10]) ++ r) [] = (LN ++ [ordL w nt]) ++ lnsG r [] := fun r => by
    rw [List.append_assoc, h2, List.append_assoc, List.append_assoc]
    congr 1
    show lnsG (ordL w nt ++ 10 :: r) [] = _
    rw [lns_hit _ _ (ordL_no w hw hd nt hn)]
    rfl
  have hs := ord_step (t.ln + 1) w hw hd nt t.wt F []
  have hx : linesP 1 (LN ++ [ordL w nt]) st0 = match (if t.ov = 0 then (.inr (t.wt, F, []) : (Nat × Nat) ⊕ Sta) else .inl (2, t.ov)) with
      | .inl e => .inl e
      | .inr t' => linesP (1 + t.ln) [ordL w nt] t' := by
    rw [linesP_app, h3, h1]
  by_cases ho : t.ov = 0
  · rw [if_pos ho] at hx
    dsimp only at hx
    rw [linesP_one, Nat.add_comm 1, hs] at hx
    by_cases hb : 3232 < (t.wt ++ [UInt8.ofNat (w / 256), UInt8.ofNat (w % 256)]).length
    · rw [if_pos hb] at hx
      have e : (ordB nt w t).ov = t.ln + 1 := if_pos ⟨ho, hb⟩
      exact ⟨⟨LN ++ [ordL w nt], by simp [h1, ordB], hl, by rw [hx, e, if_neg (by omega)]⟩, fun e' => by rw [e] at e'; omega⟩
    · rw [if_neg hb] at hx
      have e : (ordB nt w t).ov = 0 := (if_neg fun h => hb h.2).trans ho
      exact ⟨⟨LN ++ [ordL w nt], by simp [h1, ordB], hl, by rw [hx, e, if_pos rfl]; rfl⟩, fun _ => by show (t.wt ++ _).length ≤ _; omega⟩
  · rw [if_neg ho] at hx
    dsimp only at hx
    have e : (ordB nt w t).ov = t.ov := if_neg fun h => ho h.1
    exact ⟨⟨LN ++ [ordL w nt], by simp [h1, ordB], hl, by rw [hx, e, if_neg ho]⟩, fun e' => absurd (e ▸ e') ho⟩
theorem Bok.prog {t : Bt} {F : ByteArray → Option Nat} (h : Bok t F) : progP t.tx = if 65536 < t.tx.length then .inl (2, 0) else if 0 < t.ov then .inl (2, t.ov) else .inr t.wt := by
  obtain ⟨⟨LN, h1, h2, h3⟩, h4⟩ := h
  have hl := h2 []
  rw [List.append_nil, show lnsG [] [] = [] from rfl, List.append_nil] at hl
  unfold progP
  rw [hl, h3]
  by_cases ho : t.ov = 0
  · rw [if_pos ho, if_neg (show ¬ 0 < t.ov by omega)]
    rfl
  · rw [if_neg ho, if_pos (show 0 < t.ov by omega)]
end Go.Proofs.YtfdikiafbfljaaaDoor
