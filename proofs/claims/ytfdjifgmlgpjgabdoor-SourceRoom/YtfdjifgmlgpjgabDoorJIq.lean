/- More room in a printed source: blanks, tabs, remarks, lines without words change nothing, by plain mathematics. -/
import Derived.Test.YtfdjifgmlgpjgabDoorJIo
namespace Go.Proofs.YtfdjifgmlgpjgabDoor
open Go Go.RowKit
set_option linter.unusedVariables false
set_option maxHeartbeats 1000000
set_option maxRecDepth 20000

def tabL (t : Bool) : List UInt8 := if t then [9] else []
/-- What stands for a blank, for a line feed. -/
def spB : Option (Bool × List UInt8) → List UInt8
  | none => [32]
  | some (t, _) => tabL t ++ [32, 32, 32]
def spN : Option (Bool × List UInt8) → List UInt8
  | none => [10]
  | some (t, m) => tabL t ++ [32, 59] ++ m ++ [10, 9, 32, 10]
def spG (f : Nat → Option (Bool × List UInt8)) : List UInt8 → Nat → List UInt8
  | [], _ => []
  | c :: r, k => if c = 32 then spB (f k) ++ spG f r (k + 1) else if c = 10 then spN (f k) ++ spG f r (k + 1) else c :: spG f r k
/-- Remarks have no line feed. -/
def okF (f : Nat → Option (Bool × List UInt8)) : Prop := ∀ k t m, f k = some (t, m) → 10 ∉ m
theorem spG_word (f : Nat → Option (Bool × List UInt8)) (x r : List UInt8) (k : Nat) (h : ∀ c ∈ x, okc c) : spG f (x ++ r) k = x ++ spG f r k := by
  induction x with
  | nil => rfl
  | cons c x ih =>
    have hc := h c (by simp)
    show spG f (c :: (x ++ r)) k = _
    conv => lhs; unfold spG
    rw [if_neg hc.1, if_neg hc.2.2.2, ih (fun d hd => h d (by simp [hd]))]
    rfl
/-- Behind it no further word comes. -/
def endz (z : List UInt8) : Prop := ∀ cur, wordsG z cur = pushW cur
theorem pushW_nil : pushW [] = [] := by unfold pushW; rw [if_pos rfl]
theorem wordsG_tab (r cur : List UInt8) : wordsG (9 :: r) cur = pushW cur ++ wordsG r [] := by
  conv => lhs; unfold wordsG
  rw [if_neg (by decide), if_pos (.inr rfl)]
theorem wordsG_mark (r cur : List UInt8) : wordsG (59 :: r) cur = pushW cur := by
  conv => lhs; unfold wordsG
  rw [if_pos rfl]
theorem endz_nil : endz [] := fun cur => rfl
theorem endz_mark (t : Bool) (m : List UInt8) : endz (tabL t ++ [32, 59] ++ m) := fun cur => by
  cases t
  · show wordsG (32 :: 59 :: m) cur = _
    rw [wordsG_blank, wordsG_mark, pushW_nil, List.append_nil]
  · show wordsG (9 :: 32 :: 59 :: m) cur = _
    rw [wordsG_tab, wordsG_blank, wordsG_mark, pushW_nil, List.append_nil, List.append_nil]
theorem wordsG_spB (o : Option (Bool × List UInt8)) (r cur : List UInt8) : wordsG (spB o ++ r) cur = pushW cur ++ wordsG r [] := by
  rcases o with _ | ⟨t, m⟩
  · exact wordsG_blank r cur
  · cases t
    · show wordsG (32 :: 32 :: 32 :: r) cur = _
      rw [wordsG_blank, wordsG_blank, wordsG_blank, pushW_nil, List.nil_append, List.nil_append]
    · show wordsG (9 :: 32 :: 32 :: 32 :: r) cur = _
      rw [wordsG_tab, wordsG_blank, wordsG_blank, wordsG_blank, pushW_nil, List.nil_append, List.nil_append, List.nil_append]
theorem spB_ok (o : Option (Bool × List UInt8)) : 10 ∉ spB o := by
  rcases o with _ | ⟨t, m⟩
  · simp [spB]
  · cases t <;> simp [spB, tabL]
theorem spB_front (o : Option (Bool × List UInt8)) (r : List UInt8) : frontL (spB o ++ r) = false := by
  rcases o with _ | ⟨t, m⟩
  · rfl
  · cases t <;> rfl
theorem spG_spread (f : Nat → Option (Bool × List UInt8)) (ws : List (List UInt8)) : ∀ (r : List UInt8) (k : Nat), (∀ x ∈ ws, okw x) → ∃ body, spG f (spread ws ++ r) k = body ++ spG f r (k + ws.length) ∧ 10 ∉ body ∧ (∀ z cur, endz z → wordsG (body ++ z) cur = pushW cur ++ ws) ∧ (ws ≠ [] → ∀ z, frontL (body ++ z) = false) := by
  induction ws with
  | nil => intro r k _; exact ⟨[], by simp [spread], by simp, fun z cur hz => by rw [List.nil_append, hz cur, List.append_nil], fun h => absurd rfl h⟩
  | cons x ws ih =>
    intro r k h
    have hx := h x (by simp)
    obtain ⟨body, e, hb, hw, _⟩ := ih r (k + 1) (fun y hy => h y (by simp [hy]))
    refine ⟨spB (f k) ++ (x ++ body), ?_, ?_, fun z cur hz => ?_, fun _ z => ?_⟩
    · show spG f (32 :: x ++ spread ws ++ r) k = _
      rw [show 32 :: x ++ spread ws ++ r = 32 :: (x ++ (spread ws ++ r)) by simp]
      conv => lhs; unfold spG
      rw [if_pos rfl, spG_word f x _ (k + 1) hx.2, e, List.length_cons, show k + 1 + ws.length = k + (ws.length + 1) by omega]
      simp [List.append_assoc]
    · intro hm
      rcases List.mem_append.1 hm with hm | hm
      · exact spB_ok _ hm
      · rcases List.mem_append.1 hm with hm | hm
        · exact (hx.2 10 hm).2.2.2 rfl
        · exact hb hm
    · rw [List.append_assoc, wordsG_spB, List.append_assoc, wordsG_word x _ [] hx.2, List.nil_append, hw z x hz, pushW_of hx.1]
      rfl
    · rw [List.append_assoc]
      exact spB_front _ _
theorem lineO_room : lineO [9, 32] = some [] := by
  unfold lineO
  rw [if_pos (by decide)]
theorem lines_room (o : Option (Bool × List UInt8)) (body r : List UInt8) (hb : 10 ∉ body) (ho : ∀ t m, o = some (t, m) → 10 ∉ m) : ∃ z ex, endz z ∧ linesG (body ++ spN o ++ r) [] = (body ++ z) :: ex ++ linesG r [] ∧ (∀ l ∈ ex, l = [9, 32]) := by
  rcases o with _ | ⟨t, m⟩
  · refine ⟨[], [], endz_nil, ?_, by simp⟩
    rw [show body ++ spN none ++ r = body ++ 10 :: r by simp [spN], linesG_line _ _ _ hb]
    simp
  · refine ⟨tabL t ++ [32, 59] ++ m, [[9, 32]], endz_mark t m, ?_, by simp⟩
    have hn : 10 ∉ body ++ (tabL t ++ [32, 59] ++ m) := by
      intro hm
      rcases List.mem_append.1 hm with hm | hm
      · exact hb hm
      rcases List.mem_append.1 hm with hm | hm
      · cases t <;> simp [tabL] at hm
      · exact ho t m rfl hm
    have e : body ++ spN (some (t, m)) ++ r = (body ++ (tabL t ++ [32, 59] ++ m)) ++ 10 :: ([9, 32] ++ 10 :: r) := by simp [spN, List.append_assoc]
    rw [e, linesG_line _ _ _ hn, linesG_line _ _ _ (by simp)]
    simp
theorem room_lines (f : Nat → Option (Bool × List UInt8)) (hf : okF f) (L : List Pu) (h : ∀ q ∈ L, mayP q = true) : ∀ k i, badO (linesG (spG f (printP L) k) []) i = none ∧ itemsO (linesG (spG f (printP L) k) []) = L := by
  induction L with
  | nil => intro k i; exact ⟨rfl, rfl⟩
  | cons q L ih =>
    intro k i
    have hq := h q (by simp)
    have ih' := ih (fun x hx => h x (by simp [hx]))
    obtain ⟨h1, h2⟩ := line_back hq
    -- the line, with its room
    have key : ∃ body k', spG f (printP (q :: L)) k = body ++ spN (f k') ++ spG f (printP L) (k' + 1) ∧ 10 ∉ body ∧ ∀ z, endz z → wordsA (body ++ z) = wordsA (strL (lineP q)) ∧ frontL (body ++ z) = frontL (strL (lineP q)) := by
      have e0 : printP (q :: L) = strL (lineP q) ++ (10 :: printP L) := by
        show strL (lineP q) ++ [10] ++ printP L = _
        simp [List.append_assoc]
      have e10 : ∀ k', spG f (10 :: printP L) k' = spN (f k') ++ spG f (printP L) (k' + 1) := fun k' => by
        conv => lhs; unfold spG
        rw [if_neg (by decide), if_pos rfl]
      rcases h2 with ⟨x, e, ow, hw, hfr⟩ | ⟨ws, hne, hw, e⟩
      · refine ⟨x, k, ?_, fun hm => (ow.2 10 hm).2.2.2 rfl, fun z hz => ?_⟩
        · rw [e0, e, spG_word f x _ k ow.2, e10, List.append_assoc]
        · have hc : ∃ c r, x = c :: r := by
            rcases x with _ | ⟨c, r⟩
            · exact absurd rfl ow.1
            · exact ⟨c, r, rfl⟩
          obtain ⟨c, r, rfl⟩ := hc
          rw [e]
          refine ⟨?_, rfl⟩
          unfold wordsA
          rw [wordsG_word _ z [] ow.2, List.nil_append, hz, pushW_of ow.1, wordsG_end _ ow]
      · obtain ⟨body, e1, hb, hw1, hfr⟩ := spG_spread f ws (10 :: printP L) k hw
        refine ⟨body, k + ws.length, ?_, hb, fun z hz => ⟨?_, ?_⟩⟩
        · rw [e0, e, e1, e10, List.append_assoc]
        · unfold wordsA
          rw [hw1 z [] hz, e, wordsG_spread ws [] hw]
        · rw [hfr hne z, e]
          cases ws with
          | nil => exact absurd rfl hne
          | cons x r => rfl
    obtain ⟨body, k', e, hb, hwz⟩ := key
    obtain ⟨z, ex, hz, e2, hex⟩ := lines_room (f k') body (spG f (printP L) (k' + 1)) hb (fun t m hm => hf k' t m hm)
    have hl : lineO (body ++ z) = some [q] := by
      obtain ⟨w1, w2⟩ := hwz z hz
      rw [← h1]
      unfold lineO
      rw [w1, w2]
    have hexb : ∀ j, badO ex j = none := by
      clear e2
      induction ex with
      | nil => intro j; rfl
      | cons l ex ih2 =>
        intro j
        rw [badO_one, hex l (by simp), lineO_room]
        exact ih2 (fun y hy => hex y (by simp [hy])) (j + 1)
    have hexi : itemsO ex = [] := by
      unfold itemsO
      rw [List.flatMap_eq_nil_iff]
      intro l hl
      rw [hex l hl, lineO_room]
      rfl
    rw [e, e2]
    obtain ⟨i1, i2⟩ := ih' (k' + 1) (i + 1 + ex.length)
    refine ⟨?_, ?_⟩
    · rw [show (body ++ z) :: ex ++ linesG (spG f (printP L) (k' + 1)) [] = (body ++ z) :: (ex ++ linesG (spG f (printP L) (k' + 1)) []) from rfl, badO_one, hl]
      show badO (ex ++ _) (i + 1) = none
      rw [badO_app _ _ _ (hexb _)]
      exact i1
    · rw [show (body ++ z) :: ex ++ linesG (spG f (printP L) (k' + 1)) [] = [body ++ z] ++ (ex ++ linesG (spG f (printP L) (k' + 1)) []) from rfl, itemsO_app, itemsO_app, itemsO_one, hl, hexi, i2]
      rfl
theorem room_back {f : Nat → Option (Bool × List UInt8)} (hf : okF f) {L : List Pu} (h : ∀ q ∈ L, mayP q = true) (h4 : L.length ≤ 4096) (hl : (spG f (printP L) 0).length ≤ 65536) : srcE (mkB (spG f (printP L) 0)) = 0 ∧ srcL (mkB (spG f (printP L) 0)) = L := by
  have hs : (mkB (spG f (printP L) 0)).size = (spG f (printP L) 0).length := by rw [← strL_len, strL_mkB]
  obtain ⟨k1, k2⟩ := room_lines f hf L h 0 1
  have e : srcLs (mkB (spG f (printP L) 0)) = linesG (spG f (printP L) 0) [] := by unfold srcLs; rw [strL_mkB]
  have eE : srcE (mkB (spG f (printP L) 0)) = 0 := by
    unfold srcE
    rw [if_neg (by omega), e, k1, k2]
    exact if_neg (by omega)
  refine ⟨eE, ?_⟩
  unfold srcL
  rw [eE, if_pos rfl, e, k2]
end Go.Proofs.YtfdjifgmlgpjgabDoor
