/- The words of a source's line: the program's, by strings.Cut and strings.FieldsFunc. -/
import Derived.Test.YtmaedkbmjbggpaaDoorJNk
import Derived.Lib.FieldsP
import Derived.Lib.TrimU
namespace Go.Proofs.YtmaedkbmjbggpaaDoor
open Go Go.RowKit
set_option linter.unusedVariables false
set_option maxHeartbeats 2000000
set_option maxRecDepth 20000

theorem idxC (c0 : UInt8) (l : List UInt8) : (Lib.index l [c0] = -1 ∧ ∀ b ∈ l, b ≠ c0) ∨ ∃ a b, l = a ++ c0 :: b ∧ (∀ x ∈ a, x ≠ c0) ∧ Lib.index l [c0] = (a.length : Int) := by
  induction l with
  | nil => exact .inl ⟨rfl, fun b hb => by simp at hb⟩
  | cons c l ih =>
    by_cases hc : c = c0
    · subst hc
      exact .inr ⟨[], l, rfl, fun x hx => by simp at hx, by unfold Lib.index; rw [if_pos (by simp [List.isPrefixOf])]; rfl⟩
    · have hp : ¬ (([c0] : List UInt8).isPrefixOf (c :: l)) = true := by simp [List.isPrefixOf]; exact fun e => hc e.symm
      have hi : Lib.index (c :: l) [c0] = if Lib.index l [c0] == -1 then -1 else Lib.index l [c0] + 1 := by
        conv => lhs; unfold Lib.index
        rw [if_neg hp]
      rcases ih with ⟨h1, h2⟩ | ⟨a, b, h1, h2, h3⟩
      · refine .inl ⟨by rw [hi, h1]; rfl, fun x hx => ?_⟩
        rcases List.mem_cons.1 hx with e | e
        · rw [e]; exact hc
        · exact h2 x e
      · refine .inr ⟨c :: a, b, by rw [h1]; rfl, fun x hx => ?_, ?_⟩
        · rcases List.mem_cons.1 hx with e | e
          · rw [e]; exact hc
          · exact h2 x e
        · rw [hi, h3, if_neg (by simp)]
          simp
theorem cutC (c0 : UInt8) (l : List UInt8) : ((∀ b ∈ l, b ≠ c0) ∧ Lib.cut l [c0] = (l, [], false)) ∨ ∃ a b, l = a ++ c0 :: b ∧ (∀ x ∈ a, x ≠ c0) ∧ Lib.cut l [c0] = (a, b, true) := by
  rcases idxC c0 l with ⟨h1, h2⟩ | ⟨a, b, h1, h2, h3⟩
  · exact .inl ⟨h2, by unfold Lib.cut; rw [h1, if_neg (by decide)]⟩
  · refine .inr ⟨a, b, h1, h2, ?_⟩
    unfold Lib.cut
    rw [h3, if_pos (by omega), Int.toNat_natCast, h1]
    simp
/-- strings.Cut at one byte. -/
theorem cutc_any (w : World) (tb : Tw w) (c0 : UInt8) (s : ByteArray) (hs : s.size ≤ 1000000) :
    Calls Tryd.prog 30 #[.string s, .string ⟨#[c0]⟩] w fun e w' => ∃ a b f, e = .returned (.tuple #[.string a, .string b, .bool f]) ∧ Hid ((a = s ∧ b = ⟨#[]⟩ ∧ (∀ x ∈ strL s, x ≠ c0)) ∨ (strL s = strL a ++ c0 :: strL b ∧ (∀ x ∈ strL a, x ≠ c0) ∧ a.size + b.size + 1 = s.size)) ∧ Hid (Below w.heap.size w w') := by
  obtain ⟨m, hm⟩ := tb.m
  refine (Tryd.strings_Cut s ⟨#[c0]⟩ m w (by omega) hm).mono ?_
  rintro e w' ⟨rfl, n, rfl⟩
  refine ⟨_, _, _, rfl, ?_, ⟨rfl, rfl, rfl, Nat.le_refl _, fun _ _ => rfl⟩⟩
  rcases cutC c0 (strL s) with ⟨h1, h2⟩ | ⟨a, b, h1, h2, h3⟩
  · rw [show Lib.cut s.data.toList (ByteArray.mk #[c0]).data.toList = _ from h2]
    exact .inl ⟨strL_mk s, rfl, h1⟩
  · rw [show Lib.cut s.data.toList (ByteArray.mk #[c0]).data.toList = _ from h3]
    refine .inr ⟨by simpa [strL] using h1, by simpa [strL] using h2, ?_⟩
    have := congrArg List.length h1
    rw [strL_len] at this
    rw [this]
    show a.length + b.length + 1 = _
    simp
    omega

/-- What is no blank, tab or remark's beginning. -/
def wdcs (x : List UInt8) : Prop := ∀ c ∈ x, c ≠ 32 ∧ c ≠ 9 ∧ c ≠ 59
theorem wordsG_wd2 (x r cur : List UInt8) (h : wdcs x) : wordsG (x ++ r) cur = wordsG r (cur ++ x) := by
  induction x generalizing cur with
  | nil => simp
  | cons c x ih =>
    have hc := h c (by simp)
    show wordsG (c :: (x ++ r)) cur = _
    conv => lhs; unfold wordsG
    rw [if_neg hc.2.2, if_neg (by rintro (h | h); exact hc.1 h; exact hc.2.1 h), ih (cur ++ [c]) (fun d hd => h d (by simp [hd])), List.append_assoc]
    rfl
theorem wordsG_cut (a b : List UInt8) (h : ∀ x ∈ a, x ≠ 59) : ∀ cur, wordsG (a ++ 59 :: b) cur = wordsG a cur := by
  induction a with
  | nil => intro cur; exact wordsG_mark b cur
  | cons c a ih =>
    intro cur
    have hc := h c (by simp)
    have ih' := ih (fun x hx => h x (by simp [hx]))
    show wordsG (c :: (a ++ 59 :: b)) cur = _
    conv => lhs; unfold wordsG
    conv => rhs; unfold wordsG
    rw [if_neg hc, if_neg hc, ih', ih']
def blankP (r : Nat) : Bool := decide (r = 32) || decide (r = 9)
theorem decN_high (n b0 b1 b2 b3 : Nat) (h0 : 128 ≤ b0) : 128 ≤ (Lib.decodeN n b0 b1 b2 b3).1 ∧ (1 < (Lib.decodeN n b0 b1 b2 b3).2 → 128 ≤ b1) ∧ (2 < (Lib.decodeN n b0 b1 b2 b3).2 → 128 ≤ b2) ∧ (3 < (Lib.decodeN n b0 b1 b2 b3).2 → 128 ≤ b3) ∧ (Lib.decodeN n b0 b1 b2 b3).2 ≤ 4 := by
  unfold Lib.decodeN
  rw [if_neg (by omega)]
  split
  · split
    · simp only; omega
    · simp only; omega
  · split
    · split
      · simp only; omega
      · simp only; omega
    · split
      · split
        · simp only; omega
        · simp only; omega
      · simp only; omega
theorem get_is (s : ByteArray) (i : Nat) (h : i < s.size) : s.get! i = s[i]'h := by
  cases s with
  | mk d => exact getElem!_pos d i h
/-- What stands at a place of a text: one small byte, or some great ones. -/
theorem dec_at (s : ByteArray) (pos : Nat) (h : pos < s.size) : 1 ≤ (Utf8.decode s pos).2 ∧ pos + (Utf8.decode s pos).2 ≤ s.size ∧
    (((s[pos]'h).toNat < 128 ∧ Utf8.decode s pos = ((s[pos]'h).toNat, 1)) ∨ (128 ≤ (Utf8.decode s pos).1 ∧ ∀ j (hj : j < s.size), pos ≤ j → j < pos + (Utf8.decode s pos).2 → 128 ≤ (s[j]'hj).toNat)) := by
  have hle : pos + (Utf8.decode s pos).2 ≤ s.size := by
    have := Lib.decodeN_le_n' (s.size - pos) (s.get! pos).toNat (s.get! (pos + 1)).toNat (s.get! (pos + 2)).toNat (s.get! (pos + 3)).toNat (by omega)
    rw [← Lib.decode_at] at this
    omega
  refine ⟨Lib.width_pos s pos, hle, ?_⟩
  by_cases hb : (s[pos]'h).toNat < 128
  · refine .inl ⟨hb, ?_⟩
    rw [Lib.decode_at, get_is s pos h]
    unfold Lib.decodeN
    rw [if_pos hb]
  · have hx := decN_high (s.size - pos) (s.get! pos).toNat (s.get! (pos + 1)).toNat (s.get! (pos + 2)).toNat (s.get! (pos + 3)).toNat (by rw [get_is s pos h]; omega)
    rw [← Lib.decode_at] at hx
    refine .inr ⟨hx.1, fun j hj h1 h2 => ?_⟩
    have h4 := hx.2.2.2.2
    rcases (show j = pos ∨ j = pos + 1 ∨ j = pos + 2 ∨ j = pos + 3 by omega) with rfl | rfl | rfl | rfl
    · omega
    · have := hx.2.1 (by omega); rwa [get_is s _ hj] at this
    · have := hx.2.2.1 (by omega); rwa [get_is s _ hj] at this
    · have := hx.2.2.2.1 (by omega); rwa [get_is s _ hj] at this
def openW (l : List UInt8) (pos : Nat) : Option Nat → List UInt8
  | none => []
  | some a => (l.drop a).take (pos - a)
theorem drop_mid (l : List UInt8) (a b : Nat) (h : a ≤ b) (hb : b ≤ l.length) : l.drop a = (l.drop a).take (b - a) ++ l.drop b := by
  conv => lhs; rw [← List.take_append_drop (b - a) (l.drop a)]
  rw [List.drop_drop, show a + (b - a) = b by omega]
theorem take_mid (l : List UInt8) (a b c : Nat) (h : a ≤ b) (hc : b ≤ c) (hl : c ≤ l.length) : (l.drop a).take (c - a) = (l.drop a).take (b - a) ++ (l.drop b).take (c - b) := by
  rw [show c - a = (b - a) + (c - b) by omega, List.take_add, List.drop_drop, show a + (b - a) = b by omega]
theorem fields_words (s : ByteArray) (h59 : ∀ c ∈ strL s, c ≠ 59) : ∀ (f pos : Nat) (st : Option Nat) (acc : List (Nat × Nat)), s.size ≤ pos + f → pos ≤ s.size → (∀ a, st = some a → a < pos) →
    (Lib.closeSpans s (Lib.spansFromP blankP s f pos st acc)).map (fun x => strL (s.extract x.1 x.2)) = acc.map (fun x => strL (s.extract x.1 x.2)) ++ wordsG ((strL s).drop pos) (openW (strL s) pos st) := by
  have hlen := strL_len s
  have fin : ∀ (pos : Nat) (st : Option Nat) (acc : List (Nat × Nat)), pos = s.size → (∀ a, st = some a → a < pos) → (Lib.closeSpans s (acc, st)).map (fun x => strL (s.extract x.1 x.2)) = acc.map (fun x => strL (s.extract x.1 x.2)) ++ wordsG ((strL s).drop pos) (openW (strL s) pos st) := by
    intro pos st acc hp hst
    rw [List.drop_eq_nil_of_le (by omega)]
    cases st with
    | none =>
      show acc.map _ = acc.map _ ++ pushW []
      rw [pushW_nil, List.append_nil]
    | some a =>
      have ha := hst a rfl
      show (acc ++ [(a, s.size)]).map _ = acc.map _ ++ pushW ((strL s).drop a |>.take (pos - a))
      rw [List.map_append, pushW_of (fun e => by have := congrArg List.length e; rw [List.length_take, List.length_drop, List.length_nil] at this; omega), hp, ← strL_extract s a s.size (by omega) (Nat.le_refl _)]
      rfl
  intro f
  induction f with
  | zero =>
    intro pos st acc h1 h2 hst
    exact fin pos st acc (by omega) hst
  | succ f ih =>
    intro pos st acc h1 h2 hst
    by_cases hlt : pos < s.size
    · obtain ⟨k1, k2, k3⟩ := dec_at s pos hlt
      have hget := strL_get s pos hlt
      have hne59 : s[pos]'hlt ≠ 59 := h59 _ (List.mem_of_getElem? hget)
      unfold Lib.spansFromP
      rw [if_pos hlt]
      by_cases hp : blankP (Utf8.decode s pos).1 = true
      · rw [if_pos hp]
        unfold blankP at hp
        rw [Bool.or_eq_true, decide_eq_true_iff, decide_eq_true_iff] at hp
        rcases k3 with ⟨b1, b2⟩ | ⟨b1, _⟩
        · rw [b2] at hp ⊢
          simp only at hp ⊢
          have hc : s[pos]'hlt = 32 ∨ s[pos]'hlt = 9 := by
            rcases hp with h | h
            · exact .inl (UInt8.toNat_inj.1 h)
            · exact .inr (UInt8.toNat_inj.1 h)
          have hw : ∀ cur, wordsG ((strL s).drop pos) cur = pushW cur ++ wordsG ((strL s).drop (pos + 1)) [] := fun cur => by
            rw [drop_at hget]
            conv => lhs; unfold wordsG
            rw [if_neg hne59, if_pos hc]
          cases st with
          | none =>
            simp only
            rw [ih (pos + 1) none acc (by omega) (by omega) (fun a h => by cases h), hw]
            show _ = _ ++ (pushW [] ++ _)
            rw [pushW_nil, List.nil_append]
            rfl
          | some a =>
            have ha := hst a rfl
            simp only
            rw [ih (pos + 1) none (acc ++ [(a, pos)]) (by omega) (by omega) (fun a h => by cases h), hw, List.map_append, List.append_assoc]
            congr 1
            show [strL (s.extract a pos)] ++ _ = pushW ((strL s).drop a |>.take (pos - a)) ++ _
            rw [pushW_of (fun e => by have := congrArg List.length e; rw [List.length_take, List.length_drop, List.length_nil] at this; omega), strL_extract s a pos (by omega) (by omega)]
            rfl
        · omega
      · rw [if_neg hp]
        have hno : wdcs (((strL s).drop pos).take (Utf8.decode s pos).2) := by
          intro c hc
          obtain ⟨j, hj, rfl⟩ := List.getElem_of_mem hc
          rw [List.length_take, List.length_drop] at hj
          have hjs : pos + j < s.size := by omega
          have e : (((strL s).drop pos).take (Utf8.decode s pos).2)[j]? = some (s[pos + j]'hjs) := by
            rw [List.getElem?_take, if_pos (by omega), List.getElem?_drop]
            exact strL_get s (pos + j) hjs
          have e2 : (((strL s).drop pos).take (Utf8.decode s pos).2)[j]'(by rw [List.length_take, List.length_drop]; omega) = s[pos + j]'hjs := by
            rw [List.getElem?_eq_getElem (by rw [List.length_take, List.length_drop]; omega)] at e
            injection e
          have hgj := strL_get s (pos + j) hjs
          have h59' : s[pos + j]'hjs ≠ 59 := h59 _ (List.mem_of_getElem? hgj)
          have goal : (s[pos + j]'hjs) ≠ 32 ∧ (s[pos + j]'hjs) ≠ 9 ∧ (s[pos + j]'hjs) ≠ 59 := by
            rcases k3 with ⟨b1, b2⟩ | ⟨b1, b2⟩
            · have hj0 : j = 0 := by rw [b2] at hj; simp only at hj; omega
              subst hj0
              unfold blankP at hp
              rw [b2] at hp
              simp only [Bool.or_eq_true, decide_eq_true_iff, not_or] at hp
              exact ⟨fun e => hp.1 (by show (s[pos]'hlt).toNat = 32; exact congrArg UInt8.toNat e), fun e => hp.2 (by show (s[pos]'hlt).toNat = 9; exact congrArg UInt8.toNat e), h59'⟩
            · have hb := b2 (pos + j) hjs (by omega) (by omega)
              exact ⟨fun e => by rw [e] at hb; exact absurd hb (by decide), fun e => by rw [e] at hb; exact absurd hb (by decide), h59'⟩
          rw [← e2] at goal
          exact goal
        have hw : ∀ cur, wordsG ((strL s).drop pos) cur = wordsG ((strL s).drop (pos + (Utf8.decode s pos).2)) (cur ++ ((strL s).drop pos).take (Utf8.decode s pos).2) := fun cur => by
          conv => lhs; rw [← List.take_append_drop (Utf8.decode s pos).2 ((strL s).drop pos)]
          rw [wordsG_wd2 _ _ _ hno, List.drop_drop]
        cases st with
        | none =>
          simp only
          rw [ih (pos + (Utf8.decode s pos).2) (some pos) acc (by omega) (by omega) (fun a h => by cases h; omega), hw]
          show _ = _ ++ wordsG _ ([] ++ _)
          rw [List.nil_append]
          congr 2
          show (List.drop pos (strL s)).take (pos + (Utf8.decode s pos).2 - pos) = _
          rw [show pos + (Utf8.decode s pos).2 - pos = (Utf8.decode s pos).2 by omega]
        | some a =>
          have ha := hst a rfl
          simp only
          rw [ih (pos + (Utf8.decode s pos).2) (some a) acc (by omega) (by omega) (fun b h => by cases h; omega), hw]
          congr 2
          show (List.drop a (strL s)).take (pos + (Utf8.decode s pos).2 - a) = (List.drop a (strL s)).take (pos - a) ++ _
          rw [take_mid (strL s) a pos (pos + (Utf8.decode s pos).2) (by omega) (by omega) (by omega), show pos + (Utf8.decode s pos).2 - pos = (Utf8.decode s pos).2 by omega]
    · have hpe : pos = s.size := by omega
      rw [Lib.spansFromP_end blankP s _ pos st acc hlt]
      exact fin pos st acc hpe hst
theorem goFields_words (s : ByteArray) (h59 : ∀ c ∈ strL s, c ≠ 59) : (Lib.goFieldsP blankP s).map strL = wordsG (strL s) [] := by
  unfold Lib.goFieldsP Lib.spansOfP
  rw [List.map_map]
  have := fields_words s h59 s.size 0 none [] (by omega) (by omega) (fun a h => by cases h)
  rw [List.map_nil, List.nil_append, List.drop_zero] at this
  exact this
theorem blank_any (r : Nat) (w : World) (hr : r ≤ 1114111) : Calls Tryd.prog 54 #[.int .i32 (r : Int)] w fun e w' => e = .returned (.bool (blankP r)) ∧ w' = w := by
  obtain ⟨b, hb⟩ : ∃ b, Hid (blankP r = b) := ⟨_, (rfl : blankP r = blankP r)⟩
  rw [hb.out]
  by_cases h1 : r = 32
  · have q1 : ((r : Int) == 32) = true := by rw [beq_iff_eq]; omega
    have fin : Hid (b = true) := by show _ = _; rw [← hb.out, h1]; rfl
    clear h1
    go_enter Tryd.func54, Tryd.ntmps54
    go_wp2
    go_ret
    exact ⟨bool_ret fin.out.symm, rfl⟩
  · have q1 : ((r : Int) == 32) = false := by rw [beq_eq_false_iff_ne]; omega
    by_cases h2 : r = 9
    · have q2 : ((r : Int) == 9) = true := by rw [beq_iff_eq]; omega
      have fin : Hid (b = true) := by show _ = _; rw [← hb.out, h2]; rfl
      clear h1 h2
      go_enter Tryd.func54, Tryd.ntmps54
      go_wp2
      go_ret
      exact ⟨bool_ret fin.out.symm, rfl⟩
    · have q2 : ((r : Int) == 9) = false := by rw [beq_eq_false_iff_ne]; omega
      have fin : Hid (b = false) := by show _ = _; rw [← hb.out]; unfold blankP; simp [h1, h2]
      clear h1 h2
      go_enter Tryd.func54, Tryd.ntmps54
      go_wp2
      go_ret
      exact ⟨bool_ret fin.out.symm, rfl⟩
theorem own_weak {w : World} {B B' t s n : Nat} {v : Value} {xs : List Value} (h : w.ownsRow B t s v n xs) (hB : B' ≤ B) : w.ownsRow B' t s v n xs := by
  refine ⟨h.1, ?_⟩
  rcases h.2 with hn | ⟨g, cap, cur, h1, h2, h3⟩
  · exact .inl hn
  · exact .inr ⟨g, cap, cur, h1, Nat.le_trans hB h2, h3⟩
/-- The words of a line. -/
theorem words_any (w : World) (T : Hid (Tw w)) (s : ByteArray) (hs : s.size ≤ 1000000) :
    Calls Tryd.prog 31 #[.string s] w fun e w' => ∃ A, e = .returned (.slice (some ⟨A, 0, none⟩) (wordsA (strL s)).length (wordsA (strL s)).length) ∧ Hid (KT w (.slice (some ⟨A, 0, none⟩) (wordsA (strL s)).length (wordsA (strL s)).length) (wordsA (strL s)) w') := by
  have hC := cutc_any w T.out 59 s hs
  have hF : Hid (∀ (y : World) (a : ByteArray), a.size ≤ 1000000 → Calls Tryd.prog 53 #[.string a, .func (.func 54) #[] #[]] y fun e w' => ∃ A, e = .returned (.slice (some ⟨A, 0, none⟩) (Lib.goFieldsP blankP a).length (Lib.goFieldsP blankP a).length) ∧ Hid (KT y (.slice (some ⟨A, 0, none⟩) (Lib.goFieldsP blankP a).length (Lib.goFieldsP blankP a).length) (Lib.goFieldsP blankP a) w')) := fun y a ha => by
    refine (Tryd.strings_FieldsFunc_runes 54 #[] (fun args v => by kernel_rfl) blankP a y (by omega) (fun W r hr _ => ?_)).mono ?_
    · unfold FnGives
      refine (blank_any r W hr).mono ?_
      rintro e w' ⟨rfl, rfl⟩
      exact ⟨rfl, 0, rfl⟩
    · rintro e w' ⟨A, rfl, hA, h1, h2⟩
      exact ⟨A, rfl, h1, h2⟩
  have hs' : Hid (s.size ≤ 1000000) := hs
  clear hs
  go_enter Tryd.func31, Tryd.ntmps31
  go_wp2_with (first
    | (go_at_call 30; refine hC.mono ?_; rintro e y ⟨a, b, f, rfl, H1, H2⟩)
    | (go_at_call 53; refine (hF.out y a ?_).mono ?_; (have h1 := hs'.out; rcases H1.out with ⟨rfl, _⟩ | ⟨_, _, h3⟩; exact h1; omega); rintro e y2 ⟨A, rfl, H3⟩))
  go_ret
  have e : Lib.goFieldsP blankP a = wordsA (strL s) := by
    refine wordsA_of ?_
    rcases H1.out with ⟨rfl, _, h3⟩ | ⟨h1, h2, _⟩
    · exact goFields_words a h3
    · rw [goFields_words a h2, h1, wordsG_cut _ _ h2]
  rw [← e]
  exact ⟨A, rfl, own_weak H3.out.1 H2.out.size, H2.out.trans (H3.out.2.mono H2.out.size)⟩
end Go.Proofs.YtmaedkbmjbggpaaDoor
/- What a line's words say: addresses, places, labels, data: the program's readers. -/
namespace Go.Proofs.YtmaedkbmjbggpaaDoor
open Go Go.RowKit
set_option linter.unusedVariables false
set_option maxHeartbeats 3000000
set_option maxRecDepth 20000

/-- Boxes stay where a row that is none of them grows. -/
theorem Fm.grown {w y z : World} {l : List (Nat × Array Value × TypeId)} {o : Obj} {row : Option Nat} (h : Fm w l y) (hg : (y.alloc o).grownBy z row) (hne : ∀ (i b : Nat) (cs : Array Value) (t : TypeId), l[i]? = some (b, cs, t) → some b ≠ row) (hrow : ∀ q, row = some q → w.heap.size ≤ q) : Fm w l z := by
  refine ⟨fun i b cs t e => ?_, h.ge, h.ne, Below.grown (h.low.alloc h.low.size o) hg (by have := h.low.size; simp; omega) hrow⟩
  have h1 := h.get i b cs t e
  exact (hg.block b (by have := heap_lt h1; simp; omega) (hne i b cs t e)).trans (((below1 y o).block b (heap_lt h1)).trans h1)
theorem rat_ok (w : World) (x : ByteArray) (sp : Option Addr) (cap : Nat) (hx : x.size ≤ 1000000) (h0 : Hid (WL w sp [x])) (h : numE x = 0 ∧ x.size = 4) : Calls Tryd.prog 47 #[.slice sp 1 cap] w (RdE w (some ⟨4, E0, numV x, E0, 0, []⟩)) := by
  have K1 : Hid (Fm w [(w.heap.size, i6 z0, 39)] (w.alloc (.cells #[.int .u8 0, .string ⟨#[]⟩, .int .i64 0, .string ⟨#[]⟩, .int .u8 0, .slice none 0 0] 39))) := Fm.one w _ _
  obtain ⟨g, o, rfl, c0, i0⟩ := h0.out.at (j := 0) rfl 1 cap (by omega)
  rw [Nat.add_zero] at c0 i0
  have lg := World.block_lt_of_cell? w _ c0
  have hN := fun v => rnum_ok x 4 v hx h
  generalize numV x = V at hN
  clear h hx
  go_enter Tryd.func47, Tryd.ntmps47
  go_wp2_with (first
    | (go_at_call 55; refine (need_ok _).mono ?_; rintro e yn ⟨rfl, rfl⟩)
    | (go_at_call 77; refine (hN _).mono ?_; rintro e y2 ⟨rfl, H2⟩; have K2 : Hid (Fm w [(w.heap.size, i6 z0, 39)] y2) := K1.out.below H2; clear H2)
    | ((with_reducible refine at_bu #[(0, .const (.int .u8 4)), (2, .tmp 10)] [(0, .int .u8 4), (2, .int .i64 V)] (i6 (atR V)) ?_ ?_ ?_ (built_at V) ?_); kernel_rfl; rfl; rfl)
    | ((with_reducible refine at_st rt6 w.heap.size (i6 z0) (i6 (atR V)) ?_ ?_ ?_ ?_ (.tmp 2) (.tmp 11) ?_ ?_ ?_ ?_ ?_); exact K2.out.bx 0 _ _ _ rfl; rfl; rfl; exact one6 _; rfl; rfl; rfl; rfl; intro ys hws; have K5 : Hid (Fm w ((w.heap.size, i6 (atR V), 39) :: []) ys) := K2.out.put 0 _ _ _ _ rfl hws.out; clear hws))
  exact ret_row rt6 rfl rfl (K5.out.bx 0 _ _ _ rfl) rfl rfl (RdE.plain (q := ⟨4, E0, V, E0, 0, []⟩) rfl K5.out.low)
theorem rat_no (w : World) (x : ByteArray) (sp : Option Addr) (cap : Nat) (hx : x.size ≤ 1000000) (h0 : Hid (WL w sp [x])) (h : ¬ (numE x = 0 ∧ x.size = 4)) : Calls Tryd.prog 47 #[.slice sp 1 cap] w (RdE w none) := by
  have K1 : Hid (Fm w [(w.heap.size, i6 z0, 39)] (w.alloc (.cells #[.int .u8 0, .string ⟨#[]⟩, .int .i64 0, .string ⟨#[]⟩, .int .u8 0, .slice none 0 0] 39))) := Fm.one w _ _
  obtain ⟨g, o, rfl, c0, i0⟩ := h0.out.at (j := 0) rfl 1 cap (by omega)
  rw [Nat.add_zero] at c0 i0
  have lg := World.block_lt_of_cell? w _ c0
  have hN := fun v => rnum_no x 4 v hx h
  clear h hx
  go_enter Tryd.func47, Tryd.ntmps47
  go_wp2_with (first
    | (go_at_call 55; refine (need_ok _).mono ?_; rintro e yn ⟨rfl, rfl⟩)
    | (go_at_call 77; refine (hN _).mono ?_; rintro e y2 ⟨rfl, H2⟩; have K2 : Hid (Below w.heap.size w y2) := (K1.out.below H2).low; clear H2))
  exact ⟨rfl, rfl, K2.out⟩
theorem rat_many (w : World) (sp : Option Addr) (n cap : Nat) (hn : n ≠ 1) (hn2 : n ≤ 1000001) : Calls Tryd.prog 47 #[.slice sp n cap] w (RdE w none) := by
  have K1 : Hid (Fm w [(w.heap.size, i6 z0, 39)] (w.alloc (.cells #[.int .u8 0, .string ⟨#[]⟩, .int .i64 0, .string ⟨#[]⟩, .int .u8 0, .slice none 0 0] 39))) := Fm.one w _ _
  have q1 : ((n : Int) == 1) = false := by rw [beq_eq_false_iff_ne]; omega
  clear hn hn2
  go_enter Tryd.func47, Tryd.ntmps47
  go_wp2_with (go_at_call 55; refine (need_no _).mono ?_; rintro e yn ⟨rfl, rfl⟩)
  exact ⟨rfl, rfl, K1.out.low⟩
theorem rat_any (w : World) (r : List ByteArray) (sp : Option Addr) (cap : Nat) (h0 : Hid (WL w sp r)) (hr : ∀ x ∈ r, x.size ≤ 1000000) (hn : r.length ≤ 1000001) : Calls Tryd.prog 47 #[.slice sp r.length cap] w (RdE w (atP r)) := by
  rcases r with _ | ⟨x, _ | ⟨x1, r⟩⟩
  · exact rat_many w sp 0 cap (by omega) (by omega)
  · rw [atP_1]
    have hx := hr x (by simp)
    by_cases h : x.size = 4 ∧ numE x = 0
    · rw [if_pos h]
      exact rat_ok w x sp cap hx h0 ⟨h.2, h.1⟩
    · rw [if_neg h]
      exact rat_no w x sp cap hx h0 (fun h' => h ⟨h'.2, h'.1⟩)
  · exact rat_many w sp _ cap (by simp) hn

def addrO : List ByteArray → Option Pu
  | [x] => some ⟨5, E0, 0, x, 0, []⟩
  | _ => none
theorem raddr_ok (w : World) (x : ByteArray) (sp : Option Addr) (cap : Nat) (hx : x.size ≤ 1000000) (h0 : Hid (WL w sp [x])) : Calls Tryd.prog 48 #[.slice sp 1 cap] w (RdE w (some ⟨5, E0, 0, x, 0, []⟩)) := by
  have K1 : Hid (Fm w [(w.heap.size, i6 z0, 39)] (w.alloc (.cells #[.int .u8 0, .string ⟨#[]⟩, .int .i64 0, .string ⟨#[]⟩, .int .u8 0, .slice none 0 0] 39))) := Fm.one w _ _
  obtain ⟨g, o, rfl, c0, i0⟩ := h0.out.at (j := 0) rfl 1 cap (by omega)
  rw [Nat.add_zero] at c0 i0
  have lg := World.block_lt_of_cell? w _ c0
  have hA := fun v => apart_any x v hx
  clear hx
  go_enter Tryd.func48, Tryd.ntmps48
  go_wp2_with (first
    | (go_at_call 55; refine (need_ok _).mono ?_; rintro e yn ⟨rfl, rfl⟩)
    | (go_at_call 78; refine (hA _).mono ?_; rintro e y2 ⟨rfl, H2⟩; have K2 : Hid (Fm w [(w.heap.size, i6 z0, 39)] y2) := K1.out.below H2; clear H2)
    | ((with_reducible refine at_bu #[(0, .const (.int .u8 5)), (3, .tmp 10)] [(0, .int .u8 5), (3, .string x)] (i6 (addrR x)) ?_ ?_ ?_ (built_addr x) ?_); kernel_rfl; rfl; rfl)
    | ((with_reducible refine at_st rt6 w.heap.size (i6 z0) (i6 (addrR x)) ?_ ?_ ?_ ?_ (.tmp 2) (.tmp 11) ?_ ?_ ?_ ?_ ?_); exact K2.out.bx 0 _ _ _ rfl; rfl; rfl; exact one6 _; rfl; rfl; rfl; rfl; intro ys hws; have K5 : Hid (Fm w ((w.heap.size, i6 (addrR x), 39) :: []) ys) := K2.out.put 0 _ _ _ _ rfl hws.out; clear hws))
  exact ret_row rt6 rfl rfl (K5.out.bx 0 _ _ _ rfl) rfl rfl (RdE.plain (q := ⟨5, E0, 0, x, 0, []⟩) rfl K5.out.low)
theorem raddr_many (w : World) (sp : Option Addr) (n cap : Nat) (hn : n ≠ 1) (hn2 : n ≤ 1000001) : Calls Tryd.prog 48 #[.slice sp n cap] w (RdE w none) := by
  have K1 : Hid (Fm w [(w.heap.size, i6 z0, 39)] (w.alloc (.cells #[.int .u8 0, .string ⟨#[]⟩, .int .i64 0, .string ⟨#[]⟩, .int .u8 0, .slice none 0 0] 39))) := Fm.one w _ _
  have q1 : ((n : Int) == 1) = false := by rw [beq_eq_false_iff_ne]; omega
  clear hn hn2
  go_enter Tryd.func48, Tryd.ntmps48
  go_wp2_with (go_at_call 55; refine (need_no _).mono ?_; rintro e yn ⟨rfl, rfl⟩)
  exact ⟨rfl, rfl, K1.out.low⟩
theorem raddr_any (w : World) (r : List ByteArray) (sp : Option Addr) (cap : Nat) (h0 : Hid (WL w sp r)) (hr : ∀ x ∈ r, x.size ≤ 1000000) (hn : r.length ≤ 1000001) : Calls Tryd.prog 48 #[.slice sp r.length cap] w (RdE w (addrO r)) := by
  rcases r with _ | ⟨x, _ | ⟨x1, r⟩⟩
  · exact raddr_many w sp 0 cap (by omega) (by omega)
  · exact raddr_ok w x sp cap (hr x (by simp)) h0
  · exact raddr_many w sp _ cap (by simp) hn

/-- A label's line, its name not looked at. -/
def labO : List ByteArray → Option Pu
  | [x] => if (strL x).getLast? = some 58 then some ⟨1, x.extract 0 (x.size - 1), 0, E0, 0, []⟩ else none
  | _ => none
theorem labO_1 (x : ByteArray) : labO [x] = if (strL x).getLast? = some 58 then some ⟨1, x.extract 0 (x.size - 1), 0, E0, 0, []⟩ else none := rfl
theorem suf_is (l : List UInt8) : Lib.hasSuffix l [58] = decide (l.getLast? = some 58) := by
  unfold Lib.hasSuffix
  rw [Bool.eq_iff_iff, List.isSuffixOf_iff_suffix, decide_eq_true_iff, List.getLast?_eq_some_iff]
  constructor
  · rintro ⟨t, rfl⟩; exact ⟨t, rfl⟩
  · rintro ⟨t, rfl⟩; exact ⟨t, rfl⟩
theorem trim_is (x : ByteArray) (h : (strL x).getLast? = some 58) : (⟨(Lib.trimSuffix x.data.toList [58]).toArray⟩ : ByteArray) = x.extract 0 (x.size - 1) := by
  have hs : Lib.hasSuffix x.data.toList [58] = true := by rw [suf_is]; exact decide_eq_true h
  refine ba_eq ?_
  unfold Lib.trimSuffix
  rw [hs, if_pos rfl, strL_extract x 0 (x.size - 1) (Nat.zero_le _) (by omega), List.drop_zero]
  show (List.take (x.data.toList.length - 1) x.data.toList) = _
  rw [show x.data.toList.length = x.size from strL_len x]
  rfl
theorem cutsuf_any (x : ByteArray) (w : World) (hx : x.size ≤ 1000000) : ∃ nm, Hid ((strL x).getLast? = some 58 → nm = x.extract 0 (x.size - 1)) ∧ nm.size ≤ 1000000 ∧ ∀ v, Calls Tryd.prog 82 #[.string x, .string ⟨#[58]⟩] v fun e w' => e = .returned (.tuple #[.string nm, .bool (decide ((strL x).getLast? = some 58))]) ∧ w' = v := by
  refine ⟨⟨(Lib.trimSuffix x.data.toList [58]).toArray⟩, fun h => trim_is x h, ?_, fun v => ?_⟩
  · show (Lib.trimSuffix x.data.toList [58]).toArray.size ≤ _
    rw [List.size_toArray]
    unfold Lib.trimSuffix
    have : x.data.toList.length = x.size := strL_len x
    split
    · rw [List.length_take]; omega
    · omega
  · have := Tryd.strings_CutSuffix x ⟨#[58]⟩ v (by omega)
    rw [show Lib.hasSuffix x.data.toList (ByteArray.mk #[58]).data.toList = decide ((strL x).getLast? = some 58) from suf_is (strL x)] at this
    exact this
theorem rlab_ok (w : World) (x : ByteArray) (sp : Option Addr) (cap : Nat) (hx : x.size ≤ 1000000) (h0 : Hid (WL w sp [x])) (h : (strL x).getLast? = some 58) : Calls Tryd.prog 56 #[.slice sp 1 cap] w (RdE w (some ⟨1, x.extract 0 (x.size - 1), 0, E0, 0, []⟩)) := by
  have K1 : Hid (Fm w [(w.heap.size, i6 z0, 39)] (w.alloc (.cells #[.int .u8 0, .string ⟨#[]⟩, .int .i64 0, .string ⟨#[]⟩, .int .u8 0, .slice none 0 0] 39))) := Fm.one w _ _
  obtain ⟨g, o, rfl, c0, i0⟩ := h0.out.at (j := 0) rfl 1 cap (by omega)
  rw [Nat.add_zero] at c0 i0
  have lg := World.block_lt_of_cell? w _ c0
  obtain ⟨nm, e1, e2, hC⟩ := cutsuf_any x w hx
  rw [← e1.out h]
  simp only [decide_eq_true h] at hC
  have hA := fun v => apart_any nm v e2
  clear hx h e1 e2
  go_enter Tryd.func56, Tryd.ntmps56
  go_wp2_with (first
    | (go_at_call 55; refine (need_ok _).mono ?_; rintro e yn ⟨rfl, rfl⟩)
    | (go_at_call 82; refine (hC _).mono ?_; rintro e yc ⟨rfl, rfl⟩)
    | (go_at_call 78; refine (hA _).mono ?_; rintro e y2 ⟨rfl, H2⟩; have K2 : Hid (Fm w [(w.heap.size, i6 z0, 39)] y2) := K1.out.below H2; clear H2)
    | ((with_reducible refine at_bu #[(0, .const (.int .u8 1)), (1, .tmp 19)] [(0, .int .u8 1), (1, .string nm)] (i6 (labR nm)) ?_ ?_ ?_ (built_lab nm) ?_); kernel_rfl; rfl; rfl)
    | ((with_reducible refine at_st rt6 w.heap.size (i6 z0) (i6 (labR nm)) ?_ ?_ ?_ ?_ (.tmp 2) (.tmp 20) ?_ ?_ ?_ ?_ ?_); exact K2.out.bx 0 _ _ _ rfl; rfl; rfl; exact one6 _; rfl; rfl; rfl; rfl; intro ys hws; have K5 : Hid (Fm w ((w.heap.size, i6 (labR nm), 39) :: []) ys) := K2.out.put 0 _ _ _ _ rfl hws.out; clear hws))
  exact ret_row rt6 rfl rfl (K5.out.bx 0 _ _ _ rfl) rfl rfl (RdE.plain (q := ⟨1, nm, 0, E0, 0, []⟩) rfl K5.out.low)
theorem rlab_no (w : World) (x : ByteArray) (sp : Option Addr) (cap : Nat) (hx : x.size ≤ 1000000) (h0 : Hid (WL w sp [x])) (h : ¬ (strL x).getLast? = some 58) : Calls Tryd.prog 56 #[.slice sp 1 cap] w (RdE w none) := by
  have K1 : Hid (Fm w [(w.heap.size, i6 z0, 39)] (w.alloc (.cells #[.int .u8 0, .string ⟨#[]⟩, .int .i64 0, .string ⟨#[]⟩, .int .u8 0, .slice none 0 0] 39))) := Fm.one w _ _
  obtain ⟨g, o, rfl, c0, i0⟩ := h0.out.at (j := 0) rfl 1 cap (by omega)
  rw [Nat.add_zero] at c0 i0
  have lg := World.block_lt_of_cell? w _ c0
  obtain ⟨nm, e1, e2, hC⟩ := cutsuf_any x w hx
  simp only [decide_eq_false h] at hC
  clear hx h e1 e2
  go_enter Tryd.func56, Tryd.ntmps56
  go_wp2_with (first
    | (go_at_call 55; refine (need_ok _).mono ?_; rintro e yn ⟨rfl, rfl⟩)
    | (go_at_call 55; refine (need_no _).mono ?_; rintro e yn ⟨rfl, rfl⟩)
    | (go_at_call 82; refine (hC _).mono ?_; rintro e yc ⟨rfl, rfl⟩))
  exact ⟨rfl, rfl, K1.out.low⟩
theorem rlab_many (w : World) (sp : Option Addr) (n cap : Nat) (hn : n ≠ 1) (hn2 : n ≤ 1000001) : Calls Tryd.prog 56 #[.slice sp n cap] w (RdE w none) := by
  have K1 : Hid (Fm w [(w.heap.size, i6 z0, 39)] (w.alloc (.cells #[.int .u8 0, .string ⟨#[]⟩, .int .i64 0, .string ⟨#[]⟩, .int .u8 0, .slice none 0 0] 39))) := Fm.one w _ _
  have q1 : ((n : Int) == 1) = false := by rw [beq_eq_false_iff_ne]; omega
  clear hn hn2
  go_enter Tryd.func56, Tryd.ntmps56
  go_wp2_with (go_at_call 55; refine (need_no _).mono ?_; rintro e yn ⟨rfl, rfl⟩)
  exact ⟨rfl, rfl, K1.out.low⟩
theorem rlab_any (w : World) (r : List ByteArray) (sp : Option Addr) (cap : Nat) (h0 : Hid (WL w sp r)) (hr : ∀ x ∈ r, x.size ≤ 1000000) (hn : r.length ≤ 1000001) : Calls Tryd.prog 56 #[.slice sp r.length cap] w (RdE w (labO r)) := by
  rcases r with _ | ⟨x, _ | ⟨x1, r⟩⟩
  · exact rlab_many w sp 0 cap (by omega) (by omega)
  · rw [labO_1]
    have hx := hr x (by simp)
    by_cases h : (strL x).getLast? = some 58
    · rw [if_pos h]
      exact rlab_ok w x sp cap hx h0 h
    · rw [if_neg h]
      exact rlab_no w x sp cap hx h0 h
  · exact rlab_many w sp _ cap (by simp) hn

/-- The table's function of an instruction's name. -/
theorem rclo_any (w : World) (x0 : ByteArray) (r : List ByteArray) (c : Nat) (sp : Option Addr) (cap : Nat) (T : Hid (Tw w)) (hc : Hid (Bx w c #[.string x0] 9)) (h0 : Hid (WL w sp r)) (hx : x0.size ≤ 1000000) (hr : ∀ x ∈ r, 0 < x.size ∧ x.size ≤ 1000000) (hn : r.length ≤ 1000001) :
    Calls Tryd.prog 50 #[.slice sp r.length cap, .pointer (some ⟨c, 0, none⟩)] w (RdE w (codeO x0 r)) := by
  have K1 : Hid (Fm w [(w.heap.size, i6 z0, 39)] (w.alloc (.cells #[.int .u8 0, .string ⟨#[]⟩, .int .i64 0, .string ⟨#[]⟩, .int .u8 0, .slice none 0 0] 39))) := Fm.one w _ _
  have hR := fun v T h0 => rcodeP_any v x0 r sp cap T h0 hx hr hn
  have c0 := hc.out.c 0 _ rfl
  have lg := World.block_lt_of_cell? w _ c0
  obtain ⟨n, hn'⟩ : ∃ n, r.length = n := ⟨_, rfl⟩
  rw [hn'] at hR ⊢
  obtain ⟨o, ho⟩ : ∃ o, codeO x0 r = o := ⟨_, rfl⟩
  rw [ho] at hR ⊢
  clear hn hn' hx hr ho
  rcases o with _ | q
  · go_enter Tryd.func50, Tryd.ntmps50
    go_wp2_with (go_at_call 51; refine (hR _ (T.out.below K1.out.low) (h0.out.below K1.out.low)).mono ?_; rintro e y2 ⟨rfl, H2⟩; have K2 : Hid (Below w.heap.size w y2) := (K1.out.below H2).low; clear H2)
    exact ⟨rfl, rfl, K2.out⟩
  · go_enter Tryd.func50, Tryd.ntmps50
    go_wp2_with (first
      | (go_at_call 51; refine (hR _ (T.out.below K1.out.low) (h0.out.below K1.out.low)).mono ?_; rintro e y2 ⟨sp2, cap2, rfl, H1, H2⟩; have K2 : Hid (Fm w [(w.heap.size, i6 z0, 39)] y2) := K1.out.below H2; replace H1 : Hid _ := H1; clear H2)
      | ((with_reducible refine at_st rt6 w.heap.size (i6 z0) (i6 (q.ri sp2 cap2)) ?_ ?_ ?_ ?_ (.tmp 3) (.tmp 6) ?_ ?_ ?_ ?_ ?_); exact K2.out.bx 0 _ _ _ rfl; rfl; rfl; exact one6 _; rfl; rfl; rfl; rfl; intro ys hws; have K5 : Hid (Fm w [(w.heap.size, i6 (q.ri sp2 cap2), 39)] ys ∧ ∀ q, q ≠ w.heap.size → ys.heap[q]? = y2.heap[q]?) := ⟨K2.out.put 0 _ _ _ _ rfl hws.out, hws.out.2.2⟩; clear hws))
    exact ret_row rt6 rfl rfl (K5.out.1.bx 0 _ _ _ rfl) rfl rfl ⟨_, _, rfl, own_box K1.out.low H1.out (fun g hg => K5.out.2 g hg), K5.out.1.low⟩

theorem dataO_snoc (a : List ByteArray) (x : ByteArray) : dataO (a ++ [x]) = match dataO a with
    | none => none
    | some l => match byteO x with
      | none => none
      | some b => some (l ++ [b]) := by
  induction a with
  | nil =>
    show dataO [x] = _
    unfold dataO
    rcases byteO x with _ | b <;> rfl
  | cons y a ih =>
    show dataO (y :: (a ++ [x])) = _
    conv => lhs; unfold dataO
    conv => rhs; unfold dataO
    rw [ih]
    rcases byteO y with _ | c
    · rfl
    · rcases dataO a with _ | l
      · rfl
      · rcases byteO x with _ | b <;> rfl
theorem dataO_bad {a : List ByteArray} {x : ByteArray} (hx : byteO x = none) : ∀ b, dataO (a ++ x :: b) = none := by
  induction a with
  | nil =>
    intro b
    show dataO (x :: b) = none
    unfold dataO
    rw [hx]
  | cons y a ih =>
    intro b
    show dataO (y :: (a ++ x :: b)) = none
    unfold dataO
    rw [ih b]
    rcases byteO y with _ | c <;> rfl
def datO (r : List ByteArray) : Option Pu := match dataO r with
  | none => none
  | some l => some ⟨3, E0, 0, E0, 0, l⟩
theorem KB.off {w y : World} {v : Value} {l : List UInt8} {b t : Nat} {cs : Array Value} (h : KB w v l y) (hx : Bx y b cs t) (ht : t ≠ 5) : some b ≠ v.ownBlock := fun e => by
  rcases h.1.2 with ⟨h0, _⟩ | ⟨g, cap, cur, hv, _, hg, _⟩
  · rw [h0] at e; simp [Value.ownBlock] at e
  · rw [hv] at e
    have e1 : b = g := by simpa [Value.ownBlock] using e
    subst e1
    exact Bx.unlike hx (show Bx y b cur 5 from hg) ht rfl
theorem byV_of (N : Int) (h0 : 0 ≤ N) (h1 : N < 256) : byV (UInt8.ofNat N.toNat) = .int .u8 N := by
  unfold byV
  rw [UInt8.toNat_ofNat']
  congr 1
  rw [Nat.mod_eq_of_lt (by omega)]
  omega
theorem rdata_any (w : World) (ws : List ByteArray) (sp : Option Addr) (cap : Nat) (h0 : Hid (WL w sp ws)) (hr : ∀ x ∈ ws, x.size ≤ 1000000) (hn : ws.length ≤ 1000001) : Calls Tryd.prog 46 #[.slice sp ws.length cap] w (RdE w (datO ws)) := by
  have K1 : Hid (Fm w [(w.heap.size, i6 z0, 39)] (w.alloc (.cells #[.int .u8 0, .string ⟨#[]⟩, .int .i64 0, .string ⟨#[]⟩, .int .u8 0, .slice none 0 0] 39))) := Fm.one w _ _
  obtain ⟨n, hn'⟩ : ∃ n, ws.length = n := ⟨_, rfl⟩
  have hnn : Hid (ws.length = n) := hn'
  have ni : (n : Int) ≤ 1000001 := by omega
  have hr' : Hid (∀ x ∈ ws, x.size ≤ 1000000) := hr
  obtain ⟨i5, hi5, hz0, hz1, hz2⟩ := info_parts infoB
  obtain ⟨y1, hmk, h2, h3⟩ := run_make_own (P := Tryd.prog) (w.alloc (.cells #[.int .u8 0, .string ⟨#[]⟩, .int .i64 0, .string ⟨#[]⟩, .int .u8 0, .slice none 0 0] 39)) (w.alloc (.cells #[.int .u8 0, .string ⟨#[]⟩, .int .i64 0, .string ⟨#[]⟩, .int .u8 0, .slice none 0 0] 39)).heap.size 37 5 i5 _ 1 Tryd.underlying37 hi5 hz0 hz1 .i64 .i64 n (by rw [hz2]; omega) (by unfold maxLen; omega) (Nat.le_refl _)
  have hb1 : Below (w.alloc (.cells #[.int .u8 0, .string ⟨#[]⟩, .int .i64 0, .string ⟨#[]⟩, .int .u8 0, .slice none 0 0] 39)).heap.size (w.alloc (.cells #[.int .u8 0, .string ⟨#[]⟩, .int .i64 0, .string ⟨#[]⟩, .int .u8 0, .slice none 0 0] 39)) y1 := ⟨h3.os, h3.tape, h3.output, h3.size, fun k hk => h3.block k hk (by simp)⟩
  have F1 : Hid (Fm w [(w.heap.size, i6 z0, 39)] y1) := K1.out.below hb1
  have B1 : Hid (KB w (.slice (some ⟨(w.alloc (.cells #[.int .u8 0, .string ⟨#[]⟩, .int .i64 0, .string ⟨#[]⟩, .int .u8 0, .slice none 0 0] 39)).heap.size, 0, none⟩) 0 n) [] y1) := ⟨own_weak h2 (by simp), F1.out.low⟩
  obtain ⟨o, ho⟩ : ∃ o, datO ws = o := ⟨_, rfl⟩
  have ho' : Hid (datO ws = o) := ho
  rw [ho, hn']
  clear h2 h3 hb1 hn hn' hr ho
  go_enter Tryd.func46, Tryd.ntmps46
  go_wp2
  go_loopw [3, 11] (fun u t wz => ∃ (j : Nat) (va : Value) (B : List UInt8) (z : World), z = wz ∧ va = u ∧ t = .int .i64 (j : Int) ∧ Hid (j ≤ n ∧ dataO (ws.take j) = some B ∧ B.length ≤ j) ∧ Hid (KB w va B z ∧ Fm w [(w.heap.size, i6 z0, 39)] z)) (fun _ t _ => (n - intOf t).toNat)
  case atStart => exact ⟨0, _, [], y1, rfl, rfl, rfl, ⟨Nat.zero_le _, rfl, Nat.le_refl _⟩, by have h := B1.out; rw [show ∀ o, (w.alloc o).heap.size = w.heap.size + 1 from fun o => by simp] at h; exact h, F1.out⟩
  case round =>
    obtain ⟨j, va, B, z, rfl, rfl, rfl, J, K⟩ := hrel
    by_cases hlt : j < n
    · have hjb : j < ws.length := by rw [hnn.out]; exact hlt
      obtain ⟨x, hx⟩ : ∃ x, ws[j]? = some x := ⟨_, List.getElem?_eq_getElem hjb⟩
      obtain ⟨g, ob, rfl, c0, ij⟩ := h0.out.at hx n cap hlt
      have c1 : z.cell? ⟨g, ob + j, none⟩ = some (.string x) := (K.out.2.low.cell (p := ⟨g, ob + j, none⟩) (World.block_lt_of_cell? w _ c0)).trans c0
      have hji : (j : Int) < n := by omega
      have hj' : Hid (j < n) := hlt
      have hxs := hr'.out x (List.mem_of_getElem? hx)
      have htake : ws.take (j + 1) = ws.take j ++ [x] := by rw [List.take_add_one, hx]; rfl
      replace c0 : Hid _ := c0
      by_cases hN : numE x = 0 ∧ x.size = 2
      · have hC := fun v => rnum_ok x 2 v hxs hN
        have hbd := numV_bd hN.1
        rw [hN.2, show (16 : Int) ^ 2 = 256 from by decide] at hbd
        have u0 := hbd.1
        have u1 := hbd.2
        have hby : byteO x = some (UInt8.ofNat (numV x).toNat) := by unfold byteO; rw [if_pos ⟨hN.2, hN.1⟩]
        have J2 : Hid (j + 1 ≤ n ∧ dataO (ws.take (j + 1)) = some (B ++ [UInt8.ofNat (numV x).toNat]) ∧ (B ++ [UInt8.ofNat (numV x).toNat]).length ≤ j + 1) := by
          refine ⟨hlt, ?_, by have := J.out.2.2; simp; omega⟩
          rw [htake, dataO_snoc, J.out.2.1, hby]
        have hbv := byV_of (numV x) u0 u1
        have hBl : Hid (B.length ≤ 1000001) := by have h1 := J.out; show _ ≤ _; omega
        generalize numV x = N at hC u0 u1 J2 hbv
        replace htake : Hid _ := htake
        replace hx : Hid _ := hx
        replace hbv : Hid _ := hbv
        clear hlt hjb hN hbd hby hxs
        go_wp2_with (first
          | (go_at_call 77; refine (hC z).mono ?_; rintro e z2 ⟨rfl, H2⟩; have Kb : Hid (KB w va B z2 ∧ Fm w [(w.heap.size, i6 z0, 39)] z2) := ⟨K.out.1.below H2, K.out.2.below H2⟩; clear H2)
          | (at_builtin; refine wpList_append_own _ rfl (.tmp 15) (.tmp 19) 37 rfl w.heap.size 5 i5 (.int .u8 0) 1 1 Tryd.underlying37 hi5 hz0 hz1 hz2 rfl (by decide) va B.length (B.map byV) rfl (Kb.out.1.1.alloc _) ⟨z2.heap.size, 0, none⟩ 1 1 [.int .u8 N] rfl rfl (one_byt z2 _) (by simp [Value.oneCell']) ?_ ?_ ?_ ?_; (have h1 := hBl.out; unfold maxLen; omega); (have h1 := hBl.out; omega); (have := Kb.out.1.2.size; simp; omega); intro v4 z4 h3 h4 h5; have K4 : Hid (KB w v4 (B ++ [UInt8.ofNat N.toNat]) z4 ∧ Fm w [(w.heap.size, i6 z0, 39)] z4) := ⟨Kb.out.1.one (b := UInt8.ofNat N.toNat) (by rw [hbv.out]; exact h3) h4, Kb.out.2.grown h4 (fun i b cs t e => by have e1 := List.mem_of_getElem? e; simp only [List.mem_singleton, Prod.mk.injEq] at e1; obtain ⟨rfl, rfl, rfl⟩ := e1; exact Kb.out.1.off (Kb.out.2.bx 0 _ _ _ rfl) (by decide)) (fun q hq => (Kb.out.1.1.lt q hq).1)⟩; clear h3 h4 h5))
        go_roundw
        case rel => exact ⟨j + 1, _, _, _, rfl, rfl, by simp, J2, K4⟩
        case measure => have := hj'.out; simp [intOf]; omega
      · have hC := fun v => rnum_no x 2 v hxs hN
        have hby : byteO x = none := by unfold byteO; rw [if_neg (fun h => hN ⟨h.2, h.1⟩)]
        have fin : Hid (o = none) := by
          show _ = _
          rw [← ho'.out]
          unfold datO
          have e : ws = ws.take j ++ x :: ws.drop (j + 1) := by
            conv => lhs; rw [← List.take_append_drop j ws]
            rw [show ws.drop j = x :: ws.drop (j + 1) from by rw [List.drop_eq_getElem_cons hjb]; congr 1; rw [List.getElem?_eq_getElem hjb] at hx; injection hx]
          rw [e, dataO_bad hby]
        replace htake : Hid _ := htake
        replace hx : Hid _ := hx
        clear hlt hjb hN hby hxs
        go_wp2_with (go_at_call 77; refine (hC z).mono ?_; rintro e z2 ⟨rfl, H2⟩; have Kb : Hid (Fm w [(w.heap.size, i6 z0, 39)] z2) := K.out.2.below H2; clear H2)
        refine ⟨rfl, ?_⟩
        rw [fin.out]
        exact ⟨rfl, Kb.out.low⟩
    · have hje : j = n := by have := J.out.1; omega
      subst hje
      obtain ⟨⟨sp', cap', rfl⟩, _⟩ := K.out.1.open
      have fin : Hid (o = some ⟨3, E0, 0, E0, 0, B⟩) := by
        show _ = _
        rw [← ho'.out]
        unfold datO
        have h1 := J.out.2.1
        rw [List.take_of_length_le (by rw [hnn.out]; exact Nat.le_refl _)] at h1
        rw [h1]
      obtain ⟨m, hm⟩ : ∃ m, B.length = m := ⟨_, rfl⟩
      have hm' : Hid (B.length = m) := hm
      have K' : Hid (KB w (.slice sp' m cap') B z ∧ Fm w [(w.heap.size, i6 z0, 39)] z) := by rw [← hm]; exact K
      rw [hm]
      clear hlt hm
      go_wp2_with (first
        | ((with_reducible refine at_bu #[(0, .const (.int .u8 3)), (5, .tmp 22)] [(0, .int .u8 3), (5, .slice sp' m cap')] (i6 (datR sp' m cap')) ?_ ?_ ?_ (built_dat sp' m cap') ?_); kernel_rfl; rfl; rfl)
        | ((with_reducible refine at_st rt6 w.heap.size (i6 z0) (i6 (datR sp' m cap')) ?_ ?_ ?_ ?_ (.tmp 2) (.tmp 23) ?_ ?_ ?_ ?_ ?_); exact K'.out.2.bx 0 _ _ _ rfl; rfl; rfl; exact one6 _; rfl; rfl; rfl; rfl; intro ys hws; have K5 : Hid (Fm w [(w.heap.size, i6 (datR sp' m cap'), 39)] ys ∧ ∀ q, q ≠ w.heap.size → ys.heap[q]? = z.heap[q]?) := ⟨K'.out.2.put 0 _ _ _ _ rfl hws.out, hws.out.2.2⟩; clear hws))
      refine ret_row rt6 rfl rfl (K5.out.1.bx 0 _ _ _ rfl) rfl rfl ?_
      rw [fin.out]
      refine ⟨sp', cap', by unfold Pu.ri; rw [← hm'.out]; rfl, ?_, K5.out.1.low⟩
      show ys.ownsRow w.heap.size _ 1 (.slice sp' B.length cap') B.length (B.map byV)
      rw [hm'.out]
      have hK := K'.out.1.1
      rw [hm'.out] at hK
      refine ⟨hK.1, ?_⟩
      rcases hK.2 with hz | ⟨g, c, cur, hv, hB, hg, hr⟩
      · exact .inl hz
      · refine .inr ⟨g, c, cur, hv, hB, (K5.out.2 g fun e => ?_).trans hg, hr⟩
        subst e
        exact K'.out.1.off (K'.out.2.bx 0 _ _ _ rfl) (by decide) (by rw [hv]; rfl)
end Go.Proofs.YtmaedkbmjbggpaaDoor
