/- The words of a source's line: the program's, by strings.Cut and strings.FieldsFunc. -/
import Derived.Test.YtfdjifgmlgpjgaaDoorNk
import Derived.Lib.FieldsP
import Derived.Lib.TrimU
namespace Go.Proofs.YtfdjifgmlgpjgaaDoor
open Go Go.RowKit
set_option linter.unusedVariables false
set_option maxHeartbeats 2000000
set_option maxRecDepth 20000

theorem idxC (c0 : UInt8) (l : List UInt8) : (Lib.index l [c0] = -1 ∧ ∀ b ∈ l, b ≠ c0) ∨ ∃ a b, l = a ++ c0 :: b ∧ (∀ x ∈ a, x ≠ c0) ∧ Lib.index l [c0] = (a.length : Int) := by
  induction l with
  | nil => exact .inl ⟨rfl, fun b hb => by simp at hb⟩
  | cons c l ih =>
    by_cases hc : c = c0
    · subst hc
      exact .inr ⟨[], l, rfl, fun x hx => by simp at hx, by unfold Lib.index; rw [if_pos (by simp [List.isPrefixOf])]; rfl⟩
    · have hp : ¬ (([c0] : List UInt8).isPrefixOf (c :: l)) = true := by simp [List.isPrefixOf]; exact fun e => hc e.symm
      have hi : Lib.index (c :: l) [c0] = if Lib.index l [c0] == -1 then -1 else Lib.index l [c0] + 1 := by
        conv => lhs; unfold Lib.index
        rw [if_neg hp]
      rcases ih with ⟨h1, h2⟩ | ⟨a, b, h1, h2, h3⟩
      · refine .inl ⟨by rw [hi, h1]; rfl, fun x hx => ?_⟩
        rcases List.mem_cons.1 hx with e | e
        · rw [e]; exact hc
        · exact h2 x e
      · refine .inr ⟨c :: a, b, by rw [h1]; rfl, fun x hx => ?_, ?_⟩
        · rcases List.mem_cons.1 hx with e | e
          · rw [e]; exact hc
          · exact h2 x e
        · rw [hi, h3, if_neg (by simp)]
          simp
theorem cutC (c0 : UInt8) (l : List UInt8) : ((∀ b ∈ l, b ≠ c0) ∧ Lib.cut l [c0] = (l, [], false)) ∨ ∃ a b, l = a ++ c0 :: b ∧ (∀ x ∈ a, x ≠ c0) ∧ Lib.cut l [c0] = (a, b, true) := by
  rcases idxC c0 l with ⟨h1, h2⟩ | ⟨a, b, h1, h2, h3⟩
  · exact .inl ⟨h2, by unfold Lib.cut; rw [h1, if_neg (by decide)]⟩
  · refine .inr ⟨a, b, h1, h2, ?_⟩
    unfold Lib.cut
    rw [h3, if_pos (by omega), Int.toNat_natCast, h1]
    simp
/-- strings.Cut at one byte. -/
theorem cutc_any (w : World) (tb : Tw w) (c0 : UInt8) (s : ByteArray) (hs : s.size ≤ 1000000) :
    Calls Tryd.prog 37 #[.string s, .string ⟨#[c0]⟩] w fun e w' => ∃ a b f, e = .returned (.tuple #[.string a, .string b, .bool f]) ∧ Hid ((a = s ∧ b = ⟨#[]⟩ ∧ (∀ x ∈ strL s, x ≠ c0)) ∨ (strL s = strL a ++ c0 :: strL b ∧ (∀ x ∈ strL a, x ≠ c0) ∧ a.size + b.size + 1 = s.size)) ∧ Hid (Below w.heap.size w w') := by
  obtain ⟨m, hm⟩ := tb.m
  refine (Tryd.strings_Cut s ⟨#[c0]⟩ m w (by omega) hm).mono ?_
  rintro e w' ⟨rfl, n, rfl⟩
  refine ⟨_, _, _, rfl, ?_, ⟨rfl, rfl, rfl, Nat.le_refl _, fun _ _ => rfl⟩⟩
  rcases cutC c0 (strL s) with ⟨h1, h2⟩ | ⟨a, b, h1, h2, h3⟩
  · rw [show Lib.cut s.data.toList (ByteArray.mk #[c0]).data.toList = _ from h2]
    exact .inl ⟨strL_mk s, rfl, h1⟩
  · rw [show Lib.cut s.data.toList (ByteArray.mk #[c0]).data.toList = _ from h3]
    refine .inr ⟨by simpa [strL] using h1, by simpa [strL] using h2, ?_⟩
    have := congrArg List.length h1
    rw [strL_len] at this
    rw [this]
    show a.length + b.length + 1 = _
    simp
    omega

/-- What is no blank, tab or remark's beginning. -/
def wdcs (x : List UInt8) : Prop := ∀ c ∈ x, c ≠ 32 ∧ c ≠ 9 ∧ c ≠ 59
theorem wordsG_wd2 (x r cur : List UInt8) (h : wdcs x) : wordsG (x ++ r) cur = wordsG r (cur ++ x) := by
  induction x generalizing cur with
  | nil => simp
  | cons c x ih =>
    have hc := h c (by simp)
    show wordsG (c :: (x ++ r)) cur = _
    conv => lhs; unfold wordsG
    rw [if_neg hc.2.2, if_neg (by rintro (h | h); exact hc.1 h; exact hc.2.1 h), ih (cur ++ [c]) (fun d hd => h d (by simp [hd])), List.append_assoc]
    rfl
theorem wordsG_cut (a b : List UInt8) (h : ∀ x ∈ a, x ≠ 59) : ∀ cur, wordsG (a ++ 59 :: b) cur = wordsG a cur := by
  induction a with
  | nil => intro cur; exact wordsG_mark b cur
  | cons c a ih =>
    intro cur
    have hc := h c (by simp)
    have ih' := ih (fun x hx => h x (by simp [hx]))
    show wordsG (c :: (a ++ 59 :: b)) cur = _
    conv => lhs; unfold wordsG
    conv => rhs; unfold wordsG
    rw [if_neg hc, if_neg hc, ih', ih']
def blankP (r : Nat) : Bool := decide (r = 32) || decide (r = 9)
theorem decN_high (n b0 b1 b2 b3 : Nat) (h0 : 128 ≤ b0) : 128 ≤ (Lib.decodeN n b0 b1 b2 b3).1 ∧ (1 < (Lib.decodeN n b0 b1 b2 b3).2 → 128 ≤ b1) ∧ (2 < (Lib.decodeN n b0 b1 b2 b3).2 → 128 ≤ b2) ∧ (3 < (Lib.decodeN n b0 b1 b2 b3).2 → 128 ≤ b3) ∧ (Lib.decodeN n b0 b1 b2 b3).2 ≤ 4 := by
  unfold Lib.decodeN
  rw [if_neg (by omega)]
  split
  · split
    · simp only; omega
    · simp only; omega
  · split
    · split
      · simp only; omega
      · simp only; omega
    · split
      · split
        · simp only; omega
        · simp only; omega
      · simp only; omega
theorem get_is (s : ByteArray) (i : Nat) (h : i < s.size) : s.get! i = s[i]'h := by
  cases s with
  | mk d => exact getElem!_pos d i h
/-- What stands at a place of a text: one small byte, or some great ones. -/
theorem dec_at (s : ByteArray) (pos : Nat) (h : pos < s.size) : 1 ≤ (Utf8.decode s pos).2 ∧ pos + (Utf8.decode s pos).2 ≤ s.size ∧
    (((s[pos]'h).toNat < 128 ∧ Utf8.decode s pos = ((s[pos]'h).toNat, 1)) ∨ (128 ≤ (Utf8.decode s pos).1 ∧ ∀ j (hj : j < s.size), pos ≤ j → j < pos + (Utf8.decode s pos).2 → 128 ≤ (s[j]'hj).toNat)) := by
  have hle : pos + (Utf8.decode s pos).2 ≤ s.size := by
    have := Lib.decodeN_le_n' (s.size - pos) (s.get! pos).toNat (s.get! (pos + 1)).toNat (s.get! (pos + 2)).toNat (s.get! (pos + 3)).toNat (by omega)
    rw [← Lib.decode_at] at this
    omega
  refine ⟨Lib.width_pos s pos, hle, ?_⟩
  by_cases hb : (s[pos]'h).toNat < 128
  · refine .inl ⟨hb, ?_⟩
    rw [Lib.decode_at, get_is s pos h]
    unfold Lib.decodeN
    rw [if_pos hb]
  · have hx := decN_high (s.size - pos) (s.get! pos).toNat (s.get! (pos + 1)).toNat (s.get! (pos + 2)).toNat (s.get! (pos + 3)).toNat (by rw [get_is s pos h]; omega)
    rw [← Lib.decode_at] at hx
    refine .inr ⟨hx.1, fun j hj h1 h2 => ?_⟩
    have h4 := hx.2.2.2.2
    rcases (show j = pos ∨ j = pos + 1 ∨ j = pos + 2 ∨ j = pos + 3 by omega) with rfl | rfl | rfl | rfl
    · omega
    · have := hx.2.1 (by omega); rwa [get_is s _ hj] at this
    · have := hx.2.2.1 (by omega); rwa [get_is s _ hj] at this
    · have := hx.2.2.2.1 (by omega); rwa [get_is s _ hj] at this
def openW (l : List UInt8) (pos : Nat) : Option Nat → List UInt8
  | none => []
  | some a => (l.drop a).take (pos - a)
theorem drop_mid (l : List UInt8) (a b : Nat) (h : a ≤ b) (hb : b ≤ l.length) : l.drop a = (l.drop a).take (b - a) ++ l.drop b := by
  conv => lhs; rw [← List.take_append_drop (b - a) (l.drop a)]
  rw [List.drop_drop, show a + (b - a) = b by omega]
theorem take_mid (l : List UInt8) (a b c : Nat) (h : a ≤ b) (hc : b ≤ c) (hl : c ≤ l.length) : (l.drop a).take (c - a) = (l.drop a).take (b - a) ++ (l.drop b).take (c - b) := by
  rw [show c - a = (b - a) + (c - b) by omega, List.take_add, List.drop_drop, show a + (b - a) = b by omega]
theorem fields_words (s : ByteArray) (h59 : ∀ c ∈ strL s, c ≠ 59) : ∀ (f pos : Nat) (st : Option Nat) (acc : List (Nat × Nat)), s.size ≤ pos + f → pos ≤ s.size → (∀ a, st = some a → a < pos) →
    (Lib.closeSpans s (Lib.spansFromP blankP s f pos st acc)).map (fun x => strL (s.extract x.1 x.2)) = acc.map (fun x => strL (s.extract x.1 x.2)) ++ wordsG ((strL s).drop pos) (openW (strL s) pos st) := by
  have hlen := strL_len s
  have fin : ∀ (pos : Nat) (st : Option Nat) (acc : List (Nat × Nat)), pos = s.size → (∀ a, st = some a → a < pos) → (Lib.closeSpans s (acc, st)).map (fun x => strL (s.extract x.1 x.2)) = acc.map (fun x => strL (s.extract x.1 x.2)) ++ wordsG ((strL s).drop pos) (openW (strL s) pos st) := by
    intro pos st acc hp hst
    rw [List.drop_eq_nil_of_le (by omega)]
    cases st with
    | none =>
      show acc.map _ = acc.map _ ++ pushW []
      rw [pushW_nil, List.append_nil]
    | some a =>
      have ha := hst a rfl
      show (acc ++ [(a, s.size)]).map _ = acc.map _ ++ pushW ((strL s).drop a |>.take (pos - a))
      rw [List.map_append, pushW_of (fun e => by have := congrArg List.length e; rw [List.length_take, List.length_drop, List.length_nil] at this; omega), hp, ← strL_extract s a s.size (by omega) (Nat.le_refl _)]
      rfl
  intro f
  induction f with
  | zero =>
    intro pos st acc h1 h2 hst
    exact fin pos st acc (by omega) hst
  | succ f ih =>
    intro pos st acc h1 h2 hst
    by_cases hlt : pos < s.size
    · obtain ⟨k1, k2, k3⟩ := dec_at s pos hlt
      have hget := strL_get s pos hlt
      have hne59 : s[pos]'hlt ≠ 59 := h59 _ (List.mem_of_getElem? hget)
      unfold Lib.spansFromP
      rw [if_pos hlt]
      by_cases hp : blankP (Utf8.decode s pos).1 = true
      · rw [if_pos hp]
        unfold blankP at hp
        rw [Bool.or_eq_true, decide_eq_true_iff, decide_eq_true_iff] at hp
        rcases k3 with ⟨b1, b2⟩ | ⟨b1, _⟩
        · rw [b2] at hp ⊢
          simp only at hp ⊢
          have hc : s[pos]'hlt = 32 ∨ s[pos]'hlt = 9 := by
            rcases hp with h | h
            · exact .inl (UInt8.toNat_inj.1 h)
            · exact .inr (UInt8.toNat_inj.1 h)
          have hw : ∀ cur, wordsG ((strL s).drop pos) cur = pushW cur ++ wordsG ((strL s).drop (pos + 1)) [] := fun cur => by
            rw [drop_at hget]
            conv => lhs; unfold wordsG
            rw [if_neg hne59, if_pos hc]
          cases st with
          | none =>
            simp only
            rw [ih (pos + 1) none acc (by omega) (by omega) (fun a h => by cases h), hw]
            show _ = _ ++ (pushW [] ++ _)
            rw [pushW_nil, List.nil_append]
            rfl
          | some a =>
            have ha := hst a rfl
            simp only
            rw [ih (pos + 1) none (acc ++ [(a, pos)]) (by omega) (by omega) (fun a h => by cases h), hw, List.map_append, List.append_assoc]
            congr 1
            show [strL (s.extract a pos)] ++ _ = pushW ((strL s).drop a |>.take (pos - a)) ++ _
            rw [pushW_of (fun e => by have := congrArg List.length e; rw [List.length_take, List.length_drop, List.length_nil] at this; omega), strL_extract s a pos (by omega) (by omega)]
            rfl
        · omega
      · rw [if_neg hp]
        have hno : wdcs (((strL s).drop pos).take (Utf8.decode s pos).2) := by
          intro c hc
          obtain ⟨j, hj, rfl⟩ := List.getElem_of_mem hc
          rw [List.length_take, List.length_drop] at hj
          have hjs : pos + j < s.size := by omega
          have e : (((strL s).drop pos).take (Utf8.decode s pos).2)[j]? = some (s[pos + j]'hjs) := by
            rw [List.getElem?_take, if_pos (by omega), List.getElem?_drop]
            exact strL_get s (pos + j) hjs
          have e2 : (((strL s).drop pos).take (Utf8.decode s pos).2)[j]'(by rw [List.length_take, List.length_drop]; omega) = s[pos + j]'hjs := by
            rw [List.getElem?_eq_getElem (by rw [List.length_take, List.length_drop]; omega)] at e
            injection e
          have hgj := strL_get s (pos + j) hjs
          have h59' : s[pos + j]'hjs ≠ 59 := h59 _ (List.mem_of_getElem? hgj)
          have goal : (s[pos + j]'hjs) ≠ 32 ∧ (s[pos + j]'hjs) ≠ 9 ∧ (s[pos + j]'hjs) ≠ 59 := by
            rcases k3 with ⟨b1, b2⟩ | ⟨b1, b2⟩
            · have hj0 : j = 0 := by rw [b2] at hj; simp only at hj; omega
              subst hj0
              unfold blankP at hp
              rw [b2] at hp
              simp only [Bool.or_eq_true, decide_eq_true_iff, not_or] at hp
              exact ⟨fun e => hp.1 (by show (s[pos]'hlt).toNat = 32; exact congrArg UInt8.toNat e), fun e => hp.2 (by show (s[pos]'hlt).toNat = 9; exact congrArg UInt8.toNat e), h59'⟩
            · have hb := b2 (pos + j) hjs (by omega) (by omega)
              exact ⟨fun e => by rw [e] at hb; exact absurd hb (by decide), fun e => by rw [e] at hb; exact absurd hb (by decide), h59'⟩
          rw [← e2] at goal
          exact goal
        have hw : ∀ cur, wordsG ((strL s).drop pos) cur = wordsG ((strL s).drop (pos + (Utf8.decode s pos).2)) (cur ++ ((strL s).drop pos).take (Utf8.decode s pos).2) := fun cur => by
          conv => lhs; rw [← List.take_append_drop (Utf8.decode s pos).2 ((strL s).drop pos)]
          rw [wordsG_wd2 _ _ _ hno, List.drop_drop]
        cases st with
        | none =>
          simp only
          rw [ih (pos + (Utf8.decode s pos).2) (some pos) acc (by omega) (by omega) (fun a h => by cases h; omega), hw]
          show _ = _ ++ wordsG _ ([] ++ _)
          rw [List.nil_append]
          congr 2
          show (List.drop pos (strL s)).take (pos + (Utf8.decode s pos).2 - pos) = _
          rw [show pos + (Utf8.decode s pos).2 - pos = (Utf8.decode s pos).2 by omega]
        | some a =>
          have ha := hst a rfl
          simp only
          rw [ih (pos + (Utf8.decode s pos).2) (some a) acc (by omega) (by omega) (fun b h => by cases h; omega), hw]
          congr 2
          show (List.drop a (strL s)).take (pos + (Utf8.decode s pos).2 - a) = (List.drop a (strL s)).take (pos - a) ++ _
          rw [take_mid (strL s) a pos (pos + (Utf8.decode s pos).2) (by omega) (by omega) (by omega), show pos + (Utf8.decode s pos).2 - pos = (Utf8.decode s pos).2 by omega]
    · have hpe : pos = s.size := by omega
      rw [Lib.spansFromP_end blankP s _ pos st acc hlt]
      exact fin pos st acc hpe hst
theorem goFields_words (s : ByteArray) (h59 : ∀ c ∈ strL s, c ≠ 59) : (Lib.goFieldsP blankP s).map strL = wordsG (strL s) [] := by
  unfold Lib.goFieldsP Lib.spansOfP
  rw [List.map_map]
  have := fields_words s h59 s.size 0 none [] (by omega) (by omega) (fun a h => by cases h)
  rw [List.map_nil, List.nil_append, List.drop_zero] at this
  exact this
theorem blank_any (r : Nat) (w : World) (hr : r ≤ 1114111) : Calls Tryd.prog 64 #[.int .i32 (r : Int)] w fun e w' => e = .returned (.bool (blankP r)) ∧ w' = w := by
  obtain ⟨b, hb⟩ : ∃ b, Hid (blankP r = b) := ⟨_, (rfl : blankP r = blankP r)⟩
  rw [hb.out]
  by_cases h1 : r = 32
  · have q1 : ((r : Int) == 32) = true := by rw [beq_iff_eq]; omega
    have fin : Hid (b = true) := by show _ = _; rw [← hb.out, h1]; rfl
    clear h1
    go_enter Tryd.func64, Tryd.ntmps64
    go_wp2
    go_ret
    exact ⟨bool_ret fin.out.symm, rfl⟩
  · have q1 : ((r : Int) == 32) = false := by rw [beq_eq_false_iff_ne]; omega
    by_cases h2 : r = 9
    · have q2 : ((r : Int) == 9) = true := by rw [beq_iff_eq]; omega
      have fin : Hid (b = true) := by show _ = _; rw [← hb.out, h2]; rfl
      clear h1 h2
      go_enter Tryd.func64, Tryd.ntmps64
      go_wp2
      go_ret
      exact ⟨bool_ret fin.out.symm, rfl⟩
    · have q2 : ((r : Int) == 9) = false := by rw [beq_eq_false_iff_ne]; omega
      have fin : Hid (b = false) := by show _ = _; rw [← hb.out]; unfold blankP; simp [h1, h2]
      clear h1 h2
      go_enter Tryd.func64, Tryd.ntmps64
      go_wp2
      go_ret
      exact ⟨bool_ret fin.out.symm, rfl⟩
theorem own_weak {w : World} {B B' t s n : Nat} {v : Value} {xs : List Value} (h : w.ownsRow B t s v n xs) (hB : B' ≤ B) : w.ownsRow B' t s v n xs := by
  refine ⟨h.1, ?_⟩
  rcases h.2 with hn | ⟨g, cap, cur, h1, h2, h3⟩
  · exact .inl hn
  · exact .inr ⟨g, cap, cur, h1, Nat.le_trans hB h2, h3⟩
/-- The words of a line. -/
theorem words_any (w : World) (T : Hid (Tw w)) (s : ByteArray) (hs : s.size ≤ 1000000) :
    Calls Tryd.prog 38 #[.string s] w fun e w' => ∃ A, e = .returned (.slice (some ⟨A, 0, none⟩) (wordsA (strL s)).length (wordsA (strL s)).length) ∧ Hid (KT w (.slice (some ⟨A, 0, none⟩) (wordsA (strL s)).length (wordsA (strL s)).length) (wordsA (strL s)) w') := by
  have hC := cutc_any w T.out 59 s hs
  have hF : Hid (∀ (y : World) (a : ByteArray), a.size ≤ 1000000 → Calls Tryd.prog 63 #[.string a, .func (.func 64) #[] #[]] y fun e w' => ∃ A, e = .returned (.slice (some ⟨A, 0, none⟩) (Lib.goFieldsP blankP a).length (Lib.goFieldsP blankP a).length) ∧ Hid (KT y (.slice (some ⟨A, 0, none⟩) (Lib.goFieldsP blankP a).length (Lib.goFieldsP blankP a).length) (Lib.goFieldsP blankP a) w')) := fun y a ha => by
    refine (Tryd.strings_FieldsFunc_runes 64 #[] (fun args v => by kernel_rfl) blankP a y (by omega) (fun W r hr _ => ?_)).mono ?_
    · unfold FnGives
      refine (blank_any r W hr).mono ?_
      rintro e w' ⟨rfl, rfl⟩
      exact ⟨rfl, 0, rfl⟩
    · rintro e w' ⟨A, rfl, hA, h1, h2⟩
      exact ⟨A, rfl, h1, h2⟩
  have hs' : Hid (s.size ≤ 1000000) := hs
  clear hs
  go_enter Tryd.func38, Tryd.ntmps38
  go_wp2_with (first
    | (go_at_call 37; refine hC.mono ?_; rintro e y ⟨a, b, f, rfl, H1, H2⟩)
    | (go_at_call 63; refine (hF.out y a ?_).mono ?_; (have h1 := hs'.out; rcases H1.out with ⟨rfl, _⟩ | ⟨_, _, h3⟩; exact h1; omega); rintro e y2 ⟨A, rfl, H3⟩))
  go_ret
  have e : Lib.goFieldsP blankP a = wordsA (strL s) := by
    refine wordsA_of ?_
    rcases H1.out with ⟨rfl, _, h3⟩ | ⟨h1, h2, _⟩
    · exact goFields_words a h3
    · rw [goFields_words a h2, h1, wordsG_cut _ _ h2]
  rw [← e]
  exact ⟨A, rfl, own_weak H3.out.1 H2.out.size, H2.out.trans (H3.out.2.mono H2.out.size)⟩
end Go.Proofs.YtfdjifgmlgpjgaaDoor
