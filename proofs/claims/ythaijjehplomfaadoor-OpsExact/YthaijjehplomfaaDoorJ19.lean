/- The words of a program's line: ops.wordsOf by strings.Cut and strings.FieldsFunc. -/
import Derived.Test.YthaijjehplomfaaDoorJ18
import Derived.Lib.FieldsP
import Derived.Lib.TrimU
namespace Go.Proofs.YthaijjehplomfaaDoor
open Go Go.RowKit
set_option linter.unusedVariables false
set_option maxHeartbeats 2000000
set_option maxRecDepth 20000

def strL (s : ByteArray) : List UInt8 := s.data.toList
theorem strL_len (s : ByteArray) : (strL s).length = s.size := sz_list s
theorem strL_get (s : ByteArray) (p : Nat) (h : p < s.size) : (strL s)[p]? = some (s[p]'h) := by
  unfold strL
  rw [Array.getElem?_toList, Array.getElem?_eq_getElem (show p < s.data.size from h)]
  rfl
theorem strL_extract (s : ByteArray) (a b : Nat) (h : a ≤ b) (hb : b ≤ s.size) : strL (s.extract a b) = ((strL s).drop a).take (b - a) := by
  unfold strL
  rw [ByteArray.data_extract, Array.toList_extract]
theorem strL_mk (s : ByteArray) : (⟨(strL s).toArray⟩ : ByteArray) = s := by cases s; simp [strL]
def mkB (l : List UInt8) : ByteArray := ⟨l.toArray⟩
theorem mkB_strL (s : ByteArray) : mkB (strL s) = s := strL_mk s
theorem drop_at {l : List UInt8} {p : Nat} {c : UInt8} (hc : l[p]? = some c) : l.drop p = c :: l.drop (p + 1) := by
  have hl := (List.getElem?_eq_some_iff.1 hc)
  rw [List.drop_eq_getElem_cons hl.1, hl.2]
def pushW (cur : List UInt8) : List (List UInt8) := if cur = [] then [] else [cur]
theorem pushW_of {x : List UInt8} (h : x ≠ []) : pushW x = [x] := by unfold pushW; rw [if_neg h]
theorem pushW_nil : pushW [] = [] := by unfold pushW; rw [if_pos rfl]
/-- The words of a line: ends at a remark. -/
def wordsG : List UInt8 → List UInt8 → List (List UInt8)
  | [], cur => pushW cur
  | c :: r, cur => if c = 59 then pushW cur else if c = 32 then pushW cur ++ wordsG r [] else wordsG r (cur ++ [c])
theorem wordsG_mark (r cur : List UInt8) : wordsG (59 :: r) cur = pushW cur := by
  conv => lhs; unfold wordsG
  rw [if_pos rfl]
def wordsA (l : List UInt8) : List ByteArray := (wordsG l []).map mkB
theorem wordsA_of {l : List UInt8} {ws : List ByteArray} (h : ws.map strL = wordsG l []) : ws = wordsA l := by
  unfold wordsA
  rw [← h, List.map_map]
  conv => lhs; rw [← List.map_id ws]
  apply List.map_congr_left
  intro x _
  exact (mkB_strL x).symm
theorem idxC (c0 : UInt8) (l : List UInt8) : (Lib.index l [c0] = -1 ∧ ∀ b ∈ l, b ≠ c0) ∨ ∃ a b, l = a ++ c0 :: b ∧ (∀ x ∈ a, x ≠ c0) ∧ Lib.index l [c0] = (a.length : Int) := by
  induction l with
  | nil => exact .inl ⟨rfl, fun b hb => by simp at hb⟩
  | cons c l ih =>
    by_cases hc : c = c0
    · subst hc
      exact .inr ⟨[], l, rfl, fun x hx => by simp at hx, by unfold Lib.index; rw [if_pos (by simp [List.isPrefixOf])]; rfl⟩
    · have hp : ¬ (([c0] : List UInt8).isPrefixOf (c :: l)) = true := by simp [List.isPrefixOf]; exact fun e => hc e.symm
      have hi : Lib.index (c :: l) [c0] = if Lib.index l [c0] == -1 then -1 else Lib.index l [c0] + 1 := by
        conv => lhs; unfold Lib.index
        rw [if_neg hp]
      rcases ih with ⟨h1, h2⟩ | ⟨a, b, h1, h2, h3⟩
      · refine .inl ⟨by rw [hi, h1]; rfl, fun x hx => ?_⟩
        rcases List.mem_cons.1 hx with e | e
        · rw [e]; exact hc
        · exact h2 x e
      · refine .inr ⟨c :: a, b, by rw [h1]; rfl, fun x hx => ?_, ?_⟩
        · rcases List.mem_cons.1 hx with e | e
          · rw [e]; exact hc
          · exact h2 x e
        · rw [hi, h3, if_neg (by simp)]
          simp
theorem cutC (c0 : UInt8) (l : List UInt8) : ((∀ b ∈ l, b ≠ c0) ∧ Lib.cut l [c0] = (l, [], false)) ∨ ∃ a b, l = a ++ c0 :: b ∧ (∀ x ∈ a, x ≠ c0) ∧ Lib.cut l [c0] = (a, b, true) := by
  rcases idxC c0 l with ⟨h1, h2⟩ | ⟨a, b, h1, h2, h3⟩
  · exact .inl ⟨h2, by unfold Lib.cut; rw [h1, if_neg (by decide)]⟩
  · refine .inr ⟨a, b, h1, h2, ?_⟩
    unfold Lib.cut
    rw [h3, if_pos (by omega), Int.toNat_natCast, h1]
    simp
/-- strings.Cut at one byte. -/
theorem cutc_any (w : World) (mx : Int) (hm : Tm mx w) (c0 : UInt8) (s : ByteArray) (hs : s.size ≤ 1000000) :
    Calls Tryd.prog 44 #[.string s, .string ⟨#[c0]⟩] w fun e w' => ∃ a b f, e = .returned (.tuple #[.string a, .string b, .bool f]) ∧ Hid ((a = s ∧ b = ⟨#[]⟩ ∧ (∀ x ∈ strL s, x ≠ c0)) ∨ (strL s = strL a ++ c0 :: strL b ∧ (∀ x ∈ strL a, x ≠ c0) ∧ a.size + b.size + 1 = s.size)) ∧ Hid (Below w.heap.size w w') := by
  refine (Tryd.strings_Cut s ⟨#[c0]⟩ mx w (by omega) hm).mono ?_
  rintro e w' ⟨rfl, n, rfl⟩
  refine ⟨_, _, _, rfl, ?_, ⟨rfl, rfl, rfl, Nat.le_refl _, fun _ _ => rfl⟩⟩
  rcases cutC c0 (strL s) with ⟨h1, h2⟩ | ⟨a, b, h1, h2, h3⟩
  · rw [show Lib.cut s.data.toList (ByteArray.mk #[c0]).data.toList = _ from h2]
    exact .inl ⟨strL_mk s, rfl, h1⟩
  · rw [show Lib.cut s.data.toList (ByteArray.mk #[c0]).data.toList = _ from h3]
    refine .inr ⟨by simpa [strL] using h1, by simpa [strL] using h2, ?_⟩
    have := congrArg List.length h1
    rw [strL_len] at this
    rw [this]
    show a.length + b.length + 1 = _
    simp
    omega

/-- What is no blank or remark's beginning. -/
def wdcs (x : List UInt8) : Prop := ∀ c ∈ x, c ≠ 32 ∧ c ≠ 59
theorem wordsG_wd2 (x r cur : List UInt8) (h : wdcs x) : wordsG (x ++ r) cur = wordsG r (cur ++ x) := by
  induction x generalizing cur with
  | nil => simp
  | cons c x ih =>
    have hc := h c (by simp)
    show wordsG (c :: (x ++ r)) cur = _
    conv => lhs; unfold wordsG
    rw [if_neg hc.2, if_neg hc.1, ih (cur ++ [c]) (fun d hd => h d (by simp [hd])), List.append_assoc]
    rfl
theorem wordsG_cut (a b : List UInt8) (h : ∀ x ∈ a, x ≠ 59) : ∀ cur, wordsG (a ++ 59 :: b) cur = wordsG a cur := by
  induction a with
  | nil => intro cur; exact wordsG_mark b cur
  | cons c a ih =>
    intro cur
    have hc := h c (by simp)
    have ih' := ih (fun x hx => h x (by simp [hx]))
    show wordsG (c :: (a ++ 59 :: b)) cur = _
    conv => lhs; unfold wordsG
    conv => rhs; unfold wordsG
    rw [if_neg hc, if_neg hc, ih', ih']
def blankP (r : Nat) : Bool := decide (r = 32)
theorem decN_high (n b0 b1 b2 b3 : Nat) (h0 : 128 ≤ b0) : 128 ≤ (Lib.decodeN n b0 b1 b2 b3).1 ∧ (1 < (Lib.decodeN n b0 b1 b2 b3).2 → 128 ≤ b1) ∧ (2 < (Lib.decodeN n b0 b1 b2 b3).2 → 128 ≤ b2) ∧ (3 < (Lib.decodeN n b0 b1 b2 b3).2 → 128 ≤ b3) ∧ (Lib.decodeN n b0 b1 b2 b3).2 ≤ 4 := by
  unfold Lib.decodeN
  rw [if_neg (by omega)]
  split
  · split
    · simp only; omega
    · simp only; omega
  · split
    · split
      · simp only; omega
      · simp only; omega
    · split
      · split
        · simp only; omega
        · simp only; omega
      · simp only; omega
theorem get_is (s : ByteArray) (i : Nat) (h : i < s.size) : s.get! i = s[i]'h := by
  cases s with
  | mk d => exact getElem!_pos d i h
/-- What stands at a place of a text: one small byte, or some great ones. -/
theorem dec_at (s : ByteArray) (pos : Nat) (h : pos < s.size) : 1 ≤ (Utf8.decode s pos).2 ∧ pos + (Utf8.decode s pos).2 ≤ s.size ∧
    (((s[pos]'h).toNat < 128 ∧ Utf8.decode s pos = ((s[pos]'h).toNat, 1)) ∨ (128 ≤ (Utf8.decode s pos).1 ∧ ∀ j (hj : j < s.size), pos ≤ j → j < pos + (Utf8.decode s pos).2 → 128 ≤ (s[j]'hj).toNat)) := by
  have hle : pos + (Utf8.decode s pos).2 ≤ s.size := by
    have := Lib.decodeN_le_n' (s.size - pos) (s.get! pos).toNat (s.get! (pos + 1)).toNat (s.get! (pos + 2)).toNat (s.get! (pos + 3)).toNat (by omega)
    rw [← Lib.decode_at] at this
    omega
  refine ⟨Lib.width_pos s pos, hle, ?_⟩
  by_cases hb : (s[pos]'h).toNat < 128
  · refine .inl ⟨hb, ?_⟩
    rw [Lib.decode_at, get_is s pos h]
    unfold Lib.decodeN
    rw [if_pos hb]
  · have hx := decN_high (s.size - pos) (s.get! pos).toNat (s.get! (pos + 1)).toNat (s.get! (pos + 2)).toNat (s.get! (pos + 3)).toNat (by rw [get_is s pos h]; omega)
    rw [← Lib.decode_at] at hx
    refine .inr ⟨hx.1, fun j hj h1 h2 => ?_⟩
    have h4 := hx.2.2.2.2
    rcases (show j = pos ∨ j = pos + 1 ∨ j = pos + 2 ∨ j = pos + 3 by omega) with rfl | rfl | rfl | rfl
    · omega
    · have := hx.2.1 (by omega); rwa [get_is s _ hj] at this
    · have := hx.2.2.1 (by omega); rwa [get_is s _ hj] at this
    · have := hx.2.2.2.1 (by omega); rwa [get_is s _ hj] at this
def openW (l : List UInt8) (pos : Nat) : Option Nat → List UInt8
  | none => []
  | some a => (l.drop a).take (pos - a)
theorem take_mid (l : List UInt8) (a b c : Nat) (h : a ≤ b) (hc : b ≤ c) (hl : c ≤ l.length) : (l.drop a).take (c - a) = (l.drop a).take (b - a) ++ (l.drop b).take (c - b) := by
  rw [show c - a = (b - a) + (c - b) by omega, List.take_add, List.drop_drop, show a + (b - a) = b by omega]
theorem fields_words (s : ByteArray) (h59 : ∀ c ∈ strL s, c ≠ 59) : ∀ (f pos : Nat) (st : Option Nat) (acc : List (Nat × Nat)), s.size ≤ pos + f → pos ≤ s.size → (∀ a, st = some a → a < pos) →
    (Lib.closeSpans s (Lib.spansFromP blankP s f pos st acc)).map (fun x => strL (s.extract x.1 x.2)) = acc.map (fun x => strL (s.extract x.1 x.2)) ++ wordsG ((strL s).drop pos) (openW (strL s) pos st) := by
  have hlen := strL_len s
  have fin : ∀ (pos : Nat) (st : Option Nat) (acc : List (Nat × Nat)), pos = s.size → (∀ a, st = some a → a < pos) → (Lib.closeSpans s (acc, st)).map (fun x => strL (s.extract x.1 x.2)) = acc.map (fun x => strL (s.extract x.1 x.2)) ++ wordsG ((strL s).drop pos) (openW (strL s) pos st) := by
    intro pos st acc hp hst
    rw [List.drop_eq_nil_of_le (by omega)]
    cases st with
    | none =>
      show acc.map _ = acc.map _ ++ pushW []
      rw [pushW_nil, List.append_nil]
    | some a =>
      have ha := hst a rfl
      show (acc ++ [(a, s.size)]).map _ = acc.map _ ++ pushW ((strL s).drop a |>.take (pos - a))
      rw [List.map_append, pushW_of (fun e => by have := congrArg List.length e; rw [List.length_take, List.length_drop, List.length_nil] at this; omega), hp, ← strL_extract s a s.size (by omega) (Nat.le_refl _)]
      rfl
  intro f
  induction f with
  | zero =>
    intro pos st acc h1 h2 hst
    exact fin pos st acc (by omega) hst
  | succ f ih =>
    intro pos st acc h1 h2 hst
    by_cases hlt : pos < s.size
    · obtain ⟨k1, k2, k3⟩ := dec_at s pos hlt
      have hget := strL_get s pos hlt
      have hne59 : s[pos]'hlt ≠ 59 := h59 _ (List.mem_of_getElem? hget)
      unfold Lib.spansFromP
      rw [if_pos hlt]
      by_cases hp : blankP (Utf8.decode s pos).1 = true
      · rw [if_pos hp]
        unfold blankP at hp
        rw [decide_eq_true_iff] at hp
        rcases k3 with ⟨b1, b2⟩ | ⟨b1, _⟩
        · rw [b2] at hp ⊢
          simp only at hp ⊢
          have hc : s[pos]'hlt = 32 := UInt8.toNat_inj.1 hp
          have hw : ∀ cur, wordsG ((strL s).drop pos) cur = pushW cur ++ wordsG ((strL s).drop (pos + 1)) [] := fun cur => by
            rw [drop_at hget]
            conv => lhs; unfold wordsG
            rw [if_neg hne59, if_pos hc]
          cases st with
          | none =>
            simp only
            rw [ih (pos + 1) none acc (by omega) (by omega) (fun a h => by cases h), hw]
            show _ = _ ++ (pushW [] ++ _)
            rw [pushW_nil, List.nil_append]
            rfl
          | some a =>
            have ha := hst a rfl
            simp only
            rw [ih (pos + 1) none (acc ++ [(a, pos)]) (by omega) (by omega) (fun a h => by cases h), hw, List.map_append, List.append_assoc]
            congr 1
            show [strL (s.extract a pos)] ++ _ = pushW ((strL s).drop a |>.take (pos - a)) ++ _
            rw [pushW_of (fun e => by have := congrArg List.length e; rw [List.length_take, List.length_drop, List.length_nil] at this; omega), strL_extract s a pos (by omega) (by omega)]
            rfl
        · omega
      · rw [if_neg hp]
        have hno : wdcs (((strL s).drop pos).take (Utf8.decode s pos).2) := by
          intro c hc
          obtain ⟨j, hj, rfl⟩ := List.getElem_of_mem hc
          rw [List.length_take, List.length_drop] at hj
          have hjs : pos + j < s.size := by omega
          have e : (((strL s).drop pos).take (Utf8.decode s pos).2)[j]? = some (s[pos + j]'hjs) := by
            rw [List.getElem?_take, if_pos (by omega), List.getElem?_drop]
            exact strL_get s (pos + j) hjs
          have e2 : (((strL s).drop pos).take (Utf8.decode s pos).2)[j]'(by rw [List.length_take, List.length_drop]; omega) = s[pos + j]'hjs := by
            rw [List.getElem?_eq_getElem (by rw [List.length_take, List.length_drop]; omega)] at e
            injection e
          have hgj := strL_get s (pos + j) hjs
          have h59' : s[pos + j]'hjs ≠ 59 := h59 _ (List.mem_of_getElem? hgj)
          have goal : (s[pos + j]'hjs) ≠ 32 ∧ (s[pos + j]'hjs) ≠ 59 := by
            rcases k3 with ⟨b1, b2⟩ | ⟨b1, b2⟩
            · have hj0 : j = 0 := by rw [b2] at hj; simp only at hj; omega
              subst hj0
              unfold blankP at hp
              rw [b2] at hp
              simp only [decide_eq_true_iff] at hp
              exact ⟨fun e => hp (by show (s[pos]'hlt).toNat = 32; exact congrArg UInt8.toNat e), h59'⟩
            · have hb := b2 (pos + j) hjs (by omega) (by omega)
              exact ⟨fun e => by rw [e] at hb; exact absurd hb (by decide), h59'⟩
          rw [← e2] at goal
          exact goal
        have hw : ∀ cur, wordsG ((strL s).drop pos) cur = wordsG ((strL s).drop (pos + (Utf8.decode s pos).2)) (cur ++ ((strL s).drop pos).take (Utf8.decode s pos).2) := fun cur => by
          conv => lhs; rw [← List.take_append_drop (Utf8.decode s pos).2 ((strL s).drop pos)]
          rw [wordsG_wd2 _ _ _ hno, List.drop_drop]
        cases st with
        | none =>
          simp only
          rw [ih (pos + (Utf8.decode s pos).2) (some pos) acc (by omega) (by omega) (fun a h => by cases h; omega), hw]
          show _ = _ ++ wordsG _ ([] ++ _)
          rw [List.nil_append]
          congr 2
          show (List.drop pos (strL s)).take (pos + (Utf8.decode s pos).2 - pos) = _
          rw [show pos + (Utf8.decode s pos).2 - pos = (Utf8.decode s pos).2 by omega]
        | some a =>
          have ha := hst a rfl
          simp only
          rw [ih (pos + (Utf8.decode s pos).2) (some a) acc (by omega) (by omega) (fun b h => by cases h; omega), hw]
          congr 2
          show (List.drop a (strL s)).take (pos + (Utf8.decode s pos).2 - a) = (List.drop a (strL s)).take (pos - a) ++ _
          rw [take_mid (strL s) a pos (pos + (Utf8.decode s pos).2) (by omega) (by omega) (by omega), show pos + (Utf8.decode s pos).2 - pos = (Utf8.decode s pos).2 by omega]
    · have hpe : pos = s.size := by omega
      rw [Lib.spansFromP_end blankP s _ pos st acc hlt]
      exact fin pos st acc hpe hst
theorem goFields_words (s : ByteArray) (h59 : ∀ c ∈ strL s, c ≠ 59) : (Lib.goFieldsP blankP s).map strL = wordsG (strL s) [] := by
  unfold Lib.goFieldsP Lib.spansOfP
  rw [List.map_map]
  have := fields_words s h59 s.size 0 none [] (by omega) (by omega) (fun a h => by cases h)
  rw [List.map_nil, List.nil_append, List.drop_zero] at this
  exact this
theorem blank_any (r : Nat) (w : World) (hr : r ≤ 1114111) : Calls Tryd.prog 72 #[.int .i32 (r : Int)] w fun e w' => e = .returned (.bool (blankP r)) ∧ w' = w := by
  obtain ⟨b, hb⟩ : ∃ b, Hid (((r : Int) == 32) = b) := ⟨_, (rfl : ((r : Int) == 32) = ((r : Int) == 32))⟩
  have e : blankP r = b := by
    rw [← hb.out]
    unfold blankP
    by_cases h : r = 32
    · rw [decide_eq_true h, h]; rfl
    · rw [decide_eq_false h]; symm; rw [beq_eq_false_iff_ne]; omega
  rw [e]
  clear e
  have q1 := hb.out
  go_enter Tryd.func72, Tryd.ntmps72
  go_wp2
  go_ret
  exact ⟨rfl, rfl⟩
theorem own_weak {w : World} {B B' t s n : Nat} {v : Value} {xs : List Value} (h : w.ownsRow B t s v n xs) (hB : B' ≤ B) : w.ownsRow B' t s v n xs := by
  refine ⟨h.1, ?_⟩
  rcases h.2 with hn | ⟨g, cap, cur, h1, h2, h3⟩
  · exact .inl hn
  · exact .inr ⟨g, cap, cur, h1, Nat.le_trans hB h2, h3⟩
def KT (w : World) (v : Value) (O : List ByteArray) (y : World) : Prop := y.ownsRow w.heap.size 9 1 v O.length (O.map .string) ∧ Below w.heap.size w y
/-- The words of a line. -/
theorem words_any (w : World) (mx : Int) (T : Hid (Tm mx w)) (s : ByteArray) (hs : s.size ≤ 1000000) :
    Calls Tryd.prog 45 #[.string s] w fun e w' => ∃ A, e = .returned (.slice (some ⟨A, 0, none⟩) (wordsA (strL s)).length (wordsA (strL s)).length) ∧ Hid (KT w (.slice (some ⟨A, 0, none⟩) (wordsA (strL s)).length (wordsA (strL s)).length) (wordsA (strL s)) w') := by
  have hC := cutc_any w mx T.out 59 s hs
  have hF : Hid (∀ (y : World) (a : ByteArray), a.size ≤ 1000000 → Calls Tryd.prog 71 #[.string a, .func (.func 72) #[] #[]] y fun e w' => ∃ A, e = .returned (.slice (some ⟨A, 0, none⟩) (Lib.goFieldsP blankP a).length (Lib.goFieldsP blankP a).length) ∧ Hid (KT y (.slice (some ⟨A, 0, none⟩) (Lib.goFieldsP blankP a).length (Lib.goFieldsP blankP a).length) (Lib.goFieldsP blankP a) w')) := fun y a ha => by
    refine (Tryd.strings_FieldsFunc_runes 72 #[] (fun args v => by kernel_rfl) blankP a y (by omega) (fun W r hr _ => ?_)).mono ?_
    · unfold FnGives
      refine (blank_any r W hr).mono ?_
      rintro e w' ⟨rfl, rfl⟩
      exact ⟨rfl, 0, rfl⟩
    · rintro e w' ⟨A, rfl, hA, h1, h2⟩
      exact ⟨A, rfl, h1, h2⟩
  have hs' : Hid (s.size ≤ 1000000) := hs
  clear hs
  go_enter Tryd.func45, Tryd.ntmps45
  go_wp2_with (first
    | (go_at_call 44; refine hC.mono ?_; rintro e y ⟨a, b, f, rfl, H1, H2⟩)
    | (go_at_call 71; refine (hF.out y a ?_).mono ?_; (have h1 := hs'.out; rcases H1.out with ⟨rfl, _⟩ | ⟨_, _, h3⟩; exact h1; omega); rintro e y2 ⟨A, rfl, H3⟩))
  go_ret
  have e : Lib.goFieldsP blankP a = wordsA (strL s) := by
    refine wordsA_of ?_
    rcases H1.out with ⟨rfl, _, h3⟩ | ⟨h1, h2, _⟩
    · exact goFields_words a h3
    · rw [goFields_words a h2, h1, wordsG_cut _ _ h2]
  rw [← e]
  exact ⟨A, rfl, own_weak H3.out.1 H2.out.size, H2.out.trans (H3.out.2.mono H2.out.size)⟩
end Go.Proofs.YthaijjehplomfaaDoor
