/- Items as they are written and read: there and back, by plain mathematics. -/
import Derived.Test.YtmaedkbmjbggpaaDoorJIm
import Derived.Test.YtmaedkbmjbggpaaDoorJOBack
namespace Go.Proofs.YtmaedkbmjbggpaaDoor
open Go Go.RowKit
set_option linter.unusedVariables false
set_option maxHeartbeats 1000000
set_option maxRecDepth 20000

def lowB (n : Nat) : Nat := if fm n = 2 then (if nmB n = [76, 68, 78] then 1 else 0) else if fm n = 3 then 1 else 0
def highB (f : Nat) : Nat := if f = 2 then 15 else if f = 3 then 7 else if f = 4 ∨ f = 5 then 255 else if f = 6 then 65535 else 0
theorem low_tab (n : Nat) (h : n < 256) : bs n = n → held n (fm n) = lowB n := by revert n; decide +kernel
theorem high_tab (n : Nat) (h : n < 256) : lay (fm n * 3 + 2) = highB (fm n) := by revert n; decide +kernel
theorem name_low (n : Nat) : (nm n = ⟨#[76, 68, 78]⟩) ↔ nmB n = [76, 68, 78] := by
  rw [nm_eq]
  constructor
  · intro h
    have := congrArg (fun s => s.data.toList) h
    simpa using this
  · intro h; rw [h]
theorem opOf_bs' {S : ByteArray} {n : Nat} (h : opOf S = some n) : bs n = n := by
  have h1 := opOf_lt h
  have h2 := opOf_nm n h1.1
  rw [h1.2, h] at h2
  injection h2 with h2
  exact h2.symm
theorem codeF_may {S : ByteArray} {n : Nat} {A : Int} (ho : opOf S = some n) : (lowI S (fm n) ≤ A ∧ A ≤ highI (fm n)) ↔ may n A := by
  obtain ⟨h1, h2⟩ := opOf_lt ho
  have e1 : lowI S (fm n) = (held n (fm n) : Nat) := by
    rw [low_tab n h1 (opOf_bs' ho)]
    unfold lowI lowB
    rw [← h2]
    split
    · by_cases h3 : nmB n = [76, 68, 78]
      · rw [if_pos h3, if_pos ((name_low n).2 h3)]; rfl
      · rw [if_neg h3, if_neg (fun h => h3 ((name_low n).1 h))]; rfl
    · split <;> rfl
  have e2 : highI (fm n) = (lay (fm n * 3 + 2) : Nat) := by
    rw [high_tab n h1]
    unfold highI highB
    repeat' split
    all_goals rfl
  unfold may
  rw [e1, e2]

theorem size0 {s : ByteArray} (h : s.size = 0) : s = E0 := size_zero h
theorem may_cases {q : Pu} (h : mayP q = true) :
    (q.k = 1 ∧ isNm q.n = true ∧ q.a = 0 ∧ q.l = E0 ∧ q.p = 0 ∧ q.b = []) ∨
    (q.k = 2 ∧ q.b = [] ∧ ∃ n, opOf q.n = some n ∧ ((q.p = 0 ∧ q.l = E0 ∧ may n q.a) ∨ (q.p ≠ 0 ∧ isNm q.l = true ∧ q.a = 0 ∧ ((fm n = 4 ∧ (q.p = 2 ∨ q.p = 3)) ∨ ((fm n = 5 ∨ fm n = 6) ∧ q.p = 1))))) ∨
    (q.k = 3 ∧ q.n = E0 ∧ q.a = 0 ∧ q.l = E0 ∧ q.p = 0 ∧ 1 ≤ q.b.length ∧ q.b.length ≤ 256) ∨
    (q.k = 4 ∧ q.n = E0 ∧ q.l = E0 ∧ q.p = 0 ∧ q.b = [] ∧ 0 ≤ q.a ∧ q.a ≤ 65535) ∨
    (q.k = 5 ∧ isNm q.l = true ∧ q.n = E0 ∧ q.a = 0 ∧ q.p = 0 ∧ q.b = []) := by
  obtain ⟨k, n, a, l, p, b⟩ := q
  unfold mayP Pu.ri mayI at h
  simp only at h ⊢
  by_cases h2 : k = 2
  · rw [if_pos h2] at h
    unfold codeI at h
    simp only at h
    rcases e : opOf n with _ | m
    · rw [e] at h; cases h
    rw [e] at h
    have h' : codeF (fm m) ⟨k, n, a, l, p, none, b.length, 0⟩ = true := h
    unfold codeF at h'
    simp only [Bool.and_eq_true, decide_eq_true_iff] at h'
    obtain ⟨m0, h'⟩ := h'
    refine .inr (.inl ⟨h2, List.eq_nil_of_length_eq_zero m0, m, rfl, ?_⟩)
    by_cases hp : p = 0
    · rw [if_pos hp] at h'
      simp only [Bool.and_eq_true, decide_eq_true_iff] at h'
      exact .inl ⟨hp, size0 h'.1, (codeF_may e).1 h'.2⟩
    · rw [if_neg hp] at h'
      simp only [Bool.and_eq_true, decide_eq_true_iff] at h'
      refine .inr ⟨hp, h'.1, h'.2.1, ?_⟩
      have h3 := h'.2.2
      by_cases f4 : fm m = 4
      · rw [if_pos f4] at h3
        exact .inl ⟨f4, by simpa using h3⟩
      · rw [if_neg f4] at h3
        by_cases f5 : fm m = 5 ∨ fm m = 6
        · rw [if_pos f5] at h3
          exact .inr ⟨f5, by simpa using h3⟩
        · rw [if_neg f5] at h3
          cases h3
  rw [if_neg h2] at h
  by_cases hp : p = 0
  · rw [if_neg (by omega)] at h
    by_cases h1 : k = 1
    · rw [if_pos h1] at h
      simp only [Bool.and_eq_true, decide_eq_true_iff] at h
      exact .inl ⟨h1, h.1, h.2.1, size0 h.2.2.1, hp, List.eq_nil_of_length_eq_zero h.2.2.2⟩
    rw [if_neg h1] at h
    by_cases h3 : k = 3
    · rw [if_pos h3] at h
      simp only [Bool.and_eq_true, decide_eq_true_iff] at h
      exact .inr (.inr (.inl ⟨h3, size0 h.1, h.2.1, size0 h.2.2.1, hp, h.2.2.2.1, h.2.2.2.2⟩))
    rw [if_neg h3] at h
    by_cases h4 : k = 4
    · rw [if_pos h4] at h
      simp only [Bool.and_eq_true, decide_eq_true_iff] at h
      exact .inr (.inr (.inr (.inl ⟨h4, size0 h.1, size0 h.2.1, hp, List.eq_nil_of_length_eq_zero h.2.2.1, h.2.2.2.1, h.2.2.2.2⟩)))
    rw [if_neg h4] at h
    by_cases h5 : k = 5
    · rw [if_pos h5] at h
      simp only [Bool.and_eq_true, decide_eq_true_iff] at h
      exact .inr (.inr (.inr (.inr ⟨h5, h.1, size0 h.2.1, h.2.2.1, hp, List.eq_nil_of_length_eq_zero h.2.2.2⟩)))
    rw [if_neg h5] at h
    cases h
  · rw [if_pos hp] at h
    cases h

/-- A word's bytes. -/
def okc (c : UInt8) : Prop := c ≠ 32 ∧ c ≠ 9 ∧ c ≠ 59 ∧ c ≠ 10
def okw (x : List UInt8) : Prop := x ≠ [] ∧ ∀ c ∈ x, okc c
theorem wordsG_word (x r cur : List UInt8) (h : ∀ c ∈ x, okc c) : wordsG (x ++ r) cur = wordsG r (cur ++ x) := by
  induction x generalizing cur with
  | nil => simp
  | cons c x ih =>
    have hc := h c (by simp)
    show wordsG (c :: (x ++ r)) cur = _
    conv => lhs; unfold wordsG
    rw [if_neg hc.2.2.1, if_neg (by rintro (h | h); exact hc.1 h; exact hc.2.1 h), ih (cur ++ [c]) (fun d hd => h d (by simp [hd])), List.append_assoc]
    rfl
theorem wordsG_blank (r cur : List UInt8) : wordsG (32 :: r) cur = pushW cur ++ wordsG r [] := by
  conv => lhs; unfold wordsG
  rw [if_neg (by decide), if_pos (.inl rfl)]
theorem pushW_of {x : List UInt8} (h : x ≠ []) : pushW x = [x] := by unfold pushW; rw [if_neg h]
theorem wordsG_end (x : List UInt8) (h : okw x) : wordsG x [] = [x] := by
  have := wordsG_word x [] [] h.2
  rw [List.append_nil, List.nil_append] at this
  rw [this]
  exact pushW_of h.1
theorem wordsG_next (x r : List UInt8) (h : okw x) : wordsG (x ++ 32 :: r) [] = x :: wordsG r [] := by
  rw [wordsG_word x _ [] h.2, List.nil_append, wordsG_blank, pushW_of h.1]
  rfl
/-- Words with a blank ahead of each. -/
def spread (ws : List (List UInt8)) : List UInt8 := ws.flatMap fun x => 32 :: x
theorem wordsG_spread (ws : List (List UInt8)) (cur : List UInt8) (h : ∀ x ∈ ws, okw x) : wordsG (spread ws) cur = pushW cur ++ ws := by
  induction ws generalizing cur with
  | nil => simp [spread, wordsG]
  | cons x ws ih =>
    have hx := h x (by simp)
    show wordsG (32 :: x ++ spread ws) cur = _
    rw [show 32 :: x ++ spread ws = 32 :: (x ++ spread ws) from rfl, wordsG_blank, wordsG_word x _ [] hx.2, List.nil_append, ih x (fun y hy => h y (by simp [hy])), pushW_of hx.1]
    rfl
theorem spread_ok {ws : List (List UInt8)} (h : ∀ x ∈ ws, okw x) : 10 ∉ spread ws := by
  intro hm
  unfold spread at hm
  rw [List.mem_flatMap] at hm
  obtain ⟨x, hx, hc⟩ := hm
  rcases List.mem_cons.1 hc with e | e
  · exact absurd e (by decide)
  · exact ((h x hx).2 10 e).2.2.2 rfl
theorem isNm_ok {s : ByteArray} (h : isNm s = true) : okw (strL s) ∧ ∃ c r, strL s = c :: r ∧ c ≠ 32 ∧ c ≠ 9 := by
  have hd := of_decide_eq_true h
  have hall : ∀ c ∈ strL s, okc c := fun c hc => by
    obtain ⟨i, hi, rfl⟩ := List.getElem_of_mem hc
    have hi' : i < s.size := by rw [strL_len] at hi; exact hi
    have := hd.2.2.2 i hi'
    have e : (strL s)[i] = s[i] := by
      have := strL_get s i hi'
      rw [List.getElem?_eq_getElem hi] at this
      injection this
    have hn := of_decide_eq_true this
    have goal : okc s[i] := by refine ⟨fun e => ?_, fun e => ?_, fun e => ?_, fun e => ?_⟩ <;> rw [e] at hn <;> simp at hn
    rw [← e] at goal
    exact goal
  have hne : strL s ≠ [] := fun e => by
    have := strL_len s
    rw [e] at this
    simp at this
    omega
  refine ⟨⟨hne, hall⟩, ?_⟩
  rcases e : strL s with _ | ⟨c, r⟩
  · exact absurd e hne
  · refine ⟨c, r, rfl, ?_, ?_⟩
    · exact (hall c (by rw [e]; simp)).1
    · exact (hall c (by rw [e]; simp)).2.1
theorem nmB_ok (n : Nat) (h : n < 256) : nmB n ≠ [] ∧ (nmB n).all (fun c => c != 32 && c != 9 && c != 59 && c != 10) = true := by revert n; decide +kernel
theorem nmB_no (n : Nat) (h : n < 256) : nmB n ≠ [100, 97, 116, 97] ∧ nmB n ≠ [97, 116] ∧ nmB n ≠ [97, 100, 100, 114, 101, 115, 115] := by revert n; decide +kernel
theorem op_ok {S : ByteArray} {n : Nat} (h : opOf S = some n) : okw (strL S) ∧ S ≠ wData ∧ S ≠ wAt ∧ S ≠ wAddr := by
  obtain ⟨h1, h2⟩ := opOf_lt h
  have e : strL S = nmB n := by rw [← h2]; exact nm_data n
  obtain ⟨k1, k2⟩ := nmB_ok n h1
  obtain ⟨k3, k4, k5⟩ := nmB_no n h1
  refine ⟨⟨by rw [e]; exact k1, fun c hc => ?_⟩, fun x => ?_, fun x => ?_, fun x => ?_⟩
  · rw [e] at hc
    have := List.all_eq_true.1 k2 c hc
    simp at this
    exact ⟨this.1.1.1, this.1.1.2, this.1.2, this.2⟩
  · rw [x] at e; exact k3 e.symm
  · rw [x] at e; exact k4 e.symm
  · rw [x] at e; exact k5 e.symm
theorem hexC_ok (x : Int) (h0 : 0 ≤ x) (h1 : x < 16) : (48 ≤ hexC x ∧ hexC x ≤ 57) ∨ (97 ≤ hexC x ∧ hexC x ≤ 102) := by unfold hexC; split <;> omega
theorem hexL_ok (D N : Nat) (hD : 1 ≤ D) : okw (hexL D N) := by
  refine ⟨fun e => by have := hexL_len D N; rw [e] at this; simp at this; omega, fun c hc => ?_⟩
  obtain ⟨i, hi, rfl⟩ := List.getElem_of_mem hc
  have := hexL_get D N i hi
  have h2 := hexC_ok ((N / 16 ^ (D - 1 - i) % 16 : Nat) : Int) (by omega) (by omega)
  unfold hexAt at this
  rw [← this] at h2
  refine ⟨fun e => ?_, fun e => ?_, fun e => ?_, fun e => ?_⟩ <;> rw [e] at h2 <;> simp at h2
theorem hexL_num (D N : Nat) (hD : 1 ≤ D) (hD8 : D ≤ 8) (h : N < 16 ^ D) : numE (mkB (hexL D N)) = 0 ∧ numV (mkB (hexL D N)) = (N : Int) := by
  have hs : (mkB (hexL D N)).size = D := by rw [← strL_len, strL_mkB, hexL_len]
  have e : numOf (mkB (hexL D N)) = some (N : Int) := by
    unfold numOf
    rw [if_pos ⟨by omega, by omega⟩]
    show numGo (strL (mkB (hexL D N))) 0 = _
    rw [strL_mkB]
    exact numGo_hexL D N h
  unfold numE numV
  rw [e]
  exact ⟨rfl, rfl⟩
theorem byteO_hex (x : UInt8) : byteO (mkB (hexL 2 x.toNat)) = some x := by
  have hx := x.toNat_lt
  obtain ⟨e1, e2⟩ := hexL_num 2 x.toNat (by decide) (by decide) (by show _ < 256; omega)
  unfold byteO
  rw [if_pos ⟨by rw [← strL_len, strL_mkB, hexL_len], e1⟩, e2, Int.toNat_natCast, UInt8.ofNat_toNat]
theorem dataO_hex (b : List UInt8) : dataO (b.map fun x => mkB (hexL 2 x.toNat)) = some b := by
  induction b with
  | nil => rfl
  | cons x b ih =>
    rw [List.map_cons]
    unfold dataO
    rw [byteO_hex, ih]
theorem app_L (a b : ByteArray) : strL (a ++ b) = strL a ++ strL b := strL_app a b
theorem dataL_spread (b : List UInt8) : dataL b = spread (b.map fun x => hexL 2 x.toNat) := by
  unfold dataL spread
  rw [List.flatMap_map]
theorem label_back (n : ByteArray) : (n ++ ⟨#[58]⟩).extract 0 ((n ++ ⟨#[58]⟩).size - 1) = n := by
  have h1 : (n ++ ⟨#[58]⟩ : ByteArray).size = n.size + 1 := by rw [ByteArray.size_append]; rfl
  have h2 : strL ((n ++ ⟨#[58]⟩ : ByteArray).extract 0 ((n ++ ⟨#[58]⟩ : ByteArray).size - 1)) = strL n := by
    rw [strL_extract _ _ _ (Nat.zero_le _) (by omega), h1, strL_app]
    simp [← strL_len]
  have h3 := congrArg mkB h2
  rwa [mkB_strL, mkB_strL] at h3
theorem okw_lit {l : List UInt8} (h : (l != [] && l.all fun c => c != 32 && c != 9 && c != 59 && c != 10) = true) : okw l := by
  rw [Bool.and_eq_true] at h
  refine ⟨by simpa using h.1, fun c hc => ?_⟩
  have := List.all_eq_true.1 h.2 c hc
  simp at this
  exact ⟨this.1.1.1, this.1.1.2, this.1.2, this.2⟩
theorem okw3 {x y : List UInt8} {z : List (List UInt8)} (hx : okw x) (hy : okw y) (hz : ∀ u ∈ z, okw u) : ∀ u ∈ x :: y :: z, okw u := fun u hu => by
  rcases List.mem_cons.1 hu with rfl | hu
  · exact hx
  rcases List.mem_cons.1 hu with rfl | hu
  · exact hy
  · exact hz u hu
theorem okw_nil : ∀ u ∈ ([] : List (List UInt8)), okw u := by simp
theorem okw_one {x : List UInt8} (hx : okw x) : ∀ u ∈ [x], okw u := fun u hu => by rw [List.mem_singleton] at hu; subst hu; exact hx
/-- How a line lies: a label's at the front, another one with blanks ahead of its words; and what it says. -/
def Lb (q : Pu) : Prop := lineO (strL (lineP q)) = some [q] ∧
    ((∃ x, strL (lineP q) = x ∧ okw x ∧ wordsA (strL (lineP q)) = [mkB x] ∧ frontL x = true) ∨ (∃ ws, ws ≠ [] ∧ (∀ x ∈ ws, okw x) ∧ strL (lineP q) = spread ws))
theorem lb_of {q : Pu} (ws : List (List UInt8)) (h0 : ws ≠ []) (hw : ∀ x ∈ ws, okw x) (e : strL (lineP q) = spread ws) (hi : itemO false (ws.map mkB) = some q) : Lb q := by
  have hw' : wordsA (spread ws) = ws.map mkB := by unfold wordsA; rw [wordsG_spread ws [] hw]; unfold pushW; rw [if_pos rfl, List.nil_append]
  have hf : frontL (spread ws) = false := by
    cases ws with
    | nil => exact absurd rfl h0
    | cons x r => rfl
  refine ⟨?_, .inr ⟨ws, h0, hw, e⟩⟩
  rw [e]
  unfold lineO
  rw [hw', hf, hi, if_neg (by simpa using h0)]
theorem lb_label {n : ByteArray} (c2 : isNm n = true) : Lb ⟨1, n, 0, E0, 0, []⟩ := by
  have e : strL (lineP ⟨1, n, 0, E0, 0, []⟩) = strL n ++ [58] := by
    show strL (n ++ ⟨#[58]⟩) = _
    rw [strL_app]; rfl
  obtain ⟨⟨o1, o2⟩, c, r, o3, o4, o5⟩ := isNm_ok c2
  have ow : okw (strL n ++ [58]) := ⟨by simp, fun d hd => by
    rcases List.mem_append.1 hd with hd | hd
    · exact o2 d hd
    · rw [List.mem_singleton] at hd; subst hd; exact ⟨by decide, by decide, by decide, by decide⟩⟩
  have hw : wordsA (strL n ++ [58]) = [mkB (strL n ++ [58])] := by unfold wordsA; rw [wordsG_end _ ow]; rfl
  have em : mkB (strL n ++ [58]) = n ++ ⟨#[58]⟩ := by
    have : strL n ++ [58] = strL (n ++ ⟨#[58]⟩) := by rw [strL_app]; rfl
    rw [this, mkB_strL]
  have hf : frontL (strL n ++ [58]) = true := by rw [o3]; show decide _ = true; exact decide_eq_true ⟨o4, o5⟩
  have hl : labOk (n ++ ⟨#[58]⟩) = true := by
    unfold labOk
    rw [label_back, c2, strL_app, Bool.and_true]
    show decide ((strL n ++ [58]).getLast? = some 58) = true
    simp
  unfold Lb
  rw [e]
  refine ⟨?_, .inl ⟨_, rfl, ow, hw, hf⟩⟩
  unfold lineO
  rw [hw, hf, em, if_neg (by simp), itemO_cons, if_pos rfl]
  unfold labP
  rw [if_pos ⟨rfl, hl⟩, label_back]
theorem ord_is {n : ByteArray} {m : Nat} (ho : opOf n = some m) (r : List ByteArray) : itemO false (n :: r) = ordO n r := by
  obtain ⟨ok0, no1, no2, no3⟩ := op_ok ho
  rw [itemO_cons, if_neg (by decide), if_neg no1, if_neg no2, if_neg no3]
theorem lb_code {n : ByteArray} {m : Nat} {a : Int} (ho : opOf n = some m) (hm : may m a) : Lb ⟨2, n, a, E0, 0, []⟩ := by
  obtain ⟨ok0, no1, no2, no3⟩ := op_ok ho
  obtain ⟨hm1, hm2⟩ := opOf_lt ho
  obtain ⟨t1, t2, t3⟩ := parse_text n m a ho hm
  have ep : printS n a = textOf m a := by unfold printS; rw [ho]; exact if_pos ((mayB_iff m a).2 hm)
  have e0 : strL (lineP ⟨2, n, a, E0, 0, []⟩) = 32 :: strL (textOf m a) := by
    show strL (⟨#[32]⟩ ++ printS n a) = _
    rw [strL_app, ep]; rfl
  by_cases f1 : fm m = 1
  · have et : textOf m a = n := by unfold textOf; rw [if_pos f1, hm2]
    rw [et] at e0 t2 t3
    refine lb_of [strL n] (by simp) (okw_one ok0) (by rw [e0]; simp [spread]) ?_
    rw [List.map_cons, mkB_strL, List.map_nil, ord_is ho, ordO_0, if_pos t3, t2]
  · obtain ⟨x, hx1, hx2, hx3⟩ := may_nat hm1 hm f1
    obtain ⟨d1, d2, d3⟩ := digs_lt m hm1 f1
    have eh : hexOf a (digs m : Nat) = hexS (digs m) x := by rw [hx1]; exact hexOf_S x (digs m) hx2 d1 (by omega)
    have et : textOf m a = n ++ ⟨#[32]⟩ ++ hexS (digs m) x := by unfold textOf; rw [if_neg f1, hm2, eh]
    rw [et] at e0 t2 t3
    refine lb_of [strL n, hexL (digs m) x] (by simp) (okw3 ok0 (hexL_ok _ _ d1) okw_nil) ?_ ?_
    · rw [e0, strL_app, strL_app, hexS_L]; simp [spread]; rfl
    · rw [List.map_cons, mkB_strL, ord_is ho, List.map_cons, List.map_nil, show mkB (hexL (digs m) x) = hexS (digs m) x from rfl, ordO_1, if_pos t3, t2]
theorem lb_part {n l : ByteArray} {m : Nat} {p : Int} (w : List UInt8) (ho : opOf n = some m) (hl : isNm l = true) (hw : okw w) (hp : partO (mkB w) = p) (hp0 : p ≠ 0) (hmay : mayP ⟨2, n, 0, l, p, []⟩ = true)
    (e : strL (lineP ⟨2, n, 0, l, p, []⟩) = spread [strL n, w, strL l]) : Lb ⟨2, n, 0, l, p, []⟩ := by
  obtain ⟨ok0, no1, no2, no3⟩ := op_ok ho
  obtain ⟨okl, _⟩ := isNm_ok hl
  refine lb_of [strL n, w, strL l] (by simp) (okw3 ok0 hw (okw_one okl)) e ?_
  rw [List.map_cons, mkB_strL, ord_is ho, List.map_cons, List.map_cons, List.map_nil, mkB_strL, ordO_2, hp, if_pos ⟨hp0, hmay⟩]
theorem lb_data {b : List UInt8} (c6 : 1 ≤ b.length) (c7 : b.length ≤ 256) : Lb ⟨3, E0, 0, E0, 0, b⟩ := by
  refine lb_of ([100, 97, 116, 97] :: b.map fun x => hexL 2 x.toNat) (by simp) (fun x hx => ?_) ?_ ?_
  · rcases List.mem_cons.1 hx with rfl | hx
    · exact okw_lit (by decide)
    · obtain ⟨y, _, rfl⟩ := List.mem_map.1 hx
      exact hexL_ok _ _ (by decide)
  · show strL ⟨([32, 100, 97, 116, 97] ++ dataL b).toArray⟩ = _
    rw [dataL_spread]; simp [strL, spread]
  · rw [List.map_cons, List.map_map, itemO_cons, if_neg (by decide), if_pos (by decide)]
    unfold dataP
    rw [show (mkB ∘ fun x : UInt8 => hexL 2 x.toNat) = fun x => mkB (hexL 2 x.toNat) from rfl, dataO_hex]
    show (if _ then _ else _) = _
    rw [if_pos ⟨c6, c7⟩]
theorem lb_at {x : Nat} (hx : x < 65536) : Lb ⟨4, E0, (x : Int), E0, 0, []⟩ := by
  have hx : x < 16 ^ 4 := hx
  have eh : hexOf (x : Int) 4 = hexS 4 x := hexOf_S x 4 hx (by decide) (by decide)
  obtain ⟨e1, e2⟩ := hexL_num 4 x (by decide) (by decide) hx
  refine lb_of [[97, 116], hexL 4 x] (by simp) (okw3 (okw_lit (by decide)) (hexL_ok _ _ (by decide)) okw_nil) ?_ ?_
  · show strL (⟨#[32, 97, 116, 32]⟩ ++ hexOf (x : Int) 4) = _
    rw [strL_app, eh, hexS_L]; simp [spread]; rfl
  · rw [List.map_cons, List.map_cons, List.map_nil, itemO_cons, if_neg (by decide), if_neg (by decide), if_pos (by decide), atP_1, if_pos ⟨by rw [← strL_len, strL_mkB, hexL_len], e1⟩, e2]
theorem lb_addr {l : ByteArray} (c2 : isNm l = true) : Lb ⟨5, E0, 0, l, 0, []⟩ := by
  obtain ⟨okl, _⟩ := isNm_ok c2
  refine lb_of [[97, 100, 100, 114, 101, 115, 115], strL l] (by simp) (okw3 (okw_lit (by decide)) okl okw_nil) ?_ ?_
  · show strL (⟨#[32, 97, 100, 100, 114, 101, 115, 115, 32]⟩ ++ l) = _
    rw [strL_app]; simp [spread]; rfl
  · rw [List.map_cons, List.map_cons, List.map_nil, mkB_strL, itemO_cons, if_neg (by decide), if_neg (by decide), if_neg (by decide), if_pos (by decide), addrP_1, if_pos c2]
theorem line_back {q : Pu} (h : mayP q = true) : Lb q := by
  obtain ⟨k, n, a, l, p, b⟩ := q
  have hc := may_cases h
  simp only at hc
  rcases hc with ⟨c1, c2, c3, c4, c5, c6⟩ | ⟨c1, c2, m, ho, c3⟩ | ⟨c1, c2, c3, c4, c5, c6, c7⟩ | ⟨c1, c2, c3, c4, c5, c6, c7⟩ | ⟨c1, c2, c3, c4, c5, c6⟩
  · subst c1 c3 c4 c5 c6
    exact lb_label c2
  · subst c1 c2
    rcases c3 with ⟨p0, l0, hm⟩ | ⟨p0, hl, a0, hf⟩
    · subst p0 l0
      exact lb_code ho hm
    · subst a0
      have hp : p = 1 ∨ p = 2 ∨ p = 3 := by omega
      rcases hp with rfl | rfl | rfl
      · refine lb_part [116, 111] ho hl (okw_lit (by decide)) (by decide) (by decide) h ?_
        show strL (⟨#[32]⟩ ++ n ++ ⟨#[32, 116, 111, 32]⟩ ++ l) = _
        rw [strL_app, strL_app, strL_app]; simp [spread]; rfl
      · refine lb_part [104, 105, 103, 104] ho hl (okw_lit (by decide)) (by decide) (by decide) h ?_
        show strL (⟨#[32]⟩ ++ n ++ ⟨#[32, 104, 105, 103, 104, 32]⟩ ++ l) = _
        rw [strL_app, strL_app, strL_app]; simp [spread]; rfl
      · refine lb_part [108, 111, 119] ho hl (okw_lit (by decide)) (by decide) (by decide) h ?_
        show strL (⟨#[32]⟩ ++ n ++ ⟨#[32, 108, 111, 119, 32]⟩ ++ l) = _
        rw [strL_app, strL_app, strL_app]; simp [spread]; rfl
  · subst c1 c2 c3 c4 c5
    exact lb_data c6 c7
  · subst c1 c2 c3 c4 c5
    obtain ⟨x, rfl⟩ : ∃ x : Nat, a = x := ⟨a.toNat, by omega⟩
    exact lb_at (by omega)
  · subst c1 c3 c4 c5 c6
    exact lb_addr c2
theorem line_no10 {q : Pu} (h : mayP q = true) : 10 ∉ strL (lineP q) := by
  rcases (line_back h).2 with ⟨x, e, ow, _⟩ | ⟨ws, _, hw, e⟩
  · rw [e]; exact fun hm => (ow.2 10 hm).2.2.2 rfl
  · rw [e]; exact spread_ok hw
theorem linesG_line (x r cur : List UInt8) (h : 10 ∉ x) : linesG (x ++ 10 :: r) cur = (cur ++ x) :: linesG r [] := by
  induction x generalizing cur with
  | nil =>
    show linesG (10 :: r) cur = _
    conv => lhs; unfold linesG
    rw [if_pos rfl, List.append_nil]
  | cons c x ih =>
    show linesG (c :: (x ++ 10 :: r)) cur = _
    conv => lhs; unfold linesG
    rw [if_neg (fun e => h (by simp [e])), ih _ (fun hm => h (by simp [hm])), List.append_assoc]
    rfl
/-- A printed source, its items alone. -/
def printP (L : List Pu) : List UInt8 := L.flatMap fun q => strL (lineP q) ++ [10]
theorem print_lines (L : List Pu) (h : ∀ q ∈ L, mayP q = true) : linesG (printP L) [] = L.map fun q => strL (lineP q) := by
  induction L with
  | nil => rfl
  | cons q L ih =>
    show linesG (strL (lineP q) ++ [10] ++ printP L) [] = _
    rw [List.append_assoc, show [10] ++ printP L = 10 :: printP L from rfl, linesG_line _ _ _ (line_no10 (h q (by simp))), ih (fun x hx => h x (by simp [hx]))]
    rfl
theorem lines_good (L : List Pu) (h : ∀ q ∈ L, mayP q = true) : ∀ i, badO (L.map fun q => strL (lineP q)) i = none ∧ itemsO (L.map fun q => strL (lineP q)) = L := by
  induction L with
  | nil => intro i; exact ⟨rfl, rfl⟩
  | cons q L ih =>
    intro i
    have h1 := (line_back (h q (by simp))).1
    obtain ⟨k1, k2⟩ := ih (fun x hx => h x (by simp [hx])) (i + 1)
    refine ⟨?_, ?_⟩
    · rw [List.map_cons, badO_one, h1]
      exact k1
    · rw [List.map_cons]
      show (lineO (strL (lineP q))).getD [] ++ itemsO (L.map fun q => strL (lineP q)) = _
      rw [h1, k2]
      rfl
/-- What is printed is read as it was. -/
theorem print_back {L : List Pu} (h : ∀ q ∈ L, mayP q = true) (h4 : L.length ≤ 4096) (hl : (printP L).length ≤ 65536) : srcE (mkB (printP L)) = 0 ∧ srcN (mkB (printP L)) = 0 ∧ srcL (mkB (printP L)) = L := by
  have hs : (mkB (printP L)).size = (printP L).length := by rw [← strL_len, strL_mkB]
  have e : srcLs (mkB (printP L)) = L.map fun q => strL (lineP q) := by unfold srcLs; rw [strL_mkB, print_lines L h]
  obtain ⟨k1, k2⟩ := lines_good L h 1
  have eE : srcE (mkB (printP L)) = 0 := by
    unfold srcE
    rw [if_neg (by omega), e, k1, k2]
    exact if_neg (by omega)
  refine ⟨eE, ?_, ?_⟩
  · unfold srcN
    rw [if_neg (by omega), e, k1]
  · unfold srcL
    rw [eE, if_pos rfl, e, k2]
end Go.Proofs.YtmaedkbmjbggpaaDoor
/- What a source's text says may be: by plain mathematics. -/
namespace Go.Proofs.YtmaedkbmjbggpaaDoor
open Go Go.RowKit
set_option linter.unusedVariables false
set_option maxHeartbeats 1000000
set_option maxRecDepth 20000

/-- No blank, tab or remark in it. -/
def wdc (x : List UInt8) : Prop := x ≠ [] ∧ ∀ c ∈ x, c ≠ 32 ∧ c ≠ 9 ∧ c ≠ 59
theorem wordsG_wd (l : List UInt8) : ∀ cur : List UInt8, (∀ c ∈ cur, c ≠ 32 ∧ c ≠ 9 ∧ c ≠ 59) → ∀ x ∈ wordsG l cur, wdc x ∧ x.length ≤ cur.length + l.length := by
  have push : ∀ (cur x : List UInt8), (∀ c ∈ cur, c ≠ 32 ∧ c ≠ 9 ∧ c ≠ 59) → x ∈ pushW cur → wdc x ∧ x.length ≤ cur.length := by
    intro cur x hc hx
    unfold pushW at hx
    split at hx
    · simp at hx
    · rename_i h0
      rw [List.mem_singleton] at hx
      subst hx
      exact ⟨⟨h0, hc⟩, Nat.le_refl _⟩
  induction l with
  | nil =>
    intro cur hc x hx
    obtain ⟨h1, h2⟩ := push cur x hc hx
    exact ⟨h1, by simp; omega⟩
  | cons c r ih =>
    intro cur hc x hx
    unfold wordsG at hx
    split at hx
    · obtain ⟨h1, h2⟩ := push cur x hc hx
      exact ⟨h1, by omega⟩
    · rename_i h59
      split at hx
      · rcases List.mem_append.1 hx with hx | hx
        · obtain ⟨h1, h2⟩ := push cur x hc hx
          exact ⟨h1, by omega⟩
        · obtain ⟨h1, h2⟩ := ih [] (by simp) x hx
          exact ⟨h1, by simp at h2 ⊢; omega⟩
      · rename_i hb
        obtain ⟨h1, h2⟩ := ih (cur ++ [c]) (fun d hd => by
          rcases List.mem_append.1 hd with hd | hd
          · exact hc d hd
          · rw [List.mem_singleton] at hd
            subst hd
            exact ⟨fun e => hb (.inl e), fun e => hb (.inr e), h59⟩) x hx
        exact ⟨h1, by simp at h2 ⊢; omega⟩
/-- A word. -/
def isW (x : ByteArray) : Prop := wdc (strL x)
theorem isW.pos {x : ByteArray} (h : isW x) : 0 < x.size := by
  have := h.1
  rw [← strL_len]
  exact List.length_pos_iff.2 this
theorem wordsA_wd {l : List UInt8} {x : ByteArray} (h : x ∈ wordsA l) : isW x ∧ x.size ≤ l.length := by
  unfold wordsA at h
  obtain ⟨y, hy, rfl⟩ := List.mem_map.1 h
  obtain ⟨h1, h2⟩ := wordsG_wd l [] (by simp) y hy
  refine ⟨by unfold isW; rw [strL_mkB]; exact h1, ?_⟩
  rw [← strL_len, strL_mkB]
  simpa using h2
theorem wordsG_len (l : List UInt8) : ∀ cur : List UInt8, (wordsG l cur).length ≤ l.length + 1 := by
  have push : ∀ cur : List UInt8, (pushW cur).length ≤ 1 := fun cur => by unfold pushW; split <;> simp
  induction l with
  | nil => intro cur; exact push cur
  | cons c r ih =>
    intro cur
    unfold wordsG
    split
    · have := push cur; simp; omega
    · split
      · have h1 := push cur
        have h2 := ih []
        rw [List.length_append, List.length_cons]
        omega
      · have h2 := ih (cur ++ [c])
        rw [List.length_cons]
        omega
theorem wordsA_len (l : List UInt8) : (wordsA l).length ≤ l.length + 1 := by
  unfold wordsA
  rw [List.length_map]
  exact wordsG_len l []

theorem no_blank {x : ByteArray} (h : isW x) : 32 ∉ strL x := fun hm => (h.2 32 hm).1 rfl
theorem app_first {a b c d : List UInt8} (ha : 32 ∉ a) (hc : 32 ∉ c) (h : a ++ 32 :: b = c ++ 32 :: d) : a = c ∧ b = d := by
  induction a generalizing c with
  | nil =>
    cases c with
    | nil => simpa using h
    | cons y c =>
      simp at h
      exact absurd h.1.symm (fun e => hc (by simp [e]))
  | cons x a ih =>
    cases c with
    | nil =>
      simp at h
      exact absurd h.1 (fun e => ha (by simp [e]))
    | cons y c =>
      simp only [List.cons_append, List.cons.injEq] at h
      obtain ⟨h1, h2⟩ := ih (fun hm => ha (by simp [hm])) (fun hm => hc (by simp [hm])) h.2
      exact ⟨by rw [h.1, h1], h2⟩
theorem ba_eq {a b : ByteArray} (h : strL a = strL b) : a = b := by rw [← mkB_strL a, h, mkB_strL]
theorem parse_found {s : ByteArray} (h : parseE s = 0) : ∃ n, n < 256 ∧ opOf (nm n) = some n ∧ parseN s = nm n ∧ may n (parseA s) ∧ textOf n (parseA s) = s := by
  rcases ho : opOf (cutN s) with _ | n
  · have := (parse_none' s ho).2.2
    rw [this] at h
    cases h
  · obtain ⟨h1, h2⟩ := opOf_lt ho
    obtain ⟨p1, p2⟩ := parse_of s n ho
    rcases hk : okS s n with _ | _
    · have := (p2 hk).2.2
      rw [this] at h
      cases h
    · obtain ⟨q1, q2, q3⟩ := p1 hk
      have hb := opOf_bs' ho
      have hk' := (ok_iff h1 hb).1 hk
      refine ⟨n, h1, by rw [opOf_nm n h1, hb], q1, ?_, ?_⟩
      · rw [q2]; exact hk'.1
      · rw [q2]; exact hk'.2
theorem nm_noblank (n : Nat) (h : n < 256) : 32 ∉ strL (nm n) := by
  have := nmB_noblank n h
  intro hm
  rw [show strL (nm n) = nmB n from nm_data n] at hm
  have := List.all_eq_true.1 this 32 hm
  simp at this
theorem textOf_L (n : Nat) (A : Int) : strL (textOf n A) = if fm n = 1 then strL (nm n) else strL (nm n) ++ 32 :: strL (hexOf A (digs n : Nat)) := by
  unfold textOf
  split
  · rfl
  · rw [strL_app, strL_app, List.append_assoc]; rfl
theorem parse_word1 {x : ByteArray} (hx : 32 ∉ strL x) (h : parseE x = 0) : ∃ n, opOf x = some n ∧ may n (parseA x) ∧ parseN x = x := by
  obtain ⟨n, h1, h2, h3, h4, h5⟩ := parse_found h
  have h6 := congrArg strL h5
  rw [textOf_L] at h6
  split at h6
  · have e := ba_eq h6
    rw [e] at h2 h3
    exact ⟨n, h2, h4, h3⟩
  · exact absurd (by rw [← h6]; simp) hx
theorem parse_word2 {x y : ByteArray} (hx : 32 ∉ strL x) (h : parseE (x ++ ⟨#[32]⟩ ++ y) = 0) : ∃ n, opOf x = some n ∧ may n (parseA (x ++ ⟨#[32]⟩ ++ y)) ∧ parseN (x ++ ⟨#[32]⟩ ++ y) = x := by
  obtain ⟨n, h1, h2, h3, h4, h5⟩ := parse_found h
  have h6 := congrArg strL h5
  have e0 : strL (x ++ ⟨#[32]⟩ ++ y) = strL x ++ 32 :: strL y := by rw [strL_app, strL_app, List.append_assoc]; rfl
  rw [textOf_L, e0] at h6
  split at h6
  · exact absurd (by rw [h6]; simp) (nm_noblank n h1)
  · have e := ba_eq (app_first (nm_noblank n h1) hx h6).1
    rw [e] at h2 h3
    exact ⟨n, h2, h4, h3⟩
theorem may_code0 {S : ByteArray} {n : Nat} {A : Int} (ho : opOf S = some n) (hm : may n A) : mayP ⟨2, S, A, E0, 0, []⟩ = true := by
  unfold mayP Pu.ri mayI
  simp only
  rw [if_pos trivial]
  unfold codeI
  simp only [ho]
  unfold codeF
  simp only [if_true]
  have := (codeF_may ho).2 hm
  rw [decide_eq_true this.1, decide_eq_true this.2]
  rfl
theorem ordO_none {x : ByteArray} (hx : isW x) (ho : opOf x = none) (r : List ByteArray) : ordO x r = none := by
  rcases r with _ | ⟨x1, _ | ⟨x2, _ | ⟨x3, r⟩⟩⟩
  · rw [ordO_0]
    split
    · rename_i h
      obtain ⟨n, h1, _⟩ := parse_word1 (no_blank hx) h
      rw [ho] at h1
      cases h1
    · rfl
  · rw [ordO_1]
    split
    · rename_i h
      obtain ⟨n, h1, _⟩ := parse_word2 (no_blank hx) h
      rw [ho] at h1
      cases h1
    · rfl
  · rw [ordO_2]
    split
    · rename_i h
      have h2 := h.2
      unfold mayP Pu.ri mayI at h2
      simp only at h2
      rw [if_pos trivial] at h2
      unfold codeI at h2
      simp only [ho] at h2
      cases h2
    · rfl
  · rfl
theorem numV_bd {x : ByteArray} (h : numE x = 0) : 0 ≤ numV x ∧ numV x < 16 ^ x.size := by
  unfold numE at h
  rcases e : numOf x with _ | v
  · rw [e] at h; cases h
  · have hv : numV x = v := by unfold numV; rw [e]; rfl
    rw [hv]
    unfold numOf at e
    split at e
    · have := numGo_le _ 0 v (by decide) e
      rw [show (0 : Int) + 1 = 1 from rfl, Int.one_mul, Array.length_toList] at this
      exact this
    · cases e
theorem numV_back {x : ByteArray} (h : numE x = 0) (h8 : 1 ≤ x.size ∧ x.size ≤ 8) : hexOf (numV x) (x.size : Nat) = x := by
  have hb := numV_bd h
  unfold numE at h
  rcases e : numOf x with _ | v
  · rw [e] at h; cases h
  · have hv : numV x = v := by unfold numV; rw [e]; rfl
    rw [hv] at hb ⊢
    have e2 : numGo (strL x) 0 = some v := by
      unfold numOf at e
      rw [if_pos h8] at e
      exact e
    have e3 := hexL_numGo (strL x) v e2
    rw [strL_len] at e3
    have := hexOf_small v x.size hb.1 hb.2 h8
    rw [e3] at this
    exact ba_eq this.1
theorem may4P {x : ByteArray} (h : x.size = 4 ∧ numE x = 0) : mayP ⟨4, E0, numV x, E0, 0, []⟩ = true := by
  have hb := numV_bd h.2
  rw [h.1, show (16 : Int) ^ 4 = 65536 from by decide] at hb
  have h1 : decide (0 ≤ numV x) = true := decide_eq_true hb.1
  have h2 : decide (numV x ≤ 65535) = true := decide_eq_true (by omega)
  unfold mayP Pu.ri mayI
  simp only
  rw [if_neg (by decide), if_neg (by decide), if_neg (by decide), if_neg (by decide), if_pos trivial, h1, h2]
  rfl
theorem may5P {x : ByteArray} (h : isNm x = true) : mayP ⟨5, E0, 0, x, 0, []⟩ = true := by
  unfold mayP Pu.ri mayI
  simp only
  rw [if_neg (by decide), if_neg (by decide), if_neg (by decide), if_neg (by decide), if_neg (by decide), if_pos trivial, h]
  rfl
theorem may1P {x : ByteArray} (h : isNm x = true) : mayP ⟨1, x, 0, E0, 0, []⟩ = true := by
  unfold mayP Pu.ri mayI
  simp only
  rw [if_neg (by decide), if_neg (by decide), if_pos trivial, h]
  rfl
theorem may3P {l : List UInt8} (h : 1 ≤ l.length ∧ l.length ≤ 256) : mayP ⟨3, E0, 0, E0, 0, l⟩ = true := by
  have h1 : decide (1 ≤ l.length) = true := decide_eq_true h.1
  have h2 : decide (l.length ≤ 256) = true := decide_eq_true h.2
  unfold mayP Pu.ri mayI
  simp only
  rw [if_neg (by decide), if_neg (by decide), if_neg (by decide), if_pos trivial, h1, h2]
  rfl
theorem ordO_may {x : ByteArray} {r : List ByteArray} {q : Pu} (hx : isW x) (h : ordO x r = some q) : mayP q = true := by
  rcases r with _ | ⟨x1, _ | ⟨x2, _ | ⟨x3, r⟩⟩⟩
  · rw [ordO_0] at h
    split at h
    · rename_i hp
      injection h with h
      subst h
      obtain ⟨n, h1, h2, _⟩ := parse_word1 (no_blank hx) hp
      exact may_code0 h1 h2
    · cases h
  · rw [ordO_1] at h
    split at h
    · rename_i hp
      injection h with h
      subst h
      obtain ⟨n, h1, h2, _⟩ := parse_word2 (no_blank hx) hp
      exact may_code0 h1 h2
    · cases h
  · rw [ordO_2] at h
    split at h
    · rename_i hp
      injection h with h
      subst h
      exact hp.2
    · cases h
  · cases h
theorem itemO_may {f : Bool} {ws : List ByteArray} {q : Pu} (hw : ∀ x ∈ ws, isW x) (h : itemO f ws = some q) : mayP q = true := by
  cases ws with
  | nil => cases h
  | cons x r =>
    have hx := hw x (by simp)
    rw [itemO_cons] at h
    split at h
    · unfold labP at h
      split at h
      · rename_i hl
        injection h with h
        subst h
        have hl2 := hl.2
        unfold labOk at hl2
        rw [Bool.and_eq_true] at hl2
        exact may1P hl2.2
      · cases h
    split at h
    · unfold dataP at h
      split at h
      · cases h
      · split at h
        · rename_i hl
          injection h with h
          subst h
          exact may3P hl
        · cases h
    split at h
    · rcases r with _ | ⟨x1, _ | ⟨x2, r⟩⟩
      · cases h
      · rw [atP_1] at h
        split at h
        · rename_i hl
          injection h with h
          subst h
          exact may4P hl
        · cases h
      · cases h
    split at h
    · rcases r with _ | ⟨x1, _ | ⟨x2, r⟩⟩
      · cases h
      · rw [addrP_1] at h
        split at h
        · rename_i hl
          injection h with h
          subst h
          exact may5P hl
        · cases h
      · cases h
    exact ordO_may hx h
theorem lineO_may {l : List UInt8} {x : List Pu} (h : lineO l = some x) : ∀ q ∈ x, mayP q = true := by
  unfold lineO at h
  split at h
  · injection h with h
    subst h
    simp
  · split at h
    · cases h
    · rename_i q hq
      injection h with h
      subst h
      intro y hy
      rw [List.mem_singleton] at hy
      subst hy
      exact itemO_may (fun z hz => (wordsA_wd hz).1) hq
theorem itemsO_may (ls : List (List UInt8)) : ∀ q ∈ itemsO ls, mayP q = true := by
  intro q hq
  unfold itemsO at hq
  obtain ⟨l, _, h⟩ := List.mem_flatMap.1 hq
  rcases e : lineO l with _ | x
  · rw [e] at h; simp at h
  · rw [e] at h
    exact lineO_may e q h
theorem srcL_may (t : ByteArray) : (∀ q ∈ srcL t, mayP q = true) ∧ (srcL t).length ≤ 4096 := by
  unfold srcL
  split
  · rename_i h
    refine ⟨itemsO_may _, ?_⟩
    unfold srcE at h
    split at h
    · cases h
    · split at h
      · cases h
      · split at h
        · cases h
        · omega
  · exact ⟨by simp, by simp⟩
end Go.Proofs.YtmaedkbmjbggpaaDoor
/- More room in a printed source: blanks, tabs, remarks, lines without words change nothing, by plain mathematics. -/
namespace Go.Proofs.YtmaedkbmjbggpaaDoor
open Go Go.RowKit
set_option linter.unusedVariables false
set_option maxHeartbeats 1000000
set_option maxRecDepth 20000

def tabL (t : Bool) : List UInt8 := if t then [9] else []
/-- What stands for a blank, for a line feed. -/
def spB : Option (Bool × List UInt8) → List UInt8
  | none => [32]
  | some (t, _) => tabL t ++ [32, 32, 32]
def spN : Option (Bool × List UInt8) → List UInt8
  | none => [10]
  | some (t, m) => tabL t ++ [32, 59] ++ m ++ [10, 9, 32, 10]
def spG (f : Nat → Option (Bool × List UInt8)) : List UInt8 → Nat → List UInt8
  | [], _ => []
  | c :: r, k => if c = 32 then spB (f k) ++ spG f r (k + 1) else if c = 10 then spN (f k) ++ spG f r (k + 1) else c :: spG f r k
/-- Remarks have no line feed. -/
def okF (f : Nat → Option (Bool × List UInt8)) : Prop := ∀ k t m, f k = some (t, m) → 10 ∉ m
theorem spG_word (f : Nat → Option (Bool × List UInt8)) (x r : List UInt8) (k : Nat) (h : ∀ c ∈ x, okc c) : spG f (x ++ r) k = x ++ spG f r k := by
  induction x with
  | nil => rfl
  | cons c x ih =>
    have hc := h c (by simp)
    show spG f (c :: (x ++ r)) k = _
    conv => lhs; unfold spG
    rw [if_neg hc.1, if_neg hc.2.2.2, ih (fun d hd => h d (by simp [hd]))]
    rfl
/-- Behind it no further word comes. -/
def endz (z : List UInt8) : Prop := ∀ cur, wordsG z cur = pushW cur
theorem pushW_nil : pushW [] = [] := by unfold pushW; rw [if_pos rfl]
theorem wordsG_tab (r cur : List UInt8) : wordsG (9 :: r) cur = pushW cur ++ wordsG r [] := by
  conv => lhs; unfold wordsG
  rw [if_neg (by decide), if_pos (.inr rfl)]
theorem wordsG_mark (r cur : List UInt8) : wordsG (59 :: r) cur = pushW cur := by
  conv => lhs; unfold wordsG
  rw [if_pos rfl]
theorem endz_nil : endz [] := fun cur => rfl
theorem endz_mark (t : Bool) (m : List UInt8) : endz (tabL t ++ [32, 59] ++ m) := fun cur => by
  cases t
  · show wordsG (32 :: 59 :: m) cur = _
    rw [wordsG_blank, wordsG_mark, pushW_nil, List.append_nil]
  · show wordsG (9 :: 32 :: 59 :: m) cur = _
    rw [wordsG_tab, wordsG_blank, wordsG_mark, pushW_nil, List.append_nil, List.append_nil]
theorem wordsG_spB (o : Option (Bool × List UInt8)) (r cur : List UInt8) : wordsG (spB o ++ r) cur = pushW cur ++ wordsG r [] := by
  rcases o with _ | ⟨t, m⟩
  · exact wordsG_blank r cur
  · cases t
    · show wordsG (32 :: 32 :: 32 :: r) cur = _
      rw [wordsG_blank, wordsG_blank, wordsG_blank, pushW_nil, List.nil_append, List.nil_append]
    · show wordsG (9 :: 32 :: 32 :: 32 :: r) cur = _
      rw [wordsG_tab, wordsG_blank, wordsG_blank, wordsG_blank, pushW_nil, List.nil_append, List.nil_append, List.nil_append]
theorem spB_ok (o : Option (Bool × List UInt8)) : 10 ∉ spB o := by
  rcases o with _ | ⟨t, m⟩
  · simp [spB]
  · cases t <;> simp [spB, tabL]
theorem spB_front (o : Option (Bool × List UInt8)) (r : List UInt8) : frontL (spB o ++ r) = false := by
  rcases o with _ | ⟨t, m⟩
  · rfl
  · cases t <;> rfl
theorem spG_spread (f : Nat → Option (Bool × List UInt8)) (ws : List (List UInt8)) : ∀ (r : List UInt8) (k : Nat), (∀ x ∈ ws, okw x) → ∃ body, spG f (spread ws ++ r) k = body ++ spG f r (k + ws.length) ∧ 10 ∉ body ∧ (∀ z cur, endz z → wordsG (body ++ z) cur = pushW cur ++ ws) ∧ (ws ≠ [] → ∀ z, frontL (body ++ z) = false) := by
  induction ws with
  | nil => intro r k _; exact ⟨[], by simp [spread], by simp, fun z cur hz => by rw [List.nil_append, hz cur, List.append_nil], fun h => absurd rfl h⟩
  | cons x ws ih =>
    intro r k h
    have hx := h x (by simp)
    obtain ⟨body, e, hb, hw, _⟩ := ih r (k + 1) (fun y hy => h y (by simp [hy]))
    refine ⟨spB (f k) ++ (x ++ body), ?_, ?_, fun z cur hz => ?_, fun _ z => ?_⟩
    · show spG f (32 :: x ++ spread ws ++ r) k = _
      rw [show 32 :: x ++ spread ws ++ r = 32 :: (x ++ (spread ws ++ r)) by simp]
      conv => lhs; unfold spG
      rw [if_pos rfl, spG_word f x _ (k + 1) hx.2, e, List.length_cons, show k + 1 + ws.length = k + (ws.length + 1) by omega]
      simp [List.append_assoc]
    · intro hm
      rcases List.mem_append.1 hm with hm | hm
      · exact spB_ok _ hm
      · rcases List.mem_append.1 hm with hm | hm
        · exact (hx.2 10 hm).2.2.2 rfl
        · exact hb hm
    · rw [List.append_assoc, wordsG_spB, List.append_assoc, wordsG_word x _ [] hx.2, List.nil_append, hw z x hz, pushW_of hx.1]
      rfl
    · rw [List.append_assoc]
      exact spB_front _ _
theorem lineO_room : lineO [9, 32] = some [] := by
  unfold lineO
  rw [if_pos (by decide)]
theorem lines_room (o : Option (Bool × List UInt8)) (body r : List UInt8) (hb : 10 ∉ body) (ho : ∀ t m, o = some (t, m) → 10 ∉ m) : ∃ z ex, endz z ∧ linesG (body ++ spN o ++ r) [] = (body ++ z) :: ex ++ linesG r [] ∧ (∀ l ∈ ex, l = [9, 32]) := by
  rcases o with _ | ⟨t, m⟩
  · refine ⟨[], [], endz_nil, ?_, by simp⟩
    rw [show body ++ spN none ++ r = body ++ 10 :: r by simp [spN], linesG_line _ _ _ hb]
    simp
  · refine ⟨tabL t ++ [32, 59] ++ m, [[9, 32]], endz_mark t m, ?_, by simp⟩
    have hn : 10 ∉ body ++ (tabL t ++ [32, 59] ++ m) := by
      intro hm
      rcases List.mem_append.1 hm with hm | hm
      · exact hb hm
      rcases List.mem_append.1 hm with hm | hm
      · cases t <;> simp [tabL] at hm
      · exact ho t m rfl hm
    have e : body ++ spN (some (t, m)) ++ r = (body ++ (tabL t ++ [32, 59] ++ m)) ++ 10 :: ([9, 32] ++ 10 :: r) := by simp [spN, List.append_assoc]
    rw [e, linesG_line _ _ _ hn, linesG_line _ _ _ (by simp)]
    simp
theorem room_lines (f : Nat → Option (Bool × List UInt8)) (hf : okF f) (L : List Pu) (h : ∀ q ∈ L, mayP q = true) : ∀ k i, badO (linesG (spG f (printP L) k) []) i = none ∧ itemsO (linesG (spG f (printP L) k) []) = L := by
  induction L with
  | nil => intro k i; exact ⟨rfl, rfl⟩
  | cons q L ih =>
    intro k i
    have hq := h q (by simp)
    have ih' := ih (fun x hx => h x (by simp [hx]))
    obtain ⟨h1, h2⟩ := line_back hq
    -- the line, with its room
    have key : ∃ body k', spG f (printP (q :: L)) k = body ++ spN (f k') ++ spG f (printP L) (k' + 1) ∧ 10 ∉ body ∧ ∀ z, endz z → wordsA (body ++ z) = wordsA (strL (lineP q)) ∧ frontL (body ++ z) = frontL (strL (lineP q)) := by
      have e0 : printP (q :: L) = strL (lineP q) ++ (10 :: printP L) := by
        show strL (lineP q) ++ [10] ++ printP L = _
        simp [List.append_assoc]
      have e10 : ∀ k', spG f (10 :: printP L) k' = spN (f k') ++ spG f (printP L) (k' + 1) := fun k' => by
        conv => lhs; unfold spG
        rw [if_neg (by decide), if_pos rfl]
      rcases h2 with ⟨x, e, ow, hw, hfr⟩ | ⟨ws, hne, hw, e⟩
      · refine ⟨x, k, ?_, fun hm => (ow.2 10 hm).2.2.2 rfl, fun z hz => ?_⟩
        · rw [e0, e, spG_word f x _ k ow.2, e10, List.append_assoc]
        · have hc : ∃ c r, x = c :: r := by
            rcases x with _ | ⟨c, r⟩
            · exact absurd rfl ow.1
            · exact ⟨c, r, rfl⟩
          obtain ⟨c, r, rfl⟩ := hc
          rw [e]
          refine ⟨?_, rfl⟩
          unfold wordsA
          rw [wordsG_word _ z [] ow.2, List.nil_append, hz, pushW_of ow.1, wordsG_end _ ow]
      · obtain ⟨body, e1, hb, hw1, hfr⟩ := spG_spread f ws (10 :: printP L) k hw
        refine ⟨body, k + ws.length, ?_, hb, fun z hz => ⟨?_, ?_⟩⟩
        · rw [e0, e, e1, e10, List.append_assoc]
        · unfold wordsA
          rw [hw1 z [] hz, e, wordsG_spread ws [] hw]
        · rw [hfr hne z, e]
          cases ws with
          | nil => exact absurd rfl hne
          | cons x r => rfl
    obtain ⟨body, k', e, hb, hwz⟩ := key
    obtain ⟨z, ex, hz, e2, hex⟩ := lines_room (f k') body (spG f (printP L) (k' + 1)) hb (fun t m hm => hf k' t m hm)
    have hl : lineO (body ++ z) = some [q] := by
      obtain ⟨w1, w2⟩ := hwz z hz
      rw [← h1]
      unfold lineO
      rw [w1, w2]
    have hexb : ∀ j, badO ex j = none := by
      clear e2
      induction ex with
      | nil => intro j; rfl
      | cons l ex ih2 =>
        intro j
        rw [badO_one, hex l (by simp), lineO_room]
        exact ih2 (fun y hy => hex y (by simp [hy])) (j + 1)
    have hexi : itemsO ex = [] := by
      unfold itemsO
      rw [List.flatMap_eq_nil_iff]
      intro l hl
      rw [hex l hl, lineO_room]
      rfl
    rw [e, e2]
    obtain ⟨i1, i2⟩ := ih' (k' + 1) (i + 1 + ex.length)
    refine ⟨?_, ?_⟩
    · rw [show (body ++ z) :: ex ++ linesG (spG f (printP L) (k' + 1)) [] = (body ++ z) :: (ex ++ linesG (spG f (printP L) (k' + 1)) []) from rfl, badO_one, hl]
      show badO (ex ++ _) (i + 1) = none
      rw [badO_app _ _ _ (hexb _)]
      exact i1
    · rw [show (body ++ z) :: ex ++ linesG (spG f (printP L) (k' + 1)) [] = [body ++ z] ++ (ex ++ linesG (spG f (printP L) (k' + 1)) []) from rfl, itemsO_app, itemsO_app, itemsO_one, hl, hexi, i2]
      rfl
theorem room_back {f : Nat → Option (Bool × List UInt8)} (hf : okF f) {L : List Pu} (h : ∀ q ∈ L, mayP q = true) (h4 : L.length ≤ 4096) (hl : (spG f (printP L) 0).length ≤ 65536) : srcE (mkB (spG f (printP L) 0)) = 0 ∧ srcL (mkB (spG f (printP L) 0)) = L := by
  have hs : (mkB (spG f (printP L) 0)).size = (spG f (printP L) 0).length := by rw [← strL_len, strL_mkB]
  obtain ⟨k1, k2⟩ := room_lines f hf L h 0 1
  have e : srcLs (mkB (spG f (printP L) 0)) = linesG (spG f (printP L) 0) [] := by unfold srcLs; rw [strL_mkB]
  have eE : srcE (mkB (spG f (printP L) 0)) = 0 := by
    unfold srcE
    rw [if_neg (by omega), e, k1, k2]
    exact if_neg (by omega)
  refine ⟨eE, ?_⟩
  unfold srcL
  rw [eE, if_pos rfl, e, k2]
end Go.Proofs.YtmaedkbmjbggpaaDoor
