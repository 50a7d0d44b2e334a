/- A source written as a text, by the document. -/
import Derived.Test.YtmaedkbmjbggpaaDoorJIg
namespace Go.Proofs.YtmaedkbmjbggpaaDoor
open Go Go.RowKit
set_option linter.unusedVariables false
set_option maxHeartbeats 2000000
set_option maxRecDepth 20000

theorem isNm_le {s : ByteArray} (h : isNm s = true) : s.size ≤ 16 := (of_decide_eq_true h).2.1
theorem mayI_small {r : Ri} (h : mayI r = true) : r.n.size ≤ 16 ∧ r.l.size ≤ 16 ∧ r.m ≤ 256 := by
  unfold mayI at h
  by_cases h2 : r.k = 2
  · rw [if_pos h2] at h
    unfold codeI at h
    rcases e : opOf r.n with _ | n
    · rw [e] at h; cases h
    · rw [e] at h
      have h4 := opOf_small e
      have h' : codeF (fm n) r = true := h
      unfold codeF at h'
      rw [Bool.and_eq_true, decide_eq_true_iff] at h'
      obtain ⟨m0, h'⟩ := h'
      refine ⟨by omega, ?_, by omega⟩
      by_cases hp : r.p = 0
      · rw [if_pos hp, Bool.and_eq_true, decide_eq_true_iff] at h'
        omega
      · rw [if_neg hp, Bool.and_eq_true] at h'
        exact isNm_le h'.1
  · rw [if_neg h2] at h
    by_cases hp : r.p = 0
    · rw [if_neg (by omega)] at h
      by_cases h1 : r.k = 1
      · rw [if_pos h1] at h
        simp only [Bool.and_eq_true, decide_eq_true_iff] at h
        exact ⟨isNm_le h.1, by omega, by omega⟩
      rw [if_neg h1] at h
      by_cases h3 : r.k = 3
      · rw [if_pos h3] at h
        simp only [Bool.and_eq_true, decide_eq_true_iff] at h
        omega
      rw [if_neg h3] at h
      by_cases h4 : r.k = 4
      · rw [if_pos h4] at h
        simp only [Bool.and_eq_true, decide_eq_true_iff] at h
        omega
      rw [if_neg h4] at h
      by_cases h5 : r.k = 5
      · rw [if_pos h5] at h
        simp only [Bool.and_eq_true, decide_eq_true_iff] at h
        exact ⟨by omega, isNm_le h.1, by omega⟩
      rw [if_neg h5] at h
      cases h
    · rw [if_pos hp] at h
      cases h
theorem line_small {r : Ri} {b : List UInt8} (h1 : r.n.size ≤ 16) (h2 : r.l.size ≤ 16) (h3 : b.length ≤ 256) : (lineI r b).size ≤ 1000 := by
  have c1 := hexOf_le r.a 4
  have c2 := printS_le r.n r.a
  unfold lineI
  split
  · rw [ByteArray.size_append]; show _ + 1 ≤ _; omega
  split
  · show ([32, 100, 97, 116, 97] ++ dataL b).toArray.size ≤ _
    rw [List.size_toArray, List.length_append, dataL_len]
    show 5 + _ ≤ _
    omega
  split
  · rw [ByteArray.size_append]; show 4 + _ ≤ _; omega
  split
  · rw [ByteArray.size_append]; show 9 + _ ≤ _; omega
  split
  · rw [ByteArray.size_append, ByteArray.size_append, ByteArray.size_append]; show 1 + _ + 4 + _ ≤ _; omega
  split
  · rw [ByteArray.size_append, ByteArray.size_append, ByteArray.size_append]; show 1 + _ + 6 + _ ≤ _; omega
  split
  · rw [ByteArray.size_append, ByteArray.size_append, ByteArray.size_append]; show 1 + _ + 5 + _ ≤ _; omega
  · rw [ByteArray.size_append]; show 1 + _ ≤ _; omega

/-- An item with its bytes. -/
abbrev Itm := Ri × List UInt8
def printL (L : List Itm) : List UInt8 := L.flatMap fun x => strL (lineI x.1 x.2) ++ [10]
def printIE (L : List Itm) : Int := if ¬ checkE (L.map (·.1)) = 0 then checkE (L.map (·.1)) else if 65536 < (printL L).length then 2 else 0
def printIB (L : List Itm) : ByteArray := if printIE L = 0 then ⟨(printL L).toArray⟩ else ⟨#[]⟩
/-- Items whose bytes lie where they say. -/
def Good (w : World) (x : Itm) : Prop := LB8 w x.1.sp x.2 ∧ x.2.length = x.1.m ∧ x.1.a ≤ 9223372036854775807
theorem checkE_ok {l : List Ri} (h : checkE l = 0) : l.length ≤ 4096 ∧ ∀ r ∈ l, mayI r = true := by
  unfold checkE at h
  split at h
  · cases h
  · rename_i hl
    split at h
    · cases h
    · rename_i hb
      refine ⟨by omega, fun r hr => ?_⟩
      have : badI l = none := by simpa using hb
      unfold badI at this
      rw [List.findIdx?_eq_none_iff] at this
      have := this r hr
      simpa using this

theorem at_listL {α : Type} {l : List α} {n i : Nat} (h : l.length = n) (hi : i < n) : ∃ s, l[i]? = some s ∧ l.drop i = s :: l.drop (i + 1) :=
  ⟨l[i]'(by omega), List.getElem?_eq_getElem (by omega), List.drop_eq_getElem_cons (by omega)⟩
theorem rprintI_any (w : World) (sp : Option Addr) (cap : Nat) (l : List Ri) (L : List Itm) (hL : Hid (l = L.map (·.1))) (hl : Hid (LI w sp l)) (hn : l.length ≤ 9223372036854775807) (hk : Hid (∀ x ∈ L, Good w x)) :
    Calls Tryd.prog 14 #[.slice sp l.length cap] w fun e w' => e = .returned (.tuple #[.string (printIB L), .int .i64 (printIE L)]) ∧ Hid (Below w.heap.size w w') := by
  have hC := rcheckI_any w sp cap l hl hn
  obtain ⟨n, hn'⟩ : ∃ n, l.length = n := ⟨_, rfl⟩
  have ni : (n : Int) ≤ 9223372036854775807 := by omega
  obtain ⟨CN, hCN⟩ : ∃ n, checkN l = n := ⟨_, rfl⟩
  rw [hCN] at hC
  clear hCN
  by_cases h0 : ¬ checkE l = 0
  · have e1 : printIE L = checkE l := by unfold printIE; rw [← hL.out, if_pos h0]
    have e2 : printIB L = ⟨#[]⟩ := by unfold printIB; rw [e1, if_neg h0]
    rw [e1, e2]
    obtain ⟨X, hX⟩ : ∃ C, checkE l = C := ⟨_, rfl⟩
    rw [hX] at hC h0 ⊢
    rw [hn'] at hC ⊢
    have q : (X != 0) = true := by simpa using h0
    clear h0 hX hn hn' e1 e2
    go_enter Tryd.func14, Tryd.ntmps14
    go_wp2_with (go_at_call 10; refine hC.mono ?_; rintro e x ⟨rfl, hx⟩; replace hx : Hid _ := hx)
    go_ret2
    exact ⟨rfl, hx⟩
  replace h0 : checkE l = 0 := Decidable.of_not_not h0
  obtain ⟨k1, k2⟩ := checkE_ok h0
  obtain ⟨PL, hPL⟩ : ∃ x, printL L = x := ⟨_, rfl⟩
  have hPL' : Hid (printL L = PL) := hPL
  obtain ⟨PE, hPE⟩ : ∃ x, printIE L = x := ⟨_, rfl⟩
  obtain ⟨PB, hPB⟩ : ∃ x, printIB L = x := ⟨_, rfl⟩
  have hPE' : Hid (PE = if 65536 < PL.length then 2 else 0) := by show PE = _; rw [← hPE, ← hPL]; unfold printIE; rw [← hL.out, if_neg (by simpa using h0)]
  have hPB' : Hid (PB = if PE = 0 then ⟨PL.toArray⟩ else ⟨#[]⟩) := by show PB = _; rw [← hPB, ← hPE, ← hPL]; rfl
  have hgood : Hid (∀ x ∈ L, Good w x ∧ mayI x.1 = true) := fun x hx => ⟨hk.out x hx, k2 x.1 (by rw [hL.out]; exact List.mem_map_of_mem hx)⟩
  rw [hPE, hPB]
  rw [h0, hn'] at hC
  rw [hn']
  have hl' : Hid (l.length = n ∧ L.length = n) := ⟨hn', by rw [← hn', hL.out, List.length_map]⟩
  have ni4 : (n : Int) ≤ 4194304 := by omega
  clear h0 hn hn' k1 k2 hPL hPE hPB ni
  go_enter Tryd.func14, Tryd.ntmps14
  go_wp2_with (go_at_call 10; refine hC.mono ?_; rintro e x0 ⟨rfl, hx⟩; replace hx : Hid _ := hx)
  go_loopw [6, 7] (fun o t wz => ∃ (i : Nat) (va : Value) (B : List UInt8) (y : World), y = wz ∧ va = o ∧ t = .int .i64 (i : Int) ∧ Hid (i ≤ n ∧ B.length ≤ 65536 ∧ PL = B ++ printL (L.drop i)) ∧ Hid (KB w va B y)) (fun _ t _ => (n - intOf t).toNat)
  case atStart => exact ⟨0, _, [], x0, rfl, rfl, rfl, ⟨Nat.zero_le _, Nat.zero_le _, hPL'.out.symm⟩, (KB.nil w).below hx.out⟩
  case round =>
    obtain ⟨i, va, B, y, rfl, rfl, rfl, J, K⟩ := hrel
    by_cases hlt : i < n
    · obtain ⟨s, hs, hdrop⟩ := at_listL hl'.out.2 hlt
      have hs1 : l[i]? = some s.1 := by rw [hL.out, List.getElem?_map, hs]; rfl
      obtain ⟨gb, ob, hsp, hR0⟩ := hl.out i s.1 hs1
      subst hsp
      have hR : Hid (y.rangeAt gb (ob + i * 6) (i6 s.1).toList) := range_keep hR0 K.out.2
      clear hR0
      have ij := fun v => idxP (g := gb) (off := ob) (len := n) (cap := cap) Tryd.underlying22 (s := 6) (by kernel_rfl) .i64 i v hlt
      have hji : (i : Int) < n := by omega
      have hi' : Hid (i < n) := hlt
      have gs := hgood.out s (List.mem_of_getElem? hs)
      obtain ⟨sm1, sm2, sm3⟩ := mayI_small gs.2
      have hcall := rlineI_any y s.1 s.2 (gs.1.1.below K.out.2) gs.1.2.1 (by rw [gs.1.2.1]; exact sm3) ⟨by omega, by omega⟩ gs.1.2.2
      obtain ⟨i5, hi5, hz0, hz1, hz2⟩ := info_parts infoB
      clear hlt
      have hLs : Hid ((lineI s.1 s.2).size ≤ 1000) := line_small sm1 sm2 (by rw [gs.1.2.1]; exact sm3)
      clear sm1 sm2 sm3 hs1
      have J2 : Hid (PL = (B ++ strL (lineI s.1 s.2) ++ [10]) ++ printL (L.drop (i + 1))) := by
        have h1 := J.out
        rw [hdrop] at h1
        show PL = _
        rw [h1.2.2]
        simp [printL]
      obtain ⟨LS, hLS⟩ : ∃ x, lineI s.1 s.2 = x := ⟨_, rfl⟩
      rw [hLS] at hcall hLs J2
      have hBl : Hid (B.length ≤ 65536) := J.out.2.1
      obtain ⟨m, hm⟩ : ∃ m, (B ++ strL LS ++ [10]).length = m := ⟨_, rfl⟩
      have hm' : Hid ((B ++ strL LS ++ [10]).length = m) := hm
      have hm0 : m ≤ 66537 := by rw [← hm]; have h1 := hBl.out; have h2 := hLs.out; simp only [List.length_append, strL_len, List.length_cons, List.length_nil]; omega
      replace hs : Hid _ := hs
      replace hdrop : Hid _ := hdrop
      replace gs : Hid _ := gs
      clear hLS hm
      by_cases hbig : 65536 < m
      · have qb : decide ((65536 : Int) < m) = true := by simp; omega
        have fin : Hid (PB = ⟨#[]⟩ ∧ PE = 2) := by
          have h2 : 65536 < PL.length := by
            have h1 := congrArg List.length J2.out
            rw [List.length_append, hm'.out] at h1
            omega
          have e : PE = 2 := by rw [hPE'.out, if_pos h2]
          exact ⟨by rw [hPB'.out, e]; rfl, e⟩
        clear hbig
        go_wp2_with (first
          | ((with_reducible refine at_loadm rt6 gb (ob + i * 6) (i6 s.1) ?_ ?_ (.tmp 25) ?_ ?_ ?_ ?_); exact hR.out; rfl; kernel_rfl; rfl; rfl)
          | (go_at_call 27; refine hcall.mono ?_; rintro e y2 ⟨rfl, H2⟩; have K2 : Hid (KB w va B y2) := K.out.below H2; clear H2)
          | (at_builtin; refine Lib.wpList_append_own_string _ rfl (.tmp 28) (.tmp 29) 37 9 rfl w.heap.size 5 i5 Tryd.underlying37 Tryd.underlying9 hi5 hz0 hz1 hz2 va B.length (B.map byV) rfl K2.out.1 LS rfl ?_ ?_ ?_ ?_; (have h1 := hBl.out; have h2 := hLs.out; unfold maxLen; omega); (have h1 := hBl.out; have h2 := hLs.out; omega); exact K2.out.2.size; intro v3 y3 h3 h4 h5; have K3 : Hid (KB w v3 (B ++ strL LS) y3) := K2.out.str h3 h4; clear h3 h4 h5)
          | (at_builtin; refine wpList_append_own _ rfl (.tmp 31) (.tmp 32) 37 rfl w.heap.size 5 i5 (.int .u8 0) 1 1 Tryd.underlying37 hi5 hz0 hz1 hz2 rfl (by decide) v3 (B ++ strL LS).length ((B ++ strL LS).map byV) rfl (K3.out.1.alloc _) ⟨y3.heap.size, 0, none⟩ 1 1 [byV 10] rfl rfl (one_byt y3 _) (by simp [Value.oneCell', byV]) ?_ ?_ ?_ ?_; (have h1 := hBl.out; have h2 := hLs.out; rw [List.length_append, strL_len]; unfold maxLen; omega); (have h1 := hBl.out; have h2 := hLs.out; rw [List.length_append, strL_len]; omega); (have := K3.out.2.size; simp; omega); intro v4 y4 h3 h4 h5; have K4 : Hid (KB w v4 (B ++ strL LS ++ [10]) y4) := K3.out.one h3 h4; clear h3 h4 h5; obtain ⟨⟨sp4, cap4, e4⟩, _⟩ := K4.out.open; rw [hm'.out] at e4; subst e4))
        go_ret2
        rw [fin.out.1, fin.out.2]
        exact ⟨rfl, K4.out.2⟩
      · have qb : decide ((65536 : Int) < m) = false := by simp; omega
        have J3 : Hid (i + 1 ≤ n ∧ (B ++ strL LS ++ [10]).length ≤ 65536 ∧ PL = (B ++ strL LS ++ [10]) ++ printL (L.drop (i + 1))) := ⟨hi'.out, by rw [hm'.out]; omega, J2.out⟩
        clear hbig
        go_wp2_with (first
          | ((with_reducible refine at_loadm rt6 gb (ob + i * 6) (i6 s.1) ?_ ?_ (.tmp 25) ?_ ?_ ?_ ?_); exact hR.out; rfl; kernel_rfl; rfl; rfl)
          | (go_at_call 27; refine hcall.mono ?_; rintro e y2 ⟨rfl, H2⟩; have K2 : Hid (KB w va B y2) := K.out.below H2; clear H2)
          | (at_builtin; refine Lib.wpList_append_own_string _ rfl (.tmp 28) (.tmp 29) 37 9 rfl w.heap.size 5 i5 Tryd.underlying37 Tryd.underlying9 hi5 hz0 hz1 hz2 va B.length (B.map byV) rfl K2.out.1 LS rfl ?_ ?_ ?_ ?_; (have h1 := hBl.out; have h2 := hLs.out; unfold maxLen; omega); (have h1 := hBl.out; have h2 := hLs.out; omega); exact K2.out.2.size; intro v3 y3 h3 h4 h5; have K3 : Hid (KB w v3 (B ++ strL LS) y3) := K2.out.str h3 h4; clear h3 h4 h5)
          | (at_builtin; refine wpList_append_own _ rfl (.tmp 31) (.tmp 32) 37 rfl w.heap.size 5 i5 (.int .u8 0) 1 1 Tryd.underlying37 hi5 hz0 hz1 hz2 rfl (by decide) v3 (B ++ strL LS).length ((B ++ strL LS).map byV) rfl (K3.out.1.alloc _) ⟨y3.heap.size, 0, none⟩ 1 1 [byV 10] rfl rfl (one_byt y3 _) (by simp [Value.oneCell', byV]) ?_ ?_ ?_ ?_; (have h1 := hBl.out; have h2 := hLs.out; rw [List.length_append, strL_len]; unfold maxLen; omega); (have h1 := hBl.out; have h2 := hLs.out; rw [List.length_append, strL_len]; omega); (have := K3.out.2.size; simp; omega); intro v4 y4 h3 h4 h5; have K4 : Hid (KB w v4 (B ++ strL LS ++ [10]) y4) := K3.out.one h3 h4; clear h3 h4 h5; obtain ⟨⟨sp4, cap4, e4⟩, _⟩ := K4.out.open; rw [hm'.out] at e4; subst e4))
        go_roundw
        case rel => exact ⟨i + 1, _, _, _, rfl, rfl, by simp, J3, K4⟩
        case measure => have := hi'.out; simp [intOf]; omega
    · have hin : i = n := by have := J.out.1; omega
      subst hin
      have hB : Hid (B = PL) := by
        have h1 := J.out.2.2
        rw [List.drop_eq_nil_of_le (by rw [hl'.out.2]; exact Nat.le_refl _), show printL [] = [] from rfl, List.append_nil] at h1
        exact h1.symm
      obtain ⟨⟨sp', cap', rfl⟩, hcv⟩ := K.out.open
      have fin : Hid (PB = ⟨B.toArray⟩ ∧ PE = 0) := by
        have e : PE = 0 := by rw [hPE'.out, if_neg (by rw [← hB.out]; have := J.out.2.1; omega)]
        exact ⟨by rw [hPB'.out, e, hB.out]; rfl, e⟩
      obtain ⟨m, hm⟩ : ∃ m, B.length = m := ⟨_, rfl⟩
      rw [hm] at hcv ⊢
      clear hlt hm
      go_wp2
      go_ret2
      rw [fin.out.1, fin.out.2]
      exact ⟨rfl, K.out.2⟩
end Go.Proofs.YtmaedkbmjbggpaaDoor
/- The words of a source's line, without its remark. -/
namespace Go.Proofs.YtmaedkbmjbggpaaDoor
open Go Go.RowKit
set_option linter.unusedVariables false
set_option maxHeartbeats 3000000
set_option maxRecDepth 20000

def pushW (cur : List UInt8) : List (List UInt8) := if cur = [] then [] else [cur]
/-- The words of a line: ends at a remark. -/
def wordsG : List UInt8 → List UInt8 → List (List UInt8)
  | [], cur => pushW cur
  | c :: r, cur => if c = 59 then pushW cur else if c = 32 ∨ c = 9 then pushW cur ++ wordsG r [] else wordsG r (cur ++ [c])
/-- Where the reading of words has come to. -/
def Wat (l : List UInt8) (n p q : Nat) (O : List ByteArray) : Prop := q ≤ p ∧ p ≤ n + 1 ∧ (p ≤ n → wordsG l [] = O.map strL ++ wordsG (l.drop p) ((l.drop q).take (p - q))) ∧ (p = n + 1 → wordsG l [] = O.map strL)
theorem take_end {l : List UInt8} {p q : Nat} {c : UInt8} (h : q ≤ p) (hc : l[p]? = some c) : (l.drop q).take (p + 1 - q) = (l.drop q).take (p - q) ++ [c] := by
  rw [show p + 1 - q = (p - q) + 1 by omega, List.take_add_one, List.getElem?_drop, show q + (p - q) = p by omega, hc]
  rfl
theorem drop_at {l : List UInt8} {p : Nat} {c : UInt8} (hc : l[p]? = some c) : l.drop p = c :: l.drop (p + 1) := by
  have hl := (List.getElem?_eq_some_iff.1 hc)
  rw [List.drop_eq_getElem_cons hl.1, hl.2]
theorem Wat.more {l : List UInt8} {n p q : Nat} {O : List ByteArray} (h : Wat l n p q O) (hp : p < n) {c : UInt8} (hc : l[p]? = some c) (h1 : c ≠ 59) (h2 : c ≠ 32) (h3 : c ≠ 9) : Wat l n (p + 1) q O := by
  refine ⟨by have := h.1; omega, by omega, fun _ => ?_, fun e => by omega⟩
  rw [h.2.2.1 (by omega), drop_at hc, take_end h.1 hc]
  conv => lhs; unfold wordsG
  rw [if_neg h1, if_neg (by simp [h2, h3])]
theorem push_some {l : List UInt8} {q p : Nat} (h : q < p) (hp : p ≤ l.length) : pushW ((l.drop q).take (p - q)) = [(l.drop q).take (p - q)] := by
  unfold pushW
  rw [if_neg]
  intro e
  have := congrArg List.length e
  rw [List.length_take, List.length_drop, List.length_nil] at this
  omega
theorem push_none (l : List UInt8) (q : Nat) : pushW ((l.drop q).take (q - q)) = [] := by
  unfold pushW
  rw [Nat.sub_self, List.take_zero, if_pos rfl]
/-- The word that ends here, if there is one. -/
def endW (s : ByteArray) (q p : Nat) (O : List ByteArray) : List ByteArray := if q < p then O ++ [s.extract q p] else O
theorem endW_map (s : ByteArray) (q p : Nat) (O : List ByteArray) (h : q ≤ p) (hp : p ≤ s.size) : (endW s q p O).map strL = O.map strL ++ pushW (((strL s).drop q).take (p - q)) := by
  unfold endW
  split
  · rename_i hl
    rw [push_some hl (by rw [strL_len]; exact hp), List.map_append]
    simp [strL_extract s q p h hp]
  · have : q = p := by omega
    subst this
    rw [push_none, List.append_nil]
theorem Wat.cut {s : ByteArray} {p q : Nat} {O : List ByteArray} (h : Wat (strL s) s.size p q O) (hp : p < s.size) {c : UInt8} (hc : (strL s)[p]? = some c) (h1 : c ≠ 59) (h2 : c = 32 ∨ c = 9) : Wat (strL s) s.size (p + 1) (p + 1) (endW s q p O) := by
  refine ⟨Nat.le_refl _, by omega, fun _ => ?_, fun e => by omega⟩
  rw [h.2.2.1 (by omega), drop_at hc, endW_map s q p O h.1 (by omega), Nat.sub_self, List.take_zero]
  conv => lhs; unfold wordsG
  rw [if_neg h1, if_pos h2, List.append_assoc]
theorem Wat.mark {s : ByteArray} {p q : Nat} {O : List ByteArray} (h : Wat (strL s) s.size p q O) (hp : p < s.size) (hc : (strL s)[p]? = some 59) : (endW s q p O).map strL = wordsG (strL s) [] := by
  rw [h.2.2.1 (by omega), drop_at hc, endW_map s q p O h.1 (by omega)]
  conv => rhs; unfold wordsG
  rw [if_pos rfl]
theorem Wat.last {s : ByteArray} {q : Nat} {O : List ByteArray} (h : Wat (strL s) s.size s.size q O) : Wat (strL s) s.size (s.size + 1) (s.size + 1) (endW s q s.size O) := by
  refine ⟨Nat.le_refl _, Nat.le_refl _, fun e => by omega, fun _ => ?_⟩
  rw [h.2.2.1 (Nat.le_refl _), List.drop_eq_nil_of_le (by rw [strL_len]; exact Nat.le_refl _), endW_map s q s.size O h.1 (Nat.le_refl _)]
  rfl

theorem rwordsI_any (w : World) (s : ByteArray) (hs : s.size ≤ 1000000) : Calls Tryd.prog 33 #[.string s] w fun e w' => ∃ v ws, e = .returned v ∧ Hid (KT w v ws w' ∧ ws.map strL = wordsG (strL s) [] ∧ ws.length ≤ s.size + 1) := by
  have si : (s.size : Int) ≤ 1000000 := by omega
  have hs' : Hid (s.size ≤ 1000000) := hs
  obtain ⟨i9, hi9, hz0, hz1, hz2⟩ := info_parts infoT
  clear hs
  go_enter Tryd.func33, Tryd.ntmps33
  go_wp2
  go_loopw [3, 4, 5] (fun v f i wz => ∃ (p q : Nat) (u : Value) (O : List ByteArray) (y : World), y = wz ∧ u = v ∧ f = .int .i64 (q : Int) ∧ i = .int .i64 (p : Int) ∧ Hid (Wat (strL s) s.size p q O) ∧ Hid (KT w u O y ∧ O.length ≤ p)) (fun _ _ i _ => (s.size + 1 - intOf i).toNat)
  case atStart => exact ⟨0, 0, _, [], w, rfl, rfl, rfl, rfl, ⟨by omega, by omega, fun _ => by simp, fun e => by omega⟩, ⟨⟨World.ownsRow_nil _ _ _ 1, Below.refl _ _⟩, by simp⟩⟩
  case round =>
    obtain ⟨p, q, u, O, y, rfl, rfl, rfl, rfl, J, K⟩ := hrel
    by_cases hlt : p < s.size
    · have hpi : (p : Int) < s.size := by omega
      have hpe : ((p : Int) == s.size) = false := by rw [beq_eq_false_iff_ne]; omega
      have hple : (p : Int) ≤ s.size := by omega
      have hqi : (q : Int) ≤ p := by have := J.out.1; omega
      have hlt' : Hid (p < s.size) := hlt
      have hget := strL_get s p hlt
      by_cases b59 : s[p]'hlt = 59
      · rw [b59] at hget
        have fin := J.out.mark hlt hget
        have e1 : (((s[p]'hlt).toNat : Int) == 32) = false := by rw [b59]; decide
        have e2 : (((s[p]'hlt).toNat : Int) == 9) = false := by rw [b59]; decide
        have e3 : (((s[p]'hlt).toNat : Int) == 59) = true := by rw [b59]; decide
        replace hget : Hid _ := hget
        replace b59 : Hid _ := b59
        by_cases hqp : q < p
        · have fq : decide (q < p) = true := by simp; omega
          have fin2 : Hid ((O ++ [s.extract q p]).map strL = wordsG (strL s) []) := by
            show _ = _
            rw [← fin]
            unfold endW
            rw [if_pos hqp]
          clear fin
          go_wp2_with (at_builtin; refine wpList_append_own _ rfl (.tmp 37) (.tmp 42) 59 rfl w.heap.size 9 i9 (.string ⟨#[]⟩) 1 16 Tryd.underlying59 hi9 hz0 hz1 hz2 rfl (by decide) u O.length (O.map .string) rfl (K.out.1.1.alloc _) ⟨y.heap.size, 0, none⟩ 1 1 [.string (s.extract q p)] rfl rfl (one_str y _) (by simp [Value.oneCell']) ?_ ?_ ?_ ?_; (have := K.out.2; have := hs'.out; have := J.out.2.1; unfold maxLen; omega); (have := K.out.2; have := hs'.out; have := J.out.2.1; omega); (have := K.out.1.2.size; simp; omega); intro v' w' ho hg _; have K2 : Hid (KT w v' (O ++ [s.extract q p]) w' ∧ (O ++ [s.extract q p]).length ≤ p + 1) := ⟨K.out.1.add ho hg, by have := K.out.2; simp; omega⟩; clear ho hg)
          go_ret
          exact ⟨_, _, rfl, K2.out.1, fin2.out, by have := K2.out.2; have := hlt'.out; omega⟩
        · have fq : decide (q < p) = false := by simp; omega
          have fin2 : Hid (O.map strL = wordsG (strL s) []) := by
            show _ = _
            rw [← fin]
            unfold endW
            rw [if_neg hqp]
          clear fin
          go_wp2
          go_ret
          exact ⟨_, _, rfl, K.out.1, fin2.out, by have := K.out.2; have := hlt'.out; omega⟩
      · have e3 : (((s[p]'hlt).toNat : Int) == 59) = false := by
          rw [beq_eq_false_iff_ne]
          intro e
          exact b59 (UInt8.toNat_inj.1 (by show (s[p]'hlt).toNat = 59; omega))
        by_cases bs : s[p]'hlt = 32 ∨ s[p]'hlt = 9
        · have J2 := J.out.cut hlt hget b59 bs
          have e12 : (((s[p]'hlt).toNat : Int) == 32) = true ∨ (((s[p]'hlt).toNat : Int) == 32) = false ∧ (((s[p]'hlt).toNat : Int) == 9) = true := by
            rcases bs with h | h
            · exact .inl (by rw [h]; decide)
            · exact .inr ⟨by rw [h]; decide, by rw [h]; decide⟩
          replace hget : Hid _ := hget
          replace b59 : Hid _ := b59
          replace bs : Hid _ := bs
          by_cases hqp : q < p
          · have fq : decide (q < p) = true := by simp; omega
            have J3 : Hid (Wat (strL s) s.size (p + 1) (p + 1) (O ++ [s.extract q p])) := by
              unfold endW at J2
              rw [if_pos hqp] at J2
              exact J2
            clear J2
            rcases e12 with e1 | ⟨e1, e2⟩
            all_goals
              go_wp2_with (at_builtin; refine wpList_append_own _ rfl (.tmp 37) (.tmp 42) 59 rfl w.heap.size 9 i9 (.string ⟨#[]⟩) 1 16 Tryd.underlying59 hi9 hz0 hz1 hz2 rfl (by decide) u O.length (O.map .string) rfl (K.out.1.1.alloc _) ⟨y.heap.size, 0, none⟩ 1 1 [.string (s.extract q p)] rfl rfl (one_str y _) (by simp [Value.oneCell']) ?_ ?_ ?_ ?_; (have := K.out.2; have := hs'.out; have := J.out.2.1; unfold maxLen; omega); (have := K.out.2; have := hs'.out; have := J.out.2.1; omega); (have := K.out.1.2.size; simp; omega); intro v' w' ho hg _; have K2 : Hid (KT w v' (O ++ [s.extract q p]) w' ∧ (O ++ [s.extract q p]).length ≤ p + 1) := ⟨K.out.1.add ho hg, by have := K.out.2; simp; omega⟩; clear ho hg)
              go_roundw
              case rel => exact ⟨p + 1, p + 1, _, _, _, rfl, rfl, by simp, by simp, J3, K2⟩
              case measure => have := hlt'.out; simp [intOf]; omega
          · have fq : decide (q < p) = false := by simp; omega
            have J3 : Hid (Wat (strL s) s.size (p + 1) (p + 1) O) := by
              unfold endW at J2
              rw [if_neg hqp] at J2
              exact J2
            clear J2
            rcases e12 with e1 | ⟨e1, e2⟩
            all_goals
              go_wp2
              go_roundw
              case rel => exact ⟨p + 1, p + 1, _, _, _, rfl, rfl, by simp, by simp, J3, ⟨K.out.1, by have := K.out.2; omega⟩⟩
              case measure => have := hlt'.out; simp [intOf]; omega
        · have b32 : s[p]'hlt ≠ 32 := fun h => bs (.inl h)
          have b9 : s[p]'hlt ≠ 9 := fun h => bs (.inr h)
          have J2 : Hid (Wat (strL s) s.size (p + 1) q O) := J.out.more hlt hget b59 b32 b9
          have e1 : (((s[p]'hlt).toNat : Int) == 32) = false := by
            rw [beq_eq_false_iff_ne]
            intro e
            exact b32 (UInt8.toNat_inj.1 (by show (s[p]'hlt).toNat = 32; omega))
          have e2 : (((s[p]'hlt).toNat : Int) == 9) = false := by
            rw [beq_eq_false_iff_ne]
            intro e
            exact b9 (UInt8.toNat_inj.1 (by show (s[p]'hlt).toNat = 9; omega))
          replace hget : Hid _ := hget
          replace b59 : Hid _ := b59
          replace bs : Hid _ := bs
          clear b32 b9
          go_wp2
          go_roundw
          case rel => exact ⟨p + 1, q, _, O, _, rfl, rfl, rfl, by simp, J2, ⟨K.out.1, by have := K.out.2; omega⟩⟩
          case measure => have := hlt'.out; simp [intOf]; omega
    · by_cases hpe : p = s.size
      · have J2 : Wat (strL s) s.size (p + 1) (p + 1) (endW s q p O) := by have h := J.out; rw [hpe] at h ⊢; exact h.last
        have hpi : ((p : Int) == s.size) = true := by rw [beq_iff_eq]; omega
        have hpl : decide (p ≤ s.size) = true := by simp; omega
        have hpn : decide (p < s.size) = false := by simp; omega
        have hpm : ¬ p < s.size := by omega
        have hpk : p ≤ s.size := by omega
        have hple : (p : Int) ≤ s.size := by omega
        have hqi : (q : Int) ≤ p := by have := J.out.1; omega
        have hpe' : Hid (p = s.size) := hpe
        clear hlt hpe
        by_cases hqp : q < p
        · have fq : decide (q < p) = true := by simp; omega
          have J3 : Hid (Wat (strL s) s.size (p + 1) (p + 1) (O ++ [s.extract q p])) := by
            unfold endW at J2
            rw [if_pos hqp] at J2
            exact J2
          clear J2
          go_wp2_with (at_builtin; refine wpList_append_own _ rfl (.tmp 37) (.tmp 42) 59 rfl w.heap.size 9 i9 (.string ⟨#[]⟩) 1 16 Tryd.underlying59 hi9 hz0 hz1 hz2 rfl (by decide) u O.length (O.map .string) rfl (K.out.1.1.alloc _) ⟨y.heap.size, 0, none⟩ 1 1 [.string (s.extract q p)] rfl rfl (one_str y _) (by simp [Value.oneCell']) ?_ ?_ ?_ ?_; (have := K.out.2; have := hs'.out; have := J.out.2.1; unfold maxLen; omega); (have := K.out.2; have := hs'.out; have := J.out.2.1; omega); (have := K.out.1.2.size; simp; omega); intro v' w' ho hg _; have K2 : Hid (KT w v' (O ++ [s.extract q p]) w' ∧ (O ++ [s.extract q p]).length ≤ p + 1) := ⟨K.out.1.add ho hg, by have := K.out.2; simp; omega⟩; clear ho hg)
          go_roundw
          case rel => exact ⟨p + 1, p + 1, _, _, _, rfl, rfl, by simp, by simp, J3, K2⟩
          case measure => have := hpe'.out; simp [intOf]; omega
        · have fq : decide (q < p) = false := by simp; omega
          have J3 : Hid (Wat (strL s) s.size (p + 1) (p + 1) O) := by
            unfold endW at J2
            rw [if_neg hqp] at J2
            exact J2
          clear J2
          go_wp2
          go_roundw
          case rel => exact ⟨p + 1, p + 1, _, _, _, rfl, rfl, by simp, by simp, J3, ⟨K.out.1, by have := K.out.2; omega⟩⟩
          case measure => have := hpe'.out; simp [intOf]; omega
      · have hpx : p = s.size + 1 := by have := J.out.2.1; omega
        have fin : Hid (O.map strL = wordsG (strL s) []) := (J.out.2.2.2 hpx).symm
        have hpl : ¬ p ≤ s.size := by omega
        have hpx' : Hid (p = s.size + 1) := hpx
        clear hlt hpe hpx
        go_wp2
        go_ret
        exact ⟨_, _, rfl, K.out.1, fin.out, by have := K.out.2; have := hpx'.out; omega⟩
end Go.Proofs.YtmaedkbmjbggpaaDoor
/- A line's label, by the document. -/
namespace Go.Proofs.YtmaedkbmjbggpaaDoor
open Go Go.RowKit
set_option linter.unusedVariables false
set_option maxHeartbeats 3000000
set_option maxRecDepth 20000

def z6 : Ri := ⟨0, ⟨#[]⟩, 0, ⟨#[]⟩, 0, none, 0, 0⟩
theorem i6_one (r : Ri) : (i6 r).all (·.oneCell') = true := by simp [i6, Value.oneCell']
theorem built0 : Tryd.prog.built 39 [] = some (i6 z6) := by kernel_rfl
def labR (n : ByteArray) : Ri := ⟨1, n, 0, ⟨#[]⟩, 0, none, 0, 0⟩
theorem built_lab (n : ByteArray) : Tryd.prog.built 39 [(0, .int .u8 1), (1, .string n)] = some (i6 (labR n)) := by kernel_rfl
theorem mayI_lab (n : ByteArray) : mayI (labR n) = isNm n := by
  unfold mayI labR
  simp
  intro _
  rfl
/-- What a label's line says, by its first word. -/
def labOk (x : ByteArray) : Bool := decide ((strL x).getLast? = some 58) && isNm (x.extract 0 (x.size - 1))

theorem rlabel_more (w : World) (sp : Option Addr) (n cap : Nat) (x : ByteArray) (hx : Hid (0 < x.size)) (h0 : Hid (∃ g, sp = some ⟨g, 0, none⟩ ∧ w.cell? ⟨g, 0, none⟩ = some (.string x))) (hn : 1 < n) (hn2 : n ≤ 1000001) : Calls Tryd.prog 57 #[.slice sp n cap] w fun e w' => e = .returned (.tuple #[.agg (i6 z6), .bool false]) ∧ Below w.heap.size w w' := by
  have K1 : Hid (Fm w [(w.heap.size, i6 z6, 39)] (w.alloc (.cells #[.int .u8 0, .string ⟨#[]⟩, .int .i64 0, .string ⟨#[]⟩, .int .u8 0, .slice none 0 0] 39))) := Fm.one w _ _
  obtain ⟨g, rfl, hc⟩ := h0.out
  have ij := fun v => idxT g n cap 0 (by omega) v
  have ni : (1 : Int) < n := by omega
  have q1 : ((n : Int) != 1) = true := by rw [bne_iff_ne]; omega
  have c0 : (w.alloc (.cells #[.int .u8 0, .string ⟨#[]⟩, .int .i64 0, .string ⟨#[]⟩, .int .u8 0, .slice none 0 0] 39)).cell? ⟨g, 0, none⟩ = some (.string x) := (K1.out.low.cell (p := ⟨g, 0, none⟩) (World.block_lt_of_cell? w _ hc)).trans hc
  replace hc : Hid _ := hc
  clear hn hn2
  go_enter Tryd.func57, Tryd.ntmps57
  go_wp2_with (first
    | ((with_reducible refine at_bu #[] [] (i6 z6) ?_ ?_ ?_ built0 ?_); kernel_rfl; rfl; rfl)
    | ((with_reducible refine at_st rt6 w.heap.size (i6 z6) (i6 z6) ?_ ?_ ?_ ?_ (.tmp 2) (.tmp 21) ?_ ?_ ?_ ?_ ?_); exact K1.out.bx 0 _ _ _ rfl; rfl; rfl; exact i6_one _; rfl; rfl; rfl; rfl; intro y2 hw2; have K2 : Hid (Fm w [(w.heap.size, i6 z6, 39)] y2) := K1.out.put 0 _ _ _ _ rfl hw2.out))
  exact ret_row2 rt6 rfl rfl rfl (K2.out.bx 0 _ _ _ rfl) rfl rfl ⟨rfl, K2.out.low⟩
theorem rlabel_one (w : World) (sp : Option Addr) (cap : Nat) (x : ByteArray) (hx : 0 < x.size) (hx2 : x.size ≤ 1000000) (h0 : Hid (∃ g, sp = some ⟨g, 0, none⟩ ∧ w.cell? ⟨g, 0, none⟩ = some (.string x))) (hl : x[x.size - 1]'(by omega) ≠ 58) : Calls Tryd.prog 57 #[.slice sp 1 cap] w fun e w' => e = .returned (.tuple #[.agg (i6 z6), .bool false]) ∧ Below w.heap.size w w' := by
  have K1 : Hid (Fm w [(w.heap.size, i6 z6, 39)] (w.alloc (.cells #[.int .u8 0, .string ⟨#[]⟩, .int .i64 0, .string ⟨#[]⟩, .int .u8 0, .slice none 0 0] 39))) := Fm.one w _ _
  obtain ⟨g, rfl, hc⟩ := h0.out
  have ij := fun v => idxT g 1 cap 0 (by omega) v
  have c0 : (w.alloc (.cells #[.int .u8 0, .string ⟨#[]⟩, .int .i64 0, .string ⟨#[]⟩, .int .u8 0, .slice none 0 0] 39)).cell? ⟨g, 0, none⟩ = some (.string x) := (K1.out.low.cell (p := ⟨g, 0, none⟩) (World.block_lt_of_cell? w _ hc)).trans hc
  replace hc : Hid _ := hc
  have x1 : (1 : Int) ≤ x.size := by omega
  have x2 : (x.size : Int) ≤ 1000000 := by omega
  have x3 : ((x.size : Int) - 1).toNat = x.size - 1 := by omega
  have x4 : (x.size : Int) - 1 < x.size := by omega
  have x5 : 0 ≤ (x.size : Int) - 1 := by omega
  have l1 : (((x[x.size - 1]'(by omega)).toNat : Int) != 58) = true := by
    rw [bne_iff_ne]
    intro e
    exact hl (UInt8.toNat_inj.1 (by show (x[x.size - 1]'(by omega)).toNat = 58; omega))
  go_enter Tryd.func57, Tryd.ntmps57
  go_wp2_with (first
    | ((with_reducible refine at_bu #[] [] (i6 z6) ?_ ?_ ?_ built0 ?_); kernel_rfl; rfl; rfl)
    | ((with_reducible refine at_st rt6 w.heap.size (i6 z6) (i6 z6) ?_ ?_ ?_ ?_ (.tmp 2) (.tmp 21) ?_ ?_ ?_ ?_ ?_); exact K1.out.bx 0 _ _ _ rfl; rfl; rfl; exact i6_one _; rfl; rfl; rfl; rfl; intro y2 hw2; have K2 : Hid (Fm w [(w.heap.size, i6 z6, 39)] y2) := K1.out.put 0 _ _ _ _ rfl hw2.out))
  exact ret_row2 rt6 rfl rfl rfl (K2.out.bx 0 _ _ _ rfl) rfl rfl ⟨rfl, K2.out.low⟩
theorem rlabel_yes (w : World) (sp : Option Addr) (cap : Nat) (x : ByteArray) (hx : 0 < x.size) (hx2 : x.size ≤ 1000000) (h0 : Hid (∃ g, sp = some ⟨g, 0, none⟩ ∧ w.cell? ⟨g, 0, none⟩ = some (.string x))) (hl : x[x.size - 1]'(by omega) = 58) : Calls Tryd.prog 57 #[.slice sp 1 cap] w fun e w' => e = .returned (.tuple #[.agg (i6 (labR (x.extract 0 (x.size - 1)))), .bool (isNm (x.extract 0 (x.size - 1)))]) ∧ Below w.heap.size w w' := by
  have K1 : Hid (Fm w [(w.heap.size, i6 z6, 39)] (w.alloc (.cells #[.int .u8 0, .string ⟨#[]⟩, .int .i64 0, .string ⟨#[]⟩, .int .u8 0, .slice none 0 0] 39))) := Fm.one w _ _
  have K3 : Hid (Fm w [(w.heap.size, i6 z6, 39), (w.heap.size + 1, i6 (labR (x.extract 0 (x.size - 1))), 39)] ((w.alloc (.cells #[.int .u8 0, .string ⟨#[]⟩, .int .i64 0, .string ⟨#[]⟩, .int .u8 0, .slice none 0 0] 39)).alloc (.cells #[.int .u8 1, .string (x.extract 0 (x.size - 1)), .int .i64 0, .string ⟨#[]⟩, .int .u8 0, .slice none 0 0] 39))) := Fm.two w _ _ _ _
  have hM := fun v => rmayI_any v (labR (x.extract 0 (x.size - 1)))
  simp only [mayI_lab] at hM
  obtain ⟨g, rfl, hc⟩ := h0.out
  have ij := fun v => idxT g 1 cap 0 (by omega) v
  have c0 : (w.alloc (.cells #[.int .u8 0, .string ⟨#[]⟩, .int .i64 0, .string ⟨#[]⟩, .int .u8 0, .slice none 0 0] 39)).cell? ⟨g, 0, none⟩ = some (.string x) := (K1.out.low.cell (p := ⟨g, 0, none⟩) (World.block_lt_of_cell? w _ hc)).trans hc
  replace hc : Hid _ := hc
  have x1 : (1 : Int) ≤ x.size := by omega
  have x2 : (x.size : Int) ≤ 1000000 := by omega
  have x3 : ((x.size : Int) - 1).toNat = x.size - 1 := by omega
  have x4 : (x.size : Int) - 1 < x.size := by omega
  have x5 : 0 ≤ (x.size : Int) - 1 := by omega
  have x6 : (x.size : Int) - 1 ≤ x.size := by omega
  have l1 : (((x[x.size - 1]'(by omega)).toNat : Int) != 58) = false := by
    rw [bne_eq_false_iff_eq, hl]
    rfl
  replace hl : Hid _ := hl
  go_enter Tryd.func57, Tryd.ntmps57
  go_wp2_with (first
    | ((with_reducible refine at_load rt6 (w.heap.size + 1) (i6 (labR (x.extract 0 (x.size - 1)))) ?_ ?_ (.tmp 5) ?_ ?_ ?_ ?_); (first | exact K3.out.bx 1 _ _ _ rfl | exact K4.out.bx 1 _ _ _ rfl); rfl; rfl; rfl; rfl)
    | (go_at_call 21; refine (hM _).mono ?_; rintro e y2 ⟨rfl, h2⟩; have K4 : Hid (Fm w [(w.heap.size, i6 z6, 39), (w.heap.size + 1, i6 (labR (x.extract 0 (x.size - 1))), 39)] y2) := K3.out.below h2; clear h2)
    | ((with_reducible refine at_st rt6 w.heap.size (i6 z6) (i6 (labR (x.extract 0 (x.size - 1)))) ?_ ?_ ?_ ?_ (.tmp 2) (.tmp 30) ?_ ?_ ?_ ?_ ?_); exact K4.out.bx 0 _ _ _ rfl; rfl; rfl; exact i6_one _; rfl; rfl; rfl; rfl; intro y5 hw5; have K5 : Hid (Fm w [(w.heap.size, i6 (labR (x.extract 0 (x.size - 1))), 39), (w.heap.size + 1, i6 (labR (x.extract 0 (x.size - 1))), 39)] y5) := K4.out.put 0 _ _ _ _ rfl hw5.out))
  exact ret_row2 rt6 rfl rfl rfl (K5.out.bx 0 _ _ _ rfl) rfl rfl ⟨rfl, K5.out.low⟩
end Go.Proofs.YtmaedkbmjbggpaaDoor
/- An instruction's line of three words, by the document. -/
namespace Go.Proofs.YtmaedkbmjbggpaaDoor
open Go Go.RowKit
set_option linter.unusedVariables false
set_option maxHeartbeats 3000000
set_option maxRecDepth 20000

def ordR (n l : ByteArray) (a p : Int) : Ri := ⟨2, n, a, l, p, none, 0, 0⟩
theorem rord_to (w : World) (sp : Option Addr) (cap : Nat) (x0 x1 x2 : ByteArray) (h0 : Hid (∃ g, sp = some ⟨g, 0, none⟩ ∧ w.cell? ⟨g, 0, none⟩ = some (.string x0) ∧ w.cell? ⟨g, 1, none⟩ = some (.string x1) ∧ w.cell? ⟨g, 2, none⟩ = some (.string x2))) (hw : x1 = ⟨#[116, 111]⟩) : Calls Tryd.prog 60 #[.slice sp 3 cap] w fun e w' => e = .returned (.tuple #[.agg (i6 (ordR x0 x2 0 1)), .bool (mayI (ordR x0 x2 0 1))]) ∧ Below w.heap.size w w' := by
  have K3 : Hid (Fm w [(w.heap.size, i6 z6, 39), (w.heap.size + 1, i6 (ordR x0 x2 0 1), 39)] ((w.alloc (.cells #[.int .u8 0, .string ⟨#[]⟩, .int .i64 0, .string ⟨#[]⟩, .int .u8 0, .slice none 0 0] 39)).alloc (.cells #[.int .u8 2, .string x0, .int .i64 0, .string x2, .int .u8 1, .slice none 0 0] 39))) := Fm.two w _ _ _ _
  have hM := fun v => rmayI_any v (ordR x0 x2 0 1)
  generalize mayI (ordR x0 x2 0 1) = ok at hM
  obtain ⟨g, rfl, hc0, hc1, hc2⟩ := h0.out
  have i0 := fun v => idxT g 3 cap 0 (by omega) v
  have i1 := fun v => idxT g 3 cap 1 (by omega) v
  have i2 := fun v => idxT g 3 cap 2 (by omega) v
  have lg := World.block_lt_of_cell? w _ hc0
  have q1 : (x1.toList == [116, 111]) = true := by rw [str_is]; exact decide_eq_true hw
  go_enter Tryd.func60, Tryd.ntmps60
  go_wp2_with (first
    | ((with_reducible refine at_load rt6 (w.heap.size + 1) (i6 (ordR x0 x2 0 1)) ?_ ?_ (.tmp 4) ?_ ?_ ?_ ?_); (first | exact K3.out.bx 1 _ _ _ rfl | exact K4.out.bx 1 _ _ _ rfl); rfl; rfl; rfl; rfl)
    | (go_at_call 21; refine (hM _).mono ?_; rintro e y2 ⟨rfl, h2⟩; have K4 : Hid (Fm w [(w.heap.size, i6 z6, 39), (w.heap.size + 1, i6 (ordR x0 x2 0 1), 39)] y2) := K3.out.below h2; clear h2)
    | ((with_reducible refine at_st rt6 w.heap.size (i6 z6) (i6 (ordR x0 x2 0 1)) ?_ ?_ ?_ ?_ (.tmp 2) (.tmp 35) ?_ ?_ ?_ ?_ ?_); exact K4.out.bx 0 _ _ _ rfl; rfl; rfl; exact i6_one _; rfl; rfl; rfl; rfl; intro y5 hw5; have K5 : Hid (Fm w [(w.heap.size, i6 (ordR x0 x2 0 1), 39), (w.heap.size + 1, i6 (ordR x0 x2 0 1), 39)] y5) := K4.out.put 0 _ _ _ _ rfl hw5.out))
  exact ret_row2 rt6 rfl rfl rfl (K5.out.bx 0 _ _ _ rfl) rfl rfl ⟨rfl, K5.out.low⟩
theorem rord_high (w : World) (sp : Option Addr) (cap : Nat) (x0 x1 x2 : ByteArray) (h0 : Hid (∃ g, sp = some ⟨g, 0, none⟩ ∧ w.cell? ⟨g, 0, none⟩ = some (.string x0) ∧ w.cell? ⟨g, 1, none⟩ = some (.string x1) ∧ w.cell? ⟨g, 2, none⟩ = some (.string x2))) (hw : x1 = ⟨#[104, 105, 103, 104]⟩) : Calls Tryd.prog 60 #[.slice sp 3 cap] w fun e w' => e = .returned (.tuple #[.agg (i6 (ordR x0 x2 0 2)), .bool (mayI (ordR x0 x2 0 2))]) ∧ Below w.heap.size w w' := by
  have K3 : Hid (Fm w [(w.heap.size, i6 z6, 39), (w.heap.size + 1, i6 (ordR x0 x2 0 2), 39)] ((w.alloc (.cells #[.int .u8 0, .string ⟨#[]⟩, .int .i64 0, .string ⟨#[]⟩, .int .u8 0, .slice none 0 0] 39)).alloc (.cells #[.int .u8 2, .string x0, .int .i64 0, .string x2, .int .u8 2, .slice none 0 0] 39))) := Fm.two w _ _ _ _
  have hM := fun v => rmayI_any v (ordR x0 x2 0 2)
  generalize mayI (ordR x0 x2 0 2) = ok at hM
  obtain ⟨g, rfl, hc0, hc1, hc2⟩ := h0.out
  have i0 := fun v => idxT g 3 cap 0 (by omega) v
  have i1 := fun v => idxT g 3 cap 1 (by omega) v
  have i2 := fun v => idxT g 3 cap 2 (by omega) v
  have lg := World.block_lt_of_cell? w _ hc0
  have q1 : (x1.toList == [116, 111]) = false := by rw [str_is]; exact decide_eq_false (by rw [hw]; decide)
  have q2 : (x1.toList == [104, 105, 103, 104]) = true := by rw [str_is]; exact decide_eq_true hw
  go_enter Tryd.func60, Tryd.ntmps60
  go_wp2_with (first
    | ((with_reducible refine at_load rt6 (w.heap.size + 1) (i6 (ordR x0 x2 0 2)) ?_ ?_ (.tmp 4) ?_ ?_ ?_ ?_); (first | exact K3.out.bx 1 _ _ _ rfl | exact K4.out.bx 1 _ _ _ rfl); rfl; rfl; rfl; rfl)
    | (go_at_call 21; refine (hM _).mono ?_; rintro e y2 ⟨rfl, h2⟩; have K4 : Hid (Fm w [(w.heap.size, i6 z6, 39), (w.heap.size + 1, i6 (ordR x0 x2 0 2), 39)] y2) := K3.out.below h2; clear h2)
    | ((with_reducible refine at_st rt6 w.heap.size (i6 z6) (i6 (ordR x0 x2 0 2)) ?_ ?_ ?_ ?_ (.tmp 2) (.tmp 35) ?_ ?_ ?_ ?_ ?_); exact K4.out.bx 0 _ _ _ rfl; rfl; rfl; exact i6_one _; rfl; rfl; rfl; rfl; intro y5 hw5; have K5 : Hid (Fm w [(w.heap.size, i6 (ordR x0 x2 0 2), 39), (w.heap.size + 1, i6 (ordR x0 x2 0 2), 39)] y5) := K4.out.put 0 _ _ _ _ rfl hw5.out))
  exact ret_row2 rt6 rfl rfl rfl (K5.out.bx 0 _ _ _ rfl) rfl rfl ⟨rfl, K5.out.low⟩
theorem rord_low (w : World) (sp : Option Addr) (cap : Nat) (x0 x1 x2 : ByteArray) (h0 : Hid (∃ g, sp = some ⟨g, 0, none⟩ ∧ w.cell? ⟨g, 0, none⟩ = some (.string x0) ∧ w.cell? ⟨g, 1, none⟩ = some (.string x1) ∧ w.cell? ⟨g, 2, none⟩ = some (.string x2))) (hw : x1 = ⟨#[108, 111, 119]⟩) : Calls Tryd.prog 60 #[.slice sp 3 cap] w fun e w' => e = .returned (.tuple #[.agg (i6 (ordR x0 x2 0 3)), .bool (mayI (ordR x0 x2 0 3))]) ∧ Below w.heap.size w w' := by
  have K3 : Hid (Fm w [(w.heap.size, i6 z6, 39), (w.heap.size + 1, i6 (ordR x0 x2 0 3), 39)] ((w.alloc (.cells #[.int .u8 0, .string ⟨#[]⟩, .int .i64 0, .string ⟨#[]⟩, .int .u8 0, .slice none 0 0] 39)).alloc (.cells #[.int .u8 2, .string x0, .int .i64 0, .string x2, .int .u8 3, .slice none 0 0] 39))) := Fm.two w _ _ _ _
  have hM := fun v => rmayI_any v (ordR x0 x2 0 3)
  generalize mayI (ordR x0 x2 0 3) = ok at hM
  obtain ⟨g, rfl, hc0, hc1, hc2⟩ := h0.out
  have i0 := fun v => idxT g 3 cap 0 (by omega) v
  have i1 := fun v => idxT g 3 cap 1 (by omega) v
  have i2 := fun v => idxT g 3 cap 2 (by omega) v
  have lg := World.block_lt_of_cell? w _ hc0
  have q1 : (x1.toList == [116, 111]) = false := by rw [str_is]; exact decide_eq_false (by rw [hw]; decide)
  have q2 : (x1.toList == [104, 105, 103, 104]) = false := by rw [str_is]; exact decide_eq_false (by rw [hw]; decide)
  have q3 : (x1.toList == [108, 111, 119]) = true := by rw [str_is]; exact decide_eq_true hw
  go_enter Tryd.func60, Tryd.ntmps60
  go_wp2_with (first
    | ((with_reducible refine at_load rt6 (w.heap.size + 1) (i6 (ordR x0 x2 0 3)) ?_ ?_ (.tmp 4) ?_ ?_ ?_ ?_); (first | exact K3.out.bx 1 _ _ _ rfl | exact K4.out.bx 1 _ _ _ rfl); rfl; rfl; rfl; rfl)
    | (go_at_call 21; refine (hM _).mono ?_; rintro e y2 ⟨rfl, h2⟩; have K4 : Hid (Fm w [(w.heap.size, i6 z6, 39), (w.heap.size + 1, i6 (ordR x0 x2 0 3), 39)] y2) := K3.out.below h2; clear h2)
    | ((with_reducible refine at_st rt6 w.heap.size (i6 z6) (i6 (ordR x0 x2 0 3)) ?_ ?_ ?_ ?_ (.tmp 2) (.tmp 35) ?_ ?_ ?_ ?_ ?_); exact K4.out.bx 0 _ _ _ rfl; rfl; rfl; exact i6_one _; rfl; rfl; rfl; rfl; intro y5 hw5; have K5 : Hid (Fm w [(w.heap.size, i6 (ordR x0 x2 0 3), 39), (w.heap.size + 1, i6 (ordR x0 x2 0 3), 39)] y5) := K4.out.put 0 _ _ _ _ rfl hw5.out))
  exact ret_row2 rt6 rfl rfl rfl (K5.out.bx 0 _ _ _ rfl) rfl rfl ⟨rfl, K5.out.low⟩
theorem rord_other (w : World) (sp : Option Addr) (cap : Nat) (x0 x1 : ByteArray) (h0 : Hid (∃ g, sp = some ⟨g, 0, none⟩ ∧ w.cell? ⟨g, 0, none⟩ = some (.string x0) ∧ w.cell? ⟨g, 1, none⟩ = some (.string x1))) (hw : ¬ x1 = ⟨#[116, 111]⟩ ∧ ¬ x1 = ⟨#[104, 105, 103, 104]⟩ ∧ ¬ x1 = ⟨#[108, 111, 119]⟩) : Calls Tryd.prog 60 #[.slice sp 3 cap] w fun e w' => e = .returned (.tuple #[.agg (i6 z6), .bool false]) ∧ Below w.heap.size w w' := by
  have K3 : Hid (Fm w [(w.heap.size, i6 z6, 39), (w.heap.size + 1, i6 (ordR x0 ⟨#[]⟩ 0 0), 39)] ((w.alloc (.cells #[.int .u8 0, .string ⟨#[]⟩, .int .i64 0, .string ⟨#[]⟩, .int .u8 0, .slice none 0 0] 39)).alloc (.cells #[.int .u8 2, .string x0, .int .i64 0, .string ⟨#[]⟩, .int .u8 0, .slice none 0 0] 39))) := Fm.two w _ _ _ _
  obtain ⟨g, rfl, hc0, hc1⟩ := h0.out
  have i0 := fun v => idxT g 3 cap 0 (by omega) v
  have i1 := fun v => idxT g 3 cap 1 (by omega) v
  have lg := World.block_lt_of_cell? w _ hc0
  have q1 : (x1.toList == [116, 111]) = false := by rw [str_is]; exact decide_eq_false hw.1
  have q2 : (x1.toList == [104, 105, 103, 104]) = false := by rw [str_is]; exact decide_eq_false hw.2.1
  have q3 : (x1.toList == [108, 111, 119]) = false := by rw [str_is]; exact decide_eq_false hw.2.2
  replace hw : Hid _ := hw
  go_enter Tryd.func60, Tryd.ntmps60
  go_wp2_with (first
    | ((with_reducible refine at_st rt6 w.heap.size (i6 z6) (i6 z6) ?_ ?_ ?_ ?_ (.tmp 2) (.tmp 19) ?_ ?_ ?_ ?_ ?_); exact K3.out.bx 0 _ _ _ rfl; rfl; rfl; exact i6_one _; rfl; rfl; rfl; rfl; intro y5 hw5; have K5 : Hid (Fm w [(w.heap.size, i6 z6, 39), (w.heap.size + 1, i6 (ordR x0 ⟨#[]⟩ 0 0), 39)] y5) := K3.out.put 0 _ _ _ _ rfl hw5.out))
  exact ret_row2 rt6 rfl rfl rfl (K5.out.bx 0 _ _ _ rfl) rfl rfl ⟨rfl, K5.out.low⟩
theorem rord_many (w : World) (sp : Option Addr) (n cap : Nat) (x0 : ByteArray) (h0 : Hid (∃ g, sp = some ⟨g, 0, none⟩ ∧ w.cell? ⟨g, 0, none⟩ = some (.string x0))) (hn : 3 < n) (hn2 : n ≤ 1000001) : Calls Tryd.prog 60 #[.slice sp n cap] w fun e w' => e = .returned (.tuple #[.agg (i6 z6), .bool false]) ∧ Below w.heap.size w w' := by
  have K3 : Hid (Fm w [(w.heap.size, i6 z6, 39), (w.heap.size + 1, i6 (ordR x0 ⟨#[]⟩ 0 0), 39)] ((w.alloc (.cells #[.int .u8 0, .string ⟨#[]⟩, .int .i64 0, .string ⟨#[]⟩, .int .u8 0, .slice none 0 0] 39)).alloc (.cells #[.int .u8 2, .string x0, .int .i64 0, .string ⟨#[]⟩, .int .u8 0, .slice none 0 0] 39))) := Fm.two w _ _ _ _
  obtain ⟨g, rfl, hc0⟩ := h0.out
  have i0 := fun v => idxT g n cap 0 (by omega) v
  have lg := World.block_lt_of_cell? w _ hc0
  have q1 : ((n : Int) == 3) = false := by rw [beq_eq_false_iff_ne]; omega
  have q2 : (2 : Int) < n := by omega
  go_enter Tryd.func60, Tryd.ntmps60
  go_wp2_with (first
    | ((with_reducible refine at_st rt6 w.heap.size (i6 z6) (i6 z6) ?_ ?_ ?_ ?_ (.tmp 2) (.tmp 40) ?_ ?_ ?_ ?_ ?_); exact K3.out.bx 0 _ _ _ rfl; rfl; rfl; exact i6_one _; rfl; rfl; rfl; rfl; intro y5 hw5; have K5 : Hid (Fm w [(w.heap.size, i6 z6, 39), (w.heap.size + 1, i6 (ordR x0 ⟨#[]⟩ 0 0), 39)] y5) := K3.out.put 0 _ _ _ _ rfl hw5.out))
  exact ret_row2 rt6 rfl rfl rfl (K5.out.bx 0 _ _ _ rfl) rfl rfl ⟨rfl, K5.out.low⟩
end Go.Proofs.YtmaedkbmjbggpaaDoor
/- An instruction's line of one word or two, by the document. -/
namespace Go.Proofs.YtmaedkbmjbggpaaDoor
open Go Go.RowKit
set_option linter.unusedVariables false
set_option maxHeartbeats 3000000
set_option maxRecDepth 20000

theorem rord1_no (w : World) (sp : Option Addr) (cap : Nat) (x0 : ByteArray) (h0 : Hid (∃ g, sp = some ⟨g, 0, none⟩ ∧ w.cell? ⟨g, 0, none⟩ = some (.string x0))) (hs : x0.size ≤ 1000000) (hw : ¬ parseE x0 = 0) : Calls Tryd.prog 60 #[.slice sp 1 cap] w fun e w' => e = .returned (.tuple #[.agg (i6 z6), .bool false]) ∧ Below w.heap.size w w' := by
  have K3 : Hid (Fm w [(w.heap.size, i6 z6, 39), (w.heap.size + 1, i6 (ordR x0 ⟨#[]⟩ 0 0), 39)] ((w.alloc (.cells #[.int .u8 0, .string ⟨#[]⟩, .int .i64 0, .string ⟨#[]⟩, .int .u8 0, .slice none 0 0] 39)).alloc (.cells #[.int .u8 2, .string x0, .int .i64 0, .string ⟨#[]⟩, .int .u8 0, .slice none 0 0] 39))) := Fm.two w _ _ _ _
  have hP := fun v => rparse_any x0 (by omega) v
  obtain ⟨E, hE⟩ : ∃ e, parseE x0 = e := ⟨_, rfl⟩
  obtain ⟨N, hN⟩ : ∃ e, parseN x0 = e := ⟨_, rfl⟩
  obtain ⟨A, hA⟩ : ∃ e, parseA x0 = e := ⟨_, rfl⟩
  rw [hE] at hw
  simp only [hE, hN, hA, retI] at hP ⊢
  clear hE hN hA
  have qe : (E != 0) = true := by rw [bne_iff_ne]; exact hw
  obtain ⟨g, rfl, hc0⟩ := h0.out
  have i0 := fun v => idxT g 1 cap 0 (by omega) v
  have lg := World.block_lt_of_cell? w _ hc0
  clear hs
  replace hw : Hid _ := hw
  go_enter Tryd.func60, Tryd.ntmps60
  go_wp2_with (first
    | (go_at_call 83; refine (hP _).mono ?_; rintro e y2 ⟨rfl, h2⟩; have K4 : Hid (Fm w [(w.heap.size, i6 z6, 39), (w.heap.size + 1, i6 (ordR x0 ⟨#[]⟩ 0 0), 39), (y2.heap.size, #[.string N, .int .i64 A], 71)] (y2.alloc (.cells #[.string N, .int .i64 A] 71))) := (K3.out.below h2).new _ _; clear h2)
    | ((with_reducible refine at_st rt6 w.heap.size (i6 z6) (i6 z6) ?_ ?_ ?_ ?_ (.tmp 2) (.tmp 60) ?_ ?_ ?_ ?_ ?_); exact K4.out.bx 0 _ _ _ rfl; rfl; rfl; exact i6_one _; rfl; rfl; rfl; rfl; intro y5 hw5; have K5 : Hid (Fm w [(w.heap.size, i6 z6, 39), (w.heap.size + 1, i6 (ordR x0 ⟨#[]⟩ 0 0), 39), (y2.heap.size, #[.string N, .int .i64 A], 71)] y5) := K4.out.put 0 _ _ _ _ rfl hw5.out))
  exact ret_row2 rt6 rfl rfl rfl (K5.out.bx 0 _ _ _ rfl) rfl rfl ⟨rfl, K5.out.low⟩
theorem rord1_yes (w : World) (sp : Option Addr) (cap : Nat) (x0 : ByteArray) (h0 : Hid (∃ g, sp = some ⟨g, 0, none⟩ ∧ w.cell? ⟨g, 0, none⟩ = some (.string x0))) (hs : x0.size ≤ 1000000) (hw : parseE x0 = 0) : Calls Tryd.prog 60 #[.slice sp 1 cap] w fun e w' => e = .returned (.tuple #[.agg (i6 (ordR x0 ⟨#[]⟩ (parseA x0) 0)), .bool true]) ∧ Below w.heap.size w w' := by
  have K3 : Hid (Fm w [(w.heap.size, i6 z6, 39), (w.heap.size + 1, i6 (ordR x0 ⟨#[]⟩ 0 0), 39)] ((w.alloc (.cells #[.int .u8 0, .string ⟨#[]⟩, .int .i64 0, .string ⟨#[]⟩, .int .u8 0, .slice none 0 0] 39)).alloc (.cells #[.int .u8 2, .string x0, .int .i64 0, .string ⟨#[]⟩, .int .u8 0, .slice none 0 0] 39))) := Fm.two w _ _ _ _
  have hP := fun v => rparse_any x0 (by omega) v
  obtain ⟨E, hE⟩ : ∃ e, parseE x0 = e := ⟨_, rfl⟩
  obtain ⟨N, hN⟩ : ∃ e, parseN x0 = e := ⟨_, rfl⟩
  obtain ⟨A, hA⟩ : ∃ e, parseA x0 = e := ⟨_, rfl⟩
  rw [hE] at hw
  simp only [hE, hN, hA, retI] at hP ⊢
  clear hE hN hA
  have qe : (E != 0) = false := by rw [bne_eq_false_iff_eq]; exact hw
  obtain ⟨g, rfl, hc0⟩ := h0.out
  have i0 := fun v => idxT g 1 cap 0 (by omega) v
  have lg := World.block_lt_of_cell? w _ hc0
  clear hs
  replace hw : Hid _ := hw
  go_enter Tryd.func60, Tryd.ntmps60
  go_wp2_with (first
    | (go_at_call 83; refine (hP _).mono ?_; rintro e y2 ⟨rfl, h2⟩; have K4 : Hid (Fm w [(w.heap.size, i6 z6, 39), (w.heap.size + 1, i6 (ordR x0 ⟨#[]⟩ 0 0), 39), (y2.heap.size, #[.string N, .int .i64 A], 71)] (y2.alloc (.cells #[.string N, .int .i64 A] 71))) := (K3.out.below h2).new _ _; clear h2; have g1 := (K4.out.bx 2 _ _ _ rfl).c 1 (.int .i64 A) rfl; have z1 := (K4.out.bx 1 _ _ _ rfl).fz 2; have z2 := (K4.out.bx 1 _ _ _ rfl).c 2 (.int .i64 0) rfl; have K6 : Hid (Fm w [(w.heap.size, i6 z6, 39), (w.heap.size + 1, i6 (ordR x0 ⟨#[]⟩ A 0), 39), (y2.heap.size, #[.string N, .int .i64 A], 71)] ((y2.alloc (.cells #[.string N, .int .i64 A] 71)).setCell ⟨w.heap.size + 1, 2, none⟩ (.int .i64 A))) := K4.out.setCell 1 _ _ _ _ rfl 2 _ rfl)
    | ((with_reducible refine at_load rt6 (w.heap.size + 1) (i6 (ordR x0 ⟨#[]⟩ A 0)) ?_ ?_ (.tmp 4) ?_ ?_ ?_ ?_); exact K6.out.bx 1 _ _ _ rfl; rfl; rfl; rfl; rfl)
    | ((with_reducible refine at_st rt6 w.heap.size (i6 z6) (i6 (ordR x0 ⟨#[]⟩ A 0)) ?_ ?_ ?_ ?_ (.tmp 2) (.tmp 64) ?_ ?_ ?_ ?_ ?_); exact K6.out.bx 0 _ _ _ rfl; rfl; rfl; exact i6_one _; rfl; rfl; rfl; rfl; intro y5 hw5; have K5 : Hid (Fm w [(w.heap.size, i6 (ordR x0 ⟨#[]⟩ A 0), 39), (w.heap.size + 1, i6 (ordR x0 ⟨#[]⟩ A 0), 39), (y2.heap.size, #[.string N, .int .i64 A], 71)] y5) := K6.out.put 0 _ _ _ _ rfl hw5.out))
  exact ret_row2 rt6 rfl rfl rfl (K5.out.bx 0 _ _ _ rfl) rfl rfl ⟨rfl, K5.out.low⟩
theorem rord2_no (w : World) (sp : Option Addr) (cap : Nat) (x0 x1 : ByteArray) (h0 : Hid (∃ g, sp = some ⟨g, 0, none⟩ ∧ w.cell? ⟨g, 0, none⟩ = some (.string x0) ∧ w.cell? ⟨g, 1, none⟩ = some (.string x1))) (hs : x0.size ≤ 1000000 ∧ x1.size ≤ 1000000) (hw : ¬ parseE (x0 ++ ⟨#[32]⟩ ++ x1) = 0) : Calls Tryd.prog 60 #[.slice sp 2 cap] w fun e w' => e = .returned (.tuple #[.agg (i6 z6), .bool false]) ∧ Below w.heap.size w w' := by
  have K3 : Hid (Fm w [(w.heap.size, i6 z6, 39), (w.heap.size + 1, i6 (ordR x0 ⟨#[]⟩ 0 0), 39)] ((w.alloc (.cells #[.int .u8 0, .string ⟨#[]⟩, .int .i64 0, .string ⟨#[]⟩, .int .u8 0, .slice none 0 0] 39)).alloc (.cells #[.int .u8 2, .string x0, .int .i64 0, .string ⟨#[]⟩, .int .u8 0, .slice none 0 0] 39))) := Fm.two w _ _ _ _
  have hP := fun v => rparse_any (x0 ++ ⟨#[32]⟩ ++ x1) (by have e : (⟨#[32]⟩ : ByteArray).size = 1 := rfl; rw [ByteArray.size_append, ByteArray.size_append]; omega) v
  obtain ⟨E, hE⟩ : ∃ e, parseE (x0 ++ ⟨#[32]⟩ ++ x1) = e := ⟨_, rfl⟩
  obtain ⟨N, hN⟩ : ∃ e, parseN (x0 ++ ⟨#[32]⟩ ++ x1) = e := ⟨_, rfl⟩
  obtain ⟨A, hA⟩ : ∃ e, parseA (x0 ++ ⟨#[32]⟩ ++ x1) = e := ⟨_, rfl⟩
  rw [hE] at hw
  simp only [hE, hN, hA, retI] at hP ⊢
  clear hE hN hA
  have qe : (E != 0) = true := by rw [bne_iff_ne]; exact hw
  obtain ⟨g, rfl, hc0, hc1⟩ := h0.out
  have i0 := fun v => idxT g 2 cap 0 (by omega) v
  have i1 := fun v => idxT g 2 cap 1 (by omega) v
  have s0 : (x0.size : Int) ≤ 1000000 := by omega
  have s1 : (x1.size : Int) ≤ 1000000 := by omega
  have lg := World.block_lt_of_cell? w _ hc0
  clear hs
  replace hw : Hid _ := hw
  go_enter Tryd.func60, Tryd.ntmps60
  go_wp2_with (first
    | (go_at_call 83; refine (hP _).mono ?_; rintro e y2 ⟨rfl, h2⟩; have K4 : Hid (Fm w [(w.heap.size, i6 z6, 39), (w.heap.size + 1, i6 (ordR x0 ⟨#[]⟩ 0 0), 39), (y2.heap.size, #[.string N, .int .i64 A], 71)] (y2.alloc (.cells #[.string N, .int .i64 A] 71))) := (K3.out.below h2).new _ _; clear h2)
    | ((with_reducible refine at_st rt6 w.heap.size (i6 z6) (i6 z6) ?_ ?_ ?_ ?_ (.tmp 2) (.tmp 60) ?_ ?_ ?_ ?_ ?_); exact K4.out.bx 0 _ _ _ rfl; rfl; rfl; exact i6_one _; rfl; rfl; rfl; rfl; intro y5 hw5; have K5 : Hid (Fm w [(w.heap.size, i6 z6, 39), (w.heap.size + 1, i6 (ordR x0 ⟨#[]⟩ 0 0), 39), (y2.heap.size, #[.string N, .int .i64 A], 71)] y5) := K4.out.put 0 _ _ _ _ rfl hw5.out))
  exact ret_row2 rt6 rfl rfl rfl (K5.out.bx 0 _ _ _ rfl) rfl rfl ⟨rfl, K5.out.low⟩
theorem rord2_yes (w : World) (sp : Option Addr) (cap : Nat) (x0 x1 : ByteArray) (h0 : Hid (∃ g, sp = some ⟨g, 0, none⟩ ∧ w.cell? ⟨g, 0, none⟩ = some (.string x0) ∧ w.cell? ⟨g, 1, none⟩ = some (.string x1))) (hs : x0.size ≤ 1000000 ∧ x1.size ≤ 1000000) (hw : parseE (x0 ++ ⟨#[32]⟩ ++ x1) = 0) : Calls Tryd.prog 60 #[.slice sp 2 cap] w fun e w' => e = .returned (.tuple #[.agg (i6 (ordR x0 ⟨#[]⟩ (parseA (x0 ++ ⟨#[32]⟩ ++ x1)) 0)), .bool true]) ∧ Below w.heap.size w w' := by
  have K3 : Hid (Fm w [(w.heap.size, i6 z6, 39), (w.heap.size + 1, i6 (ordR x0 ⟨#[]⟩ 0 0), 39)] ((w.alloc (.cells #[.int .u8 0, .string ⟨#[]⟩, .int .i64 0, .string ⟨#[]⟩, .int .u8 0, .slice none 0 0] 39)).alloc (.cells #[.int .u8 2, .string x0, .int .i64 0, .string ⟨#[]⟩, .int .u8 0, .slice none 0 0] 39))) := Fm.two w _ _ _ _
  have hP := fun v => rparse_any (x0 ++ ⟨#[32]⟩ ++ x1) (by have e : (⟨#[32]⟩ : ByteArray).size = 1 := rfl; rw [ByteArray.size_append, ByteArray.size_append]; omega) v
  obtain ⟨E, hE⟩ : ∃ e, parseE (x0 ++ ⟨#[32]⟩ ++ x1) = e := ⟨_, rfl⟩
  obtain ⟨N, hN⟩ : ∃ e, parseN (x0 ++ ⟨#[32]⟩ ++ x1) = e := ⟨_, rfl⟩
  obtain ⟨A, hA⟩ : ∃ e, parseA (x0 ++ ⟨#[32]⟩ ++ x1) = e := ⟨_, rfl⟩
  rw [hE] at hw
  simp only [hE, hN, hA, retI] at hP ⊢
  clear hE hN hA
  have qe : (E != 0) = false := by rw [bne_eq_false_iff_eq]; exact hw
  obtain ⟨g, rfl, hc0, hc1⟩ := h0.out
  have i0 := fun v => idxT g 2 cap 0 (by omega) v
  have i1 := fun v => idxT g 2 cap 1 (by omega) v
  have s0 : (x0.size : Int) ≤ 1000000 := by omega
  have s1 : (x1.size : Int) ≤ 1000000 := by omega
  have lg := World.block_lt_of_cell? w _ hc0
  clear hs
  replace hw : Hid _ := hw
  go_enter Tryd.func60, Tryd.ntmps60
  go_wp2_with (first
    | (go_at_call 83; refine (hP _).mono ?_; rintro e y2 ⟨rfl, h2⟩; have K4 : Hid (Fm w [(w.heap.size, i6 z6, 39), (w.heap.size + 1, i6 (ordR x0 ⟨#[]⟩ 0 0), 39), (y2.heap.size, #[.string N, .int .i64 A], 71)] (y2.alloc (.cells #[.string N, .int .i64 A] 71))) := (K3.out.below h2).new _ _; clear h2; have g1 := (K4.out.bx 2 _ _ _ rfl).c 1 (.int .i64 A) rfl; have z1 := (K4.out.bx 1 _ _ _ rfl).fz 2; have z2 := (K4.out.bx 1 _ _ _ rfl).c 2 (.int .i64 0) rfl; have K6 : Hid (Fm w [(w.heap.size, i6 z6, 39), (w.heap.size + 1, i6 (ordR x0 ⟨#[]⟩ A 0), 39), (y2.heap.size, #[.string N, .int .i64 A], 71)] ((y2.alloc (.cells #[.string N, .int .i64 A] 71)).setCell ⟨w.heap.size + 1, 2, none⟩ (.int .i64 A))) := K4.out.setCell 1 _ _ _ _ rfl 2 _ rfl)
    | ((with_reducible refine at_load rt6 (w.heap.size + 1) (i6 (ordR x0 ⟨#[]⟩ A 0)) ?_ ?_ (.tmp 4) ?_ ?_ ?_ ?_); exact K6.out.bx 1 _ _ _ rfl; rfl; rfl; rfl; rfl)
    | ((with_reducible refine at_st rt6 w.heap.size (i6 z6) (i6 (ordR x0 ⟨#[]⟩ A 0)) ?_ ?_ ?_ ?_ (.tmp 2) (.tmp 64) ?_ ?_ ?_ ?_ ?_); exact K6.out.bx 0 _ _ _ rfl; rfl; rfl; exact i6_one _; rfl; rfl; rfl; rfl; intro y5 hw5; have K5 : Hid (Fm w [(w.heap.size, i6 (ordR x0 ⟨#[]⟩ A 0), 39), (w.heap.size + 1, i6 (ordR x0 ⟨#[]⟩ A 0), 39), (y2.heap.size, #[.string N, .int .i64 A], 71)] y5) := K6.out.put 0 _ _ _ _ rfl hw5.out))
  exact ret_row2 rt6 rfl rfl rfl (K5.out.bx 0 _ _ _ rfl) rfl rfl ⟨rfl, K5.out.low⟩
end Go.Proofs.YtmaedkbmjbggpaaDoor
