/- A source written as a text, by the document. -/
import Derived.Test.YtmaedkbmjbggpaaDoorJIg
namespace Go.Proofs.YtmaedkbmjbggpaaDoor
open Go Go.RowKit
set_option linter.unusedVariables false
set_option maxHeartbeats 2000000
set_option maxRecDepth 20000

theorem isNm_le {s : ByteArray} (h : isNm s = true) : s.size ≤ 16 := (of_decide_eq_true h).2.1
theorem mayI_small {r : Ri} (h : mayI r = true) : r.n.size ≤ 16 ∧ r.l.size ≤ 16 ∧ r.m ≤ 256 := by
  unfold mayI at h
  by_cases h2 : r.k = 2
  · rw [if_pos h2] at h
    unfold codeI at h
    rcases e : opOf r.n with _ | n
    · rw [e] at h; cases h
    · rw [e] at h
      have h4 := opOf_small e
      have h' : codeF (fm n) r = true := h
      unfold codeF at h'
      rw [Bool.and_eq_true, decide_eq_true_iff] at h'
      obtain ⟨m0, h'⟩ := h'
      refine ⟨by omega, ?_, by omega⟩
      by_cases hp : r.p = 0
      · rw [if_pos hp, Bool.and_eq_true, decide_eq_true_iff] at h'
        omega
      · rw [if_neg hp, Bool.and_eq_true] at h'
        exact isNm_le h'.1
  · rw [if_neg h2] at h
    by_cases hp : r.p = 0
    · rw [if_neg (by omega)] at h
      by_cases h1 : r.k = 1
      · rw [if_pos h1] at h
        simp only [Bool.and_eq_true, decide_eq_true_iff] at h
        exact ⟨isNm_le h.1, by omega, by omega⟩
      rw [if_neg h1] at h
      by_cases h3 : r.k = 3
      · rw [if_pos h3] at h
        simp only [Bool.and_eq_true, decide_eq_true_iff] at h
        omega
      rw [if_neg h3] at h
      by_cases h4 : r.k = 4
      · rw [if_pos h4] at h
        simp only [Bool.and_eq_true, decide_eq_true_iff] at h
        omega
      rw [if_neg h4] at h
      by_cases h5 : r.k = 5
      · rw [if_pos h5] at h
        simp only [Bool.and_eq_true, decide_eq_true_iff] at h
        exact ⟨by omega, isNm_le h.1, by omega⟩
      rw [if_neg h5] at h
      cases h
    · rw [if_pos hp] at h
      cases h
theorem line_small {r : Ri} {b : List UInt8} (h1 : r.n.size ≤ 16) (h2 : r.l.size ≤ 16) (h3 : b.length ≤ 256) : (lineI r b).size ≤ 1000 := by
  have c1 := hexOf_le r.a 4
  have c2 := printS_le r.n r.a
  unfold lineI
  split
  · rw [ByteArray.size_append]; show _ + 1 ≤ _; omega
  split
  · show ([32, 100, 97, 116, 97] ++ dataL b).toArray.size ≤ _
    rw [List.size_toArray, List.length_append, dataL_len]
    show 5 + _ ≤ _
    omega
  split
  · rw [ByteArray.size_append]; show 4 + _ ≤ _; omega
  split
  · rw [ByteArray.size_append]; show 9 + _ ≤ _; omega
  split
  · rw [ByteArray.size_append, ByteArray.size_append, ByteArray.size_append]; show 1 + _ + 4 + _ ≤ _; omega
  split
  · rw [ByteArray.size_append, ByteArray.size_append, ByteArray.size_append]; show 1 + _ + 6 + _ ≤ _; omega
  split
  · rw [ByteArray.size_append, ByteArray.size_append, ByteArray.size_append]; show 1 + _ + 5 + _ ≤ _; omega
  · rw [ByteArray.size_append]; show 1 + _ ≤ _; omega

/-- An item with its bytes. -/
abbrev Itm := Ri × List UInt8
def printL (L : List Itm) : List UInt8 := L.flatMap fun x => strL (lineI x.1 x.2) ++ [10]
def printIE (L : List Itm) : Int := if ¬ checkE (L.map (·.1)) = 0 then checkE (L.map (·.1)) else if 65536 < (printL L).length then 2 else 0
def printIB (L : List Itm) : ByteArray := if printIE L = 0 then ⟨(printL L).toArray⟩ else ⟨#[]⟩
/-- Items whose bytes lie where they say. -/
def Good (w : World) (x : Itm) : Prop := LB8 w x.1.sp x.2 ∧ x.2.length = x.1.m ∧ x.1.a ≤ 9223372036854775807
theorem checkE_ok {l : List Ri} (h : checkE l = 0) : l.length ≤ 4096 ∧ ∀ r ∈ l, mayI r = true := by
  unfold checkE at h
  split at h
  · cases h
  · rename_i hl
    split at h
    · cases h
    · rename_i hb
      refine ⟨by omega, fun r hr => ?_⟩
      have : badI l = none := by simpa using hb
      unfold badI at this
      rw [List.findIdx?_eq_none_iff] at this
      have := this r hr
      simpa using this

theorem at_listL {α : Type} {l : List α} {n i : Nat} (h : l.length = n) (hi : i < n) : ∃ s, l[i]? = some s ∧ l.drop i = s :: l.drop (i + 1) :=
  ⟨l[i]'(by omega), List.getElem?_eq_getElem (by omega), List.drop_eq_getElem_cons (by omega)⟩
theorem rprintI_any (w : World) (sp : Option Addr) (cap : Nat) (l : List Ri) (L : List Itm) (hL : Hid (l = L.map (·.1))) (hl : Hid (LI w sp l)) (hn : l.length ≤ 9223372036854775807) (hk : Hid (∀ x ∈ L, Good w x)) :
    Calls Tryd.prog 14 #[.slice sp l.length cap] w fun e w' => e = .returned (.tuple #[.string (printIB L), .int .i64 (printIE L)]) ∧ Hid (Below w.heap.size w w') := by
  have hC := rcheckI_any w sp cap l hl hn
  obtain ⟨n, hn'⟩ : ∃ n, l.length = n := ⟨_, rfl⟩
  have ni : (n : Int) ≤ 9223372036854775807 := by omega
  obtain ⟨CN, hCN⟩ : ∃ n, checkN l = n := ⟨_, rfl⟩
  rw [hCN] at hC
  clear hCN
  by_cases h0 : ¬ checkE l = 0
  · have e1 : printIE L = checkE l := by unfold printIE; rw [← hL.out, if_pos h0]
    have e2 : printIB L = ⟨#[]⟩ := by unfold printIB; rw [e1, if_neg h0]
    rw [e1, e2]
    obtain ⟨X, hX⟩ : ∃ C, checkE l = C := ⟨_, rfl⟩
    rw [hX] at hC h0 ⊢
    rw [hn'] at hC ⊢
    have q : (X != 0) = true := by simpa using h0
    clear h0 hX hn hn' e1 e2
    go_enter Tryd.func14, Tryd.ntmps14
    go_wp2_with (go_at_call 10; refine hC.mono ?_; rintro e x ⟨rfl, hx⟩; replace hx : Hid _ := hx)
    go_ret2
    exact ⟨rfl, hx⟩
  replace h0 : checkE l = 0 := Decidable.of_not_not h0
  obtain ⟨k1, k2⟩ := checkE_ok h0
  obtain ⟨PL, hPL⟩ : ∃ x, printL L = x := ⟨_, rfl⟩
  have hPL' : Hid (printL L = PL) := hPL
  obtain ⟨PE, hPE⟩ : ∃ x, printIE L = x := ⟨_, rfl⟩
  obtain ⟨PB, hPB⟩ : ∃ x, printIB L = x := ⟨_, rfl⟩
  have hPE' : Hid (PE = if 65536 < PL.length then 2 else 0) := by show PE = _; rw [← hPE, ← hPL]; unfold printIE; rw [← hL.out, if_neg (by simpa using h0)]
  have hPB' : Hid (PB = if PE = 0 then ⟨PL.toArray⟩ else ⟨#[]⟩) := by show PB = _; rw [← hPB, ← hPE, ← hPL]; rfl
  have hgood : Hid (∀ x ∈ L, Good w x ∧ mayI x.1 = true) := fun x hx => ⟨hk.out x hx, k2 x.1 (by rw [hL.out]; exact List.mem_map_of_mem hx)⟩
  rw [hPE, hPB]
  rw [h0, hn'] at hC
  rw [hn']
  have hl' : Hid (l.length = n ∧ L.length = n) := ⟨hn', by rw [← hn', hL.out, List.length_map]⟩
  have ni4 : (n : Int) ≤ 4194304 := by omega
  clear h0 hn hn' k1 k2 hPL hPE hPB ni
  go_enter Tryd.func14, Tryd.ntmps14
  go_wp2_with (go_at_call 10; refine hC.mono ?_; rintro e x0 ⟨rfl, hx⟩; replace hx : Hid _ := hx)
  go_loopw [6, 7] (fun o t wz => ∃ (i : Nat) (va : Value) (B : List UInt8) (y : World), y = wz ∧ va = o ∧ t = .int .i64 (i : Int) ∧ Hid (i ≤ n ∧ B.length ≤ 65536 ∧ PL = B ++ printL (L.drop i)) ∧ Hid (KB w va B y)) (fun _ t _ => (n - intOf t).toNat)
  case atStart => exact ⟨0, _, [], x0, rfl, rfl, rfl, ⟨Nat.zero_le _, Nat.zero_le _, hPL'.out.symm⟩, (KB.nil w).below hx.out⟩
  case round =>
    obtain ⟨i, va, B, y, rfl, rfl, rfl, J, K⟩ := hrel
    by_cases hlt : i < n
    · obtain ⟨s, hs, hdrop⟩ := at_listL hl'.out.2 hlt
      have hs1 : l[i]? = some s.1 := by rw [hL.out, List.getElem?_map, hs]; rfl
      obtain ⟨gb, ob, hsp, hR0⟩ := hl.out i s.1 hs1
      subst hsp
      have hR : Hid (y.rangeAt gb (ob + i * 6) (i6 s.1).toList) := range_keep hR0 K.out.2
      clear hR0
      have ij := fun v => idxP (g := gb) (off := ob) (len := n) (cap := cap) Tryd.underlying22 (s := 6) (by kernel_rfl) .i64 i v hlt
      have hji : (i : Int) < n := by omega
      have hi' : Hid (i < n) := hlt
      have gs := hgood.out s (List.mem_of_getElem? hs)
      obtain ⟨sm1, sm2, sm3⟩ := mayI_small gs.2
      have hcall := rlineI_any y s.1 s.2 (gs.1.1.below K.out.2) gs.1.2.1 (by rw [gs.1.2.1]; exact sm3) ⟨by omega, by omega⟩ gs.1.2.2
      obtain ⟨i5, hi5, hz0, hz1, hz2⟩ := info_parts infoB
      clear hlt
      have hLs : Hid ((lineI s.1 s.2).size ≤ 1000) := line_small sm1 sm2 (by rw [gs.1.2.1]; exact sm3)
      clear sm1 sm2 sm3 hs1
      have J2 : Hid (PL = (B ++ strL (lineI s.1 s.2) ++ [10]) ++ printL (L.drop (i + 1))) := by
        have h1 := J.out
        rw [hdrop] at h1
        show PL = _
        rw [h1.2.2]
        simp [printL]
      obtain ⟨LS, hLS⟩ : ∃ x, lineI s.1 s.2 = x := ⟨_, rfl⟩
      rw [hLS] at hcall hLs J2
      have hBl : Hid (B.length ≤ 65536) := J.out.2.1
      obtain ⟨m, hm⟩ : ∃ m, (B ++ strL LS ++ [10]).length = m := ⟨_, rfl⟩
      have hm' : Hid ((B ++ strL LS ++ [10]).length = m) := hm
      have hm0 : m ≤ 66537 := by rw [← hm]; have h1 := hBl.out; have h2 := hLs.out; simp only [List.length_append, strL_len, List.length_cons, List.length_nil]; omega
      replace hs : Hid _ := hs
      replace hdrop : Hid _ := hdrop
      replace gs : Hid _ := gs
      clear hLS hm
      by_cases hbig : 65536 < m
      · have qb : decide ((65536 : Int) < m) = true := by simp; omega
        have fin : Hid (PB = ⟨#[]⟩ ∧ PE = 2) := by
          have h2 : 65536 < PL.length := by
            have h1 := congrArg List.length J2.out
            rw [List.length_append, hm'.out] at h1
            omega
          have e : PE = 2 := by rw [hPE'.out, if_pos h2]
          exact ⟨by rw [hPB'.out, e]; rfl, e⟩
        clear hbig
        go_wp2_with (first
          | ((with_reducible refine at_loadm rt6 gb (ob + i * 6) (i6 s.1) ?_ ?_ (.tmp 25) ?_ ?_ ?_ ?_); exact hR.out; rfl; kernel_rfl; rfl; rfl)
          | (go_at_call 27; refine hcall.mono ?_; rintro e y2 ⟨rfl, H2⟩; have K2 : Hid (KB w va B y2) := K.out.below H2; clear H2)
          | (at_builtin; refine Lib.wpList_append_own_string _ rfl (.tmp 28) (.tmp 29) 37 9 rfl w.heap.size 5 i5 Tryd.underlying37 Tryd.underlying9 hi5 hz0 hz1 hz2 va B.length (B.map byV) rfl K2.out.1 LS rfl ?_ ?_ ?_ ?_; (have h1 := hBl.out; have h2 := hLs.out; unfold maxLen; omega); (have h1 := hBl.out; have h2 := hLs.out; omega); exact K2.out.2.size; intro v3 y3 h3 h4 h5; have K3 : Hid (KB w v3 (B ++ strL LS) y3) := K2.out.str h3 h4; clear h3 h4 h5)
          | (at_builtin; refine wpList_append_own _ rfl (.tmp 31) (.tmp 32) 37 rfl w.heap.size 5 i5 (.int .u8 0) 1 1 Tryd.underlying37 hi5 hz0 hz1 hz2 rfl (by decide) v3 (B ++ strL LS).length ((B ++ strL LS).map byV) rfl (K3.out.1.alloc _) ⟨y3.heap.size, 0, none⟩ 1 1 [byV 10] rfl rfl (one_byt y3 _) (by simp [Value.oneCell', byV]) ?_ ?_ ?_ ?_; (have h1 := hBl.out; have h2 := hLs.out; rw [List.length_append, strL_len]; unfold maxLen; omega); (have h1 := hBl.out; have h2 := hLs.out; rw [List.length_append, strL_len]; omega); (have := K3.out.2.size; simp; omega); intro v4 y4 h3 h4 h5; have K4 : Hid (KB w v4 (B ++ strL LS ++ [10]) y4) := K3.out.one h3 h4; clear h3 h4 h5; obtain ⟨⟨sp4, cap4, e4⟩, _⟩ := K4.out.open; rw [hm'.out] at e4; subst e4))
        go_ret2
        rw [fin.out.1, fin.out.2]
        exact ⟨rfl, K4.out.2⟩
      · have qb : decide ((65536 : Int) < m) = false := by simp; omega
        have J3 : Hid (i + 1 ≤ n ∧ (B ++ strL LS ++ [10]).length ≤ 65536 ∧ PL = (B ++ strL LS ++ [10]) ++ printL (L.drop (i + 1))) := ⟨hi'.out, by rw [hm'.out]; omega, J2.out⟩
        clear hbig
        go_wp2_with (first
          | ((with_reducible refine at_loadm rt6 gb (ob + i * 6) (i6 s.1) ?_ ?_ (.tmp 25) ?_ ?_ ?_ ?_); exact hR.out; rfl; kernel_rfl; rfl; rfl)
          | (go_at_call 27; refine hcall.mono ?_; rintro e y2 ⟨rfl, H2⟩; have K2 : Hid (KB w va B y2) := K.out.below H2; clear H2)
          | (at_builtin; refine Lib.wpList_append_own_string _ rfl (.tmp 28) (.tmp 29) 37 9 rfl w.heap.size 5 i5 Tryd.underlying37 Tryd.underlying9 hi5 hz0 hz1 hz2 va B.length (B.map byV) rfl K2.out.1 LS rfl ?_ ?_ ?_ ?_; (have h1 := hBl.out; have h2 := hLs.out; unfold maxLen; omega); (have h1 := hBl.out; have h2 := hLs.out; omega); exact K2.out.2.size; intro v3 y3 h3 h4 h5; have K3 : Hid (KB w v3 (B ++ strL LS) y3) := K2.out.str h3 h4; clear h3 h4 h5)
          | (at_builtin; refine wpList_append_own _ rfl (.tmp 31) (.tmp 32) 37 rfl w.heap.size 5 i5 (.int .u8 0) 1 1 Tryd.underlying37 hi5 hz0 hz1 hz2 rfl (by decide) v3 (B ++ strL LS).length ((B ++ strL LS).map byV) rfl (K3.out.1.alloc _) ⟨y3.heap.size, 0, none⟩ 1 1 [byV 10] rfl rfl (one_byt y3 _) (by simp [Value.oneCell', byV]) ?_ ?_ ?_ ?_; (have h1 := hBl.out; have h2 := hLs.out; rw [List.length_append, strL_len]; unfold maxLen; omega); (have h1 := hBl.out; have h2 := hLs.out; rw [List.length_append, strL_len]; omega); (have := K3.out.2.size; simp; omega); intro v4 y4 h3 h4 h5; have K4 : Hid (KB w v4 (B ++ strL LS ++ [10]) y4) := K3.out.one h3 h4; clear h3 h4 h5; obtain ⟨⟨sp4, cap4, e4⟩, _⟩ := K4.out.open; rw [hm'.out] at e4; subst e4))
        go_roundw
        case rel => exact ⟨i + 1, _, _, _, rfl, rfl, by simp, J3, K4⟩
        case measure => have := hi'.out; simp [intOf]; omega
    · have hin : i = n := by have := J.out.1; omega
      subst hin
      have hB : Hid (B = PL) := by
        have h1 := J.out.2.2
        rw [List.drop_eq_nil_of_le (by rw [hl'.out.2]; exact Nat.le_refl _), show printL [] = [] from rfl, List.append_nil] at h1
        exact h1.symm
      obtain ⟨⟨sp', cap', rfl⟩, hcv⟩ := K.out.open
      have fin : Hid (PB = ⟨B.toArray⟩ ∧ PE = 0) := by
        have e : PE = 0 := by rw [hPE'.out, if_neg (by rw [← hB.out]; have := J.out.2.1; omega)]
        exact ⟨by rw [hPB'.out, e, hB.out]; rfl, e⟩
      obtain ⟨m, hm⟩ : ∃ m, B.length = m := ⟨_, rfl⟩
      rw [hm] at hcv ⊢
      clear hlt hm
      go_wp2
      go_ret2
      rw [fin.out.1, fin.out.2]
      exact ⟨rfl, K.out.2⟩
end Go.Proofs.YtmaedkbmjbggpaaDoor
