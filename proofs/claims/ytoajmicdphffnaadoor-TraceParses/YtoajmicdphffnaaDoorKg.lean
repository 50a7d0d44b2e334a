/- A trace written as a text, by the document. -/
import Derived.Test.YtoajmicdphffnaaDoorKf
import Derived.Test.YtoajmicdphffnaaDoorKe
namespace Go.Proofs.YtoajmicdphffnaaDoor
open Go Go.RowKit
set_option linter.unusedVariables false
set_option maxHeartbeats 2000000
set_option maxRecDepth 20000

theorem rprint_any (w : World) (sp : Option Addr) (cap : Nat) (l : List Rc) (hl : Hid (LiesR w sp l)) (hn : l.length ≤ 9223372036854775807) (hk : Hid (AllG l)) :
    Calls Tryd.prog 12 #[.slice sp l.length cap] w fun e w' => e = .returned (.tuple #[.string (printB l), .int .i64 (printE l)]) ∧ Hid (Below w.heap.size w w') := by
  have hC := rcheck_any w sp cap l hl hn
  obtain ⟨n, hn'⟩ : ∃ n, l.length = n := ⟨_, rfl⟩
  have ni : (n : Int) ≤ 9223372036854775807 := by omega
  by_cases h0 : ¬ checkR l = 0
  · have e1 : printE l = checkR l := by unfold printE; rw [if_pos h0]
    have e2 : printB l = ⟨#[]⟩ := by unfold printB; rw [e1, if_neg h0]
    rw [e1, e2]
    obtain ⟨X, hX⟩ : ∃ C, checkR l = C := ⟨_, rfl⟩
    rw [hX] at hC h0 ⊢
    rw [hn'] at hC ⊢
    have q : (X != 0) = true := by simpa using h0
    clear h0 hX hn hn' e1 e2
    go_enter Tryd.func12, Tryd.ntmps12
    go_wp2_with (go_at_call 32; refine hC.mono ?_; rintro e x ⟨rfl, hx⟩; replace hx : Hid _ := hx)
    go_ret2
    exact ⟨rfl, hx⟩
  replace h0 : checkR l = 0 := Decidable.of_not_not h0
  obtain ⟨k1, k2⟩ := check_ok h0
  obtain ⟨PL, hPL⟩ : ∃ x, printR l = x := ⟨_, rfl⟩
  have hPL' : Hid (printR l = PL) := hPL
  obtain ⟨PE, hPE⟩ : ∃ x, printE l = x := ⟨_, rfl⟩
  obtain ⟨PB, hPB⟩ : ∃ x, printB l = x := ⟨_, rfl⟩
  have hPE' : Hid (PE = if 65536 < PL.length then 2 else 0) := by show PE = _; rw [← hPE, ← hPL]; unfold printE; rw [if_neg (by simpa using h0)]
  have hPB' : Hid (PB = if PE = 0 then ⟨PL.toArray⟩ else ⟨#[]⟩) := by show PB = _; rw [← hPB, ← hPE, ← hPL]; rfl
  have hgood : Hid (∀ s ∈ l, Rr s ∧ mayR s = true) := fun s hs => ⟨hk.out s hs, allM_mem k2 s hs⟩
  rw [hPE, hPB]
  rw [h0, hn'] at hC
  rw [hn']
  have hl' : Hid (l.length = n) := hn'
  have ni4 : (n : Int) ≤ 4194304 := by omega
  clear h0 hn hn' k1 k2 hPL hPE hPB ni
  go_enter Tryd.func12, Tryd.ntmps12
  go_wp2_with (go_at_call 32; refine hC.mono ?_; rintro e x0 ⟨rfl, hx⟩; replace hx : Hid _ := hx)
  go_loopw [5, 6] (fun o t wz => ∃ (i : Nat) (va : Value) (B : List UInt8) (y : World), y = wz ∧ va = o ∧ t = .int .i64 (i : Int) ∧ Hid (i ≤ n ∧ B.length ≤ 65536 ∧ PL = B ++ printR (l.drop i)) ∧ Hid (KB w va B y)) (fun _ t _ => (n - intOf t).toNat)
  case atStart => exact ⟨0, _, [], x0, rfl, rfl, rfl, ⟨Nat.zero_le _, Nat.zero_le _, hPL'.out.symm⟩, (KB.nil w).below hx.out⟩
  case round =>
    obtain ⟨i, va, B, y, rfl, rfl, rfl, J, K⟩ := hrel
    by_cases hlt : i < n
    · obtain ⟨s, hs, hdrop⟩ := at_list hl'.out hlt
      obtain ⟨gb, ob, hsp, hR⟩ := hl.out i s hs
      subst hsp
      have hR : Hid (y.rangeAt gb (ob + i * 8) (rcC s).toList) := range_keep hR K.out.2
      have ij := fun v => idxP (g := gb) (off := ob) (len := n) (cap := cap) Tryd.underlying23 (s := 8) (by kernel_rfl) .i64 i v hlt
      have hji : (i : Int) < n := by omega
      have hi' : Hid (i < n) := hlt
      have gs := hgood.out s (List.mem_of_getElem? hs)
      have hcall := rline_val y s gs.1 gs.2
      obtain ⟨i5, hi5, hz0, hz1, hz2⟩ := info_parts infoB
      clear hlt
      have hLs : Hid ((lineB s).size ≤ 25 ∧ strL (lineB s) = lineR s) := by
        have e : strL (lineB s) = lineR s := by simp [lineB, strL]
        refine ⟨?_, e⟩
        rw [← strL_len, e]
        exact (line_facts gs.1 gs.2).2.1
      have J2 : Hid (PL = (B ++ strL (lineB s) ++ [10]) ++ printR (l.drop (i + 1))) := by
        have h1 := J.out
        have h2 := hLs.out
        rw [hdrop] at h1
        show PL = _
        rw [h1.2.2, h2.2]
        simp [printR]
      obtain ⟨LS, hLS⟩ : ∃ x, lineB s = x := ⟨_, rfl⟩
      rw [hLS] at hcall hLs J2
      have hBl : Hid (B.length ≤ 65536) := J.out.2.1
      obtain ⟨m, hm⟩ : ∃ m, (B ++ strL LS ++ [10]).length = m := ⟨_, rfl⟩
      have hm' : Hid ((B ++ strL LS ++ [10]).length = m) := hm
      have hm0 : m ≤ 65562 := by rw [← hm]; have h1 := hBl.out; have h2 := hLs.out.1; simp only [List.length_append, strL_len, List.length_cons, List.length_nil]; omega
      replace hs : Hid _ := hs
      replace hdrop : Hid _ := hdrop
      replace gs : Hid _ := gs
      clear hLS hm
      by_cases hbig : 65536 < m
      · have qb : decide ((65536 : Int) < m) = true := by simp; omega
        have fin : Hid (PB = ⟨#[]⟩ ∧ PE = 2) := by
          have h2 : 65536 < PL.length := by
            have h1 := congrArg List.length J2.out
            rw [List.length_append, hm'.out] at h1
            omega
          have e : PE = 2 := by rw [hPE'.out, if_pos h2]
          exact ⟨by rw [hPB'.out, e]; rfl, e⟩
        clear hbig
        go_wp2_with (first
          | ((with_reducible refine at_loadm rtR gb (ob + i * 8) (rcC s) ?_ ?_ (.tmp 21) ?_ ?_ ?_ ?_); exact hR.out; rfl; kernel_rfl; rfl; rfl)
          | (go_at_call 33; refine hcall.mono ?_; rintro e y2 ⟨rfl, H2⟩; have K2 : Hid (KB w va B y2) := K.out.below H2; clear H2)
          | (at_builtin; refine Lib.wpList_append_own_string _ rfl (.tmp 18) (.tmp 23) 34 9 rfl w.heap.size 5 i5 Tryd.underlying34 Tryd.underlying9 hi5 hz0 hz1 hz2 va B.length (B.map byV) rfl K2.out.1 LS rfl ?_ ?_ ?_ ?_; (have h1 := hBl.out; have h2 := hLs.out.1; unfold maxLen; omega); (have h1 := hBl.out; have h2 := hLs.out.1; omega); exact K2.out.2.size; intro v3 y3 h3 h4 h5; have K3 : Hid (KB w v3 (B ++ strL LS) y3) := K2.out.str h3 h4; clear h3 h4 h5)
          | (at_builtin; refine wpList_append_own _ rfl (.tmp 25) (.tmp 26) 34 rfl w.heap.size 5 i5 (.int .u8 0) 1 1 Tryd.underlying34 hi5 hz0 hz1 hz2 rfl (by decide) v3 (B ++ strL LS).length ((B ++ strL LS).map byV) rfl (K3.out.1.alloc _) ⟨y3.heap.size, 0, none⟩ 1 1 [byV 10] rfl rfl (one_byt y3 _) (by simp [Value.oneCell', byV]) ?_ ?_ ?_ ?_; (have h1 := hBl.out; have h2 := hLs.out.1; rw [List.length_append, strL_len]; unfold maxLen; omega); (have h1 := hBl.out; have h2 := hLs.out.1; rw [List.length_append, strL_len]; omega); (have := K3.out.2.size; simp; omega); intro v4 y4 h3 h4 h5; have K4 : Hid (KB w v4 (B ++ strL LS ++ [10]) y4) := K3.out.one h3 h4; clear h3 h4 h5; obtain ⟨⟨sp4, cap4, e4⟩, _⟩ := K4.out.open; rw [hm'.out] at e4; subst e4))
        go_ret2
        rw [fin.out.1, fin.out.2]
        exact ⟨rfl, K4.out.2⟩
      · have qb : decide ((65536 : Int) < m) = false := by simp; omega
        have J3 : Hid (i + 1 ≤ n ∧ (B ++ strL LS ++ [10]).length ≤ 65536 ∧ PL = (B ++ strL LS ++ [10]) ++ printR (l.drop (i + 1))) := ⟨hi'.out, by rw [hm'.out]; omega, J2.out⟩
        clear hbig
        go_wp2_with (first
          | ((with_reducible refine at_loadm rtR gb (ob + i * 8) (rcC s) ?_ ?_ (.tmp 21) ?_ ?_ ?_ ?_); exact hR.out; rfl; kernel_rfl; rfl; rfl)
          | (go_at_call 33; refine hcall.mono ?_; rintro e y2 ⟨rfl, H2⟩; have K2 : Hid (KB w va B y2) := K.out.below H2; clear H2)
          | (at_builtin; refine Lib.wpList_append_own_string _ rfl (.tmp 18) (.tmp 23) 34 9 rfl w.heap.size 5 i5 Tryd.underlying34 Tryd.underlying9 hi5 hz0 hz1 hz2 va B.length (B.map byV) rfl K2.out.1 LS rfl ?_ ?_ ?_ ?_; (have h1 := hBl.out; have h2 := hLs.out.1; unfold maxLen; omega); (have h1 := hBl.out; have h2 := hLs.out.1; omega); exact K2.out.2.size; intro v3 y3 h3 h4 h5; have K3 : Hid (KB w v3 (B ++ strL LS) y3) := K2.out.str h3 h4; clear h3 h4 h5)
          | (at_builtin; refine wpList_append_own _ rfl (.tmp 25) (.tmp 26) 34 rfl w.heap.size 5 i5 (.int .u8 0) 1 1 Tryd.underlying34 hi5 hz0 hz1 hz2 rfl (by decide) v3 (B ++ strL LS).length ((B ++ strL LS).map byV) rfl (K3.out.1.alloc _) ⟨y3.heap.size, 0, none⟩ 1 1 [byV 10] rfl rfl (one_byt y3 _) (by simp [Value.oneCell', byV]) ?_ ?_ ?_ ?_; (have h1 := hBl.out; have h2 := hLs.out.1; rw [List.length_append, strL_len]; unfold maxLen; omega); (have h1 := hBl.out; have h2 := hLs.out.1; rw [List.length_append, strL_len]; omega); (have := K3.out.2.size; simp; omega); intro v4 y4 h3 h4 h5; have K4 : Hid (KB w v4 (B ++ strL LS ++ [10]) y4) := K3.out.one h3 h4; clear h3 h4 h5; obtain ⟨⟨sp4, cap4, e4⟩, _⟩ := K4.out.open; rw [hm'.out] at e4; subst e4))
        go_roundw
        case rel => exact ⟨i + 1, _, _, _, rfl, rfl, by simp, J3, K4⟩
        case measure => have := hi'.out; simp [intOf]; omega
    · have hin : i = n := by have := J.out.1; omega
      subst hin
      have hB : Hid (B = PL) := by
        have h1 := J.out.2.2
        rw [List.drop_eq_nil_of_le (by rw [hl'.out]; exact Nat.le_refl _), show printR [] = [] from rfl, List.append_nil] at h1
        exact h1.symm
      obtain ⟨⟨sp', cap', rfl⟩, hcv⟩ := K.out.open
      have fin : Hid (PB = ⟨B.toArray⟩ ∧ PE = 0) := by
        have e : PE = 0 := by rw [hPE'.out, if_neg (by rw [← hB.out]; have := J.out.2.1; omega)]
        exact ⟨by rw [hPB'.out, e, hB.out]; rfl, e⟩
      obtain ⟨m, hm⟩ : ∃ m, B.length = m := ⟨_, rfl⟩
      rw [hm] at hcv ⊢
      clear hlt hm
      go_wp2
      go_ret2
      rw [fin.out.1, fin.out.2]
      exact ⟨rfl, K.out.2⟩
end Go.Proofs.YtoajmicdphffnaaDoor
