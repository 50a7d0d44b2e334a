/- A source written as a text: the program's Print. -/
import Derived.Test.YtmaedkbmjbggpaaDoorJNe
import Derived.Test.YtmaedkbmjbggpaaDoorJNw
import Derived.Test.YtmaedkbmjbggpaaDoorJIh
namespace Go.Proofs.YtmaedkbmjbggpaaDoor
open Go Go.RowKit
set_option linter.unusedVariables false
set_option maxHeartbeats 3000000
set_option maxRecDepth 20000

theorem pprint_any (w : World) (sp : Option Addr) (cap : Nat) (l : List Ri) (L : List Itm) (hL : Hid (l = L.map (·.1))) (hl : Hid (LI w sp l)) (hn : l.length ≤ 9223372036854775807) (hk : Hid (∀ x ∈ L, Good w x)) (T : Hid (Tw w)) :
    Calls Tryd.prog 13 #[.slice sp l.length cap] w fun e w' => e = .returned (.tuple #[.string (printIB L), .int .i64 (printIE L)]) ∧ Hid (Below w.heap.size w w') := by
  have hC := pcheck_any w sp cap l hl hn T.out.t
  obtain ⟨n, hn'⟩ : ∃ n, l.length = n := ⟨_, rfl⟩
  have ni : (n : Int) ≤ 9223372036854775807 := by omega
  obtain ⟨CN, hCN⟩ : ∃ n, checkN l = n := ⟨_, rfl⟩
  rw [hCN] at hC
  clear hCN
  by_cases h0 : ¬ checkE l = 0
  · have e1 : printIE L = checkE l := by unfold printIE; rw [← hL.out, if_pos h0]
    have e2 : printIB L = ⟨#[]⟩ := by unfold printIB; rw [e1, if_neg h0]
    rw [e1, e2]
    obtain ⟨X, hX⟩ : ∃ C, checkE l = C := ⟨_, rfl⟩
    rw [hX] at hC h0 ⊢
    rw [hn'] at hC ⊢
    have q : (X != 0) = true := by simpa using h0
    clear h0 hX hn hn' e1 e2
    go_enter Tryd.func13, Tryd.ntmps13
    go_wp2_with (go_at_call 9; refine hC.mono ?_; rintro e x ⟨rfl, hx⟩; replace hx : Hid _ := hx)
    go_ret2
    exact ⟨rfl, hx⟩
  replace h0 : checkE l = 0 := Decidable.of_not_not h0
  obtain ⟨k1, k2⟩ := checkE_ok h0
  obtain ⟨PL, hPL⟩ : ∃ x, printL L = x := ⟨_, rfl⟩
  have hPL' : Hid (printL L = PL) := hPL
  obtain ⟨PE, hPE⟩ : ∃ x, printIE L = x := ⟨_, rfl⟩
  obtain ⟨PB, hPB⟩ : ∃ x, printIB L = x := ⟨_, rfl⟩
  have hPE' : Hid (PE = if 65536 < PL.length then 2 else 0) := by show PE = _; rw [← hPE, ← hPL]; unfold printIE; rw [← hL.out, if_neg (by simpa using h0)]
  have hPB' : Hid (PB = if PE = 0 then ⟨PL.toArray⟩ else ⟨#[]⟩) := by show PB = _; rw [← hPB, ← hPE, ← hPL]; rfl
  have hgood : Hid (∀ x ∈ L, Good w x ∧ mayI x.1 = true) := fun x hx => ⟨hk.out x hx, k2 x.1 (by rw [hL.out]; exact List.mem_map_of_mem hx)⟩
  rw [hPE, hPB]
  rw [h0, hn'] at hC
  rw [hn']
  have hl' : Hid (l.length = n ∧ L.length = n) := ⟨hn', by rw [← hn', hL.out, List.length_map]⟩
  have ni4 : (n : Int) ≤ 4194304 := by omega
  have zb := zeroVB
  clear h0 hn hn' k1 k2 hPL hPE hPB ni
  go_enter Tryd.func13, Tryd.ntmps13
  go_wp2_with (go_at_call 9; refine hC.mono ?_; rintro e x0 ⟨rfl, hx⟩; replace hx : Hid _ := hx)
  have hBd : Hid (Bd x0 [] (x0.alloc (.cells #[.pointer none, .slice none 0 0] 47))) := Bd.new x0
  go_loopw [19] (fun t wz => ∃ (i : Nat) (B : List UInt8) (y : World), y = wz ∧ t = .int .i64 (i : Int) ∧ Hid (i ≤ n ∧ B.length ≤ 65536 ∧ PL = B ++ printL (L.drop i)) ∧ Hid (Bd x0 B y)) (fun t _ => (n - intOf t).toNat)
  case atStart => exact ⟨0, [], _, rfl, rfl, ⟨Nat.zero_le _, Nat.zero_le _, hPL'.out.symm⟩, hBd⟩
  case round =>
    obtain ⟨i, B, y, rfl, rfl, J, K⟩ := hrel
    have hwy : Hid (Below w.heap.size w y) := hx.out.trans (K.out.low.mono hx.out.size)
    by_cases hlt : i < n
    · obtain ⟨s, hs, hdrop⟩ := at_listL hl'.out.2 hlt
      have hs1 : l[i]? = some s.1 := by rw [hL.out, List.getElem?_map, hs]; rfl
      obtain ⟨gb, ob, hsp, hR0⟩ := hl.out i s.1 hs1
      subst hsp
      have hR : Hid (y.rangeAt gb (ob + i * 6) (i6 s.1).toList) := range_keep hR0 hwy.out
      clear hR0
      have ij := fun v => idxP (g := gb) (off := ob) (len := n) (cap := cap) Tryd.underlying22 (s := 6) (by kernel_rfl) .i64 i v hlt
      have hji : (i : Int) < n := by omega
      have hi' : Hid (i < n) := hlt
      have gs := hgood.out s (List.mem_of_getElem? hs)
      obtain ⟨sm1, sm2, sm3⟩ := mayI_small gs.2
      have hcall : Hid (∀ v, Below w.heap.size w v → Calls Tryd.prog 24 #[.agg (i6 s.1)] v fun e w' => e = .returned (.string (lineI s.1 s.2 ++ ⟨#[10]⟩)) ∧ Below v.heap.size v w') := fun v hv => lineof_any v s.1 s.2 (T.out.below hv) gs.2 ⟨by omega, by omega⟩ (gs.1.1.below hv) gs.1.2.1 (by rw [gs.1.2.1]; exact sm3) gs.1.2.2
      clear hlt
      have hLs : Hid ((lineI s.1 s.2 ++ ⟨#[10]⟩).size ≤ 1001) := by
        have := line_small sm1 sm2 (by rw [gs.1.2.1]; exact sm3)
        show _ ≤ _
        rw [ByteArray.size_append]
        show _ + 1 ≤ _
        omega
      clear sm1 sm2 sm3 hs1
      have J2 : Hid (PL = (B ++ strL (lineI s.1 s.2 ++ ⟨#[10]⟩)) ++ printL (L.drop (i + 1))) := by
        have h1 := J.out
        rw [hdrop] at h1
        show PL = _
        rw [h1.2.2, strL_app]
        simp [printL, strL]
      obtain ⟨LS, hLS⟩ : ∃ x, lineI s.1 s.2 ++ ⟨#[10]⟩ = x := ⟨_, rfl⟩
      rw [hLS] at hcall hLs J2
      have hBl : Hid (B.length ≤ 65536) := J.out.2.1
      obtain ⟨m, hm⟩ : ∃ m, (B ++ strL LS).length = m := ⟨_, rfl⟩
      have hm' : Hid ((B ++ strL LS).length = m) := hm
      have hm0 : (m : Int) ≤ 66537 := by rw [← hm]; have h1 := hBl.out; have h2 := hLs.out; simp only [List.length_append, strL_len]; omega
      replace hs : Hid _ := hs
      replace hdrop : Hid _ := hdrop
      replace gs : Hid _ := gs
      clear hLS hm
      by_cases hbig : 65536 < m
      · have qb : decide ((65536 : Int) < m) = true := by simp; omega
        have fin : Hid (PB = ⟨#[]⟩ ∧ PE = 2) := by
          have h2 : 65536 < PL.length := by
            have h1 := congrArg List.length J2.out
            rw [List.length_append, hm'.out] at h1
            omega
          have e : PE = 2 := by rw [hPE'.out, if_pos h2]
          exact ⟨by rw [hPB'.out, e]; rfl, e⟩
        clear hbig
        go_wp2_with (first
          | (go_at_call 25; refine (Tryd.Builder_Len x0.heap.size x0.heap.size (Lib.byteCells (B ++ strL LS)) y4 K4.out.bu).mono ?_; rw [Lib.byteCells_length, hm'.out]; rintro e y5 ⟨rfl, rfl⟩)
          | (go_at_call 23; refine (write_any x0.heap.size x0.heap.size (Lib.byteCells B) LS y3 K3.out.bu ?_ K3.out.low.size).mono ?_; (have h1 := hBl.out; have h2 := hLs.out; rw [Lib.byteCells_length]; omega); rintro e y4 ⟨rfl, HH⟩; have K4 : Hid (Bd x0 (B ++ strL LS) y4) := ⟨by rw [← cells_app]; exact .inr HH.1, K3.out.low.trans HH.2⟩; clear HH)
          | (go_at_call 24; refine (hcall.out y2 (hx.out.trans (K2.out.low.mono hx.out.size))).mono ?_; rintro e y3 ⟨rfl, H3⟩; have K3 : Hid (Bd x0 B y3) := K2.out.below H3; clear H3)
          | ((with_reducible refine at_load rt6 y.heap.size (i6 s.1) ?_ ?_ (.tmp 8) ?_ ?_ ?_ ?_); exact F2.out.bx 0 _ _ _ rfl; rfl; rfl; rfl; rfl)
          | ((with_reducible refine at_st rt6 y.heap.size (i6 z0) (i6 s.1) ?_ ?_ ?_ ?_ (.tmp 8) (.tmp 22) ?_ ?_ ?_ ?_ ?_); exact alloc_last' y _; rfl; rfl; exact one6 _; rfl; rfl; rfl; rfl; intro y2 hw2; have F2 : Hid (Fm y [(y.heap.size, i6 s.1, 39)] y2) := (Fm.one y (i6 z0) 39).put 0 _ _ _ _ rfl hw2.out; clear hw2; have K2 : Hid (Bd x0 B y2) := K.out.below F2.out.low)
          | ((with_reducible refine at_loadm rt6 gb (ob + i * 6) (i6 s.1) ?_ ?_ (.tmp 21) ?_ ?_ ?_ ?_); exact hR.out; rfl; kernel_rfl; rfl; rfl))
        go_ret2
        rw [fin.out.1, fin.out.2]
        exact ⟨rfl, hx.out.trans (K4.out.low.mono hx.out.size)⟩
      · have qb : decide ((65536 : Int) < m) = false := by simp; omega
        have J3 : Hid (i + 1 ≤ n ∧ (B ++ strL LS).length ≤ 65536 ∧ PL = (B ++ strL LS) ++ printL (L.drop (i + 1))) := ⟨hi'.out, by rw [hm'.out]; omega, J2.out⟩
        clear hbig
        go_wp2_with (first
          | (go_at_call 25; refine (Tryd.Builder_Len x0.heap.size x0.heap.size (Lib.byteCells (B ++ strL LS)) y4 K4.out.bu).mono ?_; rw [Lib.byteCells_length, hm'.out]; rintro e y5 ⟨rfl, rfl⟩)
          | (go_at_call 23; refine (write_any x0.heap.size x0.heap.size (Lib.byteCells B) LS y3 K3.out.bu ?_ K3.out.low.size).mono ?_; (have h1 := hBl.out; have h2 := hLs.out; rw [Lib.byteCells_length]; omega); rintro e y4 ⟨rfl, HH⟩; have K4 : Hid (Bd x0 (B ++ strL LS) y4) := ⟨by rw [← cells_app]; exact .inr HH.1, K3.out.low.trans HH.2⟩; clear HH)
          | (go_at_call 24; refine (hcall.out y2 (hx.out.trans (K2.out.low.mono hx.out.size))).mono ?_; rintro e y3 ⟨rfl, H3⟩; have K3 : Hid (Bd x0 B y3) := K2.out.below H3; clear H3)
          | ((with_reducible refine at_load rt6 y.heap.size (i6 s.1) ?_ ?_ (.tmp 8) ?_ ?_ ?_ ?_); exact F2.out.bx 0 _ _ _ rfl; rfl; rfl; rfl; rfl)
          | ((with_reducible refine at_st rt6 y.heap.size (i6 z0) (i6 s.1) ?_ ?_ ?_ ?_ (.tmp 8) (.tmp 22) ?_ ?_ ?_ ?_ ?_); exact alloc_last' y _; rfl; rfl; exact one6 _; rfl; rfl; rfl; rfl; intro y2 hw2; have F2 : Hid (Fm y [(y.heap.size, i6 s.1, 39)] y2) := (Fm.one y (i6 z0) 39).put 0 _ _ _ _ rfl hw2.out; clear hw2; have K2 : Hid (Bd x0 B y2) := K.out.below F2.out.low)
          | ((with_reducible refine at_loadm rt6 gb (ob + i * 6) (i6 s.1) ?_ ?_ (.tmp 21) ?_ ?_ ?_ ?_); exact hR.out; rfl; kernel_rfl; rfl; rfl))
        go_roundw
        case rel => exact ⟨i + 1, _, _, rfl, by simp, J3, K4⟩
        case measure => have := hi'.out; simp [intOf]; omega
    · have hin : i = n := by have := J.out.1; omega
      subst hin
      have hB : Hid (B = PL) := by
        have h1 := J.out.2.2
        rw [List.drop_eq_nil_of_le (by rw [hl'.out.2]; exact Nat.le_refl _), show printL [] = [] from rfl, List.append_nil] at h1
        exact h1.symm
      have fin : Hid (PB = ⟨B.toArray⟩ ∧ PE = 0) := by
        have e : PE = 0 := by rw [hPE'.out, if_neg (by rw [← hB.out]; have := J.out.2.1; omega)]
        exact ⟨by rw [hPB'.out, e, hB.out]; rfl, e⟩
      have hS := Tryd.Builder_String_any x0.heap.size x0.heap.size B y K.out.bu K.out.low.size
      clear hlt
      go_wp2_with (go_at_call 26; refine hS.mono ?_; rintro e y6 ⟨rfl, H6⟩)
      go_ret2
      rw [fin.out.1, fin.out.2]
      exact ⟨rfl, hx.out.trans ((K.out.low.trans H6).mono hx.out.size)⟩
end Go.Proofs.YtmaedkbmjbggpaaDoor
