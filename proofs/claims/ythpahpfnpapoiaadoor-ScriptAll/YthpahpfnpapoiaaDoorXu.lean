/- A span's line, by the document. -/
import Derived.Test.YthpahpfnpapoiaaDoorXr0
import Derived.Test.YthpahpfnpapoiaaDoorXp
import Derived.Test.YthpahpfnpapoiaaDoorXt
import Derived.Deep.DeepCutAuto
namespace Go.Proofs.YthpahpfnpapoiaaDoor
open Go Go.RowKit
set_option linter.unusedVariables false
set_option maxHeartbeats 3000000
set_option maxRecDepth 20000

theorem line_one {X Y : List UInt8} {st : ByteArray} {m n : Nat} {w : List UInt8} (h : st.size ≤ m ∧ strL st = X) (b : ByteArray) (hb : strL b = 32 :: w ∧ m + b.size ≤ n) (e : Y = X ++ joinT [w]) : (st ++ b).size ≤ n ∧ strL (st ++ b) = Y := by
  have h2 : strL (st ++ b) = Y := by rw [strL_app, h.2, hb.1, e]; simp [joinT]
  refine ⟨?_, h2⟩
  have h3 := strL_len (st ++ b)
  rw [strL_app, List.length_append, strL_len, strL_len] at h3
  omega
theorem line_two {X Y : List UInt8} {st : ByteArray} {k : ByteArray} {x : List UInt8} (h : st.size ≤ 7 ∧ strL st = X) (hk : strL k = x) (hs : k.size = 4) (e : Y = X ++ joinT [wKeys, x]) : (st ++ ⟨#[32, 107, 101, 121, 115, 32]⟩ ++ k).size ≤ 17 ∧ strL (st ++ ⟨#[32, 107, 101, 121, 115, 32]⟩ ++ k) = Y := by
  have h2 : strL (st ++ ⟨#[32, 107, 101, 121, 115, 32]⟩ ++ k) = Y := by rw [strL_app, strL_app, h.2, hk, e]; simp [joinT, strL, wKeys]
  refine ⟨?_, h2⟩
  have h3 := strL_len (st ++ ⟨#[32, 107, 101, 121, 115, 32]⟩ ++ k)
  rw [strL_app, strL_app, List.length_append, List.length_append, strL_len, strL_len, strL_len] at h3
  have h4 : (ByteArray.mk #[32, 107, 101, 121, 115, 32]).size = 6 := rfl
  omega
theorem line_bus {X Y : List UInt8} {st : ByteArray} {k : ByteArray} {x : List UInt8} {m : Nat} (h : st.size ≤ m ∧ strL st = X) (hk : strL k = x) (hs : k.size = 2) (e : Y = X ++ joinT [wBus, x]) : True ∧ strL (st ++ ⟨#[32, 98, 117, 115, 32]⟩ ++ k) = Y := by
  refine ⟨trivial, ?_⟩
  rw [strL_app, strL_app, h.2, hk, e]
  simp [joinT, strL, wBus]
theorem rline_any (w : World) (tb : Hid (Tp w)) (s : Sn) (g : Good s) : Calls Tryd.prog 41 #[.agg (spC s)] w fun e w' => ∃ st, e = .returned (.string st) ∧ Hid (strL st = lineL s ∧ Below w.heap.size w w') := by
  have hF : Hid (Fm w [(w.heap.size, spC s, 34)] (w.alloc (.cells (spC s) 34))) := Fm.one w _ _
  have hI := itoa_any s.c (by have := g.c0; omega) (by have := g.c1; omega)
  obtain ⟨i1, i2, i3⟩ := itoa_dec s.c g.c0 g.c1
  obtain ⟨IT, hIT⟩ : ∃ x : ByteArray, (⟨(Lib.itoa s.c).toArray⟩ : ByteArray) = x := ⟨_, rfl⟩
  rw [hIT] at hI
  have it : Hid (IT.size ≤ 7 ∧ strL IT = Lib.itoa s.c) := by
    have e : strL IT = Lib.itoa s.c := by rw [← hIT]; simp [strL]
    exact ⟨by rw [str_size IT _ e]; exact i2, e⟩
  have hH4 := fun v => rhex_any s.a.Ke 4 v (by have := g.k1; omega)
  have hH2 := fun v => rhex_any s.a.Bu 2 v (by have := g.b1; omega)
  obtain ⟨k1, k2⟩ := hexOf_small s.a.Ke 4 g.k0 (by have := g.k1; show s.a.Ke < 65536; omega) (by decide)
  obtain ⟨b1, b2⟩ := hexOf_small s.a.Bu 2 g.b0 (by have := g.b1; show s.a.Bu < 256; omega) (by decide)
  have k1' : strL (hexOf s.a.Ke 4) = hexL 4 s.a.Ke.toNat := k1
  have b1' : strL (hexOf s.a.Bu 2) = hexL 2 s.a.Bu.toNat := b1
  have k2' : (hexOf s.a.Ke 4).size = 4 := k2
  have b2' : (hexOf s.a.Bu 2).size = 2 := b2
  obtain ⟨HK, hHK⟩ : ∃ x, hexOf s.a.Ke 4 = x := ⟨_, rfl⟩
  obtain ⟨HB, hHB⟩ : ∃ x, hexOf s.a.Bu 2 = x := ⟨_, rfl⟩
  rw [hHK] at hH4 k1' k2'
  rw [hHB] at hH2 b1' b2'
  obtain ⟨X0, e0⟩ : ∃ X, Lib.itoa s.c = X := ⟨_, rfl⟩
  obtain ⟨X1, e1⟩ : ∃ X, X0 ++ joinT (if s.a.Ke ≠ 0 then [wKeys, hexL 4 s.a.Ke.toNat] else []) = X := ⟨_, rfl⟩
  obtain ⟨X2, e2⟩ : ∃ X, X1 ++ joinT (if s.a.Ta then [wTape] else []) = X := ⟨_, rfl⟩
  obtain ⟨X3, e3⟩ : ∃ X, X2 ++ joinT (if s.a.Fl then [wFlag] else []) = X := ⟨_, rfl⟩
  obtain ⟨X4, e4⟩ : ∃ X, X3 ++ joinT (if s.a.DI then [wIn] else []) = X := ⟨_, rfl⟩
  obtain ⟨X5, e5⟩ : ∃ X, X4 ++ joinT (if s.a.DO then [wOut] else []) = X := ⟨_, rfl⟩
  obtain ⟨X6, e6⟩ : ∃ X, X5 ++ joinT (if s.a.In then [wInt] else []) = X := ⟨_, rfl⟩
  obtain ⟨X7, e7⟩ : ∃ X, X6 ++ joinT (if s.a.Cl then [wClear] else []) = X := ⟨_, rfl⟩
  obtain ⟨X8, e8⟩ : ∃ X, X7 ++ joinT (if s.a.Wa then [wWait] else []) = X := ⟨_, rfl⟩
  obtain ⟨X9, e9⟩ : ∃ X, X8 ++ joinT (if s.a.Bu ≠ 0 then [wBus, hexL 2 s.a.Bu.toNat] else []) = X := ⟨_, rfl⟩
  have eX : Hid (X9 = lineL s) := by
    show X9 = lineL s
    unfold lineL restW
    simp only [joinT_app]
    rw [← e9, ← e8, ← e7, ← e6, ← e5, ← e4, ← e3, ← e2, ← e1, ← e0]
    simp only [List.append_assoc]
  have kk : s.a.Ke ≤ 65535 := g.k1
  have kk0 : 0 ≤ s.a.Ke := g.k0
  have bb : s.a.Bu ≤ 255 := g.b1
  have bb0 : 0 ≤ s.a.Bu := g.b0
  obtain ⟨ke, hke⟩ : ∃ x, s.a.Ke = x := ⟨_, rfl⟩
  obtain ⟨bu, hbu⟩ : ∃ x, s.a.Bu = x := ⟨_, rfl⟩
  obtain ⟨fTa, hTa⟩ : ∃ x, s.a.Ta = x := ⟨_, rfl⟩
  obtain ⟨fFl, hFl⟩ : ∃ x, s.a.Fl = x := ⟨_, rfl⟩
  obtain ⟨fDI, hDI⟩ : ∃ x, s.a.DI = x := ⟨_, rfl⟩
  obtain ⟨fDO, hDO⟩ : ∃ x, s.a.DO = x := ⟨_, rfl⟩
  obtain ⟨fIn, hIn⟩ : ∃ x, s.a.In = x := ⟨_, rfl⟩
  obtain ⟨fCl, hCl⟩ : ∃ x, s.a.Cl = x := ⟨_, rfl⟩
  obtain ⟨fWa, hWa⟩ : ∃ x, s.a.Wa = x := ⟨_, rfl⟩
  rw [hke] at hH4 k1' e1 kk kk0
  rw [hbu] at hH2 b1' e9 bb bb0
  rw [hTa] at e2
  rw [hFl] at e3
  rw [hDI] at e4
  rw [hDO] at e5
  rw [hIn] at e6
  rw [hCl] at e7
  rw [hWa] at e8
  rw [e0] at it
  replace hke : Hid _ := hke
  replace hbu : Hid _ := hbu
  replace hTa : Hid _ := hTa
  replace hFl : Hid _ := hFl
  replace hDI : Hid _ := hDI
  replace hDO : Hid _ := hDO
  replace hIn : Hid _ := hIn
  replace hCl : Hid _ := hCl
  replace hWa : Hid _ := hWa
  replace e1 : Hid _ := e1
  replace e2 : Hid _ := e2
  replace e3 : Hid _ := e3
  replace e4 : Hid _ := e4
  replace e5 : Hid _ := e5
  replace e6 : Hid _ := e6
  replace e7 : Hid _ := e7
  replace e8 : Hid _ := e8
  replace e9 : Hid _ := e9
  replace k1' : Hid _ := k1'
  replace b1' : Hid _ := b1'
  replace k2' : Hid _ := k2'
  replace b2' : Hid _ := b2'
  clear i1 i2 i3 hIT k1 k2 b1 b2 hHK hHB e0 g
  go_enter Tryd.func41, Tryd.ntmps41
  go_upto_if 9 with (first
    | ((with_reducible refine gen_world (w.alloc (.cells (spC s) 34)) (Fm w [(w.heap.size, spC s, 34)]) hF.out ?_); intro y0 K0; have d0 := (K0.out.bx 0 _ _ _ rfl).c 0 _ (spC_c s))
    | (go_at_call 46; refine (hI y0 (tb.out.below K0.out.low)).mono ?_; rintro e y1 ⟨rfl, hb1⟩; have K1 : Hid (Fm w [(w.heap.size, spC s, 34)] y1) := K0.out.below hb1; have d1 := (K1.out.bx 0 _ _ _ rfl).c 1 _ (spC_Ke s); rw [hke.out] at d1))
  go_cut [3] (fun t wz => ∃ (st : ByteArray) (y : World), y = wz ∧ t = .string st ∧ Hid (st.size ≤ 17 ∧ strL st = X1) ∧ Hid (Fm w [(w.heap.size, spC s, 34)] y))
  case first =>
    have szz := it.out.1
    have szk := k2'.out
    by_cases hz : ke = 0
    · have q : (ke != 0) = false := by simpa using hz
      have ee : Hid (X1 = X0) := by show _ = _; have := e1.out; rw [if_neg (by simpa using hz)] at this; simpa [joinT] using this.symm
      clear hz
      go_wp2
      go_meet
      exact ⟨_, _, rfl, rfl, ⟨by have := it.out.1; omega, by rw [ee.out]; exact it.out.2⟩, K1⟩
    · have q : (ke != 0) = true := by simpa using hz
      have ee : Hid (X1 = X0 ++ joinT [wKeys, hexL 4 ke.toNat]) := by show _ = _; have := e1.out; rw [if_pos hz] at this; exact this.symm
      clear hz
      go_wp2_with (go_at_call 49; refine (hH4 y1).mono ?_; rintro e y2 ⟨rfl, hb2⟩; have K2 : Hid (Fm w [(w.heap.size, spC s, 34)] y2) := K1.out.below hb2)
      go_meet
      exact ⟨_, _, rfl, rfl, line_two it.out k1'.out k2'.out ee.out, K2⟩
  case rest =>
    obtain ⟨st1, z1, rfl, rfl, T1, Z1⟩ := hcut
    have q1 := (Z1.out.bx 0 _ _ _ rfl).c 2 _ (spC_Ta s)
    rw [hTa.out] at q1
    go_upto_if 18 with (fail)
    go_cut [3] (fun t wz => ∃ (st : ByteArray) (y : World), y = wz ∧ t = .string st ∧ Hid (st.size ≤ 22 ∧ strL st = X2) ∧ Hid (Fm w [(w.heap.size, spC s, 34)] y))
    case first =>
      have szz := T1.out.1
      cases fTa
      · have ee : Hid (X2 = X1) := by show _ = _; have := e2.out; simpa [joinT] using this.symm
        go_wp2
        go_meet
        exact ⟨_, _, rfl, rfl, ⟨by have := T1.out.1; omega, by rw [ee.out]; exact T1.out.2⟩, Z1⟩
      · have ee : Hid (X2 = X1 ++ joinT [wTape]) := by show _ = _; have := e2.out; simpa using this.symm
        go_wp2
        go_meet
        exact ⟨_, _, rfl, rfl, line_one T1.out ⟨#[32, 116, 97, 112, 101]⟩ (by decide) ee.out, Z1⟩
    case rest =>
      obtain ⟨st2, z2, rfl, rfl, T2, Z2⟩ := hcut
      have q2 := (Z2.out.bx 0 _ _ _ rfl).c 3 _ (spC_Fl s)
      rw [hFl.out] at q2
      go_upto_if 22 with (fail)
      go_cut [3] (fun t wz => ∃ (st : ByteArray) (y : World), y = wz ∧ t = .string st ∧ Hid (st.size ≤ 27 ∧ strL st = X3) ∧ Hid (Fm w [(w.heap.size, spC s, 34)] y))
      case first =>
        have szz := T2.out.1
        cases fFl
        · have ee : Hid (X3 = X2) := by show _ = _; have := e3.out; simpa [joinT] using this.symm
          go_wp2
          go_meet
          exact ⟨_, _, rfl, rfl, ⟨by have := T2.out.1; omega, by rw [ee.out]; exact T2.out.2⟩, Z2⟩
        · have ee : Hid (X3 = X2 ++ joinT [wFlag]) := by show _ = _; have := e3.out; simpa using this.symm
          go_wp2
          go_meet
          exact ⟨_, _, rfl, rfl, line_one T2.out ⟨#[32, 102, 108, 97, 103]⟩ (by decide) ee.out, Z2⟩
      case rest =>
        obtain ⟨st3, z3, rfl, rfl, T3, Z3⟩ := hcut
        have q3 := (Z3.out.bx 0 _ _ _ rfl).c 4 _ (spC_DI s)
        rw [hDI.out] at q3
        go_upto_if 26 with (fail)
        go_cut [3] (fun t wz => ∃ (st : ByteArray) (y : World), y = wz ∧ t = .string st ∧ Hid (st.size ≤ 30 ∧ strL st = X4) ∧ Hid (Fm w [(w.heap.size, spC s, 34)] y))
        case first =>
          have szz := T3.out.1
          cases fDI
          · have ee : Hid (X4 = X3) := by show _ = _; have := e4.out; simpa [joinT] using this.symm
            go_wp2
            go_meet
            exact ⟨_, _, rfl, rfl, ⟨by have := T3.out.1; omega, by rw [ee.out]; exact T3.out.2⟩, Z3⟩
          · have ee : Hid (X4 = X3 ++ joinT [wIn]) := by show _ = _; have := e4.out; simpa using this.symm
            go_wp2
            go_meet
            exact ⟨_, _, rfl, rfl, line_one T3.out ⟨#[32, 105, 110]⟩ (by decide) ee.out, Z3⟩
        case rest =>
          obtain ⟨st4, z4, rfl, rfl, T4, Z4⟩ := hcut
          have q4 := (Z4.out.bx 0 _ _ _ rfl).c 5 _ (spC_DO s)
          rw [hDO.out] at q4
          go_upto_if 30 with (fail)
          go_cut [3] (fun t wz => ∃ (st : ByteArray) (y : World), y = wz ∧ t = .string st ∧ Hid (st.size ≤ 34 ∧ strL st = X5) ∧ Hid (Fm w [(w.heap.size, spC s, 34)] y))
          case first =>
            have szz := T4.out.1
            cases fDO
            · have ee : Hid (X5 = X4) := by show _ = _; have := e5.out; simpa [joinT] using this.symm
              go_wp2
              go_meet
              exact ⟨_, _, rfl, rfl, ⟨by have := T4.out.1; omega, by rw [ee.out]; exact T4.out.2⟩, Z4⟩
            · have ee : Hid (X5 = X4 ++ joinT [wOut]) := by show _ = _; have := e5.out; simpa using this.symm
              go_wp2
              go_meet
              exact ⟨_, _, rfl, rfl, line_one T4.out ⟨#[32, 111, 117, 116]⟩ (by decide) ee.out, Z4⟩
          case rest =>
            obtain ⟨st5, z5, rfl, rfl, T5, Z5⟩ := hcut
            have q5 := (Z5.out.bx 0 _ _ _ rfl).c 6 _ (spC_In s)
            rw [hIn.out] at q5
            go_upto_if 34 with (fail)
            go_cut [3] (fun t wz => ∃ (st : ByteArray) (y : World), y = wz ∧ t = .string st ∧ Hid (st.size ≤ 38 ∧ strL st = X6) ∧ Hid (Fm w [(w.heap.size, spC s, 34)] y))
            case first =>
              have szz := T5.out.1
              cases fIn
              · have ee : Hid (X6 = X5) := by show _ = _; have := e6.out; simpa [joinT] using this.symm
                go_wp2
                go_meet
                exact ⟨_, _, rfl, rfl, ⟨by have := T5.out.1; omega, by rw [ee.out]; exact T5.out.2⟩, Z5⟩
              · have ee : Hid (X6 = X5 ++ joinT [wInt]) := by show _ = _; have := e6.out; simpa using this.symm
                go_wp2
                go_meet
                exact ⟨_, _, rfl, rfl, line_one T5.out ⟨#[32, 105, 110, 116]⟩ (by decide) ee.out, Z5⟩
            case rest =>
              obtain ⟨st6, z6, rfl, rfl, T6, Z6⟩ := hcut
              have q6 := (Z6.out.bx 0 _ _ _ rfl).c 7 _ (spC_Cl s)
              rw [hCl.out] at q6
              go_upto_if 38 with (fail)
              go_cut [3] (fun t wz => ∃ (st : ByteArray) (y : World), y = wz ∧ t = .string st ∧ Hid (st.size ≤ 44 ∧ strL st = X7) ∧ Hid (Fm w [(w.heap.size, spC s, 34)] y))
              case first =>
                have szz := T6.out.1
                cases fCl
                · have ee : Hid (X7 = X6) := by show _ = _; have := e7.out; simpa [joinT] using this.symm
                  go_wp2
                  go_meet
                  exact ⟨_, _, rfl, rfl, ⟨by have := T6.out.1; omega, by rw [ee.out]; exact T6.out.2⟩, Z6⟩
                · have ee : Hid (X7 = X6 ++ joinT [wClear]) := by show _ = _; have := e7.out; simpa using this.symm
                  go_wp2
                  go_meet
                  exact ⟨_, _, rfl, rfl, line_one T6.out ⟨#[32, 99, 108, 101, 97, 114]⟩ (by decide) ee.out, Z6⟩
              case rest =>
                obtain ⟨st7, z7, rfl, rfl, T7, Z7⟩ := hcut
                have q7 := (Z7.out.bx 0 _ _ _ rfl).c 8 _ (spC_Wa s)
                rw [hWa.out] at q7
                go_upto_if 42 with (fail)
                go_cut [3] (fun t wz => ∃ (st : ByteArray) (y : World), y = wz ∧ t = .string st ∧ Hid (st.size ≤ 49 ∧ strL st = X8) ∧ Hid (Fm w [(w.heap.size, spC s, 34)] y))
                case first =>
                  have szz := T7.out.1
                  cases fWa
                  · have ee : Hid (X8 = X7) := by show _ = _; have := e8.out; simpa [joinT] using this.symm
                    go_wp2
                    go_meet
                    exact ⟨_, _, rfl, rfl, ⟨by have := T7.out.1; omega, by rw [ee.out]; exact T7.out.2⟩, Z7⟩
                  · have ee : Hid (X8 = X7 ++ joinT [wWait]) := by show _ = _; have := e8.out; simpa using this.symm
                    go_wp2
                    go_meet
                    exact ⟨_, _, rfl, rfl, line_one T7.out ⟨#[32, 119, 97, 105, 116]⟩ (by decide) ee.out, Z7⟩
                case rest =>
                  obtain ⟨st8, z8, rfl, rfl, T8, Z8⟩ := hcut
                  have q8 := (Z8.out.bx 0 _ _ _ rfl).c 9 _ (spC_Bu s)
                  rw [hbu.out] at q8
                  have szz := T8.out.1
                  have szk := b2'.out
                  by_cases hz : bu = 0
                  · have q : (bu != 0) = false := by simpa using hz
                    have ee : Hid (X9 = X8) := by show _ = _; have := e9.out; rw [if_neg (by simpa using hz)] at this; simpa [joinT] using this.symm
                    clear hz
                    go_wp2
                    go_ret
                    exact ⟨_, rfl, by rw [← eX.out, ee.out]; exact T8.out.2, Z8.out.low⟩
                  · have q : (bu != 0) = true := by simpa using hz
                    have ee : Hid (X9 = X8 ++ joinT [wBus, hexL 2 bu.toNat]) := by show _ = _; have := e9.out; rw [if_pos hz] at this; exact this.symm
                    clear hz
                    go_wp2_with (go_at_call 49; refine (hH2 _).mono ?_; rintro e y2 ⟨rfl, hb2⟩; have K2 : Hid (Fm w [(w.heap.size, spC s, 34)] y2) := Z8.out.below hb2)
                    go_ret
                    exact ⟨_, rfl, by rw [← eX.out]; exact (line_bus T8.out b1'.out b2'.out ee.out).2, K2.out.low⟩
theorem rline_val (w : World) (tb : Tp w) (s : Sn) (g : Good s) : Calls Tryd.prog 41 #[.agg (spC s)] w fun e w' => e = .returned (.string (lineB s)) ∧ Below w.heap.size w w' := by
  refine (rline_any w tb s g).mono ?_
  rintro e w' ⟨st, rfl, h⟩
  refine ⟨?_, h.out.2⟩
  rw [lineB, ← h.out.1, strL_mk]
end Go.Proofs.YthpahpfnpapoiaaDoor
