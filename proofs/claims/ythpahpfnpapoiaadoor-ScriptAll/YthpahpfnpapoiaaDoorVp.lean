/- A script as text: the program's. -/
import Derived.Test.YthpahpfnpapoiaaDoorVa
import Derived.Test.YthpahpfnpapoiaaDoorVl
import Derived.Test.YthpahpfnpapoiaaDoorVw
import Derived.Test.YthpahpfnpapoiaaDoorXx
namespace Go.Proofs.YthpahpfnpapoiaaDoor
open Go Go.RowKit
set_option linter.unusedVariables false
set_option maxHeartbeats 1000000
set_option maxRecDepth 20000

theorem zeroVB (w : World) : (zeroValue 58).run Tryd.prog w = .ok (.agg #[.pointer none, .slice none 0 0]) w := by kernel_rfl
/-- A builder that holds so many bytes, made behind a world. -/
structure Bd (x : World) (B : List UInt8) (y : World) : Prop where
  bu : Lib.IsBuilder 58 5 x.heap.size x.heap.size (Lib.byteCells B) y
  low : Below x.heap.size x y
theorem Bd.below {x y z : World} {B : List UInt8} (h : Bd x B y) (hb : Below y.heap.size y z) : Bd x B z := ⟨IsB.below h.bu hb, h.low.trans (hb.mono h.low.size)⟩
theorem Bd.new (x : World) : Bd x [] (x.alloc (.cells #[.pointer none, .slice none 0 0] 58)) := ⟨Lib.fresh_isBuilder _ _ x, below1 x _⟩
theorem cells_app (B : List UInt8) (st : ByteArray) : Lib.byteCells B ++ Lib.strCells st = Lib.byteCells (B ++ strL st) := by simp [Lib.byteCells, Lib.strCells, strL]

theorem print_any (w : World) (tb : Hid (Tp w)) (sp : Option Addr) (cap : Nat) (l : List Sn) (hl : Hid (LiesS w sp l)) (hn : l.length ≤ 2147483647) (hk : Hid (∀ s ∈ l, Rg s.a)) :
    Calls Tryd.prog 26 #[.slice sp l.length cap] w fun e w' => e = .returned (.tuple #[.string (printB l), .int .i64 (printE l)]) ∧ Hid (Below w.heap.size w w') := by
  have hC := check_any w sp cap l hl hn
  obtain ⟨n, hn'⟩ : ∃ n, l.length = n := ⟨_, rfl⟩
  have ni : (n : Int) ≤ 2147483647 := by omega
  by_cases h0 : ¬ checkS l = 0
  · have e1 : printE l = checkS l := by unfold printE; rw [if_pos h0]
    have e2 : printB l = ⟨#[]⟩ := by unfold printB; rw [e1, if_neg h0]
    rw [e1, e2]
    obtain ⟨X, hX⟩ : ∃ C, checkS l = C := ⟨_, rfl⟩
    rw [hX] at hC h0 ⊢
    rw [hn'] at hC ⊢
    have q : (X != 0) = true := by simpa using h0
    clear h0 hX hn hn' e1 e2
    go_enter Tryd.func26, Tryd.ntmps26
    go_wp2_with (go_at_call 11; refine hC.mono ?_; rintro e x ⟨rfl, hx⟩)
    go_ret2
    exact ⟨rfl, hx⟩
  replace h0 : checkS l = 0 := Decidable.of_not_not h0
  obtain ⟨k1, k2, k3⟩ := check_ok h0
  obtain ⟨PL, hPL⟩ : ∃ x, printL l = x := ⟨_, rfl⟩
  have hPL' : Hid (printL l = PL) := hPL
  obtain ⟨PE, hPE⟩ : ∃ x, printE l = x := ⟨_, rfl⟩
  obtain ⟨PB, hPB⟩ : ∃ x, printB l = x := ⟨_, rfl⟩
  have hPE' : Hid (PE = if 65536 < PL.length then 2 else 0) := by show PE = _; rw [← hPE, ← hPL]; unfold printE; rw [if_neg (by simpa using h0)]
  have hPB' : Hid (PB = if PE = 0 then ⟨PL.toArray⟩ else ⟨#[]⟩) := by show PB = _; rw [← hPB, ← hPE, ← hPL]; rfl
  have hgood : Hid (∀ s ∈ l, Good s) := fun s hs => by
    have h1 := hk.out s hs
    have h2 := inM_mem k2 hs
    exact ⟨h2.1, h2.2, h1.1, h1.2.1, h1.2.2.1, h1.2.2.2⟩
  rw [hPE, hPB]
  rw [h0, hn'] at hC
  rw [hn']
  have hl' : Hid (l.length = n) := hn'
  have hn4 : Hid (n ≤ 4096) := by show n ≤ 4096; omega
  have ni4 : (n : Int) ≤ 4096 := by omega
  have zz := zeroVS
  have zb := zeroVB
  obtain ⟨Z, hZ⟩ : ∃ Z, (⟨0, ⟨0, false, false, false, false, false, false, false, 0⟩⟩ : Sn) = Z := ⟨_, rfl⟩
  rw [hZ] at zz
  clear h0 hn hn' k1 k2 k3 hPL hPE hPB ni hZ
  go_enter Tryd.func26, Tryd.ntmps26
  go_wp2_with (go_at_call 11; refine hC.mono ?_; rintro e x ⟨rfl, hx⟩)
  have hx : Hid (Below w.heap.size w x) := hx
  go_loopw [15] (fun t wz => ∃ (i : Nat) (B : List UInt8) (y : World), y = wz ∧ t = .int .i64 (i : Int) ∧ Hid (i ≤ n ∧ B.length ≤ 65536 ∧ PL = B ++ printL (l.drop i)) ∧ Hid (Bd x B y)) (fun t _ => (n - intOf t).toNat)
  case atStart => exact ⟨0, [], _, rfl, rfl, ⟨Nat.zero_le _, Nat.zero_le _, hPL'.out.symm⟩, Bd.new x⟩
  case round =>
    obtain ⟨i, B, y, rfl, rfl, J, K⟩ := hrel
    have hy : Hid (Below w.heap.size w y) := hx.out.trans (K.out.low.mono hx.out.size)
    by_cases hlt : i < n
    · obtain ⟨s, hs, hdrop⟩ := at_list hl'.out hlt
      obtain ⟨gb, ob, hsp, hR⟩ := hl.out i s hs
      subst hsp
      have hR : Hid (y.rangeAt gb (ob + i * 10) (spC s).toList) := range_keep hR hy.out
      have ij := fun v => idxP (g := gb) (off := ob) (len := n) (cap := cap) Tryd.underlying23 (s := 10) (by kernel_rfl) .i64 i v hlt
      have hji : (i : Int) < n := by omega
      have hi' : Hid (i < n) := hlt
      have gs := hgood.out s (List.mem_of_getElem? hs)
      have hcall : Hid (∀ z, Tp z → Calls Tryd.prog 38 #[.agg (spC s)] z fun e w' => ∃ st, e = .returned (.string st) ∧ Hid (strL st = lineL s ++ [10] ∧ st.size ≤ 200 ∧ Below z.heap.size z w')) := fun z hz => line_any z hz s gs
      have hPs : Hid (PL = (B ++ (lineL s ++ [10])) ++ printL (l.drop (i + 1))) := by
        have h1 := J.out.2.2
        rw [hdrop] at h1
        show PL = _
        rw [h1]
        simp [printL]
      replace hs : Hid _ := hs
      replace hdrop : Hid _ := hdrop
      replace gs : Hid _ := gs
      clear hlt
      go_upto_if 23 with (first
        | ((with_reducible refine at_loadm rtS gb (ob + i * 10) (spC s) ?_ ?_ (.tmp 17) ?_ ?_ ?_ ?_); exact hR.out; rfl; kernel_rfl; rfl; rfl)
        | ((with_reducible refine gen_world (y.alloc (.cells (spC Z) 34)) (Fm y [(y.heap.size, spC Z, 34)]) ?_ ?_); exact Fm.one y _ _; intro y1 K1)
        | ((with_reducible refine at_st rtS y.heap.size (spC Z) (spC s) ?_ ?_ ?_ ?_ (.tmp 7) (.tmp 18) ?_ ?_ ?_ ?_ ?_); exact K1.out.bx 0 _ _ _ rfl; rfl; rfl; exact spC_one _; rfl; rfl; rfl; rfl; intro y2 hw2; have K2 : Hid (Fm y [(y.heap.size, spC s, 34)] y2) := K1.out.put 0 _ _ _ _ rfl hw2.out)
        | ((with_reducible refine at_load rtS y.heap.size (spC s) ?_ ?_ (.tmp 7) ?_ ?_ ?_ ?_); exact K2.out.bx 0 _ _ _ rfl; rfl; kernel_rfl; rfl; rfl)
        | (go_at_call 38; refine (hcall.out y2 (tb.out.below (hy.out.trans (K2.out.low.mono hy.out.size)))).mono ?_; rintro e y3 ⟨st, rfl, H3⟩; have K3 : Hid (Bd x B y3) := K.out.below (K2.out.low.trans (H3.out.2.2.mono K2.out.low.size)))
        | (go_at_call 37; refine (write_any x.heap.size x.heap.size (Lib.byteCells B) st y3 K3.out.bu ?_ K3.out.low.size).mono ?_; (have h1 := J.out.2.1; have h2 := H3.out.2.1; rw [Lib.byteCells_length]; omega); rintro e y4 ⟨rfl, H4⟩; have K4 : Hid (Bd x (B ++ strL st) y4) := ⟨by rw [← cells_app]; exact .inr H4.1, K3.out.low.trans H4.2⟩; clear H4; have hL4 := Tryd.Builder_Len x.heap.size x.heap.size (Lib.byteCells (B ++ strL st)) y4 K4.out.bu; rw [Lib.byteCells_length] at hL4; obtain ⟨NL, hNL⟩ : ∃ k, (B ++ strL st).length = k := ⟨_, rfl⟩; rw [hNL] at hL4; have hNL : Hid ((B ++ strL st).length = NL) := hNL; have nli : (NL : Int) ≤ 70000 := by (have h1 := J.out.2.1; have h2 := H3.out.2.1; have h3 := hNL.out; rw [List.length_append, strL_len] at h3; omega))
        | (go_at_call 39; refine hL4.mono ?_; rintro e y5 ⟨rfl, h5⟩; replace h5 := h5.symm; subst h5))
      have hPs2 : Hid (PL = (B ++ strL st) ++ printL (l.drop (i + 1))) := by have := hPs.out; rw [← H3.out.1] at this; exact this
      by_cases hb : 65536 < NL
      · have q : 65536 < (NL : Int) := by omega
        have fin : Hid (PE = 2 ∧ PB = ⟨#[]⟩) := by
          have h1 := hPE'.out
          rw [if_pos (by rw [hPs2.out, List.length_append, hNL.out]; omega)] at h1
          have h2 := hPB'.out
          rw [h1, if_neg (by decide)] at h2
          exact ⟨h1, h2⟩
        obtain ⟨rfl, rfl⟩ := fin.out
        clear hPE' hPB' fin
        go_wp2
        go_ret2
        exact ⟨rfl, hx.out.trans (K4.out.low.mono hx.out.size)⟩
      · have q : ¬ 65536 < (NL : Int) := by omega
        have hb' : Hid (NL ≤ 65536) := by show NL ≤ 65536; omega
        clear hb
        go_wp2
        go_roundw
        case rel => exact ⟨i + 1, _, _, rfl, by simp, ⟨hi'.out, by rw [hNL.out]; exact hb'.out, hPs2.out⟩, K4⟩
        case measure => have := hi'.out; simp [intOf]; omega
    · have hje : i = n := by have := J.out.1; omega
      subst hje
      have fin : Hid (PL = B) := by
        have h2 := J.out.2.2
        rw [List.drop_eq_nil_of_le (by rw [hl'.out]; exact Nat.le_refl _)] at h2
        show PL = B
        simpa [printL] using h2
      obtain rfl := fin.out
      have fin2 : Hid (PE = 0 ∧ PB = ⟨PL.toArray⟩) := by
        have h1 := hPE'.out
        rw [if_neg (by have := J.out.2.1; omega)] at h1
        have h2 := hPB'.out
        rw [h1, if_pos rfl] at h2
        exact ⟨h1, h2⟩
      obtain ⟨rfl, rfl⟩ := fin2.out
      have hS := Tryd.Builder_String_any x.heap.size x.heap.size PL y K.out.bu K.out.low.size
      clear hlt hPE' hPB' fin2 fin
      go_wp2_with (go_at_call 40; refine hS.mono ?_; rintro e y6 ⟨rfl, H6⟩)
      go_ret2
      exact ⟨rfl, hx.out.trans ((K.out.low.trans H6).mono hx.out.size)⟩
end Go.Proofs.YthpahpfnpapoiaaDoor
