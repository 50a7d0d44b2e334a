/- A script written as a text, by the document. -/
import Derived.Test.YthpahpfnpapoiaaDoorXu
import Derived.Lib.AppendStr
namespace Go.Proofs.YthpahpfnpapoiaaDoor
open Go Go.RowKit
set_option linter.unusedVariables false
set_option maxHeartbeats 2000000
set_option maxRecDepth 20000

theorem infoB : (Tryd.prog.info? 5).map (fun i => (i.zero, i.size, i.bytes)) = some (some (.int .u8 0), 1, 1) := by kernel_rfl
def byV (b : UInt8) : Value := .int .u8 (b.toNat : Int)
/-- Bytes that are owned. -/
def KB (w : World) (v : Value) (l : List UInt8) (y : World) : Prop := y.ownsRow w.heap.size 5 1 v l.length (l.map byV) ∧ Below w.heap.size w y
theorem KB.nil (w : World) : KB w (.slice none 0 0) [] w := ⟨World.ownsRow_nil _ _ _ 1, Below.refl _ _⟩
theorem KB.below {w y z : World} {v : Value} {l : List UInt8} (h : KB w v l y) (hb : Below y.heap.size y z) : KB w v l z := by
  refine ⟨⟨h.1.1, ?_⟩, h.2.trans (hb.mono h.2.size)⟩
  rcases h.1.2 with h0 | ⟨g, cap, cur, hv, hb', hg, hr⟩
  · exact .inl h0
  · exact .inr ⟨g, cap, cur, hv, hb', (hb.block g (heap_lt hg)).trans hg, hr⟩
theorem KB.str {w y w' : World} {v v' : Value} {l : List UInt8} {s : ByteArray} (h : KB w v l y) (ho : w'.ownsRow w.heap.size 5 1 v' (l.length + s.size) (l.map byV ++ Lib.strCells s)) (hg : y.grownBy w' v.ownBlock) : KB w v' (l ++ strL s) w' := by
  refine ⟨by rw [List.length_append, List.map_append, strL_len]; exact ho, Below.grown h.2 hg h.2.size (fun q hq => (h.1.lt q hq).1)⟩
theorem KB.one {w y w' : World} {v v' : Value} {l : List UInt8} {b : UInt8} {o : Obj} (h : KB w v l y) (ho : w'.ownsRow w.heap.size 5 1 v' (l.length + 1) (l.map byV ++ [byV b])) (hg : (y.alloc o).grownBy w' v.ownBlock) : KB w v' (l ++ [b]) w' := by
  refine ⟨by rw [List.length_append, List.map_append]; exact ho, Below.grown (h.2.alloc h.2.size o) hg (by have := h.2.size; simp; omega) (fun q hq => ((h.1.alloc o).lt q hq).1)⟩
theorem one_byt (x : World) (v : Value) : ∀ (j : Nat) (u : Value), [v][j]? = some u → (x.alloc (.cells #[v] 5)).cell? ((⟨x.heap.size, 0, none⟩ : Addr).add j) = some u := fun j u hu => by
  cases j with
  | zero => simp at hu; subst hu; unfold World.cell? World.alloc Addr.add; simp
  | succ j => simp at hu
theorem KB.open {w y : World} {v : Value} {l : List UInt8} (h : KB w v l y) : (∃ sp cap, v = .slice sp l.length cap) ∧ (convert 56 9 v).run Tryd.prog y = .ok (.string ⟨l.toArray⟩) y := by
  rcases h.1.2 with ⟨h0, h1⟩ | ⟨g, cap, cur, hv, hb, hg, hr⟩
  · have : l = [] := by cases l with | nil => rfl | cons a b => simp at h1
    subst this
    subst h0
    exact ⟨⟨none, 0, rfl⟩, by kernel_rfl⟩
  · subst hv
    refine ⟨⟨_, cap, rfl⟩, ?_⟩
    have hc := h.1.cells (g := g) rfl
    have h2 := run_convert_bytes_back (P := Tryd.prog) y 56 9 5 ⟨g, 0, none⟩ cap l Tryd.underlying56 Tryd.underlying5 Tryd.underlying9 (fun j hj => by
      rw [hc j (byV l[j]) (by simp [hj])]
      rfl)
    exact h2
theorem inM_mem {M : Int} : ∀ {l : List Sn}, InM M l → ∀ {s : Sn}, s ∈ l → 1 ≤ s.c ∧ s.c ≤ M
  | [], _, s, hs => by simp at hs
  | a :: l, h, s, hs => by
    rcases List.mem_cons.1 hs with rfl | hs
    · exact h.1
    · exact inM_mem h.2 hs
theorem line_len {s : Sn} (g : Good s) : (lineL s).length ≤ 100 := by
  have h := (span_line g).1
  unfold spanOf at h
  split at h
  · cases h
  · omega
def printE (l : List Sn) : Int := if checkS l ≠ 0 then checkS l else if 65536 < (printL l).length then 2 else 0
def printB (l : List Sn) : ByteArray := if printE l = 0 then ⟨(printL l).toArray⟩ else ⟨#[]⟩
theorem rprint_any (w : World) (tb : Hid (Tp w)) (sp : Option Addr) (cap : Nat) (l : List Sn) (hl : Hid (LiesS w sp l)) (hn : l.length ≤ 9223372036854775807) (hk : Hid (∀ s ∈ l, Rg s.a)) :
    Calls Tryd.prog 27 #[.slice sp l.length cap] w fun e w' => e = .returned (.tuple #[.string (printB l), .int .i64 (printE l)]) ∧ Hid (Below w.heap.size w w') := by
  have hC := rcheck_any w sp cap l hl hn
  obtain ⟨n, hn'⟩ : ∃ n, l.length = n := ⟨_, rfl⟩
  have ni : (n : Int) ≤ 9223372036854775807 := by omega
  by_cases h0 : ¬ checkS l = 0
  · have e1 : printE l = checkS l := by unfold printE; rw [if_pos h0]
    have e2 : printB l = ⟨#[]⟩ := by unfold printB; rw [e1, if_neg h0]
    rw [e1, e2]
    obtain ⟨X, hX⟩ : ∃ C, checkS l = C := ⟨_, rfl⟩
    rw [hX] at hC h0 ⊢
    rw [hn'] at hC ⊢
    have q : (X != 0) = true := by simpa using h0
    clear h0 hX hn hn' e1 e2
    go_enter Tryd.func27, Tryd.ntmps27
    go_wp2_with (go_at_call 14; refine hC.mono ?_; rintro e x ⟨rfl, hx⟩; replace hx := hx.symm; subst hx)
    go_ret2
    exact ⟨rfl, Below.refl _ _⟩
  replace h0 : checkS l = 0 := Decidable.of_not_not h0
  obtain ⟨k1, k2, k3⟩ := check_ok h0
  obtain ⟨PL, hPL⟩ : ∃ x, printL l = x := ⟨_, rfl⟩
  have hPL' : Hid (printL l = PL) := hPL
  obtain ⟨PE, hPE⟩ : ∃ x, printE l = x := ⟨_, rfl⟩
  obtain ⟨PB, hPB⟩ : ∃ x, printB l = x := ⟨_, rfl⟩
  have hPE' : Hid (PE = if 65536 < PL.length then 2 else 0) := by show PE = _; rw [← hPE, ← hPL]; unfold printE; rw [if_neg (by simpa using h0)]
  have hPB' : Hid (PB = if PE = 0 then ⟨PL.toArray⟩ else ⟨#[]⟩) := by show PB = _; rw [← hPB, ← hPE, ← hPL]; rfl
  have hgood : Hid (∀ s ∈ l, Good s) := fun s hs => by
    have h1 := hk.out s hs
    have h2 := inM_mem k2 hs
    exact ⟨h2.1, h2.2, h1.1, h1.2.1, h1.2.2.1, h1.2.2.2⟩
  rw [hPE, hPB]
  rw [h0, hn'] at hC
  rw [hn']
  have hl' : Hid (l.length = n) := hn'
  have hn4 : Hid (n ≤ 4096) := by show n ≤ 4096; omega
  have ni4 : (n : Int) ≤ 4096 := by omega
  have hLine := rline_val
  clear h0 hn hn' k1 k2 k3 hPL hPE hPB ni
  go_enter Tryd.func27, Tryd.ntmps27
  go_wp2_with (go_at_call 14; refine hC.mono ?_; rintro e x ⟨rfl, hx⟩; replace hx := hx.symm; subst hx)
  go_loopw [5, 6] (fun o t wz => ∃ (i : Nat) (va : Value) (B : List UInt8) (y : World), y = wz ∧ va = o ∧ t = .int .i64 (i : Int) ∧ Hid (i ≤ n ∧ B.length ≤ i * 101 ∧ PL = B ++ printL (l.drop i)) ∧ Hid (KB w va B y)) (fun _ t _ => (n - intOf t).toNat)
  case atStart => exact ⟨0, _, [], w, rfl, rfl, rfl, ⟨Nat.zero_le _, Nat.zero_le _, hPL'.out.symm⟩, KB.nil w⟩
  case round =>
    obtain ⟨i, va, B, y, rfl, rfl, rfl, J, K⟩ := hrel
    by_cases hlt : i < n
    · obtain ⟨s, hs, hdrop⟩ := at_list hl'.out hlt
      obtain ⟨gb, ob, hsp, hR⟩ := hl.out i s hs
      subst hsp
      have hR : Hid (y.rangeAt gb (ob + i * 10) (spC s).toList) := range_keep hR K.out.2
      have ij := fun v => idxP (g := gb) (off := ob) (len := n) (cap := cap) Tryd.underlying23 (s := 10) (by kernel_rfl) .i64 i v hlt
      have hji : (i : Int) < n := by omega
      have hi' : Hid (i < n) := hlt
      have gs := hgood.out s (List.mem_of_getElem? hs)
      have hcall := rline_val y (tb.out.below K.out.2) s gs
      obtain ⟨i5, hi5, hz0, hz1, hz2⟩ := info_parts infoB
      clear hlt
      have hLs : Hid ((lineB s).size ≤ 100 ∧ strL (lineB s) = lineL s) := by
        have e : strL (lineB s) = lineL s := by simp [lineB, strL]
        refine ⟨?_, e⟩
        rw [← strL_len, e]
        exact line_len gs
      have J2 : Hid (i + 1 ≤ n ∧ (B ++ strL (lineB s) ++ [10]).length ≤ (i + 1) * 101 ∧ PL = (B ++ strL (lineB s) ++ [10]) ++ printL (l.drop (i + 1))) := by
        have h1 := J.out
        have h2 := hLs.out
        have h3 := hi'.out
        rw [hdrop] at h1
        refine ⟨h3, ?_, ?_⟩
        · simp only [List.length_append, strL_len, List.length_cons, List.length_nil]
          omega
        · rw [h1.2.2, h2.2]
          simp [printL]
      obtain ⟨LS, hLS⟩ : ∃ x, lineB s = x := ⟨_, rfl⟩
      rw [hLS] at hcall hLs J2
      have hBl : Hid (B.length ≤ 413696) := by have := J.out; have := hi'.out; have := hn4.out; show _ ≤ _; omega
      replace hs : Hid _ := hs
      replace hdrop : Hid _ := hdrop
      replace gs : Hid _ := gs
      clear hLS
      go_wp2_with (first
        | ((with_reducible refine at_loadm rtS gb (ob + i * 10) (spC s) ?_ ?_ (.tmp 21) ?_ ?_ ?_ ?_); exact hR.out; rfl; kernel_rfl; rfl; rfl)
        | (go_at_call 41; refine hcall.mono ?_; rintro e y2 ⟨rfl, H2⟩; have K2 : Hid (KB w va B y2) := K.out.below H2; clear H2)
        | (at_builtin; refine Lib.wpList_append_own_string _ rfl (.tmp 18) (.tmp 23) 56 9 rfl w.heap.size 5 i5 Tryd.underlying56 Tryd.underlying9 hi5 hz0 hz1 hz2 va B.length (B.map byV) rfl K2.out.1 LS rfl ?_ ?_ ?_ ?_; (have h1 := hBl.out; have h2 := hLs.out.1; unfold maxLen; omega); (have h1 := hBl.out; have h2 := hLs.out.1; omega); exact K2.out.2.size; intro v3 y3 h3 h4 h5; have K3 : Hid (KB w v3 (B ++ strL LS) y3) := K2.out.str h3 h4; clear h3 h4 h5)
        | (at_builtin; refine wpList_append_own _ rfl (.tmp 25) (.tmp 26) 56 rfl w.heap.size 5 i5 (.int .u8 0) 1 1 Tryd.underlying56 hi5 hz0 hz1 hz2 rfl (by decide) v3 (B ++ strL LS).length ((B ++ strL LS).map byV) rfl (K3.out.1.alloc _) ⟨y3.heap.size, 0, none⟩ 1 1 [byV 10] rfl rfl (one_byt y3 _) (by simp [Value.oneCell', byV]) ?_ ?_ ?_ ?_; (have h1 := hBl.out; have h2 := hLs.out.1; rw [List.length_append, strL_len]; unfold maxLen; omega); (have h1 := hBl.out; have h2 := hLs.out.1; rw [List.length_append, strL_len]; omega); (have := K3.out.2.size; simp; omega); intro v4 y4 h3 h4 h5; have K4 : Hid (KB w v4 (B ++ strL LS ++ [10]) y4) := K3.out.one h3 h4; clear h3 h4 h5))
      go_roundw
      case rel => exact ⟨i + 1, _, _, _, rfl, rfl, by simp, J2, K4⟩
      case measure => have := hi'.out; simp [intOf]; omega
    · have hin : i = n := by have := J.out.1; omega
      subst hin
      have hB : Hid (B = PL) := by
        have h1 := J.out.2.2
        rw [List.drop_eq_nil_of_le (by rw [hl'.out]; exact Nat.le_refl _), show printL [] = [] from rfl, List.append_nil] at h1
        exact h1.symm
      obtain ⟨⟨sp', cap', rfl⟩, hcv⟩ := K.out.open
      obtain ⟨m, hm⟩ : ∃ m, B.length = m := ⟨_, rfl⟩
      have hmi : (m : Int) ≤ 1000000 := by have := J.out; have := hn4.out; omega
      rw [hm] at hcv ⊢
      by_cases hbig : 65536 < m
      · have fin : Hid (PB = ⟨#[]⟩ ∧ PE = 2) := by
          have e : PE = 2 := by rw [hPE'.out, if_pos (by rw [← hB.out, hm]; exact hbig)]
          exact ⟨by rw [hPB'.out, e]; rfl, e⟩
        have qb : decide ((65536 : Int) < m) = true := by simp; omega
        clear hlt hbig hm
        go_wp2
        go_ret2
        rw [fin.out.1, fin.out.2]
        exact ⟨rfl, K.out.2⟩
      · have fin : Hid (PB = ⟨B.toArray⟩ ∧ PE = 0) := by
          have e : PE = 0 := by rw [hPE'.out, if_neg (by rw [← hB.out, hm]; exact hbig)]
          exact ⟨by rw [hPB'.out, e, hB.out]; rfl, e⟩
        have qb : decide ((65536 : Int) < m) = false := by simp; omega
        clear hlt hbig hm
        go_wp2
        go_ret2
        rw [fin.out.1, fin.out.2]
        exact ⟨rfl, K.out.2⟩
end Go.Proofs.YthpahpfnpapoiaaDoor
