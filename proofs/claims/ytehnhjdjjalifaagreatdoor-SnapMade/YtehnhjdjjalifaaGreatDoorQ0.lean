/- The program's own: may a machine be so? -/
import Derived.Test.YtehnhjdjjalifaaGreatDoorX8
import Derived.Test.YtehnhjdjjalifaaGreatDoorRd
import Derived.Test.YtehnhjdjjalifaaGreatDoorOInfo
import Derived.Great.Ranges
namespace Go.Proofs.YtehnhjdjjalifaaGreatDoor
open Go Go.RowKit
set_option linter.unusedVariables false
set_option maxHeartbeats 4000000
set_option maxRecDepth 40000

theorem fld3 (a b c d : Value) (w : World) : (Instr.field 110 (.agg #[a, b, c, d]) 3).run Tryz.prog w = .ok d w := by kernel_rfl
theorem yislong (w : World) (n : Nat) (h : n < 256) (tb : Tabs w) : Calls Tryz.prog 114 #[.int .u8 (n : Int)] w fun e w' => e = .returned (.bool (decide (n / 16 = 12))) ∧ Below w.heap.size w w' := by
  have hI := fun v t => info_any n v t h
  unfold infoV at hI
  obtain ⟨S, hS⟩ : ∃ S, nm n = S := ⟨_, rfl⟩
  obtain ⟨f, hf⟩ : ∃ f, ((fm n : Nat) : Int) = f := ⟨_, rfl⟩
  obtain ⟨L, hL⟩ : ∃ L, ((lay (fm n * 3) : Nat) : Int) = L := ⟨_, rfl⟩
  obtain ⟨Z, hZ⟩ : ∃ Z, ((cyc n : Nat) : Int) = Z := ⟨_, rfl⟩
  have e : (Z == 3) = decide (n / 16 = 12) := by
    rw [← hZ]
    unfold cyc
    by_cases h : n / 16 = 12
    · rw [if_pos h]; simp [h]
    · rw [if_neg h]; simp [h]
  rw [hS, hf, hL, hZ] at hI
  obtain ⟨G, hG⟩ : ∃ G, decide (n / 16 = 12) = G := ⟨_, rfl⟩
  rw [hG] at e ⊢
  have tb' : Hid (Tabs w) := tb
  clear tb hS hf hL hZ hG h
  go_enter Tryz.func114, Tryz.ntmps114
  go_wp2_with (go_at_call 116; refine (hI _ tb'.out).mono ?_; rintro e v1 ⟨rfl, hb1⟩; have fl := fld3 (.string S) (.int .u8 f) (.int .i64 L) (.int .i64 Z))
  go_ret
  exact ⟨rfl, hb1⟩
/-- The same, of plain numbers. -/
def chkN (P X H O Bb : Nat) : Int := if 15 < P then 40 else if 15 < X then 40 else if H < 1 then 40 else if 8 < H then 40 else if H = 3 then (if O / 16 = 12 then 0 else 40) else if Bb ≠ 0 then 40 else if H = 5 then (if O = 0 then 0 else 40) else if H = 4 then (if O = 0 then 0 else 40) else 0
theorem chkC_N (s : Bd) : chkC s = chkN s.p.toNat s.x.toNat s.ph.toNat s.op.toNat s.b.toNat := rfl
theorem maybe_any (s : Bd) (w : World) (tb : Tabs w) : Calls Tryz.prog 86 #[.agg (cCs s)] w fun e w' => e = .returned (.bool (decide (chkC s = 0))) ∧ Below w.heap.size w w' := by
  have K0 : Hid (Below w.heap.size w (w.alloc (.cells (cCs s) 26))) := below1 w _
  have B0 : Bx (w.alloc (.cells (cCs s) 26)) w.heap.size (cCs s) 26 := one_bxL _ _ _
  have c18 := B0.c 18 (.int .u8 (s.p.toNat : Int)) rfl
  have c19 := B0.c 19 (.int .u8 (s.x.toNat : Int)) rfl
  have c23 := B0.c 23 (.int .u8 (s.op.toNat : Int)) rfl
  have c24 := B0.c 24 (.int .u8 (s.b.toNat : Int)) rfl
  have c25 := B0.c 25 (.int .u8 (s.ph.toNat : Int)) rfl
  have hLg : Hid (Calls Tryz.prog 114 #[.int .u8 (s.op.toNat : Int)] (w.alloc (.cells (cCs s) 26)) fun e w' => e = .returned (.bool (decide (s.op.toNat / 16 = 12))) ∧ Below (w.alloc (.cells (cCs s) 26)).heap.size (w.alloc (.cells (cCs s) 26)) w') := yislong _ _ (UInt8.toNat_lt s.op) (tb.below K0.out)
  rw [chkC_N]
  generalize cCs s = CC at K0 B0 c18 c19 c23 c24 c25 hLg ⊢
  generalize s.p.toNat = P at c18 ⊢
  generalize s.x.toNat = X at c19 ⊢
  generalize s.op.toNat = O at c23 hLg ⊢
  generalize s.b.toNat = Bb at c24 ⊢
  generalize s.ph.toNat = H at c25 ⊢
  clear B0 tb
  by_cases h1 : 15 < P
  · have e1 : decide (chkN P X H O Bb = 0) = false := by unfold chkN; rw [if_pos h1]; rfl
    have iP : decide ((15 : Int) < (P : Int)) = true := decide_eq_true (by omega)
    clear h1
    rw [e1]
    go_enter Tryz.func86, Tryz.ntmps86
    go_wp2
    go_ret
    exact ⟨rfl, K0.out⟩
  have e0 : decide (chkN P X H O Bb = 0) = decide (chkN 0 X H O Bb = 0) := by simp [chkN, h1]
  have iP : decide ((15 : Int) < (P : Int)) = false := decide_eq_false (by omega)
  rw [e0]
  clear e0 h1
  by_cases h1 : 15 < X
  · have e1 : decide (chkN 0 X H O Bb = 0) = false := by simp [chkN, h1]
    have iX : decide ((15 : Int) < (X : Int)) = true := decide_eq_true (by omega)
    clear h1
    rw [e1]
    go_enter Tryz.func86, Tryz.ntmps86
    go_wp2
    go_ret
    exact ⟨rfl, K0.out⟩
  have e0 : decide (chkN 0 X H O Bb = 0) = decide (chkN 0 0 H O Bb = 0) := by simp [chkN, h1]
  have iX : decide ((15 : Int) < (X : Int)) = false := decide_eq_false (by omega)
  rw [e0]
  clear e0 h1
  by_cases hB : Bb = 0
  · have jB : ((Bb : Int) == 0) = true := by rw [beq_iff_eq]; omega
    have kB : ((Bb : Int) != 0) = false := by rw [bne_eq_false_iff_eq]; omega
    by_cases h3 : H = 3
    · subst h3
      have e1 : decide (chkN 0 0 3 O Bb = 0) = decide (O / 16 = 12) := by
        unfold chkN
        by_cases hl : O / 16 = 12 <;> simp [hl]
      generalize decide (O / 16 = 12) = G at e1 hLg
      clear hB
      rw [e1]
      go_enter Tryz.func86, Tryz.ntmps86
      go_wp2_with (go_at_call 114; refine hLg.out.mono ?_; rintro e v1 ⟨rfl, hb1⟩)
      go_ret
      exact ⟨rfl, K0.out.trans (hb1.mono K0.out.size)⟩
    have jH3 : ((H : Int) == 3) = false := by rw [beq_eq_false_iff_ne]; omega
    have kH3 : ((H : Int) != 3) = true := by rw [bne_iff_ne]; omega
    by_cases h5 : H = 5
    · subst h5
      have e1 : decide (chkN 0 0 5 O Bb = 0) = ((O : Int) == 0) := by
        unfold chkN
        by_cases hl : O = 0
        · subst hl; simp [hB]
        · have : ((O : Int) == 0) = false := by rw [beq_eq_false_iff_ne]; omega
          rw [this]; simp [hB, hl]
      generalize hG : ((O : Int) == 0) = G at e1
      clear hB
      rw [e1]
      go_enter Tryz.func86, Tryz.ntmps86
      go_wp2
      go_ret
      exact ⟨rfl, K0.out⟩
    have jH5 : ((H : Int) == 5) = false := by rw [beq_eq_false_iff_ne]; omega
    have kH5 : ((H : Int) != 5) = true := by rw [bne_iff_ne]; omega
    by_cases h4 : H = 4
    · subst h4
      have e1 : decide (chkN 0 0 4 O Bb = 0) = ((O : Int) == 0) := by
        unfold chkN
        by_cases hl : O = 0
        · subst hl; simp [hB]
        · have : ((O : Int) == 0) = false := by rw [beq_eq_false_iff_ne]; omega
          rw [this]; simp [hB, hl]
      generalize hG : ((O : Int) == 0) = G at e1
      clear hB
      rw [e1]
      go_enter Tryz.func86, Tryz.ntmps86
      go_wp2
      go_ret
      exact ⟨rfl, K0.out⟩
    have jH4 : ((H : Int) == 4) = false := by rw [beq_eq_false_iff_ne]; omega
    have kH4 : ((H : Int) != 4) = true := by rw [bne_iff_ne]; omega
    by_cases h1 : H = 1
    · subst h1
      have e1 : decide (chkN 0 0 1 O Bb = 0) = true := by
        unfold chkN
        simp [hB]
      clear hB
      rw [e1]
      go_enter Tryz.func86, Tryz.ntmps86
      go_wp2
      go_ret
      exact ⟨rfl, K0.out⟩
    have jH1 : ((H : Int) == 1) = false := by rw [beq_eq_false_iff_ne]; omega
    have kH1 : ((H : Int) != 1) = true := by rw [bne_iff_ne]; omega
    by_cases h2 : H = 2
    · subst h2
      have e1 : decide (chkN 0 0 2 O Bb = 0) = true := by
        unfold chkN
        simp [hB]
      clear hB
      rw [e1]
      go_enter Tryz.func86, Tryz.ntmps86
      go_wp2
      go_ret
      exact ⟨rfl, K0.out⟩
    have jH2 : ((H : Int) == 2) = false := by rw [beq_eq_false_iff_ne]; omega
    have kH2 : ((H : Int) != 2) = true := by rw [bne_iff_ne]; omega
    by_cases h6 : H = 6
    · subst h6
      have e1 : decide (chkN 0 0 6 O Bb = 0) = true := by
        unfold chkN
        simp [hB]
      clear hB
      rw [e1]
      go_enter Tryz.func86, Tryz.ntmps86
      go_wp2
      go_ret
      exact ⟨rfl, K0.out⟩
    have jH6 : ((H : Int) == 6) = false := by rw [beq_eq_false_iff_ne]; omega
    have kH6 : ((H : Int) != 6) = true := by rw [bne_iff_ne]; omega
    by_cases h7 : H = 7
    · subst h7
      have e1 : decide (chkN 0 0 7 O Bb = 0) = true := by
        unfold chkN
        simp [hB]
      clear hB
      rw [e1]
      go_enter Tryz.func86, Tryz.ntmps86
      go_wp2
      go_ret
      exact ⟨rfl, K0.out⟩
    have jH7 : ((H : Int) == 7) = false := by rw [beq_eq_false_iff_ne]; omega
    have kH7 : ((H : Int) != 7) = true := by rw [bne_iff_ne]; omega
    by_cases h8 : H = 8
    · subst h8
      have e1 : decide (chkN 0 0 8 O Bb = 0) = true := by
        unfold chkN
        simp [hB]
      clear hB
      rw [e1]
      go_enter Tryz.func86, Tryz.ntmps86
      go_wp2
      go_ret
      exact ⟨rfl, K0.out⟩
    have jH8 : ((H : Int) == 8) = false := by rw [beq_eq_false_iff_ne]; omega
    have kH8 : ((H : Int) != 8) = true := by rw [bne_iff_ne]; omega
    have e1 : decide (chkN 0 0 H O Bb = 0) = false := by
      unfold chkN
      have q : H < 1 ∨ 8 < H := by omega
      rcases q with q | q <;> simp [q]
      all_goals omega
    clear hB h1 h2 h3 h4 h5 h6 h7 h8
    rw [e1]
    go_enter Tryz.func86, Tryz.ntmps86
    go_wp2
    go_ret
    exact ⟨rfl, K0.out⟩
  · have jB : ((Bb : Int) == 0) = false := by rw [beq_eq_false_iff_ne]; omega
    have kB : ((Bb : Int) != 0) = true := by rw [bne_iff_ne]; omega
    by_cases h3 : H = 3
    · subst h3
      have e1 : decide (chkN 0 0 3 O Bb = 0) = decide (O / 16 = 12) := by
        unfold chkN
        by_cases hl : O / 16 = 12 <;> simp [hl]
      generalize decide (O / 16 = 12) = G at e1 hLg
      clear hB
      rw [e1]
      go_enter Tryz.func86, Tryz.ntmps86
      go_wp2_with (go_at_call 114; refine hLg.out.mono ?_; rintro e v1 ⟨rfl, hb1⟩)
      go_ret
      exact ⟨rfl, K0.out.trans (hb1.mono K0.out.size)⟩
    have jH3 : ((H : Int) == 3) = false := by rw [beq_eq_false_iff_ne]; omega
    have kH3 : ((H : Int) != 3) = true := by rw [bne_iff_ne]; omega
    have e1 : decide (chkN 0 0 H O Bb = 0) = false := by
      unfold chkN
      by_cases q1 : H < 1 <;> by_cases q2 : 8 < H <;> simp [q1, q2, h3, hB]
    clear hB h3
    rw [e1]
    go_enter Tryz.func86, Tryz.ntmps86
    go_wp2
    go_ret
    exact ⟨rfl, K0.out⟩
theorem cchk_any (s : Bd) (w : World) (tb : Tabs w) : Calls Tryz.prog 30 #[.agg (cCs s)] w fun e w' => e = .returned (.int .i64 (chkC s)) ∧ Below w.heap.size w w' := by
  have hM : Hid (∀ v, Below w.heap.size w v → Calls Tryz.prog 86 #[.agg (cCs s)] v fun e w' => e = .returned (.bool (decide (chkC s = 0))) ∧ Below v.heap.size v w') := fun v hv => maybe_any s v (tb.below hv)
  have K0 : Hid (Fm w [(w.heap.size, cCs s, 26)] (w.alloc (.cells (cCs s) 26))) := Fm.one w _ _
  have sz : Hid ((cCs s).size = 26) := (rfl : (cCs s).size = 26)
  have h2 : chkC s = 0 ∨ chkC s = 40 := by
    unfold chkC
    (repeat' split) <;> simp
  generalize cCs s = CC at hM K0 sz ⊢
  clear tb
  rcases h2 with h2 | h2
  all_goals
    rw [h2] at hM ⊢
    clear h2
    go_enter Tryz.func30, Tryz.ntmps30
    go_wp2_with (first
      | ((with_reducible refine gen_world (w.alloc (.cells CC 26)) (Fm w [(w.heap.size, CC, 26)]) ?_ ?_); exact K0.out; intro y0 K1)
      | ((with_reducible refine at_load rtCp w.heap.size CC ?_ ?_ (.tmp 1) ?_ ?_ ?_ ?_); exact K1.out.bx 0 _ _ _ rfl; exact sz.out; kernel_rfl; rfl; rfl)
      | (go_at_call 86; refine (hM.out y0 K1.out.low).mono ?_; rintro e y1 ⟨rfl, H⟩; have K2 : Hid (Fm w [(w.heap.size, CC, 26)] y1) := K1.out.below H; clear H))
    go_ret
    exact ⟨rfl, K2.out.low⟩
theorem chkR_M (s : Bd) : chkR s = checkM ⟨s.ln, s.cy, s.on, s.gt⟩ := by
  by_cases h : mayB ⟨s.ln, s.cy, s.on, s.gt⟩ = true
  · have m := (mayB_iff _).1 h
    have a1 := m.l0; have a2 := m.l1; have a3 := m.c0; have a4 := m.c1; have a5 := m.g0; have a6 := m.g1
    unfold mostM shownB at a6
    unfold checkM chkR mostR
    rw [if_pos h]
    simp only [Bool.and_eq_true, decide_eq_true_eq] at a6 a1 a2 a3 a4 a5
    (repeat' split at a6) <;> (repeat' split) <;> omega
  · have m : ¬ May ⟨s.ln, s.cy, s.on, s.gt⟩ := fun k => h ((mayB_iff _).2 k)
    unfold checkM
    rw [if_neg h]
    apply Classical.byContradiction
    intro hc
    apply m
    unfold chkR mostR at hc
    refine ⟨?_, ?_, ?_, ?_, ?_, ?_⟩ <;> (try unfold mostM shownB) <;> (try simp only [Bool.and_eq_true, decide_eq_true_eq]) <;> (repeat' split at hc) <;> (repeat' split) <;> omega
theorem pchk_any (s : Bd) (w : World) (tb : Tl w) : Calls Tryz.prog 31 #[.agg (rCs s)] w fun e w' => e = .returned (.int .i64 (chkR s)) ∧ Below w.heap.size w w' := by
  rw [chkR_M]
  exact check_any w tb ⟨s.ln, s.cy, s.on, s.gt⟩
theorem al512 : Tryz.prog.arrayLen 94 = 512 := by kernel_rfl
theorem sz512 (w : World) : (sizeOf (Tryz.prog.elem 94)).run Tryz.prog w = .ok 1 w := by kernel_rfl
theorem cutRom (g : Nat) (v : World) : (Instr.sliceAt 94 (.pointer (some ⟨g, 32769, none⟩)) none none none).run Tryz.prog v = .ok (.slice (some ⟨g, 32769, none⟩) 512 512) v := by
  rw [run_sliceAt_array_all v 94 ⟨g, 32769, none⟩ (by kernel_rfl), sz512, al512]
  simp [slicedAt, Addr.add, Result.andThen]
theorem placesSt : ∃ fields, Tryz.prog.underlying 96 = some (.struct fields) ∧ fields.toList.mapM (fun f => (Tryz.prog.info? f.type).map fun i => (f.offset, i.size)) = some [(0, 32768), (32768, 1), (32769, 512), (33281, 1)] := ⟨_, Tryz.underlying96, by kernel_rfl⟩
theorem zedSt : ((((Tryz.prog.info? 96).bind (·.zero)).map (·.cells)).getD #[]).size = 33282 := by kernel_rfl
theorem infoSt : ∃ it z, Tryz.prog.info? 96 = some it ∧ it.zero = some z ∧ z.cells.size = 33282 := by
  have h1 : ((Tryz.prog.info? 96).bind (·.zero)).isSome = true := by kernel_rfl
  obtain ⟨z, hz⟩ := Option.isSome_iff_exists.1 h1
  obtain ⟨it, h2, h3⟩ := Option.bind_eq_some_iff.1 hz
  refine ⟨it, z, h2, h3, ?_⟩
  have h4 := zedSt
  rw [hz] at h4
  exact h4
theorem builtSt (n : Nat) (b : Bool) : ∃ C : Array Value, Hid (Tryz.prog.built 96 [(1, .int .i64 (n : Int)), (3, .bool b)] = some C) ∧ Hid (C.size = 33282) := by
  obtain ⟨fs, hu, hp⟩ := placesSt
  obtain ⟨it, z, hi, hz, hl⟩ := infoSt
  obtain ⟨Z, hZ⟩ : ∃ Z, z.cells = Z := ⟨_, rfl⟩
  rw [hZ] at hl
  refine ⟨(Z.setIfInBounds 32768 (.int .i64 (n : Int))).setIfInBounds 33281 (.bool b), ?_, ?_⟩
  · show Tryz.prog.built 96 _ = _
    unfold Program.built
    simp only [hi, hu, hz, hp, hZ]
    simp [Instr.fill, Value.cells, hl]
  · show _ = _
    simpa using hl
theorem at_buildSt {ops : Array Oper} {rest : List Oper} {o : Oper} {a : Act} {w : World} {Q : Exit → Act → World → Prop} (n : Nat) (b : Bool) (C : Array Value) (hC : Hid (Tryz.prog.built 96 [(1, .int .i64 (n : Int)), (3, .bool b)] = some C)) (x y : Operand) (hg : o.guard = none) (ho : o.op = .build 96 #[(1, x), (3, y)]) (hx : a.eval x = .int .i64 (n : Int)) (hy : a.eval y = .bool b) (d : Option Tmp) (hd : o.dst = d)
    (h : wpList Tryz.prog ops Q rest (a.put d (.agg C)) w) : wpList Tryz.prog ops Q (o :: rest) a w := by
  refine wpList_buildTo hg 96 _ ho d hd C ?_ h
  have e : ((#[(1, x), (3, y)] : Array (Nat × Operand)).map fun (i, x) => (i, a.eval x)).toList = [(1, .int .i64 (n : Int)), (3, .bool b)] := by simp [hx, hy]
  rw [e]
  exact hC.out
theorem snew_ok (w : World) (n : Nat) (h1 : 2048 ≤ n) (h2 : n ≤ 32768) (h3 : n % 2048 = 0) (sp : Option Addr) (cap : Nat) (l : List UInt8) (hl : Hid (LB w sp l)) (hn : Hid (l.length = 512)) :
    Calls Tryz.prog 29 #[.int .i64 (n : Int), .slice sp 512 cap] w fun e w' => ∃ v, e = .returned (.tuple #[v, .int .i64 0]) ∧ Below w.heap.size w w' := by
  obtain ⟨C, hC, hlen⟩ := builtSt n true
  have h1'' : decide ((n : Int) < 2048) = false := by simp; omega
  have h2'' : decide ((32768 : Int) < n) = false := by simp; omega
  have h3' : (n : Int).tmod 2048 = 0 := by rw [Int.tmod_eq_emod_of_nonneg (by omega)]; omega
  have cut := cutRom w.heap.size
  have HB0 : Below w.heap.size w (w.alloc (.cells C 96)) := (Below.refl _ _).alloc (Nat.le_refl _) _
  have rlen : (rowL cB l).length = 512 := by rw [rowL_len kByte.len, hn.out]
  clear h1 h2 h3
  go_enter Tryz.func29, Tryz.ntmps29
  go_wp2_with (first
    | (refine at_buildSt n true C hC (.tmp 21) (.const (.bool true)) rfl rfl rfl rfl _ rfl ?_)
    | (refine Great.wpList_boxTo rfl 96 (.tmp 22) rfl _ rfl w.heap.size rfl C rfl ?_)
    | (refine wpList_copy_splice rfl (.tmp 27) (.tmp 28) 31 31 rfl 5 Tryz.underlying31 (by kernel_rfl) (some ⟨w.heap.size, 32769, none⟩) sp 512 512 512 cap rfl rfl w.heap.size 32769 C.toList 96 ?g1 (rowL cB l) ?g2 ?g3 ?g4 (rowL_cell kByte.one l) w.heap.size w HB0 (Nat.le_refl _) ?_))
  case g1 => rw [Array.toArray_toList]; exact alloc_last' w _
  case g2 => rw [rlen]; rfl
  case g3 =>
    try intro _
    have hL := hl.out.below HB0
    obtain ⟨g, o, rfl⟩ := lb_some hL (by rw [hn.out]; decide)
    have hc : ∀ j v, (rowL cB l)[j]? = some v → (w.alloc (.cells C 96)).cell? ((⟨g, o, none⟩ : Addr).add j) = some v := fun j v hj => by
      rw [Addr.add_lit]
      exact hL.cells kByte.len kByte.s0 j v hj
    first | exact ⟨_, rfl, hc⟩ | exact ⟨rfl, _, rfl, hc⟩
  case g4 => rw [rlen, Array.length_toList, hlen.out]; decide
  intro w1 hw1 HB1
  clear hw1 hC hlen HB0 cut rlen
  go_wp2
  go_returns
  exact ⟨_, rfl, HB1⟩
theorem snew_size (w : World) (n : Int) (hn : ¬ (2048 ≤ n ∧ n ≤ 32768 ∧ n.tmod 2048 = 0)) (sp : Option Addr) (len cap : Nat) :
    Calls Tryz.prog 29 #[.int .i64 n, .slice sp len cap] w fun e w' => e = .returned (.tuple #[.pointer none, .int .i64 30]) ∧ w' = w := by
  by_cases h1 : n < 2048
  · clear hn
    go_enter Tryz.func29, Tryz.ntmps29
    go_wp2
    go_returns
    exact ⟨rfl, rfl⟩
  by_cases h2 : 32768 < n
  · have h1' : decide (n < 2048) = false := by simpa using h1
    clear hn h1
    go_enter Tryz.func29, Tryz.ntmps29
    go_wp2
    go_returns
    exact ⟨rfl, rfl⟩
  · have h1' : decide (n < 2048) = false := by simpa using h1
    have h2' : decide (32768 < n) = false := by simpa using h2
    have h3' : (n.tmod 2048 != 0) = true := by simp; omega
    clear hn h1 h2
    go_enter Tryz.func29, Tryz.ntmps29
    go_wp2
    go_returns
    exact ⟨rfl, rfl⟩
theorem snew_rom (w : World) (n : Nat) (h1 : 2048 ≤ n) (h2 : n ≤ 32768) (h3 : n % 2048 = 0) (sp : Option Addr) (len cap : Nat) (hl : len ≠ 512) :
    Calls Tryz.prog 29 #[.int .i64 (n : Int), .slice sp len cap] w fun e w' => e = .returned (.tuple #[.pointer none, .int .i64 31]) ∧ w' = w := by
  have h1'' : decide ((n : Int) < 2048) = false := by simp; omega
  have h2'' : decide ((32768 : Int) < n) = false := by simp; omega
  have h3' : (n : Int).tmod 2048 = 0 := by rw [Int.tmod_eq_emod_of_nonneg (by omega)]; omega
  have h4 : ((len : Int) != 512) = true := by simp; omega
  clear h1 h2 h3 hl
  go_enter Tryz.func29, Tryz.ntmps29
  go_wp2
  go_returns
  exact ⟨rfl, rfl⟩
/-- store.New, for what it says alone. -/
def szE (n m : Nat) : Int := if ¬ (2048 ≤ n ∧ n ≤ 32768 ∧ n % 2048 = 0) then 30 else if m ≠ 512 then 31 else 0
theorem snew_any (w : World) (n : Nat) (sp : Option Addr) (cap : Nat) (l : List UInt8) (hl : Hid (LB w sp l)) :
    Calls Tryz.prog 29 #[.int .i64 (n : Int), .slice sp l.length cap] w fun e w' => ∃ v, e = .returned (.tuple #[v, .int .i64 (szE n l.length)]) ∧ Below w.heap.size w w' := by
  unfold szE
  by_cases h : 2048 ≤ n ∧ n ≤ 32768 ∧ n % 2048 = 0
  · rw [if_neg (fun x => x h)]
    by_cases hm : l.length = 512
    · rw [if_neg (fun x => x hm)]
      have hk := snew_ok w n h.1 h.2.1 h.2.2 sp cap l hl hm
      rw [← hm] at hk
      exact hk
    · rw [if_pos hm]
      exact (snew_rom w n h.1 h.2.1 h.2.2 sp l.length cap hm).mono fun e w' ⟨a, b⟩ => ⟨_, a, by rw [b]; exact Below.refl _ _⟩
  · rw [if_pos h]
    refine (snew_size w (n : Int) (fun x => h ?_) sp l.length cap).mono fun e w' ⟨a, b⟩ => ⟨_, a, by rw [b]; exact Below.refl _ _⟩
    obtain ⟨a, b, c⟩ := x
    rw [Int.tmod_eq_emod_of_nonneg (by omega)] at c
    omega
/-- What the tables hold. -/
structure Tbs (w : World) : Prop where
  c : Tabs w
  p : Tl w
theorem Tbs.below {w w' : World} (h : Tbs w) (hb : Below w.heap.size w w') : Tbs w' := ⟨h.c.below hb, h.p.below hb⟩
theorem bchk_any (w : World) (tb : Hid (Tbs w)) (C : Array Value) (s : Bd) (hs : Hid (BL w C s)) : Calls Tryz.prog 15 #[.agg C] w fun e w' => e = .returned (.int .i64 (chkB s)) ∧ Below w.heap.size w w' := by
  obtain ⟨sR, cR, sO, cO, hCe, lR, lO⟩ := hs.out.c
  have sC : Hid (C.size = 35) := hs.out.size
  have K0 : Hid (Fm w [(w.heap.size, C, 34)] (w.alloc (.cells C 34))) := Fm.one w _ _
  have hm : Hid (∀ y, Fm w [(w.heap.size, C, 34)] y → y.rangeAt w.heap.size 0 (cCs s).toList ∧ y.rangeAt w.heap.size 26 (rCs s).toList ∧ y.cell? ⟨w.heap.size, 32, none⟩ = some (.slice sR s.ram.length cR) ∧ y.cell? ⟨w.heap.size, 33, none⟩ = some (.slice sO s.rom.length cO) ∧ y.cell? ⟨w.heap.size, 30, none⟩ = some (.int .u8 (s.pd.toNat : Int))) := fun y h => by
    have hb := h.bx 0 _ _ _ rfl
    rw [hCe] at hb
    exact ⟨mid_c hb, mid_r hb, hb.c 32 _ rfl, hb.c 33 _ rfl, hb.c 30 _ rfl⟩
  have hZ : Hid (∀ v, Below w.heap.size w v → Calls Tryz.prog 29 #[.int .i64 (s.ram.length : Int), .slice sO s.rom.length cO] v fun e w' => ∃ p, e = .returned (.tuple #[p, .int .i64 (szE s.ram.length s.rom.length)]) ∧ Below v.heap.size v w') := fun v hv => snew_any v _ sO cO s.rom (lO.below hv)
  have h4 : Hid (∀ v, Below w.heap.size w v → Calls Tryz.prog 30 #[.agg (cCs s)] v fun e w' => e = .returned (.int .i64 (chkC s)) ∧ Below v.heap.size v w') := fun v hv => cchk_any s v (tb.out.below hv).c
  have h5 : Hid (∀ v, Below w.heap.size w v → Calls Tryz.prog 31 #[.agg (rCs s)] v fun e w' => e = .returned (.int .i64 (chkR s)) ∧ Below v.heap.size v w') := fun v hv => pchk_any s v (tb.out.below hv).p
  have sz : Hid ((cCs s).size = 26 ∧ (rCs s).size = 4) := ⟨rfl, rfl⟩
  have hb : Hid (chkB s = if szE s.ram.length s.rom.length ≠ 0 then szE s.ram.length s.rom.length else if chkC s ≠ 0 then chkC s else if chkR s ≠ 0 then chkR s else if 15 < s.pd.toNat then 1 else 0) := by
    show _ = _
    unfold chkB szE
    by_cases h : 2048 ≤ s.ram.length ∧ s.ram.length ≤ 32768 ∧ s.ram.length % 2048 = 0
    · by_cases hm : s.rom.length = 512
      · simp [h, hm]
      · simp [h, hm]
    · simp [h]
  rw [hb.out]
  generalize cCs s = CC at hm h4 sz
  generalize rCs s = RR at hm h5 sz
  generalize szE s.ram.length s.rom.length = Z at hZ ⊢
  generalize chkC s = X4 at h4 ⊢
  generalize chkR s = X5 at h5 ⊢
  generalize s.pd.toNat = PD at hm ⊢
  generalize s.ram.length = nR at hm hZ
  generalize s.rom.length = nO at hm hZ
  clear hCe lR lO hb
  by_cases hZ : Z = 0
  · subst hZ
    rw [if_neg (fun x => x rfl)]
    by_cases hX4 : X4 = 0
    · subst hX4
      rw [if_neg (fun x => x rfl)]
      by_cases hX5 : X5 = 0
      · subst hX5
        rw [if_neg (fun x => x rfl)]
        by_cases hp : 15 < PD
        · rw [if_pos hp]
          have ip : decide ((15 : Int) < (PD : Int)) = true := decide_eq_true (by omega)
          clear hp
          go_enter Tryz.func15, Tryz.ntmps15
          go_wp2_with (first
            | ((with_reducible refine gen_world (w.alloc (.cells C 34)) (fun y => Fm w [(w.heap.size, C, 34)] y) ?_ ?_); exact K0.out; intro y0 K1; obtain ⟨_, _, e32, e33, e30⟩ := hm.out _ K1.out)
            | (go_at_call 29; refine (hZ.out _ K1.out.low).mono ?_; rintro e y1 ⟨v1, rfl, H1⟩; have K2 : Hid (Fm w [(w.heap.size, C, 34)] y1) := K1.out.below H1; clear H1; obtain ⟨_, _, f32, f33, f30⟩ := hm.out _ K2.out)
            | ((with_reducible refine at_loadm rtCp w.heap.size 0 CC ?_ ?_ (.tmp 19) ?_ ?_ ?_ ?_); exact (hm.out _ K2.out).1; exact sz.out.1; (first | rfl | kernel_rfl); rfl; rfl)
            | (go_at_call 30; refine (h4.out _ K2.out.low).mono ?_; rintro e y2 ⟨rfl, H2⟩; have K3 : Hid (Fm w [(w.heap.size, C, 34)] y2) := K2.out.below H2; clear H2; obtain ⟨_, _, g32, g33, g30⟩ := hm.out _ K3.out)
            | ((with_reducible refine at_loadm rtRa w.heap.size 26 RR ?_ ?_ (.tmp 25) ?_ ?_ ?_ ?_); exact (hm.out _ K3.out).2.1; exact sz.out.2; (first | rfl | kernel_rfl); rfl; rfl)
            | (go_at_call 31; refine (h5.out _ K3.out.low).mono ?_; rintro e y3 ⟨rfl, H3⟩; have K4 : Hid (Fm w [(w.heap.size, C, 34)] y3) := K3.out.below H3; clear H3; obtain ⟨_, _, i32, i33, i30⟩ := hm.out _ K4.out))
          go_ret
          exact ⟨rfl, K4.out.low⟩
        · rw [if_neg hp]
          have ip : decide ((15 : Int) < (PD : Int)) = false := decide_eq_false (by omega)
          clear hp
          go_enter Tryz.func15, Tryz.ntmps15
          go_wp2_with (first
            | ((with_reducible refine gen_world (w.alloc (.cells C 34)) (fun y => Fm w [(w.heap.size, C, 34)] y) ?_ ?_); exact K0.out; intro y0 K1; obtain ⟨_, _, e32, e33, e30⟩ := hm.out _ K1.out)
            | (go_at_call 29; refine (hZ.out _ K1.out.low).mono ?_; rintro e y1 ⟨v1, rfl, H1⟩; have K2 : Hid (Fm w [(w.heap.size, C, 34)] y1) := K1.out.below H1; clear H1; obtain ⟨_, _, f32, f33, f30⟩ := hm.out _ K2.out)
            | ((with_reducible refine at_loadm rtCp w.heap.size 0 CC ?_ ?_ (.tmp 19) ?_ ?_ ?_ ?_); exact (hm.out _ K2.out).1; exact sz.out.1; (first | rfl | kernel_rfl); rfl; rfl)
            | (go_at_call 30; refine (h4.out _ K2.out.low).mono ?_; rintro e y2 ⟨rfl, H2⟩; have K3 : Hid (Fm w [(w.heap.size, C, 34)] y2) := K2.out.below H2; clear H2; obtain ⟨_, _, g32, g33, g30⟩ := hm.out _ K3.out)
            | ((with_reducible refine at_loadm rtRa w.heap.size 26 RR ?_ ?_ (.tmp 25) ?_ ?_ ?_ ?_); exact (hm.out _ K3.out).2.1; exact sz.out.2; (first | rfl | kernel_rfl); rfl; rfl)
            | (go_at_call 31; refine (h5.out _ K3.out.low).mono ?_; rintro e y3 ⟨rfl, H3⟩; have K4 : Hid (Fm w [(w.heap.size, C, 34)] y3) := K3.out.below H3; clear H3; obtain ⟨_, _, i32, i33, i30⟩ := hm.out _ K4.out))
          go_ret
          exact ⟨rfl, K4.out.low⟩
      · rw [if_pos hX5]
        have jX5 : (X5 != 0) = true := by rw [bne_iff_ne]; exact hX5
        clear hX5
        go_enter Tryz.func15, Tryz.ntmps15
        go_wp2_with (first
          | ((with_reducible refine gen_world (w.alloc (.cells C 34)) (fun y => Fm w [(w.heap.size, C, 34)] y) ?_ ?_); exact K0.out; intro y0 K1; obtain ⟨_, _, e32, e33, e30⟩ := hm.out _ K1.out)
          | (go_at_call 29; refine (hZ.out _ K1.out.low).mono ?_; rintro e y1 ⟨v1, rfl, H1⟩; have K2 : Hid (Fm w [(w.heap.size, C, 34)] y1) := K1.out.below H1; clear H1; obtain ⟨_, _, f32, f33, f30⟩ := hm.out _ K2.out)
          | ((with_reducible refine at_loadm rtCp w.heap.size 0 CC ?_ ?_ (.tmp 19) ?_ ?_ ?_ ?_); exact (hm.out _ K2.out).1; exact sz.out.1; (first | rfl | kernel_rfl); rfl; rfl)
          | (go_at_call 30; refine (h4.out _ K2.out.low).mono ?_; rintro e y2 ⟨rfl, H2⟩; have K3 : Hid (Fm w [(w.heap.size, C, 34)] y2) := K2.out.below H2; clear H2; obtain ⟨_, _, g32, g33, g30⟩ := hm.out _ K3.out)
          | ((with_reducible refine at_loadm rtRa w.heap.size 26 RR ?_ ?_ (.tmp 25) ?_ ?_ ?_ ?_); exact (hm.out _ K3.out).2.1; exact sz.out.2; (first | rfl | kernel_rfl); rfl; rfl)
          | (go_at_call 31; refine (h5.out _ K3.out.low).mono ?_; rintro e y3 ⟨rfl, H3⟩; have K4 : Hid (Fm w [(w.heap.size, C, 34)] y3) := K3.out.below H3; clear H3; obtain ⟨_, _, i32, i33, i30⟩ := hm.out _ K4.out))
        go_ret
        exact ⟨rfl, K4.out.low⟩
    · rw [if_pos hX4]
      have jX4 : (X4 != 0) = true := by rw [bne_iff_ne]; exact hX4
      clear hX4
      go_enter Tryz.func15, Tryz.ntmps15
      go_wp2_with (first
        | ((with_reducible refine gen_world (w.alloc (.cells C 34)) (fun y => Fm w [(w.heap.size, C, 34)] y) ?_ ?_); exact K0.out; intro y0 K1; obtain ⟨_, _, e32, e33, e30⟩ := hm.out _ K1.out)
        | (go_at_call 29; refine (hZ.out _ K1.out.low).mono ?_; rintro e y1 ⟨v1, rfl, H1⟩; have K2 : Hid (Fm w [(w.heap.size, C, 34)] y1) := K1.out.below H1; clear H1; obtain ⟨_, _, f32, f33, f30⟩ := hm.out _ K2.out)
        | ((with_reducible refine at_loadm rtCp w.heap.size 0 CC ?_ ?_ (.tmp 19) ?_ ?_ ?_ ?_); exact (hm.out _ K2.out).1; exact sz.out.1; (first | rfl | kernel_rfl); rfl; rfl)
        | (go_at_call 30; refine (h4.out _ K2.out.low).mono ?_; rintro e y2 ⟨rfl, H2⟩; have K3 : Hid (Fm w [(w.heap.size, C, 34)] y2) := K2.out.below H2; clear H2; obtain ⟨_, _, g32, g33, g30⟩ := hm.out _ K3.out)
        | ((with_reducible refine at_loadm rtRa w.heap.size 26 RR ?_ ?_ (.tmp 25) ?_ ?_ ?_ ?_); exact (hm.out _ K3.out).2.1; exact sz.out.2; (first | rfl | kernel_rfl); rfl; rfl)
        | (go_at_call 31; refine (h5.out _ K3.out.low).mono ?_; rintro e y3 ⟨rfl, H3⟩; have K4 : Hid (Fm w [(w.heap.size, C, 34)] y3) := K3.out.below H3; clear H3; obtain ⟨_, _, i32, i33, i30⟩ := hm.out _ K4.out))
      go_ret
      exact ⟨rfl, K3.out.low⟩
  · rw [if_pos hZ]
    have jZ : (Z != 0) = true := by rw [bne_iff_ne]; exact hZ
    clear hZ
    go_enter Tryz.func15, Tryz.ntmps15
    go_wp2_with (first
      | ((with_reducible refine gen_world (w.alloc (.cells C 34)) (fun y => Fm w [(w.heap.size, C, 34)] y) ?_ ?_); exact K0.out; intro y0 K1; obtain ⟨_, _, e32, e33, e30⟩ := hm.out _ K1.out)
      | (go_at_call 29; refine (hZ.out _ K1.out.low).mono ?_; rintro e y1 ⟨v1, rfl, H1⟩; have K2 : Hid (Fm w [(w.heap.size, C, 34)] y1) := K1.out.below H1; clear H1; obtain ⟨_, _, f32, f33, f30⟩ := hm.out _ K2.out)
      | ((with_reducible refine at_loadm rtCp w.heap.size 0 CC ?_ ?_ (.tmp 19) ?_ ?_ ?_ ?_); exact (hm.out _ K2.out).1; exact sz.out.1; (first | rfl | kernel_rfl); rfl; rfl)
      | (go_at_call 30; refine (h4.out _ K2.out.low).mono ?_; rintro e y2 ⟨rfl, H2⟩; have K3 : Hid (Fm w [(w.heap.size, C, 34)] y2) := K2.out.below H2; clear H2; obtain ⟨_, _, g32, g33, g30⟩ := hm.out _ K3.out)
      | ((with_reducible refine at_loadm rtRa w.heap.size 26 RR ?_ ?_ (.tmp 25) ?_ ?_ ?_ ?_); exact (hm.out _ K3.out).2.1; exact sz.out.2; (first | rfl | kernel_rfl); rfl; rfl)
      | (go_at_call 31; refine (h5.out _ K3.out.low).mono ?_; rintro e y3 ⟨rfl, H3⟩; have K4 : Hid (Fm w [(w.heap.size, C, 34)] y3) := K3.out.below H3; clear H3; obtain ⟨_, _, i32, i33, i30⟩ := hm.out _ K4.out))
    go_ret
    exact ⟨rfl, K2.out.low⟩
end Go.Proofs.YtehnhjdjjalifaaGreatDoor
