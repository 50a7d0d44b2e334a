/- The program's reading of a line: a span of its parts, the cycles that a word tells, so many digits. -/
import Derived.Test.YthpahpfnpapoiaaDoorVt
import Derived.Test.YthpahpfnpapoiaaDoorNum
namespace Go.Proofs.YthpahpfnpapoiaaDoor
open Go Go.RowKit
set_option linter.unusedVariables false
set_option maxHeartbeats 1000000
set_option maxRecDepth 20000

theorem built_sp (c v0 v1 v2 v3 v4 v5 v6 v7 v8 : Int) : Tryd.prog.built 34 [(0, .int .i64 c), (1, .int .u16 v0), (2, .bool (v1 != 0)), (3, .bool (v2 != 0)), (4, .bool (v3 != 0)), (5, .bool (v4 != 0)), (6, .bool (v5 != 0)), (7, .bool (v6 != 0)), (8, .bool (v7 != 0)), (9, .int .u8 v8)] = some (spC ⟨c, ⟨v0, v1 != 0, v2 != 0, v3 != 0, v4 != 0, v5 != 0, v6 != 0, v7 != 0, v8⟩⟩) := by kernel_rfl
theorem span_any (w : World) (c v0 v1 v2 v3 v4 v5 v6 v7 v8 : Int) (k0 : 0 ≤ v0) (k1 : v0 ≤ 65535) (b0 : 0 ≤ v8) (b1 : v8 ≤ 255) : Calls Tryd.prog 56 #[.int .i64 c, .agg #[.int .i64 v0, .int .i64 v1, .int .i64 v2, .int .i64 v3, .int .i64 v4, .int .i64 v5, .int .i64 v6, .int .i64 v7, .int .i64 v8]] w fun e w' => e = .returned (.agg (spC ⟨c, ⟨v0, v1 != 0, v2 != 0, v3 != 0, v4 != 0, v5 != 0, v6 != 0, v7 != 0, v8⟩⟩)) ∧ Below w.heap.size w w' := by
  have zz := zeroVS
  obtain ⟨Z, hZ⟩ : ∃ Z, (⟨0, ⟨0, false, false, false, false, false, false, false, 0⟩⟩ : Sn) = Z := ⟨_, rfl⟩
  rw [hZ] at zz
  clear hZ
  obtain ⟨cs, hcs⟩ : ∃ x : Array Value, (#[.int .i64 v0, .int .i64 v1, .int .i64 v2, .int .i64 v3, .int .i64 v4, .int .i64 v5, .int .i64 v6, .int .i64 v7, .int .i64 v8] : Array Value) = x := ⟨_, rfl⟩
  have hF : Hid (Fm w [(w.heap.size, cs, 74), (w.heap.size + 1, spC Z, 34)] ((w.alloc (.cells cs 74)).alloc (.cells (spC Z) 34))) := Fm.two w _ _ _ _
  have w1 : IntKind.u16.wrap v0 = v0 := by rw [IntKind.wrap_u16]; omega
  have w2 : IntKind.u8.wrap v8 = v8 := by rw [IntKind.wrap_u8]; omega
  have e0 : Hid (cs[0]? = some (.int .i64 v0)) := by show _ = _; rw [← hcs]; rfl
  have e1 : Hid (cs[1]? = some (.int .i64 v1)) := by show _ = _; rw [← hcs]; rfl
  have e2 : Hid (cs[2]? = some (.int .i64 v2)) := by show _ = _; rw [← hcs]; rfl
  have e3 : Hid (cs[3]? = some (.int .i64 v3)) := by show _ = _; rw [← hcs]; rfl
  have e4 : Hid (cs[4]? = some (.int .i64 v4)) := by show _ = _; rw [← hcs]; rfl
  have e5 : Hid (cs[5]? = some (.int .i64 v5)) := by show _ = _; rw [← hcs]; rfl
  have e6 : Hid (cs[6]? = some (.int .i64 v6)) := by show _ = _; rw [← hcs]; rfl
  have e7 : Hid (cs[7]? = some (.int .i64 v7)) := by show _ = _; rw [← hcs]; rfl
  have e8 : Hid (cs[8]? = some (.int .i64 v8)) := by show _ = _; rw [← hcs]; rfl
  rw [hcs]
  clear hcs
  go_enter Tryd.func56, Tryd.ntmps56
  go_wp2_with (first
    | ((with_reducible refine gen_world ((w.alloc (.cells cs 74)).alloc (.cells (spC Z) 34)) (Fm w [(w.heap.size, cs, 74), (w.heap.size + 1, spC Z, 34)]) hF.out ?_); intro y0 K0; have d0 := (K0.out.bx 0 _ _ _ rfl).c 0 _ e0.out; have d1 := (K0.out.bx 0 _ _ _ rfl).c 1 _ e1.out; have d2 := (K0.out.bx 0 _ _ _ rfl).c 2 _ e2.out; have d3 := (K0.out.bx 0 _ _ _ rfl).c 3 _ e3.out; have d4 := (K0.out.bx 0 _ _ _ rfl).c 4 _ e4.out; have d5 := (K0.out.bx 0 _ _ _ rfl).c 5 _ e5.out; have d6 := (K0.out.bx 0 _ _ _ rfl).c 6 _ e6.out; have d7 := (K0.out.bx 0 _ _ _ rfl).c 7 _ e7.out; have d8 := (K0.out.bx 0 _ _ _ rfl).c 8 _ e8.out)
    | ((with_reducible refine at_bu (t := 34) #[(0, .tmp 5), (1, .tmp 8), (2, .tmp 11), (3, .tmp 14), (4, .tmp 17), (5, .tmp 20), (6, .tmp 23), (7, .tmp 26), (8, .tmp 29), (9, .tmp 32)] [(0, .int .i64 c), (1, .int .u16 v0), (2, .bool (v1 != 0)), (3, .bool (v2 != 0)), (4, .bool (v3 != 0)), (5, .bool (v4 != 0)), (6, .bool (v5 != 0)), (7, .bool (v6 != 0)), (8, .bool (v7 != 0)), (9, .int .u8 v8)] (spC ⟨c, ⟨v0, v1 != 0, v2 != 0, v3 != 0, v4 != 0, v5 != 0, v6 != 0, v7 != 0, v8⟩⟩) ?_ ?_ ?_ ?_ ?_); kernel_rfl; rfl; kernel_rfl; exact built_sp c v0 v1 v2 v3 v4 v5 v6 v7 v8)
    | ((with_reducible refine at_st rtS (w.heap.size + 1) (spC Z) (spC ⟨c, ⟨v0, v1 != 0, v2 != 0, v3 != 0, v4 != 0, v5 != 0, v6 != 0, v7 != 0, v8⟩⟩) ?_ ?_ ?_ ?_ (.tmp 4) (.tmp 33) ?_ ?_ ?_ ?_ ?_); exact K0.out.bx 1 _ _ _ rfl; rfl; rfl; exact spC_one _; rfl; rfl; rfl; rfl; intro y2 hw2; have K2 : Hid (Fm w [(w.heap.size, cs, 74), (w.heap.size + 1, spC ⟨c, ⟨v0, v1 != 0, v2 != 0, v3 != 0, v4 != 0, v5 != 0, v6 != 0, v7 != 0, v8⟩⟩, 34)] y2) := K0.out.put 1 _ _ _ _ rfl hw2.out))
  refine ret_row rtS Tryd.results56 rfl (K2.out.bx 1 _ _ _ rfl) rfl rfl ?_
  exact ⟨rfl, K2.out.low⟩
theorem cnt_bad (x : List UInt8) (h : ∀ v, Lib.atoiAll x ≠ .ok v) : cntW x = 0 := by
  unfold cntW
  split
  · rename_i v hv; exact absurd hv (h v)
  · rfl
  · rfl
theorem cnt_ok (x : List UInt8) (v : Int) (h : Lib.atoiAll x = .ok v) : cntW x = if v < 1 ∨ 1048576 < v ∨ Lib.itoa v ≠ x then 0 else v := by
  unfold cntW
  rw [h]
theorem count_any (w : World) (tb : Hid (Tp w)) (s : ByteArray) (hs : s.size ≤ 1000000) : Calls Tryd.prog 54 #[.string s] w fun e w' => e = .returned (.int .i64 (cntW (strL s))) ∧ Below w.heap.size w w' := by
  have hA := atoi_any w tb.out s hs
  obtain ⟨C, hC⟩ : ∃ x, cntW (strL s) = x := ⟨_, rfl⟩
  rw [hC]
  go_enter Tryd.func54, Tryd.ntmps54
  go_wp2_with (go_at_call 64; refine hA.mono ?_; rintro e y ⟨n, er, rfl, hb, H⟩; refine stopAt ?_)
  rcases H with ⟨h1, rfl⟩ | ⟨h1, te, pe, rfl⟩
  · have hc := cnt_ok _ _ h1
    rw [hC] at hc
    by_cases q1 : n < 1
    · rw [if_pos (.inl q1)] at hc
      subst hc
      have q1' : decide (n < 1) = true := by simpa using q1
      clear q1 hC
      refine Stop.go ?_
      go_wp2
      go_ret
      exact ⟨rfl, hb⟩
    · by_cases q2 : 1048576 < n
      · rw [if_pos (.inr (.inl q2))] at hc
        subst hc
        have q1' : decide (n < 1) = false := by simpa using q1
        have q2' : decide (1048576 < n) = true := by simpa using q2
        clear q1 q2 hC
        refine Stop.go ?_
        go_wp2
        go_ret
        exact ⟨rfl, hb⟩
      · have hI := itoa_any n (by omega) (by omega) y (tb.out.below hb)
        obtain ⟨IT, hIT⟩ : ∃ x : ByteArray, (⟨(Lib.itoa n).toArray⟩ : ByteArray) = x := ⟨_, rfl⟩
        rw [hIT] at hI
        have hL : strL IT = Lib.itoa n := by rw [← hIT]; simp [strL]
        have q1' : decide (n < 1) = false := by simpa using q1
        have q2' : decide (1048576 < n) = false := by simpa using q2
        by_cases q3 : IT = s
        · subst q3
          rw [if_neg (by rw [hL]; simp; omega)] at hc
          subst hc
          clear q1 q2 hC
          refine Stop.go ?_
          go_wp2_with (go_at_call 46; refine hI.mono ?_; rintro e z ⟨rfl, hz⟩)
          go_ret
          exact ⟨rfl, hb.trans (hz.mono hb.size)⟩
        · have q4 : (IT.toList == s.toList) = false := by rw [toL, toL, beq_eq_false_iff_ne]; exact fun e => q3 (by rw [← strL_mk IT, e, strL_mk])
          rw [if_pos (.inr (.inr (fun e => q3 (by rw [← strL_mk IT, ← strL_mk s, hL, e]))))] at hc
          subst hc
          clear q1 q2 hC
          refine Stop.go ?_
          go_wp2_with (go_at_call 46; refine hI.mono ?_; rintro e z ⟨rfl, hz⟩)
          go_ret
          exact ⟨rfl, hb.trans (hz.mono hb.size)⟩
  · have hc := cnt_bad _ h1
    rw [hC] at hc
    subst hc
    clear hC
    refine Stop.go ?_
    go_wp2
    go_ret
    exact ⟨rfl, hb⟩
theorem digits_any (w : World) (sp : Option Addr) (cap : Nat) (rs : List ByteArray) (D : Nat) (hl : Hid (∀ x, rs.head? = some x → x.size ≤ 1000000 ∧ ∃ g o, sp = some ⟨g, o, none⟩ ∧ w.cell? ⟨g, o, none⟩ = some (.string x))) (hn : rs.length ≤ 1000000) (hD : D ≤ 8) :
    Calls Tryd.prog 55 #[.slice sp rs.length cap, .int .i64 (D : Int)] w fun e w' => e = .returned (.int .i64 (numD D (rs.map strL))) ∧ Below w.heap.size w w' := by
  cases rs with
  | nil =>
    show Calls Tryd.prog _ #[.slice sp 0 cap, _] w fun e w' => e = .returned (.int .i64 0) ∧ _
    clear hl hn
    go_enter Tryd.func55, Tryd.ntmps55
    go_wp2
    go_ret
    exact ⟨rfl, Below.refl _ _⟩
  | cons x r =>
    obtain ⟨hx, g, o, rfl, hc⟩ := hl.out x rfl
    obtain ⟨n, hn'⟩ : ∃ n, (x :: r).length = n := ⟨_, rfl⟩
    have n1 : 0 < n := by rw [← hn']; simp
    rw [hn'] at hn ⊢
    have i0 : ∀ v, (Instr.indexAt 85 (.slice (some ⟨g, o, none⟩) n cap) (.int .i64 0)).run Tryd.prog v = .ok (.pointer (some ⟨g, o, none⟩)) v := fun v => by
      have := idxP (g := g) (off := o) (len := n) (cap := cap) Tryd.underlying85 (s := 1) (by kernel_rfl) .i64 0 v n1
      simpa using this
    have q0 : ((n : Int) == 0) = false := by simp; omega
    have xi : (x.size : Int) ≤ 1000000 := by omega
    have hN := fun y => number_any x y (by unfold maxLen; omega)
    obtain ⟨R, hR⟩ : ∃ R, numD D ((x :: r).map strL) = R := ⟨_, rfl⟩
    have hR' : Hid (R = if x.size = D then numV x else 0) := by
      show R = _
      rw [← hR]
      show (if (strL x).length = D then numV ⟨(strL x).toArray⟩ else 0) = _
      rw [strL_len, strL_mk]
    rw [hR]
    clear hR hn' hl
    by_cases hd : x.size = D
    · have e : R = numV x := by have := hR'.out; rw [if_pos hd] at this; exact this
      subst e
      have q1 : ((x.size : Int) != (D : Int)) = false := by simp [hd]
      clear hR'
      go_enter Tryd.func55, Tryd.ntmps55
      go_wp2_with (go_at_call 65; refine (hN w).mono ?_; rintro e z ⟨rfl, hz⟩)
      go_ret
      exact ⟨rfl, hz⟩
    · have e : R = 0 := by have := hR'.out; rw [if_neg hd] at this; exact this
      subst e
      have q1 : ((x.size : Int) != (D : Int)) = true := by simp; omega
      clear hR'
      go_enter Tryd.func55, Tryd.ntmps55
      go_wp2
      go_ret
      exact ⟨rfl, Below.refl _ _⟩
end Go.Proofs.YthpahpfnpapoiaaDoor
