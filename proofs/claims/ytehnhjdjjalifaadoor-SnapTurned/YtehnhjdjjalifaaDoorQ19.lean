/- The law: a byte turned, bytes cut off, bytes behind. -/
import Derived.Test.YtehnhjdjjalifaaDoorQ18
import Derived.Test.YtehnhjdjjalifaaDoorLn
namespace Go.Proofs.YtehnhjdjjalifaaDoor
open Go Go.RowKit Go.Shelf
set_option linter.unusedVariables false
set_option maxHeartbeats 4000000
set_option maxRecDepth 20000

section
variable {α : Type} {T t : TypeId} {s bts : Nat} {c : α → List Value}
theorem run_app0 (K : KdL T t s bts c) (w : World) (ty : TypeId) (B : Nat) (v : Value) (l : List α) (hown : OwnL t s c B w v l) (p : Option Addr) (cp : Nat) : (Builtin.append_ #[T, T] ty #[v, .slice p 0 cp]).run Tryd.prog w = .ok v w := by
  obtain ⟨i, z, hi, hz0, hz1, hz2, hz3⟩ := K.i
  have hl : ∀ (x : Addr), (loadCells x 0).run Tryd.prog w = .ok #[] w := fun x => by simpa using run_loadCells_list (P := Tryd.prog) w x [] (by simp)
  rcases hown.2 with ⟨rfl, h0⟩ | ⟨g, cap, cur, rfl, _, _, hnc, _⟩
  · cases p <;> simp [Builtin.append_, run_underlying K.u, sizeOf, typeInfo, hi, Builtin.lenOf, Builtin.firstCells, hl]
  · cases p <;> simp [Builtin.append_, run_underlying K.u, sizeOf, typeInfo, hi, Builtin.lenOf, Builtin.firstCells, hnc, storeCells, hl]
theorem at_appA (K : KdL T t s bts c) {ops : Array Oper} {rest : List Oper} {o : Oper} {a : Act} {w : World} {Q : Exit → Act → World → Prop} (hgd : o.guard = none) (sl x : Operand)
    (ho : o.op = .call { callee := .builtin .append, args := #[sl, x], argTypes := #[T, T] }) (B : Nat) (v : Value) (l : List α) (hs : a.eval sl = v) (hown : OwnL t s c B w v l)
    (p : Option Addr) (m cm : Nat) (us : List α) (hm : us.length = m) (hx : a.eval x = .slice p m cm) (hu : LiesL s c w p us) (hn : l.length + m ≤ 100000000000) (hB : B ≤ w.heap.size)
    (k : ∀ v' w', Hid (AppNL t s c B v l us v' w w') → wpList Tryd.prog ops Q rest (a.put o.dst v') w') : wpList Tryd.prog ops Q (o :: rest) a w := by
  by_cases h0 : m = 0
  · subst h0
    have hl0 : us = [] := List.eq_nil_of_length_eq_zero hm
    subst hl0
    refine wpList_plain hgd fun K' hK => ?_
    have hrun := run_app0 K w o.type B v l hown p cm
    unfold Oper.wp
    simp [execOp, ho, resolve, invoke, builtin, hs, hx, hrun, Result.andThen]
    exact hK _ _ (k v w ⟨by rw [List.append_nil]; exact hown, fun g hg => .inl hg, CuL.refl _ _ _⟩)
  · obtain ⟨gb, ob, rfl, _⟩ := hu 0 _ (List.getElem?_eq_getElem (by omega))
    exact at_appNL K hgd sl x ho B v l hs hown gb ob m cm us hm hx hu (by omega) hn hB k
end
theorem lo_E (w : World) (tb : Hid (Tbs w)) (l : List UInt8) (hn : l.length ≤ 4000000000) : ∃ E : Int, ((E == 0) = decide (formB l = true ∧ sumOk l = true ∧ chkB (bdOf l) = 0)) ∧ ∀ y sp cap, Below w.heap.size w y → LB y sp l → l.length ≤ cap → Calls Tryd.prog 8 #[.slice sp l.length cap] y fun e w' => ∃ M, e = .returned (.tuple #[.agg M, .int .i64 E]) ∧ Hid (Below y.heap.size y w' ∧ M.size = 35 ∧ M.all (·.oneCell') = true) := by
  by_cases h : formB l = true ∧ sumOk l = true ∧ chkB (bdOf l) = 0
  · refine ⟨0, by rw [decide_eq_true h]; rfl, fun y sp cap hy hl hc => (lo_ok w tb l (bdOf l) hn h.1 h.2.1 rfl h.2.2 y sp cap hy hl hc).mono fun e w' k => ?_⟩
    obtain ⟨M, e1, k⟩ := k
    exact ⟨M, e1, k.out.1, BL.facts k.out.2.1⟩
  · obtain ⟨E, _, q, k⟩ := lo_no w tb l hn h
    refine ⟨E, by rw [decide_eq_false h]; exact q, fun y sp cap hy hl hc => (k y sp cap hy hl hc).mono fun e w' k => ?_⟩
    exact ⟨zBd, k.1, k.2.out, rfl, zBd_one⟩
theorem two_new (w : World) (A B : Array Value) (a b : TypeId) : Fm w [(w.heap.size, A, a), (w.heap.size + 1, B, b)] ((w.alloc (.cells A a)).alloc (.cells B b)) := by
  have := (Fm.one w A a).new B b
  simpa [World.size_alloc] using this
theorem and20 (a : Int) : ∃ q : Nat, q < 1048576 ∧ bits .and .i64 a 1048575 = (q : Int) := by
  refine ⟨(BitVec.ofInt 64 a &&& BitVec.ofInt 64 1048575).toNat, ?_, ?_⟩
  · rw [BitVec.toNat_and]
    have : (BitVec.ofInt 64 a).toNat &&& (BitVec.ofInt 64 1048575).toNat ≤ (BitVec.ofInt 64 1048575).toNat := Nat.and_le_right
    have e : (BitVec.ofInt 64 1048575).toNat = 1048575 := by decide
    omega
  · show IntKind.i64.wrap ((BitVec.ofInt 64 a &&& BitVec.ofInt 64 1048575).toNat : Int) = _
    rw [BitVec.toNat_and]
    have : (BitVec.ofInt 64 a).toNat &&& (BitVec.ofInt 64 1048575).toNat ≤ (BitVec.ofInt 64 1048575).toNat := Nat.and_le_right
    have e : (BitVec.ofInt 64 1048575).toNat = 1048575 := by decide
    rw [IntKind.wrap_i64]
    omega
/-- A byte that is turned. -/
theorem turn_ok (P : List UInt8) (hf : formB P = true) (hs : sumOk P = true) (hc : chkB (bdOf P) = 0) (k : Nat) (hk : k < P.length) (b : UInt8) : decide (formB (P.set k (byteB P k ^^^ b)) = true ∧ sumOk (P.set k (byteB P k ^^^ b)) = true ∧ chkB (bdOf (P.set k (byteB P k ^^^ b))) = 0) = (b == 0) := by
  by_cases h : b = 0
  · subst h
    have e : byteB P k ^^^ 0 = byteB P k := by simp
    have e2 : P.set k (byteB P k) = P := by
      apply List.ext_getElem?
      intro j
      by_cases hj : k = j
      · subst hj
        rw [List.getElem?_set_self hk]
        unfold byteB
        rw [List.getD_eq_getElem?_getD, List.getElem?_eq_getElem hk]
        rfl
      · rw [List.getElem?_set_ne hj]
    rw [e, e2]
    rw [decide_eq_true ⟨hf, hs, hc⟩]
    rfl
  · have hne : byteB P k ^^^ b ≠ byteB P k := fun e => h (by
      have := congrArg (byteB P k ^^^ ·) e
      simpa [← UInt8.xor_assoc] using this)
    have := turned_off P hs (by have := (form_facts hf).1; omega) k hk _ hne
    rw [decide_eq_false (fun x => by rw [this] at x; cases x.2.1)]
    exact (beq_eq_false_iff_ne.2 h).symm
theorem turned_big (w : World) (C : Array Value) (s : Bd)     (hs : Hid (BL w C s)) (hR : (s.ram.length : Int) ≤ 9223372036854775807) (hO : (s.rom.length : Int) ≤ 9223372036854775807) (a : Int) (ha : -9223372036854775808 ≤ a ∧ a ≤ 9223372036854775807) (b : UInt8) (sp : Option Addr) (n cap : Nat) (hn : (n : Int) ≤ 9223372036854775807) (h : 2147483647 < s.ram.length ∨ 2147483647 < s.rom.length ∨ 2147483647 < n) :
    Calls Tryd.prog 5 #[.agg C, .agg #[.int .i64 a, .int .u8 (b.toNat : Int)], .slice sp n cap] w fun e w' => e = .returned (.bool true) ∧ Below w.heap.size w w' := by
  obtain ⟨sR, cR, sO, cO, hCe, _, _⟩ := hs.out.c
  have hfC : Hid (C.size = 35 ∧ C.all (·.oneCell') = true) := BL.facts hs.out
  obtain ⟨nR, hnR⟩ : ∃ z, s.ram.length = z := ⟨_, rfl⟩
  obtain ⟨nO, hnO⟩ : ∃ z, s.rom.length = z := ⟨_, rfl⟩
  have hc : Hid (C[32]? = some (.slice sR nR cR) ∧ C[33]? = some (.slice sO nO cO)) := by
    rw [hCe, hnR, hnO]
    exact ⟨rfl, rfl⟩
  rw [hnR] at hR
  rw [hnO] at hO
  rw [hnR, hnO] at h
  clear hCe hs hfC hnR hnO
  generalize (b.toNat : Int) = b
  by_cases h1 : 2147483647 < nR
  · skip
    have d1 : decide ((2147483647 : Int) < (nR : Int)) = true := decide_eq_true (by omega)
    have d1' : decide (2147483647 < nR) = true := decide_eq_true (by omega)
    clear h h1
    go_enter Tryd.func5, Tryd.ntmps5
    go_wp2_with ((with_reducible refine gen_world ((w.alloc (.cells C 35)).alloc (.cells #[.int .i64 a, .int .u8 b] 44)) (Fm w [(w.heap.size, C, 35), (w.heap.size + 1, #[.int .i64 a, .int .u8 b], 44)]) ?_ ?_); exact two_new w _ _ _ _; intro y0 K0; have c32 := (K0.out.bx 0 _ _ _ rfl).c 32 _ hc.out.1; have c33 := (K0.out.bx 0 _ _ _ rfl).c 33 _ hc.out.2)
    go_ret
    exact ⟨rfl, K0.out.low⟩
  · by_cases h2 : 2147483647 < nO
    · skip
      have d1 : decide ((2147483647 : Int) < (nR : Int)) = false := decide_eq_false (by omega)
      have d1' : decide (2147483647 < nR) = false := decide_eq_false (by omega)
      have d2 : decide ((2147483647 : Int) < (nO : Int)) = true := decide_eq_true (by omega)
      have d2' : decide (2147483647 < nO) = true := decide_eq_true (by omega)
      clear h h1 h2
      go_enter Tryd.func5, Tryd.ntmps5
      go_wp2_with ((with_reducible refine gen_world ((w.alloc (.cells C 35)).alloc (.cells #[.int .i64 a, .int .u8 b] 44)) (Fm w [(w.heap.size, C, 35), (w.heap.size + 1, #[.int .i64 a, .int .u8 b], 44)]) ?_ ?_); exact two_new w _ _ _ _; intro y0 K0; have c32 := (K0.out.bx 0 _ _ _ rfl).c 32 _ hc.out.1; have c33 := (K0.out.bx 0 _ _ _ rfl).c 33 _ hc.out.2)
      go_ret
      exact ⟨rfl, K0.out.low⟩
    · have h3 : 2147483647 < n := by omega
      have d1 : decide ((2147483647 : Int) < (nR : Int)) = false := decide_eq_false (by omega)
      have d1' : decide (2147483647 < nR) = false := decide_eq_false (by omega)
      have d2 : decide ((2147483647 : Int) < (nO : Int)) = false := decide_eq_false (by omega)
      have d2' : decide (2147483647 < nO) = false := decide_eq_false (by omega)
      have d3 : decide ((2147483647 : Int) < (n : Int)) = true := decide_eq_true (by omega)
      have d3' : decide (2147483647 < n) = true := decide_eq_true (by omega)
      clear h h1 h2 h3
      go_enter Tryd.func5, Tryd.ntmps5
      go_wp2_with ((with_reducible refine gen_world ((w.alloc (.cells C 35)).alloc (.cells #[.int .i64 a, .int .u8 b] 44)) (Fm w [(w.heap.size, C, 35), (w.heap.size + 1, #[.int .i64 a, .int .u8 b], 44)]) ?_ ?_); exact two_new w _ _ _ _; intro y0 K0; have c32 := (K0.out.bx 0 _ _ _ rfl).c 32 _ hc.out.1; have c33 := (K0.out.bx 0 _ _ _ rfl).c 33 _ hc.out.2)
      go_ret
      exact ⟨rfl, K0.out.low⟩
theorem turned_no (w : World) (tb : Hid (Tbs w)) (C : Array Value) (s : Bd)     (hs : Hid (BL w C s)) (hR : (s.ram.length : Int) ≤ 9223372036854775807) (hO : (s.rom.length : Int) ≤ 9223372036854775807) (a : Int) (ha : -9223372036854775808 ≤ a ∧ a ≤ 9223372036854775807) (b : UInt8) (sp : Option Addr) (n cap : Nat) (h1 : s.ram.length ≤ 2147483647) (h2 : s.rom.length ≤ 2147483647) (h3 : n ≤ 2147483647) (hA : chkB s ≠ 0) :
    Calls Tryd.prog 5 #[.agg C, .agg #[.int .i64 a, .int .u8 (b.toNat : Int)], .slice sp n cap] w fun e w' => e = .returned (.bool true) ∧ Below w.heap.size w w' := by
  have hAw : Hid (∀ y, Below w.heap.size w y → Calls Tryd.prog 6 #[] y fun e w' => e = .returned (.bool true) ∧ Below y.heap.size y w') := fun y hy => awake_any y (tb.out.below hy)
  have hSv : Hid _ := sv_no w tb s hA
  have hsB : Hid (BL w C s) := hs
  obtain ⟨sR, cR, sO, cO, hCe, _, _⟩ := hs.out.c
  have hfC : Hid (C.size = 35 ∧ C.all (·.oneCell') = true) := BL.facts hs.out
  obtain ⟨nR, hnR⟩ : ∃ z, s.ram.length = z := ⟨_, rfl⟩
  obtain ⟨nO, hnO⟩ : ∃ z, s.rom.length = z := ⟨_, rfl⟩
  have hc : Hid (C[32]? = some (.slice sR nR cR) ∧ C[33]? = some (.slice sO nO cO)) := by
    rw [hCe, hnR, hnO]
    exact ⟨rfl, rfl⟩
  rw [hnR] at hR
  rw [hnO] at hO
  rw [hnR] at h1
  rw [hnO] at h2
  have d1 : decide ((2147483647 : Int) < (nR : Int)) = false := decide_eq_false (by omega)
  have d1' : decide (2147483647 < nR) = false := decide_eq_false (by omega)
  have d2 : decide ((2147483647 : Int) < (nO : Int)) = false := decide_eq_false (by omega)
  have d2' : decide (2147483647 < nO) = false := decide_eq_false (by omega)
  have d3 : decide ((2147483647 : Int) < (n : Int)) = false := decide_eq_false (by omega)
  have d3' : decide (2147483647 < n) = false := decide_eq_false (by omega)
  have inn : (n : Int) ≤ 2147483647 := by omega
  clear tb hs hR hO hCe hnR hnO h1 h2 h3 hA
  generalize (b.toNat : Int) = b
  go_enter Tryd.func5, Tryd.ntmps5
  go_wp2_with (first
    | ((with_reducible refine gen_world ((w.alloc (.cells C 35)).alloc (.cells #[.int .i64 a, .int .u8 b] 44)) (Fm w [(w.heap.size, C, 35), (w.heap.size + 1, #[.int .i64 a, .int .u8 b], 44)]) ?_ ?_); exact two_new w _ _ _ _; intro y0 K0; have c32 := (K0.out.bx 0 _ _ _ rfl).c 32 _ hc.out.1; have c33 := (K0.out.bx 0 _ _ _ rfl).c 33 _ hc.out.2)
    | ((with_reducible refine at_load rtBd w.heap.size C ?_ ?_ (.tmp 3) ?_ ?_ ?_ ?_); exact K0.out.bx 0 _ _ _ rfl; exact hfC.out.1; kernel_rfl; rfl; rfl)
    | (go_at_call 7; refine (hSv.out y0 C K0.out.low (hsB.out.below K0.out.low)).mono ?_; rintro e y5 ⟨rfl, H⟩; have K5 : Hid (Below w.heap.size w y5) := K0.out.low.trans (H.out.mono K0.out.low.size); clear H)
    | (go_at_call 6; refine (hAw.out y5 K5.out).mono ?_; rintro e z0 ⟨rfl, H⟩; have N0 : Hid (Below w.heap.size w z0) := K5.out.trans (H.mono K5.out.size); clear H))
  go_ret
  exact ⟨rfl, N0.out⟩
theorem turned_yes (w : World) (tb : Hid (Tbs w)) (C : Array Value) (s : Bd)     (hs : Hid (BL w C s)) (hR : (s.ram.length : Int) ≤ 9223372036854775807) (hO : (s.rom.length : Int) ≤ 9223372036854775807) (a : Int) (ha : -9223372036854775808 ≤ a ∧ a ≤ 9223372036854775807) (b : UInt8) (sp : Option Addr) (n cap : Nat) (l : List UInt8) (hl : Hid (LB w sp l)) (hln : l.length = n) (h1 : s.ram.length ≤ 2147483647) (h2 : s.rom.length ≤ 2147483647) (h3 : n ≤ 2147483647) (hA : chkB s = 0) :
    Calls Tryd.prog 5 #[.agg C, .agg #[.int .i64 a, .int .u8 (b.toNat : Int)], .slice sp n cap] w fun e w' => e = .returned (.bool true) ∧ Below w.heap.size w w' := by
  have hAw : Hid (∀ y, Below w.heap.size w y → Calls Tryd.prog 6 #[] y fun e w' => e = .returned (.bool true) ∧ Below y.heap.size y w') := fun y hy => awake_any y (tb.out.below hy)
  have hfit := (chk_fit hs.out.ok hA).1
  obtain ⟨lf1, lf2, lf3⟩ := load_sav s hfit
  have hpl : (savB s).length ≤ 70000 ∧ 583 ≤ (savB s).length := by rw [sav_len s hfit.ok.r, hfit.rom]; have := hfit.ram; omega
  obtain ⟨P, hP⟩ : ∃ z, savB s = z := ⟨_, rfl⟩
  rw [hP] at lf1 lf2 lf3 hpl
  have lf4 : chkB (bdOf P) = 0 := by rw [lf3]; exact hA
  have hSv : Hid _ := sv_ok w tb s hA P hP
  have hsB : Hid (BL w C s) := hs
  obtain ⟨nP, hnP⟩ : ∃ z, P.length = z := ⟨_, rfl⟩
  obtain ⟨q, hq, hand⟩ := and20 a
  obtain ⟨k, hk⟩ : ∃ z, q % nP = z := ⟨_, rfl⟩
  rw [hnP] at hpl
  have hkP : k < nP := by rw [← hk]; exact Nat.mod_lt _ (by omega)
  have hrem : Int.tmod (q : Int) (nP : Int) = (k : Int) := by rw [← hk]; exact (Int.tmod_eq_emod_of_nonneg (by omega)).trans (by omega)
  obtain ⟨E1, e1, hE1⟩ := lo_E w tb (P.take k) (by rw [List.length_take]; omega)
  obtain ⟨E3, e3, hE3⟩ := lo_E w tb (P ++ l) (by rw [List.length_append]; omega)
  obtain ⟨E4, e4, hE4⟩ := lo_E w tb (P.set k (byteB P k ^^^ b)) (by rw [List.length_set]; omega)
  have q1 : (E1 == 0) = false := by
    rw [e1]
    exact decide_eq_false fun h => by rw [cut_off P lf1 k (by omega)] at h; cases h.1
  obtain ⟨qm, hqm⟩ : ∃ z, ((n : Int) == 0) = z := ⟨_, rfl⟩
  have q3 : (E3 == 0) = qm := by
    rw [e3, ← hqm]
    by_cases hm : l = []
    · subst hm
      rw [List.append_nil, decide_eq_true ⟨lf1, lf2, lf4⟩, ← hln]
      rfl
    · rw [decide_eq_false fun h => by rw [more_off P l lf1 hm] at h; cases h.1]
      symm
      rw [beq_eq_false_iff_ne]
      have : l.length ≠ 0 := fun e => hm (List.eq_nil_of_length_eq_zero e)
      omega
  obtain ⟨qb, hqb⟩ : ∃ z, ((b.toNat : Int) == 0) = z := ⟨_, rfl⟩
  have q4 : (E4 == 0) = qb := by
    rw [e4, turn_ok P lf1 lf2 lf4 k (by omega) b, ← hqb, zero8]
  have qmm : (qm != qm) = false := by cases qm <;> rfl
  have qbb : (qb == qb) = true := by cases qb <;> rfl
  obtain ⟨x, hx⟩ : ∃ z, (byteB P k).toNat = z := ⟨_, rfl⟩
  obtain ⟨x2, hx2⟩ : ∃ z, (byteB P k ^^^ b).toNat = z := ⟨_, rfl⟩
  have wx : bits .xor .u8 (x : Int) (b.toNat : Int) = (x2 : Int) := by rw [← hx, ← hx2]; exact xor8 _ _
  have hb8 := UInt8.toNat_lt b
  have hx8 : x < 256 := by rw [← hx]; exact UInt8.toNat_lt _
  have eTk : (P.take k).length = k := by rw [List.length_take]; omega
  have eAp : (P ++ l).length = nP + n := by rw [List.length_append]; omega
  have eSt : (P.set k (byteB P k ^^^ b)).length = nP := by rw [List.length_set]; omega
  rw [eTk] at hE1
  rw [eAp] at hE3
  rw [eSt] at hE4
  rw [hnP] at hSv
  have hE1' : Hid _ := hE1
  have hE3' : Hid _ := hE3
  have hE4' : Hid _ := hE4
  have hlen : Hid (P.length = nP ∧ l.length = n ∧ 583 ≤ nP ∧ nP ≤ 70000 ∧ n ≤ 2147483647 ∧ k < nP) := ⟨hnP, hln, hpl.2, hpl.1, h3, hkP⟩
  have hcell : Hid (∀ y g o, LB y (some ⟨g, o, none⟩) P → y.cell? ⟨g, o + k, none⟩ = some (.int .u8 (x : Int))) := fun y g o h => by rw [← hx]; exact byte_lb h k (by omega) _ rfl
  have hset : Hid (∀ (B : Nat) (y : World) (g c : Nat), OwnL 5 1 cB B y (.slice (some ⟨g, 0, none⟩) nP c) P → LB (y.setCell ⟨g, k, none⟩ (.int .u8 (x2 : Int))) (some ⟨g, 0, none⟩) (P.set k (byteB P k ^^^ b))) := fun B y g c h => by
    have h2 := (h.set kByte.len k (by omega) (byteB P k ^^^ b)).1
    obtain ⟨sp', cap', e, hlb, _⟩ := h2.open kByte.len
    have e2 : y.setCells g (k * 1) (cB (byteB P k ^^^ b)) = y.setCell ⟨g, k, none⟩ (.int .u8 (x2 : Int)) := by
      rw [Nat.mul_one, ← hx2]
      rfl
    rw [e2] at hlb
    injection e with e3
    rw [← e3] at hlb
    exact hlb
  obtain ⟨sR, cR, sO, cO, hCe, _, _⟩ := hs.out.c
  have hfC : Hid (C.size = 35 ∧ C.all (·.oneCell') = true) := BL.facts hs.out
  obtain ⟨nR, hnR⟩ : ∃ z, s.ram.length = z := ⟨_, rfl⟩
  obtain ⟨nO, hnO⟩ : ∃ z, s.rom.length = z := ⟨_, rfl⟩
  have hc : Hid (C[32]? = some (.slice sR nR cR) ∧ C[33]? = some (.slice sO nO cO)) := by
    rw [hCe, hnR, hnO]
    exact ⟨rfl, rfl⟩
  rw [hnR] at hR
  rw [hnO] at hO
  rw [hnR] at h1
  rw [hnO] at h2
  have d1 : decide ((2147483647 : Int) < (nR : Int)) = false := decide_eq_false (by omega)
  have d1' : decide (2147483647 < nR) = false := decide_eq_false (by omega)
  have d2 : decide ((2147483647 : Int) < (nO : Int)) = false := decide_eq_false (by omega)
  have d2' : decide (2147483647 < nO) = false := decide_eq_false (by omega)
  have d3 : decide ((2147483647 : Int) < (n : Int)) = false := decide_eq_false (by omega)
  have d3' : decide (2147483647 < n) = false := decide_eq_false (by omega)
  have d583 : decide ((nP : Int) < 583) = false := decide_eq_false (by omega)
  have d583' : decide (nP < 583) = false := decide_eq_false (by omega)
  have inn : (n : Int) ≤ 2147483647 := by omega
  have inP : (nP : Int) ≤ 70000 := by omega
  have inP0 : ((nP : Int) == 0) = false := by rw [beq_eq_false_iff_ne]; omega
  have iq : (q : Int) < 1048576 := by omega
  have ik : (k : Int) < (nP : Int) := by omega
  have ib : (b.toNat : Int) < 256 := by omega
  have ixx : (x : Int) < 256 := by omega
  clear tb hs hR hO hCe hnR hnO h1 h2 h3 hA hfit lf1 lf2 lf3 lf4 hpl hP hnP hq hk hkP e1 e3 e4 hE1 hE3 hE4 hx hx2 hb8 hx8 eTk eAp eSt hln
  generalize (b.toNat : Int) = bb at *
  go_enter Tryd.func5, Tryd.ntmps5
  go_wp2_with (first
    | ((with_reducible refine gen_world ((w.alloc (.cells C 35)).alloc (.cells #[.int .i64 a, .int .u8 bb] 44)) (Fm w [(w.heap.size, C, 35), (w.heap.size + 1, #[.int .i64 a, .int .u8 bb], 44)]) ?_ ?_); exact two_new w _ _ _ _; intro y0 K0; have c32 := (K0.out.bx 0 _ _ _ rfl).c 32 _ hc.out.1; have c33 := (K0.out.bx 0 _ _ _ rfl).c 33 _ hc.out.2)
    | ((with_reducible refine at_load rtBd w.heap.size C ?_ ?_ (.tmp 3) ?_ ?_ ?_ ?_); exact K0.out.bx 0 _ _ _ rfl; exact hfC.out.1; kernel_rfl; rfl; rfl)
    | (go_at_call 7; refine (hSv.out y0 C K0.out.low (hsB.out.below K0.out.low)).mono ?_; rintro e y1 ⟨s8, c8, rfl, H⟩; have K1 : Hid (Fm w [(w.heap.size, C, 35), (w.heap.size + 1, #[.int .i64 a, .int .u8 bb], 44)] y1 ∧ LB y1 s8 P ∧ nP ≤ c8 ∧ OwnL 5 1 cB y0.heap.size y1 (.slice s8 nP c8) P ∧ w.heap.size + 1 < y0.heap.size) := ⟨K0.out.below H.out.1, H.out.2.1, H.out.2.2.1, H.out.2.2.2, heap_lt (K0.out.bx 1 _ _ _ rfl)⟩; have K01 : Hid (Below y0.heap.size y0 y1) := H.out.1; clear H; have t0 := (K1.out.1.bx 1 _ _ _ rfl).c 0 (.int .i64 a) rfl; refine stopAt ?_))
  refine Stop.go ?_
  obtain ⟨g8, o8, hs8⟩ := lb_some K1.out.2.1 (by rw [hlen.out.1]; have := hlen.out.2.2.1; omega)
  obtain rfl : o8 = 0 := by
    obtain ⟨sp', cap', e, _, h, _⟩ := K1.out.2.2.2.1.open kByte.len
    injection e with e3
    exact (h ⟨g8, o8, none⟩ (by rw [← e3]; exact hs8)).1
  subst hs8
  obtain ⟨sp1, hsl1, hlb1, _⟩ := slTakeB (some ⟨g8, 0, none⟩) nP c8 k (Nat.le_of_lt hlen.out.2.2.2.2.2) K1.out.2.2.1
  have hlb1' : Hid (LB y1 sp1 (P.take k) ∧ k ≤ c8) := ⟨hlb1 y1 P K1.out.2.1, by have := K1.out.2.2.1; have := hlen.out.2.2.2.2.2; omega⟩
  clear hlb1
  go_wp2_with (first
    | (go_at_call 8; refine (hE1'.out y1 sp1 c8 K1.out.1.low hlb1'.out.1 hlb1'.out.2).mono ?_; rintro e y2 ⟨M2, rfl, H⟩; have K2 : Hid (Below y1.heap.size y1 y2 ∧ M2.size = 35 ∧ M2.all (·.oneCell') = true) := H; clear H)
    | ((with_reducible refine gen_world (y2.alloc (.cells #[.int .u16 0, .int .u16 0, .int .u16 0, .int .u16 0, .int .u16 0, .int .u16 0, .int .u16 0, .int .u16 0, .int .u16 0, .int .u16 0, .int .u16 0, .int .u16 0, .int .u16 0, .int .u16 0, .int .u16 0, .int .u16 0, .int .u8 0, .bool false, .int .u8 0, .int .u8 0, .int .u8 0, .bool false, .bool false, .int .u8 0, .int .u8 0, .int .u8 0, .int .i64 0, .int .i64 0, .bool false, .int .i64 0, .int .u8 0, .bool false, .slice none 0 0, .slice none 0 0, .int .u64 0] 35)) (fun z => Bx z y2.heap.size zBd 35 ∧ Below y2.heap.size y2 z) ?_ ?_); exact ⟨one_bxL _ _ _, below1 y2 _⟩; intro y3 K3)
    | ((with_reducible refine at_st rtBd y2.heap.size zBd M2 ?_ ?_ ?_ ?_ (.tmp 10) (.tmp 54) ?_ ?_ ?_ ?_ ?_); exact K3.out.1; rfl; exact K2.out.2.1; exact K2.out.2.2; rfl; rfl; rfl; rfl; intro y4 h4; have K4 : Hid (Below y1.heap.size y1 y4) := K2.out.1.trans ((K3.out.2.trans (h4.out.2.1 _ (Nat.le_refl _))).mono K2.out.1.size); clear h4 K3; refine stopAt ?_))
  refine Stop.go ?_
  have L4 : Hid (LB y4 (some ⟨g8, 0, none⟩) P) := K1.out.2.1.below K4.out
  go_wp2_with (first
    | (at_builtin; (with_reducible refine at_appA kByte ?_ (.tmp 56) (.tmp 57) ?_ y4.heap.size (.slice none 0 0) [] ?_ ?_ (some ⟨g8, 0, none⟩) nP c8 P ?_ ?_ ?_ ?_ ?_ ?_); rfl; rfl; rfl; exact OwnL.nil _ _; exact hlen.out.1; rfl; exact L4.out; (have := hlen.out.2.2.2.1; simp only [List.length_nil]; omega); exact Nat.le_refl _; intro v5 y5 A; have K5 : Hid (Below y4.heap.size y4 y5 ∧ OwnL 5 1 cB y4.heap.size y5 v5 P) := ⟨A.out.cu.low, by have := A.out.own; rwa [List.nil_append] at this⟩; clear A; refine stopAt ?_))
  refine Stop.go ?_
  obtain ⟨s5, c5, hv5, _⟩ := K5.out.2.open kByte.len
  rw [hlen.out.1] at hv5
  subst hv5
  have Ll : Hid (LB y5 sp l) := hl.out.below (K1.out.1.low.trans ((K4.out.mono K1.out.1.low.size).trans (K5.out.1.mono (Nat.le_trans K1.out.1.low.size K4.out.size))))
  go_wp2_with (first
    | (at_builtin; (with_reducible refine at_appA kByte ?_ (.tmp 59) (.tmp 60) ?_ y4.heap.size (.slice s5 nP c5) P ?_ ?_ sp n cap l ?_ ?_ ?_ ?_ ?_ ?_); rfl; rfl; rfl; exact K5.out.2; exact hlen.out.2.1; rfl; exact Ll.out; (rw [hlen.out.1]; have := hlen.out.2.2.2.1; have := hlen.out.2.2.2.2.1; omega); exact K5.out.1.size; intro v6 y6 A; have K6 : Hid (Below y4.heap.size y4 y6 ∧ OwnL 5 1 cB y4.heap.size y6 v6 (P ++ l)) := ⟨K5.out.1.trans A.out.cu.low, A.out.own⟩; clear A; refine stopAt ?_))
  refine Stop.go ?_
  obtain ⟨s6, c6, hv6, hb6, _, _, hc6⟩ := K6.out.2.open kByte.len
  rw [List.length_append, hlen.out.1, hlen.out.2.1] at hv6 hc6
  subst hv6
  have K7 : Hid (Below y1.heap.size y1 y6 ∧ LB y6 s6 (P ++ l) ∧ nP + n ≤ c6) := ⟨K4.out.trans (K6.out.1.mono K4.out.size), hb6, hc6⟩
  clear hb6 hc6 K5 L4 Ll
  go_wp2_with (first
    | (go_at_call 8; refine (hE3'.out y6 s6 c6 (K1.out.1.low.trans (K7.out.1.mono K1.out.1.low.size)) K7.out.2.1 K7.out.2.2).mono ?_; rintro e y8 ⟨M8, rfl, H⟩; have K8 : Hid (Below y1.heap.size y1 y8 ∧ M8.size = 35 ∧ M8.all (·.oneCell') = true) := ⟨K7.out.1.trans (H.out.1.mono K7.out.1.size), H.out.2⟩; clear H)
    | ((with_reducible refine gen_world (y8.alloc (.cells #[.int .u16 0, .int .u16 0, .int .u16 0, .int .u16 0, .int .u16 0, .int .u16 0, .int .u16 0, .int .u16 0, .int .u16 0, .int .u16 0, .int .u16 0, .int .u16 0, .int .u16 0, .int .u16 0, .int .u16 0, .int .u16 0, .int .u8 0, .bool false, .int .u8 0, .int .u8 0, .int .u8 0, .bool false, .bool false, .int .u8 0, .int .u8 0, .int .u8 0, .int .i64 0, .int .i64 0, .bool false, .int .i64 0, .int .u8 0, .bool false, .slice none 0 0, .slice none 0 0, .int .u64 0] 35)) (fun z => Bx z y8.heap.size zBd 35 ∧ Below y8.heap.size y8 z) ?_ ?_); exact ⟨one_bxL _ _ _, below1 y8 _⟩; intro y9 K9)
    | ((with_reducible refine at_st rtBd y8.heap.size zBd M8 ?_ ?_ ?_ ?_ (.tmp 13) (.tmp 65) ?_ ?_ ?_ ?_ ?_); exact K9.out.1; rfl; exact K8.out.2.1; exact K8.out.2.2; rfl; rfl; rfl; rfl; intro z0 h9; have N0 : Hid (Below y1.heap.size y1 z0) := K8.out.1.trans ((K9.out.2.trans (h9.out.2.1 _ (Nat.le_refl _))).mono K8.out.1.size); clear h9 K9; refine stopAt ?_))
  refine Stop.go ?_
  have nB : Hid (Below y0.heap.size y0 y1) := K01.out
  obtain ⟨cur, hcur⟩ := K1.out.2.2.2.1.typed g8 rfl
  have hg8 : Hid (w.heap.size + 1 < g8 ∧ w.heap.size ≤ g8) := by
    have h9 := (K1.out.2.2.2.1.lt g8 rfl).1
    have := K1.out.2.2.2.2
    exact ⟨by omega, by omega⟩
  have hcurz : Hid (Bx z0 g8 cur 5) := (N0.out.block _ (heap_lt hcur)).trans hcur
  have ownz : Hid (OwnL 5 1 cB y0.heap.size z0 (.slice (some ⟨g8, 0, none⟩) nP c8) P) := K1.out.2.2.2.1.below N0.out
  have cx0 := hcell.out z0 g8 0 (K1.out.2.1.below N0.out)
  have ft := (K1.out.1.below N0.out).bx 1 _ _ _ rfl
  have t1 := ft.c 1 (.int .u8 bb) rfl
  have fz := hcurz.out.fz k
  have ixk := fun v => idxB .i64 g8 0 nP c8 k v hlen.out.2.2.2.2.2
  rw [Nat.zero_add] at cx0
  simp only [Nat.zero_add] at ixk
  have H : Hid (∀ m, LB ((z0.drewN m).setCell ⟨g8, k, none⟩ (.int .u8 (x2 : Int))) (some ⟨g8, 0, none⟩) (P.set k (byteB P k ^^^ b)) ∧ Below w.heap.size w ((z0.drewN m).setCell ⟨g8, k, none⟩ (.int .u8 (x2 : Int))) ∧ Bx ((z0.drewN m).setCell ⟨g8, k, none⟩ (.int .u8 (x2 : Int))) (w.heap.size + 1) #[.int .i64 a, .int .u8 bb] 44) := fun m => by
    have b1 : Below z0.heap.size z0 (z0.drewN m) := below_drewN (Below.refl _ z0)
    refine ⟨hset.out _ _ g8 c8 (ownz.out.below b1), ?_, ?_⟩
    · exact (K1.out.1.low.trans ((N0.out.trans (b1.mono N0.out.size)).mono K1.out.1.low.size)).setCell (p := ⟨g8, k, none⟩) hg8.out.2 _
    · refine (heap_setCell_other (z0.drewN m) ⟨g8, k, none⟩ (w.heap.size + 1) _ (Nat.ne_of_lt hg8.out.1)).trans ?_
      exact (b1.block _ (heap_lt ft)).trans ft
  clear hcurz ownz ft hcur hset hcell
  go_upto_region 16 with (fail)
  refine region_class_tail 10 (fun y => ∃ n, y = z0.drewN n) (by kernel_rfl) (by kernel_rfl) ⟨1, rfl⟩ ?_
  dsimp only [List.take, List.drop]
  repeat (go_big_quiet_step (fail))
  refine wpQuiet_nil ?_
  rintro _ ⟨nq, rfl⟩
  have Hq : Hid _ := H.out nq
  clear H
  go_wp2_with (first
    | (go_at_call 8; refine (hE4'.out _ (some ⟨g8, 0, none⟩) c8 Hq.out.2.1 Hq.out.1 K1.out.2.2.1).mono ?_; rintro e z2 ⟨M9, rfl, H⟩; have N2 : Hid (Below w.heap.size w z2 ∧ Bx z2 (w.heap.size + 1) #[.int .i64 a, .int .u8 bb] 44 ∧ M9.size = 35 ∧ M9.all (·.oneCell') = true) := ⟨Hq.out.2.1.trans (H.out.1.mono Hq.out.2.1.size), (H.out.1.block _ (heap_lt Hq.out.2.2)).trans Hq.out.2.2, H.out.2⟩; clear H Hq t1)
    | ((with_reducible refine gen_world (z2.alloc (.cells #[.int .u16 0, .int .u16 0, .int .u16 0, .int .u16 0, .int .u16 0, .int .u16 0, .int .u16 0, .int .u16 0, .int .u16 0, .int .u16 0, .int .u16 0, .int .u16 0, .int .u16 0, .int .u16 0, .int .u16 0, .int .u16 0, .int .u8 0, .bool false, .int .u8 0, .int .u8 0, .int .u8 0, .bool false, .bool false, .int .u8 0, .int .u8 0, .int .u8 0, .int .i64 0, .int .i64 0, .bool false, .int .i64 0, .int .u8 0, .bool false, .slice none 0 0, .slice none 0 0, .int .u64 0] 35)) (fun z => Bx z z2.heap.size zBd 35 ∧ Below z2.heap.size z2 z) ?_ ?_); exact ⟨one_bxL _ _ _, below1 z2 _⟩; intro z3 N3)
    | ((with_reducible refine at_st rtBd z2.heap.size zBd M9 ?_ ?_ ?_ ?_ (.tmp 15) (.tmp 90) ?_ ?_ ?_ ?_ ?_); exact N3.out.1; rfl; exact N2.out.2.2.1; exact N2.out.2.2.2; rfl; rfl; rfl; rfl; intro z4 h4; have b4 : Below z2.heap.size z2 z4 := N3.out.2.trans (h4.out.2.1 _ (Nat.le_refl _)); have N4 : Hid (Below w.heap.size w z4) := N2.out.1.trans (b4.mono N2.out.1.size); have t2 := Bx.c ((b4.block _ (heap_lt N2.out.2.1)).trans N2.out.2.1) 1 (.int .u8 bb) rfl; clear h4 N3 b4)
    | (go_at_call 6; refine (hAw.out z4 N4.out).mono ?_; rintro e z5 ⟨rfl, H⟩; have N5 : Hid (Below w.heap.size w z5) := N4.out.trans (H.mono N4.out.size); clear H))
  go_ret
  exact ⟨rfl, N5.out⟩
theorem turned_walk (w : World) (tb : Hid (Tbs w)) (C : Array Value) (s : Bd)     (hs : Hid (BL w C s)) (hR : (s.ram.length : Int) ≤ 9223372036854775807) (hO : (s.rom.length : Int) ≤ 9223372036854775807) (a : Int) (ha : -9223372036854775808 ≤ a ∧ a ≤ 9223372036854775807) (b : UInt8) (sp : Option Addr) (cap : Nat) (l : List UInt8) (hl : Hid (LB w sp l)) (hn : (l.length : Int) ≤ 9223372036854775807) :
    Calls Tryd.prog 5 #[.agg C, .agg #[.int .i64 a, .int .u8 (b.toNat : Int)], .slice sp l.length cap] w fun e w' => e = .returned (.bool true) ∧ Below w.heap.size w w' := by
  by_cases h1 : s.ram.length ≤ 2147483647
  · by_cases h2 : s.rom.length ≤ 2147483647
    · by_cases h3 : l.length ≤ 2147483647
      · by_cases hA : chkB s = 0
        · exact turned_yes w tb C s hs hR hO a ha b sp l.length cap l hl rfl h1 h2 h3 hA
        · exact turned_no w tb C s hs hR hO a ha b sp l.length cap h1 h2 h3 hA
      · exact turned_big w C s hs hR hO a ha b sp l.length cap hn (by omega)
    · exact turned_big w C s hs hR hO a ha b sp l.length cap hn (by omega)
  · exact turned_big w C s hs hR hO a ha b sp l.length cap hn (by omega)
end Go.Proofs.YtehnhjdjjalifaaDoor
