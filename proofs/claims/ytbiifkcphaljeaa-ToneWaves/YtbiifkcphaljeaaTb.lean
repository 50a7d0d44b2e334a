/- Rows of numbers and of pairs of numbers; the document's Levels, Beeps and Waves. -/
import Derived.Test.YtbiifkcphaljeaaTa
import Derived.Test.YtbiifkcphaljeaaLw
import Derived.Test.YtbiifkcphaljeaaKd
namespace Go.Proofs.Ytbiifkcphaljeaa
open Go Go.RowKit
set_option linter.unusedVariables false
set_option maxHeartbeats 1000000
set_option maxRecDepth 20000

def cI (x : Int) : List Value := [.int .i64 x]
def c2 (p : Int × Int) : List Value := [.int .i64 p.1, .int .i64 p.2]
theorem infoIn : (Try.prog.info? 3).map (fun i => (i.zero, i.size, i.bytes)) = some (some (.int .i64 0), 1, 8) := by kernel_rfl
theorem infoBe : (Try.prog.info? 27).map (fun i => (i.zero, i.size, i.bytes)) = some (some (.agg #[.int .i64 0, .int .i64 0]), 2, 16) := by kernel_rfl
theorem infoWa : (Try.prog.info? 34).map (fun i => (i.zero, i.size, i.bytes)) = some (some (.agg #[.int .i64 0, .int .i64 0]), 2, 16) := by kernel_rfl
theorem c2_one (p : Int × Int) : ∀ v ∈ c2 p, v.oneCell' = true := fun v hv => by
  simp [c2] at hv
  rcases hv with h | h <;> subst h <;> rfl
theorem kInt : KdL 35 3 1 8 cI := by
  obtain ⟨i, hi, hz0, hz1, hz2⟩ := info_parts infoIn
  exact ⟨Try.underlying35, ⟨i, _, hi, hz0, hz1, hz2, rfl⟩, fun _ => rfl, fun x v hv => by simp [cI] at hv; subst hv; rfl, by decide, by decide⟩
theorem kBeep : KdL 23 27 2 16 c2 := by
  obtain ⟨i, hi, hz0, hz1, hz2⟩ := info_parts infoBe
  exact ⟨Try.underlying23, ⟨i, _, hi, hz0, hz1, hz2, rfl⟩, fun _ => rfl, c2_one, by decide, by decide⟩
theorem kWave : KdL 30 34 2 16 c2 := by
  obtain ⟨i, hi, hz0, hz1, hz2⟩ := info_parts infoWa
  exact ⟨Try.underlying30, ⟨i, _, hi, hz0, hz1, hz2, rfl⟩, fun _ => rfl, c2_one, by decide, by decide⟩
theorem rtBe : Rt Try.prog 27 2 := ⟨⟨_, Try.underlying27, rfl⟩, by kernel_rfl⟩
theorem rtWa : Rt Try.prog 34 2 := ⟨⟨_, Try.underlying34, rfl⟩, by kernel_rfl⟩
abbrev LI (x : World) (sp : Option Addr) (l : List Int) : Prop := LiesL 1 cI x sp l
abbrev L2 (x : World) (sp : Option Addr) (l : List (Int × Int)) : Prop := LiesL 2 c2 x sp l
theorem li_at {x : World} {sp : Option Addr} {l : List Int} (h : LI x sp l) (j : Nat) (v : Int) (hj : l[j]? = some v) : ∃ g o, sp = some ⟨g, o, none⟩ ∧ x.cell? ⟨g, o + j, none⟩ = some (.int .i64 v) := by
  obtain ⟨g, o, e, k⟩ := h j v hj
  refine ⟨g, o, e, ?_⟩
  have := k 0 (.int .i64 v) rfl
  rwa [Nat.mul_one, Nat.add_zero] at this
theorem l2_at {x : World} {sp : Option Addr} {l : List (Int × Int)} (h : L2 x sp l) (j : Nat) (p : Int × Int) (hj : l[j]? = some p) : ∃ g o, sp = some ⟨g, o, none⟩ ∧ x.rangeAt g (o + j * 2) (c2 p) ∧ x.cell? ⟨g, o + j * 2, none⟩ = some (.int .i64 p.1) ∧ x.cell? ⟨g, o + j * 2 + 1, none⟩ = some (.int .i64 p.2) := by
  obtain ⟨g, o, e, k⟩ := h j p hj
  exact ⟨g, o, e, k, k 0 _ rfl, k 1 _ rfl⟩
theorem idxI (g o n cap k : Nat) (h : k < n) (v : World) : (Instr.indexAt 35 (.slice (some ⟨g, o, none⟩) n cap) (.int .i64 (k : Int))).run Try.prog v = .ok (.pointer (some ⟨g, o + k, none⟩)) v := by
  have := idxP (g := g) (off := o) (len := n) (cap := cap) Try.underlying35 (s := 1) (by kernel_rfl) .i64 k v h
  rw [Nat.mul_one] at this
  exact this
theorem fill2 (p : Int × Int) : Instr.fill (fun i => some (i * 2, 2)) ((Array.range (1 * 2)).map ((Value.agg #[.int .i64 0, .int .i64 0]).cells[· % (Value.agg #[.int .i64 0, .int .i64 0]).cells.size]!)) [(0, .agg (c2 p).toArray)] = some (c2 p).toArray := by kernel_rfl
theorem at_bsBe {ops : Array Oper} {rest : List Oper} {o : Oper} {a : Act} {w : World} {Q : Exit → Act → World → Prop} (p : Int × Int) (x : Operand) (hgd : o.guard = none) (ho : o.op = .buildSlice 23 1 #[(0, x)]) (hx : a.eval x = .agg (c2 p).toArray)
    (h : wpList Try.prog ops Q rest (a.put o.dst (.slice (some ⟨w.heap.size, 0, none⟩) 1 1)) (w.alloc (.cells (c2 p).toArray 27))) : wpList Try.prog ops Q (o :: rest) a w := by
  obtain ⟨i, hi, hz0, hz1, hz2⟩ := info_parts infoBe
  refine wpList_buildSlice hgd 23 27 1 #[(0, x)] ho (c2 p).toArray i _ Try.underlying23 hi hz0 (by rw [hz1]; decide) (by rw [hz1]; decide) ?_ h
  rw [hz1]
  have e : (#[(0, x)].map fun (i, x) => (i, a.eval x)).toList = [(0, .agg (c2 p).toArray)] := by simp [hx]
  rw [e]
  exact fill2 p
theorem builtBe (x y : Int) : Try.prog.built 27 [(0, .int .i64 x), (1, .int .i64 y)] = some (c2 (x, y)).toArray := by kernel_rfl
theorem builtBe1 (x : Int) : Try.prog.built 27 [(0, .int .i64 x)] = some (c2 (x, 0)).toArray := by kernel_rfl
theorem zeroVBe (w : World) : (zeroValue 27).run Try.prog w = .ok (.agg #[.int .i64 0, .int .i64 0]) w := by kernel_rfl
theorem eqBe (p q : Int × Int) : Eqs Try.prog 27 (c2 p).toArray (c2 q).toArray (p == q) := ⟨by kernel_rfl, fun w => by
  obtain ⟨a, b⟩ := p
  obtain ⟨x, y⟩ := q
  unfold c2
  go_simp
  (repeat' split) <;> simp_all⟩
theorem at_bsWa {ops : Array Oper} {rest : List Oper} {o : Oper} {a : Act} {w : World} {Q : Exit → Act → World → Prop} (p : Int × Int) (x : Operand) (hgd : o.guard = none) (ho : o.op = .buildSlice 30 1 #[(0, x)]) (hx : a.eval x = .agg (c2 p).toArray)
    (h : wpList Try.prog ops Q rest (a.put o.dst (.slice (some ⟨w.heap.size, 0, none⟩) 1 1)) (w.alloc (.cells (c2 p).toArray 34))) : wpList Try.prog ops Q (o :: rest) a w := by
  obtain ⟨i, hi, hz0, hz1, hz2⟩ := info_parts infoWa
  refine wpList_buildSlice hgd 30 34 1 #[(0, x)] ho (c2 p).toArray i _ Try.underlying30 hi hz0 (by rw [hz1]; decide) (by rw [hz1]; decide) ?_ h
  rw [hz1]
  have e : (#[(0, x)].map fun (i, x) => (i, a.eval x)).toList = [(0, .agg (c2 p).toArray)] := by simp [hx]
  rw [e]
  exact fill2 p
theorem builtWa (x y : Int) : Try.prog.built 34 [(0, .int .i64 x), (1, .int .i64 y)] = some (c2 (x, y)).toArray := by kernel_rfl
theorem builtWa1 (x : Int) : Try.prog.built 34 [(0, .int .i64 x)] = some (c2 (x, 0)).toArray := by kernel_rfl
theorem zeroVWa (w : World) : (zeroValue 34).run Try.prog w = .ok (.agg #[.int .i64 0, .int .i64 0]) w := by kernel_rfl
theorem eqWa (p q : Int × Int) : Eqs Try.prog 34 (c2 p).toArray (c2 q).toArray (p == q) := ⟨by kernel_rfl, fun w => by
  obtain ⟨a, b⟩ := p
  obtain ⟨x, y⟩ := q
  unfold c2
  go_simp
  (repeat' split) <;> simp_all⟩
/-- Q of records that lie in a row. -/
theorem LiesR.q {x : World} {sp : Option Addr} {l : List Rc} (h : LiesR x sp l) (j : Nat) (b : Bool) (hj : (l.map (·.q))[j]? = some b) : ∃ g o, sp = some ⟨g, o, none⟩ ∧ x.cell? ⟨g, o + j * 8 + 6, none⟩ = some (.bool b) := by
  rw [List.getElem?_map] at hj
  obtain ⟨s, hs, e⟩ := Option.map_eq_some_iff.1 hj
  obtain ⟨g, o, e1, k⟩ := h j s hs
  refine ⟨g, o, e1, ?_⟩
  rw [← e]
  exact rangeC k 6 _ (rcC_q s)
theorem rlev_any (w : World) (sp : Option Addr) (cap : Nat) (l : List Rc) (hl : Hid (LiesR w sp l)) (hn : l.length ≤ 2147483647) :
    Calls Try.prog 16 #[.slice sp l.length cap] w fun e w' => ∃ v, e = .returned v ∧ Hid (KL 3 1 cI w v (levels (l.map (·.q))) w') := by
  obtain ⟨LV, hLV⟩ : ∃ x, levels (l.map (·.q)) = x := ⟨_, rfl⟩
  rw [hLV]
  replace hLV : Hid (levGo (l.map (·.q)) false 0 [] = LV) := hLV
  obtain ⟨n, hn'⟩ : ∃ n, l.length = n := ⟨_, rfl⟩
  rw [hn'] at hn ⊢
  have hqn : Hid ((l.map (·.q)).length = n) := by show _ = _; rw [List.length_map, hn']
  have ni : (n : Int) ≤ 2147483647 := by omega
  obtain ⟨qs, hqs⟩ : ∃ qs, l.map (·.q) = qs := ⟨_, rfl⟩
  have hq : Hid (∀ (j : Nat) (b : Bool), qs[j]? = some b → ∃ g o, sp = some ⟨g, o, none⟩ ∧ w.cell? ⟨g, o + j * 8 + 6, none⟩ = some (.bool b)) := fun j b h => hl.out.q j b (by rw [hqs]; exact h)
  rw [hqs] at hLV hqn
  have hnn : Hid (n ≤ 2147483647) := hn
  clear hn hn' hqs hl
  go_enter Try.func16, Try.ntmps16
  go_wp2
  go_loopw [3, 4, 5, 6] (fun o q c i wz => ∃ (k : Nat) (b : Bool) (m : Int) (v : Value) (out : List Int) (y : World), y = wz ∧ v = o ∧ q = .bool b ∧ c = .int .i64 m ∧ i = .int .i64 (k : Int) ∧ Hid (k ≤ n ∧ 0 ≤ m ∧ m ≤ k ∧ out.length ≤ k ∧ levGo (qs.drop k) b m out = LV) ∧ Hid (KL 3 1 cI w v out y)) (fun _ _ _ i _ => (n - intOf i).toNat)
  case atStart => exact ⟨0, false, 0, _, [], w, rfl, rfl, rfl, rfl, rfl, ⟨by omega, by omega, by omega, by simp, hLV.out⟩, KL.nil w⟩
  case round =>
    obtain ⟨k, b, m, v, out, y, rfl, rfl, rfl, rfl, rfl, J, K⟩ := hrel
    have m0 := J.out.2.1
    have m1 : m ≤ 2147483647 := by have := J.out.2.2.1; have := J.out.1; omega
    by_cases hlt : k < n
    · obtain ⟨c, hc, hdrop⟩ := at_list hqn.out hlt
      obtain ⟨g, o, rfl, hcell⟩ := hq.out k c hc
      have hc0 : Hid (w.cell? ⟨g, o + k * 8 + 6, none⟩ = some (.bool c)) := hcell
      have hcell := (K.out.low.cell (p := ⟨g, o + k * 8 + 6, none⟩) (World.block_lt_of_cell? w _ hcell)).trans hcell
      have ij := fun u => idxP (g := g) (off := o) (len := n) (cap := cap) Try.underlying22 (s := 8) (by kernel_rfl) .i64 k u hlt
      have hki : (k : Int) < n := by omega
      have hlt' : Hid (k < n) := hlt
      have J2 : Hid ((if c = b then levGo (qs.drop (k + 1)) b (m + 1) out else levGo (qs.drop (k + 1)) c 1 (out ++ [m])) = LV) := by
        have h := J.out.2.2.2.2
        rw [hdrop] at h
        exact h
      replace hc : Hid _ := hc
      replace hdrop : Hid _ := hdrop
      clear hlt
      by_cases hcb : c = b
      · subst hcb
        have J3 : Hid (levGo (qs.drop (k + 1)) c (m + 1) out = LV) := by have := J2.out; rw [if_pos rfl] at this; exact this
        have q0 : (c != c) = false := by simp
        clear J2
        go_wp2
        go_roundw
        case rel => exact ⟨k + 1, c, m + 1, _, out, _, rfl, rfl, rfl, rfl, by simp, ⟨by have := hlt'.out; omega, by omega, by have := J.out.2.2.1; omega, by have := J.out.2.2.2.1; omega, J3.out⟩, K⟩
        case measure => have := hlt'.out; simp [intOf]; omega
      · have J3 : Hid (levGo (qs.drop (k + 1)) c 1 (out ++ [m]) = LV) := by have := J2.out; rw [if_neg hcb] at this; exact this
        have q0 : (c == b) = false := by simpa using hcb
        have hol : Hid (out.length ≤ 2147483647 ∧ out.length ≤ k) := ⟨by have := J.out.2.2.2.1; have := J.out.1; have := hnn.out; omega, J.out.2.2.2.1⟩
        clear J2 hcb
        go_wp2_with (at_builtin; refine at_appL kInt rfl (.tmp 20) (.tmp 22) rfl w.heap.size v out rfl (K.out.own.alloc _) y.heap.size m rfl (one_bx _ _ _) ?_ ?_ ?_; (have := hol.out; omega); (have := K.out.low.size; simp; omega); intro v' y2 A; have K2 : Hid (KL 3 1 cI w v' (out ++ [m]) y2) := K.out.add A.out; clear A; have hcell2 := (K2.out.low.cell (p := ⟨g, o + k * 8 + 6, none⟩) (World.block_lt_of_cell? w _ hc0.out)).trans hc0.out)
        go_roundw
        case rel => exact ⟨k + 1, c, 1, _, _, _, rfl, rfl, rfl, rfl, by simp, ⟨by have := hlt'.out; omega, by omega, by omega, by have := hol.out; simp; omega, J3.out⟩, K2⟩
        case measure => have := hlt'.out; simp [intOf]; omega
    · have hke : k = n := by have := J.out.1; omega
      subst hke
      have J2 : Hid ((if 0 < m then out ++ [m] else out) = LV) := by
        have h := J.out.2.2.2.2
        rw [List.drop_eq_nil_of_le (by rw [hqn.out]; exact Nat.le_refl _)] at h
        exact h
      have hol : Hid (out.length ≤ 2147483647) := by have := J.out.2.2.2.1; have := hnn.out; show _ ≤ _; omega
      clear hlt
      by_cases hm : 0 < m
      · have q0 : decide (0 < m) = true := by simpa using hm
        have J3 : Hid (out ++ [m] = LV) := by have := J2.out; rw [if_pos hm] at this; exact this
        clear hm J2
        go_wp2_with (at_builtin; refine at_appL kInt rfl (.tmp 33) (.tmp 35) rfl w.heap.size v out rfl (K.out.own.alloc _) y.heap.size m rfl (one_bx _ _ _) ?_ ?_ ?_; (have := hol.out; omega); (have := K.out.low.size; simp; omega); intro v' y2 A; have K2 : Hid (KL 3 1 cI w v' (out ++ [m]) y2) := K.out.add A.out; clear A)
        go_ret
        exact ⟨_, rfl, by rw [← J3.out]; exact K2⟩
      · have q0 : decide (0 < m) = false := by simpa using hm
        have J3 : Hid (out = LV) := by have := J2.out; rw [if_neg hm] at this; exact this
        clear hm J2
        go_wp2
        go_ret
        exact ⟨_, rfl, by rw [← J3.out]; exact K⟩
theorem rem2 (k : Nat) (w : World) (h : k ≤ 2147483648) : ((k : Int).tmod 2) = ((k % 2 : Nat) : Int) := by
  rw [Int.tmod_eq_emod_of_nonneg (by omega)]
  omega
theorem bep_odd (v : List Int) (k : Nat) (h : k % 2 = 1) : (List.range ((k + 1) / 2)).map (fun j => (posV v (2 * j + 1), posV v (2 * j + 2))) = (List.range (k / 2)).map (fun j => (posV v (2 * j + 1), posV v (2 * j + 2))) ++ [(posV v k, posV v (k + 1))] := by
  rw [show (k + 1) / 2 = k / 2 + 1 by omega, List.range_succ, List.map_append]
  simp only [List.map_cons, List.map_nil]
  rw [show 2 * (k / 2) + 1 = k by omega, show 2 * (k / 2) + 2 = k + 1 by omega]
theorem rbeep_any (w : World) (sp : Option Addr) (cap : Nat) (l : List Rc) (hl : Hid (LiesR w sp l)) (hn : l.length ≤ 2147483647) :
    Calls Try.prog 9 #[.slice sp l.length cap] w fun e w' => ∃ v, e = .returned v ∧ Hid (KL 27 2 c2 w v (bepL (levels (l.map (·.q)))) w') := by
  have hL := rlev_any w sp cap l hl hn
  have hg := levels_good (l.map (·.q))
  have hs := levels_sum (l.map (·.q))
  have hle := levels_len (l.map (·.q))
  rw [List.length_map] at hs hle
  obtain ⟨V, hV⟩ : ∃ x, levels (l.map (·.q)) = x := ⟨_, rfl⟩
  rw [hV] at hL hg hs hle ⊢
  have hv : Hid (∀ (i : Nat) (x : Int), V[i]? = some x → 0 ≤ x) := fun i x h => (hg i x h).1
  have hhi : Hid (∀ a, 0 ≤ posV V a ∧ posV V a ≤ 2147483647) := fun a => by have := posV_hi V hv.out a; omega
  obtain ⟨n, hn'⟩ : ∃ n, V.length = n := ⟨_, rfl⟩
  have nl : n ≤ 2147483648 := by omega
  have ni : (n : Int) ≤ 2147483648 := by omega
  have hb2 : Hid (∀ x y, Try.prog.built 27 [(0, .int .i64 x), (1, .int .i64 y)] = some (c2 (x, y)).toArray) := builtBe
  generalize l.length = ln at hL hn ⊢
  clear hV hg hs hle hl
  replace hn' : Hid _ := hn'
  go_enter Try.func9, Try.ntmps9
  go_wp2_with (go_at_call 16; refine hL.mono ?_; rintro e y1 ⟨v1, rfl, H1⟩; obtain ⟨p1, c1, rfl, li1, _⟩ := H1.out.own.open kInt.len; rw [hn'.out]; replace li1 : Hid (LI y1 p1 V) := li1)
  go_loopw [4, 5, 6] (fun o a i wz => ∃ (k : Nat) (v : Value) (y : World), y = wz ∧ v = o ∧ a = .int .i64 (posV V k) ∧ i = .int .i64 (k : Int) ∧ Hid (k ≤ n) ∧ Hid (KL 27 2 c2 y1 v ((List.range (k / 2)).map fun j => (posV V (2 * j + 1), posV V (2 * j + 2))) y)) (fun _ _ i _ => (n - intOf i).toNat)
  case atStart => exact ⟨0, _, y1, rfl, rfl, by rw [posV_zero], rfl, Nat.zero_le _, KL.nil y1⟩
  case round =>
    obtain ⟨k, v, y, rfl, rfl, rfl, rfl, J, K⟩ := hrel
    by_cases hlt : k < n
    · obtain ⟨x, hx, _⟩ := at_list hn'.out hlt
      obtain ⟨g, o, rfl, hcell⟩ := li_at (li1.out.below K.out.low) k x hx
      have ij := fun u => idxI g o n c1 k hlt u
      have hki : (k : Int) < n := by omega
      have hlt' : Hid (k < n) := hlt
      have hP : Hid (posV V (k + 1) = posV V k + x) := posV_succ V k x hx
      have a0 := hhi.out k
      have a1 := hhi.out (k + 1)
      rw [hP.out] at a1
      obtain ⟨P, hPk⟩ : ∃ P, posV V k = P := ⟨_, rfl⟩
      rw [hPk] at a0 a1 hP ⊢
      have r2 := rem2 k w (by omega)
      replace hx : Hid _ := hx
      replace hPk : Hid _ := hPk
      obtain ⟨p0, p1'⟩ := a0
      obtain ⟨p2, p3⟩ := a1
      clear hlt
      by_cases ho : k % 2 = 1
      · rw [ho] at r2
        have hbd : Hid (((List.range ((k + 1) / 2)).map fun j => (posV V (2 * j + 1), posV V (2 * j + 2))) = ((List.range (k / 2)).map fun j => (posV V (2 * j + 1), posV V (2 * j + 2))) ++ [(P, P + x)]) := by show _ = _; rw [bep_odd V k ho, hPk.out, hP.out]
        have hol : Hid (((List.range (k / 2)).map fun j => (posV V (2 * j + 1), posV V (2 * j + 2))).length ≤ 2147483648) := by have := hlt'.out; show _ ≤ _; simp; omega
        obtain ⟨out, hout⟩ : ∃ out, ((List.range (k / 2)).map fun j => (posV V (2 * j + 1), posV V (2 * j + 2))) = out := ⟨_, rfl⟩
        rw [hout] at hbd hol K
        replace r2 : (k : Int).tmod 2 = 1 := r2
        clear ho hout
        go_wp2_with (first
          | ((with_reducible refine at_bu #[(0, .tmp 19), (1, .tmp 25)] [(0, .int .i64 P), (1, .int .i64 (P + x))] (c2 (P, P + x)).toArray ?_ ?_ ?_ (hb2.out _ _) ?_); kernel_rfl; rfl; (simp only [List.map_toArray, List.map_cons, List.map_nil]; rfl))
          | ((with_reducible refine at_bsBe (P, P + x) (.tmp 26) ?_ ?_ ?_ ?_); rfl; rfl; rfl)
          | (at_builtin; refine at_appL kBeep rfl (.tmp 18) (.tmp 27) rfl y1.heap.size v out rfl (K.out.own.alloc _) y.heap.size (P, P + x) rfl (one_bx _ _ _) ?_ ?_ ?_; (have := hol.out; omega); (have := K.out.low.size; simp; omega); intro v' y2 A; have K2 : Hid (KL 27 2 c2 y1 v' (out ++ [(P, P + x)]) y2) := K.out.add A.out; clear A; obtain ⟨g2, o2, e2, hcell2⟩ := li_at (li1.out.below K2.out.low) k x hx.out; cases e2))
        go_roundw
        case rel => exact ⟨k + 1, _, _, rfl, rfl, by rw [hP.out], by simp, (show k + 1 ≤ n by have := hlt'.out; omega), by rw [hbd.out]; exact K2⟩
        case measure => have := hlt'.out; simp [intOf]; omega
      · have r3 : (k : Int).tmod 2 = 0 := by rw [r2]; omega
        have hbd : Hid (((List.range ((k + 1) / 2)).map fun j => (posV V (2 * j + 1), posV V (2 * j + 2))) = ((List.range (k / 2)).map fun j => (posV V (2 * j + 1), posV V (2 * j + 2)))) := by show _ = _; rw [show (k + 1) / 2 = k / 2 by omega]
        clear ho r2
        go_wp2
        go_roundw
        case rel => exact ⟨k + 1, _, _, rfl, rfl, by rw [hP.out], by simp, (show k + 1 ≤ n by have := hlt'.out; omega), by rw [hbd.out]; exact K⟩
        case measure => have := hlt'.out; simp [intOf]; omega
    · have hke : k = n := by have := J.out; omega
      subst hke
      have hfin : Hid (bepL V = (List.range (k / 2)).map fun j => (posV V (2 * j + 1), posV V (2 * j + 2))) := by show _ = _; unfold bepL; rw [hn'.out]
      clear hlt
      go_wp2
      go_ret
      exact ⟨_, rfl, by rw [hfin.out]; exact K.out.base H1.out.low⟩
theorem KL.put {α : Type} {t' : TypeId} {s : Nat} {c : α → List Value} {w y y' : World} {v : Value} {l : List α} (h : KL t' s c w v l y) (b : Nat) (hb : w.heap.size ≤ b) (hne : ∀ g, v.ownBlock = some g → g ≠ b) (k1 : ∀ B, B ≤ b → Below B y y') (k2 : ∀ q, q ≠ b → y'.heap[q]? = y.heap[q]?) : KL t' s c w v l y' := ⟨h.own.keepB fun g e => k2 g (hne g e), h.low.trans (k1 _ hb)⟩
theorem wav_add (v : List Int) (j : Nat) (a b : Int) (h1 : v.getD (2 * j + 1) 0 = a) (h2 : v.getD (2 * j + 2) 0 = b) : (List.range (j + 1)).map (fun j => (v.getD (2 * j + 1) 0, v.getD (2 * j + 2) 0)) = (List.range j).map (fun j => (v.getD (2 * j + 1) 0, v.getD (2 * j + 2) 0)) ++ [(a, b)] := by
  rw [List.range_succ, List.map_append, ← h1, ← h2]
  rfl
theorem rwav_any (w : World) (sp : Option Addr) (cap : Nat) (l : List Rc) (hl : Hid (LiesR w sp l)) (hn : l.length ≤ 2147483647) :
    Calls Try.prog 13 #[.slice sp l.length cap] w fun e w' => ∃ v, e = .returned v ∧ Hid (KL 34 2 c2 w v (wavL (levels (l.map (·.q)))) w') := by
  have hL := rlev_any w sp cap l hl hn
  have hle := levels_len (l.map (·.q))
  rw [List.length_map] at hle
  obtain ⟨V, hV⟩ : ∃ x, levels (l.map (·.q)) = x := ⟨_, rfl⟩
  rw [hV] at hL hle ⊢
  obtain ⟨n, hn'⟩ : ∃ n, V.length = n := ⟨_, rfl⟩
  have nl : Hid (n ≤ 2147483648) := by show _ ≤ _; omega
  have ni : (n : Int) ≤ 2147483648 := by omega
  have hb1 : Hid (∀ x, Try.prog.built 34 [(0, .int .i64 x)] = some (c2 (x, 0)).toArray) := builtWa1
  have zz := zeroVWa
  generalize l.length = ln at hL hn ⊢
  clear hV hle hl
  replace hn' : Hid _ := hn'
  go_enter Try.func13, Try.ntmps13
  go_wp2_with (go_at_call 16; refine hL.mono ?_; rintro e y1 ⟨v1, rfl, H1⟩; obtain ⟨p1, c1, rfl, li1, _⟩ := H1.out.own.open kInt.len; rw [hn'.out]; replace li1 : Hid (LI y1 p1 V) := li1)
  go_loopw [4, 5] (fun o i wz => ∃ (j : Nat) (v : Value) (out : List (Int × Int)) (y : World), y = wz ∧ v = o ∧ i = .int .i64 ((2 * j + 1 : Nat) : Int) ∧ Hid (2 * j ≤ n ∧ out = (List.range j).map fun j => (V.getD (2 * j + 1) 0, V.getD (2 * j + 2) 0)) ∧ Hid (KL 34 2 c2 y1 v out y)) (fun _ i _ => (n + 2 - intOf i).toNat)
  case atStart => exact ⟨0, _, [], y1, rfl, rfl, rfl, ⟨by omega, rfl⟩, KL.nil y1⟩
  case round =>
    obtain ⟨j, v, out, y, rfl, rfl, rfl, J, K⟩ := hrel
    by_cases hlt : 2 * j + 1 < n
    · obtain ⟨x, hx, _⟩ := at_list hn'.out hlt
      obtain ⟨g, o, rfl, hcell⟩ := li_at (li1.out.below K.out.low) (2 * j + 1) x hx
      have ij := fun u => idxI g o n c1 (2 * j + 1) hlt u
      have hg1 : V.getD (2 * j + 1) 0 = x := by rw [List.getD_eq_getElem?_getD, hx]; rfl
      have hol : Hid (out.length ≤ 2147483648) := by have a := J.out; have b := nl.out; show _ ≤ _; rw [a.2]; simp; omega
      have hlt' : Hid (2 * j + 1 < n) := hlt
      have hxx : Hid (V[2 * j + 1]? = some x) := hx
      obtain ⟨k, hk⟩ : ∃ k, 2 * j + 1 = k := ⟨_, rfl⟩
      rw [hk] at hcell ij hlt ⊢
      have hki : (k : Int) < n := by omega
      have hkj : Hid (2 * j + 1 = k) := hk
      have hne : Hid (∀ g, v.ownBlock = some g → g ≠ y.heap.size) := fun g e => by have := (K.out.own.lt g e).2; omega
      have hsz : Hid (y1.heap.size ≤ y.heap.size) := K.out.low.size
      replace hx : Hid _ := hx
      by_cases h2 : k + 1 < n
      · obtain ⟨z, hz, _⟩ := at_list hn'.out h2
        have hg2 : V.getD (2 * j + 2) 0 = z := by rw [List.getD_eq_getElem?_getD, show 2 * j + 2 = k + 1 by omega, hz]; rfl
        have hfin : Hid ((List.range (j + 1)).map (fun j => (V.getD (2 * j + 1) 0, V.getD (2 * j + 2) 0)) = out ++ [(x, z)]) := by show _ = _; rw [wav_add V j x z hg1 hg2, J.out.2]
        have ij2 : ∀ u, (Instr.indexAt 35 (.slice (some ⟨g, o, none⟩) n c1) (.int .i64 ((k : Int) + 1))).run Try.prog u = .ok (.pointer (some ⟨g, o + (k + 1), none⟩)) u := fun u => by
          have := idxI g o n c1 (k + 1) h2 u
          rwa [show ((k + 1 : Nat) : Int) = (k : Int) + 1 by push_cast; rfl] at this
        have hk2 : (k : Int) + 1 < n := by omega
        replace hz : Hid _ := hz
        clear hg1 hg2 hlt h2 hk
        go_wp2_with (first
          | ((with_reducible refine at_bu #[(0, .tmp 18)] [(0, .int .i64 x)] (c2 (x, 0)).toArray ?_ ?_ ?_ (hb1.out _) ?_); kernel_rfl; rfl; (simp only [List.map_toArray, List.map_cons, List.map_nil]; rfl))
          | ((with_reducible refine gen_world (y.alloc (.cells #[.int .i64 0, .int .i64 0] 34)) (fun u => KL 34 2 c2 y1 v out u ∧ Bx u y.heap.size #[.int .i64 0, .int .i64 0] 34) ?_ ?_); exact ⟨K.out.below (below1 _ _), one_bx _ _ _⟩; intro y2 K2)
          | ((with_reducible refine at_st rtWa y.heap.size #[.int .i64 0, .int .i64 0] (c2 (x, 0)).toArray ?_ ?_ ?_ ?_ (.tmp 6) (.tmp 19) ?_ ?_ ?_ ?_ ?_); exact K2.out.2; rfl; rfl; simp [c2, Value.oneCell']; rfl; rfl; rfl; rfl; intro y3 hw3; have K3 : Hid (KL 34 2 c2 y1 v out y3 ∧ Bx y3 y.heap.size (c2 (x, 0)).toArray 34) := ⟨K2.out.1.put y.heap.size hsz.out hne.out hw3.out.2.1 hw3.out.2.2, hw3.out.1⟩; refine stopAt ?_))
        refine Stop.go ?_
        obtain ⟨b6, q6⟩ : ∃ b, y.heap.size = b := ⟨_, rfl⟩
        rw [q6] at K3 hne hsz ⊢
        obtain ⟨g', o', e', hcell2⟩ := li_at (li1.out.below K3.out.1.low) (k + 1) z hz.out
        cases e'
        have d1 := K3.out.2.c 1 _ rfl
        have f1 := K3.out.2.fz 1
        have K4 : Hid (KL 34 2 c2 y1 v out (y3.setCell ⟨b6, 1, none⟩ (.int .i64 z)) ∧ Bx (y3.setCell ⟨b6, 1, none⟩ (.int .i64 z)) b6 (c2 (x, z)).toArray 34) := ⟨K3.out.1.put b6 hsz.out hne.out (fun B hB => (Below.refl B y3).setCell (p := ⟨b6, 1, none⟩) hB _) (fun q hq => heap_setCell_other y3 ⟨b6, 1, none⟩ q _ hq), heap_setCell_same y3 b6 1 _ _ _ K3.out.2⟩
        clear q6 K2 hw3
        go_wp2_with (first
          | ((with_reducible refine gen_world (y3.setCell ⟨b6, 1, none⟩ (.int .i64 z)) (fun u => KL 34 2 c2 y1 v out u ∧ Bx u b6 (c2 (x, z)).toArray 34) ?_ ?_); exact K4.out; intro y4 K5)
          | ((with_reducible refine at_load rtWa b6 (c2 (x, z)).toArray ?_ ?_ (.tmp 6) ?_ ?_ ?_ ?_); exact K5.out.2; rfl; kernel_rfl; rfl; rfl)
          | ((with_reducible refine at_bsWa (x, z) (.tmp 32) ?_ ?_ ?_ ?_); rfl; rfl; rfl)
          | (at_builtin; refine at_appL kWave rfl (.tmp 31) (.tmp 33) rfl y1.heap.size v out rfl (K5.out.1.own.alloc _) y4.heap.size (x, z) rfl (one_bx _ _ _) ?_ ?_ ?_; (have := hol.out; omega); (have := K5.out.1.low.size; simp; omega); intro v' y5 A; have K6 : Hid (KL 34 2 c2 y1 v' (out ++ [(x, z)]) y5) := K5.out.1.add A.out; clear A))
        go_roundw
        case rel => exact ⟨j + 1, _, _, _, rfl, rfl, by have := hkj.out; congr 1; push_cast; omega, ⟨by have := hlt'.out; omega, hfin.out.symm⟩, K6⟩
        case measure => have := hlt'.out; have := hkj.out; simp [intOf]; omega
      · have hg2 : V.getD (2 * j + 2) 0 = 0 := by rw [List.getD_eq_getElem?_getD, show 2 * j + 2 = k + 1 by omega, List.getElem?_eq_none (by rw [hn'.out]; omega)]; rfl
        have hfin : Hid ((List.range (j + 1)).map (fun j => (V.getD (2 * j + 1) 0, V.getD (2 * j + 2) 0)) = out ++ [(x, 0)]) := by show _ = _; rw [wav_add V j x 0 hg1 hg2, J.out.2]
        have hk2 : decide ((k : Int) + 1 < n) = false := by simp; omega
        have hk3 : ¬ (k : Int) + 1 < n := by omega
        clear hg1 hg2 hlt h2 hk
        go_wp2_with (first
          | ((with_reducible refine at_bu #[(0, .tmp 18)] [(0, .int .i64 x)] (c2 (x, 0)).toArray ?_ ?_ ?_ (hb1.out _) ?_); kernel_rfl; rfl; (simp only [List.map_toArray, List.map_cons, List.map_nil]; rfl))
          | ((with_reducible refine gen_world (y.alloc (.cells #[.int .i64 0, .int .i64 0] 34)) (fun u => KL 34 2 c2 y1 v out u ∧ Bx u y.heap.size #[.int .i64 0, .int .i64 0] 34) ?_ ?_); exact ⟨K.out.below (below1 _ _), one_bx _ _ _⟩; intro y2 K2)
          | ((with_reducible refine at_st rtWa y.heap.size #[.int .i64 0, .int .i64 0] (c2 (x, 0)).toArray ?_ ?_ ?_ ?_ (.tmp 6) (.tmp 19) ?_ ?_ ?_ ?_ ?_); exact K2.out.2; rfl; rfl; simp [c2, Value.oneCell']; rfl; rfl; rfl; rfl; intro y3 hw3; have K3 : Hid (KL 34 2 c2 y1 v out y3 ∧ Bx y3 y.heap.size (c2 (x, 0)).toArray 34) := ⟨K2.out.1.put y.heap.size hsz.out hne.out hw3.out.2.1 hw3.out.2.2, hw3.out.1⟩; refine stopAt ?_))
        refine Stop.go ?_
        obtain ⟨b6, q6⟩ : ∃ b, y.heap.size = b := ⟨_, rfl⟩
        rw [q6] at K3 ⊢
        clear q6 K2 hw3
        go_wp2_with (first
          | ((with_reducible refine at_load rtWa b6 (c2 (x, 0)).toArray ?_ ?_ (.tmp 6) ?_ ?_ ?_ ?_); exact K3.out.2; rfl; kernel_rfl; rfl; rfl)
          | ((with_reducible refine at_bsWa (x, 0) (.tmp 32) ?_ ?_ ?_ ?_); rfl; rfl; rfl)
          | (at_builtin; refine at_appL kWave rfl (.tmp 31) (.tmp 33) rfl y1.heap.size v out rfl (K3.out.1.own.alloc _) y3.heap.size (x, 0) rfl (one_bx _ _ _) ?_ ?_ ?_; (have := hol.out; omega); (have := K3.out.1.low.size; simp; omega); intro v' y5 A; have K6 : Hid (KL 34 2 c2 y1 v' (out ++ [(x, 0)]) y5) := K3.out.1.add A.out; clear A))
        go_roundw
        case rel => exact ⟨j + 1, _, _, _, rfl, rfl, by have := hkj.out; congr 1; push_cast; omega, ⟨by have := hlt'.out; omega, hfin.out.symm⟩, K6⟩
        case measure => have := hlt'.out; have := hkj.out; simp [intOf]; omega
    · have hfin : Hid (wavL V = out) := by
        show _ = _
        rw [J.out.2]
        unfold wavL
        rw [hn'.out, show n / 2 = j by have := J.out.1; omega]
      have hki : ¬ ((2 * j + 1 : Nat) : Int) < n := by omega
      obtain ⟨k, hk⟩ : ∃ k, 2 * j + 1 = k := ⟨_, rfl⟩
      rw [hk] at hki ⊢
      clear hlt hk
      go_wp2
      go_ret
      exact ⟨_, rfl, by rw [hfin.out]; exact K.out.base H1.out.low⟩
end Go.Proofs.Ytbiifkcphaljeaa
