/- The law: what is loaded. -/
import Derived.Test.YtehnhjdjjalifaaGreatDoorJs
import Derived.Test.YtehnhjdjjalifaaGreatDoorX11
namespace Go.Proofs.YtehnhjdjjalifaaGreatDoor
open Go Go.RowKit Go.Shelf
set_option linter.unusedVariables false
set_option maxHeartbeats 4000000
set_option maxRecDepth 20000

/-- Two rows more, that were laid together. -/
theorem Ry.two {w z z' : World} {Bs : List (Nat × Array Value)} {L : List (Value × List UInt8)} {v v' : Value} {l l' : List UInt8} (h : Ry w Bs L z) (hb : Below z.heap.size z z') (ho : OwnL 5 1 cB z.heap.size z' v l) (ho' : OwnL 5 1 cB z.heap.size z' v' l') (hne : ∀ g, v.ownBlock = some g → v'.ownBlock ≠ some g) : Ry w Bs (L ++ [(v, l), (v', l')]) z' := by
  have k := h.row hb ho
  have e : L ++ [(v, l), (v', l')] = (L ++ [(v, l)]) ++ [(v', l')] := by simp
  rw [e]
  have key : ∀ (i : Nat) (v1 : Value) (l1 : List UInt8) (g : Nat), (L ++ [(v, l)])[i]? = some (v1, l1) → v1.ownBlock = some g → v'.ownBlock ≠ some g := fun i v1 l1 g e1 h1 h2 => by
    rcases snoc_get e1 with p1 | ⟨rfl, q1⟩
    · have a1 := ((h.own i v1 l1 p1).lt g h1).2
      have a2 := (ho'.lt g h2).1
      omega
    · injection q1 with q1 _
      subst q1
      exact hne g h1 h2
  refine ⟨fun i v1 l1 e1 => ?_, fun i j v1 l1 v2 l2 g e1 e2 h1 h2 => ?_, k.bx, k.low⟩
  · rcases snoc_get e1 with p1 | ⟨rfl, q1⟩
    · exact k.own i v1 l1 p1
    · injection q1 with q1 q2
      subst q1
      subst q2
      exact ho'.weak h.low.size
  · rcases snoc_get e1 with p1 | ⟨rfl, q1⟩ <;> rcases snoc_get e2 with p2 | ⟨rfl, q2⟩
    · exact k.ne i j v1 l1 v2 l2 g p1 p2 h1 h2
    · injection q2 with q2 _
      subst q2
      exact absurd h2 (key i v1 l1 g p1 h1)
    · injection q1 with q1 _
      subst q1
      exact absurd h1 (key j v2 l2 g p2 h2)
    · rfl
/-- What a machine's numbers are anyway. -/
structure BdOk (S : Bd) : Prop where
  ok : S.Ok
  ln : -9223372036854775808 ≤ S.ln ∧ S.ln ≤ 9223372036854775807
  cy : -9223372036854775808 ≤ S.cy ∧ S.cy ≤ 9223372036854775807
  gt : -9223372036854775808 ≤ S.gt ∧ S.gt ≤ 9223372036854775807
theorem Ry.bl {w z : World} {Bs : List (Nat × Array Value)} {L : List (Value × List UInt8)} (h : Ry w Bs L z) {S : Bd} {M : Array Value} {sR sO : Option Addr} {nR kR nO kO : Nat} (ok : BdOk S) (hM : M = bCs S (.slice sR nR kR) (.slice sO nO kO)) (i j : Nat) (hi : L[i]? = some (.slice sR nR kR, S.ram)) (hj : L[j]? = some (.slice sO nO kO, S.rom)) : BL z M S := by
  have a := own_lies (h.own i _ _ hi)
  have b := own_lies (h.own j _ _ hj)
  exact ⟨⟨sR, kR, sO, kO, by rw [hM, a.2.1, b.2.1], a.1, b.1⟩, ok.ok, ok.ln, ok.cy, ok.gt⟩
/-- The machine of noughts. -/
def zB : Bd := ⟨[0, 0, 0, 0, 0, 0, 0, 0, 0, 0, 0, 0, 0, 0, 0, 0], 0, false, 0, 0, 0, false, false, 0, 0, 0, 0, 0, false, 0, 0, false, [], [], 0⟩
theorem zB_cells : zBd = bCs zB (.slice none 0 0) (.slice none 0 0) := by kernel_rfl
theorem zB_ok : BdOk zB := ⟨⟨rfl, fun v hv => by
  simp only [zB, List.mem_cons, List.not_mem_nil, or_false, or_self] at hv
  subst hv
  decide, by decide⟩, by decide, by decide, by decide⟩
/-- What Load answers, in one. -/
def LU (S : Bd) (E : Int) (nR nO : Nat) (y : World) (e : Ending) (w' : World) : Prop := ∃ M sR kR sO kO, e = .returned (.tuple #[.agg M, .int .i64 E]) ∧ Hid (M = bCs S (.slice sR nR kR) (.slice sO nO kO) ∧ Below y.heap.size y w' ∧ OwnL 5 1 cB y.heap.size w' (.slice sR nR kR) S.ram ∧ OwnL 5 1 cB y.heap.size w' (.slice sO nO kO) S.rom ∧ ∀ g, (Value.slice sR nR kR).ownBlock = some g → (Value.slice sO nO kO).ownBlock ≠ some g)
theorem load_uni (l : List UInt8) (hn : l.length ≤ 4000000000) : ∃ (S : Bd) (E : Int), BdOk S ∧ S.ram.length ≤ 4000000000 ∧ S.rom.length ≤ 4000000000 ∧ ∀ (y : World) (e : Ending) (w' : World), LdE y l e w' → LU S E S.ram.length S.rom.length y e w' := by
  have bad : ∀ (E : Int) (y w' : World), Hid (Below y.heap.size y w') → LU zB E zB.ram.length zB.rom.length y (.returned (.tuple #[.agg zBd, .int .i64 E])) w' := fun E y w' h => ⟨zBd, none, 0, none, 0, rfl, ⟨zB_cells, h.out, OwnL.nil _ _, OwnL.nil _ _, fun g e => by cases e⟩⟩
  rcases hf : formB l with _ | _
  · refine ⟨zB, 210, zB_ok, by decide, by decide, fun y e w' k => ?_⟩
    rcases k with ⟨_, rfl, k⟩ | ⟨k, _⟩ | ⟨k, _⟩ | ⟨k, _⟩
    · exact bad 210 y w' k
    · rw [hf] at k; cases k
    · rw [hf] at k; cases k
    · rw [hf] at k; cases k
  rcases hs : sumOk l with _ | _
  · refine ⟨zB, 211, zB_ok, by decide, by decide, fun y e w' k => ?_⟩
    rcases k with ⟨k, _⟩ | ⟨_, _, rfl, k⟩ | ⟨_, k, _⟩ | ⟨_, k, _⟩
    · rw [hf] at k; cases k
    · exact bad 211 y w' k
    · rw [hs] at k; cases k
    · rw [hs] at k; cases k
  by_cases hc : chkB (bdOf l) = 0
  · have h2 : numB l 46 2 < 65536 := num_lt l 46 2
    have h3 := UInt8.toNat_lt (byteB l 48)
    have h4 := UInt8.toNat_lt (byteB l 50)
    have g1 : (bdOf l).ram.length ≤ l.length := by show ((l.drop 63).take (ramN l)).length ≤ _; rw [List.length_take, List.length_drop]; omega
    have g2 : (bdOf l).rom.length ≤ l.length := by show ((l.drop (63 + ramN l)).take 512).length ≤ _; rw [List.length_take, List.length_drop]; omega
    refine ⟨bdOf l, 0, ⟨bdOf_ok l, ?_, ?_, ?_⟩, by omega, by omega, fun y e w' k => ?_⟩
    · show _ ≤ ((numB l 46 2 : Nat) : Int) ∧ ((numB l 46 2 : Nat) : Int) ≤ _; omega
    · show _ ≤ (((byteB l 48).toNat : Nat) : Int) ∧ (((byteB l 48).toNat : Nat) : Int) ≤ _; omega
    · show _ ≤ (((byteB l 50).toNat : Nat) : Int) ∧ (((byteB l 50).toNat : Nat) : Int) ≤ _; omega
    · rcases k with ⟨k, _⟩ | ⟨_, k, _⟩ | ⟨_, _, k, _⟩ | ⟨_, _, _, M, rfl, k⟩
      · rw [hf] at k; cases k
      · rw [hs] at k; cases k
      · exact absurd hc k
      · obtain ⟨g, g', eM, ha, hb, hg, hg', hne⟩ := k.out.2
        refine ⟨M, some ⟨g, 0, none⟩, (bdOf l).ram.length, some ⟨g', 0, none⟩, (bdOf l).rom.length, rfl, ⟨eM, k.out.1, own_row kByte.len ha hg (by unfold maxLen; omega), own_row kByte.len hb hg' (by unfold maxLen; omega), fun q h1 h2 => ?_⟩⟩
        have i1 : g = q := by simpa [Value.ownBlock] using h1
        have i2 : g' = q := by simpa [Value.ownBlock] using h2
        exact hne (i1.trans i2.symm)
  · refine ⟨zB, 212, zB_ok, by decide, by decide, fun y e w' k => ?_⟩
    rcases k with ⟨k, _⟩ | ⟨_, k, _⟩ | ⟨_, _, _, rfl, k⟩ | ⟨_, _, k, _⟩
    · rw [hf] at k; cases k
    · rw [hs] at k; cases k
    · exact bad 212 y w' k
    · exact absurd k hc
theorem loads_big (w : World) (sp : Option Addr) (n cap : Nat) (hn : (n : Int) ≤ 9223372036854775807) (h : 2147483647 < n) :
    Calls Tryz.prog 4 #[.slice sp n cap] w fun e w' => e = .returned (.bool true) ∧ Below w.heap.size w w' := by
  have d1 : decide ((2147483647 : Int) < (n : Int)) = true := decide_eq_true (by omega)
  have d1' : decide (2147483647 < n) = true := decide_eq_true (by omega)
  clear h
  go_enter Tryz.func4, Tryz.ntmps4
  go_wp2
  go_ret
  exact ⟨rfl, Below.refl _ _⟩
theorem set_ones {lr : List UInt8} {n i : Nat} {e : UInt8} (hn : lr.length = n) (hi : i < n) (h : ∀ k, k < i → lr[k]? = some e) : ∀ k, k < i + 1 → (lr.set i e)[k]? = some e := fun k hk => by
  by_cases hik : i = k
  · subst hik
    rw [List.getElem?_set_self (by omega)]
  · rw [List.getElem?_set_ne hik]
    exact h k (by omega)
theorem all_one {lr : List UInt8} {n : Nat} {e : UInt8} (hn : lr.length = n) (h : ∀ k, k < n → lr[k]? = some e) : lr = List.replicate (n + 0) e := by
  apply List.ext_getElem?
  intro k
  rcases Nat.lt_or_ge k n with hk | hk
  · rw [h k hk, List.getElem?_replicate, if_pos (by omega)]
  · rw [List.getElem?_eq_none (by omega), List.getElem?_eq_none (by rw [List.length_replicate]; omega)]
theorem rep_snoc (n k : Nat) (e : UInt8) : List.replicate (n + k) e ++ [e] = List.replicate (n + (k + 1)) e := by
  rw [← Nat.add_assoc, List.replicate_succ']
theorem getD_rep (n i : Nat) (e : UInt8) (h : i < n) : (List.replicate n e).getD i 0 = e := by
  rw [List.getD_eq_getElem?_getD, List.getElem?_replicate, if_pos h]; rfl
theorem loads_go (w : World) (tb : Hid (Tbs w)) (sp : Option Addr) (cap : Nat) (l : List UInt8) (hl : Hid (LB w sp l)) (hcap : l.length ≤ cap) (hn : l.length ≤ 2147483647) :
    Calls Tryz.prog 4 #[.slice sp l.length cap] w fun e w' => e = .returned (.bool true) ∧ Below w.heap.size w w' := by
  have hAw : Hid (∀ y, Below w.heap.size w y → Calls Tryz.prog 10 #[] y fun e w' => e = .returned (.bool true) ∧ Below y.heap.size y w') := fun y hy => awake_any y (tb.out.below hy)
  obtain ⟨S, E, okS, hS1, hS2, hU⟩ := load_uni l (by omega)
  obtain ⟨n, hn'⟩ : ∃ z, l.length = z := ⟨_, rfl⟩
  obtain ⟨nR, hnR⟩ : ∃ z, S.ram.length = z := ⟨_, rfl⟩
  obtain ⟨nO, hnO⟩ : ∃ z, S.rom.length = z := ⟨_, rfl⟩
  rw [hnR, hnO] at hU
  have hL : Hid (∀ y sp cap, Below w.heap.size w y → LB y sp l → n ≤ cap → Calls Tryz.prog 11 #[.slice sp n cap] y (LU S E nR nO y)) := fun y sp cap hy hl hc => by
    have := pload_any y (tb.out.below hy) sp cap l hl (by omega) (by omega)
    rw [hn'] at this
    exact this.mono (hU y)
  have hD : Hid (∀ y sp cap, Below w.heap.size w y → LB y sp l → n ≤ cap → Calls Tryz.prog 12 #[.slice sp n cap] y (LU S E nR nO y)) := fun y sp cap hy hl hc => by
    have := rload_any y sp cap l hl (by omega) (by omega)
    rw [hn'] at this
    exact this.mono (hU y)
  have hSm : Hid (∀ y A B, BL y A S → BL y B S → Calls Tryz.prog 13 #[.agg A, .agg B] y fun e w' => e = .returned (.bool true) ∧ Below y.heap.size y w') := fun y A B h1 h2 => same08_true y A B S h1 h2 hS1 hS2
  obtain ⟨T, hT⟩ : ∃ z : ByteArray, ⟨l.toArray⟩ = z := ⟨_, rfl⟩
  have hcv : Hid (∀ y sp cap, LB y sp l → (convert 31 9 (.slice sp n cap)).run Tryz.prog y = .ok (.string T) y) := fun y sp cap h => by
    have := conv21 h cap
    rw [hn', hT] at this
    exact this
  have hcap' : Hid (n ≤ cap) := by show _ ≤ _; omega
  have ok : Hid (BdOk S) := okS
  obtain ⟨M0, hM0, mk1⟩ := mk_row kByte (n + 1) (by omega) (by omega)
  have m1 : ∀ v, (Instr.makeSlice 31 (.int .i64 ((n : Int) + 1)) (.int .i64 ((n : Int) + 1))).run Tryz.prog v = .ok (.slice (some ⟨v.heap.size, 0, none⟩) (n + 1) (n + 1)) (v.alloc (.cells M0 5)) := fun v => mk1 v
  have f1 := mark_row (M := M0) (l := l) (by omega) 77
  rw [hn'] at f1
  obtain ⟨A1, hA1⟩ : ∃ z, Hid ((splice M0.toList 0 (rowL cB l)).toArray = z) := ⟨_, (rfl : (splice M0.toList 0 (rowL cB l)).toArray = _)⟩
  obtain ⟨F1, hF1⟩ : ∃ z, Hid ((rowL cB (l ++ [77])).toArray = z) := ⟨_, (rfl : (rowL cB (l ++ [77])).toArray = _)⟩
  rw [hA1.out, hF1.out] at f1
  obtain ⟨v1, hv1⟩ : ∃ v, Hid (A1[n]? = some v) := ⟨_, Array.getElem?_eq_getElem (by rw [f1.2]; omega)⟩
  have g1f : Hid (A1.setIfInBounds n (.int .u8 77) = F1) := f1.1
  have nn : Hid (l.length = n ∧ S.ram.length = nR ∧ S.rom.length = nO ∧ M0.size = n + 1) := ⟨hn', hnR, hnO, by omega⟩
  have qE : (E != E) = false := by simp
  rw [hn'] at hn ⊢
  have d1 : decide ((2147483647 : Int) < (n : Int)) = false := decide_eq_false (by omega)
  have d1' : decide (2147483647 < n) = false := decide_eq_false (by omega)
  have iR : (nR : Int) ≤ 4000000000 := by omega
  have iO : (nO : Int) ≤ 4000000000 := by omega
  have iN : (n : Int) ≤ 2147483647 := by omega
  obtain ⟨A, hA⟩ : ∃ z, w.heap.size = z := ⟨_, rfl⟩
  have hAA : Hid (w.heap.size = A) := hA
  have m1w := m1 w
  rw [hA] at m1w
  have ix := fun v => idxB .i64 A 0 (n + 1) (n + 1) n v (by omega)
  simp only [Nat.zero_add] at ix
  have sl1 := slUp A (n + 1) (n + 1) n (by omega) (by omega)
  have K0 : Hid (Fm w [(A, M0, 5)] (w.alloc (.cells M0 5))) := by
    have := Fm.one w M0 5
    rw [hA] at this
    exact this
  clear tb hcap hn hn' hnR hnO hU hS1 hS2 hT hM0 mk1 m1 f1 okS hA
  go_enter Tryz.func4, Tryz.ntmps4
  go_upto_region 4 with (fail)
  generalize (w.alloc (.cells M0 5)) = y0 at K0 ⊢
  clear m1w
  go_upto_region 5 with ((with_reducible refine at_copyG kByte ?_ (.tmp 25) (.tmp 26) ?_ A (n + 1) (n + 1) sp n cap ?_ ?_ M0 ?_ l ?_ ?_ ?_ ?_ ?_); rfl; rfl; rfl; rfl; exact K0.out.bx 0 _ _ _ rfl; exact nn.out.1; exact Nat.le_succ _; exact hl.out.below K0.out.low; (rw [nn.out.2.2.2]; omega); intro y1 h3; have K1 : Hid (Fm w [(A, A1, 5)] y1) := (by have := K0.out.put 0 _ _ _ _ rfl h3.out; rw [hA1.out] at this; exact this); have k0 := (K1.out.bx 0 _ _ _ rfl).c n _ hv1.out; have z0 := (K1.out.bx 0 _ _ _ rfl).fz n; clear h3)
  go_upto_region 6 with (fail)
  have K2' : Hid (Fm w [(A, F1, 5)] (y1.setCell ⟨A, n, none⟩ (.int .u8 77))) := K1.out.setCell 0 _ _ _ _ rfl n _ g1f.out
  generalize (y1.setCell ⟨A, n, none⟩ (.int .u8 77)) = y2 at K2' ⊢
  have K2 : Hid (Ry w [] [(.slice (some ⟨A, 0, none⟩) (n + 1) (n + 1), l ++ [77])] y2) := by
    have hb := K2'.out.bx 0 _ _ _ rfl
    rw [← hF1.out] at hb
    have ho := own_row (B := w.heap.size) kByte.len hb (by rw [hAA.out]; exact Nat.le_refl _) (by rw [List.length_append, nn.out.1]; unfold maxLen; simp; omega)
    rw [List.length_append, nn.out.1] at ho
    exact (Ry.nil w).row K2'.out.low ho
  have hfront : Hid (∀ y, Ry w [] [(.slice (some ⟨A, 0, none⟩) (n + 1) (n + 1), l ++ [77])] y → LB y (some ⟨A, 0, none⟩) l) := fun y h j a hj => (own_lies (h.own 0 _ _ rfl)).1 j a (by rw [List.getElem?_append_left (List.getElem?_eq_some_iff.1 hj).1]; exact hj)
  clear k0 z0 K1 K0 K2' hF1 hA1 hv1 g1f
  go_upto_region 7 with (first
    | (go_at_call 11; refine (hL.out y2 (some ⟨A, 0, none⟩) (n + 1) K2.out.low (hfront.out y2 K2.out) (Nat.le_succ _)).mono ?_; rintro e y3 ⟨M1, sR1, kR1, sO1, kO1, rfl, H⟩; have m1 : Hid (M1 = bCs S (.slice sR1 nR kR1) (.slice sO1 nO kO1) ∧ M1.size = 35 ∧ M1.all (·.oneCell') = true) := ⟨H.out.1, by rw [H.out.1]; rfl, by rw [H.out.1]; exact bCs_one _ _ _ _ _ _ _⟩; have K3 : Hid (Ry w [] [(.slice (some ⟨A, 0, none⟩) (n + 1) (n + 1), l ++ [77]), (.slice sR1 nR kR1, S.ram), (.slice sO1 nO kO1, S.rom)] y3) := K2.out.two H.out.2.1 H.out.2.2.1 H.out.2.2.2.1 H.out.2.2.2.2; clear H)
    | ((with_reducible refine gen_world (y3.alloc (.cells #[.int .u16 0, .int .u16 0, .int .u16 0, .int .u16 0, .int .u16 0, .int .u16 0, .int .u16 0, .int .u16 0, .int .u16 0, .int .u16 0, .int .u16 0, .int .u16 0, .int .u16 0, .int .u16 0, .int .u16 0, .int .u16 0, .int .u8 0, .bool false, .int .u8 0, .int .u8 0, .int .u8 0, .bool false, .bool false, .int .u8 0, .int .u8 0, .int .u8 0, .int .i64 0, .int .i64 0, .bool false, .int .i64 0, .int .u8 0, .bool false, .slice none 0 0, .slice none 0 0, .int .u64 0] 34)) (fun z => Ry w [] [(.slice (some ⟨A, 0, none⟩) (n + 1) (n + 1), l ++ [77]), (.slice sR1 nR kR1, S.ram), (.slice sO1 nO kO1, S.rom)] z ∧ Bx z y3.heap.size zBd 34 ∧ (∀ (i bq : Nat) (c1 : Array Value), ([] : List (Nat × Array Value))[i]? = some (bq, c1) → bq < y3.heap.size) ∧ w.heap.size ≤ y3.heap.size) ?_ ?_); exact ⟨K3.out.below (below1 y3 _), one_bxL _ _ _, fun i bq c1 e => heap_lt (K3.out.bx i bq c1 e), K3.out.low.size⟩; intro y4 K4)
    | ((with_reducible refine at_st rtBd y3.heap.size zBd M1 ?_ ?_ ?_ ?_ (.tmp 4) (.tmp 38) ?_ ?_ ?_ ?_ ?_); exact K4.out.2.1; rfl; exact m1.out.2.1; exact m1.out.2.2; rfl; rfl; rfl; rfl; intro y5 h9; have K5 : Hid (Ry w [(y3.heap.size, M1)] [(.slice (some ⟨A, 0, none⟩) (n + 1) (n + 1), l ++ [77]), (.slice sR1 nR kR1, S.ram), (.slice sO1 nO kO1, S.rom)] y5) := K4.out.1.put _ _ K4.out.2.2.2 K4.out.2.1 (fun i bq c1 e => Nat.ne_of_lt (K4.out.2.2.1 i bq c1 e)) _ h9.out; clear h9))
  generalize y3.heap.size = b1 at K5 ⊢
  clear K2 K3 K4
  have cv1 : ∀ m, (convert 31 9 (.slice (some ⟨A, 0, none⟩) n (n + 1))).run Tryz.prog (y5.drewN m) = .ok (.string T) (y5.drewN m) := fun m => hcv.out _ _ _ (fun j a hj => (own_lies ((K5.out.below (below_drewN (Below.refl _ y5))).own 0 _ _ rfl)).1 j a (by rw [List.getElem?_append_left (List.getElem?_eq_some_iff.1 hj).1]; exact hj))
  have cv2 : ∀ m, (convert 31 9 (.slice sp n cap)).run Tryz.prog (y5.drewN m) = .ok (.string T) (y5.drewN m) := fun m => hcv.out _ _ _ (hl.out.below (below_drewN K5.out.low))
  have k0 : y5.cell? ⟨A, n, none⟩ = some (.int .u8 77) := by
    have h := own_lies (K5.out.own 0 _ _ rfl)
    have := lb_at h.1 n (by rw [List.length_append, nn.out.1]; simp)
    rw [Nat.zero_add] at this
    rw [this]
    have e : (l ++ [77]).getD n 0 = 77 := by rw [List.getD_eq_getElem?_getD, List.getElem?_append_right (by rw [nn.out.1]; exact Nat.le_refl _), nn.out.1, Nat.sub_self]; rfl
    rw [e]
    rfl
  go_quiet (fail)
  rename_i nq
  have K6' : Hid (Ry w [(b1, M1)] [(.slice (some ⟨A, 0, none⟩) (n + 1) (n + 1), l ++ [77]), (.slice sR1 nR kR1, S.ram), (.slice sO1 nO kO1, S.rom)] (y5.drewN nq)) := K5.out.below (below_drewN (Below.refl _ y5))
  generalize (y5.drewN nq) = y6 at K6' ⊢
  have K6 : Hid (Ry w [(b1, M1)] [(.slice (some ⟨A, 0, none⟩) (n + 1) (n + 1), l ++ [77]), (.slice sR1 nR kR1, S.ram), (.slice sO1 nO kO1, S.rom)] y6 ∧ (l ++ [77]).length = n + 1) := ⟨K6'.out, by rw [List.length_append, nn.out.1]; rfl⟩
  clear cv1 cv2 k0 K5 K6' ix sl1
  go_wp2
  go_loopw [6] (fun t wz => ∃ (i : Nat) (x : List UInt8) (u : World), u = wz ∧ i ≤ n + 1 ∧ t = .int .i64 (i : Int) ∧ Hid (Ry w [(b1, M1)] [(.slice (some ⟨A, 0, none⟩) (n + 1) (n + 1), x), (.slice sR1 nR kR1, S.ram), (.slice sO1 nO kO1, S.rom)] u ∧ x.length = n + 1)) (fun t _ => (n + 1 - intOf t).toNat)
  case atStart => exact ⟨0, _, y6, rfl, Nat.zero_le _, rfl, K6⟩
  case round =>
    obtain ⟨i, x, u, rfl, hi, rfl, K⟩ := hrel
    clear K6
    by_cases hlt : i < n + 1
    · have hki : (i : Int) < (n : Int) + 1 := by omega
      have hlt' : Hid (i < n + 1) := hlt
      have ix := fun v => idxB .i64 A 0 (n + 1) (n + 1) i v hlt
      simp only [Nat.zero_add] at ix
      obtain ⟨H, ⟨x0, k0⟩, z0⟩ := K.out.1.set 0 A (n + 1) (n + 1) x rfl i (by have := K.out.2; omega) 78
      have H' : Hid (Ry w [(b1, M1)] [(.slice (some ⟨A, 0, none⟩) (n + 1) (n + 1), x.set i 78), (.slice sR1 nR kR1, S.ram), (.slice sO1 nO kO1, S.rom)] (u.setCell ⟨A, i, none⟩ (.int .u8 78)) ∧ (x.set i 78).length = n + 1) := ⟨H, by rw [List.length_set]; exact K.out.2⟩
      clear hi hlt H K
      go_wp2
      go_roundw
      case rel => exact ⟨i + 1, _, _, rfl, hlt'.out, by simp, H'⟩
      case measure => have := hlt'.out; simp [intOf]; omega
    · have hie : i = n + 1 := by omega
      subst i
      clear hi hlt
      have K7 : Hid (Ry w [(b1, M1)] [(.slice (some ⟨A, 0, none⟩) (n + 1) (n + 1), x), (.slice sR1 nR kR1, S.ram), (.slice sO1 nO kO1, S.rom)] u) := K.out.1
      clear K
      go_upto_region 14 with (first
        | (go_at_call 11; refine (hL.out u sp cap K7.out.low (hl.out.below K7.out.low) hcap'.out).mono ?_; rintro e y7 ⟨M2, sR2, kR2, sO2, kO2, rfl, H⟩; have m2 : Hid (M2 = bCs S (.slice sR2 nR kR2) (.slice sO2 nO kO2) ∧ M2.size = 35 ∧ M2.all (·.oneCell') = true) := ⟨H.out.1, by rw [H.out.1]; rfl, by rw [H.out.1]; exact bCs_one _ _ _ _ _ _ _⟩; have K8 : Hid (Ry w [(b1, M1)] [(.slice (some ⟨A, 0, none⟩) (n + 1) (n + 1), x), (.slice sR1 nR kR1, S.ram), (.slice sO1 nO kO1, S.rom), (.slice sR2 nR kR2, S.ram), (.slice sO2 nO kO2, S.rom)] y7) := K7.out.two H.out.2.1 H.out.2.2.1 H.out.2.2.2.1 H.out.2.2.2.2; clear H)
        | ((with_reducible refine gen_world (y7.alloc (.cells #[.int .u16 0, .int .u16 0, .int .u16 0, .int .u16 0, .int .u16 0, .int .u16 0, .int .u16 0, .int .u16 0, .int .u16 0, .int .u16 0, .int .u16 0, .int .u16 0, .int .u16 0, .int .u16 0, .int .u16 0, .int .u16 0, .int .u8 0, .bool false, .int .u8 0, .int .u8 0, .int .u8 0, .bool false, .bool false, .int .u8 0, .int .u8 0, .int .u8 0, .int .i64 0, .int .i64 0, .bool false, .int .i64 0, .int .u8 0, .bool false, .slice none 0 0, .slice none 0 0, .int .u64 0] 34)) (fun z => Ry w [(b1, M1)] [(.slice (some ⟨A, 0, none⟩) (n + 1) (n + 1), x), (.slice sR1 nR kR1, S.ram), (.slice sO1 nO kO1, S.rom), (.slice sR2 nR kR2, S.ram), (.slice sO2 nO kO2, S.rom)] z ∧ Bx z y7.heap.size zBd 34 ∧ (∀ (i bq : Nat) (c1 : Array Value), ([(b1, M1)] : List (Nat × Array Value))[i]? = some (bq, c1) → bq < y7.heap.size) ∧ w.heap.size ≤ y7.heap.size) ?_ ?_); exact ⟨K8.out.below (below1 y7 _), one_bxL _ _ _, fun i bq c1 e => heap_lt (K8.out.bx i bq c1 e), K8.out.low.size⟩; intro y8 K9)
        | ((with_reducible refine at_st rtBd y7.heap.size zBd M2 ?_ ?_ ?_ ?_ (.tmp 7) (.tmp 68) ?_ ?_ ?_ ?_ ?_); exact K9.out.2.1; rfl; exact m2.out.2.1; exact m2.out.2.2; rfl; rfl; rfl; rfl; intro y9 h9; have N0 : Hid (Ry w [(b1, M1), (y7.heap.size, M2)] [(.slice (some ⟨A, 0, none⟩) (n + 1) (n + 1), x), (.slice sR1 nR kR1, S.ram), (.slice sO1 nO kO1, S.rom), (.slice sR2 nR kR2, S.ram), (.slice sO2 nO kO2, S.rom)] y9) := K9.out.1.put _ _ K9.out.2.2.2 K9.out.2.1 (fun i bq c1 e => Nat.ne_of_lt (K9.out.2.2.1 i bq c1 e)) _ h9.out; clear h9))
      generalize y7.heap.size = b2 at N0 ⊢
      clear K7 K8 K9
      go_upto_region 15 with (first
        | (go_at_call 12; refine (hD.out y9 sp cap N0.out.low (hl.out.below N0.out.low) hcap'.out).mono ?_; rintro e z0 ⟨M3, sR3, kR3, sO3, kO3, rfl, H⟩; have m3 : Hid (M3 = bCs S (.slice sR3 nR kR3) (.slice sO3 nO kO3) ∧ M3.size = 35 ∧ M3.all (·.oneCell') = true) := ⟨H.out.1, by rw [H.out.1]; rfl, by rw [H.out.1]; exact bCs_one _ _ _ _ _ _ _⟩; have N1 : Hid (Ry w [(b1, M1), (b2, M2)] [(.slice (some ⟨A, 0, none⟩) (n + 1) (n + 1), x), (.slice sR1 nR kR1, S.ram), (.slice sO1 nO kO1, S.rom), (.slice sR2 nR kR2, S.ram), (.slice sO2 nO kO2, S.rom), (.slice sR3 nR kR3, S.ram), (.slice sO3 nO kO3, S.rom)] z0) := N0.out.two H.out.2.1 H.out.2.2.1 H.out.2.2.2.1 H.out.2.2.2.2; clear H)
        | ((with_reducible refine gen_world (z0.alloc (.cells #[.int .u16 0, .int .u16 0, .int .u16 0, .int .u16 0, .int .u16 0, .int .u16 0, .int .u16 0, .int .u16 0, .int .u16 0, .int .u16 0, .int .u16 0, .int .u16 0, .int .u16 0, .int .u16 0, .int .u16 0, .int .u16 0, .int .u8 0, .bool false, .int .u8 0, .int .u8 0, .int .u8 0, .bool false, .bool false, .int .u8 0, .int .u8 0, .int .u8 0, .int .i64 0, .int .i64 0, .bool false, .int .i64 0, .int .u8 0, .bool false, .slice none 0 0, .slice none 0 0, .int .u64 0] 34)) (fun z => Ry w [(b1, M1), (b2, M2)] [(.slice (some ⟨A, 0, none⟩) (n + 1) (n + 1), x), (.slice sR1 nR kR1, S.ram), (.slice sO1 nO kO1, S.rom), (.slice sR2 nR kR2, S.ram), (.slice sO2 nO kO2, S.rom), (.slice sR3 nR kR3, S.ram), (.slice sO3 nO kO3, S.rom)] z ∧ Bx z z0.heap.size zBd 34 ∧ (∀ (i bq : Nat) (c1 : Array Value), ([(b1, M1), (b2, M2)] : List (Nat × Array Value))[i]? = some (bq, c1) → bq < z0.heap.size) ∧ w.heap.size ≤ z0.heap.size) ?_ ?_); exact ⟨N1.out.below (below1 z0 _), one_bxL _ _ _, fun i bq c1 e => heap_lt (N1.out.bx i bq c1 e), N1.out.low.size⟩; intro z1 N2)
        | ((with_reducible refine at_st rtBd z0.heap.size zBd M3 ?_ ?_ ?_ ?_ (.tmp 9) (.tmp 73) ?_ ?_ ?_ ?_ ?_); exact N2.out.2.1; rfl; exact m3.out.2.1; exact m3.out.2.2; rfl; rfl; rfl; rfl; intro z2 h9; have N3 : Hid (Ry w [(b1, M1), (b2, M2), (z0.heap.size, M3)] [(.slice (some ⟨A, 0, none⟩) (n + 1) (n + 1), x), (.slice sR1 nR kR1, S.ram), (.slice sO1 nO kO1, S.rom), (.slice sR2 nR kR2, S.ram), (.slice sO2 nO kO2, S.rom), (.slice sR3 nR kR3, S.ram), (.slice sO3 nO kO3, S.rom)] z2) := N2.out.1.put _ _ N2.out.2.2.2 N2.out.2.1 (fun i bq c1 e => Nat.ne_of_lt (N2.out.2.2.1 i bq c1 e)) _ h9.out; clear h9))
      generalize z0.heap.size = b3 at N3 ⊢
      clear N0 N1 N2 hL hD
      go_upto_region 18 with (first
        | ((with_reducible refine at_load rtBd b1 M1 ?_ ?_ (.tmp 4) ?_ ?_ ?_ ?_); exact N3.out.bx 0 _ _ rfl; exact m1.out.2.1; kernel_rfl; rfl; rfl)
        | ((with_reducible refine at_load rtBd b2 M2 ?_ ?_ (.tmp 7) ?_ ?_ ?_ ?_); exact N4.out.bx 1 _ _ rfl; exact m2.out.2.1; kernel_rfl; rfl; rfl)
        | ((with_reducible refine at_load rtBd b3 M3 ?_ ?_ (.tmp 9) ?_ ?_ ?_ ?_); exact N4.out.bx 2 _ _ rfl; exact m3.out.2.1; kernel_rfl; rfl; rfl)
        | ((with_reducible refine at_load rtBd b3 M3 ?_ ?_ (.tmp 9) ?_ ?_ ?_ ?_); exact N3.out.bx 2 _ _ rfl; exact m3.out.2.1; kernel_rfl; rfl; rfl)
        | (go_at_call 13; refine (hSm.out z3 M2 M3 (N4.out.bl ok.out m2.out.1 3 4 rfl rfl) (N4.out.bl ok.out m3.out.1 5 6 rfl rfl)).mono ?_; rintro e z4 ⟨rfl, H⟩; have N5 : Hid (Ry w [(b1, M1), (b2, M2), (b3, M3)] [(.slice (some ⟨A, 0, none⟩) (n + 1) (n + 1), x), (.slice sR1 nR kR1, S.ram), (.slice sO1 nO kO1, S.rom), (.slice sR2 nR kR2, S.ram), (.slice sO2 nO kO2, S.rom), (.slice sR3 nR kR3, S.ram), (.slice sO3 nO kO3, S.rom)] z4) := N4.out.below H; clear H)
        | (go_at_call 13; refine (hSm.out z2 M1 M3 (N3.out.bl ok.out m1.out.1 1 2 rfl rfl) (N3.out.bl ok.out m3.out.1 5 6 rfl rfl)).mono ?_; rintro e z3 ⟨rfl, H⟩; have N4 : Hid (Ry w [(b1, M1), (b2, M2), (b3, M3)] [(.slice (some ⟨A, 0, none⟩) (n + 1) (n + 1), x), (.slice sR1 nR kR1, S.ram), (.slice sO1 nO kO1, S.rom), (.slice sR2 nR kR2, S.ram), (.slice sO2 nO kO2, S.rom), (.slice sR3 nR kR3, S.ram), (.slice sO3 nO kO3, S.rom)] z3) := N3.out.below H; clear H))
      clear N3 N4
      have N6 : Hid (Ry w [(b1, M1), (b2, M2), (b3, M3)] [(.slice (some ⟨A, 0, none⟩) (n + 1) (n + 1), x), (.slice sR1 nR kR1, S.ram), (.slice sO1 nO kO1, S.rom), (.slice sR2 nR kR2, S.ram), (.slice sO2 nO kO2, S.rom), (.slice sR3 nR kR3, S.ram), (.slice sO3 nO kO3, S.rom)] z4 ∧ S.ram.length = nR ∧ ∀ k, k < 0 → S.ram[k]? = some 1) := ⟨N5.out, nn.out.2.1, fun k hk => absurd hk (Nat.not_lt_zero _)⟩
      have mf : Hid (M1[32]? = some (.slice sR1 nR kR1) ∧ M1[33]? = some (.slice sO1 nO kO1)) := by rw [m1.out.1]; exact ⟨rfl, rfl⟩
      clear N5
      go_loopw [11] (fun t wz => ∃ (i : Nat) (lr : List UInt8) (u : World), u = wz ∧ i ≤ nR ∧ t = .int .i64 (i : Int) ∧ Hid (Ry w [(b1, M1), (b2, M2), (b3, M3)] [(.slice (some ⟨A, 0, none⟩) (n + 1) (n + 1), x), (.slice sR1 nR kR1, lr), (.slice sO1 nO kO1, S.rom), (.slice sR2 nR kR2, S.ram), (.slice sO2 nO kO2, S.rom), (.slice sR3 nR kR3, S.ram), (.slice sO3 nO kO3, S.rom)] u ∧ lr.length = nR ∧ ∀ k, k < i → lr[k]? = some 1)) (fun t _ => (nR - intOf t).toNat)
      case atStart => exact ⟨0, _, z4, rfl, Nat.zero_le _, rfl, N6⟩
      case round =>
        obtain ⟨i, lr, u1, rfl, hi, rfl, K⟩ := hrel
        clear N6
        have c32 := (K.out.1.bx 0 _ _ rfl).c 32 _ mf.out.1
        by_cases hlt : i < nR
        · have hki : (i : Int) < (nR : Int) := by omega
          have hlt' : Hid (i < nR) := hlt
          obtain ⟨gR, hg⟩ := own_some (K.out.1.own 1 _ _ rfl) (by have := K.out.2.1; omega)
          rw [hg] at c32
          have ix := fun v => idxB .i64 gR 0 nR kR1 i v hlt
          simp only [Nat.zero_add] at ix
          obtain ⟨H, ⟨x0, k0⟩, z0⟩ := K.out.1.set 1 gR nR kR1 lr (by rw [← hg]; rfl) i (by have := K.out.2.1; omega) 1
          have H' : Hid (Ry w [(b1, M1), (b2, M2), (b3, M3)] [(.slice (some ⟨A, 0, none⟩) (n + 1) (n + 1), x), (.slice sR1 nR kR1, lr.set i 1), (.slice sO1 nO kO1, S.rom), (.slice sR2 nR kR2, S.ram), (.slice sO2 nO kO2, S.rom), (.slice sR3 nR kR3, S.ram), (.slice sO3 nO kO3, S.rom)] (u1.setCell ⟨gR, i, none⟩ (.int .u8 1)) ∧ (lr.set i 1).length = nR ∧ ∀ k, k < i + 1 → (lr.set i 1)[k]? = some 1) := ⟨by rw [← hg] at H; exact H, by rw [List.length_set]; exact K.out.2.1, set_ones K.out.2.1 hlt K.out.2.2⟩
          clear hi hlt H K hg
          go_wp2
          go_roundw
          case rel => exact ⟨i + 1, _, _, rfl, hlt'.out, by simp, H'⟩
          case measure => have := hlt'.out; simp [intOf]; omega
        · have hie : i = nR := by omega
          subst i
          clear hi hlt
          have er : lr = List.replicate (nR + 0) 1 := all_one K.out.2.1 K.out.2.2
          subst er
          have N7 : Hid (Ry w [(b1, M1), (b2, M2), (b3, M3)] [(.slice (some ⟨A, 0, none⟩) (n + 1) (n + 1), x), (.slice sR1 nR kR1, List.replicate (nR + 0) 1), (.slice sO1 nO kO1, S.rom), (.slice sR2 nR kR2, S.ram), (.slice sO2 nO kO2, S.rom), (.slice sR3 nR kR3, S.ram), (.slice sO3 nO kO3, S.rom)] u1 ∧ S.rom.length = nO ∧ ∀ k, k < 0 → S.rom[k]? = some 2) := ⟨K.out.1, nn.out.2.2.1, fun k hk => absurd hk (Nat.not_lt_zero _)⟩
          clear K
          go_wp2
          clear c32
          go_loopw [12] (fun t wz => ∃ (i : Nat) (lo : List UInt8) (u : World), u = wz ∧ i ≤ nO ∧ t = .int .i64 (i : Int) ∧ Hid (Ry w [(b1, M1), (b2, M2), (b3, M3)] [(.slice (some ⟨A, 0, none⟩) (n + 1) (n + 1), x), (.slice sR1 nR kR1, List.replicate (nR + 0) 1), (.slice sO1 nO kO1, lo), (.slice sR2 nR kR2, S.ram), (.slice sO2 nO kO2, S.rom), (.slice sR3 nR kR3, S.ram), (.slice sO3 nO kO3, S.rom)] u ∧ lo.length = nO ∧ ∀ k, k < i → lo[k]? = some 2)) (fun t _ => (nO - intOf t).toNat)
          case atStart => exact ⟨0, _, u1, rfl, Nat.zero_le _, rfl, N7⟩
          case round =>
            obtain ⟨i, lo, u2, rfl, hi, rfl, K⟩ := hrel
            clear N7
            have c33 := (K.out.1.bx 0 _ _ rfl).c 33 _ mf.out.2
            by_cases hlt : i < nO
            · have hki : (i : Int) < (nO : Int) := by omega
              have hlt' : Hid (i < nO) := hlt
              obtain ⟨gR, hg⟩ := own_some (K.out.1.own 2 _ _ rfl) (by have := K.out.2.1; omega)
              rw [hg] at c33
              have ix := fun v => idxB .i64 gR 0 nO kO1 i v hlt
              simp only [Nat.zero_add] at ix
              obtain ⟨H, ⟨x0, k0⟩, z0⟩ := K.out.1.set 2 gR nO kO1 lo (by rw [← hg]; rfl) i (by have := K.out.2.1; omega) 2
              have H' : Hid (Ry w [(b1, M1), (b2, M2), (b3, M3)] [(.slice (some ⟨A, 0, none⟩) (n + 1) (n + 1), x), (.slice sR1 nR kR1, List.replicate (nR + 0) 1), (.slice sO1 nO kO1, lo.set i 2), (.slice sR2 nR kR2, S.ram), (.slice sO2 nO kO2, S.rom), (.slice sR3 nR kR3, S.ram), (.slice sO3 nO kO3, S.rom)] (u2.setCell ⟨gR, i, none⟩ (.int .u8 2)) ∧ (lo.set i 2).length = nO ∧ ∀ k, k < i + 1 → (lo.set i 2)[k]? = some 2) := ⟨by rw [← hg] at H; exact H, by rw [List.length_set]; exact K.out.2.1, set_ones K.out.2.1 hlt K.out.2.2⟩
              clear hi hlt H K hg
              go_wp2
              go_roundw
              case rel => exact ⟨i + 1, _, _, rfl, hlt'.out, by simp, H'⟩
              case measure => have := hlt'.out; simp [intOf]; omega
            · have hie : i = nO := by omega
              subst i
              clear hi hlt
              have er : lo = List.replicate (nO + 0) 2 := all_one K.out.2.1 K.out.2.2
              subst er
              have c32 := (K.out.1.bx 0 _ _ rfl).c 32 _ mf.out.1
              have N8 : Hid (Ry w [(b1, M1), (b2, M2), (b3, M3)] [(.slice (some ⟨A, 0, none⟩) (n + 1) (n + 1), x), (.slice sR1 nR kR1, List.replicate (nR + 0) 1), (.slice sO1 nO kO1, List.replicate (nO + 0) 2), (.slice sR2 nR kR2, S.ram), (.slice sO2 nO kO2, S.rom), (.slice sR3 nR kR3, S.ram), (.slice sO3 nO kO3, S.rom)] u2) := K.out.1
              clear K
              go_wp2
              clear c32 c33
              go_loopw [13, 14, 15] (fun vr vo t wz => ∃ (k : Nat) (u : World), u = wz ∧ k ≤ 40 ∧ t = .int .i64 (k : Int) ∧ Hid (Ry w [(b1, M1), (b2, M2), (b3, M3)] [(.slice (some ⟨A, 0, none⟩) (n + 1) (n + 1), x), (vr, List.replicate (nR + k) 1), (vo, List.replicate (nO + k) 2), (.slice sR2 nR kR2, S.ram), (.slice sO2 nO kO2, S.rom), (.slice sR3 nR kR3, S.ram), (.slice sO3 nO kO3, S.rom)] u)) (fun _ _ t _ => (40 - intOf t).toNat)
              case atStart => exact ⟨0, u2, rfl, Nat.zero_le _, rfl, N8⟩
              case round =>
                obtain ⟨k, u3, rfl, hk, rfl, K⟩ := hrel
                clear N8
                by_cases hlt : k < 40
                · have hki : (k : Int) < 40 := by omega
                  have hlt' : Hid (k < 40) := hlt
                  have hl1 : Hid ((List.replicate (nR + k) 1 : List UInt8).length ≤ 100000000000 ∧ (List.replicate (nO + k) 2 : List UInt8).length ≤ 100000000000) := by rw [List.length_replicate, List.length_replicate]; exact ⟨by omega, by omega⟩
                  have e1 : Hid ((cB 1).toArray = #[.int .u8 1] ∧ (cB 2).toArray = #[.int .u8 2]) := ⟨rfl, rfl⟩
                  clear hk hlt
                  go_wp2_with (first
                    | (at_builtin; refine at_appL kByte rfl (.tmp 128) (.tmp 129) rfl w.heap.size _ (List.replicate (nO + k) 2) rfl ((N2.out.own 2 _ _ rfl).alloc _) z2.heap.size 2 rfl ?_ ?_ ?_ ?_; (rw [e1.out.2]; exact one_bxL z2 _ _); exact hl1.out.2; (have := N2.out.low.size; simp [World.size_alloc]; omega); intro v4 z4 A4; have N4 : Hid (Ry w [(b1, M1), (b2, M2), (b3, M3)] [(.slice (some ⟨A, 0, none⟩) (n + 1) (n + 1), x), (v2, List.replicate (nR + (k + 1)) 1), (v4, List.replicate (nO + (k + 1)) 2), (.slice sR2 nR kR2, S.ram), (.slice sO2 nO kO2, S.rom), (.slice sR3 nR kR3, S.ram), (.slice sO3 nO kO3, S.rom)] z4) := (by have := N2.out.add 2 _ _ rfl 2 v4 _ A4.out; rw [rep_snoc] at this; exact this); clear A4)
                    | (at_builtin; refine at_appL kByte rfl (.tmp 125) (.tmp 126) rfl w.heap.size _ (List.replicate (nR + k) 1) rfl ((K.out.own 1 _ _ rfl).alloc _) u3.heap.size 1 rfl ?_ ?_ ?_ ?_; (rw [e1.out.1]; exact one_bxL u3 _ _); exact hl1.out.1; (have := K.out.low.size; simp [World.size_alloc]; omega); intro v2 z2 A2; have N2 : Hid (Ry w [(b1, M1), (b2, M2), (b3, M3)] [(.slice (some ⟨A, 0, none⟩) (n + 1) (n + 1), x), (v2, List.replicate (nR + (k + 1)) 1), (u14, List.replicate (nO + k) 2), (.slice sR2 nR kR2, S.ram), (.slice sO2 nO kO2, S.rom), (.slice sR3 nR kR3, S.ram), (.slice sO3 nO kO3, S.rom)] z2) := (by have := K.out.add 1 _ _ rfl 1 v2 _ A2.out; rw [rep_snoc] at this; exact this); clear A2))
                  go_roundw
                  case rel => exact ⟨k + 1, _, rfl, hlt'.out, by simp, N4⟩
                  case measure => have := hlt'.out; simp [intOf]; omega
                · have hke : k = 40 := by omega
                  subst k
                  clear hk hlt
                  obtain ⟨sV, kV, hvr, _⟩ := (K.out.own 1 _ _ rfl).open kByte.len
                  obtain ⟨sW, kW, hvo, _⟩ := (K.out.own 2 _ _ rfl).open kByte.len
                  rw [List.length_replicate] at hvr hvo
                  subst hvr
                  subst hvo
                  go_wp2
                  go_loopw [16] (fun t wz => ∃ i : Nat, u3 = wz ∧ i ≤ nR + 40 ∧ t = .int .i64 (i : Int)) (fun t _ => (nR + 40 - intOf t).toNat)
                  case atStart => exact ⟨0, by first | rfl | trivial, Nat.zero_le _, rfl⟩
                  case round =>
                    obtain ⟨i, hw, hi, rfl⟩ := hrel
                    subst hw
                    by_cases hlt : i < nR + 40
                    · have hki : (i : Int) < (nR : Int) + 40 := by omega
                      have hlt' : Hid (i < nR + 40) := hlt
                      obtain ⟨gR, hg⟩ := own_some (K.out.own 1 _ _ rfl) (by rw [List.length_replicate]; omega)
                      have ix := fun v => idxB .i64 gR 0 (nR + 40) kV i v hlt
                      have k0 := (own_lies (K.out.own 1 _ _ rfl)).1
                      subst hg
                      have k1 := lb_at k0 i (by rw [List.length_replicate]; exact hlt)
                      rw [getD_rep _ _ _ hlt] at k1
                      rw [show ((1 : UInt8).toNat : Int) = 1 from rfl] at k1
                      simp only [Nat.zero_add] at ix k1
                      clear hi hlt k0
                      go_wp2
                      go_roundw
                      case rel => exact ⟨i + 1, by first | rfl | trivial, hlt'.out, by simp⟩
                      case measure => have := hlt'.out; simp [intOf]; omega
                    · have hie : i = nR + 40 := by omega
                      subst i
                      clear hi hlt
                      go_wp2
                      go_loopw [17] (fun t wz => ∃ i : Nat, u3 = wz ∧ i ≤ nO + 40 ∧ t = .int .i64 (i : Int)) (fun t _ => (nO + 40 - intOf t).toNat)
                      case atStart => exact ⟨0, by first | rfl | trivial, Nat.zero_le _, rfl⟩
                      case round =>
                        obtain ⟨i, hw, hi, rfl⟩ := hrel
                        subst hw
                        by_cases hlt : i < nO + 40
                        · have hki : (i : Int) < (nO : Int) + 40 := by omega
                          have hlt' : Hid (i < nO + 40) := hlt
                          obtain ⟨gR, hg⟩ := own_some (K.out.own 2 _ _ rfl) (by rw [List.length_replicate]; omega)
                          have ix := fun v => idxB .i64 gR 0 (nO + 40) kW i v hlt
                          have k0 := (own_lies (K.out.own 2 _ _ rfl)).1
                          subst hg
                          have k1 := lb_at k0 i (by rw [List.length_replicate]; exact hlt)
                          rw [getD_rep _ _ _ hlt] at k1
                          rw [show ((2 : UInt8).toNat : Int) = 2 from rfl] at k1
                          simp only [Nat.zero_add] at ix k1
                          clear hi hlt k0
                          go_wp2
                          go_roundw
                          case rel => exact ⟨i + 1, by first | rfl | trivial, hlt'.out, by simp⟩
                          case measure => have := hlt'.out; simp [intOf]; omega
                        · have hie : i = nO + 40 := by omega
                          subst i
                          clear hi hlt
                          go_wp2_with (first
                            | ((with_reducible refine at_load rtBd b2 M2 ?_ ?_ (.tmp 7) ?_ ?_ ?_ ?_); exact K.out.bx 1 _ _ rfl; exact m2.out.2.1; kernel_rfl; rfl; rfl)
                            | ((with_reducible refine at_load rtBd b3 M3 ?_ ?_ (.tmp 9) ?_ ?_ ?_ ?_); exact K.out.bx 2 _ _ rfl; exact m3.out.2.1; kernel_rfl; rfl; rfl)
                            | (go_at_call 10; refine (hAw.out z8 N9.out).mono ?_; rintro e z9 ⟨rfl, H⟩; have P0 : Hid (Below w.heap.size w z9) := N9.out.trans (H.mono N9.out.size); clear H)
                            | (go_at_call 13; refine (hSm.out u3 M2 M3 (K.out.bl ok.out m2.out.1 3 4 rfl rfl) (K.out.bl ok.out m3.out.1 5 6 rfl rfl)).mono ?_; rintro e z8 ⟨rfl, H⟩; have N9 : Hid (Below w.heap.size w z8) := K.out.low.trans (H.mono K.out.low.size); clear H))
                          go_ret
                          exact ⟨rfl, P0.out⟩
theorem loads_walk (w : World) (tb : Hid (Tbs w)) (sp : Option Addr) (cap : Nat) (l : List UInt8) (hl : Hid (LB w sp l)) (hcap : l.length ≤ cap) (hn : (l.length : Int) ≤ 9223372036854775807) :
    Calls Tryz.prog 4 #[.slice sp l.length cap] w fun e w' => e = .returned (.bool true) ∧ Below w.heap.size w w' := by
  by_cases h : l.length ≤ 2147483647
  · exact loads_go w tb sp cap l hl hcap h
  · exact loads_big w sp l.length cap hn (by omega)
end Go.Proofs.YtehnhjdjjalifaaGreatDoor
