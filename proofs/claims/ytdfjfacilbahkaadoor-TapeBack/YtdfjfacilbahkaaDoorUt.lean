/- Written, read, played and heard: the statement's walk. -/
import Derived.Test.YtdfjfacilbahkaaDoorUs
import Derived.Test.YtdfjfacilbahkaaDoorUp
import Derived.Laws.AppendOwnNone
import Derived.Deep.QuietTactic
import Derived.BigQuiet
namespace Go.Proofs.YtdfjfacilbahkaaDoor
open Go Go.RowKit
set_option linter.unusedVariables false
set_option maxHeartbeats 2000000
set_option maxRecDepth 20000

section
variable {α : Type} {T t : TypeId} {s bts : Nat} {c : α → List Value}
theorem at_appX (K : KdL T t s bts c) {ops : Array Oper} {rest : List Oper} {o : Oper} {a : Act} {w : World} {Q : Exit → Act → World → Prop} (hgd : o.guard = none) (sl x : Operand)
    (ho : o.op = .call { callee := .builtin .append, args := #[sl, x], argTypes := #[T, T] }) (B : Nat) (v : Value) (l : List α) (hs : a.eval sl = v) (hown : OwnL t s c B w v l)
    (sp : Option Addr) (m cm : Nat) (us : List α) (hm : us.length = m) (hx : a.eval x = .slice sp m cm) (hu : LiesL s c w sp us) (hnil : sp = none → cm = 0) (hn : l.length + m ≤ 4000000000) (hB : B ≤ w.heap.size)
    (k : ∀ v' w', Hid (OwnL t s c B w' v' (l ++ us) ∧ Below B w w') → wpList Tryd.prog ops Q rest (a.put o.dst v') w') : wpList Tryd.prog ops Q (o :: rest) a w := by
  subst hm
  obtain ⟨i, z, hi, hz0, hz1, hz2, hz3⟩ := K.i
  cases sp with
  | none =>
    have h0 : us = [] := by
      cases us with
      | nil => rfl
      | cons a r => obtain ⟨g, o, e, _⟩ := hu 0 a rfl; cases e
    subst h0
    rw [hnil rfl] at hx
    refine wpList_append_own_none hgd sl x T ho B t i s K.u hi v l.length (rowL c l) hs hown hx ?_
    exact k v w ⟨by rw [List.append_nil]; exact hown, Below.refl _ _⟩
  | some ad =>
    have hc : ∀ j u', (rowL c us)[j]? = some u' → w.cell? (ad.add j) = some u' := fun j u' h => by
      have hj := (List.getElem?_eq_some_iff.1 h).1
      rw [rowL_len K.len] at hj
      have hpos : 0 < us.length := by
        rcases Nat.eq_zero_or_pos us.length with e | e
        · rw [e, Nat.zero_mul] at hj; omega
        · exact e
      obtain ⟨g, o, e, _⟩ := hu 0 _ (List.getElem?_eq_getElem hpos)
      cases e
      rw [Addr.add_lit]
      exact LiesL.cells K.len K.s0 hu j u' h
    refine wpList_append_own _ hgd sl x T ho B t i z s bts K.u hi hz0 hz1 hz2 hz3 K.s0 v l.length (rowL c l) hs hown ad us.length cm (rowL c us) hx (rowL_len K.len us) hc (rowL_cell K.one us) (by unfold maxLen; omega) (Nat.le_trans (Nat.mul_le_mul hn K.b0) (by decide)) hB ?_
    intro v' w' h1 h2 _
    refine k v' w' ⟨?_, Below.grown (Below.refl _ _) h2 hB (fun q hq => (hown.lt q hq).1)⟩
    unfold OwnL
    rw [rowL_app, List.length_append]
    exact h1
end
theorem writeW_facts (b : List UInt8) (m : Int) : ((writeW b m).2 ≠ 0 ∧ (writeW b m).1 = []) ∨ ((writeW b m).2 = 0 ∧ (writeW b m).1 = writeL b m.toNat ∧ 0 ≤ m ∧ m ≤ 16384 ∧ b.length ≤ 16384) := by
  unfold writeW
  split
  · exact .inl ⟨by decide, rfl⟩
  · split
    · exact .inl ⟨by decide, rfl⟩
    · exact .inr ⟨rfl, rfl, by omega, by omega, by omega⟩
theorem spansW_facts (l : List (Int × Int)) (a : At) : ((spansW l a).2 ≠ 0 ∧ (spansW l a).1 = []) ∨ ((spansW l a).2 = 0 ∧ heardW (spansW l a).1 = (l, 0)) := by
  unfold spansW
  split
  · exact .inl ⟨by decide, rfl⟩
  · split
    · exact .inl ⟨by decide, rfl⟩
    · split
      · rename_i h
        refine .inr ⟨rfl, ?_⟩
        unfold heardW
        rw [if_pos h]
        have e : rowsH (spanL l a) = playW l := by
          unfold rowsH spanL playW
          rw [List.map_flatMap]
          rfl
        rw [e, heard_spans]
      · rename_i h
        exact .inl ⟨h, rfl⟩
theorem and_low (x : Int) : 0 ≤ bits .and .i64 x 65535 ∧ bits .and .i64 x 65535 ≤ 65535 := by
  have h : (BitVec.ofInt 64 x &&& BitVec.ofInt 64 65535).toNat ≤ 65535 := by
    rw [BitVec.toNat_and]
    exact Nat.and_le_right
  show 0 ≤ IntKind.i64.wrap ((BitVec.ofInt 64 x &&& BitVec.ofInt 64 65535).toNat : Int) ∧ IntKind.i64.wrap ((BitVec.ofInt 64 x &&& BitVec.ofInt 64 65535).toNat : Int) ≤ 65535
  rw [IntKind.wrap_i64]
  omega
theorem back_walk (w : World) (T : Hid (Tq w)) (sb : Option Addr) (cb : Nat) (bs : List UInt8) (L : Int) (sw : Option Addr) (cw : Nat) (bh : List (Int × Int)) (few c0 : Int) (sa : At) (hl : Hid (LB w sb bs)) (hh : Hid (L2 w sw bh)) (hnb : sb = none → cb = 0) (hnw : sw = none → cw = 0) (hcb : bs.length ≤ cb) (hn : bs.length ≤ maxLen) (hk : bh.length ≤ maxLen) :
    Calls Tryd.prog 8 #[.agg #[.slice sb bs.length cb, .int .i64 L, .slice sw bh.length cw, .int .i64 few], .agg (spC ⟨c0, sa⟩)] w fun e w' => e = .returned (.bool true) ∧ Below w.heap.size w w' := by
  have hn : bs.length ≤ 9223372036854775807 := by unfold maxLen at hn; omega
  have hk : bh.length ≤ 9223372036854775807 := by unfold maxLen at hk; omega
  obtain ⟨n, hn'⟩ : ∃ n, bs.length = n := ⟨_, rfl⟩
  obtain ⟨k, hk'⟩ : ∃ k, bh.length = k := ⟨_, rfl⟩
  have ni : (n : Int) ≤ 9223372036854775807 := by omega
  have ki : (k : Int) ≤ 9223372036854775807 := by omega
  obtain ⟨S, hS⟩ : ∃ x, spC ⟨c0, sa⟩ = x := ⟨_, rfl⟩
  have hS1 : Hid (S.size = 10) := by rw [← hS]; exact rfl
  have F0 : Hid (Fm w [(w.heap.size, #[.slice sb n cb, .int .i64 L, .slice sw k cw, .int .i64 few], 46), (w.heap.size + 1, S, 37)] ((w.alloc (.cells #[.slice sb n cb, .int .i64 L, .slice sw k cw, .int .i64 few] 46)).alloc (.cells S 37))) := Fm.two w _ _ _ _
  have d0 := (F0.out.bx 0 _ _ _ rfl).c 0 (.slice sb n cb) rfl
  have d1 := (F0.out.bx 0 _ _ _ rfl).c 1 (.int .i64 L) rfl
  have d2 := (F0.out.bx 0 _ _ _ rfl).c 2 (.slice sw k cw) rfl
  rw [hn'] at hcb
  by_cases hb1 : 2147483647 < n
  · have q : decide ((2147483647 : Int) < n) = true := by simp; omega
    rw [hn', hk', hS]
    clear hb1 hn hn' hk hk' hS
    go_enter Tryd.func8, Tryd.ntmps8
    go_wp2
    go_ret
    exact ⟨rfl, F0.out.low⟩
  have q : decide ((2147483647 : Int) < n) = false := by simp; omega
  by_cases hb2 : 2147483647 < k
  · have q2 : decide ((2147483647 : Int) < k) = true := by simp; omega
    rw [hn', hk', hS]
    clear hb1 hb2 hn hn' hk hk' hS
    go_enter Tryd.func8, Tryd.ntmps8
    go_wp2
    go_ret
    exact ⟨rfl, F0.out.low⟩
  have q2 : decide ((2147483647 : Int) < k) = false := by simp; omega
  obtain ⟨y0, hy0⟩ : ∃ x, (w.alloc (.cells #[.slice sb n cb, .int .i64 L, .slice sw k cw, .int .i64 few] 46)).alloc (.cells S 37) = x := ⟨_, rfl⟩
  have F1 : Hid (Fm w [(w.heap.size, #[.slice sb n cb, .int .i64 L, .slice sw k cw, .int .i64 few], 46), (w.heap.size + 1, S, 37)] y0) := by have := F0; rw [hy0] at this; exact this
  have Tq0 : Hid (Tq y0) := T.out.below F1.out.low
  have hl0 : Hid (LB y0 sb bs) := hl.out.below F1.out.low
  have hh0 : Hid (L2 y0 sw bh) := hh.out.below F1.out.low
  have hWr : Hid (Calls Tryd.prog 10 #[.slice sb n cb, .int .i64 L] ((w.alloc (.cells #[.slice sb n cb, .int .i64 L, .slice sw k cw, .int .i64 few] 46)).alloc (.cells S 37)) fun e w' => ∃ v, e = .returned (.tuple #[v, .int .i64 (writeW bs L).2]) ∧ Hid (KL 49 2 c2 y0 v (writeW bs L).1 w')) := by
    have := pwrite_any y0 sb cb bs L hl0 (by omega)
    rw [hn'] at this
    rw [hy0]
    exact this
  have hf := writeW_facts bs L
  obtain ⟨⟨WL, E⟩, hWL⟩ : ∃ x, writeW bs L = x := ⟨_, rfl⟩
  rw [hWL] at hWr hf
  dsimp only at hWr hf
  rcases hf with ⟨hE, rfl⟩ | ⟨rfl, hW, hL0, hL1, hn16⟩
  · have qE : (E == 0) = false := by simpa using hE
    rw [hn', hk', hS]
    clear hb1 hb2 hn hn' hk hk' hS hy0 hWL hE
    go_enter Tryd.func8, Tryd.ntmps8
    go_wp2_with (go_at_call 10; refine hWr.out.mono ?_; rintro e y1 ⟨va, rfl, H1⟩; refine stopAt ?_)
    obtain ⟨p1, k1, rfl, -⟩ := H1.out.own.open kWave.len
    refine Stop.go ?_
    go_wp2_with (go_at_call 9; refine (awake_any y1 (Tq0.out.below H1.out.low)).mono ?_; rintro e z7 ⟨rfl, h7⟩; replace h7 : Hid _ := h7)
    go_ret
    exact ⟨by first | rfl | simp, (F1.out.low.trans (H1.out.low.mono F1.out.low.size)).trans (h7.out.mono (by have := F1.out.low.size; have := H1.out.low.size; omega))⟩
  · rw [hn'] at hn16
    obtain ⟨m1, hm1⟩ : ∃ m, WL.length = m := ⟨_, rfl⟩
    have hmI : (m1 : Int) = (n : Int) * 10 + L := by rw [← hm1, hW, writeL_len, hn']; omega
    have qm : ((m1 : Int) != (n : Int) * 10 + L) = false := by simp; omega
    have hm1' : Hid (WL.length = m1) := hm1
    obtain ⟨AL, hAL⟩ : ∃ x, WL ++ bh = x := ⟨_, rfl⟩
    obtain ⟨mA, hmA⟩ : ∃ m, AL.length = m := ⟨_, rfl⟩
    have hmA2 : mA = m1 + k := by rw [← hmA, ← hAL, List.length_append, hm1, hk']
    have n16 : (n : Int) ≤ 16384 := by omega
    obtain ⟨FW, hFW⟩ : ∃ x, bits .and .i64 few 65535 = x := ⟨_, rfl⟩
    have hFb := and_low few
    rw [hFW] at hFb
    obtain ⟨kk, hkk⟩ : ∃ kk : Nat, FW.tmod ((n : Int) + 1) = (kk : Int) := ⟨(FW.tmod ((n : Int) + 1)).toNat, by
      have h := Int.tmod_nonneg ((n : Int) + 1) hFb.1
      omega⟩
    have hkn : kk ≤ n := by
      have := Int.tmod_lt_of_pos FW (show (0 : Int) < (n : Int) + 1 by omega)
      omega
    have r1 : readW AL (kk : Int) = (bs.take kk, 0, 0) := by rw [← hAL, hW]; exact read_write bs L.toNat kk bh (by omega) (by omega)
    have r2 : readW AL (n : Int) = (bs, 0, 0) := by
      have := read_write bs L.toNat n bh (by omega) (by omega)
      rw [List.take_of_length_le (by omega)] at this
      rw [← hAL, hW]
      exact this
    have hP1 : Hid (∀ (y : World) (p : Option Addr) (c : Nat), Tq y → L2 y p AL → Calls Tryd.prog 14 #[.slice p mA c, .int .i64 (kk : Int)] y fun e w' => ∃ p' c', e = .returned (.tuple #[.slice p' kk c', .int .i64 0, .int .i64 0]) ∧ Hid (LB w' p' (bs.take kk) ∧ Below y.heap.size y w')) := fun y p c ht h => by
      have := pread_any y ht p c AL kk h (by omega)
      rw [r1, hmA] at this
      refine this.mono ?_
      rintro e w' ⟨v, rfl, H⟩
      obtain ⟨p', c', rfl, l', _⟩ := H.out.own.open kByte.len
      rw [List.length_take, hn', Nat.min_eq_left hkn]
      exact ⟨p', c', rfl, l', H.out.low⟩
    have hP2 : Hid (∀ (y : World) (p : Option Addr) (c : Nat), Tq y → L2 y p AL → Calls Tryd.prog 14 #[.slice p mA c, .int .i64 (n : Int)] y fun e w' => ∃ p' c', e = .returned (.tuple #[.slice p' n c', .int .i64 0, .int .i64 0]) ∧ Hid (LB w' p' bs ∧ Below y.heap.size y w')) := fun y p c ht h => by
      have := pread_any y ht p c AL n h (by omega)
      rw [r2, hmA] at this
      refine this.mono ?_
      rintro e w' ⟨v, rfl, H⟩
      obtain ⟨p', c', rfl, l', _⟩ := H.out.own.open kByte.len
      rw [hn']
      exact ⟨p', c', rfl, l', H.out.low⟩
    have hcv1 : Hid (∀ (y : World) (p : Option Addr) (c : Nat), LB y p (bs.take kk) → (convert 23 9 (.slice p kk c)).run Tryd.prog y = .ok (.string ⟨(bs.take kk).toArray⟩) y) := fun y p c h => by
      have := LB.conv h c
      rw [List.length_take, hn', Nat.min_eq_left hkn] at this
      exact this
    have hcv2 : Hid (∀ (y : World) (p : Option Addr) (c : Nat), LB y p bs → (convert 23 9 (.slice p n c)).run Tryd.prog y = .ok (.string ⟨bs.toArray⟩) y) := fun y p c h => by rw [← hn']; exact LB.conv h c
    obtain ⟨S1, hS1'⟩ : ∃ S : ByteArray, (⟨(bs.take kk).toArray⟩ : ByteArray) = S := ⟨_, rfl⟩
    obtain ⟨S2, hS2'⟩ : ∃ S : ByteArray, (⟨bs.toArray⟩ : ByteArray) = S := ⟨_, rfl⟩
    have hS12 : Hid (kk = n → S1 = S2) := fun e => by rw [← hS1', ← hS2', e, List.take_of_length_le (by omega)]
    rw [hS1'] at hcv1
    rw [hS2'] at hcv2
    have hmAb : Hid (AL.length = mA ∧ mA ≤ 2147700000) := ⟨hmA, by omega⟩
    have hk2 : Hid (bh.length = k ∧ WL ++ bh = AL ∧ m1 + k ≤ 2147700000) := ⟨hk', hAL, by omega⟩
    have hPS : Hid (∀ (y : World) (p : Option Addr) (c : Nat), L2 y p AL → Calls Tryd.prog 17 #[.slice p mA c, .agg S] y fun e w' => ∃ v, e = .returned (.tuple #[v, .int .i64 (spansW AL sa).2]) ∧ Hid (KL 37 10 cS y v (spansW AL sa).1 w')) := fun y p c h => by
      have := pspans_any y p c AL c0 sa h (by omega)
      rw [hmA, hS] at this
      exact this
    have hSf := spansW_facts AL sa
    have hSL := spansW_len AL sa
    obtain ⟨⟨SL, H⟩, hSLe⟩ : ∃ x, spansW AL sa = x := ⟨_, rfl⟩
    rw [hSLe] at hPS hSf hSL
    dsimp only at hPS hSf hSL
    replace hSf : Hid _ := hSf
    replace hSL : Hid (SL.length ≤ 4096) := hSL
    clear hSLe
    rw [hn', hk', hS]
    have tB : Hid (∀ y, Below y0.heap.size y0 y → Bx y w.heap.size #[.slice sb n cb, .int .i64 L, .slice sw k cw, .int .i64 few] 46 ∧ Bx y (w.heap.size + 1) S 37) := fun y hy => ⟨(hy.block _ (heap_lt (F1.out.bx 0 _ _ _ rfl))).trans (F1.out.bx 0 _ _ _ rfl), (hy.block _ (heap_lt (F1.out.bx 1 _ _ _ rfl))).trans (F1.out.bx 1 _ _ _ rfl)⟩
    have hkc : (kk : Int) ≤ cb := by omega
    have hki2 : (kk : Int) ≤ 16384 := by omega
    have hFb1 := hFb.1
    have hFb2 := hFb.2
    have hL2 : Hid (0 ≤ L ∧ L ≤ 16384) := ⟨hL0, hL1⟩
    clear hb1 hb2 hn hn' hk hk' hS hy0 hWL hW hm1 hAL hmA hmA2 r1 r2 hS1' hS2' hFb
    go_enter Tryd.func8, Tryd.ntmps8
    go_wp2_with (go_at_call 10; refine hWr.out.mono ?_; rintro e y1 ⟨va, rfl, H1⟩; refine stopAt ?_)
    obtain ⟨pa, ca, rfl, la, aa, -⟩ := H1.out.own.open kWave.len
    have hpa : pa = none → ca = 0 := fun e => by
      rcases H1.out.own.2 with ⟨h0, _⟩ | ⟨g, cap', cur, hv, _⟩
      · injection h0
      · injection hv with e1 _ _
        rw [e] at e1
        cases e1
    rw [hm1'.out]
    have la' : Hid (L2 y1 pa WL) := la
    have L1 : Hid (Below y0.heap.size y0 y1) := H1.out.low
    have c1 := (tB.out y1 L1.out).1.c 1 (.int .i64 L) rfl
    have o0 : Hid (OwnL 49 2 c2 y1.heap.size y1 (.slice none 0 0) ([] : List (Int × Int))) := OwnL.nil _ _
    clear la aa H1 d0 d1 d2
    refine Stop.go ?_
    go_wp2_with (first
      | (at_builtin; refine at_appX kWave rfl (.tmp 58) (.tmp 60) rfl y1.heap.size v2 WL rfl A2.out.1 sw k cw bh hk2.out.1 rfl ?_ hnw ?_ ?_ ?_; exact (hh0.out.below L2'.out); (have := hm1'.out; have := hk2.out.2.2; omega); exact A2.out.2.size; intro v3 y3 A3; refine stopAt ?_)
      | (at_builtin; refine at_appX kWave rfl (.tmp 55) (.tmp 56) rfl y1.heap.size (.slice none 0 0) [] rfl o0.out pa m1 ca WL hm1'.out rfl la'.out hpa ?_ (Nat.le_refl _) ?_; (have := hk2.out.2.2; simp; omega); intro v2 y2 A; have A2 : Hid (OwnL 49 2 c2 y1.heap.size y2 v2 WL ∧ Below y1.heap.size y1 y2) := A; clear A; have L2' : Hid (Below y0.heap.size y0 y2) := L1.out.trans (A2.out.2.mono L1.out.size); have c2' := (tB.out y2 L2'.out).1.c 2 (.slice sw k cw) rfl))
    have L3 : Hid (Below y0.heap.size y0 y3) := L2'.out.trans (A3.out.2.mono L1.out.size)
    have o3 := A3.out.1
    rw [hk2.out.2.1] at o3
    obtain ⟨p3, c3, rfl, l3, -⟩ := o3.open kWave.len
    rw [hmAb.out.1]
    have l3' : Hid (L2 y3 p3 AL) := l3
    have c4 := (tB.out y3 L3.out).1.c 3 (.int .i64 few) rfl
    have dnz : ((n : Int) + 1 == 0) = false := by simp; omega
    clear l3 o3 A3 A2 la' c1 c2' o0
    refine Stop.go ?_
    go_wp2_with (first
      | (go_at_call_of 14 (Value.int .i64 (n : Int)); refine (hP2.out y4 p3 c3 ((Tq0.out.below L3.out).below H4.out.2) (l3'.out.below H4.out.2)).mono ?_; rintro e y5 ⟨p5, c5, rfl, H5⟩; refine stopAt ?_)
      | (go_at_call_of 14 (Value.int .i64 (kk : Int)); refine (hP1.out y3 p3 c3 (Tq0.out.below L3.out) l3'.out).mono ?_; rintro e y4 ⟨p4, c4', rfl, H4⟩))
    have L5 : Hid (Below y0.heap.size y0 y5) := (L3.out.trans (H4.out.2.mono L3.out.size)).trans (H5.out.2.mono (by have := L3.out.size; have := H4.out.2.size; omega))
    have v1 : ∀ j, (convert 23 9 (.slice p4 kk c4')).run Tryd.prog (y5.drewN j) = .ok (.string S1) (y5.drewN j) := fun j => hcv1.out _ _ _ ((H4.out.1.below H5.out.2).below (below_drewN (Below.refl _ _)))
    have v2 : ∀ j, (convert 23 9 (.slice sb kk cb)).run Tryd.prog (y5.drewN j) = .ok (.string S1) (y5.drewN j) := fun j => hcv1.out _ _ _ ((LB.take (hl0.out.below L5.out) kk).below (below_drewN (Below.refl _ _)))
    have v3 : ∀ j, (convert 23 9 (.slice p5 n c5)).run Tryd.prog (y5.drewN j) = .ok (.string S2) (y5.drewN j) := fun j => hcv2.out _ _ _ (H5.out.1.below (below_drewN (Below.refl _ _)))
    have v4 : ∀ j, (convert 23 9 (.slice sb n cb)).run Tryd.prog (y5.drewN j) = .ok (.string S2) (y5.drewN j) := fun j => hcv2.out _ _ _ ((hl0.out.below L5.out).below (below_drewN (Below.refl _ _)))
    have l5 : Hid (L2 y5 p3 AL) := (l3'.out.below H4.out.2).below H5.out.2
    clear l3' H4 H5 c4 hWr hP1 hP2 hcv1 hcv2
    have hkcN : kk ≤ cb := by omega
    refine Stop.go ?_
    cases sb with
    | none =>
      have hc0 : cb = 0 := hnb rfl
      have hn0 : n = 0 := by omega
      have hk0 : kk = 0 := by omega
      subst hc0
      subst hn0
      subst hk0
      have hs12 := hS12.out rfl
      subst hs12
      simp only [Int.ofNat_zero]
      go_wp2
      go_quiet (fail)
      have L6 : Hid (Below y0.heap.size y0 (y5.drewN nq)) := L5.out.trans (below_drewN (Below.refl _ _))
      have l6 : Hid (L2 (y5.drewN nq) p3 AL) := l5.out.below (below_drewN (Below.refl _ _))
      generalize y5.drewN nq = z6 at L6 l6 ⊢
      clear v1 v2 v3 v4 l5 L5
      have hSp := hPS.out z6 p3 c3 l6.out
      have tb6 := (tB.out z6 L6.out).2
      replace tb6 : Hid _ := tb6
      rcases hSf.out with ⟨hH, rfl⟩ | ⟨rfl, hHe⟩
      · have qH : (H == 0) = false := by simpa using hH
        clear hH
        go_wp2_with (first
          | (go_at_call 17; refine hSp.mono ?_; rintro e y7 ⟨vs, rfl, H7⟩; refine stopAt ?_)
          | ((with_reducible refine at_load rtS (w.heap.size + 1) S ?_ ?_ (.tmp 3) ?_ ?_ ?_ ?_); exact tb6.out; exact hS1.out; kernel_rfl; rfl; rfl))
        obtain ⟨p7, c7, rfl, -⟩ := H7.out.own.open kSpan.len
        refine Stop.go ?_
        go_wp2_with (go_at_call 9; refine (awake_any y7 ((Tq0.out.below L6.out).below H7.out.low)).mono ?_; rintro e z7 ⟨rfl, h7⟩; replace h7 : Hid _ := h7)
        go_ret
        exact ⟨by first | rfl | simp, ((F1.out.low.trans (L6.out.mono F1.out.low.size)).trans (H7.out.low.mono (by have := F1.out.low.size; have := L6.out.size; omega))).trans (h7.out.mono (by have := F1.out.low.size; have := L6.out.size; have := H7.out.low.size; omega))⟩
      · go_wp2_with (first
          | (go_at_call 17; refine hSp.mono ?_; rintro e y7 ⟨vs, rfl, H7⟩; refine stopAt ?_)
          | ((with_reducible refine at_load rtS (w.heap.size + 1) S ?_ ?_ (.tmp 3) ?_ ?_ ?_ ?_); exact tb6.out; exact hS1.out; kernel_rfl; rfl; rfl))
        obtain ⟨p7, c7, rfl, l7, -⟩ := H7.out.own.open kSpan.len
        have hHd := pheard_any y7 p7 c7 SL l7 (by have := hSL.out; omega)
        rw [hHe] at hHd
        obtain ⟨mS, hmS⟩ : ∃ m, SL.length = m := ⟨_, rfl⟩
        rw [hmS] at hHd ⊢
        have L7 : Hid (Below w.heap.size w y7 ∧ L2 y7 p3 AL) := ⟨(F1.out.low.trans (L6.out.mono F1.out.low.size)).trans (H7.out.low.mono (by have := F1.out.low.size; have := L6.out.size; omega)), l6.out.below H7.out.low⟩
        clear hHe hmS l7 hSp
        refine Stop.go ?_
        go_wp2_with (go_at_call 20; refine hHd.mono ?_; rintro e y8 ⟨vh, rfl, H8⟩; refine stopAt ?_)
        obtain ⟨p8, c8, rfl, l8, -⟩ := H8.out.own.open kWave.len
        have hSm := sameW_any y8 p8 p3 c8 c3 AL AL l8 (L7.out.2.below H8.out.low) (by have := hmAb.out; omega) (by have := hmAb.out; omega)
        rw [hmAb.out.1, decide_eq_true rfl] at hSm
        rw [hmAb.out.1]
        clear l8 hHd
        refine Stop.go ?_
        go_wp2_with (first
          | (go_at_call 22; refine hSm.mono ?_; rintro e y9 ⟨rfl, h9⟩; replace h9 : Hid _ := h9)
          | (go_at_call 9; refine (awake_any y9 (((T.out.below L7.out.1).below H8.out.low).below h9.out)).mono ?_; rintro e z7 ⟨rfl, h7⟩; replace h7 : Hid _ := h7))
        go_ret
        exact ⟨by first | rfl | simp, ((L7.out.1.trans (H8.out.low.mono L7.out.1.size)).trans (h9.out.mono (by have := L7.out.1.size; have := H8.out.low.size; omega))).trans (h7.out.mono (by have := L7.out.1.size; have := H8.out.low.size; have := h9.out.size; omega))⟩
    | some ad =>
      go_wp2
      go_quiet (fail)
      have L6 : Hid (Below y0.heap.size y0 (y5.drewN nq)) := L5.out.trans (below_drewN (Below.refl _ _))
      have l6 : Hid (L2 (y5.drewN nq) p3 AL) := l5.out.below (below_drewN (Below.refl _ _))
      generalize y5.drewN nq = z6 at L6 l6 ⊢
      clear v1 v2 v3 v4 l5 L5
      have hSp := hPS.out z6 p3 c3 l6.out
      have tb6 := (tB.out z6 L6.out).2
      replace tb6 : Hid _ := tb6
      rcases hSf.out with ⟨hH, rfl⟩ | ⟨rfl, hHe⟩
      · have qH : (H == 0) = false := by simpa using hH
        clear hH
        go_wp2_with (first
          | (go_at_call 17; refine hSp.mono ?_; rintro e y7 ⟨vs, rfl, H7⟩; refine stopAt ?_)
          | ((with_reducible refine at_load rtS (w.heap.size + 1) S ?_ ?_ (.tmp 3) ?_ ?_ ?_ ?_); exact tb6.out; exact hS1.out; kernel_rfl; rfl; rfl))
        obtain ⟨p7, c7, rfl, -⟩ := H7.out.own.open kSpan.len
        refine Stop.go ?_
        go_wp2_with (go_at_call 9; refine (awake_any y7 ((Tq0.out.below L6.out).below H7.out.low)).mono ?_; rintro e z7 ⟨rfl, h7⟩; replace h7 : Hid _ := h7)
        go_ret
        exact ⟨by first | rfl | simp, ((F1.out.low.trans (L6.out.mono F1.out.low.size)).trans (H7.out.low.mono (by have := F1.out.low.size; have := L6.out.size; omega))).trans (h7.out.mono (by have := F1.out.low.size; have := L6.out.size; have := H7.out.low.size; omega))⟩
      · go_wp2_with (first
          | (go_at_call 17; refine hSp.mono ?_; rintro e y7 ⟨vs, rfl, H7⟩; refine stopAt ?_)
          | ((with_reducible refine at_load rtS (w.heap.size + 1) S ?_ ?_ (.tmp 3) ?_ ?_ ?_ ?_); exact tb6.out; exact hS1.out; kernel_rfl; rfl; rfl))
        obtain ⟨p7, c7, rfl, l7, -⟩ := H7.out.own.open kSpan.len
        have hHd := pheard_any y7 p7 c7 SL l7 (by have := hSL.out; omega)
        rw [hHe] at hHd
        obtain ⟨mS, hmS⟩ : ∃ m, SL.length = m := ⟨_, rfl⟩
        rw [hmS] at hHd ⊢
        have L7 : Hid (Below w.heap.size w y7 ∧ L2 y7 p3 AL) := ⟨(F1.out.low.trans (L6.out.mono F1.out.low.size)).trans (H7.out.low.mono (by have := F1.out.low.size; have := L6.out.size; omega)), l6.out.below H7.out.low⟩
        clear hHe hmS l7 hSp
        refine Stop.go ?_
        go_wp2_with (go_at_call 20; refine hHd.mono ?_; rintro e y8 ⟨vh, rfl, H8⟩; refine stopAt ?_)
        obtain ⟨p8, c8, rfl, l8, -⟩ := H8.out.own.open kWave.len
        have hSm := sameW_any y8 p8 p3 c8 c3 AL AL l8 (L7.out.2.below H8.out.low) (by have := hmAb.out; omega) (by have := hmAb.out; omega)
        rw [hmAb.out.1, decide_eq_true rfl] at hSm
        rw [hmAb.out.1]
        clear l8 hHd
        refine Stop.go ?_
        go_wp2_with (first
          | (go_at_call 22; refine hSm.mono ?_; rintro e y9 ⟨rfl, h9⟩; replace h9 : Hid _ := h9)
          | (go_at_call 9; refine (awake_any y9 (((T.out.below L7.out.1).below H8.out.low).below h9.out)).mono ?_; rintro e z7 ⟨rfl, h7⟩; replace h7 : Hid _ := h7))
        go_ret
        exact ⟨by first | rfl | simp, ((L7.out.1.trans (H8.out.low.mono L7.out.1.size)).trans (h9.out.mono (by have := L7.out.1.size; have := H8.out.low.size; omega))).trans (h7.out.mono (by have := L7.out.1.size; have := H8.out.low.size; have := h9.out.size; omega))⟩
end Go.Proofs.YtdfjfacilbahkaaDoor
