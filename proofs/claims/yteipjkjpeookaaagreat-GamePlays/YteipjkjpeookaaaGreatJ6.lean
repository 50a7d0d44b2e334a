/- The document's own: bytes and machines in memory of their own. A CHIP-8 machine by itself: what an order may change, and what it hangs on. A CHIP-8 machine by itself: drawn twice; a call and the return from it. The statements' own: what the program's calls promise, and GameMay over it. -/
import Derived.Test.YteipjkjpeookaaaGreatG5
import Derived.Test.YteipjkjpeookaaaGreatJ0
namespace Go.Proofs.YteipjkjpeookaaaGreat
open Go Go.RowKit Go.Shelf
set_option linter.unusedVariables false
set_option maxHeartbeats 1000000
set_option maxRecDepth 20000

/-- A row that is made. -/
theorem mk_row {α : Type} {T t : TypeId} {s bts : Nat} {c : α → List Value} (K : KdL T t s bts c) (n : Nat) (hb : bts * n ≤ 281474976710656) (hn : n ≤ 9223372036854775807) :
    ∃ M : Array Value, M.size = n * s ∧ ∀ v, (Instr.makeSlice T (.int .i64 (n : Int)) (.int .i64 (n : Int))).run Tryz.prog v = .ok (.slice (some ⟨v.heap.size, 0, none⟩) n n) (v.alloc (.cells M t)) := by
  obtain ⟨i, z, hi, hz0, hz1, hz2, hz3⟩ := K.i
  refine ⟨madeCells z.cells (n * s), by simp [size_madeCells], fun v => ?_⟩
  have := run_make (P := Tryz.prog) v T t i z K.u hi hz0 .i64 .i64 (n : Int) (n : Int) (by omega) (Int.le_refl _) (by rw [hz2, ← Int.natCast_mul]; omega) (by omega)
  rw [hz1, Int.toNat_natCast] at this
  exact this
theorem splice_all {M : Array Value} {L : List Value} (h : L.length = M.size) : (splice M.toList 0 L).toArray = L.toArray := by
  unfold splice
  rw [List.drop_eq_nil_of_le (by simp; omega)]
  simp
/-- A block that holds a row is that row's own. -/
theorem own_row {α : Type} {t : TypeId} {s : Nat} {c : α → List Value} (hc : ∀ x, (c x).length = s) {B : Nat} {w : World} {g : Nat} {l : List α} (h : Bx w g (rowL c l).toArray t) (hB : B ≤ g) (hm : l.length ≤ maxLen) : OwnL t s c B w (.slice (some ⟨g, 0, none⟩) l.length l.length) l := by
  refine ⟨rowL_len hc l, .inr ⟨g, l.length, (rowL c l).toArray, rfl, hB, h, Nat.le_refl _, hm, ?_, ?_⟩⟩
  · simp [rowL_len hc l]
  · rw [List.take_of_length_le (by simp [rowL_len hc l])]
theorem bytes_any (w : World) (sp : Option Addr) (cap : Nat) (l : List UInt8) (hl : Hid (LB w sp l)) (hn : l.length ≤ 4000000000) :
    Calls Tryz.prog 32 #[.slice sp l.length cap] w fun e w' => e = .returned (.slice (some ⟨w.heap.size, 0, none⟩) l.length l.length) ∧ Hid (Bx w' w.heap.size (rowL cB l).toArray 5 ∧ Below w.heap.size w w') := by
  obtain ⟨n, hn'⟩ : ∃ n, l.length = n := ⟨_, rfl⟩
  obtain ⟨M, hM, hmk⟩ := mk_row kByte n (by omega) (by omega)
  have hli : (n : Int) ≤ 4000000000 := by omega
  have hnn : Hid (l.length = n) := hn'
  rw [hn']
  obtain ⟨g, hg⟩ : ∃ g, w.heap.size = g := ⟨_, rfl⟩
  have hmk' := hmk w
  rw [hg] at hmk'
  rw [hg]
  have hA : Hid ((w.alloc (.cells M 5)).heap[g]? = some (.cells M 5 (0, 0)) ∧ LB (w.alloc (.cells M 5)) sp l ∧ Below g w (w.alloc (.cells M 5))) := ⟨by rw [← hg]; exact alloc_last' w _, hl.out.below (below1 w _), by rw [← hg]; exact below1 w _⟩
  have hM' : Hid (M.size = n) := by show _ = _; omega
  clear hn hn' hmk hg hM
  go_enter Tryz.func32, Tryz.ntmps32
  go_wp2_with (refine at_copyL kByte rfl (.tmp 7) (.tmp 8) rfl g n n sp n cap rfl rfl M hA.out.1 l hnn.out (Nat.le_refl _) hA.out.2.1 ?_ g (Nat.le_refl _) ?_)
  · rw [hM'.out]; omega
  intro w1 H1
  have K1 : Hid (Bx w1 g (rowL cB l).toArray 5 ∧ Below g w w1) := by
    refine ⟨?_, hA.out.2.2.trans H1.out.2⟩
    have := H1.out.1
    rw [splice_all (by rw [rowL_len kByte.len, hnn.out, hM'.out, Nat.mul_one])] at this
    exact this
  clear H1 hA hmk'
  go_wp2
  go_ret
  exact ⟨rfl, K1⟩
/-- A machine in memory of its own. -/
structure GO (B : Nat) (w : World) (C : Array Value) (g : Gm) : Prop where
  c : ∃ vS vP vM : Value, C = gCs g.v g.i g.pc vS g.de g.so vP vM ∧ OwnL 23 1 cW B w vS g.st ∧ OwnL 5 1 cB B w vP g.pg ∧ OwnL 5 1 cB B w vM g.me ∧ (∀ q, vP.ownBlock = some q → vM.ownBlock ≠ some q)
  ok : g.Ok
theorem GO.lies {B : Nat} {w : World} {C : Array Value} {g : Gm} (h : GO B w C g) : GL w C g := by
  obtain ⟨⟨vS, vP, vM, e, h1, h2, h3, _⟩, ok⟩ := h
  obtain ⟨s1, c1, e1, l1, _⟩ := OwnL.open kWord.len h1
  obtain ⟨s2, c2, e2, l2, _⟩ := OwnL.open kByte.len h2
  obtain ⟨s3, c3, e3, l3, _⟩ := OwnL.open kByte.len h3
  exact ⟨⟨s1, s2, s3, c1, c2, c3, by rw [e, e1, e2, e3], l1, l2, l3⟩, ok⟩
theorem Fm.add {w : World} {l : List (Nat × Array Value × TypeId)} {y y' : World} (h : Fm w l y) (hb : Below y.heap.size y y') {g : Nat} {cs : Array Value} {t : TypeId} (hg : y.heap.size ≤ g) (k : Bx y' g cs t) : Fm w (l ++ [(g, cs, t)]) y' := by
  have hb' := h.below hb
  have key : ∀ (i b : Nat) (cs' : Array Value) (t' : TypeId), (l ++ [(g, cs, t)])[i]? = some (b, cs', t') → l[i]? = some (b, cs', t') ∧ i < l.length ∨ i = l.length ∧ b = g ∧ cs' = cs ∧ t' = t := by
    intro i b cs' t' e
    rcases Nat.lt_or_ge i l.length with hi | hi
    · rw [List.getElem?_append_left hi] at e
      exact .inl ⟨e, hi⟩
    · rw [List.getElem?_append_right hi] at e
      rcases Nat.eq_or_lt_of_le hi with h0 | h0
      · rw [← h0, Nat.sub_self] at e
        simp at e
        exact .inr ⟨h0.symm, e.1.symm, e.2.1.symm, e.2.2.symm⟩
      · rw [List.getElem?_eq_none (by simp; omega)] at e
        cases e
  refine ⟨fun i b cs' t' e => ?_, fun i b cs' t' e => ?_, fun i j b c1 c2 t1 t2 e1 e2 => ?_, hb'.low⟩
  · rcases key i b cs' t' e with ⟨k', _⟩ | ⟨_, rfl, rfl, rfl⟩
    · exact hb'.get i b cs' t' k'
    · exact k
  · rcases key i b cs' t' e with ⟨k', _⟩ | ⟨_, rfl, rfl, rfl⟩
    · exact h.ge i b cs' t' k'
    · exact Nat.le_trans h.low.size hg
  · rcases key i b c1 t1 e1 with ⟨k1, l1⟩ | ⟨k1, kb, _⟩ <;> rcases key j b c2 t2 e2 with ⟨k2, l2⟩ | ⟨k2, kb2, _⟩
    · exact h.ne i j b c1 c2 t1 t2 k1 k2
    · exact absurd (heap_lt (h.get i b c1 t1 k1)) (by omega)
    · exact absurd (heap_lt (h.get j b c2 t2 k2)) (by omega)
    · omega
/-- A copy that fills a block, of any rows, the empty one too. -/
theorem at_copyF {α : Type} {T t : TypeId} {s bts : Nat} {c : α → List Value} (K : KdL T t s bts c) {ops : Array Oper} {rest : List Oper} {o : Oper} {a : Act} {w : World} {Q : Exit → Act → World → Prop} (hgd : o.guard = none) (d e : Operand)
    (ho : o.op = .call { callee := .builtin .copy, args := #[d, e], argTypes := #[T, T] })
    (g dCap : Nat) (sp : Option Addr) (n sCap : Nat) (hd : a.eval d = .slice (some ⟨g, 0, none⟩) n dCap) (hs : a.eval e = .slice sp n sCap)
    (cur : Array Value) (hg : Bx w g cur t) (l : List α) (hlen : l.length = n) (hl : LiesL s c w sp l) (hfit : cur.size = n * s)
    (h : ∀ w', Hid (Bx w' g (rowL c l).toArray t ∧ (∀ B, B ≤ g → Below B w w') ∧ ∀ q, q ≠ g → w'.heap[q]? = w.heap[q]?) → wpList Tryz.prog ops Q rest (a.put o.dst (goInt n)) w') : wpList Tryz.prog ops Q (o :: rest) a w := by
  refine wpList_plain hgd fun K' hK => ?_
  by_cases h0 : n = 0
  · subst h0
    obtain rfl : l = [] := List.eq_nil_of_length_eq_zero hlen
    have hrun := run_copyL0 K w o.type (some ⟨g, 0, none⟩) sp 0 dCap sCap
    obtain rfl : cur = #[] := Array.eq_empty_of_size_eq_zero (by omega)
    unfold Oper.wp
    simp [execOp, ho, resolve, invoke, builtin, hd, hs, hrun, Result.andThen]
    exact hK _ _ (h w ⟨hg, fun B _ => Below.refl _ _, fun _ _ => rfl⟩)
  · obtain ⟨gb, ob, rfl, _⟩ := hl 0 _ (List.getElem?_eq_getElem (by omega))
    have hsrc : ∀ j v, (rowL c l)[j]? = some v → w.cell? ((⟨gb, ob, none⟩ : Addr).add j) = some v := fun j v hv => by
      rw [Addr.add_lit]
      exact LiesL.cells K.len K.s0 hl j v hv
    have hrun := run_copyL K w o.type g n dCap ⟨gb, ob, none⟩ n sCap cur (rowL c l) hg (by rw [rowL_len K.len, hlen]) (Nat.le_refl _) hsrc (by rw [rowL_len K.len, hlen]; omega) (rowL_cell K.one l)
    rw [splice_all (by rw [rowL_len K.len, hlen, hfit])] at hrun
    unfold Oper.wp
    simp [execOp, ho, resolve, invoke, builtin, hd, hs, hrun, Result.andThen]
    exact hK _ _ (h _ ⟨setRow_heap w g cur _ _ _ hg, fun B hB => below_setRow (Below.refl _ _) hB _, fun q hq => setRow_other w g q _ hq⟩)
/-- A machine of noughts. -/
def gZ : Array Value := #[.int .u8 0, .int .u8 0, .int .u8 0, .int .u8 0, .int .u8 0, .int .u8 0, .int .u8 0, .int .u8 0, .int .u8 0, .int .u8 0, .int .u8 0, .int .u8 0, .int .u8 0, .int .u8 0, .int .u8 0, .int .u8 0, .int .u16 0, .int .u16 0, .slice none 0 0, .int .u8 0, .int .u8 0, .slice none 0 0, .slice none 0 0]
theorem rtG : Rt Tryz.prog 27 23 := ⟨⟨_, Tryz.underlying27, rfl⟩, by kernel_rfl⟩
theorem copied_any (w : World) (C : Array Value) (g : Gm) (h : GL w C g) (n1 : g.st.length ≤ 4000000000) (n2 : g.pg.length ≤ 4000000000) (n3 : g.me.length ≤ 4000000000) :
    Calls Tryz.prog 25 #[.agg C] w fun e w' => ∃ C', e = .returned (.agg C') ∧ Hid (GO w.heap.size w' C' g ∧ Below w.heap.size w w') := by
  obtain ⟨⟨sS, sP, sM, cS, cP, cM, rfl, h1, h2, h3⟩, ok⟩ := h
  replace h1 : Hid (LW w sS g.st) := h1
  replace h2 : Hid (LB w sP g.pg) := h2
  replace h3 : Hid (LB w sM g.me) := h3
  obtain ⟨n, hn⟩ : ∃ x, g.st.length = x := ⟨_, rfl⟩
  obtain ⟨l1, hl1⟩ : ∃ x, g.pg.length = x := ⟨_, rfl⟩
  obtain ⟨l3, hl3⟩ : ∃ x, g.me.length = x := ⟨_, rfl⟩
  obtain ⟨gi, hgi⟩ : ∃ x, g.i = x := ⟨_, rfl⟩
  obtain ⟨gp, hgp⟩ : ∃ x, g.pc = x := ⟨_, rfl⟩
  obtain ⟨gd, hgd⟩ : ∃ x, g.de.toNat = x := ⟨_, rfl⟩
  obtain ⟨gs, hgs⟩ : ∃ x, g.so.toNat = x := ⟨_, rfl⟩
  have nn : Hid (g.st.length = n ∧ g.pg.length = l1 ∧ g.me.length = l3 ∧ g.i = gi ∧ g.pc = gp ∧ g.de.toNat = gd ∧ g.so.toNat = gs) := ⟨hn, hl1, hl3, hgi, hgp, hgd, hgs⟩
  obtain ⟨M, hM, hmk⟩ := mk_row kWord n (by omega) (by omega)
  have hM' : Hid (M.size = n * 1) := hM
  have bP := fun z (hz : Below w.heap.size w z) => bytes_any z sP cP g.pg (h2.out.below hz) n2
  have bM := fun z (hz : Below w.heap.size w z) => bytes_any z sM cM g.me (h3.out.below hz) n3
  rw [hl1] at bP
  rw [hl3] at bM
  have i1 : (n : Int) ≤ 4000000000 := by omega
  have i2 : (l1 : Int) ≤ 4000000000 := by omega
  have i3 : (l3 : Int) ≤ 4000000000 := by omega
  have ok' : Hid g.Ok := ok
  obtain ⟨CA, hCA⟩ : ∃ x, x = gCs g.v g.i g.pc (.slice sS g.st.length cS) g.de g.so (.slice sP g.pg.length cP) (.slice sM g.me.length cM) := ⟨_, rfl⟩
  have fa : Hid (CA[18]? = some (.slice sS n cS) ∧ CA[21]? = some (.slice sP l1 cP) ∧ CA[22]? = some (.slice sM l3 cM) ∧ CA.size = 23 ∧ (∀ s1 c1 s2 c2 s3 c3, (((CA.setIfInBounds 18 (.slice s1 n c1)).setIfInBounds 21 (.slice s2 l1 c2)).setIfInBounds 22 (.slice s3 l3 c3)).all (·.oneCell') = true) ∧ ∀ a b c, ((CA.setIfInBounds 18 a).setIfInBounds 21 b).setIfInBounds 22 c = gCs g.v g.i g.pc a g.de g.so b c) := by
    rw [hCA, hn, hl1, hl3]
    refine ⟨rfl, rfl, rfl, rfl, fun s1 c1 s2 c2 s3 c3 => ?_, fun _ _ _ => rfl⟩
    show (gCs g.v g.i g.pc (.slice s1 n c1) g.de g.so (.slice s2 l1 c2) (.slice s3 l3 c3)).all (·.oneCell') = true
    unfold gCs gV byV
    simp [Value.oneCell']
  obtain ⟨CZ, hCZ⟩ : ∃ x : Array Value, Hid (x = gZ) := ⟨_, (rfl : gZ = gZ)⟩
  have hCZ' : Hid (CZ.size = 23) := by show _ = _; rw [hCZ.out]; rfl
  obtain ⟨RS, hRS⟩ : ∃ x, Hid (x = (rowL cW g.st).toArray) := ⟨_, (rfl : (rowL cW g.st).toArray = (rowL cW g.st).toArray)⟩
  obtain ⟨RP, hRP⟩ : ∃ x, Hid (x = (rowL cB g.pg).toArray) := ⟨_, (rfl : (rowL cB g.pg).toArray = (rowL cB g.pg).toArray)⟩
  obtain ⟨RM, hRM⟩ : ∃ x, Hid (x = (rowL cB g.me).toArray) := ⟨_, (rfl : (rowL cB g.me).toArray = (rowL cB g.me).toArray)⟩
  rw [← hRP.out] at bP
  rw [← hRM.out] at bM
  rw [← hCA]
  clear hn hl1 hl3 hgi hgp hgd hgs n1 n2 n3 ok hM hCA
  go_enter Tryz.func25, Tryz.ntmps25
  go_wp2_with (first
    | ((with_reducible refine gen_world ((w.alloc (.cells CA 27)).alloc (.cells #[.int .u8 0, .int .u8 0, .int .u8 0, .int .u8 0, .int .u8 0, .int .u8 0, .int .u8 0, .int .u8 0, .int .u8 0, .int .u8 0, .int .u8 0, .int .u8 0, .int .u8 0, .int .u8 0, .int .u8 0, .int .u8 0, .int .u16 0, .int .u16 0, .slice none 0 0, .int .u8 0, .int .u8 0, .slice none 0 0, .slice none 0 0] 27)) (Fm w [(w.heap.size, CA, 27), (w.heap.size + 1, CZ, 27)]) ?_ ?_); (rw [hCZ.out]; unfold gZ; exact Fm.two w _ _ _ _); intro y0 K0; have c18 := (K0.out.bx 0 _ _ _ rfl).c 18 _ fa.out.1)
    | ((with_reducible refine gen_world (y0.alloc (.cells M 23)) (Fm w [(w.heap.size, CA, 27), (w.heap.size + 1, CZ, 27), (y0.heap.size, M, 23)]) ?_ ?_); exact K0.out.new _ _; intro y1 K1; have d18 := (K1.out.bx 0 _ _ _ rfl).c 18 _ fa.out.1)
    | ((with_reducible refine at_copyF kWord ?_ (.tmp 8) (.tmp 10) ?_ y0.heap.size n sS n cS ?_ ?_ M ?_ g.st ?_ ?_ ?_ ?_); rfl; rfl; rfl; rfl; exact K1.out.bx 2 _ _ _ rfl; exact nn.out.1; exact h1.out.below K1.out.low; exact hM'.out; rw [← hRS.out]; intro y2 H2; have K2 : Hid (Fm w [(w.heap.size, CA, 27), (w.heap.size + 1, CZ, 27), (y0.heap.size, RS, 23)] y2) := K1.out.put 2 _ _ _ _ rfl H2.out; have e18 := (K2.out.bx 0 _ _ _ rfl).c 18 _ fa.out.1; have g18 := (K2.out.bx 0 _ _ _ rfl).fz 18; obtain ⟨A1, hA1⟩ : ∃ x, Hid (x = CA.setIfInBounds 18 (.slice (some ⟨y0.heap.size, 0, none⟩) n n)) := ⟨_, (rfl : CA.setIfInBounds 18 (.slice (some ⟨y0.heap.size, 0, none⟩) n n) = _)⟩)
    | ((with_reducible refine gen_world (y2.setCell ⟨w.heap.size, 18, none⟩ (.slice (some ⟨y0.heap.size, 0, none⟩) n n)) (Fm w [(w.heap.size, A1, 27), (w.heap.size + 1, CZ, 27), (y0.heap.size, RS, 23)]) ?_ ?_); exact K2.out.setCell 0 _ _ _ _ rfl 18 _ hA1.out.symm; intro y3 K3; have e21 := (K3.out.bx 0 _ _ _ rfl).c 21 _ (show A1[21]? = some (.slice sP l1 cP) by rw [hA1.out, Array.getElem?_setIfInBounds_ne (by decide)]; exact fa.out.2.1))
    | (go_at_call 32; refine (bM y5 K5.out.low).mono ?_; rintro e y6 ⟨rfl, H6⟩; have K6 : Hid (Fm w [(w.heap.size, A2, 27), (w.heap.size + 1, CZ, 27), (y0.heap.size, RS, 23), (y3.heap.size, RP, 5), (y5.heap.size, RM, 5)] y6) := K5.out.add H6.out.2 (Nat.le_refl _) H6.out.1; have f22 := (K6.out.bx 0 _ _ _ rfl).c 22 _ (show A2[22]? = some (.slice sM l3 cM) by rw [hA2.out, Array.getElem?_setIfInBounds_ne (by decide), hA1.out, Array.getElem?_setIfInBounds_ne (by decide)]; exact fa.out.2.2.1); have g22 := (K6.out.bx 0 _ _ _ rfl).fz 22; obtain ⟨A3, hA3⟩ : ∃ x, Hid (x = A2.setIfInBounds 22 (.slice (some ⟨y5.heap.size, 0, none⟩) l3 l3)) := ⟨_, (rfl : A2.setIfInBounds 22 (.slice (some ⟨y5.heap.size, 0, none⟩) l3 l3) = _)⟩; have z3 : Hid (A3.size = 23 ∧ A3.all (·.oneCell') = true) := by (rw [hA3.out, hA2.out, hA1.out]; exact ⟨by simp [fa.out.2.2.2.1], fa.out.2.2.2.2.1 _ _ _ _ _ _⟩))
    | (go_at_call 32; refine (bP y3 K3.out.low).mono ?_; rintro e y4 ⟨rfl, H4⟩; have K4 : Hid (Fm w [(w.heap.size, A1, 27), (w.heap.size + 1, CZ, 27), (y0.heap.size, RS, 23), (y3.heap.size, RP, 5)] y4) := K3.out.add H4.out.2 (Nat.le_refl _) H4.out.1; have f21 := (K4.out.bx 0 _ _ _ rfl).c 21 _ (show A1[21]? = some (.slice sP l1 cP) by rw [hA1.out, Array.getElem?_setIfInBounds_ne (by decide)]; exact fa.out.2.1); have g21 := (K4.out.bx 0 _ _ _ rfl).fz 21; obtain ⟨A2, hA2⟩ : ∃ x, Hid (x = A1.setIfInBounds 21 (.slice (some ⟨y3.heap.size, 0, none⟩) l1 l1)) := ⟨_, (rfl : A1.setIfInBounds 21 (.slice (some ⟨y3.heap.size, 0, none⟩) l1 l1) = _)⟩)
    | ((with_reducible refine gen_world (y4.setCell ⟨w.heap.size, 21, none⟩ (.slice (some ⟨y3.heap.size, 0, none⟩) l1 l1)) (Fm w [(w.heap.size, A2, 27), (w.heap.size + 1, CZ, 27), (y0.heap.size, RS, 23), (y3.heap.size, RP, 5)]) ?_ ?_); exact K4.out.setCell 0 _ _ _ _ rfl 21 _ hA2.out.symm; intro y5 K5; have e22 := (K5.out.bx 0 _ _ _ rfl).c 22 _ (show A2[22]? = some (.slice sM l3 cM) by rw [hA2.out, Array.getElem?_setIfInBounds_ne (by decide), hA1.out, Array.getElem?_setIfInBounds_ne (by decide)]; exact fa.out.2.2.1))
    | ((with_reducible refine gen_world (y6.setCell ⟨w.heap.size, 22, none⟩ (.slice (some ⟨y5.heap.size, 0, none⟩) l3 l3)) (Fm w [(w.heap.size, A3, 27), (w.heap.size + 1, CZ, 27), (y0.heap.size, RS, 23), (y3.heap.size, RP, 5), (y5.heap.size, RM, 5)]) ?_ ?_); exact K6.out.setCell 0 _ _ _ _ rfl 22 _ hA3.out.symm; intro y7 K7)
    | ((with_reducible refine at_load rtG w.heap.size A3 ?_ ?_ (.tmp 1) ?_ ?_ ?_ ?_); exact K7.out.bx 0 _ _ _ rfl; exact z3.out.1; kernel_rfl; rfl; rfl)
    | ((with_reducible refine at_st rtG (w.heap.size + 1) CZ A3 ?_ ?_ ?_ ?_ (.tmp 2) (.tmp 22) ?_ ?_ ?_ ?_ ?_); exact K7.out.bx 1 _ _ _ rfl; exact hCZ'.out; exact z3.out.1; exact z3.out.2; rfl; rfl; rfl; rfl; intro y8 H8; have K8 : Hid (Fm w [(w.heap.size, A3, 27), (w.heap.size + 1, A3, 27), (y0.heap.size, RS, 23), (y3.heap.size, RP, 5), (y5.heap.size, RM, 5)] y8) := K7.out.put 1 _ _ _ _ rfl H8.out))
  refine ret_row rtG rfl rfl (K8.out.bx 1 _ _ _ rfl) z3.out.1 rfl ⟨A3, rfl, ⟨⟨⟨.slice (some ⟨y0.heap.size, 0, none⟩) n n, .slice (some ⟨y3.heap.size, 0, none⟩) l1 l1, .slice (some ⟨y5.heap.size, 0, none⟩) l3 l3, ?_, ?_, ?_, ?_, ?_⟩, ok'.out⟩, K8.out.low⟩⟩
  · rw [hA3.out, hA2.out, hA1.out]
    exact fa.out.2.2.2.2.2 _ _ _
  · have := own_row (l := g.st) kWord.len (by rw [← hRS.out]; exact K8.out.bx 2 _ _ _ rfl) (K8.out.ge 2 _ _ _ rfl) (by rw [nn.out.1]; unfold maxLen; omega)
    rwa [nn.out.1] at this
  · have := own_row (l := g.pg) kByte.len (by rw [← hRP.out]; exact K8.out.bx 3 _ _ _ rfl) (K8.out.ge 3 _ _ _ rfl) (by rw [nn.out.2.1]; unfold maxLen; omega)
    rwa [nn.out.2.1] at this
  · have := own_row (l := g.me) kByte.len (by rw [← hRM.out]; exact K8.out.bx 4 _ _ _ rfl) (K8.out.ge 4 _ _ _ rfl) (by rw [nn.out.2.2.1]; unfold maxLen; omega)
    rwa [nn.out.2.2.1] at this
  · intro q hq hq2
    have e1 : q = y3.heap.size := by simpa [Value.ownBlock] using hq.symm
    have e2 : q = y5.heap.size := by simpa [Value.ownBlock] using hq2.symm
    have := K8.out.ne 3 4 y3.heap.size RP RM _ _ rfl (by rw [← e1, e2]; rfl)
    exact absurd this (by decide)
end Go.Proofs.YteipjkjpeookaaaGreat

namespace Go.Proofs.YteipjkjpeookaaaGreat
open Go
set_option linter.unusedVariables false
set_option maxHeartbeats 1000000
set_option maxRecDepth 20000

theorem skip_pg (g : Gm) (b : Bool) : (skipG g b).pg = g.pg := by unfold skipG; split <;> rfl
theorem skip_me (g : Gm) (b : Bool) : (skipG g b).me = g.me := by unfold skipG; split <;> rfl
theorem skip_st (g : Gm) (b : Bool) : (skipG g b).st = g.st := by unfold skipG; split <;> rfl
theorem may_iff {g : Gm} : g.may = true ↔ g.pg.length = 256 ∧ g.me.length = 3232 ∧ g.st.length ≤ 12 := by simp [Gm.may]
/-- A machine that may be may be behind an order. -/
theorem do_may (g : Gm) (o : Od) (f : Fo) (d : Fd) (h : g.may = true) : (doG g o f d).1.may = true := by
  rw [may_iff] at h ⊢
  obtain ⟨h1, h2, h3⟩ := h
  unfold doG
  dsimp only
  split <;> (repeat' split) <;> first
    | exact ⟨h1, h2, h3⟩
    | (simp only [setG, skip_pg, skip_me, skip_st, draw_len, wr_len, List.length_replicate, List.length_take, List.length_append, List.length_singleton, h1, h2]; first | exact ⟨trivial, trivial, h3⟩ | (refine ⟨trivial, trivial, ?_⟩; omega))
theorem do_ret (g : Gm) (o : Od) (f : Fo) (d : Fd) (h : o.op = 3) : doG g o f d = if g.st.length = 0 then (g, 6) else ({ g with pc := g.st.getD (g.st.length - 1) 0, st := g.st.take (g.st.length - 1) }, 1) := by
  unfold doG
  simp only [h]
theorem do_call (g : Gm) (o : Od) (f : Fo) (d : Fd) (h : o.op = 5) : doG g o f d = if g.st.length = 12 then (g, 5) else ({ g with st := g.st ++ [g.pc], pc := o.a }, 1) := by
  unfold doG
  simp only [h]
theorem next_done {g : Gm} (h : (nextG g).2 = 1) : g.may = true ∧ inM g.pc = true ∧ inM (g.pc + 1) = true ∧ decB (wordG g) = true ∧ (nextG g).1 = decO (wordG g) ∧ (decO (wordG g)).op ≠ 1 := by
  unfold nextG at h ⊢
  split at h
  · rename_i h1
    split at h
    · rename_i h2
      split at h
      · rename_i h3
        split at h
        · simp at h
        · rename_i h4
          simp only [Bool.and_eq_true] at h2
          simp [h1, h2.1, h2.2, h3, h4]
      · exact absurd h (by decide)
    · exact absurd h (by decide)
  · exact absurd h (by decide)
/-- What one order tells of a machine that may be. -/
theorem step_may (g : Gm) (f : Fo) (d : Fd) (h : g.may = true) (he : (stepG g f d).2.2 = 0) : (stepG g f d).1.may = true := by
  revert he
  unfold stepG
  rw [if_pos h]
  split
  · split
    · split
      · intro _
        exact do_may _ _ _ _ h
      · exact fun _ => h
    · exact fun _ => h
  · exact fun e => absurd e (by decide)
end Go.Proofs.YteipjkjpeookaaaGreat

namespace Go.Proofs.YteipjkjpeookaaaGreat
open Go
set_option linter.unusedVariables false
set_option maxHeartbeats 1000000
set_option maxRecDepth 20000

theorem step_arg {g : Gm} {f : Fo} {d : Fd} (h : g.may = true) (hf : (fontG f && decide (d.ky ≤ 15)) = false) : stepG g f d = (gz, 0, 1) := by
  unfold stepG
  rw [if_pos h, if_neg (by rw [hf]; decide)]
theorem do_draw (g : Gm) (o : Od) (f : Fo) (d : Fd) (h : o.op = 20) : doG g o f d = match readG g f g.i o.n with
    | none => (g, 7)
    | some l => (setG { g with pg := (drawS ((g.v.getD o.x 0).toNat % 64) ((g.v.getD o.y 0).toNat % 32) l g.pg (8 * l.length)).1 } 15 (oneG (drawS ((g.v.getD o.x 0).toNat % 64) ((g.v.getD o.y 0).toNat % 32) l g.pg (8 * l.length)).2), 1) := by
  unfold doG
  simp only [h]
  cases readG g f g.i o.n <;> rfl
end Go.Proofs.YteipjkjpeookaaaGreat

namespace Go.Proofs.YteipjkjpeookaaaGreat
open Go Go.RowKit Go.Shelf
set_option linter.unusedVariables false
set_option maxHeartbeats 1000000
set_option maxRecDepth 20000

/-- A feed's cells. -/
def dCs (d : Fd) : Array Value := #[byV d.rn, .int .u16 (d.ks : Int), .int .i64 d.ky]
structure Fd.Ok (d : Fd) : Prop where
  ks : d.ks < 65536
  ky : -9223372036854775808 ≤ d.ky ∧ d.ky ≤ 9223372036854775807
/-- A font that lies in memory. -/
structure FL (w : World) (D : Array Value) (f : Fo) : Prop where
  c : ∃ (sB : Option Addr) (cB' : Nat), D = fCs f.pl f.fr (.slice sB f.by_.length cB') ∧ LB w sB f.by_
  n : f.pl.length = 16
  pl : ∀ s ∈ f.pl, s < 65536
  fr : f.fr < 65536
theorem FL.below {w y : World} {D : Array Value} {f : Fo} (h : FL w D f) (hb : Below w.heap.size w y) : FL y D f := by
  obtain ⟨⟨sB, cB', e, h1⟩, h2, h3, h4⟩ := h
  exact ⟨⟨sB, cB', e, h1.below hb⟩, h2, h3, h4⟩
theorem GO.below {B : Nat} {w y : World} {C : Array Value} {g : Gm} (h : GO B w C g) (hb : Below w.heap.size w y) : GO B y C g := by
  obtain ⟨⟨vS, vP, vM, e, h1, h2, h3, h4⟩, ok⟩ := h
  exact ⟨⟨vS, vP, vM, e, h1.below hb, h2.below hb, h3.below hb, h4⟩, ok⟩
theorem rtFn : Rt Tryz.prog 30 18 := ⟨⟨_, Tryz.underlying30, rfl⟩, by kernel_rfl⟩
theorem rtFd : Rt Tryz.prog 38 3 := ⟨⟨_, Tryz.underlying38, rfl⟩, by kernel_rfl⟩
theorem GL.size {w : World} {C : Array Value} {g : Gm} (h : GL w C g) : C.size = 23 ∧ C.all (·.oneCell') = true ∧ ∃ sp cap, C[21]? = some (.slice sp g.pg.length cap) := by
  obtain ⟨⟨sS, sP, sM, cS, cP, cM, rfl, h1, h2, h3⟩, ok⟩ := h
  refine ⟨rfl, ?_, sP, cP, rfl⟩
  unfold gCs gV byV
  simp [Value.oneCell']
theorem FL.size {w : World} {D : Array Value} {f : Fo} (h : FL w D f) : D.size = 18 := by
  obtain ⟨⟨sB, cB', rfl, h1⟩, h2, h3, h4⟩ := h
  rfl
/-- Not more than the document's bound. -/
def smaG (g : Gm) (f : Fo) : Prop := g.st.length + g.pg.length + g.me.length + f.by_.length ≤ 2147483647
theorem vast_gl (w : World) (C D : Array Value) (g : Gm) (f : Fo) (h : GL w C g) (k : FL w D f) : Calls Tryz.prog 5 #[.agg C, .agg D] w fun e w' => e = .returned (.bool (vasG g.st.length g.pg.length g.me.length f.by_.length)) ∧ Below w.heap.size w w' := by
  obtain ⟨⟨sS, sP, sM, cS, cP, cM, rfl, h1, h2, h3⟩, ok⟩ := h
  obtain ⟨⟨sB, cB', rfl, k1⟩, k2, k3, k4⟩ := k
  exact vast_any w _ _ _ _ _ _ _ _ _ _ _ _ _ _ _ _ _ _ _
end Go.Proofs.YteipjkjpeookaaaGreat
