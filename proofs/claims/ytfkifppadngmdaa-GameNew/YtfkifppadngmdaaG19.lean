/- A game that is worked on: so many bytes read, so many written. -/
import Derived.Test.YtfkifppadngmdaaG18
namespace Go.Proofs.Ytfkifppadngmdaa
open Go Go.RowKit Go.Shelf
set_option linter.unusedVariables false
set_option maxHeartbeats 1000000
set_option maxRecDepth 20000

theorem mkZ (n : Nat) (hn : n ≤ 1000000) (v : World) : (Instr.makeSlice 22 (.int .i64 (n : Int)) (.int .i64 (n : Int))).run Try.prog v = .ok (.slice (some ⟨v.heap.size, 0, none⟩) n n) (v.alloc (.cells (rowB (List.replicate n 0)) 5)) := by
  obtain ⟨i, hi, e⟩ := Option.map_eq_some_iff.1 infoBy
  injection e with e1 e2
  injection e2 with e2 e3
  have := run_make (P := Try.prog) v 22 5 i _ Try.underlying22 hi e1 .i64 .i64 (n : Int) (n : Int) (by omega) (Int.le_refl _) (by rw [e3]; omega) (by omega)
  rw [e2, Int.toNat_natCast, Nat.mul_one, show (Value.int IntKind.u8 0).cells = #[.int .u8 0] from rfl] at this
  have e4 : madeCells (#[.int .u8 0] : Array Value) n = rowB (List.replicate n 0) := by
    apply Array.ext'
    rw [toList_madeCells_one]
    unfold rowB
    simp [byV]
  rw [e4] at this
  exact this
theorem rowB_put (l : List UInt8) (k n : Nat) (x : UInt8) (hl : l.length = k) (hk : k < n) : (rowB (l ++ List.replicate (n - k) 0)).setIfInBounds k (.int .u8 (x.toNat : Int)) = rowB ((l ++ [x]) ++ List.replicate (n - (k + 1)) 0) := by
  have := rowB_set (l ++ List.replicate (n - k) 0) k x
  unfold byV at this
  rw [this]
  congr 1
  rw [show n - k = (n - (k + 1)) + 1 by omega, List.replicate_succ, List.set_append_right _ _ (by omega), hl, Nat.sub_self, List.set_cons_zero, List.append_assoc]
  rfl
theorem read_any {B : Nat} (w : World) (b : Nat) (g : Gm) (o : Od) (f : Fo) (d : Fd) (h : Hid (PB B w b g o f d)) (n : Nat) (hn : n ≤ 16) :
    Calls Try.prog 61 #[.pointer (some ⟨b, 0, none⟩), .int .i64 (n : Int)] w (RdA w (readG g f g.i n)) := by
  have hmk := mkZ n (by omega)
  have i2 : (n : Int) ≤ 16 := by omega
  have ii := h.out.ok.i
  obtain ⟨I, hI⟩ : ∃ I, g.i = I := ⟨_, rfl⟩
  rw [hI] at ii
  have hI' : Hid (g.i = I) := hI
  have i1 : (I : Int) < 65536 := by omega
  rw [hI]
  obtain ⟨Z, hZ⟩ : ∃ Z, rowB (List.replicate n 0) = Z := ⟨_, rfl⟩
  rw [hZ] at hmk
  have K0 : Hid (Bx (w.alloc (.cells Z 5)) w.heap.size (rowB ([] ++ List.replicate (n - 0) 0)) 5) := by
    show Bx _ _ _ _
    rw [List.nil_append, Nat.sub_zero, hZ]
    exact one_bxL w _ _
  have hn' : Hid (n ≤ 16 ∧ I < 65536) := ⟨hn, ii⟩
  clear hZ hI hn ii
  go_enter Try.func61, Try.ntmps61
  go_wp2
  go_loopw [14] (fun kv wz => ∃ (k : Nat) (l : List UInt8) (u : World), u = wz ∧ k ≤ n ∧ kv = .int .i64 (k : Int) ∧ Hid (readG g f I k = some l ∧ l.length = k ∧ Bx u w.heap.size (rowB (l ++ List.replicate (n - k) 0)) 5 ∧ Below w.heap.size w u)) (fun kv _ => (n - intOf kv).toNat)
  case atStart => exact ⟨0, [], _, rfl, Nat.zero_le _, rfl, ⟨rfl, rfl, K0.out, below1 _ _⟩⟩
  case round =>
    obtain ⟨k, l, u, rfl, hk, rfl, K⟩ := hrel
    by_cases hlt : k < n
    · have hki : (k : Int) < n := by omega
      have hlt' : Hid (k < n) := hlt
      have PU : Hid (PB B u b g o f d) := h.out.below K.out.2.2.2
      have ci := PU.out.ci
      rw [hI'.out] at ci
      obtain ⟨s, hs⟩ : ∃ s, I + k = s := ⟨_, rfl⟩
      have q0 : (I : Int) + (k : Int) = (s : Int) := by omega
      have i3 : (s : Int) ≤ 100000 := by have := hn'.out; omega
      have hc := byteAt_any u b g o f d PU.out s (by omega)
      have ix := fun v => idxB .i64 w.heap.size 0 n n k v hlt
      simp only [Nat.zero_add] at ix
      rcases hat : atG g f s with _ | bt
      · have fin : Hid (readG g f I n = none) := read_none (k := k) (by rw [hs]; exact hat) n hlt
        rw [hat] at hc
        have e0 : atV none = .tuple #[.int .u8 0, .bool false] := rfl
        rw [e0] at hc
        clear hat hk hlt hs e0
        go_wp2_with (go_at_call 69; refine hc.mono ?_; rintro e y1 ⟨rfl, e1⟩; subst e1)
        go_ret2
        rw [fin.out]
        exact ⟨rfl, K.out.2.2.2⟩
      · have fin : Hid (readG g f I (k + 1) = some (l ++ [bt])) := read_step K.out.1 (by rw [hs]; exact hat)
        rw [hat] at hc
        obtain ⟨Bv, hB⟩ : ∃ B, bt.toNat = B := ⟨_, rfl⟩
        have e0 : atV (some bt) = .tuple #[.int .u8 (Bv : Int), .bool true] := by show Value.tuple #[.int .u8 (bt.toNat : Int), .bool true] = _; rw [hB]
        rw [e0] at hc
        have cc := K.out.2.2.1.c k (byV ((l ++ List.replicate (n - k) 0).getD k 0)) (rowB_get _ _ (by simp [K.out.2.1]; omega))
        unfold byV at cc
        have zz := K.out.2.2.1.fz k
        have N2 : Hid (Bx (u.setCell ⟨w.heap.size, k, none⟩ (.int .u8 (Bv : Int))) w.heap.size (rowB ((l ++ [bt]) ++ List.replicate (n - (k + 1)) 0)) 5 ∧ Below w.heap.size w (u.setCell ⟨w.heap.size, k, none⟩ (.int .u8 (Bv : Int)))) := by
          refine ⟨?_, K.out.2.2.2.trans ((Below.refl _ _).setCell (p := ⟨w.heap.size, k, none⟩) (Nat.le_refl _) _)⟩
          have := heap_setCell_same u w.heap.size k _ 5 (.int .u8 (bt.toNat : Int)) K.out.2.2.1
          rw [rowB_put l k n bt K.out.2.1 hlt, hB] at this
          exact this
        clear hat hk hlt hs e0 hB
        go_wp2_with (go_at_call 69; refine hc.mono ?_; rintro e y1 ⟨rfl, e1⟩; subst e1)
        go_roundw
        case rel => exact ⟨k + 1, l ++ [bt], _, rfl, hlt'.out, by simp, ⟨fin.out, by simp [K.out.2.1], N2.out.1, N2.out.2⟩⟩
        case measure => have := hlt'.out; simp [intOf]; omega
    · have hke : k = n := by omega
      subst hke
      clear hk hlt
      go_wp2
      go_ret2
      rw [K.out.1]
      refine ⟨_, rfl, ⟨?_, K.out.2.2.2⟩⟩
      have h1 := K.out.2.2.1
      rw [Nat.sub_self, List.replicate_zero, List.append_nil] at h1
      have := own_of_bx h1 (Nat.le_refl _) (by rw [K.out.2.1]; unfold maxLen; have := hn'.out.1; omega)
      rw [K.out.2.1] at this
      exact this
/-- A copy of bytes into a part of a block. -/
theorem at_copyO {ops : Array Oper} {rest : List Oper} {o : Oper} {a : Act} {w : World} {Q : Exit → Act → World → Prop} (hgd : o.guard = none) (d e : Operand)
    (ho : o.op = .call { callee := .builtin .copy, args := #[d, e], argTypes := #[22, 22] })
    (g off dLen dCap : Nat) (ad : Addr) (sLen sCap : Nat) (hd : a.eval d = .slice (some ⟨g, off, none⟩) dLen dCap) (hs : a.eval e = .slice (some ad) sLen sCap)
    (cur : Array Value) (t : TypeId) (hg : Bx w g cur t) (l : List UInt8) (hlen : l.length = sLen) (hle : sLen ≤ dLen) (hsrc : ∀ j v, (l.map byV)[j]? = some v → w.cell? (ad.add j) = some v) (hfit : off + sLen ≤ cur.size)
    (h : ∀ w', Hid (Bx w' g (splice cur.toList off (l.map byV)).toArray t ∧ (∀ B, B ≤ g → Below B w w') ∧ ∀ q, q ≠ g → w'.heap[q]? = w.heap[q]?) → wpList Try.prog ops Q rest (a.put o.dst (goInt sLen)) w') : wpList Try.prog ops Q (o :: rest) a w := by
  refine wpList_plain hgd fun K' hK => ?_
  have h1 : ∀ v ∈ l.map byV, v.oneCell' = true := fun v hv => by
    obtain ⟨x, _, rfl⟩ := List.mem_map.1 hv
    rfl
  have hrun := run_copy_row (P := Try.prog) w 22 22 o.type 5 g off dLen dCap ad sLen sCap cur t (l.map byV) Try.underlying22 (by kernel_rfl) hg (by rw [List.length_map, hlen]; exact (Nat.min_eq_left hle).symm) hsrc (by rw [List.length_map, hlen]; exact hfit) h1
  rw [List.length_map, hlen, List.append_assoc] at hrun
  have e0 : splice cur.toList off (l.map byV) = cur.toList.take off ++ (l.map byV ++ cur.toList.drop (off + sLen)) := by unfold splice; rw [List.length_map, hlen]
  rw [← e0] at hrun
  unfold Oper.wp
  simp [execOp, ho, resolve, invoke, builtin, hd, hs, hrun, Result.andThen]
  exact hK _ _ (h _ ⟨setRow_heap w g cur _ _ _ hg, fun B hB => below_setRow (Below.refl _ _) hB _, fun q hq => setRow_other w g q _ hq⟩)
/-- Its memory's block. -/
theorem PB.mem {B : Nat} {w : World} {b : Nat} {g : Gm} {o : Od} {f : Fo} {d : Fd} (h : PB B w b g o f d) : ∃ (gM cM : Nat) (cur : Array Value), w.cell? ⟨b, 22, none⟩ = some (.slice (some ⟨gM, 0, none⟩) 3232 cM) ∧ Bx w gM cur 5 ∧ cur.size = cM ∧ 3232 ≤ cM ∧ cM ≤ maxLen ∧ B ≤ gM ∧ cur.toList.take 3232 = g.me.map byV ∧
    ∀ (y : World) (cur' : Array Value) (m : List UInt8), Bx y gM cur' 5 → cur'.size = cM → cur'.toList.take 3232 = m.map byV → m.length = 3232 → (∀ q, q ≠ gM → y.heap[q]? = w.heap[q]?) → Below B w y → PB B y b { g with me := m } o f d := by
  have hm := may_iff.1 h.may
  obtain ⟨⟨C, vS, vP, vM, sB, cap, hx, e, h1, h2, h3, h4, h5, h6⟩, h7, h8, h9, h10, h11, h12⟩ := h
  have h3' := h3
  obtain ⟨hl, hor⟩ := h3
  rcases hor with ⟨rfl, hn0⟩ | ⟨gM, cM, cur, rfl, hbg, hg, hnc, hcm, hcs, htake⟩
  · omega
  · rw [hm.2.1] at hnc htake h4 e
    rw [Nat.mul_one] at hcs htake
    refine ⟨gM, cM, cur, hx.c 22 _ (by rw [e]; rfl), hg, hcs, hnc, hcm, hbg, by rw [htake, rowB_eq], fun y cur' m k1 k2 k3 k4 k5 k6 => ?_⟩
    have hne : ∀ q cs, Bx w q cs 54 → q ≠ gM := fun q cs k => (Bx.unlike k hg (by decide))
    refine ⟨⟨C, vS, vP, .slice (some ⟨gM, 0, none⟩) 3232 cM, sB, cap, (k5 b (hne b C hx)).trans hx, e, ?_, ?_, ?_, h4, lb_low h5 h6 k6, h6⟩, h7, ⟨h8.v, h8.i, h8.pc, h8.st⟩, ?_, h10, h11, h12⟩
    · exact h1.keepB fun q hq => k5 q (by obtain ⟨cs, k⟩ := h1.ty q hq; exact Bx.unlike k hg (by decide))
    · exact h2.keepB fun q hq => k5 q (fun eq => h4 q hq (by rw [eq]; rfl))
    · refine ⟨by rw [rowL_len kByte.len], .inr ⟨gM, cM, cur', by rw [k4], hbg, k1, by rw [k4]; exact hnc, hcm, by rw [k2, Nat.mul_one], by rw [k4, Nat.mul_one, k3, rowB_eq]⟩⟩
    · exact may_iff.2 ⟨hm.1, k4, hm.2.2⟩
theorem slB18 (g n cap k : Nat) (h : k < n) (hc : n ≤ cap) (v : World) : (Instr.sliceAt 22 (.slice (some ⟨g, 0, none⟩) n cap) (some (.int .i64 (k : Int))) none none).run Try.prog v = .ok (.slice (some ⟨g, k, none⟩) (n - k) (cap - k)) v := by
  have hu : Try.prog.underlying 22 = some (.slice (Try.prog.elem 22)) := by kernel_rfl
  rw [run_sliceAt_slice v _ _ _ _ _ hu, run_slice_l v _ _ _ _ hu .i64 (k : Int) (by omega) (by omega)]
  have hz : ∀ v, (sizeOf (Try.prog.elem 22)).run Try.prog v = .ok 1 v := fun v => by kernel_rfl
  rw [hz]
  simp only [Result.andThen_ok, sliced, Int.toNat_natCast]
  rw [if_neg (by omega)]
  simp [Addr.add_lit]
theorem at_sl {ops : Array Oper} {rest : List Oper} {o : Oper} {a : Act} {w : World} {Q : Exit → Act → World → Prop} (t : TypeId) (x lo : Operand) (X L v : Value) (hg : Region.wanted o (yielded ops a.tmps) = true) (ho : o.op = .slice t x (some lo) none none) (hx : a.eval x = X) (hl : a.eval lo = L)
    (h : ∀ w, (Instr.sliceAt t X (some L) none none).run Try.prog w = .ok v w) (k : wpList Try.prog ops Q rest (a.put o.dst v) w) : wpList Try.prog ops Q (o :: rest) a w := by
  refine at_op v hg ?_ k
  unfold execOp
  simp only [ho, hx, hl, Option.map_some, Option.map_none, Sem.run_bind, h, Result.andThen_ok, Sem.run_pure]
theorem wr_map (m : List UInt8) (k : Nat) (l : List UInt8) (hk : k + l.length ≤ m.length) : (wr m k l l.length).map byV = splice (m.map byV) k (l.map byV) := by
  rw [wr_all m k l l.length (Nat.le_refl _) hk]
  unfold splice
  simp [List.map_take, List.map_drop]
theorem wr_take (m : List UInt8) (k : Nat) (l : List UInt8) (j : Nat) (hj : j ≤ l.length) (hk : k + j ≤ m.length) : wr m k l j = wr m k (l.take j) j := by
  rw [wr_all m k l j hj hk, wr_all m k (l.take j) j (by simp; omega) hk, List.take_take, Nat.min_self]
theorem write_any {B : Nat} (w : World) (b : Nat) (g : Gm) (o : Od) (f : Fo) (d : Fd) (h : PB B w b g o f d) (ad : Addr) (l : List UInt8) (cap n : Nat) (hn : l.length = n) (h1 : 1 ≤ n) (h16 : n ≤ 16) (hsrc : Hid (∀ j v, (l.map byV)[j]? = some v → w.cell? (ad.add j) = some v)) :
    Calls Try.prog 66 #[.pointer (some ⟨b, 0, none⟩), .slice (some ad) n cap] w fun e w' => e = .returned (.bool (fitG g.i n)) ∧ Hid (Below B w w' ∧ (fitG g.i n = true → PB B w' b { g with me := wr g.me (g.i - 512) l n } o f d)) := by
  have hm := may_iff.1 h.may
  have k1 := places_any w g.i n h.ok.i h1 (by omega)
  obtain ⟨gM, cM, cur, c22, hX, hcs, hcM, hmx, hBg, htk, hput⟩ := h.mem
  have ci := h.ci
  have ii := h.ok.i
  obtain ⟨R, hR⟩ : ∃ R, { g with me := wr g.me (g.i - 512) l n } = R := ⟨_, rfl⟩
  rw [hR]
  obtain ⟨I, hI⟩ : ∃ I, g.i = I := ⟨_, rfl⟩
  rw [hI] at k1 ci ii
  rw [hI]
  rcases hf : fitG I n with _ | _
  · rw [hf, if_neg (by decide)] at k1
    clear hX hcs hcM hmx hBg htk hput hm hf hI h hn h16 hsrc hR
    go_enter Try.func66, Try.ntmps66
    go_wp2_with (go_at_call 17; refine k1.mono ?_; rintro e y1 ⟨rfl, e1⟩; subst e1)
    go_ret
    exact ⟨rfl, Below.refl _ _, fun e => by cases e⟩
  · have hf2 : 512 ≤ I ∧ I + n ≤ 3744 := by unfold fitG at hf; simpa using hf
    rw [hf, if_pos rfl] at k1
    obtain ⟨k, hk⟩ : ∃ k, I - 512 = k := ⟨_, rfl⟩
    rw [hk] at k1
    have hkn : k + n ≤ 3232 := by omega
    have i1 : (k : Int) ≤ 3232 := by omega
    have i2 : (3232 : Int) ≤ (cM : Int) := by omega
    have i4 : (cM : Int) ≤ 9223372036854775807 := by unfold maxLen at hmx; omega
    obtain ⟨r, hr⟩ : ∃ r, 3232 - k = r := ⟨_, rfl⟩
    have q1 : (3232 : Int) - (k : Int) = (r : Int) := by omega
    have fin : Hid (∀ y, (Bx y gM (splice cur.toList k (l.map byV)).toArray 5 ∧ (∀ B, B ≤ gM → Below B w y) ∧ ∀ q, q ≠ gM → y.heap[q]? = w.heap[q]?) → Below B w y ∧ PB B y b R o f d) := fun y hy => by
      have hR2 : R = { g with me := wr g.me k l n } := by rw [← hR, ← hk, ← hI]
      rw [hR2]
      have hb := hy.2.1 B hBg
      refine ⟨hb, hput y _ _ hy.1 ?_ ?_ (by rw [wr_len, hm.2.1]) hy.2.2 hb⟩
      · rw [List.size_toArray, length_splice _ _ _ (by rw [List.length_map, hn, Array.length_toList, hcs]; omega), Array.length_toList, hcs]
      · rw [show (splice cur.toList k (l.map byV)).toArray.toList = splice cur.toList k (l.map byV) from rfl, takeL_splice _ _ _ _ (by rw [List.length_map, hn]; omega) (by rw [Array.length_toList, hcs]; omega), htk, ← hn, wr_map _ _ _ (by rw [hm.2.1, hn]; omega)]
    have hX' : Hid (Bx w gM cur 5 ∧ l.length = n ∧ n ≤ r ∧ k + n ≤ cur.size) := ⟨hX, hn, by omega, by omega⟩
    have i5 : (n : Int) ≤ 16 := by omega
    have hsl := slB18 gM 3232 cM k (by omega) hcM
    rw [hr] at hsl
    clear hX hcs hcM hmx hBg htk hput hm hf hI h hn h16 hf2 hk hkn hr hR
    go_enter Try.func66, Try.ntmps66
    go_wp2_with (first
      | (go_at_call 17; refine k1.mono ?_; rintro e y1 ⟨rfl, e1⟩; subst e1)
      | ((with_reducible refine at_sl 22 (.tmp 23) (.tmp 24) (.slice (some ⟨gM, 0, none⟩) 3232 cM) (.int .i64 (k : Int)) (.slice (some ⟨gM, k, none⟩) r (cM - k)) ?_ ?_ ?_ ?_ hsl ?_); rfl; rfl; rfl; rfl)
      | (refine at_copyO rfl (.tmp 25) (.tmp 26) rfl gM k r (cM - k) ad n cap rfl rfl cur 5 hX'.out.1 l hX'.out.2.1 hX'.out.2.2.1 hsrc.out hX'.out.2.2.2 ?_; intro y2 K2))
    go_ret
    exact ⟨rfl, (fin.out _ K2.out).1, fun _ => (fin.out _ K2.out).2⟩
end Go.Proofs.Ytfkifppadngmdaa
