/- A piece's bytes, written where it lies. -/
import Derived.Test.YthbdpceobnkflaaDoorJ11
import Derived.Test.YthbdpceobnkflaaDoorJ12
namespace Go.Proofs.YthbdpceobnkflaaDoor
open Go Go.RowKit
set_option linter.unusedVariables false
set_option maxHeartbeats 3000000
set_option maxRecDepth 20000

theorem wp_copyA {o : Oper} {a : Act} {w : World} {K : Act → World → Prop} {Q : Exit → Act → World → Prop} (d e : Operand)
    (ho : o.op = .call { callee := .builtin .copy, args := #[d, e], argTypes := #[33, 33] })
    (g od dLen dCap : Nat) (sp : Option Addr) (sLen sCap : Nat) (hd : a.eval d = .slice (some ⟨g, od, none⟩) dLen dCap) (hs : a.eval e = .slice sp sLen sCap)
    (out : List UInt8) (hg : Bx w g (rU out) 5) (l : List UInt8) (hlen : l.length = sLen) (hle : sLen ≤ dLen) (hl : LB8 w sp l) (hfit : od + sLen ≤ out.length)
    (h : ∀ w', Hid (Bx w' g (rU (splice out od l)) 5 ∧ (∀ B, B ≤ g → Below B w w') ∧ ∀ q, q ≠ g → w'.heap[q]? = w.heap[q]?) → K (a.put o.dst (goInt sLen)) w') : o.wp Tryd.prog a w K Q := by
  rcases l with _ | ⟨x, r⟩
  · have h0 : sLen = 0 := hlen.symm
    subst h0
    obtain ⟨i, z, hi, hz0, hz1, hz2, hz3⟩ := kU.i
    have hrun : (Builtin.copy_ #[33, 33] o.type #[.slice (some ⟨g, od, none⟩) dLen dCap, .slice sp 0 sCap]).run Tryd.prog w = .ok (goInt 0) w := by
      cases sp <;> simp [Builtin.copy_, run_underlying kU.u, Builtin.lenOf, Builtin.firstCells, sizeOf, typeInfo, hi, loadCells, loadCellsFrom, storeCells]
    unfold Oper.wp
    simp [execOp, ho, resolve, invoke, builtin, hd, hs, hrun, Result.andThen]
    refine h w ⟨?_, fun B _ => Below.refl _ _, fun _ _ => rfl⟩
    have : splice out od ([] : List UInt8) = out := by unfold splice; simp
    rw [this]
    exact hg
  · obtain ⟨gb, ob, rfl, _⟩ := hl 0 x rfl
    have hsrc : ∀ j v, ((x :: r).map byV)[j]? = some v → w.cell? ((⟨gb, ob, none⟩ : Addr).add j) = some v := fun j v hv => by
      rw [List.getElem?_map] at hv
      rcases hj : (x :: r)[j]? with _ | b
      · rw [hj] at hv; cases hv
      · rw [hj] at hv
        cases hv
        rw [Addr.add_lit]
        exact lb_cell hl j b hj
    have hrun := run_copyO w o.type g od dLen dCap ⟨gb, ob, none⟩ sLen sCap (rU out) ((x :: r).map byV) hg (by rw [List.length_map, hlen]) hle hsrc (by rw [rU_size, List.length_map, hlen]; exact hfit) (fun v hv => by obtain ⟨b, _, rfl⟩ := List.mem_map.1 hv; rfl)
    have e1 : (splice (rU out).toList od ((x :: r).map byV)).toArray = rU (splice out od (x :: r)) := by
      unfold rU splice
      simp
    rw [e1] at hrun
    unfold Oper.wp
    simp [execOp, ho, resolve, invoke, builtin, hd, hs, hrun, Result.andThen]
    exact h _ ⟨setRow_heap w g _ _ _ _ hg, fun B hB => below_setRow (Below.refl _ _) hB _, fun q hq => setRow_other w g q _ hq⟩
theorem slFrom (g a : Nat) (h : a ≤ 65536) : ∃ od, (∀ v, (Instr.sliceAt 33 (.slice (some ⟨g, 0, none⟩) 65536 65536) (some (.int .i64 (a : Int))) none none).run Tryd.prog v = .ok (.slice (some ⟨g, od, none⟩) (65536 - a) (65536 - a)) v) ∧ (a < 65536 → od = a) ∧ od ≤ a := by
  refine ⟨if 65536 = a then 0 else a, fun v => ?_, fun h => if_neg (by omega), by split <;> omega⟩
  have hu : Tryd.prog.underlying 33 = some (.slice (Tryd.prog.elem 33)) := by kernel_rfl
  rw [run_sliceAt_slice v _ _ _ _ _ hu, run_slice_l v _ _ _ _ hu .i64 (a : Int) (by omega) (by omega)]
  have hz : ∀ v, (sizeOf (Tryd.prog.elem 33)).run Tryd.prog v = .ok 1 v := fun v => by kernel_rfl
  rw [hz]
  by_cases e : 65536 = a
  · simp only [Result.andThen_ok, sliced, Int.toNat_natCast]
    rw [if_pos e, if_pos e]
  · simp only [Result.andThen_ok, sliced, Int.toNat_natCast]
    rw [if_neg e, if_neg e]
    simp [Addr.add_lit]
/-- Bytes written into the sheet's row: all else stays. -/
structure Wr (B : Nat) (q : Nu) (s : Sh) (M : List UInt8) (vl : Value) (l : List Lp) (y z : World) : Prop where
  sh : Sht B q s M vl l z
  low : Below B y z
  by8 : ∀ g cs, g ≠ q.b → Bx y g cs 5 → Bx z g cs 5
theorem Sht.wrote {B : Nat} {q : Nu} {s : Sh} {M : List UInt8} {vl : Value} {l : List Lp} {y z z1 : World} {od : Nat} {L : List UInt8} (h : Sht B q s M vl l z) (hB : B ≤ y.heap.size) (hz : Below y.heap.size y z)
    (hw : Bx z1 q.b (rU (splice M od L)) 5 ∧ (∀ B, B ≤ q.b → Below B z z1) ∧ ∀ g, g ≠ q.b → z1.heap[g]? = z.heap[g]?) : Wr B q s (splice M od L) vl l y z1 := by
  have hb := h.b
  exact ⟨⟨h.ok, bx_other hb (by decide) hw.2.2 h.bx, bx_other hb (by decide) hw.2.2 h.u, hw.1, map_other hb hw.2.2 h.m, own_other hb (by decide) hw.2.2 h.o, h.lo⟩, (hz.mono hB).trans (hw.2.1 _ h.lo.2.2.1), fun g cs hg hb => (hw.2.2 g hg).trans (hb.below hz)⟩
/-- What fill does. -/
def FiE (B : Nat) (q : Nu) (s : Sh) (M : List UInt8) (vl : Value) (l : List Lp) (E : Int) (a : Nat) (L : List UInt8) (y : World) (e : Ending) (z : World) : Prop := e = .returned (.int .i64 E) ∧ Hid (Below B y z ∧ (E = 0 → Wr B q s (splice M a L) vl l y z))
theorem fill_label (B : Nat) (q : Nu) (s : Sh) (M : List UInt8) (hM : M.length = 65536) (vl : Value) (l : List Lp) (y : World) (h : Hid (Sht B q s M vl l y)) (a : Nat) (ha : a ≤ 65536) (n : ByteArray) (hfit : a + (([] : List UInt8)).length ≤ 65536) :
    Calls Tryd.prog 24 #[.pointer (some ⟨q.s, 0, none⟩), .agg (lpA ⟨93, .agg #[.string n], a⟩)] y (FiE B q s M vl l 0 a ([] : List UInt8) y) := by
  have K0 : Hid (Fm y [(y.heap.size, lpA ⟨93, .agg #[.string n], a⟩, 72)] (y.alloc (.cells (lpA ⟨93, .agg #[.string n], a⟩) 72))) := Fm.one y _ _
  have hTg : Hid (∀ u, Below y.heap.size y u → Calls Tryd.prog 34 #[.pointer (some ⟨q.s, 0, none⟩), .agg (lpA ⟨93, .agg #[.string n], a⟩)] u fun e z => e = .returned (.tuple #[.int .i64 0, .int .i64 0]) ∧ Below u.heap.size u z) := fun u hu => target_label q u n a
  have hBt : Hid (∀ u, Below y.heap.size y u → Calls Tryd.prog 99 #[.agg #[.string n], .int .i64 0] u (BtE u ([] : List UInt8))) := fun u hu => bytes_label u n 0
  obtain ⟨od, hs, ho1, ho2⟩ := slFrom q.b a ha
  have e9 : splice M od ([] : List UInt8) = splice M a ([] : List UInt8) := by
    by_cases h9 : a < 65536
    · rw [ho1 h9]
    · have h0 : ([] : List UInt8) = [] := List.length_eq_zero_iff.1 (by omega)
      rw [h0]
      simp [splice]
  have hfin : Hid (∀ e z, e = .returned (.int .i64 0) → Wr B q s (splice M od ([] : List UInt8)) vl l y z → FiE B q s M vl l 0 a ([] : List UInt8) y e z) := fun e z h1 h2 => ⟨h1, h2.low, fun _ => by rw [← e9]; exact h2⟩
  have hbd : Hid (od + (([] : List UInt8)).length ≤ M.length ∧ (([] : List UInt8)).length ≤ 65536 - a) := ⟨by omega, by omega⟩
  have hB : Hid (B ≤ y.heap.size) := h.out.Ble
  generalize ([] : List UInt8) = R at hBt hfin hbd ⊢
  generalize FiE B q s M vl l 0 a R y = Fin at hfin ⊢
  clear ho1 ho2 e9 hfit hM ha
  go_enter Tryd.func24, Tryd.ntmps24
  go_wp2_with (first
    | ((with_reducible refine at_load rtLp y.heap.size (lpA ⟨93, .agg #[.string n], a⟩) ?_ ?_ (.tmp 3) ?_ ?_ ?_ ?_); exact K0.out.bx 0 _ _ _ rfl; rfl; rfl; rfl; rfl)
    | (go_at_call 34; refine (hTg.out _ K0.out.low).mono ?_; rintro e z ⟨rfl, H⟩; have K1 : Hid (Fm y [(y.heap.size, lpA ⟨93, .agg #[.string n], a⟩, 72)] z) := K0.out.below H; clear H hTg))
  refine wp_region_held_drew (S := fun u => Bx u q.s (sC q s.p vl) 70 ∧ Bx u y.heap.size (lpA ⟨93, .agg #[.string n], a⟩) 72) (by kernel_rfl) ⟨h.out.bx.below (below_drew K1.out.low), (K1.out.bx 0 _ _ _ rfl).below (below_drew (Below.refl _ _))⟩ (fun hH => ?_)
  have KB : Hid (Below y.heap.size y z.drew) := below_drew K1.out.low
  clear K1
  generalize z.drew = z1 at hH KB ⊢
  refine wpAnyH_take (i := 0) (v := .pointer (some ⟨q.s, 0, none⟩)) rfl (by kernel_rfl) (by kernel_rfl) (by kernel_rfl) (fun _ _ _ h => h) (.inl ⟨by kernel_rfl, fun u hu => by go_simp⟩) hH ?_
  try simp only [Act.put, List.setIfInBounds_toArray]
  refine wpAnyH_take (i := 1) (v := .pointer (some ⟨q.s, 0, none⟩)) rfl (by kernel_rfl) (by kernel_rfl) (by kernel_rfl) (fun _ _ _ h => h) (.inl ⟨by kernel_rfl, fun u hu => by go_simp⟩) hH ?_
  try simp only [Act.put]
  refine wpAnyH_take (i := 2) (v := .pointer (some ⟨q.s, 3, none⟩)) rfl (by kernel_rfl) (by kernel_rfl) (by kernel_rfl) (fun _ _ _ h => h) (.inl ⟨by kernel_rfl, fun u hu => by go_simp⟩) hH ?_
  try simp only [Act.put]
  refine wpAnyH_take (i := 3) (v := .slice (some ⟨q.b, 0, none⟩) 65536 65536) rfl (by kernel_rfl) (by kernel_rfl) (by kernel_rfl) (fun _ _ _ h => h) (.inl ⟨by kernel_rfl, fun u hu => by have d : u.cell? ⟨q.s, 3, none⟩ = some (.slice (some ⟨q.b, 0, none⟩) 65536 65536) := hu.1.c 3 _ rfl; go_simp⟩) hH ?_
  try simp only [Act.put]
  refine wpAnyH_take (i := 4) (v := .pointer (some ⟨y.heap.size, 1, none⟩)) rfl (by kernel_rfl) (by kernel_rfl) (by kernel_rfl) (fun _ _ _ h => h) (.inl ⟨by kernel_rfl, fun u hu => by go_simp⟩) hH ?_
  try simp only [Act.put]
  refine wpAnyH_take (i := 5) (v := .int .i64 (a : Int)) rfl (by kernel_rfl) (by kernel_rfl) (by kernel_rfl) (fun _ _ _ h => h) (.inl ⟨by kernel_rfl, fun u hu => by have d : u.cell? ⟨y.heap.size, 1, none⟩ = some (.int .i64 (a : Int)) := hu.2.c 1 _ rfl; go_simp⟩) hH ?_
  try simp only [Act.put]
  refine wpAnyH_take (i := 6) (v := .slice (some ⟨q.b, od, none⟩) (65536 - a) (65536 - a)) rfl (by kernel_rfl) (by kernel_rfl) (by kernel_rfl) (fun _ _ _ h => h) (.inl ⟨by kernel_rfl, fun u hu => by have d := hs u; go_simp⟩) hH ?_
  try simp only [Act.put]
  refine wpAnyH_take (i := 7) (v := .pointer (some ⟨y.heap.size, 0, none⟩)) rfl (by kernel_rfl) (by kernel_rfl) (by kernel_rfl) (fun _ _ _ h => h) (.inl ⟨by kernel_rfl, fun u hu => by go_simp⟩) hH ?_
  try simp only [Act.put]
  refine wpAnyH_take (i := 8) (v := .iface 93 (.agg #[.string n])) rfl (by kernel_rfl) (by kernel_rfl) (by kernel_rfl) (fun _ _ _ h => h) (.inl ⟨by kernel_rfl, fun u hu => by have d : u.cell? ⟨y.heap.size, 0, none⟩ = some (.iface 93 (.agg #[.string n])) := hu.2.c 0 _ rfl; go_simp⟩) hH ?_
  try simp only [Act.put]
  refine wpAnyH_take (i := 9) (v := .int .i64 0) rfl (by kernel_rfl) (by kernel_rfl) (by kernel_rfl) (fun _ _ _ h => h) (.inl ⟨by kernel_rfl, fun u hu => by go_simp⟩) hH ?_
  try simp only [Act.put]
  refine wpAnyH_ready (rs := [10]) (by kernel_rfl) (by simp) (AllReadyH.cons rfl (fun K hK => ?_) AllReadyH.nil)
  rw [if_pos (by rfl)]
  go_wp2_with (go_at_call 99; refine (hBt.out _ KB.out).mono ?_; rintro e z2 ⟨sp2, cap2, rfl, H⟩)
  have K2 : Hid (Below y.heap.size y z2) := of_below KB.out H.out.2
  have P2 : Hid (Bx z2 y.heap.size (lpA ⟨93, .agg #[.string n], a⟩) 72) := hH.2.below H.out.2
  refine hK.out _ _ ⟨h.out.bx.below K2.out, P2.out⟩ (fun hH => ?_)
  clear hK K
  try simp only [Act.put, List.setIfInBounds_toArray, List.set_cons_zero, List.set_cons_succ]
  refine wpAnyH_ready (rs := [11]) (by kernel_rfl) (by simp) (AllReadyH.cons rfl (fun K hK => ?_) AllReadyH.nil)
  rw [if_pos (by rfl)]
  refine wp_copyA (.tmp 22) (.tmp 26) rfl q.b od (65536 - a) (65536 - a) sp2 R.length cap2 rfl rfl M (h.out.b.below K2.out) R rfl hbd.out.2 H.out.1 hbd.out.1 ?_
  intro z3 hw
  have W3 : Hid (Wr B q s (splice M od R) vl l y z3) := (h.out.below K2.out).wrote hB.out K2.out hw.out
  refine hK.out _ _ ⟨W3.out.sh.bx, bx_other (h.out.b.below K2.out) (by decide) hw.out.2.2 P2.out⟩ (fun _ => ?_)
  refine wpAnyH_done (by kernel_rfl) ?_ _
  clear hK K hw K2 H P2 hH
  go_wp2
  exact hfin.out _ _ rfl W3.out
theorem fill_move (B : Nat) (q : Nu) (s : Sh) (M : List UInt8) (hM : M.length = 65536) (vl : Value) (l : List Lp) (y : World) (h : Hid (Sht B q s M vl l y)) (a : Nat) (ha : a ≤ 65536) (n : Int) (hfit : a + (([] : List UInt8)).length ≤ 65536) :
    Calls Tryd.prog 24 #[.pointer (some ⟨q.s, 0, none⟩), .agg (lpA ⟨95, .agg #[.int .i64 n], a⟩)] y (FiE B q s M vl l 0 a ([] : List UInt8) y) := by
  have K0 : Hid (Fm y [(y.heap.size, lpA ⟨95, .agg #[.int .i64 n], a⟩, 72)] (y.alloc (.cells (lpA ⟨95, .agg #[.int .i64 n], a⟩) 72))) := Fm.one y _ _
  have hTg : Hid (∀ u, Below y.heap.size y u → Calls Tryd.prog 34 #[.pointer (some ⟨q.s, 0, none⟩), .agg (lpA ⟨95, .agg #[.int .i64 n], a⟩)] u fun e z => e = .returned (.tuple #[.int .i64 0, .int .i64 0]) ∧ Below u.heap.size u z) := fun u hu => target_move q u n a
  have hBt : Hid (∀ u, Below y.heap.size y u → Calls Tryd.prog 102 #[.agg #[.int .i64 n], .int .i64 0] u (BtE u ([] : List UInt8))) := fun u hu => bytes_move u n 0
  obtain ⟨od, hs, ho1, ho2⟩ := slFrom q.b a ha
  have e9 : splice M od ([] : List UInt8) = splice M a ([] : List UInt8) := by
    by_cases h9 : a < 65536
    · rw [ho1 h9]
    · have h0 : ([] : List UInt8) = [] := List.length_eq_zero_iff.1 (by omega)
      rw [h0]
      simp [splice]
  have hfin : Hid (∀ e z, e = .returned (.int .i64 0) → Wr B q s (splice M od ([] : List UInt8)) vl l y z → FiE B q s M vl l 0 a ([] : List UInt8) y e z) := fun e z h1 h2 => ⟨h1, h2.low, fun _ => by rw [← e9]; exact h2⟩
  have hbd : Hid (od + (([] : List UInt8)).length ≤ M.length ∧ (([] : List UInt8)).length ≤ 65536 - a) := ⟨by omega, by omega⟩
  have hB : Hid (B ≤ y.heap.size) := h.out.Ble
  generalize ([] : List UInt8) = R at hBt hfin hbd ⊢
  generalize FiE B q s M vl l 0 a R y = Fin at hfin ⊢
  clear ho1 ho2 e9 hfit hM ha
  go_enter Tryd.func24, Tryd.ntmps24
  go_wp2_with (first
    | ((with_reducible refine at_load rtLp y.heap.size (lpA ⟨95, .agg #[.int .i64 n], a⟩) ?_ ?_ (.tmp 3) ?_ ?_ ?_ ?_); exact K0.out.bx 0 _ _ _ rfl; rfl; rfl; rfl; rfl)
    | (go_at_call 34; refine (hTg.out _ K0.out.low).mono ?_; rintro e z ⟨rfl, H⟩; have K1 : Hid (Fm y [(y.heap.size, lpA ⟨95, .agg #[.int .i64 n], a⟩, 72)] z) := K0.out.below H; clear H hTg))
  refine wp_region_held_drew (S := fun u => Bx u q.s (sC q s.p vl) 70 ∧ Bx u y.heap.size (lpA ⟨95, .agg #[.int .i64 n], a⟩) 72) (by kernel_rfl) ⟨h.out.bx.below (below_drew K1.out.low), (K1.out.bx 0 _ _ _ rfl).below (below_drew (Below.refl _ _))⟩ (fun hH => ?_)
  have KB : Hid (Below y.heap.size y z.drew) := below_drew K1.out.low
  clear K1
  generalize z.drew = z1 at hH KB ⊢
  refine wpAnyH_take (i := 0) (v := .pointer (some ⟨q.s, 0, none⟩)) rfl (by kernel_rfl) (by kernel_rfl) (by kernel_rfl) (fun _ _ _ h => h) (.inl ⟨by kernel_rfl, fun u hu => by go_simp⟩) hH ?_
  try simp only [Act.put, List.setIfInBounds_toArray]
  refine wpAnyH_take (i := 1) (v := .pointer (some ⟨q.s, 0, none⟩)) rfl (by kernel_rfl) (by kernel_rfl) (by kernel_rfl) (fun _ _ _ h => h) (.inl ⟨by kernel_rfl, fun u hu => by go_simp⟩) hH ?_
  try simp only [Act.put]
  refine wpAnyH_take (i := 2) (v := .pointer (some ⟨q.s, 3, none⟩)) rfl (by kernel_rfl) (by kernel_rfl) (by kernel_rfl) (fun _ _ _ h => h) (.inl ⟨by kernel_rfl, fun u hu => by go_simp⟩) hH ?_
  try simp only [Act.put]
  refine wpAnyH_take (i := 3) (v := .slice (some ⟨q.b, 0, none⟩) 65536 65536) rfl (by kernel_rfl) (by kernel_rfl) (by kernel_rfl) (fun _ _ _ h => h) (.inl ⟨by kernel_rfl, fun u hu => by have d : u.cell? ⟨q.s, 3, none⟩ = some (.slice (some ⟨q.b, 0, none⟩) 65536 65536) := hu.1.c 3 _ rfl; go_simp⟩) hH ?_
  try simp only [Act.put]
  refine wpAnyH_take (i := 4) (v := .pointer (some ⟨y.heap.size, 1, none⟩)) rfl (by kernel_rfl) (by kernel_rfl) (by kernel_rfl) (fun _ _ _ h => h) (.inl ⟨by kernel_rfl, fun u hu => by go_simp⟩) hH ?_
  try simp only [Act.put]
  refine wpAnyH_take (i := 5) (v := .int .i64 (a : Int)) rfl (by kernel_rfl) (by kernel_rfl) (by kernel_rfl) (fun _ _ _ h => h) (.inl ⟨by kernel_rfl, fun u hu => by have d : u.cell? ⟨y.heap.size, 1, none⟩ = some (.int .i64 (a : Int)) := hu.2.c 1 _ rfl; go_simp⟩) hH ?_
  try simp only [Act.put]
  refine wpAnyH_take (i := 6) (v := .slice (some ⟨q.b, od, none⟩) (65536 - a) (65536 - a)) rfl (by kernel_rfl) (by kernel_rfl) (by kernel_rfl) (fun _ _ _ h => h) (.inl ⟨by kernel_rfl, fun u hu => by have d := hs u; go_simp⟩) hH ?_
  try simp only [Act.put]
  refine wpAnyH_take (i := 7) (v := .pointer (some ⟨y.heap.size, 0, none⟩)) rfl (by kernel_rfl) (by kernel_rfl) (by kernel_rfl) (fun _ _ _ h => h) (.inl ⟨by kernel_rfl, fun u hu => by go_simp⟩) hH ?_
  try simp only [Act.put]
  refine wpAnyH_take (i := 8) (v := .iface 95 (.agg #[.int .i64 n])) rfl (by kernel_rfl) (by kernel_rfl) (by kernel_rfl) (fun _ _ _ h => h) (.inl ⟨by kernel_rfl, fun u hu => by have d : u.cell? ⟨y.heap.size, 0, none⟩ = some (.iface 95 (.agg #[.int .i64 n])) := hu.2.c 0 _ rfl; go_simp⟩) hH ?_
  try simp only [Act.put]
  refine wpAnyH_take (i := 9) (v := .int .i64 0) rfl (by kernel_rfl) (by kernel_rfl) (by kernel_rfl) (fun _ _ _ h => h) (.inl ⟨by kernel_rfl, fun u hu => by go_simp⟩) hH ?_
  try simp only [Act.put]
  refine wpAnyH_ready (rs := [10]) (by kernel_rfl) (by simp) (AllReadyH.cons rfl (fun K hK => ?_) AllReadyH.nil)
  rw [if_pos (by rfl)]
  go_wp2_with (go_at_call 102; refine (hBt.out _ KB.out).mono ?_; rintro e z2 ⟨sp2, cap2, rfl, H⟩)
  have K2 : Hid (Below y.heap.size y z2) := of_below KB.out H.out.2
  have P2 : Hid (Bx z2 y.heap.size (lpA ⟨95, .agg #[.int .i64 n], a⟩) 72) := hH.2.below H.out.2
  refine hK.out _ _ ⟨h.out.bx.below K2.out, P2.out⟩ (fun hH => ?_)
  clear hK K
  try simp only [Act.put, List.setIfInBounds_toArray, List.set_cons_zero, List.set_cons_succ]
  refine wpAnyH_ready (rs := [11]) (by kernel_rfl) (by simp) (AllReadyH.cons rfl (fun K hK => ?_) AllReadyH.nil)
  rw [if_pos (by rfl)]
  refine wp_copyA (.tmp 22) (.tmp 26) rfl q.b od (65536 - a) (65536 - a) sp2 R.length cap2 rfl rfl M (h.out.b.below K2.out) R rfl hbd.out.2 H.out.1 hbd.out.1 ?_
  intro z3 hw
  have W3 : Hid (Wr B q s (splice M od R) vl l y z3) := (h.out.below K2.out).wrote hB.out K2.out hw.out
  refine hK.out _ _ ⟨W3.out.sh.bx, bx_other (h.out.b.below K2.out) (by decide) hw.out.2.2 P2.out⟩ (fun _ => ?_)
  refine wpAnyH_done (by kernel_rfl) ?_ _
  clear hK K hw K2 H P2 hH
  go_wp2
  exact hfin.out _ _ rfl W3.out
theorem fill_data (B : Nat) (q : Nu) (s : Sh) (M : List UInt8) (hM : M.length = 65536) (vl : Value) (l : List Lp) (y : World) (h : Hid (Sht B q s M vl l y)) (a : Nat) (ha : a ≤ 65536) (sp : Option Addr) (m cap : Nat) (L : List UInt8) (hm : L.length = m) (hL : LB8 y sp L) (hfit : a + (L).length ≤ 65536) :
    Calls Tryd.prog 24 #[.pointer (some ⟨q.s, 0, none⟩), .agg (lpA ⟨97, .agg #[.slice sp m cap], a⟩)] y (FiE B q s M vl l 0 a L y) := by
  have K0 : Hid (Fm y [(y.heap.size, lpA ⟨97, .agg #[.slice sp m cap], a⟩, 72)] (y.alloc (.cells (lpA ⟨97, .agg #[.slice sp m cap], a⟩) 72))) := Fm.one y _ _
  have hTg : Hid (∀ u, Below y.heap.size y u → Calls Tryd.prog 34 #[.pointer (some ⟨q.s, 0, none⟩), .agg (lpA ⟨97, .agg #[.slice sp m cap], a⟩)] u fun e z => e = .returned (.tuple #[.int .i64 0, .int .i64 0]) ∧ Below u.heap.size u z) := fun u hu => target_data q u sp m cap a
  have hBt : Hid (∀ u, Below y.heap.size y u → Calls Tryd.prog 104 #[.agg #[.slice sp m cap], .int .i64 0] u (BtE u L)) := fun u hu => bytes_data u sp m cap L hm (hL.below hu) 0
  obtain ⟨od, hs, ho1, ho2⟩ := slFrom q.b a ha
  have e9 : splice M od L = splice M a L := by
    by_cases h9 : a < 65536
    · rw [ho1 h9]
    · have h0 : L = [] := List.length_eq_zero_iff.1 (by omega)
      rw [h0]
      simp [splice]
  have hfin : Hid (∀ e z, e = .returned (.int .i64 0) → Wr B q s (splice M od L) vl l y z → FiE B q s M vl l 0 a L y e z) := fun e z h1 h2 => ⟨h1, h2.low, fun _ => by rw [← e9]; exact h2⟩
  have hbd : Hid (od + (L).length ≤ M.length ∧ (L).length ≤ 65536 - a) := ⟨by omega, by omega⟩
  have hB : Hid (B ≤ y.heap.size) := h.out.Ble
  generalize L = R at hBt hfin hbd ⊢
  generalize FiE B q s M vl l 0 a R y = Fin at hfin ⊢
  clear ho1 ho2 e9 hfit hM ha
  go_enter Tryd.func24, Tryd.ntmps24
  go_wp2_with (first
    | ((with_reducible refine at_load rtLp y.heap.size (lpA ⟨97, .agg #[.slice sp m cap], a⟩) ?_ ?_ (.tmp 3) ?_ ?_ ?_ ?_); exact K0.out.bx 0 _ _ _ rfl; rfl; rfl; rfl; rfl)
    | (go_at_call 34; refine (hTg.out _ K0.out.low).mono ?_; rintro e z ⟨rfl, H⟩; have K1 : Hid (Fm y [(y.heap.size, lpA ⟨97, .agg #[.slice sp m cap], a⟩, 72)] z) := K0.out.below H; clear H hTg))
  refine wp_region_held_drew (S := fun u => Bx u q.s (sC q s.p vl) 70 ∧ Bx u y.heap.size (lpA ⟨97, .agg #[.slice sp m cap], a⟩) 72) (by kernel_rfl) ⟨h.out.bx.below (below_drew K1.out.low), (K1.out.bx 0 _ _ _ rfl).below (below_drew (Below.refl _ _))⟩ (fun hH => ?_)
  have KB : Hid (Below y.heap.size y z.drew) := below_drew K1.out.low
  clear K1
  generalize z.drew = z1 at hH KB ⊢
  refine wpAnyH_take (i := 0) (v := .pointer (some ⟨q.s, 0, none⟩)) rfl (by kernel_rfl) (by kernel_rfl) (by kernel_rfl) (fun _ _ _ h => h) (.inl ⟨by kernel_rfl, fun u hu => by go_simp⟩) hH ?_
  try simp only [Act.put, List.setIfInBounds_toArray]
  refine wpAnyH_take (i := 1) (v := .pointer (some ⟨q.s, 0, none⟩)) rfl (by kernel_rfl) (by kernel_rfl) (by kernel_rfl) (fun _ _ _ h => h) (.inl ⟨by kernel_rfl, fun u hu => by go_simp⟩) hH ?_
  try simp only [Act.put]
  refine wpAnyH_take (i := 2) (v := .pointer (some ⟨q.s, 3, none⟩)) rfl (by kernel_rfl) (by kernel_rfl) (by kernel_rfl) (fun _ _ _ h => h) (.inl ⟨by kernel_rfl, fun u hu => by go_simp⟩) hH ?_
  try simp only [Act.put]
  refine wpAnyH_take (i := 3) (v := .slice (some ⟨q.b, 0, none⟩) 65536 65536) rfl (by kernel_rfl) (by kernel_rfl) (by kernel_rfl) (fun _ _ _ h => h) (.inl ⟨by kernel_rfl, fun u hu => by have d : u.cell? ⟨q.s, 3, none⟩ = some (.slice (some ⟨q.b, 0, none⟩) 65536 65536) := hu.1.c 3 _ rfl; go_simp⟩) hH ?_
  try simp only [Act.put]
  refine wpAnyH_take (i := 4) (v := .pointer (some ⟨y.heap.size, 1, none⟩)) rfl (by kernel_rfl) (by kernel_rfl) (by kernel_rfl) (fun _ _ _ h => h) (.inl ⟨by kernel_rfl, fun u hu => by go_simp⟩) hH ?_
  try simp only [Act.put]
  refine wpAnyH_take (i := 5) (v := .int .i64 (a : Int)) rfl (by kernel_rfl) (by kernel_rfl) (by kernel_rfl) (fun _ _ _ h => h) (.inl ⟨by kernel_rfl, fun u hu => by have d : u.cell? ⟨y.heap.size, 1, none⟩ = some (.int .i64 (a : Int)) := hu.2.c 1 _ rfl; go_simp⟩) hH ?_
  try simp only [Act.put]
  refine wpAnyH_take (i := 6) (v := .slice (some ⟨q.b, od, none⟩) (65536 - a) (65536 - a)) rfl (by kernel_rfl) (by kernel_rfl) (by kernel_rfl) (fun _ _ _ h => h) (.inl ⟨by kernel_rfl, fun u hu => by have d := hs u; go_simp⟩) hH ?_
  try simp only [Act.put]
  refine wpAnyH_take (i := 7) (v := .pointer (some ⟨y.heap.size, 0, none⟩)) rfl (by kernel_rfl) (by kernel_rfl) (by kernel_rfl) (fun _ _ _ h => h) (.inl ⟨by kernel_rfl, fun u hu => by go_simp⟩) hH ?_
  try simp only [Act.put]
  refine wpAnyH_take (i := 8) (v := .iface 97 (.agg #[.slice sp m cap])) rfl (by kernel_rfl) (by kernel_rfl) (by kernel_rfl) (fun _ _ _ h => h) (.inl ⟨by kernel_rfl, fun u hu => by have d : u.cell? ⟨y.heap.size, 0, none⟩ = some (.iface 97 (.agg #[.slice sp m cap])) := hu.2.c 0 _ rfl; go_simp⟩) hH ?_
  try simp only [Act.put]
  refine wpAnyH_take (i := 9) (v := .int .i64 0) rfl (by kernel_rfl) (by kernel_rfl) (by kernel_rfl) (fun _ _ _ h => h) (.inl ⟨by kernel_rfl, fun u hu => by go_simp⟩) hH ?_
  try simp only [Act.put]
  refine wpAnyH_ready (rs := [10]) (by kernel_rfl) (by simp) (AllReadyH.cons rfl (fun K hK => ?_) AllReadyH.nil)
  rw [if_pos (by rfl)]
  go_wp2_with (go_at_call 104; refine (hBt.out _ KB.out).mono ?_; rintro e z2 ⟨sp2, cap2, rfl, H⟩)
  have K2 : Hid (Below y.heap.size y z2) := of_below KB.out H.out.2
  have P2 : Hid (Bx z2 y.heap.size (lpA ⟨97, .agg #[.slice sp m cap], a⟩) 72) := hH.2.below H.out.2
  refine hK.out _ _ ⟨h.out.bx.below K2.out, P2.out⟩ (fun hH => ?_)
  clear hK K
  try simp only [Act.put, List.setIfInBounds_toArray, List.set_cons_zero, List.set_cons_succ]
  refine wpAnyH_ready (rs := [11]) (by kernel_rfl) (by simp) (AllReadyH.cons rfl (fun K hK => ?_) AllReadyH.nil)
  rw [if_pos (by rfl)]
  refine wp_copyA (.tmp 22) (.tmp 26) rfl q.b od (65536 - a) (65536 - a) sp2 R.length cap2 rfl rfl M (h.out.b.below K2.out) R rfl hbd.out.2 H.out.1 hbd.out.1 ?_
  intro z3 hw
  have W3 : Hid (Wr B q s (splice M od R) vl l y z3) := (h.out.below K2.out).wrote hB.out K2.out hw.out
  refine hK.out _ _ ⟨W3.out.sh.bx, bx_other (h.out.b.below K2.out) (by decide) hw.out.2.2 P2.out⟩ (fun _ => ?_)
  refine wpAnyH_done (by kernel_rfl) ?_ _
  clear hK K hw K2 H P2 hH
  go_wp2
  exact hfin.out _ _ rfl W3.out
theorem fill_plain (B : Nat) (q : Nu) (s : Sh) (M : List UInt8) (hM : M.length = 65536) (vl : Value) (l : List Lp) (y : World) (h : Hid (Sht B q s M vl l y)) (a : Nat) (ha : a ≤ 65536) (sp : Option Addr) (m cap : Nat) (L : List UInt8) (hm : L.length = m) (hL : LB8 y sp L) (hfit : a + (L).length ≤ 65536) :
    Calls Tryd.prog 24 #[.pointer (some ⟨q.s, 0, none⟩), .agg (lpA ⟨101, .agg #[.slice sp m cap], a⟩)] y (FiE B q s M vl l 0 a L y) := by
  have K0 : Hid (Fm y [(y.heap.size, lpA ⟨101, .agg #[.slice sp m cap], a⟩, 72)] (y.alloc (.cells (lpA ⟨101, .agg #[.slice sp m cap], a⟩) 72))) := Fm.one y _ _
  have hTg : Hid (∀ u, Below y.heap.size y u → Calls Tryd.prog 34 #[.pointer (some ⟨q.s, 0, none⟩), .agg (lpA ⟨101, .agg #[.slice sp m cap], a⟩)] u fun e z => e = .returned (.tuple #[.int .i64 0, .int .i64 0]) ∧ Below u.heap.size u z) := fun u hu => target_plain q u sp m cap a
  have hBt : Hid (∀ u, Below y.heap.size y u → Calls Tryd.prog 109 #[.agg #[.slice sp m cap], .int .i64 0] u (BtE u L)) := fun u hu => bytes_plain u sp m cap L hm (hL.below hu) 0
  obtain ⟨od, hs, ho1, ho2⟩ := slFrom q.b a ha
  have e9 : splice M od L = splice M a L := by
    by_cases h9 : a < 65536
    · rw [ho1 h9]
    · have h0 : L = [] := List.length_eq_zero_iff.1 (by omega)
      rw [h0]
      simp [splice]
  have hfin : Hid (∀ e z, e = .returned (.int .i64 0) → Wr B q s (splice M od L) vl l y z → FiE B q s M vl l 0 a L y e z) := fun e z h1 h2 => ⟨h1, h2.low, fun _ => by rw [← e9]; exact h2⟩
  have hbd : Hid (od + (L).length ≤ M.length ∧ (L).length ≤ 65536 - a) := ⟨by omega, by omega⟩
  have hB : Hid (B ≤ y.heap.size) := h.out.Ble
  generalize L = R at hBt hfin hbd ⊢
  generalize FiE B q s M vl l 0 a R y = Fin at hfin ⊢
  clear ho1 ho2 e9 hfit hM ha
  go_enter Tryd.func24, Tryd.ntmps24
  go_wp2_with (first
    | ((with_reducible refine at_load rtLp y.heap.size (lpA ⟨101, .agg #[.slice sp m cap], a⟩) ?_ ?_ (.tmp 3) ?_ ?_ ?_ ?_); exact K0.out.bx 0 _ _ _ rfl; rfl; rfl; rfl; rfl)
    | (go_at_call 34; refine (hTg.out _ K0.out.low).mono ?_; rintro e z ⟨rfl, H⟩; have K1 : Hid (Fm y [(y.heap.size, lpA ⟨101, .agg #[.slice sp m cap], a⟩, 72)] z) := K0.out.below H; clear H hTg))
  refine wp_region_held_drew (S := fun u => Bx u q.s (sC q s.p vl) 70 ∧ Bx u y.heap.size (lpA ⟨101, .agg #[.slice sp m cap], a⟩) 72) (by kernel_rfl) ⟨h.out.bx.below (below_drew K1.out.low), (K1.out.bx 0 _ _ _ rfl).below (below_drew (Below.refl _ _))⟩ (fun hH => ?_)
  have KB : Hid (Below y.heap.size y z.drew) := below_drew K1.out.low
  clear K1
  generalize z.drew = z1 at hH KB ⊢
  refine wpAnyH_take (i := 0) (v := .pointer (some ⟨q.s, 0, none⟩)) rfl (by kernel_rfl) (by kernel_rfl) (by kernel_rfl) (fun _ _ _ h => h) (.inl ⟨by kernel_rfl, fun u hu => by go_simp⟩) hH ?_
  try simp only [Act.put, List.setIfInBounds_toArray]
  refine wpAnyH_take (i := 1) (v := .pointer (some ⟨q.s, 0, none⟩)) rfl (by kernel_rfl) (by kernel_rfl) (by kernel_rfl) (fun _ _ _ h => h) (.inl ⟨by kernel_rfl, fun u hu => by go_simp⟩) hH ?_
  try simp only [Act.put]
  refine wpAnyH_take (i := 2) (v := .pointer (some ⟨q.s, 3, none⟩)) rfl (by kernel_rfl) (by kernel_rfl) (by kernel_rfl) (fun _ _ _ h => h) (.inl ⟨by kernel_rfl, fun u hu => by go_simp⟩) hH ?_
  try simp only [Act.put]
  refine wpAnyH_take (i := 3) (v := .slice (some ⟨q.b, 0, none⟩) 65536 65536) rfl (by kernel_rfl) (by kernel_rfl) (by kernel_rfl) (fun _ _ _ h => h) (.inl ⟨by kernel_rfl, fun u hu => by have d : u.cell? ⟨q.s, 3, none⟩ = some (.slice (some ⟨q.b, 0, none⟩) 65536 65536) := hu.1.c 3 _ rfl; go_simp⟩) hH ?_
  try simp only [Act.put]
  refine wpAnyH_take (i := 4) (v := .pointer (some ⟨y.heap.size, 1, none⟩)) rfl (by kernel_rfl) (by kernel_rfl) (by kernel_rfl) (fun _ _ _ h => h) (.inl ⟨by kernel_rfl, fun u hu => by go_simp⟩) hH ?_
  try simp only [Act.put]
  refine wpAnyH_take (i := 5) (v := .int .i64 (a : Int)) rfl (by kernel_rfl) (by kernel_rfl) (by kernel_rfl) (fun _ _ _ h => h) (.inl ⟨by kernel_rfl, fun u hu => by have d : u.cell? ⟨y.heap.size, 1, none⟩ = some (.int .i64 (a : Int)) := hu.2.c 1 _ rfl; go_simp⟩) hH ?_
  try simp only [Act.put]
  refine wpAnyH_take (i := 6) (v := .slice (some ⟨q.b, od, none⟩) (65536 - a) (65536 - a)) rfl (by kernel_rfl) (by kernel_rfl) (by kernel_rfl) (fun _ _ _ h => h) (.inl ⟨by kernel_rfl, fun u hu => by have d := hs u; go_simp⟩) hH ?_
  try simp only [Act.put]
  refine wpAnyH_take (i := 7) (v := .pointer (some ⟨y.heap.size, 0, none⟩)) rfl (by kernel_rfl) (by kernel_rfl) (by kernel_rfl) (fun _ _ _ h => h) (.inl ⟨by kernel_rfl, fun u hu => by go_simp⟩) hH ?_
  try simp only [Act.put]
  refine wpAnyH_take (i := 8) (v := .iface 101 (.agg #[.slice sp m cap])) rfl (by kernel_rfl) (by kernel_rfl) (by kernel_rfl) (fun _ _ _ h => h) (.inl ⟨by kernel_rfl, fun u hu => by have d : u.cell? ⟨y.heap.size, 0, none⟩ = some (.iface 101 (.agg #[.slice sp m cap])) := hu.2.c 0 _ rfl; go_simp⟩) hH ?_
  try simp only [Act.put]
  refine wpAnyH_take (i := 9) (v := .int .i64 0) rfl (by kernel_rfl) (by kernel_rfl) (by kernel_rfl) (fun _ _ _ h => h) (.inl ⟨by kernel_rfl, fun u hu => by go_simp⟩) hH ?_
  try simp only [Act.put]
  refine wpAnyH_ready (rs := [10]) (by kernel_rfl) (by simp) (AllReadyH.cons rfl (fun K hK => ?_) AllReadyH.nil)
  rw [if_pos (by rfl)]
  go_wp2_with (go_at_call 109; refine (hBt.out _ KB.out).mono ?_; rintro e z2 ⟨sp2, cap2, rfl, H⟩)
  have K2 : Hid (Below y.heap.size y z2) := of_below KB.out H.out.2
  have P2 : Hid (Bx z2 y.heap.size (lpA ⟨101, .agg #[.slice sp m cap], a⟩) 72) := hH.2.below H.out.2
  refine hK.out _ _ ⟨h.out.bx.below K2.out, P2.out⟩ (fun hH => ?_)
  clear hK K
  try simp only [Act.put, List.setIfInBounds_toArray, List.set_cons_zero, List.set_cons_succ]
  refine wpAnyH_ready (rs := [11]) (by kernel_rfl) (by simp) (AllReadyH.cons rfl (fun K hK => ?_) AllReadyH.nil)
  rw [if_pos (by rfl)]
  refine wp_copyA (.tmp 22) (.tmp 26) rfl q.b od (65536 - a) (65536 - a) sp2 R.length cap2 rfl rfl M (h.out.b.below K2.out) R rfl hbd.out.2 H.out.1 hbd.out.1 ?_
  intro z3 hw
  have W3 : Hid (Wr B q s (splice M od R) vl l y z3) := (h.out.below K2.out).wrote hB.out K2.out hw.out
  refine hK.out _ _ ⟨W3.out.sh.bx, bx_other (h.out.b.below K2.out) (by decide) hw.out.2.2 P2.out⟩ (fun _ => ?_)
  refine wpAnyH_done (by kernel_rfl) ?_ _
  clear hK K hw K2 H P2 hH
  go_wp2
  exact hfin.out _ _ rfl W3.out
theorem fill_address (B : Nat) (q : Nu) (s : Sh) (M : List UInt8) (hM : M.length = 65536) (vl : Value) (l : List Lp) (y : World) (h : Hid (Sht B q s M vl l y)) (a : Nat) (ha : a ≤ 65536) (n : ByteArray) (t : Nat) (ht : lookN s.N n = some t) (hfit : a + ([UInt8.ofNat (t / 256), UInt8.ofNat t]).length ≤ 65536) :
    Calls Tryd.prog 24 #[.pointer (some ⟨q.s, 0, none⟩), .agg (lpA ⟨99, .agg #[.string n], a⟩)] y (FiE B q s M vl l 0 a [UInt8.ofNat (t / 256), UInt8.ofNat t] y) := by
  have K0 : Hid (Fm y [(y.heap.size, lpA ⟨99, .agg #[.string n], a⟩, 72)] (y.alloc (.cells (lpA ⟨99, .agg #[.string n], a⟩) 72))) := Fm.one y _ _
  have hTg : Hid (∀ u, Below y.heap.size y u → Calls Tryd.prog 34 #[.pointer (some ⟨q.s, 0, none⟩), .agg (lpA ⟨99, .agg #[.string n], a⟩)] u fun e z => e = .returned (.tuple #[.int .i64 (t : Int), .int .i64 0]) ∧ Below u.heap.size u z) := fun u hu => by
    have c := target_address q s.p vl s.N u (h.out.bx.below hu) (h.out.m.keep (hu.block _ h.out.m.lt)) n a
    unfold fdE at c
    rw [ht] at c
    exact c
  have hBt : Hid (∀ u, Below y.heap.size y u → Calls Tryd.prog 107 #[.agg #[.string n], .int .i64 (t : Int)] u (BtE u [UInt8.ofNat (t / 256), UInt8.ofNat t])) := fun u hu => bytes_address u n t (look_le h.out.ok.n ht)
  obtain ⟨od, hs, ho1, ho2⟩ := slFrom q.b a ha
  have e9 : splice M od [UInt8.ofNat (t / 256), UInt8.ofNat t] = splice M a [UInt8.ofNat (t / 256), UInt8.ofNat t] := by
    by_cases h9 : a < 65536
    · rw [ho1 h9]
    · have h0 : [UInt8.ofNat (t / 256), UInt8.ofNat t] = [] := List.length_eq_zero_iff.1 (by omega)
      rw [h0]
      simp [splice]
  have hfin : Hid (∀ e z, e = .returned (.int .i64 0) → Wr B q s (splice M od [UInt8.ofNat (t / 256), UInt8.ofNat t]) vl l y z → FiE B q s M vl l 0 a [UInt8.ofNat (t / 256), UInt8.ofNat t] y e z) := fun e z h1 h2 => ⟨h1, h2.low, fun _ => by rw [← e9]; exact h2⟩
  have hbd : Hid (od + ([UInt8.ofNat (t / 256), UInt8.ofNat t]).length ≤ M.length ∧ ([UInt8.ofNat (t / 256), UInt8.ofNat t]).length ≤ 65536 - a) := ⟨by omega, by omega⟩
  have hB : Hid (B ≤ y.heap.size) := h.out.Ble
  generalize [UInt8.ofNat (t / 256), UInt8.ofNat t] = R at hBt hfin hbd ⊢
  generalize FiE B q s M vl l 0 a R y = Fin at hfin ⊢
  clear ho1 ho2 e9 hfit hM ha
  go_enter Tryd.func24, Tryd.ntmps24
  go_wp2_with (first
    | ((with_reducible refine at_load rtLp y.heap.size (lpA ⟨99, .agg #[.string n], a⟩) ?_ ?_ (.tmp 3) ?_ ?_ ?_ ?_); exact K0.out.bx 0 _ _ _ rfl; rfl; rfl; rfl; rfl)
    | (go_at_call 34; refine (hTg.out _ K0.out.low).mono ?_; rintro e z ⟨rfl, H⟩; have K1 : Hid (Fm y [(y.heap.size, lpA ⟨99, .agg #[.string n], a⟩, 72)] z) := K0.out.below H; clear H hTg))
  refine wp_region_held_drew (S := fun u => Bx u q.s (sC q s.p vl) 70 ∧ Bx u y.heap.size (lpA ⟨99, .agg #[.string n], a⟩) 72) (by kernel_rfl) ⟨h.out.bx.below (below_drew K1.out.low), (K1.out.bx 0 _ _ _ rfl).below (below_drew (Below.refl _ _))⟩ (fun hH => ?_)
  have KB : Hid (Below y.heap.size y z.drew) := below_drew K1.out.low
  clear K1
  generalize z.drew = z1 at hH KB ⊢
  refine wpAnyH_take (i := 0) (v := .pointer (some ⟨q.s, 0, none⟩)) rfl (by kernel_rfl) (by kernel_rfl) (by kernel_rfl) (fun _ _ _ h => h) (.inl ⟨by kernel_rfl, fun u hu => by go_simp⟩) hH ?_
  try simp only [Act.put, List.setIfInBounds_toArray]
  refine wpAnyH_take (i := 1) (v := .pointer (some ⟨q.s, 0, none⟩)) rfl (by kernel_rfl) (by kernel_rfl) (by kernel_rfl) (fun _ _ _ h => h) (.inl ⟨by kernel_rfl, fun u hu => by go_simp⟩) hH ?_
  try simp only [Act.put]
  refine wpAnyH_take (i := 2) (v := .pointer (some ⟨q.s, 3, none⟩)) rfl (by kernel_rfl) (by kernel_rfl) (by kernel_rfl) (fun _ _ _ h => h) (.inl ⟨by kernel_rfl, fun u hu => by go_simp⟩) hH ?_
  try simp only [Act.put]
  refine wpAnyH_take (i := 3) (v := .slice (some ⟨q.b, 0, none⟩) 65536 65536) rfl (by kernel_rfl) (by kernel_rfl) (by kernel_rfl) (fun _ _ _ h => h) (.inl ⟨by kernel_rfl, fun u hu => by have d : u.cell? ⟨q.s, 3, none⟩ = some (.slice (some ⟨q.b, 0, none⟩) 65536 65536) := hu.1.c 3 _ rfl; go_simp⟩) hH ?_
  try simp only [Act.put]
  refine wpAnyH_take (i := 4) (v := .pointer (some ⟨y.heap.size, 1, none⟩)) rfl (by kernel_rfl) (by kernel_rfl) (by kernel_rfl) (fun _ _ _ h => h) (.inl ⟨by kernel_rfl, fun u hu => by go_simp⟩) hH ?_
  try simp only [Act.put]
  refine wpAnyH_take (i := 5) (v := .int .i64 (a : Int)) rfl (by kernel_rfl) (by kernel_rfl) (by kernel_rfl) (fun _ _ _ h => h) (.inl ⟨by kernel_rfl, fun u hu => by have d : u.cell? ⟨y.heap.size, 1, none⟩ = some (.int .i64 (a : Int)) := hu.2.c 1 _ rfl; go_simp⟩) hH ?_
  try simp only [Act.put]
  refine wpAnyH_take (i := 6) (v := .slice (some ⟨q.b, od, none⟩) (65536 - a) (65536 - a)) rfl (by kernel_rfl) (by kernel_rfl) (by kernel_rfl) (fun _ _ _ h => h) (.inl ⟨by kernel_rfl, fun u hu => by have d := hs u; go_simp⟩) hH ?_
  try simp only [Act.put]
  refine wpAnyH_take (i := 7) (v := .pointer (some ⟨y.heap.size, 0, none⟩)) rfl (by kernel_rfl) (by kernel_rfl) (by kernel_rfl) (fun _ _ _ h => h) (.inl ⟨by kernel_rfl, fun u hu => by go_simp⟩) hH ?_
  try simp only [Act.put]
  refine wpAnyH_take (i := 8) (v := .iface 99 (.agg #[.string n])) rfl (by kernel_rfl) (by kernel_rfl) (by kernel_rfl) (fun _ _ _ h => h) (.inl ⟨by kernel_rfl, fun u hu => by have d : u.cell? ⟨y.heap.size, 0, none⟩ = some (.iface 99 (.agg #[.string n])) := hu.2.c 0 _ rfl; go_simp⟩) hH ?_
  try simp only [Act.put]
  refine wpAnyH_take (i := 9) (v := .int .i64 (t : Int)) rfl (by kernel_rfl) (by kernel_rfl) (by kernel_rfl) (fun _ _ _ h => h) (.inl ⟨by kernel_rfl, fun u hu => by go_simp⟩) hH ?_
  try simp only [Act.put]
  refine wpAnyH_ready (rs := [10]) (by kernel_rfl) (by simp) (AllReadyH.cons rfl (fun K hK => ?_) AllReadyH.nil)
  rw [if_pos (by rfl)]
  go_wp2_with (go_at_call 107; refine (hBt.out _ KB.out).mono ?_; rintro e z2 ⟨sp2, cap2, rfl, H⟩)
  have K2 : Hid (Below y.heap.size y z2) := of_below KB.out H.out.2
  have P2 : Hid (Bx z2 y.heap.size (lpA ⟨99, .agg #[.string n], a⟩) 72) := hH.2.below H.out.2
  refine hK.out _ _ ⟨h.out.bx.below K2.out, P2.out⟩ (fun hH => ?_)
  clear hK K
  try simp only [Act.put, List.setIfInBounds_toArray, List.set_cons_zero, List.set_cons_succ]
  refine wpAnyH_ready (rs := [11]) (by kernel_rfl) (by simp) (AllReadyH.cons rfl (fun K hK => ?_) AllReadyH.nil)
  rw [if_pos (by rfl)]
  refine wp_copyA (.tmp 22) (.tmp 26) rfl q.b od (65536 - a) (65536 - a) sp2 R.length cap2 rfl rfl M (h.out.b.below K2.out) R rfl hbd.out.2 H.out.1 hbd.out.1 ?_
  intro z3 hw
  have W3 : Hid (Wr B q s (splice M od R) vl l y z3) := (h.out.below K2.out).wrote hB.out K2.out hw.out
  refine hK.out _ _ ⟨W3.out.sh.bx, bx_other (h.out.b.below K2.out) (by decide) hw.out.2.2 P2.out⟩ (fun _ => ?_)
  refine wpAnyH_done (by kernel_rfl) ?_ _
  clear hK K hw K2 H P2 hH
  go_wp2
  exact hfin.out _ _ rfl W3.out
theorem fill_labelled (B : Nat) (q : Nu) (s : Sh) (M : List UInt8) (hM : M.length = 65536) (vl : Value) (l : List Lp) (y : World) (h : Hid (Sht B q s M vl l y)) (a : Nat) (ha : a ≤ 65536) (X : ByteArray) (F : Int) (L0 : Nat) (cy : Int) (n : ByteArray) (p : Int) (T : Hid (Tabs y)) (t : Nat) (ht : lookN s.N n = some t) (hg : ¬ (F = 5 ∧ t / 256 ≠ (a + 1) / 256)) (k : Nat) (ho : opOf X = some k) (hm : may k (opF F p t : Nat)) (hfit : a + ((encL X (opF F p t : Nat))).length ≤ 65536) :
    Calls Tryd.prog 24 #[.pointer (some ⟨q.s, 0, none⟩), .agg (lpA ⟨103, .agg (lbC X F L0 cy n p), a⟩)] y (FiE B q s M vl l 0 a (encL X (opF F p t : Nat)) y) := by
  have K0 : Hid (Fm y [(y.heap.size, lpA ⟨103, .agg (lbC X F L0 cy n p), a⟩, 72)] (y.alloc (.cells (lpA ⟨103, .agg (lbC X F L0 cy n p), a⟩) 72))) := Fm.one y _ _
  have hTg : Hid (∀ u, Below y.heap.size y u → Calls Tryd.prog 34 #[.pointer (some ⟨q.s, 0, none⟩), .agg (lpA ⟨103, .agg (lbC X F L0 cy n p), a⟩)] u fun e z => e = .returned (.tuple #[.int .i64 (t : Int), .int .i64 0]) ∧ Below u.heap.size u z) := fun u hu => by
    have c := target_labelled q s.p vl s.N h.out.ok.n u (h.out.bx.below hu) (h.out.m.keep (hu.block _ h.out.m.lt)) X F L0 cy n p a ha
    refine c.mono fun e z ⟨g, he, hh⟩ => ?_
    have e0 : tgE s.N a F n = 0 := by unfold tgE; rw [ht]; exact if_neg hg
    have hg9 := hh.out.1 e0
    rw [ht] at hg9
    rw [e0, hg9] at he
    exact ⟨he, hh.out.2⟩
  have hBt : Hid (∀ u, Below y.heap.size y u → Calls Tryd.prog 111 #[.agg (lbC X F L0 cy n p), .int .i64 (t : Int)] u (BtE u (encL X (opF F p t : Nat)))) := fun u hu => bytes_labelled u (T.out.below hu) X F L0 cy n p t (look_le h.out.ok.n ht) k ho hm
  obtain ⟨od, hs, ho1, ho2⟩ := slFrom q.b a ha
  have e9 : splice M od (encL X (opF F p t : Nat)) = splice M a (encL X (opF F p t : Nat)) := by
    by_cases h9 : a < 65536
    · rw [ho1 h9]
    · have h0 : (encL X (opF F p t : Nat)) = [] := List.length_eq_zero_iff.1 (by omega)
      rw [h0]
      simp [splice]
  have hfin : Hid (∀ e z, e = .returned (.int .i64 0) → Wr B q s (splice M od (encL X (opF F p t : Nat))) vl l y z → FiE B q s M vl l 0 a (encL X (opF F p t : Nat)) y e z) := fun e z h1 h2 => ⟨h1, h2.low, fun _ => by rw [← e9]; exact h2⟩
  have hbd : Hid (od + ((encL X (opF F p t : Nat))).length ≤ M.length ∧ ((encL X (opF F p t : Nat))).length ≤ 65536 - a) := ⟨by omega, by omega⟩
  have hB : Hid (B ≤ y.heap.size) := h.out.Ble
  generalize (encL X (opF F p t : Nat)) = R at hBt hfin hbd ⊢
  generalize FiE B q s M vl l 0 a R y = Fin at hfin ⊢
  clear ho1 ho2 e9 hfit hM ha
  go_enter Tryd.func24, Tryd.ntmps24
  go_wp2_with (first
    | ((with_reducible refine at_load rtLp y.heap.size (lpA ⟨103, .agg (lbC X F L0 cy n p), a⟩) ?_ ?_ (.tmp 3) ?_ ?_ ?_ ?_); exact K0.out.bx 0 _ _ _ rfl; rfl; rfl; rfl; rfl)
    | (go_at_call 34; refine (hTg.out _ K0.out.low).mono ?_; rintro e z ⟨rfl, H⟩; have K1 : Hid (Fm y [(y.heap.size, lpA ⟨103, .agg (lbC X F L0 cy n p), a⟩, 72)] z) := K0.out.below H; clear H hTg))
  refine wp_region_held_drew (S := fun u => Bx u q.s (sC q s.p vl) 70 ∧ Bx u y.heap.size (lpA ⟨103, .agg (lbC X F L0 cy n p), a⟩) 72) (by kernel_rfl) ⟨h.out.bx.below (below_drew K1.out.low), (K1.out.bx 0 _ _ _ rfl).below (below_drew (Below.refl _ _))⟩ (fun hH => ?_)
  have KB : Hid (Below y.heap.size y z.drew) := below_drew K1.out.low
  clear K1
  generalize z.drew = z1 at hH KB ⊢
  refine wpAnyH_take (i := 0) (v := .pointer (some ⟨q.s, 0, none⟩)) rfl (by kernel_rfl) (by kernel_rfl) (by kernel_rfl) (fun _ _ _ h => h) (.inl ⟨by kernel_rfl, fun u hu => by go_simp⟩) hH ?_
  try simp only [Act.put, List.setIfInBounds_toArray]
  refine wpAnyH_take (i := 1) (v := .pointer (some ⟨q.s, 0, none⟩)) rfl (by kernel_rfl) (by kernel_rfl) (by kernel_rfl) (fun _ _ _ h => h) (.inl ⟨by kernel_rfl, fun u hu => by go_simp⟩) hH ?_
  try simp only [Act.put]
  refine wpAnyH_take (i := 2) (v := .pointer (some ⟨q.s, 3, none⟩)) rfl (by kernel_rfl) (by kernel_rfl) (by kernel_rfl) (fun _ _ _ h => h) (.inl ⟨by kernel_rfl, fun u hu => by go_simp⟩) hH ?_
  try simp only [Act.put]
  refine wpAnyH_take (i := 3) (v := .slice (some ⟨q.b, 0, none⟩) 65536 65536) rfl (by kernel_rfl) (by kernel_rfl) (by kernel_rfl) (fun _ _ _ h => h) (.inl ⟨by kernel_rfl, fun u hu => by have d : u.cell? ⟨q.s, 3, none⟩ = some (.slice (some ⟨q.b, 0, none⟩) 65536 65536) := hu.1.c 3 _ rfl; go_simp⟩) hH ?_
  try simp only [Act.put]
  refine wpAnyH_take (i := 4) (v := .pointer (some ⟨y.heap.size, 1, none⟩)) rfl (by kernel_rfl) (by kernel_rfl) (by kernel_rfl) (fun _ _ _ h => h) (.inl ⟨by kernel_rfl, fun u hu => by go_simp⟩) hH ?_
  try simp only [Act.put]
  refine wpAnyH_take (i := 5) (v := .int .i64 (a : Int)) rfl (by kernel_rfl) (by kernel_rfl) (by kernel_rfl) (fun _ _ _ h => h) (.inl ⟨by kernel_rfl, fun u hu => by have d : u.cell? ⟨y.heap.size, 1, none⟩ = some (.int .i64 (a : Int)) := hu.2.c 1 _ rfl; go_simp⟩) hH ?_
  try simp only [Act.put]
  refine wpAnyH_take (i := 6) (v := .slice (some ⟨q.b, od, none⟩) (65536 - a) (65536 - a)) rfl (by kernel_rfl) (by kernel_rfl) (by kernel_rfl) (fun _ _ _ h => h) (.inl ⟨by kernel_rfl, fun u hu => by have d := hs u; go_simp⟩) hH ?_
  try simp only [Act.put]
  refine wpAnyH_take (i := 7) (v := .pointer (some ⟨y.heap.size, 0, none⟩)) rfl (by kernel_rfl) (by kernel_rfl) (by kernel_rfl) (fun _ _ _ h => h) (.inl ⟨by kernel_rfl, fun u hu => by go_simp⟩) hH ?_
  try simp only [Act.put]
  refine wpAnyH_take (i := 8) (v := .iface 103 (.agg (lbC X F L0 cy n p))) rfl (by kernel_rfl) (by kernel_rfl) (by kernel_rfl) (fun _ _ _ h => h) (.inl ⟨by kernel_rfl, fun u hu => by have d : u.cell? ⟨y.heap.size, 0, none⟩ = some (.iface 103 (.agg (lbC X F L0 cy n p))) := hu.2.c 0 _ rfl; go_simp⟩) hH ?_
  try simp only [Act.put]
  refine wpAnyH_take (i := 9) (v := .int .i64 (t : Int)) rfl (by kernel_rfl) (by kernel_rfl) (by kernel_rfl) (fun _ _ _ h => h) (.inl ⟨by kernel_rfl, fun u hu => by go_simp⟩) hH ?_
  try simp only [Act.put]
  refine wpAnyH_ready (rs := [10]) (by kernel_rfl) (by simp) (AllReadyH.cons rfl (fun K hK => ?_) AllReadyH.nil)
  rw [if_pos (by rfl)]
  go_wp2_with (go_at_call 111; refine (hBt.out _ KB.out).mono ?_; rintro e z2 ⟨sp2, cap2, rfl, H⟩)
  have K2 : Hid (Below y.heap.size y z2) := of_below KB.out H.out.2
  have P2 : Hid (Bx z2 y.heap.size (lpA ⟨103, .agg (lbC X F L0 cy n p), a⟩) 72) := hH.2.below H.out.2
  refine hK.out _ _ ⟨h.out.bx.below K2.out, P2.out⟩ (fun hH => ?_)
  clear hK K
  try simp only [Act.put, List.setIfInBounds_toArray, List.set_cons_zero, List.set_cons_succ]
  refine wpAnyH_ready (rs := [11]) (by kernel_rfl) (by simp) (AllReadyH.cons rfl (fun K hK => ?_) AllReadyH.nil)
  rw [if_pos (by rfl)]
  refine wp_copyA (.tmp 22) (.tmp 26) rfl q.b od (65536 - a) (65536 - a) sp2 R.length cap2 rfl rfl M (h.out.b.below K2.out) R rfl hbd.out.2 H.out.1 hbd.out.1 ?_
  intro z3 hw
  have W3 : Hid (Wr B q s (splice M od R) vl l y z3) := (h.out.below K2.out).wrote hB.out K2.out hw.out
  refine hK.out _ _ ⟨W3.out.sh.bx, bx_other (h.out.b.below K2.out) (by decide) hw.out.2.2 P2.out⟩ (fun _ => ?_)
  refine wpAnyH_done (by kernel_rfl) ?_ _
  clear hK K hw K2 H P2 hH
  go_wp2
  exact hfin.out _ _ rfl W3.out
end Go.Proofs.YthbdpceobnkflaaDoor
