/- A piece's bytes, written where it lies. -/
import Derived.Test.YtkpfhnogpcigaaaDoorRJFf
import Derived.Test.YtkpfhnogpcigaaaDoorRJEp
namespace Go.Proofs.YtkpfhnogpcigaaaDoorR
open Go Go.RowKit
set_option linter.unusedVariables false
set_option maxHeartbeats 3000000
set_option maxRecDepth 20000

theorem wp_copyA {o : Oper} {a : Act} {w : World} {K : Act → World → Prop} {Q : Exit → Act → World → Prop} (d e : Operand)
    (ho : o.op = .call { callee := .builtin .copy, args := #[d, e], argTypes := #[33, 33] })
    (g od dLen dCap : Nat) (sp : Option Addr) (sLen sCap : Nat) (hd : a.eval d = .slice (some ⟨g, od, none⟩) dLen dCap) (hs : a.eval e = .slice sp sLen sCap)
    (out : List UInt8) (hg : Bx w g (rU out) 5) (l : List UInt8) (hlen : l.length = sLen) (hle : sLen ≤ dLen) (hl : LB8 w sp l) (hfit : od + sLen ≤ out.length)
    (h : ∀ w', Hid (Bx w' g (rU (splice out od l)) 5 ∧ (∀ B, B ≤ g → Below B w w') ∧ ∀ q, q ≠ g → w'.heap[q]? = w.heap[q]?) → K (a.put o.dst (goInt sLen)) w') : o.wp Tryd.prog a w K Q := by
  rcases l with _ | ⟨x, r⟩
  · have h0 : sLen = 0 := hlen.symm
    subst h0
    obtain ⟨i, z, hi, hz0, hz1, hz2, hz3⟩ := kU.i
    have hrun : (Builtin.copy_ #[33, 33] o.type #[.slice (some ⟨g, od, none⟩) dLen dCap, .slice sp 0 sCap]).run Tryd.prog w = .ok (goInt 0) w := by
      cases sp <;> simp [Builtin.copy_, run_underlying kU.u, Builtin.lenOf, Builtin.firstCells, sizeOf, typeInfo, hi, loadCells, loadCellsFrom, storeCells]
    unfold Oper.wp
    simp [execOp, ho, resolve, invoke, builtin, hd, hs, hrun, Result.andThen]
    refine h w ⟨?_, fun B _ => Below.refl _ _, fun _ _ => rfl⟩
    have : splice out od ([] : List UInt8) = out := by unfold splice; simp
    rw [this]
    exact hg
  · obtain ⟨gb, ob, rfl, _⟩ := hl 0 x rfl
    have hsrc : ∀ j v, ((x :: r).map byV)[j]? = some v → w.cell? ((⟨gb, ob, none⟩ : Addr).add j) = some v := fun j v hv => by
      rw [List.getElem?_map] at hv
      rcases hj : (x :: r)[j]? with _ | b
      · rw [hj] at hv; cases hv
      · rw [hj] at hv
        cases hv
        rw [Addr.add_lit]
        exact lb_cell hl j b hj
    have hrun := run_copyO w o.type g od dLen dCap ⟨gb, ob, none⟩ sLen sCap (rU out) ((x :: r).map byV) hg (by rw [List.length_map, hlen]) hle hsrc (by rw [rU_size, List.length_map, hlen]; exact hfit) (fun v hv => by obtain ⟨b, _, rfl⟩ := List.mem_map.1 hv; rfl)
    have e1 : (splice (rU out).toList od ((x :: r).map byV)).toArray = rU (splice out od (x :: r)) := by
      unfold rU splice
      simp
    rw [e1] at hrun
    unfold Oper.wp
    simp [execOp, ho, resolve, invoke, builtin, hd, hs, hrun, Result.andThen]
    exact h _ ⟨setRow_heap w g _ _ _ _ hg, fun B hB => below_setRow (Below.refl _ _) hB _, fun q hq => setRow_other w g q _ hq⟩
theorem slFrom (g a : Nat) (h : a ≤ 65536) : ∃ od, (∀ v, (Instr.sliceAt 33 (.slice (some ⟨g, 0, none⟩) 65536 65536) (some (.int .i64 (a : Int))) none none).run Tryd.prog v = .ok (.slice (some ⟨g, od, none⟩) (65536 - a) (65536 - a)) v) ∧ (a < 65536 → od = a) ∧ od ≤ a := by
  refine ⟨if 65536 = a then 0 else a, fun v => ?_, fun h => if_neg (by omega), by split <;> omega⟩
  have hu : Tryd.prog.underlying 33 = some (.slice (Tryd.prog.elem 33)) := by kernel_rfl
  rw [run_sliceAt_slice v _ _ _ _ _ hu, run_slice_l v _ _ _ _ hu .i64 (a : Int) (by omega) (by omega)]
  have hz : ∀ v, (sizeOf (Tryd.prog.elem 33)).run Tryd.prog v = .ok 1 v := fun v => by kernel_rfl
  rw [hz]
  by_cases e : 65536 = a
  · simp only [Result.andThen_ok, sliced, Int.toNat_natCast]
    rw [if_pos e, if_pos e]
  · simp only [Result.andThen_ok, sliced, Int.toNat_natCast]
    rw [if_neg e, if_neg e]
    simp [Addr.add_lit]
/-- Bytes written into the sheet's row: all else stays. -/
structure Wr (B : Nat) (q : Nu) (s : Sh) (M : List UInt8) (vl : Value) (l : List Lp) (y z : World) : Prop where
  sh : Sht B q s M vl l z
  low : Below B y z
  by8 : ∀ g cs, g ≠ q.b → Bx y g cs 5 → Bx z g cs 5
theorem Sht.wrote {B : Nat} {q : Nu} {s : Sh} {M : List UInt8} {vl : Value} {l : List Lp} {y z z1 : World} {od : Nat} {L : List UInt8} (h : Sht B q s M vl l z) (hB : B ≤ y.heap.size) (hz : Below y.heap.size y z)
    (hw : Bx z1 q.b (rU (splice M od L)) 5 ∧ (∀ B, B ≤ q.b → Below B z z1) ∧ ∀ g, g ≠ q.b → z1.heap[g]? = z.heap[g]?) : Wr B q s (splice M od L) vl l y z1 := by
  have hb := h.b
  exact ⟨⟨h.ok, bx_other hb (by decide) hw.2.2 h.bx, bx_other hb (by decide) hw.2.2 h.u, hw.1, map_other hb hw.2.2 h.m, own_other hb (by decide) hw.2.2 h.o, h.lo⟩, (hz.mono hB).trans (hw.2.1 _ h.lo.2.2.1), fun g cs hg hb => (hw.2.2 g hg).trans (hb.below hz)⟩
/-- What fill does. -/
def FiE (B : Nat) (q : Nu) (s : Sh) (M : List UInt8) (vl : Value) (l : List Lp) (E : Int) (a : Nat) (L : List UInt8) (y : World) (e : Ending) (z : World) : Prop := e = .returned (.int .i64 E) ∧ Hid (Below B y z ∧ (E = 0 → Wr B q s (splice M a L) vl l y z))
theorem fill_label (B : Nat) (q : Nu) (s : Sh) (M : List UInt8) (hM : M.length = 65536) (vl : Value) (l : List Lp) (y : World) (h : Hid (Sht B q s M vl l y)) (a : Nat) (ha : a ≤ 65536) (n : ByteArray) (hfit : a + (([] : List UInt8)).length ≤ 65536) :
    Calls Tryd.prog 38 #[.pointer (some ⟨q.s, 0, none⟩), .agg (lpA ⟨99, .agg #[.string n], a⟩)] y (FiE B q s M vl l 0 a ([] : List UInt8) y) := by
  have K0 : Hid (Fm y [(y.heap.size, lpA ⟨99, .agg #[.string n], a⟩, 87)] (y.alloc (.cells (lpA ⟨99, .agg #[.string n], a⟩) 87))) := Fm.one y _ _
  have hTg : Hid (∀ u, Below y.heap.size y u → Calls Tryd.prog 50 #[.pointer (some ⟨q.s, 0, none⟩), .agg (lpA ⟨99, .agg #[.string n], a⟩)] u fun e z => e = .returned (.tuple #[.int .i64 0, .int .i64 0]) ∧ Below u.heap.size u z) := fun u hu => target_label q u n a
  have hBt : Hid (∀ u, Below y.heap.size y u → Calls Tryd.prog 118 #[.agg #[.string n], .int .i64 0] u (BtE u ([] : List UInt8))) := fun u hu => bytes_label u n 0
  obtain ⟨od, hs, ho1, ho2⟩ := slFrom q.b a ha
  have e9 : splice M od ([] : List UInt8) = splice M a ([] : List UInt8) := by
    by_cases h9 : a < 65536
    · rw [ho1 h9]
    · have h0 : ([] : List UInt8) = [] := List.length_eq_zero_iff.1 (by omega)
      rw [h0]
      simp [splice]
  have hfin : Hid (∀ e z, e = .returned (.int .i64 0) → Wr B q s (splice M od ([] : List UInt8)) vl l y z → FiE B q s M vl l 0 a ([] : List UInt8) y e z) := fun e z h1 h2 => ⟨h1, h2.low, fun _ => by rw [← e9]; exact h2⟩
  have hbd : Hid (od + (([] : List UInt8)).length ≤ M.length ∧ (([] : List UInt8)).length ≤ 65536 - a) := ⟨by omega, by omega⟩
  have hB : Hid (B ≤ y.heap.size) := h.out.Ble
  generalize ([] : List UInt8) = R at hBt hfin hbd ⊢
  generalize FiE B q s M vl l 0 a R y = Fin at hfin ⊢
  clear ho1 ho2 e9 hfit hM ha
  go_enter Tryd.func38, Tryd.ntmps38
  go_wp2_with (first
    | ((with_reducible refine at_load rtLp y.heap.size (lpA ⟨99, .agg #[.string n], a⟩) ?_ ?_ (.tmp 3) ?_ ?_ ?_ ?_); exact K0.out.bx 0 _ _ _ rfl; rfl; rfl; rfl; rfl)
    | (go_at_call 50; refine (hTg.out _ K0.out.low).mono ?_; rintro e z ⟨rfl, H⟩; have K1 : Hid (Fm y [(y.heap.size, lpA ⟨99, .agg #[.string n], a⟩, 87)] z) := K0.out.below H; clear H hTg))
  refine wp_region_held_drew (S := fun u => Bx u q.s (sC q s.p vl) 85 ∧ Bx u y.heap.size (lpA ⟨99, .agg #[.string n], a⟩) 87) (by kernel_rfl) ⟨h.out.bx.below (below_drew K1.out.low), (K1.out.bx 0 _ _ _ rfl).below (below_drew (Below.refl _ _))⟩ (fun hH => ?_)
  have KB : Hid (Below y.heap.size y z.drew) := below_drew K1.out.low
  clear K1
  generalize z.drew = z1 at hH KB ⊢
  refine wpAnyH_take (i := 0) (v := .pointer (some ⟨q.s, 0, none⟩)) rfl (by kernel_rfl) (by kernel_rfl) (by kernel_rfl) (fun _ _ _ h => h) (.inl ⟨by kernel_rfl, fun u hu => by go_simp⟩) hH ?_
  try simp only [Act.put, List.setIfInBounds_toArray]
  refine wpAnyH_take (i := 1) (v := .pointer (some ⟨q.s, 0, none⟩)) rfl (by kernel_rfl) (by kernel_rfl) (by kernel_rfl) (fun _ _ _ h => h) (.inl ⟨by kernel_rfl, fun u hu => by go_simp⟩) hH ?_
  try simp only [Act.put]
  refine wpAnyH_take (i := 2) (v := .pointer (some ⟨q.s, 3, none⟩)) rfl (by kernel_rfl) (by kernel_rfl) (by kernel_rfl) (fun _ _ _ h => h) (.inl ⟨by kernel_rfl, fun u hu => by go_simp⟩) hH ?_
  try simp only [Act.put]
  refine wpAnyH_take (i := 3) (v := .slice (some ⟨q.b, 0, none⟩) 65536 65536) rfl (by kernel_rfl) (by kernel_rfl) (by kernel_rfl) (fun _ _ _ h => h) (.inl ⟨by kernel_rfl, fun u hu => by have d : u.cell? ⟨q.s, 3, none⟩ = some (.slice (some ⟨q.b, 0, none⟩) 65536 65536) := hu.1.c 3 _ rfl; go_simp⟩) hH ?_
  try simp only [Act.put]
  refine wpAnyH_take (i := 4) (v := .pointer (some ⟨y.heap.size, 1, none⟩)) rfl (by kernel_rfl) (by kernel_rfl) (by kernel_rfl) (fun _ _ _ h => h) (.inl ⟨by kernel_rfl, fun u hu => by go_simp⟩) hH ?_
  try simp only [Act.put]
  refine wpAnyH_take (i := 5) (v := .int .i64 (a : Int)) rfl (by kernel_rfl) (by kernel_rfl) (by kernel_rfl) (fun _ _ _ h => h) (.inl ⟨by kernel_rfl, fun u hu => by have d : u.cell? ⟨y.heap.size, 1, none⟩ = some (.int .i64 (a : Int)) := hu.2.c 1 _ rfl; go_simp⟩) hH ?_
  try simp only [Act.put]
  refine wpAnyH_take (i := 6) (v := .slice (some ⟨q.b, od, none⟩) (65536 - a) (65536 - a)) rfl (by kernel_rfl) (by kernel_rfl) (by kernel_rfl) (fun _ _ _ h => h) (.inl ⟨by kernel_rfl, fun u hu => by have d := hs u; go_simp⟩) hH ?_
  try simp only [Act.put]
  refine wpAnyH_take (i := 7) (v := .pointer (some ⟨y.heap.size, 0, none⟩)) rfl (by kernel_rfl) (by kernel_rfl) (by kernel_rfl) (fun _ _ _ h => h) (.inl ⟨by kernel_rfl, fun u hu => by go_simp⟩) hH ?_
  try simp only [Act.put]
  refine wpAnyH_take (i := 8) (v := .iface 99 (.agg #[.string n])) rfl (by kernel_rfl) (by kernel_rfl) (by kernel_rfl) (fun _ _ _ h => h) (.inl ⟨by kernel_rfl, fun u hu => by have d : u.cell? ⟨y.heap.size, 0, none⟩ = some (.iface 99 (.agg #[.string n])) := hu.2.c 0 _ rfl; go_simp⟩) hH ?_
  try simp only [Act.put]
  refine wpAnyH_take (i := 9) (v := .int .i64 0) rfl (by kernel_rfl) (by kernel_rfl) (by kernel_rfl) (fun _ _ _ h => h) (.inl ⟨by kernel_rfl, fun u hu => by go_simp⟩) hH ?_
  try simp only [Act.put]
  refine wpAnyH_ready (rs := [10]) (by kernel_rfl) (by simp) (AllReadyH.cons rfl (fun K hK => ?_) AllReadyH.nil)
  rw [if_pos (by rfl)]
  go_wp2_with (go_at_call 118; refine (hBt.out _ KB.out).mono ?_; rintro e z2 ⟨sp2, cap2, rfl, H⟩)
  have K2 : Hid (Below y.heap.size y z2) := of_below KB.out H.out.2
  have P2 : Hid (Bx z2 y.heap.size (lpA ⟨99, .agg #[.string n], a⟩) 87) := hH.2.below H.out.2
  refine hK.out _ _ ⟨h.out.bx.below K2.out, P2.out⟩ (fun hH => ?_)
  clear hK K
  try simp only [Act.put, List.setIfInBounds_toArray, List.set_cons_zero, List.set_cons_succ]
  refine wpAnyH_ready (rs := [11]) (by kernel_rfl) (by simp) (AllReadyH.cons rfl (fun K hK => ?_) AllReadyH.nil)
  rw [if_pos (by rfl)]
  refine wp_copyA (.tmp 22) (.tmp 26) rfl q.b od (65536 - a) (65536 - a) sp2 R.length cap2 rfl rfl M (h.out.b.below K2.out) R rfl hbd.out.2 H.out.1 hbd.out.1 ?_
  intro z3 hw
  have W3 : Hid (Wr B q s (splice M od R) vl l y z3) := (h.out.below K2.out).wrote hB.out K2.out hw.out
  refine hK.out _ _ ⟨W3.out.sh.bx, bx_other (h.out.b.below K2.out) (by decide) hw.out.2.2 P2.out⟩ (fun _ => ?_)
  refine wpAnyH_done (by kernel_rfl) ?_ _
  clear hK K hw K2 H P2 hH
  go_wp2
  exact hfin.out _ _ rfl W3.out
theorem fill_move (B : Nat) (q : Nu) (s : Sh) (M : List UInt8) (hM : M.length = 65536) (vl : Value) (l : List Lp) (y : World) (h : Hid (Sht B q s M vl l y)) (a : Nat) (ha : a ≤ 65536) (n : Int) (hfit : a + (([] : List UInt8)).length ≤ 65536) :
    Calls Tryd.prog 38 #[.pointer (some ⟨q.s, 0, none⟩), .agg (lpA ⟨101, .agg #[.int .i64 n], a⟩)] y (FiE B q s M vl l 0 a ([] : List UInt8) y) := by
  have K0 : Hid (Fm y [(y.heap.size, lpA ⟨101, .agg #[.int .i64 n], a⟩, 87)] (y.alloc (.cells (lpA ⟨101, .agg #[.int .i64 n], a⟩) 87))) := Fm.one y _ _
  have hTg : Hid (∀ u, Below y.heap.size y u → Calls Tryd.prog 50 #[.pointer (some ⟨q.s, 0, none⟩), .agg (lpA ⟨101, .agg #[.int .i64 n], a⟩)] u fun e z => e = .returned (.tuple #[.int .i64 0, .int .i64 0]) ∧ Below u.heap.size u z) := fun u hu => target_move q u n a
  have hBt : Hid (∀ u, Below y.heap.size y u → Calls Tryd.prog 121 #[.agg #[.int .i64 n], .int .i64 0] u (BtE u ([] : List UInt8))) := fun u hu => bytes_move u n 0
  obtain ⟨od, hs, ho1, ho2⟩ := slFrom q.b a ha
  have e9 : splice M od ([] : List UInt8) = splice M a ([] : List UInt8) := by
    by_cases h9 : a < 65536
    · rw [ho1 h9]
    · have h0 : ([] : List UInt8) = [] := List.length_eq_zero_iff.1 (by omega)
      rw [h0]
      simp [splice]
  have hfin : Hid (∀ e z, e = .returned (.int .i64 0) → Wr B q s (splice M od ([] : List UInt8)) vl l y z → FiE B q s M vl l 0 a ([] : List UInt8) y e z) := fun e z h1 h2 => ⟨h1, h2.low, fun _ => by rw [← e9]; exact h2⟩
  have hbd : Hid (od + (([] : List UInt8)).length ≤ M.length ∧ (([] : List UInt8)).length ≤ 65536 - a) := ⟨by omega, by omega⟩
  have hB : Hid (B ≤ y.heap.size) := h.out.Ble
  generalize ([] : List UInt8) = R at hBt hfin hbd ⊢
  generalize FiE B q s M vl l 0 a R y = Fin at hfin ⊢
  clear ho1 ho2 e9 hfit hM ha
  go_enter Tryd.func38, Tryd.ntmps38
  go_wp2_with (first
    | ((with_reducible refine at_load rtLp y.heap.size (lpA ⟨101, .agg #[.int .i64 n], a⟩) ?_ ?_ (.tmp 3) ?_ ?_ ?_ ?_); exact K0.out.bx 0 _ _ _ rfl; rfl; rfl; rfl; rfl)
    | (go_at_call 50; refine (hTg.out _ K0.out.low).mono ?_; rintro e z ⟨rfl, H⟩; have K1 : Hid (Fm y [(y.heap.size, lpA ⟨101, .agg #[.int .i64 n], a⟩, 87)] z) := K0.out.below H; clear H hTg))
  refine wp_region_held_drew (S := fun u => Bx u q.s (sC q s.p vl) 85 ∧ Bx u y.heap.size (lpA ⟨101, .agg #[.int .i64 n], a⟩) 87) (by kernel_rfl) ⟨h.out.bx.below (below_drew K1.out.low), (K1.out.bx 0 _ _ _ rfl).below (below_drew (Below.refl _ _))⟩ (fun hH => ?_)
  have KB : Hid (Below y.heap.size y z.drew) := below_drew K1.out.low
  clear K1
  generalize z.drew = z1 at hH KB ⊢
  refine wpAnyH_take (i := 0) (v := .pointer (some ⟨q.s, 0, none⟩)) rfl (by kernel_rfl) (by kernel_rfl) (by kernel_rfl) (fun _ _ _ h => h) (.inl ⟨by kernel_rfl, fun u hu => by go_simp⟩) hH ?_
  try simp only [Act.put, List.setIfInBounds_toArray]
  refine wpAnyH_take (i := 1) (v := .pointer (some ⟨q.s, 0, none⟩)) rfl (by kernel_rfl) (by kernel_rfl) (by kernel_rfl) (fun _ _ _ h => h) (.inl ⟨by kernel_rfl, fun u hu => by go_simp⟩) hH ?_
  try simp only [Act.put]
  refine wpAnyH_take (i := 2) (v := .pointer (some ⟨q.s, 3, none⟩)) rfl (by kernel_rfl) (by kernel_rfl) (by kernel_rfl) (fun _ _ _ h => h) (.inl ⟨by kernel_rfl, fun u hu => by go_simp⟩) hH ?_
  try simp only [Act.put]
  refine wpAnyH_take (i := 3) (v := .slice (some ⟨q.b, 0, none⟩) 65536 65536) rfl (by kernel_rfl) (by kernel_rfl) (by kernel_rfl) (fun _ _ _ h => h) (.inl ⟨by kernel_rfl, fun u hu => by have d : u.cell? ⟨q.s, 3, none⟩ = some (.slice (some ⟨q.b, 0, none⟩) 65536 65536) := hu.1.c 3 _ rfl; go_simp⟩) hH ?_
  try simp only [Act.put]
  refine wpAnyH_take (i := 4) (v := .pointer (some ⟨y.heap.size, 1, none⟩)) rfl (by kernel_rfl) (by kernel_rfl) (by kernel_rfl) (fun _ _ _ h => h) (.inl ⟨by kernel_rfl, fun u hu => by go_simp⟩) hH ?_
  try simp only [Act.put]
  refine wpAnyH_take (i := 5) (v := .int .i64 (a : Int)) rfl (by kernel_rfl) (by kernel_rfl) (by kernel_rfl) (fun _ _ _ h => h) (.inl ⟨by kernel_rfl, fun u hu => by have d : u.cell? ⟨y.heap.size, 1, none⟩ = some (.int .i64 (a : Int)) := hu.2.c 1 _ rfl; go_simp⟩) hH ?_
  try simp only [Act.put]
  refine wpAnyH_take (i := 6) (v := .slice (some ⟨q.b, od, none⟩) (65536 - a) (65536 - a)) rfl (by kernel_rfl) (by kernel_rfl) (by kernel_rfl) (fun _ _ _ h => h) (.inl ⟨by kernel_rfl, fun u hu => by have d := hs u; go_simp⟩) hH ?_
  try simp only [Act.put]
  refine wpAnyH_take (i := 7) (v := .pointer (some ⟨y.heap.size, 0, none⟩)) rfl (by kernel_rfl) (by kernel_rfl) (by kernel_rfl) (fun _ _ _ h => h) (.inl ⟨by kernel_rfl, fun u hu => by go_simp⟩) hH ?_
  try simp only [Act.put]
  refine wpAnyH_take (i := 8) (v := .iface 101 (.agg #[.int .i64 n])) rfl (by kernel_rfl) (by kernel_rfl) (by kernel_rfl) (fun _ _ _ h => h) (.inl ⟨by kernel_rfl, fun u hu => by have d : u.cell? ⟨y.heap.size, 0, none⟩ = some (.iface 101 (.agg #[.int .i64 n])) := hu.2.c 0 _ rfl; go_simp⟩) hH ?_
  try simp only [Act.put]
  refine wpAnyH_take (i := 9) (v := .int .i64 0) rfl (by kernel_rfl) (by kernel_rfl) (by kernel_rfl) (fun _ _ _ h => h) (.inl ⟨by kernel_rfl, fun u hu => by go_simp⟩) hH ?_
  try simp only [Act.put]
  refine wpAnyH_ready (rs := [10]) (by kernel_rfl) (by simp) (AllReadyH.cons rfl (fun K hK => ?_) AllReadyH.nil)
  rw [if_pos (by rfl)]
  go_wp2_with (go_at_call 121; refine (hBt.out _ KB.out).mono ?_; rintro e z2 ⟨sp2, cap2, rfl, H⟩)
  have K2 : Hid (Below y.heap.size y z2) := of_below KB.out H.out.2
  have P2 : Hid (Bx z2 y.heap.size (lpA ⟨101, .agg #[.int .i64 n], a⟩) 87) := hH.2.below H.out.2
  refine hK.out _ _ ⟨h.out.bx.below K2.out, P2.out⟩ (fun hH => ?_)
  clear hK K
  try simp only [Act.put, List.setIfInBounds_toArray, List.set_cons_zero, List.set_cons_succ]
  refine wpAnyH_ready (rs := [11]) (by kernel_rfl) (by simp) (AllReadyH.cons rfl (fun K hK => ?_) AllReadyH.nil)
  rw [if_pos (by rfl)]
  refine wp_copyA (.tmp 22) (.tmp 26) rfl q.b od (65536 - a) (65536 - a) sp2 R.length cap2 rfl rfl M (h.out.b.below K2.out) R rfl hbd.out.2 H.out.1 hbd.out.1 ?_
  intro z3 hw
  have W3 : Hid (Wr B q s (splice M od R) vl l y z3) := (h.out.below K2.out).wrote hB.out K2.out hw.out
  refine hK.out _ _ ⟨W3.out.sh.bx, bx_other (h.out.b.below K2.out) (by decide) hw.out.2.2 P2.out⟩ (fun _ => ?_)
  refine wpAnyH_done (by kernel_rfl) ?_ _
  clear hK K hw K2 H P2 hH
  go_wp2
  exact hfin.out _ _ rfl W3.out
theorem fill_data (B : Nat) (q : Nu) (s : Sh) (M : List UInt8) (hM : M.length = 65536) (vl : Value) (l : List Lp) (y : World) (h : Hid (Sht B q s M vl l y)) (a : Nat) (ha : a ≤ 65536) (sp : Option Addr) (m cap : Nat) (L : List UInt8) (hm : L.length = m) (hL : LB8 y sp L) (hfit : a + (L).length ≤ 65536) :
    Calls Tryd.prog 38 #[.pointer (some ⟨q.s, 0, none⟩), .agg (lpA ⟨103, .agg #[.slice sp m cap], a⟩)] y (FiE B q s M vl l 0 a L y) := by
  have K0 : Hid (Fm y [(y.heap.size, lpA ⟨103, .agg #[.slice sp m cap], a⟩, 87)] (y.alloc (.cells (lpA ⟨103, .agg #[.slice sp m cap], a⟩) 87))) := Fm.one y _ _
  have hTg : Hid (∀ u, Below y.heap.size y u → Calls Tryd.prog 50 #[.pointer (some ⟨q.s, 0, none⟩), .agg (lpA ⟨103, .agg #[.slice sp m cap], a⟩)] u fun e z => e = .returned (.tuple #[.int .i64 0, .int .i64 0]) ∧ Below u.heap.size u z) := fun u hu => target_data q u sp m cap a
  have hBt : Hid (∀ u, Below y.heap.size y u → Calls Tryd.prog 123 #[.agg #[.slice sp m cap], .int .i64 0] u (BtE u L)) := fun u hu => bytes_data u sp m cap L hm (hL.below hu) 0
  obtain ⟨od, hs, ho1, ho2⟩ := slFrom q.b a ha
  have e9 : splice M od L = splice M a L := by
    by_cases h9 : a < 65536
    · rw [ho1 h9]
    · have h0 : L = [] := List.length_eq_zero_iff.1 (by omega)
      rw [h0]
      simp [splice]
  have hfin : Hid (∀ e z, e = .returned (.int .i64 0) → Wr B q s (splice M od L) vl l y z → FiE B q s M vl l 0 a L y e z) := fun e z h1 h2 => ⟨h1, h2.low, fun _ => by rw [← e9]; exact h2⟩
  have hbd : Hid (od + (L).length ≤ M.length ∧ (L).length ≤ 65536 - a) := ⟨by omega, by omega⟩
  have hB : Hid (B ≤ y.heap.size) := h.out.Ble
  generalize L = R at hBt hfin hbd ⊢
  generalize FiE B q s M vl l 0 a R y = Fin at hfin ⊢
  clear ho1 ho2 e9 hfit hM ha
  go_enter Tryd.func38, Tryd.ntmps38
  go_wp2_with (first
    | ((with_reducible refine at_load rtLp y.heap.size (lpA ⟨103, .agg #[.slice sp m cap], a⟩) ?_ ?_ (.tmp 3) ?_ ?_ ?_ ?_); exact K0.out.bx 0 _ _ _ rfl; rfl; rfl; rfl; rfl)
    | (go_at_call 50; refine (hTg.out _ K0.out.low).mono ?_; rintro e z ⟨rfl, H⟩; have K1 : Hid (Fm y [(y.heap.size, lpA ⟨103, .agg #[.slice sp m cap], a⟩, 87)] z) := K0.out.below H; clear H hTg))
  refine wp_region_held_drew (S := fun u => Bx u q.s (sC q s.p vl) 85 ∧ Bx u y.heap.size (lpA ⟨103, .agg #[.slice sp m cap], a⟩) 87) (by kernel_rfl) ⟨h.out.bx.below (below_drew K1.out.low), (K1.out.bx 0 _ _ _ rfl).below (below_drew (Below.refl _ _))⟩ (fun hH => ?_)
  have KB : Hid (Below y.heap.size y z.drew) := below_drew K1.out.low
  clear K1
  generalize z.drew = z1 at hH KB ⊢
  refine wpAnyH_take (i := 0) (v := .pointer (some ⟨q.s, 0, none⟩)) rfl (by kernel_rfl) (by kernel_rfl) (by kernel_rfl) (fun _ _ _ h => h) (.inl ⟨by kernel_rfl, fun u hu => by go_simp⟩) hH ?_
  try simp only [Act.put, List.setIfInBounds_toArray]
  refine wpAnyH_take (i := 1) (v := .pointer (some ⟨q.s, 0, none⟩)) rfl (by kernel_rfl) (by kernel_rfl) (by kernel_rfl) (fun _ _ _ h => h) (.inl ⟨by kernel_rfl, fun u hu => by go_simp⟩) hH ?_
  try simp only [Act.put]
  refine wpAnyH_take (i := 2) (v := .pointer (some ⟨q.s, 3, none⟩)) rfl (by kernel_rfl) (by kernel_rfl) (by kernel_rfl) (fun _ _ _ h => h) (.inl ⟨by kernel_rfl, fun u hu => by go_simp⟩) hH ?_
  try simp only [Act.put]
  refine wpAnyH_take (i := 3) (v := .slice (some ⟨q.b, 0, none⟩) 65536 65536) rfl (by kernel_rfl) (by kernel_rfl) (by kernel_rfl) (fun _ _ _ h => h) (.inl ⟨by kernel_rfl, fun u hu => by have d : u.cell? ⟨q.s, 3, none⟩ = some (.slice (some ⟨q.b, 0, none⟩) 65536 65536) := hu.1.c 3 _ rfl; go_simp⟩) hH ?_
  try simp only [Act.put]
  refine wpAnyH_take (i := 4) (v := .pointer (some ⟨y.heap.size, 1, none⟩)) rfl (by kernel_rfl) (by kernel_rfl) (by kernel_rfl) (fun _ _ _ h => h) (.inl ⟨by kernel_rfl, fun u hu => by go_simp⟩) hH ?_
  try simp only [Act.put]
  refine wpAnyH_take (i := 5) (v := .int .i64 (a : Int)) rfl (by kernel_rfl) (by kernel_rfl) (by kernel_rfl) (fun _ _ _ h => h) (.inl ⟨by kernel_rfl, fun u hu => by have d : u.cell? ⟨y.heap.size, 1, none⟩ = some (.int .i64 (a : Int)) := hu.2.c 1 _ rfl; go_simp⟩) hH ?_
  try simp only [Act.put]
  refine wpAnyH_take (i := 6) (v := .slice (some ⟨q.b, od, none⟩) (65536 - a) (65536 - a)) rfl (by kernel_rfl) (by kernel_rfl) (by kernel_rfl) (fun _ _ _ h => h) (.inl ⟨by kernel_rfl, fun u hu => by have d := hs u; go_simp⟩) hH ?_
  try simp only [Act.put]
  refine wpAnyH_take (i := 7) (v := .pointer (some ⟨y.heap.size, 0, none⟩)) rfl (by kernel_rfl) (by kernel_rfl) (by kernel_rfl) (fun _ _ _ h => h) (.inl ⟨by kernel_rfl, fun u hu => by go_simp⟩) hH ?_
  try simp only [Act.put]
  refine wpAnyH_take (i := 8) (v := .iface 103 (.agg #[.slice sp m cap])) rfl (by kernel_rfl) (by kernel_rfl) (by kernel_rfl) (fun _ _ _ h => h) (.inl ⟨by kernel_rfl, fun u hu => by have d : u.cell? ⟨y.heap.size, 0, none⟩ = some (.iface 103 (.agg #[.slice sp m cap])) := hu.2.c 0 _ rfl; go_simp⟩) hH ?_
  try simp only [Act.put]
  refine wpAnyH_take (i := 9) (v := .int .i64 0) rfl (by kernel_rfl) (by kernel_rfl) (by kernel_rfl) (fun _ _ _ h => h) (.inl ⟨by kernel_rfl, fun u hu => by go_simp⟩) hH ?_
  try simp only [Act.put]
  refine wpAnyH_ready (rs := [10]) (by kernel_rfl) (by simp) (AllReadyH.cons rfl (fun K hK => ?_) AllReadyH.nil)
  rw [if_pos (by rfl)]
  go_wp2_with (go_at_call 123; refine (hBt.out _ KB.out).mono ?_; rintro e z2 ⟨sp2, cap2, rfl, H⟩)
  have K2 : Hid (Below y.heap.size y z2) := of_below KB.out H.out.2
  have P2 : Hid (Bx z2 y.heap.size (lpA ⟨103, .agg #[.slice sp m cap], a⟩) 87) := hH.2.below H.out.2
  refine hK.out _ _ ⟨h.out.bx.below K2.out, P2.out⟩ (fun hH => ?_)
  clear hK K
  try simp only [Act.put, List.setIfInBounds_toArray, List.set_cons_zero, List.set_cons_succ]
  refine wpAnyH_ready (rs := [11]) (by kernel_rfl) (by simp) (AllReadyH.cons rfl (fun K hK => ?_) AllReadyH.nil)
  rw [if_pos (by rfl)]
  refine wp_copyA (.tmp 22) (.tmp 26) rfl q.b od (65536 - a) (65536 - a) sp2 R.length cap2 rfl rfl M (h.out.b.below K2.out) R rfl hbd.out.2 H.out.1 hbd.out.1 ?_
  intro z3 hw
  have W3 : Hid (Wr B q s (splice M od R) vl l y z3) := (h.out.below K2.out).wrote hB.out K2.out hw.out
  refine hK.out _ _ ⟨W3.out.sh.bx, bx_other (h.out.b.below K2.out) (by decide) hw.out.2.2 P2.out⟩ (fun _ => ?_)
  refine wpAnyH_done (by kernel_rfl) ?_ _
  clear hK K hw K2 H P2 hH
  go_wp2
  exact hfin.out _ _ rfl W3.out
theorem fill_plain (B : Nat) (q : Nu) (s : Sh) (M : List UInt8) (hM : M.length = 65536) (vl : Value) (l : List Lp) (y : World) (h : Hid (Sht B q s M vl l y)) (a : Nat) (ha : a ≤ 65536) (sp : Option Addr) (m cap : Nat) (L : List UInt8) (hm : L.length = m) (hL : LB8 y sp L) (hfit : a + (L).length ≤ 65536) :
    Calls Tryd.prog 38 #[.pointer (some ⟨q.s, 0, none⟩), .agg (lpA ⟨107, .agg #[.slice sp m cap], a⟩)] y (FiE B q s M vl l 0 a L y) := by
  have K0 : Hid (Fm y [(y.heap.size, lpA ⟨107, .agg #[.slice sp m cap], a⟩, 87)] (y.alloc (.cells (lpA ⟨107, .agg #[.slice sp m cap], a⟩) 87))) := Fm.one y _ _
  have hTg : Hid (∀ u, Below y.heap.size y u → Calls Tryd.prog 50 #[.pointer (some ⟨q.s, 0, none⟩), .agg (lpA ⟨107, .agg #[.slice sp m cap], a⟩)] u fun e z => e = .returned (.tuple #[.int .i64 0, .int .i64 0]) ∧ Below u.heap.size u z) := fun u hu => target_plain q u sp m cap a
  have hBt : Hid (∀ u, Below y.heap.size y u → Calls Tryd.prog 128 #[.agg #[.slice sp m cap], .int .i64 0] u (BtE u L)) := fun u hu => bytes_plain u sp m cap L hm (hL.below hu) 0
  obtain ⟨od, hs, ho1, ho2⟩ := slFrom q.b a ha
  have e9 : splice M od L = splice M a L := by
    by_cases h9 : a < 65536
    · rw [ho1 h9]
    · have h0 : L = [] := List.length_eq_zero_iff.1 (by omega)
      rw [h0]
      simp [splice]
  have hfin : Hid (∀ e z, e = .returned (.int .i64 0) → Wr B q s (splice M od L) vl l y z → FiE B q s M vl l 0 a L y e z) := fun e z h1 h2 => ⟨h1, h2.low, fun _ => by rw [← e9]; exact h2⟩
  have hbd : Hid (od + (L).length ≤ M.length ∧ (L).length ≤ 65536 - a) := ⟨by omega, by omega⟩
  have hB : Hid (B ≤ y.heap.size) := h.out.Ble
  generalize L = R at hBt hfin hbd ⊢
  generalize FiE B q s M vl l 0 a R y = Fin at hfin ⊢
  clear ho1 ho2 e9 hfit hM ha
  go_enter Tryd.func38, Tryd.ntmps38
  go_wp2_with (first
    | ((with_reducible refine at_load rtLp y.heap.size (lpA ⟨107, .agg #[.slice sp m cap], a⟩) ?_ ?_ (.tmp 3) ?_ ?_ ?_ ?_); exact K0.out.bx 0 _ _ _ rfl; rfl; rfl; rfl; rfl)
    | (go_at_call 50; refine (hTg.out _ K0.out.low).mono ?_; rintro e z ⟨rfl, H⟩; have K1 : Hid (Fm y [(y.heap.size, lpA ⟨107, .agg #[.slice sp m cap], a⟩, 87)] z) := K0.out.below H; clear H hTg))
  refine wp_region_held_drew (S := fun u => Bx u q.s (sC q s.p vl) 85 ∧ Bx u y.heap.size (lpA ⟨107, .agg #[.slice sp m cap], a⟩) 87) (by kernel_rfl) ⟨h.out.bx.below (below_drew K1.out.low), (K1.out.bx 0 _ _ _ rfl).below (below_drew (Below.refl _ _))⟩ (fun hH => ?_)
  have KB : Hid (Below y.heap.size y z.drew) := below_drew K1.out.low
  clear K1
  generalize z.drew = z1 at hH KB ⊢
  refine wpAnyH_take (i := 0) (v := .pointer (some ⟨q.s, 0, none⟩)) rfl (by kernel_rfl) (by kernel_rfl) (by kernel_rfl) (fun _ _ _ h => h) (.inl ⟨by kernel_rfl, fun u hu => by go_simp⟩) hH ?_
  try simp only [Act.put, List.setIfInBounds_toArray]
  refine wpAnyH_take (i := 1) (v := .pointer (some ⟨q.s, 0, none⟩)) rfl (by kernel_rfl) (by kernel_rfl) (by kernel_rfl) (fun _ _ _ h => h) (.inl ⟨by kernel_rfl, fun u hu => by go_simp⟩) hH ?_
  try simp only [Act.put]
  refine wpAnyH_take (i := 2) (v := .pointer (some ⟨q.s, 3, none⟩)) rfl (by kernel_rfl) (by kernel_rfl) (by kernel_rfl) (fun _ _ _ h => h) (.inl ⟨by kernel_rfl, fun u hu => by go_simp⟩) hH ?_
  try simp only [Act.put]
  refine wpAnyH_take (i := 3) (v := .slice (some ⟨q.b, 0, none⟩) 65536 65536) rfl (by kernel_rfl) (by kernel_rfl) (by kernel_rfl) (fun _ _ _ h => h) (.inl ⟨by kernel_rfl, fun u hu => by have d : u.cell? ⟨q.s, 3, none⟩ = some (.slice (some ⟨q.b, 0, none⟩) 65536 65536) := hu.1.c 3 _ rfl; go_simp⟩) hH ?_
  try simp only [Act.put]
  refine wpAnyH_take (i := 4) (v := .pointer (some ⟨y.heap.size, 1, none⟩)) rfl (by kernel_rfl) (by kernel_rfl) (by kernel_rfl) (fun _ _ _ h => h) (.inl ⟨by kernel_rfl, fun u hu => by go_simp⟩) hH ?_
  try simp only [Act.put]
  refine wpAnyH_take (i := 5) (v := .int .i64 (a : Int)) rfl (by kernel_rfl) (by kernel_rfl) (by kernel_rfl) (fun _ _ _ h => h) (.inl ⟨by kernel_rfl, fun u hu => by have d : u.cell? ⟨y.heap.size, 1, none⟩ = some (.int .i64 (a : Int)) := hu.2.c 1 _ rfl; go_simp⟩) hH ?_
  try simp only [Act.put]
  refine wpAnyH_take (i := 6) (v := .slice (some ⟨q.b, od, none⟩) (65536 - a) (65536 - a)) rfl (by kernel_rfl) (by kernel_rfl) (by kernel_rfl) (fun _ _ _ h => h) (.inl ⟨by kernel_rfl, fun u hu => by have d := hs u; go_simp⟩) hH ?_
  try simp only [Act.put]
  refine wpAnyH_take (i := 7) (v := .pointer (some ⟨y.heap.size, 0, none⟩)) rfl (by kernel_rfl) (by kernel_rfl) (by kernel_rfl) (fun _ _ _ h => h) (.inl ⟨by kernel_rfl, fun u hu => by go_simp⟩) hH ?_
  try simp only [Act.put]
  refine wpAnyH_take (i := 8) (v := .iface 107 (.agg #[.slice sp m cap])) rfl (by kernel_rfl) (by kernel_rfl) (by kernel_rfl) (fun _ _ _ h => h) (.inl ⟨by kernel_rfl, fun u hu => by have d : u.cell? ⟨y.heap.size, 0, none⟩ = some (.iface 107 (.agg #[.slice sp m cap])) := hu.2.c 0 _ rfl; go_simp⟩) hH ?_
  try simp only [Act.put]
  refine wpAnyH_take (i := 9) (v := .int .i64 0) rfl (by kernel_rfl) (by kernel_rfl) (by kernel_rfl) (fun _ _ _ h => h) (.inl ⟨by kernel_rfl, fun u hu => by go_simp⟩) hH ?_
  try simp only [Act.put]
  refine wpAnyH_ready (rs := [10]) (by kernel_rfl) (by simp) (AllReadyH.cons rfl (fun K hK => ?_) AllReadyH.nil)
  rw [if_pos (by rfl)]
  go_wp2_with (go_at_call 128; refine (hBt.out _ KB.out).mono ?_; rintro e z2 ⟨sp2, cap2, rfl, H⟩)
  have K2 : Hid (Below y.heap.size y z2) := of_below KB.out H.out.2
  have P2 : Hid (Bx z2 y.heap.size (lpA ⟨107, .agg #[.slice sp m cap], a⟩) 87) := hH.2.below H.out.2
  refine hK.out _ _ ⟨h.out.bx.below K2.out, P2.out⟩ (fun hH => ?_)
  clear hK K
  try simp only [Act.put, List.setIfInBounds_toArray, List.set_cons_zero, List.set_cons_succ]
  refine wpAnyH_ready (rs := [11]) (by kernel_rfl) (by simp) (AllReadyH.cons rfl (fun K hK => ?_) AllReadyH.nil)
  rw [if_pos (by rfl)]
  refine wp_copyA (.tmp 22) (.tmp 26) rfl q.b od (65536 - a) (65536 - a) sp2 R.length cap2 rfl rfl M (h.out.b.below K2.out) R rfl hbd.out.2 H.out.1 hbd.out.1 ?_
  intro z3 hw
  have W3 : Hid (Wr B q s (splice M od R) vl l y z3) := (h.out.below K2.out).wrote hB.out K2.out hw.out
  refine hK.out _ _ ⟨W3.out.sh.bx, bx_other (h.out.b.below K2.out) (by decide) hw.out.2.2 P2.out⟩ (fun _ => ?_)
  refine wpAnyH_done (by kernel_rfl) ?_ _
  clear hK K hw K2 H P2 hH
  go_wp2
  exact hfin.out _ _ rfl W3.out
theorem fill_address (B : Nat) (q : Nu) (s : Sh) (M : List UInt8) (hM : M.length = 65536) (vl : Value) (l : List Lp) (y : World) (h : Hid (Sht B q s M vl l y)) (a : Nat) (ha : a ≤ 65536) (n : ByteArray) (t : Nat) (ht : lookN s.N n = some t) (hfit : a + ([UInt8.ofNat (t / 256), UInt8.ofNat t]).length ≤ 65536) :
    Calls Tryd.prog 38 #[.pointer (some ⟨q.s, 0, none⟩), .agg (lpA ⟨105, .agg #[.string n], a⟩)] y (FiE B q s M vl l 0 a [UInt8.ofNat (t / 256), UInt8.ofNat t] y) := by
  have K0 : Hid (Fm y [(y.heap.size, lpA ⟨105, .agg #[.string n], a⟩, 87)] (y.alloc (.cells (lpA ⟨105, .agg #[.string n], a⟩) 87))) := Fm.one y _ _
  have hTg : Hid (∀ u, Below y.heap.size y u → Calls Tryd.prog 50 #[.pointer (some ⟨q.s, 0, none⟩), .agg (lpA ⟨105, .agg #[.string n], a⟩)] u fun e z => e = .returned (.tuple #[.int .i64 (t : Int), .int .i64 0]) ∧ Below u.heap.size u z) := fun u hu => by
    have c := target_address q s.p vl s.N u (h.out.bx.below hu) (h.out.m.keep (hu.block _ h.out.m.lt)) n a
    unfold fdE at c
    rw [ht] at c
    exact c
  have hBt : Hid (∀ u, Below y.heap.size y u → Calls Tryd.prog 126 #[.agg #[.string n], .int .i64 (t : Int)] u (BtE u [UInt8.ofNat (t / 256), UInt8.ofNat t])) := fun u hu => bytes_address u n t (look_le h.out.ok.n ht)
  obtain ⟨od, hs, ho1, ho2⟩ := slFrom q.b a ha
  have e9 : splice M od [UInt8.ofNat (t / 256), UInt8.ofNat t] = splice M a [UInt8.ofNat (t / 256), UInt8.ofNat t] := by
    by_cases h9 : a < 65536
    · rw [ho1 h9]
    · have h0 : [UInt8.ofNat (t / 256), UInt8.ofNat t] = [] := List.length_eq_zero_iff.1 (by omega)
      rw [h0]
      simp [splice]
  have hfin : Hid (∀ e z, e = .returned (.int .i64 0) → Wr B q s (splice M od [UInt8.ofNat (t / 256), UInt8.ofNat t]) vl l y z → FiE B q s M vl l 0 a [UInt8.ofNat (t / 256), UInt8.ofNat t] y e z) := fun e z h1 h2 => ⟨h1, h2.low, fun _ => by rw [← e9]; exact h2⟩
  have hbd : Hid (od + ([UInt8.ofNat (t / 256), UInt8.ofNat t]).length ≤ M.length ∧ ([UInt8.ofNat (t / 256), UInt8.ofNat t]).length ≤ 65536 - a) := ⟨by omega, by omega⟩
  have hB : Hid (B ≤ y.heap.size) := h.out.Ble
  generalize [UInt8.ofNat (t / 256), UInt8.ofNat t] = R at hBt hfin hbd ⊢
  generalize FiE B q s M vl l 0 a R y = Fin at hfin ⊢
  clear ho1 ho2 e9 hfit hM ha
  go_enter Tryd.func38, Tryd.ntmps38
  go_wp2_with (first
    | ((with_reducible refine at_load rtLp y.heap.size (lpA ⟨105, .agg #[.string n], a⟩) ?_ ?_ (.tmp 3) ?_ ?_ ?_ ?_); exact K0.out.bx 0 _ _ _ rfl; rfl; rfl; rfl; rfl)
    | (go_at_call 50; refine (hTg.out _ K0.out.low).mono ?_; rintro e z ⟨rfl, H⟩; have K1 : Hid (Fm y [(y.heap.size, lpA ⟨105, .agg #[.string n], a⟩, 87)] z) := K0.out.below H; clear H hTg))
  refine wp_region_held_drew (S := fun u => Bx u q.s (sC q s.p vl) 85 ∧ Bx u y.heap.size (lpA ⟨105, .agg #[.string n], a⟩) 87) (by kernel_rfl) ⟨h.out.bx.below (below_drew K1.out.low), (K1.out.bx 0 _ _ _ rfl).below (below_drew (Below.refl _ _))⟩ (fun hH => ?_)
  have KB : Hid (Below y.heap.size y z.drew) := below_drew K1.out.low
  clear K1
  generalize z.drew = z1 at hH KB ⊢
  refine wpAnyH_take (i := 0) (v := .pointer (some ⟨q.s, 0, none⟩)) rfl (by kernel_rfl) (by kernel_rfl) (by kernel_rfl) (fun _ _ _ h => h) (.inl ⟨by kernel_rfl, fun u hu => by go_simp⟩) hH ?_
  try simp only [Act.put, List.setIfInBounds_toArray]
  refine wpAnyH_take (i := 1) (v := .pointer (some ⟨q.s, 0, none⟩)) rfl (by kernel_rfl) (by kernel_rfl) (by kernel_rfl) (fun _ _ _ h => h) (.inl ⟨by kernel_rfl, fun u hu => by go_simp⟩) hH ?_
  try simp only [Act.put]
  refine wpAnyH_take (i := 2) (v := .pointer (some ⟨q.s, 3, none⟩)) rfl (by kernel_rfl) (by kernel_rfl) (by kernel_rfl) (fun _ _ _ h => h) (.inl ⟨by kernel_rfl, fun u hu => by go_simp⟩) hH ?_
  try simp only [Act.put]
  refine wpAnyH_take (i := 3) (v := .slice (some ⟨q.b, 0, none⟩) 65536 65536) rfl (by kernel_rfl) (by kernel_rfl) (by kernel_rfl) (fun _ _ _ h => h) (.inl ⟨by kernel_rfl, fun u hu => by have d : u.cell? ⟨q.s, 3, none⟩ = some (.slice (some ⟨q.b, 0, none⟩) 65536 65536) := hu.1.c 3 _ rfl; go_simp⟩) hH ?_
  try simp only [Act.put]
  refine wpAnyH_take (i := 4) (v := .pointer (some ⟨y.heap.size, 1, none⟩)) rfl (by kernel_rfl) (by kernel_rfl) (by kernel_rfl) (fun _ _ _ h => h) (.inl ⟨by kernel_rfl, fun u hu => by go_simp⟩) hH ?_
  try simp only [Act.put]
  refine wpAnyH_take (i := 5) (v := .int .i64 (a : Int)) rfl (by kernel_rfl) (by kernel_rfl) (by kernel_rfl) (fun _ _ _ h => h) (.inl ⟨by kernel_rfl, fun u hu => by have d : u.cell? ⟨y.heap.size, 1, none⟩ = some (.int .i64 (a : Int)) := hu.2.c 1 _ rfl; go_simp⟩) hH ?_
  try simp only [Act.put]
  refine wpAnyH_take (i := 6) (v := .slice (some ⟨q.b, od, none⟩) (65536 - a) (65536 - a)) rfl (by kernel_rfl) (by kernel_rfl) (by kernel_rfl) (fun _ _ _ h => h) (.inl ⟨by kernel_rfl, fun u hu => by have d := hs u; go_simp⟩) hH ?_
  try simp only [Act.put]
  refine wpAnyH_take (i := 7) (v := .pointer (some ⟨y.heap.size, 0, none⟩)) rfl (by kernel_rfl) (by kernel_rfl) (by kernel_rfl) (fun _ _ _ h => h) (.inl ⟨by kernel_rfl, fun u hu => by go_simp⟩) hH ?_
  try simp only [Act.put]
  refine wpAnyH_take (i := 8) (v := .iface 105 (.agg #[.string n])) rfl (by kernel_rfl) (by kernel_rfl) (by kernel_rfl) (fun _ _ _ h => h) (.inl ⟨by kernel_rfl, fun u hu => by have d : u.cell? ⟨y.heap.size, 0, none⟩ = some (.iface 105 (.agg #[.string n])) := hu.2.c 0 _ rfl; go_simp⟩) hH ?_
  try simp only [Act.put]
  refine wpAnyH_take (i := 9) (v := .int .i64 (t : Int)) rfl (by kernel_rfl) (by kernel_rfl) (by kernel_rfl) (fun _ _ _ h => h) (.inl ⟨by kernel_rfl, fun u hu => by go_simp⟩) hH ?_
  try simp only [Act.put]
  refine wpAnyH_ready (rs := [10]) (by kernel_rfl) (by simp) (AllReadyH.cons rfl (fun K hK => ?_) AllReadyH.nil)
  rw [if_pos (by rfl)]
  go_wp2_with (go_at_call 126; refine (hBt.out _ KB.out).mono ?_; rintro e z2 ⟨sp2, cap2, rfl, H⟩)
  have K2 : Hid (Below y.heap.size y z2) := of_below KB.out H.out.2
  have P2 : Hid (Bx z2 y.heap.size (lpA ⟨105, .agg #[.string n], a⟩) 87) := hH.2.below H.out.2
  refine hK.out _ _ ⟨h.out.bx.below K2.out, P2.out⟩ (fun hH => ?_)
  clear hK K
  try simp only [Act.put, List.setIfInBounds_toArray, List.set_cons_zero, List.set_cons_succ]
  refine wpAnyH_ready (rs := [11]) (by kernel_rfl) (by simp) (AllReadyH.cons rfl (fun K hK => ?_) AllReadyH.nil)
  rw [if_pos (by rfl)]
  refine wp_copyA (.tmp 22) (.tmp 26) rfl q.b od (65536 - a) (65536 - a) sp2 R.length cap2 rfl rfl M (h.out.b.below K2.out) R rfl hbd.out.2 H.out.1 hbd.out.1 ?_
  intro z3 hw
  have W3 : Hid (Wr B q s (splice M od R) vl l y z3) := (h.out.below K2.out).wrote hB.out K2.out hw.out
  refine hK.out _ _ ⟨W3.out.sh.bx, bx_other (h.out.b.below K2.out) (by decide) hw.out.2.2 P2.out⟩ (fun _ => ?_)
  refine wpAnyH_done (by kernel_rfl) ?_ _
  clear hK K hw K2 H P2 hH
  go_wp2
  exact hfin.out _ _ rfl W3.out
theorem fill_labelled (B : Nat) (q : Nu) (s : Sh) (M : List UInt8) (hM : M.length = 65536) (vl : Value) (l : List Lp) (y : World) (h : Hid (Sht B q s M vl l y)) (a : Nat) (ha : a ≤ 65536) (X : ByteArray) (F : Int) (L0 : Nat) (cy : Int) (n : ByteArray) (p : Int) (T : Hid (Tabs y)) (t : Nat) (ht : lookN s.N n = some t) (hg : ¬ (F = 5 ∧ t / 256 ≠ (a + 1) / 256)) (k : Nat) (ho : opOf X = some k) (hm : may k (opF F p t : Nat)) (hfit : a + ((encL X (opF F p t : Nat))).length ≤ 65536) :
    Calls Tryd.prog 38 #[.pointer (some ⟨q.s, 0, none⟩), .agg (lpA ⟨114, .agg (lbC X F L0 cy n p), a⟩)] y (FiE B q s M vl l 0 a (encL X (opF F p t : Nat)) y) := by
  have K0 : Hid (Fm y [(y.heap.size, lpA ⟨114, .agg (lbC X F L0 cy n p), a⟩, 87)] (y.alloc (.cells (lpA ⟨114, .agg (lbC X F L0 cy n p), a⟩) 87))) := Fm.one y _ _
  have hTg : Hid (∀ u, Below y.heap.size y u → Calls Tryd.prog 50 #[.pointer (some ⟨q.s, 0, none⟩), .agg (lpA ⟨114, .agg (lbC X F L0 cy n p), a⟩)] u fun e z => e = .returned (.tuple #[.int .i64 (t : Int), .int .i64 0]) ∧ Below u.heap.size u z) := fun u hu => by
    have c := target_labelled q s.p vl s.N h.out.ok.n u (h.out.bx.below hu) (h.out.m.keep (hu.block _ h.out.m.lt)) X F L0 cy n p a ha
    refine c.mono fun e z ⟨g, he, hh⟩ => ?_
    have e0 : tgE s.N a F n = 0 := by unfold tgE; rw [ht]; exact if_neg hg
    have hg9 := hh.out.1 e0
    rw [ht] at hg9
    rw [e0, hg9] at he
    exact ⟨he, hh.out.2⟩
  have hBt : Hid (∀ u, Below y.heap.size y u → Calls Tryd.prog 130 #[.agg (lbC X F L0 cy n p), .int .i64 (t : Int)] u (BtE u (encL X (opF F p t : Nat)))) := fun u hu => bytes_labelled u (T.out.below hu) X F L0 cy n p t (look_le h.out.ok.n ht) k ho hm
  obtain ⟨od, hs, ho1, ho2⟩ := slFrom q.b a ha
  have e9 : splice M od (encL X (opF F p t : Nat)) = splice M a (encL X (opF F p t : Nat)) := by
    by_cases h9 : a < 65536
    · rw [ho1 h9]
    · have h0 : (encL X (opF F p t : Nat)) = [] := List.length_eq_zero_iff.1 (by omega)
      rw [h0]
      simp [splice]
  have hfin : Hid (∀ e z, e = .returned (.int .i64 0) → Wr B q s (splice M od (encL X (opF F p t : Nat))) vl l y z → FiE B q s M vl l 0 a (encL X (opF F p t : Nat)) y e z) := fun e z h1 h2 => ⟨h1, h2.low, fun _ => by rw [← e9]; exact h2⟩
  have hbd : Hid (od + ((encL X (opF F p t : Nat))).length ≤ M.length ∧ ((encL X (opF F p t : Nat))).length ≤ 65536 - a) := ⟨by omega, by omega⟩
  have hB : Hid (B ≤ y.heap.size) := h.out.Ble
  generalize (encL X (opF F p t : Nat)) = R at hBt hfin hbd ⊢
  generalize FiE B q s M vl l 0 a R y = Fin at hfin ⊢
  clear ho1 ho2 e9 hfit hM ha
  go_enter Tryd.func38, Tryd.ntmps38
  go_wp2_with (first
    | ((with_reducible refine at_load rtLp y.heap.size (lpA ⟨114, .agg (lbC X F L0 cy n p), a⟩) ?_ ?_ (.tmp 3) ?_ ?_ ?_ ?_); exact K0.out.bx 0 _ _ _ rfl; rfl; rfl; rfl; rfl)
    | (go_at_call 50; refine (hTg.out _ K0.out.low).mono ?_; rintro e z ⟨rfl, H⟩; have K1 : Hid (Fm y [(y.heap.size, lpA ⟨114, .agg (lbC X F L0 cy n p), a⟩, 87)] z) := K0.out.below H; clear H hTg))
  refine wp_region_held_drew (S := fun u => Bx u q.s (sC q s.p vl) 85 ∧ Bx u y.heap.size (lpA ⟨114, .agg (lbC X F L0 cy n p), a⟩) 87) (by kernel_rfl) ⟨h.out.bx.below (below_drew K1.out.low), (K1.out.bx 0 _ _ _ rfl).below (below_drew (Below.refl _ _))⟩ (fun hH => ?_)
  have KB : Hid (Below y.heap.size y z.drew) := below_drew K1.out.low
  clear K1
  generalize z.drew = z1 at hH KB ⊢
  refine wpAnyH_take (i := 0) (v := .pointer (some ⟨q.s, 0, none⟩)) rfl (by kernel_rfl) (by kernel_rfl) (by kernel_rfl) (fun _ _ _ h => h) (.inl ⟨by kernel_rfl, fun u hu => by go_simp⟩) hH ?_
  try simp only [Act.put, List.setIfInBounds_toArray]
  refine wpAnyH_take (i := 1) (v := .pointer (some ⟨q.s, 0, none⟩)) rfl (by kernel_rfl) (by kernel_rfl) (by kernel_rfl) (fun _ _ _ h => h) (.inl ⟨by kernel_rfl, fun u hu => by go_simp⟩) hH ?_
  try simp only [Act.put]
  refine wpAnyH_take (i := 2) (v := .pointer (some ⟨q.s, 3, none⟩)) rfl (by kernel_rfl) (by kernel_rfl) (by kernel_rfl) (fun _ _ _ h => h) (.inl ⟨by kernel_rfl, fun u hu => by go_simp⟩) hH ?_
  try simp only [Act.put]
  refine wpAnyH_take (i := 3) (v := .slice (some ⟨q.b, 0, none⟩) 65536 65536) rfl (by kernel_rfl) (by kernel_rfl) (by kernel_rfl) (fun _ _ _ h => h) (.inl ⟨by kernel_rfl, fun u hu => by have d : u.cell? ⟨q.s, 3, none⟩ = some (.slice (some ⟨q.b, 0, none⟩) 65536 65536) := hu.1.c 3 _ rfl; go_simp⟩) hH ?_
  try simp only [Act.put]
  refine wpAnyH_take (i := 4) (v := .pointer (some ⟨y.heap.size, 1, none⟩)) rfl (by kernel_rfl) (by kernel_rfl) (by kernel_rfl) (fun _ _ _ h => h) (.inl ⟨by kernel_rfl, fun u hu => by go_simp⟩) hH ?_
  try simp only [Act.put]
  refine wpAnyH_take (i := 5) (v := .int .i64 (a : Int)) rfl (by kernel_rfl) (by kernel_rfl) (by kernel_rfl) (fun _ _ _ h => h) (.inl ⟨by kernel_rfl, fun u hu => by have d : u.cell? ⟨y.heap.size, 1, none⟩ = some (.int .i64 (a : Int)) := hu.2.c 1 _ rfl; go_simp⟩) hH ?_
  try simp only [Act.put]
  refine wpAnyH_take (i := 6) (v := .slice (some ⟨q.b, od, none⟩) (65536 - a) (65536 - a)) rfl (by kernel_rfl) (by kernel_rfl) (by kernel_rfl) (fun _ _ _ h => h) (.inl ⟨by kernel_rfl, fun u hu => by have d := hs u; go_simp⟩) hH ?_
  try simp only [Act.put]
  refine wpAnyH_take (i := 7) (v := .pointer (some ⟨y.heap.size, 0, none⟩)) rfl (by kernel_rfl) (by kernel_rfl) (by kernel_rfl) (fun _ _ _ h => h) (.inl ⟨by kernel_rfl, fun u hu => by go_simp⟩) hH ?_
  try simp only [Act.put]
  refine wpAnyH_take (i := 8) (v := .iface 114 (.agg (lbC X F L0 cy n p))) rfl (by kernel_rfl) (by kernel_rfl) (by kernel_rfl) (fun _ _ _ h => h) (.inl ⟨by kernel_rfl, fun u hu => by have d : u.cell? ⟨y.heap.size, 0, none⟩ = some (.iface 114 (.agg (lbC X F L0 cy n p))) := hu.2.c 0 _ rfl; go_simp⟩) hH ?_
  try simp only [Act.put]
  refine wpAnyH_take (i := 9) (v := .int .i64 (t : Int)) rfl (by kernel_rfl) (by kernel_rfl) (by kernel_rfl) (fun _ _ _ h => h) (.inl ⟨by kernel_rfl, fun u hu => by go_simp⟩) hH ?_
  try simp only [Act.put]
  refine wpAnyH_ready (rs := [10]) (by kernel_rfl) (by simp) (AllReadyH.cons rfl (fun K hK => ?_) AllReadyH.nil)
  rw [if_pos (by rfl)]
  go_wp2_with (go_at_call 130; refine (hBt.out _ KB.out).mono ?_; rintro e z2 ⟨sp2, cap2, rfl, H⟩)
  have K2 : Hid (Below y.heap.size y z2) := of_below KB.out H.out.2
  have P2 : Hid (Bx z2 y.heap.size (lpA ⟨114, .agg (lbC X F L0 cy n p), a⟩) 87) := hH.2.below H.out.2
  refine hK.out _ _ ⟨h.out.bx.below K2.out, P2.out⟩ (fun hH => ?_)
  clear hK K
  try simp only [Act.put, List.setIfInBounds_toArray, List.set_cons_zero, List.set_cons_succ]
  refine wpAnyH_ready (rs := [11]) (by kernel_rfl) (by simp) (AllReadyH.cons rfl (fun K hK => ?_) AllReadyH.nil)
  rw [if_pos (by rfl)]
  refine wp_copyA (.tmp 22) (.tmp 26) rfl q.b od (65536 - a) (65536 - a) sp2 R.length cap2 rfl rfl M (h.out.b.below K2.out) R rfl hbd.out.2 H.out.1 hbd.out.1 ?_
  intro z3 hw
  have W3 : Hid (Wr B q s (splice M od R) vl l y z3) := (h.out.below K2.out).wrote hB.out K2.out hw.out
  refine hK.out _ _ ⟨W3.out.sh.bx, bx_other (h.out.b.below K2.out) (by decide) hw.out.2.2 P2.out⟩ (fun _ => ?_)
  refine wpAnyH_done (by kernel_rfl) ?_ _
  clear hK K hw K2 H P2 hH
  go_wp2
  exact hfin.out _ _ rfl W3.out
end Go.Proofs.YtkpfhnogpcigaaaDoorR
/- Any piece's bytes, written where it lies, or why they can't be. -/
namespace Go.Proofs.YtkpfhnogpcigaaaDoorR
open Go Go.RowKit
set_option linter.unusedVariables false
set_option maxHeartbeats 3000000
set_option maxRecDepth 20000

theorem fill_bad (B : Nat) (q : Nu) (s : Sh) (M : List UInt8) (vl : Value) (l : List Lp) (y : World) (hB : B ≤ y.heap.size) (x : Lp) (E : Int) (hE : E ≠ 0) (L : List UInt8)
    (hT : ∀ u, Below y.heap.size y u → Calls Tryd.prog 50 #[.pointer (some ⟨q.s, 0, none⟩), .agg (lpA x)] u fun e z => ∃ g : Int, e = .returned (.tuple #[.int .i64 g, .int .i64 E]) ∧ Hid (Below u.heap.size u z)) :
    Calls Tryd.prog 38 #[.pointer (some ⟨q.s, 0, none⟩), .agg (lpA x)] y (FiE B q s M vl l E x.a L y) := by
  have K0 : Hid (Fm y [(y.heap.size, lpA x, 87)] (y.alloc (.cells (lpA x) 87))) := Fm.one y _ _
  have hE' : (E != 0) = true := by rw [bne_iff_ne]; exact hE
  have hTg : Hid (∀ u, Below y.heap.size y u → Calls Tryd.prog 50 #[.pointer (some ⟨q.s, 0, none⟩), .agg (lpA x)] u fun e z => ∃ g : Int, e = .returned (.tuple #[.int .i64 g, .int .i64 E]) ∧ Hid (Below u.heap.size u z)) := hT
  have hfin : Hid (∀ z, Below y.heap.size y z → FiE B q s M vl l E x.a L y (.returned (.int .i64 E)) z) := fun z hz => ⟨rfl, hz.mono hB, fun h => absurd h hE⟩
  generalize FiE B q s M vl l E x.a L y = Fin at hfin ⊢
  clear hE hT hB
  go_enter Tryd.func38, Tryd.ntmps38
  go_wp2_with (first
    | ((with_reducible refine at_load rtLp y.heap.size (lpA x) ?_ ?_ (.tmp 3) ?_ ?_ ?_ ?_); exact K0.out.bx 0 _ _ _ rfl; rfl; rfl; rfl; rfl)
    | (go_at_call 50; refine (hTg.out _ K0.out.low).mono ?_; rintro e z ⟨g, rfl, H⟩; clear hTg))
  exact hfin.out _ (of_below K0.out.low H.out)
theorem opF_may {r : Ri} {n t : Nat} (hn : n < 256) (ht : t ≤ 65535) (htk : takesB (fm n : Nat) r.p = true) : may n ((opF (fm n : Nat) r.p t : Nat) : Int) := by
  have hf := fm_le n hn
  have l4 : lay (4 * 3 + 2) = 255 := by decide
  have l5 : lay (5 * 3 + 2) = 255 := by decide
  have l6 : lay (6 * 3 + 2) = 65535 := by decide
  have hh := (held_lt n (fm n)).2.2.2.2
  unfold takesB at htk
  unfold may opF
  by_cases h4 : fm n = 4
  · rw [h4] at htk hh ⊢
    simp at htk
    rw [hh (by decide) (by decide), l4]
    rcases htk with e | e <;> simp [e] <;> omega
  · by_cases h5 : fm n = 5
    · rw [h5] at htk hh ⊢
      simp at htk
      rw [hh (by decide) (by decide), l5]
      simp [htk]
      omega
    · by_cases h6 : fm n = 6
      · rw [h6] at htk hh ⊢
        simp at htk
        rw [hh (by decide) (by decide), l6]
        simp [htk]
        omega
      · exfalso
        have e4 : ¬ ((fm n : Nat) : Int) = 4 := by omega
        have e5 : ¬ (((fm n : Nat) : Int) = 5 ∨ ((fm n : Nat) : Int) = 6) := by omega
        rw [if_neg e4, if_neg e5] at htk
        cases htk
theorem opF_opnd {r : Ri} {n t : Nat} (ho : opOf r.n = some n) : opF (fm n : Nat) r.p t = opndI r t := by
  unfold opF opndI fmS
  rw [ho]
  simp only
  by_cases h : fm n = 5
  · have : ((fm n : Nat) : Int) = 5 := by omega
    simp [h]
  · have : ¬ ((fm n : Nat) : Int) = 5 := by omega
    simp [h, this]
theorem flB_len (N : List (ByteArray × Nat)) (x : Itm) (p : Nat) (hm : mayI x.1 = true) (hx : x.2.length = x.1.m) (h9 : flE N p x.1 = 0) : (flB N x).length = (if x.1.k = 1 ∨ x.1.k = 4 then 0 else szN x.1) := by
  unfold flB
  rcases may_kind hm with hk | hk | hk | hk | hk
  · rw [if_neg (by omega), if_neg (by omega), if_neg (by omega), if_pos (.inl hk)]; rfl
  · obtain ⟨n, ho⟩ := mayI_code hm hk
    rw [if_neg (by omega), if_neg (by omega), if_pos hk, szN_c hm hk ho, encL_len _ _ n ho, if_neg (by omega)]
  · rw [if_pos hk, if_neg (by omega), hx, (szN_k hm hk).1]
  · rw [if_neg (by omega), if_neg (by omega), if_neg (by omega), if_pos (.inr hk)]; rfl
  · rw [if_neg (by omega), if_pos hk, if_neg (by omega), szN_a hm hk]; rfl
theorem fill_any (B : Nat) (q : Nu) (s : Sh) (M : List UInt8) (hM : M.length = 65536) (vl : Value) (l : List Lp) (y : World) (T : Hid (Tabs y)) (h : Hid (Sht B q s M vl l y)) (a : Nat) (ha : a ≤ 65536) (x : Itm) (hm : mayI x.1 = true) (hx : LB8 y x.1.sp x.2 ∧ x.2.length = x.1.m)
    (t : TypeId) (v : Value) (hp : PcV q.b x.1 t v y) (hfit : (x.1.k = 1 ∨ x.1.k = 4) ∨ a + szN x.1 ≤ 65536) :
    Calls Tryd.prog 38 #[.pointer (some ⟨q.s, 0, none⟩), .agg (lpA ⟨t, v, a⟩)] y (FiE B q s M vl l (flE s.N a x.1) a (flB s.N x) y) := by
  have hB := h.out.Ble
  rcases hp with ⟨hk, rfl, rfl⟩ | ⟨hk, rfl, rfl⟩ | ⟨hk, rfl, rfl⟩ | ⟨hk, rfl, rfl⟩ | ⟨hk, hp0, rfl, ⟨g, _, rfl, hbx⟩, n, ho, hma⟩ | ⟨hk, hp0, rfl, n, ho, rfl⟩
  · have e1 : flE s.N a x.1 = 0 := by unfold flE asksI; simp [hk]
    have e2 : flB s.N x = [] := by unfold flB; simp [hk]
    rw [e1, e2]
    exact fill_label B q s M hM vl l y h a ha _ (by simpa using ha)
  · have e1 : flE s.N a x.1 = 0 := by unfold flE asksI; simp [hk]
    have e2 : flB s.N x = [] := by unfold flB; simp [hk]
    rw [e1, e2]
    exact fill_move B q s M hM vl l y h a ha _ (by simpa using ha)
  · have e1 : flE s.N a x.1 = 0 := by unfold flE asksI; simp [hk]
    have e2 : flB s.N x = x.2 := by unfold flB; simp [hk]
    rw [e1, e2]
    exact fill_data B q s M hM vl l y h a ha _ _ _ x.2 hx.2 hx.1 (by rw [hx.2, ← (szN_k hm hk).1]; omega)
  · have ea : asksI x.1 = true := by unfold asksI; simp [hk]
    rcases hf : lookN s.N x.1.l with _ | t
    · have e1 : flE s.N a x.1 = 141 := by unfold flE; rw [ea, if_pos rfl, hf]
      rw [e1]
      refine fill_bad B q s M vl l y hB ⟨105, .agg #[.string x.1.l], a⟩ 141 (by decide) _ fun u hu => ?_
      have c := target_address q s.p vl s.N u (h.out.bx.below hu) (h.out.m.keep (hu.block _ h.out.m.lt)) x.1.l a
      unfold fdE at c
      rw [hf] at c
      exact c.mono fun e z hz => ⟨_, hz.1, hz.2⟩
    · have e1 : flE s.N a x.1 = 0 := by unfold flE; rw [ea, if_pos rfl, hf]; simp [hk]
      have e2 : flB s.N x = [UInt8.ofNat (t / 256), UInt8.ofNat t] := by unfold flB tgtN; rw [ea, if_neg (by omega), if_pos hk, if_pos rfl, hf]; rfl
      rw [e1, e2]
      exact fill_address B q s M hM vl l y h a ha _ t hf (by rw [szN_a hm hk] at hfit; show a + 2 ≤ _; omega)
  · have e1 : flE s.N a x.1 = 0 := by unfold flE asksI; simp [hk, hp0]
    have e2 : flB s.N x = encL x.1.n x.1.a := by unfold flB; simp [hk, hp0]
    rw [e1, e2]
    exact fill_plain B q s M hM vl l y h a ha _ _ _ (encL x.1.n x.1.a) rfl (lb_bx hbx) (by rw [encL_len _ _ n ho, ← szN_c hm hk ho]; omega)
  · have ea : asksI x.1 = true := by unfold asksI; simp [hk, hp0]
    have ef : fmS x.1.n = fm n := by unfold fmS; rw [ho]
    have eg : flE s.N a x.1 = tgE s.N a (fm n : Nat) x.1.l := by
      unfold flE tgE
      rw [ea, if_pos rfl, ef]
      rcases lookN s.N x.1.l with _ | t
      · rfl
      · simp only
        by_cases h5 : fm n = 5
        · simp [hk, h5]
        · have : ¬ ((fm n : Nat) : Int) = 5 := by omega
          simp [h5, this]
    rw [eg]
    by_cases h0 : tgE s.N a (fm n : Nat) x.1.l = 0
    · obtain ⟨t, hf, hng⟩ : ∃ t, lookN s.N x.1.l = some t ∧ ¬ (((fm n : Nat) : Int) = 5 ∧ t / 256 ≠ (a + 1) / 256) := by
        unfold tgE at h0
        rcases hf : lookN s.N x.1.l with _ | t
        · rw [hf] at h0; simp at h0
        · rw [hf] at h0
          refine ⟨t, rfl, fun h9 => ?_⟩
          simp only at h0
          rw [if_pos h9] at h0
          omega
      obtain ⟨n', ho', htk⟩ := may_lab hm hk hp0
      rw [ho] at ho'
      cases ho'
      have hto := look_le h.out.ok.n hf
      have e2 : flB s.N x = encL x.1.n ((opF (fm n : Nat) x.1.p t : Nat) : Int) := by
        unfold flB tgtN
        rw [ea, if_neg (by omega), if_neg (by omega), if_pos hk, if_neg hp0, if_pos rfl, hf, opF_opnd ho]
        rfl
      rw [h0, e2]
      exact fill_labelled B q s M hM vl l y h a ha _ _ _ _ _ _ T t hf hng n ho (opF_may (opOf_lt ho).1 hto htk) (by rw [encL_len _ _ n ho, ← szN_c hm hk ho]; omega)
    · refine fill_bad B q s M vl l y hB ⟨114, .agg (lbC x.1.n (fm n : Nat) (lay (fm n * 3)) (cyc n : Nat) x.1.l x.1.p), a⟩ _ h0 _ fun u hu => ?_
      have c := target_labelled q s.p vl s.N h.out.ok.n u (h.out.bx.below hu) (h.out.m.keep (hu.block _ h.out.m.lt)) x.1.n (fm n : Nat) (lay (fm n * 3)) (cyc n : Nat) x.1.l x.1.p a ha
      exact c.mono fun e z ⟨g, h1, h2⟩ => ⟨g, h1, h2.out.2⟩
end Go.Proofs.YtkpfhnogpcigaaaDoorR
/- The marks of what was laid: rows of addresses at which the same lies. -/
namespace Go.Proofs.YtkpfhnogpcigaaaDoorR
open Go Go.RowKit
set_option linter.unusedVariables false
set_option maxHeartbeats 3000000
set_option maxRecDepth 20000

/-- Up to where the same lies. -/
def rEnd (U : List UInt8) (u : UInt8) (e : Nat) : Nat := e + ((U.drop e).takeWhile (fun x => decide (x = u))).length
theorem rEnd_ge (U : List UInt8) (u : UInt8) (e : Nat) : e ≤ rEnd U u e := Nat.le_add_right _ _
theorem rEnd_le (U : List UInt8) (u : UInt8) (e : Nat) (h : e ≤ U.length) : rEnd U u e ≤ U.length := by
  unfold rEnd
  have h1 : ((U.drop e).takeWhile (fun x => decide (x = u))).length ≤ (U.drop e).length := (List.takeWhile_prefix _).length_le
  rw [List.length_drop] at h1
  omega
theorem rEnd_step {U : List UInt8} {u : UInt8} {e : Nat} (h : U[e]? = some u) : rEnd U u e = rEnd U u (e + 1) := by
  unfold rEnd
  obtain ⟨h1, h2⟩ := List.getElem?_eq_some_iff.1 h
  rw [List.drop_eq_getElem_cons h1, h2, List.takeWhile_cons, if_pos (decide_eq_true rfl), List.length_cons]
  omega
theorem rEnd_stop {U : List UInt8} {u : UInt8} {e : Nat} (h : U[e]? ≠ some u) : rEnd U u e = e := by
  unfold rEnd
  rcases h0 : U[e]? with _ | x
  · have := List.getElem?_eq_none_iff.1 h0
    rw [List.drop_eq_nil_of_le this]
    rfl
  · obtain ⟨h1, h2⟩ := List.getElem?_eq_some_iff.1 h0
    have hx : x ≠ u := fun e' => h (by rw [h0, e'])
    rw [List.drop_eq_getElem_cons h1, h2, List.takeWhile_cons, if_neg (by simp [hx])]
    rfl
/-- The marks, from an address on. -/
def mks (U : List UInt8) : Nat → Nat → List Mk
  | 0, _ => []
  | f + 1, a => match U[a]? with
    | none => []
    | some u => (if u = 0 then [] else [⟨(a : Int), ((rEnd U u (a + 1) : Nat) : Int) - (a : Int), decide (u = 1)⟩]) ++ mks U f (rEnd U u (a + 1))
def marksU (U : List UInt8) : List Mk := mks U 65536 0
theorem mks_len (U : List UInt8) : ∀ (f a : Nat), a ≤ U.length → (mks U f a).length ≤ U.length - a
  | 0, a, _ => Nat.zero_le _
  | f + 1, a, ha => by
    unfold mks
    rcases h0 : U[a]? with _ | u
    · exact Nat.zero_le _
    · have h1 := (List.getElem?_eq_some_iff.1 h0).1
      have h2 := rEnd_ge U u (a + 1)
      have h3 := rEnd_le U u (a + 1) h1
      have ih := mks_len U f (rEnd U u (a + 1)) h3
      simp only [List.length_append]
      by_cases hu : u = 0
      · rw [if_pos hu]
        simp only [List.length_nil]
        omega
      · rw [if_neg hu]
        simp only [List.length_cons, List.length_nil]
        omega
theorem marks_any' (y : World) (q : Nu) (p : Nat) (vl : Value) (U : List UInt8) (hs : Hid (Bx y q.s (sC q p vl) 85)) (hu : Hid (Bx y q.u (rU U) 135)) (hU : Hid (U.length = 65536)) :
    Calls Tryd.prog 51 #[.pointer (some ⟨q.s, 0, none⟩)] y fun e z => ∃ v, e = .returned v ∧ Hid (KL 72 3 cM y v (marksU U) z) := by
  have K0 : Hid (KL 72 3 cM y (.slice none 0 0) [] y) := KL.nil y
  have hB : Hid (∀ z, Below y.heap.size y z → Bx z q.s (sC q p vl) 85 ∧ Bx z q.u (rU U) 135) := fun z hz => ⟨hs.out.below hz, hu.out.below hz⟩
  clear hs hu
  go_enter Tryd.func51, Tryd.ntmps51
  go_wp2
  go_loopw [3, 4] (fun t3 t4 wz => ∃ (a : Nat) (sl : Option Addr) (cl : Nat) (l : List Mk) (z : World), z = wz ∧ t3 = .slice sl l.length cl ∧ t4 = .int .i64 (a : Int) ∧ Hid (a ≤ 65536 ∧ (∃ f, l ++ mks U f a = marksU U ∧ 65536 - a ≤ f)) ∧ Hid (KL 72 3 cM y (.slice sl l.length cl) l z)) (fun _ t4 _ => (65536 - intOf t4).toNat)
  case atStart => exact ⟨0, _, _, [], _, rfl, rfl, rfl, ⟨Nat.zero_le _, 65536, rfl, Nat.le_refl _⟩, K0⟩
  case round =>
    obtain ⟨a, sl, cl, l, z, rfl, rfl, rfl, J, K⟩ := hrel
    clear K0
    by_cases hlt : a < 65536
    · obtain ⟨u, hx⟩ : ∃ u, U[a]? = some u := ⟨_, List.getElem?_eq_getElem (by rw [hU.out]; exact hlt)⟩
      have hai : (a : Int) < 65536 := by omega
      have hlt' : Hid (a < 65536) := hlt
      have wa : IntKind.i64.wrap ((a : Int) + 1) = (a : Int) + 1 := by rw [IntKind.wrap_i64]; omega
      have ia := fun w => idxP (P := Tryd.prog) (g := q.u) (off := 0) (len := 65536) (cap := 65536) Tryd.underlying82 (s := 1) (by kernel_rfl) .i64 a w hlt
      rw [Nat.mul_one, Nat.zero_add] at ia
      have c2 : z.cell? ⟨q.s, 2, none⟩ = some (.slice (some ⟨q.u, 0, none⟩) 65536 65536) := (hB.out z K.out.low).1.c 2 _ rfl
      have ca : z.cell? ⟨q.u, a, none⟩ = some (.int .u8 (u.toNat : Int)) := (hB.out z K.out.low).2.c _ _ (rU_get _ _ _ hx)
      have hx' : Hid (U[a]? = some u) := hx
      clear hlt hx
      go_wp2
      go_loopw [5] (fun t5 wz => ∃ (e : Nat) (x : World), x = wz ∧ t5 = .int .i64 (e : Int) ∧ Hid (a + 1 ≤ e ∧ e ≤ 65536 ∧ rEnd U u e = rEnd U u (a + 1)) ∧ Hid (Below z.heap.size z x)) (fun t5 _ => (65536 - intOf t5).toNat)
      case atStart => exact ⟨a + 1, _, rfl, by simp, ⟨Nat.le_refl _, hlt'.out, rfl⟩, Below.refl _ _⟩
      case round =>
        obtain ⟨e, x, rfl, rfl, E, X⟩ := hrel
        have K1 : Hid (KL 72 3 cM y (.slice sl l.length cl) l x) := K.out.below X.out
        clear c2 ca
        have c2 : x.cell? ⟨q.s, 2, none⟩ = some (.slice (some ⟨q.u, 0, none⟩) 65536 65536) := (hB.out x K1.out.low).1.c 2 _ rfl
        have ca : x.cell? ⟨q.u, a, none⟩ = some (.int .u8 (u.toNat : Int)) := (hB.out x K1.out.low).2.c _ _ (rU_get _ _ _ hx'.out)
        by_cases hgo : U[e]? = some u
        · have hel : e < 65536 := by have := (List.getElem?_eq_some_iff.1 hgo).1; rw [hU.out] at this; exact this
          have hei : (e : Int) < 65536 := by omega
          have we : IntKind.i64.wrap ((e : Int) + 1) = (e : Int) + 1 := by rw [IntKind.wrap_i64]; omega
          have ie := fun w => idxP (P := Tryd.prog) (g := q.u) (off := 0) (len := 65536) (cap := 65536) Tryd.underlying82 (s := 1) (by kernel_rfl) .i64 e w hel
          rw [Nat.mul_one, Nat.zero_add] at ie
          have ce : x.cell? ⟨q.u, e, none⟩ = some (.int .u8 (u.toNat : Int)) := (hB.out x K1.out.low).2.c _ _ (rU_get _ _ _ hgo)
          have hq : ((u.toNat : Int) == (u.toNat : Int)) = true := by simp
          have E' : Hid (a + 1 ≤ e + 1 ∧ e + 1 ≤ 65536 ∧ rEnd U u (e + 1) = rEnd U u (a + 1)) := ⟨by have := E.out.1; omega, hel, by rw [← rEnd_step hgo]; exact E.out.2.2⟩
          have hel' : Hid (e < 65536) := hel
          clear hgo hel
          go_wp2
          go_quiet (fail)
          go_wp2
          go_roundw
          case rel => exact ⟨e + 1, _, rfl, by simp, E', below_drewN X.out⟩
          case measure => have := hel'.out; simp [intOf]; omega
        · have hend : Hid (rEnd U u (a + 1) = e) := by show _ = _; rw [← E.out.2.2]; exact rEnd_stop hgo
          have he1 : Hid (a + 1 ≤ e ∧ e ≤ 65536) := ⟨E.out.1, E.out.2.1⟩
          have ws : IntKind.i64.wrap ((e : Int) - a) = (e : Int) - a := by rw [IntKind.wrap_i64]; have := he1.out; omega
          have hfin : Hid (∃ f, 65536 - e ≤ f ∧ (l ++ (if u = 0 then [] else [⟨(a : Int), (e : Int) - (a : Int), decide (u = 1)⟩])) ++ mks U f e = marksU U) := by
            obtain ⟨f, h1, h2⟩ := J.out.2
            rcases f with _ | f
            · have := hlt'.out; omega
            · refine ⟨f, by have := he1.out; omega, ?_⟩
              rw [← h1]
              conv => rhs; unfold mks
              rw [hx'.out]
              simp only
              rw [hend.out, List.append_assoc]
          have hlen : Hid (l.length ≤ 65536) := by
            obtain ⟨f, h1, h2⟩ := J.out.2
            have h3 := mks_len U 65536 0 (Nat.zero_le _)
            have h4 : (l ++ mks U f a).length = (mks U 65536 0).length := congrArg List.length h1
            rw [List.length_append] at h4
            rw [hU.out] at h3
            show _ ≤ _
            omega
          have hy0 : Hid (y.heap.size ≤ x.heap.size) := K1.out.low.size
          have hone : ((u.toNat : Int) == 1) = decide (u = 1) := by
            rw [Bool.eq_iff_iff]
            simp
            constructor
            · intro h9; exact UInt8.toNat_inj.1 (by have : (1 : UInt8).toNat = 1 := rfl; omega)
            · intro h9; subst h9; rfl
          have hnz : ((u.toNat : Int) != 0) = !decide (u = 0) := by
            rw [Bool.eq_iff_iff]
            simp
            constructor
            · intro h9 h8; subst h8; exact h9 rfl
            · intro h9 h8; exact h9 (UInt8.toNat_inj.1 (by have : (0 : UInt8).toNat = 0 := rfl; omega))
          clear E
          by_cases hel : e < 65536
          · obtain ⟨xe, hxe⟩ : ∃ u, U[e]? = some u := ⟨_, List.getElem?_eq_getElem (by rw [hU.out]; exact hel)⟩
            have hei : (e : Int) < 65536 := by omega
            have ie := fun w => idxP (P := Tryd.prog) (g := q.u) (off := 0) (len := 65536) (cap := 65536) Tryd.underlying82 (s := 1) (by kernel_rfl) .i64 e w hel
            rw [Nat.mul_one, Nat.zero_add] at ie
            have ce : x.cell? ⟨q.u, e, none⟩ = some (.int .u8 (xe.toNat : Int)) := (hB.out x K1.out.low).2.c _ _ (rU_get _ _ _ hxe)
            have hq : ((xe.toNat : Int) == (u.toNat : Int)) = false := by
              rw [beq_eq_false_iff_ne]
              intro h9
              exact hgo (by rw [hxe, UInt8.toNat_inj.1 (Int.ofNat.inj h9)])
            clear hgo hel hxe
            by_cases hu0 : u = 0
            · rw [decide_eq_true hu0] at hnz
              rw [if_pos hu0, List.append_nil] at hfin
              clear hu0
              go_wp2
              go_quiet (fail)
              go_wp2
              go_roundw
              case rel => exact ⟨e, _, _, l, _, rfl, rfl, rfl, ⟨he1.out.2, by obtain ⟨f, h1, h2⟩ := hfin.out; exact ⟨f, h2, h1⟩⟩, K1.out.below (below_drewN (Below.refl _ _))⟩
              case measure => have := he1.out; have := hlt'.out; simp [intOf]; omega
            · rw [decide_eq_false hu0] at hnz
              rw [if_neg hu0] at hfin
              obtain ⟨ub, hub⟩ : ∃ b, decide (u = 1) = b := ⟨_, rfl⟩
              rw [hub] at hone hfin
              clear hu0 hub
              go_wp2
              go_quiet (fail)
              go_wp2_with (first
                | ((with_reducible refine at_bu _ _ (k3 ⟨(a : Int), (e : Int) - (a : Int), ub⟩) ?_ ?_ ?_ ?_ ?_); rfl; rfl; rfl; kernel_rfl)
                | (at_builtin; refine at_appL kMk rfl (.tmp 39) (.tmp 53) rfl y.heap.size _ l rfl ((K1.out.own.below (below_drewN (Below.refl _ _))).alloc _) (x.drewN nq).heap.size ⟨(a : Int), (e : Int) - (a : Int), ub⟩ rfl (one_bxL _ _ _) ?_ ?_ ?_; (have := hlen.out; omega); (have := hy0.out; simp; omega); intro v' z1 A; obtain ⟨sp9, cp9, e9, _⟩ := OwnL.open (c := cM) (s := 3) (fun _ => rfl) A.out.own; subst e9; have K2 : Hid (KL 72 3 cM y _ (l ++ [⟨(a : Int), (e : Int) - (a : Int), ub⟩]) z1) := (K1.out.below (below_drewN (Below.refl _ _))).add A.out; clear A))
              go_roundw
              case rel => exact ⟨e, _, _, _, _, rfl, by rw [List.length_append, List.length_singleton], rfl, ⟨he1.out.2, by obtain ⟨f, h1, h2⟩ := hfin.out; exact ⟨f, h2, h1⟩⟩, K2⟩
              case measure => have := he1.out; have := hlt'.out; simp [intOf]; omega
          · have hei : ¬ (e : Int) < 65536 := by omega
            have hed : decide ((e : Int) < 65536) = false := decide_eq_false hei
            clear hgo hel hei
            by_cases hu0 : u = 0
            · rw [decide_eq_true hu0] at hnz
              rw [if_pos hu0, List.append_nil] at hfin
              clear hu0
              go_wp2
              go_quiet (fail)
              go_wp2
              go_roundw
              case rel => exact ⟨e, _, _, l, _, rfl, rfl, rfl, ⟨he1.out.2, by obtain ⟨f, h1, h2⟩ := hfin.out; exact ⟨f, h2, h1⟩⟩, K1.out.below (below_drewN (Below.refl _ _))⟩
              case measure => have := he1.out; have := hlt'.out; simp [intOf]; omega
            · rw [decide_eq_false hu0] at hnz
              rw [if_neg hu0] at hfin
              obtain ⟨ub, hub⟩ : ∃ b, decide (u = 1) = b := ⟨_, rfl⟩
              rw [hub] at hone hfin
              clear hu0 hub
              go_wp2
              go_quiet (fail)
              go_wp2_with (first
                | ((with_reducible refine at_bu _ _ (k3 ⟨(a : Int), (e : Int) - (a : Int), ub⟩) ?_ ?_ ?_ ?_ ?_); rfl; rfl; rfl; kernel_rfl)
                | (at_builtin; refine at_appL kMk rfl (.tmp 39) (.tmp 53) rfl y.heap.size _ l rfl ((K1.out.own.below (below_drewN (Below.refl _ _))).alloc _) (x.drewN nq).heap.size ⟨(a : Int), (e : Int) - (a : Int), ub⟩ rfl (one_bxL _ _ _) ?_ ?_ ?_; (have := hlen.out; omega); (have := hy0.out; simp; omega); intro v' z1 A; obtain ⟨sp9, cp9, e9, _⟩ := OwnL.open (c := cM) (s := 3) (fun _ => rfl) A.out.own; subst e9; have K2 : Hid (KL 72 3 cM y _ (l ++ [⟨(a : Int), (e : Int) - (a : Int), ub⟩]) z1) := (K1.out.below (below_drewN (Below.refl _ _))).add A.out; clear A))
              go_roundw
              case rel => exact ⟨e, _, _, _, _, rfl, by rw [List.length_append, List.length_singleton], rfl, ⟨he1.out.2, by obtain ⟨f, h1, h2⟩ := hfin.out; exact ⟨f, h2, h1⟩⟩, K2⟩
              case measure => have := he1.out; have := hlt'.out; simp [intOf]; omega
    · have hae : a = 65536 := by have := J.out.1; omega
      subst hae
      have hfin : Hid (l = marksU U) := by
        obtain ⟨f, h1, h2⟩ := J.out.2
        show _ = _
        rw [← h1]
        have : mks U f 65536 = [] := by
          cases f with
          | zero => rfl
          | succ f =>
            unfold mks
            rw [List.getElem?_eq_none (by rw [hU.out]; exact Nat.le_refl _)]
        rw [this, List.append_nil]
      clear hlt
      go_wp2
      go_ret
      exact ⟨_, rfl, by rw [← hfin.out]; exact K⟩
end Go.Proofs.YtkpfhnogpcigaaaDoorR
