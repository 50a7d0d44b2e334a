/- The labels' map: entry by entry, in the order in which they came. The sheet that a source is laid on, as it lies in memory; addresses that are claimed. -/
import Derived.Test.YthbdpceobnkflaaDoorJ7
namespace Go.Proofs.YthbdpceobnkflaaDoor
open Go Go.RowKit Go.MapKept
set_option linter.unusedVariables false
set_option maxHeartbeats 1000000
set_option maxRecDepth 20000

def mapN (N : List (ByteArray × Nat)) : ByteArray → Option Value := fun t => (lookN N t).map fun (a : Nat) => Value.int .i64 (a : Int)
def enN (x : ByteArray × Nat) (i : Nat) : MapEntry := { key := .string x.1, val := .int .i64 (x.2 : Int), born := i }
def esOf (N : List (ByteArray × Nat)) : List MapEntry := N.reverse.zipIdx.map fun x => enN x.1 x.2
theorem esOf_cons (x : ByteArray × Nat) (N : List (ByteArray × Nat)) : esOf (x :: N) = esOf N ++ [enN x N.length] := by
  unfold esOf
  rw [List.reverse_cons, List.zipIdx_append, List.map_append]
  simp
theorem esOf_len (N : List (ByteArray × Nat)) : (esOf N).length = N.length := by unfold esOf; simp
theorem esOf_at (N : List (ByteArray × Nat)) (i : Nat) (e : MapEntry) (h : (esOf N)[i]? = some e) : ∃ x, N.reverse[i]? = some x ∧ e = enN x i := by
  unfold esOf at h
  rw [List.getElem?_map, List.getElem?_zipIdx] at h
  rcases hx : N.reverse[i]? with _ | x
  · rw [hx] at h; simp at h
  · rw [hx] at h
    simp at h
    exact ⟨x, rfl, h.symm⟩
/-- A block is the map of these labels. -/
def MapE (w : World) (g : Nat) (N : List (ByteArray × Nat)) : Prop := w.heap[g]? = some (.map (esOf N).toArray N.length) ∧ (N.map (·.1)).Nodup
theorem MapE.keep {w y : World} {g : Nat} {N : List (ByteArray × Nat)} (h : MapE w g N) (hk : y.heap[g]? = w.heap[g]?) : MapE y g N := ⟨hk.trans h.1, h.2⟩
theorem MapE.lt {w : World} {g : Nat} {N : List (ByteArray × Nat)} (h : MapE w g N) : g < w.heap.size := heap_lt h.1
theorem MapE.block {w : World} {g : Nat} {N : List (ByteArray × Nat)} (h : MapE w g N) : ∃ es clock, w.heap[g]? = some (.map es clock) := ⟨_, _, h.1⟩
theorem look_mem {N : List (ByteArray × Nat)} (hn : (N.map (·.1)).Nodup) {x : ByteArray × Nat} (hx : x ∈ N) : lookN N x.1 = some x.2 := by
  induction N with
  | nil => cases hx
  | cons y r ih =>
    rw [List.map_cons, List.nodup_cons] at hn
    unfold lookN
    rcases List.mem_cons.1 hx with rfl | hx
    · rw [if_pos rfl]
    · rw [if_neg fun e => hn.1 (by rw [← e]; exact List.mem_map_of_mem hx)]
      exact ih hn.2 hx
theorem mem_look {N : List (ByteArray × Nat)} {s : ByteArray} {a : Nat} (h : lookN N s = some a) : (s, a) ∈ N := by
  induction N with
  | nil => simp [lookN] at h
  | cons y r ih =>
    unfold lookN at h
    split at h
    · rename_i e
      simp at h
      subst h e
      simp
    · exact List.mem_cons_of_mem _ (ih h)
theorem look_none : ∀ {N : List (ByteArray × Nat)} {s : ByteArray}, lookN N s = none → s ∉ N.map (·.1)
  | [], s, _ => by simp
  | y :: r, s, h => by
    unfold lookN at h
    split at h
    · cases h
    · rename_i e
      rw [List.map_cons, List.mem_cons]
      intro hm
      rcases hm with hm | hm
      · exact e hm
      · exact look_none h hm
theorem MapE.toF {w : World} {g : Nat} {N : List (ByteArray × Nat)} (h : MapE w g N) : MapF w g (mapN N) := by
  refine ⟨_, _, h.1, fun i e he => ?_, fun s v hs => ?_, fun i j e e' he he' hk => ?_⟩
  · rw [List.getElem?_toArray] at he
    obtain ⟨x, hx, rfl⟩ := esOf_at N i e he
    have hm : x ∈ N := List.mem_reverse.1 (List.mem_of_getElem? hx)
    exact ⟨x.1, rfl, by unfold mapN; rw [look_mem h.2 hm]; rfl⟩
  · unfold mapN at hs
    rcases hl : lookN N s with _ | a
    · rw [hl] at hs; cases hs
    · have hm := List.mem_reverse.2 (mem_look hl)
      obtain ⟨i, hi, ei⟩ := List.getElem_of_mem hm
      refine ⟨i, enN (s, a) i, ?_, rfl⟩
      rw [List.getElem?_toArray]
      unfold esOf
      rw [List.getElem?_map, List.getElem?_zipIdx, List.getElem?_eq_getElem hi, ei]
      simp
  · rw [List.getElem?_toArray] at he he'
    obtain ⟨x, hx, rfl⟩ := esOf_at N i e he
    obtain ⟨x', hx', rfl⟩ := esOf_at N j e' he'
    simp [enN] at hk
    have hnr : (N.reverse.map (·.1)).Nodup := by
      rw [List.map_reverse]
      unfold List.Nodup
      rw [List.pairwise_reverse]
      exact h.2.imp fun h => h.symm
    have h1 : (N.reverse.map (·.1))[i]? = some x.1 := by rw [List.getElem?_map, hx]; rfl
    have h2 : (N.reverse.map (·.1))[j]? = some x.1 := by rw [List.getElem?_map, hx', hk]; rfl
    obtain ⟨a1, b1⟩ := List.getElem?_eq_some_iff.1 h1
    obtain ⟨a2, b2⟩ := List.getElem?_eq_some_iff.1 h2
    exact (List.getElem_inj hnr).1 (b1.trans b2.symm)
theorem MapE.put {w : World} {g : Nat} {N : List (ByteArray × Nat)} (h : MapE w g N) (s : ByteArray) (a : Nat) (hl : lookN N s = none) :
    ∃ w', (Instr.mapUpdate 68 (.map (some g)) (.string s) (.int .i64 (a : Int))).run Tryd.prog w = .ok () w' ∧ MapE w' g ((s, a) :: N) ∧ (∀ q, q ≠ g → w'.heap[q]? = w.heap[q]?) ∧ ∀ B, B ≤ g → Below B w w' := by
  have hks : ∀ x ∈ (esOf N), IsKey .string x.key := fun x hx => by
    obtain ⟨i, hi, e⟩ := List.getElem_of_mem hx
    obtain ⟨y, _, rfl⟩ := esOf_at N i x (by rw [List.getElem?_eq_getElem hi, e])
    trivial
  have hb := h.1
  rcases findNow_spec (d := .string) (k := .string s) trivial (esOf N) 0 hks with ⟨f1, f2⟩ | ⟨j, e0, f1, f2, f3⟩
  · refine ⟨{ w with heap := w.heap.setIfInBounds g (.map ((esOf N).toArray.push { key := .string s, val := .int .i64 (a : Int), born := N.length }) (N.length + 1)) }, ?_, ⟨?_, ?_⟩, (heap_set hb).2, fun B hB => ⟨rfl, rfl, rfl, by simp, fun q hq => by simp [show g ≠ q by omega]⟩⟩
    · simp [Instr.mapUpdate, run_underlying mapUL, MapKept.run_getObj_map hb, MapKept.run_checkKey strUL (keyS s), MapKept.run_findKey strUL f1, MapKept.run_setObj_map _ hb, Result.andThen]
    · refine (heap_set hb).1.trans ?_
      rw [esOf_cons, List.push_toArray]
      rfl
    · rw [List.map_cons, List.nodup_cons]
      exact ⟨look_none hl, h.2⟩
  · exfalso
    obtain ⟨y, hy, rfl⟩ := esOf_at N j e0 f2
    simp [enN] at f3
    have hm : y ∈ N := List.mem_reverse.1 (List.mem_of_getElem? hy)
    have := look_mem h.2 hm
    rw [f3, hl] at this
    cases this
theorem at_putE {ops : Array Oper} {rest : List Oper} {o : Oper} {a : Act} {w : World} {Q : Exit → Act → World → Prop} (hg : o.guard = none) (m x v : Operand) (ho : o.op = .mapUpdate 68 m x v ∨ o.op = .insert 68 m x v)
    (g : Nat) (N : List (ByteArray × Nat)) (s : ByteArray) (u : Nat) (hF : MapE w g N) (hl : lookN N s = none) (em : a.eval m = .map (some g)) (ex : a.eval x = .string s) (ev : a.eval v = .int .i64 (u : Int))
    (k : ∀ w', Hid (MapE w' g ((s, u) :: N) ∧ (∀ q, q ≠ g → w'.heap[q]? = w.heap[q]?) ∧ ∀ B, B ≤ g → Below B w w') → wpList Tryd.prog ops Q rest (a.put o.dst undef) w') : wpList Tryd.prog ops Q (o :: rest) a w := by
  refine wpList_plain hg fun K' hK' => ?_
  obtain ⟨w', hrun, r1⟩ := hF.put s u hl
  unfold Oper.wp
  rcases ho with ho | ho
  · simp [execOp, ho, em, ex, ev, hrun, Result.andThen]
    exact hK' _ _ (k w' r1)
  · simp [execOp, ho, em, ex, ev, hrun, Result.andThen]
    exact hK' _ _ (k w' r1)
end Go.Proofs.YthbdpceobnkflaaDoor

namespace Go.Proofs.YthbdpceobnkflaaDoor
open Go Go.RowKit
set_option linter.unusedVariables false
set_option maxHeartbeats 3000000
set_option maxRecDepth 20000

/-- The sheet's blocks: itself, what lies at each address, the bytes, the labels. -/
structure Nu where
  s : Nat
  u : Nat
  b : Nat
  m : Nat
/-- A piece as it lies in the list of those that were laid. -/
structure Lp where
  t : TypeId
  v : Value
  a : Nat
def lpA (x : Lp) : Array Value := #[.iface x.t x.v, .int .i64 (x.a : Int)]
def cLp (x : Lp) : List Value := (lpA x).toList
def sC (q : Nu) (p : Nat) (vl : Value) : Array Value := #[.int .i64 (p : Int), vl, .slice (some ⟨q.u, 0, none⟩) 65536 65536, .slice (some ⟨q.b, 0, none⟩) 65536 65536, .map (some q.m)]
structure Sht (B : Nat) (q : Nu) (s : Sh) (M : List UInt8) (vl : Value) (l : List Lp) (y : World) : Prop where
  ok : s.Ok
  bx : Bx y q.s (sC q s.p vl) 70
  u : Bx y q.u (rU s.U) 123
  b : Bx y q.b (rU M) 5
  m : MapE y q.m s.N
  o : OwnL 72 2 cLp B y vl l
  lo : B ≤ q.s ∧ B ≤ q.u ∧ B ≤ q.b ∧ B ≤ q.m
/-- All that is below stays, and all rows of bytes. -/
structure Kx (B : Nat) (y z : World) : Prop where
  low : Below B y z
  by8 : ∀ g cs, Bx y g cs 5 → Bx z g cs 5
theorem Kx.refl (B : Nat) (y : World) : Kx B y y := ⟨Below.refl _ _, fun _ _ h => h⟩
theorem Kx.trans {B : Nat} {x y z : World} (h : Kx B x y) (k : Kx B y z) : Kx B x z := ⟨h.low.trans k.low, fun g cs e => k.by8 g cs (h.by8 g cs e)⟩
theorem Bx.below {y z : World} {g : Nat} {cs : Array Value} {t : TypeId} (h : Bx y g cs t) (k : Below y.heap.size y z) : Bx z g cs t := (k.block g (heap_lt h)).trans h
theorem Kx.of_below {B : Nat} {y z : World} (k : Below y.heap.size y z) (hB : B ≤ y.heap.size) : Kx B y z := ⟨k.mono hB, fun g cs h => h.below k⟩
theorem Sht.below {B : Nat} {q : Nu} {s : Sh} {M : List UInt8} {vl : Value} {l : List Lp} {y z : World} (h : Sht B q s M vl l y) (k : Below y.heap.size y z) : Sht B q s M vl l z :=
  ⟨h.ok, h.bx.below k, h.u.below k, h.b.below k, h.m.keep (k.block _ h.m.lt), h.o.below k, h.lo⟩
theorem Sht.Ble {B : Nat} {q : Nu} {s : Sh} {M : List UInt8} {vl : Value} {l : List Lp} {y : World} (h : Sht B q s M vl l y) : B ≤ y.heap.size := Nat.le_of_lt (Nat.lt_of_le_of_lt h.lo.1 (heap_lt h.bx))
section
variable {y z : World} {b : Nat} {cs : Array Value} {t : TypeId}
theorem bx_other {g : Nat} {cs' : Array Value} {t' : TypeId} (hb : Bx y b cs t) (hne : t ≠ t') (hg : ∀ q, q ≠ b → z.heap[q]? = y.heap[q]?) (h : Bx y g cs' t') : Bx z g cs' t' := by
  refine (hg g fun e => hne ?_).trans h
  subst e
  have := hb.symm.trans h
  simp at this
  exact this.2
theorem map_other {g : Nat} {F : List (ByteArray × Nat)} (hb : Bx y b cs t) (hg : ∀ q, q ≠ b → z.heap[q]? = y.heap[q]?) (h : MapE y g F) : MapE z g F := by
  refine h.keep (hg g fun e => ?_)
  subst e
  obtain ⟨es, ck, hm⟩ := h.block
  have := hb.symm.trans hm
  simp at this
theorem own_other {α : Type} {t' : TypeId} {s' : Nat} {c' : α → List Value} {B : Nat} {v : Value} {l' : List α} (hb : Bx y b cs t) (hne : t ≠ t') (hg : ∀ q, q ≠ b → z.heap[q]? = y.heap[q]?) (h : OwnL t' s' c' B y v l') : OwnL t' s' c' B z v l' := h.keepB fun g e => by
  obtain ⟨c9, h9⟩ := h.ty g e
  have := bx_other hb hne hg h9
  exact this.trans h9.symm
end
/-- Addresses: what lies there is written over. -/
theorem rU_get (l : List UInt8) (j : Nat) (b : UInt8) (h : l[j]? = some b) : (rU l)[j]? = some (byV b) := by unfold rU; simp [h]
theorem rU_size (l : List UInt8) : (rU l).size = l.length := by unfold rU; simp
theorem splice_rep (U : List UInt8) (p k : Nat) (u : UInt8) (h : p + k < U.length) : (splice U p (List.replicate k u)).set (p + k) u = splice U p (List.replicate (k + 1) u) := by
  apply List.ext_getElem?
  intro j
  rw [List.getElem?_set, length_splice _ _ _ (by rw [List.length_replicate]; omega), spliceL_at _ _ _ (by rw [List.length_replicate]; omega), spliceL_at _ _ _ (by rw [List.length_replicate]; omega), List.length_replicate, List.length_replicate]
  by_cases h1 : p + k = j
  · subst h1
    rw [if_pos rfl, if_pos h, if_pos ⟨by omega, by omega⟩, List.getElem?_replicate, if_pos (by omega)]
  · rw [if_neg h1]
    by_cases h2 : p ≤ j ∧ j < p + k
    · rw [if_pos h2, if_pos ⟨h2.1, by omega⟩, List.getElem?_replicate, List.getElem?_replicate, if_pos (by omega), if_pos (by omega)]
    · rw [if_neg h2, if_neg (by omega)]
theorem splice_nil (U : List UInt8) (p : Nat) : splice U p [] = U := by simp [splice]
theorem slU (g p e n : Nat) (hn : p + n = e) (h : e ≤ 65536) : ∃ sp1 cp, (∀ v, (Instr.sliceAt 67 (.slice (some ⟨g, 0, none⟩) 65536 65536) (some (.int .i64 (p : Int))) (some (.int .i64 (e : Int))) none).run Tryd.prog v = .ok (.slice sp1 n cp) v) ∧ (0 < n → sp1 = some ⟨g, p, none⟩) := by
  subst hn
  refine ⟨if 65536 = p then some ⟨g, 0, none⟩ else (some (⟨g, 0, none⟩ : Addr)).map (·.add (p * 1)), 65536 - p, fun v => ?_, fun h => ?_⟩
  · have hu : Tryd.prog.underlying 67 = some (.slice (Tryd.prog.elem 67)) := by kernel_rfl
    rw [run_sliceAt_slice v _ _ _ _ _ hu, run_slice_lh v _ _ _ _ hu .i64 .i64 (p : Int) ((p + n : Nat) : Int) (by omega) (by omega) (by omega)]
    have hz : ∀ v, (sizeOf (Tryd.prog.elem 67)).run Tryd.prog v = .ok 1 v := fun v => by kernel_rfl
    rw [hz]
    simp only [Result.andThen_ok, sliced, Int.toNat_natCast, Nat.add_sub_cancel_left]
  · rw [if_neg (by omega)]
    simp [Addr.add_lit]
theorem claim_any (B : Nat) (q : Nu) (s : Sh) (M : List UInt8) (vl : Value) (l : List Lp) (y : World) (h : Hid (Sht B q s M vl l y)) (n : Nat) (hn : n ≤ 65536) (u : UInt8) :
    Calls Tryd.prog 106 #[.pointer (some ⟨q.s, 0, none⟩), .int .i64 (n : Int), byV u] y fun e z => e = .returned (.int .i64 (clE s n)) ∧ Hid (Kx B y z ∧ (clE s n = 0 → Sht B q (clS s n u) M vl l z)) := by
  have hU8' : Hid (byV u = .int .u8 (u.toNat : Int)) := (rfl : byV u = .int .u8 (u.toNat : Int))
  rw [hU8'.out]
  obtain ⟨p, hp⟩ : ∃ p, s.p = p := ⟨_, rfl⟩
  have hp' : Hid (s.p = p) := hp
  have hp6 : p ≤ 65536 := by rw [← hp]; exact h.out.ok.p
  have c0 : y.cell? ⟨q.s, 0, none⟩ = some (.int .i64 (p : Int)) := by rw [← hp]; exact h.out.bx.c 0 _ rfl
  have c2 : y.cell? ⟨q.s, 2, none⟩ = some (.slice (some ⟨q.u, 0, none⟩) 65536 65536) := h.out.bx.c 2 _ rfl
  obtain ⟨R, hR⟩ : ∃ R, clE s n = R := ⟨_, rfl⟩
  have hR' : Hid (clE s n = R) := hR
  rw [hR]
  have w1 : IntKind.i64.wrap ((p : Int) + n) = (p : Int) + n := by rw [IntKind.wrap_i64]; omega
  have hself : Hid (Kx B y y) := Kx.refl B y
  by_cases hbig : 65536 < p + n
  · have hi : (65536 : Int) < (p : Int) + n := by omega
    have e0 : Hid (R = 143) := by show R = 143; rw [← hR]; unfold clE; rw [hp, if_pos hbig]
    clear hbig hR hp hn hp6
    go_enter Tryd.func106, Tryd.ntmps106
    go_wp2
    go_ret
    exact ⟨by rw [e0.out]; rfl, hself.out, fun e => by have := e0.out; omega⟩
  · have hi : ¬ (65536 : Int) < (p : Int) + n := by omega
    obtain ⟨sp1, cp, hs, hsp⟩ := slU q.u p (p + n) n rfl (by omega)
    rw [show ((p + n : Nat) : Int) = (p : Int) + n by omega] at hs
    have hsp' : Hid (0 < n → sp1 = some ⟨q.u, p, none⟩) := hsp
    have hU : Hid (s.U.length = 65536) := h.out.ok.u
    have hfit : Hid (p + n ≤ 65536) := by show _ ≤ _; omega
    have hnI : (n : Int) ≤ 65536 := by omega
    clear hR hp hn hp6 hbig hsp
    go_enter Tryd.func106, Tryd.ntmps106
    go_wp2
    go_quiet (fail)
    go_wp2
    go_loopw [32] (fun t wz => ∃ (i : Nat) (x : World), x = wz ∧ t = .int .i64 (i : Int) ∧ Hid (i ≤ n ∧ ((s.U.drop p).take i).any (fun u => decide (u ≠ 0)) = false) ∧ Hid (Below y.heap.size y x)) (fun t _ => (n - intOf t).toNat)
    case atStart => exact ⟨0, _, rfl, rfl, ⟨Nat.zero_le _, by simp⟩, below_drewN (Below.refl _ _)⟩
    case round =>
      obtain ⟨i, wz, rfl, rfl, J, W⟩ := hrel
      have h1 : Hid (Sht B q s M vl l wz) := h.out.below W.out
      have hk1 : Hid (Kx B y wz) := Kx.of_below W.out h.out.Ble
      clear c0 c2
      by_cases hlt : i < n
      · have e9 := hsp'.out (by omega)
        obtain ⟨x, hx⟩ : ∃ x, s.U[p + i]? = some x := ⟨_, List.getElem?_eq_getElem (by rw [hU.out]; have := hfit.out; omega)⟩
        have ij := fun w => idxP (P := Tryd.prog) (g := q.u) (off := p) (len := n) (cap := cp) Tryd.underlying67 (s := 1) (by kernel_rfl) .i64 i w hlt
        rw [← e9, Nat.mul_one] at ij
        have cx : wz.cell? ⟨q.u, p + i, none⟩ = some (.int .u8 (x.toNat : Int)) := h1.out.u.c _ _ (rU_get _ _ _ hx)
        have hstep : Hid (((s.U.drop p).take (i + 1)).any (fun u => decide (u ≠ 0)) = decide (x ≠ 0)) := by
          show _ = _
          have hg : (s.U.drop p)[i]? = some x := by rw [List.getElem?_drop]; exact hx
          rw [List.take_add_one, hg, List.any_append, J.out.2]
          simp
        have hii : (i : Int) < n := by omega
        have hlt' : Hid (i < n) := hlt
        have wi : IntKind.i64.wrap ((i : Int) + 1) = (i : Int) + 1 := by rw [IntKind.wrap_i64]; omega
        clear hlt e9
        by_cases hx0 : x = 0
        · have hxi : ((x.toNat : Int) != 0) = false := by subst hx0; rfl
          have J9 : Hid (i + 1 ≤ n ∧ ((s.U.drop p).take (i + 1)).any (fun u => decide (u ≠ 0)) = false) := ⟨hlt'.out, by rw [hstep.out, decide_eq_false (by simp [hx0])]⟩
          clear hx0
          go_wp2
          go_roundw
          case rel => exact ⟨i + 1, _, rfl, by simp, J9, W⟩
          case measure => have := hlt'.out; simp [intOf]; omega
        · have hxi : ((x.toNat : Int) != 0) = true := by
            rw [bne_iff_ne]
            intro e
            exact hx0 (UInt8.toNat_inj.1 (by have : (0 : UInt8).toNat = 0 := rfl; omega))
          have e0 : Hid (R = 144) := by
            show R = 144
            rw [← hR'.out]
            unfold clE
            rw [hp'.out, if_neg (by have := hfit.out; omega), if_pos]
            have h9 : ((s.U.drop p).take (i + 1)).any (fun u => decide (u ≠ 0)) = true := by rw [hstep.out]; exact decide_eq_true hx0
            obtain ⟨v, hv, hv0⟩ := List.any_eq_true.1 h9
            refine List.any_eq_true.2 ⟨v, ?_, hv0⟩
            have hsub : (s.U.drop p).take (i + 1) = ((s.U.drop p).take n).take (i + 1) := by rw [List.take_take, Nat.min_eq_left (by have := hlt'.out; omega)]
            rw [hsub] at hv
            exact List.mem_of_mem_take hv
          clear hx0
          go_wp2
          go_ret
          exact ⟨by rw [e0.out]; rfl, hk1.out, fun e => by have := e0.out; omega⟩
      · have hie : i = n := by have := J.out.1; omega
        subst hie
        have e0 : Hid (R = 0) := by
          show R = 0
          rw [← hR'.out]
          unfold clE
          rw [hp'.out, if_neg (by have := hfit.out; omega), J.out.2]
          rfl
        clear hlt
        go_wp2
        go_loopw [41] (fun t wv => ∃ (k : Nat) (z : World), z = wv ∧ t = .int .i64 (k : Int) ∧ Hid (k ≤ i ∧ Bx z q.u (rU (splice s.U p (List.replicate k u))) 123 ∧ (∀ g, g ≠ q.u → z.heap[g]? = wz.heap[g]?) ∧ Below q.u wz z)) (fun t _ => (i - intOf t).toNat)
        case atStart => exact ⟨0, _, rfl, rfl, Nat.zero_le _, by rw [List.replicate_zero, splice_nil]; exact h1.out.u, fun g _ => rfl, Below.refl _ _⟩
        case round =>
          obtain ⟨k, z, rfl, rfl, Z⟩ := hrel
          have hqs : Hid (q.s ≠ q.u) := fun e => by
            have h9 := h1.out.bx
            rw [e] at h9
            have := h9.symm.trans h1.out.u
            simp at this
          by_cases hlt : k < i
          · have e9 := hsp'.out (by omega)
            have ij := fun w => idxP (P := Tryd.prog) (g := q.u) (off := p) (len := i) (cap := cp) Tryd.underlying67 (s := 1) (by kernel_rfl) .i64 k w hlt
            rw [← e9, Nat.mul_one] at ij
            have hsz : p + k < (rU (splice s.U p (List.replicate k u))).size := by rw [rU_size, length_splice _ _ _ (by rw [List.length_replicate, hU.out]; have := hfit.out; omega), hU.out]; have := hfit.out; omega
            obtain ⟨c9, zc⟩ : ∃ c, z.cell? ⟨q.u, p + k, none⟩ = some c := ⟨_, Z.out.2.1.c (p + k) _ (Array.getElem?_eq_getElem hsz)⟩
            have zf := Z.out.2.1.fz (p + k)
            have K9 : Hid (k + 1 ≤ i ∧ Bx (z.setCell ⟨q.u, p + k, none⟩ (byV u)) q.u (rU (splice s.U p (List.replicate (k + 1) u))) 123 ∧ (∀ g, g ≠ q.u → (z.setCell ⟨q.u, p + k, none⟩ (byV u)).heap[g]? = wz.heap[g]?) ∧ Below q.u wz (z.setCell ⟨q.u, p + k, none⟩ (byV u))) := by
              refine ⟨hlt, ?_, fun g hg => (heap_setCell_other z ⟨q.u, p + k, none⟩ g _ hg).trans (Z.out.2.2.1 g hg), Z.out.2.2.2.setCell (p := ⟨q.u, p + k, none⟩) (Nat.le_refl _) _⟩
              have := heap_setCell_same z q.u (p + k) _ _ (byV u) Z.out.2.1
              rw [rU_set, splice_rep _ _ _ _ (by rw [hU.out]; have := hfit.out; omega)] at this
              exact this
            have hki : (k : Int) < i := by omega
            have hlt' : Hid (k < i) := hlt
            have wi : IntKind.i64.wrap ((k : Int) + 1) = (k : Int) + 1 := by rw [IntKind.wrap_i64]; omega
            rw [hU8'.out] at K9
            clear hlt e9 hsz
            go_wp2
            go_roundw
            case rel => exact ⟨k + 1, _, rfl, by simp, K9⟩
            case measure => have := hlt'.out; simp [intOf]; omega
          · have hke : k = i := by have := Z.out.1; omega
            subst hke
            have zb : Bx z q.s (sC q s.p vl) 70 := (Z.out.2.2.1 _ hqs.out).trans h1.out.bx
            have zc := zb.c 0 _ rfl
            have zf := zb.fz 0
            have K9 : Hid (Kx B wz (z.setCell ⟨q.s, 0, none⟩ (.int .i64 ((p : Int) + k))) ∧ Sht B q (clS s k u) M vl l (z.setCell ⟨q.s, 0, none⟩ (.int .i64 ((p : Int) + k)))) := by
              have g1 : ∀ g, g ≠ q.s → (z.setCell ⟨q.s, 0, none⟩ (.int .i64 ((p : Int) + k))).heap[g]? = z.heap[g]? := fun g hg => heap_setCell_other z ⟨q.s, 0, none⟩ g _ hg
              have hu9 : ∀ {g : Nat} {cs : Array Value} {t : TypeId}, 123 ≠ t → 70 ≠ t → Bx wz g cs t → Bx (z.setCell ⟨q.s, 0, none⟩ (.int .i64 ((p : Int) + k))) g cs t := fun n1 n2 hb => bx_other zb n2 g1 (bx_other h1.out.u n1 Z.out.2.2.1 hb)
              have hb0 : Below B wz (z.setCell ⟨q.s, 0, none⟩ (.int .i64 ((p : Int) + k))) := (Z.out.2.2.2.mono h1.out.lo.2.1).setCell (p := ⟨q.s, 0, none⟩) h1.out.lo.1 _
              have hok : (clS s k u).Ok := h1.out.ok.cl u (by rw [hR'.out]; exact e0.out)
              refine ⟨⟨hb0, fun g cs hb => hu9 (by decide) (by decide) hb⟩, hok, ?_, ?_, hu9 (by decide) (by decide) h1.out.b, map_other zb g1 (map_other h1.out.u Z.out.2.2.1 h1.out.m), own_other zb (by decide) g1 (own_other h1.out.u (by decide) Z.out.2.2.1 h1.out.o), h1.out.lo⟩
              · have := heap_setCell_same z q.s 0 _ _ (.int .i64 ((p : Int) + k)) zb
                refine this.trans ?_
                simp [sC, clS, hp'.out]
              · refine (g1 _ (fun e => hqs.out e.symm)).trans ?_
                have := Z.out.2.1
                show _ = some (Obj.cells (rU (splice s.U s.p (List.replicate k u))) 123 (0, 0))
                rw [hp'.out]
                exact this
            clear hlt zb
            go_wp2
            go_ret
            exact ⟨by rw [e0.out]; rfl, hk1.out.trans K9.out.1, fun _ => K9.out.2⟩
end Go.Proofs.YthbdpceobnkflaaDoor
