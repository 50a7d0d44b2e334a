/- The labels' map: entry by entry, in the order in which they came. -/
import Derived.Test.YtkpfhnogpcigaaaDoorRJFo
import Derived.Test.YtkpfhnogpcigaaaDoorRJEj
import Derived.Test.YtkpfhnogpcigaaaDoorRJEb8
namespace Go.Proofs.YtkpfhnogpcigaaaDoorR
open Go Go.RowKit Go.MapKept
set_option linter.unusedVariables false
set_option maxHeartbeats 1000000
set_option maxRecDepth 20000

def mapN (N : List (ByteArray × Nat)) : ByteArray → Option Value := fun t => (lookN N t).map fun (a : Nat) => Value.int .i64 (a : Int)
def enN (x : ByteArray × Nat) (i : Nat) : MapEntry := { key := .string x.1, val := .int .i64 (x.2 : Int), born := i }
def esOf (N : List (ByteArray × Nat)) : List MapEntry := N.reverse.zipIdx.map fun x => enN x.1 x.2
theorem esOf_cons (x : ByteArray × Nat) (N : List (ByteArray × Nat)) : esOf (x :: N) = esOf N ++ [enN x N.length] := by
  unfold esOf
  rw [List.reverse_cons, List.zipIdx_append, List.map_append]
  simp
theorem esOf_len (N : List (ByteArray × Nat)) : (esOf N).length = N.length := by unfold esOf; simp
theorem esOf_at (N : List (ByteArray × Nat)) (i : Nat) (e : MapEntry) (h : (esOf N)[i]? = some e) : ∃ x, N.reverse[i]? = some x ∧ e = enN x i := by
  unfold esOf at h
  rw [List.getElem?_map, List.getElem?_zipIdx] at h
  rcases hx : N.reverse[i]? with _ | x
  · rw [hx] at h; simp at h
  · rw [hx] at h
    simp at h
    exact ⟨x, rfl, h.symm⟩
/-- A block is the map of these labels. -/
def MapE (w : World) (g : Nat) (N : List (ByteArray × Nat)) : Prop := w.heap[g]? = some (.map (esOf N).toArray N.length) ∧ (N.map (·.1)).Nodup
theorem MapE.keep {w y : World} {g : Nat} {N : List (ByteArray × Nat)} (h : MapE w g N) (hk : y.heap[g]? = w.heap[g]?) : MapE y g N := ⟨hk.trans h.1, h.2⟩
theorem MapE.lt {w : World} {g : Nat} {N : List (ByteArray × Nat)} (h : MapE w g N) : g < w.heap.size := heap_lt h.1
theorem MapE.block {w : World} {g : Nat} {N : List (ByteArray × Nat)} (h : MapE w g N) : ∃ es clock, w.heap[g]? = some (.map es clock) := ⟨_, _, h.1⟩
theorem look_mem {N : List (ByteArray × Nat)} (hn : (N.map (·.1)).Nodup) {x : ByteArray × Nat} (hx : x ∈ N) : lookN N x.1 = some x.2 := by
  induction N with
  | nil => cases hx
  | cons y r ih =>
    rw [List.map_cons, List.nodup_cons] at hn
    unfold lookN
    rcases List.mem_cons.1 hx with rfl | hx
    · rw [if_pos rfl]
    · rw [if_neg fun e => hn.1 (by rw [← e]; exact List.mem_map_of_mem hx)]
      exact ih hn.2 hx
theorem mem_look {N : List (ByteArray × Nat)} {s : ByteArray} {a : Nat} (h : lookN N s = some a) : (s, a) ∈ N := by
  induction N with
  | nil => simp [lookN] at h
  | cons y r ih =>
    unfold lookN at h
    split at h
    · rename_i e
      simp at h
      subst h e
      simp
    · exact List.mem_cons_of_mem _ (ih h)
theorem look_none : ∀ {N : List (ByteArray × Nat)} {s : ByteArray}, lookN N s = none → s ∉ N.map (·.1)
  | [], s, _ => by simp
  | y :: r, s, h => by
    unfold lookN at h
    split at h
    · cases h
    · rename_i e
      rw [List.map_cons, List.mem_cons]
      intro hm
      rcases hm with hm | hm
      · exact e hm
      · exact look_none h hm
theorem MapE.toF {w : World} {g : Nat} {N : List (ByteArray × Nat)} (h : MapE w g N) : MapF w g (mapN N) := by
  refine ⟨_, _, h.1, fun i e he => ?_, fun s v hs => ?_, fun i j e e' he he' hk => ?_⟩
  · rw [List.getElem?_toArray] at he
    obtain ⟨x, hx, rfl⟩ := esOf_at N i e he
    have hm : x ∈ N := List.mem_reverse.1 (List.mem_of_getElem? hx)
    exact ⟨x.1, rfl, by unfold mapN; rw [look_mem h.2 hm]; rfl⟩
  · unfold mapN at hs
    rcases hl : lookN N s with _ | a
    · rw [hl] at hs; cases hs
    · have hm := List.mem_reverse.2 (mem_look hl)
      obtain ⟨i, hi, ei⟩ := List.getElem_of_mem hm
      refine ⟨i, enN (s, a) i, ?_, rfl⟩
      rw [List.getElem?_toArray]
      unfold esOf
      rw [List.getElem?_map, List.getElem?_zipIdx, List.getElem?_eq_getElem hi, ei]
      simp
  · rw [List.getElem?_toArray] at he he'
    obtain ⟨x, hx, rfl⟩ := esOf_at N i e he
    obtain ⟨x', hx', rfl⟩ := esOf_at N j e' he'
    simp [enN] at hk
    have hnr : (N.reverse.map (·.1)).Nodup := by
      rw [List.map_reverse]
      unfold List.Nodup
      rw [List.pairwise_reverse]
      exact h.2.imp fun h => h.symm
    have h1 : (N.reverse.map (·.1))[i]? = some x.1 := by rw [List.getElem?_map, hx]; rfl
    have h2 : (N.reverse.map (·.1))[j]? = some x.1 := by rw [List.getElem?_map, hx', hk]; rfl
    obtain ⟨a1, b1⟩ := List.getElem?_eq_some_iff.1 h1
    obtain ⟨a2, b2⟩ := List.getElem?_eq_some_iff.1 h2
    exact (List.getElem_inj hnr).1 (b1.trans b2.symm)
theorem MapE.put {w : World} {g : Nat} {N : List (ByteArray × Nat)} (h : MapE w g N) (s : ByteArray) (a : Nat) (hl : lookN N s = none) :
    ∃ w', (Instr.mapUpdate 83 (.map (some g)) (.string s) (.int .i64 (a : Int))).run Tryd.prog w = .ok () w' ∧ MapE w' g ((s, a) :: N) ∧ (∀ q, q ≠ g → w'.heap[q]? = w.heap[q]?) ∧ ∀ B, B ≤ g → Below B w w' := by
  have hks : ∀ x ∈ (esOf N), IsKey .string x.key := fun x hx => by
    obtain ⟨i, hi, e⟩ := List.getElem_of_mem hx
    obtain ⟨y, _, rfl⟩ := esOf_at N i x (by rw [List.getElem?_eq_getElem hi, e])
    trivial
  have hb := h.1
  rcases findNow_spec (d := .string) (k := .string s) trivial (esOf N) 0 hks with ⟨f1, f2⟩ | ⟨j, e0, f1, f2, f3⟩
  · refine ⟨{ w with heap := w.heap.setIfInBounds g (.map ((esOf N).toArray.push { key := .string s, val := .int .i64 (a : Int), born := N.length }) (N.length + 1)) }, ?_, ⟨?_, ?_⟩, (heap_set hb).2, fun B hB => ⟨rfl, rfl, rfl, by simp, fun q hq => by simp [show g ≠ q by omega]⟩⟩
    · simp [Instr.mapUpdate, run_underlying mapUL, MapKept.run_getObj_map hb, MapKept.run_checkKey strUL (keyS s), MapKept.run_findKey strUL f1, MapKept.run_setObj_map _ hb, Result.andThen]
    · refine (heap_set hb).1.trans ?_
      rw [esOf_cons, List.push_toArray]
      rfl
    · rw [List.map_cons, List.nodup_cons]
      exact ⟨look_none hl, h.2⟩
  · exfalso
    obtain ⟨y, hy, rfl⟩ := esOf_at N j e0 f2
    simp [enN] at f3
    have hm : y ∈ N := List.mem_reverse.1 (List.mem_of_getElem? hy)
    have := look_mem h.2 hm
    rw [f3, hl] at this
    cases this
theorem at_putE {ops : Array Oper} {rest : List Oper} {o : Oper} {a : Act} {w : World} {Q : Exit → Act → World → Prop} (hg : o.guard = none) (m x v : Operand) (ho : o.op = .mapUpdate 83 m x v ∨ o.op = .insert 83 m x v)
    (g : Nat) (N : List (ByteArray × Nat)) (s : ByteArray) (u : Nat) (hF : MapE w g N) (hl : lookN N s = none) (em : a.eval m = .map (some g)) (ex : a.eval x = .string s) (ev : a.eval v = .int .i64 (u : Int))
    (k : ∀ w', Hid (MapE w' g ((s, u) :: N) ∧ (∀ q, q ≠ g → w'.heap[q]? = w.heap[q]?) ∧ ∀ B, B ≤ g → Below B w w') → wpList Tryd.prog ops Q rest (a.put o.dst undef) w') : wpList Tryd.prog ops Q (o :: rest) a w := by
  refine wpList_plain hg fun K' hK' => ?_
  obtain ⟨w', hrun, r1⟩ := hF.put s u hl
  unfold Oper.wp
  rcases ho with ho | ho
  · simp [execOp, ho, em, ex, ev, hrun, Result.andThen]
    exact hK' _ _ (k w' r1)
  · simp [execOp, ho, em, ex, ev, hrun, Result.andThen]
    exact hK' _ _ (k w' r1)
end Go.Proofs.YtkpfhnogpcigaaaDoorR
/- The sheet that a source is laid on, as it lies in memory; addresses that are claimed. -/
namespace Go.Proofs.YtkpfhnogpcigaaaDoorR
open Go Go.RowKit
set_option linter.unusedVariables false
set_option maxHeartbeats 3000000
set_option maxRecDepth 20000

/-- The sheet's blocks: itself, what lies at each address, the bytes, the labels. -/
structure Nu where
  s : Nat
  u : Nat
  b : Nat
  m : Nat
/-- A piece as it lies in the list of those that were laid. -/
structure Lp where
  t : TypeId
  v : Value
  a : Nat
def lpA (x : Lp) : Array Value := #[.iface x.t x.v, .int .i64 (x.a : Int)]
def cLp (x : Lp) : List Value := (lpA x).toList
def sC (q : Nu) (p : Nat) (vl : Value) : Array Value := #[.int .i64 (p : Int), vl, .slice (some ⟨q.u, 0, none⟩) 65536 65536, .slice (some ⟨q.b, 0, none⟩) 65536 65536, .map (some q.m)]
structure Sht (B : Nat) (q : Nu) (s : Sh) (M : List UInt8) (vl : Value) (l : List Lp) (y : World) : Prop where
  ok : s.Ok
  bx : Bx y q.s (sC q s.p vl) 85
  u : Bx y q.u (rU s.U) 135
  b : Bx y q.b (rU M) 5
  m : MapE y q.m s.N
  o : OwnL 87 2 cLp B y vl l
  lo : B ≤ q.s ∧ B ≤ q.u ∧ B ≤ q.b ∧ B ≤ q.m
/-- All that is below stays, and all rows of bytes. -/
structure Kx (B : Nat) (y z : World) : Prop where
  low : Below B y z
  by8 : ∀ g cs, Bx y g cs 5 → Bx z g cs 5
theorem Kx.refl (B : Nat) (y : World) : Kx B y y := ⟨Below.refl _ _, fun _ _ h => h⟩
theorem Kx.trans {B : Nat} {x y z : World} (h : Kx B x y) (k : Kx B y z) : Kx B x z := ⟨h.low.trans k.low, fun g cs e => k.by8 g cs (h.by8 g cs e)⟩
theorem Bx.below {y z : World} {g : Nat} {cs : Array Value} {t : TypeId} (h : Bx y g cs t) (k : Below y.heap.size y z) : Bx z g cs t := (k.block g (heap_lt h)).trans h
theorem Kx.of_below {B : Nat} {y z : World} (k : Below y.heap.size y z) (hB : B ≤ y.heap.size) : Kx B y z := ⟨k.mono hB, fun g cs h => h.below k⟩
theorem Sht.below {B : Nat} {q : Nu} {s : Sh} {M : List UInt8} {vl : Value} {l : List Lp} {y z : World} (h : Sht B q s M vl l y) (k : Below y.heap.size y z) : Sht B q s M vl l z :=
  ⟨h.ok, h.bx.below k, h.u.below k, h.b.below k, h.m.keep (k.block _ h.m.lt), h.o.below k, h.lo⟩
theorem Sht.Ble {B : Nat} {q : Nu} {s : Sh} {M : List UInt8} {vl : Value} {l : List Lp} {y : World} (h : Sht B q s M vl l y) : B ≤ y.heap.size := Nat.le_of_lt (Nat.lt_of_le_of_lt h.lo.1 (heap_lt h.bx))
section
variable {y z : World} {b : Nat} {cs : Array Value} {t : TypeId}
theorem bx_other {g : Nat} {cs' : Array Value} {t' : TypeId} (hb : Bx y b cs t) (hne : t ≠ t') (hg : ∀ q, q ≠ b → z.heap[q]? = y.heap[q]?) (h : Bx y g cs' t') : Bx z g cs' t' := by
  refine (hg g fun e => hne ?_).trans h
  subst e
  have := hb.symm.trans h
  simp at this
  exact this.2
theorem map_other {g : Nat} {F : List (ByteArray × Nat)} (hb : Bx y b cs t) (hg : ∀ q, q ≠ b → z.heap[q]? = y.heap[q]?) (h : MapE y g F) : MapE z g F := by
  refine h.keep (hg g fun e => ?_)
  subst e
  obtain ⟨es, ck, hm⟩ := h.block
  have := hb.symm.trans hm
  simp at this
theorem own_other {α : Type} {t' : TypeId} {s' : Nat} {c' : α → List Value} {B : Nat} {v : Value} {l' : List α} (hb : Bx y b cs t) (hne : t ≠ t') (hg : ∀ q, q ≠ b → z.heap[q]? = y.heap[q]?) (h : OwnL t' s' c' B y v l') : OwnL t' s' c' B z v l' := h.keepB fun g e => by
  obtain ⟨c9, h9⟩ := h.ty g e
  have := bx_other hb hne hg h9
  exact this.trans h9.symm
end
/-- Addresses: what lies there is written over. -/
theorem rU_get (l : List UInt8) (j : Nat) (b : UInt8) (h : l[j]? = some b) : (rU l)[j]? = some (byV b) := by unfold rU; simp [h]
theorem rU_size (l : List UInt8) : (rU l).size = l.length := by unfold rU; simp
theorem splice_rep (U : List UInt8) (p k : Nat) (u : UInt8) (h : p + k < U.length) : (splice U p (List.replicate k u)).set (p + k) u = splice U p (List.replicate (k + 1) u) := by
  apply List.ext_getElem?
  intro j
  rw [List.getElem?_set, length_splice _ _ _ (by rw [List.length_replicate]; omega), spliceL_at _ _ _ (by rw [List.length_replicate]; omega), spliceL_at _ _ _ (by rw [List.length_replicate]; omega), List.length_replicate, List.length_replicate]
  by_cases h1 : p + k = j
  · subst h1
    rw [if_pos rfl, if_pos h, if_pos ⟨by omega, by omega⟩, List.getElem?_replicate, if_pos (by omega)]
  · rw [if_neg h1]
    by_cases h2 : p ≤ j ∧ j < p + k
    · rw [if_pos h2, if_pos ⟨h2.1, by omega⟩, List.getElem?_replicate, List.getElem?_replicate, if_pos (by omega), if_pos (by omega)]
    · rw [if_neg h2, if_neg (by omega)]
theorem splice_nil (U : List UInt8) (p : Nat) : splice U p [] = U := by simp [splice]
theorem slU (g p e n : Nat) (hn : p + n = e) (h : e ≤ 65536) : ∃ sp1 cp, (∀ v, (Instr.sliceAt 82 (.slice (some ⟨g, 0, none⟩) 65536 65536) (some (.int .i64 (p : Int))) (some (.int .i64 (e : Int))) none).run Tryd.prog v = .ok (.slice sp1 n cp) v) ∧ (0 < n → sp1 = some ⟨g, p, none⟩) := by
  subst hn
  refine ⟨if 65536 = p then some ⟨g, 0, none⟩ else (some (⟨g, 0, none⟩ : Addr)).map (·.add (p * 1)), 65536 - p, fun v => ?_, fun h => ?_⟩
  · have hu : Tryd.prog.underlying 82 = some (.slice (Tryd.prog.elem 82)) := by kernel_rfl
    rw [run_sliceAt_slice v _ _ _ _ _ hu, run_slice_lh v _ _ _ _ hu .i64 .i64 (p : Int) ((p + n : Nat) : Int) (by omega) (by omega) (by omega)]
    have hz : ∀ v, (sizeOf (Tryd.prog.elem 82)).run Tryd.prog v = .ok 1 v := fun v => by kernel_rfl
    rw [hz]
    simp only [Result.andThen_ok, sliced, Int.toNat_natCast, Nat.add_sub_cancel_left]
  · rw [if_neg (by omega)]
    simp [Addr.add_lit]
theorem claim_any (B : Nat) (q : Nu) (s : Sh) (M : List UInt8) (vl : Value) (l : List Lp) (y : World) (h : Hid (Sht B q s M vl l y)) (n : Nat) (hn : n ≤ 65536) (u : UInt8) :
    Calls Tryd.prog 125 #[.pointer (some ⟨q.s, 0, none⟩), .int .i64 (n : Int), byV u] y fun e z => e = .returned (.int .i64 (clE s n)) ∧ Hid (Kx B y z ∧ (clE s n = 0 → Sht B q (clS s n u) M vl l z)) := by
  have hU8' : Hid (byV u = .int .u8 (u.toNat : Int)) := (rfl : byV u = .int .u8 (u.toNat : Int))
  rw [hU8'.out]
  obtain ⟨p, hp⟩ : ∃ p, s.p = p := ⟨_, rfl⟩
  have hp' : Hid (s.p = p) := hp
  have hp6 : p ≤ 65536 := by rw [← hp]; exact h.out.ok.p
  have c0 : y.cell? ⟨q.s, 0, none⟩ = some (.int .i64 (p : Int)) := by rw [← hp]; exact h.out.bx.c 0 _ rfl
  have c2 : y.cell? ⟨q.s, 2, none⟩ = some (.slice (some ⟨q.u, 0, none⟩) 65536 65536) := h.out.bx.c 2 _ rfl
  obtain ⟨R, hR⟩ : ∃ R, clE s n = R := ⟨_, rfl⟩
  have hR' : Hid (clE s n = R) := hR
  rw [hR]
  have w1 : IntKind.i64.wrap ((p : Int) + n) = (p : Int) + n := by rw [IntKind.wrap_i64]; omega
  have hself : Hid (Kx B y y) := Kx.refl B y
  by_cases hbig : 65536 < p + n
  · have hi : (65536 : Int) < (p : Int) + n := by omega
    have e0 : Hid (R = 143) := by show R = 143; rw [← hR]; unfold clE; rw [hp, if_pos hbig]
    clear hbig hR hp hn hp6
    go_enter Tryd.func125, Tryd.ntmps125
    go_wp2
    go_ret
    exact ⟨by rw [e0.out]; rfl, hself.out, fun e => by have := e0.out; omega⟩
  · have hi : ¬ (65536 : Int) < (p : Int) + n := by omega
    obtain ⟨sp1, cp, hs, hsp⟩ := slU q.u p (p + n) n rfl (by omega)
    rw [show ((p + n : Nat) : Int) = (p : Int) + n by omega] at hs
    have hsp' : Hid (0 < n → sp1 = some ⟨q.u, p, none⟩) := hsp
    have hU : Hid (s.U.length = 65536) := h.out.ok.u
    have hfit : Hid (p + n ≤ 65536) := by show _ ≤ _; omega
    have hnI : (n : Int) ≤ 65536 := by omega
    clear hR hp hn hp6 hbig hsp
    go_enter Tryd.func125, Tryd.ntmps125
    go_wp2
    go_quiet (fail)
    go_wp2
    go_loopw [32] (fun t wz => ∃ (i : Nat) (x : World), x = wz ∧ t = .int .i64 (i : Int) ∧ Hid (i ≤ n ∧ ((s.U.drop p).take i).any (fun u => decide (u ≠ 0)) = false) ∧ Hid (Below y.heap.size y x)) (fun t _ => (n - intOf t).toNat)
    case atStart => exact ⟨0, _, rfl, rfl, ⟨Nat.zero_le _, by simp⟩, below_drewN (Below.refl _ _)⟩
    case round =>
      obtain ⟨i, wz, rfl, rfl, J, W⟩ := hrel
      have h1 : Hid (Sht B q s M vl l wz) := h.out.below W.out
      have hk1 : Hid (Kx B y wz) := Kx.of_below W.out h.out.Ble
      clear c0 c2
      by_cases hlt : i < n
      · have e9 := hsp'.out (by omega)
        obtain ⟨x, hx⟩ : ∃ x, s.U[p + i]? = some x := ⟨_, List.getElem?_eq_getElem (by rw [hU.out]; have := hfit.out; omega)⟩
        have ij := fun w => idxP (P := Tryd.prog) (g := q.u) (off := p) (len := n) (cap := cp) Tryd.underlying82 (s := 1) (by kernel_rfl) .i64 i w hlt
        rw [← e9, Nat.mul_one] at ij
        have cx : wz.cell? ⟨q.u, p + i, none⟩ = some (.int .u8 (x.toNat : Int)) := h1.out.u.c _ _ (rU_get _ _ _ hx)
        have hstep : Hid (((s.U.drop p).take (i + 1)).any (fun u => decide (u ≠ 0)) = decide (x ≠ 0)) := by
          show _ = _
          have hg : (s.U.drop p)[i]? = some x := by rw [List.getElem?_drop]; exact hx
          rw [List.take_add_one, hg, List.any_append, J.out.2]
          simp
        have hii : (i : Int) < n := by omega
        have hlt' : Hid (i < n) := hlt
        have wi : IntKind.i64.wrap ((i : Int) + 1) = (i : Int) + 1 := by rw [IntKind.wrap_i64]; omega
        clear hlt e9
        by_cases hx0 : x = 0
        · have hxi : ((x.toNat : Int) != 0) = false := by subst hx0; rfl
          have J9 : Hid (i + 1 ≤ n ∧ ((s.U.drop p).take (i + 1)).any (fun u => decide (u ≠ 0)) = false) := ⟨hlt'.out, by rw [hstep.out, decide_eq_false (by simp [hx0])]⟩
          clear hx0
          go_wp2
          go_roundw
          case rel => exact ⟨i + 1, _, rfl, by simp, J9, W⟩
          case measure => have := hlt'.out; simp [intOf]; omega
        · have hxi : ((x.toNat : Int) != 0) = true := by
            rw [bne_iff_ne]
            intro e
            exact hx0 (UInt8.toNat_inj.1 (by have : (0 : UInt8).toNat = 0 := rfl; omega))
          have e0 : Hid (R = 144) := by
            show R = 144
            rw [← hR'.out]
            unfold clE
            rw [hp'.out, if_neg (by have := hfit.out; omega), if_pos]
            have h9 : ((s.U.drop p).take (i + 1)).any (fun u => decide (u ≠ 0)) = true := by rw [hstep.out]; exact decide_eq_true hx0
            obtain ⟨v, hv, hv0⟩ := List.any_eq_true.1 h9
            refine List.any_eq_true.2 ⟨v, ?_, hv0⟩
            have hsub : (s.U.drop p).take (i + 1) = ((s.U.drop p).take n).take (i + 1) := by rw [List.take_take, Nat.min_eq_left (by have := hlt'.out; omega)]
            rw [hsub] at hv
            exact List.mem_of_mem_take hv
          clear hx0
          go_wp2
          go_ret
          exact ⟨by rw [e0.out]; rfl, hk1.out, fun e => by have := e0.out; omega⟩
      · have hie : i = n := by have := J.out.1; omega
        subst hie
        have e0 : Hid (R = 0) := by
          show R = 0
          rw [← hR'.out]
          unfold clE
          rw [hp'.out, if_neg (by have := hfit.out; omega), J.out.2]
          rfl
        clear hlt
        go_wp2
        go_loopw [41] (fun t wv => ∃ (k : Nat) (z : World), z = wv ∧ t = .int .i64 (k : Int) ∧ Hid (k ≤ i ∧ Bx z q.u (rU (splice s.U p (List.replicate k u))) 135 ∧ (∀ g, g ≠ q.u → z.heap[g]? = wz.heap[g]?) ∧ Below q.u wz z)) (fun t _ => (i - intOf t).toNat)
        case atStart => exact ⟨0, _, rfl, rfl, Nat.zero_le _, by rw [List.replicate_zero, splice_nil]; exact h1.out.u, fun g _ => rfl, Below.refl _ _⟩
        case round =>
          obtain ⟨k, z, rfl, rfl, Z⟩ := hrel
          have hqs : Hid (q.s ≠ q.u) := fun e => by
            have h9 := h1.out.bx
            rw [e] at h9
            have := h9.symm.trans h1.out.u
            simp at this
          by_cases hlt : k < i
          · have e9 := hsp'.out (by omega)
            have ij := fun w => idxP (P := Tryd.prog) (g := q.u) (off := p) (len := i) (cap := cp) Tryd.underlying82 (s := 1) (by kernel_rfl) .i64 k w hlt
            rw [← e9, Nat.mul_one] at ij
            have hsz : p + k < (rU (splice s.U p (List.replicate k u))).size := by rw [rU_size, length_splice _ _ _ (by rw [List.length_replicate, hU.out]; have := hfit.out; omega), hU.out]; have := hfit.out; omega
            obtain ⟨c9, zc⟩ : ∃ c, z.cell? ⟨q.u, p + k, none⟩ = some c := ⟨_, Z.out.2.1.c (p + k) _ (Array.getElem?_eq_getElem hsz)⟩
            have zf := Z.out.2.1.fz (p + k)
            have K9 : Hid (k + 1 ≤ i ∧ Bx (z.setCell ⟨q.u, p + k, none⟩ (byV u)) q.u (rU (splice s.U p (List.replicate (k + 1) u))) 135 ∧ (∀ g, g ≠ q.u → (z.setCell ⟨q.u, p + k, none⟩ (byV u)).heap[g]? = wz.heap[g]?) ∧ Below q.u wz (z.setCell ⟨q.u, p + k, none⟩ (byV u))) := by
              refine ⟨hlt, ?_, fun g hg => (heap_setCell_other z ⟨q.u, p + k, none⟩ g _ hg).trans (Z.out.2.2.1 g hg), Z.out.2.2.2.setCell (p := ⟨q.u, p + k, none⟩) (Nat.le_refl _) _⟩
              have := heap_setCell_same z q.u (p + k) _ _ (byV u) Z.out.2.1
              rw [rU_set, splice_rep _ _ _ _ (by rw [hU.out]; have := hfit.out; omega)] at this
              exact this
            have hki : (k : Int) < i := by omega
            have hlt' : Hid (k < i) := hlt
            have wi : IntKind.i64.wrap ((k : Int) + 1) = (k : Int) + 1 := by rw [IntKind.wrap_i64]; omega
            rw [hU8'.out] at K9
            clear hlt e9 hsz
            go_wp2
            go_roundw
            case rel => exact ⟨k + 1, _, rfl, by simp, K9⟩
            case measure => have := hlt'.out; simp [intOf]; omega
          · have hke : k = i := by have := Z.out.1; omega
            subst hke
            have zb : Bx z q.s (sC q s.p vl) 85 := (Z.out.2.2.1 _ hqs.out).trans h1.out.bx
            have zc := zb.c 0 _ rfl
            have zf := zb.fz 0
            have K9 : Hid (Kx B wz (z.setCell ⟨q.s, 0, none⟩ (.int .i64 ((p : Int) + k))) ∧ Sht B q (clS s k u) M vl l (z.setCell ⟨q.s, 0, none⟩ (.int .i64 ((p : Int) + k)))) := by
              have g1 : ∀ g, g ≠ q.s → (z.setCell ⟨q.s, 0, none⟩ (.int .i64 ((p : Int) + k))).heap[g]? = z.heap[g]? := fun g hg => heap_setCell_other z ⟨q.s, 0, none⟩ g _ hg
              have hu9 : ∀ {g : Nat} {cs : Array Value} {t : TypeId}, 135 ≠ t → 85 ≠ t → Bx wz g cs t → Bx (z.setCell ⟨q.s, 0, none⟩ (.int .i64 ((p : Int) + k))) g cs t := fun n1 n2 hb => bx_other zb n2 g1 (bx_other h1.out.u n1 Z.out.2.2.1 hb)
              have hb0 : Below B wz (z.setCell ⟨q.s, 0, none⟩ (.int .i64 ((p : Int) + k))) := (Z.out.2.2.2.mono h1.out.lo.2.1).setCell (p := ⟨q.s, 0, none⟩) h1.out.lo.1 _
              have hok : (clS s k u).Ok := h1.out.ok.cl u (by rw [hR'.out]; exact e0.out)
              refine ⟨⟨hb0, fun g cs hb => hu9 (by decide) (by decide) hb⟩, hok, ?_, ?_, hu9 (by decide) (by decide) h1.out.b, map_other zb g1 (map_other h1.out.u Z.out.2.2.1 h1.out.m), own_other zb (by decide) g1 (own_other h1.out.u (by decide) Z.out.2.2.1 h1.out.o), h1.out.lo⟩
              · have := heap_setCell_same z q.s 0 _ _ (.int .i64 ((p : Int) + k)) zb
                refine this.trans ?_
                simp [sC, clS, hp'.out]
              · refine (g1 _ (fun e => hqs.out e.symm)).trans ?_
                have := Z.out.2.1
                show _ = some (Obj.cells (rU (splice s.U s.p (List.replicate k u))) 135 (0, 0))
                rw [hp'.out]
                exact this
            clear hlt zb
            go_wp2
            go_ret
            exact ⟨by rw [e0.out]; rfl, hk1.out.trans K9.out.1, fun _ => K9.out.2⟩
end Go.Proofs.YtkpfhnogpcigaaaDoorR
/- A place that is called by a name; what each kind of piece takes up. -/
namespace Go.Proofs.YtkpfhnogpcigaaaDoorR
open Go Go.RowKit
set_option linter.unusedVariables false
set_option maxHeartbeats 3000000
set_option maxRecDepth 20000

theorem name_any (B : Nat) (q : Nu) (s : Sh) (M : List UInt8) (vl : Value) (l : List Lp) (y : World) (h : Hid (Sht B q s M vl l y)) (n : ByteArray) :
    Calls Tryd.prog 120 #[.pointer (some ⟨q.s, 0, none⟩), .string n] y fun e z => e = .returned (.int .i64 (nmE s n)) ∧ Hid (Kx B y z ∧ (nmE s n = 0 → Sht B q (nmS s n) M vl l z)) := by
  obtain ⟨p, hp⟩ : ∃ p, s.p = p := ⟨_, rfl⟩
  have hp' : Hid (s.p = p) := hp
  have c0 : y.cell? ⟨q.s, 0, none⟩ = some (.int .i64 (p : Int)) := by rw [← hp]; exact h.out.bx.c 0 _ rfl
  have c4 : y.cell? ⟨q.s, 4, none⟩ = some (.map (some q.m)) := h.out.bx.c 4 _ rfl
  obtain ⟨R, hR⟩ : ∃ R, nmE s n = R := ⟨_, rfl⟩
  have hR' : Hid (nmE s n = R) := hR
  rw [hR]
  have hself : Hid (Kx B y y) := Kx.refl B y
  by_cases hbig : 65535 < p
  · have hi : (65535 : Int) < (p : Int) := by omega
    have e0 : Hid (R = 143) := by show R = 143; rw [← hR]; unfold nmE; rw [hp, if_pos hbig]
    clear hbig hR hp
    go_enter Tryd.func120, Tryd.ntmps120
    go_wp2
    go_ret
    exact ⟨by rw [e0.out]; rfl, hself.out, fun e => by have := e0.out; omega⟩
  · have hi : ¬ (65535 : Int) < (p : Int) := by omega
    have hlk := h.out.m.toF.look (P := Tryd.prog) mapUL strUL n (.int .i64 0) (by kernel_rfl)
    rcases hf : lookN s.N n with _ | t
    · have hfn : mapN s.N n = none := by unfold mapN; rw [hf]; rfl
      rw [hfn] at hlk
      have e0 : Hid (R = 0) := by show R = 0; rw [← hR]; unfold nmE; rw [hp, if_neg hbig, hf]; rfl
      simp only [Option.getD_none, Option.isSome_none] at hlk
      have hf' : Hid (lookN s.N n = none) := hf
      clear hbig hR hp hf
      go_enter Tryd.func120, Tryd.ntmps120
      go_wp2
      refine region_class_tail 9 (fun x => Sht B q s M vl l x ∧ Below y.heap.size y x) (by kernel_rfl) (by kernel_rfl) ⟨h.out.below (below_drew (Below.refl _ _)), below_drew (Below.refl _ _)⟩ ?_
      simp only [List.take_succ_cons, List.take_zero, List.drop_succ_cons, List.drop_zero]
      refine quiet_one (.pointer (some ⟨q.s, 0, none⟩)) rfl (fun u hu => by go_simp) ?_
      refine quiet_one (.pointer (some ⟨q.s, 0, none⟩)) rfl (fun u hu => by go_simp) ?_
      refine quiet_one (.pointer (some ⟨q.s, 4, none⟩)) rfl (fun u hu => by go_simp) ?_
      refine quiet_one (.map (some q.m)) rfl (fun u hu => by have d : u.cell? ⟨q.s, 4, none⟩ = some (.map (some q.m)) := hu.1.bx.c 4 _ rfl; go_simp) ?_
      refine quiet_one (.string n) rfl (fun u hu => by go_simp) ?_
      refine quiet_one (.pointer (some ⟨q.s, 0, none⟩)) rfl (fun u hu => by go_simp) ?_
      refine quiet_one (.pointer (some ⟨q.s, 0, none⟩)) rfl (fun u hu => by go_simp) ?_
      refine quiet_one (.pointer (some ⟨q.s, 0, none⟩)) rfl (fun u hu => by go_simp) ?_
      refine quiet_one (.int .i64 (p : Int)) rfl (fun u hu => by
        have d : u.cell? ⟨q.s, 0, none⟩ = some (.int .i64 (p : Int)) := by rw [← hp'.out]; exact hu.1.bx.c 0 _ rfl
        go_simp) ?_
      refine wpQuiet_nil ?_
      intro z K3
      replace K3 : Hid _ := K3
      refine at_putE rfl (.tmp 25) (.tmp 26) (.tmp 30) (.inl rfl) q.m s.N n p K3.out.1.m hf'.out (by go_simp) (by go_simp) (by go_simp) ?_
      intro z1 H1
      have Z1 : Hid (Kx B y z1 ∧ Sht B q (nmS s n) M vl l z1) := by
        have k := K3.out.1
        obtain ⟨es, ck, hm⟩ := k.m.block
        have hbx : ∀ {g : Nat} {cs : Array Value} {t : TypeId}, Bx z g cs t → Bx z1 g cs t := fun {g cs t} hb => by
          refine (H1.out.2.1 g fun e => ?_).trans hb
          subst e
          have := hb.symm.trans hm
          simp at this
        refine ⟨(Kx.of_below K3.out.2 h.out.Ble).trans ⟨H1.out.2.2 _ k.lo.2.2.2, fun g cs hb => hbx hb⟩, k.ok.nm (by rw [hR'.out]; exact e0.out), hbx k.bx, hbx k.u, hbx k.b, ?_, k.o.keepB fun g e => ?_, k.lo⟩
        · have := H1.out.1
          rw [← hp'.out] at this
          exact this
        · obtain ⟨c9, h9⟩ := k.o.ty g e
          exact (hbx h9).trans h9.symm
      clear H1 K3
      go_wp2
      go_ret
      exact ⟨by rw [e0.out]; rfl, Z1.out.1, fun _ => Z1.out.2⟩
    · have hfn : mapN s.N n = some (.int .i64 (t : Int)) := by unfold mapN; rw [hf]; rfl
      rw [hfn] at hlk
      have e0 : Hid (R = 140) := by show R = 140; rw [← hR]; unfold nmE; rw [hp, if_neg hbig, hf]; rfl
      simp only [Option.getD_some, Option.isSome_some] at hlk
      clear hbig hR hp hf
      go_enter Tryd.func120, Tryd.ntmps120
      go_wp2
      go_ret
      exact ⟨by rw [e0.out]; rfl, hself.out, fun e => by have := e0.out; omega⟩
/-- What a piece does to the sheet. -/
def TkE (B : Nat) (q : Nu) (E : Int) (s' : Sh) (M : List UInt8) (vl : Value) (l : List Lp) (y : World) (e : Ending) (z : World) : Prop := e = .returned (.int .i64 E) ∧ Hid (Kx B y z ∧ (E = 0 → Sht B q s' M vl l z))
theorem tk_pre {B : Nat} {q : Nu} {E : Int} {s' : Sh} {M : List UInt8} {vl : Value} {l : List Lp} {y y1 : World} (k : Below y.heap.size y y1) (hB : B ≤ y.heap.size) {e : Ending} {z : World} (h : TkE B q E s' M vl l y1 e z) : TkE B q E s' M vl l y e z := ⟨h.1, (Kx.of_below k hB).trans h.2.out.1, h.2.out.2⟩
section
variable (B : Nat) (q : Nu) (s : Sh) (M : List UInt8) (vl : Value) (l : List Lp) (y : World)
theorem take_label (h : Hid (Sht B q s M vl l y)) (n : ByteArray) : Calls Tryd.prog 119 #[.agg #[.string n], .pointer (some ⟨q.s, 0, none⟩)] y (TkE B q (nmE s n) (nmS s n) M vl l y) := by
  have b1 : Hid (Below y.heap.size y (y.alloc (.cells #[.string n] 99))) := below1 y _
  have c := name_any B q s M vl l _ (h.out.below b1.out) n
  have cc := (one_bxL y #[.string n] 99).c 0 _ rfl
  go_enter Tryd.func119, Tryd.ntmps119
  go_wp2_with (go_at_call 120; refine c.mono ?_; rintro e z ⟨rfl, H⟩)
  go_ret
  exact tk_pre b1.out h.out.Ble ⟨rfl, H⟩
theorem take_move (h : Hid (Sht B q s M vl l y)) (a : Int) (ha : 0 ≤ a ∧ a ≤ 65535) : Calls Tryd.prog 122 #[.agg #[.int .i64 a], .pointer (some ⟨q.s, 0, none⟩)] y (TkE B q 0 ⟨a.toNat, s.U, s.N⟩ M vl l y) := by
  have b1 : Hid (Below y.heap.size y (y.alloc (.cells #[.int .i64 a] 101))) := below1 y _
  have h1 : Hid (Sht B q s M vl l (y.alloc (.cells #[.int .i64 a] 101))) := h.out.below b1.out
  have cc := (one_bxL y #[.int .i64 a] 101).c 0 _ rfl
  obtain ⟨y1, hy1⟩ : ∃ y1, y.alloc (.cells #[.int .i64 a] 101) = y1 := ⟨_, rfl⟩
  have zc := h1.out.bx.c 0 _ rfl
  have zf := h1.out.bx.fz 0
  have K9 : Hid (Kx B y (y.alloc (.cells #[.int .i64 a] 101) |>.setCell ⟨q.s, 0, none⟩ (.int .i64 a)) ∧ Sht B q ⟨a.toNat, s.U, s.N⟩ M vl l (y.alloc (.cells #[.int .i64 a] 101) |>.setCell ⟨q.s, 0, none⟩ (.int .i64 a))) := by
    rw [hy1] at h1 b1 ⊢
    have g1 : ∀ g, g ≠ q.s → (y1.setCell ⟨q.s, 0, none⟩ (.int .i64 a)).heap[g]? = y1.heap[g]? := fun g hg => heap_setCell_other y1 ⟨q.s, 0, none⟩ g _ hg
    have k := h1.out
    refine ⟨(Kx.of_below b1.out h.out.Ble).trans ⟨(Below.refl _ _).setCell (p := ⟨q.s, 0, none⟩) k.lo.1 _, fun g cs hb => bx_other k.bx (by decide) g1 hb⟩, ⟨?_, k.ok.u, k.ok.n⟩, ?_, bx_other k.bx (by decide) g1 k.u, bx_other k.bx (by decide) g1 k.b, map_other k.bx g1 k.m, own_other k.bx (by decide) g1 k.o, k.lo⟩
    · show a.toNat ≤ 65536; omega
    · have := heap_setCell_same y1 q.s 0 _ _ (.int .i64 a) k.bx
      refine this.trans ?_
      simp only [sC]
      rw [show ((a.toNat : Nat) : Int) = a by omega]
      rfl
  clear ha hy1
  go_enter Tryd.func122, Tryd.ntmps122
  go_wp2
  go_ret
  exact ⟨rfl, K9.out.1, fun _ => K9.out.2⟩
theorem take_data (h : Hid (Sht B q s M vl l y)) (sp : Option Addr) (n cap : Nat) (hn : n ≤ 65536) : Calls Tryd.prog 124 #[.agg #[.slice sp n cap], .pointer (some ⟨q.s, 0, none⟩)] y (TkE B q (clE s n) (clS s n 2) M vl l y) := by
  have b1 : Hid (Below y.heap.size y (y.alloc (.cells #[.slice sp n cap] 103))) := below1 y _
  have c := claim_any B q s M vl l _ (h.out.below b1.out) n hn 2
  have cc := (one_bxL y #[.slice sp n cap] 103).c 0 _ rfl
  rw [show byV 2 = .int .u8 2 from rfl] at c
  clear hn
  go_enter Tryd.func124, Tryd.ntmps124
  go_wp2_with (go_at_call 125; refine c.mono ?_; rintro e z ⟨rfl, H⟩)
  go_ret
  exact tk_pre b1.out h.out.Ble ⟨rfl, H⟩
theorem take_plain (h : Hid (Sht B q s M vl l y)) (sp : Option Addr) (n cap : Nat) (hn : n ≤ 65536) : Calls Tryd.prog 129 #[.agg #[.slice sp n cap], .pointer (some ⟨q.s, 0, none⟩)] y (TkE B q (clE s n) (clS s n 1) M vl l y) := by
  have b1 : Hid (Below y.heap.size y (y.alloc (.cells #[.slice sp n cap] 107))) := below1 y _
  have c := claim_any B q s M vl l _ (h.out.below b1.out) n hn 1
  have cc := (one_bxL y #[.slice sp n cap] 107).c 0 _ rfl
  rw [show byV 1 = .int .u8 1 from rfl] at c
  clear hn
  go_enter Tryd.func129, Tryd.ntmps129
  go_wp2_with (go_at_call 125; refine c.mono ?_; rintro e z ⟨rfl, H⟩)
  go_ret
  exact tk_pre b1.out h.out.Ble ⟨rfl, H⟩
theorem take_address (h : Hid (Sht B q s M vl l y)) (n : ByteArray) : Calls Tryd.prog 127 #[.agg #[.string n], .pointer (some ⟨q.s, 0, none⟩)] y (TkE B q (clE s 2) (clS s 2 2) M vl l y) := by
  have b1 : Hid (Below y.heap.size y (y.alloc (.cells #[.string n] 105))) := below1 y _
  have c := claim_any B q s M vl l _ (h.out.below b1.out) 2 (by decide) 2
  rw [show byV 2 = .int .u8 2 from rfl, show ((2 : Nat) : Int) = 2 from rfl] at c
  go_enter Tryd.func127, Tryd.ntmps127
  go_wp2_with (go_at_call 125; refine c.mono ?_; rintro e z ⟨rfl, H⟩)
  go_ret
  exact tk_pre b1.out h.out.Ble ⟨rfl, H⟩
def lbC (X : ByteArray) (F : Int) (L : Nat) (c : Int) (n : ByteArray) (p : Int) : Array Value := #[.string X, .int .u8 F, .int .i64 (L : Int), .int .i64 c, .string n, .int .u8 p]
theorem take_labelled (h : Hid (Sht B q s M vl l y)) (X : ByteArray) (F : Int) (L : Nat) (cy : Int) (n : ByteArray) (p : Int) (hL : L ≤ 65536) : Calls Tryd.prog 132 #[.agg (lbC X F L cy n p), .pointer (some ⟨q.s, 0, none⟩)] y (TkE B q (clE s L) (clS s L 1) M vl l y) := by
  have b1 : Hid (Below y.heap.size y (y.alloc (.cells (lbC X F L cy n p) 114))) := below1 y _
  have c := claim_any B q s M vl l _ (h.out.below b1.out) L hL 1
  have cc := (one_bxL y (lbC X F L cy n p) 114).c 2 _ rfl
  rw [show byV 1 = .int .u8 1 from rfl] at c
  clear hL
  go_enter Tryd.func132, Tryd.ntmps132
  go_wp2_with (go_at_call 125; refine c.mono ?_; rintro e z ⟨rfl, H⟩)
  go_ret
  exact tk_pre b1.out h.out.Ble ⟨rfl, H⟩
end
end Go.Proofs.YtkpfhnogpcigaaaDoorR
/- The piece of an item, as it lies in memory. -/
namespace Go.Proofs.YtkpfhnogpcigaaaDoorR
open Go Go.RowKit
set_option linter.unusedVariables false
set_option maxHeartbeats 3000000
set_option maxRecDepth 20000

theorem encB_byte (n : Nat) (hn : n < 256) (A : Int) (h : may n A) : ∀ z ∈ encB n A, 0 ≤ z ∧ z < 256 := by
  have hf := fm_le n hn
  unfold may at h
  have l2 : lay (2 * 3 + 2) = 15 := by decide
  have l3 : lay (3 * 3 + 2) = 7 := by decide
  have l4 : lay (4 * 3 + 2) = 255 := by decide
  have l5 : lay (5 * 3 + 2) = 255 := by decide
  have l6 : lay (6 * 3 + 2) = 65535 := by decide
  have hd : fm n = 1 ∨ fm n = 2 ∨ fm n = 3 ∨ fm n = 4 ∨ fm n = 5 ∨ fm n = 6 := by omega
  unfold encB
  have hh := held_lt n (fm n)
  intro z hz
  rcases hd with e | e | e | e | e | e
  all_goals
    rw [e] at h hh hz
    simp at hz
    omega
theorem encL_row (S : ByteArray) (A : Int) (n : Nat) (ho : opOf S = some n) (h : may n A) : ((encB n A).map (Value.int .u8)).toArray = rU (encL S A) ∧ (encB n A).length = (encL S A).length := by
  have hb := encB_byte n (opOf_lt ho).1 A h
  unfold encL rU
  rw [ho]
  refine ⟨?_, by simp⟩
  congr 1
  simp only [List.map_map]
  refine List.map_congr_left fun z hz => ?_
  have := hb z hz
  simp [byV, UInt8.toNat_ofNat']
  omega
theorem encL_len (S : ByteArray) (A : Int) (n : Nat) (ho : opOf S = some n) : (encL S A).length = lay (fm n * 3) := by
  unfold encL
  rw [ho]
  simp [encB_len n (opOf_lt ho).1 A]
  rfl
/-- New bytes that a call made. -/
def NewB (y : World) (L : List UInt8) (e : Ending) (z : World) : Prop := ∃ g, e = .returned (.slice (some ⟨g, 0, none⟩) L.length L.length) ∧ Hid (y.heap.size ≤ g ∧ Bx z g (rU L) 5 ∧ Below y.heap.size y z)
theorem encode_any (S : ByteArray) (A : Int) (n : Nat) (ho : opOf S = some n) (h : may n A) (y : World) (T : Hid (Tabs y)) :
    Calls Tryd.prog 48 #[.string S, .int .i64 A] y (NewB y (encL S A)) := by
  have c := enc_good S A n ho h y T.out
  have hr := encL_row S A n ho h
  unfold Coded at c
  rw [hr.1, hr.2] at c
  obtain ⟨L, hL⟩ : ∃ L, encL S A = L := ⟨_, rfl⟩
  rw [hL] at c ⊢
  clear hr h hL
  go_enter Tryd.func48, Tryd.ntmps48
  go_wp2_with (go_at_call 54; refine c.mono ?_; rintro e z ⟨g, hg, rfl, hb, hlow⟩; have H : Hid (y.heap.size ≤ g ∧ Bx z g (rU L) 5 ∧ Below y.heap.size y z) := ⟨hg, hb, hlow⟩; clear hg hb hlow)
  go_ret
  exact ⟨g, rfl, H⟩
/-- The piece of an item that may be; b: above which block its own bytes lie. -/
def PcV (b : Nat) (r : Ri) (t : TypeId) (v : Value) (z : World) : Prop :=
  (r.k = 1 ∧ t = 99 ∧ v = .agg #[.string r.n]) ∨ (r.k = 4 ∧ t = 101 ∧ v = .agg #[.int .i64 r.a]) ∨
  (r.k = 3 ∧ t = 103 ∧ v = .agg #[.slice r.sp r.m r.cap]) ∨ (r.k = 5 ∧ t = 105 ∧ v = .agg #[.string r.l]) ∨
  (r.k = 2 ∧ r.p = 0 ∧ t = 107 ∧ (∃ g, b < g ∧ v = .agg #[.slice (some ⟨g, 0, none⟩) (encL r.n r.a).length (encL r.n r.a).length] ∧ Bx z g (rU (encL r.n r.a)) 5) ∧ ∃ n, opOf r.n = some n ∧ may n r.a) ∨
  (r.k = 2 ∧ r.p ≠ 0 ∧ t = 114 ∧ ∃ n, opOf r.n = some n ∧ v = .agg (lbC r.n (fm n : Nat) (lay (fm n * 3)) (cyc n : Nat) r.l r.p))
theorem PcV.kx {b : Nat} {r : Ri} {t : TypeId} {v : Value} {y z : World} (h : PcV b r t v y) (k : ∀ g cs, b < g → Bx y g cs 5 → Bx z g cs 5) : PcV b r t v z := by
  rcases h with h | h | h | h | ⟨h1, h2, h3, ⟨g, h4, h5, h6⟩, h7⟩ | h
  · exact .inl h
  · exact .inr (.inl h)
  · exact .inr (.inr (.inl h))
  · exact .inr (.inr (.inr (.inl h)))
  · exact .inr (.inr (.inr (.inr (.inl ⟨h1, h2, h3, ⟨g, h4, h5, k g _ h4 h6⟩, h7⟩))))
  · exact .inr (.inr (.inr (.inr (.inr h))))
theorem may_enc {r : Ri} (h : mayI r = true) (hk : r.k = 2) (hp : r.p = 0) : ∃ n, opOf r.n = some n ∧ may n r.a := by
  unfold mayI at h
  rw [if_pos hk, codeI_is] at h
  unfold codeM at h
  rw [if_pos hp] at h
  simp at h
  have h1 := h.1.1
  unfold encE at h1
  rcases ho : opOf r.n with _ | n
  · rw [ho] at h1; simp at h1
  · rw [ho] at h1
    refine ⟨n, rfl, (mayB_iff n r.a).1 ?_⟩
    by_cases hb : mayB n r.a
    · exact hb
    · simp [hb] at h1
theorem may_lab {r : Ri} (h : mayI r = true) (hk : r.k = 2) (hp : r.p ≠ 0) : ∃ n, opOf r.n = some n ∧ takesB (fm n : Nat) r.p = true := by
  unfold mayI at h
  rw [if_pos hk, codeI_is] at h
  unfold codeM at h
  rw [if_neg hp] at h
  rcases ho : opOf r.n with _ | n
  · rw [ho] at h; simp at h
  · rw [ho] at h
    simp at h
    exact ⟨n, rfl, h.1.1⟩
theorem may_kind {r : Ri} (h : mayI r = true) : r.k = 1 ∨ r.k = 2 ∨ r.k = 3 ∨ r.k = 4 ∨ r.k = 5 := by
  by_cases h1 : r.k = 1
  · exact .inl h1
  by_cases h2 : r.k = 2
  · exact .inr (.inl h2)
  by_cases h3 : r.k = 3
  · exact .inr (.inr (.inl h3))
  by_cases h4 : r.k = 4
  · exact .inr (.inr (.inr (.inl h4)))
  by_cases h5 : r.k = 5
  · exact .inr (.inr (.inr (.inr h5)))
  rw [may0 h1 h2 h3 h4 h5] at h
  cases h
/-- What pieceOf answers. -/
def PoE (y : World) (r : Ri) (e : Ending) (z : World) : Prop := ∃ t v, e = .returned (.iface t v) ∧ Hid (Below y.heap.size y z ∧ ∀ b, b < y.heap.size → PcV b r t v z)
theorem pieceOf_any (y : World) (T : Hid (Tabs y)) (r : Ri) (hm : mayI r = true) : Calls Tryd.prog 37 #[.agg (i6 r)] y (PoE y r) := by
  have K0 : Hid (Fm y [(y.heap.size, i6 r, 49)] (y.alloc (.cells (i6 r) 49))) := Fm.one y _ _
  have c0 := (K0.out.bx 0 _ _ _ rfl).c 0 (.int .u8 r.k) rfl
  rcases may_kind hm with hk | hk | hk | hk | hk
  · have c1 := (K0.out.bx 0 _ _ _ rfl).c 1 (.string r.n) rfl
    have k1 : (r.k == 1) = true := by rw [hk]; rfl
    have hk' : Hid (r.k = 1) := hk
    clear hm hk
    go_enter Tryd.func37, Tryd.ntmps37
    go_wp2
    go_ret
    exact ⟨_, _, rfl, K0.out.low, fun b _ => .inl ⟨hk'.out, rfl, rfl⟩⟩
  · have k1 : (r.k == 1) = false := by rw [hk]; rfl
    have k3 : (r.k == 3) = false := by rw [hk]; rfl
    have k4 : (r.k == 4) = false := by rw [hk]; rfl
    have k5 : (r.k == 5) = false := by rw [hk]; rfl
    have c1 := (K0.out.bx 0 _ _ _ rfl).c 1 (.string r.n) rfl
    have c2 := (K0.out.bx 0 _ _ _ rfl).c 2 (.int .i64 r.a) rfl
    have c4 := (K0.out.bx 0 _ _ _ rfl).c 4 (.int .u8 r.p) rfl
    by_cases hp : r.p = 0
    · obtain ⟨n, ho, hma⟩ := may_enc hm hk hp
      have cE := encode_any r.n r.a n ho hma _ (T.out.below K0.out.low)
      have p0 : (r.p == 0) = true := by rw [hp]; rfl
      have fin : Hid (r.k = 2 ∧ r.p = 0 ∧ ∃ n, opOf r.n = some n ∧ may n r.a) := ⟨hk, hp, n, ho, hma⟩
      clear hm hk hp ho hma
      go_enter Tryd.func37, Tryd.ntmps37
      go_wp2_with (go_at_call 48; refine cE.mono ?_; rintro e z ⟨g, rfl, H⟩)
      go_ret
      exact ⟨_, _, rfl, of_below K0.out.low H.out.2.2, fun b hb => .inr (.inr (.inr (.inr (.inl ⟨fin.out.1, fin.out.2.1, rfl, ⟨g, by have := H.out.1; have := K0.out.low.size; omega, rfl, H.out.2.1⟩, fin.out.2.2⟩))))⟩
    · obtain ⟨n, ho, htk⟩ := may_lab hm hk hp
      have hX := (opOf_lt ho).2
      have cF := find_some r.n n ho _ _ _ _ (show nm n = r.n from hX) (show fm n = fm n from rfl) (show lay (fm n * 3) = lay (fm n * 3) from rfl) (show cyc n = cyc n from rfl) _ (T.out.below K0.out.low)
      have p0 : (r.p == 0) = false := by rw [beq_eq_false_iff_ne]; exact hp
      have c3 := (K0.out.bx 0 _ _ _ rfl).c 3 (.string r.l) rfl
      have fin : Hid (r.k = 2 ∧ r.p ≠ 0 ∧ opOf r.n = some n) := ⟨hk, hp, ho⟩
      obtain ⟨f, hf⟩ : ∃ f, fm n = f := ⟨_, rfl⟩
      obtain ⟨L, hL⟩ : ∃ L, lay (fm n * 3) = L := ⟨_, rfl⟩
      obtain ⟨c, hc⟩ : ∃ c, cyc n = c := ⟨_, rfl⟩
      have fin2 : Hid (fm n = f ∧ lay (fm n * 3) = L ∧ cyc n = c) := ⟨hf, hL, hc⟩
      rw [hL, hc, hf] at cF
      clear hm hk hp ho htk hX hf hL hc
      go_enter Tryd.func37, Tryd.ntmps37
      go_wp2_with (first
        | (go_at_call 49; refine cF.mono ?_; rintro e z ⟨rfl, H⟩; have K1 : Hid (Fm y [(y.heap.size, i6 r, 49)] z) := K0.out.below H; clear H cF)
        | ((with_reducible refine gen_world (z.alloc (.cells #[.string ⟨#[]⟩, .int .u8 0, .int .i64 0, .int .i64 0] 110)) (Fm y [(y.heap.size, i6 r, 49), (z.heap.size, #[.string ⟨#[]⟩, .int .u8 0, .int .i64 0, .int .i64 0], 110)]) ?_ ?_); exact K1.out.new _ _; intro z1 K2)
        | ((with_reducible refine at_st rtI z.heap.size #[.string ⟨#[]⟩, .int .u8 0, .int .i64 0, .int .i64 0] (#[.string r.n, .int .u8 (f : Int), .int .i64 (L : Int), .int .i64 (c : Int)]) ?_ ?_ ?_ ?_ (.tmp 3) (.tmp 45) ?_ ?_ ?_ ?_ ?_); exact K2.out.bx 1 _ _ _ rfl; rfl; rfl; simp [Value.oneCell']; rfl; rfl; rfl; rfl; intro z2 hw2; have K3 : Hid (Fm y [(y.heap.size, i6 r, 49), (z.heap.size, #[.string r.n, .int .u8 (f : Int), .int .i64 (L : Int), .int .i64 (c : Int)], 110)] z2) := K2.out.put 1 _ _ _ _ rfl hw2.out; clear hw2 K2; have d3 := (K3.out.bx 0 _ _ _ rfl).c 3 (.string r.l) rfl; have d4 := (K3.out.bx 0 _ _ _ rfl).c 4 (.int .u8 r.p) rfl)
        | ((with_reducible refine at_load rtI z.heap.size #[.string r.n, .int .u8 (f : Int), .int .i64 (L : Int), .int .i64 (c : Int)] ?_ ?_ (.tmp 3) ?_ ?_ ?_ ?_); exact K3.out.bx 1 _ _ _ rfl; rfl; rfl; rfl; rfl)
        | ((with_reducible refine at_bu _ _ (lbC r.n (f : Int) L (c : Int) r.l r.p) ?_ ?_ ?_ ?_ ?_); rfl; rfl; rfl; kernel_rfl))
      go_ret
      exact ⟨_, _, rfl, K3.out.low, fun b hb => .inr (.inr (.inr (.inr (.inr ⟨fin.out.1, fin.out.2.1, rfl, n, fin.out.2.2, by rw [fin2.out.2.1, fin2.out.2.2, fin2.out.1]; rfl⟩))))⟩
  · have c1 := (K0.out.bx 0 _ _ _ rfl).c 5 (.slice r.sp r.m r.cap) rfl
    have k1 : (r.k == 1) = false := by rw [hk]; rfl
    have k3 : (r.k == 3) = true := by rw [hk]; rfl
    have k4 : (r.k == 4) = false := by rw [hk]; rfl
    have hk' : Hid (r.k = 3) := hk
    clear hm hk
    go_enter Tryd.func37, Tryd.ntmps37
    go_wp2
    go_ret
    exact ⟨_, _, rfl, K0.out.low, fun b _ => .inr (.inr (.inl ⟨hk'.out, rfl, rfl⟩))⟩
  · have c1 := (K0.out.bx 0 _ _ _ rfl).c 2 (.int .i64 r.a) rfl
    have k1 : (r.k == 1) = false := by rw [hk]; rfl
    have k4 : (r.k == 4) = true := by rw [hk]; rfl
    have hk' : Hid (r.k = 4) := hk
    clear hm hk
    go_enter Tryd.func37, Tryd.ntmps37
    go_wp2
    go_ret
    exact ⟨_, _, rfl, K0.out.low, fun b _ => .inr (.inl ⟨hk'.out, rfl, rfl⟩)⟩
  · have c1 := (K0.out.bx 0 _ _ _ rfl).c 3 (.string r.l) rfl
    have k1 : (r.k == 1) = false := by rw [hk]; rfl
    have k3 : (r.k == 3) = false := by rw [hk]; rfl
    have k4 : (r.k == 4) = false := by rw [hk]; rfl
    have k5 : (r.k == 5) = true := by rw [hk]; rfl
    have hk' : Hid (r.k = 5) := hk
    clear hm hk
    go_enter Tryd.func37, Tryd.ntmps37
    go_wp2
    go_ret
    exact ⟨_, _, rfl, K0.out.low, fun b _ => .inr (.inr (.inr (.inl ⟨hk'.out, rfl, rfl⟩)))⟩
end Go.Proofs.YtkpfhnogpcigaaaDoorR
/- A piece that is laid on the sheet. -/
namespace Go.Proofs.YtkpfhnogpcigaaaDoorR
open Go Go.RowKit
set_option linter.unusedVariables false
set_option maxHeartbeats 3000000
set_option maxRecDepth 20000

theorem infoLp : (Tryd.prog.info? 87).map (fun i => (i.zero, i.size, i.bytes)) = some (some (.agg #[.nilIface, .int .i64 0]), 2, 24) := by kernel_rfl
theorem kLp : KdL (α := Lp) 81 87 2 24 cLp := by
  obtain ⟨i, hi, hz0, hz1, hz2⟩ := info_parts infoLp
  exact ⟨Tryd.underlying81, ⟨i, _, hi, hz0, hz1, hz2, rfl⟩, fun x => rfl, fun x v hv => by simp [cLp, lpA] at hv; rcases hv with rfl | rfl <;> rfl, by decide, by decide⟩
theorem szN_k {r : Ri} (h : mayI r = true) (hk : r.k = 3) : szN r = r.m ∧ r.m ≤ 256 ∧ 1 ≤ r.m := by
  have h1 := h
  rw [may3 hk] at h1
  simp at h1
  unfold szN sizeI
  rw [h, if_pos rfl, if_neg (by omega), if_pos hk]
  exact ⟨by simp, h1.1.2, h1.1.1⟩
theorem szN_a {r : Ri} (h : mayI r = true) (hk : r.k = 5) : szN r = 2 := by
  unfold szN sizeI
  rw [h, if_pos rfl, if_neg (by omega), if_neg (by omega), if_pos hk]
  rfl
theorem lay_le (n : Nat) (hn : n < 256) : lay (fm n * 3) ≤ 3 ∧ 1 ≤ lay (fm n * 3) := by
  have := by1_eq n hn
  unfold by1 at this
  rw [this]
  split
  · omega
  · split <;> omega
theorem szN_c {r : Ri} (h : mayI r = true) (hk : r.k = 2) {n : Nat} (ho : opOf r.n = some n) : szN r = lay (fm n * 3) := by
  unfold szN sizeI
  rw [h, if_pos rfl, if_pos hk, ho]
  simp
theorem szN_le {r : Ri} (h : mayI r = true) : szN r ≤ 256 := by
  rcases may_kind h with hk | hk | hk | hk | hk
  · unfold szN sizeI
    rw [h, if_pos rfl, if_neg (by omega), if_neg (by omega), if_neg (by omega)]
    decide
  · obtain ⟨n, ho⟩ := mayI_code h hk
    rw [szN_c h hk ho]
    have := (lay_le n (opOf_lt ho).1).1
    omega
  · rw [(szN_k h hk).1]; exact (szN_k h hk).2.1
  · unfold szN sizeI
    rw [h, if_pos rfl, if_neg (by omega), if_neg (by omega), if_neg (by omega)]
    decide
  · rw [szN_a h hk]; decide
/-- What lay does with the sheet. -/
def LyE (B : Nat) (q : Nu) (s : Sh) (r : Ri) (M : List UInt8) (l : List Lp) (t : TypeId) (v : Value) (y : World) (e : Ending) (z : World) : Prop := e = .returned (.int .i64 (stE s r)) ∧ Hid (Kx B y z ∧ (stE s r = 0 → ∃ vl', Sht B q (stS s r) M vl' (l ++ [⟨t, v, s.p⟩]) z))
section
variable {B : Nat} {q : Nu} {s : Sh} {M : List UInt8} {vl v' : Value} {l : List Lp} {z z1 : World} {x : Lp}
theorem app_bx {o : Obj} (h : OwnL 87 2 cLp B z vl l) (A : App1L 87 2 cLp B vl l x v' (z.alloc o) z1) {g : Nat} {cs : Array Value} {t : TypeId} (hne : 87 ≠ t) (hb : Bx z g cs t) : Bx z1 g cs t := by
  have h1 : Bx (z.alloc o) g cs t := hb.below (below1 z o)
  refine (A.cu.blk g (heap_lt h1) fun j hF => ?_).trans h1
  obtain ⟨c9, h9⟩ := h.ty g hF.1
  have := hb.symm.trans h9
  simp at this
  exact hne this.2.symm
theorem app_map {o : Obj} (h : OwnL 87 2 cLp B z vl l) (A : App1L 87 2 cLp B vl l x v' (z.alloc o) z1) {g : Nat} {F : List (ByteArray × Nat)} (hb : MapE z g F) : MapE z1 g F := by
  have h1 : MapE (z.alloc o) g F := hb.keep ((below1 z o).block g hb.lt)
  refine h1.keep (A.cu.blk g h1.lt fun j hF => ?_)
  obtain ⟨c9, h9⟩ := h.ty g hF.1
  obtain ⟨es, ck, hm⟩ := hb.block
  have := hm.symm.trans h9
  simp at this
theorem Sht.lay1 {o : Obj} (h : Sht B q s M vl l z) (A : App1L 87 2 cLp B vl l x v' (z.alloc o) z1) : z1.cell? ⟨q.s, 1, none⟩ = some vl ∧ z1.frozen? ⟨q.s, 1, none⟩ = false ∧ Kx B z (z1.setCell ⟨q.s, 1, none⟩ v') ∧ Sht B q s M v' (l ++ [x]) (z1.setCell ⟨q.s, 1, none⟩ v') := by
  have hb : Bx z1 q.s (sC q s.p vl) 85 := app_bx h.o A (by decide) h.bx
  have g1 : ∀ g, g ≠ q.s → (z1.setCell ⟨q.s, 1, none⟩ v').heap[g]? = z1.heap[g]? := fun g hg => heap_setCell_other z1 ⟨q.s, 1, none⟩ g _ hg
  refine ⟨hb.c 1 _ rfl, hb.fz 1, ⟨((below1 z o).mono h.Ble).trans (A.cu.low.setCell (p := ⟨q.s, 1, none⟩) h.lo.1 _), fun g cs k => bx_other hb (by decide) g1 (app_bx h.o A (by decide) k)⟩, h.ok, ?_, bx_other hb (by decide) g1 (app_bx h.o A (by decide) h.u), bx_other hb (by decide) g1 (app_bx h.o A (by decide) h.b), map_other hb g1 (app_map h.o A h.m), own_other hb (by decide) g1 A.own, h.lo⟩
  have := heap_setCell_same z1 q.s 1 _ _ v' hb
  refine this.trans ?_
  simp [sC]
end
theorem lay_label (B : Nat) (q : Nu) (s : Sh) (M : List UInt8) (vl : Value) (l : List Lp) (y : World) (h : Hid (Sht B q s M vl l y)) (hl : l.length ≤ 4096) (r : Ri) (hk : r.k = 1) :
    Calls Tryd.prog 36 #[.pointer (some ⟨q.s, 0, none⟩), .iface 99 (.agg #[.string r.n])] y (LyE B q s r M l 99 (.agg #[.string r.n]) y) := by
  have c0 : y.cell? ⟨q.s, 0, none⟩ = some (.int .i64 (s.p : Int)) := h.out.bx.c 0 _ rfl
  have cT := take_label B q s M vl l y h r.n
  have e1 : stE s r = nmE s r.n := by unfold stE; rw [if_pos hk]
  have e2 : stS s r = nmS s r.n := by unfold stS; rw [if_pos hk]
  rw [← e1, ← e2] at cT
  have hl' : Hid (l.length ≤ 4096) := hl
  have fin : Hid (∀ e z, e = .returned (.int .i64 (stE s r)) → (Kx B y z ∧ (stE s r = 0 → ∃ vl', Sht B q (stS s r) M vl' (l ++ [⟨99, .agg #[.string r.n], s.p⟩]) z)) → LyE B q s r M l 99 (.agg #[.string r.n]) y e z) := fun e z h1 h2 => ⟨h1, h2⟩
  generalize stE s r = E at cT fin
  generalize stS s r = S' at cT fin
  generalize LyE B q s r M l 99 (.agg #[.string r.n]) y = Fin at fin ⊢
  clear e1 e2 hk hl
  by_cases hE : E = 0
  · subst hE
    go_enter Tryd.func36, Tryd.ntmps36
    go_wp2_with (first
      | (go_at_call 119; refine cT.mono ?_; rintro e z ⟨rfl, H⟩; have K1 : Hid (Sht B q S' M vl l z) := H.out.2 rfl; have k1 : Hid (Kx B y z) := H.out.1; clear cT H; have d1 : z.cell? ⟨q.s, 1, none⟩ = some vl := K1.out.bx.c 1 _ rfl)
      | (at_builtin; refine at_appL kLp rfl (.tmp 21) (.tmp 25) rfl B vl l rfl (K1.out.o.alloc _) z.heap.size ⟨99, .agg #[.string r.n], s.p⟩ rfl (one_bxL _ _ _) ?_ ?_ ?_; (have := hl'.out; omega); (have := K1.out.Ble; simp; omega); intro v' z1 A; obtain ⟨sp9, cp9, e9, _⟩ := OwnL.open (c := cLp) (s := 2) (fun _ => rfl) A.out.own; rw [List.length_append, List.length_singleton] at e9; subst e9; have Z : Hid _ := K1.out.lay1 A.out; have f1 := Z.out.1; have f2 := Z.out.2.1; clear A d1))
    exact fin.out _ _ rfl ⟨k1.out.trans Z.out.2.2.1, fun _ => ⟨_, Z.out.2.2.2⟩⟩
  · have hE' : (E != 0) = true := by rw [bne_iff_ne]; exact hE
    have hE2 : Hid (E ≠ 0) := hE
    clear hE
    go_enter Tryd.func36, Tryd.ntmps36
    go_wp2_with (go_at_call 119; refine cT.mono ?_; rintro e z ⟨rfl, H⟩; clear cT)
    exact fin.out _ _ rfl ⟨H.out.1, fun e => absurd e hE2.out⟩
theorem lay_move (B : Nat) (q : Nu) (s : Sh) (M : List UInt8) (vl : Value) (l : List Lp) (y : World) (h : Hid (Sht B q s M vl l y)) (hl : l.length ≤ 4096) (r : Ri) (hk : r.k = 4) (hm : mayI r = true) :
    Calls Tryd.prog 36 #[.pointer (some ⟨q.s, 0, none⟩), .iface 101 (.agg #[.int .i64 r.a])] y (LyE B q s r M l 101 (.agg #[.int .i64 r.a]) y) := by
  have c0 : y.cell? ⟨q.s, 0, none⟩ = some (.int .i64 (s.p : Int)) := h.out.bx.c 0 _ rfl
  have cT := take_move B q s M vl l y h r.a (may_at hm hk)
  have e1 : stE s r = 0 := by unfold stE; rw [if_neg (by omega), if_pos hk]
  have e2 : stS s r = ⟨r.a.toNat, s.U, s.N⟩ := by unfold stS; rw [if_neg (by omega), if_pos hk]
  rw [← e1, ← e2] at cT
  have hl' : Hid (l.length ≤ 4096) := hl
  have fin : Hid (∀ e z, e = .returned (.int .i64 (stE s r)) → (Kx B y z ∧ (stE s r = 0 → ∃ vl', Sht B q (stS s r) M vl' (l ++ [⟨101, .agg #[.int .i64 r.a], s.p⟩]) z)) → LyE B q s r M l 101 (.agg #[.int .i64 r.a]) y e z) := fun e z h1 h2 => ⟨h1, h2⟩
  generalize stE s r = E at cT fin
  generalize stS s r = S' at cT fin
  generalize LyE B q s r M l 101 (.agg #[.int .i64 r.a]) y = Fin at fin ⊢
  clear e1 e2 hk hm hl
  by_cases hE : E = 0
  · subst hE
    go_enter Tryd.func36, Tryd.ntmps36
    go_wp2_with (first
      | (go_at_call 122; refine cT.mono ?_; rintro e z ⟨rfl, H⟩; have K1 : Hid (Sht B q S' M vl l z) := H.out.2 rfl; have k1 : Hid (Kx B y z) := H.out.1; clear cT H; have d1 : z.cell? ⟨q.s, 1, none⟩ = some vl := K1.out.bx.c 1 _ rfl)
      | (at_builtin; refine at_appL kLp rfl (.tmp 21) (.tmp 25) rfl B vl l rfl (K1.out.o.alloc _) z.heap.size ⟨101, .agg #[.int .i64 r.a], s.p⟩ rfl (one_bxL _ _ _) ?_ ?_ ?_; (have := hl'.out; omega); (have := K1.out.Ble; simp; omega); intro v' z1 A; obtain ⟨sp9, cp9, e9, _⟩ := OwnL.open (c := cLp) (s := 2) (fun _ => rfl) A.out.own; rw [List.length_append, List.length_singleton] at e9; subst e9; have Z : Hid _ := K1.out.lay1 A.out; have f1 := Z.out.1; have f2 := Z.out.2.1; clear A d1))
    exact fin.out _ _ rfl ⟨k1.out.trans Z.out.2.2.1, fun _ => ⟨_, Z.out.2.2.2⟩⟩
  · have hE' : (E != 0) = true := by rw [bne_iff_ne]; exact hE
    have hE2 : Hid (E ≠ 0) := hE
    clear hE
    go_enter Tryd.func36, Tryd.ntmps36
    go_wp2_with (go_at_call 122; refine cT.mono ?_; rintro e z ⟨rfl, H⟩; clear cT)
    exact fin.out _ _ rfl ⟨H.out.1, fun e => absurd e hE2.out⟩
theorem lay_data (B : Nat) (q : Nu) (s : Sh) (M : List UInt8) (vl : Value) (l : List Lp) (y : World) (h : Hid (Sht B q s M vl l y)) (hl : l.length ≤ 4096) (r : Ri) (hk : r.k = 3) (hm : mayI r = true) :
    Calls Tryd.prog 36 #[.pointer (some ⟨q.s, 0, none⟩), .iface 103 (.agg #[.slice r.sp r.m r.cap])] y (LyE B q s r M l 103 (.agg #[.slice r.sp r.m r.cap]) y) := by
  have c0 : y.cell? ⟨q.s, 0, none⟩ = some (.int .i64 (s.p : Int)) := h.out.bx.c 0 _ rfl
  have cT := take_data B q s M vl l y h r.sp r.m r.cap (by have := (szN_k hm hk).2; omega)
  have e1 : stE s r = clE s r.m := by unfold stE; rw [if_neg (by omega), if_neg (by omega), (szN_k hm hk).1]
  have e2 : stS s r = clS s r.m 2 := by unfold stS useI; rw [if_neg (by omega), if_neg (by omega), (szN_k hm hk).1, if_neg (by omega)]
  rw [← e1, ← e2] at cT
  have hl' : Hid (l.length ≤ 4096) := hl
  have fin : Hid (∀ e z, e = .returned (.int .i64 (stE s r)) → (Kx B y z ∧ (stE s r = 0 → ∃ vl', Sht B q (stS s r) M vl' (l ++ [⟨103, .agg #[.slice r.sp r.m r.cap], s.p⟩]) z)) → LyE B q s r M l 103 (.agg #[.slice r.sp r.m r.cap]) y e z) := fun e z h1 h2 => ⟨h1, h2⟩
  generalize stE s r = E at cT fin
  generalize stS s r = S' at cT fin
  generalize LyE B q s r M l 103 (.agg #[.slice r.sp r.m r.cap]) y = Fin at fin ⊢
  clear e1 e2 hk hm hl
  by_cases hE : E = 0
  · subst hE
    go_enter Tryd.func36, Tryd.ntmps36
    go_wp2_with (first
      | (go_at_call 124; refine cT.mono ?_; rintro e z ⟨rfl, H⟩; have K1 : Hid (Sht B q S' M vl l z) := H.out.2 rfl; have k1 : Hid (Kx B y z) := H.out.1; clear cT H; have d1 : z.cell? ⟨q.s, 1, none⟩ = some vl := K1.out.bx.c 1 _ rfl)
      | (at_builtin; refine at_appL kLp rfl (.tmp 21) (.tmp 25) rfl B vl l rfl (K1.out.o.alloc _) z.heap.size ⟨103, .agg #[.slice r.sp r.m r.cap], s.p⟩ rfl (one_bxL _ _ _) ?_ ?_ ?_; (have := hl'.out; omega); (have := K1.out.Ble; simp; omega); intro v' z1 A; obtain ⟨sp9, cp9, e9, _⟩ := OwnL.open (c := cLp) (s := 2) (fun _ => rfl) A.out.own; rw [List.length_append, List.length_singleton] at e9; subst e9; have Z : Hid _ := K1.out.lay1 A.out; have f1 := Z.out.1; have f2 := Z.out.2.1; clear A d1))
    exact fin.out _ _ rfl ⟨k1.out.trans Z.out.2.2.1, fun _ => ⟨_, Z.out.2.2.2⟩⟩
  · have hE' : (E != 0) = true := by rw [bne_iff_ne]; exact hE
    have hE2 : Hid (E ≠ 0) := hE
    clear hE
    go_enter Tryd.func36, Tryd.ntmps36
    go_wp2_with (go_at_call 124; refine cT.mono ?_; rintro e z ⟨rfl, H⟩; clear cT)
    exact fin.out _ _ rfl ⟨H.out.1, fun e => absurd e hE2.out⟩
theorem lay_address (B : Nat) (q : Nu) (s : Sh) (M : List UInt8) (vl : Value) (l : List Lp) (y : World) (h : Hid (Sht B q s M vl l y)) (hl : l.length ≤ 4096) (r : Ri) (hk : r.k = 5) (hm : mayI r = true) :
    Calls Tryd.prog 36 #[.pointer (some ⟨q.s, 0, none⟩), .iface 105 (.agg #[.string r.l])] y (LyE B q s r M l 105 (.agg #[.string r.l]) y) := by
  have c0 : y.cell? ⟨q.s, 0, none⟩ = some (.int .i64 (s.p : Int)) := h.out.bx.c 0 _ rfl
  have cT := take_address B q s M vl l y h r.l
  have e1 : stE s r = clE s 2 := by unfold stE; rw [if_neg (by omega), if_neg (by omega), szN_a hm hk]
  have e2 : stS s r = clS s 2 2 := by unfold stS useI; rw [if_neg (by omega), if_neg (by omega), szN_a hm hk, if_neg (by omega)]
  rw [← e1, ← e2] at cT
  have hl' : Hid (l.length ≤ 4096) := hl
  have fin : Hid (∀ e z, e = .returned (.int .i64 (stE s r)) → (Kx B y z ∧ (stE s r = 0 → ∃ vl', Sht B q (stS s r) M vl' (l ++ [⟨105, .agg #[.string r.l], s.p⟩]) z)) → LyE B q s r M l 105 (.agg #[.string r.l]) y e z) := fun e z h1 h2 => ⟨h1, h2⟩
  generalize stE s r = E at cT fin
  generalize stS s r = S' at cT fin
  generalize LyE B q s r M l 105 (.agg #[.string r.l]) y = Fin at fin ⊢
  clear e1 e2 hk hm hl
  by_cases hE : E = 0
  · subst hE
    go_enter Tryd.func36, Tryd.ntmps36
    go_wp2_with (first
      | (go_at_call 127; refine cT.mono ?_; rintro e z ⟨rfl, H⟩; have K1 : Hid (Sht B q S' M vl l z) := H.out.2 rfl; have k1 : Hid (Kx B y z) := H.out.1; clear cT H; have d1 : z.cell? ⟨q.s, 1, none⟩ = some vl := K1.out.bx.c 1 _ rfl)
      | (at_builtin; refine at_appL kLp rfl (.tmp 21) (.tmp 25) rfl B vl l rfl (K1.out.o.alloc _) z.heap.size ⟨105, .agg #[.string r.l], s.p⟩ rfl (one_bxL _ _ _) ?_ ?_ ?_; (have := hl'.out; omega); (have := K1.out.Ble; simp; omega); intro v' z1 A; obtain ⟨sp9, cp9, e9, _⟩ := OwnL.open (c := cLp) (s := 2) (fun _ => rfl) A.out.own; rw [List.length_append, List.length_singleton] at e9; subst e9; have Z : Hid _ := K1.out.lay1 A.out; have f1 := Z.out.1; have f2 := Z.out.2.1; clear A d1))
    exact fin.out _ _ rfl ⟨k1.out.trans Z.out.2.2.1, fun _ => ⟨_, Z.out.2.2.2⟩⟩
  · have hE' : (E != 0) = true := by rw [bne_iff_ne]; exact hE
    have hE2 : Hid (E ≠ 0) := hE
    clear hE
    go_enter Tryd.func36, Tryd.ntmps36
    go_wp2_with (go_at_call 127; refine cT.mono ?_; rintro e z ⟨rfl, H⟩; clear cT)
    exact fin.out _ _ rfl ⟨H.out.1, fun e => absurd e hE2.out⟩
theorem lay_plain (B : Nat) (q : Nu) (s : Sh) (M : List UInt8) (vl : Value) (l : List Lp) (y : World) (h : Hid (Sht B q s M vl l y)) (hl : l.length ≤ 4096) (r : Ri) (hk : r.k = 2) (hm : mayI r = true) (n : Nat) (ho : opOf r.n = some n) (L : Nat) (hL : L = lay (fm n * 3)) (sp : Option Addr) :
    Calls Tryd.prog 36 #[.pointer (some ⟨q.s, 0, none⟩), .iface 107 (.agg #[.slice sp L L])] y (LyE B q s r M l 107 (.agg #[.slice sp L L]) y) := by
  have c0 : y.cell? ⟨q.s, 0, none⟩ = some (.int .i64 (s.p : Int)) := h.out.bx.c 0 _ rfl
  have cT := take_plain B q s M vl l y h sp L L (by have := (lay_le n (opOf_lt ho).1).1; omega)
  have e1 : stE s r = clE s L := by unfold stE; rw [if_neg (by omega), if_neg (by omega), szN_c hm hk ho, hL]
  have e2 : stS s r = clS s L 1 := by unfold stS useI; rw [if_neg (by omega), if_neg (by omega), szN_c hm hk ho, if_pos hk, hL]
  rw [← e1, ← e2] at cT
  have hl' : Hid (l.length ≤ 4096) := hl
  have fin : Hid (∀ e z, e = .returned (.int .i64 (stE s r)) → (Kx B y z ∧ (stE s r = 0 → ∃ vl', Sht B q (stS s r) M vl' (l ++ [⟨107, .agg #[.slice sp L L], s.p⟩]) z)) → LyE B q s r M l 107 (.agg #[.slice sp L L]) y e z) := fun e z h1 h2 => ⟨h1, h2⟩
  generalize stE s r = E at cT fin
  generalize stS s r = S' at cT fin
  generalize LyE B q s r M l 107 (.agg #[.slice sp L L]) y = Fin at fin ⊢
  clear e1 e2 hk hm ho hL hl
  by_cases hE : E = 0
  · subst hE
    go_enter Tryd.func36, Tryd.ntmps36
    go_wp2_with (first
      | (go_at_call 129; refine cT.mono ?_; rintro e z ⟨rfl, H⟩; have K1 : Hid (Sht B q S' M vl l z) := H.out.2 rfl; have k1 : Hid (Kx B y z) := H.out.1; clear cT H; have d1 : z.cell? ⟨q.s, 1, none⟩ = some vl := K1.out.bx.c 1 _ rfl)
      | (at_builtin; refine at_appL kLp rfl (.tmp 21) (.tmp 25) rfl B vl l rfl (K1.out.o.alloc _) z.heap.size ⟨107, .agg #[.slice sp L L], s.p⟩ rfl (one_bxL _ _ _) ?_ ?_ ?_; (have := hl'.out; omega); (have := K1.out.Ble; simp; omega); intro v' z1 A; obtain ⟨sp9, cp9, e9, _⟩ := OwnL.open (c := cLp) (s := 2) (fun _ => rfl) A.out.own; rw [List.length_append, List.length_singleton] at e9; subst e9; have Z : Hid _ := K1.out.lay1 A.out; have f1 := Z.out.1; have f2 := Z.out.2.1; clear A d1))
    exact fin.out _ _ rfl ⟨k1.out.trans Z.out.2.2.1, fun _ => ⟨_, Z.out.2.2.2⟩⟩
  · have hE' : (E != 0) = true := by rw [bne_iff_ne]; exact hE
    have hE2 : Hid (E ≠ 0) := hE
    clear hE
    go_enter Tryd.func36, Tryd.ntmps36
    go_wp2_with (go_at_call 129; refine cT.mono ?_; rintro e z ⟨rfl, H⟩; clear cT)
    exact fin.out _ _ rfl ⟨H.out.1, fun e => absurd e hE2.out⟩
theorem lay_labelled (B : Nat) (q : Nu) (s : Sh) (M : List UInt8) (vl : Value) (l : List Lp) (y : World) (h : Hid (Sht B q s M vl l y)) (hl : l.length ≤ 4096) (r : Ri) (hk : r.k = 2) (hm : mayI r = true) (n : Nat) (ho : opOf r.n = some n) (L : Nat) (hL : L = lay (fm n * 3)) (X : ByteArray) (F cy : Int) :
    Calls Tryd.prog 36 #[.pointer (some ⟨q.s, 0, none⟩), .iface 114 (.agg (lbC X F L cy r.l r.p))] y (LyE B q s r M l 114 (.agg (lbC X F L cy r.l r.p)) y) := by
  have c0 : y.cell? ⟨q.s, 0, none⟩ = some (.int .i64 (s.p : Int)) := h.out.bx.c 0 _ rfl
  have cT := take_labelled B q s M vl l y h X F L cy r.l r.p (by have := (lay_le n (opOf_lt ho).1).1; omega)
  have e1 : stE s r = clE s L := by unfold stE; rw [if_neg (by omega), if_neg (by omega), szN_c hm hk ho, hL]
  have e2 : stS s r = clS s L 1 := by unfold stS useI; rw [if_neg (by omega), if_neg (by omega), szN_c hm hk ho, if_pos hk, hL]
  rw [← e1, ← e2] at cT
  have hl' : Hid (l.length ≤ 4096) := hl
  have fin : Hid (∀ e z, e = .returned (.int .i64 (stE s r)) → (Kx B y z ∧ (stE s r = 0 → ∃ vl', Sht B q (stS s r) M vl' (l ++ [⟨114, .agg (lbC X F L cy r.l r.p), s.p⟩]) z)) → LyE B q s r M l 114 (.agg (lbC X F L cy r.l r.p)) y e z) := fun e z h1 h2 => ⟨h1, h2⟩
  generalize stE s r = E at cT fin
  generalize stS s r = S' at cT fin
  generalize LyE B q s r M l 114 (.agg (lbC X F L cy r.l r.p)) y = Fin at fin ⊢
  clear e1 e2 hk hm ho hL hl
  by_cases hE : E = 0
  · subst hE
    go_enter Tryd.func36, Tryd.ntmps36
    go_wp2_with (first
      | (go_at_call 132; refine cT.mono ?_; rintro e z ⟨rfl, H⟩; have K1 : Hid (Sht B q S' M vl l z) := H.out.2 rfl; have k1 : Hid (Kx B y z) := H.out.1; clear cT H; have d1 : z.cell? ⟨q.s, 1, none⟩ = some vl := K1.out.bx.c 1 _ rfl)
      | (at_builtin; refine at_appL kLp rfl (.tmp 21) (.tmp 25) rfl B vl l rfl (K1.out.o.alloc _) z.heap.size ⟨114, .agg (lbC X F L cy r.l r.p), s.p⟩ rfl (one_bxL _ _ _) ?_ ?_ ?_; (have := hl'.out; omega); (have := K1.out.Ble; simp; omega); intro v' z1 A; obtain ⟨sp9, cp9, e9, _⟩ := OwnL.open (c := cLp) (s := 2) (fun _ => rfl) A.out.own; rw [List.length_append, List.length_singleton] at e9; subst e9; have Z : Hid _ := K1.out.lay1 A.out; have f1 := Z.out.1; have f2 := Z.out.2.1; clear A d1))
    exact fin.out _ _ rfl ⟨k1.out.trans Z.out.2.2.1, fun _ => ⟨_, Z.out.2.2.2⟩⟩
  · have hE' : (E != 0) = true := by rw [bne_iff_ne]; exact hE
    have hE2 : Hid (E ≠ 0) := hE
    clear hE
    go_enter Tryd.func36, Tryd.ntmps36
    go_wp2_with (go_at_call 132; refine cT.mono ?_; rintro e z ⟨rfl, H⟩; clear cT)
    exact fin.out _ _ rfl ⟨H.out.1, fun e => absurd e hE2.out⟩
/-- Any item that may be is laid. -/
theorem lay_any (B : Nat) (q : Nu) (s : Sh) (M : List UInt8) (vl : Value) (l : List Lp) (y : World) (h : Hid (Sht B q s M vl l y)) (hl : l.length ≤ 4096) (r : Ri) (hm : mayI r = true) (b : Nat) (t : TypeId) (v : Value) (hp : PcV b r t v y) :
    Calls Tryd.prog 36 #[.pointer (some ⟨q.s, 0, none⟩), .iface t v] y (LyE B q s r M l t v y) := by
  rcases hp with ⟨hk, rfl, rfl⟩ | ⟨hk, rfl, rfl⟩ | ⟨hk, rfl, rfl⟩ | ⟨hk, rfl, rfl⟩ | ⟨hk, _, rfl, ⟨g, _, rfl, _⟩, n, ho, _⟩ | ⟨hk, _, rfl, n, ho, rfl⟩
  · exact lay_label B q s M vl l y h hl r hk
  · exact lay_move B q s M vl l y h hl r hk hm
  · exact lay_data B q s M vl l y h hl r hk hm
  · exact lay_address B q s M vl l y h hl r hk hm
  · exact lay_plain B q s M vl l y h hl r hk hm n ho _ (encL_len r.n r.a n ho) _
  · exact lay_labelled B q s M vl l y h hl r hk hm n ho _ rfl _ _ _
end Go.Proofs.YtkpfhnogpcigaaaDoorR
/- Labels that pieces ask for; the bytes of pieces. -/
namespace Go.Proofs.YtkpfhnogpcigaaaDoorR
open Go Go.RowKit
set_option linter.unusedVariables false
set_option maxHeartbeats 3000000
set_option maxRecDepth 20000

def fdE (N : List (ByteArray × Nat)) (n : ByteArray) : Int := if (lookN N n).isSome then 0 else 141
theorem find_any (q : Nu) (p : Nat) (vl : Value) (N : List (ByteArray × Nat)) (y : World) (hs : Hid (Bx y q.s (sC q p vl) 85)) (hm : Hid (MapE y q.m N)) (n : ByteArray) :
    Calls Tryd.prog 66 #[.pointer (some ⟨q.s, 0, none⟩), .string n] y fun e z => e = .returned (.tuple #[.int .i64 (((lookN N n).getD 0 : Nat) : Int), .int .i64 (fdE N n)]) ∧ z = y := by
  have c4 : y.cell? ⟨q.s, 4, none⟩ = some (.map (some q.m)) := hs.out.c 4 _ rfl
  have hlk := hm.out.toF.look (P := Tryd.prog) mapUL strUL n (.int .i64 0) (by kernel_rfl)
  unfold mapN at hlk
  unfold fdE
  rcases hf : lookN N n with _ | t
  · rw [hf] at hlk
    simp only [Option.map_none, Option.getD_none, Option.isSome_none] at hlk ⊢
    go_enter Tryd.func66, Tryd.ntmps66
    go_wp2
    go_ret2
    exact ⟨rfl, rfl⟩
  · rw [hf] at hlk
    simp only [Option.map_some, Option.getD_some, Option.isSome_some] at hlk ⊢
    go_enter Tryd.func66, Tryd.ntmps66
    go_wp2
    go_ret2
    exact ⟨rfl, rfl⟩
theorem leaves_any (X : ByteArray) (F : Int) (L : Nat) (cy : Int) (n : ByteArray) (p : Int) (a t : Nat) (ha : a ≤ 65536) (ht : t ≤ 65535) (y : World) :
    Calls Tryd.prog 67 #[.agg (lbC X F L cy n p), .int .i64 (a : Int), .int .i64 (t : Int)] y fun e z => e = .returned (.bool (decide (F = 5 ∧ t / 256 ≠ (a + 1) / 256))) ∧ Below y.heap.size y z := by
  have b1 : Hid (Below y.heap.size y (y.alloc (.cells (lbC X F L cy n p) 114))) := below1 y _
  have cc := (one_bxL y (lbC X F L cy n p) 114).c 1 (.int .u8 F) rfl
  have wa : IntKind.i64.wrap ((a : Int) + 1) = (a : Int) + 1 := by rw [IntKind.wrap_i64]; omega
  by_cases hF : F = 5
  · have h5 : (F == 5) = true := by rw [beq_iff_eq]; exact hF
    have fin : Hid (decide (F = 5 ∧ t / 256 ≠ (a + 1) / 256) = ((t : Int) / 256 != ((a : Int) + 1) / 256)) := by
      show _ = _
      rw [Bool.eq_iff_iff]
      simp [hF]
      omega
    rw [fin.out]
    clear hF ha ht
    go_enter Tryd.func67, Tryd.ntmps67
    go_wp2
    go_ret
    exact ⟨rfl, b1.out⟩
  · have h5 : (F == 5) = false := by rw [beq_eq_false_iff_ne]; exact hF
    rw [decide_eq_false (fun h => hF h.1)]
    clear hF ha ht
    go_enter Tryd.func67, Tryd.ntmps67
    go_wp2
    go_ret
    exact ⟨rfl, b1.out⟩
theorem and255 (t : Nat) (ht : t ≤ 65535) : bits .and .i64 (t : Int) 255 = ((t % 256 : Nat) : Int) := by
  show IntKind.i64.wrap ((BitVec.ofInt 64 (t : Int) &&& BitVec.ofInt 64 ((255 : Nat) : Int)).toNat : Int) = _
  rw [BitVec.ofInt_natCast, BitVec.ofInt_natCast, BitVec.toNat_and, BitVec.toNat_ofNat, BitVec.toNat_ofNat, Nat.mod_eq_of_lt (by omega), Nat.mod_eq_of_lt (by omega), show 255 = 2 ^ 8 - 1 from rfl, Nat.and_two_pow_sub_one_eq_mod, IntKind.wrap_i64]
  omega
def opF (F p : Int) (t : Nat) : Nat := if p = 2 then t / 256 else if p = 3 ∨ F = 5 then t % 256 else t
theorem operand_any (X : ByteArray) (F : Int) (L : Nat) (cy : Int) (n : ByteArray) (p : Int) (t : Nat) (ht : t ≤ 65535) (y : World) :
    Calls Tryd.prog 131 #[.agg (lbC X F L cy n p), .int .i64 (t : Int)] y fun e z => e = .returned (.int .i64 (opF F p t : Nat)) ∧ Below y.heap.size y z := by
  have b1 : Hid (Below y.heap.size y (y.alloc (.cells (lbC X F L cy n p) 114))) := below1 y _
  have c1 := (one_bxL y (lbC X F L cy n p) 114).c 1 (.int .u8 F) rfl
  have c2 := (one_bxL y (lbC X F L cy n p) 114).c 5 (.int .u8 p) rfl
  have ha := and255 t ht
  unfold opF
  by_cases h2 : p = 2
  · have e2 : (p == 2) = true := by rw [beq_iff_eq]; exact h2
    rw [if_pos h2]
    clear h2
    go_enter Tryd.func131, Tryd.ntmps131
    go_wp2
    go_ret
    exact ⟨by first | rfl | (congr 2; omega), b1.out⟩
  · have e2 : (p == 2) = false := by rw [beq_eq_false_iff_ne]; exact h2
    rw [if_neg h2]
    by_cases h3 : p = 3
    · have e3 : (p == 3) = true := by rw [beq_iff_eq]; exact h3
      rw [if_pos (.inl h3)]
      clear h2 h3
      go_enter Tryd.func131, Tryd.ntmps131
      go_wp2
      go_ret
      exact ⟨by first | rfl | (congr 2; omega), b1.out⟩
    · have e3 : (p == 3) = false := by rw [beq_eq_false_iff_ne]; exact h3
      by_cases h5 : F = 5
      · have e5 : (F == 5) = true := by rw [beq_iff_eq]; exact h5
        rw [if_pos (.inr h5)]
        clear h2 h3 h5
        go_enter Tryd.func131, Tryd.ntmps131
        go_wp2
        go_ret
        exact ⟨by first | rfl | (congr 2; omega), b1.out⟩
      · have e5 : (F == 5) = false := by rw [beq_eq_false_iff_ne]; exact h5
        rw [if_neg (fun h => h.elim h3 h5)]
        clear h2 h3 h5
        go_enter Tryd.func131, Tryd.ntmps131
        go_wp2
        go_ret
        exact ⟨rfl, b1.out⟩
/-- Bytes that lie somewhere. -/
def BtE (y : World) (L : List UInt8) (e : Ending) (z : World) : Prop := ∃ sp cap, e = .returned (.slice sp L.length cap) ∧ Hid (LB8 z sp L ∧ Below y.heap.size y z)
theorem lb_nil (z : World) (sp : Option Addr) : LB8 z sp [] := fun j b h => by simp at h
theorem lb_bx {z : World} {g : Nat} {L : List UInt8} {t : TypeId} (h : Bx z g (rU L) t) : LB8 z (some ⟨g, 0, none⟩) L := fun j b hj => ⟨g, 0, rfl, by rw [Nat.zero_add]; exact h.c j _ (rU_get _ _ _ hj)⟩
theorem bytes_label (y : World) (n : ByteArray) (t : Int) : Calls Tryd.prog 118 #[.agg #[.string n], .int .i64 t] y (BtE y []) := by
  have b1 : Hid (Below y.heap.size y (y.alloc (.cells #[.string n] 99))) := below1 y _
  go_enter Tryd.func118, Tryd.ntmps118
  go_wp2
  go_ret
  exact ⟨none, 0, rfl, lb_nil _ _, b1.out⟩
theorem bytes_move (y : World) (n : Int) (t : Int) : Calls Tryd.prog 121 #[.agg #[.int .i64 n], .int .i64 t] y (BtE y []) := by
  have b1 : Hid (Below y.heap.size y (y.alloc (.cells #[.int .i64 n] 101))) := below1 y _
  go_enter Tryd.func121, Tryd.ntmps121
  go_wp2
  go_ret
  exact ⟨none, 0, rfl, lb_nil _ _, b1.out⟩
theorem bytes_data (y : World) (sp : Option Addr) (m cap : Nat) (L : List UInt8) (hm : L.length = m) (hL : LB8 y sp L) (t : Int) : Calls Tryd.prog 123 #[.agg #[.slice sp m cap], .int .i64 t] y (BtE y L) := by
  have b1 : Hid (Below y.heap.size y (y.alloc (.cells #[.slice sp m cap] 103))) := below1 y _
  have hL' : Hid (LB8 y sp L ∧ L.length = m) := ⟨hL, hm⟩
  have cc := (one_bxL y #[.slice sp m cap] 103).c 0 (.slice sp m cap) rfl
  clear hL hm
  go_enter Tryd.func123, Tryd.ntmps123
  go_wp2
  go_ret
  exact ⟨sp, cap, by rw [hL'.out.2]; rfl, hL'.out.1.below b1.out, b1.out⟩
theorem bytes_plain (y : World) (sp : Option Addr) (m cap : Nat) (L : List UInt8) (hm : L.length = m) (hL : LB8 y sp L) (t : Int) : Calls Tryd.prog 128 #[.agg #[.slice sp m cap], .int .i64 t] y (BtE y L) := by
  have b1 : Hid (Below y.heap.size y (y.alloc (.cells #[.slice sp m cap] 107))) := below1 y _
  have hL' : Hid (LB8 y sp L ∧ L.length = m) := ⟨hL, hm⟩
  have cc := (one_bxL y #[.slice sp m cap] 107).c 0 (.slice sp m cap) rfl
  clear hL hm
  go_enter Tryd.func128, Tryd.ntmps128
  go_wp2
  go_ret
  exact ⟨sp, cap, by rw [hL'.out.2]; rfl, hL'.out.1.below b1.out, b1.out⟩
theorem bytes_address (y : World) (n : ByteArray) (t : Nat) (ht : t ≤ 65535) : Calls Tryd.prog 126 #[.agg #[.string n], .int .i64 (t : Int)] y (BtE y [UInt8.ofNat (t / 256), UInt8.ofNat t]) := by
  have b1 : Hid (Below y.heap.size y (y.alloc (.cells #[.string n] 105))) := below1 y _
  have fin : Hid (#[Value.int .u8 ((t : Int) / 256 % 256), .int .u8 ((t : Int) % 256)] = rU [UInt8.ofNat (t / 256), UInt8.ofNat t]) := by
    show _ = _
    unfold rU byV
    simp [UInt8.toNat_ofNat']
  clear ht
  go_enter Tryd.func126, Tryd.ntmps126
  go_wp2
  go_ret
  refine ⟨some ⟨y.heap.size + 1, 0, none⟩, 2, rfl, ?_, below2 y _ _⟩
  have h9 := one_bxL (y.alloc (.cells #[.string n] 105)) #[.int .u8 ((t : Int) / 256 % 256), .int .u8 ((t : Int) % 256)] 5
  rw [fin.out] at h9
  rw [show (y.alloc (.cells #[.string n] 105)).heap.size = y.heap.size + 1 by simp] at h9
  rw [fin.out]
  exact lb_bx h9
theorem rtLb : Rt Tryd.prog 114 6 := ⟨⟨_, Tryd.underlying114, rfl⟩, by kernel_rfl⟩
theorem bytes_labelled (y : World) (T : Hid (Tabs y)) (X : ByteArray) (F : Int) (L : Nat) (cy : Int) (n : ByteArray) (p : Int) (t : Nat) (ht : t ≤ 65535) (k : Nat) (ho : opOf X = some k) (hm : may k (opF F p t : Nat)) :
    Calls Tryd.prog 130 #[.agg (lbC X F L cy n p), .int .i64 (t : Int)] y (BtE y (encL X (opF F p t : Nat))) := by
  have b1 : Hid (Below y.heap.size y (y.alloc (.cells (lbC X F L cy n p) 114))) := below1 y _
  have h1 : Hid (Bx (y.alloc (.cells (lbC X F L cy n p) 114)) y.heap.size (lbC X F L cy n p) 114) := one_bxL _ _ _
  have hO := fun u => operand_any X F L cy n p t ht u
  have hE : Hid (∀ u, Below y.heap.size y u → Calls Tryd.prog 48 #[.string X, .int .i64 ((opF F p t : Nat) : Int)] u (NewB u (encL X (opF F p t : Nat)))) := fun u hu => encode_any X (opF F p t : Nat) k ho hm u (T.out.below hu)
  generalize ((opF F p t : Nat) : Int) = A at hO hE ⊢
  generalize encL X A = R at hE ⊢
  obtain ⟨y1, hy1⟩ : ∃ z, y.alloc (.cells (lbC X F L cy n p) 114) = z := ⟨_, rfl⟩
  have K0 : Hid (Fm y [(y.heap.size, lbC X F L cy n p, 114)] (y.alloc (.cells (lbC X F L cy n p) 114))) := Fm.one y _ _
  clear ho hm ht hy1 h1 b1
  go_enter Tryd.func130, Tryd.ntmps130
  go_wp2
  refine region_class_tail 6 (Fm y [(y.heap.size, lbC X F L cy n p, 114)]) (by kernel_rfl) (by kernel_rfl) (K0.out.below (below_drew (Below.refl _ _))) ?_
  simp only [List.take_succ_cons, List.take_zero, List.drop_succ_cons, List.drop_zero]
  refine quiet_one (.pointer (some ⟨y.heap.size, 0, none⟩)) rfl (fun u hu => by go_simp) ?_
  refine quiet_one (.pointer (some ⟨y.heap.size, 0, none⟩)) rfl (fun u hu => by go_simp) ?_
  refine quiet_one (.string X) rfl (fun u hu => by have d : u.cell? ⟨y.heap.size, 0, none⟩ = some (.string X) := (hu.bx 0 _ _ _ rfl).c 0 _ rfl; go_simp) ?_
  refine quiet_one (.agg (lbC X F L cy n p)) rfl (q_load rtLb y.heap.size (lbC X F L cy n p) (fun u hu => hu.bx 0 _ _ _ rfl) rfl (.tmp 2) rfl (by go_simp)) ?_
  refine quiet_one (.int .i64 (t : Int)) rfl (fun u hu => by go_simp) ?_
  refine quiet_one (.int .i64 A) rfl (fun u hu => by
    have d := (hO u).mono fun e w' (h : _ ∧ _) => And.intro h.1 (hu.below h.2)
    go_simp
    all_goals exact d) ?_
  refine wpQuiet_nil ?_
  intro z K3
  replace K3 : Hid _ := K3
  go_wp2_with (go_at_call 48; refine (hE.out _ K3.out.low).mono ?_; rintro e z1 ⟨g, rfl, H⟩)
  go_ret
  exact ⟨_, _, rfl, lb_bx H.out.2.1, of_below K3.out.low H.out.2.2⟩
theorem rtLp : Rt Tryd.prog 87 2 := ⟨⟨_, Tryd.underlying87, rfl⟩, by kernel_rfl⟩
theorem tn_label (n : ByteArray) (w : World) : (Instr.typeAssert (.iface 99 (.agg #[.string n])) 79 105 true).run Tryd.prog w = .ok (.tuple #[.agg #[.string ⟨#[]⟩], .bool false]) w := by kernel_rfl
theorem tm_label (n : ByteArray) (w : World) : (Instr.typeAssert (.iface 99 (.agg #[.string n])) 79 114 true).run Tryd.prog w = .ok (.tuple #[.agg (lbC ⟨#[]⟩ 0 0 0 ⟨#[]⟩ 0), .bool false]) w := by kernel_rfl
theorem tn_move (n : Int) (w : World) : (Instr.typeAssert (.iface 101 (.agg #[.int .i64 n])) 79 105 true).run Tryd.prog w = .ok (.tuple #[.agg #[.string ⟨#[]⟩], .bool false]) w := by kernel_rfl
theorem tm_move (n : Int) (w : World) : (Instr.typeAssert (.iface 101 (.agg #[.int .i64 n])) 79 114 true).run Tryd.prog w = .ok (.tuple #[.agg (lbC ⟨#[]⟩ 0 0 0 ⟨#[]⟩ 0), .bool false]) w := by kernel_rfl
theorem tn_data (sp : Option Addr) (m cap : Nat) (w : World) : (Instr.typeAssert (.iface 103 (.agg #[.slice sp m cap])) 79 105 true).run Tryd.prog w = .ok (.tuple #[.agg #[.string ⟨#[]⟩], .bool false]) w := by kernel_rfl
theorem tm_data (sp : Option Addr) (m cap : Nat) (w : World) : (Instr.typeAssert (.iface 103 (.agg #[.slice sp m cap])) 79 114 true).run Tryd.prog w = .ok (.tuple #[.agg (lbC ⟨#[]⟩ 0 0 0 ⟨#[]⟩ 0), .bool false]) w := by kernel_rfl
theorem tn_plain (sp : Option Addr) (m cap : Nat) (w : World) : (Instr.typeAssert (.iface 107 (.agg #[.slice sp m cap])) 79 105 true).run Tryd.prog w = .ok (.tuple #[.agg #[.string ⟨#[]⟩], .bool false]) w := by kernel_rfl
theorem tm_plain (sp : Option Addr) (m cap : Nat) (w : World) : (Instr.typeAssert (.iface 107 (.agg #[.slice sp m cap])) 79 114 true).run Tryd.prog w = .ok (.tuple #[.agg (lbC ⟨#[]⟩ 0 0 0 ⟨#[]⟩ 0), .bool false]) w := by kernel_rfl
theorem ta_address (n : ByteArray) (w : World) : (Instr.typeAssert (.iface 105 (.agg #[.string n])) 79 105 true).run Tryd.prog w = .ok (.tuple #[.agg #[.string n], .bool true]) w := by kernel_rfl
theorem tn_labelled (X : ByteArray) (F : Int) (L : Nat) (cy : Int) (n : ByteArray) (p : Int) (w : World) : (Instr.typeAssert (.iface 114 (.agg (lbC X F L cy n p))) 79 105 true).run Tryd.prog w = .ok (.tuple #[.agg #[.string ⟨#[]⟩], .bool false]) w := by kernel_rfl
theorem tb_labelled (X : ByteArray) (F : Int) (L : Nat) (cy : Int) (n : ByteArray) (p : Int) (w : World) : (Instr.typeAssert (.iface 114 (.agg (lbC X F L cy n p))) 79 114 true).run Tryd.prog w = .ok (.tuple #[.agg (lbC X F L cy n p), .bool true]) w := by kernel_rfl
theorem target_label (q : Nu) (y : World) (n : ByteArray) (a : Nat) : Calls Tryd.prog 50 #[.pointer (some ⟨q.s, 0, none⟩), .agg (lpA ⟨99, .agg #[.string n], a⟩)] y fun e z => e = .returned (.tuple #[.int .i64 0, .int .i64 0]) ∧ Below y.heap.size y z := by
  have b1 : Hid (Below y.heap.size y (y.alloc (.cells (lpA ⟨99, .agg #[.string n], a⟩) 87))) := below1 y _
  have cc := (one_bxL y (lpA ⟨99, .agg #[.string n], a⟩) 87).c 0 (.iface 99 (.agg #[.string n])) rfl
  have t1 := tn_label n
  have t2 := tm_label n
  go_enter Tryd.func50, Tryd.ntmps50
  go_wp2
  go_ret2
  exact ⟨rfl, b1.out⟩
theorem target_move (q : Nu) (y : World) (n : Int) (a : Nat) : Calls Tryd.prog 50 #[.pointer (some ⟨q.s, 0, none⟩), .agg (lpA ⟨101, .agg #[.int .i64 n], a⟩)] y fun e z => e = .returned (.tuple #[.int .i64 0, .int .i64 0]) ∧ Below y.heap.size y z := by
  have b1 : Hid (Below y.heap.size y (y.alloc (.cells (lpA ⟨101, .agg #[.int .i64 n], a⟩) 87))) := below1 y _
  have cc := (one_bxL y (lpA ⟨101, .agg #[.int .i64 n], a⟩) 87).c 0 (.iface 101 (.agg #[.int .i64 n])) rfl
  have t1 := tn_move n
  have t2 := tm_move n
  go_enter Tryd.func50, Tryd.ntmps50
  go_wp2
  go_ret2
  exact ⟨rfl, b1.out⟩
theorem target_data (q : Nu) (y : World) (sp : Option Addr) (m cap : Nat) (a : Nat) : Calls Tryd.prog 50 #[.pointer (some ⟨q.s, 0, none⟩), .agg (lpA ⟨103, .agg #[.slice sp m cap], a⟩)] y fun e z => e = .returned (.tuple #[.int .i64 0, .int .i64 0]) ∧ Below y.heap.size y z := by
  have b1 : Hid (Below y.heap.size y (y.alloc (.cells (lpA ⟨103, .agg #[.slice sp m cap], a⟩) 87))) := below1 y _
  have cc := (one_bxL y (lpA ⟨103, .agg #[.slice sp m cap], a⟩) 87).c 0 (.iface 103 (.agg #[.slice sp m cap])) rfl
  have t1 := tn_data sp m cap
  have t2 := tm_data sp m cap
  go_enter Tryd.func50, Tryd.ntmps50
  go_wp2
  go_ret2
  exact ⟨rfl, b1.out⟩
theorem target_plain (q : Nu) (y : World) (sp : Option Addr) (m cap : Nat) (a : Nat) : Calls Tryd.prog 50 #[.pointer (some ⟨q.s, 0, none⟩), .agg (lpA ⟨107, .agg #[.slice sp m cap], a⟩)] y fun e z => e = .returned (.tuple #[.int .i64 0, .int .i64 0]) ∧ Below y.heap.size y z := by
  have b1 : Hid (Below y.heap.size y (y.alloc (.cells (lpA ⟨107, .agg #[.slice sp m cap], a⟩) 87))) := below1 y _
  have cc := (one_bxL y (lpA ⟨107, .agg #[.slice sp m cap], a⟩) 87).c 0 (.iface 107 (.agg #[.slice sp m cap])) rfl
  have t1 := tn_plain sp m cap
  have t2 := tm_plain sp m cap
  go_enter Tryd.func50, Tryd.ntmps50
  go_wp2
  go_ret2
  exact ⟨rfl, b1.out⟩
theorem rtAd : Rt Tryd.prog 105 1 := ⟨⟨_, Tryd.underlying105, rfl⟩, by kernel_rfl⟩
theorem target_address (q : Nu) (p : Nat) (vl : Value) (N : List (ByteArray × Nat)) (y : World) (hs : Hid (Bx y q.s (sC q p vl) 85)) (hm : Hid (MapE y q.m N)) (n : ByteArray) (a : Nat) : Calls Tryd.prog 50 #[.pointer (some ⟨q.s, 0, none⟩), .agg (lpA ⟨105, .agg #[.string n], a⟩)] y fun e z => e = .returned (.tuple #[.int .i64 (((lookN N n).getD 0 : Nat) : Int), .int .i64 (fdE N n)]) ∧ Below y.heap.size y z := by
  have K0 : Hid (Fm y [(y.heap.size, lpA ⟨105, .agg #[.string n], a⟩, 87)] (y.alloc (.cells (lpA ⟨105, .agg #[.string n], a⟩) 87))) := Fm.one y _ _
  have cc := (one_bxL y (lpA ⟨105, .agg #[.string n], a⟩) 87).c 0 (.iface 105 (.agg #[.string n])) rfl
  have t1 := ta_address n
  have hF : Hid (∀ u, Below y.heap.size y u → Calls Tryd.prog 66 #[.pointer (some ⟨q.s, 0, none⟩), .string n] u fun e z => e = .returned (.tuple #[.int .i64 (((lookN N n).getD 0 : Nat) : Int), .int .i64 (fdE N n)]) ∧ z = u) := fun u hu => find_any q p vl N u (hs.out.below hu) (hm.out.keep (hu.block _ hm.out.lt)) n
  generalize (((lookN N n).getD 0 : Nat) : Int) = A at hF ⊢
  generalize fdE N n = E at hF ⊢
  go_enter Tryd.func50, Tryd.ntmps50
  go_wp2_with (first
    | ((with_reducible refine gen_world ((y.alloc (.cells (lpA ⟨105, .agg #[.string n], a⟩) 87)).alloc (.cells #[.string ⟨#[]⟩] 105)) (Fm y [(y.heap.size, lpA ⟨105, .agg #[.string n], a⟩, 87), (y.heap.size + 1, #[.string ⟨#[]⟩], 105)]) ?_ ?_); exact Fm.two y _ _ _ _; intro z1 K2)
    | ((with_reducible refine at_st rtAd (y.heap.size + 1) #[.string ⟨#[]⟩] #[.string n] ?_ ?_ ?_ ?_ (.tmp 6) (.tmp 14) ?_ ?_ ?_ ?_ ?_); exact K2.out.bx 1 _ _ _ rfl; rfl; rfl; simp [Value.oneCell']; rfl; rfl; rfl; rfl; intro z2 hw2; have K3 : Hid (Fm y [(y.heap.size, lpA ⟨105, .agg #[.string n], a⟩, 87), (y.heap.size + 1, #[.string n], 105)] z2) := K2.out.put 1 _ _ _ _ rfl hw2.out; clear hw2 K2; have d3 := (K3.out.bx 1 _ _ _ rfl).c 0 (.string n) rfl)
    | (go_at_call 66; refine (hF.out _ K3.out.low).mono ?_; rintro e z9 ⟨rfl, rfl⟩))
  go_ret2
  exact ⟨rfl, K3.out.low⟩
/-- What target answers to a branch. -/
def tgE (N : List (ByteArray × Nat)) (a : Nat) (F : Int) (n : ByteArray) : Int := match lookN N n with | none => 141 | some t => if F = 5 ∧ t / 256 ≠ (a + 1) / 256 then 142 else 0
theorem target_labelled (q : Nu) (p9 : Nat) (vl : Value) (N : List (ByteArray × Nat)) (hN : ∀ x ∈ N, x.2 ≤ 65535) (y : World) (hs : Hid (Bx y q.s (sC q p9 vl) 85)) (hm : Hid (MapE y q.m N)) (X : ByteArray) (F : Int) (L : Nat) (cy : Int) (n : ByteArray) (p : Int) (a : Nat) (ha : a ≤ 65536) : Calls Tryd.prog 50 #[.pointer (some ⟨q.s, 0, none⟩), .agg (lpA ⟨114, .agg (lbC X F L cy n p), a⟩)] y fun e z => ∃ g : Int, e = .returned (.tuple #[.int .i64 g, .int .i64 (tgE N a F n)]) ∧ Hid ((tgE N a F n = 0 → g = (((lookN N n).getD 0 : Nat) : Int)) ∧ Below y.heap.size y z) := by
  have K0 : Hid (Fm y [(y.heap.size, lpA ⟨114, .agg (lbC X F L cy n p), a⟩, 87)] (y.alloc (.cells (lpA ⟨114, .agg (lbC X F L cy n p), a⟩) 87))) := Fm.one y _ _
  have cc := (one_bxL y (lpA ⟨114, .agg (lbC X F L cy n p), a⟩) 87).c 0 (.iface 114 (.agg (lbC X F L cy n p))) rfl
  have t1 := tn_labelled X F L cy n p
  have t2 := tb_labelled X F L cy n p
  have hF : Hid (∀ u, Below y.heap.size y u → Calls Tryd.prog 66 #[.pointer (some ⟨q.s, 0, none⟩), .string n] u fun e z => e = .returned (.tuple #[.int .i64 (((lookN N n).getD 0 : Nat) : Int), .int .i64 (fdE N n)]) ∧ z = u) := fun u hu => find_any q p9 vl N u (hs.out.below hu) (hm.out.keep (hu.block _ hm.out.lt)) n
  unfold tgE
  unfold fdE at hF
  rcases hf : lookN N n with _ | t
  · rw [hf] at hF
    simp only [Option.getD_none, Option.isSome_none] at hF ⊢
    rw [show (if false = true then (0 : Int) else 141) = 141 from rfl] at hF
    go_enter Tryd.func50, Tryd.ntmps50
    go_wp2_with (first
    | ((with_reducible refine gen_world ((y.alloc (.cells (lpA ⟨114, .agg (lbC X F L cy n p), a⟩) 87)).alloc (.cells #[.string ⟨#[]⟩, .int .u8 0, .int .i64 0, .int .i64 0, .string ⟨#[]⟩, .int .u8 0] 114)) (Fm y [(y.heap.size, lpA ⟨114, .agg (lbC X F L cy n p), a⟩, 87), (y.heap.size + 1, #[.string ⟨#[]⟩, .int .u8 0, .int .i64 0, .int .i64 0, .string ⟨#[]⟩, .int .u8 0], 114)]) ?_ ?_); exact Fm.two y _ _ _ _; intro z1 K2)
    | ((with_reducible refine at_st rtLb (y.heap.size + 1) #[.string ⟨#[]⟩, .int .u8 0, .int .i64 0, .int .i64 0, .string ⟨#[]⟩, .int .u8 0] (lbC X F L cy n p) ?_ ?_ ?_ ?_ (.tmp 7) (.tmp 23) ?_ ?_ ?_ ?_ ?_); exact K2.out.bx 1 _ _ _ rfl; rfl; rfl; simp [lbC, Value.oneCell']; rfl; rfl; rfl; rfl; intro z2 hw2; have K3 : Hid (Fm y [(y.heap.size, lpA ⟨114, .agg (lbC X F L cy n p), a⟩, 87), (y.heap.size + 1, lbC X F L cy n p, 114)] z2) := K2.out.put 1 _ _ _ _ rfl hw2.out; clear hw2 K2; have d3 := (K3.out.bx 1 _ _ _ rfl).c 4 (.string n) rfl; have d4 := (K3.out.bx 0 _ _ _ rfl).c 1 (.int .i64 (a : Int)) rfl)
    | (go_at_call 66; refine (hF.out _ K3.out.low).mono ?_; rintro e z9 ⟨rfl, rfl⟩))
    go_ret2
    exact ⟨_, rfl, fun h => absurd h (by decide), K3.out.low⟩
  · rw [hf] at hF
    simp only [Option.getD_some, Option.isSome_some] at hF ⊢
    rw [if_pos trivial] at hF
    have hL := fun u => leaves_any X F L cy n p a t ha (look_le hN hf) u
    by_cases hb : F = 5 ∧ t / 256 ≠ (a + 1) / 256
    · rw [decide_eq_true hb] at hL
      rw [if_pos hb]
      clear hb hf ha hN
      go_enter Tryd.func50, Tryd.ntmps50
      go_wp2_with (first
    | ((with_reducible refine gen_world ((y.alloc (.cells (lpA ⟨114, .agg (lbC X F L cy n p), a⟩) 87)).alloc (.cells #[.string ⟨#[]⟩, .int .u8 0, .int .i64 0, .int .i64 0, .string ⟨#[]⟩, .int .u8 0] 114)) (Fm y [(y.heap.size, lpA ⟨114, .agg (lbC X F L cy n p), a⟩, 87), (y.heap.size + 1, #[.string ⟨#[]⟩, .int .u8 0, .int .i64 0, .int .i64 0, .string ⟨#[]⟩, .int .u8 0], 114)]) ?_ ?_); exact Fm.two y _ _ _ _; intro z1 K2)
    | ((with_reducible refine at_st rtLb (y.heap.size + 1) #[.string ⟨#[]⟩, .int .u8 0, .int .i64 0, .int .i64 0, .string ⟨#[]⟩, .int .u8 0] (lbC X F L cy n p) ?_ ?_ ?_ ?_ (.tmp 7) (.tmp 23) ?_ ?_ ?_ ?_ ?_); exact K2.out.bx 1 _ _ _ rfl; rfl; rfl; simp [lbC, Value.oneCell']; rfl; rfl; rfl; rfl; intro z2 hw2; have K3 : Hid (Fm y [(y.heap.size, lpA ⟨114, .agg (lbC X F L cy n p), a⟩, 87), (y.heap.size + 1, lbC X F L cy n p, 114)] z2) := K2.out.put 1 _ _ _ _ rfl hw2.out; clear hw2 K2; have d3 := (K3.out.bx 1 _ _ _ rfl).c 4 (.string n) rfl; have d4 := (K3.out.bx 0 _ _ _ rfl).c 1 (.int .i64 (a : Int)) rfl)
    | (go_at_call 66; refine (hF.out _ K3.out.low).mono ?_; rintro e z9 ⟨rfl, rfl⟩)
    | ((with_reducible refine at_load rtLb (y.heap.size + 1) (lbC X F L cy n p) ?_ ?_ (.tmp 7) ?_ ?_ ?_ ?_); exact K3.out.bx 1 _ _ _ rfl; rfl; rfl; rfl; rfl)
    | (go_at_call 67; refine (hL _).mono ?_; rintro e z8 ⟨rfl, H8⟩; replace H8 : Hid _ := of_below K3.out.low H8))
      go_ret2
      exact ⟨_, rfl, fun h => absurd h (by decide), H8.out⟩
    · rw [decide_eq_false hb] at hL
      rw [if_neg hb]
      clear hb hf ha hN
      go_enter Tryd.func50, Tryd.ntmps50
      go_wp2_with (first
    | ((with_reducible refine gen_world ((y.alloc (.cells (lpA ⟨114, .agg (lbC X F L cy n p), a⟩) 87)).alloc (.cells #[.string ⟨#[]⟩, .int .u8 0, .int .i64 0, .int .i64 0, .string ⟨#[]⟩, .int .u8 0] 114)) (Fm y [(y.heap.size, lpA ⟨114, .agg (lbC X F L cy n p), a⟩, 87), (y.heap.size + 1, #[.string ⟨#[]⟩, .int .u8 0, .int .i64 0, .int .i64 0, .string ⟨#[]⟩, .int .u8 0], 114)]) ?_ ?_); exact Fm.two y _ _ _ _; intro z1 K2)
    | ((with_reducible refine at_st rtLb (y.heap.size + 1) #[.string ⟨#[]⟩, .int .u8 0, .int .i64 0, .int .i64 0, .string ⟨#[]⟩, .int .u8 0] (lbC X F L cy n p) ?_ ?_ ?_ ?_ (.tmp 7) (.tmp 23) ?_ ?_ ?_ ?_ ?_); exact K2.out.bx 1 _ _ _ rfl; rfl; rfl; simp [lbC, Value.oneCell']; rfl; rfl; rfl; rfl; intro z2 hw2; have K3 : Hid (Fm y [(y.heap.size, lpA ⟨114, .agg (lbC X F L cy n p), a⟩, 87), (y.heap.size + 1, lbC X F L cy n p, 114)] z2) := K2.out.put 1 _ _ _ _ rfl hw2.out; clear hw2 K2; have d3 := (K3.out.bx 1 _ _ _ rfl).c 4 (.string n) rfl; have d4 := (K3.out.bx 0 _ _ _ rfl).c 1 (.int .i64 (a : Int)) rfl)
    | (go_at_call 66; refine (hF.out _ K3.out.low).mono ?_; rintro e z9 ⟨rfl, rfl⟩)
    | ((with_reducible refine at_load rtLb (y.heap.size + 1) (lbC X F L cy n p) ?_ ?_ (.tmp 7) ?_ ?_ ?_ ?_); exact K3.out.bx 1 _ _ _ rfl; rfl; rfl; rfl; rfl)
    | (go_at_call 67; refine (hL _).mono ?_; rintro e z8 ⟨rfl, H8⟩; replace H8 : Hid _ := of_below K3.out.low H8))
      go_ret2
      exact ⟨_, rfl, fun _ => rfl, H8.out⟩
end Go.Proofs.YtkpfhnogpcigaaaDoorR
