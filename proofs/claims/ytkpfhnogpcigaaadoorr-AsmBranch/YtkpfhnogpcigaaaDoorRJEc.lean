/- Objects: their blocks, marks and labels in memory, and which blocks may be. -/
import Derived.Test.YtkpfhnogpcigaaaDoorRJNd
import Derived.Test.YtkpfhnogpcigaaaDoorRJIg
import Derived.Test.YtkpfhnogpcigaaaDoorRJLc
import Derived.Test.YtkpfhnogpcigaaaDoorRJORefE
namespace Go.Proofs.YtkpfhnogpcigaaaDoorR
open Go Go.RowKit
set_option linter.unusedVariables false
set_option maxHeartbeats 1000000
set_option maxRecDepth 20000

theorem of_below {w x y : World} (h : Below w.heap.size w x) (k : Below x.heap.size x y) : Below w.heap.size w y := h.trans (k.mono h.size)
/-- A block as it lies in memory. -/
structure Bk where
  a : Int
  sp : Option Addr
  m : Nat
  cap : Nat
structure Mk where
  a : Int
  n : Int
  c : Bool
structure La where
  n : ByteArray
  a : Int
def k2 (b : Bk) : Array Value := #[.int .i64 b.a, .slice b.sp b.m b.cap]
def k3 (m : Mk) : Array Value := #[.int .i64 m.a, .int .i64 m.n, .bool m.c]
def kl (l : La) : Array Value := #[.string l.n, .int .i64 l.a]
def cK (b : Bk) : List Value := (k2 b).toList
def cM (m : Mk) : List Value := (k3 m).toList
def cLa (l : La) : List Value := (kl l).toList
def zK : Bk := ⟨0, none, 0, 0⟩
def zM : Mk := ⟨0, 0, false⟩
def zL : La := ⟨⟨#[]⟩, 0⟩
theorem infoK : (Tryd.prog.info? 42).map (fun i => (i.zero, i.size, i.bytes)) = some (some (.agg (k2 zK)), 2, 32) := by kernel_rfl
theorem infoM : (Tryd.prog.info? 72).map (fun i => (i.zero, i.size, i.bytes)) = some (some (.agg (k3 zM)), 3, 24) := by kernel_rfl
theorem infoLa : (Tryd.prog.info? 61).map (fun i => (i.zero, i.size, i.bytes)) = some (some (.agg (kl zL)), 2, 24) := by kernel_rfl
theorem kBk : KdL (α := Bk) 22 42 2 32 cK := by
  obtain ⟨i, hi, hz0, hz1, hz2⟩ := info_parts infoK
  exact ⟨Tryd.underlying22, ⟨i, _, hi, hz0, hz1, hz2, rfl⟩, fun x => rfl, fun x v hv => by simp [cK, k2] at hv; rcases hv with rfl | rfl <;> rfl, by decide, by decide⟩
theorem kMk : KdL (α := Mk) 23 72 3 24 cM := by
  obtain ⟨i, hi, hz0, hz1, hz2⟩ := info_parts infoM
  exact ⟨Tryd.underlying23, ⟨i, _, hi, hz0, hz1, hz2, rfl⟩, fun x => rfl, fun x v hv => by simp [cM, k3] at hv; rcases hv with rfl | rfl | rfl <;> rfl, by decide, by decide⟩
theorem kLa : KdL (α := La) 24 61 2 24 cLa := by
  obtain ⟨i, hi, hz0, hz1, hz2⟩ := info_parts infoLa
  exact ⟨Tryd.underlying24, ⟨i, _, hi, hz0, hz1, hz2, rfl⟩, fun x => rfl, fun x v hv => by simp [cLa, kl] at hv; rcases hv with rfl | rfl <;> rfl, by decide, by decide⟩
theorem rtK : Rt Tryd.prog 42 2 := ⟨⟨_, Tryd.underlying42, rfl⟩, by kernel_rfl⟩
theorem rtM : Rt Tryd.prog 72 3 := ⟨⟨_, Tryd.underlying72, rfl⟩, by kernel_rfl⟩
theorem rtLa : Rt Tryd.prog 61 2 := ⟨⟨_, Tryd.underlying61, rfl⟩, by kernel_rfl⟩
theorem rtO : Rt Tryd.prog 26 3 := ⟨⟨_, Tryd.underlying26, rfl⟩, by kernel_rfl⟩
theorem oneK (b : Bk) : (k2 b).all (·.oneCell') = true := by simp [k2, Value.oneCell']
theorem oneM (b : Mk) : (k3 b).all (·.oneCell') = true := by simp [k3, Value.oneCell']
theorem oneLa (b : La) : (kl b).all (·.oneCell') = true := by simp [kl, Value.oneCell']
/-- A block with its bytes. -/
abbrev Bb := Bk × List UInt8
/-- An object as it lies in memory. -/
structure Oo where
  bp : Option Addr
  bc : Nat
  B : List Bb
  mp : Option Addr
  mc : Nat
  M : List Mk
  lp : Option Addr
  lc : Nat
  L : List La
def oC (o : Oo) : Array Value := #[.slice o.bp o.B.length o.bc, .slice o.mp o.M.length o.mc, .slice o.lp o.L.length o.lc]
def inI (x : Int) : Prop := -9223372036854775808 ≤ x ∧ x ≤ 9223372036854775807
structure Lo (w : World) (o : Oo) : Prop where
  b : LiesL 2 cK w o.bp (o.B.map (·.1))
  m : LiesL 3 cM w o.mp o.M
  l : LiesL 2 cLa w o.lp o.L
  g : ∀ x ∈ o.B, LB8 w x.1.sp x.2 ∧ x.2.length = x.1.m
  ib : ∀ x ∈ o.B, inI x.1.a ∧ x.1.m ≤ 2147483647
  im : ∀ x ∈ o.M, inI x.a ∧ inI x.n
  il : ∀ x ∈ o.L, inI x.a ∧ x.n.size ≤ 9223372036854775807
  n : o.B.length ≤ 2147483647 ∧ o.M.length ≤ 2147483647 ∧ o.L.length ≤ 2147483647
theorem Lo.below {w y : World} {o : Oo} (h : Lo w o) (hb : Below w.heap.size w y) : Lo y o := ⟨h.b.below hb, h.m.below hb, h.l.below hb, fun x hx => ⟨(h.g x hx).1.below hb, (h.g x hx).2⟩, h.ib, h.im, h.il, h.n⟩
/-- Blocks, from an address on. -/
def blkOk : Int → List Bk → Bool
  | _, [] => true
  | p, b :: r => decide (p ≤ b.a ∧ 1 ≤ (b.m : Int) ∧ (b.m : Int) ≤ 65536 - b.a) && blkOk (b.a + b.m + 1) r
theorem behind_any (w : World) (b : Bk) (hi : 0 ≤ b.a ∧ b.a ≤ 65536) (hm : b.m ≤ 65536) : Calls Tryd.prog 30 #[.agg (k2 b)] w fun e w' => e = .returned (.int .i64 (b.a + b.m)) ∧ Below w.heap.size w w' := by
  have K1 : Hid (Fm w [(w.heap.size, k2 b, 42)] (w.alloc (.cells (k2 b) 42))) := Fm.one w _ _
  have d0 := (K1.out.bx 0 _ _ _ rfl).c 0 (.int .i64 b.a) rfl
  have d1 := (K1.out.bx 0 _ _ _ rfl).c 1 (.slice b.sp b.m b.cap) rfl
  have h0 := hi.1
  have h1 := hi.2
  have h2 : (b.m : Int) ≤ 65536 := by omega
  clear hi hm
  go_enter Tryd.func30, Tryd.ntmps30
  go_wp2
  go_ret
  exact ⟨rfl, K1.out.low⟩
theorem blocks_any (w : World) (sp : Option Addr) (cap : Nat) (l : List Bk) (hl : Hid (LiesL 2 cK w sp l)) (hi : Hid (∀ b ∈ l, inI b.a ∧ b.m ≤ 2147483647)) (hn : l.length ≤ 2147483647) :
    Calls Tryd.prog 27 #[.slice sp l.length cap] w fun e w' => e = .returned (.bool (blkOk 0 l)) ∧ Hid (Below w.heap.size w w') := by
  obtain ⟨n, hn'⟩ : ∃ n, l.length = n := ⟨_, rfl⟩
  have hnn : Hid (l.length = n) := hn'
  rw [hn'] at hn ⊢
  have ni : (n : Int) ≤ 2147483647 := by omega
  obtain ⟨R, hR⟩ : ∃ R, blkOk 0 l = R := ⟨_, rfl⟩
  have hR' : Hid (blkOk 0 l = R) := hR
  rw [hR]
  have hB := fun v b h1 h2 => behind_any v b h1 h2
  clear hn hn' hR
  go_enter Tryd.func27, Tryd.ntmps27
  go_wp2
  go_loopw [3, 8] (fun p t wz => ∃ (i : Nat) (P : Int) (y : World), y = wz ∧ p = .int .i64 P ∧ t = .int .i64 (i : Int) ∧ Hid (i ≤ n ∧ blkOk P (l.drop i) = R ∧ 0 ≤ P ∧ P ≤ 65537) ∧ Hid (Below w.heap.size w y)) (fun _ t _ => (n - intOf t).toNat)
  case atStart => exact ⟨0, 0, _, rfl, rfl, rfl, ⟨Nat.zero_le _, hR'.out, by decide, by decide⟩, Below.refl _ _⟩
  case round =>
    obtain ⟨i, P, y, rfl, rfl, rfl, J, K⟩ := hrel
    by_cases hlt : i < n
    · obtain ⟨b, hb⟩ : ∃ b, l[i]? = some b := ⟨_, List.getElem?_eq_getElem (by rw [hnn.out]; exact hlt)⟩
      obtain ⟨g, o, rfl, hc⟩ := hl.out i b hb
      have hc' : Hid (y.rangeAt g (o + i * 2) (k2 b).toList) := range_keep hc K.out
      obtain ⟨hia, hib⟩ := hi.out b (List.mem_of_getElem? hb)
      have hd : Hid (l.drop i = b :: l.drop (i + 1)) := by
        show _ = _
        obtain ⟨h, e⟩ := List.getElem?_eq_some_iff.1 hb
        rw [List.drop_eq_getElem_cons h, e]
      have hO : Hid (blkOk P (l.drop i) = (decide (P ≤ b.a ∧ 1 ≤ (b.m : Int) ∧ (b.m : Int) ≤ 65536 - b.a) && blkOk (b.a + b.m + 1) (l.drop (i + 1)))) := by show _ = _; rw [hd.out]; rfl
      have ij := fun w => idxP (P := Tryd.prog) (g := g) (off := o) (len := n) (cap := cap) Tryd.underlying22 (s := 2) (by kernel_rfl) .i64 i w hlt
      have hii : (i : Int) < n := by omega
      have hlt' : Hid (i < n) := hlt
      have p0 := J.out.2.2.1
      have p1 := J.out.2.2.2
      have mi : (b.m : Int) ≤ 2147483647 := by omega
      have a0 := hia.1
      have a1 := hia.2

      by_cases c : P ≤ b.a ∧ 1 ≤ (b.m : Int) ∧ (b.m : Int) ≤ 65536 - b.a
      · obtain ⟨c1, c2, c3⟩ := c
        have hJ : Hid (blkOk (b.a + b.m + 1) (l.drop (i + 1)) = R) := by
          have h1 := hO.out
          rw [J.out.2.1, decide_eq_true ⟨c1, c2, c3⟩, Bool.true_and] at h1
          exact h1.symm
        have q1 : ¬ b.a < P := by omega
        have q2 : ¬ (b.m : Int) < 1 := by omega
        have q3 : ¬ 65536 - b.a < (b.m : Int) := by omega
        have hBc : Hid (∀ v, Calls Tryd.prog 30 #[.agg (k2 b)] v fun e w' => e = .returned (.int .i64 (b.a + b.m)) ∧ Below v.heap.size v w') := fun v => hB v b ⟨by omega, by omega⟩ (by omega)
        clear hlt hb hc hia hib hd hO hB
        go_wp2_with (first
          | ((with_reducible refine at_loadm rtK g (o + i * 2) (k2 b) ?_ ?_ (.tmp 10) ?_ ?_ ?_ ?_); exact hc'.out; rfl; kernel_rfl; rfl; rfl)
          | ((with_reducible refine gen_world (y.alloc (.cells #[.int .i64 0, .slice none 0 0] 42)) (Fm y [(y.heap.size, k2 zK, 42)]) ?_ ?_); exact Fm.one y _ _; intro y1 K1)
          | ((with_reducible refine at_st rtK y.heap.size (k2 zK) (k2 b) ?_ ?_ ?_ ?_ (.tmp 5) (.tmp 11) ?_ ?_ ?_ ?_ ?_); exact K1.out.bx 0 _ _ _ rfl; rfl; rfl; exact oneK _; rfl; rfl; rfl; rfl; intro y2 hw2; have K2 : Hid (Fm y [(y.heap.size, k2 b, 42)] y2) := K1.out.put 0 _ _ _ _ rfl hw2.out; clear hw2; have d0 := (K2.out.bx 0 _ _ _ rfl).c 0 (.int .i64 b.a) rfl; have d1 := (K2.out.bx 0 _ _ _ rfl).c 1 (.slice b.sp b.m b.cap) rfl)
          | ((with_reducible refine at_load rtK y.heap.size (k2 b) ?_ ?_ (.tmp 5) ?_ ?_ ?_ ?_); exact K2.out.bx 0 _ _ _ rfl; rfl; rfl; rfl; rfl)
          | (go_at_call 30; refine (hBc.out y2).mono ?_; rintro e y3 ⟨rfl, H3⟩; have K3 : Hid (Below w.heap.size w y3) := of_below (of_below K.out K2.out.low) H3; clear H3 d0 d1))
        go_roundw
        case rel => exact ⟨i + 1, b.a + b.m + 1, _, rfl, by first | rfl | simp, by simp, ⟨hlt'.out, hJ.out, by omega, by omega⟩, K3⟩
        case measure => have := hlt'.out; simp [intOf]; omega
      · have fin : Hid (R = false) := by
          have h1 := hO.out
          rw [J.out.2.1, decide_eq_false c, Bool.false_and] at h1
          exact h1
        have q : (b.a < P) ∨ (¬ b.a < P ∧ (b.m : Int) < 1) ∨ (¬ b.a < P ∧ ¬ (b.m : Int) < 1 ∧ 65536 - b.a < (b.m : Int)) := by omega
        clear hlt hb hc hia hib hd hO hB c
        rcases q with q1 | ⟨q1, q2⟩ | ⟨q1, q2, q3⟩
        all_goals
          go_wp2_with (first
            | ((with_reducible refine at_loadm rtK g (o + i * 2) (k2 b) ?_ ?_ (.tmp 10) ?_ ?_ ?_ ?_); exact hc'.out; rfl; kernel_rfl; rfl; rfl)
            | ((with_reducible refine gen_world (y.alloc (.cells #[.int .i64 0, .slice none 0 0] 42)) (Fm y [(y.heap.size, k2 zK, 42)]) ?_ ?_); exact Fm.one y _ _; intro y1 K1)
            | ((with_reducible refine at_st rtK y.heap.size (k2 zK) (k2 b) ?_ ?_ ?_ ?_ (.tmp 5) (.tmp 11) ?_ ?_ ?_ ?_ ?_); exact K1.out.bx 0 _ _ _ rfl; rfl; rfl; exact oneK _; rfl; rfl; rfl; rfl; intro y2 hw2; have K2 : Hid (Fm y [(y.heap.size, k2 b, 42)] y2) := K1.out.put 0 _ _ _ _ rfl hw2.out; clear hw2; have d0 := (K2.out.bx 0 _ _ _ rfl).c 0 (.int .i64 b.a) rfl; have d1 := (K2.out.bx 0 _ _ _ rfl).c 1 (.slice b.sp b.m b.cap) rfl))
          go_ret
          rw [fin.out]
          exact ⟨rfl, of_below K.out K2.out.low⟩
    · have hie : i = n := by have := J.out.1; omega
      subst hie
      have fin : Hid (R = true) := by
        have h1 := J.out.2.1
        rw [List.drop_eq_nil_of_le (by rw [hnn.out]; exact Nat.le_refl _)] at h1
        exact h1.symm
      clear hlt
      go_wp2
      go_ret
      rw [fin.out]
      exact ⟨rfl, K⟩
end Go.Proofs.YtkpfhnogpcigaaaDoorR
/- Rows cut from the front; whether bytes are whole instructions. -/
namespace Go.Proofs.YtkpfhnogpcigaaaDoorR
open Go Go.RowKit
set_option linter.unusedVariables false
set_option maxHeartbeats 1000000
set_option maxRecDepth 20000

theorem slB (g o n cap k : Nat) (h : k ≤ n) (hc : n ≤ cap) : ∃ sp1, (∀ v, (Instr.sliceAt 33 (.slice (some ⟨g, o, none⟩) n cap) (some (.int .i64 (k : Int))) none none).run Tryd.prog v = .ok (.slice sp1 (n - k) (cap - k)) v) ∧ (k < n → sp1 = some ⟨g, o + k, none⟩) := by
  refine ⟨if cap = k then some ⟨g, o, none⟩ else (some (⟨g, o, none⟩ : Addr)).map (·.add (k * 1)), fun v => ?_, fun h => ?_⟩
  · have hu : Tryd.prog.underlying 33 = some (.slice (Tryd.prog.elem 33)) := by kernel_rfl
    rw [run_sliceAt_slice v _ _ _ _ _ hu, run_slice_l v _ _ _ _ hu .i64 (k : Int) (by omega) (by omega)]
    have hz : ∀ v, (sizeOf (Tryd.prog.elem 33)).run Tryd.prog v = .ok 1 v := fun v => by kernel_rfl
    rw [hz]
    simp only [Result.andThen_ok, sliced, Int.toNat_natCast]
  · rw [if_neg (by omega)]
    simp [Addr.add_lit]
theorem slM (g o n cap k : Nat) (h : k ≤ n) (hc : n ≤ cap) : ∃ sp1, (∀ v, (Instr.sliceAt 23 (.slice (some ⟨g, o, none⟩) n cap) (some (.int .i64 (k : Int))) none none).run Tryd.prog v = .ok (.slice sp1 (n - k) (cap - k)) v) ∧ (k < n → sp1 = some ⟨g, o + k * 3, none⟩) := by
  refine ⟨if cap = k then some ⟨g, o, none⟩ else (some (⟨g, o, none⟩ : Addr)).map (·.add (k * 3)), fun v => ?_, fun h => ?_⟩
  · have hu : Tryd.prog.underlying 23 = some (.slice (Tryd.prog.elem 23)) := by kernel_rfl
    rw [run_sliceAt_slice v _ _ _ _ _ hu, run_slice_l v _ _ _ _ hu .i64 (k : Int) (by omega) (by omega)]
    have hz : ∀ v, (sizeOf (Tryd.prog.elem 23)).run Tryd.prog v = .ok 3 v := fun v => by kernel_rfl
    rw [hz]
    simp only [Result.andThen_ok, sliced, Int.toNat_natCast]
  · rw [if_neg (by omega)]
    simp [Addr.add_lit]
theorem at_sl {ops : Array Oper} {rest : List Oper} {o : Oper} {a : Act} {w : World} {Q : Exit → Act → World → Prop} (t : TypeId) (x lo : Operand) (X L v : Value) (hg : Region.wanted o (yielded ops a.tmps) = true) (ho : o.op = .slice t x (some lo) none none) (hx : a.eval x = X) (hl : a.eval lo = L)
    (h : ∀ w, (Instr.sliceAt t X (some L) none none).run Tryd.prog w = .ok v w) (k : wpList Tryd.prog ops Q rest (a.put o.dst v) w) : wpList Tryd.prog ops Q (o :: rest) a w := by
  refine at_op v hg ?_ k
  unfold execOp
  simp only [ho, hx, hl, Option.map_some, Option.map_none, Sem.run_bind, h, Result.andThen_ok, Sem.run_pure]
/-- How many bytes an instruction has. -/
def insL (x : UInt8) : Nat := lay (fm x.toNat * 3)
theorem ins_all : ∀ n : Nat, n < 256 → 1 ≤ fm n ∧ fm n ≤ 6 ∧ (lay (fm n * 3) = 1 ∨ lay (fm n * 3) = 2 ∨ lay (fm n * 3) = 3) := by decide +kernel
theorem ins_form : ∀ n : Nat, n < 256 → (lay (fm n * 3) = 1 ∧ (fm n = 1 ∨ fm n = 2 ∨ fm n = 3)) ∨ (lay (fm n * 3) = 2 ∧ (fm n = 4 ∨ fm n = 5)) ∨ (lay (fm n * 3) = 3 ∧ fm n = 6) := by decide +kernel
theorem insL_le (x : UInt8) : 1 ≤ insL x ∧ insL x ≤ 3 := by
  have := (ins_all x.toNat (UInt8.toNat_lt x)).2.2
  unfold insL
  omega
def wholeF : Nat → List UInt8 → Bool
  | _, [] => true
  | 0, _ :: _ => false
  | k + 1, x :: r => if (x :: r).length < insL x then false else wholeF k ((x :: r).drop (insL x))
def wholeB (l : List UInt8) : Bool := wholeF l.length l
theorem wholeF_more : ∀ (k : Nat) (l : List UInt8), l.length ≤ k → wholeF k l = wholeF l.length l := by
  intro k
  induction k using Nat.strongRecOn with
  | ind k ih =>
    intro l hl
    rcases l with _ | ⟨x, r⟩
    · cases k <;> rfl
    · rcases k with _ | k
      · simp at hl
      · show (if (x :: r).length < insL x then false else wholeF k ((x :: r).drop (insL x))) = (if (x :: r).length < insL x then false else wholeF r.length ((x :: r).drop (insL x)))
        have h1 := (insL_le x).1
        have hd : ((x :: r).drop (insL x)).length ≤ r.length := by rw [List.length_drop, List.length_cons]; omega
        simp only [List.length_cons] at hl
        by_cases hs : (x :: r).length < insL x
        · rw [if_pos hs, if_pos hs]
        · rw [if_neg hs, if_neg hs]
          rcases Nat.lt_or_ge r.length k with h2 | h2
          · rw [ih k (by omega) _ (by omega), ih r.length (by omega) _ hd]
          · have : k = r.length := by omega
            rw [this]
theorem wholeB_nil : wholeB [] = true := rfl
theorem wholeB_cons (x : UInt8) (r : List UInt8) : wholeB (x :: r) = if (x :: r).length < insL x then false else wholeB ((x :: r).drop (insL x)) := by
  show (if (x :: r).length < insL x then false else wholeF r.length ((x :: r).drop (insL x))) = _
  have h1 := (insL_le x).1
  by_cases hs : (x :: r).length < insL x
  · rw [if_pos hs, if_pos hs]
  · rw [if_neg hs, if_neg hs]
    unfold wholeB
    exact wholeF_more _ _ (by rw [List.length_drop, List.length_cons]; omega)
def decN (l : List UInt8) (x : UInt8) : Int := if l.length < insL x then 0 else (insL x : Int)
def decE (l : List UInt8) (x : UInt8) : Int := if l.length < insL x then 22 else 0
theorem lb_cell {w : World} {g o : Nat} {l : List UInt8} (h : LB8 w (some ⟨g, o, none⟩) l) (j : Nat) (b : UInt8) (hj : l[j]? = some b) : w.cell? ⟨g, o + j, none⟩ = some (.int .u8 (b.toNat : Int)) := by
  obtain ⟨g', o', e, c⟩ := h j b hj
  cases e
  exact c
theorem pdec_any (w : World) (T : Hid (Tabs w)) (g o cap : Nat) (x : UInt8) (r : List UInt8) (h : Hid (LB8 w (some ⟨g, o, none⟩) (x :: r))) :
    Calls Tryd.prog 73 #[.slice (some ⟨g, o, none⟩) (x :: r).length cap] w fun e w' => ∃ (X : ByteArray) (A : Int), e = .returned (.tuple #[.agg #[.string X, .int .i64 A], .int .i64 (decN (x :: r) x), .int .i64 (decE (x :: r) x)]) ∧ Below w.heap.size w w' := by
  have hx := UInt8.toNat_lt x
  have c0 := lb_cell h.out 0 x rfl
  rw [Nat.add_zero] at c0
  have hg := World.block_lt_of_cell? w _ c0
  obtain ⟨f1, f6, fL⟩ := ins_all x.toNat hx
  by_cases hs : (x :: r).length < insL x
  · refine (dec_short w T.out g o _ cap x.toNat hx c0 hg (nm x.toNat) (fm x.toNat) (lay (fm x.toNat * 3)) (cyc x.toNat) (held x.toNat (fm x.toNat)) rfl rfl rfl rfl rfl (by simp) hs f6).mono ?_
    rintro e w' ⟨rfl, hb⟩
    exact ⟨⟨#[]⟩, 0, by unfold decN decE; rw [if_pos hs, if_pos hs]; rfl, hb⟩
  · have hn : ∀ n : Nat, insL x = n → decN (x :: r) x = (n : Int) ∧ decE (x :: r) x = 0 := fun n e => by unfold decN decE; rw [if_neg hs, if_neg hs, e]; exact ⟨rfl, rfl⟩
    have hlen : insL x ≤ (x :: r).length := by omega
    have e0 : insL x = lay (fm x.toNat * 3) := rfl
    rcases fL with e | e | e
    · obtain ⟨k1, k2⟩ := hn 1 e
      rw [k1, k2]
      refine (dec_1 w T.out g o _ cap x.toNat hx c0 hg (nm x.toNat) (fm x.toNat) (cyc x.toNat) (held x.toNat (fm x.toNat)) rfl rfl e rfl rfl (by simp) f6).mono ?_
      rintro e w' ⟨rfl, hb⟩
      exact ⟨_, _, rfl, hb⟩
    · obtain ⟨k1, k2⟩ := hn 2 e
      rw [k1, k2]
      rw [e0, e] at hlen
      obtain ⟨p, hp⟩ : ∃ p, (x :: r)[1]? = some p := ⟨_, List.getElem?_eq_getElem (by omega)⟩
      refine (dec_2 w T.out g o _ cap x.toNat hx c0 hg p.toNat (UInt8.toNat_lt p) (lb_cell h.out 1 p hp) (nm x.toNat) (fm x.toNat) (cyc x.toNat) (held x.toNat (fm x.toNat)) rfl rfl e rfl rfl hlen f6).mono ?_
      rintro e w' ⟨rfl, hb⟩
      exact ⟨_, _, rfl, hb⟩
    · obtain ⟨k1, k2⟩ := hn 3 e
      rw [k1, k2]
      rw [e0, e] at hlen
      obtain ⟨p, hp⟩ : ∃ p, (x :: r)[1]? = some p := ⟨_, List.getElem?_eq_getElem (by omega)⟩
      obtain ⟨q, hq⟩ : ∃ q, (x :: r)[2]? = some q := ⟨_, List.getElem?_eq_getElem (by omega)⟩
      refine (dec_3 w T.out g o _ cap x.toNat hx c0 hg p.toNat q.toNat (UInt8.toNat_lt p) (UInt8.toNat_lt q) (lb_cell h.out 1 p hp) (lb_cell h.out 2 q hq) (nm x.toNat) (fm x.toNat) (cyc x.toNat) (held x.toNat (fm x.toNat)) rfl rfl e rfl rfl hlen f6).mono ?_
      rintro e w' ⟨rfl, hb⟩
      exact ⟨_, _, rfl, hb⟩
end Go.Proofs.YtkpfhnogpcigaaaDoorR
/- Whether bytes are whole instructions: the program's look and the document's. -/
namespace Go.Proofs.YtkpfhnogpcigaaaDoorR
open Go Go.RowKit
set_option linter.unusedVariables false
set_option maxHeartbeats 1000000
set_option maxRecDepth 20000

theorem rdec_any (w : World) (g o cap : Nat) (x : UInt8) (r : List UInt8) (h : Hid (LB8 w (some ⟨g, o, none⟩) (x :: r))) :
    Calls Tryd.prog 60 #[.slice (some ⟨g, o, none⟩) (x :: r).length cap] w fun e w' => ∃ (X : ByteArray) (A : Int), e = .returned (.tuple #[.agg #[.string X, .int .i64 A], .int .i64 (decN (x :: r) x), .int .i64 (decE (x :: r) x)]) ∧ Below w.heap.size w w' := by
  have hx := UInt8.toNat_lt x
  have c0 := lb_cell h.out 0 x rfl
  rw [Nat.add_zero] at c0
  have hg := World.block_lt_of_cell? w _ c0
  obtain ⟨f1, f6, _⟩ := ins_all x.toNat hx
  have hF := fun v => rform_any x.toNat v hx
  have hB := fun v => rbytes_any (fm x.toNat) v f1 f6
  have hN := fun v => rname_any x.toNat v hx
  by_cases hs : (x :: r).length < insL x
  · refine (rdec_short w g o _ cap x.toNat (fm x.toNat) (lay (fm x.toNat * 3)) hF hB c0 hg (by simp) hs).mono ?_
    rintro e w' ⟨rfl, hb⟩
    exact ⟨⟨#[]⟩, 0, by unfold decN decE; rw [if_pos hs, if_pos hs]; rfl, hb⟩
  · have hn : ∀ n : Nat, insL x = n → decN (x :: r) x = (n : Int) ∧ decE (x :: r) x = 0 := fun n e => by unfold decN decE; rw [if_neg hs, if_neg hs, e]; exact ⟨rfl, rfl⟩
    have hlen : insL x ≤ (x :: r).length := by omega
    have e0 : insL x = lay (fm x.toNat * 3) := rfl
    rcases ins_form x.toNat hx with ⟨e, ef⟩ | ⟨e, ef⟩ | ⟨e, ef⟩
    · obtain ⟨k1, k2⟩ := hn 1 e
      rw [k1, k2]
      rcases ef with ef | ef | ef
      · rw [ef] at hF hB
        refine (rdec_1 w g o _ cap x.toNat hx (nm x.toNat) hF hB hN c0 hg (by simp)).mono ?_
        rintro e w' ⟨rfl, hb⟩
        exact ⟨_, _, rfl, hb⟩
      · rw [ef] at hF hB
        refine (rdec_2 w g o _ cap x.toNat hx (nm x.toNat) hF hB hN c0 hg (by simp)).mono ?_
        rintro e w' ⟨rfl, hb⟩
        exact ⟨_, _, rfl, hb⟩
      · rw [ef] at hF hB
        refine (rdec_3 w g o _ cap x.toNat hx (nm x.toNat) hF hB hN c0 hg (by simp)).mono ?_
        rintro e w' ⟨rfl, hb⟩
        exact ⟨_, _, rfl, hb⟩
    · obtain ⟨k1, k2⟩ := hn 2 e
      rw [k1, k2]
      rw [e0, e] at hlen
      obtain ⟨p, hp⟩ : ∃ p, (x :: r)[1]? = some p := ⟨_, List.getElem?_eq_getElem (by omega)⟩
      rcases ef with ef | ef
      · rw [ef] at hF hB
        refine (rdec_4 w g o _ cap x.toNat hx (nm x.toNat) hF hB hN c0 hg p.toNat (UInt8.toNat_lt p) (lb_cell h.out 1 p hp) hlen).mono ?_
        rintro e w' ⟨rfl, hb⟩
        exact ⟨_, _, rfl, hb⟩
      · rw [ef] at hF hB
        refine (rdec_5 w g o _ cap x.toNat hx (nm x.toNat) hF hB hN c0 hg p.toNat (UInt8.toNat_lt p) (lb_cell h.out 1 p hp) hlen).mono ?_
        rintro e w' ⟨rfl, hb⟩
        exact ⟨_, _, rfl, hb⟩
    · obtain ⟨k1, k2⟩ := hn 3 e
      rw [k1, k2]
      rw [e0, e] at hlen
      obtain ⟨p, hp⟩ : ∃ p, (x :: r)[1]? = some p := ⟨_, List.getElem?_eq_getElem (by omega)⟩
      obtain ⟨q, hq⟩ : ∃ q, (x :: r)[2]? = some q := ⟨_, List.getElem?_eq_getElem (by omega)⟩
      rw [ef] at hF hB
      refine (rdec_6 w g o _ cap x.toNat hx (nm x.toNat) hF hB hN c0 hg p.toNat q.toNat (UInt8.toNat_lt p) (UInt8.toNat_lt q) (lb_cell h.out 1 p hp) (lb_cell h.out 2 q hq) hlen).mono ?_
      rintro e w' ⟨rfl, hb⟩
      exact ⟨_, _, rfl, hb⟩
def in2 (X : ByteArray) (A : Int) : Array Value := #[.string X, .int .i64 A]
theorem rtIn : Rt Tryd.prog 123 2 := ⟨⟨_, Tryd.underlying123, rfl⟩, by kernel_rfl⟩
theorem oneIn (X : ByteArray) (A : Int) : (in2 X A).all (·.oneCell') = true := by simp [in2, Value.oneCell']
def lenOf : Value → Nat
  | .slice _ n _ => n
  | _ => 0
theorem LB8.drop {w : World} {g o : Nat} {l : List UInt8} (h : LB8 w (some ⟨g, o, none⟩) l) (k : Nat) (sp : Option Addr) (hs : k < l.length → sp = some ⟨g, o + k, none⟩) : LB8 w sp (l.drop k) := fun j b hj => by
  rw [List.getElem?_drop] at hj
  have hl := (List.getElem?_eq_some_iff.1 hj).1
  exact ⟨g, o + k, hs (by omega), by rw [Nat.add_assoc]; exact lb_cell h (k + j) b hj⟩
theorem LB8.take {w : World} {sp : Option Addr} {l : List UInt8} (h : LB8 w sp l) (k : Nat) : LB8 w sp (l.take k) := fun j b hj => by
  rw [List.getElem?_take] at hj
  split at hj
  · exact h j b hj
  · cases hj
theorem whole_any (w : World) (T : Hid (Tabs w)) (sp : Option Addr) (cap : Nat) (l : List UInt8) (h : Hid (LB8 w sp l)) (hc : l.length ≤ cap) (hn : l.length ≤ 2147483647) :
    Calls Tryd.prog 55 #[.slice sp l.length cap] w fun e w' => e = .returned (.bool (wholeB l)) ∧ Below w.heap.size w w' := by
  obtain ⟨R, hR⟩ : ∃ R, wholeB l = R := ⟨_, rfl⟩
  have H0 : Hid (LB8 w sp l ∧ l.length ≤ cap ∧ l.length ≤ 2147483647 ∧ wholeB l = R) := ⟨h.out, hc, hn, hR⟩
  have hD : Hid (∀ v g o cap x r, Below w.heap.size w v → LB8 v (some ⟨g, o, none⟩) (x :: r) → Calls Tryd.prog 73 #[.slice (some ⟨g, o, none⟩) (x :: r).length cap] v fun e w' => ∃ (X : ByteArray) (A : Int), e = .returned (.tuple #[.agg (in2 X A), .int .i64 (decN (x :: r) x), .int .i64 (decE (x :: r) x)]) ∧ Below v.heap.size v w') := fun v g o cap x r hv hl => pdec_any v (T.out.below hv) g o cap x r hl
  rw [hR]
  clear hc hn h hR
  go_enter Tryd.func55, Tryd.ntmps55
  go_wp2
  go_loopw [0] (fun b wz => ∃ (p : Option Addr) (c : Nat) (m : List UInt8) (y : World), y = wz ∧ b = .slice p m.length c ∧ Hid (LB8 y p m ∧ m.length ≤ c ∧ m.length ≤ 2147483647 ∧ wholeB m = R) ∧ Hid (Below w.heap.size w y)) (fun b _ => lenOf b)
  case atStart => exact ⟨sp, cap, l, w, rfl, rfl, H0, Below.refl _ _⟩
  case round =>
    obtain ⟨p, c, m, y, rfl, rfl, J, K⟩ := hrel
    rcases m with _ | ⟨x, r⟩
    · have fin : Hid (R = true) := J.out.2.2.2.symm
      go_wp2
      go_ret
      rw [fin.out]
      exact ⟨rfl, K.out⟩
    · obtain ⟨g, o, rfl, _⟩ := J.out.1 0 x rfl
      have hcall := hD.out y g o c x r K.out J.out.1
      have hw := wholeB_cons x r
      rw [J.out.2.2.2] at hw
      obtain ⟨n, hnl⟩ : ∃ n, (x :: r).length = n := ⟨_, rfl⟩
      have n0 : (0 : Int) < n := by simp at hnl; omega
      have ni : (n : Int) ≤ 2147483647 := by have := J.out.2.2.1; omega
      have hil := insL_le x
      rw [hnl] at hcall hw ⊢
      by_cases hs : n < insL x
      · have e1 : decN (x :: r) x = 0 := by unfold decN; rw [hnl, if_pos hs]
        have e2 : decE (x :: r) x = 22 := by unfold decE; rw [hnl, if_pos hs]
        rw [e1, e2] at hcall
        have fin : Hid (R = false) := by rw [if_pos hs] at hw; exact hw
        replace hnl : Hid _ := hnl
        clear hs e1 e2 hw hil
        go_wp2_with (first
          | (go_at_call 73; refine hcall.mono ?_; rintro e y1 ⟨X, A, rfl, H1⟩; have K1 : Hid (Below w.heap.size w y1) := of_below K.out H1; clear H1)
          | ((with_reducible refine gen_world (y1.alloc (.cells #[.string ⟨#[]⟩, .int .i64 0] 123)) (fun u => Bx u y1.heap.size (in2 ⟨#[]⟩ 0) 123 ∧ Below w.heap.size w u) ?_ ?_); exact ⟨one_bxL _ _ _, of_below K1.out (below1 _ _)⟩; intro y2 K2)
          | ((with_reducible refine at_st rtIn y1.heap.size (in2 ⟨#[]⟩ 0) (in2 X A) ?_ ?_ ?_ ?_ (.tmp 3) (.tmp 12) ?_ ?_ ?_ ?_ ?_); exact K2.out.1; rfl; rfl; exact oneIn _ _; rfl; rfl; rfl; rfl; intro y3 hw3; have K3 : Hid (Below w.heap.size w y3) := K2.out.2.trans (hw3.out.2.1 _ K1.out.size); clear hw3))
        go_ret
        rw [fin.out]
        exact ⟨rfl, K3.out⟩
      · have e1 : decN (x :: r) x = (insL x : Int) := by unfold decN; rw [hnl, if_neg hs]
        have e2 : decE (x :: r) x = 0 := by unfold decE; rw [hnl, if_neg hs]
        rw [e1, e2] at hcall
        rw [if_neg hs] at hw
        obtain ⟨k, hk⟩ : ∃ k, insL x = k := ⟨_, rfl⟩
        rw [hk] at hcall hw hil hs
        obtain ⟨sp1, hsl, hs1⟩ := slB g o n c k (by omega) (by have := J.out.2.1; omega)
        have J2 : Hid (∀ u, Below y.heap.size y u → LB8 u sp1 ((x :: r).drop k) ∧ ((x :: r).drop k).length ≤ c - k ∧ ((x :: r).drop k).length ≤ 2147483647 ∧ wholeB ((x :: r).drop k) = R) := fun u hu => by
          have h1 := J.out.2.1
          have h2 := J.out.2.2.1
          refine ⟨(J.out.1.below hu).drop k sp1 (fun h => hs1 (by omega)), by rw [List.length_drop]; omega, by rw [List.length_drop]; omega, hw.symm⟩
        have hdl : Hid (((x :: r).drop k).length = n - k) := by show _ = _; rw [List.length_drop, hnl]
        have hkn : Hid (1 ≤ k ∧ k ≤ n) := ⟨hil.1, by omega⟩
        replace hnl : Hid _ := hnl
        clear hs e1 e2 hw hil hk hs1
        go_wp2_with (first
          | (go_at_call 73; refine hcall.mono ?_; rintro e y1 ⟨X, A, rfl, H1⟩; have K1 : Hid (Below y.heap.size y y1) := H1; clear H1)
          | ((with_reducible refine gen_world (y1.alloc (.cells #[.string ⟨#[]⟩, .int .i64 0] 123)) (fun u => Bx u y1.heap.size (in2 ⟨#[]⟩ 0) 123 ∧ Below y.heap.size y u) ?_ ?_); exact ⟨one_bxL _ _ _, of_below K1.out (below1 _ _)⟩; intro y2 K2)
          | ((with_reducible refine at_st rtIn y1.heap.size (in2 ⟨#[]⟩ 0) (in2 X A) ?_ ?_ ?_ ?_ (.tmp 3) (.tmp 12) ?_ ?_ ?_ ?_ ?_); exact K2.out.1; rfl; rfl; exact oneIn _ _; rfl; rfl; rfl; rfl; intro y3 hw3; have K3 : Hid (Below y.heap.size y y3) := K2.out.2.trans (hw3.out.2.1 _ K1.out.size); clear hw3)
          | ((with_reducible refine at_sl 33 (.tmp 17) (.tmp 18) (.slice (some ⟨g, o, none⟩) n c) (.int .i64 (k : Int)) (.slice sp1 (n - k) (c - k)) ?_ ?_ ?_ ?_ hsl ?_); kernel_rfl; rfl; rfl; rfl))
        go_roundw
        case rel => exact ⟨sp1, c - k, (x :: r).drop k, y3, rfl, by rw [hdl.out], J2.out y3 K3.out, of_below K.out K3.out⟩
        case measure => have := hkn.out; simp [lenOf]; omega
end Go.Proofs.YtkpfhnogpcigaaaDoorR
