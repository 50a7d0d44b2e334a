/- Objects: their blocks, marks and labels in memory, and which blocks may be. -/
import Derived.Test.YtkpfhnogpcigaaaDoorRJNd
import Derived.Test.YtkpfhnogpcigaaaDoorRJIg
import Derived.Test.YtkpfhnogpcigaaaDoorRJLc
import Derived.BigQuiet
import Derived.Test.YtkpfhnogpcigaaaDoorRJLw
namespace Go.Proofs.YtkpfhnogpcigaaaDoorR
open Go Go.RowKit
set_option linter.unusedVariables false
set_option maxHeartbeats 1000000
set_option maxRecDepth 20000

theorem of_below {w x y : World} (h : Below w.heap.size w x) (k : Below x.heap.size x y) : Below w.heap.size w y := h.trans (k.mono h.size)
/-- A block as it lies in memory. -/
structure Bk where
  a : Int
  sp : Option Addr
  m : Nat
  cap : Nat
structure Mk where
  a : Int
  n : Int
  c : Bool
structure La where
  n : ByteArray
  a : Int
def k2 (b : Bk) : Array Value := #[.int .i64 b.a, .slice b.sp b.m b.cap]
def k3 (m : Mk) : Array Value := #[.int .i64 m.a, .int .i64 m.n, .bool m.c]
def kl (l : La) : Array Value := #[.string l.n, .int .i64 l.a]
def cK (b : Bk) : List Value := (k2 b).toList
def cM (m : Mk) : List Value := (k3 m).toList
def cLa (l : La) : List Value := (kl l).toList
def zK : Bk := ⟨0, none, 0, 0⟩
def zM : Mk := ⟨0, 0, false⟩
def zL : La := ⟨⟨#[]⟩, 0⟩
theorem infoK : (Tryd.prog.info? 42).map (fun i => (i.zero, i.size, i.bytes)) = some (some (.agg (k2 zK)), 2, 32) := by kernel_rfl
theorem infoM : (Tryd.prog.info? 72).map (fun i => (i.zero, i.size, i.bytes)) = some (some (.agg (k3 zM)), 3, 24) := by kernel_rfl
theorem infoLa : (Tryd.prog.info? 61).map (fun i => (i.zero, i.size, i.bytes)) = some (some (.agg (kl zL)), 2, 24) := by kernel_rfl
theorem kBk : KdL (α := Bk) 22 42 2 32 cK := by
  obtain ⟨i, hi, hz0, hz1, hz2⟩ := info_parts infoK
  exact ⟨Tryd.underlying22, ⟨i, _, hi, hz0, hz1, hz2, rfl⟩, fun x => rfl, fun x v hv => by simp [cK, k2] at hv; rcases hv with rfl | rfl <;> rfl, by decide, by decide⟩
theorem kMk : KdL (α := Mk) 23 72 3 24 cM := by
  obtain ⟨i, hi, hz0, hz1, hz2⟩ := info_parts infoM
  exact ⟨Tryd.underlying23, ⟨i, _, hi, hz0, hz1, hz2, rfl⟩, fun x => rfl, fun x v hv => by simp [cM, k3] at hv; rcases hv with rfl | rfl | rfl <;> rfl, by decide, by decide⟩
theorem kLa : KdL (α := La) 24 61 2 24 cLa := by
  obtain ⟨i, hi, hz0, hz1, hz2⟩ := info_parts infoLa
  exact ⟨Tryd.underlying24, ⟨i, _, hi, hz0, hz1, hz2, rfl⟩, fun x => rfl, fun x v hv => by simp [cLa, kl] at hv; rcases hv with rfl | rfl <;> rfl, by decide, by decide⟩
theorem rtK : Rt Tryd.prog 42 2 := ⟨⟨_, Tryd.underlying42, rfl⟩, by kernel_rfl⟩
theorem rtM : Rt Tryd.prog 72 3 := ⟨⟨_, Tryd.underlying72, rfl⟩, by kernel_rfl⟩
theorem rtLa : Rt Tryd.prog 61 2 := ⟨⟨_, Tryd.underlying61, rfl⟩, by kernel_rfl⟩
theorem rtO : Rt Tryd.prog 26 3 := ⟨⟨_, Tryd.underlying26, rfl⟩, by kernel_rfl⟩
theorem oneK (b : Bk) : (k2 b).all (·.oneCell') = true := by simp [k2, Value.oneCell']
theorem oneM (b : Mk) : (k3 b).all (·.oneCell') = true := by simp [k3, Value.oneCell']
theorem oneLa (b : La) : (kl b).all (·.oneCell') = true := by simp [kl, Value.oneCell']
/-- A block with its bytes. -/
abbrev Bb := Bk × List UInt8
/-- An object as it lies in memory. -/
structure Oo where
  bp : Option Addr
  bc : Nat
  B : List Bb
  mp : Option Addr
  mc : Nat
  M : List Mk
  lp : Option Addr
  lc : Nat
  L : List La
def oC (o : Oo) : Array Value := #[.slice o.bp o.B.length o.bc, .slice o.mp o.M.length o.mc, .slice o.lp o.L.length o.lc]
def inI (x : Int) : Prop := -9223372036854775808 ≤ x ∧ x ≤ 9223372036854775807
structure Lo (w : World) (o : Oo) : Prop where
  b : LiesL 2 cK w o.bp (o.B.map (·.1))
  m : LiesL 3 cM w o.mp o.M
  l : LiesL 2 cLa w o.lp o.L
  g : ∀ x ∈ o.B, LB8 w x.1.sp x.2 ∧ x.2.length = x.1.m
  ib : ∀ x ∈ o.B, inI x.1.a ∧ x.1.m ≤ 2147483647
  im : ∀ x ∈ o.M, inI x.a ∧ inI x.n
  il : ∀ x ∈ o.L, inI x.a ∧ x.n.size ≤ 9223372036854775807
  n : o.B.length ≤ 2147483647 ∧ o.M.length ≤ 2147483647 ∧ o.L.length ≤ 2147483647
theorem Lo.below {w y : World} {o : Oo} (h : Lo w o) (hb : Below w.heap.size w y) : Lo y o := ⟨h.b.below hb, h.m.below hb, h.l.below hb, fun x hx => ⟨(h.g x hx).1.below hb, (h.g x hx).2⟩, h.ib, h.im, h.il, h.n⟩
/-- Blocks, from an address on. -/
def blkOk : Int → List Bk → Bool
  | _, [] => true
  | p, b :: r => decide (p ≤ b.a ∧ 1 ≤ (b.m : Int) ∧ (b.m : Int) ≤ 65536 - b.a) && blkOk (b.a + b.m + 1) r
theorem behind_any (w : World) (b : Bk) (hi : 0 ≤ b.a ∧ b.a ≤ 65536) (hm : b.m ≤ 65536) : Calls Tryd.prog 30 #[.agg (k2 b)] w fun e w' => e = .returned (.int .i64 (b.a + b.m)) ∧ Below w.heap.size w w' := by
  have K1 : Hid (Fm w [(w.heap.size, k2 b, 42)] (w.alloc (.cells (k2 b) 42))) := Fm.one w _ _
  have d0 := (K1.out.bx 0 _ _ _ rfl).c 0 (.int .i64 b.a) rfl
  have d1 := (K1.out.bx 0 _ _ _ rfl).c 1 (.slice b.sp b.m b.cap) rfl
  have h0 := hi.1
  have h1 := hi.2
  have h2 : (b.m : Int) ≤ 65536 := by omega
  clear hi hm
  go_enter Tryd.func30, Tryd.ntmps30
  go_wp2
  go_ret
  exact ⟨rfl, K1.out.low⟩
theorem blocks_any (w : World) (sp : Option Addr) (cap : Nat) (l : List Bk) (hl : Hid (LiesL 2 cK w sp l)) (hi : Hid (∀ b ∈ l, inI b.a ∧ b.m ≤ 2147483647)) (hn : l.length ≤ 2147483647) :
    Calls Tryd.prog 27 #[.slice sp l.length cap] w fun e w' => e = .returned (.bool (blkOk 0 l)) ∧ Hid (Below w.heap.size w w') := by
  obtain ⟨n, hn'⟩ : ∃ n, l.length = n := ⟨_, rfl⟩
  have hnn : Hid (l.length = n) := hn'
  rw [hn'] at hn ⊢
  have ni : (n : Int) ≤ 2147483647 := by omega
  obtain ⟨R, hR⟩ : ∃ R, blkOk 0 l = R := ⟨_, rfl⟩
  have hR' : Hid (blkOk 0 l = R) := hR
  rw [hR]
  have hB := fun v b h1 h2 => behind_any v b h1 h2
  clear hn hn' hR
  go_enter Tryd.func27, Tryd.ntmps27
  go_wp2
  go_loopw [3, 8] (fun p t wz => ∃ (i : Nat) (P : Int) (y : World), y = wz ∧ p = .int .i64 P ∧ t = .int .i64 (i : Int) ∧ Hid (i ≤ n ∧ blkOk P (l.drop i) = R ∧ 0 ≤ P ∧ P ≤ 65537) ∧ Hid (Below w.heap.size w y)) (fun _ t _ => (n - intOf t).toNat)
  case atStart => exact ⟨0, 0, _, rfl, rfl, rfl, ⟨Nat.zero_le _, hR'.out, by decide, by decide⟩, Below.refl _ _⟩
  case round =>
    obtain ⟨i, P, y, rfl, rfl, rfl, J, K⟩ := hrel
    by_cases hlt : i < n
    · obtain ⟨b, hb⟩ : ∃ b, l[i]? = some b := ⟨_, List.getElem?_eq_getElem (by rw [hnn.out]; exact hlt)⟩
      obtain ⟨g, o, rfl, hc⟩ := hl.out i b hb
      have hc' : Hid (y.rangeAt g (o + i * 2) (k2 b).toList) := range_keep hc K.out
      obtain ⟨hia, hib⟩ := hi.out b (List.mem_of_getElem? hb)
      have hd : Hid (l.drop i = b :: l.drop (i + 1)) := by
        show _ = _
        obtain ⟨h, e⟩ := List.getElem?_eq_some_iff.1 hb
        rw [List.drop_eq_getElem_cons h, e]
      have hO : Hid (blkOk P (l.drop i) = (decide (P ≤ b.a ∧ 1 ≤ (b.m : Int) ∧ (b.m : Int) ≤ 65536 - b.a) && blkOk (b.a + b.m + 1) (l.drop (i + 1)))) := by show _ = _; rw [hd.out]; rfl
      have ij := fun w => idxP (P := Tryd.prog) (g := g) (off := o) (len := n) (cap := cap) Tryd.underlying22 (s := 2) (by kernel_rfl) .i64 i w hlt
      have hii : (i : Int) < n := by omega
      have hlt' : Hid (i < n) := hlt
      have p0 := J.out.2.2.1
      have p1 := J.out.2.2.2
      have mi : (b.m : Int) ≤ 2147483647 := by omega
      have a0 := hia.1
      have a1 := hia.2

      by_cases c : P ≤ b.a ∧ 1 ≤ (b.m : Int) ∧ (b.m : Int) ≤ 65536 - b.a
      · obtain ⟨c1, c2, c3⟩ := c
        have hJ : Hid (blkOk (b.a + b.m + 1) (l.drop (i + 1)) = R) := by
          have h1 := hO.out
          rw [J.out.2.1, decide_eq_true ⟨c1, c2, c3⟩, Bool.true_and] at h1
          exact h1.symm
        have q1 : ¬ b.a < P := by omega
        have q2 : ¬ (b.m : Int) < 1 := by omega
        have q3 : ¬ 65536 - b.a < (b.m : Int) := by omega
        have hBc : Hid (∀ v, Calls Tryd.prog 30 #[.agg (k2 b)] v fun e w' => e = .returned (.int .i64 (b.a + b.m)) ∧ Below v.heap.size v w') := fun v => hB v b ⟨by omega, by omega⟩ (by omega)
        clear hlt hb hc hia hib hd hO hB
        go_wp2_with (first
          | ((with_reducible refine at_loadm rtK g (o + i * 2) (k2 b) ?_ ?_ (.tmp 10) ?_ ?_ ?_ ?_); exact hc'.out; rfl; kernel_rfl; rfl; rfl)
          | ((with_reducible refine gen_world (y.alloc (.cells #[.int .i64 0, .slice none 0 0] 42)) (Fm y [(y.heap.size, k2 zK, 42)]) ?_ ?_); exact Fm.one y _ _; intro y1 K1)
          | ((with_reducible refine at_st rtK y.heap.size (k2 zK) (k2 b) ?_ ?_ ?_ ?_ (.tmp 5) (.tmp 11) ?_ ?_ ?_ ?_ ?_); exact K1.out.bx 0 _ _ _ rfl; rfl; rfl; exact oneK _; rfl; rfl; rfl; rfl; intro y2 hw2; have K2 : Hid (Fm y [(y.heap.size, k2 b, 42)] y2) := K1.out.put 0 _ _ _ _ rfl hw2.out; clear hw2; have d0 := (K2.out.bx 0 _ _ _ rfl).c 0 (.int .i64 b.a) rfl; have d1 := (K2.out.bx 0 _ _ _ rfl).c 1 (.slice b.sp b.m b.cap) rfl)
          | ((with_reducible refine at_load rtK y.heap.size (k2 b) ?_ ?_ (.tmp 5) ?_ ?_ ?_ ?_); exact K2.out.bx 0 _ _ _ rfl; rfl; rfl; rfl; rfl)
          | (go_at_call 30; refine (hBc.out y2).mono ?_; rintro e y3 ⟨rfl, H3⟩; have K3 : Hid (Below w.heap.size w y3) := of_below (of_below K.out K2.out.low) H3; clear H3 d0 d1))
        go_roundw
        case rel => exact ⟨i + 1, b.a + b.m + 1, _, rfl, by first | rfl | simp, by simp, ⟨hlt'.out, hJ.out, by omega, by omega⟩, K3⟩
        case measure => have := hlt'.out; simp [intOf]; omega
      · have fin : Hid (R = false) := by
          have h1 := hO.out
          rw [J.out.2.1, decide_eq_false c, Bool.false_and] at h1
          exact h1
        have q : (b.a < P) ∨ (¬ b.a < P ∧ (b.m : Int) < 1) ∨ (¬ b.a < P ∧ ¬ (b.m : Int) < 1 ∧ 65536 - b.a < (b.m : Int)) := by omega
        clear hlt hb hc hia hib hd hO hB c
        rcases q with q1 | ⟨q1, q2⟩ | ⟨q1, q2, q3⟩
        all_goals
          go_wp2_with (first
            | ((with_reducible refine at_loadm rtK g (o + i * 2) (k2 b) ?_ ?_ (.tmp 10) ?_ ?_ ?_ ?_); exact hc'.out; rfl; kernel_rfl; rfl; rfl)
            | ((with_reducible refine gen_world (y.alloc (.cells #[.int .i64 0, .slice none 0 0] 42)) (Fm y [(y.heap.size, k2 zK, 42)]) ?_ ?_); exact Fm.one y _ _; intro y1 K1)
            | ((with_reducible refine at_st rtK y.heap.size (k2 zK) (k2 b) ?_ ?_ ?_ ?_ (.tmp 5) (.tmp 11) ?_ ?_ ?_ ?_ ?_); exact K1.out.bx 0 _ _ _ rfl; rfl; rfl; exact oneK _; rfl; rfl; rfl; rfl; intro y2 hw2; have K2 : Hid (Fm y [(y.heap.size, k2 b, 42)] y2) := K1.out.put 0 _ _ _ _ rfl hw2.out; clear hw2; have d0 := (K2.out.bx 0 _ _ _ rfl).c 0 (.int .i64 b.a) rfl; have d1 := (K2.out.bx 0 _ _ _ rfl).c 1 (.slice b.sp b.m b.cap) rfl))
          go_ret
          rw [fin.out]
          exact ⟨rfl, of_below K.out K2.out.low⟩
    · have hie : i = n := by have := J.out.1; omega
      subst hie
      have fin : Hid (R = true) := by
        have h1 := J.out.2.1
        rw [List.drop_eq_nil_of_le (by rw [hnn.out]; exact Nat.le_refl _)] at h1
        exact h1.symm
      clear hlt
      go_wp2
      go_ret
      rw [fin.out]
      exact ⟨rfl, K⟩
end Go.Proofs.YtkpfhnogpcigaaaDoorR
/- Labels: which stands ahead of which. -/
namespace Go.Proofs.YtkpfhnogpcigaaaDoorR
open Go Go.RowKit
set_option linter.unusedVariables false
set_option maxHeartbeats 1000000
set_option maxRecDepth 20000

def sLt (a b : ByteArray) : Bool := Op.bytesLess a.toList b.toList
/-- Does a label stand ahead of another one? -/
def befL (a b : La) : Bool := decide (a.a < b.a) || (decide (a.a = b.a) && sLt a.n b.n)
def cmpI (a b : Int) : Int := if a < b then -1 else if b < a then 1 else 0
def cmpS (a b : ByteArray) : Int := if sLt a b then -1 else if a = b then 0 else 1
def ordL (a b : La) : Int := if cmpI a.a b.a ≠ 0 then cmpI a.a b.a else cmpS a.n b.n
theorem rbefore_any (w : World) (a b : La) (ha : inI a.a) (hb : inI b.a) : Calls Tryd.prog 46 #[.agg (kl a), .agg (kl b)] w fun e w' => e = .returned (.bool (befL a b)) ∧ Below w.heap.size w w' := by
  have K1 : Hid (Fm w [(w.heap.size, kl a, 61), (w.heap.size + 1, kl b, 61)] ((w.alloc (.cells (kl a) 61)).alloc (.cells (kl b) 61))) := Fm.two w _ _ _ _
  have c0 := (K1.out.bx 0 _ _ _ rfl).c 0 (.string a.n) rfl
  have c1 := (K1.out.bx 0 _ _ _ rfl).c 1 (.int .i64 a.a) rfl
  have d0 := (K1.out.bx 1 _ _ _ rfl).c 0 (.string b.n) rfl
  have d1 := (K1.out.bx 1 _ _ _ rfl).c 1 (.int .i64 b.a) rfl
  obtain ⟨s, hs⟩ : ∃ s, sLt a.n b.n = s := ⟨_, rfl⟩
  have hs' : Op.bytesLess a.n.toList b.n.toList = s := hs
  have hR : Hid (befL a b = (decide (a.a < b.a) || (decide (a.a = b.a) && s))) := by show _ = _; unfold befL; rw [hs]
  by_cases h1 : a.a < b.a
  · have fin : Hid (befL a b = true) := by show _ = _; rw [hR.out, decide_eq_true h1]; rfl
    go_enter Tryd.func46, Tryd.ntmps46
    go_wp2
    go_ret
    rw [fin.out]
    exact ⟨rfl, K1.out.low⟩
  · by_cases h2 : a.a = b.a
    · have q2 : (a.a == b.a) = true := by rw [beq_iff_eq]; exact h2
      have fin : Hid (befL a b = s) := by show _ = _; rw [hR.out, decide_eq_false h1, decide_eq_true h2]; rfl
      replace h2 : Hid _ := h2
      go_enter Tryd.func46, Tryd.ntmps46
      go_wp2
      go_ret
      rw [fin.out]
      exact ⟨by first | rfl | simp, K1.out.low⟩
    · have q2 : (a.a == b.a) = false := by rw [beq_eq_false_iff_ne]; exact h2
      have fin : Hid (befL a b = false) := by show _ = _; rw [hR.out, decide_eq_false h1, decide_eq_false h2]; rfl
      replace h2 : Hid _ := h2
      go_enter Tryd.func46, Tryd.ntmps46
      go_wp2
      go_ret
      rw [fin.out]
      exact ⟨rfl, K1.out.low⟩
theorem nanI (x : Int) (w : World) : Calls Tryd.prog 74 #[.int .i64 x] w fun e w' => e = .returned (.bool false) ∧ w' = w := by
  have q : (x != x) = false := by simp
  go_enter Tryd.func74, Tryd.ntmps74
  go_wp2
  try (go_quiet (fail); go_wp2)
  go_ret
  exact ⟨rfl, rfl⟩
theorem nanS (x : ByteArray) (w : World) : Calls Tryd.prog 75 #[.string x] w fun e w' => e = .returned (.bool false) ∧ w' = w := by
  have q : (x.toList != x.toList) = false := by simp
  go_enter Tryd.func75, Tryd.ntmps75
  go_wp2
  try (go_quiet (fail); go_wp2)
  go_ret
  exact ⟨rfl, rfl⟩
theorem cmpI_any (a b : Int) (w : World) : Calls Tryd.prog 58 #[.int .i64 a, .int .i64 b] w fun e w' => e = .returned (.int .i64 (cmpI a b)) ∧ w' = w := by
  have hN := fun x v => nanI x v
  by_cases h1 : a < b
  · have fin : Hid (cmpI a b = -1) := by show _ = _; unfold cmpI; rw [if_pos h1]
    go_enter Tryd.func58, Tryd.ntmps58
    go_wp2_with (go_at_call 74; refine (hN _ _).mono ?_; rintro e y ⟨rfl, rfl⟩)
    go_ret
    rw [fin.out]
    exact ⟨rfl, rfl⟩
  · by_cases h2 : b < a
    · have fin : Hid (cmpI a b = 1) := by show _ = _; unfold cmpI; rw [if_neg h1, if_pos h2]
      go_enter Tryd.func58, Tryd.ntmps58
      go_wp2_with (go_at_call 74; refine (hN _ _).mono ?_; rintro e y ⟨rfl, rfl⟩)
      go_ret
      rw [fin.out]
      exact ⟨rfl, rfl⟩
    · have fin : Hid (cmpI a b = 0) := by show _ = _; unfold cmpI; rw [if_neg h1, if_neg h2]
      go_enter Tryd.func58, Tryd.ntmps58
      go_wp2_with (go_at_call 74; refine (hN _ _).mono ?_; rintro e y ⟨rfl, rfl⟩)
      go_ret
      rw [fin.out]
      exact ⟨rfl, rfl⟩
theorem cmpS_any (a b : ByteArray) (w : World) : Calls Tryd.prog 59 #[.string a, .string b] w fun e w' => e = .returned (.int .i64 (cmpS a b)) ∧ w' = w := by
  have hN := fun x v => nanS x v
  by_cases h1 : sLt a b = true
  · have q1 : Op.bytesLess a.toList b.toList = true := h1
    have fin : Hid (cmpS a b = -1) := by show _ = _; unfold cmpS; rw [if_pos h1]
    clear h1
    go_enter Tryd.func59, Tryd.ntmps59
    go_wp2_with (go_at_call 75; refine (hN _ _).mono ?_; rintro e y ⟨rfl, rfl⟩)
    go_ret
    rw [fin.out]
    exact ⟨rfl, rfl⟩
  · have q1 : Op.bytesLess a.toList b.toList = false := by unfold sLt at h1; simpa using h1
    by_cases h2 : a = b
    · have q2 : (a.toList == b.toList) = true := str_eq h2
      have fin : Hid (cmpS a b = 0) := by show _ = _; unfold cmpS; rw [if_neg h1, if_pos h2]
      replace h2 : Hid _ := h2
      clear h1
      go_enter Tryd.func59, Tryd.ntmps59
      go_wp2_with (go_at_call 75; refine (hN _ _).mono ?_; rintro e y ⟨rfl, rfl⟩)
      go_ret
      rw [fin.out]
      exact ⟨rfl, rfl⟩
    · have q2 : (a.toList == b.toList) = false := str_ne h2
      have fin : Hid (cmpS a b = 1) := by show _ = _; unfold cmpS; rw [if_neg h1, if_neg h2]
      replace h2 : Hid _ := h2
      clear h1
      go_enter Tryd.func59, Tryd.ntmps59
      go_wp2_with (go_at_call 75; refine (hN _ _).mono ?_; rintro e y ⟨rfl, rfl⟩)
      go_ret
      rw [fin.out]
      exact ⟨rfl, rfl⟩
theorem cmpOr_any (a b : Int) (g : Nat) (w : World) (h0 : w.cell? ⟨g, 0, none⟩ = some (.int .i64 a)) (h1 : w.cell? ⟨g, 1, none⟩ = some (.int .i64 b)) : Calls Tryd.prog 57 #[.slice (some ⟨g, 0, none⟩) 2 2] w fun e w' => e = .returned (.int .i64 (if a ≠ 0 then a else b)) ∧ w' = w := by
  have i0 : ∀ w, (Instr.indexAt 144 (.slice (some ⟨g, 0, none⟩) 2 2) (.int .i64 0)).run Tryd.prog w = .ok (.pointer (some ⟨g, 0, none⟩)) w := fun w => by
    have := idxP (P := Tryd.prog) (g := g) (off := 0) (len := 2) (cap := 2) Tryd.underlying144 (s := 1) (by kernel_rfl) .i64 0 w (by omega)
    exact this
  have i1 : ∀ w, (Instr.indexAt 144 (.slice (some ⟨g, 0, none⟩) 2 2) (.int .i64 1)).run Tryd.prog w = .ok (.pointer (some ⟨g, 1, none⟩)) w := fun w => by
    have := idxP (P := Tryd.prog) (g := g) (off := 0) (len := 2) (cap := 2) Tryd.underlying144 (s := 1) (by kernel_rfl) .i64 1 w (by omega)
    exact this
  by_cases ha : a = 0
  · subst ha
    rw [if_neg (by simp)]
    by_cases hb : b = 0
    · subst hb
      go_enter Tryd.func57, Tryd.ntmps57
      go_wp2
      refine wp_loop_rounds 3 ?_
      rw [rounds_succ]; go_wp2
      rw [rounds_succ]; go_wp2
      rw [rounds_succ]; go_wp2
      go_ret
      exact ⟨rfl, rfl⟩
    · have qb : (b != 0) = true := by rw [bne_iff_ne]; exact hb
      replace hb : Hid _ := hb
      go_enter Tryd.func57, Tryd.ntmps57
      go_wp2
      refine wp_loop_rounds 2 ?_
      rw [rounds_succ]; go_wp2
      rw [rounds_succ]; go_wp2
      go_ret
      exact ⟨rfl, rfl⟩
  · have qa : (a != 0) = true := by rw [bne_iff_ne]; exact ha
    rw [if_pos ha]
    replace ha : Hid _ := ha
    go_enter Tryd.func57, Tryd.ntmps57
    go_wp2
    refine wp_loop_rounds 1 ?_
    rw [rounds_succ]; go_wp2
    go_ret
    exact ⟨rfl, rfl⟩
theorem calls_same {f : FuncId} {args : Array Value} {v : Value} {u : World} {C : World → Prop} (h : Calls Tryd.prog f args u fun e w' => e = .returned v ∧ w' = u) (hC : C u) : Calls Tryd.prog f args u fun e w' => e = .returned v ∧ C w' := h.mono fun e w' k => ⟨k.1, by rw [k.2]; exact hC⟩
theorem order_any (w : World) (a b : La) (ha : inI a.a) (hb : inI b.a) : Calls Tryd.prog 43 #[.agg (kl a), .agg (kl b)] w fun e w' => e = .returned (.int .i64 (ordL a b)) ∧ Below w.heap.size w w' := by
  have K1 : Hid (Fm w [(w.heap.size, kl a, 61), (w.heap.size + 1, kl b, 61)] ((w.alloc (.cells (kl a) 61)).alloc (.cells (kl b) 61))) := Fm.two w _ _ _ _
  have hcl : Hid (∀ y, Fm w [(w.heap.size, kl a, 61), (w.heap.size + 1, kl b, 61)] y → y.cell? ⟨w.heap.size, 0, none⟩ = some (.string a.n) ∧ y.cell? ⟨w.heap.size, 1, none⟩ = some (.int .i64 a.a) ∧ y.cell? ⟨w.heap.size + 1, 0, none⟩ = some (.string b.n) ∧ y.cell? ⟨w.heap.size + 1, 1, none⟩ = some (.int .i64 b.a)) := fun y hy => ⟨(hy.bx 0 _ _ _ rfl).c 0 (.string a.n) rfl, (hy.bx 0 _ _ _ rfl).c 1 (.int .i64 a.a) rfl, (hy.bx 1 _ _ _ rfl).c 0 (.string b.n) rfl, (hy.bx 1 _ _ _ rfl).c 1 (.int .i64 b.a) rfl⟩
  have hI := fun v => cmpI_any a.a b.a v
  have hS := fun v => cmpS_any a.n b.n v
  have hO : Hid (∀ v g, v.cell? ⟨g, 0, none⟩ = some (.int .i64 (cmpI a.a b.a)) → v.cell? ⟨g, 1, none⟩ = some (.int .i64 (cmpS a.n b.n)) → Calls Tryd.prog 57 #[.slice (some ⟨g, 0, none⟩) 2 2] v fun e w' => e = .returned (.int .i64 (ordL a b)) ∧ w' = v) := fun v g h1 h2 => cmpOr_any _ _ g v h1 h2
  replace hI : Hid _ := hI
  replace hS : Hid _ := hS
  go_enter Tryd.func43, Tryd.ntmps43
  go_wp2
  refine region_class_tail 10 (Fm w [(w.heap.size, kl a, 61), (w.heap.size + 1, kl b, 61)]) (by kernel_rfl) (by kernel_rfl) (K1.out.below (below_drew (Below.refl _ _))) ?_
  simp only [List.take_succ_cons, List.take_zero, List.drop_succ_cons, List.drop_zero]
  with_reducible refine quiet_one (.pointer (some ⟨w.heap.size, 1, none⟩)) ?_ ?_ ?_
  · kernel_rfl
  · intro u hy
    go_simp
  with_reducible refine quiet_one (.int .i64 a.a) ?_ ?_ ?_
  · kernel_rfl
  · intro u hy
    have t := (hcl.out u hy).2.1
    go_simp
  with_reducible refine quiet_one (.pointer (some ⟨w.heap.size + 1, 1, none⟩)) ?_ ?_ ?_
  · kernel_rfl
  · intro u hy
    go_simp
  with_reducible refine quiet_one (.int .i64 b.a) ?_ ?_ ?_
  · kernel_rfl
  · intro u hy
    have t := (hcl.out u hy).2.2.2
    go_simp
  with_reducible refine quiet_one (.int .i64 (cmpI a.a b.a)) ?_ ?_ ?_
  · kernel_rfl
  · intro u hy
    have d := calls_same (C := Fm w [(w.heap.size, kl a, 61), (w.heap.size + 1, kl b, 61)]) (hI.out u) hy
    go_simp
    all_goals exact d
  with_reducible refine quiet_one (.pointer (some ⟨w.heap.size, 0, none⟩)) ?_ ?_ ?_
  · kernel_rfl
  · intro u hy
    go_simp
  with_reducible refine quiet_one (.string a.n) ?_ ?_ ?_
  · kernel_rfl
  · intro u hy
    have t := (hcl.out u hy).1
    go_simp
  with_reducible refine quiet_one (.pointer (some ⟨w.heap.size + 1, 0, none⟩)) ?_ ?_ ?_
  · kernel_rfl
  · intro u hy
    go_simp
  with_reducible refine quiet_one (.string b.n) ?_ ?_ ?_
  · kernel_rfl
  · intro u hy
    have t := (hcl.out u hy).2.2.1
    go_simp
  with_reducible refine quiet_one (.int .i64 (cmpS a.n b.n)) ?_ ?_ ?_
  · kernel_rfl
  · intro u hy
    have d := calls_same (C := Fm w [(w.heap.size, kl a, 61), (w.heap.size + 1, kl b, 61)]) (hS.out u) hy
    go_simp
    all_goals exact d
  refine wpQuiet_nil ?_
  intro z0 Z0
  replace Z0 : Hid _ := Z0
  go_simp
  have F3 : Hid (Fm w [(w.heap.size, kl a, 61), (w.heap.size + 1, kl b, 61), (z0.heap.size, #[.int .i64 (cmpI a.a b.a), .int .i64 (cmpS a.n b.n)], 3)] (z0.alloc (.cells #[.int .i64 (cmpI a.a b.a), .int .i64 (cmpS a.n b.n)] 3))) := Z0.out.new _ _
  go_wp2_with (go_at_call 57; refine (hO.out _ z0.heap.size ((F3.out.bx 2 _ _ _ rfl).c 0 _ rfl) ((F3.out.bx 2 _ _ _ rfl).c 1 _ rfl)).mono ?_; rintro e y ⟨rfl, rfl⟩)
  go_ret
  exact ⟨rfl, F3.out.low⟩
end Go.Proofs.YtkpfhnogpcigaaaDoorR
/- A source written as a text, by the document. -/
namespace Go.Proofs.YtkpfhnogpcigaaaDoorR
open Go Go.RowKit
set_option linter.unusedVariables false
set_option maxHeartbeats 2000000
set_option maxRecDepth 20000

theorem isNm_le {s : ByteArray} (h : isNm s = true) : s.size ≤ 16 := (of_decide_eq_true h).2.1
theorem mayI_small {r : Ri} (h : mayI r = true) : r.n.size ≤ 16 ∧ r.l.size ≤ 16 ∧ r.m ≤ 256 := by
  unfold mayI at h
  by_cases h2 : r.k = 2
  · rw [if_pos h2] at h
    unfold codeI at h
    rcases e : opOf r.n with _ | n
    · rw [e] at h; cases h
    · rw [e] at h
      have h4 := opOf_small e
      have h' : codeF (fm n) r = true := h
      unfold codeF at h'
      rw [Bool.and_eq_true, decide_eq_true_iff] at h'
      obtain ⟨m0, h'⟩ := h'
      refine ⟨by omega, ?_, by omega⟩
      by_cases hp : r.p = 0
      · rw [if_pos hp, Bool.and_eq_true, decide_eq_true_iff] at h'
        omega
      · rw [if_neg hp, Bool.and_eq_true] at h'
        exact isNm_le h'.1
  · rw [if_neg h2] at h
    by_cases hp : r.p = 0
    · rw [if_neg (by omega)] at h
      by_cases h1 : r.k = 1
      · rw [if_pos h1] at h
        simp only [Bool.and_eq_true, decide_eq_true_iff] at h
        exact ⟨isNm_le h.1, by omega, by omega⟩
      rw [if_neg h1] at h
      by_cases h3 : r.k = 3
      · rw [if_pos h3] at h
        simp only [Bool.and_eq_true, decide_eq_true_iff] at h
        omega
      rw [if_neg h3] at h
      by_cases h4 : r.k = 4
      · rw [if_pos h4] at h
        simp only [Bool.and_eq_true, decide_eq_true_iff] at h
        omega
      rw [if_neg h4] at h
      by_cases h5 : r.k = 5
      · rw [if_pos h5] at h
        simp only [Bool.and_eq_true, decide_eq_true_iff] at h
        exact ⟨by omega, isNm_le h.1, by omega⟩
      rw [if_neg h5] at h
      cases h
    · rw [if_pos hp] at h
      cases h
theorem line_small {r : Ri} {b : List UInt8} (h1 : r.n.size ≤ 16) (h2 : r.l.size ≤ 16) (h3 : b.length ≤ 256) : (lineI r b).size ≤ 1000 := by
  have c1 := hexOf_le r.a 4
  have c2 := printS_le r.n r.a
  unfold lineI
  split
  · rw [ByteArray.size_append]; show _ + 1 ≤ _; omega
  split
  · show ([32, 100, 97, 116, 97] ++ dataL b).toArray.size ≤ _
    rw [List.size_toArray, List.length_append, dataL_len]
    show 5 + _ ≤ _
    omega
  split
  · rw [ByteArray.size_append]; show 4 + _ ≤ _; omega
  split
  · rw [ByteArray.size_append]; show 9 + _ ≤ _; omega
  split
  · rw [ByteArray.size_append, ByteArray.size_append, ByteArray.size_append]; show 1 + _ + 4 + _ ≤ _; omega
  split
  · rw [ByteArray.size_append, ByteArray.size_append, ByteArray.size_append]; show 1 + _ + 6 + _ ≤ _; omega
  split
  · rw [ByteArray.size_append, ByteArray.size_append, ByteArray.size_append]; show 1 + _ + 5 + _ ≤ _; omega
  · rw [ByteArray.size_append]; show 1 + _ ≤ _; omega

/-- An item with its bytes. -/
abbrev Itm := Ri × List UInt8
def printL (L : List Itm) : List UInt8 := L.flatMap fun x => strL (lineI x.1 x.2) ++ [10]
def printIE (L : List Itm) : Int := if ¬ checkE (L.map (·.1)) = 0 then checkE (L.map (·.1)) else if 65536 < (printL L).length then 2 else 0
def printIB (L : List Itm) : ByteArray := if printIE L = 0 then ⟨(printL L).toArray⟩ else ⟨#[]⟩
/-- Items whose bytes lie where they say. -/
def Good (w : World) (x : Itm) : Prop := LB8 w x.1.sp x.2 ∧ x.2.length = x.1.m ∧ x.1.a ≤ 9223372036854775807
theorem checkE_ok {l : List Ri} (h : checkE l = 0) : l.length ≤ 4096 ∧ ∀ r ∈ l, mayI r = true := by
  unfold checkE at h
  split at h
  · cases h
  · rename_i hl
    split at h
    · cases h
    · rename_i hb
      refine ⟨by omega, fun r hr => ?_⟩
      have : badI l = none := by simpa using hb
      unfold badI at this
      rw [List.findIdx?_eq_none_iff] at this
      have := this r hr
      simpa using this

theorem at_listL {α : Type} {l : List α} {n i : Nat} (h : l.length = n) (hi : i < n) : ∃ s, l[i]? = some s ∧ l.drop i = s :: l.drop (i + 1) :=
  ⟨l[i]'(by omega), List.getElem?_eq_getElem (by omega), List.drop_eq_getElem_cons (by omega)⟩
end Go.Proofs.YtkpfhnogpcigaaaDoorR
/- A source that is laid and filled: by plain mathematics. -/
namespace Go.Proofs.YtkpfhnogpcigaaaDoorR
open Go Go.RowKit
set_option linter.unusedVariables false
set_option maxHeartbeats 1000000
set_option maxRecDepth 20000

/-- Where the laying has come to: the place, what lies at each address (0 nothing, 1 code, 2 data), the labels. -/
structure Sh where
  p : Nat
  U : List UInt8
  N : List (ByteArray × Nat)
def sh0 : Sh := ⟨0, List.replicate 65536 0, []⟩
def lookN : List (ByteArray × Nat) → ByteArray → Option Nat
  | [], _ => none
  | x :: r, s => if s = x.1 then some x.2 else lookN r s
def szN (r : Ri) : Nat := (sizeI r).toNat
def useI (r : Ri) : UInt8 := if r.k = 2 then 1 else 2
/-- So many addresses taken up. -/
def clE (s : Sh) (n : Nat) : Int := if 65536 < s.p + n then 143 else if ((s.U.drop s.p).take n).any (fun u => decide (u ≠ 0)) then 144 else 0
def clS (s : Sh) (n : Nat) (u : UInt8) : Sh := ⟨s.p + n, splice s.U s.p (List.replicate n u), s.N⟩
/-- The place called so. -/
def nmE (s : Sh) (n : ByteArray) : Int := if 65535 < s.p then 143 else if (lookN s.N n).isSome then 140 else 0
def nmS (s : Sh) (n : ByteArray) : Sh := ⟨s.p, s.U, (n, s.p) :: s.N⟩
/-- One item: why it can't be laid; what stands behind it. -/
def stE (s : Sh) (r : Ri) : Int := if r.k = 1 then nmE s r.n else if r.k = 4 then 0 else clE s (szN r)
def stS (s : Sh) (r : Ri) : Sh := if r.k = 1 then nmS s r.n else if r.k = 4 then ⟨r.a.toNat, s.U, s.N⟩ else clS s (szN r) (useI r)
def layE : Sh → List Ri → Nat → Option (Int × Nat)
  | _, [], _ => none
  | s, r :: l, i => if stE s r = 0 then layE (stS s r) l (i + 1) else some (stE s r, i)
def layS : Sh → List Ri → Sh
  | s, [] => s
  | s, r :: l => layS (stS s r) l
def plcs : Sh → List Ri → List Nat
  | _, [] => []
  | s, r :: l => s.p :: plcs (stS s r) l
structure Sh.Ok (s : Sh) : Prop where
  p : s.p ≤ 65536
  u : s.U.length = 65536
  n : ∀ x ∈ s.N, x.2 ≤ 65535
theorem sh0_ok : sh0.Ok := ⟨Nat.zero_le _, List.length_replicate, fun x hx => by cases hx⟩
theorem clE_cases (s : Sh) (n : Nat) : clE s n = 143 ∨ clE s n = 144 ∨ (clE s n = 0 ∧ s.p + n ≤ 65536 ∧ ((s.U.drop s.p).take n).any (fun u => decide (u ≠ 0)) = false) := by
  unfold clE
  split
  · exact .inl rfl
  · rename_i h
    rcases hb : ((s.U.drop s.p).take n).any (fun u => decide (u ≠ 0)) with _ | _
    · exact .inr (.inr ⟨by simp, by omega, rfl⟩)
    · exact .inr (.inl (by simp))
theorem clE_zero {s : Sh} {n : Nat} (h : clE s n = 0) : s.p + n ≤ 65536 ∧ ((s.U.drop s.p).take n).any (fun u => decide (u ≠ 0)) = false := by
  rcases clE_cases s n with e | e | ⟨_, e⟩
  · rw [e] at h; omega
  · rw [e] at h; omega
  · exact e
theorem nmE_zero {s : Sh} {n : ByteArray} (h : nmE s n = 0) : s.p ≤ 65535 ∧ lookN s.N n = none := by
  unfold nmE at h
  split at h
  · omega
  · rename_i h1
    split at h
    · omega
    · rename_i h2
      refine ⟨by omega, ?_⟩
      rcases e : lookN s.N n with _ | _
      · rfl
      · rw [e] at h2; simp at h2
theorem Sh.Ok.cl {s : Sh} (h : s.Ok) {n : Nat} (u : UInt8) (he : clE s n = 0) : (clS s n u).Ok := by
  have hz := (clE_zero he).1
  refine ⟨hz, ?_, h.n⟩
  show (splice s.U s.p (List.replicate n u)).length = 65536
  rw [length_splice _ _ _ (by rw [List.length_replicate, h.u]; exact hz), h.u]
theorem Sh.Ok.nm {s : Sh} (h : s.Ok) {n : ByteArray} (he : nmE s n = 0) : (nmS s n).Ok := by
  refine ⟨h.p, h.u, fun x hx => ?_⟩
  rcases List.mem_cons.1 hx with rfl | hx
  · exact (nmE_zero he).1
  · exact h.n x hx
theorem may_at {r : Ri} (h : mayI r = true) (hk : r.k = 4) : 0 ≤ r.a ∧ r.a ≤ 65535 := by
  rw [may4 hk] at h
  simp at h
  exact h.1
theorem Sh.Ok.st {s : Sh} (h : s.Ok) {r : Ri} (hm : mayI r = true) (he : stE s r = 0) : (stS s r).Ok := by
  unfold stE at he
  unfold stS
  split
  · rename_i hk
    rw [if_pos hk] at he
    exact h.nm he
  · rename_i hk
    rw [if_neg hk] at he
    split
    · rename_i hk4
      have := may_at hm hk4
      exact ⟨by show r.a.toNat ≤ 65536; omega, h.u, h.n⟩
    · rename_i hk4
      rw [if_neg hk4] at he
      exact h.cl _ he
theorem look_le {N : List (ByteArray × Nat)} (h : ∀ x ∈ N, x.2 ≤ 65535) {s : ByteArray} {t : Nat} (e : lookN N s = some t) : t ≤ 65535 := by
  induction N with
  | nil => simp [lookN] at e
  | cons x r ih =>
    unfold lookN at e
    split at e
    · simp at e; subst e; exact h x (by simp)
    · exact ih (fun y hy => h y (by simp [hy])) e
/-- Which items ask for a label, and what is wrong with what they ask for. -/
def asksI (r : Ri) : Bool := decide (r.k = 5) || (decide (r.k = 2) && decide (r.p ≠ 0))
def fmS (s : ByteArray) : Nat := match opOf s with | some n => fm n | none => 0
def flE (N : List (ByteArray × Nat)) (p : Nat) (r : Ri) : Int := if asksI r then (match lookN N r.l with | none => 141 | some t => if r.k = 2 ∧ fmS r.n = 5 ∧ t / 256 ≠ (p + 1) / 256 then 142 else 0) else 0
def opndI (r : Ri) (t : Nat) : Nat := if r.p = 2 then t / 256 else if r.p = 3 ∨ fmS r.n = 5 then t % 256 else t
def encL (s : ByteArray) (A : Int) : List UInt8 := match opOf s with | some n => (encB n A).map fun z => UInt8.ofNat z.toNat | none => []
def tgtN (N : List (ByteArray × Nat)) (r : Ri) : Nat := if asksI r then (lookN N r.l).getD 0 else 0
/-- The bytes of an item. -/
def flB (N : List (ByteArray × Nat)) (x : Itm) : List UInt8 := if x.1.k = 3 then x.2 else if x.1.k = 5 then [UInt8.ofNat (tgtN N x.1 / 256), UInt8.ofNat (tgtN N x.1)] else if x.1.k = 2 then encL x.1.n (if x.1.p = 0 then x.1.a else (opndI x.1 (tgtN N x.1) : Nat)) else []
def filE (N : List (ByteArray × Nat)) : List (Itm × Nat) → Nat → Option (Int × Nat)
  | [], _ => none
  | x :: l, i => if flE N x.2 x.1.1 = 0 then filE N l (i + 1) else some (flE N x.2 x.1.1, i)
def filM (N : List (ByteArray × Nat)) : List UInt8 → List (Itm × Nat) → List UInt8
  | M, [] => M
  | M, x :: l => filM N (splice M x.2 (flB N x.1)) l
end Go.Proofs.YtkpfhnogpcigaaaDoorR
/- The labels' order, by plain mathematics. -/
namespace Go.Proofs.YtkpfhnogpcigaaaDoorR
open Go Go.RowKit
set_option linter.unusedVariables false
set_option maxHeartbeats 1000000
set_option maxRecDepth 20000

theorem bl_irrefl : ∀ l : List UInt8, Op.bytesLess l l = false
  | [] => rfl
  | a :: x => by
    rw [Op.bytesLess, bl_irrefl x]
    simp
theorem bl_trans : ∀ a b c : List UInt8, Op.bytesLess a b = true → Op.bytesLess b c = true → Op.bytesLess a c = true
  | _, [], _, h, _ => by simp [Op.bytesLess] at h
  | _, _ :: _, [], _, h => by simp [Op.bytesLess] at h
  | [], _ :: _, _ :: _, _, _ => rfl
  | a :: x, b :: y, c :: z, h, k => by
    simp only [Op.bytesLess, Bool.or_eq_true, Bool.and_eq_true, decide_eq_true_eq, beq_iff_eq] at h k ⊢
    rcases h with h | ⟨rfl, h⟩
    · rcases k with k | ⟨rfl, k⟩
      · exact .inl (UInt8.lt_trans h k)
      · exact .inl h
    · rcases k with k | ⟨rfl, k⟩
      · exact .inl k
      · exact .inr ⟨rfl, bl_trans x y z h k⟩
theorem bl_tri : ∀ a b : List UInt8, Op.bytesLess a b = false → Op.bytesLess b a = false → a = b
  | [], [], _, _ => rfl
  | [], _ :: _, h, _ => by simp [Op.bytesLess] at h
  | _ :: _, [], _, h => by simp [Op.bytesLess] at h
  | a :: x, b :: y, h, k => by
    simp only [Op.bytesLess, Bool.or_eq_false_iff, Bool.and_eq_false_iff, decide_eq_false_iff_not, beq_eq_false_iff_ne] at h k
    have e : a = b := by
      have h1 := h.1
      have k1 := k.1
      exact UInt8.le_antisymm (UInt8.not_lt.1 k1) (UInt8.not_lt.1 h1)
    subst e
    have h2 := h.2.resolve_left (by simp)
    have k2 := k.2.resolve_left (by simp)
    rw [bl_tri x y h2 k2]
theorem sLt_tri {a b : ByteArray} (h : sLt a b = false) (k : sLt b a = false) : a = b := by
  have := bl_tri _ _ h k
  rw [toList_eq, toList_eq] at this
  cases a; cases b
  simp at this
  rw [this]
theorem befL_irrefl (a : La) : befL a a = false := by
  unfold befL sLt
  rw [bl_irrefl]
  simp
theorem befL_trans (a b c : La) (h : befL a b = true) (k : befL b c = true) : befL a c = true := by
  unfold befL at h k ⊢
  simp only [Bool.or_eq_true, Bool.and_eq_true, decide_eq_true_eq] at h k ⊢
  rcases h with h | ⟨h, h'⟩ <;> rcases k with k | ⟨k, k'⟩
  · exact .inl (by omega)
  · exact .inl (by omega)
  · exact .inl (by omega)
  · exact .inr ⟨by omega, bl_trans _ _ _ h' k'⟩
theorem befL_tri (a b : La) (h : befL a b = false) (k : befL b a = false) : a = b := by
  unfold befL at h k
  simp only [Bool.or_eq_false_iff, Bool.and_eq_false_iff, decide_eq_false_iff_not] at h k
  have e : a.a = b.a := by omega
  have h2 := h.2.resolve_left (by omega)
  have k2 := k.2.resolve_left (by omega)
  have en := sLt_tri h2 k2
  cases a; cases b
  simp at e en
  subst e en
  rfl
theorem befL_ntrans (a b c : La) (h : befL a b = false) (k : befL b c = false) : befL a c = false := by
  by_cases h1 : befL a c = true
  · exfalso
    by_cases h2 : befL b a = true
    · rw [befL_trans b a c h2 h1] at k
      cases k
    · have := befL_tri a b h (by simpa using h2)
      subst this
      rw [h1] at k
      cases k
  · simpa using h1
theorem ordL_lt (a b : La) : decide (ordL a b < 0) = befL a b := by
  unfold ordL befL cmpI cmpS
  by_cases h1 : a.a < b.a
  · simp [h1]
  · by_cases h2 : b.a < a.a
    · have h3 : ¬ a.a = b.a := by omega
      simp [h1, h2, h3]
    · have h3 : a.a = b.a := by omega
      rcases h4 : sLt a.n b.n with _ | _
      · simp only [h3]
        by_cases h5 : a.n = b.n <;> simp [h5]
      · simp [h3]
/-- Labels by rising addresses, those of one address by rising names. -/
def leL (a b : La) : Bool := !befL b a
theorem leL_trans (a b c : La) (h : leL a b = true) (k : leL b c = true) : leL a c = true := by
  unfold leL at h k ⊢
  simp at h k ⊢
  exact befL_ntrans c b a k h
theorem leL_total (a b : La) : (leL a b || leL b a) = true := by
  unfold leL
  rcases h : befL b a with _ | _
  · rfl
  · rcases k : befL a b with _ | _
    · rfl
    · have := befL_trans a b a k h
      rw [befL_irrefl] at this
      cases this
def toLa (x : ByteArray × Nat) : La := ⟨x.1, (x.2 : Int)⟩
def sortN (N : List (ByteArray × Nat)) : List La := (N.map toLa).mergeSort leL
theorem sort_perm {l l' : List La} (h : l.Perm l') : l.mergeSort leL = l'.mergeSort leL := by
  refine List.Perm.eq_of_pairwise (le := fun a b => leL a b = true) (fun a b _ _ h1 h2 => ?_) (List.pairwise_mergeSort leL_trans leL_total l) (List.pairwise_mergeSort leL_trans leL_total l') (((List.mergeSort_perm l leL).trans h).trans (List.mergeSort_perm l' leL).symm)
  unfold leL at h1 h2
  simp at h1 h2
  exact befL_tri a b h2 h1
end Go.Proofs.YtkpfhnogpcigaaaDoorR
