/- Objects: their blocks, marks and labels in memory, and which blocks may be. Labels: which stands ahead of which. A map from strings to functions: what it holds, by a function; looked into and written. -/
import Derived.Test.YthbdpceobnkflaaDoorJ8
import Derived.BigQuiet
import Derived.Test.YthbdpceobnkflaaDoorJ1
import Derived.Carry
import Derived.MapKept
namespace Go.Proofs.YthbdpceobnkflaaDoor
open Go Go.RowKit
set_option linter.unusedVariables false
set_option maxHeartbeats 1000000
set_option maxRecDepth 20000

theorem of_below {w x y : World} (h : Below w.heap.size w x) (k : Below x.heap.size x y) : Below w.heap.size w y := h.trans (k.mono h.size)
/-- A block as it lies in memory. -/
structure Bk where
  a : Int
  sp : Option Addr
  m : Nat
  cap : Nat
structure Mk where
  a : Int
  n : Int
  c : Bool
structure La where
  n : ByteArray
  a : Int
def k2 (b : Bk) : Array Value := #[.int .i64 b.a, .slice b.sp b.m b.cap]
def k3 (m : Mk) : Array Value := #[.int .i64 m.a, .int .i64 m.n, .bool m.c]
def kl (l : La) : Array Value := #[.string l.n, .int .i64 l.a]
def cK (b : Bk) : List Value := (k2 b).toList
def cM (m : Mk) : List Value := (k3 m).toList
def cLa (l : La) : List Value := (kl l).toList
def zK : Bk := ⟨0, none, 0, 0⟩
def zM : Mk := ⟨0, 0, false⟩
def zL : La := ⟨⟨#[]⟩, 0⟩
theorem infoK : (Tryd.prog.info? 46).map (fun i => (i.zero, i.size, i.bytes)) = some (some (.agg (k2 zK)), 2, 32) := by kernel_rfl
theorem infoM : (Tryd.prog.info? 89).map (fun i => (i.zero, i.size, i.bytes)) = some (some (.agg (k3 zM)), 3, 24) := by kernel_rfl
theorem infoLa : (Tryd.prog.info? 52).map (fun i => (i.zero, i.size, i.bytes)) = some (some (.agg (kl zL)), 2, 24) := by kernel_rfl
theorem kBk : KdL (α := Bk) 25 46 2 32 cK := by
  obtain ⟨i, hi, hz0, hz1, hz2⟩ := info_parts infoK
  exact ⟨Tryd.underlying25, ⟨i, _, hi, hz0, hz1, hz2, rfl⟩, fun x => rfl, fun x v hv => by simp [cK, k2] at hv; rcases hv with rfl | rfl <;> rfl, by decide, by decide⟩
theorem kMk : KdL (α := Mk) 26 89 3 24 cM := by
  obtain ⟨i, hi, hz0, hz1, hz2⟩ := info_parts infoM
  exact ⟨Tryd.underlying26, ⟨i, _, hi, hz0, hz1, hz2, rfl⟩, fun x => rfl, fun x v hv => by simp [cM, k3] at hv; rcases hv with rfl | rfl | rfl <;> rfl, by decide, by decide⟩
theorem kLa : KdL (α := La) 27 52 2 24 cLa := by
  obtain ⟨i, hi, hz0, hz1, hz2⟩ := info_parts infoLa
  exact ⟨Tryd.underlying27, ⟨i, _, hi, hz0, hz1, hz2, rfl⟩, fun x => rfl, fun x v hv => by simp [cLa, kl] at hv; rcases hv with rfl | rfl <;> rfl, by decide, by decide⟩
theorem rtK : Rt Tryd.prog 46 2 := ⟨⟨_, Tryd.underlying46, rfl⟩, by kernel_rfl⟩
theorem rtM : Rt Tryd.prog 89 3 := ⟨⟨_, Tryd.underlying89, rfl⟩, by kernel_rfl⟩
theorem rtLa : Rt Tryd.prog 52 2 := ⟨⟨_, Tryd.underlying52, rfl⟩, by kernel_rfl⟩
theorem rtO : Rt Tryd.prog 29 3 := ⟨⟨_, Tryd.underlying29, rfl⟩, by kernel_rfl⟩
theorem oneK (b : Bk) : (k2 b).all (·.oneCell') = true := by simp [k2, Value.oneCell']
theorem oneM (b : Mk) : (k3 b).all (·.oneCell') = true := by simp [k3, Value.oneCell']
theorem oneLa (b : La) : (kl b).all (·.oneCell') = true := by simp [kl, Value.oneCell']
/-- A block with its bytes. -/
abbrev Bb := Bk × List UInt8
/-- An object as it lies in memory. -/
structure Oo where
  bp : Option Addr
  bc : Nat
  B : List Bb
  mp : Option Addr
  mc : Nat
  M : List Mk
  lp : Option Addr
  lc : Nat
  L : List La
def oC (o : Oo) : Array Value := #[.slice o.bp o.B.length o.bc, .slice o.mp o.M.length o.mc, .slice o.lp o.L.length o.lc]
def inI (x : Int) : Prop := -9223372036854775808 ≤ x ∧ x ≤ 9223372036854775807
structure Lo (w : World) (o : Oo) : Prop where
  b : LiesL 2 cK w o.bp (o.B.map (·.1))
  m : LiesL 3 cM w o.mp o.M
  l : LiesL 2 cLa w o.lp o.L
  g : ∀ x ∈ o.B, LB8 w x.1.sp x.2 ∧ x.2.length = x.1.m
  ib : ∀ x ∈ o.B, inI x.1.a ∧ x.1.m ≤ 2147483647
  im : ∀ x ∈ o.M, inI x.a ∧ inI x.n
  il : ∀ x ∈ o.L, inI x.a ∧ x.n.size ≤ 9223372036854775807
  n : o.B.length ≤ 2147483647 ∧ o.M.length ≤ 2147483647 ∧ o.L.length ≤ 2147483647
theorem Lo.below {w y : World} {o : Oo} (h : Lo w o) (hb : Below w.heap.size w y) : Lo y o := ⟨h.b.below hb, h.m.below hb, h.l.below hb, fun x hx => ⟨(h.g x hx).1.below hb, (h.g x hx).2⟩, h.ib, h.im, h.il, h.n⟩
/-- Blocks, from an address on. -/
def blkOk : Int → List Bk → Bool
  | _, [] => true
  | p, b :: r => decide (p ≤ b.a ∧ 1 ≤ (b.m : Int) ∧ (b.m : Int) ≤ 65536 - b.a) && blkOk (b.a + b.m + 1) r
theorem behind_any (w : World) (b : Bk) (hi : 0 ≤ b.a ∧ b.a ≤ 65536) (hm : b.m ≤ 65536) : Calls Tryd.prog 26 #[.agg (k2 b)] w fun e w' => e = .returned (.int .i64 (b.a + b.m)) ∧ Below w.heap.size w w' := by
  have K1 : Hid (Fm w [(w.heap.size, k2 b, 46)] (w.alloc (.cells (k2 b) 46))) := Fm.one w _ _
  have d0 := (K1.out.bx 0 _ _ _ rfl).c 0 (.int .i64 b.a) rfl
  have d1 := (K1.out.bx 0 _ _ _ rfl).c 1 (.slice b.sp b.m b.cap) rfl
  have h0 := hi.1
  have h1 := hi.2
  have h2 : (b.m : Int) ≤ 65536 := by omega
  clear hi hm
  go_enter Tryd.func26, Tryd.ntmps26
  go_wp2
  go_ret
  exact ⟨rfl, K1.out.low⟩
theorem blocks_any (w : World) (sp : Option Addr) (cap : Nat) (l : List Bk) (hl : Hid (LiesL 2 cK w sp l)) (hi : Hid (∀ b ∈ l, inI b.a ∧ b.m ≤ 2147483647)) (hn : l.length ≤ 2147483647) :
    Calls Tryd.prog 27 #[.slice sp l.length cap] w fun e w' => e = .returned (.bool (blkOk 0 l)) ∧ Hid (Below w.heap.size w w') := by
  obtain ⟨n, hn'⟩ : ∃ n, l.length = n := ⟨_, rfl⟩
  have hnn : Hid (l.length = n) := hn'
  rw [hn'] at hn ⊢
  have ni : (n : Int) ≤ 2147483647 := by omega
  obtain ⟨R, hR⟩ : ∃ R, blkOk 0 l = R := ⟨_, rfl⟩
  have hR' : Hid (blkOk 0 l = R) := hR
  rw [hR]
  have hB := fun v b h1 h2 => behind_any v b h1 h2
  clear hn hn' hR
  go_enter Tryd.func27, Tryd.ntmps27
  go_wp2
  go_loopw [3, 8] (fun p t wz => ∃ (i : Nat) (P : Int) (y : World), y = wz ∧ p = .int .i64 P ∧ t = .int .i64 (i : Int) ∧ Hid (i ≤ n ∧ blkOk P (l.drop i) = R ∧ 0 ≤ P ∧ P ≤ 65537) ∧ Hid (Below w.heap.size w y)) (fun _ t _ => (n - intOf t).toNat)
  case atStart => exact ⟨0, 0, _, rfl, rfl, rfl, ⟨Nat.zero_le _, hR'.out, by decide, by decide⟩, Below.refl _ _⟩
  case round =>
    obtain ⟨i, P, y, rfl, rfl, rfl, J, K⟩ := hrel
    by_cases hlt : i < n
    · obtain ⟨b, hb⟩ : ∃ b, l[i]? = some b := ⟨_, List.getElem?_eq_getElem (by rw [hnn.out]; exact hlt)⟩
      obtain ⟨g, o, rfl, hc⟩ := hl.out i b hb
      have hc' : Hid (y.rangeAt g (o + i * 2) (k2 b).toList) := range_keep hc K.out
      obtain ⟨hia, hib⟩ := hi.out b (List.mem_of_getElem? hb)
      have hd : Hid (l.drop i = b :: l.drop (i + 1)) := by
        show _ = _
        obtain ⟨h, e⟩ := List.getElem?_eq_some_iff.1 hb
        rw [List.drop_eq_getElem_cons h, e]
      have hO : Hid (blkOk P (l.drop i) = (decide (P ≤ b.a ∧ 1 ≤ (b.m : Int) ∧ (b.m : Int) ≤ 65536 - b.a) && blkOk (b.a + b.m + 1) (l.drop (i + 1)))) := by show _ = _; rw [hd.out]; rfl
      have ij := fun w => idxP (P := Tryd.prog) (g := g) (off := o) (len := n) (cap := cap) Tryd.underlying25 (s := 2) (by kernel_rfl) .i64 i w hlt
      have hii : (i : Int) < n := by omega
      have hlt' : Hid (i < n) := hlt
      have p0 := J.out.2.2.1
      have p1 := J.out.2.2.2
      have mi : (b.m : Int) ≤ 2147483647 := by omega
      have a0 := hia.1
      have a1 := hia.2

      by_cases c : P ≤ b.a ∧ 1 ≤ (b.m : Int) ∧ (b.m : Int) ≤ 65536 - b.a
      · obtain ⟨c1, c2, c3⟩ := c
        have hJ : Hid (blkOk (b.a + b.m + 1) (l.drop (i + 1)) = R) := by
          have h1 := hO.out
          rw [J.out.2.1, decide_eq_true ⟨c1, c2, c3⟩, Bool.true_and] at h1
          exact h1.symm
        have q1 : ¬ b.a < P := by omega
        have q2 : ¬ (b.m : Int) < 1 := by omega
        have q3 : ¬ 65536 - b.a < (b.m : Int) := by omega
        have hBc : Hid (∀ v, Calls Tryd.prog 26 #[.agg (k2 b)] v fun e w' => e = .returned (.int .i64 (b.a + b.m)) ∧ Below v.heap.size v w') := fun v => hB v b ⟨by omega, by omega⟩ (by omega)
        clear hlt hb hc hia hib hd hO hB
        go_wp2_with (first
          | ((with_reducible refine at_loadm rtK g (o + i * 2) (k2 b) ?_ ?_ (.tmp 10) ?_ ?_ ?_ ?_); exact hc'.out; rfl; kernel_rfl; rfl; rfl)
          | ((with_reducible refine gen_world (y.alloc (.cells #[.int .i64 0, .slice none 0 0] 46)) (Fm y [(y.heap.size, k2 zK, 46)]) ?_ ?_); exact Fm.one y _ _; intro y1 K1)
          | ((with_reducible refine at_st rtK y.heap.size (k2 zK) (k2 b) ?_ ?_ ?_ ?_ (.tmp 5) (.tmp 11) ?_ ?_ ?_ ?_ ?_); exact K1.out.bx 0 _ _ _ rfl; rfl; rfl; exact oneK _; rfl; rfl; rfl; rfl; intro y2 hw2; have K2 : Hid (Fm y [(y.heap.size, k2 b, 46)] y2) := K1.out.put 0 _ _ _ _ rfl hw2.out; clear hw2; have d0 := (K2.out.bx 0 _ _ _ rfl).c 0 (.int .i64 b.a) rfl; have d1 := (K2.out.bx 0 _ _ _ rfl).c 1 (.slice b.sp b.m b.cap) rfl)
          | ((with_reducible refine at_load rtK y.heap.size (k2 b) ?_ ?_ (.tmp 5) ?_ ?_ ?_ ?_); exact K2.out.bx 0 _ _ _ rfl; rfl; rfl; rfl; rfl)
          | (go_at_call 26; refine (hBc.out y2).mono ?_; rintro e y3 ⟨rfl, H3⟩; have K3 : Hid (Below w.heap.size w y3) := of_below (of_below K.out K2.out.low) H3; clear H3 d0 d1))
        go_roundw
        case rel => exact ⟨i + 1, b.a + b.m + 1, _, rfl, by first | rfl | simp, by simp, ⟨hlt'.out, hJ.out, by omega, by omega⟩, K3⟩
        case measure => have := hlt'.out; simp [intOf]; omega
      · have fin : Hid (R = false) := by
          have h1 := hO.out
          rw [J.out.2.1, decide_eq_false c, Bool.false_and] at h1
          exact h1
        have q : (b.a < P) ∨ (¬ b.a < P ∧ (b.m : Int) < 1) ∨ (¬ b.a < P ∧ ¬ (b.m : Int) < 1 ∧ 65536 - b.a < (b.m : Int)) := by omega
        clear hlt hb hc hia hib hd hO hB c
        rcases q with q1 | ⟨q1, q2⟩ | ⟨q1, q2, q3⟩
        all_goals
          go_wp2_with (first
            | ((with_reducible refine at_loadm rtK g (o + i * 2) (k2 b) ?_ ?_ (.tmp 10) ?_ ?_ ?_ ?_); exact hc'.out; rfl; kernel_rfl; rfl; rfl)
            | ((with_reducible refine gen_world (y.alloc (.cells #[.int .i64 0, .slice none 0 0] 46)) (Fm y [(y.heap.size, k2 zK, 46)]) ?_ ?_); exact Fm.one y _ _; intro y1 K1)
            | ((with_reducible refine at_st rtK y.heap.size (k2 zK) (k2 b) ?_ ?_ ?_ ?_ (.tmp 5) (.tmp 11) ?_ ?_ ?_ ?_ ?_); exact K1.out.bx 0 _ _ _ rfl; rfl; rfl; exact oneK _; rfl; rfl; rfl; rfl; intro y2 hw2; have K2 : Hid (Fm y [(y.heap.size, k2 b, 46)] y2) := K1.out.put 0 _ _ _ _ rfl hw2.out; clear hw2; have d0 := (K2.out.bx 0 _ _ _ rfl).c 0 (.int .i64 b.a) rfl; have d1 := (K2.out.bx 0 _ _ _ rfl).c 1 (.slice b.sp b.m b.cap) rfl))
          go_ret
          rw [fin.out]
          exact ⟨rfl, of_below K.out K2.out.low⟩
    · have hie : i = n := by have := J.out.1; omega
      subst hie
      have fin : Hid (R = true) := by
        have h1 := J.out.2.1
        rw [List.drop_eq_nil_of_le (by rw [hnn.out]; exact Nat.le_refl _)] at h1
        exact h1.symm
      clear hlt
      go_wp2
      go_ret
      rw [fin.out]
      exact ⟨rfl, K⟩
end Go.Proofs.YthbdpceobnkflaaDoor

namespace Go.Proofs.YthbdpceobnkflaaDoor
open Go Go.RowKit
set_option linter.unusedVariables false
set_option maxHeartbeats 1000000
set_option maxRecDepth 20000

def sLt (a b : ByteArray) : Bool := Op.bytesLess a.toList b.toList
/-- Does a label stand ahead of another one? -/
def befL (a b : La) : Bool := decide (a.a < b.a) || (decide (a.a = b.a) && sLt a.n b.n)
def cmpI (a b : Int) : Int := if a < b then -1 else if b < a then 1 else 0
def cmpS (a b : ByteArray) : Int := if sLt a b then -1 else if a = b then 0 else 1
def ordL (a b : La) : Int := if cmpI a.a b.a ≠ 0 then cmpI a.a b.a else cmpS a.n b.n
theorem nanI (x : Int) (w : World) : Calls Tryd.prog 65 #[.int .i64 x] w fun e w' => e = .returned (.bool false) ∧ w' = w := by
  have q : (x != x) = false := by simp
  go_enter Tryd.func65, Tryd.ntmps65
  go_wp2
  try (go_quiet (fail); go_wp2)
  go_ret
  exact ⟨rfl, rfl⟩
theorem nanS (x : ByteArray) (w : World) : Calls Tryd.prog 66 #[.string x] w fun e w' => e = .returned (.bool false) ∧ w' = w := by
  have q : (x.toList != x.toList) = false := by simp
  go_enter Tryd.func66, Tryd.ntmps66
  go_wp2
  try (go_quiet (fail); go_wp2)
  go_ret
  exact ⟨rfl, rfl⟩
theorem cmpI_any (a b : Int) (w : World) : Calls Tryd.prog 56 #[.int .i64 a, .int .i64 b] w fun e w' => e = .returned (.int .i64 (cmpI a b)) ∧ w' = w := by
  have hN := fun x v => nanI x v
  by_cases h1 : a < b
  · have fin : Hid (cmpI a b = -1) := by show _ = _; unfold cmpI; rw [if_pos h1]
    go_enter Tryd.func56, Tryd.ntmps56
    go_wp2_with (go_at_call 65; refine (hN _ _).mono ?_; rintro e y ⟨rfl, rfl⟩)
    go_ret
    rw [fin.out]
    exact ⟨rfl, rfl⟩
  · by_cases h2 : b < a
    · have fin : Hid (cmpI a b = 1) := by show _ = _; unfold cmpI; rw [if_neg h1, if_pos h2]
      go_enter Tryd.func56, Tryd.ntmps56
      go_wp2_with (go_at_call 65; refine (hN _ _).mono ?_; rintro e y ⟨rfl, rfl⟩)
      go_ret
      rw [fin.out]
      exact ⟨rfl, rfl⟩
    · have fin : Hid (cmpI a b = 0) := by show _ = _; unfold cmpI; rw [if_neg h1, if_neg h2]
      go_enter Tryd.func56, Tryd.ntmps56
      go_wp2_with (go_at_call 65; refine (hN _ _).mono ?_; rintro e y ⟨rfl, rfl⟩)
      go_ret
      rw [fin.out]
      exact ⟨rfl, rfl⟩
theorem cmpS_any (a b : ByteArray) (w : World) : Calls Tryd.prog 57 #[.string a, .string b] w fun e w' => e = .returned (.int .i64 (cmpS a b)) ∧ w' = w := by
  have hN := fun x v => nanS x v
  by_cases h1 : sLt a b = true
  · have q1 : Op.bytesLess a.toList b.toList = true := h1
    have fin : Hid (cmpS a b = -1) := by show _ = _; unfold cmpS; rw [if_pos h1]
    clear h1
    go_enter Tryd.func57, Tryd.ntmps57
    go_wp2_with (go_at_call 66; refine (hN _ _).mono ?_; rintro e y ⟨rfl, rfl⟩)
    go_ret
    rw [fin.out]
    exact ⟨rfl, rfl⟩
  · have q1 : Op.bytesLess a.toList b.toList = false := by unfold sLt at h1; simpa using h1
    by_cases h2 : a = b
    · have q2 : (a.toList == b.toList) = true := str_eq h2
      have fin : Hid (cmpS a b = 0) := by show _ = _; unfold cmpS; rw [if_neg h1, if_pos h2]
      replace h2 : Hid _ := h2
      clear h1
      go_enter Tryd.func57, Tryd.ntmps57
      go_wp2_with (go_at_call 66; refine (hN _ _).mono ?_; rintro e y ⟨rfl, rfl⟩)
      go_ret
      rw [fin.out]
      exact ⟨rfl, rfl⟩
    · have q2 : (a.toList == b.toList) = false := str_ne h2
      have fin : Hid (cmpS a b = 1) := by show _ = _; unfold cmpS; rw [if_neg h1, if_neg h2]
      replace h2 : Hid _ := h2
      clear h1
      go_enter Tryd.func57, Tryd.ntmps57
      go_wp2_with (go_at_call 66; refine (hN _ _).mono ?_; rintro e y ⟨rfl, rfl⟩)
      go_ret
      rw [fin.out]
      exact ⟨rfl, rfl⟩
theorem cmpOr_any (a b : Int) (g : Nat) (w : World) (h0 : w.cell? ⟨g, 0, none⟩ = some (.int .i64 a)) (h1 : w.cell? ⟨g, 1, none⟩ = some (.int .i64 b)) : Calls Tryd.prog 55 #[.slice (some ⟨g, 0, none⟩) 2 2] w fun e w' => e = .returned (.int .i64 (if a ≠ 0 then a else b)) ∧ w' = w := by
  have i0 : ∀ w, (Instr.indexAt 143 (.slice (some ⟨g, 0, none⟩) 2 2) (.int .i64 0)).run Tryd.prog w = .ok (.pointer (some ⟨g, 0, none⟩)) w := fun w => by
    have := idxP (P := Tryd.prog) (g := g) (off := 0) (len := 2) (cap := 2) Tryd.underlying143 (s := 1) (by kernel_rfl) .i64 0 w (by omega)
    exact this
  have i1 : ∀ w, (Instr.indexAt 143 (.slice (some ⟨g, 0, none⟩) 2 2) (.int .i64 1)).run Tryd.prog w = .ok (.pointer (some ⟨g, 1, none⟩)) w := fun w => by
    have := idxP (P := Tryd.prog) (g := g) (off := 0) (len := 2) (cap := 2) Tryd.underlying143 (s := 1) (by kernel_rfl) .i64 1 w (by omega)
    exact this
  by_cases ha : a = 0
  · subst ha
    rw [if_neg (by simp)]
    by_cases hb : b = 0
    · subst hb
      go_enter Tryd.func55, Tryd.ntmps55
      go_wp2
      refine wp_loop_rounds 3 ?_
      rw [rounds_succ]; go_wp2
      rw [rounds_succ]; go_wp2
      rw [rounds_succ]; go_wp2
      go_ret
      exact ⟨rfl, rfl⟩
    · have qb : (b != 0) = true := by rw [bne_iff_ne]; exact hb
      replace hb : Hid _ := hb
      go_enter Tryd.func55, Tryd.ntmps55
      go_wp2
      refine wp_loop_rounds 2 ?_
      rw [rounds_succ]; go_wp2
      rw [rounds_succ]; go_wp2
      go_ret
      exact ⟨rfl, rfl⟩
  · have qa : (a != 0) = true := by rw [bne_iff_ne]; exact ha
    rw [if_pos ha]
    replace ha : Hid _ := ha
    go_enter Tryd.func55, Tryd.ntmps55
    go_wp2
    refine wp_loop_rounds 1 ?_
    rw [rounds_succ]; go_wp2
    go_ret
    exact ⟨rfl, rfl⟩
theorem calls_same {f : FuncId} {args : Array Value} {v : Value} {u : World} {C : World → Prop} (h : Calls Tryd.prog f args u fun e w' => e = .returned v ∧ w' = u) (hC : C u) : Calls Tryd.prog f args u fun e w' => e = .returned v ∧ C w' := h.mono fun e w' k => ⟨k.1, by rw [k.2]; exact hC⟩
theorem order_any (w : World) (a b : La) (ha : inI a.a) (hb : inI b.a) : Calls Tryd.prog 40 #[.agg (kl a), .agg (kl b)] w fun e w' => e = .returned (.int .i64 (ordL a b)) ∧ Below w.heap.size w w' := by
  have K1 : Hid (Fm w [(w.heap.size, kl a, 52), (w.heap.size + 1, kl b, 52)] ((w.alloc (.cells (kl a) 52)).alloc (.cells (kl b) 52))) := Fm.two w _ _ _ _
  have hcl : Hid (∀ y, Fm w [(w.heap.size, kl a, 52), (w.heap.size + 1, kl b, 52)] y → y.cell? ⟨w.heap.size, 0, none⟩ = some (.string a.n) ∧ y.cell? ⟨w.heap.size, 1, none⟩ = some (.int .i64 a.a) ∧ y.cell? ⟨w.heap.size + 1, 0, none⟩ = some (.string b.n) ∧ y.cell? ⟨w.heap.size + 1, 1, none⟩ = some (.int .i64 b.a)) := fun y hy => ⟨(hy.bx 0 _ _ _ rfl).c 0 (.string a.n) rfl, (hy.bx 0 _ _ _ rfl).c 1 (.int .i64 a.a) rfl, (hy.bx 1 _ _ _ rfl).c 0 (.string b.n) rfl, (hy.bx 1 _ _ _ rfl).c 1 (.int .i64 b.a) rfl⟩
  have hI := fun v => cmpI_any a.a b.a v
  have hS := fun v => cmpS_any a.n b.n v
  have hO : Hid (∀ v g, v.cell? ⟨g, 0, none⟩ = some (.int .i64 (cmpI a.a b.a)) → v.cell? ⟨g, 1, none⟩ = some (.int .i64 (cmpS a.n b.n)) → Calls Tryd.prog 55 #[.slice (some ⟨g, 0, none⟩) 2 2] v fun e w' => e = .returned (.int .i64 (ordL a b)) ∧ w' = v) := fun v g h1 h2 => cmpOr_any _ _ g v h1 h2
  replace hI : Hid _ := hI
  replace hS : Hid _ := hS
  go_enter Tryd.func40, Tryd.ntmps40
  go_wp2
  refine region_class_tail 10 (Fm w [(w.heap.size, kl a, 52), (w.heap.size + 1, kl b, 52)]) (by kernel_rfl) (by kernel_rfl) (K1.out.below (below_drew (Below.refl _ _))) ?_
  simp only [List.take_succ_cons, List.take_zero, List.drop_succ_cons, List.drop_zero]
  with_reducible refine quiet_one (.pointer (some ⟨w.heap.size, 1, none⟩)) ?_ ?_ ?_
  · kernel_rfl
  · intro u hy
    go_simp
  with_reducible refine quiet_one (.int .i64 a.a) ?_ ?_ ?_
  · kernel_rfl
  · intro u hy
    have t := (hcl.out u hy).2.1
    go_simp
  with_reducible refine quiet_one (.pointer (some ⟨w.heap.size + 1, 1, none⟩)) ?_ ?_ ?_
  · kernel_rfl
  · intro u hy
    go_simp
  with_reducible refine quiet_one (.int .i64 b.a) ?_ ?_ ?_
  · kernel_rfl
  · intro u hy
    have t := (hcl.out u hy).2.2.2
    go_simp
  with_reducible refine quiet_one (.int .i64 (cmpI a.a b.a)) ?_ ?_ ?_
  · kernel_rfl
  · intro u hy
    have d := calls_same (C := Fm w [(w.heap.size, kl a, 52), (w.heap.size + 1, kl b, 52)]) (hI.out u) hy
    go_simp
    all_goals exact d
  with_reducible refine quiet_one (.pointer (some ⟨w.heap.size, 0, none⟩)) ?_ ?_ ?_
  · kernel_rfl
  · intro u hy
    go_simp
  with_reducible refine quiet_one (.string a.n) ?_ ?_ ?_
  · kernel_rfl
  · intro u hy
    have t := (hcl.out u hy).1
    go_simp
  with_reducible refine quiet_one (.pointer (some ⟨w.heap.size + 1, 0, none⟩)) ?_ ?_ ?_
  · kernel_rfl
  · intro u hy
    go_simp
  with_reducible refine quiet_one (.string b.n) ?_ ?_ ?_
  · kernel_rfl
  · intro u hy
    have t := (hcl.out u hy).2.2.1
    go_simp
  with_reducible refine quiet_one (.int .i64 (cmpS a.n b.n)) ?_ ?_ ?_
  · kernel_rfl
  · intro u hy
    have d := calls_same (C := Fm w [(w.heap.size, kl a, 52), (w.heap.size + 1, kl b, 52)]) (hS.out u) hy
    go_simp
    all_goals exact d
  refine wpQuiet_nil ?_
  intro z0 Z0
  replace Z0 : Hid _ := Z0
  go_simp
  have F3 : Hid (Fm w [(w.heap.size, kl a, 52), (w.heap.size + 1, kl b, 52), (z0.heap.size, #[.int .i64 (cmpI a.a b.a), .int .i64 (cmpS a.n b.n)], 3)] (z0.alloc (.cells #[.int .i64 (cmpI a.a b.a), .int .i64 (cmpS a.n b.n)] 3))) := Z0.out.new _ _
  go_wp2_with (go_at_call 55; refine (hO.out _ z0.heap.size ((F3.out.bx 2 _ _ _ rfl).c 0 _ rfl) ((F3.out.bx 2 _ _ _ rfl).c 1 _ rfl)).mono ?_; rintro e y ⟨rfl, rfl⟩)
  go_ret
  exact ⟨rfl, F3.out.low⟩
end Go.Proofs.YthbdpceobnkflaaDoor

namespace Go.Proofs.YthbdpceobnkflaaDoor
open Go Go.RowKit Go.MapKept
set_option linter.unusedVariables false
set_option maxHeartbeats 1000000
set_option maxRecDepth 20000

section
variable {P : Program} {mt kt et : TypeId}
/-- A block is a map that holds what F says. -/
def MapF (w : World) (g : Nat) (F : ByteArray → Option Value) : Prop := ∃ es clock, w.heap[g]? = some (.map es clock) ∧
  (∀ (i : Nat) (e : MapEntry), es[i]? = some e → ∃ s, e.key = .string s ∧ F s = some e.val) ∧
  (∀ s v, F s = some v → ∃ (i : Nat) (e : MapEntry), es[i]? = some e ∧ e.key = .string s) ∧
  (∀ (i j : Nat) (e e' : MapEntry), es[i]? = some e → es[j]? = some e' → e.key = e'.key → i = j)
theorem MapF.new (w : World) : MapF (w.alloc (.map #[] 0)) w.heap.size (fun _ => none) :=
  ⟨#[], 0, (MapKept.heap_alloc w _).1, fun i e h => by simp at h, fun s v h => (by cases h), fun i j e e' h => by simp at h⟩
theorem MapF.keep {w y : World} {g : Nat} {F : ByteArray → Option Value} (h : MapF w g F) (hk : y.heap[g]? = w.heap[g]?) : MapF y g F := by
  obtain ⟨es, clock, hb, h1⟩ := h
  exact ⟨es, clock, hk.trans hb, h1⟩
theorem MapF.lt {w : World} {g : Nat} {F : ByteArray → Option Value} (h : MapF w g F) : g < w.heap.size := by
  obtain ⟨es, clock, hb, _⟩ := h
  exact heap_lt hb
theorem keyS (s : ByteArray) : IsKey .string (.string s) := trivial
theorem MapF.look {w : World} {g : Nat} {F : ByteArray → Option Value} (h : MapF w g F) (hm : P.underlying mt = some (.map kt et)) (hk : P.underlying kt = some .string) (s : ByteArray) (z : Value) (hz : (zeroValue et).run P w = .ok z w) :
    (Instr.lookup mt (.map (some g)) (.string s) true).run P w = .ok (.tuple #[(F s).getD z, .bool (F s).isSome]) w := by
  obtain ⟨es, clock, hb, h1, h2, h3⟩ := h
  have hks : ∀ x ∈ es.toList, IsKey .string x.key := fun x hx => by
    obtain ⟨i, hi, e⟩ := List.getElem_of_mem hx
    obtain ⟨t, et', _⟩ := h1 i x (by rw [← Array.getElem?_toList, List.getElem?_eq_getElem hi, e])
    rw [et']
    trivial
  rcases findNow_spec (d := .string) (k := .string s) trivial es.toList 0 hks with ⟨f1, f2⟩ | ⟨j, e0, f1, f2, f3⟩
  · have hF : F s = none := by
      rcases e : F s with _ | v
      · rfl
      · obtain ⟨i, e', he, hke⟩ := h2 s v e
        rw [← Array.getElem?_toList] at he
        exact absurd hke (f2 e' (List.mem_of_getElem? he))
    rw [hF]
    simp [Instr.lookup, run_underlying hm, MapKept.run_getObj_map hb, MapKept.run_checkKey hk (keyS s), MapKept.run_findKey hk f1, hz, Result.andThen]
  · rw [Array.getElem?_toList] at f2
    obtain ⟨t, ht, hF⟩ := h1 j e0 f2
    rw [f3] at ht
    injection ht with ht
    subst ht
    rw [hF]
    simp [Instr.lookup, run_underlying hm, MapKept.run_getObj_map hb, MapKept.run_checkKey hk (keyS s), MapKept.run_findKey hk f1, Result.andThen]
/-- A value at a key. -/
def putF (F : ByteArray → Option Value) (s : ByteArray) (v : Value) : ByteArray → Option Value := fun t => if t = s then some v else F t
theorem MapF.put {w : World} {g : Nat} {F : ByteArray → Option Value} (h : MapF w g F) (hm : P.underlying mt = some (.map kt et)) (hk : P.underlying kt = some .string) (s : ByteArray) (v : Value) :
    ∃ w', (Instr.mapUpdate mt (.map (some g)) (.string s) v).run P w = .ok () w' ∧ MapF w' g (putF F s v) ∧ (∀ q, q ≠ g → w'.heap[q]? = w.heap[q]?) ∧ ∀ B, B ≤ g → Below B w w' := by
  obtain ⟨es, clock, hb, h1, h2, h3⟩ := h
  have hks : ∀ x ∈ es.toList, IsKey .string x.key := fun x hx => by
    obtain ⟨i, hi, e⟩ := List.getElem_of_mem hx
    obtain ⟨t, et', _⟩ := h1 i x (by rw [← Array.getElem?_toList, List.getElem?_eq_getElem hi, e])
    rw [et']
    trivial
  have bel : ∀ (o : Obj) (B : Nat), B ≤ g → Below B w { w with heap := w.heap.setIfInBounds g o } := fun o B hB =>
    ⟨rfl, rfl, rfl, by simp, fun q hq => by simp [show g ≠ q by omega]⟩
  rcases findNow_spec (d := .string) (k := .string s) trivial es.toList 0 hks with ⟨f1, f2⟩ | ⟨j, e0, f1, f2, f3⟩
  · refine ⟨{ w with heap := w.heap.setIfInBounds g (.map (es.push { key := .string s, val := v, born := clock }) (clock + 1)) }, ?_, ⟨_, _, (heap_set hb).1, ?_, ?_, ?_⟩, (heap_set hb).2, bel _⟩
    · simp [Instr.mapUpdate, run_underlying hm, MapKept.run_getObj_map hb, MapKept.run_checkKey hk (keyS s), MapKept.run_findKey hk f1, MapKept.run_setObj_map _ hb, Result.andThen]
    · intro i e he
      rw [Array.getElem?_push] at he
      split at he
      · injection he with he
        subst he
        exact ⟨s, rfl, if_pos rfl⟩
      · obtain ⟨t, ht, hF⟩ := h1 i e he
        refine ⟨t, ht, ?_⟩
        have hne : t ≠ s := fun e' => f2 e (List.mem_of_getElem? (by rw [Array.getElem?_toList]; exact he)) (by rw [ht, e'])
        exact (if_neg hne).trans hF
    · intro t u ht
      unfold putF at ht
      split at ht
      · rename_i e
        subst e
        exact ⟨es.size, { key := .string t, val := v, born := clock }, by simp, rfl⟩
      · obtain ⟨i, e, he, hke⟩ := h2 t u ht
        refine ⟨i, e, ?_, hke⟩
        rw [Array.getElem?_push, if_neg (by have := (Array.getElem?_eq_some_iff.1 he).1; omega)]
        exact he
    · intro i i' e e' he he' hke
      rw [Array.getElem?_push] at he he'
      split at he <;> split at he'
      · omega
      · injection he with he
        subst he
        exact absurd hke.symm (f2 e' (List.mem_of_getElem? (by rw [Array.getElem?_toList]; exact he')))
      · injection he' with he'
        subst he'
        exact absurd hke (f2 e (List.mem_of_getElem? (by rw [Array.getElem?_toList]; exact he)))
      · exact h3 i i' e e' he he' hke
  · rw [Array.getElem?_toList] at f2
    have f2' : es.toList[j]? = some e0 := by rw [Array.getElem?_toList]; exact f2
    refine ⟨{ w with heap := w.heap.setIfInBounds g (.map (es.modify j fun e => { e with key := .string s, val := v }) clock) }, ?_, ⟨_, _, (heap_set hb).1, ?_, ?_, ?_⟩, (heap_set hb).2, bel _⟩
    · simp [Instr.mapUpdate, run_underlying hm, MapKept.run_getObj_map hb, MapKept.run_checkKey hk (keyS s), MapKept.run_findKey hk f1, f2, f3, MapKept.run_keyThatStays (keyS s), MapKept.run_setObj_map _ hb, Result.andThen]
    · intro i e he
      rw [Array.getElem?_modify] at he
      split at he
      · rename_i ej
        subst ej
        rw [f2] at he
        simp at he
        subst he
        exact ⟨s, rfl, if_pos rfl⟩
      · rename_i ej
        obtain ⟨t, ht, hF⟩ := h1 i e he
        refine ⟨t, ht, ?_⟩
        have hne : t ≠ s := fun e' => ej (h3 j i e0 e f2 he (by rw [f3, ht, e']))
        exact (if_neg hne).trans hF
    · intro t u ht
      unfold putF at ht
      split at ht
      · rename_i e
        subst e
        exact ⟨j, _, by rw [Array.getElem?_modify, if_pos rfl, f2]; rfl, rfl⟩
      · rename_i hne
        obtain ⟨i, e, he, hke⟩ := h2 t u ht
        have hij : j ≠ i := fun e' => by
          subst e'
          rw [f2] at he
          injection he with he
          subst he
          rw [f3] at hke
          injection hke with hke
          exact hne hke.symm
        exact ⟨i, e, by rw [Array.getElem?_modify, if_neg hij]; exact he, hke⟩
    · intro i i' e e' he he' hke
      rw [Array.getElem?_modify] at he he'
      have back : ∀ (i : Nat) (e : MapEntry), (if j = i then Option.map (fun e : MapEntry => { e with key := .string s, val := v }) es[i]? else es[i]?) = some e → ∃ x, es[i]? = some x ∧ x.key = e.key := by
        intro i e he
        split at he
        · rename_i ej
          subst ej
          rw [f2] at he
          simp at he
          subst he
          exact ⟨e0, f2, f3⟩
        · exact ⟨e, he, rfl⟩
      obtain ⟨x, hx, ex⟩ := back i e he
      obtain ⟨x', hx', ex'⟩ := back i' e' he'
      exact h3 i i' x x' hx hx' (by rw [ex, ex', hke])
/-- A write into a map, at the operation. -/
theorem at_put {ops : Array Oper} {rest : List Oper} {o : Oper} {a : Act} {w : World} {Q : Exit → Act → World → Prop} (hg : o.guard = none) (m x v : Operand) (ho : o.op = .mapUpdate mt m x v ∨ o.op = .insert mt m x v) (hm : P.underlying mt = some (.map kt et)) (hk : P.underlying kt = some .string)
    (g : Nat) (F : ByteArray → Option Value) (s : ByteArray) (u : Value) (hF : MapF w g F) (em : a.eval m = .map (some g)) (ex : a.eval x = .string s) (ev : a.eval v = u)
    (k : ∀ w', Hid (MapF w' g (putF F s u) ∧ (∀ q, q ≠ g → w'.heap[q]? = w.heap[q]?) ∧ ∀ B, B ≤ g → Below B w w') → wpList P ops Q rest (a.put o.dst undef) w') : wpList P ops Q (o :: rest) a w := by
  refine wpList_plain hg fun K' hK' => ?_
  obtain ⟨w', hrun, r1⟩ := hF.put hm hk s u
  unfold Oper.wp
  rcases ho with ho | ho
  · simp [execOp, ho, em, ex, ev, hrun, Result.andThen]
    exact hK' _ _ (k w' r1)
  · simp [execOp, ho, em, ex, ev, hrun, Result.andThen]
    exact hK' _ _ (k w' r1)
end
end Go.Proofs.YthbdpceobnkflaaDoor
