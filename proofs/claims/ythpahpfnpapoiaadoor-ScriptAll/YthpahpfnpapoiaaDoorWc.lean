/- What the statement looks at, cycle by cycle. -/
import Derived.Test.YthpahpfnpapoiaaDoorWb
namespace Go.Proofs.YthpahpfnpapoiaaDoor
open Go Go.RowKit Go.Shelf
set_option linter.unusedVariables false
set_option maxHeartbeats 1000000
set_option maxRecDepth 100000

/-- Boxes, and what changed since. -/
structure Sk (B : Nat) (M : Nat → Prop) (W y0 : World) (bs : List (Nat × Array Value × TypeId)) (y : World) : Prop where
  fm : Fm W bs y
  cu : Cu B (fun g _ => M g) y0 y
theorem Cu.one {B : Nat} {M : Nat → Prop} {y0 y y' : World} (h : Cu B (fun g _ => M g) y0 y) (b : Nat) (hb : M b ∨ y0.heap.size ≤ b) (k : (∀ A, A ≤ b → Below A y y') ∧ ∀ q, q ≠ b → y'.heap[q]? = y.heap[q]?) (hB : B ≤ b) : Cu B (fun g _ => M g) y0 y' := by
  have key : ∀ g, g < y0.heap.size → ¬ M g → y'.heap[g]? = y0.heap[g]? := fun g hg hM => by
    have hne : g ≠ b := fun e => by
      subst e
      rcases hb with h1 | h1
      · exact hM h1
      · omega
    exact (k.2 g hne).trans (h.blk g hg (fun _ => hM))
  exact ⟨h.low.trans (k.1 B hB), fun g j hg hM => World.cell?_of_block (w := y0) (a := ⟨g, j, none⟩) (key g hg hM), fun g hg hM => key g hg (hM 0)⟩
theorem Sk.below {B : Nat} {M : Nat → Prop} {W y0 y z : World} {bs : List (Nat × Array Value × TypeId)} (h : Sk B M W y0 bs y) (hB : B ≤ y.heap.size) (hb : Below y.heap.size y z) : Sk B M W y0 bs z := ⟨h.fm.below hb, h.cu.trans (Cu.of_below hb hB)⟩
theorem Sk.new {B : Nat} {M : Nat → Prop} {W y0 y : World} {bs : List (Nat × Array Value × TypeId)} (h : Sk B M W y0 bs y) (hB : B ≤ y.heap.size) (cs : Array Value) (t : TypeId) : Sk B M W y0 (bs ++ [(y.heap.size, cs, t)]) (y.alloc (.cells cs t)) := ⟨h.fm.new cs t, h.cu.trans (Cu.of_below (below1 y _) hB)⟩
theorem Sk.put {B : Nat} {M : Nat → Prop} {W y0 y y' : World} {bs : List (Nat × Array Value × TypeId)} (h : Sk B M W y0 bs y) (i b : Nat) (cs cs' : Array Value) (t : TypeId) (hi : bs[i]? = some (b, cs, t)) (hB : B ≤ b) (hM : M b ∨ y0.heap.size ≤ b) (k : y'.heap[b]? = some (.cells cs' t (0, 0)) ∧ (∀ A, A ≤ b → Below A y y') ∧ ∀ q, q ≠ b → y'.heap[q]? = y.heap[q]?) : Sk B M W y0 (bs.set i (b, cs', t)) y' := ⟨h.fm.put i b cs cs' t hi k, h.cu.one b hM k.2 hB⟩
theorem Sk.setCell {B : Nat} {M : Nat → Prop} {W y0 y : World} {bs : List (Nat × Array Value × TypeId)} (h : Sk B M W y0 bs y) (i b : Nat) (cs cs' : Array Value) (t : TypeId) (hi : bs[i]? = some (b, cs, t)) (hB : B ≤ b) (hM : M b ∨ y0.heap.size ≤ b) (j : Nat) (v : Value) (hv : cs.setIfInBounds j v = cs') : Sk B M W y0 (bs.set i (b, cs', t)) (y.setCell ⟨b, j, none⟩ v) := by
  refine h.put i b cs cs' t hi hB hM ⟨?_, fun A hA => (Below.refl A y).setCell (p := ⟨b, j, none⟩) hA v, fun q hq => heap_setCell_other y ⟨b, j, none⟩ q v hq⟩
  have := heap_setCell_same y b j cs t v (h.fm.get i b cs t hi)
  rw [hv] at this
  exact this
theorem Sk.pre {B : Nat} {M : Nat → Prop} {W y0 y : World} {bs bs' : List (Nat × Array Value × TypeId)} (h : Sk B M W y0 (bs ++ bs') y) : Sk B M W y0 bs y := ⟨h.fm.pre, h.cu⟩
/-- Where in a script a cycle is: so many spans behind, so many cycles of the next. -/
def Ps (l : List Sn) (t u i : Nat) : Prop := t ≤ l.length ∧ (expand (l.take t)).length + u = i ∧ (∀ s, l[t]? = some s → u ≤ s.c.toNat) ∧ (t = l.length → u = 0)
theorem Ps.zero (l : List Sn) : Ps l 0 0 0 := ⟨Nat.zero_le _, rfl, fun s _ => Nat.zero_le _, fun _ => rfl⟩
theorem Ps.lt {l : List Sn} {t u i : Nat} (h : Ps l t u i) (hi : i < (expand l).length) : t < l.length := by
  rcases Nat.lt_or_ge t l.length with h1 | h1
  · exact h1
  · exfalso
    have e : t = l.length := Nat.le_antisymm h.1 h1
    have h2 := h.2.1
    rw [List.take_of_length_le (by omega), h.2.2.2 e] at h2
    omega
theorem Ps.next {l : List Sn} {t u i : Nat} {s : Sn} (h : Ps l t u i) (hs : l[t]? = some s) (hu : s.c.toNat ≤ u) : Ps l (t + 1) 0 i := by
  have h1 := (List.getElem?_eq_some_iff.1 hs).1
  have h2 := h.2.2.1 s hs
  have h3 := h.2.1
  refine ⟨h1, ?_, fun _ _ => Nat.zero_le _, fun _ => rfl⟩
  rw [exp_next l t s hs]
  omega
theorem Ps.step {l : List Sn} {t u i : Nat} {s : Sn} (h : Ps l t u i) (hs : l[t]? = some s) (hu : u < s.c.toNat) : Ps l t (u + 1) (i + 1) := by
  have h1 := (List.getElem?_eq_some_iff.1 hs).1
  refine ⟨h.1, by have := h.2.1; omega, fun s' hs' => ?_, fun e => by omega⟩
  rw [hs] at hs'
  cases hs'
  omega
theorem Ps.at {l : List Sn} {t u i : Nat} {s : Sn} (h : Ps l t u i) (hs : l[t]? = some s) (hu : u < s.c.toNat) : (expand l)[i]? = some s.a := by
  rw [← h.2.1]
  exact exp_at l t s hs u hu

def tOf (b : Nat) (w : World) : Nat := match w.cell? ⟨b, 0, none⟩ with | some (.int _ v) => v.toNat | _ => 0
theorem tOf_bx {w : World} {b t : Nat} {k : IntKind} {ty : TypeId} (h : Bx w b #[.int k (t : Int)] ty) : tOf b w = t := by
  unfold tOf
  rw [h.c 0 _ rfl]
  simp

theorem seen1_any (B : Nat) (W y0 : World) (hBW : B ≤ W.heap.size) (sp : Option Addr) (cap n : Nat) (l : List Sn) (hl : Hid (LiesS W sp l)) (hn : Hid (l.length = n)) (hc : Hid (checkS l = 0)) (up : Int) (i : Nat) (a : At) (hi : Hid ((expand l)[i]? = some a)) (t0 u0 : Nat) (hP : Hid (Ps l t0 u0 i)) (hF : Hid (Fm W [(W.heap.size, #[.slice sp n cap], 23), (W.heap.size + 1, #[.int .i64 up], 3), (W.heap.size + 2, #[.int .i64 (i)], 3), (W.heap.size + 3, #[.int .i64 (t0)], 3), (W.heap.size + 4, #[.int .i64 (u0)], 3), (W.heap.size + 5, #[.bool true], 4)] y0)) :
    Calls Tryd.prog 33 #[.int .i64 (i : Int), .agg (spC ⟨1, a⟩), .pointer (some ⟨W.heap.size + 3, 0, none⟩), .pointer (some ⟨W.heap.size, 0, none⟩), .pointer (some ⟨W.heap.size + 4, 0, none⟩), .pointer (some ⟨W.heap.size + 2, 0, none⟩), .pointer (some ⟨W.heap.size + 5, 0, none⟩), .pointer (some ⟨W.heap.size + 1, 0, none⟩)] y0 fun e y => e = .returned (.bool (decide ((i : Int) + 1 < up))) ∧ Hid (∃ t u : Nat, Ps l t u (i + 1) ∧ Sk B (fun q => W.heap.size + 2 ≤ q ∧ q ≤ W.heap.size + 5) W y0 [(W.heap.size, #[.slice sp n cap], 23), (W.heap.size + 1, #[.int .i64 up], 3), (W.heap.size + 2, #[.int .i64 ((i : Int) + 1)], 3), (W.heap.size + 3, #[.int .i64 (t)], 3), (W.heap.size + 4, #[.int .i64 (u)], 3), (W.heap.size + 5, #[.bool true], 4)] y) := by
  obtain ⟨c1, c2, c3⟩ := check_ok hc.out
  have hiL : Hid (i < (expand l).length) := (List.getElem?_eq_some_iff.1 hi.out).1
  have htot : ((expand l).length : Int) ≤ 4194304 := by have := exp_len l c2.pos; omega
  have ib : (i : Int) ≤ 4194304 := by have := hiL.out; omega
  have hIn : Hid (InM 1048576 l) := c2
  have hn4 : Hid (n ≤ 4096) := by have := hn.out; show n ≤ 4096; omega
  have ni4 : (n : Int) ≤ 4096 := by have := hn4.out; omega
  have zz := zeroVS
  obtain ⟨Z, hZ⟩ : ∃ Z, (⟨0, ⟨0, false, false, false, false, false, false, false, 0⟩⟩ : Sn) = Z := ⟨_, rfl⟩
  rw [hZ] at zz
  obtain ⟨S1, hS1⟩ : ∃ S : Sn, (⟨1, a⟩ : Sn) = S := ⟨_, rfl⟩
  rw [hS1]
  have hS1 : Hid ((⟨1, a⟩ : Sn) = S1) := hS1
  have hy0 : Hid (B ≤ y0.heap.size) := Nat.le_trans hBW hF.out.low.size
  obtain ⟨MM, hMM⟩ : ∃ M : Nat → Prop, (fun q => W.heap.size + 2 ≤ q ∧ q ≤ W.heap.size + 5) = M := ⟨_, rfl⟩
  rw [hMM]
  have m2 : Hid (MM (W.heap.size + 2)) := by rw [← hMM]; exact ⟨Nat.le_refl _, by omega⟩
  have m3 : Hid (MM (W.heap.size + 3)) := by rw [← hMM]; exact ⟨by omega, by omega⟩
  have m4 : Hid (MM (W.heap.size + 4)) := by rw [← hMM]; exact ⟨by omega, by omega⟩
  have m5 : Hid (MM (W.heap.size + 5)) := by rw [← hMM]; exact ⟨by omega, Nat.le_refl _⟩
  have K0 : Hid (Sk B MM W y0 [(W.heap.size, #[.slice sp n cap], 23), (W.heap.size + 1, #[.int .i64 up], 3), (W.heap.size + 2, #[.int .i64 (i)], 3), (W.heap.size + 3, #[.int .i64 (t0)], 3), (W.heap.size + 4, #[.int .i64 (u0)], 3), (W.heap.size + 5, #[.bool true], 4)] y0) := ⟨hF.out, Cu.refl _ _ _⟩
  have g2 : Hid (B ≤ W.heap.size + 2) := by show _ ≤ _; omega
  have g3 : Hid (B ≤ W.heap.size + 3) := by show _ ≤ _; omega
  have g4 : Hid (B ≤ W.heap.size + 4) := by show _ ≤ _; omega
  have g5 : Hid (B ≤ W.heap.size + 5) := by show _ ≤ _; omega
  obtain ⟨b9, hb9⟩ : ∃ b, y0.heap.size = b := ⟨_, rfl⟩
  clear c1 c2 c3 hZ hMM
  go_enter Tryd.func33, Tryd.ntmps33
  go_wp2
  have K1 : Hid (Sk B MM W y0 [(W.heap.size, #[.slice sp n cap], 23), (W.heap.size + 1, #[.int .i64 up], 3), (W.heap.size + 2, #[.int .i64 (i)], 3), (W.heap.size + 3, #[.int .i64 (t0)], 3), (W.heap.size + 4, #[.int .i64 (u0)], 3), (W.heap.size + 5, #[.bool true], 4), (b9, spC S1, 34)] (y0.alloc (.cells (spC S1) 34))) := by
    have := K0.out.new hy0.out (spC S1) 34
    rw [hb9] at this
    exact this
  generalize y0.alloc (.cells (spC S1) 34) = y1 at K1 ⊢
  go_loopw [] (fun wz => ∃ (t u : Nat) (y : World), y = wz ∧ Hid (Ps l t u i) ∧ Hid (Sk B MM W y0 [(W.heap.size, #[.slice sp n cap], 23), (W.heap.size + 1, #[.int .i64 up], 3), (W.heap.size + 2, #[.int .i64 (i)], 3), (W.heap.size + 3, #[.int .i64 (t)], 3), (W.heap.size + 4, #[.int .i64 (u)], 3), (W.heap.size + 5, #[.bool true], 4), (b9, spC S1, 34)] y)) (fun wz => n - tOf (W.heap.size + 3) wz)
  case atStart => exact ⟨t0, u0, y1, rfl, hP, K1⟩
  case round =>
    obtain ⟨t, u, y, rfl, P, K⟩ := hrel
    clear K1 K0 hP hF
    have htl : t < n := by rw [← hn.out]; exact P.out.lt hiL.out
    obtain ⟨s, hs, hdrop⟩ := at_list hn.out htl
    obtain ⟨gb, ob, hspe, hR0⟩ := hl.out t s hs
    subst hspe
    obtain ⟨c, sa⟩ := s
    have hR : Hid (∀ x, Below W.heap.size W x → x.rangeAt gb (ob + t * 10) (spC ⟨c, sa⟩).toList) := fun x hx => range_keep hR0 hx
    have hRc : Hid (∀ x, Below W.heap.size W x → x.cell? ⟨gb, ob + t * 10, none⟩ = some (.int .i64 c)) := fun x hx => rangeC (hR.out x hx) 0 _ rfl
    have ij := fun v => idxP (g := gb) (off := ob) (len := n) (cap := cap) Tryd.underlying23 (s := 10) (by kernel_rfl) .i64 t v htl
    have hd := drop_in hIn.out t
    rw [hdrop] at hd
    have c1 : 1 ≤ c := hd.1.1
    have c2 : c ≤ 1048576 := hd.1.2
    have hti : (t : Int) < n := by omega
    have huc : u ≤ c.toNat := P.out.2.2.1 _ hs
    have ub : (u : Int) ≤ 1048576 := by omega
    have hs : Hid (l[t]? = some ⟨c, sa⟩) := hs
    have htl : Hid (t < n) := htl
    clear hd hdrop hR0
    by_cases hu : c ≤ (u : Int)
    · have hu' : Hid (c.toNat ≤ u) := by show _ ≤ _; omega
      clear huc
      go_wp2
      refine region_class_tail 12 (Sk B MM W y0 [(W.heap.size, #[.slice (some ⟨gb, ob, none⟩) n cap], 23), (W.heap.size + 1, #[.int .i64 up], 3), (W.heap.size + 2, #[.int .i64 (i)], 3), (W.heap.size + 3, #[.int .i64 (t)], 3), (W.heap.size + 4, #[.int .i64 (u)], 3), (W.heap.size + 5, #[.bool true], 4), (b9, spC S1, 34)]) (by kernel_rfl) (by kernel_rfl) (K.out.below (Nat.le_trans hBW K.out.fm.low.size) (below_drew (Below.refl _ _))) ?_
      simp only [List.take_succ_cons, List.take_zero, List.drop_succ_cons, List.drop_zero]
      with_reducible refine quiet_one (.int .i64 (t : Int)) ?_ ?_ ?_
      · kernel_rfl
      · intro q hq
        have d := (hq.fm.bx 3 _ _ _ rfl).c 0 _ rfl
        go_simp
      with_reducible refine quiet_one (.slice (some ⟨gb, ob, none⟩) n cap) ?_ ?_ ?_
      · kernel_rfl
      · intro q hq
        have d := (hq.fm.bx 0 _ _ _ rfl).c 0 _ rfl
        go_simp
      with_reducible refine quiet_one (.int .i64 (n : Int)) ?_ ?_ ?_
      · kernel_rfl
      · intro q hq
        go_simp
      with_reducible refine quiet_one (.bool true) ?_ ?_ ?_
      · kernel_rfl
      · intro q hq
        go_simp
      with_reducible refine quiet_one (.bool true) ?_ ?_ ?_
      · kernel_rfl
      · intro q hq
        go_simp
      with_reducible refine quiet_one (.int .i64 (u : Int)) ?_ ?_ ?_
      · kernel_rfl
      · intro q hq
        have d := (hq.fm.bx 4 _ _ _ rfl).c 0 _ rfl
        go_simp
      with_reducible refine quiet_one (.slice (some ⟨gb, ob, none⟩) n cap) ?_ ?_ ?_
      · kernel_rfl
      · intro q hq
        have d := (hq.fm.bx 0 _ _ _ rfl).c 0 _ rfl
        go_simp
      with_reducible refine quiet_one (.int .i64 (t : Int)) ?_ ?_ ?_
      · kernel_rfl
      · intro q hq
        have d := (hq.fm.bx 3 _ _ _ rfl).c 0 _ rfl
        go_simp
      with_reducible refine quiet_one (.pointer (some ⟨gb, ob + t * 10, none⟩)) ?_ ?_ ?_
      · kernel_rfl
      · intro q hq
        go_simp
      with_reducible refine quiet_one (.pointer (some ⟨gb, ob + t * 10, none⟩)) ?_ ?_ ?_
      · kernel_rfl
      · intro q hq
        go_simp
      with_reducible refine quiet_one (.int .i64 c) ?_ ?_ ?_
      · kernel_rfl
      · intro q hq
        have d := hRc.out q hq.fm.low
        go_simp
      with_reducible refine quiet_one (.bool true) ?_ ?_ ?_
      · kernel_rfl
      · intro q hq
        go_simp
      intro y2 hy2
      have K2 : Hid (Sk B MM W y0 [(W.heap.size, #[.slice (some ⟨gb, ob, none⟩) n cap], 23), (W.heap.size + 1, #[.int .i64 up], 3), (W.heap.size + 2, #[.int .i64 (i)], 3), (W.heap.size + 3, #[.int .i64 (t)], 3), (W.heap.size + 4, #[.int .i64 (u)], 3), (W.heap.size + 5, #[.bool true], 4), (b9, spC S1, 34)] y2) := hy2
      have d3 := (K2.out.fm.bx 3 _ _ _ rfl).c 0 _ rfl
      have z3 := (K2.out.fm.bx 3 _ _ _ rfl).fz 0
      clear hy2
      go_wp2_with (first
        | ((with_reducible refine gen_world (y2.setCell ⟨W.heap.size + 3, 0, none⟩ (.int .i64 ((t : Int) + 1))) (Sk B MM W y0 [(W.heap.size, #[.slice (some ⟨gb, ob, none⟩) n cap], 23), (W.heap.size + 1, #[.int .i64 up], 3), (W.heap.size + 2, #[.int .i64 (i)], 3), (W.heap.size + 3, #[.int .i64 ((t : Int) + 1)], 3), (W.heap.size + 4, #[.int .i64 (u)], 3), (W.heap.size + 5, #[.bool true], 4), (b9, spC S1, 34)]) ?_ ?_); exact K2.out.setCell 3 _ _ _ _ rfl g3.out (.inl m3.out) 0 _ rfl; intro y3 K3; have d4 := (K3.out.fm.bx 4 _ _ _ rfl).c 0 _ rfl; have z4 := (K3.out.fm.bx 4 _ _ _ rfl).fz 0))
      have K4 : Hid (Sk B MM W y0 [(W.heap.size, #[.slice (some ⟨gb, ob, none⟩) n cap], 23), (W.heap.size + 1, #[.int .i64 up], 3), (W.heap.size + 2, #[.int .i64 (i)], 3), (W.heap.size + 3, #[.int .i64 (((t + 1 : Nat) : Int))], 3), (W.heap.size + 4, #[.int .i64 (((0 : Nat) : Int))], 3), (W.heap.size + 5, #[.bool true], 4), (b9, spC S1, 34)] (y3.setCell ⟨W.heap.size + 4, 0, none⟩ (.int .i64 0))) := K3.out.setCell 4 _ _ #[.int .i64 0] _ rfl g4.out (.inl m4.out) 0 (.int .i64 0) rfl
      refine ⟨⟨t + 1, 0, _, rfl, P.out.next hs.out hu'.out, K4⟩, ?_⟩
      rw [tOf_bx (K4.out.fm.bx 3 _ _ _ rfl), tOf_bx (K.out.fm.bx 3 _ _ _ rfl)]
      have := htl.out
      omega
    · have hu' : Hid (u < c.toNat) := by show _ < _; omega
      have ea : sa = a := by
        have h1 := P.out.at hs.out hu'.out
        rw [hi.out] at h1
        exact (Option.some.inj h1).symm
      subst ea
      go_wp2
      refine region_class_tail 12 (Sk B MM W y0 [(W.heap.size, #[.slice (some ⟨gb, ob, none⟩) n cap], 23), (W.heap.size + 1, #[.int .i64 up], 3), (W.heap.size + 2, #[.int .i64 (i)], 3), (W.heap.size + 3, #[.int .i64 (t)], 3), (W.heap.size + 4, #[.int .i64 (u)], 3), (W.heap.size + 5, #[.bool true], 4), (b9, spC S1, 34)]) (by kernel_rfl) (by kernel_rfl) (K.out.below (Nat.le_trans hBW K.out.fm.low.size) (below_drew (Below.refl _ _))) ?_
      simp only [List.take_succ_cons, List.take_zero, List.drop_succ_cons, List.drop_zero]
      with_reducible refine quiet_one (.int .i64 (t : Int)) ?_ ?_ ?_
      · kernel_rfl
      · intro q hq
        have d := (hq.fm.bx 3 _ _ _ rfl).c 0 _ rfl
        go_simp
      with_reducible refine quiet_one (.slice (some ⟨gb, ob, none⟩) n cap) ?_ ?_ ?_
      · kernel_rfl
      · intro q hq
        have d := (hq.fm.bx 0 _ _ _ rfl).c 0 _ rfl
        go_simp
      with_reducible refine quiet_one (.int .i64 (n : Int)) ?_ ?_ ?_
      · kernel_rfl
      · intro q hq
        go_simp
      with_reducible refine quiet_one (.bool true) ?_ ?_ ?_
      · kernel_rfl
      · intro q hq
        go_simp
      with_reducible refine quiet_one (.bool true) ?_ ?_ ?_
      · kernel_rfl
      · intro q hq
        go_simp
      with_reducible refine quiet_one (.int .i64 (u : Int)) ?_ ?_ ?_
      · kernel_rfl
      · intro q hq
        have d := (hq.fm.bx 4 _ _ _ rfl).c 0 _ rfl
        go_simp
      with_reducible refine quiet_one (.slice (some ⟨gb, ob, none⟩) n cap) ?_ ?_ ?_
      · kernel_rfl
      · intro q hq
        have d := (hq.fm.bx 0 _ _ _ rfl).c 0 _ rfl
        go_simp
      with_reducible refine quiet_one (.int .i64 (t : Int)) ?_ ?_ ?_
      · kernel_rfl
      · intro q hq
        have d := (hq.fm.bx 3 _ _ _ rfl).c 0 _ rfl
        go_simp
      with_reducible refine quiet_one (.pointer (some ⟨gb, ob + t * 10, none⟩)) ?_ ?_ ?_
      · kernel_rfl
      · intro q hq
        go_simp
      with_reducible refine quiet_one (.pointer (some ⟨gb, ob + t * 10, none⟩)) ?_ ?_ ?_
      · kernel_rfl
      · intro q hq
        go_simp
      with_reducible refine quiet_one (.int .i64 c) ?_ ?_ ?_
      · kernel_rfl
      · intro q hq
        have d := hRc.out q hq.fm.low
        go_simp
      with_reducible refine quiet_one (.bool false) ?_ ?_ ?_
      · kernel_rfl
      · intro q hq
        go_simp
      intro y2 hy2
      have K2 : Hid (Sk B MM W y0 [(W.heap.size, #[.slice (some ⟨gb, ob, none⟩) n cap], 23), (W.heap.size + 1, #[.int .i64 up], 3), (W.heap.size + 2, #[.int .i64 (i)], 3), (W.heap.size + 3, #[.int .i64 (t)], 3), (W.heap.size + 4, #[.int .i64 (u)], 3), (W.heap.size + 5, #[.bool true], 4), (b9, spC S1, 34)] y2) := hy2
      obtain ⟨b11, hb11⟩ : ∃ b, y2.heap.size = b := ⟨_, rfl⟩
      have hB11 : Hid (B ≤ b11) := by rw [← hb11]; exact Nat.le_trans hBW K2.out.fm.low.size
      have hY11 : Hid (MM b11 ∨ y0.heap.size ≤ b11) := by rw [← hb11]; exact .inr K2.out.cu.low.size
      have KN : Hid (Sk B MM W y0 [(W.heap.size, #[.slice (some ⟨gb, ob, none⟩) n cap], 23), (W.heap.size + 1, #[.int .i64 up], 3), (W.heap.size + 2, #[.int .i64 (i)], 3), (W.heap.size + 3, #[.int .i64 (t)], 3), (W.heap.size + 4, #[.int .i64 (u)], 3), (W.heap.size + 5, #[.bool true], 4), (b9, spC S1, 34), (b11, spC Z, 34)] (y2.alloc (.cells (spC Z) 34))) := by
        have := K2.out.new (hb11 ▸ hB11.out) (spC Z) 34
        rw [hb11] at this
        exact this
      have rr : Hid (y2.rangeAt gb (ob + t * 10) (spC ⟨c, sa⟩).toList) := hR.out y2 K2.out.fm.low
      have e1 : Hid ((spC ⟨c, sa⟩).setIfInBounds 0 (.int .i64 1) = spC S1) := by rw [← hS1.out]; rfl
      have eS : Eqs Tryd.prog 34 (spC S1) (spC S1) true := by
        have h := eqS S1 S1
        rw [(snB_iff S1 S1).2 rfl] at h
        exact h
      have d3 := (K2.out.fm.bx 3 _ _ _ rfl).c 0 _ rfl
      have d0 := (K2.out.fm.bx 0 _ _ _ rfl).c 0 _ rfl
      have d2 := (K2.out.fm.bx 2 _ _ _ rfl).c 0 _ rfl
      clear hy2
      go_wp2_with (first
        | ((with_reducible refine at_loadm rtS gb (ob + t * 10) (spC ⟨c, sa⟩) ?_ ?_ (.tmp 38) ?_ ?_ ?_ ?_); exact rr.out; rfl; kernel_rfl; rfl; rfl)
        | ((with_reducible refine gen_world (y2.alloc (.cells (spC Z) 34)) (Sk B MM W y0 [(W.heap.size, #[.slice (some ⟨gb, ob, none⟩) n cap], 23), (W.heap.size + 1, #[.int .i64 up], 3), (W.heap.size + 2, #[.int .i64 (i)], 3), (W.heap.size + 3, #[.int .i64 (t)], 3), (W.heap.size + 4, #[.int .i64 (u)], 3), (W.heap.size + 5, #[.bool true], 4), (b9, spC S1, 34), (b11, spC Z, 34)]) ?_ ?_); exact KN.out; intro y3 K3)
        | ((with_reducible refine at_st rtS b11 (spC Z) (spC ⟨c, sa⟩) ?_ ?_ ?_ ?_ (.tmp 11) (.tmp 39) ?_ ?_ ?_ ?_ ?_); exact K3.out.fm.bx 7 _ _ _ rfl; rfl; rfl; exact spC_one _; rfl; rfl; rfl; rfl; intro y4 hw4; have K4 : Hid (Sk B MM W y0 [(W.heap.size, #[.slice (some ⟨gb, ob, none⟩) n cap], 23), (W.heap.size + 1, #[.int .i64 up], 3), (W.heap.size + 2, #[.int .i64 (i)], 3), (W.heap.size + 3, #[.int .i64 (t)], 3), (W.heap.size + 4, #[.int .i64 (u)], 3), (W.heap.size + 5, #[.bool true], 4), (b9, spC S1, 34), (b11, spC ⟨c, sa⟩, 34)] y4) := K3.out.put 7 _ _ _ _ rfl hB11.out hY11.out hw4.out; have d11 := (K4.out.fm.bx 7 _ _ _ rfl).c 0 _ rfl; have z11 := (K4.out.fm.bx 7 _ _ _ rfl).fz 0)
        | ((with_reducible refine gen_world (y4.setCell ⟨b11, 0, none⟩ (.int .i64 1)) (Sk B MM W y0 [(W.heap.size, #[.slice (some ⟨gb, ob, none⟩) n cap], 23), (W.heap.size + 1, #[.int .i64 up], 3), (W.heap.size + 2, #[.int .i64 (i)], 3), (W.heap.size + 3, #[.int .i64 (t)], 3), (W.heap.size + 4, #[.int .i64 (u)], 3), (W.heap.size + 5, #[.bool true], 4), (b9, spC S1, 34), (b11, spC S1, 34)]) ?_ ?_); exact K4.out.setCell 7 _ _ _ _ rfl hB11.out hY11.out 0 _ e1.out; intro y5 K5; have d5 := (K5.out.fm.bx 5 _ _ _ rfl).c 0 _ rfl; have z5 := (K5.out.fm.bx 5 _ _ _ rfl).fz 0)
        | ((with_reducible refine at_load rtS b9 (spC S1) ?_ ?_ (.tmp 9) ?_ ?_ ?_ ?_); exact K5.out.fm.bx 6 _ _ _ rfl; rfl; kernel_rfl; rfl; rfl)
        | ((with_reducible refine at_load rtS b11 (spC S1) ?_ ?_ (.tmp 11) ?_ ?_ ?_ ?_); exact K5.out.fm.bx 7 _ _ _ rfl; rfl; kernel_rfl; rfl; rfl)
        | ((with_reducible refine at_eq eS (.tmp 43) (.tmp 44) 34 ?_ ?_ ?_ ?_ ?_); kernel_rfl; rfl; rfl; rfl)
        | ((with_reducible refine gen_world (y5.setCell ⟨W.heap.size + 5, 0, none⟩ (.bool true)) (Sk B MM W y0 [(W.heap.size, #[.slice (some ⟨gb, ob, none⟩) n cap], 23), (W.heap.size + 1, #[.int .i64 up], 3), (W.heap.size + 2, #[.int .i64 (i)], 3), (W.heap.size + 3, #[.int .i64 (t)], 3), (W.heap.size + 4, #[.int .i64 (u)], 3), (W.heap.size + 5, #[.bool true], 4), (b9, spC S1, 34), (b11, spC S1, 34)]) ?_ ?_); exact K5.out.setCell 5 _ _ _ _ rfl g5.out (.inl m5.out) 0 _ rfl; intro y6 K6; have d6 := (K6.out.fm.bx 2 _ _ _ rfl).c 0 _ rfl; have z6 := (K6.out.fm.bx 2 _ _ _ rfl).fz 0)
        | ((with_reducible refine gen_world (y6.setCell ⟨W.heap.size + 2, 0, none⟩ (.int .i64 ((i : Int) + 1))) (Sk B MM W y0 [(W.heap.size, #[.slice (some ⟨gb, ob, none⟩) n cap], 23), (W.heap.size + 1, #[.int .i64 up], 3), (W.heap.size + 2, #[.int .i64 ((i : Int) + 1)], 3), (W.heap.size + 3, #[.int .i64 (t)], 3), (W.heap.size + 4, #[.int .i64 (u)], 3), (W.heap.size + 5, #[.bool true], 4), (b9, spC S1, 34), (b11, spC S1, 34)]) ?_ ?_); exact K6.out.setCell 2 _ _ _ _ rfl g2.out (.inl m2.out) 0 _ rfl; intro y7 K7; have d7 := (K7.out.fm.bx 4 _ _ _ rfl).c 0 _ rfl; have z7 := (K7.out.fm.bx 4 _ _ _ rfl).fz 0)
        | ((with_reducible refine gen_world (y7.setCell ⟨W.heap.size + 4, 0, none⟩ (.int .i64 ((u : Int) + 1))) (Sk B MM W y0 [(W.heap.size, #[.slice (some ⟨gb, ob, none⟩) n cap], 23), (W.heap.size + 1, #[.int .i64 up], 3), (W.heap.size + 2, #[.int .i64 ((i : Int) + 1)], 3), (W.heap.size + 3, #[.int .i64 (t)], 3), (W.heap.size + 4, #[.int .i64 ((u : Int) + 1)], 3), (W.heap.size + 5, #[.bool true], 4), (b9, spC S1, 34), (b11, spC S1, 34)]) ?_ ?_); exact K7.out.setCell 4 _ _ _ _ rfl g4.out (.inl m4.out) 0 _ rfl; intro y8 K8; have d8 := (K8.out.fm.bx 5 _ _ _ rfl).c 0 _ rfl; have d9 := (K8.out.fm.bx 2 _ _ _ rfl).c 0 _ rfl; have d10 := (K8.out.fm.bx 1 _ _ _ rfl).c 0 _ rfl))
      go_ret
      exact ⟨rfl, ⟨t, u + 1, P.out.step hs.out hu'.out, Sk.pre (bs := [(W.heap.size, #[.slice (some ⟨gb, ob, none⟩) n cap], 23), (W.heap.size + 1, #[.int .i64 up], 3), (W.heap.size + 2, #[.int .i64 ((i : Int) + 1)], 3), (W.heap.size + 3, #[.int .i64 (t)], 3), (W.heap.size + 4, #[.int .i64 ((u : Int) + 1)], 3), (W.heap.size + 5, #[.bool true], 4)]) K8.out⟩⟩
end Go.Proofs.YthpahpfnpapoiaaDoor
