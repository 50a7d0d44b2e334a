/- The bytes of items that came out are their owner's: what is written, grown and read, by plain laws of memory. -/
import Derived.Test.YtmaedkbmjbggpaaDoorJSi
namespace Go.Proofs.YtmaedkbmjbggpaaDoor
open Go Go.RowKit
set_option linter.unusedVariables false
set_option maxHeartbeats 1000000
set_option maxRecDepth 20000

section
variable {α : Type} {t : TypeId} {s : Nat} {c : α → List Value}
theorem OwnL.put1 (hc : ∀ x, (c x).length = s) {B : Nat} {w : World} {g n cap : Nat} {x : List α} (h : OwnL t s c B w (.slice (some ⟨g, 0, none⟩) n cap) x) (k i : Nat) (a e : α) (v : Value) (hk : x[k]? = some a) (hi : i < s) (he : c e = (c a).set i v) : OwnL t s c B (w.setCell ⟨g, k * s + i, none⟩ v) (.slice (some ⟨g, 0, none⟩) n cap) (x.set k e) ∧ w.frozen? ⟨g, k * s + i, none⟩ = false ∧ B ≤ g := by
  obtain ⟨h1, h2⟩ := h
  rcases h2 with ⟨h0, _⟩ | ⟨g', cap', cur, hv, hb, hg, hn, hm, hs, ht⟩
  · simp at h0
  · simp at hv
    obtain ⟨rfl, hn', rfl⟩ := hv
    refine ⟨⟨by rw [rowL_len hc], .inr ⟨g, cap, _, by rw [List.length_set, hn'], hb, heap_setCell_same w g (k * s + i) cur t v hg, by rw [List.length_set]; exact hn, hm, ?_, ?_⟩⟩, frozen_heap hg _, hb⟩
    · rw [Array.size_setIfInBounds]; exact hs
    · rw [List.length_set, rowL_set1 hc i v hi x k a e hk he, ← ht, Array.toList_setIfInBounds, List.take_set]
end
/-- Blocks that are no bytes stay. -/
def KeepT (B : Nat) (y z : World) : Prop := Below B y z ∧ ∀ g cs t, t ≠ 5 → Bx y g cs t → z.heap[g]? = y.heap[g]?
theorem KeepT.refl (B : Nat) (y : World) : KeepT B y y := ⟨Below.refl _ _, fun _ _ _ _ _ => rfl⟩
theorem KeepT.trans {B : Nat} {x y z : World} (h : KeepT B x y) (k : KeepT B y z) : KeepT B x z := ⟨h.1.trans k.1, fun g cs t ht hb => (k.2 g cs t ht ((h.2 g cs t ht hb).trans hb)).trans (h.2 g cs t ht hb)⟩
theorem KeepT.own {B B' : Nat} {y z : World} {v : Value} {l : List Ri} (h : KeepT B y z) (o : OwnL 39 6 c6 B' y v l) : OwnL 39 6 c6 B' z v l := o.keepB fun g hg => by
  obtain ⟨cs, hb⟩ := o.ty g hg
  exact h.2 g cs _ (by decide) hb
/-- Items of a row, each with bytes of its own. -/
structure Ow (B : Nat) (va : Value) (R : List Ri) (Y : List (List UInt8)) (y : World) : Prop where
  row : OwnL 39 6 c6 B y va R
  len : Y.length = R.length
  byt : ∀ (i : Nat) (r : Ri) (b : List UInt8), R[i]? = some r → Y[i]? = some b → OwnL 5 1 cU B y (.slice r.sp r.m r.cap) b ∧ b.length = r.m
  apt : ∀ (i j : Nat) (r r' : Ri) (a a' : Addr), R[i]? = some r → R[j]? = some r' → r.sp = some a → r'.sp = some a' → a.block = a'.block → i = j
theorem own_nil {B : Nat} {y : World} {n cap : Nat} {b : List UInt8} (h : OwnL 5 1 cU B y (.slice none n cap) b) : b = [] := by
  rcases h.2 with ⟨_, h0⟩ | ⟨g, cap', cur, hv, _⟩
  · exact List.eq_nil_of_length_eq_zero h0
  · simp at hv
theorem own_some {B : Nat} {y : World} {a : Addr} {n cap : Nat} {b : List UInt8} (h : OwnL 5 1 cU B y (.slice (some a) n cap) b) : a = ⟨a.block, 0, none⟩ ∧ B ≤ a.block ∧ a.block < y.heap.size ∧ ∃ cs, Bx y a.block cs 5 := by
  rcases h.2 with ⟨h0, _⟩ | ⟨g, cap', cur, hv, hb, hg, _⟩
  · simp at h0
  · simp at hv
    obtain ⟨rfl, _, _⟩ := hv
    exact ⟨rfl, hb, heap_lt hg, cur, hg⟩
/-- One byte of one item is written. -/
theorem Ow.put {B : Nat} {va : Value} {R : List Ri} {Y : List (List UInt8)} {y : World} (h : Ow B va R Y y) (i : Nat) (r : Ri) (b : List UInt8) (hr : R[i]? = some r) (hb : Y[i]? = some b) (k : Nat) (hk : k < b.length) (u : UInt8) :
    ∃ g, r.sp = some ⟨g, 0, none⟩ ∧ (∃ c, y.cell? ⟨g, k, none⟩ = some c) ∧ y.frozen? ⟨g, k, none⟩ = false ∧ Ow B va R (Y.set i (b.set k u)) (y.setCell ⟨g, k, none⟩ (byV u)) ∧ KeepT B y (y.setCell ⟨g, k, none⟩ (byV u)) := by
  obtain ⟨ob, hm⟩ := h.byt i r b hr hb
  rcases hsp : r.sp with _ | a
  · rw [hsp] at ob
    have := own_nil ob
    subst this
    simp at hk
  · rw [hsp] at ob
    obtain ⟨ha, hB, hlt, cs, hbx⟩ := own_some ob
    obtain ⟨g, hg⟩ : ∃ g, a.block = g := ⟨_, rfl⟩
    rw [hg] at ha hB hlt hbx
    subst ha
    have p := OwnL.put1 kU.len ob k 0 (b[k]) u (byV u) (List.getElem?_eq_getElem hk) (by decide) rfl
    rw [Nat.mul_one, Nat.add_zero] at p
    have oth : ∀ q, q ≠ g → (y.setCell ⟨g, k, none⟩ (byV u)).heap[q]? = y.heap[q]? := fun q hq => heap_setCell_other y ⟨g, k, none⟩ q _ hq
    refine ⟨g, rfl, ?_, p.2.1, ⟨?_, by rw [List.length_set]; exact h.len, fun j r' b' hr' hb' => ?_, h.apt⟩, (Below.refl _ _).setCell (p := ⟨g, k, none⟩) hB _, fun q cs' t' ht hq => oth q fun e => ?_⟩
    · have := own_lb8 ob k (b[k]) (List.getElem?_eq_getElem hk)
      obtain ⟨g', o', e', hc⟩ := this
      injection e' with e'
      injection e' with e1 e2 _
      subst e1 e2
      rw [Nat.zero_add] at hc
      exact ⟨_, hc⟩
    · refine h.row.keepB fun q hq => oth q fun e => ?_
      obtain ⟨cs', hb'⟩ := h.row.ty q hq
      subst e
      exact Bx.unlike hb' hbx (by decide) rfl
    · by_cases hij : i = j
      · subst hij
        rw [hr] at hr'
        cases hr'
        rw [List.getElem?_set_self (by have := (List.getElem?_eq_some_iff.1 hb).1; exact this)] at hb'
        cases hb'
        rw [hsp]
        exact ⟨p.1, by rw [List.length_set]; exact hm⟩
      · rw [List.getElem?_set_ne hij] at hb'
        obtain ⟨o', m'⟩ := h.byt j r' b' hr' hb'
        refine ⟨o'.keepB fun q hq => oth q fun e => ?_, m'⟩
        subst e
        rcases hsp' : r'.sp with _ | a'
        · rw [hsp'] at hq; simp [Value.ownBlock] at hq
        · rw [hsp'] at hq
          have : a'.block = q := by
            have := own_some (by rw [hsp'] at o'; exact o')
            rw [this.1] at hq
            simpa [Value.ownBlock] using hq
          exact hij (h.apt i j r r' _ a' hr hr' hsp hsp' this.symm)
    · subst e
      exact Bx.unlike hq hbx ht rfl
end Go.Proofs.YtmaedkbmjbggpaaDoor
/- Rows of bytes that are grown while others are kept: plain laws of memory. -/
namespace Go.Proofs.YtmaedkbmjbggpaaDoor
open Go Go.RowKit
set_option linter.unusedVariables false
set_option maxHeartbeats 1000000
set_option maxRecDepth 20000

/-- The mark of the i-th list. -/
def mk8 (i : Nat) : UInt8 := UInt8.ofNat (i + 1)
theorem wrap8 (i : Nat) : IntKind.u8.wrap ((i : Int) + 1) = ((mk8 i).toNat : Int) := by
  unfold mk8
  rw [UInt8.toNat_ofNat']
  have : IntKind.u8.wrap ((i : Int) + 1) = ((i : Int) + 1) % 256 := by simp [IntKind.wrap, IntKind.signed, IntKind.bits]
  rw [this]
  omega
/-- A slice's header, one cell. -/
abbrev Hd := Option Addr × Nat × Nat
def cH (p : Hd) : List Value := [.slice p.1 p.2.1 p.2.2]
theorem infoH : (Tryd.prog.info? 37).map (fun i => (i.zero, i.size, i.bytes)) = some (some (.slice none 0 0), 1, 24) := by kernel_rfl
theorem kH : KdL (α := Hd) 64 37 1 24 cH := by
  obtain ⟨i, hi, hz0, hz1, hz2⟩ := info_parts infoH
  exact ⟨Tryd.underlying64, ⟨i, _, hi, hz0, hz1, hz2, rfl⟩, fun _ => rfl, fun x v hv => by simp [cH] at hv; subst hv; rfl, by decide, by decide⟩
/-- Bytes that lie apart from what v may be grown into, or ahead of it. -/
structure Pt (y : World) (v : Value) (n : Nat) (sp : Option Addr) (b : List UInt8) : Prop where
  lb : LB8 y sp b
  lt : ∀ a, sp = some a → a.block < y.heap.size
  ap : ∀ a, sp = some a → v.ownBlock = some a.block → a.off + b.length ≤ n
theorem Pt.app {B : Nat} {y z : World} {v v' : Value} {l : List UInt8} {u : UInt8} {sp : Option Addr} {b : List UInt8} (h : Pt y v l.length sp b) (o : Obj) (H : App1L 5 1 cU B v l u v' (y.alloc o) z) : Pt z v' (l.length + 1) sp b := by
  refine ⟨fun j c hj => ?_, fun a ha => ?_, fun a ha hv => ?_⟩
  · obtain ⟨g, q, e, hc⟩ := h.lb j c hj
    refine ⟨g, q, e, ?_⟩
    have hl := h.lt _ e
    have hjl := (List.getElem?_eq_some_iff.1 hj).1
    have k := H.cu.cell g (q + j) (by simp; exact Nat.lt_succ_of_lt hl) (fun ⟨h1, h2⟩ => by
      have := h.ap _ e h1
      simp at this
      omega)
    exact k.trans ((World.cell?_of_block (w := y) (a := ⟨g, q + j, none⟩) ((below1 y o).block g hl)).trans hc)
  · have := H.cu.low.size
    have := h.lt a ha
    simp at *
    omega
  · rcases H.new _ hv with h1 | h1
    · have := h.ap a ha h1
      omega
    · have := h.lt a ha
      simp at h1
      omega
theorem Pt.keep {y z : World} {v v' : Value} {n n' : Nat} {sp : Option Addr} {b : List UInt8} (h : Pt y v n sp b) (hb : ∀ a, sp = some a → z.heap[a.block]? = y.heap[a.block]?) (hs : y.heap.size ≤ z.heap.size) (hv : ∀ a, sp = some a → v'.ownBlock = some a.block → a.off + b.length ≤ n') : Pt z v' n' sp b :=
  ⟨h.lb.keepB hb, fun a ha => Nat.lt_of_lt_of_le (h.lt a ha) hs, hv⟩
/-- While one row is grown. -/
structure Gi (B : Nat) (y0 : World) (va : Value) (R : List Ri) (Y : List (List UInt8)) (i : Nat) (vg : Value) (Gs : List Hd) (Q : List (Option Addr × List UInt8)) (v : Value) (l : List UInt8) (y : World) : Prop where
  row : OwnL 39 6 c6 B y va R
  gl : OwnL 37 1 cH y0.heap.size y vg Gs
  cur : OwnL 5 1 cU B y v l
  rest : ∀ (j : Nat) (r : Ri) (b : List UInt8), i < j → R[j]? = some r → Y[j]? = some b → OwnL 5 1 cU B y (.slice r.sp r.m r.cap) b ∧ b.length = r.m ∧ ∀ a, r.sp = some a → v.ownBlock ≠ some a.block
  pr : ∀ p ∈ Q, Pt y v l.length p.1 p.2
  gv : ∀ p ∈ Q, ∀ a, p.1 = some a → vg.ownBlock ≠ some a.block
  low : Below B y0 y
  kt : ∀ g cs t, t ≠ 5 → Bx y0 g cs t → y.heap[g]? = y0.heap[g]?
theorem Gi.app {B : Nat} {y0 : World} {va : Value} {R : List Ri} {Y : List (List UInt8)} {i : Nat} {vg : Value} {Gs : List Hd} {Q : List (Option Addr × List UInt8)} {v : Value} {l : List UInt8} {y z : World} (h : Gi B y0 va R Y i vg Gs Q v l y) (hB : B ≤ y0.heap.size) (o : Obj) {u : UInt8} {v' : Value} (H : App1L 5 1 cU B v l u v' (y.alloc o) z) : Gi B y0 va R Y i vg Gs Q v' (l ++ [u]) z := by
  have hBy : B ≤ y.heap.size := Nat.le_trans hB h.low.size
  have oth : ∀ g, g < y.heap.size → v.ownBlock ≠ some g → z.heap[g]? = y.heap[g]? := fun g hg hv => (H.cu.blk g (by simp; omega) (fun j hj => hv hj.1)).trans ((below1 y o).block g hg)
  have ty : ∀ g cs t, t ≠ 5 → Bx y g cs t → z.heap[g]? = y.heap[g]? := fun g cs t ht hb => oth g (heap_lt hb) fun e => by
    obtain ⟨cs', hb'⟩ := h.cur.ty g e
    exact Bx.unlike hb hb' ht rfl
  refine ⟨h.row.keepB fun g hg => ?_, h.gl.keepB fun g hg => ?_, H.own, fun j r b hj hr hb => ?_, fun p hp => ?_, h.gv, (h.low.trans ((below1 y o).mono hBy)).trans H.cu.low, fun g cs t ht hb => ?_⟩
  · obtain ⟨cs, hb⟩ := h.row.ty g hg
    exact ty g cs _ (by decide) hb
  · obtain ⟨cs, hb⟩ := h.gl.ty g hg
    exact ty g cs _ (by decide) hb
  · obtain ⟨k1, k2, k3⟩ := h.rest j r b hj hr hb
    have lt : ∀ a, r.sp = some a → a.block < y.heap.size := fun a ha => by
      rw [ha] at k1
      exact (own_some k1).2.2.1
    refine ⟨k1.keepB fun g hg => ?_, k2, fun a ha hv => ?_⟩
    · rcases hsp : r.sp with _ | a
      · rw [hsp] at hg; simp [Value.ownBlock] at hg
      · have e := (own_some (by rw [hsp] at k1; exact k1)).1
        rw [hsp, e] at hg
        have : a.block = g := by simpa [Value.ownBlock] using hg
        rw [← this]
        exact oth _ (lt a hsp) (k3 a hsp)
    · rcases H.new _ hv with h1 | h1
      · exact k3 a ha h1
      · have := lt a ha
        simp at h1
        omega
  · rw [List.length_append, List.length_singleton]
    exact (h.pr p hp).app o H
  · exact (ty g cs t ht ((h.kt g cs t ht hb).trans hb)).trans (h.kt g cs t ht hb)
/-- Where the growing has come to. -/
structure Go1 (B : Nat) (y0 : World) (va : Value) (R : List Ri) (Y : List (List UInt8)) (i : Nat) (vg : Value) (Gs : List Hd) (Q : List (Option Addr × List UInt8)) (y : World) : Prop where
  row : OwnL 39 6 c6 B y va R
  gl : OwnL 37 1 cH y0.heap.size y vg Gs
  rest : ∀ (j : Nat) (r : Ri) (b : List UInt8), i ≤ j → R[j]? = some r → Y[j]? = some b → OwnL 5 1 cU B y (.slice r.sp r.m r.cap) b ∧ b.length = r.m
  pr : ∀ p ∈ Q, LB8 y p.1 p.2 ∧ ∀ a, p.1 = some a → a.block < y.heap.size ∧ vg.ownBlock ≠ some a.block ∧ ∀ (j : Nat) (r : Ri) (a' : Addr), i ≤ j → R[j]? = some r → r.sp = some a' → a'.block ≠ a.block
  low : Below B y0 y
  kt : ∀ g cs t, t ≠ 5 → Bx y0 g cs t → y.heap[g]? = y0.heap[g]?
  memX : ∀ (j : Nat) (r : Ri) (b : List UInt8), j < i → R[j]? = some r → Y[j]? = some b → (r.sp, b) ∈ Q ∧ b.length = r.m
  memG : ∀ (j : Nat) (p : Hd), Gs[j]? = some p → (p.1, List.replicate p.2.1 (mk8 j)) ∈ Q ∧ p.2.1 ≤ 1000
  glen : Gs.length = i
  ylen : Y.length = R.length
theorem Go1.start {B : Nat} {va : Value} {R : List Ri} {Y : List (List UInt8)} {y : World} (h : Ow B va R Y y) : Go1 B y va R Y 0 (.slice none 0 0) [] [] y :=
  ⟨h.row, OwnL.nil _ _, (fun j r b _ hr hb => h.byt j r b hr hb), (fun p hp => by cases hp), Below.refl _ _, (fun _ _ _ _ _ => rfl), (fun j _ _ hj => by omega), (fun j p hp => by simp at hp), rfl, h.len⟩
/-- One more row begins. -/
theorem Go1.enter {B : Nat} {y0 : World} {va : Value} {R : List Ri} {Y : List (List UInt8)} {i : Nat} {vg : Value} {Gs : List Hd} {Q : List (Option Addr × List UInt8)} {y : World} (h : Go1 B y0 va R Y i vg Gs Q y) (hap : ∀ (i j : Nat) (r r' : Ri) (a a' : Addr), R[i]? = some r → R[j]? = some r' → r.sp = some a → r'.sp = some a' → a.block = a'.block → i = j) (r : Ri) (b : List UInt8) (hr : R[i]? = some r) (hb : Y[i]? = some b) :
    Gi B y0 va R Y i vg Gs (Q ++ [(r.sp, b)]) (.slice r.sp r.m r.cap) b y := by
  obtain ⟨ob, hm⟩ := h.rest i r b (Nat.le_refl _) hr hb
  have bl : ∀ g, (Value.slice r.sp r.m r.cap).ownBlock = some g → ∃ a, r.sp = some a ∧ a.block = g ∧ a.off = 0 := fun g hg => by
    rcases hsp : r.sp with _ | a
    · rw [hsp] at hg; simp [Value.ownBlock] at hg
    · have e := (own_some (by rw [hsp] at ob; exact ob)).1
      rw [hsp, e] at hg
      exact ⟨a, rfl, by simpa [Value.ownBlock] using hg, by rw [e]⟩
  refine ⟨h.row, h.gl, ob, fun j r' b' hj hr' hb' => ?_, fun p hp => ?_, fun p hp a ha hv => ?_, h.low, h.kt⟩
  · obtain ⟨k1, k2⟩ := h.rest j r' b' (by omega) hr' hb'
    refine ⟨k1, k2, fun a ha hv => ?_⟩
    obtain ⟨a', h1, h2, _⟩ := bl _ hv
    have := hap i j r r' a' a hr hr' h1 ha h2
    omega
  · rcases List.mem_append.1 hp with h1 | h1
    · obtain ⟨k1, k2⟩ := h.pr p h1
      refine ⟨k1, fun a ha => (k2 a ha).1, fun a ha hv => ?_⟩
      obtain ⟨a', e1, e2, _⟩ := bl _ hv
      exact absurd e2 ((k2 a ha).2.2 i r a' (Nat.le_refl _) hr e1)
    · simp at h1
      subst h1
      refine ⟨own_lb8 ob, fun a ha => ?_, fun a ha hv => ?_⟩
      · show a.block < y.heap.size
        have ha : r.sp = some a := ha
        rw [ha] at ob
        exact (own_some ob).2.2.1
      · have ha : r.sp = some a := ha
        rw [ha] at ob
        rw [(own_some ob).1]
        show 0 + b.length ≤ b.length
        omega
  · rcases List.mem_append.1 hp with h1 | h1
    · exact (h.pr p h1).2 a ha |>.2.1 hv
    · simp at h1
      subst h1
      have ha : r.sp = some a := ha
      rw [ha] at ob
      obtain ⟨_, _, _, cs, hbx⟩ := own_some ob
      obtain ⟨cs', hb'⟩ := h.gl.ty _ hv
      exact Bx.unlike hb' hbx (by decide) rfl
/-- A row was grown, and is put behind the others. -/
theorem Gi.leave {B : Nat} {y0 x : World} {va : Value} {R : List Ri} {Y : List (List UInt8)} {i : Nat} {vg vg' : Value} {Gs : List Hd} {Q : List (Option Addr × List UInt8)} {p : Hd} {r : Ri} {b : List UInt8} {y z : World} (h0 : Go1 B y0 va R Y i vg Gs Q x) (hap : ∀ (i j : Nat) (r r' : Ri) (a a' : Addr), R[i]? = some r → R[j]? = some r' → r.sp = some a → r'.sp = some a' → a.block = a'.block → i = j) (hr : R[i]? = some r) (hb : Y[i]? = some b) (hB : B ≤ y0.heap.size)
    (h : Gi B y0 va R Y i vg Gs (Q ++ [(r.sp, b)]) (.slice p.1 p.2.1 p.2.2) (List.replicate p.2.1 (mk8 i)) y) (hp : p.2.1 ≤ 1000) (o : Obj) (H : App1L 37 1 cH y0.heap.size vg Gs p vg' (y.alloc o) z) :
    Go1 B y0 va R Y (i + 1) vg' (Gs ++ [p]) (Q ++ [(r.sp, b)] ++ [(p.1, List.replicate p.2.1 (mk8 i))]) z := by
  have hBy : B ≤ y.heap.size := Nat.le_trans hB h.low.size
  have oth : ∀ g, g < y.heap.size → vg.ownBlock ≠ some g → z.heap[g]? = y.heap[g]? := fun g hg hv => (H.cu.blk g (by simp; omega) (fun j hj => hv hj.1)).trans ((below1 y o).block g hg)
  have ty : ∀ g cs t, t ≠ 37 → Bx y g cs t → z.heap[g]? = y.heap[g]? := fun g cs t ht hb => oth g (heap_lt hb) fun e => by
    obtain ⟨cs', hb'⟩ := h.gl.ty g e
    exact Bx.unlike hb hb' ht rfl
  have hzs : y.heap.size ≤ z.heap.size := by have := H.cu.low.size; simp at this; omega
  obtain ⟨_, hm0⟩ := h0.rest i r b (Nat.le_refl _) hr hb
  have vb : ∀ a, p.1 = some a → (Value.slice p.1 p.2.1 p.2.2).ownBlock = some a.block ∧ a.block < y.heap.size ∧ ∃ cs, Bx y a.block cs 5 := fun a ha => by
    have k := h.cur
    rw [ha] at k ⊢
    obtain ⟨e1, _, e3, e4⟩ := own_some k
    refine ⟨?_, e3, e4⟩
    rw [e1]
    rfl
  refine ⟨h.row.keepB fun g hg => ?_, H.own, fun j r' b' hj hr' hb' => ?_, fun q hq => ?_, (h.low.trans ((below1 y o).mono hBy)).trans (H.cu.low.mono hB), fun g cs t ht hb => ?_, fun j r' b' hj hr' hb' => ?_, fun j p' hj => ?_, by rw [List.length_append, h0.glen]; simp, h0.ylen⟩
  · obtain ⟨cs, hb⟩ := h.row.ty g hg
    exact ty g cs _ (by decide) hb
  · obtain ⟨k1, k2, k3⟩ := h.rest j r' b' (by omega) hr' hb'
    refine ⟨k1.keepB fun g hg => ?_, k2⟩
    obtain ⟨cs, hb⟩ := k1.ty g hg
    exact ty g cs _ (by decide) hb
  · have key : ∀ (sp : Option Addr) (l : List UInt8), LB8 y sp l → (∀ a, sp = some a → a.block < y.heap.size ∧ vg.ownBlock ≠ some a.block) → LB8 z sp l ∧ ∀ a, sp = some a → a.block < z.heap.size ∧ vg'.ownBlock ≠ some a.block := fun sp l hl hx => ⟨hl.keepB fun a ha => oth _ (hx a ha).1 (hx a ha).2, fun a ha => ⟨Nat.lt_of_lt_of_le (hx a ha).1 hzs, fun hv => by
      rcases H.new _ hv with k | k
      · exact (hx a ha).2 k
      · have := (hx a ha).1
        simp at k
        omega⟩⟩
    rcases List.mem_append.1 hq with h1 | h1
    · obtain ⟨k1, k2⟩ := key q.1 q.2 (h.pr q h1).lb (fun a ha => ⟨(h.pr q h1).lt a ha, h.gv q h1 a ha⟩)
      refine ⟨k1, fun a ha => ⟨(k2 a ha).1, (k2 a ha).2, fun j r' a' hj hr' hs' => ?_⟩⟩
      rcases List.mem_append.1 h1 with h2 | h2
      · exact ((h0.pr q h2).2 a ha).2.2 j r' a' (by omega) hr' hs'
      · simp at h2
        subst h2
        intro e
        have := hap i j r r' a a' hr hr' ha hs' e.symm
        omega
    · simp at h1
      subst h1
      obtain ⟨k1, k2⟩ := key p.1 _ (own_lb8 h.cur) (fun a ha => ⟨(vb a ha).2.1, fun e => by
        obtain ⟨cs, hb1⟩ := (vb a ha).2.2
        obtain ⟨cs', hb2⟩ := h.gl.ty _ e
        exact Bx.unlike hb2 hb1 (by decide) rfl⟩)
      refine ⟨k1, fun a ha => ⟨(k2 a ha).1, (k2 a ha).2, fun j r' a' hj hr' hs' e => ?_⟩⟩
      obtain ⟨b', hb'⟩ : ∃ b', Y[j]? = some b' := by
        rcases hY : Y[j]? with _ | b'
        · exfalso
          have hl := List.getElem?_eq_none_iff.1 hY
          have hl2 := (List.getElem?_eq_some_iff.1 hr').1
          have hl3 := h0.ylen
          omega
        · exact ⟨b', rfl⟩
      have k3 := (h.rest j r' b' (by omega) hr' hb').2.2 a' hs'
      rw [e] at k3
      exact k3 (vb a ha).1
  · have h9 := heap_lt hb
    refine (oth g (Nat.lt_of_lt_of_le h9 h.low.size) (fun e => ?_)).trans (h.kt g cs t ht hb)
    have := (h.gl.lt g e).1
    omega
  · rcases Nat.lt_succ_iff_lt_or_eq.1 hj with h1 | h1
    · obtain ⟨k1, k2⟩ := h0.memX j r' b' h1 hr' hb'
      exact ⟨List.mem_append_left _ (List.mem_append_left _ k1), k2⟩
    · subst h1
      rw [hr] at hr'
      rw [hb] at hb'
      cases hr'
      cases hb'
      exact ⟨List.mem_append_left _ (List.mem_append_right _ (List.mem_singleton.2 rfl)), hm0⟩
  · rcases Nat.lt_or_ge j Gs.length with h1 | h1
    · rw [List.getElem?_append_left h1] at hj
      obtain ⟨k1, k2⟩ := h0.memG j p' hj
      exact ⟨List.mem_append_left _ (List.mem_append_left _ k1), k2⟩
    · rw [List.getElem?_append_right h1] at hj
      have h2 : j - Gs.length = 0 := by
        rcases Nat.eq_zero_or_pos (j - Gs.length) with h0 | h0
        · exact h0
        · rw [List.getElem?_eq_none (by simp; omega)] at hj; cases hj
      rw [h2] at hj
      simp at hj
      subst hj
      have hji : j = i := by have := h0.glen; omega
      subst hji
      exact ⟨List.mem_append_right _ (List.mem_singleton.2 rfl), hp⟩
end Go.Proofs.YtmaedkbmjbggpaaDoor
/- The statement's own look whether bytes are their owner's. -/
namespace Go.Proofs.YtmaedkbmjbggpaaDoor
open Go Go.RowKit
set_option linter.unusedVariables false
set_option maxHeartbeats 3000000
set_option maxRecDepth 20000

theorem all_rep {l : List UInt8} {u : UInt8} (h : ∀ q, q < l.length → l[q]? = some u) : l = List.replicate l.length u := by
  apply List.ext_getElem?
  intro q
  by_cases hq : q < l.length
  · rw [h q hq, List.getElem?_replicate, if_pos hq]
  · rw [List.getElem?_eq_none (by omega), List.getElem?_replicate, if_neg hq]
/-- The header of an item of the row. -/
theorem row_cell {B : Nat} {z : World} {sp : Option Addr} {n cap : Nat} {R : List Ri} (h : OwnL 39 6 c6 B z (.slice sp n cap) R) (i : Nat) (r : Ri) (hr : R[i]? = some r) : ∃ g, sp = some ⟨g, 0, none⟩ ∧ z.cell? ⟨g, i * 6 + 5, none⟩ = some (.slice r.sp r.m r.cap) := by
  obtain ⟨sp', cap', e, hl, h0, _⟩ := h.open kIt.len
  injection e with e1 e2 e3
  subst e1
  obtain ⟨g, o, e, hc⟩ := hl i r hr
  have ho := (h0 _ e).1
  subst ho
  have := hc 5 (.slice r.sp r.m r.cap) rfl
  rw [Nat.zero_add] at this
  exact ⟨g, e, this⟩
theorem owned_any (y : World) (B : Nat) (hB : Hid (B ≤ y.heap.size)) (sp : Option Addr) (cap : Nat) (R : List Ri) (Y0 : List (List UInt8)) (h : Hid (Ow B (.slice sp R.length cap) R Y0 y)) (hn : R.length ≤ 100000) (hm : Hid (∀ r ∈ R, r.m ≤ 256)) :
    Calls Tryd.prog 18 #[.slice sp R.length cap] y fun e z => e = .returned (.bool true) ∧ Hid (KeepT B y z) := by
  obtain ⟨n, hn'⟩ : ∃ n, R.length = n := ⟨_, rfl⟩
  have hnn : Hid (R.length = n) := hn'
  rw [hn'] at h hn ⊢
  have ni : (n : Int) ≤ 100000 := by omega
  have hgs : Hid (∀ i r, R[i]? = some r → ∃ g, sp = some ⟨g, 0, none⟩ ∧ (∀ z, OwnL 39 6 c6 B z (.slice sp n cap) R → z.cell? ⟨g, i * 6 + 5, none⟩ = some (.slice r.sp r.m r.cap)) ∧ ∀ w, (Instr.indexAt 22 (.slice (some ⟨g, 0, none⟩) n cap) (.int .i64 (i : Int))).run Tryd.prog w = .ok (.pointer (some ⟨g, i * 6, none⟩)) w) := fun i r hr => by
    obtain ⟨g, e, _⟩ := row_cell h.out.row i r hr
    refine ⟨g, e, fun z hz => ?_, fun w => ?_⟩
    · obtain ⟨g', e', hc⟩ := row_cell hz i r hr
      rw [e] at e'
      cases e'
      exact hc
    · have := idxP (P := Tryd.prog) (g := g) (off := 0) (len := n) (cap := cap) Tryd.underlying22 (s := 6) (by kernel_rfl) .i64 i w (by have := (List.getElem?_eq_some_iff.1 hr).1; omega)
      rw [Nat.zero_add] at this
      exact this
  have hap : Hid (∀ (i j : Nat) (r r' : Ri) (a a' : Addr), R[i]? = some r → R[j]? = some r' → r.sp = some a → r'.sp = some a' → a.block = a'.block → i = j) := h.out.apt
  clear hn hn'
  go_enter Tryd.func18, Tryd.ntmps18
  go_wp2
  go_loopw [3] (fun t wz => ∃ (i : Nat) (Y : List (List UInt8)) (z : World), z = wz ∧ t = .int .i64 (i : Int) ∧ Hid (i ≤ n ∧ ∀ (j : Nat) (b : List UInt8), j < i → Y[j]? = some b → b = List.replicate b.length (mk8 j)) ∧ Hid (Ow B (.slice sp n cap) R Y z ∧ KeepT B y z)) (fun t _ => (n - intOf t).toNat)
  case atStart => exact ⟨0, Y0, _, rfl, rfl, ⟨Nat.zero_le _, fun j b hj => by omega⟩, h.out, KeepT.refl _ _⟩
  case round =>
    obtain ⟨i, Y, z, rfl, rfl, J, K⟩ := hrel
    by_cases hlt : i < n
    · obtain ⟨r, hr⟩ : ∃ r, R[i]? = some r := ⟨_, List.getElem?_eq_getElem (by rw [hnn.out]; exact hlt)⟩
      obtain ⟨g, hsp, hrow, ii⟩ := hgs.out i r hr
      have hrm := hm.out r (List.mem_of_getElem? hr)
      obtain ⟨b0, hb0⟩ : ∃ b, Y[i]? = some b := ⟨_, List.getElem?_eq_getElem (by rw [K.out.1.len, hnn.out]; exact hlt)⟩
      obtain ⟨m, hmm⟩ : ∃ m, r.m = m := ⟨_, rfl⟩
      have H0 : Hid (∃ b, Y[i]? = some b ∧ b.length = m ∧ ∀ q, q < 0 → b[q]? = some (mk8 i)) := ⟨b0, hb0, by rw [← hmm]; exact (K.out.1.byt i r b0 hr hb0).2, fun q hq => by omega⟩
      have hC : Hid (∀ Y u, Ow B (.slice sp n cap) R Y u → u.cell? ⟨g, i * 6 + 5, none⟩ = some (.slice r.sp m r.cap)) := fun Y u hu => by have := hrow u hu.row; rw [hmm] at this; exact this
      have hU := wrap8 i
      obtain ⟨U, hUU⟩ : ∃ U, ((mk8 i).toNat : Int) = U := ⟨_, rfl⟩
      rw [hUU] at hU
      have hbv : Hid (byV (mk8 i) = .int .u8 U) := by show _ = _; unfold byV; rw [hUU]
      have hE : Hid (∀ Y u b k, k < m → Ow B (.slice sp n cap) R Y u → Y[i]? = some b → b.length = m → ∃ gb, r.sp = some ⟨gb, 0, none⟩ ∧ (∃ c, u.cell? ⟨gb, k, none⟩ = some c) ∧ u.frozen? ⟨gb, k, none⟩ = false ∧ Ow B (.slice sp n cap) R (Y.set i (b.set k (mk8 i))) (u.setCell ⟨gb, k, none⟩ (.int .u8 U)) ∧ KeepT B u (u.setCell ⟨gb, k, none⟩ (.int .u8 U))) := fun Y u b k hk hu hb hbl => by
        have := hu.put i r b hr hb k (by omega) (mk8 i)
        rw [hbv.out] at this
        exact this
      have mi : (m : Int) ≤ 256 := by omega
      have hji : (i : Int) < n := by omega
      have hlt' : Hid (i < n) := hlt
      have hJ : Hid (∀ (j : Nat) (b : List UInt8), j < i → Y[j]? = some b → b = List.replicate b.length (mk8 j)) := J.out.2
      subst hsp
      clear hlt hr hrow hrm hb0 hmm hUU J
      go_wp2
      go_loopw [4] (fun t wz => ∃ (k : Nat) (Y' : List (List UInt8)) (z : World), z = wz ∧ t = .int .i64 (k : Int) ∧ Hid (k ≤ m ∧ (∃ b, Y'[i]? = some b ∧ b.length = m ∧ ∀ q, q < k → b[q]? = some (mk8 i)) ∧ ∀ j, j ≠ i → Y'[j]? = Y[j]?) ∧ Hid (Ow B (.slice (some ⟨g, 0, none⟩) n cap) R Y' z ∧ KeepT B y z)) (fun t _ => (m - intOf t).toNat)
      case atStart => exact ⟨0, Y, _, rfl, rfl, ⟨Nat.zero_le _, H0.out, fun _ _ => rfl⟩, K⟩
      case round =>
        obtain ⟨k, Y', z, rfl, rfl, J, K⟩ := hrel
        have d5 := hC.out Y' z K.out.1
        by_cases hk : k < m
        · obtain ⟨b, hb, hbl, hbq⟩ := J.out.2.1
          obtain ⟨gb, hgb, ⟨c0, e1⟩, e2, e3, e4⟩ := hE.out Y' z b k hk K.out.1 hb hbl
          rw [hgb] at d5
          have ik : ∀ w, (Instr.indexAt 37 (.slice (some ⟨gb, 0, none⟩) m r.cap) (.int .i64 (k : Int))).run Tryd.prog w = .ok (.pointer (some ⟨gb, k, none⟩)) w := fun w => by
            have := idxP (P := Tryd.prog) (g := gb) (off := 0) (len := m) (cap := r.cap) Tryd.underlying37 (s := 1) (by kernel_rfl) .i64 k w hk
            rw [Nat.zero_add, Nat.mul_one] at this
            exact this
          have hki : (k : Int) < m := by omega
          have hk' : Hid (k < m) := hk
          have J2 : Hid (k + 1 ≤ m ∧ (∃ b', (Y'.set i (b.set k (mk8 i)))[i]? = some b' ∧ b'.length = m ∧ ∀ q, q < k + 1 → b'[q]? = some (mk8 i)) ∧ ∀ j, j ≠ i → (Y'.set i (b.set k (mk8 i)))[j]? = Y[j]?) := by
            refine ⟨hk, ⟨b.set k (mk8 i), ?_, by rw [List.length_set]; exact hbl, fun q hq => ?_⟩, fun j hj => ?_⟩
            · rw [List.getElem?_set_self (List.getElem?_eq_some_iff.1 hb).1]
            · by_cases hqk : q = k
              · subst hqk; rw [List.getElem?_set_self (by omega)]
              · rw [List.getElem?_set_ne (fun e => hqk e.symm)]; exact hbq q (by omega)
            · rw [List.getElem?_set_ne (fun e => hj e.symm)]; exact J.out.2.2 j hj
          have K2 : Hid (Ow B (.slice (some ⟨g, 0, none⟩) n cap) R (Y'.set i (b.set k (mk8 i))) (z.setCell ⟨gb, k, none⟩ (.int .u8 U)) ∧ KeepT B y (z.setCell ⟨gb, k, none⟩ (.int .u8 U))) := ⟨e3, K.out.2.trans e4⟩
          clear hk hb hbl hbq e3 e4 hgb
          go_wp2
          go_roundw
          case rel => exact ⟨k + 1, _, _, rfl, by simp, J2, K2⟩
          case measure => have := hk'.out; simp [intOf]; omega
        · have hke : k = m := by have := J.out.1; omega
          subst hke
          have J2 : Hid (i + 1 ≤ n ∧ ∀ (j : Nat) (b : List UInt8), j < i + 1 → Y'[j]? = some b → b = List.replicate b.length (mk8 j)) := by
            refine ⟨hlt'.out, fun j b hj hb => ?_⟩
            by_cases hji : j = i
            · subst hji
              obtain ⟨b', hb', hbl, hbq⟩ := J.out.2.1
              rw [hb] at hb'
              cases hb'
              exact all_rep fun q hq => hbq q (by omega)
            · rw [J.out.2.2 j hji] at hb
              exact hJ.out j b (by omega) hb
          clear hk
          go_wp2
          go_roundw
          case rel => exact ⟨i + 1, Y', _, rfl, by simp, J2, K⟩
          case measure => have := hlt'.out; simp [intOf]; omega
    · have hie : i = n := by have := J.out.1; omega
      subst hie
      have hY : Hid (∀ (j : Nat) (b : List UInt8), j < i → Y[j]? = some b → b = List.replicate b.length (mk8 j)) := J.out.2
      have hBz : Hid (B ≤ z.heap.size) := Nat.le_trans hB.out K.out.2.1.size
      have G0 : Hid (Go1 B z (.slice sp i cap) R Y 0 (.slice none 0 0) [] [] z) := Go1.start K.out.1
      have hOb : Hid (∀ (j : Nat) (r : Ri) (b : List UInt8), R[j]? = some r → Y[j]? = some b → b.length = r.m) := fun j r b hr hb => (K.out.1.byt j r b hr hb).2
      have hYl : Hid (Y.length = i) := by show _ = _; rw [K.out.1.len]; exact hnn.out
      have KT : Hid (KeepT B y z) := K.out.2
      have hnn' : Hid (R.length = i) := hnn
      clear hlt J K h hnn
      go_wp2
      go_loopw [5, 6] (fun g t wz => ∃ (k : Nat) (vg : Value) (Gs : List Hd) (Q : List (Option Addr × List UInt8)) (u : World), u = wz ∧ vg = g ∧ t = .int .i64 (k : Int) ∧ Hid (k ≤ i) ∧ Hid (Go1 B z (.slice sp i cap) R Y k vg Gs Q u)) (fun _ t _ => (i - intOf t).toNat)
      case atStart => exact ⟨0, _, [], [], _, rfl, rfl, rfl, Nat.zero_le _, G0⟩
      case round =>
        obtain ⟨k, vg, Gs, Q, u, rfl, rfl, rfl, J, K⟩ := hrel
        by_cases hlt : k < i
        · obtain ⟨r, hr⟩ : ∃ r, R[k]? = some r := ⟨_, List.getElem?_eq_getElem (by rw [hnn'.out]; exact hlt)⟩
          obtain ⟨b, hb⟩ : ∃ b, Y[k]? = some b := ⟨_, List.getElem?_eq_getElem (by rw [hYl.out]; exact hlt)⟩
          obtain ⟨g, hsp, hrow, ii⟩ := hgs.out k r hr
          have d5 := hrow u K.out.row
          have hrm := hm.out r (List.mem_of_getElem? hr)
          have hbl := hOb.out k r b hr hb
          have hbr := hY.out k b hlt hb
          have E0 : Hid (Gi B z (.slice sp i cap) R Y k vg Gs (Q ++ [(r.sp, b)]) (.slice r.sp r.m r.cap) b u) := K.out.enter hap.out r b hr hb
          have hLv : Hid (∀ (p : Hd) (vg' : Value) (x x' : World) (o : Obj), Gi B z (.slice sp i cap) R Y k vg Gs (Q ++ [(r.sp, b)]) (.slice p.1 p.2.1 p.2.2) (List.replicate p.2.1 (mk8 k)) x → p.2.1 ≤ 1000 → App1L 37 1 cH z.heap.size vg Gs p vg' (x.alloc o) x' → Go1 B z (.slice sp i cap) R Y (k + 1) vg' (Gs ++ [p]) (Q ++ [(r.sp, b)] ++ [(p.1, List.replicate p.2.1 (mk8 k))]) x') := fun p vg' x x' o h1 h2 h3 => Gi.leave K.out hap.out hr hb hBz.out h1 h2 o h3
          have hU := wrap8 k
          obtain ⟨U, hUU⟩ : ∃ U, ((mk8 k).toNat : Int) = U := ⟨_, rfl⟩
          rw [hUU] at hU
          have hbv : Hid (byV (mk8 k) = .int .u8 U) := by show _ = _; unfold byV; rw [hUU]
          have hrep : Hid (b = List.replicate (r.m + 0) (mk8 k) ∧ r.m ≤ 256) := ⟨by rw [Nat.add_zero, ← hbl]; exact hbr, hrm⟩
          have hgl : Hid (Gs.length = k) := K.out.glen
          have hki : (k : Int) < i := by omega
          have hlt' : Hid (k < i) := hlt
          obtain ⟨m, hmm⟩ : ∃ m, r.m = m := ⟨_, rfl⟩
          rw [hmm] at d5 E0 hrep
          have E1 : Hid (Gi B z (.slice sp i cap) R Y k vg Gs (Q ++ [(r.sp, b)]) (.slice r.sp m r.cap) (List.replicate (m + 0) (mk8 k)) u) := Eq.subst (motive := fun l => Gi B z (.slice sp i cap) R Y k vg Gs (Q ++ [(r.sp, b)]) (.slice r.sp m r.cap) l u) hrep.out.1 E0.out
          clear E0
          subst hsp
          clear hlt hr hb hrow hrm hbl hbr hUU hmm J K
          go_wp2
          go_loopw [7, 8] (fun v t wz => ∃ (j : Nat) (vv : Value) (x : World), x = wz ∧ vv = v ∧ t = .int .i64 (j : Int) ∧ Hid (j ≤ 24) ∧ Hid (Gi B z (.slice (some ⟨g, 0, none⟩) i cap) R Y k vg Gs (Q ++ [(r.sp, b)]) vv (List.replicate (m + j) (mk8 k)) x)) (fun _ t _ => (24 - intOf t).toNat)
          case atStart => exact ⟨0, _, _, rfl, rfl, rfl, Nat.zero_le _, E1⟩
          case round =>
            obtain ⟨j, vv, x, rfl, rfl, rfl, J, K⟩ := hrel
            clear d5
            by_cases hj : j < 24
            · have hji : (j : Int) < 24 := by omega
              have hj' : Hid (j < 24) := hj
              clear hj
              go_wp2_with (at_builtin; refine at_appL kU rfl (.tmp 53) (.tmp 57) rfl B vv (List.replicate (m + j) (mk8 k)) rfl (K.out.cur.alloc _) x.heap.size (mk8 k) rfl ?_ ?_ ?_ ?_; (rw [show (cU (mk8 k)).toArray = #[.int .u8 U] from by unfold cU; rw [hbv.out]]; exact one_bxL _ _ _); (rw [List.length_replicate]; have := hrep.out.2; have := hj'.out; omega); (have h1 := hBz.out; have h2 := K.out.low.size; simp; omega); intro v' x2 H2; have K2 : Hid (Gi B z (.slice (some ⟨g, 0, none⟩) i cap) R Y k vg Gs (Q ++ [(r.sp, b)]) v' (List.replicate (m + (j + 1)) (mk8 k)) x2) := (by have h9 := K.out.app hBz.out _ H2.out; rw [show List.replicate (m + j) (mk8 k) ++ [mk8 k] = List.replicate (m + (j + 1)) (mk8 k) from by rw [← Nat.add_assoc, List.replicate_succ']] at h9; exact h9); clear H2)
              go_roundw
              case rel => exact ⟨j + 1, _, _, rfl, rfl, by simp, hj'.out, K2⟩
              case measure => have := hj'.out; simp [intOf]; omega
            · have hje : j = 24 := by have := J.out; omega
              subst hje
              obtain ⟨sp2, cap2, e, _⟩ := K.out.cur.open kU.len
              rw [List.length_replicate] at e
              subst e
              clear hj
              go_wp2_with (at_builtin; refine at_appL kH rfl (.tmp 59) (.tmp 61) rfl z.heap.size vg Gs rfl (K.out.gl.alloc _) x.heap.size (sp2, m + 24, cap2) rfl (one_bxL _ _ _) ?_ ?_ ?_; (have := hgl.out; have := hlt'.out; omega); (have h2 := K.out.low.size; simp; omega); intro vg' x2 H2; have K2 : Hid (Go1 B z (.slice (some ⟨g, 0, none⟩) i cap) R Y (k + 1) vg' (Gs ++ [(sp2, m + 24, cap2)]) (Q ++ [(r.sp, b)] ++ [(sp2, List.replicate (m + 24) (mk8 k))]) x2) := hLv.out (sp2, m + 24, cap2) vg' x x2 _ K.out (by have := hrep.out.2; show m + 24 ≤ 1000; omega) H2.out; clear H2)
              go_roundw
              case rel => exact ⟨k + 1, _, _, _, _, rfl, rfl, by simp, hlt'.out, K2⟩
              case measure => have := hlt'.out; simp [intOf]; omega
        · have hke : k = i := by have := J.out; omega
          subst hke
          obtain ⟨gsp, gcap, e, hgl, hg0, _⟩ := K.out.gl.open kH.len
          have hglen := K.out.glen
          rw [hglen] at e
          subst e
          have hX : Hid (∀ (j : Nat) (r : Ri) (b : List UInt8), R[j]? = some r → Y[j]? = some b → LB8 u r.sp b ∧ b.length = r.m) := fun j r b hr hb => by
            have hj : j < k := by have := (List.getElem?_eq_some_iff.1 hr).1; have := hnn'.out; omega
            obtain ⟨k1, k2⟩ := K.out.memX j r b hj hr hb
            exact ⟨(K.out.pr _ k1).1, k2⟩
          have hGr : Hid (∀ j, j < k → ∃ gg p n c, gsp = some ⟨gg, 0, none⟩ ∧ u.cell? ⟨gg, j, none⟩ = some (.slice p n c) ∧ LB8 u p (List.replicate n (mk8 j)) ∧ n ≤ 1000) := fun j hj => by
            obtain ⟨p, hp⟩ : ∃ p, Gs[j]? = some p := ⟨_, List.getElem?_eq_getElem (by omega)⟩
            obtain ⟨k1, k2⟩ := K.out.memG j p hp
            obtain ⟨gg, o, e, hc⟩ := hgl j p hp
            have ho := (hg0 _ e).1
            subst ho
            have := hc 0 (.slice p.1 p.2.1 p.2.2) rfl
            rw [Nat.zero_add, Nat.mul_one, Nat.add_zero] at this
            exact ⟨gg, p.1, p.2.1, p.2.2, e, this, (K.out.pr _ k1).1, k2⟩
          have hrowu : Hid (OwnL 39 6 c6 B u (.slice sp k cap) R) := K.out.row
          have fin : Hid (KeepT B y u) := KT.out.trans ⟨K.out.low, K.out.kt⟩
          clear hlt J K hgl hg0 hglen G0 KT
          go_wp2
          go_loopw [9] (fun t wz => ∃ (j : Nat), u = wz ∧ t = .int .i64 (j : Int) ∧ Hid (j ≤ k)) (fun t _ => (k - intOf t).toNat)
          case atStart => exact ⟨0, rfl, rfl, Nat.zero_le _⟩
          case round =>
            obtain ⟨j, rfl, rfl, J⟩ := hrel
            by_cases hlt : j < k
            · obtain ⟨r, hr⟩ : ∃ r, R[j]? = some r := ⟨_, List.getElem?_eq_getElem (by rw [hnn'.out]; exact hlt)⟩
              obtain ⟨b, hb⟩ : ∃ b, Y[j]? = some b := ⟨_, List.getElem?_eq_getElem (by rw [hYl.out]; exact hlt)⟩
              obtain ⟨g, hsp, hrow, ii⟩ := hgs.out j r hr
              have d5 := hrow _ hrowu.out
              obtain ⟨lx, hbl⟩ := hX.out j r b hr hb
              have hbr := hY.out j b hlt hb
              obtain ⟨gg, p, gn, gc, hgsp, dg, lg, hg1⟩ := hGr.out j hlt
              have hrm := hm.out r (List.mem_of_getElem? hr)
              have hU := wrap8 j
              obtain ⟨U, hUU⟩ : ∃ U, ((mk8 j).toNat : Int) = U := ⟨_, rfl⟩
              rw [hUU] at hU
              have hbv : byV (mk8 j) = .int .u8 U := by unfold byV; rw [hUU]
              obtain ⟨m, hmm⟩ : ∃ m, r.m = m := ⟨_, rfl⟩
              rw [hmm] at d5 hbl hrm
              rw [hbl] at hbr
              have rd1 : Hid (∀ q, q < m → ∃ gb ob, r.sp = some ⟨gb, ob, none⟩ ∧ (∀ w, (Instr.indexAt 37 (.slice (some ⟨gb, ob, none⟩) m r.cap) (.int .i64 (q : Int))).run Tryd.prog w = .ok (.pointer (some ⟨gb, ob + q, none⟩)) w) ∧ u.cell? ⟨gb, ob + q, none⟩ = some (.int .u8 U)) := fun q hq => by
                obtain ⟨gb, ob, e1, e2⟩ := lx q (mk8 j) (by rw [hbr, List.getElem?_replicate, if_pos hq])
                refine ⟨gb, ob, e1, fun w => ?_, by rw [← hbv]; exact e2⟩
                have := idxP (P := Tryd.prog) (g := gb) (off := ob) (len := m) (cap := r.cap) Tryd.underlying37 (s := 1) (by kernel_rfl) .i64 q w hq
                rw [Nat.mul_one] at this
                exact this
              have rd2 : Hid (∀ q, q < gn → ∃ gb ob, p = some ⟨gb, ob, none⟩ ∧ (∀ w, (Instr.indexAt 37 (.slice (some ⟨gb, ob, none⟩) gn gc) (.int .i64 (q : Int))).run Tryd.prog w = .ok (.pointer (some ⟨gb, ob + q, none⟩)) w) ∧ u.cell? ⟨gb, ob + q, none⟩ = some (.int .u8 U)) := fun q hq => by
                obtain ⟨gb, ob, e1, e2⟩ := lg q (mk8 j) (by rw [List.getElem?_replicate, if_pos hq])
                refine ⟨gb, ob, e1, fun w => ?_, by rw [← hbv]; exact e2⟩
                have := idxP (P := Tryd.prog) (g := gb) (off := ob) (len := gn) (cap := gc) Tryd.underlying37 (s := 1) (by kernel_rfl) .i64 q w hq
                rw [Nat.mul_one] at this
                exact this
              have ig : ∀ w, (Instr.indexAt 64 (.slice (some ⟨gg, 0, none⟩) k gcap) (.int .i64 (j : Int))).run Tryd.prog w = .ok (.pointer (some ⟨gg, j, none⟩)) w := fun w => by
                have := idxP (P := Tryd.prog) (g := gg) (off := 0) (len := k) (cap := gcap) Tryd.underlying64 (s := 1) (by kernel_rfl) .i64 j w hlt
                rw [Nat.zero_add, Nat.mul_one] at this
                exact this
              have qU : (U != U) = false := by simp
              have mi : (m : Int) ≤ 256 := by omega
              have gi : (gn : Int) ≤ 1000 := by omega
              have hji : (j : Int) < k := by omega
              have hlt' : Hid (j < k) := hlt
              subst hsp hgsp
              clear hlt hr hb hrow hrm hbl hbr hUU hmm J lx lg hbv hg1
              go_wp2
              go_loopw [10] (fun t wz => ∃ (q : Nat), u = wz ∧ t = .int .i64 (q : Int) ∧ Hid (q ≤ m)) (fun t _ => (m - intOf t).toNat)
              case atStart => exact ⟨0, rfl, rfl, Nat.zero_le _⟩
              case round =>
                obtain ⟨q, rfl, rfl, J⟩ := hrel
                by_cases hq : q < m
                · obtain ⟨gb, ob, e1, e2, e3⟩ := rd1.out q hq
                  rw [e1] at d5
                  have hqi : (q : Int) < m := by omega
                  have hq' : Hid (q < m) := hq
                  clear hq e1
                  go_wp2
                  go_roundw
                  case rel => exact ⟨q + 1, by first | rfl | trivial, by simp, hq'.out⟩
                  case measure => have := hq'.out; simp [intOf]; omega
                · have hqe : q = m := by have := J.out; omega
                  subst hqe
                  clear hq
                  go_wp2
                  go_loopw [11] (fun t wz => ∃ (x : Nat), u = wz ∧ t = .int .i64 (x : Int) ∧ Hid (x ≤ gn)) (fun t _ => (gn - intOf t).toNat)
                  case atStart => exact ⟨0, rfl, rfl, Nat.zero_le _⟩
                  case round =>
                    obtain ⟨x, rfl, rfl, J2⟩ := hrel
                    by_cases hx : x < gn
                    · obtain ⟨gb, ob, e1, e2, e3⟩ := rd2.out x hx
                      rw [e1] at dg
                      have hxi : (x : Int) < gn := by omega
                      have hx' : Hid (x < gn) := hx
                      clear hx e1 d5
                      go_wp2
                      go_roundw
                      case rel => exact ⟨x + 1, by first | rfl | trivial, by simp, hx'.out⟩
                      case measure => have := hx'.out; simp [intOf]; omega
                    · have hxe : x = gn := by have := J2.out; omega
                      subst hxe
                      clear hx
                      go_wp2
                      go_roundw
                      case rel => exact ⟨j + 1, by first | rfl | trivial, by simp, hlt'.out⟩
                      case measure => have := hlt'.out; simp [intOf]; omega
            · have hje : j = k := by have := J.out; omega
              subst hje
              clear hlt
              go_wp2
              go_ret
              exact ⟨rfl, fin⟩
end Go.Proofs.YtmaedkbmjbggpaaDoor
/- Lists put behind one another, also empty ones. -/
namespace Go.Proofs.YtmaedkbmjbggpaaDoor
open Go Go.RowKit
set_option linter.unusedVariables false
set_option maxHeartbeats 1000000
set_option maxRecDepth 20000

section
variable {α : Type} {T t : TypeId} {s bts : Nat} {c : α → List Value}
theorem run_app0 (K : KdL T t s bts c) (w : World) (ty : TypeId) (B : Nat) (v : Value) (l : List α) (hown : OwnL t s c B w v l) (p : Option Addr) (cp : Nat) : (Builtin.append_ #[T, T] ty #[v, .slice p 0 cp]).run Tryd.prog w = .ok v w := by
  obtain ⟨i, z, hi, hz0, hz1, hz2, hz3⟩ := K.i
  have hl : ∀ (x : Addr), (loadCells x 0).run Tryd.prog w = .ok #[] w := fun x => by simpa using run_loadCells_list (P := Tryd.prog) w x [] (by simp)
  rcases hown.2 with ⟨rfl, h0⟩ | ⟨g, cap, cur, rfl, _, _, hnc, _⟩
  · cases p <;> simp [Builtin.append_, run_underlying K.u, sizeOf, typeInfo, hi, Builtin.lenOf, Builtin.firstCells, hl]
  · cases p <;> simp [Builtin.append_, run_underlying K.u, sizeOf, typeInfo, hi, Builtin.lenOf, Builtin.firstCells, hnc, storeCells, hl]
theorem at_appA (K : KdL T t s bts c) {ops : Array Oper} {rest : List Oper} {o : Oper} {a : Act} {w : World} {Q : Exit → Act → World → Prop} (hgd : o.guard = none) (sl x : Operand)
    (ho : o.op = .call { callee := .builtin .append, args := #[sl, x], argTypes := #[T, T] }) (B : Nat) (v : Value) (l : List α) (hs : a.eval sl = v) (hown : OwnL t s c B w v l)
    (p : Option Addr) (m cm : Nat) (us : List α) (hm : us.length = m) (hx : a.eval x = .slice p m cm) (hu : LiesL s c w p us) (hn : l.length + m ≤ 100000000000) (hB : B ≤ w.heap.size)
    (k : ∀ v' w', Hid (AppNL t s c B v l us v' w w') → wpList Tryd.prog ops Q rest (a.put o.dst v') w') : wpList Tryd.prog ops Q (o :: rest) a w := by
  by_cases h0 : m = 0
  · subst h0
    have hl0 : us = [] := List.eq_nil_of_length_eq_zero hm
    subst hl0
    refine wpList_plain hgd fun K' hK => ?_
    have hrun := run_app0 K w o.type B v l hown p cm
    unfold Oper.wp
    simp [execOp, ho, resolve, invoke, builtin, hs, hx, hrun, Result.andThen]
    exact hK _ _ (k v w ⟨by rw [List.append_nil]; exact hown, fun g hg => .inl hg, CuL.refl _ _ _⟩)
  · obtain ⟨gb, ob, rfl, _⟩ := hu 0 _ (List.getElem?_eq_getElem (by omega))
    exact at_appNL K hgd sl x ho B v l hs hown gb ob m cm us hm hx hu (by omega) hn hB k
end
def m55 : Ri := ⟨55, ⟨#[]⟩, 0, ⟨#[]⟩, 0, none, 0, 0⟩
theorem built55 : Tryd.prog.built 39 [(0, .int .u8 55)] = some (i6 m55) := by kernel_rfl
theorem fill55 : Instr.fill (fun i => some (i * 6, 6)) ((Array.range (2 * 6)).map ((Value.agg (i6 z0)).cells[· % (Value.agg (i6 z0)).cells.size]!)) [(0, .agg (i6 m55)), (1, .agg (i6 m55))] = some (rowL c6 [m55, m55]).toArray := by kernel_rfl
theorem at_bs55 {ops : Array Oper} {rest : List Oper} {o : Oper} {a : Act} {w : World} {Q : Exit → Act → World → Prop} (x x' : Operand) (hgd : o.guard = none) (ho : o.op = .buildSlice 22 2 #[(0, x), (1, x')]) (hx : a.eval x = .agg (i6 m55)) (hx' : a.eval x' = .agg (i6 m55))
    (h : wpList Tryd.prog ops Q rest (a.put o.dst (.slice (some ⟨w.heap.size, 0, none⟩) 2 2)) (w.alloc (.cells (rowL c6 [m55, m55]).toArray 39))) : wpList Tryd.prog ops Q (o :: rest) a w := wpList_plain hgd fun _ hK => by
  obtain ⟨i, hi, hz0, hz1, hz2⟩ := info_parts infoI
  refine wp_buildSlice 22 39 2 #[(0, x), (1, x')] ho (rowL c6 [m55, m55]).toArray i _ Tryd.underlying22 hi hz0 (by rw [hz1]; decide) (by rw [hz1]; decide) ?_ (hK _ _ h)
  rw [hz1]
  have e : (#[(0, x), (1, x')].map fun (i, x) => (i, a.eval x)).toList = [(0, .agg (i6 m55)), (1, .agg (i6 m55))] := by simp [hx, hx']
  rw [e]
  exact fill55
/-- The items of three readings, side by side. -/
theorem ow_three {w y1 y2 y3 y4 y9 z : World} {pa pb pc : Option Addr} {ca cb cc : Nat} {XA XB XC : List Itm} {v : Value}
    (A : Pq y1 (.slice pa XA.length ca) XA [] y2) (Bq : Pq y2 (.slice pb XB.length cb) XB [] y3) (C : Pq y3 (.slice pc XC.length cc) XC [] y4)
    (h1 : Below w.heap.size w y1) (h3 : Below y3.heap.size y3 z) (h2 : Below y2.heap.size y2 z) (h4 : Below y4.heap.size y4 z)
    (gA : Lens XA) (gB : Lens XB) (gC : Lens XC)
    (hv : OwnL 39 6 c6 w.heap.size z v ((XA ++ XB ++ XC).map (·.1))) : Ow w.heap.size v ((XA ++ XB ++ XC).map (·.1)) ((XA ++ XB ++ XC).map (·.2)) z := by
  have s1 : w.heap.size ≤ y1.heap.size := h1.size
  have s2 : y1.heap.size ≤ y2.heap.size := A.fm.low.size
  have s3 : y2.heap.size ≤ y3.heap.size := Bq.fm.low.size
  have one : ∀ {x y : World} {va : Value} {X : List Itm}, Pq x va X [] y → Lens X → w.heap.size ≤ x.heap.size → Below y.heap.size y z → ∀ (i : Nat) (q : Itm), X[i]? = some q → (OwnL 5 1 cU w.heap.size z (.slice q.1.sp q.1.m q.1.cap) q.2 ∧ q.2.length = q.1.m) ∧ ∀ a, q.1.sp = some a → x.heap.size ≤ a.block ∧ a.block < y.heap.size := fun {x y va X} P L hs hb i q hq => by
    have ho : OwnL 5 1 cU x.heap.size y (.slice q.1.sp q.1.m q.1.cap) q.2 := by
      have := P.byt i q hq
      unfold OwnL
      have e : rowL cU q.2 = q.2.map byV := by unfold rowL cU; induction q.2 with | nil => rfl | cons b r ih => simp [ih]
      rw [e]
      exact this
    refine ⟨⟨(ho.below hb).weak hs, L q (List.mem_of_getElem? hq)⟩, fun a ha => ?_⟩
    rw [ha] at ho
    obtain ⟨_, k1, k2, _⟩ := own_some ho
    exact ⟨k1, k2⟩
  have oA := one A gA s1 h2
  have oB := one Bq gB (by omega) h3
  have oC := one C gC (by omega) h4
  have cases3 : ∀ (i : Nat) (q : Itm), (XA ++ XB ++ XC)[i]? = some q → (i < XA.length ∧ XA[i]? = some q) ∨ (XA.length ≤ i ∧ i < XA.length + XB.length ∧ XB[i - XA.length]? = some q) ∨ (XA.length + XB.length ≤ i ∧ XC[i - (XA.length + XB.length)]? = some q) := fun i q hq => by
    rcases Nat.lt_or_ge i (XA ++ XB).length with h | h
    · rw [List.getElem?_append_left h] at hq
      rcases Nat.lt_or_ge i XA.length with h' | h'
      · rw [List.getElem?_append_left h'] at hq
        exact .inl ⟨h', hq⟩
      · rw [List.getElem?_append_right h'] at hq
        rw [List.length_append] at h
        exact .inr (.inl ⟨h', h, hq⟩)
    · rw [List.getElem?_append_right h] at hq
      rw [List.length_append] at h hq
      exact .inr (.inr ⟨h, hq⟩)
  refine ⟨hv, by simp, fun i r b hr hb => ?_, fun i j r r' a a' hr hr' ha ha' e => ?_⟩
  · rw [List.getElem?_map] at hr hb
    rcases hq : (XA ++ XB ++ XC)[i]? with _ | q
    · rw [hq] at hr; cases hr
    · rw [hq] at hr hb
      cases hr
      cases hb
      rcases cases3 i q hq with ⟨_, k⟩ | ⟨_, _, k⟩ | ⟨_, k⟩
      · exact (oA _ q k).1
      · exact (oB _ q k).1
      · exact (oC _ q k).1
  · rw [List.getElem?_map] at hr hr'
    rcases hq : (XA ++ XB ++ XC)[i]? with _ | q
    · rw [hq] at hr; cases hr
    rcases hq' : (XA ++ XB ++ XC)[j]? with _ | q'
    · rw [hq'] at hr'; cases hr'
    rw [hq] at hr
    rw [hq'] at hr'
    cases hr
    cases hr'
    rcases cases3 i q hq with ⟨i1, k⟩ | ⟨i1, i2, k⟩ | ⟨i1, k⟩ <;> rcases cases3 j q' hq' with ⟨j1, k'⟩ | ⟨j1, j2, k'⟩ | ⟨j1, k'⟩
    · exact A.apt i j q q' a a' k k' ha ha' e
    · have := (oA _ q k).2 a ha; have := (oB _ q' k').2 a' ha'; omega
    · have := (oA _ q k).2 a ha; have := (oC _ q' k').2 a' ha'; omega
    · have := (oB _ q k).2 a ha; have := (oA _ q' k').2 a' ha'; omega
    · have := Bq.apt _ _ q q' a a' k k' ha ha' e; omega
    · have := (oB _ q k).2 a ha; have := (oC _ q' k').2 a' ha'; omega
    · have := (oC _ q k).2 a ha; have := (oA _ q' k').2 a' ha'; omega
    · have := (oC _ q k).2 a ha; have := (oB _ q' k').2 a' ha'; omega
    · have := C.apt _ _ q q' a a' k k' ha ha' e; omega
theorem may_kind {q : Pu} (h : mayP q = true) : q.k ≠ 55 := by
  intro e
  unfold mayP mayI at h
  have : (q.ri none 0).k = 55 := e
  simp [this] at h
end Go.Proofs.YtmaedkbmjbggpaaDoor
