/- Where each item of an assembled source lies, item by item: plain mathematics; what Assemble and Bytes answer, said so. Two sources behind one another: what their objects say of the object of both, by plain mathematics. -/
import Derived.Test.YthbdpceobnkflaaDoorJ22
import Derived.Test.YthbdpceobnkflaaDoorJ9
import Derived.Test.YthbdpceobnkflaaDoorJ29
import Derived.Test.YthbdpceobnkflaaDoorJ31
namespace Go.Proofs.YthbdpceobnkflaaDoor
open Go Go.RowKit
set_option linter.unusedVariables false
set_option maxHeartbeats 3000000
set_option maxRecDepth 20000

theorem lay_ne : ∀ (l : List Ri) (s : Sh) (i : Nat) (E : Int) (k : Nat), layE s l i = some (E, k) → E ≠ 0
  | [], s, i, E, k, h => by cases h
  | r :: l, s, i, E, k, h => by
    unfold layE at h
    split at h
    · exact lay_ne l _ _ E k h
    · rename_i h0
      simp at h
      rw [← h.1]
      exact h0
theorem fil_ne (N : List (ByteArray × Nat)) : ∀ (Z : List (Itm × Nat)) (i : Nat) (E : Int) (k : Nat), filE N Z i = some (E, k) → E ≠ 0
  | [], i, E, k, h => by cases h
  | z :: Z, i, E, k, h => by
    unfold filE at h
    split at h
    · exact fil_ne N Z _ E k h
    · rename_i h0
      simp at h
      rw [← h.1]
      exact h0
theorem bad_ne {L : List Itm} {s : Sh} {E n : Int} (h : BadA L s E n) : E ≠ 0 := by
  rcases h with ⟨h1, h2, _⟩ | ⟨_, i, h1, _⟩ | ⟨_, _, i, h1, _⟩
  · rw [h2]; exact h1
  · exact lay_ne _ _ _ _ _ h1
  · exact fil_ne _ _ _ _ _ h1
/-- What Assemble answers, in one row. -/
def AsT (w : World) (L : List Itm) (e : Ending) (z : World) : Prop := ∃ (x : Oo) (E n : Int), e = .returned (.tuple #[.agg (oC x), .int .i64 E, .int .i64 n]) ∧ Hid (Below w.heap.size w z ∧ ((E ≠ 0 ∧ x = zO) ∨ (E = 0 ∧ Lco z x ∧ AsmOk L ∧ plB x.B = blksF (asmMem L) [] (-1) (marksU (asmU L)) ∧ x.M = marksU (asmU L) ∧ x.L = sortN (asmN L))))
theorem assemble_one (w : World) (T : Hid (Tabs w)) (sp : Option Addr) (cap : Nat) (L : List Itm) (hl : Hid (LiesL 6 c6 w sp (L.map (·.1)))) (hg : Hid (∀ x ∈ L, LB8 w x.1.sp x.2 ∧ x.2.length = x.1.m)) (hn : L.length ≤ 9223372036854775807) :
    Calls Tryd.prog 8 #[.slice sp L.length cap] w (AsT w L) :=
  (assemble_any w T sp cap L hl hg hn).mono fun e z h => by
    rcases h with ⟨E, k, h1, h⟩ | ⟨x, h1, h⟩
    · exact ⟨zO, E, k, h1, h.out.1, .inl ⟨bad_ne h.out.2, rfl⟩⟩
    · obtain ⟨h2, h3, h4, h5, h6, h7, h8, h9⟩ := h.out
      exact ⟨x, 0, 0, h1, h2, .inr ⟨rfl, h3, ⟨h4, h5, h6, fun x hx => (hg.out x hx).2⟩, h7, h8, h9⟩⟩
/-- The place ahead of an item, the bytes and the labels of the items ahead of it. -/
def plI (L : List Itm) (i : Nat) : Nat := (layS sh0 ((L.map (·.1)).take i)).p
def szI (L : List Itm) (i : Nat) : Nat := sizesN ((L.map (·.1)).take i)
def nlI (L : List Itm) (i : Nat) : Nat := (layS sh0 ((L.map (·.1)).take i)).N.length
theorem sz_add (l : List Ri) (r : Ri) : sizesN (l ++ [r]) = sizesN l + (if r.k = 1 ∨ r.k = 4 then 0 else szN r) := by unfold sizesN; simp
section
variable {L : List Itm} (H : AsmOk L)
include H
omit H in
theorem at_pl {i : Nat} {x : Itm} (h : L[i]? = some x) : AtJ L i x (plI L i) := ⟨h, plcs_at _ sh0 i x.1 (by rw [List.getElem?_map, h]; rfl)⟩
omit H in
theorem sz_one {i : Nat} {x : Itm} (h : L[i]? = some x) : szI L (i + 1) = szI L i + (if x.1.k = 1 ∨ x.1.k = 4 then 0 else szN x.1) := by
  unfold szI
  rw [List.take_add_one, List.getElem?_map, h]
  exact sz_add _ _
theorem AsmOk.few : L.length ≤ 4096 := by
  have := (check_may H.c).1
  rw [List.length_map] at this
  exact this
theorem AsmOk.sz_le : ∀ i, i ≤ L.length → szI L i ≤ i * 65536
  | 0, _ => Nat.le_refl _
  | i + 1, h => by
    have ih := AsmOk.sz_le i (by omega)
    obtain ⟨x, hx⟩ : ∃ x, L[i]? = some x := ⟨_, List.getElem?_eq_getElem (by omega)⟩
    have hf := H.fits (at_pl hx)
    have hl := H.len (at_pl hx)
    have hf2 : (flB (asmN L) x).length ≤ 65536 := Nat.le_trans (Nat.le_add_left _ _) hf
    rw [sz_one hx]
    generalize szI L i = q at ih ⊢
    rw [hl] at hf2
    rw [Nat.add_mul, Nat.one_mul]
    exact Nat.add_le_add ih hf2
/-- At the end: as many bytes as the blocks have, as many labels as are told. -/
theorem AsmOk.end {x : Oo} (hB : plB x.B = blksF (asmMem L) [] (-1) (marksU (asmU L))) (hL : x.L = sortN (asmN L)) (hl : ∀ q ∈ x.B, q.2.length = q.1.m) : szI L L.length = sumK x.B ∧ nlI L L.length = x.L.length := by
  have e : (L.map (·.1)).take L.length = L.map (·.1) := List.take_of_length_le (by rw [List.length_map]; exact Nat.le_refl _)
  refine ⟨?_, ?_⟩
  · unfold szI
    rw [e, sumK_pl x.B hl, hB, H.sum]
  · unfold nlI
    rw [e, hL, H.labels]
    rfl
/-- An item's bytes, where the told bytes have them. -/
theorem AsmOk.told {x : Oo} (hB : plB x.B = blksF (asmMem L) [] (-1) (marksU (asmU L))) (hM : x.M = marksU (asmU L)) (hL : x.L = sortN (asmN L)) (hl : ∀ q ∈ x.B, q.2.length = q.1.m) {i : Nat} {y : Itm} (h : L[i]? = some y) (j : Nat) (b : UInt8) (hj : (flB (asmN L) y)[j]? = some b) : (bytL x 0 65536)[plI L i + j]? = some b := by
  have hlt : j < (flB (asmN L) y).length := (List.getElem?_eq_some_iff.1 hj).1
  have ha := at_pl h
  have hf := H.fits ha
  obtain ⟨ht, h2⟩ := H.takes ha (a := plI L i + j) (by omega) (by omega)
  have hu := H.use ha ht (a := plI L i + j) (by omega) h2
  have hm := H.mem ha (a := plI L i + j) (by omega) (by omega)
  have := (H.byt hB hM hL hl 0 65536 (by decide) (by decide)).2.2 (plI L i + j) (by omega)
  have e0 : ((0 : Nat) : Int) = 0 := rfl
  have e1 : ((65536 : Nat) : Int) = 65536 := rfl
  rw [e0, e1, Nat.zero_add, hu, hm, show plI L i + j - plI L i = j from by omega, hj] at this
  rw [this]
  have hne : useI y.1 ≠ 0 := by unfold useI; split <;> decide
  simp [hne]
end
/-- A part of 65536 bytes. -/
theorem slBoth (g p m : Nat) (h : p + m ≤ 65536) : ∃ od, (∀ v, (Instr.sliceAt 33 (.slice (some ⟨g, 0, none⟩) 65536 65536) (some (.int .i64 (p : Int))) (some (.int .i64 ((p : Int) + (m : Int)))) none).run Tryd.prog v = .ok (.slice (some ⟨g, od, none⟩) m (65536 - p)) v) ∧ (p < 65536 → od = p) := by
  refine ⟨if 65536 = p then 0 else p, fun v => ?_, fun h => if_neg (by omega)⟩
  have hu : Tryd.prog.underlying 33 = some (.slice (Tryd.prog.elem 33)) := by kernel_rfl
  rw [run_sliceAt_slice v _ _ _ _ _ hu, run_slice_lh v _ _ _ _ hu .i64 .i64 (p : Int) ((p : Int) + (m : Int)) (by omega) (by omega) (by omega)]
  have hz : ∀ v, (sizeOf (Tryd.prog.elem 33)).run Tryd.prog v = .ok 1 v := fun v => by kernel_rfl
  rw [hz]
  have e9 : ((p : Int) + (m : Int)).toNat = p + m := by omega
  have e8 : p + m - p = m := by omega
  by_cases e : 65536 = p
  · simp only [Result.andThen_ok, sliced, Int.toNat_natCast, e9, e8]
    rw [if_pos e, if_pos e]
  · simp only [Result.andThen_ok, sliced, Int.toNat_natCast, e9, e8]
    rw [if_neg e, if_neg e]
    simp [Addr.add_lit]
/-- What Bytes answers of a whole memory. -/
def MmE (w : World) (M : List UInt8) (e : Ending) (z : World) : Prop := ∃ g, e = .returned (.tuple #[.slice (some ⟨g, 0, none⟩) 65536 65536, .int .i64 0]) ∧ Hid (Below w.heap.size w z ∧ Bx z g (rU M) 5)
theorem bytes_all {L : List Itm} (H : AsmOk L) {x : Oo} (hB : plB x.B = blksF (asmMem L) [] (-1) (marksU (asmU L))) (hM : x.M = marksU (asmU L)) (hL : x.L = sortN (asmN L)) (w : World) (T : Hid (Tabs w)) (hx : Hid (Lco w x)) :
    Calls Tryd.prog 9 #[.agg (oC x), .int .i64 0, .int .i64 65536] w (MmE w (bytL x 0 65536)) := by
  have hb := H.byt hB hM hL (fun q hq => (hx.out.lo.g q hq).2) 0 65536 (by decide) (by decide)
  have e0 : ((0 : Nat) : Int) = 0 := rfl
  have e1 : ((65536 : Nat) : Int) = 65536 := rfl
  rw [e0, e1] at hb
  have c := obytes_any w T x hx 0 65536 (by unfold inI; omega) (by unfold inI; omega)
  refine c.mono fun e z h => ?_
  obtain ⟨p, c, rfl, h⟩ := h
  rw [hb.1]
  have hl : (bytL x 0 65536).length = 65536 := hb.2.1
  rcases h.out.2 with ⟨_, _, h0⟩ | ⟨g, rfl, _, rfl, hbx⟩
  · rw [h0] at hl; cases hl
  · rw [hl]
    exact ⟨g, rfl, h.out.1, hbx⟩
end Go.Proofs.YthbdpceobnkflaaDoor

namespace Go.Proofs.YthbdpceobnkflaaDoor
open Go Go.RowKit
set_option linter.unusedVariables false
set_option maxHeartbeats 3000000
set_option maxRecDepth 20000

theorem valB_low : ∀ (B : List (Int × List UInt8)) (p : Int), rowsOk p B → ∀ (a : Int) (d : UInt8), a < p → valB B a d = d
  | [], p, _, a, d, _ => rfl
  | b :: r, p, ⟨h1, h2⟩, a, d, ha => by
    have hn : ¬ b.1 ≤ a := by omega
    unfold valB
    rw [if_neg hn]
    exact valB_low r _ h2 a d (by omega)
theorem valB_in : ∀ (B : List (Int × List UInt8)) (p : Int), rowsOk p B → ∀ b ∈ B, p ≤ b.1 ∧ 1 ≤ b.2.length ∧ b.1 + (b.2.length : Int) ≤ 65536 ∧ ∀ (k : Nat) (v : UInt8), b.2[k]? = some v → ∀ d, valB B (b.1 + (k : Int)) d = v
  | [], p, _, b, hb => by cases hb
  | b :: r, p, ⟨h1, h2⟩, c, hc => by
    rcases List.mem_cons.1 hc with rfl | hc
    · refine ⟨h1.1, by omega, by omega, fun k v hk d => ?_⟩
      have hlt := (List.getElem?_eq_some_iff.1 hk).1
      unfold valB
      rw [if_pos (by omega), show (c.1 + (k : Int) - c.1).toNat = k from by omega, hk]
      exact valB_low r _ h2 _ _ (by omega)
    · obtain ⟨i1, i2, i3, i4⟩ := valB_in r _ h2 c hc
      exact ⟨by omega, i2, i3, fun k v hk d => i4 k v hk _⟩
section
variable {L : List Itm} (H : AsmOk L)
include H
theorem AsmOk.vb (a : Nat) (d : UInt8) : valB (blksF (asmMem L) [] (-1) (marksU (asmU L))) (a : Int) d = if ((asmU L)[a]?).getD 0 ≠ 0 then ((asmMem L)[a]?).getD 0 else d := by
  have hg : GoodM (asmMem L) ((0 : Nat) : Int) none (marksU (asmU L)) := mks_good (asmU L) (asmMem L) H.uLen H.memLen H.val _ H.starts 65536 0 none (fun u _ _ => by simp) (fun _ => .inl rfl)
  have hcv : covM (marksU (asmU L)) (a : Int) = decide (((asmU L)[a]?).getD 0 ≠ 0) := mks_cov (asmU L) 65536 0 (by rw [H.uLen]; exact Nat.le_refl _) a (Nat.zero_le _)
  rw [blks_val _ H.memLen _ hg, hcv, Int.toNat_natCast]
  by_cases hz : ((asmU L)[a]?).getD 0 = 0
  · simp [hz]
  · simp [hz]
theorem AsmOk.vno (a : Nat) (h : ∀ d, valB (blksF (asmMem L) [] (-1) (marksU (asmU L))) (a : Int) d = d) : ((asmU L)[a]?).getD 0 = 0 := by
  apply Classical.byContradiction
  intro hz
  have h0 := h 0
  have h1 := h 1
  rw [H.vb, if_pos hz] at h0 h1
  exact absurd (h0.symm.trans h1) (by decide)
theorem AsmOk.vyes (a : Nat) (v : UInt8) (h : ∀ d, valB (blksF (asmMem L) [] (-1) (marksU (asmU L))) (a : Int) d = v) : ((asmU L)[a]?).getD 0 ≠ 0 ∧ ((asmMem L)[a]?).getD 0 = v := by
  by_cases hz : ((asmU L)[a]?).getD 0 = 0
  · have h0 := h 0
    have h1 := h 1
    rw [H.vb, if_neg (fun e => e hz)] at h0 h1
    exact absurd (h0.trans h1.symm) (by decide)
  · have h0 := h 0
    rw [H.vb, if_pos hz] at h0
    exact ⟨hz, h0⟩
/-- Each byte of a block is a byte of an item that lies there. -/
theorem AsmOk.block {b : Int × List UInt8} (hb : b ∈ blksF (asmMem L) [] (-1) (marksU (asmU L))) : 0 ≤ b.1 ∧ b.1 + (b.2.length : Int) ≤ 65536 ∧ ∀ (k : Nat) (v : UInt8), b.2[k]? = some v → ∃ j x p, AtJ L j x p ∧ takesA x.1 ∧ p ≤ b.1.toNat + k ∧ b.1.toNat + k < p + szN x.1 ∧ (flB (asmN L) x)[b.1.toNat + k - p]? = some v := by
  obtain ⟨i1, i2, i3, i4⟩ := valB_in _ 0 H.good.2.1 b hb
  refine ⟨i1, i3, fun k v hk => ?_⟩
  have hlt := (List.getElem?_eq_some_iff.1 hk).1
  have e : b.1 + (k : Int) = ((b.1.toNat + k : Nat) : Int) := by omega
  have h9 := i4 k v hk
  rw [e] at h9
  obtain ⟨h1, h2⟩ := H.vyes _ _ h9
  obtain ⟨u, hu⟩ : ∃ u, (asmU L)[b.1.toNat + k]? = some u := ⟨_, List.getElem?_eq_getElem (by rw [H.uLen]; omega)⟩
  rw [hu] at h1
  obtain ⟨j, x, p, hx, ht, hp1, hp2, _⟩ := H.from hu h1
  refine ⟨j, x, p, hx, ht, hp1, hp2, ?_⟩
  have hl := H.lenT hx ht
  have hm := H.mem hx (a := b.1.toNat + k) hp1 (by omega)
  rw [hm, List.getElem?_eq_getElem (by omega)] at h2
  rw [List.getElem?_eq_getElem (by omega)]
  exact congrArg some h2
end
/-- A source that never names its place lies from 0 on, without a gap. -/
theorem lay_pref : ∀ (l : List Ri) (s : Sh) (i : Nat), s.Ok → (∀ r ∈ l, mayI r = true) → layE s l i = none → (∀ r ∈ l, r.k ≠ 4) → (∀ a, (s.U[a]?).getD 0 ≠ 0 ↔ a < s.p) → ∀ a, ((layS s l).U[a]?).getD 0 ≠ 0 ↔ a < (layS s l).p
  | [], s, i, _, _, _, _, h => h
  | r :: l, s, i, hs, hm, hE, h4, h => by
    obtain ⟨h0, h1⟩ := lay_cons hE
    refine lay_pref l (stS s r) (i + 1) (hs.st (hm r (by simp)) h0) (fun r hr => hm r (by simp [hr])) h1 (fun q hq => h4 q (by simp [hq])) fun a => ?_
    have h4' := h4 r (by simp)
    by_cases ht : takesA r
    · obtain ⟨e1, e2⟩ := st_U (s := s) ht
      rw [e1] at h0
      have hc := (cl_at hs (useI r) h0 a).1
      rw [e2, hc]
      show _ ↔ a < s.p + szN r
      by_cases hin : s.p ≤ a ∧ a < s.p + szN r
      · rw [if_pos hin]
        exact ⟨fun _ => hin.2, fun _ => use_ne r⟩
      · rw [if_neg hin, h a]
        omega
    · have hk : r.k = 1 := by
        apply Classical.byContradiction
        intro hk
        exact ht ⟨hk, h4'⟩
      rw [st_same ht]
      have e : (stS s r).p = s.p := by
        unfold stS
        rw [if_pos hk]
        rfl
      rw [e]
      exact h a
theorem AsmOk.whole {L : List Itm} (H : AsmOk L) (h4 : ∀ x ∈ L, x.1.k ≠ 4) : (blksF (asmMem L) [] (-1) (marksU (asmU L))).length ≤ 1 ∧ ∀ b ∈ blksF (asmMem L) [] (-1) (marksU (asmU L)), b.1 = 0 := by
  have hp : ∀ a, ((asmU L)[a]?).getD 0 ≠ 0 ↔ a < (layS sh0 (L.map (·.1))).p := lay_pref _ sh0 0 sh0_ok H.all H.l (fun r hr => by obtain ⟨x, hx, rfl⟩ := List.mem_map.1 hr; exact h4 x hx) (fun a => by
    show ((List.replicate 65536 (0 : UInt8))[a]?).getD 0 ≠ 0 ↔ a < 0
    rw [List.getElem?_replicate]
    constructor
    · intro e
      exfalso
      apply e
      split <;> rfl
    · intro e
      omega)
  have hr := H.good.2.1
  have hno := H.vno
  have hyes := H.vyes
  generalize (layS sh0 (L.map (·.1))).p = P at hp
  generalize hBB : blksF (asmMem L) [] (-1) (marksU (asmU L)) = BB at hr hno hyes ⊢
  have hcov : ∀ b ∈ BB, b.1.toNat < P := fun b hb => by
    obtain ⟨i1, i2, i3, i4⟩ := valB_in _ 0 hr b hb
    obtain ⟨v, hv⟩ : ∃ v, b.2[0]? = some v := ⟨_, List.getElem?_eq_getElem (by omega)⟩
    have h9 := i4 0 v hv
    rw [show b.1 + ((0 : Nat) : Int) = ((b.1.toNat : Nat) : Int) from by omega] at h9
    exact (hp _).1 (hyes _ _ h9).1
  match BB, hr, hno, hcov with
  | [], _, _, _ => exact ⟨by simp, fun b hb => by cases hb⟩
  | [b], hr, hno, hcov =>
    refine ⟨by simp, fun c hc => ?_⟩
    obtain rfl := List.mem_singleton.1 hc
    obtain ⟨⟨r1, r2, r3⟩, _⟩ := hr
    apply Classical.byContradiction
    intro hne
    have h0 := hno 0 (fun d => by
      unfold valB
      rw [if_neg (by omega)]
      rfl)
    have h1 := hcov c (by simp)
    exact (hp 0).2 (by omega) h0
  | b :: c :: r, hr, hno, hcov =>
    exfalso
    obtain ⟨⟨r1, r2, r3⟩, hr2⟩ := hr
    have hr3 := hr2
    obtain ⟨⟨q1, q2, q3⟩, _⟩ := hr2
    have h0 := hno (b.1.toNat + b.2.length) (fun d => by
      unfold valB
      rw [if_pos (by omega), show (((b.1.toNat + b.2.length : Nat) : Int) - b.1).toNat = b.2.length from by omega, List.getElem?_eq_none_iff.2 (Nat.le_refl _)]
      exact valB_low (c :: r) _ hr3 _ _ (by omega))
    have h1 := hcov c (by simp)
    exact (hp _).2 (by omega) h0
theorem layS_app : ∀ (l m : List Ri) (s : Sh), layS s (l ++ m) = layS (layS s l) m
  | [], m, s => rfl
  | r :: l, m, s => layS_app l m (stS s r)
theorem plcs_app : ∀ (l m : List Ri) (s : Sh), plcs s (l ++ m) = plcs s l ++ plcs (layS s l) m
  | [], m, s => rfl
  | r :: l, m, s => by
    show s.p :: plcs (stS s r) (l ++ m) = s.p :: (plcs (stS s r) l ++ plcs (layS (stS s r) l) m)
    rw [plcs_app l m]
theorem st_p {s t : Sh} (h : s.p = t.p) (r : Ri) : (stS s r).p = (stS t r).p := by
  unfold stS
  split
  · exact h
  · split
    · rfl
    · show s.p + szN r = t.p + szN r
      rw [h]
theorem plcs_same : ∀ (l : List Ri) (s t : Sh), s.p = t.p → plcs s l = plcs t l
  | [], s, t, _ => rfl
  | r :: l, s, t, h => by
    show s.p :: plcs (stS s r) l = t.p :: plcs (stS t r) l
    rw [h, plcs_same l _ _ (st_p h r)]
theorem lay_N : ∀ (l : List Ri) (s t : Sh), s.p = t.p → ∃ D, (layS s l).N = D ++ s.N ∧ (layS t l).N = D ++ t.N
  | [], s, t, _ => ⟨[], rfl, rfl⟩
  | r :: l, s, t, h => by
    obtain ⟨D, h1, h2⟩ := lay_N l (stS s r) (stS t r) (st_p h r)
    by_cases hk : r.k = 1
    · refine ⟨D ++ [(r.n, s.p)], ?_, ?_⟩
      · show (layS (stS s r) l).N = _
        rw [h1]
        unfold stS
        rw [if_pos hk]
        simp [nmS]
      · show (layS (stS t r) l).N = _
        rw [h2]
        unfold stS
        rw [if_pos hk, h]
        simp [nmS]
    · have e : ∀ s : Sh, (stS s r).N = s.N := fun s => by
        unfold stS
        rw [if_neg hk]
        split <;> rfl
      exact ⟨D, by show (layS (stS s r) l).N = _; rw [h1, e], by show (layS (stS t r) l).N = _; rw [h2, e]⟩
theorem st_four (s : Sh) {r : Ri} (hk : r.k = 4) : stS s r = ⟨r.a.toNat, s.U, s.N⟩ := by
  unfold stS
  rw [if_neg (by omega), if_pos hk]
theorem two_N (A : List Itm) (x0 : Itm) (B : List Itm) (hk : x0.1.k = 4) : asmN (A ++ x0 :: B) = asmN (x0 :: B) ++ asmN A := by
  unfold asmN
  rw [List.map_append, layS_app, List.map_cons]
  show (layS (stS (layS sh0 (A.map (·.1))) x0.1) (B.map (·.1))).N = (layS (stS sh0 x0.1) (B.map (·.1))).N ++ _
  obtain ⟨D, h1, h2⟩ := lay_N (B.map (·.1)) (stS (layS sh0 (A.map (·.1))) x0.1) (stS sh0 x0.1) (by rw [st_four _ hk, st_four _ hk])
  rw [h1, h2, st_four _ hk, st_four _ hk]
  show D ++ (layS sh0 (A.map (·.1))).N = (D ++ []) ++ _
  rw [List.append_nil]
theorem two_l {A B : List Itm} {j : Nat} {x : Itm} {p : Nat} (h : AtJ A j x p) : AtJ (A ++ B) j x p := by
  have hlt := (List.getElem?_eq_some_iff.1 h.1).1
  refine ⟨by rw [List.getElem?_append_left hlt]; exact h.1, ?_⟩
  rw [List.map_append, plcs_app, List.getElem?_append_left (by rw [plcs_len, List.length_map]; exact hlt)]
  exact h.2
theorem two_r {A : List Itm} {x0 : Itm} {B : List Itm} (hk : x0.1.k = 4) {j : Nat} {x : Itm} {p : Nat} (h : AtJ (x0 :: B) j x p) (ht : takesA x.1) : AtJ (A ++ x0 :: B) (A.length + j) x p := by
  obtain ⟨i, rfl⟩ : ∃ i, j = i + 1 := by
    cases j with
    | zero =>
      have := h.1
      simp at this
      subst this
      exact absurd hk ht.2
    | succ i => exact ⟨i, rfl⟩
  refine ⟨by rw [List.getElem?_append_right (by omega), show A.length + (i + 1) - A.length = i + 1 from by omega]; exact h.1, ?_⟩
  rw [List.map_append, plcs_app, List.getElem?_append_right (by rw [plcs_len, List.length_map]; omega), plcs_len, List.length_map, show A.length + (i + 1) - A.length = i + 1 from by omega]
  have h2 := h.2
  rw [List.map_cons] at h2 ⊢
  have h3 : (plcs (stS sh0 x0.1) (B.map (·.1)))[i]? = some p := h2
  show (plcs (stS (layS sh0 (A.map (·.1))) x0.1) (B.map (·.1)))[i]? = some p
  rw [plcs_same _ _ (stS sh0 x0.1) (by rw [st_four _ hk, st_four _ hk])]
  exact h3
/-- An item's bytes stay where labels come. -/
theorem fl_sub {N N' : List (ByteArray × Nat)} (hd : N.Pairwise (fun a b => a.1 ≠ b.1)) (hd' : N'.Pairwise (fun a b => a.1 ≠ b.1)) (hs : ∀ y ∈ N, y ∈ N') {x : Itm} {p : Nat} (h : flE N p x.1 = 0) : flB N' x = flB N x := by
  have e : tgtN N' x.1 = tgtN N x.1 := by
    unfold tgtN
    by_cases ha : asksI x.1
    · rw [if_pos ha, if_pos ha]
      unfold flE at h
      rw [if_pos ha] at h
      rcases hl : lookN N x.1.l with _ | t
      · rw [hl] at h
        simp at h
      · rw [(look_iff hd' _ _).2 (hs _ ((look_iff hd _ _).1 hl))]
    · rw [if_neg ha, if_neg ha]
  unfold flB
  rw [e]
theorem AsmOk.pw {L : List Itm} (H : AsmOk L) : (asmN L).Pairwise (fun a b => a.1 ≠ b.1) := (lay_names _ sh0 0 sh0_ok H.all H.l (fun y hy => by cases hy) List.Pairwise.nil).2
/-- A block's bytes stand in the memory of a source that holds the items. -/
theorem AsmOk.stand {L Q : List Itm} (H : AsmOk L) (HQ : AsmOk Q) (hN : ∀ y ∈ asmN L, y ∈ asmN Q) (hA : ∀ j x p, AtJ L j x p → takesA x.1 → ∃ j', AtJ Q j' x p)
    {xq : Oo} (hB : plB xq.B = blksF (asmMem Q) [] (-1) (marksU (asmU Q))) (hM : xq.M = marksU (asmU Q)) (hL : xq.L = sortN (asmN Q)) (hl : ∀ q ∈ xq.B, q.2.length = q.1.m)
    {b : Int × List UInt8} (hb : b ∈ blksF (asmMem L) [] (-1) (marksU (asmU L))) : 0 ≤ b.1 ∧ b.1 + (b.2.length : Int) ≤ 65536 ∧ ∀ (k : Nat) (v : UInt8), b.2[k]? = some v → (bytL xq 0 65536)[b.1.toNat + k]? = some v := by
  obtain ⟨h1, h2, h3⟩ := H.block hb
  refine ⟨h1, h2, fun k v hk => ?_⟩
  obtain ⟨j, x, p, hx, ht, hp1, hp2, hv⟩ := h3 k v hk
  obtain ⟨j', hx'⟩ := hA j x p hx ht
  have hf : flB (asmN Q) x = flB (asmN L) x := fl_sub H.pw HQ.pw hN (fil_none _ _ 0 H.f (x, p) (List.mem_of_getElem? hx.z))
  have hpp : p = plI Q j' := by
    have e := hx'.2.symm.trans (at_pl hx'.1).2
    simpa using e
  rw [← hf] at hv
  have := HQ.told hB hM hL hl hx'.1 _ v hv
  rw [← hpp, show p + (b.1.toNat + k - p) = b.1.toNat + k from by omega] at this
  exact this
/-- What two sources' objects say of the object of both. -/
structure TwoE (A B : List Itm) (o p q : Oo) : Prop where
  c : sumK q.B = sumK o.B + sumK p.B
  l : q.L.length = o.L.length + p.L.length
  a : ∀ b ∈ o.B, 0 ≤ b.1.a ∧ b.1.a + (b.1.m : Int) ≤ 65536 ∧ ∀ (k : Nat) (v : UInt8), b.2[k]? = some v → (bytL q 0 65536)[b.1.a.toNat + k]? = some v
  b : ∀ b ∈ p.B, 0 ≤ b.1.a ∧ b.1.a + (b.1.m : Int) ≤ 65536 ∧ ∀ (k : Nat) (v : UInt8), b.2[k]? = some v → (bytL q 0 65536)[b.1.a.toNat + k]? = some v
/-- An object of a source that was assembled. -/
structure ObA (L : List Itm) (x : Oo) : Prop where
  h : AsmOk L
  b : plB x.B = blksF (asmMem L) [] (-1) (marksU (asmU L))
  m : x.M = marksU (asmU L)
  l : x.L = sortN (asmN L)
  g : ∀ q ∈ x.B, q.2.length = q.1.m
theorem ObA.mem {L : List Itm} {x : Oo} (h : ObA L x) {b : Bb} (hb : b ∈ x.B) : (b.1.a, b.2) ∈ blksF (asmMem L) [] (-1) (marksU (asmU L)) := by
  rw [← h.b]
  unfold plB
  exact List.mem_map.2 ⟨b, hb, rfl⟩
theorem two_all {A : List Itm} {x0 : Itm} {B : List Itm} (hk : x0.1.k = 4) {o p q : Oo} (ho : ObA A o) (hp : ObA (x0 :: B) p) (hq : ObA (A ++ x0 :: B) q) : TwoE A (x0 :: B) o p q := by
  have eN := two_N A x0 B hk
  refine ⟨?_, ?_, fun b hb => ?_, fun b hb => ?_⟩
  · rw [sumK_pl _ hq.g, hq.b, hq.h.sum, sumK_pl _ ho.g, ho.b, ho.h.sum, sumK_pl _ hp.g, hp.b, hp.h.sum]
    unfold sizesN
    rw [List.map_append, List.map_append, List.sum_append]
  · rw [hq.l, hq.h.labels, ho.l, ho.h.labels, hp.l, hp.h.labels, eN, List.length_append, Nat.add_comm]
  · have := ho.h.stand hq.h (fun y hy => by rw [eN]; exact List.mem_append_right _ hy) (fun j x p hx _ => ⟨j, two_l hx⟩) hq.b hq.m hq.l hq.g (ho.mem hb)
    rw [← ho.g b hb]
    exact this
  · have := hp.h.stand hq.h (fun y hy => by rw [eN]; exact List.mem_append_left _ hy) (fun j x p hx ht => ⟨_, two_r hk hx ht⟩) hq.b hq.m hq.l hq.g (hp.mem hb)
    rw [← hp.g b hb]
    exact this
theorem ObA.whole {L : List Itm} {x : Oo} (h : ObA L x) (h4 : ∀ y ∈ L, y.1.k ≠ 4) : x.B.length ≤ 1 ∧ ∀ b ∈ x.B, b.1.a = 0 := by
  obtain ⟨h1, h2⟩ := h.h.whole h4
  refine ⟨?_, fun b hb => h2 _ (h.mem hb)⟩
  rw [← h.b] at h1
  unfold plB at h1
  rw [List.length_map] at h1
  exact h1
end Go.Proofs.YthbdpceobnkflaaDoor
