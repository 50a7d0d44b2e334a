/- Where each item of an assembled source lies, item by item: plain mathematics; what Assemble and Bytes answer, said so. -/
import Derived.Test.YthbdpceobnkflaaDoorJ22
import Derived.Test.YthbdpceobnkflaaDoorJ29
import Derived.Test.YthbdpceobnkflaaDoorJ31
namespace Go.Proofs.YthbdpceobnkflaaDoor
open Go Go.RowKit
set_option linter.unusedVariables false
set_option maxHeartbeats 3000000
set_option maxRecDepth 20000

theorem i6_all (r : Ri) : (i6 r).all (·.oneCell') = true := by simp [i6, Value.oneCell']
theorem lay_ok : ∀ (l : List Ri) (s : Sh) (i : Nat), s.Ok → (∀ r ∈ l, mayI r = true) → layE s l i = none → (layS s l).Ok
  | [], s, i, hs, _, _ => hs
  | r :: l, s, i, hs, hm, h => by
    unfold layE at h
    split at h
    · rename_i h0
      exact lay_ok l _ _ (hs.st (hm r (by simp)) h0) (fun q hq => hm q (by simp [hq])) h
    · cases h
theorem lay_ne : ∀ (l : List Ri) (s : Sh) (i : Nat) (E : Int) (k : Nat), layE s l i = some (E, k) → E ≠ 0
  | [], s, i, E, k, h => by cases h
  | r :: l, s, i, E, k, h => by
    unfold layE at h
    split at h
    · exact lay_ne l _ _ E k h
    · rename_i h0
      simp at h
      rw [← h.1]
      exact h0
theorem fil_ne (N : List (ByteArray × Nat)) : ∀ (Z : List (Itm × Nat)) (i : Nat) (E : Int) (k : Nat), filE N Z i = some (E, k) → E ≠ 0
  | [], i, E, k, h => by cases h
  | z :: Z, i, E, k, h => by
    unfold filE at h
    split at h
    · exact fil_ne N Z _ E k h
    · rename_i h0
      simp at h
      rw [← h.1]
      exact h0
theorem bad_ne {L : List Itm} {s : Sh} {E n : Int} (h : BadA L s E n) : E ≠ 0 := by
  rcases h with ⟨h1, h2, _⟩ | ⟨_, i, h1, _⟩ | ⟨_, _, i, h1, _⟩
  · rw [h2]; exact h1
  · exact lay_ne _ _ _ _ _ h1
  · exact fil_ne _ _ _ _ _ h1
/-- What Assemble answers, in one row. -/
def AsT (w : World) (L : List Itm) (e : Ending) (z : World) : Prop := ∃ (x : Oo) (E n : Int), e = .returned (.tuple #[.agg (oC x), .int .i64 E, .int .i64 n]) ∧ Hid (Below w.heap.size w z ∧ ((E ≠ 0 ∧ x = zO) ∨ (E = 0 ∧ Lco z x ∧ AsmOk L ∧ plB x.B = blksF (asmMem L) [] (-1) (marksU (asmU L)) ∧ x.M = marksU (asmU L) ∧ x.L = sortN (asmN L))))
theorem assemble_one (w : World) (T : Hid (Tabs w)) (sp : Option Addr) (cap : Nat) (L : List Itm) (hl : Hid (LiesL 6 c6 w sp (L.map (·.1)))) (hg : Hid (∀ x ∈ L, LB8 w x.1.sp x.2 ∧ x.2.length = x.1.m)) (hn : L.length ≤ 9223372036854775807) :
    Calls Tryd.prog 8 #[.slice sp L.length cap] w (AsT w L) :=
  (assemble_any w T sp cap L hl hg hn).mono fun e z h => by
    rcases h with ⟨E, k, h1, h⟩ | ⟨x, h1, h⟩
    · exact ⟨zO, E, k, h1, h.out.1, .inl ⟨bad_ne h.out.2, rfl⟩⟩
    · obtain ⟨h2, h3, h4, h5, h6, h7, h8, h9⟩ := h.out
      exact ⟨x, 0, 0, h1, h2, .inr ⟨rfl, h3, ⟨h4, h5, h6, fun x hx => (hg.out x hx).2⟩, h7, h8, h9⟩⟩
/-- The place ahead of an item, the bytes and the labels of the items ahead of it. -/
def plI (L : List Itm) (i : Nat) : Nat := (layS sh0 ((L.map (·.1)).take i)).p
def szI (L : List Itm) (i : Nat) : Nat := sizesN ((L.map (·.1)).take i)
def nlI (L : List Itm) (i : Nat) : Nat := (layS sh0 ((L.map (·.1)).take i)).N.length
theorem pl_zero (L : List Itm) : plI L 0 = 0 ∧ szI L 0 = 0 ∧ nlI L 0 = 0 := ⟨rfl, rfl, rfl⟩
theorem sz_add (l : List Ri) (r : Ri) : sizesN (l ++ [r]) = sizesN l + (if r.k = 1 ∨ r.k = 4 then 0 else szN r) := by unfold sizesN; simp
section
variable {L : List Itm} (H : AsmOk L)
include H
omit H in
theorem at_pl {i : Nat} {x : Itm} (h : L[i]? = some x) : AtJ L i x (plI L i) := ⟨h, plcs_at _ sh0 i x.1 (by rw [List.getElem?_map, h]; rfl)⟩
omit H in
theorem sz_one {i : Nat} {x : Itm} (h : L[i]? = some x) : szI L (i + 1) = szI L i + (if x.1.k = 1 ∨ x.1.k = 4 then 0 else szN x.1) := by
  unfold szI
  rw [List.take_add_one, List.getElem?_map, h]
  exact sz_add _ _
theorem AsmOk.moved {i : Nat} {x : Itm} (h : L[i]? = some x) (hk : x.1.k = 4) : ((plI L (i + 1) : Nat) : Int) = x.1.a ∧ szI L (i + 1) = szI L i ∧ nlI L (i + 1) = nlI L i := by
  have ha := may_at (H.may (at_pl h)) hk
  have h1 : (L.map (·.1))[i]? = some x.1 := by rw [List.getElem?_map, h]; rfl
  refine ⟨?_, ?_, ?_⟩
  · unfold plI
    rw [layS_take _ sh0 i x.1 h1]
    unfold stS
    rw [if_neg (by omega), if_pos hk]
    show ((x.1.a.toNat : Nat) : Int) = x.1.a
    omega
  · rw [sz_one h, if_pos (.inr hk)]; rfl
  · unfold nlI
    rw [layS_take _ sh0 i x.1 h1]
    unfold stS
    rw [if_neg (by omega), if_pos hk]
omit H in
theorem at_named {i : Nat} {x : Itm} (h : L[i]? = some x) (hk : x.1.k = 1) : plI L (i + 1) = plI L i ∧ szI L (i + 1) = szI L i ∧ nlI L (i + 1) = nlI L i + 1 := by
  have h1 : (L.map (·.1))[i]? = some x.1 := by rw [List.getElem?_map, h]; rfl
  refine ⟨?_, ?_, ?_⟩
  · unfold plI
    rw [layS_take _ sh0 i x.1 h1]
    unfold stS
    rw [if_pos hk]
    rfl
  · rw [sz_one h, if_pos (.inl hk)]; rfl
  · unfold nlI
    rw [layS_take _ sh0 i x.1 h1]
    unfold stS
    rw [if_pos hk]
    rfl
theorem AsmOk.laid {i : Nat} {x : Itm} (h : L[i]? = some x) (k1 : x.1.k ≠ 1) (k4 : x.1.k ≠ 4) : plI L (i + 1) = plI L i + (flB (asmN L) x).length ∧ szI L (i + 1) = szI L i + (flB (asmN L) x).length ∧ nlI L (i + 1) = nlI L i := by
  have h1 : (L.map (·.1))[i]? = some x.1 := by rw [List.getElem?_map, h]; rfl
  have hn : ¬ (x.1.k = 1 ∨ x.1.k = 4) := fun e => e.elim k1 k4
  have hle := H.len (at_pl h)
  rw [if_neg hn] at hle
  refine ⟨?_, ?_, ?_⟩
  · unfold plI
    rw [layS_take _ sh0 i x.1 h1, hle]
    unfold stS
    rw [if_neg k1, if_neg k4]
    rfl
  · rw [sz_one h, if_neg hn, hle]
  · unfold nlI
    rw [layS_take _ sh0 i x.1 h1]
    unfold stS
    rw [if_neg k1, if_neg k4]
    rfl
theorem AsmOk.few : L.length ≤ 4096 := by
  have := (check_may H.c).1
  rw [List.length_map] at this
  exact this
theorem AsmOk.pl_le {i : Nat} (h : i < L.length) : plI L i ≤ 65536 := by
  obtain ⟨x, hx⟩ : ∃ x, L[i]? = some x := ⟨_, List.getElem?_eq_getElem h⟩
  have ha := at_pl hx
  exact (lay_fits _ sh0 0 sh0_ok H.all H.l i x.1 _ ha.r ha.2).1
theorem AsmOk.sz_le : ∀ i, i ≤ L.length → szI L i ≤ i * 65536
  | 0, _ => Nat.le_refl _
  | i + 1, h => by
    have ih := AsmOk.sz_le i (by omega)
    obtain ⟨x, hx⟩ : ∃ x, L[i]? = some x := ⟨_, List.getElem?_eq_getElem (by omega)⟩
    have hf := H.fits (at_pl hx)
    have hl := H.len (at_pl hx)
    have hf2 : (flB (asmN L) x).length ≤ 65536 := Nat.le_trans (Nat.le_add_left _ _) hf
    rw [sz_one hx]
    generalize szI L i = q at ih ⊢
    rw [hl] at hf2
    rw [Nat.add_mul, Nat.one_mul]
    exact Nat.add_le_add ih hf2
omit H in
theorem nl_le (i : Nat) (h : i ≤ L.length) : nlI L i ≤ i := by
  have := layS_len ((L.map (·.1)).take i) sh0
  unfold nlI
  rw [List.length_take, List.length_map] at this
  have e : sh0.N.length = 0 := rfl
  rw [e, Nat.zero_add] at this
  exact Nat.le_trans this (Nat.min_le_left _ _)
/-- At the end: as many bytes as the blocks have, as many labels as are told. -/
theorem AsmOk.end {x : Oo} (hB : plB x.B = blksF (asmMem L) [] (-1) (marksU (asmU L))) (hL : x.L = sortN (asmN L)) (hl : ∀ q ∈ x.B, q.2.length = q.1.m) : szI L L.length = sumK x.B ∧ nlI L L.length = x.L.length := by
  have e : (L.map (·.1)).take L.length = L.map (·.1) := List.take_of_length_le (by rw [List.length_map]; exact Nat.le_refl _)
  refine ⟨?_, ?_⟩
  · unfold szI
    rw [e, sumK_pl x.B hl, hB, H.sum]
  · unfold nlI
    rw [e, hL, H.labels]
    rfl
/-- An item's bytes, where the told bytes have them. -/
theorem AsmOk.told {x : Oo} (hB : plB x.B = blksF (asmMem L) [] (-1) (marksU (asmU L))) (hM : x.M = marksU (asmU L)) (hL : x.L = sortN (asmN L)) (hl : ∀ q ∈ x.B, q.2.length = q.1.m) {i : Nat} {y : Itm} (h : L[i]? = some y) (j : Nat) (b : UInt8) (hj : (flB (asmN L) y)[j]? = some b) : (bytL x 0 65536)[plI L i + j]? = some b := by
  have hlt : j < (flB (asmN L) y).length := (List.getElem?_eq_some_iff.1 hj).1
  have ha := at_pl h
  have hf := H.fits ha
  obtain ⟨ht, h2⟩ := H.takes ha (a := plI L i + j) (by omega) (by omega)
  have hu := H.use ha ht (a := plI L i + j) (by omega) h2
  have hm := H.mem ha (a := plI L i + j) (by omega) (by omega)
  have := (H.byt hB hM hL hl 0 65536 (by decide) (by decide)).2.2 (plI L i + j) (by omega)
  have e0 : ((0 : Nat) : Int) = 0 := rfl
  have e1 : ((65536 : Nat) : Int) = 65536 := rfl
  rw [e0, e1, Nat.zero_add, hu, hm, show plI L i + j - plI L i = j from by omega, hj] at this
  rw [this]
  have hne : useI y.1 ≠ 0 := by unfold useI; split <;> decide
  simp [hne]
end
/-- A part of 65536 bytes. -/
theorem slBoth (g p m : Nat) (h : p + m ≤ 65536) : ∃ od, (∀ v, (Instr.sliceAt 33 (.slice (some ⟨g, 0, none⟩) 65536 65536) (some (.int .i64 (p : Int))) (some (.int .i64 ((p : Int) + (m : Int)))) none).run Tryd.prog v = .ok (.slice (some ⟨g, od, none⟩) m (65536 - p)) v) ∧ (p < 65536 → od = p) := by
  refine ⟨if 65536 = p then 0 else p, fun v => ?_, fun h => if_neg (by omega)⟩
  have hu : Tryd.prog.underlying 33 = some (.slice (Tryd.prog.elem 33)) := by kernel_rfl
  rw [run_sliceAt_slice v _ _ _ _ _ hu, run_slice_lh v _ _ _ _ hu .i64 .i64 (p : Int) ((p : Int) + (m : Int)) (by omega) (by omega) (by omega)]
  have hz : ∀ v, (sizeOf (Tryd.prog.elem 33)).run Tryd.prog v = .ok 1 v := fun v => by kernel_rfl
  rw [hz]
  have e9 : ((p : Int) + (m : Int)).toNat = p + m := by omega
  have e8 : p + m - p = m := by omega
  by_cases e : 65536 = p
  · simp only [Result.andThen_ok, sliced, Int.toNat_natCast, e9, e8]
    rw [if_pos e, if_pos e]
  · simp only [Result.andThen_ok, sliced, Int.toNat_natCast, e9, e8]
    rw [if_neg e, if_neg e]
    simp [Addr.add_lit]
/-- What Bytes answers of a whole memory. -/
def MmE (w : World) (M : List UInt8) (e : Ending) (z : World) : Prop := ∃ g, e = .returned (.tuple #[.slice (some ⟨g, 0, none⟩) 65536 65536, .int .i64 0]) ∧ Hid (Below w.heap.size w z ∧ Bx z g (rU M) 5)
theorem bytes_all {L : List Itm} (H : AsmOk L) {x : Oo} (hB : plB x.B = blksF (asmMem L) [] (-1) (marksU (asmU L))) (hM : x.M = marksU (asmU L)) (hL : x.L = sortN (asmN L)) (w : World) (T : Hid (Tabs w)) (hx : Hid (Lco w x)) :
    Calls Tryd.prog 9 #[.agg (oC x), .int .i64 0, .int .i64 65536] w (MmE w (bytL x 0 65536)) := by
  have hb := H.byt hB hM hL (fun q hq => (hx.out.lo.g q hq).2) 0 65536 (by decide) (by decide)
  have e0 : ((0 : Nat) : Int) = 0 := rfl
  have e1 : ((65536 : Nat) : Int) = 65536 := rfl
  rw [e0, e1] at hb
  have c := obytes_any w T x hx 0 65536 (by unfold inI; omega) (by unfold inI; omega)
  refine c.mono fun e z h => ?_
  obtain ⟨p, c, rfl, h⟩ := h
  rw [hb.1]
  have hl : (bytL x 0 65536).length = 65536 := hb.2.1
  rcases h.out.2 with ⟨_, _, h0⟩ | ⟨g, rfl, _, rfl, hbx⟩
  · rw [h0] at hl; cases hl
  · rw [hl]
    exact ⟨g, rfl, h.out.1, hbx⟩
end Go.Proofs.YthbdpceobnkflaaDoor
