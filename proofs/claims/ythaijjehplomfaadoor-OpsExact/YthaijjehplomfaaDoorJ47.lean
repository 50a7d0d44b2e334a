/- The law's book: rows of bytes that were told and that are wanted, each in memory of its own. -/
import Derived.Test.YthaijjehplomfaaDoorJ46
namespace Go.Proofs.YthaijjehplomfaaDoor
open Go Go.RowKit
set_option linter.unusedVariables false
set_option maxHeartbeats 1000000
set_option maxRecDepth 20000

/-- A slice's head. -/
abbrev Sl6 : Type := Option Addr × Nat × Nat
def slV (x : Sl6) : Value := .slice x.1 x.2.1 x.2.2
theorem infoBs : (Tryd.prog.info? 45).map (fun i => (i.zero, i.size, i.bytes)) = some (some (.slice none 0 0), 1, 24) := by kernel_rfl
theorem kT1 : KdL (α := Sl6) 24 45 1 24 (fun x => [slV x]) := by
  obtain ⟨i, hi, hz0, hz1, hz2⟩ := info_parts infoBs
  exact ⟨Tryd.underlying24, ⟨i, _, hi, hz0, hz1, hz2, rfl⟩, fun _ => rfl, fun x v hv => by simp [slV] at hv; subst hv; rfl, by decide, by decide⟩
abbrev Rw6 : Type := Sl6 × List UInt8
/-- The book: its box, the rows of heads, the rows told (from lo on as they were told) and wanted. -/
structure Bk6 (w : World) (K : Nat) (vT vW : Value) (hT hW : List Sl6) (lo : Nat) (T W : List Rw6) (z : World) : Prop where
  box : Bx z K #[vT, vW] 26
  oT : OwnL 45 1 (fun x => [slV x]) w.heap.size z vT hT
  oW : OwnL 45 1 (fun x => [slV x]) w.heap.size z vW hW
  hd : ∀ g, vT.ownBlock = some g → vW.ownBlock ≠ some g
  rT : ∀ (i : Nat) (x : Rw6), lo ≤ i → T[i]? = some x → OwnL 5 1 cU w.heap.size z (slV x.1) x.2
  rW : ∀ (i : Nat) (x : Rw6), W[i]? = some x → OwnL 5 1 cU w.heap.size z (slV x.1) x.2
  aT : ∀ (i j : Nat) (x y : Rw6) (g : Nat), T[i]? = some x → T[j]? = some y → i ≠ j → (slV x.1).ownBlock = some g → (slV y.1).ownBlock ≠ some g
  aW : ∀ (i j : Nat) (x y : Rw6) (g : Nat), T[i]? = some x → W[j]? = some y → (slV x.1).ownBlock = some g → (slV y.1).ownBlock ≠ some g
  gK : w.heap.size ≤ K
  low : Below w.heap.size w z
theorem Bk6.keep {w : World} {K : Nat} {vT vW : Value} {hT hW : List Sl6} {lo : Nat} {T W : List Rw6} {z z' : World} (h : Bk6 w K vT vW hT hW lo T W z) (hb : Below z.heap.size z z') : Bk6 w K vT vW hT hW lo T W z' :=
  ⟨(hb.block _ (heap_lt h.box)).trans h.box, h.oT.below hb, h.oW.below hb, h.hd, fun i x hi hx => (h.rT i x hi hx).below hb, fun i x hx => (h.rW i x hx).below hb, h.aT, h.aW, h.gK, h.low.trans (hb.mono h.low.size)⟩
theorem Bk6.nil (w : World) : Bk6 w w.heap.size (.slice none 0 0) (.slice none 0 0) [] [] 0 [] [] (w.alloc (.cells #[.slice none 0 0, .slice none 0 0] 26)) :=
  ⟨alloc_last' _ _, OwnL.nil _ _, OwnL.nil _ _, fun g h => (by cases h), fun i x _ h => (by simp at h), fun i x h => (by simp at h), fun i j x y g h => (by simp at h), fun i j x y g h => (by simp at h), Nat.le_refl _, below1 _ _⟩
theorem snoc6 {α : Type} {l : List α} {a b : α} {i : Nat} (h : (l ++ [a])[i]? = some b) : l[i]? = some b ∨ (i = l.length ∧ b = a) := by
  rcases Nat.lt_or_ge i l.length with hi | hi
  · rw [List.getElem?_append_left hi] at h
    exact .inl h
  · rw [List.getElem?_append_right hi] at h
    have hj : i - l.length = 0 := by
      have := (List.getElem?_eq_some_iff.1 h).1
      simp at this
      omega
    rw [hj] at h
    injection h with h
    exact .inr ⟨by omega, h.symm⟩
/-- A row that was told, a row that is wanted. -/
theorem Bk6.rows {w : World} {K : Nat} {vT vW : Value} {hT hW : List Sl6} {T W : List Rw6} {z z1 z2 : World} (h : Bk6 w K vT vW hT hW 0 T W z) {a b : Rw6} (b1 : Below z.heap.size z z1) (o1 : OwnL 5 1 cU z.heap.size z1 (slV a.1) a.2) (b2 : Below z1.heap.size z1 z2) (o2 : OwnL 5 1 cU z1.heap.size z2 (slV b.1) b.2) :
    Bk6 w K vT vW hT hW 0 (T ++ [a]) (W ++ [b]) z2 := by
  have b12 : Below z.heap.size z z2 := b1.trans (b2.mono b1.size)
  have h2 := h.keep b12
  have o1' := o1.below b2
  have lw : w.heap.size ≤ z.heap.size := h.low.size
  have l1 : z.heap.size ≤ z1.heap.size := b1.size
  refine ⟨h2.box, h2.oT, h2.oW, h.hd, fun i x hi hx => ?_, fun i x hx => ?_, fun i j x y g hx hy hij e e' => ?_, fun i j x y g hx hy e e' => ?_, h.gK, h2.low⟩
  · rcases snoc6 hx with hx | ⟨_, rfl⟩
    · exact h2.rT i x hi hx
    · exact o1'.weak lw
  · rcases snoc6 hx with hx | ⟨_, rfl⟩
    · exact h2.rW i x hx
    · exact o2.weak (by omega)
  · rcases snoc6 hx with hx' | ⟨hi, rfl⟩ <;> rcases snoc6 hy with hy' | ⟨hj, rfl⟩
    · exact h.aT i j x y g hx' hy' hij e e'
    · have := (h.rT i x (Nat.zero_le _) hx').lt g e
      have := o1.lt g e'
      omega
    · have := (h.rT j y (Nat.zero_le _) hy').lt g e'
      have := o1.lt g e
      omega
    · exact hij (hi.trans hj.symm)
  · rcases snoc6 hx with hx' | ⟨hi, rfl⟩ <;> rcases snoc6 hy with hy' | ⟨hj, rfl⟩
    · exact h.aW i j x y g hx' hy' e e'
    · have := (h.rT i x (Nat.zero_le _) hx').lt g e
      have := o2.lt g e'
      omega
    · have := (h.rW j y hy').lt g e'
      have := o1.lt g e
      omega
    · have := o1.lt g e
      have := o2.lt g e'
      omega
/-- A head put behind the told. -/
theorem Bk6.appT {w : World} {K : Nat} {vT vW vT' : Value} {hT hW : List Sl6} {lo : Nat} {T W : List Rw6} {x : Sl6} {z z2 : World} (h : Bk6 w K vT vW hT hW lo T W z) (A : App1L 45 1 (fun x => [slV x]) w.heap.size vT hT x vT' z z2) :
    Bx z2 K #[vT, vW] 26 ∧ Bk6 w K vT' vW (hT ++ [x]) hW lo T W (z2.setCell ⟨K, 0, none⟩ vT') := by
  have blk : ∀ g, g < z.heap.size → vT.ownBlock ≠ some g → z2.heap[g]? = z.heap[g]? := fun g hg hn => A.cu.blk g hg fun j hF => hn hF.1
  have ofT : ∀ g cs t, t ≠ 45 → Bx z g cs t → vT.ownBlock ≠ some g := fun g cs t ht hx e => by
    obtain ⟨cs2, h2⟩ := h.oT.ty g e
    exact absurd rfl (Bx.unlike hx h2 ht)
  have hbx : Bx z2 K #[vT, vW] 26 := (blk K (heap_lt h.box) (ofT _ _ _ (by decide) h.box)).trans h.box
  have oth : ∀ q, q ≠ K → (z2.setCell ⟨K, 0, none⟩ vT').heap[q]? = z2.heap[q]? := fun q hq => heap_setCell_other z2 ⟨K, 0, none⟩ q vT' hq
  have nK : ∀ {t : TypeId} {l : Type} {c : l → List Value} {v : Value} {r : List l} {zz : World}, t ≠ 26 → OwnL t 1 c w.heap.size zz v r → Bx zz K #[vT, vW] 26 → v.ownBlock ≠ some K := fun ht ho hx e => by
    obtain ⟨cs2, h2⟩ := ho.ty K e
    exact absurd rfl (Bx.unlike h2 hx ht)
  have rowK : ∀ {v : Value} {r : List UInt8}, OwnL 5 1 cU w.heap.size z v r → OwnL 5 1 cU w.heap.size (z2.setCell ⟨K, 0, none⟩ vT') v r := fun ho => ho.keepB fun g e => by
    obtain ⟨cs2, h2⟩ := ho.ty g e
    exact (oth g fun e' => nK (by decide) ho h.box (e' ▸ e)).trans (blk g (ho.lt g e).2 (ofT _ _ _ (by decide) h2))
  refine ⟨hbx, heap_setCell_same z2 K 0 _ _ vT' hbx, A.own.keepB fun g e => oth g fun e' => nK (by decide) A.own hbx (e' ▸ e), h.oW.keepB fun g e => (oth g fun e' => nK (by decide) h.oW h.box (e' ▸ e)).trans (blk g (h.oW.lt g e).2 fun e2 => h.hd g e2 e), fun g e e' => ?_, fun i y hi hy => rowK (h.rT i y hi hy), fun i y hy => rowK (h.rW i y hy), h.aT, h.aW, h.gK, (h.low.trans A.cu.low).trans ((Below.refl _ z2).setCell (p := ⟨K, 0, none⟩) h.gK vT')⟩
  rcases A.new g e with h1 | h1
  · exact h.hd g h1 e'
  · have := (h.oW.lt g e').2
    omega
/-- A head put behind the wanted. -/
theorem Bk6.appW {w : World} {K : Nat} {vT vW vW' : Value} {hT hW : List Sl6} {lo : Nat} {T W : List Rw6} {x : Sl6} {z z2 : World} (h : Bk6 w K vT vW hT hW lo T W z) (A : App1L 45 1 (fun x => [slV x]) w.heap.size vW hW x vW' z z2) :
    Bx z2 K #[vT, vW] 26 ∧ Bk6 w K vT vW' hT (hW ++ [x]) lo T W (z2.setCell ⟨K, 1, none⟩ vW') := by
  have blk : ∀ g, g < z.heap.size → vW.ownBlock ≠ some g → z2.heap[g]? = z.heap[g]? := fun g hg hn => A.cu.blk g hg fun j hF => hn hF.1
  have ofT : ∀ g cs t, t ≠ 45 → Bx z g cs t → vW.ownBlock ≠ some g := fun g cs t ht hx e => by
    obtain ⟨cs2, h2⟩ := h.oW.ty g e
    exact absurd rfl (Bx.unlike hx h2 ht)
  have hbx : Bx z2 K #[vT, vW] 26 := (blk K (heap_lt h.box) (ofT _ _ _ (by decide) h.box)).trans h.box
  have oth : ∀ q, q ≠ K → (z2.setCell ⟨K, 1, none⟩ vW').heap[q]? = z2.heap[q]? := fun q hq => heap_setCell_other z2 ⟨K, 1, none⟩ q vW' hq
  have nK : ∀ {t : TypeId} {l : Type} {c : l → List Value} {v : Value} {r : List l} {zz : World}, t ≠ 26 → OwnL t 1 c w.heap.size zz v r → Bx zz K #[vT, vW] 26 → v.ownBlock ≠ some K := fun ht ho hx e => by
    obtain ⟨cs2, h2⟩ := ho.ty K e
    exact absurd rfl (Bx.unlike h2 hx ht)
  have rowK : ∀ {v : Value} {r : List UInt8}, OwnL 5 1 cU w.heap.size z v r → OwnL 5 1 cU w.heap.size (z2.setCell ⟨K, 1, none⟩ vW') v r := fun ho => ho.keepB fun g e => by
    obtain ⟨cs2, h2⟩ := ho.ty g e
    exact (oth g fun e' => nK (by decide) ho h.box (e' ▸ e)).trans (blk g (ho.lt g e).2 (ofT _ _ _ (by decide) h2))
  refine ⟨hbx, heap_setCell_same z2 K 1 _ _ vW' hbx, h.oT.keepB fun g e => (oth g fun e' => nK (by decide) h.oT h.box (e' ▸ e)).trans (blk g (h.oT.lt g e).2 fun e2 => h.hd g e e2), A.own.keepB fun g e => oth g fun e' => nK (by decide) A.own hbx (e' ▸ e), fun g e e' => ?_, fun i y hi hy => rowK (h.rT i y hi hy), fun i y hy => rowK (h.rW i y hy), h.aT, h.aW, h.gK, (h.low.trans A.cu.low).trans ((Below.refl _ z2).setCell (p := ⟨K, 1, none⟩) h.gK vW')⟩
  rcases A.new g e' with h1 | h1
  · exact h.hd g e h1
  · have := (h.oT.lt g e).2
    omega
/-- A told row written over. -/
theorem Bk6.over {w : World} {K : Nat} {vT vW : Value} {hT hW : List Sl6} {i : Nat} {T W : List Rw6} {x : Rw6} {z z' : World} (h : Bk6 w K vT vW hT hW i T W z) (hx : T[i]? = some x) (hb : ∀ g, (slV x.1).ownBlock ≠ some g → z'.heap[g]? = z.heap[g]?) (low : Below w.heap.size z z') : Bk6 w K vT vW hT hW (i + 1) T W z' := by
  have hox := h.rT i x (Nat.le_refl _) hx
  have ne : ∀ g cs t, t ≠ 5 → Bx z g cs t → (slV x.1).ownBlock ≠ some g := fun g cs t ht hb2 e => by
    obtain ⟨cs2, h2⟩ := hox.ty g e
    exact absurd rfl (Bx.unlike hb2 h2 ht)
  refine ⟨(hb K (ne _ _ _ (by decide) h.box)).trans h.box, h.oT.keepB fun g e => ?_, h.oW.keepB fun g e => ?_, h.hd, fun j y hj hy => (h.rT j y (by omega) hy).keepB fun g e => hb g fun e' => h.aT i j x y g hx hy (by omega) e' e, fun j y hy => (h.rW j y hy).keepB fun g e => hb g fun e' => h.aW i j x y g hx hy e' e, h.aT, h.aW, h.gK, h.low.trans low⟩
  · obtain ⟨cs2, h2⟩ := h.oT.ty g e
    exact hb g (ne _ _ _ (by decide) h2)
  · obtain ⟨cs2, h2⟩ := h.oW.ty g e
    exact hb g (ne _ _ _ (by decide) h2)
end Go.Proofs.YthaijjehplomfaaDoor
