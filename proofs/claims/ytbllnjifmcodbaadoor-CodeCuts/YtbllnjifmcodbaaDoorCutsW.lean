/- vesperlaw02.CodeCuts, walked: any bytes are cut and written again as they were. -/
import Derived.Test.YtbllnjifmcodbaaDoorRow
namespace Go.Proofs.YtbllnjifmcodbaaDoor
open Go.RowKit
set_option linter.unusedVariables false
set_option maxHeartbeats 1000000
set_option maxRecDepth 20000

theorem dec_nil_any (w : World) : Calls Tryd.prog 11 #[.slice none 0 0] w fun e w' => e = .returned (.tuple #[.agg #[.string ⟨#[]⟩, .int .i64 0], .int .i64 0, .int .i64 22]) ∧ Below w.heap.size w w' := dec_nil w none 0

theorem cuts_end (w : World) (a0 : Option Addr) (cap0 : Nat) : Calls Tryd.prog 5 #[.slice a0 0 cap0] w fun e w' => e = .returned (.bool true) ∧ Below w.heap.size w w' := by
  go_enter Tryd.func5, Tryd.ntmps5
  go_wp2
  go_loopw [3] (fun i wr => i = .int .i64 0 ∧ wr = w) (fun _ _ => 0)
  case atStart => exact ⟨rfl, rfl⟩
  case round =>
    obtain ⟨rfl, rfl⟩ := hrel
    go_wp2_with (go_at_call 11; refine (dec_nil_any _).mono ?_; rintro e v1 ⟨rfl, hb1⟩)
    go_ret
    exact ⟨rfl, hb1.alloc hb1.size _⟩

theorem cuts_row (w : World) (T : Tabs w) (g off len cap : Nat) (B : Nat → Nat) (h1 : 0 < len) (h2 : len ≤ cap) (h3 : len ≤ 2147483647) (hB : Hid (∀ i, B i < 256)) (hg : g < w.heap.size) (hc : Hid (∀ i, i < len → w.cell? ⟨g, off + i, none⟩ = some (.int .u8 (B i : Nat)))) :
    Calls Tryd.prog 5 #[.slice (some ⟨g, off, none⟩) len cap] w fun e w' => e = .returned (.bool true) ∧ Below w.heap.size w w' := by
  go_enter Tryd.func5, Tryd.ntmps5
  go_wp2
  go_loopw [3] (fun i wr => ∃ k : Nat, k ≤ len ∧ i = .int .i64 (k : Int) ∧ Below w.heap.size w wr) (fun i _ => (len - intOf i).toNat)
  case atStart => exact ⟨0, by omega, rfl, Below.refl _ _⟩
  case round =>
    rename_i wr
    obtain ⟨k, hk, rfl, HB⟩ := hrel
    by_cases hlt : k < len
    · have Tr := T.below HB
      have hcr : ∀ i, i < len → wr.cell? ⟨g, off + i, none⟩ = some (.int .u8 (B i : Nat)) := fun i hi => (HB.cell (p := ⟨g, off + i, none⟩) hg).trans (hc.out i hi)
      have hgr : g < wr.heap.size := Nat.lt_of_lt_of_le hg HB.size
      obtain ⟨X, hX⟩ : ∃ X, Hid (nm (B k) = X) := ⟨_, (rfl : nm (B k) = nm (B k))⟩
      obtain ⟨L, hL⟩ : ∃ X, Hid (by1 (B k) = X) := ⟨_, (rfl : by1 (B k) = by1 (B k))⟩
      obtain ⟨A, hA⟩ : ∃ X, Hid (argOf (B k) (B (k + 1)) (B (k + 2)) = X) := ⟨_, (rfl : argOf (B k) (B (k + 1)) (B (k + 2)) = argOf (B k) (B (k + 1)) (B (k + 2)))⟩
      obtain ⟨F, hF⟩ : ∃ X, Hid (fm (B k) = X) := ⟨_, (rfl : fm (B k) = fm (B k))⟩
      obtain ⟨c, hc'⟩ : ∃ X, Hid (cyc (B k) = X) := ⟨_, (rfl : cyc (B k) = cyc (B k))⟩
      have hL13 : 1 ≤ L ∧ L ≤ 3 := by
        have := by1_eq (B k) (hB.out k)
        rw [hL.out] at this
        split at this
        · omega
        · split at this <;> omega
      obtain ⟨hL1, hL3⟩ := hL13
      have hI : ∀ v, Tabs v → Calls Tryd.prog 8 #[.int .u8 (B k : Nat)] v fun e v' => e = .returned (.agg #[.string X, .int .u8 F, .int .i64 L, .int .i64 c]) ∧ Below v.heap.size v v' := fun v Tv => info_of (B k) X F L c hX hF hL hc' v Tv (hB.out k)
      have ix := fun v => idxS (g := g) (off := off) (cap := cap) Tryd.underlying37 (s := 1) (by kernel_rfl) .i64 k v hlt
      simp only [Nat.mul_one] at ix
      have ck := hcr k hlt
      have hfd := fld2 X F L c
      by_cases hfit : L ≤ len - k
      · have hD : Calls Tryd.prog 11 #[.slice (some ⟨g, off + k, none⟩) (len - k) (cap - k)] wr fun e v' => e = .returned (.tuple #[.agg #[.string X, .int .i64 A], .int .i64 L, .int .i64 0]) ∧ Below wr.heap.size wr v' := by
          have := dec_row wr Tr g (off + k) (len - k) (cap - k) (B k) (B (k + 1)) (B (k + 2)) (hB.out _) (hB.out _) (hB.out _) (hcr k hlt) (fun h => by rw [hL.out] at h; exact hcr (k + 1) (by omega)) (fun h => by rw [hL.out] at h; exact hcr (k + 2) (by omega)) (by rw [hL.out]; exact hfit)
          rw [hX.out, hA.out, hL.out] at this
          exact this
        have hE : ∀ v, Tabs v → Calls Tryd.prog 12 #[.agg #[.string X, .int .i64 A]] v fun e v' => ∃ b, v.heap.size ≤ b ∧ e = .returned (.tuple #[.slice (some ⟨b, 0, none⟩) L L, .int .i64 0]) ∧
            (∀ j, j < L → v'.cell? ⟨b, j, none⟩ = some (.int .u8 (B (k + j) : Nat))) ∧ Below v.heap.size v v' := fun v Tv => by
          have := enc_rowB (B k) (B (k + 1)) (B (k + 2)) (hB.out _) (hB.out _) (hB.out _) v Tv
          rw [hX.out, hA.out, hL.out] at this
          refine this.mono ?_
          rintro e v' ⟨b, e1, e2, e3, e4⟩
          refine ⟨b, e1, e2, fun j hj => ?_, e4⟩
          rw [e3 j hj]
          have : j = 0 ∨ j = 1 ∨ j = 2 := by omega
          rcases this with rfl | rfl | rfl <;> rfl
        have hcs : ∀ v, Below wr.heap.size wr v → ∀ j, j < L → v.cell? ⟨g, off + k + j, none⟩ = some (.int .u8 (B (k + j) : Nat)) := fun v hv j hj => by
          rw [hv.cell (p := ⟨g, off + k + j, none⟩) hgr, Nat.add_assoc]
          exact hcr (k + j) (by omega)
        clear hcr
        go_wp2_with (first
          | (go_at_call 11; refine hD.mono ?_; rintro e v1 ⟨rfl, hb1⟩; have ck1 := (hb1.cell (p := ⟨g, off + k, none⟩) hgr).trans ck; have hg1 : g < v1.heap.size := Nat.lt_of_lt_of_le hgr hb1.size; have T1 : Tabs (v1.alloc (.cells #[.string X, .int .i64 A] 33)) := (Tr.below hb1).below ((Below.refl _ _).alloc (Nat.le_refl _) _))
          | (go_at_call 8; refine (hI _ T1).mono ?_; rintro e v2 ⟨rfl, hb2⟩; have T2 := T1.below hb2; have d0 : v2.cell? ⟨v1.heap.size, 0, none⟩ = some (.string X) := own_cell hb2 0; have d1 : v2.cell? ⟨v1.heap.size, 1, none⟩ = some (.int .i64 A) := own_cell hb2 1; replace hb2 := hb1.trans ((below_own hb2).mono hb1.size))
          | (go_at_call 12; refine (hE _ T2).mono ?_; rintro e v3 ⟨b, hbb, rfl, hbc, hb3⟩; replace hb3 := hb2.trans (hb3.mono hb2.size))
          | (go_at_call 15; refine (same_true v3 (some ⟨b, 0, none⟩) (some ⟨g, off + k, none⟩) L L _ (fun j => (B (k + j) : Nat)) (by omega) (fun j hj => ⟨b, 0, g, off + k, rfl, rfl, by rw [Nat.zero_add]; exact hbc j hj, hcs v3 hb3 j hj⟩)).mono ?_; rintro e v4 ⟨rfl, q, rfl⟩))
        go_roundw
        case rel => exact ⟨k + L, by omega, by simp, below_drewN (HB.trans (hb3.mono HB.size))⟩
        case measure => simp [intOf]; omega
      · have hD : Calls Tryd.prog 11 #[.slice (some ⟨g, off + k, none⟩) (len - k) (cap - k)] wr fun e v' => e = .returned (.tuple #[.agg #[.string ⟨#[]⟩, .int .i64 0], .int .i64 0, .int .i64 22]) ∧ Below wr.heap.size wr v' :=
          dec_less wr Tr g (off + k) (len - k) (cap - k) (B k) (hB.out _) (hcr k hlt) (by omega) (by rw [hL.out]; omega)
        clear hcr
        go_wp2_with (first
          | (go_at_call 11; refine hD.mono ?_; rintro e v1 ⟨rfl, hb1⟩; have ck1 := (hb1.cell (p := ⟨g, off + k, none⟩) hgr).trans ck; have hg1 : g < v1.heap.size := Nat.lt_of_lt_of_le hgr hb1.size; have T1 : Tabs (v1.alloc (.cells #[.string ⟨#[]⟩, .int .i64 0] 33)) := (Tr.below hb1).below ((Below.refl _ _).alloc (Nat.le_refl _) _))
          | (go_at_call 8; refine (hI _ T1).mono ?_; rintro e v2 ⟨rfl, hb2⟩; have d0 : v2.cell? ⟨v1.heap.size, 0, none⟩ = some (.string ⟨#[]⟩) := own_cell hb2 0; have d1 : v2.cell? ⟨v1.heap.size, 1, none⟩ = some (.int .i64 0) := own_cell hb2 1; replace hb2 := hb1.trans ((below_own hb2).mono hb1.size)))
        go_ret
        exact ⟨rfl, HB.trans (hb2.mono HB.size)⟩
    · have hk' : k = len := by omega
      subst hk'
      go_wp2_with (go_at_call 11; refine (dec_nil_any _).mono ?_; rintro e v1 ⟨rfl, hb1⟩)
      go_ret
      exact ⟨rfl, (HB.trans (hb1.mono HB.size)).alloc (Nat.le_trans HB.size hb1.size) _⟩

theorem cuts_big (w : World) (a0 : Option Addr) (len cap0 : Nat) (h : 2147483647 < len) : Calls Tryd.prog 5 #[.slice a0 len cap0] w fun e w' => e = .returned (.bool true) ∧ Below w.heap.size w w' := by
  go_enter Tryd.func5, Tryd.ntmps5
  go_wp2
  go_ret
  exact ⟨rfl, Below.refl _ _⟩

/-- The law, whole. -/
theorem cuts_any (a0 : Option Addr) (len0 cap0 : Nat) (z0 : List Int) (w : World) (T : Tabs w) (w0 : IsRow .u8 w a0 len0 cap0 z0) :
    Calls Tryd.prog 5 #[.slice a0 len0 cap0] w fun e w' => e = .returned (.bool true) ∧ Below w.heap.size w w' := by
  rcases Nat.eq_zero_or_pos len0 with rfl | h0
  · exact cuts_end w a0 cap0
  · by_cases hb : 2147483647 < len0
    · exact cuts_big w a0 len0 cap0 hb
    · obtain ⟨g, off, B, rfl, h1, h2, h3, h4, h5⟩ := w0.open1 h0
      exact cuts_row w T g off len0 cap0 B h0 h1 (by omega) h3 h4 h5
end Go.Proofs.YtbllnjifmcodbaaDoor
