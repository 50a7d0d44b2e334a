/- Rows laid on a page: what is done with each dot, and the whole. -/
import Derived.Test.YtfkifppadngmdaaD2
import Derived.Test.YtfkifppadngmdaaLc
namespace Go.Proofs.Ytfkifppadngmdaa
open Go Go.RowKit Go.Shelf
set_option linter.unusedVariables false
set_option maxHeartbeats 1000000
set_option maxRecDepth 20000

/-- What stands while rows are laid on a page. -/
def DwF (w : World) (bR D bD bL bT bG : Nat) (sv : Value) (L T : Nat) (s : List UInt8 × Bool) (y : World) : Prop :=
  Fm w [(bR, #[sv], 22), (D, rowB s.1, 5), (bD, #[.slice (some ⟨D, 0, none⟩) 256 256], 22), (bL, #[.int .i64 (L : Int)], 3), (bT, #[.int .i64 (T : Int)], 3), (bG, #[.bool s.2], 4)] y
theorem fm_drew {w : World} {l : List (Nat × Array Value × TypeId)} {y : World} (h : Fm w l y) {n : Nat} : Fm w l (y.drewN n) := h.below (below_drewN (Below.refl _ _))
theorem plc_at (x y : Nat) (rows : List UInt8) (i j : Nat) (hi : i < 8) : plc x y rows (8 * j + i) = if rows.getD j 0 &&& mk i = 0 ∨ 64 ≤ x % 64 + i ∨ 32 ≤ y % 32 + j then none else some (64 * (y % 32 + j) + (x % 64 + i)) := by
  unfold plc
  rw [show (8 * j + i) / 8 = j by omega, show (8 * j + i) % 8 = i by omega]
theorem draw1_any (w y : World) (bR D bD bL bT bG cap x yy i j : Nat) (spR : Option Addr) (rows p : List UInt8) (hp : p.length = 256) (hr : rows.length ≤ 15) (hi : i < 8) (hj : j < rows.length) (hl : Hid (LB w spR rows))
    (K : Hid (DwF w bR D bD bL bT bG (.slice spR rows.length cap) (x % 64) (yy % 32) (drawS x yy rows p (8 * j + i)) y)) :
    Calls Try.prog 71 #[.int .i64 (i : Int), .int .i64 (j : Int), .pointer (some ⟨bR, 0, none⟩), .pointer (some ⟨bL, 0, none⟩), .pointer (some ⟨bT, 0, none⟩), .pointer (some ⟨bG, 0, none⟩), .pointer (some ⟨bD, 0, none⟩)] y fun e y' => e = .returned (.tuple #[]) ∧ DwF w bR D bD bL bT bG (.slice spR rows.length cap) (x % 64) (yy % 32) (drawS x yy rows p (8 * j + i + 1)) y' := by
  obtain ⟨gr, ro, rfl⟩ := lb_some hl.out (by omega)
  have hlen : (drawS x yy rows p (8 * j + i)).1.length = 256 := by rw [draw_len, hp]
  have hstep : drawS x yy rows p (8 * j + i + 1) = stepD x yy rows (drawS x yy rows p (8 * j + i)) (8 * j + i) := rfl
  rw [hstep]
  unfold stepD
  rw [plc_at x yy rows i j hi]
  obtain ⟨⟨q, g⟩, hs⟩ : ∃ s, drawS x yy rows p (8 * j + i) = s := ⟨_, rfl⟩
  rw [hs] at K hlen ⊢
  dsimp only at hlen
  have cA := lb_at (hl.out.below K.out.low) j hj
  obtain ⟨A, hA⟩ : ∃ A, rows.getD j 0 = A := ⟨_, rfl⟩
  rw [hA] at cA ⊢
  obtain ⟨M, hM⟩ : ∃ M, mk i = M := ⟨_, rfl⟩
  have hbit := fun w => bit_any w i hi
  rw [hM] at hbit ⊢
  have cR := (K.out.bx 0 _ _ _ rfl).c 0 (.slice (some ⟨gr, ro, none⟩) rows.length cap) rfl
  have cD := (K.out.bx 2 _ _ _ rfl).c 0 (.slice (some ⟨D, 0, none⟩) 256 256) rfl
  have cL := (K.out.bx 3 _ _ _ rfl).c 0 (.int .i64 ((x % 64 : Nat) : Int)) rfl
  have cT := (K.out.bx 4 _ _ _ rfl).c 0 (.int .i64 ((yy % 32 : Nat) : Int)) rfl
  have cG := (K.out.bx 5 _ _ _ rfl).c 0 (.bool g) rfl
  obtain ⟨n, hn⟩ : ∃ n, rows.length = n := ⟨_, rfl⟩
  rw [hn] at cR K ⊢
  have hjn : j < n := by omega
  have hjb : (j : Int) < 15 := by omega
  have hib : (i : Int) < 8 := by omega
  have ix := fun v => idxB .i64 gr ro n cap j v hjn
  have qa := and8 A M
  obtain ⟨z, hz⟩ : ∃ z, (A &&& M).toNat = z := ⟨_, rfl⟩
  obtain ⟨a, ha⟩ : ∃ a, A.toNat = a := ⟨_, rfl⟩
  obtain ⟨m, hm⟩ : ∃ m, M.toNat = m := ⟨_, rfl⟩
  rw [hz, ha, hm] at qa
  rw [ha] at cA
  rw [hm] at hbit
  obtain ⟨X, hX⟩ : ∃ X, x % 64 = X := ⟨_, rfl⟩
  obtain ⟨Y, hY⟩ : ∃ Y, yy % 32 = Y := ⟨_, rfl⟩
  have hXb : (X : Int) < 64 := by omega
  have hYb : (Y : Int) < 32 := by omega
  rw [hX, hY] at K ⊢
  rw [hX] at cL
  rw [hY] at cT
  clear hX hY hn hM hA hs hstep hl hp hr hj
  by_cases h1 : A &&& M = 0
  · rw [if_pos (.inl h1)]
    have q0 : ((z : Int) == 0) = true := by rw [← hz, zero8, h1]; rfl
    clear h1 hz ha hm
    go_enter Try.func71, Try.ntmps71
    go_wp2
    go_quiet ((go_at_call 72; exact Calls.quiet_of_same (hbit _)))
    go_wp2
    refine bodyPost_ret (results_none rfl _ _ _) rfl ?_
    exact ⟨rfl, fm_drew K.out⟩
  have q0 : ((z : Int) == 0) = false := by rw [← hz, zero8]; simpa using h1
  clear hz ha hm
  by_cases h2 : 64 ≤ X + i
  · rw [if_pos (.inr (.inl h2))]
    have q1 : decide ((64 : Int) ≤ (X : Int) + (i : Int)) = true := by simp; omega
    clear h1
    go_enter Try.func71, Try.ntmps71
    go_wp2
    go_quiet ((go_at_call 72; exact Calls.quiet_of_same (hbit _)))
    go_wp2
    refine bodyPost_ret (results_none rfl _ _ _) rfl ?_
    exact ⟨rfl, fm_drew K.out⟩
  have q1 : decide ((64 : Int) ≤ (X : Int) + (i : Int)) = false := by simp; omega
  by_cases h3 : 32 ≤ Y + j
  · rw [if_pos (.inr (.inr h3))]
    have q2 : decide ((32 : Int) ≤ (Y : Int) + (j : Int)) = true := by simp; omega
    clear h1
    go_enter Try.func71, Try.ntmps71
    go_wp2
    go_quiet ((go_at_call 72; exact Calls.quiet_of_same (hbit _)))
    go_wp2
    refine bodyPost_ret (results_none rfl _ _ _) rfl ?_
    exact ⟨rfl, fm_drew K.out⟩
  have q2 : decide ((32 : Int) ≤ (Y : Int) + (j : Int)) = false := by simp; omega
  rw [if_neg (by rintro (h | h | h); exact h1 h; omega; omega)]
  obtain ⟨N, hN⟩ : ∃ N, 64 * (Y + j) + (X + i) = N := ⟨_, rfl⟩
  have hdot : ∀ w, Calls Try.prog 73 #[.int .i64 ((X : Int) + (i : Int)), .int .i64 ((Y : Int) + (j : Int))] w fun e w' => e = .returned (.tuple #[.int .i64 ((N / 8 : Nat) : Int), .int .u8 ((mk (N % 8)).toNat : Int)]) ∧ w' = w := fun w => by
    have := dot_any w (X + i) (Y + j) (by omega) (by omega)
    rw [hN] at this
    exact this
  obtain ⟨at8, h8⟩ : ∃ a, N / 8 = a := ⟨_, rfl⟩
  obtain ⟨k8, hk8⟩ : ∃ a, N % 8 = a := ⟨_, rfl⟩
  have hat : at8 < 256 := by omega
  have hati : (at8 : Int) < 256 := by omega
  have cP : ∀ z : World, Bx z D (rowB q) 5 → z.cell? ⟨D, at8, none⟩ = some (.int .u8 ((q.getD at8 0).toNat : Int)) := fun z hz => hz.c at8 _ (rowB_get q at8 (by omega))
  have e2 : (flipP q N, g || bitP q N) = (q.set at8 (q.getD at8 0 ^^^ mk k8), g || (q.getD at8 0 &&& mk k8 != 0)) := by unfold flipP bitP; rw [h8, hk8]
  have iy := fun v => idxB .i64 D 0 256 256 at8 v hat
  rw [Nat.zero_add] at iy
  rw [h8, hk8] at hdot
  dsimp only
  rw [hN, e2]
  have cP0 := cP y (K.out.bx 1 _ _ _ rfl)
  obtain ⟨O, hO⟩ : ∃ O, q.getD at8 0 = O := ⟨_, rfl⟩
  obtain ⟨Mk, hMk⟩ : ∃ M, mk k8 = M := ⟨_, rfl⟩
  rw [hO, hMk]
  rw [hO] at cP0
  rw [hMk] at hdot
  have qo := and8 O Mk
  have qx := xor8 O Mk
  have fG := (K.out.bx 5 _ _ _ rfl).fz 0
  obtain ⟨c, hc⟩ : ∃ c, (O &&& Mk != 0) = c := ⟨_, rfl⟩
  have qc : (((O &&& Mk).toNat : Int) != 0) = c := by rw [nzero8]; exact hc
  rw [hc]
  have K3 : Hid (∀ v b, DwF w bR D bD bL bT bG (.slice (some ⟨gr, ro, none⟩) n cap) X Y (q, b) v → DwF w bR D bD bL bT bG (.slice (some ⟨gr, ro, none⟩) n cap) X Y (q.set at8 (O ^^^ Mk), b) (v.setCell ⟨D, at8, none⟩ (.int .u8 ((O ^^^ Mk).toNat : Int)))) := fun v b hv =>
    Fm.setCell hv 1 D (rowB q) (rowB (q.set at8 (O ^^^ Mk))) 5 rfl at8 _ (rowB_set q at8 (O ^^^ Mk))
  obtain ⟨P2, hP2⟩ : ∃ P2, q.set at8 (O ^^^ Mk) = P2 := ⟨_, rfl⟩
  rw [hP2] at K3 ⊢
  obtain ⟨u, hu⟩ : ∃ u, (O ^^^ Mk).toNat = u := ⟨_, rfl⟩
  obtain ⟨t, ht⟩ : ∃ t, (O &&& Mk).toNat = t := ⟨_, rfl⟩
  obtain ⟨o, ho⟩ : ∃ o, O.toNat = o := ⟨_, rfl⟩
  obtain ⟨mm, hmm⟩ : ∃ mm, Mk.toNat = mm := ⟨_, rfl⟩
  rw [hu] at K3 qx
  rw [ht] at qo qc
  rw [ho, hmm] at qx qo
  rw [ho] at cP0
  rw [hmm] at hdot
  have K2 : Hid (∀ v, DwF w bR D bD bL bT bG (.slice (some ⟨gr, ro, none⟩) n cap) X Y (q, g) v → DwF w bR D bD bL bT bG (.slice (some ⟨gr, ro, none⟩) n cap) X Y (q, g || c) (v.setCell ⟨bG, 0, none⟩ (.bool (g || c)))) := fun v hv => Fm.setCell hv 5 bG #[.bool g] #[.bool (g || c)] 4 rfl 0 _ rfl
  have cP1 : Hid (∀ v b, DwF w bR D bD bL bT bG (.slice (some ⟨gr, ro, none⟩) n cap) X Y (q, b) v → v.cell? ⟨bD, 0, none⟩ = some (.slice (some ⟨D, 0, none⟩) 256 256) ∧ v.cell? ⟨D, at8, none⟩ = some (.int .u8 (o : Int)) ∧ v.frozen? ⟨D, at8, none⟩ = false) := fun v b hv => ⟨(Fm.bx hv 2 _ _ _ rfl).c 0 _ rfl, by rw [cP v (Fm.bx hv 1 _ _ _ rfl), hO, ho], (Fm.bx hv 1 _ _ _ rfl).fz _⟩
  clear h1 h2 h3 hN h8 hk8 hO hMk hc hati hu ht ho hmm hP2 cP
  go_enter Try.func71, Try.ntmps71
  go_wp2
  go_quiet ((go_at_call 72; exact Calls.quiet_of_same (hbit _)))
  have K1 : Hid (DwF w bR D bD bL bT bG (.slice (some ⟨gr, ro, none⟩) n cap) X Y (q, g) (y.drewN nq)) := fm_drew K.out
  generalize y.drewN nq = y1 at K1 ⊢
  clear K cA cR cD cL cT cG cP0 fG
  have cD := (K1.out.bx 2 _ _ _ rfl).c 0 (.slice (some ⟨D, 0, none⟩) 256 256) rfl
  have cL := (K1.out.bx 3 _ _ _ rfl).c 0 (.int .i64 (X : Int)) rfl
  have cT := (K1.out.bx 4 _ _ _ rfl).c 0 (.int .i64 (Y : Int)) rfl
  have cG := (K1.out.bx 5 _ _ _ rfl).c 0 (.bool g) rfl
  have fG := (K1.out.bx 5 _ _ _ rfl).fz 0
  have cP0 := (cP1.out y1 _ K1.out).2.1
  cases g
  · rw [Bool.false_or] at K2
    go_wp2_with (first
      | ((with_reducible refine gen_world (y1.setCell ⟨bG, 0, none⟩ (.bool c)) (DwF w bR D bD bL bT bG (.slice (some ⟨gr, ro, none⟩) n cap) X Y (q, c)) ?_ ?_); exact K2.out y1 K1.out; intro y2 H2; have d1 := (cP1.out y2 _ H2.out).1; have d2 := (cP1.out y2 _ H2.out).2.1; have d3 := (cP1.out y2 _ H2.out).2.2)
      | (go_at_call 73; refine (hdot _).mono ?_; rintro e y1 ⟨rfl, rfl⟩))
    go_end0
    exact ⟨rfl, K3.out y2 _ H2.out⟩
  · rw [Bool.true_or] at K2
    go_wp2_with (first
      | ((with_reducible refine gen_world (y1.setCell ⟨bG, 0, none⟩ (.bool true)) (DwF w bR D bD bL bT bG (.slice (some ⟨gr, ro, none⟩) n cap) X Y (q, true)) ?_ ?_); exact K2.out y1 K1.out; intro y2 H2; have d1 := (cP1.out y2 _ H2.out).1; have d2 := (cP1.out y2 _ H2.out).2.1; have d3 := (cP1.out y2 _ H2.out).2.2)
      | (go_at_call 73; refine (hdot _).mono ?_; rintro e y1 ⟨rfl, rfl⟩))
    go_end0
    exact ⟨rfl, K3.out y2 _ H2.out⟩
/-- What Draw answers. -/
def drawA (p : List UInt8) (x y : Nat) (rows : List UInt8) : List UInt8 × Bool × Int :=
  if p.length = 256 ∧ rows.length ≤ 15 then ((drawS x y rows p (8 * rows.length)).1, (drawS x y rows p (8 * rows.length)).2, 0) else ([], false, 1)
end Go.Proofs.Ytfkifppadngmdaa
