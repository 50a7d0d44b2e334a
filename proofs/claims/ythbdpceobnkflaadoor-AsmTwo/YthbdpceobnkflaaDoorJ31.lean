/- The statements' own: items that are too many; how many bytes an object has. The statements' own: how many bytes an object has. A branch alone: what the plain assembler makes of it. Marks of one run of code, of any length. The statements' own first source: what the plain assembler makes of it. A branch alone: the statement's own walk. The statements' own awake: the walk. -/
import Derived.Test.YthbdpceobnkflaaDoorJ30
import Derived.Test.YthbdpceobnkflaaDoorJ29
namespace Go.Proofs.YthbdpceobnkflaaDoor
open Go Go.RowKit
set_option linter.unusedVariables false
set_option maxHeartbeats 3000000
set_option maxRecDepth 20000

def VsE (w : World) (l : List Ri) (e : Ending) (w' : World) : Prop := ∃ b, e = .returned (.bool b) ∧ Hid (Below w.heap.size w w' ∧ (b = false → l.length ≤ 2147483647 ∧ ∀ r ∈ l, r.m ≤ 2147483647))
theorem vast14_any (w : World) (sp : Option Addr) (cap : Nat) (l : List Ri) (hl : Hid (LiesL 6 c6 w sp l)) (hn : l.length ≤ 140737488355328) (hm : ∀ r ∈ l, r.m ≤ 140737488355328) :
    Calls Tryd.prog 6 #[.slice sp l.length cap] w (VsE w l) := by
  obtain ⟨n, hn'⟩ : ∃ n, l.length = n := ⟨_, rfl⟩
  have hnn : Hid (l.length = n) := hn'
  rw [hn'] at hn ⊢
  have n1 : (n : Int) ≤ 140737488355328 := by omega
  have hmm : Hid (∀ x ∈ l, x.m ≤ 140737488355328) := hm
  have K0 : Hid (Below w.heap.size w w) := Below.refl _ _
  clear hn hn' hm
  go_enter Tryd.func6, Tryd.ntmps6
  go_wp2
  go_loopw [3, 4] (fun s t wz => ∃ (N : Int) (i : Nat) (y : World), y = wz ∧ s = .int .i64 N ∧ t = .int .i64 (i : Int) ∧ Hid (i ≤ n ∧ (n : Int) ≤ N ∧ N ≤ 562949953421312 ∧ ∀ x ∈ l.take i, (x.m : Int) ≤ N) ∧ Hid (Below w.heap.size w y)) (fun _ t _ => (n - intOf t).toNat)
  case atStart => exact ⟨(n : Int), 0, _, rfl, rfl, rfl, ⟨Nat.zero_le _, Int.le_refl _, by omega, fun x hx => by simp at hx⟩, K0⟩
  case round =>
    obtain ⟨N, i, y, rfl, rfl, rfl, J, K⟩ := hrel
    have N0 := J.out.2.1
    by_cases hbig : 2147483647 < N
    · by_cases hlt : i < n
      · have hii : (i : Int) < n := by omega
        go_wp2
        go_ret
        exact ⟨_, rfl, K.out, fun h => by simp at h⟩
      · have hie : i = n := by have := J.out.1; omega
        subst hie
        clear hlt
        go_wp2
        go_ret
        exact ⟨_, rfl, K.out, fun h => by simp at h⟩
    · by_cases hlt : i < n
      · obtain ⟨x, hx⟩ : ∃ x, l[i]? = some x := ⟨_, List.getElem?_eq_getElem (by rw [hnn.out]; exact hlt)⟩
        obtain ⟨gb, o, rfl, hcx⟩ := hl.out i x hx
        have hxm := hmm.out x (List.mem_of_getElem? hx)
        have c1 := range_keep hcx K.out 5 (.slice x.sp x.m x.cap) rfl
        have ij := fun w => idxP (P := Tryd.prog) (g := gb) (off := o) (len := n) (cap := cap) Tryd.underlying22 (s := 6) (by kernel_rfl) .i64 i w hlt
        have hii : (i : Int) < n := by omega
        have hlt' : Hid (i < n) := hlt
        have J9 : Hid (i + 1 ≤ n ∧ (n : Int) ≤ N + x.m ∧ N + x.m ≤ 562949953421312 ∧ ∀ q ∈ l.take (i + 1), (q.m : Int) ≤ N + x.m) := by
          refine ⟨hlt, by omega, by omega, fun q hq => ?_⟩
          rw [List.take_add_one, hx] at hq
          rcases List.mem_append.1 hq with h | h
          · have := J.out.2.2.2 q h; omega
          · simp at h
            subst h
            omega
        obtain ⟨L, hL⟩ : ∃ L, x.m = L := ⟨_, rfl⟩
        rw [hL] at J9 c1 hxm
        have Li : (L : Int) ≤ 140737488355328 := by omega
        have wl : IntKind.i64.wrap (N + L) = N + L := by rw [IntKind.wrap_i64]; omega
        clear hlt hx hcx hL hxm J
        go_wp2
        go_roundw
        case rel => exact ⟨_, i + 1, _, rfl, rfl, by simp, J9, K⟩
        case measure => have := hlt'.out; simp [intOf]; omega
      · have hie : i = n := by have := J.out.1; omega
        subst hie
        clear hlt
        go_wp2
        go_ret
        refine ⟨_, rfl, K.out, fun h => ?_⟩
        have h2 := J.out.2.2.2
        rw [List.take_of_length_le (by rw [hnn.out]; exact Nat.le_refl _)] at h2
        exact ⟨by rw [hnn.out]; omega, fun x hx => by have := h2 x hx; omega⟩
end Go.Proofs.YthbdpceobnkflaaDoor

namespace Go.Proofs.YthbdpceobnkflaaDoor
open Go Go.RowKit
set_option linter.unusedVariables false
set_option maxHeartbeats 3000000
set_option maxRecDepth 20000

def sumK (B : List Bb) : Nat := (B.map (fun b => b.1.m)).sum
theorem sumK_take (B : List Bb) (i : Nat) (x : Bb) (h : B[i]? = some x) : sumK (B.take (i + 1)) = sumK (B.take i) + x.1.m := by
  unfold sumK
  rw [List.take_add_one, h]
  simp
theorem sumK_le (B : List Bb) (h : ∀ x ∈ B, x.1.m ≤ 2147483647) : sumK B ≤ B.length * 2147483647 := by
  induction B with
  | nil => exact Nat.le_refl _
  | cons b r ih =>
    have h1 := h b (by simp)
    have h2 := ih (fun x hx => h x (by simp [hx]))
    have e : sumK (b :: r) = b.1.m + sumK r := by unfold sumK; simp
    rw [e, List.length_cons, Nat.add_mul]
    omega
theorem sumK_pl (B : List Bb) (h : ∀ x ∈ B, x.2.length = x.1.m) : sumK B = sumB (plB B) := by
  unfold sumK sumB plB
  rw [List.map_map]
  congr 1
  exact List.map_congr_left fun x hx => (h x hx).symm
theorem count_any (w : World) (ob : Oo) (h : Hid (Lo w ob)) : Calls Tryd.prog 18 #[.agg (oC ob)] w fun e w' => e = .returned (.int .i64 (sumK ob.B : Int)) ∧ Hid (Below w.heap.size w w') := by
  have K0 : Hid (Fm w [(w.heap.size, oC ob, 29)] (w.alloc (.cells (oC ob) 29))) := Fm.one w _ _
  obtain ⟨n, hn'⟩ : ∃ n, ob.B.length = n := ⟨_, rfl⟩
  have hnn : Hid (ob.B.length = n) := hn'
  obtain ⟨bp, hbp⟩ : ∃ q, ob.bp = q := ⟨_, rfl⟩
  obtain ⟨bc, hbc⟩ : ∃ q, ob.bc = q := ⟨_, rfl⟩
  obtain ⟨S, hS⟩ : ∃ S, sumK ob.B = S := ⟨_, rfl⟩
  have hd : Hid (∀ y, Fm w [(w.heap.size, oC ob, 29)] y → y.cell? ⟨w.heap.size, 0, none⟩ = some (.slice bp n bc)) := fun y hy => by
    have h0 := (hy.bx 0 _ _ _ rfl).c 0 (.slice ob.bp ob.B.length ob.bc) rfl
    rw [hbp, hn', hbc] at h0
    exact h0
  have hl : Hid (LiesL 2 cK w bp (ob.B.map (·.1))) := by rw [← hbp]; exact h.out.b
  have hmm : Hid (∀ x ∈ ob.B, x.1.m ≤ 2147483647) := fun x hx => (h.out.ib x hx).2
  have n1 : (n : Int) ≤ 2147483647 := by have := h.out.n.1; omega
  have hSS : Hid (sumK ob.B = S) := hS
  rw [hS]
  clear hn' hbp hbc hS h
  have e0 := hd.out _ K0.out
  go_enter Tryd.func18, Tryd.ntmps18
  go_wp2
  go_loopw [3, 4] (fun s t wz => ∃ (N : Nat) (i : Nat) (y : World), y = wz ∧ s = .int .i64 (N : Int) ∧ t = .int .i64 (i : Int) ∧ Hid (i ≤ n ∧ N = sumK (ob.B.take i)) ∧ Hid (Fm w [(w.heap.size, oC ob, 29)] y)) (fun _ t _ => (n - intOf t).toNat)
  case atStart => exact ⟨0, 0, _, rfl, rfl, rfl, ⟨Nat.zero_le _, rfl⟩, K0⟩
  case round =>
    clear e0
    obtain ⟨N, i, y, rfl, rfl, rfl, J, K⟩ := hrel
    have e0 := hd.out _ K.out
    by_cases hlt : i < n
    · obtain ⟨x, hx⟩ : ∃ x, ob.B[i]? = some x := ⟨_, List.getElem?_eq_getElem (by rw [hnn.out]; exact hlt)⟩
      obtain ⟨gb, o, rfl, hcx⟩ := hl.out i x.1 (by rw [List.getElem?_map, hx]; rfl)
      have hxm := hmm.out x (List.mem_of_getElem? hx)
      have c1 := range_keep hcx K.out.low 1 (.slice x.1.sp x.1.m x.1.cap) rfl
      have ij := fun w => idxP (P := Tryd.prog) (g := gb) (off := o) (len := n) (cap := bc) Tryd.underlying25 (s := 2) (by kernel_rfl) .i64 i w hlt
      have hii : (i : Int) < n := by omega
      have hlt' : Hid (i < n) := hlt
      have hN : (N : Int) ≤ 4611686014132420609 := by
        have h1 := sumK_le (ob.B.take i) (fun q hq => hmm.out q (List.mem_of_mem_take hq))
        rw [← J.out.2, List.length_take, hnn.out] at h1
        have h2 : min i n * 2147483647 ≤ 2147483647 * 2147483647 := Nat.mul_le_mul_right _ (by omega)
        omega
      have J9 : Hid (i + 1 ≤ n ∧ N + x.1.m = sumK (ob.B.take (i + 1))) := ⟨hlt, by rw [sumK_take _ _ _ hx, ← J.out.2]⟩
      obtain ⟨L, hL⟩ : ∃ L, x.1.m = L := ⟨_, rfl⟩
      rw [hL] at J9 c1 hxm
      have Li : (L : Int) ≤ 2147483647 := by omega
      have wl : IntKind.i64.wrap ((N : Int) + L) = (N : Int) + L := by rw [IntKind.wrap_i64]; omega
      clear hlt hx hcx hL hxm J
      go_wp2
      go_roundw
      case rel => exact ⟨N + L, i + 1, _, rfl, by simp, by simp, J9, K⟩
      case measure => have := hlt'.out; simp [intOf]; omega
    · have hie : i = n := by have := J.out.1; omega
      subst hie
      obtain rfl : N = S := by
        have := J.out.2
        rw [List.take_of_length_le (by rw [hnn.out]; exact Nat.le_refl _), hSS.out] at this
        exact this
      clear hlt
      go_wp2
      go_ret
      exact ⟨rfl, K.out.low⟩
end Go.Proofs.YthbdpceobnkflaaDoor

namespace Go.Proofs.YthbdpceobnkflaaDoor
open Go Go.RowKit
set_option linter.unusedVariables false
set_option maxHeartbeats 1000000
set_option maxRecDepth 20000

theorem rEnd_eq (U : List UInt8) (u : UInt8) (e' : Nat) (hs : U[e']? ≠ some u) : ∀ (d e : Nat), e + d = e' → (∀ k, e ≤ k → k < e' → U[k]? = some u) → rEnd U u e = e'
  | 0, e, h, _ => by
    obtain rfl : e = e' := by omega
    exact rEnd_stop hs
  | d + 1, e, h, hk => by
    rw [rEnd_step (hk e (Nat.le_refl _) (by omega))]
    exact rEnd_eq U u e' hs d (e + 1) (by omega) (fun k h1 h2 => hk k (by omega) h2)
end Go.Proofs.YthbdpceobnkflaaDoor

namespace Go.Proofs.YthbdpceobnkflaaDoor
open Go Go.RowKit
set_option linter.unusedVariables false
set_option maxHeartbeats 1000000
set_option maxRecDepth 20000

theorem marks_run (U : List UInt8) (A n : Nat) (hn : 1 ≤ n) (hA : A + n ≤ 65536) (hU : ∀ k, U[k]? = if A ≤ k ∧ k < A + n then some 1 else if k < 65536 then some 0 else none) : marksU U = [⟨(A : Int), (n : Int), true⟩] := by
  have tl : ∀ f, mks U (f + 2) (A + n) = [] := fun f => by
    by_cases h : A + n = 65536
    · unfold mks
      rw [hU, if_neg (by omega), if_neg (by omega)]
    · have e0 : rEnd U 0 (A + n + 1) = 65536 := rEnd_eq U 0 65536 (by rw [hU, if_neg (by omega), if_neg (by omega)]; simp) (65536 - (A + n + 1)) _ (by omega) (fun k h1 h2 => by rw [hU, if_neg (by omega), if_pos h2])
      unfold mks
      rw [hU, if_neg (by omega), if_pos (by omega)]
      simp only [if_true, List.nil_append]
      rw [e0]
      unfold mks
      rw [hU, if_neg (by omega), if_neg (by omega)]
  have e1 : rEnd U 1 (A + 1) = A + n := rEnd_eq U 1 (A + n) (by rw [hU, if_neg (by omega)]; split <;> simp) (n - 1) _ (by omega) (fun k h1 h2 => by rw [hU, if_pos (by omega)])
  have md : ∀ f, mks U (f + 3) A = [⟨(A : Int), (n : Int), true⟩] := fun f => by
    unfold mks
    rw [hU, if_pos (by omega)]
    simp only
    rw [if_neg (by decide), e1, tl f]
    simp only [List.append_nil, List.cons.injEq, Mk.mk.injEq, and_true, true_and, decide_true]
    omega
  have al : ∀ f, mks U (f + 4) 0 = [⟨(A : Int), (n : Int), true⟩] := fun f => by
    by_cases h : A = 0
    · subst h
      exact md (f + 1)
    · have e0 : rEnd U 0 (0 + 1) = A := rEnd_eq U 0 A (by rw [hU, if_pos (by omega)]; simp) (A - 1) _ (by omega) (fun k h1 h2 => by rw [hU, if_neg (by omega), if_pos (by omega)])
      unfold mks
      rw [hU, if_neg (by omega), if_pos (by omega)]
      simp only [if_true, List.nil_append]
      rw [e0]
      exact md f
  exact al 65532
end Go.Proofs.YthbdpceobnkflaaDoor

namespace Go.Proofs.YthbdpceobnkflaaDoor
open Go Go.RowKit
set_option linter.unusedVariables false
set_option maxHeartbeats 1000000
set_option maxRecDepth 20000

def aB : ByteArray := ⟨#[97]⟩
def aw0 : Ri := ⟨1, aB, 0, ⟨#[]⟩, 0, none, 0, 0⟩
def aw1 : Ri := ⟨2, ⟨#[76, 68, 73]⟩, 5, ⟨#[]⟩, 0, none, 0, 0⟩
def aw2 : Ri := ⟨2, ⟨#[66, 82]⟩, 0, aB, 1, none, 0, 0⟩
def awL : List Itm := [(aw0, []), (aw1, []), (aw2, [])]
theorem aw_may : mayI aw0 = true ∧ mayI aw1 = true ∧ mayI aw2 = true ∧ szN aw1 = 2 ∧ szN aw2 = 2 := by decide +kernel
theorem aw_check : checkE (awL.map (·.1)) = 0 := by decide +kernel
theorem aw_lay (U : List UInt8) (hL : U.length = 65536) (hU : ∀ x ∈ U, x = 0) :
    layE ⟨0, U, []⟩ (awL.map (·.1)) 0 = none ∧ layS ⟨0, U, []⟩ (awL.map (·.1)) = ⟨4, splice (splice U 0 (List.replicate 2 1)) 2 (List.replicate 2 1), [(aB, 0)]⟩ ∧ plcs ⟨0, U, []⟩ (awL.map (·.1)) = [0, 0, 2] := by
  obtain ⟨_, _, _, z1, z2⟩ := aw_may
  have a0 : stE ⟨0, U, []⟩ aw0 = 0 ∧ stS ⟨0, U, []⟩ aw0 = ⟨0, U, [(aB, 0)]⟩ := ⟨rfl, rfl⟩
  have any0 : ∀ (V : List UInt8) (p : Nat), (∀ k, p ≤ k → k < p + 2 → V[k]? = some 0) → ((V.drop p).take 2).any (fun u => decide (u ≠ 0)) = false := fun V p h => by
    rw [List.any_eq_false]
    intro x hx
    obtain ⟨k, hk⟩ := List.getElem?_of_mem hx
    rw [List.getElem?_take] at hk
    split at hk
    · rename_i hlt
      rw [List.getElem?_drop, h (p + k) (by omega) (by omega)] at hk
      simp at hk
      simp [← hk]
    · cases hk
  have u0 : ∀ k, k < 65536 → U[k]? = some 0 := fun k hk => by
    rw [List.getElem?_eq_getElem (by omega), hU _ (List.getElem_mem _)]
  have a1 : stE ⟨0, U, [(aB, 0)]⟩ aw1 = 0 ∧ stS ⟨0, U, [(aB, 0)]⟩ aw1 = ⟨2, splice U 0 (List.replicate 2 1), [(aB, 0)]⟩ := by
    obtain ⟨e1, e2⟩ := st_U (s := ⟨0, U, [(aB, 0)]⟩) (r := aw1) ⟨by decide, by decide⟩
    rw [e1, e2, z1]
    refine ⟨?_, rfl⟩
    unfold clE
    rw [if_neg (by simp only; omega), any0 U 0 (fun k _ h => u0 k (by omega))]
    rfl
  have a2 : stE ⟨2, splice U 0 (List.replicate 2 1), [(aB, 0)]⟩ aw2 = 0 ∧ stS ⟨2, splice U 0 (List.replicate 2 1), [(aB, 0)]⟩ aw2 = ⟨4, splice (splice U 0 (List.replicate 2 1)) 2 (List.replicate 2 1), [(aB, 0)]⟩ := by
    obtain ⟨e1, e2⟩ := st_U (s := ⟨2, splice U 0 (List.replicate 2 1), [(aB, 0)]⟩) (r := aw2) ⟨by decide, by decide⟩
    rw [e1, e2, z2]
    refine ⟨?_, rfl⟩
    unfold clE
    rw [if_neg (by simp only; omega), any0 _ 2 (fun k h1 h2 => by
      rw [spliceL_at _ _ _ (by rw [List.length_replicate, hL]; omega), List.length_replicate, if_neg (by omega)]
      exact u0 k (by omega))]
    rfl
  show layE ⟨0, U, []⟩ [aw0, aw1, aw2] 0 = none ∧ layS ⟨0, U, []⟩ [aw0, aw1, aw2] = _ ∧ plcs ⟨0, U, []⟩ [aw0, aw1, aw2] = _
  refine ⟨?_, ?_, ?_⟩
  · simp only [layE, a0.1, a0.2, a1.1, a1.2, a2.1, if_true]
  · simp only [layS, a0.2, a1.2, a2.2]
  · simp only [plcs, a0.2, a1.2]
theorem aw_fil : filE [(aB, 0)] (awL.zip [0, 0, 2]) 0 = none := by decide +kernel
theorem aw_bytes : flB [(aB, 0)] (aw0, []) = [] ∧ flB [(aB, 0)] (aw1, []) = [248, 5] ∧ flB [(aB, 0)] (aw2, []) = [48, 0] := by decide +kernel
/-- What the object is. -/
theorem aw_obj : AsmOk awL ∧ blksF (asmMem awL) [] (-1) (marksU (asmU awL)) = [(0, [248, 5, 48, 0])] ∧ marksU (asmU awL) = [⟨0, 4, true⟩] ∧ sortN (asmN awL) = [⟨aB, 0⟩] := by
  obtain ⟨R, hR⟩ : ∃ R, R = List.replicate 65536 (0 : UInt8) := ⟨_, rfl⟩
  have hRl : R.length = 65536 := by rw [hR, List.length_replicate]
  have hl := aw_lay R hRl (fun x hx => List.eq_of_mem_replicate (by rw [← hR]; exact hx))
  have h0 : sh0 = ⟨0, R, []⟩ := by rw [hR]; rfl
  rw [← h0] at hl
  have hN : asmN awL = [(aB, 0)] := by unfold asmN; rw [hl.2.1]
  have hU : asmU awL = splice (splice R 0 (List.replicate 2 1)) 2 (List.replicate 2 1) := by unfold asmU; rw [hl.2.1]
  have hZ : zipP awL = awL.zip [0, 0, 2] := by unfold zipP; rw [hl.2.2]
  have hok : AsmOk awL := ⟨aw_check, hl.1, by rw [hN, hZ]; exact aw_fil, fun x hx => by
    simp only [awL, List.mem_cons, List.not_mem_nil, or_false] at hx
    rcases hx with rfl | rfl | rfl <;> rfl⟩
  have hM : asmMem awL = splice (splice R 0 [248, 5]) 2 [48, 0] := by
    obtain ⟨b0, b1, b2⟩ := aw_bytes
    unfold asmMem
    rw [hN, hZ, ← hR]
    show filM [(aB, 0)] R [((aw0, []), 0), ((aw1, []), 0), ((aw2, []), 2)] = _
    simp only [filM, b0, b1, b2, splice_nil]
  have hK : marksU (asmU awL) = [⟨0, 4, true⟩] := by
    have := marks_run (asmU awL) 0 4 (by omega) (by omega) (fun k => by
      have l1 : (splice R 0 (List.replicate 2 (1 : UInt8))).length = 65536 := by rw [length_splice _ _ _ (by rw [List.length_replicate, hRl]; omega), hRl]
      rw [hU, spliceL_at _ _ _ (by rw [List.length_replicate, l1]; omega), List.length_replicate, spliceL_at _ _ _ (by rw [List.length_replicate, hRl]; omega), List.length_replicate]
      by_cases h4 : k < 4
      · rw [if_pos (by omega : 0 ≤ k ∧ k < 0 + 4)]
        by_cases h2 : 2 ≤ k
        · rw [if_pos (by omega), List.getElem?_replicate, if_pos (by omega)]
        · rw [if_neg (by omega), if_pos (by omega), List.getElem?_replicate, if_pos (by omega)]
      · rw [if_neg (by omega), if_neg (by omega), if_neg (by omega), hR, List.getElem?_replicate])
    exact this
  refine ⟨hok, ?_, hK, ?_⟩
  · rw [hK, hM]
    have e : ((splice (splice R 0 [248, 5]) 2 [48, 0]).drop 0).take 4 = [248, 5, 48, 0] := by
      have l1 : (splice R 0 [248, 5]).length = 65536 := by rw [length_splice _ _ _ (by simp [hRl]), hRl]
      apply List.ext_getElem?
      intro k
      rw [List.getElem?_take, List.drop_zero]
      by_cases hk : k < 4
      · rw [if_pos hk, spliceL_at _ _ _ (by simp [l1]), spliceL_at _ _ _ (by simp [hRl])]
        have : k = 0 ∨ k = 1 ∨ k = 2 ∨ k = 3 := by omega
        rcases this with rfl | rfl | rfl | rfl <;> rfl
      · rw [if_neg hk]
        symm
        rw [List.getElem?_eq_none_iff]
        simp
        omega
    have e' : segM (splice (splice R 0 [248, 5]) 2 [48, 0]) ⟨0, 4, true⟩ = [248, 5, 48, 0] := e
    unfold blksF bst
    rw [e']
    rfl
  · rw [hN]
    unfold sortN
    simp [toLa]
end Go.Proofs.YthbdpceobnkflaaDoor

namespace Go.Proofs.YthbdpceobnkflaaDoor
open Go Go.RowKit
set_option linter.unusedVariables false
set_option maxHeartbeats 3000000
set_option maxRecDepth 20000

theorem infoIt9 : (Tryd.prog.info? 40).map (fun i => (i.zero, i.size, i.bytes)) = some (some (.agg (i6 z0)), 6, 80) := by kernel_rfl
theorem lies_items {z : World} {g : Nat} {l : List Ri} {t : TypeId} (h : Bx z g (rowL c6 l).toArray t) : LiesL 6 c6 z (some ⟨g, 0, none⟩) l := fun j a hj => ⟨g, 0, rfl, bxL_range (c := c6) (fun x => rfl) h j a hj⟩
end Go.Proofs.YthbdpceobnkflaaDoor

namespace Go.Proofs.YthbdpceobnkflaaDoor
open Go Go.RowKit
set_option linter.unusedVariables false
set_option maxHeartbeats 3000000
set_option maxRecDepth 20000

theorem lb8_conv {w : World} {sp : Option Addr} {l : List UInt8} (h : LB8 w sp l) (hne : l ≠ []) (cap : Nat) : (convert 33 9 (.slice sp l.length cap)).run Tryd.prog w = .ok (.string ⟨l.toArray⟩) w := by
  cases sp with
  | none =>
    cases l with
    | nil => exact absurd rfl hne
    | cons a r => obtain ⟨g, o, e, _⟩ := h 0 a rfl; cases e
  | some a =>
    refine run_convert_bytes_back (P := Tryd.prog) w 33 9 5 a cap l Tryd.underlying33 Tryd.underlying5 Tryd.underlying9 (fun j hj => ?_)
    obtain ⟨g, o, e, c⟩ := h j l[j] (List.getElem?_eq_getElem hj)
    cases e
    rw [Addr.add_lit]
    exact c
theorem aw_fill : Instr.fill (fun i => some (i * 6, 6)) ((Array.range (3 * 6)).map ((Value.agg (i6 z0)).cells[· % (Value.agg (i6 z0)).cells.size]!)) [(0, .agg (i6 aw0)), (1, .agg (i6 aw1)), (2, .agg (i6 aw2))] = some (rowL c6 (awL.map (·.1))).toArray := by kernel_rfl
theorem at_bs3 {ops : Array Oper} {rest : List Oper} {o : Oper} {a : Act} {w : World} {Q : Exit → Act → World → Prop} (x0 x1 x2 : Operand) (hgd : o.guard = none) (ho : o.op = .buildSlice 22 3 #[(0, x0), (1, x1), (2, x2)]) (h0 : a.eval x0 = .agg (i6 aw0)) (h1 : a.eval x1 = .agg (i6 aw1)) (h2 : a.eval x2 = .agg (i6 aw2))
    (h : wpList Tryd.prog ops Q rest (a.put o.dst (.slice (some ⟨w.heap.size, 0, none⟩) 3 3)) (w.alloc (.cells (rowL c6 (awL.map (·.1))).toArray 40))) : wpList Tryd.prog ops Q (o :: rest) a w := wpList_plain hgd fun _ hK => by
  obtain ⟨i, hi, hz0, hz1, hz2⟩ := info_parts infoIt9
  refine wp_buildSlice 22 40 3 #[(0, x0), (1, x1), (2, x2)] ho (rowL c6 (awL.map (·.1))).toArray i _ Tryd.underlying22 hi hz0 (by rw [hz1]; decide) (by rw [hz1]; decide) ?_ (hK _ _ h)
  rw [hz1]
  have e : (#[(0, x0), (1, x1), (2, x2)].map fun (i, x) => (i, a.eval x)).toList = [(0, .agg (i6 aw0)), (1, .agg (i6 aw1)), (2, .agg (i6 aw2))] := by simp [h0, h1, h2]
  rw [e]
  exact aw_fill
/-- What Assemble answers. -/
theorem asm_aw (v : World) (Tb : Hid (Tabs v)) (sp : Option Addr) (cap : Nat) (hl : Hid (LiesL 6 c6 v sp (awL.map (·.1)))) :
    Calls Tryd.prog 8 #[.slice sp 3 cap] v fun e z => ∃ x, e = .returned (.tuple #[.agg (oC x), .int .i64 0, .int .i64 0]) ∧ Hid (Below v.heap.size v z ∧ Lco z x ∧ plB x.B = [(0, [248, 5, 48, 0])] ∧ x.L = [⟨aB, 0⟩]) := by
  obtain ⟨H, o1, o2, o3⟩ := aw_obj
  refine (assemble_any v Tb sp cap awL hl (fun x hx => by
    simp only [awL, List.mem_cons, List.not_mem_nil, or_false] at hx
    rcases hx with rfl | rfl | rfl <;> exact ⟨lb_nil _ _, rfl⟩) (by show 3 ≤ 9223372036854775807; decide)).mono fun e z h => ?_
  rcases h with ⟨E, k, rfl, h⟩ | ⟨x, rfl, h⟩
  · exfalso
    rcases h.out.2 with ⟨h1, _⟩ | ⟨_, i, h1, h2⟩ | ⟨_, h1, i, h2, h3⟩
    · exact h1 H.c
    · rw [H.l] at h1; cases h1
    · have hf : filE (layS sh0 (awL.map (·.1))).N (awL.zip (plcs sh0 (awL.map (·.1)))) 0 = none := H.f
      rw [hf] at h2
      cases h2
  · obtain ⟨hb, hx, _, h1, h2, h3, h4, h5⟩ := h.out
    rw [o1] at h3
    rw [o3] at h5
    exact ⟨x, rfl, hb, hx, h3, h5⟩
theorem awake14_any (w : World) (Tb : Hid (Tabs w)) : Calls Tryd.prog 7 #[] w fun e w' => e = .returned (.bool true) ∧ Hid (Below w.heap.size w w') := by
  have K1 : Hid (Fm w [(w.heap.size, (rowL c6 (awL.map (·.1))).toArray, 40)] (w.alloc (.cells (rowL c6 (awL.map (·.1))).toArray 40))) := Fm.one w _ _
  have hAs : Hid (∀ v, Fm w [(w.heap.size, (rowL c6 (awL.map (·.1))).toArray, 40)] v → Calls Tryd.prog 8 #[.slice (some ⟨w.heap.size, 0, none⟩) 3 3] v fun e z => ∃ x, e = .returned (.tuple #[.agg (oC x), .int .i64 0, .int .i64 0]) ∧ Hid (Below v.heap.size v z ∧ Lco z x ∧ plB x.B = [(0, [248, 5, 48, 0])] ∧ x.L = [⟨aB, 0⟩])) := fun v h => asm_aw v (Tb.out.below h.low) _ 3 (lies_items (h.bx 0 _ _ _ rfl))
  go_enter Tryd.func7, Tryd.ntmps7
  go_wp2_with (first
    | ((with_reducible refine at_bs3 (.tmp 5) (.tmp 6) (.tmp 7) ?_ ?_ ?_ ?_ ?_ ?_); rfl; rfl; rfl; rfl; rfl)
    | ((with_reducible refine gen_world (w.alloc (.cells (rowL c6 (awL.map (·.1))).toArray 40)) (Fm w [(w.heap.size, (rowL c6 (awL.map (·.1))).toArray, 40)]) K1.out ?_); intro y2 K2; have hAz := hAs.out y2 K2.out)
    | (go_at_call 8; refine hAz.mono ?_; rintro e y3 ⟨x, rfl, H3⟩; clear hAz; have K3 : Hid (Fm w [(w.heap.size, (rowL c6 (awL.map (·.1))).toArray, 40)] y3) := K2.out.below H3.out.1)
    | ((with_reducible refine gen_world (y3.alloc (.cells #[.slice none 0 0, .slice none 0 0, .slice none 0 0] 29)) (fun y => Fm w [(w.heap.size, (rowL c6 (awL.map (·.1))).toArray, 40), (y3.heap.size, oC zO, 29)] y ∧ Below y3.heap.size y3 y) ?_ ?_); exact ⟨K3.out.new _ _, Below.alloc (Below.refl _ _) (Nat.le_refl _) _⟩; intro y4 K4)
    | ((with_reducible refine at_st rtO y3.heap.size (oC zO) (oC x) ?_ ?_ ?_ ?_ (.tmp 1) (.tmp 10) ?_ ?_ ?_ ?_ ?_); exact K4.out.1.bx 1 _ _ _ rfl; rfl; rfl; exact oneO _; rfl; rfl; rfl; rfl; intro y5 hw5; have K : Hid (Fm w [(w.heap.size, (rowL c6 (awL.map (·.1))).toArray, 40), (y3.heap.size, oC x, 29)] y5) := K4.out.1.put 1 _ _ _ _ rfl hw5.out; have V5 : Hid (Below y3.heap.size y3 y5) := K4.out.2.trans (hw5.out.2.1 _ (Nat.le_refl _)); clear hw5 K4 K3; refine stopAt ?_))
  obtain ⟨bx, hbx⟩ : ∃ q, y3.heap.size = q := ⟨_, rfl⟩
  have hX : Hid (Lco y5 x) := H3.out.2.1.below V5.out
  have hB := H3.out.2.2.1
  have hLl := H3.out.2.2.2
  obtain ⟨q, hq⟩ : ∃ q, x.B = [q] := by
    have := congrArg List.length hB
    unfold plB at this
    rw [List.length_map] at this
    exact List.length_eq_one_iff.1 this
  have h1 : q.2 = [248, 5, 48, 0] := by
    rw [hq] at hB
    have : (q.1.a, q.2) = ((0 : Int), [248, 5, 48, 0]) := by simpa [plB] using hB
    exact congrArg Prod.snd this
  obtain ⟨gb, o, hbp, hcx⟩ := hX.out.lo.b 0 q.1 (by rw [hq]; rfl)
  have hg := hX.out.lo.g q (by rw [hq]; simp)
  have h2 : q.1.m = 4 := by rw [← hg.2, h1]; rfl
  have c0 : y5.cell? ⟨bx, 0, none⟩ = some (.slice (some ⟨gb, o, none⟩) 1 x.bc) := by
    have := (K.out.bx 1 _ _ _ rfl).c 0 (.slice x.bp x.B.length x.bc) rfl
    rw [hbx, hbp, hq] at this
    exact this
  have c2 : y5.cell? ⟨bx, 2, none⟩ = some (.slice x.lp 1 x.lc) := by
    have := (K.out.bx 1 _ _ _ rfl).c 2 (.slice x.lp x.L.length x.lc) rfl
    rw [hbx, hLl] at this
    exact this
  have c1 : y5.cell? ⟨gb, o + 0 * 2 + 1, none⟩ = some (.slice q.1.sp 4 q.1.cap) := by
    have := hcx 1 (.slice q.1.sp q.1.m q.1.cap) rfl
    rw [h2] at this
    exact this
  have c1' : y5.cell? ⟨gb, o + 1, none⟩ = some (.slice q.1.sp 4 q.1.cap) := by simpa using c1
  have ij : ∀ v, (Instr.indexAt 25 (.slice (some ⟨gb, o, none⟩) 1 x.bc) (.int .i64 0)).run Tryd.prog v = .ok (.pointer (some ⟨gb, o, none⟩)) v := fun v => by
    have := idxP (P := Tryd.prog) (g := gb) (off := o) (len := 1) (cap := x.bc) Tryd.underlying25 (s := 2) (by kernel_rfl) .i64 0 v (by decide)
    simpa using this
  have hcv : (convert 33 9 (.slice q.1.sp 4 q.1.cap)).run Tryd.prog y5 = .ok (.string ⟨#[248, 5, 48, 0]⟩) y5 := by
    have := lb8_conv (l := q.2) hg.1 (by rw [h1]; simp) q.1.cap
    rw [h1] at this
    exact this
  rw [hbx] at K ⊢
  clear H3 V5 hB hLl hq h1 h2 hcx hg c1
  refine Stop.go ?_
  go_wp2
  go_ret
  exact ⟨rfl, K.out.low⟩
end Go.Proofs.YthbdpceobnkflaaDoor
