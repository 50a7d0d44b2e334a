/- How many bytes an item has; which items of a source may be: the document's Size and Check. -/
import Derived.Test.YtfdjifgmlgpjgaaDoorIc
import Derived.Test.YtfdjifgmlgpjgaaDoorLw
namespace Go.Proofs.YtfdjifgmlgpjgaaDoor
open Go Go.RowKit
set_option linter.unusedVariables false
set_option maxHeartbeats 3000000
set_option maxRecDepth 20000

def sizeI (r : Ri) : Int := if mayI r then (if r.k = 2 then (match opOf r.n with | some n => ((lay (fm n * 3) : Nat) : Int) | none => 0) else if r.k = 3 then (r.m : Int) else if r.k = 5 then 2 else 0) else 0
def sizeE (r : Ri) : Int := if mayI r then 0 else 130
theorem mayI_code {r : Ri} (h : mayI r = true) (hk : r.k = 2) : ∃ n, opOf r.n = some n := by
  unfold mayI at h
  rw [if_pos hk] at h
  unfold codeI at h
  rcases e : opOf r.n with _ | n
  · rw [e] at h; cases h
  · exact ⟨n, rfl⟩
theorem tup_ret {a b c d : Int} (h : a = c) (h' : b = d) : Ending.returned (.tuple #[.int .i64 a, .int .i64 b]) = .returned (.tuple #[.int .i64 c, .int .i64 d]) := by rw [h, h']

theorem rsizeI_any (w : World) (r : Ri) : Calls Tryd.prog 17 #[.agg (i6 r)] w fun e w' => e = .returned (.tuple #[.int .i64 (sizeI r), .int .i64 (sizeE r)]) ∧ Below w.heap.size w w' := by
  have hB : Hid (Fm w [(w.heap.size, i6 r, 35)] (w.alloc (.cells (i6 r) 35))) := Fm.one w _ _
  have hM := fun v => rmayI_any v r
  obtain ⟨S, hS⟩ : ∃ S, Hid (sizeI r = S) := ⟨_, (rfl : sizeI r = sizeI r)⟩
  obtain ⟨E, hE⟩ : ∃ S, Hid (sizeE r = S) := ⟨_, (rfl : sizeE r = sizeE r)⟩
  rw [hS.out, hE.out]
  by_cases hm : mayI r = true
  · rw [hm] at hM
    have e1 : Hid (E = 0) := by show _ = _; rw [← hE.out]; unfold sizeE; rw [if_pos hm]
    by_cases h2 : r.k = 2
    · obtain ⟨n, ho⟩ := mayI_code hm h2
      obtain ⟨X, L, c, hf, hL⟩ := rfind_form r.n n ho
      have e2 : Hid (S = L) := by show _ = _; rw [← hS.out, hL]; unfold sizeI; rw [if_pos hm, if_pos h2, ho]
      have k2 : (r.k == 2) = true := by rw [beq_iff_eq]; exact h2
      generalize (fm n : Int) = f at hf
      clear hm h2 hL ho
      go_enter Tryd.func17, Tryd.ntmps17
      go_wp2_with (first | ((with_reducible refine gen_world (w.alloc (.cells (i6 r) 35)) (Fm w [(w.heap.size, i6 r, 35)]) hB.out ?_); intro y K1; have d0 := (K1.out.bx 0 _ _ _ rfl).c 0 (.int .u8 r.k) rfl; have d1 := (K1.out.bx 0 _ _ _ rfl).c 1 (.string r.n) rfl; have d2 := (K1.out.bx 0 _ _ _ rfl).c 2 (.int .i64 r.a) rfl; have d3 := (K1.out.bx 0 _ _ _ rfl).c 3 (.string r.l) rfl; have d4 := (K1.out.bx 0 _ _ _ rfl).c 4 (.int .u8 r.p) rfl; have d5 := (K1.out.bx 0 _ _ _ rfl).c 5 (.slice r.sp r.m r.cap) rfl) | ((with_reducible refine at_load rt6 w.heap.size (i6 r) ?_ ?_ (.tmp 1) ?_ ?_ ?_ ?_); exact K1.out.bx 0 _ _ _ rfl; rfl; rfl; rfl; rfl) | (go_at_call 26; refine (hM y).mono ?_; rintro e y2 ⟨rfl, h2⟩; have K2 : Hid (Fm w [(w.heap.size, i6 r, 35)] y2) := K1.out.below h2; clear d0 d1 d2 d3 d4 d5 h2; have g0 := (K2.out.bx 0 _ _ _ rfl).c 0 (.int .u8 r.k) rfl; have g1 := (K2.out.bx 0 _ _ _ rfl).c 1 (.string r.n) rfl; have g2 := (K2.out.bx 0 _ _ _ rfl).c 2 (.int .i64 r.a) rfl; have g3 := (K2.out.bx 0 _ _ _ rfl).c 3 (.string r.l) rfl; have g4 := (K2.out.bx 0 _ _ _ rfl).c 4 (.int .u8 r.p) rfl; have g5 := (K2.out.bx 0 _ _ _ rfl).c 5 (.slice r.sp r.m r.cap) rfl) | (go_at_call 29; refine (hf y2).mono ?_; rintro e y3 ⟨rfl, h3⟩; have K3 : Hid (Fm w [(w.heap.size, i6 r, 35), (y3.heap.size, #[.string X, .int .u8 f, .int .i64 L, .int .i64 c], 50)] (y3.alloc (.cells #[.string X, .int .u8 f, .int .i64 L, .int .i64 c] 50))) := (K2.out.below h3).new _ _; clear g0 g1 g2 g3 g4 g5 h3; have q2 := (K3.out.bx 1 _ _ _ rfl).c 2 (.int .i64 L) rfl))
      (try simp only [Exit.inBlock, Exit.then])
      refine bodyPost_ret (by simp [results, Tryd.results17, go_sem]; try rfl) rfl ?_
      exact ⟨tup_ret e2.out.symm e1.out.symm, K3.out.low⟩
    · have k2 : (r.k == 2) = false := by rw [beq_eq_false_iff_ne]; exact h2
      by_cases h3 : r.k = 3
      · have k3 : (r.k == 3) = true := by rw [beq_iff_eq]; exact h3
        have e2 : Hid (S = r.m) := by show _ = _; rw [← hS.out]; unfold sizeI; rw [if_pos hm, if_neg h2, if_pos h3]
        clear hm h2 h3
        go_enter Tryd.func17, Tryd.ntmps17
        go_wp2_with (first | ((with_reducible refine gen_world (w.alloc (.cells (i6 r) 35)) (Fm w [(w.heap.size, i6 r, 35)]) hB.out ?_); intro y K1; have d0 := (K1.out.bx 0 _ _ _ rfl).c 0 (.int .u8 r.k) rfl; have d1 := (K1.out.bx 0 _ _ _ rfl).c 1 (.string r.n) rfl; have d2 := (K1.out.bx 0 _ _ _ rfl).c 2 (.int .i64 r.a) rfl; have d3 := (K1.out.bx 0 _ _ _ rfl).c 3 (.string r.l) rfl; have d4 := (K1.out.bx 0 _ _ _ rfl).c 4 (.int .u8 r.p) rfl; have d5 := (K1.out.bx 0 _ _ _ rfl).c 5 (.slice r.sp r.m r.cap) rfl) | ((with_reducible refine at_load rt6 w.heap.size (i6 r) ?_ ?_ (.tmp 1) ?_ ?_ ?_ ?_); exact K1.out.bx 0 _ _ _ rfl; rfl; rfl; rfl; rfl) | (go_at_call 26; refine (hM y).mono ?_; rintro e y2 ⟨rfl, h2⟩; have K2 : Hid (Fm w [(w.heap.size, i6 r, 35)] y2) := K1.out.below h2; clear d0 d1 d2 d3 d4 d5 h2; have g0 := (K2.out.bx 0 _ _ _ rfl).c 0 (.int .u8 r.k) rfl; have g1 := (K2.out.bx 0 _ _ _ rfl).c 1 (.string r.n) rfl; have g2 := (K2.out.bx 0 _ _ _ rfl).c 2 (.int .i64 r.a) rfl; have g3 := (K2.out.bx 0 _ _ _ rfl).c 3 (.string r.l) rfl; have g4 := (K2.out.bx 0 _ _ _ rfl).c 4 (.int .u8 r.p) rfl; have g5 := (K2.out.bx 0 _ _ _ rfl).c 5 (.slice r.sp r.m r.cap) rfl))
        (try simp only [Exit.inBlock, Exit.then])
        refine bodyPost_ret (by simp [results, Tryd.results17, go_sem]; try rfl) rfl ?_
        exact ⟨tup_ret e2.out.symm e1.out.symm, K2.out.low⟩
      · have k3 : (r.k == 3) = false := by rw [beq_eq_false_iff_ne]; exact h3
        by_cases h5 : r.k = 5
        · have k5 : (r.k == 5) = true := by rw [beq_iff_eq]; exact h5
          have e2 : Hid (S = 2) := by show _ = _; rw [← hS.out]; unfold sizeI; rw [if_pos hm, if_neg h2, if_neg h3, if_pos h5]
          clear hm h2 h3 h5
          go_enter Tryd.func17, Tryd.ntmps17
          go_wp2_with (first | ((with_reducible refine gen_world (w.alloc (.cells (i6 r) 35)) (Fm w [(w.heap.size, i6 r, 35)]) hB.out ?_); intro y K1; have d0 := (K1.out.bx 0 _ _ _ rfl).c 0 (.int .u8 r.k) rfl; have d1 := (K1.out.bx 0 _ _ _ rfl).c 1 (.string r.n) rfl; have d2 := (K1.out.bx 0 _ _ _ rfl).c 2 (.int .i64 r.a) rfl; have d3 := (K1.out.bx 0 _ _ _ rfl).c 3 (.string r.l) rfl; have d4 := (K1.out.bx 0 _ _ _ rfl).c 4 (.int .u8 r.p) rfl; have d5 := (K1.out.bx 0 _ _ _ rfl).c 5 (.slice r.sp r.m r.cap) rfl) | ((with_reducible refine at_load rt6 w.heap.size (i6 r) ?_ ?_ (.tmp 1) ?_ ?_ ?_ ?_); exact K1.out.bx 0 _ _ _ rfl; rfl; rfl; rfl; rfl) | (go_at_call 26; refine (hM y).mono ?_; rintro e y2 ⟨rfl, h2⟩; have K2 : Hid (Fm w [(w.heap.size, i6 r, 35)] y2) := K1.out.below h2; clear d0 d1 d2 d3 d4 d5 h2; have g0 := (K2.out.bx 0 _ _ _ rfl).c 0 (.int .u8 r.k) rfl; have g1 := (K2.out.bx 0 _ _ _ rfl).c 1 (.string r.n) rfl; have g2 := (K2.out.bx 0 _ _ _ rfl).c 2 (.int .i64 r.a) rfl; have g3 := (K2.out.bx 0 _ _ _ rfl).c 3 (.string r.l) rfl; have g4 := (K2.out.bx 0 _ _ _ rfl).c 4 (.int .u8 r.p) rfl; have g5 := (K2.out.bx 0 _ _ _ rfl).c 5 (.slice r.sp r.m r.cap) rfl))
          (try simp only [Exit.inBlock, Exit.then])
          refine bodyPost_ret (by simp [results, Tryd.results17, go_sem]; try rfl) rfl ?_
          exact ⟨tup_ret e2.out.symm e1.out.symm, K2.out.low⟩
        · have k5 : (r.k == 5) = false := by rw [beq_eq_false_iff_ne]; exact h5
          have e2 : Hid (S = 0) := by show _ = _; rw [← hS.out]; unfold sizeI; rw [if_pos hm, if_neg h2, if_neg h3, if_neg h5]
          clear hm h2 h3 h5
          go_enter Tryd.func17, Tryd.ntmps17
          go_wp2_with (first | ((with_reducible refine gen_world (w.alloc (.cells (i6 r) 35)) (Fm w [(w.heap.size, i6 r, 35)]) hB.out ?_); intro y K1; have d0 := (K1.out.bx 0 _ _ _ rfl).c 0 (.int .u8 r.k) rfl; have d1 := (K1.out.bx 0 _ _ _ rfl).c 1 (.string r.n) rfl; have d2 := (K1.out.bx 0 _ _ _ rfl).c 2 (.int .i64 r.a) rfl; have d3 := (K1.out.bx 0 _ _ _ rfl).c 3 (.string r.l) rfl; have d4 := (K1.out.bx 0 _ _ _ rfl).c 4 (.int .u8 r.p) rfl; have d5 := (K1.out.bx 0 _ _ _ rfl).c 5 (.slice r.sp r.m r.cap) rfl) | ((with_reducible refine at_load rt6 w.heap.size (i6 r) ?_ ?_ (.tmp 1) ?_ ?_ ?_ ?_); exact K1.out.bx 0 _ _ _ rfl; rfl; rfl; rfl; rfl) | (go_at_call 26; refine (hM y).mono ?_; rintro e y2 ⟨rfl, h2⟩; have K2 : Hid (Fm w [(w.heap.size, i6 r, 35)] y2) := K1.out.below h2; clear d0 d1 d2 d3 d4 d5 h2; have g0 := (K2.out.bx 0 _ _ _ rfl).c 0 (.int .u8 r.k) rfl; have g1 := (K2.out.bx 0 _ _ _ rfl).c 1 (.string r.n) rfl; have g2 := (K2.out.bx 0 _ _ _ rfl).c 2 (.int .i64 r.a) rfl; have g3 := (K2.out.bx 0 _ _ _ rfl).c 3 (.string r.l) rfl; have g4 := (K2.out.bx 0 _ _ _ rfl).c 4 (.int .u8 r.p) rfl; have g5 := (K2.out.bx 0 _ _ _ rfl).c 5 (.slice r.sp r.m r.cap) rfl))
          (try simp only [Exit.inBlock, Exit.then])
          refine bodyPost_ret (by simp [results, Tryd.results17, go_sem]; try rfl) rfl ?_
          exact ⟨tup_ret e2.out.symm e1.out.symm, K2.out.low⟩
  · have e1 : Hid (E = 130) := by show _ = _; rw [← hE.out]; unfold sizeE; rw [if_neg hm]
    have e2 : Hid (S = 0) := by show _ = _; rw [← hS.out]; unfold sizeI; rw [if_neg hm]
    rw [Bool.eq_false_iff.2 hm] at hM
    clear hm
    go_enter Tryd.func17, Tryd.ntmps17
    go_wp2_with (first | ((with_reducible refine gen_world (w.alloc (.cells (i6 r) 35)) (Fm w [(w.heap.size, i6 r, 35)]) hB.out ?_); intro y K1; have d0 := (K1.out.bx 0 _ _ _ rfl).c 0 (.int .u8 r.k) rfl; have d1 := (K1.out.bx 0 _ _ _ rfl).c 1 (.string r.n) rfl; have d2 := (K1.out.bx 0 _ _ _ rfl).c 2 (.int .i64 r.a) rfl; have d3 := (K1.out.bx 0 _ _ _ rfl).c 3 (.string r.l) rfl; have d4 := (K1.out.bx 0 _ _ _ rfl).c 4 (.int .u8 r.p) rfl; have d5 := (K1.out.bx 0 _ _ _ rfl).c 5 (.slice r.sp r.m r.cap) rfl) | ((with_reducible refine at_load rt6 w.heap.size (i6 r) ?_ ?_ (.tmp 1) ?_ ?_ ?_ ?_); exact K1.out.bx 0 _ _ _ rfl; rfl; rfl; rfl; rfl) | (go_at_call 26; refine (hM y).mono ?_; rintro e y2 ⟨rfl, h2⟩; have K2 : Hid (Fm w [(w.heap.size, i6 r, 35)] y2) := K1.out.below h2; clear d0 d1 d2 d3 d4 d5 h2; have g0 := (K2.out.bx 0 _ _ _ rfl).c 0 (.int .u8 r.k) rfl; have g1 := (K2.out.bx 0 _ _ _ rfl).c 1 (.string r.n) rfl; have g2 := (K2.out.bx 0 _ _ _ rfl).c 2 (.int .i64 r.a) rfl; have g3 := (K2.out.bx 0 _ _ _ rfl).c 3 (.string r.l) rfl; have g4 := (K2.out.bx 0 _ _ _ rfl).c 4 (.int .u8 r.p) rfl; have g5 := (K2.out.bx 0 _ _ _ rfl).c 5 (.slice r.sp r.m r.cap) rfl))
    (try simp only [Exit.inBlock, Exit.then])
    refine bodyPost_ret (by simp [results, Tryd.results17, go_sem]; try rfl) rfl ?_
    exact ⟨tup_ret e2.out.symm e1.out.symm, K2.out.low⟩

/-- Items that lie in a row. -/
def c6 (r : Ri) : List Value := (i6 r).toList
abbrev LI (x : World) (sp : Option Addr) (l : List Ri) : Prop := LiesL 6 c6 x sp l
def badI (l : List Ri) : Option Nat := l.findIdx? fun r => !mayI r
def checkE (l : List Ri) : Int := if 4096 < l.length then 2 else if (badI l).isSome then 130 else 0
def checkN (l : List Ri) : Int := if 4096 < l.length then 0 else ((badI l).getD 0 : Nat)
theorem badI_some {l : List Ri} {j : Nat} (h : ∀ i (hi : i < l.length), i < j → mayI l[i] = true) (hj : j < l.length) (hb : mayI l[j] = false) : badI l = some j := by
  unfold badI
  rw [List.findIdx?_eq_some_iff_getElem]
  refine ⟨hj, by rw [hb]; rfl, fun i hi => ?_⟩
  rw [h i (by omega) hi]
  simp
theorem badI_none {l : List Ri} (h : ∀ i (hi : i < l.length), mayI l[i] = true) : badI l = none := by
  unfold badI
  rw [List.findIdx?_eq_none_iff]
  intro x hx
  obtain ⟨i, hi, rfl⟩ := List.getElem_of_mem hx
  rw [h i hi]
  rfl

theorem rcheckI_any (w : World) (sp : Option Addr) (cap : Nat) (l : List Ri) (hl : Hid (LI w sp l)) (hn : l.length ≤ 9223372036854775807) :
    Calls Tryd.prog 13 #[.slice sp l.length cap] w fun e w' => e = .returned (.tuple #[.int .i64 (checkE l), .int .i64 (checkN l)]) ∧ Below w.heap.size w w' := by
  obtain ⟨n, hn'⟩ : ∃ n, l.length = n := ⟨_, rfl⟩
  have ni : (n : Int) ≤ 9223372036854775807 := by omega
  by_cases hbig : 4096 < n
  · have e : checkE l = 2 := by unfold checkE; rw [if_pos (by omega)]
    have e' : checkN l = 0 := by unfold checkN; rw [if_pos (by omega)]
    rw [e, e', hn']
    have q : decide ((4096 : Int) < n) = true := by simp; omega
    clear hbig hn hn' e e'
    go_enter Tryd.func13, Tryd.ntmps13
    go_wp2
    go_ret2
    exact ⟨rfl, Below.refl _ _⟩
  obtain ⟨R, hR⟩ : ∃ R, checkE l = R := ⟨_, rfl⟩
  obtain ⟨N, hN⟩ : ∃ R, checkN l = R := ⟨_, rfl⟩
  have hR' : Hid (R = (if (badI l).isSome then 130 else 0) ∧ N = ((badI l).getD 0 : Nat)) := by
    refine ⟨?_, ?_⟩
    · rw [← hR]
      unfold checkE
      rw [if_neg (by omega)]
    · rw [← hN]
      unfold checkN
      rw [if_neg (by omega)]
  rw [hR, hN, hn']
  have q : decide ((4096 : Int) < n) = false := by simp; omega
  have hl' : Hid (l.length = n) := hn'
  have ni4 : (n : Int) ≤ 4096 := by omega
  clear hR hN hbig hn hn' ni
  go_enter Tryd.func13, Tryd.ntmps13
  go_wp2
  go_loopw [4] (fun i wz => ∃ (j : Nat) (y : World), y = wz ∧ i = .int .i64 (j : Int) ∧ Hid (j ≤ n ∧ ∀ i (hi : i < l.length), i < j → mayI l[i] = true) ∧ Hid (Below w.heap.size w y)) (fun i _ => (n - intOf i).toNat)
  case atStart => exact ⟨0, w, rfl, rfl, ⟨by omega, fun i _ h => absurd h (by omega)⟩, Below.refl _ _⟩
  case round =>
    obtain ⟨j, y, rfl, rfl, J, K⟩ := hrel
    by_cases hlt : j < n
    · have hjl : j < l.length := by rw [hl'.out]; exact hlt
      obtain ⟨gb, ob, rfl, hc0⟩ := hl.out j l[j] (List.getElem?_eq_getElem hjl)
      have hc : Hid (y.rangeAt gb (ob + j * 6) (i6 l[j]).toList) := range_keep hc0 K.out
      clear hc0
      have ij := fun v => idxP (g := gb) (off := ob) (len := n) (cap := cap) Tryd.underlying23 (s := 6) (by kernel_rfl) .i64 j v hlt
      have hji : (j : Int) < n := by omega
      have hlt' : Hid (j < n) := hlt
      have hM := rmayI_any y l[j]
      by_cases hb : mayI l[j] = true
      · have fin : Hid (∀ i (hi : i < l.length), i < j + 1 → mayI l[i] = true) := fun i hi h => by
          rcases Nat.lt_succ_iff_lt_or_eq.1 h with h' | rfl
          · exact J.out.2 i hi h'
          · exact hb
        rw [hb] at hM
        generalize l[j] = s at hc hM
        clear hlt hb hjl
        go_wp2_with (first
          | ((with_reducible refine at_loadm rt6 gb (ob + j * 6) (i6 s) ?_ ?_ (.tmp 17) ?_ ?_ ?_ ?_); exact hc.out; rfl; kernel_rfl; rfl; rfl)
          | (go_at_call 26; refine hM.mono ?_; rintro e y2 ⟨rfl, h2⟩; have U2 : Hid (Below w.heap.size w y2) := K.out.trans (h2.mono K.out.size); clear h2))
        go_roundw
        case rel => exact ⟨j + 1, _, rfl, by simp, ⟨by have := hlt'.out; omega, fin.out⟩, U2⟩
        case measure => have := hlt'.out; simp [intOf]; omega
      · have fin : Hid (R = 130 ∧ N = (j : Int)) := by
          have hb' := badI_some J.out.2 hjl (Bool.eq_false_iff.2 hb)
          obtain ⟨r1, r2⟩ := hR'.out
          rw [hb'] at r1 r2
          exact ⟨r1, r2⟩
        rw [Bool.eq_false_iff.2 hb] at hM
        generalize l[j] = s at hc hM
        clear hlt hb hjl
        go_wp2_with (first
          | ((with_reducible refine at_loadm rt6 gb (ob + j * 6) (i6 s) ?_ ?_ (.tmp 17) ?_ ?_ ?_ ?_); exact hc.out; rfl; kernel_rfl; rfl; rfl)
          | (go_at_call 26; refine hM.mono ?_; rintro e y2 ⟨rfl, h2⟩; have U2 : Hid (Below w.heap.size w y2) := K.out.trans (h2.mono K.out.size); clear h2))
        go_ret2
        exact ⟨tup_ret fin.out.1.symm fin.out.2.symm, U2.out⟩
    · have hje : j = n := by have := J.out.1; omega
      subst hje
      have fin : Hid (R = 0 ∧ N = 0) := by
        have hb' := badI_none (l := l) fun i hi => J.out.2 i hi (by rw [← hl'.out]; exact hi)
        obtain ⟨r1, r2⟩ := hR'.out
        rw [hb'] at r1 r2
        exact ⟨r1, r2⟩
      clear hlt
      go_wp2
      go_ret2
      exact ⟨tup_ret fin.out.1.symm fin.out.2.symm, K.out⟩
end Go.Proofs.YtfdjifgmlgpjgaaDoor
