/- Whether a wave can be played: the program's. -/
import Derived.Test.YtdfjfacilbahkaaDoorUh
namespace Go.Proofs.YtdfjfacilbahkaaDoor
open Go Go.RowKit
set_option linter.unusedVariables false
set_option maxHeartbeats 1000000
set_option maxRecDepth 20000

theorem unplay_any (w : World) (p : Int × Int) : Calls Tryd.prog 30 #[.agg (c2 p).toArray] w fun e w' => e = .returned (.bool (!okW p)) ∧ Below w.heap.size w w' := by
  have hF : Hid (Fm w [(w.heap.size, (c2 p).toArray, 49)] (w.alloc (.cells (c2 p).toArray 49))) := Fm.one w _ _
  have h1 : Hid ((c2 p).toArray[0]? = some (.int .i64 p.1)) := rfl
  have h2 : Hid ((c2 p).toArray[1]? = some (.int .i64 p.2)) := rfl
  have hbw : Hid (okW p = !(decide (p.1 < 1) || decide (1048576 < p.1) || decide (p.2 < 1) || decide (1048576 < p.2))) := rfl
  obtain ⟨R, hR⟩ : ∃ x, (!okW p) = x := ⟨_, rfl⟩
  rw [hR]
  rw [hbw.out] at hR
  obtain ⟨h, eh⟩ : ∃ x, p.1 = x := ⟨_, rfl⟩
  obtain ⟨l, el⟩ : ∃ x, p.2 = x := ⟨_, rfl⟩
  rw [eh, el] at hR
  rw [eh] at h1
  rw [el] at h2
  obtain ⟨C, eC⟩ : ∃ x, (c2 p).toArray = x := ⟨_, rfl⟩
  rw [eC] at hF h1 h2 ⊢
  have key : Hid (R = (decide (h < 1) || decide (1048576 < h) || decide (l < 1) || decide (1048576 < l))) := by show _ = _; rw [← hR]; simp
  clear eC eh el hR hbw
  obtain ⟨m, em⟩ : ∃ x, (if l < h then l else h) = x := ⟨_, rfl⟩
  obtain ⟨M, eM⟩ : ∃ x, (if h < l then l else h) = x := ⟨_, rfl⟩
  have mm : (m = l ∨ m = h) ∧ m ≤ l ∧ m ≤ h := by rw [← em]; split <;> omega
  have MM : (M = l ∨ M = h) ∧ l ≤ M ∧ h ≤ M := by rw [← eM]; split <;> omega
  by_cases a1 : m < 1
  · have q1 : decide (m < 1) = true := by simpa using a1
    obtain rfl : R = true := by rw [key.out]; simp; omega
    clear key a1 mm MM
    go_enter Tryd.func30, Tryd.ntmps30
    go_wp2_with ((with_reducible refine gen_world (w.alloc (.cells C 49)) (Fm w [(w.heap.size, C, 49)]) hF.out ?_); intro y K; have d0 := (K.out.bx 0 _ _ _ rfl).c 0 _ h1.out; have d1 := (K.out.bx 0 _ _ _ rfl).c 1 _ h2.out)
    go_ret
    exact ⟨by first | rfl | simp, K.out.low⟩
  have q1 : decide (m < 1) = false := by simpa using a1
  obtain ⟨b, eb⟩ : ∃ b, decide (1048576 < M) = b := ⟨_, rfl⟩
  obtain rfl : R = b := by rw [key.out, ← eb, Bool.eq_iff_iff]; simp; omega
  clear key a1 mm MM
  go_enter Tryd.func30, Tryd.ntmps30
  go_wp2_with ((with_reducible refine gen_world (w.alloc (.cells C 49)) (Fm w [(w.heap.size, C, 49)]) hF.out ?_); intro y K; have d0 := (K.out.bx 0 _ _ _ rfl).c 0 _ h1.out; have d1 := (K.out.bx 0 _ _ _ rfl).c 1 _ h2.out)
  go_ret
  exact ⟨by first | rfl | simp, K.out.low⟩
theorem index_any (w : World) (sp : Option Addr) (cap : Nat) (l : List (Int × Int)) (hl : Hid (L2 w sp l)) (hn : l.length ≤ 9223372036854775807) :
    Calls Tryd.prog 41 #[.slice sp l.length cap, .func (.func 30) #[] #[]] w fun e w' => ∃ r : Int, e = .returned (.int .i64 r) ∧ Hid (decide (0 ≤ r) = !l.all okW ∧ Below w.heap.size w w') := by
  obtain ⟨n, hn'⟩ : ∃ n, l.length = n := ⟨_, rfl⟩
  have ni : (n : Int) ≤ 9223372036854775807 := by omega
  rw [hn']
  have hl' : Hid (l.length = n) := hn'
  have ecb : ∀ args z, (callFunc 30 args).run Tryd.prog z = .ok (.enter 30 args) z := fun _ _ => rfl
  clear hn hn'
  go_enter Tryd.func41, Tryd.ntmps41
  go_wp2
  go_loopw [8] (fun i wz => ∃ (j : Nat) (y : World), y = wz ∧ i = .int .i64 (j : Int) ∧ Hid (j ≤ n ∧ l.all okW = (l.drop j).all okW) ∧ Hid (Below w.heap.size w y)) (fun i _ => (n - intOf i).toNat)
  case atStart => exact ⟨0, w, rfl, rfl, ⟨Nat.zero_le _, rfl⟩, Below.refl _ _⟩
  case round =>
    obtain ⟨j, y, rfl, rfl, J, U⟩ := hrel
    by_cases hlt : j < n
    · obtain ⟨p, hp, hdrop⟩ := row_at hl'.out hlt
      obtain ⟨g, o, rfl, hc, -, -⟩ := l2_at (hl.out.below U.out) j p hp
      replace hc : Hid (y.rangeAt g (o + j * 2) (c2 p).toArray.toList) := hc
      have ij := fun u => idxP (g := g) (off := o) (len := n) (cap := cap) Tryd.underlying24 (s := 2) (by kernel_rfl) .i64 j u hlt
      have hji : (j : Int) < n := by omega
      have hlt' : Hid (j < n) := hlt
      have J2 : Hid (l.all okW = (okW p && (l.drop (j + 1)).all okW)) := by
        have h := J.out.2
        rw [hdrop] at h
        exact h
      have hU := unplay_any y p
      have hsz : Hid ((c2 p).toArray.size = 2) := rfl
      obtain ⟨C, eC⟩ : ∃ x, (c2 p).toArray = x := ⟨_, rfl⟩
      rw [eC] at hc hsz hU
      obtain ⟨b, eb⟩ : ∃ b, okW p = b := ⟨_, rfl⟩
      rw [eb] at hU J2
      clear hp hdrop hlt eC eb
      cases b
      · have fin : Hid (l.all okW = false) := by show _ = _; rw [J2.out]; rfl
        have hU2 : Calls Tryd.prog 30 #[.agg C] y fun e w' => e = .returned (.bool true) ∧ Below y.heap.size y w' := hU
        clear hU
        go_wp2_with (first
          | ((with_reducible refine at_loadm rtWa g (o + j * 2) C ?_ ?_ (.tmp 14) ?_ ?_ ?_ ?_); exact hc.out; exact hsz.out; kernel_rfl; rfl; rfl)
          | (go_at_call 30; refine hU2.mono ?_; rintro e y2 ⟨rfl, h2⟩; have U2 : Hid (Below w.heap.size w y2) := U.out.trans (h2.mono U.out.size); clear h2))
        go_ret
        exact ⟨_, rfl, by rw [fin.out]; simp, U2.out⟩
      · have fin : Hid (l.all okW = (l.drop (j + 1)).all okW) := by show _ = _; rw [J2.out]; rfl
        have hU2 : Calls Tryd.prog 30 #[.agg C] y fun e w' => e = .returned (.bool false) ∧ Below y.heap.size y w' := hU
        clear hU
        go_wp2_with (first
          | ((with_reducible refine at_loadm rtWa g (o + j * 2) C ?_ ?_ (.tmp 14) ?_ ?_ ?_ ?_); exact hc.out; exact hsz.out; kernel_rfl; rfl; rfl)
          | (go_at_call 30; refine hU2.mono ?_; rintro e y2 ⟨rfl, h2⟩; have U2 : Hid (Below w.heap.size w y2) := U.out.trans (h2.mono U.out.size); clear h2))
        go_roundw
        case rel => exact ⟨j + 1, _, rfl, by simp, ⟨hlt'.out, fin.out⟩, U2⟩
        case measure => have := hlt'.out; simp [intOf]; omega
    · have hje : j = n := by have := J.out.1; omega
      have fin : Hid (l.all okW = true) := by
        show _ = _
        rw [J.out.2, List.drop_eq_nil_of_le (by rw [hl'.out]; omega)]
        rfl
      have hji : ¬ (j : Int) < n := by omega
      clear hlt hje
      go_wp2
      go_ret
      exact ⟨_, rfl, by rw [fin.out]; simp, U.out⟩
theorem contains_any (w : World) (sp : Option Addr) (cap : Nat) (l : List (Int × Int)) (hl : Hid (L2 w sp l)) (hn : l.length ≤ 9223372036854775807) :
    Calls Tryd.prog 29 #[.slice sp l.length cap, .func (.func 30) #[] #[]] w fun e w' => e = .returned (.bool (!l.all okW)) ∧ Below w.heap.size w w' := by
  have h := index_any w sp cap l hl hn
  generalize l.length = n at h ⊢
  generalize (!l.all okW) = b at h ⊢
  clear hl hn
  go_enter Tryd.func29, Tryd.ntmps29
  go_wp2_with (go_at_call 41; refine h.mono ?_; rintro e y2 ⟨r, rfl, H⟩)
  go_ret
  exact ⟨by rw [← H.out.1]; rfl, H.out.2⟩
end Go.Proofs.YtdfjfacilbahkaaDoor
