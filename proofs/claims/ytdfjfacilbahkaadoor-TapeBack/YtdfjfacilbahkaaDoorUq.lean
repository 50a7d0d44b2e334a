/- Bytes as waves: the statement's walk. -/
import Derived.Test.YtdfjfacilbahkaaDoorUn
import Derived.Test.YtdfjfacilbahkaaDoorUo
import Derived.Test.YtdfjfacilbahkaaDoorUy
import Derived.Deep.QuietTactic
import Derived.BigQuiet
namespace Go.Proofs.YtdfjfacilbahkaaDoor
open Go Go.RowKit
set_option linter.unusedVariables false
set_option maxHeartbeats 1000000
set_option maxRecDepth 20000

theorem writeW_len (b : List UInt8) (m : Int) : (writeW b m).1.length ≤ 2147483648 := by
  unfold writeW
  split
  · simp
  · split
    · simp
    · rw [writeL_len]
      omega
theorem writes_walk (w : World) (T : Hid (Tq w)) (sb : Option Addr) (cb : Nat) (bs : List UInt8) (m : Int) (hl : Hid (LB w sb bs)) (hn : bs.length ≤ maxLen) :
    Calls Tryd.prog 4 #[.slice sb bs.length cb, .int .i64 m] w fun e w' => e = .returned (.bool true) ∧ Below w.heap.size w w' := by
  have hn : bs.length ≤ 9223372036854775807 := by unfold maxLen at hn; omega
  obtain ⟨n, hn'⟩ : ∃ n, bs.length = n := ⟨_, rfl⟩
  have ni : (n : Int) ≤ 9223372036854775807 := by omega
  by_cases hbig : 2147483647 < n
  · have q : decide ((2147483647 : Int) < n) = true := by simp; omega
    rw [hn']
    clear hbig hn hn'
    go_enter Tryd.func4, Tryd.ntmps4
    go_wp2
    go_ret
    exact ⟨rfl, Below.refl _ _⟩
  have q : decide ((2147483647 : Int) < n) = false := by simp; omega
  have hP : Hid (∀ (y : World) (sp : Option Addr) (cap : Nat), LB y sp bs → Calls Tryd.prog 10 #[.slice sp n cap, .int .i64 m] y fun e w' => ∃ v, e = .returned (.tuple #[v, .int .i64 (writeW bs m).2]) ∧ Hid (KL 49 2 c2 y v (writeW bs m).1 w')) := fun y sp cap h => by
    have := pwrite_any y sp cap bs m h (by omega)
    rw [hn'] at this
    exact this
  have hR : Hid (∀ y : World, LB y sb bs → Calls Tryd.prog 11 #[.slice sb n cb, .int .i64 m] y fun e w' => ∃ v, e = .returned (.tuple #[v, .int .i64 (writeW bs m).2]) ∧ Hid (KL 49 2 c2 y v (writeW bs m).1 w')) := fun y h => by
    have := rwrite_any y sb cb bs m h (by omega)
    rw [hn'] at this
    exact this
  have hcv : Hid (∀ (y : World) (sp : Option Addr) (cap : Nat), LB y sp bs → (convert 23 9 (.slice sp n cap)).run Tryd.prog y = .ok (.string ⟨bs.toArray⟩) y) := fun y sp cap h => by rw [← hn']; exact LB.conv h cap
  have hbl : Hid ((writeW bs m).1.length ≤ 2147483648) := writeW_len bs m
  obtain ⟨i, hi, hz0, hz1, hz2⟩ := info_parts infoBy
  have hmk : ∀ v, (Instr.makeSlice 23 (.int .i64 ((n : Int) + 1)) (.int .i64 ((n : Int) + 1))).run Tryd.prog v = .ok (.slice (some ⟨v.heap.size, 0, none⟩) (n + 1) (n + 1)) (v.alloc (.cells (madeCells (cB 0).toArray (n + 1)) 5)) := fun v => by
    have := run_make (P := Tryd.prog) v 23 5 i _ Tryd.underlying23 hi hz0 .i64 .i64 ((n : Int) + 1) ((n : Int) + 1) (by omega) (Int.le_refl _) (by rw [hz2]; omega) (by omega)
    rw [hz1, show ((n : Int) + 1).toNat = n + 1 by omega, Nat.mul_one] at this
    exact this
  have hms : Hid ((madeCells (cB 0).toArray (n + 1)).size = n + 1) := by show _ = _; simp [size_madeCells]
  obtain ⟨M, hM⟩ : ∃ M, madeCells (cB 0).toArray (n + 1) = M := ⟨_, rfl⟩
  rw [hM] at hmk hms
  obtain ⟨⟨BL, E⟩, hBL⟩ : ∃ x, writeW bs m = x := ⟨_, rfl⟩
  rw [hBL] at hP hR hbl
  dsimp only at hP hR
  rw [hn']
  have hli : (n : Int) ≤ 2147483647 := by omega
  have hnn : Hid (bs.length = n) := hn'
  have i0 := fun g v => idxB g 0 (n + 1) (n + 1) n (by omega) v
  simp only [Nat.zero_add] at i0
  obtain ⟨S, hS⟩ : ∃ S : ByteArray, (⟨bs.toArray⟩ : ByteArray) = S := ⟨_, rfl⟩
  rw [hS] at hcv
  have qE : (E == E) = true := by simp
  clear hM hn hn' hi hz0 hz1 hz2 hbig hBL hS
  obtain ⟨g, hg⟩ : ∃ g, w.heap.size = g := ⟨_, rfl⟩
  have hg' : Hid (w.heap.size = g) := hg
  have hA : Hid ((w.alloc (.cells M 5)).heap[g]? = some (.cells M 5 (0, 0)) ∧ LB (w.alloc (.cells M 5)) sb bs ∧ Below w.heap.size w (w.alloc (.cells M 5))) := ⟨by rw [← hg]; exact alloc_last' w _, hl.out.below (below1 w _), below1 w _⟩
  have hmk' := hmk w
  rw [hg] at hmk'
  have i1 := i0 g
  clear hmk i0 hg
  go_enter Tryd.func4, Tryd.ntmps4
  go_wp2_with (refine at_copyL kByte rfl (.tmp 19) (.tmp 20) rfl g (n + 1) (n + 1) sb n cb rfl rfl M hA.out.1 bs hnn.out (by omega) hA.out.2.1 ?_ g (Nat.le_refl _) ?_)
  · rw [hms.out]; omega
  intro w1 H1
  have K1 : Hid (w1.heap[g]? = some (.cells (splice M.toList 0 (rowL cB bs)).toArray 5 (0, 0)) ∧ Below w.heap.size w w1) := ⟨H1.out.1, hA.out.2.2.trans (H1.out.2.mono (by rw [hg'.out]; exact Nat.le_refl _))⟩
  have hml : M.toList.length = n + 1 := by rw [Array.length_toList]; exact hms.out
  have hrl : (rowL cB bs).length = n := by rw [rowL_len kByte.len, hnn.out, Nat.mul_one]
  have hsl : (splice M.toList 0 (rowL cB bs)).length = n + 1 := (length_splice M.toList 0 (rowL cB bs) (by rw [hrl, hml]; omega)).trans hml
  have cn : ∃ u, w1.cell? ⟨g, n, none⟩ = some u := by
    rw [cell_heap K1.out.1, List.getElem?_toArray, List.getElem?_eq_getElem (by omega)]
    exact ⟨_, rfl⟩
  obtain ⟨u77, c77⟩ := cn
  have f77 : w1.frozen? ⟨g, n, none⟩ = false := frozen_heap K1.out.1 _
  have fin : Hid (Lnt 5 1 cB 77 w g bs (w1.setCell ⟨g, n, none⟩ (.int .u8 77))) := by
    refine ⟨?_, K1.out.2.trans ((Below.refl _ _).setCell (p := ⟨g, n, none⟩) (by rw [hg'.out]; exact Nat.le_refl _) _)⟩
    have := heapL_setCells g 5 (cB 77) n w1 _ K1.out.1 (by rw [List.size_toArray, hsl]; show n + 1 ≤ _; omega)
    rw [show ((splice M.toList 0 (rowL cB bs)).toArray).toList = splice M.toList 0 (rowL cB bs) by simp, spliceL_two (by rw [hml, kByte.len]) hrl] at this
    rw [rowL_app, rowL_one]
    exact this
  clear H1 K1 hA hmk' hml hrl hsl
  go_wp2_with (go_at_call 10; refine (hP.out _ (some ⟨g, 0, none⟩) (n + 1) (fin.out.lies kByte.len)).mono ?_; rintro e y2 ⟨va, rfl, H2⟩; refine stopAt ?_)
  have L2' : Hid (Lnt 5 1 cB 77 w g bs y2) := fin.out.below H2.out.low
  have Ka : Hid (KL 49 2 c2 w va BL y2) := H2.out.base fin.out.low
  clear H2 fin c77 f77
  have c77 : y2.cell? ⟨g, n, none⟩ = some (.int .u8 77) := by
    have := L2'.out.mark kByte.len 0 (.int .u8 77) rfl
    rwa [hnn.out, Nat.mul_one, Nat.add_zero] at this
  have lb2 : Hid (LB y2 sb bs) := hl.out.below L2'.out.low
  have v1 : ∀ k, (convert 23 9 (.slice (some ⟨g, 0, none⟩) n (n + 1))).run Tryd.prog (y2.drewN k) = .ok (.string S) (y2.drewN k) := fun k => hcv.out _ _ _ ((L2'.out.lies kByte.len).below (below_drewN (Below.refl _ _)))
  have v2 : ∀ k, (convert 23 9 (.slice sb n cb)).run Tryd.prog (y2.drewN k) = .ok (.string S) (y2.drewN k) := fun k => hcv.out _ _ _ (lb2.out.below (below_drewN (Below.refl _ _)))
  refine Stop.go ?_
  go_wp2
  go_quiet (fail)
  have Kb : Hid (KL 49 2 c2 w va BL (y2.drewN nq)) := Ka.out.below (below_drewN (Below.refl _ _))
  have lb3 : Hid (LB (y2.drewN nq) sb bs) := lb2.out.below (below_drewN (Below.refl _ _))
  generalize y2.drewN nq = z2 at Kb lb3 ⊢
  clear Ka lb2 v1 v2 c77 L2'
  go_wp2_with (first
    | (go_at_call 11; refine (hR.out y4 (lb3.out.below H4.out.low)).mono ?_; rintro e y5 ⟨vc, rfl, H5⟩; refine stopAt ?_)
    | (go_at_call 10; refine (hP.out z2 sb cb lb3.out).mono ?_; rintro e y4 ⟨vb, rfl, H4⟩))
  obtain ⟨T0, dab, dac, dbc⟩ := T3.made Kb.out H4.out H5.out
  have hW := waves_any w y5 va vb vc BL T0 dab dac dbc hbl.out
  clear T0 dab dac dbc H4 H5 Kb lb3
  refine Stop.go ?_
  go_wp2_with (first
    | (go_at_call 12; refine hW.mono ?_; rintro e z1 ⟨rfl, k1⟩; replace k1 : Hid _ := k1)
    | (go_at_call 9; refine (awake_any z1 (T.out.below k1.out)).mono ?_; rintro e z7 ⟨rfl, h7⟩; replace h7 : Hid _ := h7))
  go_ret
  exact ⟨by first | rfl | simp, k1.out.trans (h7.out.mono k1.out.size)⟩
end Go.Proofs.YtdfjfacilbahkaaDoor
