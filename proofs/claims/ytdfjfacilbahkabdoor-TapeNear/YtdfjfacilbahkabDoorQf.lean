/- The leader, and the 1 with which a byte begins: the program's. -/
import Derived.Test.YtdfjfacilbahkabDoorQe
import Derived.Test.YtdfjfacilbahkabDoorUd
namespace Go.Proofs.YtdfjfacilbahkabDoor
open Go Go.RowKit
set_option linter.unusedVariables false
set_option maxHeartbeats 1000000
set_option maxRecDepth 20000

def errV (E : Int) (t : Nat) : Value := if E = 0 then .nilIface else fltV E t
theorem begin_any (w0 y0 : World) (hb : Nat) (sp : Option Addr) (n cap i : Nat) (l : List (Int × Int)) (hl : Hid (L2 w0 sp l)) (hln : Hid (l.length = n)) (hn : (n : Int) ≤ 9223372036854775807) (hi : i ≤ n) (hw : Hid (Below w0.heap.size w0 y0)) (hb0 : Hid (w0.heap.size ≤ hb)) (hB : Hid (Bx y0 hb (hdC sp n cap i) 43)) :
    Calls Tryd.prog 18 #[.pointer (some ⟨hb, 0, none⟩)] y0 fun e z => e = .returned (errV (leadW (l.drop i) i).1 (leadW (l.drop i) i).2.1) ∧ Hid (Mv hb y0 z ∧ ((leadW (l.drop i) i).1 = 0 → Bx z hb (hdC sp n cap (leadW (l.drop i) i).2.1) 43)) := by
  obtain ⟨LD, hLD⟩ : ∃ x, leadW (l.drop i) i = x := ⟨_, rfl⟩
  rw [hLD]
  have st : Hid (i ≤ n ∧ leadW (l.drop i) i = LD) := ⟨hi, hLD⟩
  clear hLD hi
  go_enter Tryd.func18, Tryd.ntmps18
  go_wp2
  go_loopw [3] (fun _ wz => ∃ (j : Nat) (y : World), y = wz ∧ Hid (j ≤ n ∧ leadW (l.drop j) j = LD) ∧ Hid (Bx y hb (hdC sp n cap j) 43 ∧ Mv hb y0 y)) (fun _ wz => (n - intOf ((wz.cell? ⟨hb, 1, none⟩).getD undef)).toNat)
  case atStart => exact ⟨i, y0, rfl, st, hB.out, Mv.of (Below.refl _ _)⟩
  case round =>
    obtain ⟨j, y, rfl, J, K⟩ := hrel
    have hL : Hid (L2 y sp l) := hl.out.below (hw.out.trans (K.out.2.low _ hb0.out hw.out.size))
    by_cases hlt : j < n
    · obtain ⟨p, hp, hdrop⟩ := row_at hln.out hlt
      have hm0 : Hid (intOf ((y.cell? ⟨hb, 1, none⟩).getD undef) = (j : Int)) := by show _ = _; rw [K.out.1.c 1 (.int .i64 (j : Int)) rfl]; rfl
      have J3 : Hid ((if bitW p < 0 then (120, j, []) else if bitW p = 0 then leadW (l.drop (j + 1)) (j + 1) else (0, j + 1, l.drop (j + 1))) = LD) := by
        have h := J.out.2
        rw [hdrop] at h
        exact h
      have hlt' : Hid (j < n) := hlt
      rcases bitW_cases p with e | e | e
      · have hW := hbit_wrong y hb sp n cap j l hL hln.out hn hlt p hp (by omega) K.out.1
        have J4 : Hid ((120, j, []) = LD) := by have h := J3.out; rw [if_pos (by omega)] at h; exact h
        have qv : Hid (fltV 120 j = errV LD.1 LD.2.1) := by show _ = _; rw [← J4.out]; rfl
        have qn : Hid (LD.1 ≠ 0) := by show LD.1 ≠ 0; rw [← J4.out]; simp
        clear e hp hdrop hlt J3
        go_wp2_with (go_at_call 19; refine hW.mono ?_; rintro e z ⟨rfl, H⟩; replace H : Hid _ := H; dsimp only [fltV])
        go_ret
        exact ⟨by rw [← qv.out]; rfl, K.out.2.trans (Mv.of H.out), fun h => absurd h qn.out⟩
      · have hW := hbit_good y hb sp n cap j l hL hln.out hn hlt p hp (by omega) K.out.1
        rw [e] at hW
        have J4 : Hid (leadW (l.drop (j + 1)) (j + 1) = LD) := by have h := J3.out; rw [if_neg (by omega), if_pos e] at h; exact h
        clear e hp hdrop hlt J3
        go_wp2_with (go_at_call 19; refine hW.mono ?_; rintro e z ⟨rfl, H⟩)
        go_roundw
        case rel => exact ⟨j + 1, z, rfl, ⟨hlt'.out, J4.out⟩, H.out.1, K.out.2.trans H.out.2⟩
        case measure =>
          have h2 : intOf ((z.cell? ⟨hb, 1, none⟩).getD undef) = ((j + 1 : Nat) : Int) := by rw [H.out.1.c 1 (.int .i64 ((j + 1 : Nat) : Int)) rfl]; rfl
          have := hlt'.out
          rw [h2, hm0.out]
          omega
      · have hW := hbit_good y hb sp n cap j l hL hln.out hn hlt p hp (by omega) K.out.1
        rw [e] at hW
        have J4 : Hid ((0, j + 1, l.drop (j + 1)) = LD) := by have h := J3.out; rw [if_neg (by omega), if_neg (by omega)] at h; exact h
        have qv : Hid (Value.nilIface = errV LD.1 LD.2.1) := by show _ = _; rw [← J4.out]; rfl
        have qn : Hid (LD.2.1 = j + 1) := by show _ = _; rw [← J4.out]
        clear e hp hdrop hlt J3
        go_wp2_with (go_at_call 19; refine hW.mono ?_; rintro e z ⟨rfl, H⟩)
        go_ret
        exact ⟨by rw [← qv.out]; rfl, K.out.2.trans H.out.2, fun _ => by rw [qn.out]; exact H.out.1⟩
    · have hje : j = n := by have := J.out.1; omega
      subst hje
      have hW := hbit_end y hb sp j cap hn K.out.1
      have J4 : Hid (LD = (122, j, [])) := by have := J.out.2; rw [lead_nil hln.out hlt] at this; exact this.symm
      have qv : Hid (fltV 122 j = errV LD.1 LD.2.1) := by show _ = _; rw [J4.out]; rfl
      have qn : Hid (LD.1 ≠ 0) := by show LD.1 ≠ 0; rw [J4.out]; simp
      clear hlt
      go_wp2_with (go_at_call 19; refine hW.mono ?_; rintro e z ⟨rfl, H⟩; replace H : Hid _ := H; dsimp only [fltV])
      go_ret
      exact ⟨by rw [← qv.out]; rfl, K.out.2.trans (Mv.of H.out), fun h => absurd h qn.out⟩
end Go.Proofs.YtdfjfacilbahkabDoor
