/- A remark's text without line feeds: the statement's own function. -/
import Derived.Test.YtfdjifgmlgpjgabDoorJIe
namespace Go.Proofs.YtfdjifgmlgpjgabDoor
open Go Go.RowKit
set_option linter.unusedVariables false
set_option maxHeartbeats 3000000
set_option maxRecDepth 20000

/-- The first bytes, at most forty, line feeds left out. -/
def plainL (l : List UInt8) : List UInt8 := (l.take 40).filter (· ≠ 10)
theorem plain_no (l : List UInt8) : 10 ∉ plainL l := by
  intro h
  have := (List.mem_filter.1 h).2
  simp at this
theorem plain_len (l : List UInt8) : (plainL l).length ≤ 40 := by
  have h1 : (plainL l).length ≤ (l.take 40).length := List.length_filter_le _ _
  have h2 : (l.take 40).length ≤ 40 := List.length_take_le _ _
  omega
def plAt (l : List UInt8) (j : Nat) : List UInt8 := (l.take j).filter (· ≠ 10)
theorem plAt_len (l : List UInt8) (j : Nat) : (plAt l j).length ≤ j := by
  have h1 : (plAt l j).length ≤ (l.take j).length := List.length_filter_le _ _
  have h2 : (l.take j).length ≤ j := List.length_take_le _ _
  omega
theorem plAt_step {l : List UInt8} {j : Nat} {b : UInt8} (h : l[j]? = some b) : plAt l (j + 1) = if b = 10 then plAt l j else plAt l j ++ [b] := by
  unfold plAt
  rw [List.take_add_one, h, List.filter_append]
  by_cases hb : b = 10
  · rw [if_pos hb]
    simp [hb]
  · rw [if_neg hb]
    simp [hb]
theorem plain_any (w : World) (s : ByteArray) (hs : s.size ≤ 9223372036854775807) : Calls Tryd.prog 16 #[.string s] w fun e w' => e = .returned (.string ⟨(plainL (strL s)).toArray⟩) ∧ Hid (Below w.heap.size w w') := by
  have ni : (s.size : Int) ≤ 9223372036854775807 := by omega
  obtain ⟨i5, hi5, hz0, hz1, hz2⟩ := info_parts infoB
  have B1 : Hid (KB w (.slice none 0 0) [] w) := KB.nil w
  go_enter Tryd.func16, Tryd.ntmps16
  go_wp2
  go_loopw [3, 4] (fun u t wz => ∃ (j : Nat) (va : Value) (z : World), z = wz ∧ va = u ∧ t = .int .i64 (j : Int) ∧ Hid (j ≤ s.size ∧ j ≤ 40) ∧ Hid (KB w va (plAt (strL s) j) z)) (fun _ t _ => (40 - intOf t).toNat)
  case atStart => exact ⟨0, _, w, rfl, rfl, rfl, ⟨Nat.zero_le _, Nat.zero_le _⟩, B1⟩
  case round =>
    obtain ⟨j, va, z, rfl, rfl, rfl, J, K⟩ := hrel
    by_cases hlt : j < s.size
    · have hji : (j : Int) < s.size := by omega
      by_cases h40 : j < 40
      · have hj4 : (j : Int) < 40 := by omega
        have hget := strL_get s j hlt
        have hst := plAt_step hget
        have hj' : Hid (j < s.size ∧ j < 40) := ⟨hlt, h40⟩
        have hlen : Hid ((plAt (strL s) j).length ≤ j) := plAt_len (strL s) j
        replace hget : Hid _ := hget
        by_cases b10 : s[j]'hlt = 10
        · have e1 : (((s[j]'hlt).toNat : Int) == 10) = true := by rw [b10]; decide
          have e2 : (((s[j]'hlt).toNat : Int) != 10) = false := by rw [b10]; decide
          rw [if_pos b10] at hst
          have K2 : Hid (KB w va (plAt (strL s) (j + 1)) z) := by rw [hst]; exact K
          replace hst : Hid _ := hst
          replace b10 : Hid _ := b10
          go_wp2
          go_roundw
          case rel => exact ⟨j + 1, _, _, rfl, rfl, by simp, ⟨hj'.out.1, hj'.out.2⟩, K2⟩
          case measure => have := hj'.out; simp [intOf]; omega
        · have c10 : ¬ ((s[j]'hlt).toNat : Int) = 10 := fun h => b10 (by apply UInt8.toNat_inj.1; show (s[j]'hlt).toNat = 10; omega)
          have e1 : (((s[j]'hlt).toNat : Int) == 10) = false := by rw [beq_eq_false_iff_ne]; exact c10
          have e2 : (((s[j]'hlt).toNat : Int) != 10) = true := by rw [bne_iff_ne]; exact c10
          rw [if_neg b10] at hst
          obtain ⟨b, hb⟩ : ∃ b, s[j]'hlt = b := ⟨_, rfl⟩
          replace hst : Hid (plAt (strL s) (j + 1) = plAt (strL s) j ++ [s[j]'hlt]) := hst
          replace b10 : Hid _ := b10
          replace c10 : Hid _ := c10
          replace hb : Hid _ := hb
          go_wp2_with (at_builtin; refine wpList_append_own _ rfl (.tmp 19) (.tmp 23) 38 rfl w.heap.size 5 i5 (.int .u8 0) 1 1 Tryd.underlying38 hi5 hz0 hz1 hz2 rfl (by decide) va (plAt (strL s) j).length ((plAt (strL s) j).map byV) rfl (K.out.1.alloc _) ⟨z.heap.size, 0, none⟩ 1 1 [.int .u8 ((s[j]'hlt).toNat : Int)] rfl rfl (one_byt z _) (by simp [Value.oneCell']) ?_ ?_ ?_ ?_; (have h1 := hlen.out; unfold maxLen; omega); (have h1 := hlen.out; omega); (have := K.out.2.size; simp; omega); intro v4 z4 h3 h4 h5; have K4 : Hid (KB w v4 (plAt (strL s) (j + 1)) z4) := (by rw [hst.out]; exact K.out.one (b := s[j]'hlt) h3 h4); clear h3 h4 h5)
          go_roundw
          case rel => exact ⟨j + 1, _, _, rfl, rfl, by simp, ⟨hj'.out.1, hj'.out.2⟩, K4⟩
          case measure => have := hj'.out; simp [intOf]; omega
      · have hje : j = 40 := by have := J.out.2; omega
        subst hje
        obtain ⟨⟨sp', cap', rfl⟩, hcv⟩ := K.out.open
        have fin : Hid (Below w.heap.size w z) := K.out.2
        go_wp2
        go_ret
        exact ⟨rfl, fin⟩
    · have hje : j = s.size := by have := J.out.1; omega
      have hji : ¬ (j : Int) < s.size := by omega
      have e : plAt (strL s) j = plainL (strL s) := by
        unfold plAt plainL
        have hl : (strL s).length = s.size := strL_len s
        have := J.out.2
        rw [List.take_of_length_le (by omega), List.take_of_length_le (by omega)]
      rw [e] at K
      subst hje
      obtain ⟨⟨sp', cap', rfl⟩, hcv⟩ := K.out.open
      have fin : Hid (Below w.heap.size w z) := K.out.2
      clear e
      go_wp2
      go_ret
      exact ⟨rfl, fin⟩
end Go.Proofs.YtfdjifgmlgpjgabDoor
