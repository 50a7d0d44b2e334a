/- A number in just so many digits; a field read from a word. -/
import Derived.Test.YtfdikiafbfljaaaDoorPa0
import Derived.Test.YtfdikiafbfljaaaDoorNum
import Derived.Test.YtfdikiafbfljaaaDoorSh
import Derived.Test.YtfdikiafbfljaaaDoorOStr
namespace Go.Proofs.YtfdikiafbfljaaaDoor
open Go Go.RowKit
set_option linter.unusedVariables false
set_option maxHeartbeats 1000000
set_option maxRecDepth 20000

/-- What just so many digits tell. -/
def numK (s : List UInt8) (d : Nat) : Option Nat := if s.length = d then (numGo s 0).map Int.toNat else none
theorem sz_list (s : ByteArray) : s.data.toList.length = s.size := by rw [Array.length_toList]; rfl
theorem onum_any (s : ByteArray) (d : Nat) (h1 : 1 ≤ d) (h3 : d ≤ 3) (hs : s.size ≤ maxLen) (w : World) : Calls Tryd.prog 69 #[.string s, .int .i64 (d : Int)] w fun e w' => e = .returned (.tuple #[.int .u16 (((numK s.data.toList d).getD 0 : Nat) : Int), .bool (numK s.data.toList d).isSome]) ∧ Below w.heap.size w w' := by
  have hN := fun z => number_any s z hs
  have hsz := sz_list s
  rcases hn : numOf s with _ | x
  · obtain ⟨e1, e2⟩ := num_none s hn
    have hk : numK s.data.toList d = none := by
      unfold numK
      split
      · rename_i h
        unfold numOf at hn
        rw [if_pos (by omega)] at hn
        rw [hn]
        rfl
      · rfl
    rw [hk]
    rw [e1, e2] at hN
    simp only [Option.getD_none, Option.isSome_none]
    clear hn e1 e2 hk hsz hs
    go_enter Tryd.func69, Tryd.ntmps69
    go_wp2_with (go_at_call 79; refine (hN _).mono ?_; rintro e z ⟨rfl, hz⟩)
    go_ret2
    exact ⟨rfl, hz⟩
  · obtain ⟨e1, e2⟩ := num_some s x hn
    have hx : numGo s.data.toList 0 = some x := by
      unfold numOf at hn
      split at hn
      · exact hn
      · cases hn
    rw [e1, e2] at hN
    by_cases hd : s.size = d
    · have hb := numGo_le s.data.toList 0 x (by omega) hx
      have hk : numK s.data.toList d = some x.toNat := by
        unfold numK
        rw [if_pos (by omega), hx]
        rfl
      have hp : (16 : Int) ^ s.data.toList.length ≤ 4096 := by
        rw [hsz, hd]
        rcases (show d = 1 ∨ d = 2 ∨ d = 3 by omega) with e | e | e <;> subst e <;> decide
      obtain ⟨n, rfl⟩ : ∃ n : Nat, x = (n : Int) := ⟨x.toNat, by omega⟩
      have hn4 : (n : Int) < 4096 := by have := hb.2; omega
      have hcv : ∀ z, (convert 3 27 (.int .i64 (n : Int))).run Tryd.prog z = .ok (.int .u16 (n : Int)) z := fun z => by go_simp; rw [IntKind.wrap_u16]; omega
      have hne : ((s.size : Int) != (d : Int)) = false := by rw [bne_eq_false_iff_eq, hd]
      rw [hk]
      simp only [Option.getD_some, Option.isSome_some, Int.toNat_natCast]
      clear hn e1 e2 hk hsz hs hx hb hp hd hn4
      go_enter Tryd.func69, Tryd.ntmps69
      go_wp2_with (go_at_call 79; refine (hN _).mono ?_; rintro e z ⟨rfl, hz⟩)
      go_ret2
      exact ⟨rfl, hz⟩
    · have hk : numK s.data.toList d = none := by
        unfold numK
        rw [if_neg (by omega)]
      have hne : ((s.size : Int) != (d : Int)) = true := by rw [bne_iff_ne]; omega
      rw [hk]
      simp only [Option.getD_none, Option.isSome_none]
      clear hn e1 e2 hk hsz hs hx hd
      go_enter Tryd.func69, Tryd.ntmps69
      go_wp2_with (go_at_call 79; refine (hN _).mono ?_; rintro e z ⟨rfl, hz⟩)
      go_ret2
      exact ⟨rfl, hz⟩
/-- A field read from a word. -/
def rdK (k : Nat) (s : List UInt8) : Option Nat := if Lib.hasPrefix s (ledK k) then numK (s.drop (ledK k).length) (digK k) else none
theorem digK_bd (k : Nat) : 1 ≤ digK k ∧ digK k ≤ 3 := by
  unfold digK
  (repeat' split) <;> decide
theorem fread_any (k : Nat) (s : ByteArray) (hs : s.size ≤ maxLen) (w : World) : Calls Tryd.prog 52 #[.agg (fdC k).toArray, .string s] w fun e w' => e = .returned (.tuple #[.int .u16 (((rdK k s.data.toList).getD 0 : Nat) : Int), .bool (rdK k s.data.toList).isSome]) ∧ Below w.heap.size w w' := by
  have hB : Hid (Fm w [(w.heap.size, (fdC k).toArray, 62)] (w.alloc (.cells (fdC k).toArray 62))) := Fm.one w _ _
  have hC := fun z => Tryd.strings_CutPrefix s ⟨(ledK k).toArray⟩ z
  have c0 : Hid ((fdC k).toArray[0]? = some (.string ⟨(ledK k).toArray⟩)) := (rfl : (fdC k).toArray[0]? = some (.string ⟨(ledK k).toArray⟩))
  have c1 : Hid ((fdC k).toArray[1]? = some (.int .i64 (digK k : Int))) := (rfl : (fdC k).toArray[1]? = some (.int .i64 (digK k : Int)))
  have hled : (⟨(ledK k).toArray⟩ : ByteArray).data.toList = ledK k := rfl
  rw [hled] at hC
  rcases hp : Lib.hasPrefix s.data.toList (ledK k) with _ | _
  · have e : rdK k s.data.toList = none := by unfold rdK; rw [hp]; rfl
    rw [e]
    rw [hp] at hC
    simp only [Option.getD_none, Option.isSome_none]
    generalize (⟨(Lib.trimPrefix s.data.toList (ledK k)).toArray⟩ : ByteArray) = T at hC
    generalize (⟨(ledK k).toArray⟩ : ByteArray) = ld at hC c0
    generalize (fdC k).toArray = C at hB c0 c1 ⊢
    clear e hp hs hled
    go_enter Tryd.func52, Tryd.ntmps52
    go_wp2_with (first
      | (go_at_call 72; refine (hC _).mono ?_; rintro e z ⟨rfl, rfl⟩)
      | ((with_reducible refine gen_world (w.alloc (.cells C 62)) (Fm w [(w.heap.size, C, 62)]) hB.out ?_); intro y K1; have d0 := (K1.out.bx 0 _ _ _ rfl).c 0 (.string ld) c0.out; have d1 := (K1.out.bx 0 _ _ _ rfl).c 1 (.int .i64 (digK k : Int)) c1.out))
    go_ret2
    exact ⟨rfl, K1.out.low⟩
  · have et : (⟨(Lib.trimPrefix s.data.toList (ledK k)).toArray⟩ : ByteArray).data.toList = s.data.toList.drop (ledK k).length := by
      show Lib.trimPrefix s.data.toList (ledK k) = _
      unfold Lib.trimPrefix
      rw [hp]
      rfl
    have e : rdK k s.data.toList = numK (s.data.toList.drop (ledK k).length) (digK k) := by unfold rdK; rw [hp]; rfl
    rw [e, ← et]
    rw [hp] at hC
    have hts : (⟨(Lib.trimPrefix s.data.toList (ledK k)).toArray⟩ : ByteArray).size ≤ maxLen := by
      rw [← sz_list, et, List.length_drop, sz_list]
      omega
    have hN := fun z => onum_any ⟨(Lib.trimPrefix s.data.toList (ledK k)).toArray⟩ (digK k) (digK_bd k).1 (digK_bd k).2 hts z
    generalize (⟨(Lib.trimPrefix s.data.toList (ledK k)).toArray⟩ : ByteArray) = T at hC hN ⊢
    generalize (⟨(ledK k).toArray⟩ : ByteArray) = ld at hC c0
    generalize (fdC k).toArray = C at hB c0 c1 ⊢
    generalize (numK T.data.toList (digK k)) = nk at hN ⊢
    clear e hp hs hled hts et
    go_enter Tryd.func52, Tryd.ntmps52
    go_wp2_with (first
      | (go_at_call 69; refine (hN _).mono ?_; rintro e z2 ⟨rfl, hb2⟩; have K2 : Hid (Fm w [(w.heap.size, C, 62)] z2) := K1.out.below hb2)
      | (go_at_call 72; refine (hC _).mono ?_; rintro e z ⟨rfl, rfl⟩)
      | ((with_reducible refine gen_world (w.alloc (.cells C 62)) (Fm w [(w.heap.size, C, 62)]) hB.out ?_); intro y K1; have d0 := (K1.out.bx 0 _ _ _ rfl).c 0 (.string ld) c0.out; have d1 := (K1.out.bx 0 _ _ _ rfl).c 1 (.int .i64 (digK k : Int)) c1.out))
    go_ret2
    exact ⟨rfl, K2.out.low⟩
end Go.Proofs.YtfdikiafbfljaaaDoor
