/- bits.Number: what it returns for every text; nothing that was there turns. -/
import Derived.Test.YthaijjehplomfaaDoorRows
import Derived.Test.YthaijjehplomfaaDoorJ0
import Derived.WalkKit
import Derived.WalkSpells
import Derived.WalkLawsBesides
import Derived.Deep.QuietTactic
namespace Go.Proofs.YthaijjehplomfaaDoor
open Go.RowKit
set_option maxHeartbeats 400000

theorem digit_any (r : Int) (w : World) (h0 : 0 ≤ r) (h1 : r ≤ 2147483647) :
    Calls Tryd.prog 86 #[.int .i32 r] w fun e w' => e = .returned (.tuple #[.int .i64 ((digV r).getD 0), .bool (digV r).isSome]) ∧ w' = w := by
  by_cases a : 48 ≤ r
  · by_cases b : r ≤ 57
    · have e : digV r = some (r - 48) := by unfold digV; rw [if_pos ⟨a, b⟩]
      rw [e]
      go_enter Tryd.func86, Tryd.ntmps86
      go_wp2
      go_ret2
      exact ⟨rfl, rfl⟩
    · by_cases c : 97 ≤ r
      · by_cases d : r ≤ 102
        · have e : digV r = some (r - 97 + 10) := by unfold digV; rw [if_neg (by omega), if_pos ⟨c, d⟩]; congr 1; omega
          rw [e]
          go_enter Tryd.func86, Tryd.ntmps86
          go_wp2
          go_ret2
          exact ⟨rfl, rfl⟩
        · have e : digV r = none := by unfold digV; rw [if_neg (by omega), if_neg (by omega)]
          rw [e]
          go_enter Tryd.func86, Tryd.ntmps86
          go_wp2
          go_ret2
          exact ⟨rfl, rfl⟩
      · have e : digV r = none := by unfold digV; rw [if_neg (by omega), if_neg (by omega)]
        rw [e]
        go_enter Tryd.func86, Tryd.ntmps86
        go_wp2
        go_ret2
        exact ⟨rfl, rfl⟩
  · have e : digV r = none := by unfold digV; rw [if_neg (by omega), if_neg (by omega)]
    rw [e]
    have c : ¬ 97 ≤ r := by omega
    go_enter Tryd.func86, Tryd.ntmps86
    go_wp2
    go_ret2
    exact ⟨rfl, rfl⟩

theorem ret_num {a a' b b' : Int} (h : a = a') (h' : b = b') : Ending.returned (.tuple #[.int .i64 a, .int .i64 b]) = .returned (.tuple #[.int .i64 a', .int .i64 b']) := by rw [h, h']

theorem number_short (s : ByteArray) (w : World) (h : s.size < 1 ∨ 8 < s.size) (hs : s.size ≤ maxLen) :
    Calls Tryd.prog 77 #[.string s] w fun e w' => e = .returned (.tuple #[.int .i64 (numV s), .int .i64 (numE s)]) ∧ w' = w := by
  have e : numOf s = none := by unfold numOf; rw [if_neg (by omega)]
  have e1 : numV s = 0 := by unfold numV; rw [e]; rfl
  have e2 : numE s = 1 := by unfold numE; rw [e]; rfl
  rw [e1, e2]
  clear e e1 e2
  unfold maxLen at hs
  by_cases h1 : s.size < 1
  · go_enter Tryd.func77, Tryd.ntmps77
    go_wp2
    go_ret2
    exact ⟨rfl, rfl⟩
  · have h2 : 8 < s.size := by omega
    go_enter Tryd.func77, Tryd.ntmps77
    go_wp2
    go_ret2
    exact ⟨rfl, rfl⟩

/-- Reading on from a place. -/
def numFrom (s : ByteArray) (p : Nat) (acc : Int) : Option Int := numGo (s.data.toList.drop p) acc
theorem numFrom_end (s : ByteArray) (p : Nat) (acc : Int) (h : s.size ≤ p) : numFrom s p acc = some acc := by
  unfold numFrom
  rw [List.drop_eq_nil_of_le (by simpa using h)]
  rfl
theorem numFrom_step (s : ByteArray) (p : Nat) (acc : Int) (h : p < s.size) : numFrom s p acc = match digV (s[p].toNat : Int) with | none => none | some v => numFrom s (p + 1) (acc * 16 + v) := by
  unfold numFrom
  rw [List.drop_eq_getElem_cons (by simpa using h)]
  simp only [numGo]
  rfl
theorem numFrom_none (s : ByteArray) (p : Nat) (acc : Int) (h : p < s.size) (hd : digV (s[p].toNat : Int) = none) : numFrom s p acc = none := by rw [numFrom_step s p acc h, hd]
theorem numFrom_some (s : ByteArray) (p : Nat) (acc v : Int) (h : p < s.size) (hd : digV (s[p].toNat : Int) = some v) : numFrom s p acc = numFrom s (p + 1) (acc * 16 + v) := by rw [numFrom_step s p acc h, hd]
theorem digV_high (c : Int) (h : 128 ≤ c) : digV c = none := by unfold digV; rw [if_neg (by omega), if_neg (by omega)]
theorem digV_bd (c v : Int) (h : digV c = some v) : 0 ≤ v ∧ v < 16 := (hexC_digV c v h).2

theorem num_none (s : ByteArray) (h : numOf s = none) : numV s = 0 ∧ numE s = 1 := by unfold numV numE; rw [h]; exact ⟨rfl, rfl⟩
theorem num_some (s : ByteArray) (x : Int) (h : numOf s = some x) : numV s = x ∧ numE s = 0 := by unfold numV numE; rw [h]; exact ⟨rfl, rfl⟩
theorem num_lt (p : Nat) (acc v : Int) (v1 : v < 16) (h : acc < 16 ^ p) : acc * 16 + v < 16 ^ (p + 1) := by rw [Int.pow_succ]; omega

theorem number_mid (s : ByteArray) (w : World) (h1 : 1 ≤ s.size) (h2 : s.size ≤ 8) :
    Calls Tryd.prog 77 #[.string s] w fun e w' => e = .returned (.tuple #[.int .i64 (numV s), .int .i64 (numE s)]) ∧ Below w.heap.size w w' := by
  have E : Hid (numOf s = numFrom s 0 0) := by show _ = _; unfold numOf numFrom; rw [if_pos ⟨h1, h2⟩]; simp
  go_enter Tryd.func77, Tryd.ntmps77
  go_wp2
  go_loopw [4] (fun n wr => ∃ (p : Nat) (acc : Int), p ≤ s.size ∧ wr = w.iter s p ∧ n = .int .i64 acc ∧ 0 ≤ acc ∧ Hid (acc < 16 ^ p) ∧ Hid (numFrom s p acc = numFrom s 0 0)) (fun _ wr => s.size - wr.iterPos w.heap.size)
  case atStart => exact ⟨0, 0, Nat.zero_le _, rfl, rfl, by omega, show (0 : Int) < 16 ^ 0 by decide, show numFrom s 0 0 = numFrom s 0 0 from rfl⟩
  case round =>
    obtain ⟨p, acc, hp, rfl, rfl, ha, hA, hE⟩ := hrel
    by_cases hlt : p < s.size
    · have hab : acc < 268435456 := by
        have h3 : (16 : Int) ^ p ≤ 16 ^ 7 := by
          have := Nat.pow_le_pow_right (show 0 < 16 by decide) (show p ≤ 7 by omega)
          have e1 : ((16 ^ p : Nat) : Int) = (16 : Int) ^ p := by simp
          omega
        have := hA.out
        omega
      have hdl := decode_le s p
      by_cases hasc : (s[p]'hlt).toNat < 128
      · have hnx : ∀ ty, (Instr.next (.pointer (some ⟨w.heap.size, 0, none⟩)) true ty).run Tryd.prog (w.iter s p) = _ := fun ty => run_next_ascii w s p ty hlt hasc
        cases hv : digV ((s[p]'hlt).toNat : Int) with
        | none =>
          go_wp2_with (go_at_call 86; refine (digit_any _ _ (by omega) (by omega)).mono ?_; rintro e w' ⟨rfl, rfl⟩)
          go_ret2
          have hn := num_none s (E.out.trans (hE.out.symm.trans (numFrom_none s p acc hlt hv)))
          exact ⟨ret_num hn.1.symm hn.2.symm, (Below.refl _ _).alloc (Nat.le_refl _) _⟩
        | some v =>
          obtain ⟨v0, v1⟩ := digV_bd _ _ hv
          have hj : bits .or .i64 (acc * 16) v = acc * 16 + v :=
            bits_join .i64 63 (by decide) (fun n h0 h1 => by rw [IntKind.wrap_i64]; omega) 4 _ _ (by omega) (by omega) (by omega) v0 (by omega) (by omega)
          go_wp2_with (go_at_call 86; refine (digit_any _ _ (by omega) (by omega)).mono ?_; rintro e w' ⟨rfl, rfl⟩)
          go_roundw
          case rel => exact ⟨p + 1, acc * 16 + v, by omega, rfl, rfl, by omega, num_lt p acc v v1 hA.out, (numFrom_some s p acc v hlt hv).symm.trans hE.out⟩
          case measure => simp; omega
      · have hhi := decode_high s p hlt (by omega)
        have hnx : ∀ ty, (Instr.next (.pointer (some ⟨w.heap.size, 0, none⟩)) true ty).run Tryd.prog (w.iter s p) = _ := fun ty => run_next_any w s p ty hlt
        have hv : digV ((Utf8.decode s p).1 : Int) = none := digV_high _ (by omega)
        have hv2 : digV ((s[p]'hlt).toNat : Int) = none := digV_high _ (by omega)
        go_wp2_with (go_at_call 86; refine (digit_any _ _ (by omega) (by omega)).mono ?_; rintro e w' ⟨rfl, rfl⟩)
        go_ret2
        have hn := num_none s (E.out.trans (hE.out.symm.trans (numFrom_none s p acc hlt hv2)))
        exact ⟨ret_num hn.1.symm hn.2.symm, (Below.refl _ _).alloc (Nat.le_refl _) _⟩
    · have hnx : ∀ ty, (Instr.next (.pointer (some ⟨w.heap.size, 0, none⟩)) true ty).run Tryd.prog (w.iter s p) = _ := fun ty => run_next_end w s p ty hlt
      go_wp2
      go_ret2
      have hn := num_some s acc (E.out.trans (hE.out.symm.trans (numFrom_end s p acc (by omega))))
      exact ⟨ret_num hn.1.symm hn.2.symm, (Below.refl _ _).alloc (Nat.le_refl _) _⟩
/-- bits.Number, whole. -/
theorem number_any (s : ByteArray) (w : World) (hs : s.size ≤ maxLen) :
    Calls Tryd.prog 77 #[.string s] w fun e w' => e = .returned (.tuple #[.int .i64 (numV s), .int .i64 (numE s)]) ∧ Below w.heap.size w w' := by
  by_cases h : s.size < 1 ∨ 8 < s.size
  · refine (number_short s w h hs).mono ?_
    rintro e w' ⟨he, rfl⟩
    exact ⟨he, Below.refl _ _⟩
  · exact number_mid s w (by omega) (by omega)
end Go.Proofs.YthaijjehplomfaaDoor
