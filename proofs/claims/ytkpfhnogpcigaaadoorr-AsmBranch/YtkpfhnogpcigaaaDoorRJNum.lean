/- bits.Number: what it returns for every text; nothing that was there turns. -/
import Derived.Test.YtkpfhnogpcigaaaDoorRRows
import Derived.Test.YtkpfhnogpcigaaaDoorRJText
import Derived.WalkKit
import Derived.WalkSpells
import Derived.WalkLawsBesides
import Derived.Deep.QuietTactic
namespace Go.Proofs.YtkpfhnogpcigaaaDoorR
open Go.RowKit
set_option maxHeartbeats 400000

theorem ret_num {a a' b b' : Int} (h : a = a') (h' : b = b') : Ending.returned (.tuple #[.int .i64 a, .int .i64 b]) = .returned (.tuple #[.int .i64 a', .int .i64 b']) := by rw [h, h']

/-- Reading on from a place. -/
def numFrom (s : ByteArray) (p : Nat) (acc : Int) : Option Int := numGo (s.data.toList.drop p) acc
theorem numFrom_end (s : ByteArray) (p : Nat) (acc : Int) (h : s.size ≤ p) : numFrom s p acc = some acc := by
  unfold numFrom
  rw [List.drop_eq_nil_of_le (by simpa using h)]
  rfl
theorem numFrom_step (s : ByteArray) (p : Nat) (acc : Int) (h : p < s.size) : numFrom s p acc = match digV (s[p].toNat : Int) with | none => none | some v => numFrom s (p + 1) (acc * 16 + v) := by
  unfold numFrom
  rw [List.drop_eq_getElem_cons (by simpa using h)]
  simp only [numGo]
  rfl
theorem numFrom_none (s : ByteArray) (p : Nat) (acc : Int) (h : p < s.size) (hd : digV (s[p].toNat : Int) = none) : numFrom s p acc = none := by rw [numFrom_step s p acc h, hd]
theorem numFrom_some (s : ByteArray) (p : Nat) (acc v : Int) (h : p < s.size) (hd : digV (s[p].toNat : Int) = some v) : numFrom s p acc = numFrom s (p + 1) (acc * 16 + v) := by rw [numFrom_step s p acc h, hd]
theorem digV_high (c : Int) (h : 128 ≤ c) : digV c = none := by unfold digV; rw [if_neg (by omega), if_neg (by omega)]
theorem digV_bd (c v : Int) (h : digV c = some v) : 0 ≤ v ∧ v < 16 := (hexC_digV c v h).2

theorem num_none (s : ByteArray) (h : numOf s = none) : numV s = 0 ∧ numE s = 1 := by unfold numV numE; rw [h]; exact ⟨rfl, rfl⟩
theorem num_some (s : ByteArray) (x : Int) (h : numOf s = some x) : numV s = x ∧ numE s = 0 := by unfold numV numE; rw [h]; exact ⟨rfl, rfl⟩
theorem num_lt (p : Nat) (acc v : Int) (v1 : v < 16) (h : acc < 16 ^ p) : acc * 16 + v < 16 ^ (p + 1) := by rw [Int.pow_succ]; omega

end Go.Proofs.YtkpfhnogpcigaaaDoorR
