/- Bytes in memory; the bit of a dot, where a dot lies, whether two rows are the same; each place handed to whatever function. -/
import Derived.Test.YtfkifppadngmdaaD0
import Derived.Test.YtfkifppadngmdaaLw
import Derived.Deep.QuietTactic
import Derived.BigQuiet
namespace Go.Proofs.Ytfkifppadngmdaa
open Go Go.RowKit
set_option linter.unusedVariables false
set_option maxHeartbeats 1000000
set_option maxRecDepth 20000

def byV (b : UInt8) : Value := .int .u8 (b.toNat : Int)
def cB (z : UInt8) : List Value := [byV z]
theorem infoBy : (Try.prog.info? 5).map (fun i => (i.zero, i.size, i.bytes)) = some (some (.int .u8 0), 1, 1) := by kernel_rfl
theorem kByte : KdL 22 5 1 1 cB := by
  obtain ⟨i, hi, e⟩ := Option.map_eq_some_iff.1 infoBy
  injection e with e1 e2
  injection e2 with e2 e3
  exact ⟨Try.underlying22, ⟨i, _, hi, e1, e2, e3, rfl⟩, fun _ => rfl, fun x v hv => by simp [cB] at hv; subst hv; rfl, by decide, by decide⟩
abbrev LB (w : World) (sp : Option Addr) (l : List UInt8) : Prop := LiesL 1 cB w sp l
theorem lb_at {w : World} {g o : Nat} {l : List UInt8} (h : LB w (some ⟨g, o, none⟩) l) (j : Nat) (hj : j < l.length) : w.cell? ⟨g, o + j, none⟩ = some (.int .u8 ((l.getD j 0).toNat : Int)) := by
  obtain ⟨gb, ob, e, k⟩ := h j (l.getD j 0) (by simp [List.getD, hj])
  cases e
  have := k 0 (byV (l.getD j 0)) rfl
  rwa [Nat.mul_one] at this
theorem lb_some {w : World} {sp : Option Addr} {l : List UInt8} (h : LB w sp l) (hj : 0 < l.length) : ∃ g o, sp = some ⟨g, o, none⟩ := by
  obtain ⟨gb, ob, e, k⟩ := h 0 (l.getD 0 0) (by simp [List.getD, hj])
  exact ⟨gb, ob, e⟩
theorem rowB_eq (l : List UInt8) : rowL cB l = l.map byV := by
  induction l with
  | nil => rfl
  | cons x l ih => rw [rowL_cons, ih]; rfl
/-- Bytes as cells. -/
def rowB (l : List UInt8) : Array Value := (l.map byV).toArray
theorem rowB_get (l : List UInt8) (j : Nat) (hj : j < l.length) : (rowB l)[j]? = some (byV (l.getD j 0)) := by
  unfold rowB
  simp [List.getD, hj]
theorem rowB_set (l : List UInt8) (j : Nat) (b : UInt8) : (rowB l).setIfInBounds j (byV b) = rowB (l.set j b) := by
  apply Array.toList_inj.1
  unfold rowB
  simp [List.map_set]
theorem rowB_size (l : List UInt8) : (rowB l).size = l.length := by unfold rowB; simp
theorem idxB (k : IntKind) (g o n cap j : Nat) (v : World) (h : j < n) : (Instr.indexAt 22 (.slice (some ⟨g, o, none⟩) n cap) (.int k (j : Int))).run Try.prog v = .ok (.pointer (some ⟨g, o + j, none⟩)) v := by
  have := idxP (g := g) (off := o) (len := n) (cap := cap) Try.underlying22 (s := 1) (by kernel_rfl) k j v h
  rwa [Nat.mul_one] at this
/-- A block of bytes is a row of its own. -/
theorem own_of_bx {B : Nat} {w : World} {g : Nat} {l : List UInt8} (h : Bx w g (rowB l) 5) (hB : B ≤ g) (hm : l.length ≤ maxLen) : OwnL 5 1 cB B w (.slice (some ⟨g, 0, none⟩) l.length l.length) l := by
  refine ⟨by rw [rowB_eq]; simp, .inr ⟨g, l.length, rowB l, rfl, hB, h, Nat.le_refl _, ?_, by rw [rowB_size, Nat.mul_one], ?_⟩⟩
  · exact hm
  · rw [rowB_eq, Nat.mul_one]
    unfold rowB
    rw [List.take_of_length_le (by simp)]
theorem bv8 (q : UInt8) : BitVec.ofInt 8 (q.toNat : Int) = q.toBitVec := by
  apply BitVec.eq_of_toNat_eq
  rw [BitVec.toNat_ofInt]
  have := q.toNat_lt
  show _ = q.toNat
  omega
theorem wrap8 (q : UInt8) : IntKind.u8.wrap (q.toNat : Int) = (q.toNat : Int) := by
  have := q.toNat_lt
  unfold IntKind.wrap
  simp [IntKind.bits, IntKind.signed]
  omega
theorem and8 (x y : UInt8) : bits .and .u8 (x.toNat : Int) (y.toNat : Int) = ((x &&& y).toNat : Int) := by
  show IntKind.u8.wrap ((BitVec.ofInt 8 (x.toNat : Int) &&& BitVec.ofInt 8 (y.toNat : Int)).toNat : Int) = _
  rw [bv8, bv8]
  exact wrap8 (x &&& y)
theorem xor8 (x y : UInt8) : bits .xor .u8 (x.toNat : Int) (y.toNat : Int) = ((x ^^^ y).toNat : Int) := by
  show IntKind.u8.wrap ((BitVec.ofInt 8 (x.toNat : Int) ^^^ BitVec.ofInt 8 (y.toNat : Int)).toNat : Int) = _
  rw [bv8, bv8]
  exact wrap8 (x ^^^ y)
theorem or8 (x y : UInt8) : bits .or .u8 (x.toNat : Int) (y.toNat : Int) = ((x ||| y).toNat : Int) := by
  show IntKind.u8.wrap ((BitVec.ofInt 8 (x.toNat : Int) ||| BitVec.ofInt 8 (y.toNat : Int)).toNat : Int) = _
  rw [bv8, bv8]
  exact wrap8 (x ||| y)
theorem shr8 (k : Nat) (hk : k < 8) : Op.shift .shr .u8 128 .i64 (k : Int) = pure (.int .u8 ((mk k).toNat : Int)) := by
  have h : ∀ k : Fin 8, Int.fdiv 128 (2 ^ (min k.val 8)) = ((mk k.val).toNat : Int) := by decide +kernel
  unfold Op.shift
  rw [if_neg (by omega)]
  have e : ((k : Int)).toNat = k := by omega
  simp only [e, IntKind.bits]
  rw [h ⟨k, hk⟩]
theorem zero8 (x : UInt8) : ((x.toNat : Int) == 0) = (x == 0) := by
  by_cases h : x = 0
  · subst h; rfl
  · have : x.toNat ≠ 0 := fun e => h (UInt8.toNat_inj.1 e)
    rw [beq_eq_false_iff_ne.2 h, beq_eq_false_iff_ne.2 (by omega)]
theorem nzero8 (x : UInt8) : ((x.toNat : Int) != 0) = (x != 0) := by unfold bne; rw [zero8]

theorem sh8 (k : Nat) (hk : k < 8) : (128 : Int) / 2 ^ k = ((mk k).toNat : Int) := by
  have h : ∀ k : Fin 8, (128 : Int) / 2 ^ k.val = ((mk k.val).toNat : Int) := by decide +kernel
  exact h ⟨k, hk⟩
theorem bit_any (w : World) (k : Nat) (hk : k < 8) : Calls Try.prog 72 #[.int .i64 (k : Int)] w fun e w' => e = .returned (.int .u8 ((mk k).toNat : Int)) ∧ w' = w := by
  have h1 := sh8 k hk
  go_enter Try.func72, Try.ntmps72
  go_wp2
  go_ret
  exact ⟨by first | rfl | (show Ending.returned (.int .u8 (128 / 2 ^ k)) = _; rw [h1]), rfl⟩
theorem dot_any (w : World) (i j : Nat) (hi : i < 64) (hj : j < 32) : Calls Try.prog 73 #[.int .i64 (i : Int), .int .i64 (j : Int)] w fun e w' => e = .returned (.tuple #[.int .i64 (((64 * j + i) / 8 : Nat) : Int), .int .u8 ((mk ((64 * j + i) % 8)).toNat : Int)]) ∧ w' = w := by
  have hb := fun w => bit_any w (i % 8) (Nat.mod_lt _ (by decide))
  have e1 : (64 * j + i) / 8 = j * 8 + i / 8 := by omega
  have e2 : (64 * j + i) % 8 = i % 8 := by omega
  rw [e1, e2]
  have hi2 : (i : Int) < 64 := by omega
  have hj2 : (j : Int) < 32 := by omega
  go_enter Try.func73, Try.ntmps73
  have h1 := sh8 (i % 8) (Nat.mod_lt _ (by decide))
  clear hb
  go_wp2
  go_ret2
  refine ⟨?_, rfl⟩
  show Ending.returned (.tuple #[.int .i64 ((j : Int) * 8 + (i : Int) / 8), .int .u8 (128 / 2 ^ (i % 8))]) = _
  rw [h1]
  congr 4
end Go.Proofs.Ytfkifppadngmdaa
