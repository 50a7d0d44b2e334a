/- An item as it is written, by the document: all kinds but data. -/
import Derived.Test.YtkpfhnogpcigaaaDoorRJNd
import Derived.Test.YtkpfhnogpcigaaaDoorRJIe
import Derived.Test.YtkpfhnogpcigaaaDoorRJORefJ
import Derived.Test.YtkpfhnogpcigaaaDoorRJXp
namespace Go.Proofs.YtkpfhnogpcigaaaDoorR
open Go Go.RowKit
set_option linter.unusedVariables false
set_option maxHeartbeats 3000000
set_option maxRecDepth 20000

/-- The digits of bytes, each behind a blank. -/
def dataL (b : List UInt8) : List UInt8 := b.flatMap fun x => 32 :: hexL 2 x.toNat
/-- An item as it is written. -/
def lineI (r : Ri) (b : List UInt8) : ByteArray :=
  if r.k = 1 then r.n ++ ⟨#[58]⟩
  else if r.k = 3 then ⟨([32, 100, 97, 116, 97] ++ dataL b).toArray⟩
  else if r.k = 4 then ⟨#[32, 97, 116, 32]⟩ ++ hexOf r.a 4
  else if r.k = 5 then ⟨#[32, 97, 100, 100, 114, 101, 115, 115, 32]⟩ ++ r.l
  else if r.p = 1 then ⟨#[32]⟩ ++ r.n ++ ⟨#[32, 116, 111, 32]⟩ ++ r.l
  else if r.p = 2 then ⟨#[32]⟩ ++ r.n ++ ⟨#[32, 104, 105, 103, 104, 32]⟩ ++ r.l
  else if r.p = 3 then ⟨#[32]⟩ ++ r.n ++ ⟨#[32, 108, 111, 119, 32]⟩ ++ r.l
  else ⟨#[32]⟩ ++ printS r.n r.a

theorem hexOf_le (n d : Int) : (hexOf n d).size ≤ 8 := by
  unfold hexOf
  split
  · rename_i h
    rw [hexS_size]
    omega
  · exact Nat.zero_le _
theorem printS_le (S : ByteArray) (A : Int) : (printS S A).size ≤ 13 := by
  unfold printS
  rcases ho : opOf S with _ | n
  · exact Nat.zero_le _
  · show (if mayB n A then textOf n A else ⟨#[]⟩).size ≤ 13
    split
    · unfold textOf
      have h1 := nm_size n (opOf_lt ho).1
      split
      · omega
      · have h2 := hexOf_le A (digs n)
        have e : (⟨#[32]⟩ : ByteArray).size = 1 := rfl
        rw [ByteArray.size_append, ByteArray.size_append]
        omega
    · exact Nat.zero_le _

end Go.Proofs.YtkpfhnogpcigaaaDoorR
/- An item of data as it is written, by the document. -/
namespace Go.Proofs.YtkpfhnogpcigaaaDoorR
open Go Go.RowKit
set_option linter.unusedVariables false
set_option maxHeartbeats 3000000
set_option maxRecDepth 20000

/-- Bytes that lie in a row. -/
def LB8 (x : World) (sp : Option Addr) (l : List UInt8) : Prop := ∀ j b, l[j]? = some b → ∃ g o, sp = some ⟨g, o, none⟩ ∧ x.cell? ⟨g, o + j, none⟩ = some (byV b)
theorem LB8.below {x y : World} {sp : Option Addr} {l : List UInt8} (h : LB8 x sp l) (hb : Below x.heap.size x y) : LB8 y sp l := fun j b hj => by
  obtain ⟨g, o, e, c⟩ := h j b hj
  exact ⟨g, o, e, (hb.cell (p := ⟨g, o + j, none⟩) (World.block_lt_of_cell? x _ c)).trans c⟩
theorem dataL_app (a b : List UInt8) : dataL (a ++ b) = dataL a ++ dataL b := by simp [dataL]
theorem dataL_len (b : List UInt8) : (dataL b).length = b.length * 3 := by
  induction b with
  | nil => rfl
  | cons x l ih =>
    show (32 :: hexL 2 x.toNat ++ dataL l).length = _
    rw [List.length_append, List.length_cons, hexL_len, ih, List.length_cons]
    omega
theorem dataL_take {b : List UInt8} {j : Nat} (h : j < b.length) : dataL (b.take (j + 1)) = dataL (b.take j) ++ [32] ++ hexL 2 b[j].toNat := by
  rw [List.take_add_one, List.getElem?_eq_getElem h, dataL_app]
  simp [dataL]
theorem hex2_is (x : UInt8) : strL (hexOf (x.toNat : Int) 2) = hexL 2 x.toNat ∧ (hexOf (x.toNat : Int) 2).size = 2 := by
  have h := x.toNat_lt
  have := hexOf_small (x.toNat : Int) 2 (by omega) (by show (x.toNat : Int) < 256; omega) ⟨by decide, by decide⟩
  rw [Int.toNat_natCast] at this
  exact this

end Go.Proofs.YtkpfhnogpcigaaaDoorR
