/- code.Print: what it returns of every instruction. -/
import Derived.Test.YtmaedkbmjbggpaaDoorJOHolds
import Derived.Test.YtmaedkbmjbggpaaDoorJOSum
import Derived.Test.YtmaedkbmjbggpaaDoorJHex
namespace Go.Proofs.YtmaedkbmjbggpaaDoor
open Go.RowKit
set_option linter.unusedVariables false
set_option maxHeartbeats 1000000
set_option maxRecDepth 20000

theorem cat_run (P : Program) (a b : ByteArray) (w : World) (h : a.size + b.size < 1000) : (Op.stringOp .add a b).run P w = .ok (.string (a ++ b)) w := by
  simp [Op.stringOp, go_sem]
  omega
theorem hexOf_size (n d : Int) : (hexOf n d).size ≤ 8 := by
  unfold hexOf
  split
  · rename_i h
    have : (hexS d.toNat n.toNat).size = d.toNat := by
      show (hexL d.toNat n.toNat).toArray.size = _
      simp [hexL_len]
    omega
  · decide

theorem print_name (S : ByteArray) (A : Int) (ho : Hid (opOf S = none)) (w : World) (T : Tabs w) :
    Calls Tryd.prog 69 #[.agg #[.string S, .int .i64 A]] w fun e w' => e = .returned (.tuple #[.string ⟨#[]⟩, .int .i64 20]) ∧ Below w.heap.size w w' := by
  have T1 := tabs_alloc T (.cells #[.string S, .int .i64 A] 71)
  go_enter Tryd.func69, Tryd.ntmps69
  go_wp2_with (go_at_call 63; refine (enc_name S A ho _ T1).mono ?_; rintro e v1 ⟨rfl, hb1⟩; replace hb1 := below_own hb1)
  go_ret2
  exact ⟨rfl, hb1⟩
theorem print_bad (S : ByteArray) (A : Int) (n : Nat) (ho : Hid (opOf S = some n)) (hm : Hid (¬ may n A)) (w : World) (T : Tabs w) :
    Calls Tryd.prog 69 #[.agg #[.string S, .int .i64 A]] w fun e w' => e = .returned (.tuple #[.string ⟨#[]⟩, .int .i64 21]) ∧ Below w.heap.size w w' := by
  have T1 := tabs_alloc T (.cells #[.string S, .int .i64 A] 71)
  go_enter Tryd.func69, Tryd.ntmps69
  go_wp2_with (go_at_call 63; refine (enc_bad S A n ho.out hm.out _ T1).mono ?_; rintro e v1 ⟨rfl, hb1⟩; replace hb1 := below_own hb1)
  go_ret2
  exact ⟨rfl, hb1⟩

theorem print_bare (S : ByteArray) (A : Int) (n : Nat) (ho : Hid (opOf S = some n)) (hm : Hid (may n A)) (X : ByteArray) (L c : Nat) (hX : Hid (nm n = X)) (hF : Hid (fm n = 1)) (hL : Hid (lay (fm n * 3) = L)) (hc : Hid (cyc n = c)) (w : World) (T : Tabs w) :
    Calls Tryd.prog 69 #[.agg #[.string S, .int .i64 A]] w fun e w' => e = .returned (.tuple #[.string X, .int .i64 0]) ∧ Below w.heap.size w w' := by
  have T1 := tabs_alloc T (.cells #[.string S, .int .i64 A] 71)
  obtain ⟨k, hk⟩ : ∃ k, Hid ((encB n A).length = k) := ⟨_, (rfl : (encB n A).length = (encB n A).length)⟩
  have hE := enc_good S A n ho.out hm.out _ T1
  unfold Coded at hE
  rw [hk.out] at hE
  go_enter Tryd.func69, Tryd.ntmps69
  go_wp2_with (first
    | (go_at_call 63; refine hE.mono ?_; rintro e v1 ⟨b, hbb, rfl, hbc, hb1⟩; have T2 := T1.below hb1; have G0 := holds_new hb1; have a0 : v1.cell? ⟨w.heap.size, 0, none⟩ = some (.string S) := G0 0 (by simp); replace hb1 := below_own hb1)
    | (go_at_call 64; refine (find_some S n ho X 1 L c hX hF hL hc _ T2).mono ?_; rintro e v2 ⟨rfl, hb2⟩; replace hb2 := hb1.trans (hb2.mono hb1.size)))
  go_ret2
  exact ⟨rfl, hb2.alloc hb2.size _⟩

theorem print_reg (S : ByteArray) (A : Int) (n : Nat) (ho : Hid (opOf S = some n)) (hm : Hid (may n A)) (X : ByteArray) (F L c D : Nat) (hX : Hid (nm n = X)) (hF : Hid (fm n = F)) (hL : Hid (lay (fm n * 3) = L)) (hc : Hid (cyc n = c)) (hF1 : 2 ≤ F) (hF6 : F ≤ 6) (hD : Hid (lay (F * 3 + 1) = D)) (w : World) (T : Tabs w) (hA : A ≤ 65535) (hX4 : X.size ≤ 4) :
    Calls Tryd.prog 69 #[.agg #[.string S, .int .i64 A]] w fun e w' => e = .returned (.tuple #[.string (X ++ ⟨#[32]⟩ ++ hexOf A D), .int .i64 0]) ∧ Below w.heap.size w w' := by
  have T1 := tabs_alloc T (.cells #[.string S, .int .i64 A] 71)
  obtain ⟨k, hk⟩ : ∃ k, Hid ((encB n A).length = k) := ⟨_, (rfl : (encB n A).length = (encB n A).length)⟩
  have hE := enc_good S A n ho.out hm.out _ T1
  unfold Coded at hE
  rw [hk.out] at hE
  have i5 := fun w => idx (g := 6) (off := 0) Tryd.underlying112 (s := 3) (by kernel_rfl) .u8 F w (by omega)
  simp only [Nat.zero_add] at i5
  have b1 : (ByteArray.mk #[32]).size = 1 := rfl
  have b2 := hexOf_size A D
  have b3 : (X ++ ByteArray.mk #[32]).size = X.size + 1 := by rw [ByteArray.size_append, b1]
  have cat1 := fun w => cat_run Tryd.prog X ⟨#[32]⟩ w (by omega)
  have cat2 := fun w => cat_run Tryd.prog (X ++ ⟨#[32]⟩) (hexOf A D) w (by omega)
  clear b1 b2 b3
  have hF1' : ((F : Int) == 1) = false := by simp; omega
  go_enter Tryd.func69, Tryd.ntmps69
  go_wp2_with (first
    | (go_at_call 63; refine hE.mono ?_; rintro e v1 ⟨b, hbb, rfl, hbc, hb1⟩; have T2 := T1.below hb1; have G0 := holds_new hb1; have a0 : v1.cell? ⟨w.heap.size, 0, none⟩ = some (.string S) := G0 0 (by simp); replace hb1 := below_own hb1)
    | (go_at_call 64; refine (find_some S n ho X F L c hX hF hL hc _ T2).mono ?_; rintro e v2 ⟨rfl, hb2⟩; have T3 := T2.below hb2; replace G0 := G0.mono hb2; have a1 : v2.cell? ⟨w.heap.size, 1, none⟩ = some (.int .i64 A) := G0 1 (by simp); have s1 := own_size a1; have y5 := T3.ly (F * 3 + 1) (by omega); rw [hD.out] at y5; have z5 : 6 < v2.heap.size := own_size y5; replace hb2 := hb1.trans (hb2.mono hb1.size)))
  go_region_with (go_at_call 43; refine (hex_any A D _ ?_).mono ?_; omega; rintro e v3 ⟨rfl, hb3⟩; have x0 : v3.cell? ⟨v2.heap.size, 0, none⟩ = some (.string X) := (hb3.cell (p := ⟨v2.heap.size, 0, none⟩) (by simp)).trans (by simp))
  all_goals go_wp2
  all_goals go_ret2
  all_goals refine ⟨rfl, Below.trans (B := w.heap.size) ?_ (hb3.mono (Nat.le_trans hb2.size (by simp)))⟩
  all_goals repeat (first | exact hb2 | refine Below.drew ?_ | refine below_drewN ?_ | refine Below.alloc ?_ hb2.size _)
end Go.Proofs.YtmaedkbmjbggpaaDoor
