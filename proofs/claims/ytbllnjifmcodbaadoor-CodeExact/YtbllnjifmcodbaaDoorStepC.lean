/- The law's own step: Print, Parse. -/
import Derived.Test.YtbllnjifmcodbaaDoorStepB
namespace Go.Proofs.YtbllnjifmcodbaaDoor
open Go.RowKit
set_option linter.unusedVariables false
set_option maxHeartbeats 2000000
set_option maxRecDepth 20000

theorem step_print (w : World) (kb : Nat) (n : Nat) (ag : Bool) (S : ByteArray) (A : Int) (L : ByteArray) (sp : Option Addr) (len cap : Nat) (X : ByteArray) (er : Int)
    (cA : ∀ v, Below w.heap.size w v → Calls Tryd.prog 17 #[.agg #[.string S, .int .i64 A]] v fun e v' => e = .returned (.tuple #[.string X, .int .i64 er]) ∧ Below v.heap.size v v')
    (cB : ∀ v, Calls Tryd.prog 32 #[.agg #[.string S, .int .i64 A]] v fun e v' => e = .returned (.tuple #[.string X, .int .i64 er]) ∧ Below v.heap.size v v') :
    Calls Tryd.prog 13 #[.pointer (some ⟨kb, 0, none⟩), opV 6 n ag S A L sp len cap] w fun e w' => e = .returned (.bool true) ∧ Below w.heap.size w w' := by
  have HB : Below w.heap.size w (w.alloc (opC 6 n ag S A L sp len cap)) := (Below.refl _ _).alloc (Nat.le_refl _) _
  unfold opV
  go_enter Tryd.func13, Tryd.ntmps13
  go_wp2_with (first
    | (go_at_call 17; refine (cA _ HB).mono ?_; rintro e v1 ⟨rfl, P1⟩; have c3 : v1.cell? ⟨w.heap.size, 3, none⟩ = some (.string S) := own_cell P1 3; have c4 : v1.cell? ⟨w.heap.size, 4, none⟩ = some (.int .i64 A) := own_cell P1 4; replace P1 := below_own P1)
    | (go_at_call 32; refine (cB _).mono ?_; rintro e v2 ⟨rfl, P2⟩; replace P2 := P1.trans (P2.mono P1.size)))
  go_ret
  exact ⟨by first | rfl | simp, P2⟩

theorem step_parse (w : World) (kb : Nat) (n : Nat) (ag : Bool) (S : ByteArray) (A : Int) (L : ByteArray) (sp : Option Addr) (len cap : Nat) (X : ByteArray) (a er : Int)
    (cA : ∀ v, Below w.heap.size w v → Calls Tryd.prog 18 #[.string L] v fun e v' => e = .returned (.tuple #[.agg #[.string X, .int .i64 a], .int .i64 er]) ∧ Below v.heap.size v v')
    (cB : ∀ v, Calls Tryd.prog 33 #[.string L] v fun e v' => e = .returned (.tuple #[.agg #[.string X, .int .i64 a], .int .i64 er]) ∧ Below v.heap.size v v') :
    Calls Tryd.prog 13 #[.pointer (some ⟨kb, 0, none⟩), opV 7 n ag S A L sp len cap] w fun e w' => e = .returned (.bool true) ∧ Below w.heap.size w w' := by
  have HB : Below w.heap.size w (w.alloc (opC 7 n ag S A L sp len cap)) := (Below.refl _ _).alloc (Nat.le_refl _) _
  unfold opV
  go_enter Tryd.func13, Tryd.ntmps13
  go_wp2_with (first
    | (go_at_call 18; refine (cA _ HB).mono ?_; rintro e v1 ⟨rfl, P1⟩; have c5 : ∀ o, (v1.alloc o).cell? ⟨w.heap.size, 5, none⟩ = some (.string L) := (fun o => keepAt0 ((Below.refl _ _).alloc (Nat.le_refl _) _) (own_cell P1 5)); replace P1 := below_own P1)
    | (go_at_call 33; refine (cB _).mono ?_; rintro e v2 ⟨rfl, P2⟩; have d0 : ∀ o, (v2.alloc o).cell? ⟨v1.heap.size, 0, none⟩ = some (.string X) := (fun o => keepAt0 ((Below.refl _ _).alloc (Nat.le_refl _) _) (own_cell P2 0)); have d1 : ∀ o, (v2.alloc o).cell? ⟨v1.heap.size, 1, none⟩ = some (.int .i64 a) := (fun o => keepAt0 ((Below.refl _ _).alloc (Nat.le_refl _) _) (own_cell P2 1)); replace P2 := P1.trans ((below_own P2).mono P1.size)))
  go_ret
  exact ⟨by first | rfl | simp, P2.alloc P2.size _⟩
end Go.Proofs.YtbllnjifmcodbaaDoor
