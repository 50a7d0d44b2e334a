/- A CHIP-8 machine in memory; whether it may be; how much of it there is. -/
import Derived.Test.YtigiebfdaiccdaaG0
import Derived.Test.YtigiebfdaiccdaaD4
namespace Go.Proofs.Ytigiebfdaiccdaa
open Go Go.RowKit Go.Shelf
set_option linter.unusedVariables false
set_option maxHeartbeats 1000000
set_option maxRecDepth 20000

/-- A register's cell. -/
def gV (v : List UInt8) (k : Nat) : Value := byV (v.getD k 0)
/-- A word's cell, of a font. -/
def wV (l : List Nat) (k : Nat) : Value := .int .u16 ((l.getD k 0 : Nat) : Int)
/-- A machine's cells. -/
def gCs (v : List UInt8) (i pc : Nat) (sS : Value) (de so : UInt8) (sP sM : Value) : Array Value :=
  #[gV v 0, gV v 1, gV v 2, gV v 3, gV v 4, gV v 5, gV v 6, gV v 7, gV v 8, gV v 9, gV v 10, gV v 11, gV v 12, gV v 13, gV v 14, gV v 15,
    .int .u16 (i : Int), .int .u16 (pc : Int), sS, byV de, byV so, sP, sM]
/-- A font's cells. -/
def fCs (pl : List Nat) (fr : Nat) (sB : Value) : Array Value :=
  #[wV pl 0, wV pl 1, wV pl 2, wV pl 3, wV pl 4, wV pl 5, wV pl 6, wV pl 7, wV pl 8, wV pl 9, wV pl 10, wV pl 11, wV pl 12, wV pl 13, wV pl 14, wV pl 15, .int .u16 (fr : Int), sB]
theorem below_one (w : World) (o : Obj) : Below w.heap.size w (w.alloc o) := (Below.refl _ _).alloc (Nat.le_refl _) _
theorem below_two (w : World) (o p : Obj) : Below w.heap.size w ((w.alloc o).alloc p) := ((Below.refl _ _).alloc (Nat.le_refl _) _).alloc (by simp) _
theorem rcheck_any (w : World) (v : List UInt8) (i pc : Nat) (de so : UInt8) (sS sP sM : Option Addr) (nS nP nM cS cP cM : Nat) :
    Calls Try.prog 18 #[.agg (gCs v i pc (.slice sS nS cS) de so (.slice sP nP cP) (.slice sM nM cM))] w fun e w' => e = .returned (.int .i64 (if nP == 256 && (nM == 3232 && decide (nS ≤ 12)) then 0 else 180)) ∧ Below w.heap.size w w' := by
  by_cases h1 : nP = 256
  · by_cases h2 : nM = 3232
    · by_cases h3 : nS ≤ 12
      · rw [if_pos (by simp [h1, h2, h3])]
        have q1 : ((nP : Int) != 256) = false := by simp; omega
        have q2 : ((nM : Int) != 3232) = false := by simp; omega
        have q3 : decide ((12 : Int) < (nS : Int)) = false := by simp; omega
        clear h1 h2 h3
        unfold gCs
        go_enter Try.func18, Try.ntmps18
        go_wp2
        go_ret
        exact ⟨rfl, below_one _ _⟩
      · rw [if_neg (by simp [h3])]
        have q1 : ((nP : Int) != 256) = false := by simp; omega
        have q2 : ((nM : Int) != 3232) = false := by simp; omega
        have q3 : decide ((12 : Int) < (nS : Int)) = true := by simp; omega
        clear h1 h2 h3
        unfold gCs
        go_enter Try.func18, Try.ntmps18
        go_wp2
        go_ret
        exact ⟨rfl, below_one _ _⟩
    · rw [if_neg (by simp [h2])]
      have q1 : ((nP : Int) != 256) = false := by simp; omega
      have q2 : ((nM : Int) != 3232) = true := by simp; omega
      clear h1 h2
      unfold gCs
      go_enter Try.func18, Try.ntmps18
      go_wp2
      go_ret
      exact ⟨rfl, below_one _ _⟩
  · rw [if_neg (by simp [h1])]
    have q1 : ((nP : Int) != 256) = true := by simp; omega
    clear h1
    unfold gCs
    go_enter Try.func18, Try.ntmps18
    go_wp2
    go_ret
    exact ⟨rfl, below_one _ _⟩
/-- How much of a machine and its font there is. -/
def vasG (a b c d : Nat) : Bool := decide (2147483647 < a + b + c + d)
theorem vast_any (w : World) (v : List UInt8) (i pc : Nat) (de so : UInt8) (sS sP sM : Option Addr) (nS nP nM cS cP cM : Nat) (pl : List Nat) (fr : Nat) (sB : Option Addr) (nB cB' : Nat) :
    Calls Try.prog 13 #[.agg (gCs v i pc (.slice sS nS cS) de so (.slice sP nP cP) (.slice sM nM cM)), .agg (fCs pl fr (.slice sB nB cB'))] w fun e w' => e = .returned (.bool (vasG nS nP nM nB)) ∧ Below w.heap.size w w' := by
  by_cases h0 : 2147483647 < nS
  · have q0 : decide ((2147483647 : Int) < (nS : Int)) = true := by simp; omega
    have e : vasG nS nP nM nB = true := by unfold vasG; simp; omega
    rw [e]
    clear e h0
    unfold gCs fCs
    go_enter Try.func13, Try.ntmps13
    go_wp2
    go_ret
    exact ⟨rfl, below_two _ _ _⟩
  · by_cases h1 : 2147483647 < nP
    · have q0 : decide ((2147483647 : Int) < (nS : Int)) = false := by simp; omega
      have q1 : decide ((2147483647 : Int) < (nP : Int)) = true := by simp; omega
      have e : vasG nS nP nM nB = true := by unfold vasG; simp; omega
      rw [e]
      clear e h0 h1
      unfold gCs fCs
      go_enter Try.func13, Try.ntmps13
      go_wp2
      go_ret
      exact ⟨rfl, below_two _ _ _⟩
    · by_cases h2 : 2147483647 < nM
      · have q0 : decide ((2147483647 : Int) < (nS : Int)) = false := by simp; omega
        have q1 : decide ((2147483647 : Int) < (nP : Int)) = false := by simp; omega
        have q2 : decide ((2147483647 : Int) < (nM : Int)) = true := by simp; omega
        have e : vasG nS nP nM nB = true := by unfold vasG; simp; omega
        rw [e]
        clear e h0 h1 h2
        unfold gCs fCs
        go_enter Try.func13, Try.ntmps13
        go_wp2
        go_ret
        exact ⟨rfl, below_two _ _ _⟩
      · by_cases h3 : 2147483647 < nB
        · have q0 : decide ((2147483647 : Int) < (nS : Int)) = false := by simp; omega
          have q1 : decide ((2147483647 : Int) < (nP : Int)) = false := by simp; omega
          have q2 : decide ((2147483647 : Int) < (nM : Int)) = false := by simp; omega
          have q3 : decide ((2147483647 : Int) < (nB : Int)) = true := by simp; omega
          have e : vasG nS nP nM nB = true := by unfold vasG; simp; omega
          rw [e]
          clear e h0 h1 h2 h3
          unfold gCs fCs
          go_enter Try.func13, Try.ntmps13
          go_wp2
          go_ret
          exact ⟨rfl, below_two _ _ _⟩
        · have r1 : (nS : Int) ≤ 2147483647 := by omega
          have r2 : (nP : Int) ≤ 2147483647 := by omega
          have r3 : (nM : Int) ≤ 2147483647 := by omega
          have r4 : (nB : Int) ≤ 2147483647 := by omega
          have q0 : decide ((2147483647 : Int) < (nS : Int)) = false := by simp; omega
          have q1 : decide ((2147483647 : Int) < (nP : Int)) = false := by simp; omega
          have q2 : decide ((2147483647 : Int) < (nM : Int)) = false := by simp; omega
          have q3 : decide ((2147483647 : Int) < (nB : Int)) = false := by simp; omega
          obtain ⟨R, hR⟩ : ∃ R, vasG nS nP nM nB = R := ⟨_, rfl⟩
          rw [hR]
          have q4 : decide ((2147483647 : Int) < (nS : Int) + (nP : Int) + (nM : Int) + (nB : Int)) = R := by
            rw [← hR]
            unfold vasG
            simp only [decide_eq_decide]
            omega
          clear hR h0 h1 h2 h3
          unfold gCs fCs
          go_enter Try.func13, Try.ntmps13
          go_wp2
          go_ret
          exact ⟨rfl, below_two _ _ _⟩
end Go.Proofs.Ytigiebfdaiccdaa
