/- The rows of a trace: where a row ends; the rows one by one, each handed to whatever function. -/
import Derived.Test.YtbiifkcphaljeaaTb
import Derived.Test.YtbiifkcphaljeaaTm
import Derived.Deep.QuietTactic
import Derived.BigQuiet
namespace Go.Proofs.Ytbiifkcphaljeaa
open Go Go.RowKit
set_option linter.unusedVariables false
set_option maxHeartbeats 2000000
set_option maxRecDepth 20000

/-- Q of the records that lie in memory. -/
def LiesQ (w : World) (sp : Option Addr) (qs : List Bool) : Prop := ∀ (j : Nat) (b : Bool), qs[j]? = some b → ∃ g o, sp = some ⟨g, o, none⟩ ∧ w.cell? ⟨g, o + j * 8 + 6, none⟩ = some (.bool b)
theorem LiesQ.below {x y : World} {sp : Option Addr} {qs : List Bool} (h : LiesQ x sp qs) (hb : Below x.heap.size x y) : LiesQ y sp qs := fun j b hj => by
  obtain ⟨g, o, e, k⟩ := h j b hj
  exact ⟨g, o, e, (hb.cell (p := ⟨g, o + j * 8 + 6, none⟩) (World.block_lt_of_cell? x _ k)).trans k⟩
theorem LiesQ.of {x : World} {sp : Option Addr} {l : List Rc} (h : LiesR x sp l) : LiesQ x sp (l.map (·.q)) := fun j b hj => h.q j b hj
theorem rowEnd_any (w : World) (sp : Option Addr) (cap n k : Nat) (qs : List Bool) (hq : Hid (LiesQ w sp qs)) (hqn : Hid (qs.length = n)) (hn : n ≤ 2147483647) (hk : k < n) (q : Bool) (hqk : Hid (qs[k]? = some q)) :
    Calls Try.prog 26 #[.slice sp n cap, .int .i64 (k : Int)] w fun e w' => ∃ e' : Nat, e = .returned (.int .i64 (e' : Int)) ∧ Hid (Below w.heap.size w w' ∧ k < e' ∧ e' ≤ n ∧ (∀ i, k ≤ i → i < e' → qs[i]? = some q) ∧ ∀ q', qs[e']? = some q' → q' ≠ q) := by
  have ni : (n : Int) ≤ 2147483647 := by omega
  obtain ⟨g, o, rfl, -⟩ := hq.out k q hqk.out
  have hq' : Hid (∀ (y : World), Below w.heap.size w y → ∀ (j : Nat) (b : Bool), qs[j]? = some b → y.cell? ⟨g, o + j * 8 + 6, none⟩ = some (.bool b)) := fun y hy j b hj => by
    obtain ⟨g', o', e, c⟩ := hq.out.below hy j b hj
    cases e
    exact c
  have ik := fun u => idxP (g := g) (off := o) (len := n) (cap := cap) Try.underlying22 (s := 8) (by kernel_rfl) .i64 k u hk
  have kb : (k : Int) + 1 ≤ 2147483647 := by omega
  clear hq
  go_enter Try.func26, Try.ntmps26
  go_wp2
  go_loopw [5] (fun t wz => ∃ (j : Nat) (y : World), y = wz ∧ t = .int .i64 (j : Int) ∧ Hid (Below w.heap.size w y ∧ k < j ∧ j ≤ n ∧ ∀ i, k ≤ i → i < j → qs[i]? = some q)) (fun t _ => (n - intOf t).toNat)
  case atStart => exact ⟨k + 1, w, rfl, by simp, ⟨Below.refl _ _, by omega, hk, fun i h1 h2 => by rw [show i = k by omega]; exact hqk.out⟩⟩
  case round =>
    obtain ⟨j, y, rfl, rfl, J⟩ := hrel
    have ck := hq'.out y J.out.1 k q hqk.out
    by_cases hlt : j < n
    · obtain ⟨c, hc, -⟩ := at_list hqn.out hlt
      have cj := hq'.out y J.out.1 j c hc
      have ij := fun u => idxP (g := g) (off := o) (len := n) (cap := cap) Try.underlying22 (s := 8) (by kernel_rfl) .i64 j u hlt
      have hji : (j : Int) < n := by omega
      have q1 : decide ((j : Int) < n) = true := by simp; omega
      by_cases hcq : c = q
      · subst hcq
        have q0 : (c == c) = true := by simp
        have J2 : Hid (Below w.heap.size w y ∧ k < j + 1 ∧ j + 1 ≤ n ∧ ∀ i, k ≤ i → i < j + 1 → qs[i]? = some c) := ⟨J.out.1, by have := J.out.2.1; omega, hlt, fun i h1 h2 => by
          rcases Nat.lt_or_ge i j with h | h
          · exact J.out.2.2.2 i h1 h
          · rw [show i = j by omega]; exact hc⟩
        clear hc J
        go_wp2
        go_quiet (fail)
        go_wp2
        go_roundw
        case rel => exact ⟨j + 1, _, rfl, by simp, ⟨by first | exact J2.out.1.trans (below_drewN (Below.refl _ _)) | exact below_drewN J2.out.1 | exact J2.out.1, J2.out.2⟩⟩
        case measure => simp [intOf]; omega
      · have q0 : (c == q) = false := by simpa using hcq
        have J2 : Hid (Below w.heap.size w y ∧ k < j ∧ j ≤ n ∧ (∀ i, k ≤ i → i < j → qs[i]? = some q) ∧ ∀ q', qs[j]? = some q' → q' ≠ q) := ⟨J.out.1, J.out.2.1, J.out.2.2.1, J.out.2.2.2, fun q' h => by rw [hc] at h; cases h; exact hcq⟩
        clear hc J hcq
        go_wp2
        go_quiet (fail)
        go_wp2
        go_ret
        exact ⟨j, rfl, ⟨by first | exact J2.out.1.trans (below_drewN (Below.refl _ _)) | exact below_drewN J2.out.1 | exact J2.out.1, J2.out.2⟩⟩
    · have hje : j = n := by have := J.out.2.2.1; omega
      subst hje
      have q1 : decide ((j : Int) < j) = false := by simp
      have J2 : Hid (Below w.heap.size w y ∧ k < j ∧ j ≤ j ∧ (∀ i, k ≤ i → i < j → qs[i]? = some q) ∧ ∀ q', qs[j]? = some q' → q' ≠ q) := ⟨J.out.1, J.out.2.1, J.out.2.2.1, J.out.2.2.2, fun q' h => by rw [List.getElem?_eq_none (by rw [hqn.out]; exact Nat.le_refl _)] at h; cases h⟩
      clear hlt J
      go_wp2
      go_quiet (fail)
      go_wp2
      go_ret
      exact ⟨j, rfl, ⟨by first | exact J2.out.1.trans (below_drewN (Below.refl _ _)) | exact below_drewN J2.out.1 | exact J2.out.1, J2.out.2⟩⟩
end Go.Proofs.Ytbiifkcphaljeaa
