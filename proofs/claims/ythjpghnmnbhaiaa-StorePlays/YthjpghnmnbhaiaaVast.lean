/- The law's own bound on what came in. -/
import Derived.Test.YthjpghnmnbhaiaaReadsW
namespace Go.Proofs.Ythjpghnmnbhaiaa
open Go Go.RowKit
set_option linter.unusedVariables false
set_option maxHeartbeats 400000
set_option maxRecDepth 20000

/-- The rows of the acts are not vast. -/
def Mild (w : World) (a : Option Addr) (k : Nat) : Prop := ∀ j, j < k → ∀ g off, a = some ⟨g, off, none⟩ → ∀ sp l c, w.cell? ⟨g, off + j * 7 + 6, none⟩ = some (.slice sp l c) → l ≤ 2147483647

theorem vast_long (w : World) (sp : Option Addr) (rl rc : Nat) (hr : rl ≤ maxLen) (a : Option Addr) (len cap : Nat) (hl : len ≤ maxLen) (h : ¬ ((rl : Int) ≤ 2147483647 ∧ (len : Int) ≤ 2147483647)) :
    Calls Try.prog 9 #[.slice sp rl rc, .slice a len cap] w fun e w' => e = .returned (.bool true) ∧ w' = w := by
  have b1 : (rl : Int) ≤ 9223372036854775807 := by unfold maxLen at hr; omega
  have b2 : (len : Int) ≤ 9223372036854775807 := by unfold maxLen at hl; omega
  by_cases h1 : (2147483647 : Int) < rl
  · clear h hr hl
    go_enter Try.func9, Try.ntmps9
    go_wp2
    go_ret
    exact ⟨rfl, rfl⟩
  · have h2 : (2147483647 : Int) < len := by omega
    have h1' : (rl : Int) ≤ 2147483647 := by omega
    clear h hr hl h1
    go_enter Try.func9, Try.ntmps9
    go_wp2
    go_ret
    exact ⟨rfl, rfl⟩

/-- What the bound says. -/
def VastOk (w : World) (rl : Nat) (a : Option Addr) (len : Nat) (e : Ending) (w' : World) : Prop := ∃ b, e = .returned (.bool b) ∧ w' = w ∧ (b = false → ((rl : Int) ≤ 2147483647 ∧ (len : Int) ≤ 2147483647 ∧ Mild w a len))
theorem vast_any (w : World) (sp : Option Addr) (rl rc : Nat) (hr : rl ≤ maxLen) (a : Option Addr) (len cap : Nat) (h : Script w a len cap) :
    Calls Try.prog 9 #[.slice sp rl rc, .slice a len cap] w fun e w' => VastOk w rl a len e w' := by
  by_cases hs : (rl : Int) ≤ 2147483647 ∧ (len : Int) ≤ 2147483647
  · obtain ⟨s1, s2⟩ := hs
    have hS : Hid (Script w a len cap) := h
    have hs' : Hid (rl ≤ 2147483647 ∧ len ≤ 2147483647) := ⟨by omega, by omega⟩
    clear h hr
    go_enter Try.func9, Try.ntmps9
    go_wp2
    go_loopw [5, 6] (fun s i wz => ∃ k m : Nat, k ≤ len ∧ (m : Int) ≤ 4294967294 ∧ i = .int .i64 (k : Int) ∧ s = .int .i64 (m : Int) ∧ Hid (Mild w a k) ∧ wz = w) (fun _ i _ => (len - intOf i).toNat)
    case atStart => exact ⟨0, rl + len, by omega, by have := hs'.out; omega, rfl, by simp, (fun j hj => absurd hj (by omega) : Mild w a 0), rfl⟩
    case round =>
      obtain ⟨k, m, hk, hm, rfl, rfl, hmild, rfl⟩ := hrel
      by_cases hlt : k < len
      · obtain ⟨g, off, rfl, hg, hops⟩ := hS.out.2 (by omega)
        obtain ⟨o, ho, hc⟩ := hops k hlt
        obtain ⟨p, hp⟩ : ∃ p, off + k * 7 = p := ⟨_, rfl⟩
        rw [hp] at hc
        have ij : ∀ v, (Instr.indexAt 24 (.slice (some ⟨g, off, none⟩) len cap) (.int .i64 (k : Int))).run Try.prog v = .ok (.pointer (some ⟨g, p, none⟩)) v := fun v => by
          have := idxS (g := g) (off := off) (len := len) (cap := cap) Try.underlying24 (s := 7) (by kernel_rfl) .i64 k v hlt
          rw [hp] at this
          exact this
        have c6 : wr.cell? ⟨g, p + 6, none⟩ = some (.slice o.sp o.len o.cap) := hc 6 _ rfl
        have hl := ho.len
        obtain ⟨bl, hbl⟩ : ∃ bl, o.len = bl := ⟨_, rfl⟩
        rw [hbl] at c6 hl
        have b3 : (bl : Int) ≤ 9223372036854775807 := by unfold maxLen at hl; omega
        have hp' : Hid (off + k * 7 = p) := hp
        clear hc hops ho hl hp hbl
        by_cases q : (2147483647 : Int) < bl
        · go_wp2
          go_ret
          exact ⟨_, rfl, rfl, fun h => by simp at h⟩
        have q' : (bl : Int) ≤ 2147483647 := by omega
        clear q b3
        by_cases q2 : (2147483647 : Int) < m
        · go_wp2
          go_ret
          exact ⟨_, rfl, rfl, fun h => by simp at h⟩
        · have q2' : (m : Int) ≤ 2147483647 := by omega
          clear q2 hm
          go_wp2
          go_roundw
          case rel =>
            refine ⟨k + 1, m + bl, by omega, by omega, by simp, by simp, ?_, by first | rfl | trivial⟩
            show Mild wr (some ⟨g, off, none⟩) (k + 1)
            intro j hj g' off' e sp' l c hcell
            by_cases e2 : j = k
            · subst e2
              simp at e
              obtain ⟨rfl, rfl⟩ := e
              rw [hp'.out, c6] at hcell
              simp at hcell
              omega
            · exact hmild.out j (by omega) g' off' e sp' l c hcell
          case measure => simp [intOf]; omega
      · have hke : k = len := by omega
        subst hke
        by_cases q2 : (2147483647 : Int) < m
        · go_wp2
          go_ret
          exact ⟨_, rfl, rfl, fun h => by simp at h⟩
        · have q2' : (m : Int) ≤ 2147483647 := by omega
          go_wp2
          go_ret
          exact ⟨_, rfl, rfl, fun h => ⟨s1, s2, hmild.out⟩⟩
  · exact (vast_long w sp rl rc hr a len cap h.1 hs).mono fun e w' ⟨h1, h2⟩ => ⟨true, h1, h2, fun h => by cases h⟩
end Go.Proofs.Ythjpghnmnbhaiaa
