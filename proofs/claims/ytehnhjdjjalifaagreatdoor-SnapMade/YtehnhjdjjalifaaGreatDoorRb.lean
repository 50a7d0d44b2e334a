/- Whether a line lies within a stretch, by the table. -/
import Derived.Test.YtehnhjdjjalifaaGreatDoorRa
namespace Go.Proofs.YtehnhjdjjalifaaGreatDoor
open Go Go.RowKit
set_option linter.unusedVariables false
set_option maxHeartbeats 1000000
set_option maxRecDepth 20000

def rowS : Nat → Int | 0 => 0 | 1 => 1 | _ => 2
def rowF : Nat → Int | 0 => 80 | 1 => 78 | 2 => 76 | _ => 204
def rowZ : Nat → Int | 0 => 207 | 1 => 79 | 2 => 79 | _ => 207
def hitB (s l : Int) (k : Nat) : Bool := (rowS k == s) && decide (rowF k ≤ l) && decide (l ≤ rowZ k)
def inB (s l : Int) : Bool := hitB s l 0 || hitB s l 1 || hitB s l 2 || hitB s l 3
theorem inB0 (l : Int) : inB 0 l = shownB l := by simp [inB, hitB, rowS, rowF, rowZ, shownB]
theorem inB1 (l : Int) : inB 1 l = askB l := by simp [inB, hitB, rowS, rowF, rowZ, askB]
theorem inB2 (l : Int) : inB 2 l = flagB l := by simp [inB, hitB, rowS, rowF, rowZ, flagB]
theorem Tl.row {w : World} (h : Tl w) : ∀ k, k < 4 → w.cell? ⟨0, k * 3, none⟩ = some (.int .u8 (rowS k)) ∧ w.cell? ⟨0, k * 3 + 1, none⟩ = some (.int .i64 (rowF k)) ∧ w.cell? ⟨0, k * 3 + 2, none⟩ = some (.int .i64 (rowZ k)) := by
  intro k hk
  match k, hk with
  | 0, _ => exact ⟨h.a0, h.a1, h.a2⟩
  | 1, _ => exact ⟨h.b0, h.b1, h.b2⟩
  | 2, _ => exact ⟨h.c0, h.c1, h.c2⟩
  | 3, _ => exact ⟨h.d0, h.d1, h.d2⟩
theorem in_walk (w : World) (tb : Tl w) (s l : Int) : Calls Tryz.prog 115 #[.int .u8 s, .int .i64 l] w fun e w' => e = .returned (.bool (inB s l)) ∧ w' = w := by
  have tb' : Hid (Tl w) := tb
  clear tb
  go_enter Tryz.func115, Tryz.ntmps115
  go_wp2
  go_loopw [6] (fun i wz => ∃ (k : Nat), w = wz ∧ k ≤ 4 ∧ i = .int .i64 (k : Int) ∧ Hid (∀ j, j < k → hitB s l j = false)) (fun i _ => (4 - intOf i).toNat)
  case atStart => exact ⟨0, rfl, by decide, rfl, fun j hj => absurd hj (by omega)⟩
  case round =>
    obtain ⟨k, hw, hk, rfl, hh⟩ := hrel
    subst hw
    by_cases h4 : k < 4
    · have q4 : (k : Int) < 4 := by omega
      obtain ⟨q, hq⟩ : ∃ q, k * 3 = q := ⟨_, rfl⟩
      have ij : ∀ v, (Instr.indexAt 114 (.pointer (some ⟨0, 0, none⟩)) (.int .i64 (k : Int))).run Tryz.prog v = .ok (.pointer (some ⟨0, q, none⟩)) v := fun v => by
        have := idx (g := 0) (off := 0) (N := 4) Tryz.underlying114 (s := 3) (by kernel_rfl) .i64 k v h4
        rw [Nat.zero_add, hq] at this
        exact this
      obtain ⟨c0, c1, c2⟩ := tb'.out.row k h4
      rw [hq] at c0 c1 c2
      have hs : Hid ((rowS k == s) = true ∧ (decide (rowF k ≤ l)) = true ∧ (decide (l ≤ rowZ k)) = true → inB s l = true) := fun ⟨x, y, z⟩ => by
        have e : hitB s l k = true := by unfold hitB; rw [x, y, z]; rfl
        unfold inB
        match k, h4, e with
        | 0, _, e => rw [e]; simp
        | 1, _, e => rw [e]; simp
        | 2, _, e => rw [e]; simp
        | 3, _, e => rw [e]; simp
      have hn : Hid (hitB s l k = false → ∀ j, j < k + 1 → hitB s l j = false) := fun e j hj => by
        rcases Nat.lt_or_ge j k with h | h
        · exact hh.out j h
        · rw [show j = k by omega]; exact e
      have hd : Hid (hitB s l k = ((rowS k == s) && decide (rowF k ≤ l) && decide (l ≤ rowZ k))) := (rfl : hitB s l k = ((rowS k == s) && decide (rowF k ≤ l) && decide (l ≤ rowZ k)))
      obtain ⟨S, hS⟩ : ∃ S, rowS k = S := ⟨_, rfl⟩
      obtain ⟨F, hF⟩ : ∃ F, rowF k = F := ⟨_, rfl⟩
      obtain ⟨U, hU⟩ : ∃ U, rowZ k = U := ⟨_, rfl⟩
      rw [hS, hF, hU] at hs hd
      rw [hS] at c0
      rw [hF] at c1
      rw [hU] at c2
      have hk' : Hid (k < 4) := h4
      clear hS hF hU hq h4 hk hh
      have nx : Hid (((S == s) && decide (F ≤ l) && decide (l ≤ U)) = false → ∀ j, j < k + 1 → hitB s l j = false) := fun e => hn.out (hd.out.trans e)
      clear hn hd
      rcases hx : (S == s) with _ | _
      · replace nx : Hid _ := nx.out (by rw [hx]; rfl)
        clear hs
        go_wp2
        go_roundw
        case rel => exact ⟨k + 1, trivial, by have := hk'.out; omega, by simp, nx⟩
        case measure => have := hk'.out; simp [intOf]; omega
      · rcases hy : decide (F ≤ l) with _ | _
        · replace nx : Hid _ := nx.out (by rw [hx, hy]; rfl)
          clear hs
          go_wp2
          go_roundw
          case rel => exact ⟨k + 1, trivial, by have := hk'.out; omega, by simp, nx⟩
          case measure => have := hk'.out; simp [intOf]; omega
        · rcases hz : decide (l ≤ U) with _ | _
          · replace nx : Hid _ := nx.out (by rw [hx, hy, hz]; rfl)
            clear hs
            go_wp2
            go_roundw
            case rel => exact ⟨k + 1, trivial, by have := hk'.out; omega, by simp, nx⟩
            case measure => have := hk'.out; simp [intOf]; omega
          · replace hs : Hid _ := hs.out ⟨hx, hy, hz⟩
            clear nx
            go_wp2
            go_ret
            exact ⟨by rw [hs.out]; first | rfl | simp, rfl⟩
    · have hke : k = 4 := by omega
      subst hke
      have hf : Hid (inB s l = false) := (by unfold inB; rw [hh.out 0 (by decide), hh.out 1 (by decide), hh.out 2 (by decide), hh.out 3 (by decide)]; rfl : inB s l = false)
      clear hh hk h4
      go_wp2
      go_ret
      exact ⟨by rw [hf.out]; first | rfl | simp, rfl⟩
end Go.Proofs.YtehnhjdjjalifaaGreatDoor
