/- The document's answer: Info, First, Find, Bus, which operands may be. -/
import Derived.Test.YtfdjifgmlgpjgaaDoorORefA
import Derived.Test.YtfdjifgmlgpjgaaDoorORefB
import Derived.Test.YtfdjifgmlgpjgaaDoorOLines
namespace Go.Proofs.YtfdjifgmlgpjgaaDoor
open Go.RowKit
set_option linter.unusedVariables false
set_option maxHeartbeats 1000000
set_option maxRecDepth 20000

theorem rinfo_any (n : Nat) (w : World) (h : n < 256) : Calls Tryd.prog 50 #[.int .u8 n] w fun e w' => e = .returned (infoV n) ∧ Below w.heap.size w w' := by
  have hf := fm_le n h
  have hF := fun v => rform_any n v h
  have hL := fun v => rlong_any n v h
  have hN := fun v => rname_any n v h
  have hB := fun v => rbytes_any (fm n) v hf.1 hf.2
  unfold infoV
  generalize lay (fm n * 3) = L at hB ⊢
  generalize fm n = F at hF hB ⊢
  generalize nm n = X at hN ⊢
  unfold cyc
  by_cases hc : n / 16 = 12
  · rw [if_pos hc]
    simp only [hc, decide_true] at hL
    clear hc hf
    go_enter Tryd.func50, Tryd.ntmps50
    go_wp2_with (first
      | (go_at_call 77; refine (hF _).mono ?_; rintro e v ⟨rfl, rfl⟩)
      | (go_at_call 78; refine (hL _).mono ?_; rintro e v ⟨rfl, rfl⟩)
      | (go_at_call 76; refine (hN _).mono ?_; rintro e v1 ⟨rfl, hb1⟩; have d0 : v1.cell? ⟨w.heap.size, 0, none⟩ = some (.string ⟨#[]⟩) := own_cell hb1 0; have d1 : v1.cell? ⟨w.heap.size, 1, none⟩ = some (.int .u8 0) := own_cell hb1 1; have d2 : v1.cell? ⟨w.heap.size, 2, none⟩ = some (.int .i64 0) := own_cell hb1 2; have d3 : v1.cell? ⟨w.heap.size, 3, none⟩ = some (.int .i64 0) := own_cell hb1 3; have f0 := own_frozen hb1 0; have f1 := own_frozen hb1 1; have f2 := own_frozen hb1 2; have f3 := own_frozen hb1 3; replace hb1 := below_own hb1)
      | (go_at_call 79; refine (hB _).mono ?_; rintro e v ⟨rfl, rfl⟩))
    (try simp only [Exit.inBlock, Exit.then])
    refine bodyPost_ret (by simp [results, Tryd.results50, go_sem, d0, d1, d2, d3]; try rfl) rfl ?_
    refine ⟨rfl, ?_⟩
    repeat (first | exact hb1 | refine below_set ?_ (Nat.le_refl _))
  · rw [if_neg hc]
    simp only [hc, decide_false] at hL
    clear hc hf
    go_enter Tryd.func50, Tryd.ntmps50
    go_wp2_with (first
      | (go_at_call 77; refine (hF _).mono ?_; rintro e v ⟨rfl, rfl⟩)
      | (go_at_call 78; refine (hL _).mono ?_; rintro e v ⟨rfl, rfl⟩)
      | (go_at_call 76; refine (hN _).mono ?_; rintro e v1 ⟨rfl, hb1⟩; have d0 : v1.cell? ⟨w.heap.size, 0, none⟩ = some (.string ⟨#[]⟩) := own_cell hb1 0; have d1 : v1.cell? ⟨w.heap.size, 1, none⟩ = some (.int .u8 0) := own_cell hb1 1; have d2 : v1.cell? ⟨w.heap.size, 2, none⟩ = some (.int .i64 0) := own_cell hb1 2; have d3 : v1.cell? ⟨w.heap.size, 3, none⟩ = some (.int .i64 0) := own_cell hb1 3; have f0 := own_frozen hb1 0; have f1 := own_frozen hb1 1; have f2 := own_frozen hb1 2; have f3 := own_frozen hb1 3; replace hb1 := below_own hb1)
      | (go_at_call 79; refine (hB _).mono ?_; rintro e v ⟨rfl, rfl⟩))
    (try simp only [Exit.inBlock, Exit.then])
    refine bodyPost_ret (by simp [results, Tryd.results50, go_sem, d0, d1, d2, d3]; try rfl) rfl ?_
    refine ⟨rfl, ?_⟩
    repeat (first | exact hb1 | refine below_set ?_ (Nat.le_refl _))

def firstI (o : Option Nat) : Int := match o with
  | none => -1
  | some n => n
theorem rfirst_any (s : ByteArray) (o : Option Nat) (ho : Hid (opOf s = o)) (w : World) :
    Calls Tryd.prog 49 #[.string s] w fun e w' => e = .returned (.int .i64 (firstI o)) ∧ Below w.heap.size w w' := by
  go_enter Tryd.func49, Tryd.ntmps49
  go_wp2
  go_loopw [3] (fun i wr => ∃ n : Nat, n ≤ 256 ∧ i = .int .i64 (n : Int) ∧ Hid (∀ m, m < n → nm m ≠ s) ∧ Below w.heap.size w wr) (fun i _ => (256 - intOf i).toNat)
  case atStart => exact ⟨0, by omega, rfl, (fun m hm => absurd hm (by omega) : ∀ m, m < 0 → nm m ≠ s), Below.refl _ _⟩
  case round =>
    rename_i wr
    obtain ⟨n, hn, rfl, hm, HB⟩ := hrel
    by_cases hlt : n < 256
    · have hN := fun v => rname_any n v hlt
      obtain ⟨X, hX⟩ : ∃ X, Hid (nm n = X) := ⟨_, (rfl : nm n = nm n)⟩
      rw [hX.out] at hN
      by_cases hx : X = s
      · subst hx
        have hq := str_eq (rfl : X = X)
        go_wp2_with (go_at_call 76; refine (hN _).mono ?_; rintro e v1 ⟨rfl, hb1⟩)
        go_ret
        refine ⟨?_, HB.trans (hb1.mono HB.size)⟩
        rw [← ho.out, opOf_some hlt hX.out hm.out]
        rfl
      · have hq := str_ne hx
        go_wp2_with (go_at_call 76; refine (hN _).mono ?_; rintro e v1 ⟨rfl, hb1⟩)
        go_roundw
        case rel => exact ⟨n + 1, by omega, by simp, (fun m h => by rcases Nat.lt_succ_iff_lt_or_eq.1 h with h | rfl; exact hm.out m h; exact fun e => hx (hX.out.symm.trans e) : ∀ m, m < n + 1 → nm m ≠ s), HB.trans (hb1.mono HB.size)⟩
        case measure => simp [intOf]; omega
    · have hn' : n = 256 := by omega
      subst hn'
      go_wp2
      go_ret
      refine ⟨?_, HB⟩
      rw [← ho.out, opOf_none hm.out]
      rfl
end Go.Proofs.YtfdjifgmlgpjgaaDoor
