/- store: Read, Write, SetLatch, Latch. -/
import Derived.Test.YthjpghnmnbhaiaaLead
namespace Go.Proofs.Ythjpghnmnbhaiaa
open Go Go.RowKit
set_option linter.unusedVariables false
set_option maxHeartbeats 1000000
set_option maxRecDepth 20000

theorem lead_ram {S : St} {a : Nat} (h1 : ¬ 33280 ≤ a) (h2 : ¬ 32768 ≤ a) (h3 : S.on = false) (h4 : a < S.n) : leadP S a = 1 ∧ leadI S a = a ∧ S.read a = S.ram a := by
  unfold leadP leadI St.read; simp [h1, h2, h3, h4]
theorem lead_cases (S : St) (ok : S.ok) (a : Nat) : (leadP S a = 1 ∧ leadI S a = a ∧ S.read a = S.ram a ∧ a < S.n ∧ S.on = false) ∨ (leadP S a = 2 ∧ leadI S a < 512 ∧ S.read a = S.rom (leadI S a) ∧ ¬ (S.on = false ∧ a < S.n)) ∨ (leadP S a = 0 ∧ S.read a = 255 ∧ ¬ (S.on = false ∧ a < S.n)) := by
  have := ok.hi
  unfold leadP leadI St.read
  by_cases h1 : 33280 ≤ a
  · simp [h1]; intro; omega
  by_cases h2 : 32768 ≤ a
  · simp [h1, h2]; constructor
    · omega
    · intro; omega
  cases h3 : S.on with
  | true => simp [h1, h2]; omega
  | false =>
    by_cases h4 : a < S.n
    · simp [h1, h2, h4]
    · simp [h1, h2, h4]

theorem read_any (w : World) (g : Nat) (S : St) (ok : S.ok) (h : Sto w g S) (a : Nat) (ha : a < 65536) :
    Calls Try.prog 29 #[.pointer (some ⟨g, 0, none⟩), .int .u16 (a : Int)] w fun e w' => e = .returned (.int .u8 (S.read a)) ∧ ∃ k, w' = w.drewN k := by
  have hl := lead_any w g S h a ha
  have hc := cells_any w g S ok h
  have n1 : S.n ≤ 32768 := ok.hi
  rcases lead_cases S ok a with ⟨e1, e2, e3, e4, e5⟩ | ⟨e1, e2, e3, e4⟩ | ⟨e1, e2, e3⟩
  · have c := h.ram a (by omega)
    rw [e1, e2] at hl
    rw [e3]
    have ij := fun v => idxS (g := g) (off := 0) (len := S.n) (cap := 32768) Try.underlying23 (s := 1) (by kernel_rfl) .i64 a v e4
    simp only [Nat.zero_add, Nat.mul_one] at ij
    obtain ⟨n, hn⟩ : ∃ n, S.n = n := ⟨_, rfl⟩
    obtain ⟨x, hx⟩ : ∃ n, S.ram a = n := ⟨_, rfl⟩
    rw [hx] at c
    rw [hx]
    rw [hn] at hc ij
    clear h ok ha n1 e1 e2 e3 e4 e5 hn hx
    go_enter Try.func29, Try.ntmps29
    go_wp2_with (first
      | (go_at_call 38; refine hl.mono ?_; rintro e w1 ⟨rfl, rfl⟩)
      | (go_at_call 34; refine hc.mono ?_; rintro e w1 ⟨rfl, k, rfl⟩))
    go_ret
    exact ⟨rfl, _, rfl⟩
  · have c := h.rom _ e2
    obtain ⟨p, hp⟩ : ∃ p, leadI S a = p := ⟨_, rfl⟩
    rw [e1, hp] at hl
    rw [e3, hp]
    rw [hp] at c e2
    have ij := fun v => idx (g := g) (off := 32769) (N := 512) Try.underlying51 (s := 1) (by kernel_rfl) .i64 p v e2
    simp only [Nat.mul_one] at ij
    obtain ⟨x, hx⟩ : ∃ n, S.rom p = n := ⟨_, rfl⟩
    rw [hx] at c
    rw [hx]
    clear h ok ha n1 e1 e2 e3 e4 hx hc hp
    go_enter Try.func29, Try.ntmps29
    go_wp2_with (first
      | (go_at_call 38; refine hl.mono ?_; rintro e w1 ⟨rfl, rfl⟩))
    go_ret
    exact ⟨rfl, 0, rfl⟩
  · obtain ⟨p, hp⟩ : ∃ p, leadI S a = p := ⟨_, rfl⟩
    rw [e1, hp] at hl
    rw [e2]
    clear h ok ha n1 e1 e2 e3 hc hp
    go_enter Try.func29, Try.ntmps29
    go_wp2_with (first
      | (go_at_call 38; refine hl.mono ?_; rintro e w1 ⟨rfl, rfl⟩))
    go_ret
    exact ⟨rfl, 0, rfl⟩

theorem Cel.set {C : Array Value} {S : St} (h : Cel C S) (a : Nat) (b : Int) (ha : a < 32768) : Cel (C.setIfInBounds a (.int .u8 b)) { S with ram := fun k => if k = a then b else S.ram k } := by
  have hl := h.len
  refine ⟨by simpa using hl, fun k hk => ?_, ?_, fun k hk => ?_, ?_⟩
  · by_cases e : k = a
    · subst e; simp [show k < C.size by omega]
    · rw [Array.getElem?_setIfInBounds_ne (by omega), h.ram k hk]; simp [e]
  · rw [Array.getElem?_setIfInBounds_ne (by omega)]; exact h.n
  · rw [Array.getElem?_setIfInBounds_ne (by omega)]; exact h.rom k hk
  · rw [Array.getElem?_setIfInBounds_ne (by omega)]; exact h.on
theorem Cel.setOn {C : Array Value} {S : St} (h : Cel C S) (b : Bool) : Cel (C.setIfInBounds 33281 (.bool b)) (S.latch b) := by
  have hl := h.len
  refine ⟨by simpa using hl, fun k hk => ?_, ?_, fun k hk => ?_, ?_⟩
  · rw [Array.getElem?_setIfInBounds_ne (by omega)]; exact h.ram k hk
  · rw [Array.getElem?_setIfInBounds_ne (by omega)]; exact h.n
  · rw [Array.getElem?_setIfInBounds_ne (by omega)]; exact h.rom k hk
  · simp [show 33281 < C.size by omega, St.latch]
theorem Sto.set {w : World} {g : Nat} {S : St} (h : Sto w g S) (a : Nat) (b : Int) (ha : a < 32768) : Sto (w.setCell ⟨g, a, none⟩ (.int .u8 b)) g { S with ram := fun k => if k = a then b else S.ram k } := by
  obtain ⟨C, h1, h2⟩ := h
  exact ⟨_, heap_setCell_same w g a C 53 (.int .u8 b) h1, h2.set a b ha⟩
theorem Sto.setOn {w : World} {g : Nat} {S : St} (h : Sto w g S) (b : Bool) : Sto (w.setCell ⟨g, 33281, none⟩ (.bool b)) g (S.latch b) := by
  obtain ⟨C, h1, h2⟩ := h
  exact ⟨_, heap_setCell_same w g 33281 C 53 (.bool b) h1, h2.setOn b⟩
theorem write_eq (S : St) (a : Nat) (b : Int) : S.write a b = if S.on = false ∧ a < S.n then { S with ram := fun k => if k = a then b else S.ram k } else S := by
  unfold St.write
  cases S.on <;> simp

theorem write_any (w : World) (g : Nat) (S : St) (ok : S.ok) (h : Sto w g S) (a : Nat) (ha : a < 65536) (b : Int) :
    Calls Try.prog 31 #[.pointer (some ⟨g, 0, none⟩), .int .u16 (a : Int), .int .u8 b] w fun e w' => (∃ v, e = .returned v) ∧ Sto w' g (S.write a b) ∧ Upd (· = g) w w' := by
  have hl := lead_any w g S h a ha
  have hc := cells_any w g S ok h
  have n1 : S.n ≤ 32768 := ok.hi
  rcases lead_cases S ok a with ⟨e1, e2, e3, e4, e5⟩ | ⟨e1, e2, e3, e4⟩ | ⟨e1, e2, e3⟩
  · have c := h.ram a (by omega)
    have hfz := h.frozen a
    rw [e1, e2] at hl
    rw [write_eq, if_pos ⟨e5, e4⟩]
    have ij := fun v => idxS (g := g) (off := 0) (len := S.n) (cap := 32768) Try.underlying23 (s := 1) (by kernel_rfl) .i64 a v e4
    simp only [Nat.zero_add, Nat.mul_one] at ij
    have fin : Hid (∀ k, Sto ((w.drewN k).setCell ⟨g, a, none⟩ (.int .u8 b)) g { S with ram := fun k => if k = a then b else S.ram k } ∧ Upd (· = g) w ((w.drewN k).setCell ⟨g, a, none⟩ (.int .u8 b))) := fun k => ⟨h.drewN.set a b (by omega), (Upd.set _).of_drewN⟩
    obtain ⟨n, hn⟩ : ∃ n, S.n = n := ⟨_, rfl⟩
    obtain ⟨x, hx⟩ : ∃ n, S.ram a = n := ⟨_, rfl⟩
    rw [hx] at c
    rw [hn] at hc ij
    clear h ok ha n1 e1 e2 e3 e4 e5 hn hx
    go_enter Try.func31, Try.ntmps31
    go_wp2_with (first
      | (go_at_call 38; refine hl.mono ?_; rintro e w1 ⟨rfl, rfl⟩)
      | (go_at_call 34; refine hc.mono ?_; rintro e w1 ⟨rfl, k, rfl⟩))
    go_returns
    exact ⟨⟨_, rfl⟩, fin.out k⟩
  · obtain ⟨p, hp⟩ : ∃ p, leadI S a = p := ⟨_, rfl⟩
    rw [e1, hp] at hl
    rw [write_eq, if_neg e4]
    have hh : Hid (Sto w g S) := h
    clear h ok ha n1 e1 e2 e3 e4 hc hp
    go_enter Try.func31, Try.ntmps31
    go_wp2_with (first
      | (go_at_call 38; refine hl.mono ?_; rintro e w1 ⟨rfl, rfl⟩))
    go_returns
    exact ⟨⟨_, rfl⟩, hh, Upd.refl _ _⟩
  · obtain ⟨p, hp⟩ : ∃ p, leadI S a = p := ⟨_, rfl⟩
    rw [e1, hp] at hl
    rw [write_eq, if_neg e3]
    have hh : Hid (Sto w g S) := h
    clear h ok ha n1 e1 e2 e3 hc hp
    go_enter Try.func31, Try.ntmps31
    go_wp2_with (first
      | (go_at_call 38; refine hl.mono ?_; rintro e w1 ⟨rfl, rfl⟩))
    go_returns
    exact ⟨⟨_, rfl⟩, hh, Upd.refl _ _⟩

theorem setLatch_any (w : World) (g : Nat) (S : St) (h : Sto w g S) (b : Bool) :
    Calls Try.prog 27 #[.pointer (some ⟨g, 0, none⟩), .bool b] w fun e w' => (∃ v, e = .returned v) ∧ Sto w' g (S.latch b) ∧ Upd (· = g) w w' := by
  have c := h.on
  have hfz := h.frozen 33281
  have fin : Hid (Sto (w.setCell ⟨g, 33281, none⟩ (.bool b)) g (S.latch b) ∧ Upd (· = g) w (w.setCell ⟨g, 33281, none⟩ (.bool b))) := ⟨h.setOn b, Upd.set _⟩
  obtain ⟨x, hx⟩ : ∃ n, S.on = n := ⟨_, rfl⟩
  rw [hx] at c
  clear h hx
  go_enter Try.func27, Try.ntmps27
  go_wp2
  go_returns
  exact ⟨⟨_, rfl⟩, fin.out⟩

theorem latch_any (w : World) (g : Nat) (S : St) (h : Sto w g S) :
    Calls Try.prog 22 #[.pointer (some ⟨g, 0, none⟩)] w fun e w' => e = .returned (.bool S.on) ∧ w' = w := by
  have c := h.on
  obtain ⟨x, hx⟩ : ∃ n, S.on = n := ⟨_, rfl⟩
  rw [hx] at c
  rw [hx]
  clear h hx
  go_enter Try.func22, Try.ntmps22
  go_wp2
  go_ret
  exact ⟨by first | rfl | simp, rfl⟩
end Go.Proofs.Ythjpghnmnbhaiaa
