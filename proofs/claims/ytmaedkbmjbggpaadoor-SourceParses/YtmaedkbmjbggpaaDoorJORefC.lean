/- code.Print, code.cut and code.Parse, whole; a line that was printed is read again. -/
import Derived.Test.YtmaedkbmjbggpaaDoorJOPrint
import Derived.Test.YtmaedkbmjbggpaaDoorJOParseW
import Derived.Test.YtmaedkbmjbggpaaDoorJOHolds
namespace Go.Proofs.YtmaedkbmjbggpaaDoor
open Go.RowKit
set_option linter.unusedVariables false
set_option maxHeartbeats 400000

def mayB (n : Nat) (A : Int) : Bool := decide ((held n (fm n) : Int) ≤ A) && decide (A ≤ (lay (fm n * 3 + 2) : Nat))
theorem mayB_iff (n : Nat) (A : Int) : mayB n A = true ↔ may n A := by unfold mayB may; simp
def digs (n : Nat) : Nat := lay (fm n * 3 + 1)
/-- The line of an instruction. -/
def textOf (n : Nat) (A : Int) : ByteArray := if fm n = 1 then nm n else nm n ++ ⟨#[32]⟩ ++ hexOf A (digs n : Nat)
def printS (S : ByteArray) (A : Int) : ByteArray := match opOf S with
  | none => ⟨#[]⟩
  | some n => if mayB n A then textOf n A else ⟨#[]⟩
def printE (S : ByteArray) (A : Int) : Int := match opOf S with
  | none => 20
  | some n => if mayB n A then 0 else 21

theorem nmB_small (n : Nat) (h : n < 256) : (nmB n).length ≤ 4 := by revert n; decide +kernel
theorem nm_size (n : Nat) (h : n < 256) : (nm n).size ≤ 4 := by
  have := nmB_small n h
  rw [nm_eq]
  show (nmB n).toArray.size ≤ 4
  simpa using this
theorem most_le (n : Nat) (h : n < 256) : lay (fm n * 3 + 2) ≤ 65535 := by revert n; decide +kernel

theorem print_any (S : ByteArray) (A : Int) (w : World) (T : Tabs w) :
    Calls Tryd.prog 69 #[.agg #[.string S, .int .i64 A]] w fun e w' => e = .returned (.tuple #[.string (printS S A), .int .i64 (printE S A)]) ∧ Below w.heap.size w w' := by
  unfold printS printE
  rcases ho : opOf S with _ | n
  · exact print_name S A ho w T
  · have hn := (opOf_lt ho).1
    by_cases hm : may n A
    · simp only [(mayB_iff n A).2 hm, if_true]
      have hA : A ≤ 65535 := by have := hm.2; have := most_le n hn; omega
      unfold textOf
      have hf := fm_le n hn
      by_cases h1 : fm n = 1
      · rw [if_pos h1]
        exact print_bare S A n ho hm _ _ _ (show nm n = nm n from rfl) h1 (show lay (fm n * 3) = lay (fm n * 3) from rfl) (show cyc n = cyc n from rfl) w T
      · rw [if_neg h1]
        exact print_reg S A n ho hm _ _ _ _ _ (show nm n = nm n from rfl) (show fm n = fm n from rfl) (show lay (fm n * 3) = lay (fm n * 3) from rfl) (show cyc n = cyc n from rfl) (by omega) hf.2 (show lay (fm n * 3 + 1) = digs n from rfl) w T hA (nm_size n hn)
    · have : mayB n A = false := by
        rcases h : mayB n A with _ | _
        · rfl
        · exact absurd ((mayB_iff n A).1 h) hm
      simp only [this]
      exact print_bad S A n ho hm w T

/-- Where the first blank stands, if one stands ahead of a sixth byte. -/
def blk (s : ByteArray) : Option Nat := (List.range 5).find? fun k => s.data[k]? == some 32
def cutN (s : ByteArray) : ByteArray := match blk s with
  | none => s
  | some k => s.extract 0 k
def cutB (s : ByteArray) : ByteArray := match blk s with
  | none => ⟨#[]⟩
  | some k => s.extract (k + 1) s.size

theorem blk_some {s : ByteArray} {k : Nat} (h : blk s = some k) : k ≤ 4 ∧ s.data[k]? = some 32 ∧ ∀ j, j < k → s.data[j]? ≠ some 32 := by
  unfold blk at h
  rw [List.find?_range_eq_some] at h
  obtain ⟨h1, h2, h3⟩ := h
  refine ⟨by have := List.mem_range.1 h2; omega, by simpa using h1, fun j hj => ?_⟩
  have := h3 j hj
  simpa using this
theorem blk_none {s : ByteArray} (h : blk s = none) : ∀ j, j ≤ 4 → s.data[j]? ≠ some 32 := by
  unfold blk at h
  rw [List.find?_range_eq_none] at h
  intro j hj
  have := h j (by omega)
  simpa using this

theorem cut_any (s : ByteArray) (w : World) (hs : s.size ≤ maxLen) :
    Calls Tryd.prog 107 #[.string s] w fun e w' => e = .returned (.tuple #[.string (cutN s), .string (cutB s)]) ∧ Below w.heap.size w w' := by
  unfold cutN cutB
  rcases hb : blk s with _ | k
  · refine cut_none s w hs (fun j hj h4 e => ?_)
    refine blk_none hb j h4 ?_
    have : s.data[j]? = some (s[j]) := by
      rw [Array.getElem?_eq_getElem (by simpa using hj)]; rfl
    rw [this, e]
  · obtain ⟨h4, hk, hno⟩ := blk_some hb
    have hlt : k < s.size := by
      rcases Nat.lt_or_ge k s.size with h | h
      · exact h
      · rw [Array.getElem?_eq_none (by simpa using h)] at hk; cases hk
    have hk' : s[k] = 32 := by
      rw [Array.getElem?_eq_getElem (by simpa using hlt)] at hk
      exact Option.some.inj hk
    refine cut_at s w hs k hlt h4 hk' (fun j hj hjk e => ?_)
    refine hno j hjk ?_
    have : s.data[j]? = some (s[j]) := by
      rw [Array.getElem?_eq_getElem (by simpa using hj)]; rfl
    rw [this, e]

/-- What a line says: the instruction that it seems to be. -/
def argS (s : ByteArray) : Int := if cutB s = ⟨#[]⟩ then 0 else numV (cutB s)
def okS (s : ByteArray) (n : Nat) : Bool := decide (printE (nm n) (argS s) = 0) && decide (printS (nm n) (argS s) = s)
def parseN (s : ByteArray) : ByteArray := match opOf (cutN s) with
  | none => ⟨#[]⟩
  | some n => if okS s n then nm n else ⟨#[]⟩
def parseA (s : ByteArray) : Int := match opOf (cutN s) with
  | none => 0
  | some n => if okS s n then argS s else 0
def parseE (s : ByteArray) : Int := match opOf (cutN s) with
  | none => 20
  | some n => if okS s n then 0 else 21

theorem cutB_size (s : ByteArray) (h : s.size ≤ maxLen) : (cutB s).size ≤ maxLen := by
  unfold cutB
  split
  · exact Nat.zero_le _
  · rw [ByteArray.size_extract]; omega

theorem parse_any (s : ByteArray) (hs : s.size ≤ maxLen) (w : World) (T : Tabs w) :
    Calls Tryd.prog 94 #[.string s] w fun e w' => e = retI (parseN s) (parseA s) (parseE s) ∧ Below w.heap.size w w' := by
  unfold parseN parseA parseE
  have hcut := fun v => cut_any s v hs
  rcases ho : opOf (cutN s) with _ | n
  · exact parse_none s _ _ w T hcut ho
  · have hp := fun v Tv => print_any (nm n) (argS s) v Tv
    have e1 : nm n = nm n := rfl
    have e2 : fm n = fm n := rfl
    have e3 : lay (fm n * 3) = lay (fm n * 3) := rfl
    have e4 : cyc n = cyc n := rfl
    by_cases hB : cutB s = ⟨#[]⟩
    · have hA : argS s = 0 := by unfold argS; rw [if_pos hB]
      by_cases hE : printE (nm n) (argS s) = 0
      · by_cases hS : printS (nm n) (argS s) = s
        · have : okS s n = true := by unfold okS; simp [hE, hS]
          simp only [this, if_true]
          exact parse_ok0 s _ _ w T hcut n ho _ _ _ _ e1 e2 e3 e4 (argS s) _ _ hp hB hA hE hS
        · have : okS s n = false := by unfold okS; simp [hE, hS]
          simp only [this]
          exact parse_not0 s _ _ w T hcut n ho _ _ _ _ e1 e2 e3 e4 (argS s) _ _ hp hB hA hE hS
      · have : okS s n = false := by unfold okS; simp [hE]
        simp only [this]
        exact parse_bad0 s _ _ w T hcut n ho _ _ _ _ e1 e2 e3 e4 (argS s) _ _ hp hB hA hE
    · have hA : numV (cutB s) = argS s := by unfold argS; rw [if_neg hB]
      have hz := cutB_size s hs
      by_cases hE : printE (nm n) (argS s) = 0
      · by_cases hS : printS (nm n) (argS s) = s
        · have : okS s n = true := by unfold okS; simp [hE, hS]
          simp only [this, if_true]
          exact parse_ok1 s _ _ w T hcut n ho _ _ _ _ e1 e2 e3 e4 (argS s) _ _ hp hB hz hA hE hS
        · have : okS s n = false := by unfold okS; simp [hE, hS]
          simp only [this]
          exact parse_not1 s _ _ w T hcut n ho _ _ _ _ e1 e2 e3 e4 (argS s) _ _ hp hB hz hA hE hS
      · have : okS s n = false := by unfold okS; simp [hE]
        simp only [this]
        exact parse_bad1 s _ _ w T hcut n ho _ _ _ _ e1 e2 e3 e4 (argS s) _ _ hp hB hz hA hE

/-- What is read is printed so; what isn't read is nothing. -/
theorem parse_says (s : ByteArray) : (parseE s = 0 ∧ printS (parseN s) (parseA s) = s ∧ printE (parseN s) (parseA s) = 0) ∨ (parseN s = ⟨#[]⟩ ∧ parseA s = 0 ∧ (parseE s = 20 ∨ parseE s = 21)) := by
  unfold parseN parseA parseE
  rcases ho : opOf (cutN s) with _ | n
  · exact .inr ⟨rfl, rfl, .inl rfl⟩
  · rcases h : okS s n with _ | _
    · refine .inr ?_
      simp [h]
    · refine .inl ?_
      simp only [h, if_true]
      unfold okS at h
      simp at h
      exact ⟨trivial, h.2, h.1⟩
end Go.Proofs.YtmaedkbmjbggpaaDoor
/- The document's answer: Info, First, Find, Bus, which operands may be. -/
namespace Go.Proofs.YtmaedkbmjbggpaaDoor
open Go.RowKit
set_option linter.unusedVariables false
set_option maxHeartbeats 1000000
set_option maxRecDepth 20000

theorem rinfo_any (n : Nat) (w : World) (h : n < 256) : Calls Tryd.prog 88 #[.int .u8 n] w fun e w' => e = .returned (infoV n) ∧ Below w.heap.size w w' := by
  have hf := fm_le n h
  have hF := fun v => rform_any n v h
  have hL := fun v => rlong_any n v h
  have hN := fun v => rname_any n v h
  have hB := fun v => rbytes_any (fm n) v hf.1 hf.2
  unfold infoV
  generalize lay (fm n * 3) = L at hB ⊢
  generalize fm n = F at hF hB ⊢
  generalize nm n = X at hN ⊢
  unfold cyc
  by_cases hc : n / 16 = 12
  · rw [if_pos hc]
    simp only [hc, decide_true] at hL
    clear hc hf
    go_enter Tryd.func88, Tryd.ntmps88
    go_wp2_with (first
      | (go_at_call 74; refine (hF _).mono ?_; rintro e v ⟨rfl, rfl⟩)
      | (go_at_call 101; refine (hL _).mono ?_; rintro e v ⟨rfl, rfl⟩)
      | (go_at_call 91; refine (hN _).mono ?_; rintro e v1 ⟨rfl, hb1⟩; have d0 : v1.cell? ⟨w.heap.size, 0, none⟩ = some (.string ⟨#[]⟩) := own_cell hb1 0; have d1 : v1.cell? ⟨w.heap.size, 1, none⟩ = some (.int .u8 0) := own_cell hb1 1; have d2 : v1.cell? ⟨w.heap.size, 2, none⟩ = some (.int .i64 0) := own_cell hb1 2; have d3 : v1.cell? ⟨w.heap.size, 3, none⟩ = some (.int .i64 0) := own_cell hb1 3; have f0 := own_frozen hb1 0; have f1 := own_frozen hb1 1; have f2 := own_frozen hb1 2; have f3 := own_frozen hb1 3; replace hb1 := below_own hb1)
      | (go_at_call 102; refine (hB _).mono ?_; rintro e v ⟨rfl, rfl⟩))
    (try simp only [Exit.inBlock, Exit.then])
    refine bodyPost_ret (by simp [results, Tryd.results88, go_sem, d0, d1, d2, d3]; try rfl) rfl ?_
    refine ⟨rfl, ?_⟩
    repeat (first | exact hb1 | refine below_set ?_ (Nat.le_refl _))
  · rw [if_neg hc]
    simp only [hc, decide_false] at hL
    clear hc hf
    go_enter Tryd.func88, Tryd.ntmps88
    go_wp2_with (first
      | (go_at_call 74; refine (hF _).mono ?_; rintro e v ⟨rfl, rfl⟩)
      | (go_at_call 101; refine (hL _).mono ?_; rintro e v ⟨rfl, rfl⟩)
      | (go_at_call 91; refine (hN _).mono ?_; rintro e v1 ⟨rfl, hb1⟩; have d0 : v1.cell? ⟨w.heap.size, 0, none⟩ = some (.string ⟨#[]⟩) := own_cell hb1 0; have d1 : v1.cell? ⟨w.heap.size, 1, none⟩ = some (.int .u8 0) := own_cell hb1 1; have d2 : v1.cell? ⟨w.heap.size, 2, none⟩ = some (.int .i64 0) := own_cell hb1 2; have d3 : v1.cell? ⟨w.heap.size, 3, none⟩ = some (.int .i64 0) := own_cell hb1 3; have f0 := own_frozen hb1 0; have f1 := own_frozen hb1 1; have f2 := own_frozen hb1 2; have f3 := own_frozen hb1 3; replace hb1 := below_own hb1)
      | (go_at_call 102; refine (hB _).mono ?_; rintro e v ⟨rfl, rfl⟩))
    (try simp only [Exit.inBlock, Exit.then])
    refine bodyPost_ret (by simp [results, Tryd.results88, go_sem, d0, d1, d2, d3]; try rfl) rfl ?_
    refine ⟨rfl, ?_⟩
    repeat (first | exact hb1 | refine below_set ?_ (Nat.le_refl _))

def firstI (o : Option Nat) : Int := match o with
  | none => -1
  | some n => n
theorem rfirst_any (s : ByteArray) (o : Option Nat) (ho : Hid (opOf s = o)) (w : World) :
    Calls Tryd.prog 75 #[.string s] w fun e w' => e = .returned (.int .i64 (firstI o)) ∧ Below w.heap.size w w' := by
  go_enter Tryd.func75, Tryd.ntmps75
  go_wp2
  go_loopw [3] (fun i wr => ∃ n : Nat, n ≤ 256 ∧ i = .int .i64 (n : Int) ∧ Hid (∀ m, m < n → nm m ≠ s) ∧ Below w.heap.size w wr) (fun i _ => (256 - intOf i).toNat)
  case atStart => exact ⟨0, by omega, rfl, (fun m hm => absurd hm (by omega) : ∀ m, m < 0 → nm m ≠ s), Below.refl _ _⟩
  case round =>
    rename_i wr
    obtain ⟨n, hn, rfl, hm, HB⟩ := hrel
    by_cases hlt : n < 256
    · have hN := fun v => rname_any n v hlt
      obtain ⟨X, hX⟩ : ∃ X, Hid (nm n = X) := ⟨_, (rfl : nm n = nm n)⟩
      rw [hX.out] at hN
      by_cases hx : X = s
      · subst hx
        have hq := str_eq (rfl : X = X)
        go_wp2_with (go_at_call 91; refine (hN _).mono ?_; rintro e v1 ⟨rfl, hb1⟩)
        go_ret
        refine ⟨?_, HB.trans (hb1.mono HB.size)⟩
        rw [← ho.out, opOf_some hlt hX.out hm.out]
        rfl
      · have hq := str_ne hx
        go_wp2_with (go_at_call 91; refine (hN _).mono ?_; rintro e v1 ⟨rfl, hb1⟩)
        go_roundw
        case rel => exact ⟨n + 1, by omega, by simp, (fun m h => by rcases Nat.lt_succ_iff_lt_or_eq.1 h with h | rfl; exact hm.out m h; exact fun e => hx (hX.out.symm.trans e) : ∀ m, m < n + 1 → nm m ≠ s), HB.trans (hb1.mono HB.size)⟩
        case measure => simp [intOf]; omega
    · have hn' : n = 256 := by omega
      subst hn'
      go_wp2
      go_ret
      refine ⟨?_, HB⟩
      rw [← ho.out, opOf_none hm.out]
      rfl
end Go.Proofs.YtmaedkbmjbggpaaDoor
