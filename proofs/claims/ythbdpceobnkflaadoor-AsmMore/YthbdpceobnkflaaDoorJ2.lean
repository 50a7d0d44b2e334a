/- code.Info: what it returns of every op. code.firstOp, code.Find, code.held and the bytes of words: a contract each. The ops and their names as plain mathematics: which op is the first of its name, which bytes an instruction has. -/
import Derived.Test.YthbdpceobnkflaaDoorJ0
import Derived.WalkKit
import Derived.WalkSpells
import Derived.WalkLawsBesides
import Derived.ChangeKeysEq
import Derived.Deep.QuietTactic
import Derived.BigQuiet
import Derived.Deep.OwnRows
import Derived.Handy
import Derived.Test.YthbdpceobnkflaaDoorJ1
import Derived.Laws.ResultCell
import Derived.Deep.RegionWith
namespace Go.Proofs.YthbdpceobnkflaaDoor
open Go.RowKit
set_option maxHeartbeats 400000

theorem below_set {B : Nat} {a w : World} (h : Below B a w) {g off : Nat} {u : Value} (hg : B ≤ g) : Below B a (w.setCell ⟨g, off, none⟩ u) := h.setCell (p := ⟨g, off, none⟩) hg u
theorem low4 (n : Nat) (h : n < 256) : bits .and .u8 (n : Int) 15 = (n : Int) % 16 := by
  have : ∀ n : Nat, n < 256 → bits .and .u8 (n : Int) 15 = (n : Int) % 16 := by decide +kernel
  exact this n h
theorem spr_le (i : Nat) (h : i < 16) : spr i ≤ 6 := by revert i; decide +kernel
theorem rowFm_le (i : Nat) (h : i < 16) : rowFm i ≤ 6 := by revert i; decide +kernel
theorem splFm_le (i : Nat) (h : i < 96) : splFm i ≤ 6 := by revert i; decide +kernel

/-- An op's name and form, by the program's tables. -/
def nm (n : Nat) : ByteArray := if spr (n / 16) = 0 then rowNm (n / 16) else splNm ((spr (n / 16) - 1) * 16 + n % 16)
def fm (n : Nat) : Nat := if spr (n / 16) = 0 then rowFm (n / 16) else splFm ((spr (n / 16) - 1) * 16 + n % 16)

/-- What Info says of an op. -/
def cyc (n : Nat) : Nat := if n / 16 = 12 then 3 else 2
def infoV (n : Nat) : Value := .agg #[.string (nm n), .int .u8 (fm n : Nat), .int .i64 (lay (fm n * 3) : Nat), .int .i64 (cyc n : Nat)]

theorem info_row (n : Nat) (w : World) (T : Tabs w) (h : n < 256) (hs : spr (n / 16) = 0) (hc : n / 16 ≠ 12) :
    Calls Tryd.prog 42 #[.int .u8 n] w fun e w' => e = .returned (.agg #[.string (rowNm (n / 16)), .int .u8 (rowFm (n / 16) : Nat), .int .i64 (lay (rowFm (n / 16) * 3) : Nat), .int .i64 2]) ∧ Below w.heap.size w w' := by
  have f6 := rowFm_le (n / 16) (by omega)
  have a0 := T.rn (n / 16) (by omega)
  have a1 := T.rf (n / 16) (by omega)
  have a2 := T.sr (n / 16) (by omega)
  have a5 := T.ly (rowFm (n / 16) * 3) (by omega)
  rw [hs] at a2
  have hz := T.size
  have z0 : 0 < w.heap.size := by omega
  have z1 : 1 < w.heap.size := by omega
  have z2 : 2 < w.heap.size := by omega
  have z5 : 5 < w.heap.size := by omega
  have i0 := fun w => idx (g := 0) (off := 0) Tryd.underlying132 (s := 1) (by kernel_rfl) .u8 (n / 16) w (by omega)
  have i1 := fun w => idx (g := 1) (off := 0) Tryd.underlying133 (s := 1) (by kernel_rfl) .u8 (n / 16) w (by omega)
  have i2 := fun w => idx (g := 2) (off := 0) Tryd.underlying134 (s := 1) (by kernel_rfl) .u8 (n / 16) w (by omega)
  have i5 := fun w => idx (g := 5) (off := 0) Tryd.underlying119 (s := 3) (by kernel_rfl) .u8 (rowFm (n / 16)) w (by omega)
  simp only [Int.natCast_ediv, Nat.zero_add, Nat.mul_one, Int.cast_ofNat_Int] at i0 i1 i2 i5
  have hl := low4 n h
  have hc' : ((n : Int) / 16 == 12) = false := by simp; omega
  go_enter Tryd.func42, Tryd.ntmps42
  go_wp2
  go_quiet (fail)
  go_wp2
  go_returns
  refine ⟨rfl, ?_⟩
  repeat (first | exact Below.refl _ _ | refine below_set ?_ (Nat.le_refl _) | refine below_drewN ?_ | refine Below.alloc ?_ (Nat.le_refl _) _)

theorem info_spl (n k : Nat) (w : World) (T : Tabs w) (h : n < 256) (hs : spr (n / 16) = k + 1) (c : Nat) (hc : c = cyc n) :
    Calls Tryd.prog 42 #[.int .u8 n] w fun e w' => e = .returned (.agg #[.string (splNm (k * 16 + n % 16)), .int .u8 (splFm (k * 16 + n % 16) : Nat), .int .i64 (lay (splFm (k * 16 + n % 16) * 3) : Nat), .int .i64 (c : Nat)]) ∧ Below w.heap.size w w' := by
  have hk := spr_le (n / 16) (by omega)
  have f6 := splFm_le (k * 16 + n % 16) (by omega)
  have a0 := T.rn (n / 16) (by omega)
  have a1 := T.rf (n / 16) (by omega)
  have a2 := T.sr (n / 16) (by omega)
  have a3 := T.sn (k * 16 + n % 16) (by omega)
  have a4 := T.sf (k * 16 + n % 16) (by omega)
  have a5 := T.ly (splFm (k * 16 + n % 16) * 3) (by omega)
  rw [hs] at a2
  have hz := T.size
  have z0 : 0 < w.heap.size := by omega
  have z1 : 1 < w.heap.size := by omega
  have z2 : 2 < w.heap.size := by omega
  have z3 : 3 < w.heap.size := by omega
  have z4 : 4 < w.heap.size := by omega
  have z5 : 5 < w.heap.size := by omega
  have i0 := fun w => idx (g := 0) (off := 0) Tryd.underlying132 (s := 1) (by kernel_rfl) .u8 (n / 16) w (by omega)
  have i1 := fun w => idx (g := 1) (off := 0) Tryd.underlying133 (s := 1) (by kernel_rfl) .u8 (n / 16) w (by omega)
  have i2 := fun w => idx (g := 2) (off := 0) Tryd.underlying134 (s := 1) (by kernel_rfl) .u8 (n / 16) w (by omega)
  have i3 := fun w => idx (g := 3) (off := 0) Tryd.underlying135 (s := 16) (by kernel_rfl) .u8 k w (by omega)
  have i3' := fun w => idx (g := 3) (off := k * 16) Tryd.underlying132 (s := 1) (by kernel_rfl) .u8 (n % 16) w (by omega)
  have i4 := fun w => idx (g := 4) (off := 0) Tryd.underlying136 (s := 16) (by kernel_rfl) .u8 k w (by omega)
  have i4' := fun w => idx (g := 4) (off := k * 16) Tryd.underlying133 (s := 1) (by kernel_rfl) .u8 (n % 16) w (by omega)
  have i5 := fun w => idx (g := 5) (off := 0) Tryd.underlying119 (s := 3) (by kernel_rfl) .u8 (splFm (k * 16 + n % 16)) w (by omega)
  simp only [Int.natCast_ediv, Int.natCast_emod, Nat.zero_add, Nat.mul_one, Int.cast_ofNat_Int] at i0 i1 i2 i3 i3' i4 i4' i5
  have hl := low4 n h
  have hk1 : ((k + 1 : Nat) : Int) = (k : Int) + 1 := by omega
  rw [hk1] at a2
  unfold cyc at hc
  subst hc
  by_cases hh : n / 16 = 12
  · rw [if_pos hh]
    have hc' : ((n : Int) / 16 == 12) = true := by simp; omega
    clear hh
    go_enter Tryd.func42, Tryd.ntmps42
    go_wp2
    go_quiet (fail)
    go_wp2
    go_quiet (fail)
    go_wp2
    go_returns
    refine ⟨rfl, ?_⟩
    repeat (first | exact Below.refl _ _ | refine below_set ?_ (Nat.le_refl _) | refine below_drewN ?_ | refine Below.alloc ?_ (Nat.le_refl _) _)
  · rw [if_neg hh]
    have hc' : ((n : Int) / 16 == 12) = false := by simp; omega
    go_enter Tryd.func42, Tryd.ntmps42
    go_wp2
    go_quiet (fail)
    go_wp2
    go_quiet (fail)
    go_wp2
    go_returns
    refine ⟨rfl, ?_⟩
    repeat (first | exact Below.refl _ _ | refine below_set ?_ (Nat.le_refl _) | refine below_drewN ?_ | refine Below.alloc ?_ (Nat.le_refl _) _)

/-- code.Info, whole. -/
theorem info_any (n : Nat) (w : World) (T : Tabs w) (h : n < 256) :
    Calls Tryd.prog 42 #[.int .u8 n] w fun e w' => e = .returned (infoV n) ∧ Below w.heap.size w w' := by
  rcases hs : spr (n / 16) with _ | k
  · have hc : n / 16 ≠ 12 := by intro e; rw [e] at hs; revert hs; decide
    have := info_row n w T h hs hc
    unfold infoV nm fm cyc
    rw [if_pos hs, if_pos hs, if_neg hc]
    exact this
  · have := info_spl n k w T h hs _ rfl
    unfold infoV nm fm
    rw [if_neg (by omega), if_neg (by omega), show spr (n / 16) - 1 = k from by omega]
    exact this
end Go.Proofs.YthbdpceobnkflaaDoor

namespace Go.Proofs.YthbdpceobnkflaaDoor
open Go.RowKit
set_option maxHeartbeats 400000

theorem low3 (n : Nat) (h : n < 256) : bits .and .u8 (n : Int) 7 = (n : Int) % 8 := by
  have : ∀ n : Nat, n < 256 → bits .and .u8 (n : Int) 7 = (n : Int) % 8 := by decide +kernel
  exact this n h
/-- The operand in an op's low bits. -/
def held (n f : Nat) : Nat := if f = 2 then n % 16 else if f = 3 then n % 8 else 0
theorem held_any (n f : Nat) (w : World) (h : n < 256) (hf : f ≤ 6) : Calls Tryd.prog 43 #[.int .u8 n, .int .u8 f] w fun e w' => e = .returned (.int .i64 (held n f : Nat)) ∧ w' = w := by
  have hl := low4 n h
  have hl' := low3 n h
  unfold held
  rcases (show f = 2 ∨ f = 3 ∨ (f = 0 ∨ f = 1 ∨ f = 4 ∨ f = 5 ∨ f = 6) by omega) with rfl | rfl | rfl | rfl | rfl | rfl | rfl
  all_goals
    go_enter Tryd.func43, Tryd.ntmps43
    go_wp2
    go_ret
    exact ⟨rfl, rfl⟩

/-- The least op of a name. -/
def opOf (s : ByteArray) : Option Nat := (List.range 256).find? fun n => decide (nm n = s)
theorem opOf_some {s : ByteArray} {n : Nat} (h : n < 256) (hn : nm n = s) (hm : ∀ m, m < n → nm m ≠ s) : opOf s = some n := by
  unfold opOf
  rw [List.find?_range_eq_some]
  exact ⟨by simp [hn], by simpa using h, fun j hj => by simpa using hm j hj⟩
theorem opOf_none {s : ByteArray} (hm : ∀ m, m < 256 → nm m ≠ s) : opOf s = none := by
  unfold opOf
  rw [List.find?_range_eq_none]
  exact fun j hj => by simpa using hm j hj
def firstV (o : Option Nat) : Value := .tuple #[.int .u8 (o.getD 0 : Nat), .bool o.isSome]

theorem fld0 (X : ByteArray) (F L c : Int) (w : World) : (Instr.field 82 (.agg #[.string X, .int .u8 F, .int .i64 L, .int .i64 c]) 0).run Tryd.prog w = .ok (.string X) w := by kernel_rfl
theorem fld1 (X : ByteArray) (F L c : Int) (w : World) : (Instr.field 82 (.agg #[.string X, .int .u8 F, .int .i64 L, .int .i64 c]) 1).run Tryd.prog w = .ok (.int .u8 F) w := by kernel_rfl
theorem info_of (n : Nat) (X : ByteArray) (F L c : Nat) (hX : Hid (nm n = X)) (hF : Hid (fm n = F)) (hL : Hid (lay (fm n * 3) = L)) (hc : Hid (cyc n = c)) (w : World) (T : Tabs w) (h : n < 256) :
    Calls Tryd.prog 42 #[.int .u8 n] w fun e w' => e = .returned (.agg #[.string X, .int .u8 F, .int .i64 L, .int .i64 c]) ∧ Below w.heap.size w w' := by
  have := info_any n w T h
  unfold infoV at this
  rw [hX.out, hL.out, hF.out, hc.out] at this
  exact this

set_option maxRecDepth 20000 in
theorem first_any (s : ByteArray) (o : Option Nat) (ho : Hid (opOf s = o)) (w : World) (T : Tabs w) :
    Calls Tryd.prog 41 #[.string s] w fun e w' => e = .returned (firstV o) ∧ Below w.heap.size w w' := by
  go_enter Tryd.func41, Tryd.ntmps41
  go_wp2
  go_loopw [6] (fun i wr => ∃ n : Nat, n ≤ 256 ∧ i = .int .i64 (n : Int) ∧ Hid (∀ m, m < n → nm m ≠ s) ∧ Below w.heap.size w wr) (fun i _ => (256 - intOf i).toNat)
  case atStart => exact ⟨0, by omega, rfl, (fun m hm => absurd hm (by omega) : ∀ m, m < 0 → nm m ≠ s), Below.refl _ _⟩
  case round =>
    rename_i wr
    obtain ⟨n, hn, rfl, hm, HB⟩ := hrel
    by_cases hlt : n < 256
    · obtain ⟨X, hX⟩ : ∃ X, Hid (nm n = X) := ⟨_, (rfl : nm n = nm n)⟩
      obtain ⟨F, hF⟩ : ∃ X, Hid (fm n = X) := ⟨_, (rfl : fm n = fm n)⟩
      obtain ⟨L, hL⟩ : ∃ X, Hid (lay (fm n * 3) = X) := ⟨_, (rfl : lay (fm n * 3) = lay (fm n * 3))⟩
      obtain ⟨c, hc⟩ : ∃ X, Hid (cyc n = X) := ⟨_, (rfl : cyc n = cyc n)⟩
      have hfd := fld0 X F L c
      by_cases hx : X = s
      · subst hx
        have hq := str_eq (rfl : X = X)
        go_wp2_with (go_at_call 42; refine (info_of n X F L c hX hF hL hc _ (T.below HB) hlt).mono ?_; rintro e v1 ⟨rfl, hb1⟩)
        go_ret2
        refine ⟨?_, HB.trans (hb1.mono HB.size)⟩
        unfold firstV
        rw [← ho.out, opOf_some hlt hX.out hm.out]
        rfl
      · have hq := str_ne hx
        go_wp2_with (go_at_call 42; refine (info_of n X F L c hX hF hL hc _ (T.below HB) hlt).mono ?_; rintro e v1 ⟨rfl, hb1⟩)
        go_roundw
        case rel => exact ⟨n + 1, by omega, by simp, (fun m h => by rcases Nat.lt_succ_iff_lt_or_eq.1 h with h | rfl; exact hm.out m h; exact fun e => hx (hX.out.symm.trans e) : ∀ m, m < n + 1 → nm m ≠ s), HB.trans (hb1.mono HB.size)⟩
        case measure => simp [intOf]; omega
    · have hn' : n = 256 := by omega
      subst hn'
      go_wp2
      go_ret2
      refine ⟨?_, HB⟩
      unfold firstV
      rw [← ho.out, opOf_none hm.out]
      rfl

theorem opOf_lt {s : ByteArray} {n : Nat} (h : opOf s = some n) : n < 256 ∧ nm n = s := by
  unfold opOf at h
  rw [List.find?_range_eq_some] at h
  exact ⟨by simpa using h.2.1, by simpa using h.1⟩

theorem own_cell {w v : World} {cs : Array Value} {t : TypeId} (hb : Below (w.alloc (.cells cs t)).heap.size (w.alloc (.cells cs t)) v) (j : Nat) : v.cell? ⟨w.heap.size, j, none⟩ = cs[j]? :=
  (hb.cell (p := ⟨w.heap.size, j, none⟩) (by simp)).trans (World.cell?_alloc_new ..)
theorem own_frozen {w v : World} {cs : Array Value} {t : TypeId} (hb : Below (w.alloc (.cells cs t)).heap.size (w.alloc (.cells cs t)) v) (j : Nat) : v.frozen? ⟨w.heap.size, j, none⟩ = false :=
  (hb.frozen (p := ⟨w.heap.size, j, none⟩) (by simp)).trans (by simp)
theorem below_own {w v : World} {o : Obj} (hb : Below (w.alloc o).heap.size (w.alloc o) v) : Below w.heap.size w v :=
  ((Below.refl _ _).alloc (Nat.le_refl _) o).trans (hb.mono (by simp))

def info0 : Value := .agg #[.string ⟨#[]⟩, .int .u8 0, .int .i64 0, .int .i64 0]
theorem find_none (s : ByteArray) (ho : Hid (opOf s = none)) (w : World) (T : Tabs w) :
    Calls Tryd.prog 30 #[.string s] w fun e w' => e = .returned (.tuple #[info0, .bool false]) ∧ Below w.heap.size w w' := by
  have HB : Below w.heap.size w (w.alloc (.cells #[.string ⟨#[]⟩, .int .u8 0, .int .i64 0, .int .i64 0] 82)) := (Below.refl _ _).alloc (Nat.le_refl _) _
  go_enter Tryd.func30, Tryd.ntmps30
  go_wp2_with (go_at_call 41; refine (first_any s _ ho _ (T.below HB)).mono ?_; unfold firstV; rintro e v1 ⟨rfl, hb1⟩; have c0 : v1.cell? ⟨w.heap.size, 0, none⟩ = some (.string ⟨#[]⟩) := own_cell hb1 0; have c1 : v1.cell? ⟨w.heap.size, 1, none⟩ = some (.int .u8 0) := own_cell hb1 1; have c2 : v1.cell? ⟨w.heap.size, 2, none⟩ = some (.int .i64 0) := own_cell hb1 2; have c3 : v1.cell? ⟨w.heap.size, 3, none⟩ = some (.int .i64 0) := own_cell hb1 3; have f0 := own_frozen hb1 0; have f1 := own_frozen hb1 1; have f2 := own_frozen hb1 2; have f3 := own_frozen hb1 3; replace hb1 := below_own hb1)
  (try simp only [Exit.inBlock, Exit.then])
  refine bodyPost_ret (by simp [results, Tryd.results30, go_sem, c0, c1, c2, c3]; try rfl) rfl ?_
  refine ⟨rfl, ?_⟩
  repeat (first | exact hb1 | refine below_set ?_ (Nat.le_refl _))

theorem find_some (s : ByteArray) (n : Nat) (ho : Hid (opOf s = some n)) (X : ByteArray) (F L c : Nat) (hX : Hid (nm n = X)) (hF : Hid (fm n = F)) (hL : Hid (lay (fm n * 3) = L)) (hc : Hid (cyc n = c)) (w : World) (T : Tabs w) :
    Calls Tryd.prog 30 #[.string s] w fun e w' => e = .returned (.tuple #[.agg #[.string X, .int .u8 F, .int .i64 L, .int .i64 c], .bool true]) ∧ Below w.heap.size w w' := by
  have HB : Below w.heap.size w (w.alloc (.cells #[.string ⟨#[]⟩, .int .u8 0, .int .i64 0, .int .i64 0] 82)) := (Below.refl _ _).alloc (Nat.le_refl _) _
  have hlt : n < 256 := (opOf_lt ho.out).1
  have hlt' : Hid (n < 256) := hlt
  clear hlt
  go_enter Tryd.func30, Tryd.ntmps30
  go_wp2_with (first | (go_at_call 41; refine (first_any s _ ho _ (T.below HB)).mono ?_; unfold firstV; rintro e v1 ⟨rfl, hb1⟩) | (go_at_call 42; refine (info_of n X F L c hX hF hL hc _ ((T.below HB).below hb1) hlt'.out).mono ?_; rintro e v2 ⟨rfl, hb2⟩; replace hb2 := hb1.trans (hb2.mono hb1.size); have c0 : v2.cell? ⟨w.heap.size, 0, none⟩ = some (.string ⟨#[]⟩) := own_cell hb2 0; have c1 : v2.cell? ⟨w.heap.size, 1, none⟩ = some (.int .u8 0) := own_cell hb2 1; have c2 : v2.cell? ⟨w.heap.size, 2, none⟩ = some (.int .i64 0) := own_cell hb2 2; have c3 : v2.cell? ⟨w.heap.size, 3, none⟩ = some (.int .i64 0) := own_cell hb2 3; have f0 := own_frozen hb2 0; have f1 := own_frozen hb2 1; have f2 := own_frozen hb2 2; have f3 := own_frozen hb2 3; replace hb2 := below_own hb2))
  (try simp only [Exit.inBlock, Exit.then])
  refine bodyPost_ret (by simp [results, Tryd.results30, go_sem, c0, c1, c2, c3]; try rfl) rfl ?_
  refine ⟨rfl, ?_⟩
  repeat (first | exact hb2 | refine below_set ?_ (Nat.le_refl _))
end Go.Proofs.YthbdpceobnkflaaDoor

namespace Go.Proofs.YthbdpceobnkflaaDoor
open Go.RowKit

/-- A name's bytes. -/
def nmB (n : Nat) : List UInt8 := if spr (n / 16) = 0 then rowNmL.getD (n / 16) [] else splNmL.getD ((spr (n / 16) - 1) * 16 + n % 16) []
theorem nm_eq (n : Nat) : nm n = ⟨(nmB n).toArray⟩ := by unfold nm nmB rowNm splNm; split <;> rfl
theorem nm_inj {a b : Nat} (h : nm a = nm b) : nmB a = nmB b := by
  rw [nm_eq, nm_eq] at h
  have := congrArg (fun x : ByteArray => x.data.toList) h
  simpa using this

/-- How many bytes an op's instruction has. -/
def by1 (n : Nat) : Nat := lay (fm n * 3)
/-- The first op of an op's name. -/
def bs (n : Nat) : Nat := if fm n = 2 then (if n < 16 then 1 else n / 16 * 16) else if fm n = 3 then n / 8 * 8 + 1 else n

theorem fm_le (n : Nat) (h : n < 256) : 1 ≤ fm n ∧ fm n ≤ 6 := by revert n; decide +kernel
theorem by1_eq (n : Nat) (h : n < 256) : by1 n = if fm n ≤ 3 then 1 else if fm n ≤ 5 then 2 else 3 := by revert n; decide +kernel
theorem bs_ok (n : Nat) (h : n < 256) : bs n < 256 ∧ fm (bs n) = fm n ∧ nmB (bs n) = nmB n ∧ cyc (bs n) = cyc n := by revert n; decide +kernel
theorem bs_first : (List.range 256).all (fun n => (List.range (bs n)).all fun j => nmB j != nmB n) = true := by decide +kernel
theorem opOf_nm (n : Nat) (h : n < 256) : opOf (nm n) = some (bs n) := by
  have hb := bs_ok n h
  refine opOf_some hb.1 (by rw [nm_eq, nm_eq, hb.2.2.1]) fun m hm e => ?_
  have h1 := List.all_eq_true.1 (List.all_eq_true.1 bs_first n (List.mem_range.2 h)) m (List.mem_range.2 hm)
  rw [nm_inj e] at h1
  simp at h1
end Go.Proofs.YthbdpceobnkflaaDoor
