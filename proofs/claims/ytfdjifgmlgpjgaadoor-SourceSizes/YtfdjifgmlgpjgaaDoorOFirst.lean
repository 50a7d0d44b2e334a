/- code.firstOp, code.Find, code.held and the bytes of words: a contract each. -/
import Derived.Test.YtfdjifgmlgpjgaaDoorOInfo
import Derived.Test.YtfdjifgmlgpjgaaDoorOStr
import Derived.Laws.ResultCell
import Derived.Deep.RegionWith
namespace Go.Proofs.YtfdjifgmlgpjgaaDoor
open Go.RowKit
set_option maxHeartbeats 400000

theorem low3 (n : Nat) (h : n < 256) : bits .and .u8 (n : Int) 7 = (n : Int) % 8 := by
  have : ∀ n : Nat, n < 256 → bits .and .u8 (n : Int) 7 = (n : Int) % 8 := by decide +kernel
  exact this n h
/-- The operand in an op's low bits. -/
def held (n f : Nat) : Nat := if f = 2 then n % 16 else if f = 3 then n % 8 else 0
theorem held_any (n f : Nat) (w : World) (h : n < 256) (hf : f ≤ 6) : Calls Tryd.prog 94 #[.int .u8 n, .int .u8 f] w fun e w' => e = .returned (.int .i64 (held n f : Nat)) ∧ w' = w := by
  have hl := low4 n h
  have hl' := low3 n h
  unfold held
  rcases (show f = 2 ∨ f = 3 ∨ (f = 0 ∨ f = 1 ∨ f = 4 ∨ f = 5 ∨ f = 6) by omega) with rfl | rfl | rfl | rfl | rfl | rfl | rfl
  all_goals
    go_enter Tryd.func94, Tryd.ntmps94
    go_wp2
    go_ret
    exact ⟨rfl, rfl⟩

/-- The least op of a name. -/
def opOf (s : ByteArray) : Option Nat := (List.range 256).find? fun n => decide (nm n = s)
theorem opOf_some {s : ByteArray} {n : Nat} (h : n < 256) (hn : nm n = s) (hm : ∀ m, m < n → nm m ≠ s) : opOf s = some n := by
  unfold opOf
  rw [List.find?_range_eq_some]
  exact ⟨by simp [hn], by simpa using h, fun j hj => by simpa using hm j hj⟩
theorem opOf_none {s : ByteArray} (hm : ∀ m, m < 256 → nm m ≠ s) : opOf s = none := by
  unfold opOf
  rw [List.find?_range_eq_none]
  exact fun j hj => by simpa using hm j hj
def firstV (o : Option Nat) : Value := .tuple #[.int .u8 (o.getD 0 : Nat), .bool o.isSome]

theorem fld0 (X : ByteArray) (F L c : Int) (w : World) : (Instr.field 50 (.agg #[.string X, .int .u8 F, .int .i64 L, .int .i64 c]) 0).run Tryd.prog w = .ok (.string X) w := by kernel_rfl
theorem fld1 (X : ByteArray) (F L c : Int) (w : World) : (Instr.field 50 (.agg #[.string X, .int .u8 F, .int .i64 L, .int .i64 c]) 1).run Tryd.prog w = .ok (.int .u8 F) w := by kernel_rfl
theorem fld2 (X : ByteArray) (F L c : Int) (w : World) : (Instr.field 50 (.agg #[.string X, .int .u8 F, .int .i64 L, .int .i64 c]) 2).run Tryd.prog w = .ok (.int .i64 L) w := by kernel_rfl

theorem info_of (n : Nat) (X : ByteArray) (F L c : Nat) (hX : Hid (nm n = X)) (hF : Hid (fm n = F)) (hL : Hid (lay (fm n * 3) = L)) (hc : Hid (cyc n = c)) (w : World) (T : Tabs w) (h : n < 256) :
    Calls Tryd.prog 48 #[.int .u8 n] w fun e w' => e = .returned (.agg #[.string X, .int .u8 F, .int .i64 L, .int .i64 c]) ∧ Below w.heap.size w w' := by
  have := info_any n w T h
  unfold infoV at this
  rw [hX.out, hL.out, hF.out, hc.out] at this
  exact this

set_option maxRecDepth 20000 in
theorem first_any (s : ByteArray) (o : Option Nat) (ho : Hid (opOf s = o)) (w : World) (T : Tabs w) :
    Calls Tryd.prog 47 #[.string s] w fun e w' => e = .returned (firstV o) ∧ Below w.heap.size w w' := by
  go_enter Tryd.func47, Tryd.ntmps47
  go_wp2
  go_loopw [6] (fun i wr => ∃ n : Nat, n ≤ 256 ∧ i = .int .i64 (n : Int) ∧ Hid (∀ m, m < n → nm m ≠ s) ∧ Below w.heap.size w wr) (fun i _ => (256 - intOf i).toNat)
  case atStart => exact ⟨0, by omega, rfl, (fun m hm => absurd hm (by omega) : ∀ m, m < 0 → nm m ≠ s), Below.refl _ _⟩
  case round =>
    rename_i wr
    obtain ⟨n, hn, rfl, hm, HB⟩ := hrel
    by_cases hlt : n < 256
    · obtain ⟨X, hX⟩ : ∃ X, Hid (nm n = X) := ⟨_, (rfl : nm n = nm n)⟩
      obtain ⟨F, hF⟩ : ∃ X, Hid (fm n = X) := ⟨_, (rfl : fm n = fm n)⟩
      obtain ⟨L, hL⟩ : ∃ X, Hid (lay (fm n * 3) = X) := ⟨_, (rfl : lay (fm n * 3) = lay (fm n * 3))⟩
      obtain ⟨c, hc⟩ : ∃ X, Hid (cyc n = X) := ⟨_, (rfl : cyc n = cyc n)⟩
      have hfd := fld0 X F L c
      by_cases hx : X = s
      · subst hx
        have hq := str_eq (rfl : X = X)
        go_wp2_with (go_at_call 48; refine (info_of n X F L c hX hF hL hc _ (T.below HB) hlt).mono ?_; rintro e v1 ⟨rfl, hb1⟩)
        go_ret2
        refine ⟨?_, HB.trans (hb1.mono HB.size)⟩
        unfold firstV
        rw [← ho.out, opOf_some hlt hX.out hm.out]
        rfl
      · have hq := str_ne hx
        go_wp2_with (go_at_call 48; refine (info_of n X F L c hX hF hL hc _ (T.below HB) hlt).mono ?_; rintro e v1 ⟨rfl, hb1⟩)
        go_roundw
        case rel => exact ⟨n + 1, by omega, by simp, (fun m h => by rcases Nat.lt_succ_iff_lt_or_eq.1 h with h | rfl; exact hm.out m h; exact fun e => hx (hX.out.symm.trans e) : ∀ m, m < n + 1 → nm m ≠ s), HB.trans (hb1.mono HB.size)⟩
        case measure => simp [intOf]; omega
    · have hn' : n = 256 := by omega
      subst hn'
      go_wp2
      go_ret2
      refine ⟨?_, HB⟩
      unfold firstV
      rw [← ho.out, opOf_none hm.out]
      rfl

theorem opOf_lt {s : ByteArray} {n : Nat} (h : opOf s = some n) : n < 256 ∧ nm n = s := by
  unfold opOf at h
  rw [List.find?_range_eq_some] at h
  exact ⟨by simpa using h.2.1, by simpa using h.1⟩

theorem own_cell {w v : World} {cs : Array Value} {t : TypeId} (hb : Below (w.alloc (.cells cs t)).heap.size (w.alloc (.cells cs t)) v) (j : Nat) : v.cell? ⟨w.heap.size, j, none⟩ = cs[j]? :=
  (hb.cell (p := ⟨w.heap.size, j, none⟩) (by simp)).trans (World.cell?_alloc_new ..)
theorem own_frozen {w v : World} {cs : Array Value} {t : TypeId} (hb : Below (w.alloc (.cells cs t)).heap.size (w.alloc (.cells cs t)) v) (j : Nat) : v.frozen? ⟨w.heap.size, j, none⟩ = false :=
  (hb.frozen (p := ⟨w.heap.size, j, none⟩) (by simp)).trans (by simp)
theorem below_own {w v : World} {o : Obj} (hb : Below (w.alloc o).heap.size (w.alloc o) v) : Below w.heap.size w v :=
  ((Below.refl _ _).alloc (Nat.le_refl _) o).trans (hb.mono (by simp))

def info0 : Value := .agg #[.string ⟨#[]⟩, .int .u8 0, .int .i64 0, .int .i64 0]
theorem find_none (s : ByteArray) (ho : Hid (opOf s = none)) (w : World) (T : Tabs w) :
    Calls Tryd.prog 28 #[.string s] w fun e w' => e = .returned (.tuple #[info0, .bool false]) ∧ Below w.heap.size w w' := by
  have HB : Below w.heap.size w (w.alloc (.cells #[.string ⟨#[]⟩, .int .u8 0, .int .i64 0, .int .i64 0] 50)) := (Below.refl _ _).alloc (Nat.le_refl _) _
  go_enter Tryd.func28, Tryd.ntmps28
  go_wp2_with (go_at_call 47; refine (first_any s _ ho _ (T.below HB)).mono ?_; unfold firstV; rintro e v1 ⟨rfl, hb1⟩; have c0 : v1.cell? ⟨w.heap.size, 0, none⟩ = some (.string ⟨#[]⟩) := own_cell hb1 0; have c1 : v1.cell? ⟨w.heap.size, 1, none⟩ = some (.int .u8 0) := own_cell hb1 1; have c2 : v1.cell? ⟨w.heap.size, 2, none⟩ = some (.int .i64 0) := own_cell hb1 2; have c3 : v1.cell? ⟨w.heap.size, 3, none⟩ = some (.int .i64 0) := own_cell hb1 3; have f0 := own_frozen hb1 0; have f1 := own_frozen hb1 1; have f2 := own_frozen hb1 2; have f3 := own_frozen hb1 3; replace hb1 := below_own hb1)
  (try simp only [Exit.inBlock, Exit.then])
  refine bodyPost_ret (by simp [results, Tryd.results28, go_sem, c0, c1, c2, c3]; try rfl) rfl ?_
  refine ⟨rfl, ?_⟩
  repeat (first | exact hb1 | refine below_set ?_ (Nat.le_refl _))

theorem find_some (s : ByteArray) (n : Nat) (ho : Hid (opOf s = some n)) (X : ByteArray) (F L c : Nat) (hX : Hid (nm n = X)) (hF : Hid (fm n = F)) (hL : Hid (lay (fm n * 3) = L)) (hc : Hid (cyc n = c)) (w : World) (T : Tabs w) :
    Calls Tryd.prog 28 #[.string s] w fun e w' => e = .returned (.tuple #[.agg #[.string X, .int .u8 F, .int .i64 L, .int .i64 c], .bool true]) ∧ Below w.heap.size w w' := by
  have HB : Below w.heap.size w (w.alloc (.cells #[.string ⟨#[]⟩, .int .u8 0, .int .i64 0, .int .i64 0] 50)) := (Below.refl _ _).alloc (Nat.le_refl _) _
  have hlt : n < 256 := (opOf_lt ho.out).1
  have hlt' : Hid (n < 256) := hlt
  clear hlt
  go_enter Tryd.func28, Tryd.ntmps28
  go_wp2_with (first | (go_at_call 47; refine (first_any s _ ho _ (T.below HB)).mono ?_; unfold firstV; rintro e v1 ⟨rfl, hb1⟩) | (go_at_call 48; refine (info_of n X F L c hX hF hL hc _ ((T.below HB).below hb1) hlt'.out).mono ?_; rintro e v2 ⟨rfl, hb2⟩; replace hb2 := hb1.trans (hb2.mono hb1.size); have c0 : v2.cell? ⟨w.heap.size, 0, none⟩ = some (.string ⟨#[]⟩) := own_cell hb2 0; have c1 : v2.cell? ⟨w.heap.size, 1, none⟩ = some (.int .u8 0) := own_cell hb2 1; have c2 : v2.cell? ⟨w.heap.size, 2, none⟩ = some (.int .i64 0) := own_cell hb2 2; have c3 : v2.cell? ⟨w.heap.size, 3, none⟩ = some (.int .i64 0) := own_cell hb2 3; have f0 := own_frozen hb2 0; have f1 := own_frozen hb2 1; have f2 := own_frozen hb2 2; have f3 := own_frozen hb2 3; replace hb2 := below_own hb2))
  (try simp only [Exit.inBlock, Exit.then])
  refine bodyPost_ret (by simp [results, Tryd.results28, go_sem, c0, c1, c2, c3]; try rfl) rfl ?_
  refine ⟨rfl, ?_⟩
  repeat (first | exact hb2 | refine below_set ?_ (Nat.le_refl _))
end Go.Proofs.YtfdjifgmlgpjgaaDoor
