/- code.firstOp, code.Find, code.held and the bytes of words: a contract each. -/
import Derived.Test.YtkpfhnogpcigaaaDoorRJOInfo
import Derived.Test.YtkpfhnogpcigaaaDoorRJOStr
import Derived.Laws.ResultCell
import Derived.Deep.RegionWith
namespace Go.Proofs.YtkpfhnogpcigaaaDoorR
open Go.RowKit
set_option maxHeartbeats 400000

theorem low3 (n : Nat) (h : n < 256) : bits .and .u8 (n : Int) 7 = (n : Int) % 8 := by
  have : ∀ n : Nat, n < 256 → bits .and .u8 (n : Int) 7 = (n : Int) % 8 := by decide +kernel
  exact this n h
/-- The operand in an op's low bits. -/
def held (n f : Nat) : Nat := if f = 2 then n % 16 else if f = 3 then n % 8 else 0
theorem held_any (n f : Nat) (w : World) (h : n < 256) (hf : f ≤ 6) : Calls Tryd.prog 70 #[.int .u8 n, .int .u8 f] w fun e w' => e = .returned (.int .i64 (held n f : Nat)) ∧ w' = w := by
  have hl := low4 n h
  have hl' := low3 n h
  unfold held
  rcases (show f = 2 ∨ f = 3 ∨ (f = 0 ∨ f = 1 ∨ f = 4 ∨ f = 5 ∨ f = 6) by omega) with rfl | rfl | rfl | rfl | rfl | rfl | rfl
  all_goals
    go_enter Tryd.func70, Tryd.ntmps70
    go_wp2
    go_ret
    exact ⟨rfl, rfl⟩

/-- The least op of a name. -/
def opOf (s : ByteArray) : Option Nat := (List.range 256).find? fun n => decide (nm n = s)
theorem opOf_some {s : ByteArray} {n : Nat} (h : n < 256) (hn : nm n = s) (hm : ∀ m, m < n → nm m ≠ s) : opOf s = some n := by
  unfold opOf
  rw [List.find?_range_eq_some]
  exact ⟨by simp [hn], by simpa using h, fun j hj => by simpa using hm j hj⟩
theorem opOf_none {s : ByteArray} (hm : ∀ m, m < 256 → nm m ≠ s) : opOf s = none := by
  unfold opOf
  rw [List.find?_range_eq_none]
  exact fun j hj => by simpa using hm j hj
def firstV (o : Option Nat) : Value := .tuple #[.int .u8 (o.getD 0 : Nat), .bool o.isSome]

theorem fld0 (X : ByteArray) (F L c : Int) (w : World) : (Instr.field 110 (.agg #[.string X, .int .u8 F, .int .i64 L, .int .i64 c]) 0).run Tryd.prog w = .ok (.string X) w := by kernel_rfl
theorem fld1 (X : ByteArray) (F L c : Int) (w : World) : (Instr.field 110 (.agg #[.string X, .int .u8 F, .int .i64 L, .int .i64 c]) 1).run Tryd.prog w = .ok (.int .u8 F) w := by kernel_rfl
theorem fld2 (X : ByteArray) (F L c : Int) (w : World) : (Instr.field 110 (.agg #[.string X, .int .u8 F, .int .i64 L, .int .i64 c]) 2).run Tryd.prog w = .ok (.int .i64 L) w := by kernel_rfl

theorem info_of (n : Nat) (X : ByteArray) (F L c : Nat) (hX : Hid (nm n = X)) (hF : Hid (fm n = F)) (hL : Hid (lay (fm n * 3) = L)) (hc : Hid (cyc n = c)) (w : World) (T : Tabs w) (h : n < 256) :
    Calls Tryd.prog 65 #[.int .u8 n] w fun e w' => e = .returned (.agg #[.string X, .int .u8 F, .int .i64 L, .int .i64 c]) ∧ Below w.heap.size w w' := by
  have := info_any n w T h
  unfold infoV at this
  rw [hX.out, hL.out, hF.out, hc.out] at this
  exact this

set_option maxRecDepth 20000 in
theorem first_any (s : ByteArray) (o : Option Nat) (ho : Hid (opOf s = o)) (w : World) (T : Tabs w) :
    Calls Tryd.prog 64 #[.string s] w fun e w' => e = .returned (firstV o) ∧ Below w.heap.size w w' := by
  go_enter Tryd.func64, Tryd.ntmps64
  go_wp2
  go_loopw [6] (fun i wr => ∃ n : Nat, n ≤ 256 ∧ i = .int .i64 (n : Int) ∧ Hid (∀ m, m < n → nm m ≠ s) ∧ Below w.heap.size w wr) (fun i _ => (256 - intOf i).toNat)
  case atStart => exact ⟨0, by omega, rfl, (fun m hm => absurd hm (by omega) : ∀ m, m < 0 → nm m ≠ s), Below.refl _ _⟩
  case round =>
    rename_i wr
    obtain ⟨n, hn, rfl, hm, HB⟩ := hrel
    by_cases hlt : n < 256
    · obtain ⟨X, hX⟩ : ∃ X, Hid (nm n = X) := ⟨_, (rfl : nm n = nm n)⟩
      obtain ⟨F, hF⟩ : ∃ X, Hid (fm n = X) := ⟨_, (rfl : fm n = fm n)⟩
      obtain ⟨L, hL⟩ : ∃ X, Hid (lay (fm n * 3) = X) := ⟨_, (rfl : lay (fm n * 3) = lay (fm n * 3))⟩
      obtain ⟨c, hc⟩ : ∃ X, Hid (cyc n = X) := ⟨_, (rfl : cyc n = cyc n)⟩
      have hfd := fld0 X F L c
      by_cases hx : X = s
      · subst hx
        have hq := str_eq (rfl : X = X)
        go_wp2_with (go_at_call 65; refine (info_of n X F L c hX hF hL hc _ (T.below HB) hlt).mono ?_; rintro e v1 ⟨rfl, hb1⟩)
        go_ret2
        refine ⟨?_, HB.trans (hb1.mono HB.size)⟩
        unfold firstV
        rw [← ho.out, opOf_some hlt hX.out hm.out]
        rfl
      · have hq := str_ne hx
        go_wp2_with (go_at_call 65; refine (info_of n X F L c hX hF hL hc _ (T.below HB) hlt).mono ?_; rintro e v1 ⟨rfl, hb1⟩)
        go_roundw
        case rel => exact ⟨n + 1, by omega, by simp, (fun m h => by rcases Nat.lt_succ_iff_lt_or_eq.1 h with h | rfl; exact hm.out m h; exact fun e => hx (hX.out.symm.trans e) : ∀ m, m < n + 1 → nm m ≠ s), HB.trans (hb1.mono HB.size)⟩
        case measure => simp [intOf]; omega
    · have hn' : n = 256 := by omega
      subst hn'
      go_wp2
      go_ret2
      refine ⟨?_, HB⟩
      unfold firstV
      rw [← ho.out, opOf_none hm.out]
      rfl

theorem opOf_lt {s : ByteArray} {n : Nat} (h : opOf s = some n) : n < 256 ∧ nm n = s := by
  unfold opOf at h
  rw [List.find?_range_eq_some] at h
  exact ⟨by simpa using h.2.1, by simpa using h.1⟩

theorem own_cell {w v : World} {cs : Array Value} {t : TypeId} (hb : Below (w.alloc (.cells cs t)).heap.size (w.alloc (.cells cs t)) v) (j : Nat) : v.cell? ⟨w.heap.size, j, none⟩ = cs[j]? :=
  (hb.cell (p := ⟨w.heap.size, j, none⟩) (by simp)).trans (World.cell?_alloc_new ..)
theorem own_frozen {w v : World} {cs : Array Value} {t : TypeId} (hb : Below (w.alloc (.cells cs t)).heap.size (w.alloc (.cells cs t)) v) (j : Nat) : v.frozen? ⟨w.heap.size, j, none⟩ = false :=
  (hb.frozen (p := ⟨w.heap.size, j, none⟩) (by simp)).trans (by simp)
theorem below_own {w v : World} {o : Obj} (hb : Below (w.alloc o).heap.size (w.alloc o) v) : Below w.heap.size w v :=
  ((Below.refl _ _).alloc (Nat.le_refl _) o).trans (hb.mono (by simp))

def info0 : Value := .agg #[.string ⟨#[]⟩, .int .u8 0, .int .i64 0, .int .i64 0]
theorem find_none (s : ByteArray) (ho : Hid (opOf s = none)) (w : World) (T : Tabs w) :
    Calls Tryd.prog 49 #[.string s] w fun e w' => e = .returned (.tuple #[info0, .bool false]) ∧ Below w.heap.size w w' := by
  have HB : Below w.heap.size w (w.alloc (.cells #[.string ⟨#[]⟩, .int .u8 0, .int .i64 0, .int .i64 0] 110)) := (Below.refl _ _).alloc (Nat.le_refl _) _
  go_enter Tryd.func49, Tryd.ntmps49
  go_wp2_with (go_at_call 64; refine (first_any s _ ho _ (T.below HB)).mono ?_; unfold firstV; rintro e v1 ⟨rfl, hb1⟩; have c0 : v1.cell? ⟨w.heap.size, 0, none⟩ = some (.string ⟨#[]⟩) := own_cell hb1 0; have c1 : v1.cell? ⟨w.heap.size, 1, none⟩ = some (.int .u8 0) := own_cell hb1 1; have c2 : v1.cell? ⟨w.heap.size, 2, none⟩ = some (.int .i64 0) := own_cell hb1 2; have c3 : v1.cell? ⟨w.heap.size, 3, none⟩ = some (.int .i64 0) := own_cell hb1 3; have f0 := own_frozen hb1 0; have f1 := own_frozen hb1 1; have f2 := own_frozen hb1 2; have f3 := own_frozen hb1 3; replace hb1 := below_own hb1)
  (try simp only [Exit.inBlock, Exit.then])
  refine bodyPost_ret (by simp [results, Tryd.results49, go_sem, c0, c1, c2, c3]; try rfl) rfl ?_
  refine ⟨rfl, ?_⟩
  repeat (first | exact hb1 | refine below_set ?_ (Nat.le_refl _))

theorem find_some (s : ByteArray) (n : Nat) (ho : Hid (opOf s = some n)) (X : ByteArray) (F L c : Nat) (hX : Hid (nm n = X)) (hF : Hid (fm n = F)) (hL : Hid (lay (fm n * 3) = L)) (hc : Hid (cyc n = c)) (w : World) (T : Tabs w) :
    Calls Tryd.prog 49 #[.string s] w fun e w' => e = .returned (.tuple #[.agg #[.string X, .int .u8 F, .int .i64 L, .int .i64 c], .bool true]) ∧ Below w.heap.size w w' := by
  have HB : Below w.heap.size w (w.alloc (.cells #[.string ⟨#[]⟩, .int .u8 0, .int .i64 0, .int .i64 0] 110)) := (Below.refl _ _).alloc (Nat.le_refl _) _
  have hlt : n < 256 := (opOf_lt ho.out).1
  have hlt' : Hid (n < 256) := hlt
  clear hlt
  go_enter Tryd.func49, Tryd.ntmps49
  go_wp2_with (first | (go_at_call 64; refine (first_any s _ ho _ (T.below HB)).mono ?_; unfold firstV; rintro e v1 ⟨rfl, hb1⟩) | (go_at_call 65; refine (info_of n X F L c hX hF hL hc _ ((T.below HB).below hb1) hlt'.out).mono ?_; rintro e v2 ⟨rfl, hb2⟩; replace hb2 := hb1.trans (hb2.mono hb1.size); have c0 : v2.cell? ⟨w.heap.size, 0, none⟩ = some (.string ⟨#[]⟩) := own_cell hb2 0; have c1 : v2.cell? ⟨w.heap.size, 1, none⟩ = some (.int .u8 0) := own_cell hb2 1; have c2 : v2.cell? ⟨w.heap.size, 2, none⟩ = some (.int .i64 0) := own_cell hb2 2; have c3 : v2.cell? ⟨w.heap.size, 3, none⟩ = some (.int .i64 0) := own_cell hb2 3; have f0 := own_frozen hb2 0; have f1 := own_frozen hb2 1; have f2 := own_frozen hb2 2; have f3 := own_frozen hb2 3; replace hb2 := below_own hb2))
  (try simp only [Exit.inBlock, Exit.then])
  refine bodyPost_ret (by simp [results, Tryd.results49, go_sem, c0, c1, c2, c3]; try rfl) rfl ?_
  refine ⟨rfl, ?_⟩
  repeat (first | exact hb2 | refine below_set ?_ (Nat.le_refl _))
end Go.Proofs.YtkpfhnogpcigaaaDoorR
/- The ops and their names as plain mathematics: which op is the first of its name, which bytes an instruction has. -/
namespace Go.Proofs.YtkpfhnogpcigaaaDoorR
open Go.RowKit

/-- A name's bytes. -/
def nmB (n : Nat) : List UInt8 := if spr (n / 16) = 0 then rowNmL.getD (n / 16) [] else splNmL.getD ((spr (n / 16) - 1) * 16 + n % 16) []
theorem nm_eq (n : Nat) : nm n = ⟨(nmB n).toArray⟩ := by unfold nm nmB rowNm splNm; split <;> rfl
theorem nm_inj {a b : Nat} (h : nm a = nm b) : nmB a = nmB b := by
  rw [nm_eq, nm_eq] at h
  have := congrArg (fun x : ByteArray => x.data.toList) h
  simpa using this

/-- How many bytes an op's instruction has. -/
def by1 (n : Nat) : Nat := lay (fm n * 3)
/-- The first op of an op's name. -/
def bs (n : Nat) : Nat := if fm n = 2 then (if n < 16 then 1 else n / 16 * 16) else if fm n = 3 then n / 8 * 8 + 1 else n

theorem fm_le (n : Nat) (h : n < 256) : 1 ≤ fm n ∧ fm n ≤ 6 := by revert n; decide +kernel
theorem by1_eq (n : Nat) (h : n < 256) : by1 n = if fm n ≤ 3 then 1 else if fm n ≤ 5 then 2 else 3 := by revert n; decide +kernel
theorem bs_ok (n : Nat) (h : n < 256) : bs n < 256 ∧ fm (bs n) = fm n ∧ nmB (bs n) = nmB n ∧ cyc (bs n) = cyc n := by revert n; decide +kernel
theorem bs_first : (List.range 256).all (fun n => (List.range (bs n)).all fun j => nmB j != nmB n) = true := by decide +kernel
theorem opOf_nm (n : Nat) (h : n < 256) : opOf (nm n) = some (bs n) := by
  have hb := bs_ok n h
  refine opOf_some hb.1 (by rw [nm_eq, nm_eq, hb.2.2.1]) fun m hm e => ?_
  have h1 := List.all_eq_true.1 (List.all_eq_true.1 bs_first n (List.mem_range.2 h)) m (List.mem_range.2 hm)
  rw [nm_inj e] at h1
  simp at h1
theorem held_bs (n : Nat) (h : n < 256) : (fm n = 2 → held (bs n) 2 ≤ held n 2 ∧ bs n + (held n 2 - held (bs n) 2) = n) ∧ (fm n = 3 → held (bs n) 3 ≤ held n 3 ∧ bs n + (held n 3 - held (bs n) 3) = n) ∧ (fm n ≠ 2 → fm n ≠ 3 → bs n = n) := by
  revert n; decide +kernel
end Go.Proofs.YtkpfhnogpcigaaaDoorR
/- code.Decode: what it returns of every row of bytes. -/
namespace Go.Proofs.YtkpfhnogpcigaaaDoorR
open Go.RowKit
set_option linter.unusedVariables false
set_option maxHeartbeats 400000

theorem idxS {P : Program} {t e : TypeId} {s g off len cap : Nat} (ht : P.underlying t = some (.slice e)) (hs : (P.info? e).map (·.size) = some s) (k : IntKind) (i : Nat) (w : World) (h : i < len) :
   (Instr.indexAt t (.slice (some ⟨g, off, none⟩) len cap) (.int k (i : Int))).run P w = .ok (.pointer (some ⟨g, off + i * s, none⟩)) w := by
  have e2 : P.elem t = e := by unfold Program.elem; rw [ht]
  rw [run_indexAt_slice _ _ _ _ _ _ _ (by rw [e2, ht]), e2, if_pos ⟨by omega, by omega⟩]
  obtain ⟨inf, hi, rfl⟩ := Option.map_eq_some_iff.1 hs
  have e3 : P.cellsOf e = inf.size := by unfold Program.cellsOf; rw [hi]; rfl
  rw [run_sizeOf _ hi, e3]
  have e4 : (⟨g, off, none⟩ : Addr).add (i * inf.size) = ⟨g, off + i * inf.size, none⟩ := by
    unfold Addr.add
    split
    · rename_i h0; rw [h0]; rfl
    · rfl
  simp [e4]
theorem word_any (h l : Int) (w : World) (h0 : 0 ≤ h) (h1 : h ≤ 255) (l0 : 0 ≤ l) (l1 : l ≤ 255) :
    Calls Tryd.prog 85 #[.int .u8 h, .int .u8 l] w fun e w' => e = .returned (.int .u16 (h * 256 + l)) ∧ w' = w := by
  have hj : bits .or .u16 (h * 256) l = h * 256 + l := bits_join .u16 16 (by decide) (fun n h0 h1 => by rw [IntKind.wrap_u16]; omega) 8 _ _ (by omega) (by omega) (by omega) l0 (by omega) (by omega)
  go_enter Tryd.func85, Tryd.ntmps85
  go_wp2
  go_ret
  exact ⟨rfl, rfl⟩

theorem own_size {v : World} {g j : Nat} {x : Value} (h : v.cell? ⟨g, j, none⟩ = some x) : g < v.heap.size := by
  rcases Nat.lt_or_ge g v.heap.size with h' | h'
  · exact h'
  · simp [World.cell?, Array.getElem?_eq_none h'] at h

theorem quiet2 {P : Program} {f : FuncId} {args : Array Value} {w : World} {k n : Nat} {v : Value} (h : Calls P f args (w.drewN (k + n)) fun e w' => e = .returned v ∧ w' = w.drewN (k + n)) : Calls P f args (w.drewN (k + n)) fun e w'' => e = .returned v ∧ ∃ m, w'' = w.drewN (k + m) :=
  h.mono fun _ _ ⟨he, hm⟩ => ⟨he, n, hm⟩

def instr0 : Value := .agg #[.string ⟨#[]⟩, .int .i64 0]
theorem dec_nil (w : World) (a : Option Addr) (cap : Nat) :
    Calls Tryd.prog 73 #[.slice a 0 cap] w fun e w' => e = .returned (.tuple #[instr0, .int .i64 0, .int .i64 22]) ∧ Below w.heap.size w w' := by
  go_enter Tryd.func73, Tryd.ntmps73
  go_wp2
  (try simp only [Exit.inBlock, Exit.then])
  refine bodyPost_ret (by simp [results, Tryd.results73, go_sem]; try rfl) rfl ?_
  refine ⟨rfl, ?_⟩
  repeat (first | exact Below.refl _ _ | refine below_set ?_ (Nat.le_refl _) | refine Below.alloc ?_ (Nat.le_refl _) _)

theorem dec_short (w : World) (T : Tabs w) (g off len cap n : Nat) (hn : Hid (n < 256)) (c0 : w.cell? ⟨g, off, none⟩ = some (.int .u8 n)) (hg : g < w.heap.size) (X : ByteArray) (F L c l : Nat) (hX : Hid (nm n = X)) (hF : Hid (fm n = F)) (hL : Hid (lay (fm n * 3) = L)) (hc : Hid (cyc n = c)) (hl : Hid (held n F = l)) (hlen : 1 ≤ len) (hsh : len < L) (hF6 : F ≤ 6) :
    Calls Tryd.prog 73 #[.slice (some ⟨g, off, none⟩) len cap] w fun e w' => e = .returned (.tuple #[instr0, .int .i64 0, .int .i64 22]) ∧ Below w.heap.size w w' := by
  have HB : Below w.heap.size w (w.alloc (.cells #[.string ⟨#[]⟩, .int .i64 0] 123)) := (Below.refl _ _).alloc (Nat.le_refl _) _
  have i0 : ∀ w, (Instr.indexAt 33 (.slice (some ⟨g, off, none⟩) len cap) (.int .i64 0)).run Tryd.prog w = .ok (.pointer (some ⟨g, off, none⟩)) w := fun w => idxS (g := g) (off := off) Tryd.underlying33 (s := 1) (by kernel_rfl) .i64 0 w (by omega)
  go_enter Tryd.func73, Tryd.ntmps73
  go_wp2_with (go_at_call 65; refine (info_of n X F L c hX hF hL hc _ (T.below HB) hn.out).mono ?_; rintro e v1 ⟨rfl, hb1⟩; have d0 : v1.cell? ⟨w.heap.size, 0, none⟩ = some (.string ⟨#[]⟩) := own_cell hb1 0; have d1 : v1.cell? ⟨w.heap.size, 1, none⟩ = some (.int .i64 0) := own_cell hb1 1; have f0 := own_frozen hb1 0; have f1 := own_frozen hb1 1; replace hb1 := below_own hb1; have c0' := (hb1.cell (p := ⟨g, off, none⟩) hg).trans c0; have hz : w.heap.size < v1.heap.size := own_size d0; have hg' : g < v1.heap.size := Nat.lt_trans hg hz)
  all_goals (try simp only [Exit.inBlock, Exit.then])
  all_goals refine bodyPost_ret (by simp [results, Tryd.results73, go_sem, d0, d1, hz]; try rfl) rfl ?_
  all_goals refine ⟨rfl, ?_⟩
  all_goals repeat (first | exact hb1 | refine below_set ?_ (Nat.le_refl _) | refine below_drewN ?_ | refine Below.alloc ?_ (Nat.le_of_lt hz) _ | refine Below.alloc ?_ (by simp; omega) _)

theorem dec_1 (w : World) (T : Tabs w) (g off len cap n : Nat) (hn : Hid (n < 256)) (c0 : w.cell? ⟨g, off, none⟩ = some (.int .u8 n)) (hg : g < w.heap.size) (X : ByteArray) (F c l : Nat) (hX : Hid (nm n = X)) (hF : Hid (fm n = F)) (hL : Hid (lay (fm n * 3) = 1)) (hc : Hid (cyc n = c)) (hl : Hid (held n F = l)) (hlen : 1 ≤ len) (hF6 : F ≤ 6) :
    Calls Tryd.prog 73 #[.slice (some ⟨g, off, none⟩) len cap] w fun e w' => e = .returned (.tuple #[.agg #[.string X, .int .i64 (l : Int)], .int .i64 1, .int .i64 0]) ∧ Below w.heap.size w w' := by
  have HB : Below w.heap.size w (w.alloc (.cells #[.string ⟨#[]⟩, .int .i64 0] 123)) := (Below.refl _ _).alloc (Nat.le_refl _) _
  have i0 : ∀ w, (Instr.indexAt 33 (.slice (some ⟨g, off, none⟩) len cap) (.int .i64 0)).run Tryd.prog w = .ok (.pointer (some ⟨g, off, none⟩)) w := fun w => idxS (g := g) (off := off) Tryd.underlying33 (s := 1) (by kernel_rfl) .i64 0 w (by omega)
  go_enter Tryd.func73, Tryd.ntmps73
  go_wp2_with (go_at_call 65; refine (info_of n X F 1 c hX hF hL hc _ (T.below HB) hn.out).mono ?_; rintro e v1 ⟨rfl, hb1⟩; have d0 : v1.cell? ⟨w.heap.size, 0, none⟩ = some (.string ⟨#[]⟩) := own_cell hb1 0; have d1 : v1.cell? ⟨w.heap.size, 1, none⟩ = some (.int .i64 0) := own_cell hb1 1; have f0 := own_frozen hb1 0; have f1 := own_frozen hb1 1; replace hb1 := below_own hb1; have c0' := (hb1.cell (p := ⟨g, off, none⟩) hg).trans c0; have hz : w.heap.size < v1.heap.size := own_size d0; have hg' : g < v1.heap.size := Nat.lt_trans hg hz)
  go_quiet ((first | (go_at_call 70; exact Calls.quiet_of_same (held_any n F _ hn.out hF6))))
  go_wp2
  go_region
  all_goals go_wp2
  all_goals (try simp only [Exit.inBlock, Exit.then])
  all_goals refine bodyPost_ret (by simp [results, Tryd.results73, go_sem, d0, d1, hz]; try rfl) rfl ?_
  all_goals refine ⟨by rw [← hl.out], ?_⟩
  all_goals repeat (first | exact hb1 | refine below_set ?_ (Nat.le_refl _) | refine below_drewN ?_ | refine Below.alloc ?_ (Nat.le_of_lt hz) _ | refine Below.alloc ?_ (by simp; omega) _)

theorem dec_2 (w : World) (T : Tabs w) (g off len cap n : Nat) (hn : Hid (n < 256)) (c0 : w.cell? ⟨g, off, none⟩ = some (.int .u8 n)) (hg : g < w.heap.size) (p : Nat) (hp : p < 256) (c1 : w.cell? ⟨g, off + 1, none⟩ = some (.int .u8 p)) (X : ByteArray) (F c l : Nat) (hX : Hid (nm n = X)) (hF : Hid (fm n = F)) (hL : Hid (lay (fm n * 3) = 2)) (hc : Hid (cyc n = c)) (hl : Hid (held n F = l)) (hlen : 2 ≤ len) (hF6 : F ≤ 6) :
    Calls Tryd.prog 73 #[.slice (some ⟨g, off, none⟩) len cap] w fun e w' => e = .returned (.tuple #[.agg #[.string X, .int .i64 (p : Int)], .int .i64 2, .int .i64 0]) ∧ Below w.heap.size w w' := by
  have HB : Below w.heap.size w (w.alloc (.cells #[.string ⟨#[]⟩, .int .i64 0] 123)) := (Below.refl _ _).alloc (Nat.le_refl _) _
  have i0 : ∀ w, (Instr.indexAt 33 (.slice (some ⟨g, off, none⟩) len cap) (.int .i64 0)).run Tryd.prog w = .ok (.pointer (some ⟨g, off, none⟩)) w := fun w => idxS (g := g) (off := off) Tryd.underlying33 (s := 1) (by kernel_rfl) .i64 0 w (by omega)
  have i1 : ∀ w, (Instr.indexAt 33 (.slice (some ⟨g, off, none⟩) len cap) (.int .i64 1)).run Tryd.prog w = .ok (.pointer (some ⟨g, off + 1, none⟩)) w := fun w => idxS (g := g) (off := off) Tryd.underlying33 (s := 1) (by kernel_rfl) .i64 1 w (by omega)
  go_enter Tryd.func73, Tryd.ntmps73
  go_wp2_with (go_at_call 65; refine (info_of n X F 2 c hX hF hL hc _ (T.below HB) hn.out).mono ?_; rintro e v1 ⟨rfl, hb1⟩; have d0 : v1.cell? ⟨w.heap.size, 0, none⟩ = some (.string ⟨#[]⟩) := own_cell hb1 0; have d1 : v1.cell? ⟨w.heap.size, 1, none⟩ = some (.int .i64 0) := own_cell hb1 1; have f0 := own_frozen hb1 0; have f1 := own_frozen hb1 1; replace hb1 := below_own hb1; have c0' := (hb1.cell (p := ⟨g, off, none⟩) hg).trans c0; have c1' := (hb1.cell (p := ⟨g, off + 1, none⟩) hg).trans c1; have hz : w.heap.size < v1.heap.size := own_size d0; have hg' : g < v1.heap.size := Nat.lt_trans hg hz)
  go_quiet ((first | (go_at_call 70; exact Calls.quiet_of_same (held_any n F _ hn.out hF6))))
  go_wp2
  go_region
  all_goals go_wp2
  all_goals (try simp only [Exit.inBlock, Exit.then])
  all_goals refine bodyPost_ret (by simp [results, Tryd.results73, go_sem, d0, d1, hz]; try rfl) rfl ?_
  all_goals refine ⟨rfl, ?_⟩
  all_goals repeat (first | exact hb1 | refine below_set ?_ (Nat.le_refl _) | refine below_drewN ?_ | refine Below.alloc ?_ (Nat.le_of_lt hz) _ | refine Below.alloc ?_ (by simp; omega) _)

theorem dec_3 (w : World) (T : Tabs w) (g off len cap n : Nat) (hn : Hid (n < 256)) (c0 : w.cell? ⟨g, off, none⟩ = some (.int .u8 n)) (hg : g < w.heap.size) (p q : Nat) (hp : p < 256) (hq : q < 256) (c1 : w.cell? ⟨g, off + 1, none⟩ = some (.int .u8 p)) (c2 : w.cell? ⟨g, off + 2, none⟩ = some (.int .u8 q)) (X : ByteArray) (F c l : Nat) (hX : Hid (nm n = X)) (hF : Hid (fm n = F)) (hL : Hid (lay (fm n * 3) = 3)) (hc : Hid (cyc n = c)) (hl : Hid (held n F = l)) (hlen : 3 ≤ len) (hF6 : F ≤ 6) :
    Calls Tryd.prog 73 #[.slice (some ⟨g, off, none⟩) len cap] w fun e w' => e = .returned (.tuple #[.agg #[.string X, .int .i64 ((p : Int) * 256 + q)], .int .i64 3, .int .i64 0]) ∧ Below w.heap.size w w' := by
  have HB : Below w.heap.size w (w.alloc (.cells #[.string ⟨#[]⟩, .int .i64 0] 123)) := (Below.refl _ _).alloc (Nat.le_refl _) _
  have i0 : ∀ w, (Instr.indexAt 33 (.slice (some ⟨g, off, none⟩) len cap) (.int .i64 0)).run Tryd.prog w = .ok (.pointer (some ⟨g, off, none⟩)) w := fun w => idxS (g := g) (off := off) Tryd.underlying33 (s := 1) (by kernel_rfl) .i64 0 w (by omega)
  have i1 : ∀ w, (Instr.indexAt 33 (.slice (some ⟨g, off, none⟩) len cap) (.int .i64 1)).run Tryd.prog w = .ok (.pointer (some ⟨g, off + 1, none⟩)) w := fun w => idxS (g := g) (off := off) Tryd.underlying33 (s := 1) (by kernel_rfl) .i64 1 w (by omega)
  have hw := fun v => word_any (p : Int) (q : Int) v (by omega) (by omega) (by omega) (by omega)
  have i2 : ∀ w, (Instr.indexAt 33 (.slice (some ⟨g, off, none⟩) len cap) (.int .i64 2)).run Tryd.prog w = .ok (.pointer (some ⟨g, off + 2, none⟩)) w := fun w => idxS (g := g) (off := off) Tryd.underlying33 (s := 1) (by kernel_rfl) .i64 2 w (by omega)
  go_enter Tryd.func73, Tryd.ntmps73
  go_wp2_with (go_at_call 65; refine (info_of n X F 3 c hX hF hL hc _ (T.below HB) hn.out).mono ?_; rintro e v1 ⟨rfl, hb1⟩; have d0 : v1.cell? ⟨w.heap.size, 0, none⟩ = some (.string ⟨#[]⟩) := own_cell hb1 0; have d1 : v1.cell? ⟨w.heap.size, 1, none⟩ = some (.int .i64 0) := own_cell hb1 1; have f0 := own_frozen hb1 0; have f1 := own_frozen hb1 1; replace hb1 := below_own hb1; have c0' := (hb1.cell (p := ⟨g, off, none⟩) hg).trans c0; have c1' := (hb1.cell (p := ⟨g, off + 1, none⟩) hg).trans c1; have c2' := (hb1.cell (p := ⟨g, off + 2, none⟩) hg).trans c2; have hz : w.heap.size < v1.heap.size := own_size d0; have hg' : g < v1.heap.size := Nat.lt_trans hg hz)
  go_quiet ((first | (go_at_call 70; exact Calls.quiet_of_same (held_any n F _ hn.out hF6))))
  go_wp2
  go_quiet ((first | (go_at_call 85; exact quiet2 (hw _))))
  go_wp2
  go_region
  all_goals go_wp2
  all_goals (try simp only [Exit.inBlock, Exit.then])
  all_goals refine bodyPost_ret (by simp [results, Tryd.results73, go_sem, d0, d1, hz]; try rfl) rfl ?_
  all_goals refine ⟨rfl, ?_⟩
  all_goals repeat (first | exact hb1 | refine below_set ?_ (Nat.le_refl _) | refine below_drewN ?_ | refine Below.alloc ?_ (Nat.le_of_lt hz) _ | refine Below.alloc ?_ (by simp; omega) _)

end Go.Proofs.YtkpfhnogpcigaaaDoorR
/- The document's answer: forms, bytes, names. -/
namespace Go.Proofs.YtkpfhnogpcigaaaDoorR
open Go.RowKit
set_option linter.unusedVariables false
set_option maxHeartbeats 1000000
set_option maxRecDepth 20000

theorem ret_u8 {a b : Int} (h : a = b) : Ending.returned (.int .u8 a) = .returned (.int .u8 b) := by rw [h]
theorem ret_i64 {a b : Int} (h : a = b) : Ending.returned (.int .i64 a) = .returned (.int .i64 b) := by rw [h]
theorem ret_bool {a b : Bool} (h : a = b) : Ending.returned (.bool a) = .returned (.bool b) := by rw [h]

/-- A form as the document tells it. -/
def rfmI (n : Int) : Int :=
  if n / 16 = 0 then (if n % 16 = 0 then 1 else 2)
  else if n / 16 = 3 then (if n % 16 = 8 then 1 else 5)
  else if n / 16 = 6 then (if n % 16 % 8 = 0 then 1 else 3)
  else if n / 16 = 7 then (if n % 16 = 12 ∨ n % 16 = 13 ∨ n % 16 = 15 then 4 else 1)
  else if n / 16 = 12 then (if n % 16 ≤ 3 ∨ 9 ≤ n % 16 ∧ n % 16 ≤ 11 then 6 else 1)
  else if n / 16 = 15 then (if 8 ≤ n % 16 ∧ n % 16 ≠ 14 then 4 else 1)
  else 2
theorem rfm_eq (n : Nat) (h : n < 256) : (fm n : Int) = rfmI n := by revert n; decide +kernel

theorem rform_any (n : Nat) (w : World) (h : n < 256) : Calls Tryd.prog 76 #[.int .u8 n] w fun e w' => e = .returned (.int .u8 (fm n : Nat)) ∧ w' = w := by
  rw [rfm_eq n h]
  generalize hN : (n : Int) = x
  have hx0 : 0 ≤ x := by omega
  have hx1 : x < 256 := by omega
  clear hN h
  clear n
  obtain ⟨r, hr⟩ : ∃ r, Hid (rfmI x = r) := ⟨_, (rfl : rfmI x = rfmI x)⟩
  rw [hr.out]
  go_enter Tryd.func76, Tryd.ntmps76
  go_wp2
  all_goals go_ret
  all_goals refine ⟨ret_u8 ?_, rfl⟩
  all_goals rw [← hr.out]
  all_goals (unfold rfmI; simp only [beq_iff_eq, beq_eq_false_iff_ne, bne_iff_ne, bne_eq_false_iff_eq] at *)
  all_goals ((repeat' split) <;> omega)

theorem rbytes_any (f : Nat) (w : World) (h1 : 1 ≤ f) (h : f ≤ 6) : Calls Tryd.prog 77 #[.int .u8 f] w fun e w' => e = .returned (.int .i64 (lay (f * 3) : Nat)) ∧ w' = w := by
  rcases (show f = 1 ∨ f = 2 ∨ f = 3 ∨ f = 4 ∨ f = 5 ∨ f = 6 by omega) with rfl | rfl | rfl | rfl | rfl | rfl
  all_goals
    go_enter Tryd.func77, Tryd.ntmps77
    go_wp2
    go_ret
    exact ⟨rfl, rfl⟩
/-- The names that the document tells, row by row. -/
def nlL : List (List (List UInt8)) := [[[76, 68, 78]], [[73, 78, 67]], [[68, 69, 67]], [[66, 82], [66, 81], [66, 90], [66, 68, 70], [66, 49], [66, 50], [66, 51], [66, 52], [83, 75, 80], [66, 78, 81], [66, 78, 90], [66, 78, 70], [66, 78, 49], [66, 78, 50], [66, 78, 51], [66, 78, 52]], [[76, 68, 65]], [[83, 84, 82]], [[73, 82, 88], [79, 85, 84], [79, 85, 84], [79, 85, 84], [79, 85, 84], [79, 85, 84], [79, 85, 84], [79, 85, 84], [78, 85, 76], [73, 78, 80], [73, 78, 80], [73, 78, 80], [73, 78, 80], [73, 78, 80], [73, 78, 80], [73, 78, 80]], [[82, 69, 84], [68, 73, 83], [76, 68, 88, 65], [83, 84, 88, 68], [65, 68, 67], [83, 68, 66], [83, 72, 82, 67], [83, 77, 66], [83, 65, 86], [77, 65, 82, 75], [82, 69, 81], [83, 69, 81], [65, 68, 67, 73], [83, 68, 66, 73], [83, 72, 76, 67], [83, 77, 66, 73]], [[71, 76, 79]], [[71, 72, 73]], [[80, 76, 79]], [[80, 72, 73]], [[76, 66, 82], [76, 66, 81], [76, 66, 90], [76, 66, 68, 70], [78, 79, 80], [76, 83, 78, 81], [76, 83, 78, 90], [76, 83, 78, 70], [76, 83, 75, 80], [76, 66, 78, 81], [76, 66, 78, 90], [76, 66, 78, 70], [76, 83, 73, 69], [76, 83, 81], [76, 83, 90], [76, 83, 68, 70]], [[83, 69, 80]], [[83, 69, 88]], [[76, 68, 88], [79, 82], [65, 78, 68], [88, 79, 82], [65, 68, 68], [83, 68], [83, 72, 82], [83, 77], [76, 68, 73], [79, 82, 73], [65, 78, 73], [88, 82, 73], [65, 68, 73], [83, 68, 73], [83, 72, 76], [83, 77, 73]]]
def nl (h : Nat) : List (List UInt8) := nlL.getD h []
theorem str_alloc (w : World) (l : List (List UInt8)) (j : Nat) (hj : j < l.length) : (w.alloc (.cells (l.map asStr).toArray 9)).cell? ⟨w.heap.size, j, none⟩ = some (asStr (l.getD j [])) := by
  rw [World.cell?_alloc_new]
  have := at_map l asStr [] j hj
  simpa using this
theorem rnames_any (h : Nat) (w : World) (hh : h < 16) : Calls Tryd.prog 86 #[.int .i64 h] w fun e w' => ∃ b, w.heap.size ≤ b ∧ e = .returned (.slice (some ⟨b, 0, none⟩) (nl h).length (nl h).length) ∧ (∀ j, j < (nl h).length → w'.cell? ⟨b, j, none⟩ = some (asStr ((nl h).getD j []))) ∧ Below w.heap.size w w' := by
  rcases (show h = 0 ∨ h = 1 ∨ h = 2 ∨ h = 3 ∨ h = 4 ∨ h = 5 ∨ h = 6 ∨ h = 7 ∨ h = 8 ∨ h = 9 ∨ h = 10 ∨ h = 11 ∨ h = 12 ∨ h = 13 ∨ h = 14 ∨ h = 15 by omega) with rfl | rfl | rfl | rfl | rfl | rfl | rfl | rfl | rfl | rfl | rfl | rfl | rfl | rfl | rfl | rfl
  all_goals
    go_enter Tryd.func86, Tryd.ntmps86
    go_wp2
    go_ret
    exact ⟨_, Nat.le_refl _, rfl, fun j hj => str_alloc w (nl _) j hj, (Below.refl _ _).alloc (Nat.le_refl _) _⟩

theorem nl_name (n : Nat) (h : n < 256) : n ≠ 0 → nmB n = (if (nl (n / 16)).length = 1 then (nl (n / 16)).getD 0 [] else (nl (n / 16)).getD (n % 16) []) ∧ ((nl (n / 16)).length = 1 ∨ (nl (n / 16)).length = 16) := by revert n; decide +kernel
theorem nm_idl : nm 0 = ⟨#[73, 68, 76]⟩ := by rw [nm_eq]; exact congrArg ByteArray.mk (by decide +kernel)

theorem rname_any (n : Nat) (w : World) (h : n < 256) : Calls Tryd.prog 78 #[.int .u8 n] w fun e w' => e = .returned (.string (nm n)) ∧ Below w.heap.size w w' := by
  by_cases h0 : n = 0
  · subst h0
    rw [nm_idl]
    go_enter Tryd.func78, Tryd.ntmps78
    go_wp2
    go_ret
    exact ⟨rfl, Below.refl _ _⟩
  · obtain ⟨hn, hlen⟩ := nl_name n h h0
    have hN := rnames_any (n / 16) w (by omega)
    obtain ⟨X, hX⟩ : ∃ X, Hid (nm n = X) := ⟨_, (rfl : nm n = nm n)⟩
    rw [hX.out]
    have h0' : ((n : Int) == 0) = false := by simp; omega
    rcases hlen with hl | hl
    · rw [hl] at hN
      rw [hl, if_pos rfl] at hn
      have hX' : asStr ((nl (n / 16)).getD 0 []) = .string X := by unfold asStr; rw [← hX.out, nm_eq, hn]
      simp only [Int.natCast_ediv, Int.cast_ofNat_Int] at hN
      go_enter Tryd.func78, Tryd.ntmps78
      go_wp2_with (go_at_call 86; refine hN.mono ?_; rintro e v1 ⟨b, hb, rfl, hc, hB⟩; have c0 := hc 0 (by decide); rw [hX'] at c0; clear hc; have i0 : ∀ w, (Instr.indexAt 45 (.slice (some ⟨b, 0, none⟩) 1 1) (.int .i64 0)).run Tryd.prog w = .ok (.pointer (some ⟨b, 0, none⟩)) w := fun w => idxS (g := b) (off := 0) Tryd.underlying45 (s := 1) (by kernel_rfl) .i64 0 w (by decide))
      go_ret
      exact ⟨rfl, hB⟩
    · rw [hl] at hN
      rw [hl, if_neg (by decide)] at hn
      have hX' : asStr ((nl (n / 16)).getD (n % 16) []) = .string X := by unfold asStr; rw [← hX.out, nm_eq, hn]
      simp only [Int.natCast_ediv, Int.cast_ofNat_Int] at hN
      go_enter Tryd.func78, Tryd.ntmps78
      go_wp2_with (go_at_call 86; refine hN.mono ?_; rintro e v1 ⟨b, hb, rfl, hc, hB⟩; have c0 := hc (n % 16) (by omega); rw [hX'] at c0; clear hc; have i0 := fun w => idxS (g := b) (off := 0) (len := 16) (cap := 16) Tryd.underlying45 (s := 1) (by kernel_rfl) .i64 (n % 16) w (by omega); simp only [Int.natCast_emod, Int.cast_ofNat_Int, Nat.zero_add, Nat.mul_one] at i0)
      go_ret
      exact ⟨rfl, hB⟩
end Go.Proofs.YtkpfhnogpcigaaaDoorR
/- code.Bus: what it returns of every op, in both cycles. -/
namespace Go.Proofs.YtkpfhnogpcigaaaDoorR
open Go.RowKit
set_option linter.unusedVariables false
set_option maxHeartbeats 400000

theorem low3' (m : Nat) (h : m < 16) : bits .and .u8 ((m : Nat) : Int) 7 = ((m % 8 : Nat) : Int) := by
  have : ∀ n : Nat, n < 16 → bits .and .u8 (n : Int) 7 = ((n % 8 : Nat) : Int) := by decide +kernel
  exact this m h
theorem rowUs_lt (i : Nat) (h : i < 16) : rowUs i < 12 := by revert i; decide +kernel
theorem splUs_lt (i : Nat) (h : i < 96) : splUs i < 12 := by revert i; decide +kernel

/-- The kind of use that an op has, by the program's tables. -/
def ku (n : Nat) : Nat := if spr (n / 16) = 0 then rowUs (n / 16) else splUs ((spr (n / 16) - 1) * 16 + n % 16)
def use0 : Value := .agg #[.int .u8 0, .bool false, .bool false, .bool false, .int .u8 0]

/-- What Bus says of an op, in its first cycle or its second. -/
def busV (n : Nat) (b : Bool) : Value :=
  if b = true ∧ n / 16 ≠ 12 then use0 else .agg #[.int .u8 (useN (ku n) : Nat), .bool (useR (ku n)), .bool (useW (ku n)), .bool (useO (ku n)), .int .u8 (if n / 16 = 6 then n % 8 else 0 : Nat)]
end Go.Proofs.YtkpfhnogpcigaaaDoorR
/- The document's answer: what an op does to the bus. -/
namespace Go.Proofs.YtkpfhnogpcigaaaDoorR
open Go.RowKit
set_option linter.unusedVariables false
set_option maxHeartbeats 2000000
set_option maxRecDepth 20000

theorem ret_u8' {a b : Int} (h : a = b) : Ending.returned (.int .u8 a) = .returned (.int .u8 b) := by rw [h]
theorem ret_bool' {a b : Bool} (h : a = b) : Ending.returned (.bool a) = .returned (.bool b) := by rw [h]

def rptI (n : Int) : Int :=
  if n / 16 = 0 then (if n % 16 = 0 then 4 else 0)
  else if n / 16 = 3 ∨ n / 16 = 12 then 2
  else if n / 16 = 6 then 1
  else if n / 16 = 7 then (if n % 16 = 9 then 3 else if 10 ≤ n % 16 then 2 else 1)
  else if n / 16 = 15 then (if 8 ≤ n % 16 then 2 else 1)
  else 0
theorem rpt_eq (n : Nat) (h : n < 256) : (useN (ku n) : Int) = rptI n := by revert n; decide +kernel
def rrdB (n : Int) : Bool :=
  if n / 16 = 0 ∨ n / 16 = 3 ∨ n / 16 = 4 ∨ n / 16 = 12 then true
  else if n / 16 = 6 then decide (n % 16 < 8)
  else if n / 16 = 7 then decide (n % 16 ≤ 2 ∨ n % 16 = 4 ∨ n % 16 = 5 ∨ n % 16 = 7 ∨ n % 16 = 12 ∨ n % 16 = 13 ∨ n % 16 = 15)
  else if n / 16 = 15 then decide (n % 16 ≠ 6 ∧ n % 16 ≠ 14)
  else false
theorem rrd_eq (n : Nat) (h : n < 256) : useR (ku n) = rrdB n := by revert n; decide +kernel
def rwrB (n : Int) : Bool := decide (n / 16 = 5 ∨ n / 16 = 6 ∧ 8 < n % 16 ∨ n / 16 = 7 ∧ (n % 16 = 3 ∨ n % 16 = 8 ∨ n % 16 = 9))
theorem rwr_eq (n : Nat) (h : n < 256) : useW (ku n) = rwrB n := by revert n; decide +kernel
theorem row_eq (n : Nat) (h : n < 256) : useO (ku n) = decide (useW (ku n) = true ∧ (n : Int) / 16 ≠ 6 ∨ 8 ≤ (n : Int) / 16 ∧ (n : Int) / 16 ≤ 11 ∨ (n : Int) / 16 = 13 ∨ (n : Int) / 16 = 14) := by revert n; decide +kernel
end Go.Proofs.YtkpfhnogpcigaaaDoorR
/- Blocks of the call's own, and what they hold while calls are made. -/
namespace Go.Proofs.YtkpfhnogpcigaaaDoorR
open Go.RowKit

/-- A block holds these cells. -/
def Holds (v : World) (a : Nat) (cs : Array Value) : Prop := ∀ j, j < cs.size → v.cell? ⟨a, j, none⟩ = cs[j]?
theorem holds_new {w v : World} {cs : Array Value} {t : TypeId} (hb : Below (w.alloc (.cells cs t)).heap.size (w.alloc (.cells cs t)) v) : Holds v w.heap.size cs := fun j _ => own_cell hb j
theorem Holds.mono {w v : World} {a : Nat} {cs : Array Value} (h : Holds w a cs) (hb : Below w.heap.size w v) : Holds v a cs := fun j hj => by
  have hc := h j hj
  rw [Array.getElem?_eq_getElem hj] at hc ⊢
  rw [hb.cell (p := ⟨a, j, none⟩) (own_size hc)]
  exact hc
theorem holds_alloc2 (w : World) (o : Obj) (cs : Array Value) (t : TypeId) : Holds ((w.alloc o).alloc (.cells cs t)) (w.heap.size + 1) cs := fun j _ => by
  simp

theorem tabs_alloc {w : World} (T : Tabs w) (o : Obj) : Tabs (w.alloc o) := T.below ((Below.refl _ _).alloc (Nat.le_refl _) _)

end Go.Proofs.YtkpfhnogpcigaaaDoorR
