/- The law's own ROM, and the document's example. -/
import Derived.Test.YthjpghnmnbhaiaaMake
namespace Go.Proofs.Ythjpghnmnbhaiaa
open Go Go.RowKit
set_option linter.unusedVariables false
set_option maxHeartbeats 1000000
set_option maxRecDepth 20000

theorem infoB : (Try.prog.info? 5).map (fun i => (i.zero, i.size, i.bytes)) = some (some (.int .u8 0), 1, 1) := by kernel_rfl
def romY (j : Nat) : Int := ((j % 251 : Nat) : Int)
theorem romY_ok (j : Nat) : 0 ≤ romY j ∧ romY j < 256 := by unfold romY; omega
/-- A block of bytes. -/
def Blk (x : World) (g len : Nat) (Y : Nat → Int) : Prop := ∃ cur, x.heap[g]? = some (.cells cur 5 (0, 0)) ∧ cur.size = len ∧ ∀ j, j < len → cur[j]? = some (.int .u8 (Y j))
theorem Blk.cell {x : World} {g len : Nat} {Y : Nat → Int} (h : Blk x g len Y) (j : Nat) (hj : j < len) : x.cell? ⟨g, j, none⟩ = some (.int .u8 (Y j)) := by
  obtain ⟨cur, h1, h2, h3⟩ := h
  rw [cell_heap h1]; exact h3 j hj
theorem Blk.lies {x : World} {g len : Nat} {Y : Nat → Int} (h : Blk x g len Y) : Lies x (some ⟨g, 0, none⟩) len Y := fun j hj => ⟨g, 0, rfl, by rw [Nat.zero_add]; exact h.cell j hj⟩
theorem Blk.frozen {x : World} {g len : Nat} {Y : Nat → Int} (h : Blk x g len Y) (j : Nat) : x.frozen? ⟨g, j, none⟩ = false := by
  obtain ⟨cur, h1, h2, h3⟩ := h
  exact frozen_heap h1 j
theorem Blk.lt {x : World} {g len : Nat} {Y : Nat → Int} (h : Blk x g len Y) : g < x.heap.size := by
  obtain ⟨cur, h1, h2, h3⟩ := h
  exact heap_lt h1
theorem Blk.keep {F : Nat → Prop} {x y : World} {g len : Nat} {Y : Nat → Int} (h : Blk x g len Y) (u : Upd F x y) (hF : ¬ F g) : Blk y g len Y := by
  obtain ⟨cur, h1, h2, h3⟩ := h
  exact ⟨cur, u.at h1 hF, h2, h3⟩
theorem Blk.below {x y : World} {g len : Nat} {Y : Nat → Int} (h : Blk x g len Y) (hb : Below x.heap.size x y) : Blk y g len Y := h.keep (F := fun _ => False) (Upd.of_below hb) fun h => h
theorem Blk.congr {x : World} {g len : Nat} {Y Z : Nat → Int} (h : Blk x g len Y) (e : ∀ j, j < len → Y j = Z j) : Blk x g len Z := by
  obtain ⟨cur, h1, h2, h3⟩ := h
  exact ⟨cur, h1, h2, fun j hj => by rw [h3 j hj, e j hj]⟩
theorem Blk.set {x : World} {g len : Nat} {Y : Nat → Int} (h : Blk x g len Y) (k : Nat) (hk : k < len) (b : Int) : Blk (x.setCell ⟨g, k, none⟩ (.int .u8 b)) g len (fun j => if j = k then b else Y j) := by
  obtain ⟨cur, h1, h2, h3⟩ := h
  refine ⟨_, heap_setCell_same x g k cur 5 (.int .u8 b) h1, by simpa using h2, fun j hj => ?_⟩
  by_cases e : j = k
  · subst e; simp [show j < cur.size by omega]
  · rw [Array.getElem?_setIfInBounds_ne (by omega), h3 j hj]; simp [e]
theorem made_blk (w : World) (n : Nat) : Blk (w.alloc (.cells (madeCells #[.int .u8 0] n) 5)) w.heap.size n (fun _ => 0) := by
  refine ⟨_, alloc_last' w _, by simp [size_madeCells], fun j hj => ?_⟩
  rw [Array.getElem?_eq_getElem (by simp [size_madeCells]; omega)]
  simp [madeCells, Nat.mod_one]

theorem rom_any (w : World) : Calls Try.prog 24 #[] w fun e w' => e = .returned (.slice (some ⟨w.heap.size, 0, none⟩) 512 512) ∧ Blk w' w.heap.size 512 romY ∧ Below w.heap.size w w' := by
  have hmk : ∀ v, (Instr.makeSlice 23 (.int .i64 512) (.int .i64 512)).run Try.prog v = .ok (.slice (some ⟨v.heap.size, 0, none⟩) 512 512) (v.alloc (.cells (madeCells #[.int .u8 0] 512) 5)) := fun v => run_make_row' (P := Try.prog) 23 5 (.int .u8 0) 1 Try.underlying23 infoB rfl .i64 .i64 512 (by decide) (by decide) v
  have hb0 := made_blk w 512
  obtain ⟨M, hM⟩ : ∃ M, madeCells #[Value.int .u8 0] 512 = M := ⟨_, rfl⟩
  rw [hM] at hmk hb0
  have hb0' : Hid (Blk (w.alloc (.cells M 5)) w.heap.size 512 (fun _ => 0)) := hb0
  have HB0 : Below w.heap.size w (w.alloc (.cells M 5)) := (Below.refl _ _).alloc (Nat.le_refl _) _
  clear hM hb0
  go_enter Try.func24, Try.ntmps24
  go_wp2
  go_loopw [2] (fun i wz => ∃ (k : Nat) (wx : World), wx = wz ∧ k ≤ 512 ∧ i = .int .i64 (k : Int) ∧ Hid (Blk wx w.heap.size 512 (fun j => if j < k then romY j else 0)) ∧ Below w.heap.size w wx) (fun i _ => (512 - intOf i).toNat)
  case atStart => exact ⟨0, _, rfl, by omega, rfl, (by simpa using hb0'.out : Blk _ _ _ _), HB0⟩
  case round =>
    clear hb0' HB0
    obtain ⟨k, wx, rfl, hk, rfl, hblk, HX⟩ := hrel
    by_cases hlt : k < 512
    · have c := hblk.out.cell k hlt
      have hfz := hblk.out.frozen k
      have ij := fun v => idxS (g := w.heap.size) (off := 0) (len := 512) (cap := 512) Try.underlying23 (s := 1) (by kernel_rfl) .i64 k v hlt
      simp only [Nat.zero_add, Nat.mul_one] at ij
      have e1 : (k : Int).tmod 251 = ((k % 251 : Nat) : Int) := by rw [Int.tmod_eq_emod_of_nonneg (by omega)]; omega
      have e2 : IntKind.u8.wrap ((k % 251 : Nat) : Int) = ((k % 251 : Nat) : Int) := by rw [IntKind.wrap_u8]; omega
      have hset : Hid (Blk (wx.setCell ⟨w.heap.size, k, none⟩ (.int .u8 ((k % 251 : Nat) : Int))) w.heap.size 512 (fun j => if j < k + 1 then romY j else 0)) := (hblk.out.set k hlt _).congr fun j _ => by
        by_cases e : j = k
        · subst e; simp [romY]
        · simp only [if_neg e]
          by_cases h : j < k
          · rw [if_pos h, if_pos (by omega)]
          · rw [if_neg h, if_neg (by omega)]
      obtain ⟨q, hq⟩ : ∃ q, k % 251 = q := ⟨_, rfl⟩
      obtain ⟨u, hu⟩ : ∃ u, (if k < k then romY k else 0) = u := ⟨_, rfl⟩
      rw [hu] at c
      rw [hq] at e1 e2 hset
      clear hu hq hblk hk
      have hlt' : (k : Int) < 512 := by omega
      have hltd : decide ((k : Int) < 512) = true := by simpa using hlt'
      go_wp2
      go_roundw
      case rel => exact ⟨k + 1, _, rfl, by omega, by simp, hset, below_set HX (Nat.le_refl _)⟩
      case measure => simp [intOf]; omega
    · have hke : k = 512 := by omega
      subst hke
      have fin : Hid (Blk wx w.heap.size 512 romY) := hblk.out.congr fun j hj => by simp [hj]
      clear hblk
      go_wp2
      go_ret
      exact ⟨rfl, fin.out, HX⟩

def S0 : St := { St.fresh 2048 true with rom := romY }
theorem St.fresh_ok {n : Nat} {b : Bool} {Y : Nat → Int} (h1 : 2048 ≤ n) (h2 : n ≤ 32768) (h3 : n % 2048 = 0) (hY : ∀ j, 0 ≤ Y j ∧ Y j < 256) : St.ok { St.fresh n b with rom := Y } := ⟨h1, h2, h3, fun _ => by simp [St.fresh], hY⟩
theorem St.ok.write {S : St} (ok : S.ok) {a : Nat} {b : Int} (hb : 0 ≤ b ∧ b < 256) : (S.write a b).ok := by
  rw [write_eq]
  split
  · exact ⟨ok.lo, ok.hi, ok.st, fun k => (by show 0 ≤ (if k = a then b else S.ram k) ∧ (if k = a then b else S.ram k) < 256; split <;> first | exact hb | exact ok.ram k), ok.rom⟩
  · exact ok
theorem St.ok.latch {S : St} (ok : S.ok) (b : Bool) : (S.latch b).ok := ⟨ok.lo, ok.hi, ok.st, ok.ram, ok.rom⟩
theorem S0_ok : S0.ok := St.fresh_ok (by decide) (by decide) (by decide) romY_ok
def S2 : St := (S0.latch false).write 5 7
theorem S2_ok : S2.ok := (S0_ok.latch false).write (by decide)
/-- A store stands so, and all that was there is as it was. -/
def Std (w x : World) (g : Nat) (S : St) : Prop := Sto x g S ∧ Below w.heap.size w x ∧ w.heap.size ≤ g
theorem Std.below {w x y : World} {g : Nat} {S : St} (h : Std w x g S) (hb : Below x.heap.size x y) : Std w y g S := ⟨h.1.keep (F := fun _ => False) (Upd.of_below hb) fun h => h, h.2.1.trans (hb.mono h.2.1.size), h.2.2⟩
theorem Std.drewN {w x : World} {g n : Nat} {S : St} (h : Std w x g S) : Std w (x.drewN n) g S := ⟨h.1, below_drewN h.2.1, h.2.2⟩
theorem Std.upd {w x y : World} {g : Nat} {S S' : St} (h : Std w x g S) (hs : Sto y g S') (u : Upd (· = g) x y) : Std w y g S' := ⟨hs, h.2.1.trans (u.below h.2.1.size fun k hk => by subst hk; exact h.2.2), h.2.2⟩
theorem std_read {w x : World} {g : Nat} {S : St} (ok : S.ok) (h : Hid (Std w x g S)) (a : Nat) (ha : a < 65536) (v : Int) (hv : S.read a = v) (i : Int) (hi : i = (a : Int)) :
    Calls Try.prog 29 #[.pointer (some ⟨g, 0, none⟩), .int .u16 i] x fun e y => e = .returned (.int .u8 v) ∧ Hid (Std w y g S) := by
  subst hv hi
  refine (read_any x g S ok h.out.1 a ha).mono ?_
  rintro e y ⟨rfl, k, rfl⟩
  exact ⟨rfl, h.out.drewN⟩

theorem awN (w : World) : ∀ (x : World) (g : Nat), Hid (Blk x g 512 romY) → Hid (Below w.heap.size w x) → Calls Try.prog 11 #[.int .i64 2048, .slice (some ⟨g, 0, none⟩) 512 512] x fun e y => e = .returned (.tuple #[.pointer (some ⟨x.heap.size, 0, none⟩), .int .i64 0]) ∧ Hid (Std w y x.heap.size S0) := fun x g h hb => by
    refine (new_some x 2048 (by decide) (by decide) (by decide) (some ⟨g, 0, none⟩) 512 romY h.out.lies).mono ?_
    rintro e y ⟨rfl, hs, hb2⟩
    exact ⟨rfl, hs, hb.out.trans (hb2.mono hb.out.size), hb.out.size⟩
theorem awR1 (w : World) : ∀ x g, Hid (Std w x g S0) → Calls Try.prog 29 #[.pointer (some ⟨g, 0, none⟩), .int .u16 300] x fun e y => e = .returned (.int .u8 49) ∧ Hid (Std w y g S0) := fun x g h => std_read S0_ok h 300 (by decide) 49 (by kernel_rfl) _ rfl
theorem awR2 (w : World) : ∀ x g, Hid (Std w x g S0) → Calls Try.prog 29 #[.pointer (some ⟨g, 0, none⟩), .int .u16 32769] x fun e y => e = .returned (.int .u8 1) ∧ Hid (Std w y g S0) := fun x g h => std_read S0_ok h 32769 (by decide) 1 (by kernel_rfl) _ rfl
theorem awL1 (w : World) : ∀ x g, Hid (Std w x g S0) → Calls Try.prog 22 #[.pointer (some ⟨g, 0, none⟩)] x fun e y => e = .returned (.bool true) ∧ Hid (Std w y g S0) := fun x g h => (latch_any x g S0 h.out.1).mono (by rintro e y ⟨rfl, rfl⟩; exact ⟨rfl, h⟩)
theorem awT1 (w : World) : ∀ x g, Hid (Std w x g S0) → Calls Try.prog 27 #[.pointer (some ⟨g, 0, none⟩), .bool false] x fun e y => (∃ v, e = .returned v) ∧ Hid (Std w y g (S0.latch false)) := fun x g h => (setLatch_any x g S0 h.out.1 false).mono (by rintro e y ⟨hv, hs, u⟩; exact ⟨hv, h.out.upd hs u⟩)
theorem awW1 (w : World) : ∀ x g, Hid (Std w x g (S0.latch false)) → Calls Try.prog 31 #[.pointer (some ⟨g, 0, none⟩), .int .u16 5, .int .u8 7] x fun e y => (∃ v, e = .returned v) ∧ Hid (Std w y g S2) := fun x g h => (write_any x g (S0.latch false) (S0_ok.latch false) h.out.1 5 (by decide) 7).mono (by rintro e y ⟨hv, hs, u⟩; exact ⟨hv, h.out.upd hs u⟩)
theorem awR3 (w : World) : ∀ x g, Hid (Std w x g S2) → Calls Try.prog 29 #[.pointer (some ⟨g, 0, none⟩), .int .u16 5] x fun e y => e = .returned (.int .u8 7) ∧ Hid (Std w y g S2) := fun x g h => std_read S2_ok h 5 (by decide) 7 (by kernel_rfl) _ rfl
theorem awR4 (w : World) : ∀ x g, Hid (Std w x g S2) → Calls Try.prog 29 #[.pointer (some ⟨g, 0, none⟩), .int .u16 2048] x fun e y => e = .returned (.int .u8 255) ∧ Hid (Std w y g S2) := fun x g h => std_read S2_ok h 2048 (by decide) 255 (by kernel_rfl) _ rfl
theorem awL2 (w : World) : ∀ x g, Hid (Std w x g S2) → Calls Try.prog 22 #[.pointer (some ⟨g, 0, none⟩)] x fun e y => e = .returned (.bool false) ∧ Hid (Std w y g S2) := fun x g h => (latch_any x g S2 h.out.1).mono (by rintro e y ⟨rfl, rfl⟩; exact ⟨rfl, h⟩)

end Go.Proofs.Ythjpghnmnbhaiaa
