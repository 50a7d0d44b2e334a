/- What the store's walks share: cells of blocks, what stays outside of a set of blocks, a store's bytes as plain functions. -/
import Derived.Test.YthjpghnmnbhaiaaRows
import Derived.Test.YthjpghnmnbhaiaaZero
import Derived.Below
import Derived.FnData
import Derived.WalkKit
import Derived.WalkSpells
import Derived.WalkLawsBesides
import Derived.ChangeKeysEq
import Derived.Deep.QuietTactic
import Derived.BigQuiet
import Derived.Deep.OwnRows
import Derived.Handy
import Derived.Laws.CopyOwn
import Derived.Laws.Rows
import Derived.OwnWalk
namespace Go.Proofs.Ythjpghnmnbhaiaa
open Go Go.RowKit
set_option maxHeartbeats 400000

theorem idx {P : Program} {t e : TypeId} {N s g off : Nat} (ht : P.underlying t = some (.array N e)) (hs : (P.info? e).map (·.size) = some s) (k : IntKind) (i : Nat) (w : World) (h : i < N) :
   (Instr.indexAt t (.pointer (some ⟨g, off, none⟩)) (.int k (i : Int))).run P w = .ok (.pointer (some ⟨g, off + i * s, none⟩)) w := by
  have e1 : P.arrayLen t = N := by unfold Program.arrayLen; rw [ht]
  have e2 : P.elem t = e := by unfold Program.elem; rw [ht]
  rw [run_indexAt_array _ _ _ _ _ (by rw [e1, e2, ht]), e1, e2, if_pos ⟨by omega, by omega⟩]
  obtain ⟨inf, hi, rfl⟩ := Option.map_eq_some_iff.1 hs
  have e3 : P.cellsOf e = inf.size := by unfold Program.cellsOf; rw [hi]; rfl
  rw [run_sizeOf _ hi, e3]
  have e4 : (⟨g, off, none⟩ : Addr).add (i * inf.size) = ⟨g, off + i * inf.size, none⟩ := by
    unfold Addr.add
    split
    · rename_i h0; rw [h0]; rfl
    · rfl
  simp [e4]
theorem idxS {P : Program} {t e : TypeId} {s g off len cap : Nat} (ht : P.underlying t = some (.slice e)) (hs : (P.info? e).map (·.size) = some s) (k : IntKind) (i : Nat) (w : World) (h : i < len) :
   (Instr.indexAt t (.slice (some ⟨g, off, none⟩) len cap) (.int k (i : Int))).run P w = .ok (.pointer (some ⟨g, off + i * s, none⟩)) w := by
  have e2 : P.elem t = e := by unfold Program.elem; rw [ht]
  rw [run_indexAt_slice _ _ _ _ _ _ _ (by rw [e2, ht]), e2, if_pos ⟨by omega, by omega⟩]
  obtain ⟨inf, hi, rfl⟩ := Option.map_eq_some_iff.1 hs
  have e3 : P.cellsOf e = inf.size := by unfold Program.cellsOf; rw [hi]; rfl
  rw [run_sizeOf _ hi, e3]
  have e4 : (⟨g, off, none⟩ : Addr).add (i * inf.size) = ⟨g, off + i * inf.size, none⟩ := by
    unfold Addr.add
    split
    · rename_i h0; rw [h0]; rfl
    · rfl
  simp [e4]
theorem addN (g off i : Nat) : (⟨g, off, none⟩ : Addr).add i = ⟨g, off + i, none⟩ := by unfold Addr.add; split <;> simp_all
theorem cell_heap {x : World} {b t : Nat} {cs : Array Value} (h : x.heap[b]? = some (.cells cs t (0, 0))) (j : Nat) : x.cell? ⟨b, j, none⟩ = cs[j]? := by unfold World.cell?; simp [h]
theorem frozen_heap {x : World} {b t : Nat} {cs : Array Value} (h : x.heap[b]? = some (.cells cs t (0, 0))) (j : Nat) : x.frozen? ⟨b, j, none⟩ = false := by unfold World.frozen?; simp [h]
theorem heap_lt {x : World} {b : Nat} {o : Obj} (h : x.heap[b]? = some o) : b < x.heap.size := (Array.getElem?_eq_some_iff.1 h).1
theorem alloc_last' (w : World) (o : Obj) : (w.alloc o).heap[w.heap.size]? = some o := by unfold World.alloc; simp
theorem own_size {v : World} {g j : Nat} {x : Value} (h : v.cell? ⟨g, j, none⟩ = some x) : g < v.heap.size := by
  rcases Nat.lt_or_ge g v.heap.size with h' | h'
  · exact h'
  · simp [World.cell?, Array.getElem?_eq_none h'] at h
theorem below_drewN {B : Nat} {a w : World} (h : Below B a w) {n : Nat} : Below B a (w.drewN n) := ⟨h.os, h.tape, h.output, h.size, h.block⟩
theorem below_set {B : Nat} {a w : World} (h : Below B a w) {g off : Nat} {u : Value} (hg : B ≤ g) : Below B a (w.setCell ⟨g, off, none⟩ u) := h.setCell (p := ⟨g, off, none⟩) hg u

/-- All blocks that were there are as they were, but those of F. -/
structure Upd (F : Nat → Prop) (w w' : World) : Prop where
  os : w'.os = w.os
  tape : w'.tape = w.tape
  output : w'.output = w.output
  size : w.heap.size ≤ w'.heap.size
  block : ∀ k, k < w.heap.size → ¬ F k → w'.heap[k]? = w.heap[k]?
theorem Upd.refl (F : Nat → Prop) (w : World) : Upd F w w := ⟨rfl, rfl, rfl, Nat.le_refl _, fun _ _ _ => rfl⟩
theorem Upd.trans {F : Nat → Prop} {a b c : World} (h : Upd F a b) (k : Upd F b c) : Upd F a c :=
  ⟨k.os.trans h.os, k.tape.trans h.tape, k.output.trans h.output, Nat.le_trans h.size k.size, fun j hj hF => (k.block j (Nat.lt_of_lt_of_le hj h.size) hF).trans (h.block j hj hF)⟩
theorem Upd.mono {F G : Nat → Prop} {a b : World} (h : Upd F a b) (hFG : ∀ k, F k → G k) : Upd G a b := ⟨h.os, h.tape, h.output, h.size, fun j hj hG => h.block j hj fun hF => hG (hFG j hF)⟩
theorem Upd.of_below {F : Nat → Prop} {a b : World} (h : Below a.heap.size a b) : Upd F a b := ⟨h.os, h.tape, h.output, h.size, fun j hj _ => h.block j hj⟩
theorem Upd.below {F : Nat → Prop} {a b : World} {B : Nat} (h : Upd F a b) (hB : B ≤ a.heap.size) (hF : ∀ k, F k → B ≤ k) : Below B a b :=
  ⟨h.os, h.tape, h.output, h.size, fun j hj => h.block j (Nat.lt_of_lt_of_le hj hB) fun hf => absurd (hF j hf) (by omega)⟩
theorem Upd.drewN {F : Nat → Prop} {a b : World} {n : Nat} (h : Upd F a b) : Upd F a (b.drewN n) := ⟨h.os, h.tape, h.output, h.size, h.block⟩
theorem Upd.of_drewN {F : Nat → Prop} {a b : World} {n : Nat} (h : Upd F (a.drewN n) b) : Upd F a b := ⟨h.os, h.tape, h.output, h.size, h.block⟩
theorem Upd.set {g j : Nat} {u : Value} (w : World) : Upd (· = g) w (w.setCell ⟨g, j, none⟩ u) :=
  ⟨rfl, rfl, rfl, by simp, fun k _ hk => heap_setCell_other w ⟨g, j, none⟩ k u hk⟩
theorem Upd.setRow {g : Nat} {cs : Array Value} (w : World) : Upd (· = g) w (w.setRow g cs) :=
  ⟨rfl, rfl, rfl, by simp, fun k _ hk => setRow_other w g k cs hk⟩
theorem Upd.at {F : Nat → Prop} {a b : World} (h : Upd F a b) {k : Nat} {o : Obj} (hk : a.heap[k]? = some o) (hF : ¬ F k) : b.heap[k]? = some o := (h.block k (heap_lt hk) hF).trans hk
theorem Upd.cell {F : Nat → Prop} {a b : World} (h : Upd F a b) {p : Addr} {v : Value} (hk : a.cell? p = some v) (hF : ¬ F p.block) : b.cell? p = some v :=
  (World.cell?_of_block (w := a) (h.block p.block (World.block_lt_of_cell? a p hk) hF)).trans hk

/-- A store's bytes, its size, the latch. -/
structure St where
  ram : Nat → Int
  n : Nat
  rom : Nat → Int
  on : Bool
structure St.ok (S : St) : Prop where
  lo : 2048 ≤ S.n
  hi : S.n ≤ 32768
  st : S.n % 2048 = 0
  ram : ∀ k, 0 ≤ S.ram k ∧ S.ram k < 256
  rom : ∀ k, 0 ≤ S.rom k ∧ S.rom k < 256
/-- The program's store. -/
structure Cel (C : Array Value) (S : St) : Prop where
  len : C.size = 33282
  ram : ∀ k, k < 32768 → C[k]? = some (.int .u8 (S.ram k))
  n : C[32768]? = some (.int .i64 (S.n : Int))
  rom : ∀ k, k < 512 → C[32769 + k]? = some (.int .u8 (S.rom k))
  on : C[33281]? = some (.bool S.on)
def Sto (w : World) (g : Nat) (S : St) : Prop := ∃ C, w.heap[g]? = some (.cells C 53 (0, 0)) ∧ Cel C S
theorem Sto.n {w : World} {g : Nat} {S : St} (h : Sto w g S) : w.cell? ⟨g, 32768, none⟩ = some (.int .i64 (S.n : Int)) := by
  obtain ⟨C, h1, h2⟩ := h
  rw [cell_heap h1]; exact h2.n
theorem Sto.on {w : World} {g : Nat} {S : St} (h : Sto w g S) : w.cell? ⟨g, 33281, none⟩ = some (.bool S.on) := by
  obtain ⟨C, h1, h2⟩ := h
  rw [cell_heap h1]; exact h2.on
theorem Sto.ram {w : World} {g : Nat} {S : St} (h : Sto w g S) (k : Nat) (hk : k < 32768) : w.cell? ⟨g, k, none⟩ = some (.int .u8 (S.ram k)) := by
  obtain ⟨C, h1, h2⟩ := h
  rw [cell_heap h1]; exact h2.ram k hk
theorem Sto.rom {w : World} {g : Nat} {S : St} (h : Sto w g S) (k : Nat) (hk : k < 512) : w.cell? ⟨g, 32769 + k, none⟩ = some (.int .u8 (S.rom k)) := by
  obtain ⟨C, h1, h2⟩ := h
  rw [cell_heap h1]; exact h2.rom k hk
theorem Sto.frozen {w : World} {g : Nat} {S : St} (h : Sto w g S) (k : Nat) : w.frozen? ⟨g, k, none⟩ = false := by
  obtain ⟨C, h1, h2⟩ := h
  exact frozen_heap h1 k
theorem Sto.lt {w : World} {g : Nat} {S : St} (h : Sto w g S) : g < w.heap.size := by
  obtain ⟨C, h1, h2⟩ := h
  exact heap_lt h1
theorem Sto.keep {F : Nat → Prop} {w w' : World} {g : Nat} {S : St} (h : Sto w g S) (u : Upd F w w') (hF : ¬ F g) : Sto w' g S := by
  obtain ⟨C, h1, h2⟩ := h
  exact ⟨C, u.at h1 hF, h2⟩
theorem Sto.drewN {w : World} {g n : Nat} {S : St} (h : Sto w g S) : Sto (w.drewN n) g S := h

/-- Where an address leads: the place, and which byte of it. -/
def leadP (S : St) (a : Nat) : Int := if 33280 ≤ a then 0 else if 32768 ≤ a then 2 else if S.on then 2 else if a < S.n then 1 else 0
def leadI (S : St) (a : Nat) : Nat := if 33280 ≤ a then 0 else if 32768 ≤ a then a - 32768 else if S.on then a % 512 else if a < S.n then a else 0
def St.read (S : St) (a : Nat) : Int := if 33280 ≤ a then 255 else if 32768 ≤ a then S.rom (a - 32768) else if S.on then S.rom (a % 512) else if a < S.n then S.ram a else 255
def St.write (S : St) (a : Nat) (b : Int) : St := if !S.on && decide (a < S.n) then { S with ram := fun k => if k = a then b else S.ram k } else S
def St.lay (S : St) (at_ : Nat) (len : Nat) (Y : Nat → Int) : St := { S with ram := fun k => if at_ ≤ k ∧ k < at_ + len then Y (k - at_) else S.ram k }
def St.latch (S : St) (b : Bool) : St := { S with on := b }
end Go.Proofs.Ythjpghnmnbhaiaa
