/- What a row reads. -/
import Derived.Test.YtehnhjdjjalifaaGreatDoorQ9
namespace Go.Proofs.YtehnhjdjjalifaaGreatDoor
open Go Go.RowKit Go.Shelf
set_option linter.unusedVariables false
set_option maxHeartbeats 4000000
set_option maxRecDepth 20000

theorem World.cell_of_block {x y : World} {p : Addr} (h : y.heap[p.block]? = x.heap[p.block]?) : y.cell? p = x.cell? p := by unfold World.cell?; rw [h]
def cellR (i : Nat) : Nat := ([99, 0, 1, 2, 3, 4, 5, 6, 7, 8, 9, 10, 11, 12, 13, 14, 15, 16, 17, 18, 19, 20, 21, 22, 23, 24, 25, 26, 27, 28, 29, 30, 31, 34, 32, 32, 33] : List Nat).getD i 0
def valR (i : Nat) (f : List UInt8) : Value := ([undef, .int .u16 ((getN f : Nat) : Int), .int .u16 ((getN f : Nat) : Int), .int .u16 ((getN f : Nat) : Int), .int .u16 ((getN f : Nat) : Int), .int .u16 ((getN f : Nat) : Int), .int .u16 ((getN f : Nat) : Int), .int .u16 ((getN f : Nat) : Int), .int .u16 ((getN f : Nat) : Int), .int .u16 ((getN f : Nat) : Int), .int .u16 ((getN f : Nat) : Int), .int .u16 ((getN f : Nat) : Int), .int .u16 ((getN f : Nat) : Int), .int .u16 ((getN f : Nat) : Int), .int .u16 ((getN f : Nat) : Int), .int .u16 ((getN f : Nat) : Int), .int .u16 ((getN f : Nat) : Int), .int .u8 ((getN f : Nat) : Int), .bool (f.getD 0 0 == 1), .int .u8 ((getN f : Nat) : Int), .int .u8 ((getN f : Nat) : Int), .int .u8 ((getN f : Nat) : Int), .bool (f.getD 0 0 == 1), .bool (f.getD 0 0 == 1), .int .u8 ((getN f : Nat) : Int), .int .u8 ((getN f : Nat) : Int), .int .u8 ((getN f : Nat) : Int), .int .i64 ((getN f : Nat) : Int), .int .i64 ((getN f : Nat) : Int), .bool (f.getD 0 0 == 1), .int .i64 ((getN f : Nat) : Int), .int .u8 ((getN f : Nat) : Int), .bool (f.getD 0 0 == 1), .int .u64 ((getN f : Nat) : Int), undef, undef, undef] : List Value).getD i undef
def okR (i : Nat) (f : List UInt8) : Bool := ([f == [86, 83, 80, 49], true, true, true, true, true, true, true, true, true, true, true, true, true, true, true, true, true, Nat.ble (f.getD 0 0).toNat 1, true, true, true, Nat.ble (f.getD 0 0).toNat 1, Nat.ble (f.getD 0 0).toNat 1, true, true, true, true, true, Nat.ble (f.getD 0 0).toNat 1, true, true, Nat.ble (f.getD 0 0).toNat 1, true, true, true, true] : List Bool).getD i true
/-- What a row that is read leaves of the machine. -/
structure StpR (i : Nat) (f : List UInt8) (z : World) (M M' : Array Value) (w' : World) : Prop where
  size : M'.size = 35
  oth : ∀ j, j ≠ cellR i → M'[j]? = M[j]?
  num : 0 < i → i < 34 → M'[cellR i]? = some (valR i f)
  cnt : i = 34 → ∃ g, M'[32]? = some (.slice (some ⟨g, 0, none⟩) (getN f) (getN f))
  lst : 35 ≤ i → ∃ g, M'[cellR i]? = some (.slice (some ⟨g, 0, none⟩) f.length f.length) ∧ Bx w' g (rowL cB f).toArray 5 ∧ z.heap.size ≤ g
def RdR (i b : Nat) (f : List UInt8) (z : World) (M : Array Value) (w' : World) : Prop := ∃ M', Hid (Bx w' b M' 34 ∧ Sto b z w' ∧ StpR i f z M M' w')
theorem RdR.num {i b : Nat} {f : List UInt8} {z y : World} {M : Array Value} {w' : World} {e : Ending} {v : Value} (hM : M.size = 35) (hb : b < z.heap.size) (hy : Below z.heap.size z y) (H : LyE b M (cellR i) v y e w') (h0 : 0 < i) (h1 : i < 34) (hv : v = valR i f) (hc : cellR i < 35) : e = .returned (.tuple #[]) ∧ RdR i b f z M w' := by
  obtain ⟨e1, K⟩ := H
  refine ⟨e1, _, K.out.1, (Sto.of_below hy (Nat.le_of_lt hb)).trans K.out.2, by simpa using hM, fun j hj => ?_, fun _ _ => ?_, fun h => by omega, fun h => by omega⟩
  · exact Array.getElem?_setIfInBounds_ne (fun h => hj h.symm)
  · rw [Array.getElem?_setIfInBounds_self_of_lt (by rw [hM]; exact hc), hv]
theorem RdR.nul {b : Nat} {f : List UInt8} {z : World} {M : Array Value} (hM : M.size = 35) (hb : Bx z b M 34) : RdR 0 b f z M z := ⟨M, hb, Sto.refl b z, hM, fun _ _ => rfl, fun h => absurd h (by decide), fun h => by omega, fun h => by omega⟩
theorem getN1 (f : List UInt8) (h : f.length = 1) : getN f < 256 := by
  have := getN_lt f
  rw [h] at this
  exact this
theorem row_read (i : Nat) (hi : i < 37) (x : Rv) (z : World) (h : RwK i x z) (b : Nat) (M : Array Value) (hb : Bx z b M 34) (hM : M.size = 35) (sp : Option Addr) (cap n : Nat) (hn : n < 65536) (f : List UInt8) (hf : LB z sp f) (hlen : f.length = szR i n) (hsp : ∀ a, sp = some a → a.block < b) :
    (∀ args w, (callFunc x.kr args).run Tryz.prog w = .ok (.enter x.kr args) w) ∧ Calls Tryz.prog x.kr (#[.pointer (some ⟨b, 0, none⟩), .slice sp f.length cap] ++ x.cr) z fun e w' => e = .returned (.bool (okR i f)) ∧ RdR i b f z M w' := by
  have hbl := heap_lt hb
  have hyb : ∀ y, Below z.heap.size z y → Bx y b M 34 := fun y hy => (hy.block b hbl).trans hb
  rcases (show i = 0 ∨ i = 1 ∨ i = 2 ∨ i = 3 ∨ i = 4 ∨ i = 5 ∨ i = 6 ∨ i = 7 ∨ i = 8 ∨ i = 9 ∨ i = 10 ∨ i = 11 ∨ i = 12 ∨ i = 13 ∨ i = 14 ∨ i = 15 ∨ i = 16 ∨ i = 17 ∨ i = 18 ∨ i = 19 ∨ i = 20 ∨ i = 21 ∨ i = 22 ∨ i = 23 ∨ i = 24 ∨ i = 25 ∨ i = 26 ∨ i = 27 ∨ i = 28 ∨ i = 29 ∨ i = 30 ∨ i = 31 ∨ i = 32 ∨ i = 33 ∨ i = 34 ∨ i = 35 ∨ i = 36 by omega) with rfl | rfl | rfl | rfl | rfl | rfl | rfl | rfl | rfl | rfl | rfl | rfl | rfl | rfl | rfl | rfl | rfl | rfl | rfl | rfl | rfl | rfl | rfl | rfl | rfl | rfl | rfl | rfl | rfl | rfl | rfl | rfl | rfl | rfl | rfl | rfl | rfl
  · obtain ⟨bs, rfl, a⟩ : RwO x z := h
    refine ⟨(fun args w => ent21 89 (by decide) args w), (op_r z sp f.length cap f hf rfl (some ⟨b, 0, none⟩)).mono fun e w' h => ?_⟩
    obtain ⟨e1, e2⟩ := h
    exact ⟨e1, by rw [e2]; exact RdR.nul hM hb⟩
  · obtain ⟨bk, ⟨bs, bo, bl, rfl, a, bb, c⟩, d⟩ : RwReg 0 x z := h
    have hl : f.length = 2 := hlen
    rw [hl]
    refine ⟨(fun args w => ent21 93 (by decide) args w), nr_h z sp cap f hf hl b bl 35 #[.pointer (some ⟨bk, 0, none⟩)] c (fun args w => ent21 35 (by decide) args w) (RdR 1 b f z M) fun y hy => ?_⟩
    exact (ly_2 y b M (hyb y hy) hM bk 0 ((hy.block _ (heap_lt d)).trans d) (by decide) (getN f)).mono fun e w' H => RdR.num (i := 1) (f := f) hM hbl hy H (by decide) (by decide) rfl (by decide)
  · obtain ⟨bk, ⟨bs, bo, bl, rfl, a, bb, c⟩, d⟩ : RwReg 1 x z := h
    have hl : f.length = 2 := hlen
    rw [hl]
    refine ⟨(fun args w => ent21 93 (by decide) args w), nr_h z sp cap f hf hl b bl 35 #[.pointer (some ⟨bk, 0, none⟩)] c (fun args w => ent21 35 (by decide) args w) (RdR 2 b f z M) fun y hy => ?_⟩
    exact (ly_2 y b M (hyb y hy) hM bk 1 ((hy.block _ (heap_lt d)).trans d) (by decide) (getN f)).mono fun e w' H => RdR.num (i := 2) (f := f) hM hbl hy H (by decide) (by decide) rfl (by decide)
  · obtain ⟨bk, ⟨bs, bo, bl, rfl, a, bb, c⟩, d⟩ : RwReg 2 x z := h
    have hl : f.length = 2 := hlen
    rw [hl]
    refine ⟨(fun args w => ent21 93 (by decide) args w), nr_h z sp cap f hf hl b bl 35 #[.pointer (some ⟨bk, 0, none⟩)] c (fun args w => ent21 35 (by decide) args w) (RdR 3 b f z M) fun y hy => ?_⟩
    exact (ly_2 y b M (hyb y hy) hM bk 2 ((hy.block _ (heap_lt d)).trans d) (by decide) (getN f)).mono fun e w' H => RdR.num (i := 3) (f := f) hM hbl hy H (by decide) (by decide) rfl (by decide)
  · obtain ⟨bk, ⟨bs, bo, bl, rfl, a, bb, c⟩, d⟩ : RwReg 3 x z := h
    have hl : f.length = 2 := hlen
    rw [hl]
    refine ⟨(fun args w => ent21 93 (by decide) args w), nr_h z sp cap f hf hl b bl 35 #[.pointer (some ⟨bk, 0, none⟩)] c (fun args w => ent21 35 (by decide) args w) (RdR 4 b f z M) fun y hy => ?_⟩
    exact (ly_2 y b M (hyb y hy) hM bk 3 ((hy.block _ (heap_lt d)).trans d) (by decide) (getN f)).mono fun e w' H => RdR.num (i := 4) (f := f) hM hbl hy H (by decide) (by decide) rfl (by decide)
  · obtain ⟨bk, ⟨bs, bo, bl, rfl, a, bb, c⟩, d⟩ : RwReg 4 x z := h
    have hl : f.length = 2 := hlen
    rw [hl]
    refine ⟨(fun args w => ent21 93 (by decide) args w), nr_h z sp cap f hf hl b bl 35 #[.pointer (some ⟨bk, 0, none⟩)] c (fun args w => ent21 35 (by decide) args w) (RdR 5 b f z M) fun y hy => ?_⟩
    exact (ly_2 y b M (hyb y hy) hM bk 4 ((hy.block _ (heap_lt d)).trans d) (by decide) (getN f)).mono fun e w' H => RdR.num (i := 5) (f := f) hM hbl hy H (by decide) (by decide) rfl (by decide)
  · obtain ⟨bk, ⟨bs, bo, bl, rfl, a, bb, c⟩, d⟩ : RwReg 5 x z := h
    have hl : f.length = 2 := hlen
    rw [hl]
    refine ⟨(fun args w => ent21 93 (by decide) args w), nr_h z sp cap f hf hl b bl 35 #[.pointer (some ⟨bk, 0, none⟩)] c (fun args w => ent21 35 (by decide) args w) (RdR 6 b f z M) fun y hy => ?_⟩
    exact (ly_2 y b M (hyb y hy) hM bk 5 ((hy.block _ (heap_lt d)).trans d) (by decide) (getN f)).mono fun e w' H => RdR.num (i := 6) (f := f) hM hbl hy H (by decide) (by decide) rfl (by decide)
  · obtain ⟨bk, ⟨bs, bo, bl, rfl, a, bb, c⟩, d⟩ : RwReg 6 x z := h
    have hl : f.length = 2 := hlen
    rw [hl]
    refine ⟨(fun args w => ent21 93 (by decide) args w), nr_h z sp cap f hf hl b bl 35 #[.pointer (some ⟨bk, 0, none⟩)] c (fun args w => ent21 35 (by decide) args w) (RdR 7 b f z M) fun y hy => ?_⟩
    exact (ly_2 y b M (hyb y hy) hM bk 6 ((hy.block _ (heap_lt d)).trans d) (by decide) (getN f)).mono fun e w' H => RdR.num (i := 7) (f := f) hM hbl hy H (by decide) (by decide) rfl (by decide)
  · obtain ⟨bk, ⟨bs, bo, bl, rfl, a, bb, c⟩, d⟩ : RwReg 7 x z := h
    have hl : f.length = 2 := hlen
    rw [hl]
    refine ⟨(fun args w => ent21 93 (by decide) args w), nr_h z sp cap f hf hl b bl 35 #[.pointer (some ⟨bk, 0, none⟩)] c (fun args w => ent21 35 (by decide) args w) (RdR 8 b f z M) fun y hy => ?_⟩
    exact (ly_2 y b M (hyb y hy) hM bk 7 ((hy.block _ (heap_lt d)).trans d) (by decide) (getN f)).mono fun e w' H => RdR.num (i := 8) (f := f) hM hbl hy H (by decide) (by decide) rfl (by decide)
  · obtain ⟨bk, ⟨bs, bo, bl, rfl, a, bb, c⟩, d⟩ : RwReg 8 x z := h
    have hl : f.length = 2 := hlen
    rw [hl]
    refine ⟨(fun args w => ent21 93 (by decide) args w), nr_h z sp cap f hf hl b bl 35 #[.pointer (some ⟨bk, 0, none⟩)] c (fun args w => ent21 35 (by decide) args w) (RdR 9 b f z M) fun y hy => ?_⟩
    exact (ly_2 y b M (hyb y hy) hM bk 8 ((hy.block _ (heap_lt d)).trans d) (by decide) (getN f)).mono fun e w' H => RdR.num (i := 9) (f := f) hM hbl hy H (by decide) (by decide) rfl (by decide)
  · obtain ⟨bk, ⟨bs, bo, bl, rfl, a, bb, c⟩, d⟩ : RwReg 9 x z := h
    have hl : f.length = 2 := hlen
    rw [hl]
    refine ⟨(fun args w => ent21 93 (by decide) args w), nr_h z sp cap f hf hl b bl 35 #[.pointer (some ⟨bk, 0, none⟩)] c (fun args w => ent21 35 (by decide) args w) (RdR 10 b f z M) fun y hy => ?_⟩
    exact (ly_2 y b M (hyb y hy) hM bk 9 ((hy.block _ (heap_lt d)).trans d) (by decide) (getN f)).mono fun e w' H => RdR.num (i := 10) (f := f) hM hbl hy H (by decide) (by decide) rfl (by decide)
  · obtain ⟨bk, ⟨bs, bo, bl, rfl, a, bb, c⟩, d⟩ : RwReg 10 x z := h
    have hl : f.length = 2 := hlen
    rw [hl]
    refine ⟨(fun args w => ent21 93 (by decide) args w), nr_h z sp cap f hf hl b bl 35 #[.pointer (some ⟨bk, 0, none⟩)] c (fun args w => ent21 35 (by decide) args w) (RdR 11 b f z M) fun y hy => ?_⟩
    exact (ly_2 y b M (hyb y hy) hM bk 10 ((hy.block _ (heap_lt d)).trans d) (by decide) (getN f)).mono fun e w' H => RdR.num (i := 11) (f := f) hM hbl hy H (by decide) (by decide) rfl (by decide)
  · obtain ⟨bk, ⟨bs, bo, bl, rfl, a, bb, c⟩, d⟩ : RwReg 11 x z := h
    have hl : f.length = 2 := hlen
    rw [hl]
    refine ⟨(fun args w => ent21 93 (by decide) args w), nr_h z sp cap f hf hl b bl 35 #[.pointer (some ⟨bk, 0, none⟩)] c (fun args w => ent21 35 (by decide) args w) (RdR 12 b f z M) fun y hy => ?_⟩
    exact (ly_2 y b M (hyb y hy) hM bk 11 ((hy.block _ (heap_lt d)).trans d) (by decide) (getN f)).mono fun e w' H => RdR.num (i := 12) (f := f) hM hbl hy H (by decide) (by decide) rfl (by decide)
  · obtain ⟨bk, ⟨bs, bo, bl, rfl, a, bb, c⟩, d⟩ : RwReg 12 x z := h
    have hl : f.length = 2 := hlen
    rw [hl]
    refine ⟨(fun args w => ent21 93 (by decide) args w), nr_h z sp cap f hf hl b bl 35 #[.pointer (some ⟨bk, 0, none⟩)] c (fun args w => ent21 35 (by decide) args w) (RdR 13 b f z M) fun y hy => ?_⟩
    exact (ly_2 y b M (hyb y hy) hM bk 12 ((hy.block _ (heap_lt d)).trans d) (by decide) (getN f)).mono fun e w' H => RdR.num (i := 13) (f := f) hM hbl hy H (by decide) (by decide) rfl (by decide)
  · obtain ⟨bk, ⟨bs, bo, bl, rfl, a, bb, c⟩, d⟩ : RwReg 13 x z := h
    have hl : f.length = 2 := hlen
    rw [hl]
    refine ⟨(fun args w => ent21 93 (by decide) args w), nr_h z sp cap f hf hl b bl 35 #[.pointer (some ⟨bk, 0, none⟩)] c (fun args w => ent21 35 (by decide) args w) (RdR 14 b f z M) fun y hy => ?_⟩
    exact (ly_2 y b M (hyb y hy) hM bk 13 ((hy.block _ (heap_lt d)).trans d) (by decide) (getN f)).mono fun e w' H => RdR.num (i := 14) (f := f) hM hbl hy H (by decide) (by decide) rfl (by decide)
  · obtain ⟨bk, ⟨bs, bo, bl, rfl, a, bb, c⟩, d⟩ : RwReg 14 x z := h
    have hl : f.length = 2 := hlen
    rw [hl]
    refine ⟨(fun args w => ent21 93 (by decide) args w), nr_h z sp cap f hf hl b bl 35 #[.pointer (some ⟨bk, 0, none⟩)] c (fun args w => ent21 35 (by decide) args w) (RdR 15 b f z M) fun y hy => ?_⟩
    exact (ly_2 y b M (hyb y hy) hM bk 14 ((hy.block _ (heap_lt d)).trans d) (by decide) (getN f)).mono fun e w' H => RdR.num (i := 15) (f := f) hM hbl hy H (by decide) (by decide) rfl (by decide)
  · obtain ⟨bk, ⟨bs, bo, bl, rfl, a, bb, c⟩, d⟩ : RwReg 15 x z := h
    have hl : f.length = 2 := hlen
    rw [hl]
    refine ⟨(fun args w => ent21 93 (by decide) args w), nr_h z sp cap f hf hl b bl 35 #[.pointer (some ⟨bk, 0, none⟩)] c (fun args w => ent21 35 (by decide) args w) (RdR 16 b f z M) fun y hy => ?_⟩
    exact (ly_2 y b M (hyb y hy) hM bk 15 ((hy.block _ (heap_lt d)).trans d) (by decide) (getN f)).mono fun e w' H => RdR.num (i := 16) (f := f) hM hbl hy H (by decide) (by decide) rfl (by decide)
  · obtain ⟨bs, bo, bl, rfl, a, bb, c⟩ : RwG z x 1 96 77 37 98 78 38 #[] := h
    have hl : f.length = 1 := hlen
    rw [hl]
    refine ⟨(fun args w => ent21 98 (by decide) args w), nr_y z sp cap f hf hl b bl 38 #[] c (fun args w => ent21 38 (by decide) args w) (RdR 17 b f z M) fun y hy => ?_⟩
    exact (ly_4 y b M (hyb y hy) hM (getN f)).mono fun e w' H => RdR.num (i := 17) (f := f) hM hbl hy H (by decide) (by decide) rfl (by decide)
  · obtain ⟨bs, bo, bl, rfl, a, bb, c⟩ : RwG z x 1 100 41 40 101 80 41 #[] := h
    have hl : f.length = 1 := hlen
    rw [hl]
    obtain ⟨g, o, rfl⟩ := lb_some hf (by rw [hl]; decide)
    have hc := lb_at hf 0 (by rw [hl]; decide)
    rw [Nat.add_zero] at hc
    have hgb := hsp _ rfl
    refine ⟨(fun args w => ent21 101 (by decide) args w), nr_b z g o 1 cap (f.getD 0 0) hc (by show 0 < 1; decide) b bl 41 #[] c (fun args w => ent21 41 (by decide) args w) (RdR 18 b f z M) (fun y ⟨M', K⟩ => ?_) fun y hy => ?_⟩
    · exact (World.cell_of_block (K.out.2.1.oth g (Nat.ne_of_lt hgb) (World.block_lt_of_cell? z _ hc))).trans hc
    · exact (ly_6 y b M (hyb y hy) hM (f.getD 0 0 == 1)).mono fun e w' H => RdR.num (i := 18) (f := f) hM hbl hy H (by decide) (by decide) rfl (by decide)
  · obtain ⟨bs, bo, bl, rfl, a, bb, c⟩ : RwG z x 1 96 77 42 98 78 43 #[] := h
    have hl : f.length = 1 := hlen
    rw [hl]
    refine ⟨(fun args w => ent21 98 (by decide) args w), nr_y z sp cap f hf hl b bl 43 #[] c (fun args w => ent21 43 (by decide) args w) (RdR 19 b f z M) fun y hy => ?_⟩
    exact (ly_8 y b M (hyb y hy) hM (getN f)).mono fun e w' H => RdR.num (i := 19) (f := f) hM hbl hy H (by decide) (by decide) rfl (by decide)
  · obtain ⟨bs, bo, bl, rfl, a, bb, c⟩ : RwG z x 1 96 77 44 98 78 45 #[] := h
    have hl : f.length = 1 := hlen
    rw [hl]
    refine ⟨(fun args w => ent21 98 (by decide) args w), nr_y z sp cap f hf hl b bl 45 #[] c (fun args w => ent21 45 (by decide) args w) (RdR 20 b f z M) fun y hy => ?_⟩
    exact (ly_10 y b M (hyb y hy) hM (getN f)).mono fun e w' H => RdR.num (i := 20) (f := f) hM hbl hy H (by decide) (by decide) rfl (by decide)
  · obtain ⟨bs, bo, bl, rfl, a, bb, c⟩ : RwG z x 1 96 77 46 98 78 47 #[] := h
    have hl : f.length = 1 := hlen
    rw [hl]
    refine ⟨(fun args w => ent21 98 (by decide) args w), nr_y z sp cap f hf hl b bl 47 #[] c (fun args w => ent21 47 (by decide) args w) (RdR 21 b f z M) fun y hy => ?_⟩
    exact (ly_12 y b M (hyb y hy) hM (getN f)).mono fun e w' H => RdR.num (i := 21) (f := f) hM hbl hy H (by decide) (by decide) rfl (by decide)
  · obtain ⟨bs, bo, bl, rfl, a, bb, c⟩ : RwG z x 1 100 41 48 101 80 49 #[] := h
    have hl : f.length = 1 := hlen
    rw [hl]
    obtain ⟨g, o, rfl⟩ := lb_some hf (by rw [hl]; decide)
    have hc := lb_at hf 0 (by rw [hl]; decide)
    rw [Nat.add_zero] at hc
    have hgb := hsp _ rfl
    refine ⟨(fun args w => ent21 101 (by decide) args w), nr_b z g o 1 cap (f.getD 0 0) hc (by show 0 < 1; decide) b bl 49 #[] c (fun args w => ent21 49 (by decide) args w) (RdR 22 b f z M) (fun y ⟨M', K⟩ => ?_) fun y hy => ?_⟩
    · exact (World.cell_of_block (K.out.2.1.oth g (Nat.ne_of_lt hgb) (World.block_lt_of_cell? z _ hc))).trans hc
    · exact (ly_14 y b M (hyb y hy) hM (f.getD 0 0 == 1)).mono fun e w' H => RdR.num (i := 22) (f := f) hM hbl hy H (by decide) (by decide) rfl (by decide)
  · obtain ⟨bs, bo, bl, rfl, a, bb, c⟩ : RwG z x 1 100 41 50 101 80 51 #[] := h
    have hl : f.length = 1 := hlen
    rw [hl]
    obtain ⟨g, o, rfl⟩ := lb_some hf (by rw [hl]; decide)
    have hc := lb_at hf 0 (by rw [hl]; decide)
    rw [Nat.add_zero] at hc
    have hgb := hsp _ rfl
    refine ⟨(fun args w => ent21 101 (by decide) args w), nr_b z g o 1 cap (f.getD 0 0) hc (by show 0 < 1; decide) b bl 51 #[] c (fun args w => ent21 51 (by decide) args w) (RdR 23 b f z M) (fun y ⟨M', K⟩ => ?_) fun y hy => ?_⟩
    · exact (World.cell_of_block (K.out.2.1.oth g (Nat.ne_of_lt hgb) (World.block_lt_of_cell? z _ hc))).trans hc
    · exact (ly_16 y b M (hyb y hy) hM (f.getD 0 0 == 1)).mono fun e w' H => RdR.num (i := 23) (f := f) hM hbl hy H (by decide) (by decide) rfl (by decide)
  · obtain ⟨bs, bo, bl, rfl, a, bb, c⟩ : RwG z x 1 96 77 52 98 78 53 #[] := h
    have hl : f.length = 1 := hlen
    rw [hl]
    refine ⟨(fun args w => ent21 98 (by decide) args w), nr_y z sp cap f hf hl b bl 53 #[] c (fun args w => ent21 53 (by decide) args w) (RdR 24 b f z M) fun y hy => ?_⟩
    exact (ly_18 y b M (hyb y hy) hM (getN f)).mono fun e w' H => RdR.num (i := 24) (f := f) hM hbl hy H (by decide) (by decide) rfl (by decide)
  · obtain ⟨bs, bo, bl, rfl, a, bb, c⟩ : RwG z x 1 96 77 54 98 78 55 #[] := h
    have hl : f.length = 1 := hlen
    rw [hl]
    refine ⟨(fun args w => ent21 98 (by decide) args w), nr_y z sp cap f hf hl b bl 55 #[] c (fun args w => ent21 55 (by decide) args w) (RdR 25 b f z M) fun y hy => ?_⟩
    exact (ly_20 y b M (hyb y hy) hM (getN f)).mono fun e w' H => RdR.num (i := 25) (f := f) hM hbl hy H (by decide) (by decide) rfl (by decide)
  · obtain ⟨bs, bo, bl, rfl, a, bb, c⟩ : RwG z x 1 103 82 57 105 83 58 #[] := h
    have hl : f.length = 1 := hlen
    rw [hl]
    refine ⟨(fun args w => ent21 105 (by decide) args w), nr_p z sp cap f hf hl b bl 58 #[] c (fun args w => ent21 58 (by decide) args w) (RdR 26 b f z M) fun y hy => ?_⟩
    exact (ly_22 y b M (hyb y hy) hM (getN f)).mono fun e w' H => RdR.num (i := 26) (f := f) hM hbl hy H (by decide) (by decide) rfl (by decide)
  · obtain ⟨bs, bo, bl, rfl, a, bb, c⟩ : RwG z x 2 91 73 59 93 75 60 #[] := h
    have hl : f.length = 2 := hlen
    rw [hl]
    refine ⟨(fun args w => ent21 93 (by decide) args w), nr_h z sp cap f hf hl b bl 60 #[] c (fun args w => ent21 60 (by decide) args w) (RdR 27 b f z M) fun y hy => ?_⟩
    exact (ly_24 y b M (hyb y hy) hM (getN f) (by have := getN_lt f; rw [hl] at this; exact this)).mono fun e w' H => RdR.num (i := 27) (f := f) hM hbl hy H (by decide) (by decide) rfl (by decide)
  · obtain ⟨bs, bo, bl, rfl, a, bb, c⟩ : RwG z x 1 96 77 61 98 78 62 #[] := h
    have hl : f.length = 1 := hlen
    rw [hl]
    refine ⟨(fun args w => ent21 98 (by decide) args w), nr_y z sp cap f hf hl b bl 62 #[] c (fun args w => ent21 62 (by decide) args w) (RdR 28 b f z M) fun y hy => ?_⟩
    exact (ly_26 y b M (hyb y hy) hM (getN f) (getN1 f hl)).mono fun e w' H => RdR.num (i := 28) (f := f) hM hbl hy H (by decide) (by decide) rfl (by decide)
  · obtain ⟨bs, bo, bl, rfl, a, bb, c⟩ : RwG z x 1 100 41 63 101 80 64 #[] := h
    have hl : f.length = 1 := hlen
    rw [hl]
    obtain ⟨g, o, rfl⟩ := lb_some hf (by rw [hl]; decide)
    have hc := lb_at hf 0 (by rw [hl]; decide)
    rw [Nat.add_zero] at hc
    have hgb := hsp _ rfl
    refine ⟨(fun args w => ent21 101 (by decide) args w), nr_b z g o 1 cap (f.getD 0 0) hc (by show 0 < 1; decide) b bl 64 #[] c (fun args w => ent21 64 (by decide) args w) (RdR 29 b f z M) (fun y ⟨M', K⟩ => ?_) fun y hy => ?_⟩
    · exact (World.cell_of_block (K.out.2.1.oth g (Nat.ne_of_lt hgb) (World.block_lt_of_cell? z _ hc))).trans hc
    · exact (ly_28 y b M (hyb y hy) hM (f.getD 0 0 == 1)).mono fun e w' H => RdR.num (i := 29) (f := f) hM hbl hy H (by decide) (by decide) rfl (by decide)
  · obtain ⟨bs, bo, bl, rfl, a, bb, c⟩ : RwG z x 1 96 77 65 98 78 66 #[] := h
    have hl : f.length = 1 := hlen
    rw [hl]
    refine ⟨(fun args w => ent21 98 (by decide) args w), nr_y z sp cap f hf hl b bl 66 #[] c (fun args w => ent21 66 (by decide) args w) (RdR 30 b f z M) fun y hy => ?_⟩
    exact (ly_30 y b M (hyb y hy) hM (getN f) (getN1 f hl)).mono fun e w' H => RdR.num (i := 30) (f := f) hM hbl hy H (by decide) (by decide) rfl (by decide)
  · obtain ⟨bs, bo, bl, rfl, a, bb, c⟩ : RwG z x 1 96 77 67 98 78 68 #[] := h
    have hl : f.length = 1 := hlen
    rw [hl]
    refine ⟨(fun args w => ent21 98 (by decide) args w), nr_y z sp cap f hf hl b bl 68 #[] c (fun args w => ent21 68 (by decide) args w) (RdR 31 b f z M) fun y hy => ?_⟩
    exact (ly_32 y b M (hyb y hy) hM (getN f)).mono fun e w' H => RdR.num (i := 31) (f := f) hM hbl hy H (by decide) (by decide) rfl (by decide)
  · obtain ⟨bs, bo, bl, rfl, a, bb, c⟩ : RwG z x 1 100 41 69 101 80 70 #[] := h
    have hl : f.length = 1 := hlen
    rw [hl]
    obtain ⟨g, o, rfl⟩ := lb_some hf (by rw [hl]; decide)
    have hc := lb_at hf 0 (by rw [hl]; decide)
    rw [Nat.add_zero] at hc
    have hgb := hsp _ rfl
    refine ⟨(fun args w => ent21 101 (by decide) args w), nr_b z g o 1 cap (f.getD 0 0) hc (by show 0 < 1; decide) b bl 70 #[] c (fun args w => ent21 70 (by decide) args w) (RdR 32 b f z M) (fun y ⟨M', K⟩ => ?_) fun y hy => ?_⟩
    · exact (World.cell_of_block (K.out.2.1.oth g (Nat.ne_of_lt hgb) (World.block_lt_of_cell? z _ hc))).trans hc
    · exact (ly_34 y b M (hyb y hy) hM (f.getD 0 0 == 1)).mono fun e w' H => RdR.num (i := 32) (f := f) hM hbl hy H (by decide) (by decide) rfl (by decide)
  · obtain ⟨bs, bo, bl, rfl, a, bb, c⟩ : RwG z x 8 107 85 72 108 86 73 #[] := h
    have hl : f.length = 8 := hlen
    rw [hl]
    refine ⟨(fun args w => ent21 108 (by decide) args w), nr_q z sp cap f hf hl b bl 73 #[] c (fun args w => ent21 73 (by decide) args w) (RdR 33 b f z M) fun y hy => ?_⟩
    exact (ly_36 y b M (hyb y hy) hM (getN f)).mono fun e w' H => RdR.num (i := 33) (f := f) hM hbl hy H (by decide) (by decide) rfl (by decide)
  · obtain ⟨bs, bo, bl, rfl, a, bb, c⟩ : RwG z x 2 91 73 74 93 75 75 #[] := h
    have hl : f.length = 2 := hlen
    rw [hl]
    have h16 : getN f < 65536 := by
      have := getN_lt f
      rw [hl] at this
      exact this
    refine ⟨(fun args w => ent21 93 (by decide) args w), nr_h z sp cap f hf hl b bl 75 #[] c (fun args w => ent21 75 (by decide) args w) (RdR 34 b f z M) fun y hy => ?_⟩
    refine (ly_38 y b M (hyb y hy) hM (getN f) h16).mono fun e w' H => ?_
    obtain ⟨e1, K⟩ := H
    refine ⟨e1, _, K.out.1, (Sto.of_below hy (Nat.le_of_lt hbl)).trans K.out.2, by simpa using hM, fun j hj => ?_, fun _ h => by omega, fun _ => ⟨y.heap.size, ?_⟩, fun h => by omega⟩
    · exact Array.getElem?_setIfInBounds_ne (fun h => hj h.symm)
    · exact Array.getElem?_setIfInBounds_self_of_lt (by rw [hM]; decide)
  · obtain ⟨bo, bl, rfl, bb, c⟩ : RwL z x 77 #[] 78 79 := h
    have hl : f.length ≤ 100000 := by have e : szR 35 n = n := rfl; omega
    refine ⟨(fun args w => ent21 110 (by decide) args w), nr_l z sp cap f hf f.length rfl hl b bl 79 #[] c (fun args w => ent21 79 (by decide) args w) (RdR 35 b f z M) fun y g hy hg hx => ?_⟩
    refine (ly_41 y b M (hyb y hy) hM (some ⟨g, 0, none⟩) f.length f.length).mono fun e w' H => ?_
    obtain ⟨e1, K⟩ := H
    refine ⟨e1, _, K.out.1, (Sto.of_below hy (Nat.le_of_lt hbl)).trans K.out.2, by simpa using hM, fun j hj => ?_, fun _ h => by omega, fun h => by omega, fun _ => ⟨g, ?_, ?_, hg⟩⟩
    · exact Array.getElem?_setIfInBounds_ne (fun h => hj h.symm)
    · exact Array.getElem?_setIfInBounds_self_of_lt (by rw [hM]; decide)
    · exact (K.out.2.oth g (by omega) (heap_lt hx)).trans hx
  · obtain ⟨bs, ⟨bo, bl, rfl, bb, c⟩, a⟩ : RwM z x := h
    have hl : f.length ≤ 100000 := by have e : szR 36 n = 512 := rfl; omega
    refine ⟨(fun args w => ent21 110 (by decide) args w), nr_l z sp cap f hf f.length rfl hl b bl 82 #[] c (fun args w => ent21 82 (by decide) args w) (RdR 36 b f z M) fun y g hy hg hx => ?_⟩
    refine (ly_43 y b M (hyb y hy) hM (some ⟨g, 0, none⟩) f.length f.length).mono fun e w' H => ?_
    obtain ⟨e1, K⟩ := H
    refine ⟨e1, _, K.out.1, (Sto.of_below hy (Nat.le_of_lt hbl)).trans K.out.2, by simpa using hM, fun j hj => ?_, fun _ h => by omega, fun h => by omega, fun _ => ⟨g, ?_, ?_, hg⟩⟩
    · exact Array.getElem?_setIfInBounds_ne (fun h => hj h.symm)
    · exact Array.getElem?_setIfInBounds_self_of_lt (by rw [hM]; decide)
    · exact (K.out.2.oth g (by omega) (heap_lt hx)).trans hx
end Go.Proofs.YtehnhjdjjalifaaGreatDoor
