/- An act's own box beside the two stores: what each call leaves. -/
import Derived.Test.YthjpghnmnbhaiaaBytes
import Derived.Test.YthjpghnmnbhaiaaReadsW
import Derived.Test.YthjpghnmnbhaiaaKeep
namespace Go.Proofs.Ythjpghnmnbhaiaa
open Go Go.RowKit
set_option linter.unusedVariables false
set_option maxHeartbeats 400000
set_option maxRecDepth 20000

theorem Upd.then {F G : Nat → Prop} {a b c : World} (h : Upd G a b) (k : Upd F b c) (hF : ∀ j, j < a.heap.size → F j → G j) : Upd G a c :=
  ⟨k.os.trans h.os, k.tape.trans h.tape, k.output.trans h.output, Nat.le_trans h.size k.size, fun j hj hG => (k.block j (Nat.lt_of_lt_of_le hj h.size) fun hf => hG (hF j hj hf)).trans (h.block j hj hG)⟩
/-- The two stores stand in y; the box laid at x's end holds C; what was there at x is as it was, but the stores. -/
structure Bx (w x : World) (C : Array Value) (g r m f : Nat) (S T : St) (y : World) : Prop where
  two : Two w y g r m f S T
  upd : Upd (Foot g r m f) x y
  box : ∀ i v, C[i]? = some v → y.cell? ⟨x.heap.size, i, none⟩ = some v
  lt : ∀ k, Foot g r m f k → k < x.heap.size
  lo : w.heap.size ≤ x.heap.size
  hi : x.heap.size < y.heap.size
theorem Bx.start {w x : World} {C : Array Value} {g r m f : Nat} {S T : St} (h : Two w x g r m f S T) : Bx w x C g r m f S T (x.alloc (.cells C 39)) :=
  ⟨h.below ((Below.refl _ _).alloc (Nat.le_refl _) _), Upd.of_below ((Below.refl _ _).alloc (Nat.le_refl _) _), fun i v hv => (World.cell?_alloc_new ..).trans hv, h.lt, h.low.size, by simp⟩
theorem Bx.goes {w x y z : World} {C : Array Value} {g r m f : Nat} {S T S' T' : St} (h : Bx w x C g r m f S T y) (k : Goes w y g r m f S' T' z) : Bx w x C g r m f S' T' z :=
  ⟨k.1, h.upd.then k.2 (fun _ _ h => h), fun i v hv => k.2.cell (p := ⟨x.heap.size, i, none⟩) (h.box i v hv) (fun e => by have : x.heap.size < x.heap.size := h.lt _ e; omega), h.lt, h.lo, Nat.lt_of_lt_of_le h.hi k.2.size⟩
theorem Bx.below {w x y z : World} {C : Array Value} {g r m f : Nat} {S T : St} (h : Bx w x C g r m f S T y) (k : Below y.heap.size y z) : Bx w x C g r m f S T z := h.goes ⟨h.two.below k, Upd.of_below k⟩
theorem Bx.other {w x y z : World} {C : Array Value} {g r m f b : Nat} {S T : St} (h : Bx w x C g r m f S T y) (hb : x.heap.size < b) (u : Upd (· = b) y z) : Bx w x C g r m f S T z := by
  have hlo := h.lo
  refine ⟨h.two.keep u (fun k hk => by omega) (fun k hk hf => by have := h.lt k hf; omega), h.upd.then u (fun j hj e => by omega), fun i v hv => u.cell (p := ⟨x.heap.size, i, none⟩) (h.box i v hv) (fun e => by have : x.heap.size = b := e; omega), h.lt, h.lo, Nat.lt_of_lt_of_le h.hi u.size⟩

section
variable (w x : World) (C : Array Value) (g r m f : Nat) (S T : St) (y : World) (K : Hid (Bx w x C g r m f S T y))
theorem b_write (K : Hid (Bx w x C g r m f S T y)) (a : Nat) (ha : a < 65536) (b : Int) (hb : 0 ≤ b ∧ b < 256) :
    Calls Try.prog 31 #[.pointer (some ⟨g, 0, none⟩), .int .u16 (a : Int), .int .u8 b] y fun e z => (∃ v, e = .returned v) ∧ Hid (Bx w x C g r m f (S.write a b) T z) :=
  (p_write w y g r m f S T K.out.two a ha b hb).mono fun e z ⟨h1, h2⟩ => ⟨h1, K.out.goes h2⟩
theorem b_rwrite (K : Hid (Bx w x C g r m f S T y)) (a : Nat) (ha : a < 65536) (b : Int) (hb : 0 ≤ b ∧ b < 256) :
    Calls Try.prog 35 #[.pointer (some ⟨r, 0, none⟩), .int .u16 (a : Int), .int .u8 b] y fun e z => (∃ v, e = .returned v) ∧ Hid (Bx w x C g r m f S (T.write a b) z) :=
  (p_rwrite w y g r m f S T K.out.two a ha b hb).mono fun e z ⟨h1, h2⟩ => ⟨h1, K.out.goes h2⟩
theorem b_setLatch (K : Hid (Bx w x C g r m f S T y)) (b : Bool) :
    Calls Try.prog 27 #[.pointer (some ⟨g, 0, none⟩), .bool b] y fun e z => (∃ v, e = .returned v) ∧ Hid (Bx w x C g r m f (S.latch b) T z) :=
  (p_setLatch w y g r m f S T K.out.two b).mono fun e z ⟨h1, h2⟩ => ⟨h1, K.out.goes h2⟩
theorem b_rsetLatch (K : Hid (Bx w x C g r m f S T y)) (b : Bool) :
    Calls Try.prog 28 #[.pointer (some ⟨r, 0, none⟩), .bool b] y fun e z => (∃ v, e = .returned v) ∧ Hid (Bx w x C g r m f S (T.latch b) z) :=
  (p_rsetLatch w y g r m f S T K.out.two b).mono fun e z ⟨h1, h2⟩ => ⟨h1, K.out.goes h2⟩
theorem b_latch (K : Hid (Bx w x C g r m f S T y)) :
    Calls Try.prog 22 #[.pointer (some ⟨g, 0, none⟩)] y fun e z => e = .returned (.bool S.on) ∧ Hid (Bx w x C g r m f S T z) :=
  (p_latch w y g r m f S T K.out.two).mono fun e z ⟨h1, h2⟩ => ⟨h1, K.out.goes h2⟩
theorem b_rlatch (K : Hid (Bx w x C g r m f S T y)) :
    Calls Try.prog 23 #[.pointer (some ⟨r, 0, none⟩)] y fun e z => e = .returned (.bool T.on) ∧ Hid (Bx w x C g r m f S T z) :=
  (p_rlatch w y g r m f S T K.out.two).mono fun e z ⟨h1, h2⟩ => ⟨h1, K.out.goes h2⟩
theorem b_ram (n : Nat) (hn : S.n = n) (K : Hid (Bx w x C g r m f S T y)) :
    Calls Try.prog 18 #[.pointer (some ⟨g, 0, none⟩)] y fun e z => ∃ b, e = .returned (.slice (some ⟨b, 0, none⟩) n n) ∧ Hid (Blk z b n S.ram ∧ y.heap.size ≤ b ∧ b < z.heap.size ∧ Bx w x C g r m f S T z ∧ Below y.heap.size y z) := by
  subst hn
  refine (ram_any y g S K.out.two.okS K.out.two.sto).mono ?_
  rintro e z ⟨rfl, hb, hB⟩
  exact ⟨_, rfl, hb, Nat.le_refl _, hb.lt, K.out.below hB, hB⟩
theorem b_rram (n : Nat) (hn : T.n = n) (K : Hid (Bx w x C g r m f S T y)) :
    Calls Try.prog 19 #[.pointer (some ⟨r, 0, none⟩)] y fun e z => ∃ b, e = .returned (.slice (some ⟨b, 0, none⟩) n n) ∧ Hid (Blk z b n T.ram ∧ y.heap.size ≤ b ∧ b < z.heap.size ∧ Bx w x C g r m f S T z ∧ Below y.heap.size y z) := by
  subst hn
  refine (rram_any y r m f T K.out.two.okT K.out.two.ref).mono ?_
  rintro e z ⟨rfl, hb, hB⟩
  exact ⟨_, rfl, hb, Nat.le_refl _, hb.lt, K.out.below hB, hB⟩
theorem b_rom (K : Hid (Bx w x C g r m f S T y)) :
    Calls Try.prog 20 #[.pointer (some ⟨g, 0, none⟩)] y fun e z => ∃ b, e = .returned (.slice (some ⟨b, 0, none⟩) 512 512) ∧ Hid (Blk z b 512 S.rom ∧ y.heap.size ≤ b ∧ b < z.heap.size ∧ Bx w x C g r m f S T z ∧ Below y.heap.size y z) := by
  refine (romm_any y g S K.out.two.sto).mono ?_
  rintro e z ⟨rfl, hb, hB⟩
  exact ⟨_, rfl, hb, Nat.le_refl _, hb.lt, K.out.below hB, hB⟩
theorem b_rrom (K : Hid (Bx w x C g r m f S T y)) :
    Calls Try.prog 21 #[.pointer (some ⟨r, 0, none⟩)] y fun e z => ∃ b, e = .returned (.slice (some ⟨b, 0, none⟩) 512 512) ∧ Hid (Blk z b 512 T.rom ∧ y.heap.size ≤ b ∧ b < z.heap.size ∧ Bx w x C g r m f S T z ∧ Below y.heap.size y z) := by
  refine (rrom_any y r m f T K.out.two.ref).mono ?_
  rintro e z ⟨rfl, hb, hB⟩
  exact ⟨_, rfl, hb, Nat.le_refl _, hb.lt, K.out.below hB, hB⟩
theorem b_bytes (n : Nat) (hn : n ≤ 32768) (Y : Nat → Int) (b1 b2 b3 : Nat) (K : Hid (Bx w x C g r m f S T y)) (L : Hid (Blk y b1 n Y ∧ Blk y b2 n Y ∧ Blk y b3 n Y ∧ x.heap.size < b1 ∧ b1 < b2 ∧ b2 < b3)) :
    Calls Try.prog 36 #[.slice (some ⟨b1, 0, none⟩) n n, .slice (some ⟨b2, 0, none⟩) n n, .slice (some ⟨b3, 0, none⟩) n n] y fun e z => e = .returned (.bool true) ∧ Hid (Bx w x C g r m f S T z) := by
  refine (bytes_any y b1 b2 b3 n hn Y L.out.1 L.out.2.1 L.out.2.2.1 (by have := L.out; omega) (by have := L.out; omega)).mono ?_
  rintro e z ⟨rfl, u⟩
  exact ⟨rfl, K.out.other L.out.2.2.2.1 u⟩
theorem b_lent (sp : Option Addr) (len cap : Nat) (hlen : len ≤ 2147483647) (Y : Nat → Int) (hR : Hid (Row w sp len Y)) (K : Hid (Bx w x C g r m f S T y)) :
    Calls Try.prog 10 #[.slice sp len cap] y fun e z => ∃ b, e = .returned (.slice (some ⟨b, 0, none⟩) len (len + 2)) ∧ Hid (Blk z b (len + 2) (lentY len Y) ∧ x.heap.size < b ∧ Bx w x C g r m f S T z) := by
  refine (lent_any y sp len cap hlen Y (hR.out.at K.out.two.low)).mono ?_
  rintro e z ⟨rfl, hb⟩
  exact ⟨_, rfl, hb.out.1, K.out.hi, K.out.below hb.out.2⟩
theorem b_lay (p : Int) (hp1 : -9223372036854775808 ≤ p) (hp2 : p ≤ 9223372036854775807) (len : Nat) (hlen : len ≤ maxLen) (Y : Nat → Int) (hb : ∀ j, 0 ≤ Y j ∧ Y j < 256) (b : Nat) (K : Hid (Blk y b (len + 2) (lentY len Y) ∧ x.heap.size < b ∧ Bx w x C g r m f S T y)) :
    Calls Try.prog 25 #[.pointer (some ⟨g, 0, none⟩), .int .i64 p, .slice (some ⟨b, 0, none⟩) len (len + 2)] y fun e z => e = .returned (.int .i64 (layE S.n p len)) ∧ Hid (Blk z b (len + 2) (lentY len Y) ∧ x.heap.size < b ∧ Bx w x C g r m f (S.layd p len Y) T z) := by
  refine (p_lay w y g r m f S T K.out.2.2.two p hp1 hp2 (some ⟨b, 0, none⟩) len (len + 2) hlen Y (fun j hj => ⟨b, 0, rfl, by rw [Nat.zero_add, K.out.1.cell j (by omega)]; unfold lentY; rw [if_pos hj]⟩ : Lies _ _ _ _) hb).mono ?_
  rintro e z ⟨rfl, k⟩
  exact ⟨rfl, K.out.1.keep k.out.2 (fun e => by have := K.out.2.2.lt _ e; have := K.out.2.1; omega), K.out.2.1, K.out.2.2.goes k.out⟩
theorem b_back (sp : Option Addr) (len cap : Nat) (hlen : len ≤ 2147483647) (Y : Nat → Int) (hR : Hid (Row w sp len Y)) (b : Nat) (K : Hid (Blk y b (len + 2) (lentY len Y) ∧ x.heap.size < b ∧ Bx w x C g r m f S T y)) :
    Calls Try.prog 13 #[.slice (some ⟨b, 0, none⟩) len (len + 2), .slice sp len cap] y fun e z => e = .returned (.bool true) ∧ Hid (Bx w x C g r m f S T z) := by
  refine (back_any y b sp len cap hlen Y (hR.out.at K.out.2.2.two.low) K.out.1).mono ?_
  rintro e z ⟨rfl, u⟩
  exact ⟨rfl, K.out.2.2.other K.out.2.1 u⟩
theorem b_rlay (p : Int) (hp1 : -9223372036854775808 ≤ p) (hp2 : p ≤ 9223372036854775807) (sp : Option Addr) (len cap : Nat) (hlen : len ≤ maxLen) (Y : Nat → Int) (hR : Hid (Row w sp len Y)) (K : Hid (Bx w x C g r m f S T y)) :
    Calls Try.prog 26 #[.pointer (some ⟨r, 0, none⟩), .int .i64 p, .slice sp len cap] y fun e z => e = .returned (.int .i64 (layE T.n p len)) ∧ Hid (Bx w x C g r m f S (T.layd p len Y) z) :=
  (p_rlay w y g r m f S T K.out.two p hp1 hp2 sp len cap hlen Y (hR.out.at K.out.two.low) hR.out.ok).mono fun e z ⟨h1, h2⟩ => ⟨h1, K.out.goes h2⟩
end
theorem quiet1D {P : Program} {f : FuncId} {args : Array Value} {w : World} {n : Nat} {v : Value} (h : Calls P f args (w.drewN n) fun e w' => e = .returned v ∧ ∃ j, w' = (w.drewN n).drewN j) : Calls P f args (w.drewN n) fun e w'' => e = .returned v ∧ ∃ m, w'' = w.drewN m :=
  h.mono fun _ _ ⟨he, j, hm⟩ => ⟨he, n + j, by rw [hm, World.drewN_drewN]⟩
theorem quiet1S {P : Program} {f : FuncId} {args : Array Value} {w : World} {n : Nat} {v : Value} (h : Calls P f args (w.drewN n) fun e w' => e = .returned v ∧ w' = w.drewN n) : Calls P f args (w.drewN n) fun e w'' => e = .returned v ∧ ∃ m, w'' = w.drewN m :=
  h.mono fun _ _ ⟨he, hm⟩ => ⟨he, n, hm⟩
end Go.Proofs.Ythjpghnmnbhaiaa
