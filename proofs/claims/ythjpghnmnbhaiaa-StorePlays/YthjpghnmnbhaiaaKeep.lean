/- A store and what is wanted of its RAM, side by side. -/
import Derived.Test.YthjpghnmnbhaiaaVast
namespace Go.Proofs.Ythjpghnmnbhaiaa
open Go Go.RowKit
set_option linter.unusedVariables false
set_option maxHeartbeats 400000
set_option maxRecDepth 20000

/-- The store stands at S, the wanted bytes at T's RAM. -/
structure Kp (w x : World) (g wb : Nat) (S T : St) : Prop where
  sto : Sto x g S
  ok : S.ok
  want : Blk x wb S.n T.ram
  rom : ∀ k, k < 512 → S.rom k = romY k
  low : Below w.heap.size w x
  lg : w.heap.size ≤ g
  lw : w.heap.size ≤ wb
theorem Kp.ne {w x : World} {g wb : Nat} {S T : St} (h : Kp w x g wb S T) : g ≠ wb := by
  obtain ⟨C, h1, _⟩ := h.sto
  obtain ⟨cm, h2, _⟩ := h.want
  exact fun e => by subst e; rw [h1] at h2; simp at h2
theorem Kp.below {w x y : World} {g wb : Nat} {S T : St} (h : Kp w x g wb S T) (hb : Below x.heap.size x y) : Kp w y g wb S T :=
  ⟨h.sto.keep (F := fun _ => False) (Upd.of_below hb) fun h => h, h.ok, h.want.below hb, h.rom, h.low.trans (hb.mono h.low.size), h.lg, h.lw⟩
theorem Kp.drewN {w x : World} {g wb n : Nat} {S T : St} (h : Kp w x g wb S T) : Kp w (x.drewN n) g wb S T := h.below (below_drewN (Below.refl _ _))
theorem Kp.left {w x y : World} {g wb : Nat} {S T S' : St} (h : Kp w x g wb S T) (hs : Sto y g S') (u : Upd (· = g) x y) (ok : S'.ok) (hn : S'.n = S.n) (hr : S'.rom = S.rom) : Kp w y g wb S' T :=
  ⟨hs, ok, by rw [hn]; exact h.want.keep u (fun e => h.ne e.symm), fun k hk => by rw [hr]; exact h.rom k hk, h.low.trans (u.below h.low.size fun k hk => by subst hk; exact h.lg), h.lg, h.lw⟩
theorem Kp.right {w x y : World} {g wb : Nat} {S T T' : St} (h : Kp w x g wb S T) (hb : Blk y wb S.n T'.ram) (u : Upd (· = wb) x y) : Kp w y g wb S T' :=
  ⟨h.sto.keep u h.ne, h.ok, hb, h.rom, h.low.trans (u.below h.low.size fun k hk => by subst hk; exact h.lw), h.lg, h.lw⟩
def KGoes (w x : World) (g wb : Nat) (S T : St) (y : World) : Prop := Kp w y g wb S T ∧ Upd (· = g) x y
theorem layd_rom (S : St) (p : Int) (len : Nat) (Y : Nat → Int) : (S.layd p len Y).rom = S.rom := by unfold St.layd; split <;> rfl
theorem write_n (S : St) (a : Nat) (b : Int) : (S.write a b).n = S.n := by unfold St.write; split <;> rfl
theorem write_rom (S : St) (a : Nat) (b : Int) : (S.write a b).rom = S.rom := by unfold St.write; split <;> rfl
theorem k_lay (w x : World) (g wb : Nat) (S T : St) (h : Hid (Kp w x g wb S T)) (p : Int) (hp1 : -9223372036854775808 ≤ p) (hp2 : p ≤ 9223372036854775807) (sp : Option Addr) (len cap : Nat) (hlen : len ≤ maxLen) (Y : Nat → Int) (hY : Hid (Lies x sp len Y)) (hb : ∀ j, 0 ≤ Y j ∧ Y j < 256) :
    Calls Try.prog 25 #[.pointer (some ⟨g, 0, none⟩), .int .i64 p, .slice sp len cap] x fun e y => e = .returned (.int .i64 (layE S.n p len)) ∧ Hid (KGoes w x g wb (S.layd p len Y) T y) := by
  by_cases hc : 0 ≤ p ∧ p + len ≤ S.n
  · have e1 : layE S.n p len = 0 := if_pos hc
    have e2 : S.layd p len Y = S.lay p.toNat len Y := if_pos hc
    rw [e1, e2]
    obtain ⟨q, rfl⟩ := Int.eq_ofNat_of_zero_le hc.1
    refine (lay_some x g S h.out.ok h.out.sto q sp len cap (by omega) Y hY).mono ?_
    rintro e y ⟨rfl, hs, u⟩
    exact ⟨rfl, h.out.left hs u (h.out.ok.lay hb) rfl rfl, u⟩
  · have e1 : layE S.n p len = 32 := if_neg hc
    have e2 : S.layd p len Y = S := if_neg hc
    rw [e1, e2]
    refine (lay_none x g S h.out.ok h.out.sto p hp1 hp2 sp len cap hlen hc).mono ?_
    rintro e y ⟨rfl, rfl⟩
    exact ⟨rfl, h.out, Upd.refl _ _⟩
theorem k_write (w x : World) (g wb : Nat) (S T : St) (h : Hid (Kp w x g wb S T)) (a : Nat) (ha : a < 65536) (b : Int) (hb : 0 ≤ b ∧ b < 256) :
    Calls Try.prog 31 #[.pointer (some ⟨g, 0, none⟩), .int .u16 (a : Int), .int .u8 b] x fun e y => (∃ v, e = .returned v) ∧ Hid (KGoes w x g wb (S.write a b) T y) := by
  refine (write_any x g S h.out.ok h.out.sto a ha b).mono ?_
  rintro e y ⟨hv, hs, u⟩
  exact ⟨hv, h.out.left hs u (h.out.ok.write hb) (write_n ..) (write_rom ..), u⟩
theorem k_setLatch (w x : World) (g wb : Nat) (S T : St) (h : Hid (Kp w x g wb S T)) (b : Bool) :
    Calls Try.prog 27 #[.pointer (some ⟨g, 0, none⟩), .bool b] x fun e y => (∃ v, e = .returned v) ∧ Hid (KGoes w x g wb (S.latch b) T y) := by
  refine (setLatch_any x g S h.out.sto b).mono ?_
  rintro e y ⟨hv, hs, u⟩
  exact ⟨hv, h.out.left hs u (h.out.ok.latch b) rfl rfl, u⟩
theorem k_latch (w x : World) (g wb : Nat) (S T : St) (h : Hid (Kp w x g wb S T)) :
    Calls Try.prog 22 #[.pointer (some ⟨g, 0, none⟩)] x fun e y => e = .returned (.bool S.on) ∧ Hid (Kp w y g wb S T) := by
  refine (latch_any x g S h.out.sto).mono ?_
  rintro e y ⟨rfl, rfl⟩
  exact ⟨rfl, h⟩
theorem k_read (w x : World) (g wb : Nat) (S T : St) (h : Hid (Kp w x g wb S T)) (a : Nat) (ha : a < 65536) :
    Calls Try.prog 29 #[.pointer (some ⟨g, 0, none⟩), .int .u16 (a : Int)] x fun e y => e = .returned (.int .u8 (S.read a)) ∧ ∃ k, y = x.drewN k :=
  read_any x g S h.out.ok h.out.sto a ha
theorem k_ram (w x : World) (g wb : Nat) (S T : St) (n : Nat) (hn : S.n = n) (h : Hid (Kp w x g wb S T)) :
    Calls Try.prog 18 #[.pointer (some ⟨g, 0, none⟩)] x fun e y => ∃ b, e = .returned (.slice (some ⟨b, 0, none⟩) n n) ∧ Hid (Blk y b n S.ram ∧ Kp w y g wb S T) := by
  subst hn
  refine (ram_any x g S h.out.ok h.out.sto).mono ?_
  rintro e y ⟨rfl, hb, hB⟩
  exact ⟨_, rfl, hb, h.out.below hB⟩
theorem k_rom (w x : World) (g wb : Nat) (S T : St) (h : Hid (Kp w x g wb S T)) :
    Calls Try.prog 20 #[.pointer (some ⟨g, 0, none⟩)] x fun e y => ∃ b, e = .returned (.slice (some ⟨b, 0, none⟩) 512 512) ∧ Hid (Blk y b 512 romY ∧ Kp w y g wb S T) := by
  refine (romm_any x g S h.out.sto).mono ?_
  rintro e y ⟨rfl, hb, hB⟩
  exact ⟨_, rfl, hb.congr h.out.rom, h.out.below hB⟩
theorem k_mk (w x : World) (g wb b : Nat) (S T : St) (h : Hid (Blk x b 512 romY ∧ Kp w x g wb S T)) :
    Calls Try.prog 24 #[] x fun e y => ∃ c, e = .returned (.slice (some ⟨c, 0, none⟩) 512 512) ∧ Hid (Blk y b 512 romY ∧ Blk y c 512 romY ∧ Kp w y g wb S T) := by
  refine (rom_any x).mono ?_
  rintro e y ⟨rfl, hb, hB⟩
  exact ⟨_, rfl, h.out.1.below hB, hb, h.out.2.below hB⟩
theorem std_awake (w x : World) (g : Nat) (S : St) (K : Hid (Std w x g S)) : Calls Try.prog 8 #[] x fun e y => e = .returned (.bool true) ∧ Hid (Std w y g S) :=
  (awake_any x).mono fun e y ⟨h1, h2⟩ => ⟨h1, K.out.below h2⟩
theorem k_same (w x : World) (g wb b n : Nat) (S T : St) (Y : Nat → Int) (c : Nat) (hn : n ≤ 32768) (h : Hid (Blk x b n Y ∧ Blk x c n Y ∧ Kp w x g wb S T)) :
    Calls Try.prog 17 #[.slice (some ⟨b, 0, none⟩) n n, .slice (some ⟨c, 0, none⟩) n n] x fun e y => e = .returned (.bool true) ∧ Hid (Kp w y g wb S T) := by
  refine (same_true x (some ⟨b, 0, none⟩) (some ⟨c, 0, none⟩) n n n Y (by omega) h.out.1.lies h.out.2.1.lies).mono ?_
  rintro e y ⟨rfl, k, rfl⟩
  exact ⟨rfl, h.out.2.2.drewN⟩
theorem k_readv (w x : World) (g wb : Nat) (S T : St) (h : Hid (Kp w x g wb S T)) (a : Nat) (ha : a < 65536) (v : Int) (hv : S.read a = v) (i : Int) (hi : i = (a : Int)) :
    Calls Try.prog 29 #[.pointer (some ⟨g, 0, none⟩), .int .u16 i] x fun e y => e = .returned (.int .u8 v) ∧ Hid (Kp w y g wb S T) := by
  subst hv hi
  refine (read_any x g S h.out.ok h.out.sto a ha).mono ?_
  rintro e y ⟨rfl, k, rfl⟩
  exact ⟨rfl, h.out.drewN⟩
theorem box_keep {F : Nat → Prop} {x y : World} {C : Array Value} {t : TypeId} (hg : ∀ k, F k → k < x.heap.size) (u : Upd F (x.alloc (.cells C t)) y) (i : Nat) (v : Value) (h : C[i]? = some v) : y.cell? ⟨x.heap.size, i, none⟩ = some v :=
  u.cell (p := ⟨x.heap.size, i, none⟩) ((World.cell?_alloc_new ..).trans h) (fun e => by have := hg _ e; simp at this)
theorem Kp.lt {w x : World} {g wb : Nat} {S T : St} (h : Kp w x g wb S T) : ∀ k, k = g → k < x.heap.size := fun k hk => by subst hk; exact h.sto.lt
theorem quiet2D {P : Program} {f : FuncId} {args : Array Value} {w : World} {k n : Nat} {v : Value} (h : Calls P f args (w.drewN (k + n)) fun e w' => e = .returned v ∧ ∃ j, w' = (w.drewN (k + n)).drewN j) : Calls P f args (w.drewN (k + n)) fun e w'' => e = .returned v ∧ ∃ m, w'' = w.drewN (k + m) :=
  h.mono fun _ _ ⟨he, j, hm⟩ => ⟨he, n + j, by rw [hm, World.drewN_drewN, Nat.add_assoc]⟩
end Go.Proofs.Ythjpghnmnbhaiaa
