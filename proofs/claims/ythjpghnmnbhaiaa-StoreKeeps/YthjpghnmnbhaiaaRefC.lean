/- The document's store: New, Clone. -/
import Derived.Test.YthjpghnmnbhaiaaRefB
namespace Go.Proofs.Ythjpghnmnbhaiaa
open Go Go.RowKit
set_option linter.unusedVariables false
set_option maxHeartbeats 1000000
set_option maxRecDepth 20000

theorem rbytes_at (w : World) (sp : Option Addr) (len cap : Nat) (hlen : len ≤ 140000000000000) (Y : Nat → Int) (hY : Hid (Lies w sp len Y)) (x : World) (hx : Below w.heap.size w x) :
    Calls Try.prog 33 #[.slice sp len cap] x fun e w' => e = .returned (.slice (some ⟨x.heap.size, 0, none⟩) len len) ∧ Hid (Blk w' x.heap.size len Y ∧ Below x.heap.size x w') :=
  (rbytes_any x sp len cap hlen Y (hY.out.below hx)).mono fun e w' ⟨h1, h2⟩ => ⟨h1, h2⟩

theorem Blk.alloc {x : World} {g len : Nat} {Y : Nat → Int} (h : Blk x g len Y) (o : Obj) : Blk (x.alloc o) g len Y := h.below ((Below.refl _ _).alloc (Nat.le_refl _) o)
/-- The box laid over its two rows. -/
theorem ref_of {x : World} {m f : Nat} {S : St} (hm : Blk x m S.n S.ram) (hf : Blk x f 512 S.rom) (hne : m ≠ f) : Ref (x.alloc (.cells #[.slice (some ⟨m, 0, none⟩) S.n S.n, .slice (some ⟨f, 0, none⟩) 512 512, .bool S.on] 56)) x.heap.size m f S :=
  ⟨alloc_last' x _, hm.alloc _, hf.alloc _, hne⟩
theorem rnew_A {w v : World} {M : Array Value} {n : Nat} {Y : Nat → Int} (hm : Blk (w.alloc (.cells M 5)) w.heap.size n (fun _ => 0)) (hb : Blk v (w.alloc (.cells M 5)).drew.heap.size 512 Y ∧ Below (w.alloc (.cells M 5)).drew.heap.size (w.alloc (.cells M 5)).drew v) :
    w.heap.size ≤ v.heap.size ∧ w.heap.size ≤ w.heap.size + 1 ∧ Ref (v.alloc (.cells #[.slice (some ⟨w.heap.size, 0, none⟩) n n, .slice (some ⟨w.heap.size + 1, 0, none⟩) 512 512, .bool true] 56)) v.heap.size w.heap.size (w.heap.size + 1) { St.fresh n true with rom := Y } ∧ Below w.heap.size w (v.alloc (.cells #[.slice (some ⟨w.heap.size, 0, none⟩) n n, .slice (some ⟨w.heap.size + 1, 0, none⟩) 512 512, .bool true] 56)) := by
  have e : (w.alloc (.cells M 5)).drew.heap.size = w.heap.size + 1 := by show (w.alloc (.cells M 5)).heap.size = _; simp
  rw [e] at hb
  have B1 : Below w.heap.size w v := (below_drew ((Below.refl w.heap.size w).alloc (Nat.le_refl _) (.cells M 5))).trans (hb.2.mono (by omega))
  have hs := B1.size
  refine ⟨hs, by omega, ref_of (S := { St.fresh n true with rom := Y }) ?_ hb.1 (by omega), B1.alloc hs _⟩
  have h2 : Below (w.alloc (.cells M 5)).heap.size (w.alloc (.cells M 5)) v := by
    have : (w.alloc (.cells M 5)).heap.size = w.heap.size + 1 := by simp
    rw [this]
    exact ⟨hb.2.os, hb.2.tape, hb.2.output, hb.2.size, hb.2.block⟩
  exact hm.below h2
theorem rnew_B {w v : World} {M : Array Value} {n : Nat} {Y : Nat → Int} (hm : Blk (v.alloc (.cells M 5)) v.heap.size n (fun _ => 0)) (hb : Blk v w.drew.heap.size 512 Y ∧ Below w.drew.heap.size w.drew v) :
    w.heap.size ≤ v.heap.size + 1 ∧ w.heap.size ≤ v.heap.size ∧ w.heap.size ≤ w.heap.size ∧ Ref ((v.alloc (.cells M 5)).alloc (.cells #[.slice (some ⟨v.heap.size, 0, none⟩) n n, .slice (some ⟨w.heap.size, 0, none⟩) 512 512, .bool true] 56)) (v.heap.size + 1) v.heap.size w.heap.size { St.fresh n true with rom := Y } ∧ Below w.heap.size w ((v.alloc (.cells M 5)).alloc (.cells #[.slice (some ⟨v.heap.size, 0, none⟩) n n, .slice (some ⟨w.heap.size, 0, none⟩) 512 512, .bool true] 56)) := by
  have hb' : Blk v w.heap.size 512 Y := hb.1
  have B1 : Below w.heap.size w v := (below_drew (Below.refl w.heap.size w)).trans hb.2
  have hs := B1.size
  have hl := hb'.lt
  have e : (v.alloc (.cells M 5)).heap.size = v.heap.size + 1 := by simp
  have := ref_of (x := v.alloc (.cells M 5)) (m := v.heap.size) (f := w.heap.size) (S := { St.fresh n true with rom := Y }) hm (hb'.alloc _) (by omega)
  rw [e] at this
  exact ⟨by omega, hs, Nat.le_refl _, this, (B1.alloc hs _).alloc (by rw [e]; omega) _⟩

theorem rnew_some (w : World) (n : Nat) (h1 : 2048 ≤ n) (h2 : n ≤ 32768) (h3 : n % 2048 = 0) (sp : Option Addr) (cap : Nat) (Y : Nat → Int) (hY : Hid (Lies w sp 512 Y)) :
    Calls Try.prog 12 #[.int .i64 (n : Int), .slice sp 512 cap] w fun e w' => ∃ r m f, e = .returned (.tuple #[.pointer (some ⟨r, 0, none⟩), .int .i64 0]) ∧ w.heap.size ≤ r ∧ w.heap.size ≤ m ∧ w.heap.size ≤ f ∧ Ref w' r m f { St.fresh n true with rom := Y } ∧ Below w.heap.size w w' := by
  have hz := rsize_any w n
  have e : decide (2048 ≤ (n : Int) ∧ (n : Int) ≤ 32768 ∧ (n : Int).tmod 2048 = 0) = true := by
    rw [Int.tmod_eq_emod_of_nonneg (by omega)]; simp; omega
  rw [e] at hz
  have hmk : ∀ v, (Instr.makeSlice 23 (.int .i64 (n : Int)) (.int .i64 (n : Int))).run Try.prog v = .ok (.slice (some ⟨v.heap.size, 0, none⟩) n n) (v.alloc (.cells (madeCells #[.int .u8 0] n) 5)) := fun v => run_make_row' (P := Try.prog) 23 5 (.int .u8 0) 1 Try.underlying23 infoB rfl .i64 .i64 n (by omega) (by omega) v
  have hmb : Hid (∀ v : World, Blk (v.alloc (.cells (madeCells #[.int .u8 0] n) 5)) v.heap.size n (fun _ => 0)) := fun v => made_blk v n
  obtain ⟨M, hM⟩ : ∃ M, madeCells #[Value.int .u8 0] n = M := ⟨_, rfl⟩
  rw [hM] at hmk hmb
  clear hM e h1 h2 h3
  go_enter Try.func12, Try.ntmps12
  go_wp2_with (go_at_call 32; refine hz.mono ?_; rintro e w1 ⟨rfl, rfl⟩)
  go_region_with (go_at_call 33; refine (rbytes_at _ sp 512 cap (by decide) Y hY _ (by first | exact Below.refl _ _ | exact below_drew ((Below.refl _ _).alloc (Nat.le_refl _) _) | exact below_drew (Below.refl _ _) | exact (below_drew (Below.refl _ _)).alloc (Nat.le_refl _) _ | exact ((Below.refl _ _)).alloc (Nat.le_refl _) _)).mono ?_; rintro e v1 ⟨rfl, hb⟩)
  all_goals go_wp2
  · go_returns
    have q := rnew_A (hmb.out _) hb.out
    exact ⟨_, _, _, rfl, q.1, Nat.le_refl _, q.2.1, q.2.2⟩
  · go_returns
    have q := rnew_B (hmb.out _) hb.out
    exact ⟨_, _, _, rfl, q⟩

theorem rnew_size (w : World) (n : Int) (hn : ¬ (2048 ≤ n ∧ n ≤ 32768 ∧ n.tmod 2048 = 0)) (sp : Option Addr) (len cap : Nat) :
    Calls Try.prog 12 #[.int .i64 n, .slice sp len cap] w fun e w' => e = .returned (.tuple #[.pointer none, .int .i64 30]) ∧ w' = w := by
  have hz := rsize_any w n
  rw [decide_eq_false hn] at hz
  clear hn
  go_enter Try.func12, Try.ntmps12
  go_wp2_with (go_at_call 32; refine hz.mono ?_; rintro e w1 ⟨rfl, rfl⟩)
  go_returns
  exact ⟨rfl, rfl⟩
theorem rnew_rom (w : World) (n : Nat) (h1 : 2048 ≤ n) (h2 : n ≤ 32768) (h3 : n % 2048 = 0) (sp : Option Addr) (len cap : Nat) (hl : len ≠ 512) :
    Calls Try.prog 12 #[.int .i64 (n : Int), .slice sp len cap] w fun e w' => e = .returned (.tuple #[.pointer none, .int .i64 31]) ∧ w' = w := by
  have hz := rsize_any w n
  have e : decide (2048 ≤ (n : Int) ∧ (n : Int) ≤ 32768 ∧ (n : Int).tmod 2048 = 0) = true := by
    rw [Int.tmod_eq_emod_of_nonneg (by omega)]; simp; omega
  rw [e] at hz
  have h4 : ((len : Int) != 512) = true := by simp; omega
  clear h1 h2 h3 hl e
  go_enter Try.func12, Try.ntmps12
  go_wp2_with (go_at_call 32; refine hz.mono ?_; rintro e w1 ⟨rfl, rfl⟩)
  go_returns
  exact ⟨rfl, rfl⟩

end Go.Proofs.Ythjpghnmnbhaiaa
