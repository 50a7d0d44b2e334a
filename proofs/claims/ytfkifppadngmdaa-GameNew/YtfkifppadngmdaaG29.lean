/- The statements' own awake; what the program's calls promise. -/
import Derived.Test.YtfkifppadngmdaaG28
namespace Go.Proofs.Ytfkifppadngmdaa
open Go Go.RowKit Go.Shelf
set_option linter.unusedVariables false
set_option maxHeartbeats 1000000
set_option maxRecDepth 20000

theorem GO.off {B : Nat} {w y : World} {C cs : Array Value} {g : Gm} {b : Nat} (h : GO B w C g) (hx : Bx w b cs 29) (hk : ∀ q, q ≠ b → y.heap[q]? = w.heap[q]?) : GO B y C g := by
  obtain ⟨⟨vS, vP, vM, e, h1, h2, h3, h4⟩, ok⟩ := h
  exact ⟨⟨vS, vP, vM, e, h1.keepB fun q hq => hk q (by obtain ⟨cs', k⟩ := h1.ty q hq; exact Bx.unlike k hx (by decide)), h2.keepB fun q hq => hk q (by obtain ⟨cs', k⟩ := h2.ty q hq; exact Bx.unlike k hx (by decide)), h3.keepB fun q hq => hk q (by obtain ⟨cs', k⟩ := h3.ty q hq; exact Bx.unlike k hx (by decide)), h4⟩, ok⟩
theorem GO.cells {B : Nat} {w : World} {C : Array Value} {g : Gm} (h : GO B w C g) : ∃ s1 c1 s2 c2, C[17]? = some (.int .u16 (g.pc : Int)) ∧ C[21]? = some (.slice s1 g.pg.length c1) ∧ C[22]? = some (.slice s2 g.me.length c2) := by
  obtain ⟨⟨vS, vP, vM, e, h1, h2, h3, h4⟩, ok⟩ := h
  obtain ⟨s1, c1, e1, _⟩ := OwnL.open kByte.len h2
  obtain ⟨s2, c2, e2, _⟩ := OwnL.open kByte.len h3
  exact ⟨s1, c1, s2, c2, by rw [e]; rfl, by rw [e, e1]; rfl, by rw [e, e2]; rfl⟩
theorem GO.regs {B : Nat} {w : World} {C : Array Value} {g : Gm} (h : GO B w C g) : C[1]? = some (.int .u8 ((g.v.getD 1 0).toNat : Int)) ∧ C[2]? = some (.int .u8 ((g.v.getD 2 0).toNat : Int)) ∧ C[15]? = some (.int .u8 ((g.v.getD 15 0).toNat : Int)) ∧ C[17]? = some (.int .u16 (g.pc : Int)) := by
  obtain ⟨⟨vS, vP, vM, e, h1, h2, h3, h4⟩, ok⟩ := h
  rw [e]
  exact ⟨rfl, rfl, rfl, rfl⟩
def awP : List UInt8 := [97, 5, 98, 255, 130, 20]
def fo0 : Fo := ⟨List.replicate 16 0, 0, []⟩
def fd0 : Fd := ⟨0, 0, -1⟩
def awG : Nat → Gm
  | 0 => newG awP
  | k + 1 => (stepG (awG k) fo0 fd0).1
theorem aw_done : ∀ k, k < 3 → (stepG (awG k) fo0 fd0).2.1 = 1 ∧ (stepG (awG k) fo0 fd0).2.2 = 0 := by
  have h : ((List.range 3).all fun k => (stepG (awG k) fo0 fd0).2.1 == 1 && (stepG (awG k) fo0 fd0).2.2 == 0) = true := by decide +kernel
  intro k hk
  have := List.all_eq_true.1 h k (List.mem_range.2 hk)
  simpa using this
theorem aw_may : ∀ k, k ≤ 3 → (awG k).may = true
  | 0, _ => by decide +kernel
  | k + 1, h => step_may _ _ _ (aw_may k (by omega)) (aw_done k (by omega)).2
theorem aw_end : (awG 3).v.getD 1 0 = 5 ∧ (awG 3).v.getD 2 0 = 4 ∧ (awG 3).v.getD 15 0 = 1 ∧ (awG 3).pc = 518 := by decide +kernel
theorem fo0_fl (w : World) : FL w #[.int .u16 0, .int .u16 0, .int .u16 0, .int .u16 0, .int .u16 0, .int .u16 0, .int .u16 0, .int .u16 0, .int .u16 0, .int .u16 0, .int .u16 0, .int .u16 0, .int .u16 0, .int .u16 0, .int .u16 0, .int .u16 0, .int .u16 0, .slice none 0 0] fo0 := ⟨⟨none, 0, rfl, fun j a h => by simp [fo0] at h⟩, rfl, by decide, by decide⟩
theorem may_small {g : Gm} (h : g.may = true) : smaG g fo0 := by
  have := may_iff.1 h
  unfold smaG
  show _ + _ + _ + 0 ≤ _
  omega
theorem builtF0 : Try.prog.built 42 [] = some #[.int .u16 0, .int .u16 0, .int .u16 0, .int .u16 0, .int .u16 0, .int .u16 0, .int .u16 0, .int .u16 0, .int .u16 0, .int .u16 0, .int .u16 0, .int .u16 0, .int .u16 0, .int .u16 0, .int .u16 0, .int .u16 0, .int .u16 0, .slice none 0 0] := by kernel_rfl
theorem builtD0 : Try.prog.built 44 [(2, .int .i64 (-1))] = some #[.int .u8 0, .int .u16 0, .int .i64 (-1)] := by kernel_rfl
theorem step_aw (y : World) (C : Array Value) (k : Nat) (hk : k < 3) (h : GL y C (awG k)) : Calls Try.prog 11 #[.agg C, .agg #[.int .u16 0, .int .u16 0, .int .u16 0, .int .u16 0, .int .u16 0, .int .u16 0, .int .u16 0, .int .u16 0, .int .u16 0, .int .u16 0, .int .u16 0, .int .u16 0, .int .u16 0, .int .u16 0, .int .u16 0, .int .u16 0, .int .u16 0, .slice none 0 0], .agg #[.int .u8 0, .int .u16 0, .int .i64 (-1)]] y fun e w' => ∃ C', e = .returned (.tuple #[.agg C', .int .u8 1, .int .i64 0]) ∧ GO y.heap.size w' C' (awG (k + 1)) ∧ Below y.heap.size y w' := by
  have := step_any y C #[.int .u16 0, .int .u16 0, .int .u16 0, .int .u16 0, .int .u16 0, .int .u16 0, .int .u16 0, .int .u16 0, .int .u16 0, .int .u16 0, .int .u16 0, .int .u16 0, .int .u16 0, .int .u16 0, .int .u16 0, .int .u16 0, .int .u16 0, .slice none 0 0] (awG k) fo0 fd0 h (fo0_fl y) ⟨by decide, by decide, by decide⟩ (may_small (aw_may k (by omega)))
  rw [(aw_done k hk).1, (aw_done k hk).2] at this
  exact this
theorem idxC (k : Nat) (b : Nat) (v : World) (h : k < 16) : (Instr.indexAt 25 (.pointer (some ⟨b, 0, none⟩)) (.int .i64 (k : Int))).run Try.prog v = .ok (.pointer (some ⟨b, k, none⟩)) v := idxV b .i64 k v h
theorem awake_any (w : World) : Calls Try.prog 4 #[] w fun e w' => e = .returned (.bool true) ∧ Below w.heap.size w w' := by
  have ix1 := fun b v => idxC 1 b v (by decide)
  have ix2 := fun b v => idxC 2 b v (by decide)
  have ix15 := fun b v => idxC 15 b v (by decide)
  rw [show ((1 : Nat) : Int) = 1 from rfl] at ix1
  rw [show ((2 : Nat) : Int) = 2 from rfl] at ix2
  rw [show ((15 : Nat) : Int) = 15 from rfl] at ix15
  go_enter Try.func4, Try.ntmps4
  go_wp2_with (first
    | ((with_reducible refine gen_world (w.alloc (.cells #[.int .u8 97, .int .u8 5, .int .u8 98, .int .u8 255, .int .u8 130, .int .u8 20] 5)) (fun y => LB y (some ⟨w.heap.size, 0, none⟩) awP ∧ Below w.heap.size w y) ?_ ?_); (exact ⟨lies_new kByte.len w 5 awP, below1 w _⟩); intro y0 K0)
    | (go_at_call 6; refine (new_fit y0 (some ⟨w.heap.size, 0, none⟩) 6 6 awP K0.out.1 rfl (by decide)).mono ?_; rintro e y1 ⟨C1, rfl, H1⟩; have K1 : Hid (GO w.heap.size y1 C1 (awG 0) ∧ Below w.heap.size w y1) := ⟨H1.out.1.weak K0.out.2.size, K0.out.2.trans (H1.out.2.mono K0.out.2.size)⟩; clear H1)
    | ((with_reducible refine gen_world (y1.alloc (.cells #[.int .u8 0, .int .u8 0, .int .u8 0, .int .u8 0, .int .u8 0, .int .u8 0, .int .u8 0, .int .u8 0, .int .u8 0, .int .u8 0, .int .u8 0, .int .u8 0, .int .u8 0, .int .u8 0, .int .u8 0, .int .u8 0, .int .u16 0, .int .u16 0, .slice none 0 0, .int .u8 0, .int .u8 0, .slice none 0 0, .slice none 0 0] 29)) (fun y => Bx y y1.heap.size #[.int .u8 0, .int .u8 0, .int .u8 0, .int .u8 0, .int .u8 0, .int .u8 0, .int .u8 0, .int .u8 0, .int .u8 0, .int .u8 0, .int .u8 0, .int .u8 0, .int .u8 0, .int .u8 0, .int .u8 0, .int .u8 0, .int .u16 0, .int .u16 0, .slice none 0 0, .int .u8 0, .int .u8 0, .slice none 0 0, .slice none 0 0] 29 ∧ GO w.heap.size y C1 (awG 0) ∧ Below w.heap.size w y ∧ w.heap.size ≤ y1.heap.size) ?_ ?_); (exact ⟨one_bxL y1 _ _, K1.out.1.below (below1 y1 _), K1.out.2.trans ((below1 y1 _).mono K1.out.2.size), K1.out.2.size⟩); intro y2 K2)
    | ((with_reducible refine at_st rtG y1.heap.size #[.int .u8 0, .int .u8 0, .int .u8 0, .int .u8 0, .int .u8 0, .int .u8 0, .int .u8 0, .int .u8 0, .int .u8 0, .int .u8 0, .int .u8 0, .int .u8 0, .int .u8 0, .int .u8 0, .int .u8 0, .int .u8 0, .int .u16 0, .int .u16 0, .slice none 0 0, .int .u8 0, .int .u8 0, .slice none 0 0, .slice none 0 0] C1 ?_ ?_ ?_ ?_ (.tmp 1) (.tmp 10) ?_ ?_ ?_ ?_ ?_); exact K2.out.1; rfl; exact K1.out.1.lies.size.1; exact K1.out.1.lies.size.2.1; rfl; rfl; rfl; rfl; intro y3 H3; have K3 : Hid (Bx y3 y1.heap.size C1 29 ∧ GO w.heap.size y3 C1 (awG 0) ∧ Below w.heap.size w y3 ∧ w.heap.size ≤ y1.heap.size) := ⟨H3.out.1, K2.out.2.1.off K2.out.1 H3.out.2.2, K2.out.2.2.1.trans (H3.out.2.1 _ K2.out.2.2.2), K2.out.2.2.2⟩; obtain ⟨bg, hbg⟩ : ∃ x, y1.heap.size = x := ⟨_, rfl⟩; rw [hbg] at K3; rw [hbg]; clear hbg K1 K2 H3; obtain ⟨s1, c1, s2, c2, d1, d2, d3⟩ := K3.out.2.1.cells; have c17 := K3.out.1.c 17 _ d1; have c21 := K3.out.1.c 21 _ d2; have c22 := K3.out.1.c 22 _ d3; rw [show (awG 0).pc = 512 from rfl] at c17; rw [show (awG 0).pg.length = 256 from by decide +kernel] at c21; rw [show (awG 0).me.length = 3232 from by decide +kernel] at c22; rw [show ((512 : Nat) : Int) = 512 from rfl] at c17; clear d1 d2 d3))
  clear c17 c21 c22
  go_loopw [3] (fun iv wz => ∃ (k : Nat) (u : World), u = wz ∧ k ≤ 3 ∧ iv = .int .i64 (k : Int) ∧ Hid (∃ C, Bx u bg C 29 ∧ GO w.heap.size u C (awG k) ∧ Below w.heap.size w u ∧ w.heap.size ≤ bg)) (fun iv _ => (3 - intOf iv).toNat)
  case atStart => exact ⟨0, y3, rfl, by decide, rfl, ⟨C1, K3.out⟩⟩
  case round =>
    obtain ⟨k, u, rfl, hk, rfl, K⟩ := hrel
    obtain ⟨C, K4⟩ := K.out
    replace K4 : Hid (Bx u bg C 29 ∧ GO w.heap.size u C (awG k) ∧ Below w.heap.size w u ∧ w.heap.size ≤ bg) := K4
    clear K
    by_cases hlt : k < 3
    · have q1 : decide ((k : Int) < 3) = true := by simp; omega
      have hs := step_aw u C k hlt K4.out.2.1.lies
      have hlt' : Hid (k < 3) := hlt
      have i1 : (k : Int) < 3 := by omega
      obtain ⟨kn, hkn⟩ : ∃ x, k + 1 = x := ⟨_, rfl⟩
      have q2 : (k : Int) + 1 = (kn : Int) := by omega
      have i2 : (kn : Int) ≤ 3 := by omega
      have hkn' : Hid (k + 1 = kn) := hkn
      rw [hkn] at hs
      clear hk hlt hkn
      go_wp2_with (first
        | ((with_reducible refine at_load rtG bg C ?_ ?_ (.tmp 1) ?_ ?_ ?_ ?_); exact K4.out.1; exact K4.out.2.1.lies.size.1; kernel_rfl; rfl; rfl)
        | ((with_reducible refine at_bu #[] [] #[.int .u16 0, .int .u16 0, .int .u16 0, .int .u16 0, .int .u16 0, .int .u16 0, .int .u16 0, .int .u16 0, .int .u16 0, .int .u16 0, .int .u16 0, .int .u16 0, .int .u16 0, .int .u16 0, .int .u16 0, .int .u16 0, .int .u16 0, .slice none 0 0] ?_ ?_ ?_ builtF0 ?_); kernel_rfl; rfl; rfl)
        | ((with_reducible refine at_bu #[(2, .const (.int .i64 (-1)))] [(2, .int .i64 (-1))] #[.int .u8 0, .int .u16 0, .int .i64 (-1)] ?_ ?_ ?_ builtD0 ?_); kernel_rfl; rfl; kernel_rfl)
        | (go_at_call 11; refine hs.mono ?_; rintro e y5 ⟨C5, rfl, H5, H5b⟩; have K5 : Hid (Bx y5 bg C 29 ∧ GO w.heap.size y5 C5 (awG kn) ∧ Below w.heap.size w y5 ∧ bg < y5.heap.size) := ⟨(H5b.block bg (heap_lt K4.out.1)).trans K4.out.1, H5.weak K4.out.2.2.1.size, K4.out.2.2.1.trans (H5b.mono K4.out.2.2.1.size), Nat.lt_of_lt_of_le (heap_lt K4.out.1) H5b.size⟩; clear H5 H5b)
        | ((with_reducible refine gen_world (y5.alloc (.cells #[.int .u8 0, .int .u8 0, .int .u8 0, .int .u8 0, .int .u8 0, .int .u8 0, .int .u8 0, .int .u8 0, .int .u8 0, .int .u8 0, .int .u8 0, .int .u8 0, .int .u8 0, .int .u8 0, .int .u8 0, .int .u8 0, .int .u16 0, .int .u16 0, .slice none 0 0, .int .u8 0, .int .u8 0, .slice none 0 0, .slice none 0 0] 29)) (fun y => Bx y bg C 29 ∧ GO w.heap.size y C5 (awG kn) ∧ Below w.heap.size w y ∧ Bx y y5.heap.size #[.int .u8 0, .int .u8 0, .int .u8 0, .int .u8 0, .int .u8 0, .int .u8 0, .int .u8 0, .int .u8 0, .int .u8 0, .int .u8 0, .int .u8 0, .int .u8 0, .int .u8 0, .int .u8 0, .int .u8 0, .int .u8 0, .int .u16 0, .int .u16 0, .slice none 0 0, .int .u8 0, .int .u8 0, .slice none 0 0, .slice none 0 0] 29) ?_ ?_); (exact ⟨((below1 y5 _).block bg K5.out.2.2.2).trans K5.out.1, K5.out.2.1.below (below1 y5 _), K5.out.2.2.1.trans ((below1 y5 _).mono K5.out.2.2.1.size), one_bxL y5 _ _⟩); intro y6 K6)
        | ((with_reducible refine at_st rtG y5.heap.size #[.int .u8 0, .int .u8 0, .int .u8 0, .int .u8 0, .int .u8 0, .int .u8 0, .int .u8 0, .int .u8 0, .int .u8 0, .int .u8 0, .int .u8 0, .int .u8 0, .int .u8 0, .int .u8 0, .int .u8 0, .int .u8 0, .int .u16 0, .int .u16 0, .slice none 0 0, .int .u8 0, .int .u8 0, .slice none 0 0, .slice none 0 0] C5 ?_ ?_ ?_ ?_ (.tmp 4) (.tmp 40) ?_ ?_ ?_ ?_ ?_); exact K6.out.2.2.2; rfl; exact K5.out.2.1.lies.size.1; exact K5.out.2.1.lies.size.2.1; rfl; rfl; rfl; rfl; intro y7 H7; have K7 : Hid (Bx y7 bg C 29 ∧ GO w.heap.size y7 C5 (awG kn) ∧ Below w.heap.size w y7 ∧ Bx y7 y5.heap.size C5 29) := ⟨(H7.out.2.2 bg (by have := K5.out.2.2.2; omega)).trans K6.out.1, K6.out.2.1.off K6.out.2.2.2 H7.out.2.2, K6.out.2.2.1.trans (H7.out.2.1 _ K5.out.2.2.1.size), H7.out.1⟩; clear H7 K6)
        | ((with_reducible refine at_load rtG y5.heap.size C5 ?_ ?_ (.tmp 4) ?_ ?_ ?_ ?_); exact K7.out.2.2.2; exact K5.out.2.1.lies.size.1; kernel_rfl; rfl; rfl)
        | ((with_reducible refine at_st rtG bg C C5 ?_ ?_ ?_ ?_ (.tmp 1) (.tmp 49) ?_ ?_ ?_ ?_ ?_); exact K7.out.1; exact K4.out.2.1.lies.size.1; exact K5.out.2.1.lies.size.1; exact K5.out.2.1.lies.size.2.1; rfl; rfl; rfl; rfl; intro y8 H8; have K8 : Hid (Bx y8 bg C5 29 ∧ GO w.heap.size y8 C5 (awG kn) ∧ Below w.heap.size w y8 ∧ w.heap.size ≤ bg) := ⟨H8.out.1, K7.out.2.1.off K7.out.1 H8.out.2.2, K7.out.2.2.1.trans (H8.out.2.1 _ K4.out.2.2.2), K4.out.2.2.2⟩; clear H8))
      go_roundw
      case rel => exact ⟨kn, y8, rfl, by have := hlt'.out; have := hkn'.out; omega, by simp, ⟨C5, K8.out⟩⟩
      case measure => have := hlt'.out; have := hkn'.out; simp [intOf]; omega
    · obtain rfl : k = 3 := by omega
      obtain ⟨a1, a2, a3, a4⟩ := K4.out.2.1.regs
      obtain ⟨e1, e2, e3, e4⟩ := aw_end
      have d1 := K4.out.1.c 1 _ a1
      have d2 := K4.out.1.c 2 _ a2
      have d3 := K4.out.1.c 15 _ a3
      have d4 := K4.out.1.c 17 _ a4
      rw [e1] at d1
      rw [e2] at d2
      rw [e3] at d3
      rw [e4] at d4
      rw [show (((5 : UInt8).toNat : Nat) : Int) = 5 from rfl] at d1
      rw [show (((4 : UInt8).toNat : Nat) : Int) = 4 from rfl] at d2
      rw [show (((1 : UInt8).toNat : Nat) : Int) = 1 from rfl] at d3
      rw [show ((518 : Nat) : Int) = 518 from rfl] at d4
      rw [show ((3 : Nat) : Int) = 3 from rfl]
      clear hk hlt a1 a2 a3 a4 e1 e2 e3 e4
      go_wp2
      go_ret
      exact ⟨rfl, K4.out.2.2.1⟩
end Go.Proofs.Ytfkifppadngmdaa
