/- The bits by which a byte stands on a tape, told one by one: the program's. -/
import Derived.Test.YtdfjfacilbahkabDoorQg
import Derived.RangeFuncNested
import Derived.RangeFuncBound
import Derived.RangeFuncCalls
import Derived.RangeFuncLeaves
import Derived.Shelf.Abstract
import Derived.Shelf.RegionOpen
import Derived.WalkKit
import Derived.OwnWalkIn
import Derived.TacticsInMore
import Derived.LoopNIn
import Derived.LoopIn
namespace Go.Proofs.YtdfjfacilbahkabDoor
open Go Go.RowKit Go.Shelf
set_option linter.unusedVariables false
set_option maxHeartbeats 2000000
set_option maxRecDepth 100000
attribute [local go_sem] Oper.semAt_some

def bI (x : Bool) : Int := if x then 1 else 0
/-- A byte's ten bits as a number. -/
def rowZ (Z : Nat) : Nat := 1 + 2 * Z + (if parN 10 Z then 0 else 512)
def rowB (Z : Nat) : List Bool := (List.range 10).map fun k => decide (rowZ Z / 2 ^ k % 2 = 1)
theorem rowB_len (Z : Nat) : (rowB Z).length = 10 := by simp [rowB]
theorem bitsN_range (k : Nat) : ∀ n, bitsN k n = (List.range k).map fun i => ((n / 2 ^ i % 2 : Nat) : Int) := by
  induction k with
  | zero => intro n; rfl
  | succ k ih => intro n; rw [bitsN_snoc, ih, List.range_succ, List.map_append]; rfl
theorem rowB_wave (Z : Nat) (hZ : Z < 256) : (rowB Z).map (fun x => wv (bI x)) = byteW Z := by
  have e1 : (rowB Z).map bI = bitsN 10 (rowZ Z) := by
    rw [bitsN_range]
    unfold rowB
    rw [List.map_map]
    refine List.map_congr_left fun i _ => ?_
    simp only [Function.comp, bI]
    rcases Nat.mod_two_eq_zero_or_one (rowZ Z / 2 ^ i) with h | h <;> simp [h]
  have e2 : (rowB Z).map (fun x => wv (bI x)) = ((rowB Z).map bI).map wv := by rw [List.map_map]; rfl
  have hp : parN 10 Z = decide (sumI (bitsN 8 Z) % 2 = 1) := by
    rw [parN_sum, bitsN_snoc, bitsN_snoc, sumI_app, sumI_app, show Z / 2 ^ 9 % 2 = 0 by rw [Nat.div_eq_of_lt (by omega)], show Z / 2 ^ 8 % 2 = 0 by rw [Nat.div_eq_of_lt (by omega)]]
    simp [sumI]
  have hs := (sumI_bits 8 Z).1
  have e3 : bitsN 10 (rowZ Z) = 1 :: (bitsN 8 Z ++ [oddI (bitsN 8 Z)]) := by
    unfold rowZ oddI
    rw [hp]
    by_cases h : sumI (bitsN 8 Z) % 2 = 1
    · rw [if_pos (by simpa using h)]
      show (((1 + 2 * Z + 0) % 2 : Nat) : Int) :: bitsN 9 ((1 + 2 * Z + 0) / 2) = _
      rw [show (1 + 2 * Z + 0) / 2 = Z by omega, show (1 + 2 * Z + 0) % 2 = 1 by omega, bitsN_snoc, show Z / 2 ^ 8 % 2 = 0 by rw [Nat.div_eq_of_lt (by omega)], show (sumI (bitsN 8 Z) + 1) % 2 = 0 by omega]
      rfl
    · rw [if_neg (by simpa using h)]
      show (((1 + 2 * Z + 512) % 2 : Nat) : Int) :: bitsN 9 ((1 + 2 * Z + 512) / 2) = _
      rw [show (1 + 2 * Z + 512) / 2 = Z + 256 by omega, show (1 + 2 * Z + 512) % 2 = 1 by omega, bitsN_snoc, show (Z + 256) / 2 ^ 8 % 2 = 1 by omega, show (sumI (bitsN 8 Z) + 1) % 2 = 1 by omega, bitsN_mod 8 (Z + 256) Z (by omega)]
      rfl
  rw [e2, e1, e3]
  unfold byteW
  simp
theorem written_any (w : World) (b : Int) (hb : b = 0 ∨ b = 1) : Calls Tryd.prog 7 #[.int .u8 b] w fun e w' => e = .returned (.agg (c2 (wv b)).toArray) ∧ Below w.heap.size w w' := by
  have hF : Hid (Fm w [(w.heap.size, #[.int .i64 0, .int .i64 0], 30)] (w.alloc (.cells #[.int .i64 0, .int .i64 0] 30))) := Fm.one w _ _
  have hb2 : Hid (∀ x y, Tryd.prog.built 30 [(0, .int .i64 x), (1, .int .i64 y)] = some (c2 (x, y)).toArray) := builtWa
  rcases hb with e | e <;> subst e
  · have ew : wv 0 = (56, 56) := rfl
    rw [ew]
    go_enter Tryd.func7, Tryd.ntmps7
    go_wp2_with (first
      | ((with_reducible refine gen_world (w.alloc (.cells #[.int .i64 0, .int .i64 0] 30)) (Fm w [(w.heap.size, #[.int .i64 0, .int .i64 0], 30)]) hF.out ?_); intro y K)
      | ((with_reducible refine at_bu #[(0, .const (.int .i64 56)), (1, .const (.int .i64 56))] [(0, .int .i64 56), (1, .int .i64 56)] (c2 (56, 56)).toArray ?_ ?_ ?_ (hb2.out _ _) ?_); kernel_rfl; rfl; (simp only [List.map_toArray, List.map_cons, List.map_nil]; rfl))
      | ((with_reducible refine at_st rtWa w.heap.size #[.int .i64 0, .int .i64 0] (c2 (56, 56)).toArray ?_ ?_ ?_ ?_ (.tmp 2) (.tmp 5) ?_ ?_ ?_ ?_ ?_); exact K.out.bx 0 _ _ _ rfl; rfl; rfl; exact c2_all _; rfl; rfl; rfl; rfl; intro y2 hw2; have K2 : Hid (Fm w [(w.heap.size, (c2 (56, 56)).toArray, 30)] y2) := K.out.put 0 _ _ _ _ rfl hw2.out))
    exact ret_row rtWa rfl rfl (K2.out.bx 0 _ _ _ rfl) rfl rfl ⟨rfl, K2.out.low⟩
  · have ew : wv 1 = (140, 140) := rfl
    rw [ew]
    go_enter Tryd.func7, Tryd.ntmps7
    go_wp2_with (first
      | ((with_reducible refine gen_world (w.alloc (.cells #[.int .i64 0, .int .i64 0] 30)) (Fm w [(w.heap.size, #[.int .i64 0, .int .i64 0], 30)]) hF.out ?_); intro y K)
      | ((with_reducible refine at_bu #[(0, .const (.int .i64 140)), (1, .const (.int .i64 140))] [(0, .int .i64 140), (1, .int .i64 140)] (c2 (140, 140)).toArray ?_ ?_ ?_ (hb2.out _ _) ?_); kernel_rfl; rfl; (simp only [List.map_toArray, List.map_cons, List.map_nil]; rfl))
      | ((with_reducible refine at_st rtWa w.heap.size #[.int .i64 0, .int .i64 0] (c2 (140, 140)).toArray ?_ ?_ ?_ ?_ (.tmp 2) (.tmp 6) ?_ ?_ ?_ ?_ ?_); exact K.out.bx 0 _ _ _ rfl; rfl; rfl; exact c2_all _; rfl; rfl; rfl; rfl; intro y2 hw2; have K2 : Hid (Fm w [(w.heap.size, (c2 (140, 140)).toArray, 30)] y2) := K.out.put 0 _ _ _ _ rfl hw2.out))
    exact ret_row rtWa rfl rfl (K2.out.bx 0 _ _ _ rfl) rfl rfl ⟨rfl, K2.out.low⟩
theorem bitsOf_in (m : Nat) (Z : Int) (w : World) :
    CallsIn Fence.wide m Tryd.prog 8 #[.int .u8 Z] w fun e w' => e = .returned (.func (.func 11) #[] #[.pointer (some ⟨w.heap.size, 0, none⟩)]) ∧ w' = w.alloc (.cells #[.int .u8 Z] 5) := by
  refine callsIn_of_wp Tryd.func8 rfl trivial ?_ rfl
  simp only [Tryd.ntmps8, List.size_toArray, List.length_cons, List.length_nil, Nat.reduceAdd, Nat.reduceSub, Array.replicate_succ, Array.replicate_zero, List.push_toArray, List.append_toArray, List.nil_append, List.cons_append]
  gi_wp2
  go_ret
  exact ⟨rfl, rfl⟩
theorem bits1_in (m : Nat) (hm : 1 ≤ m) (l bk : Nat) (Z : Nat) (hZ : Z < 256) (J Jx : List Bool → World → Prop)
    (hY : Hid (∀ (pre : List Bool) (x : Bool) (W : World), J pre W → pre.length < 10 → YieldAt Fence.wide (m - 1) Tryd.prog l #[.int .u8 (bI x)] W fun e W' =>
      (e = .returned (.bool true) ∧ J (pre ++ [x]) W' ∧ True) ∨ (e = .returned (.bool false) ∧ Jx (pre ++ [x]) W')))
    (W : World) (hbk : Hid (Bx W bk #[.int .u8 (Z : Int)] 5)) (h0 : Hid (J [] W)) :
    CallsIn Fence.wide m Tryd.prog 11 #[.func (.yield l) #[] #[], .pointer (some ⟨bk, 0, none⟩)] W fun e W' => (∃ v, e = .returned v) ∧ ((∃ xs, xs = rowB Z ∧ J xs W') ∨ (∃ pre, True ∧ Jx pre W')) := by
  have ck := hbk.out.c 0 (.int .u8 (Z : Int)) rfl
  have Zi : (Z : Int) < 256 := by omega
  have hO := odd_any W Z (by omega)
  have o1 : bits .or .u16 1 ((Z : Int) * 2) = ((1 + 2 * Z : Nat) : Int) := by
    have h := orNN 1 (Z * 2) (by decide) (by omega)
    have e : (1 ||| Z * 2) = 1 + 2 * Z := by
      rw [Nat.or_comm, Nat.mul_comm]
      have := Nat.two_pow_add_eq_or_of_lt (i := 1) (b := 1) (by decide) Z
      simp at this
      omega
    rw [e] at h
    rw [← h]
    push_cast
    rfl
  have o2 : bits .or .u16 ((1 + 2 * Z : Nat) : Int) 512 = ((1 + 2 * Z + 512 : Nat) : Int) := by
    have h := orBit (1 + 2 * Z) 1 9 (by decide) (by omega) (by decide)
    simpa using h
  have hRz : Hid (rowZ Z = 1 + 2 * Z + (if parN 10 Z then 0 else 512)) := rfl
  have hR1 : Hid (rowZ Z < 1024) := by show _ < _; rw [hRz.out]; split <;> omega
  obtain ⟨A, hA⟩ : ∃ A : Int, ((1 + 2 * Z : Nat) : Int) = A := ⟨_, rfl⟩
  rw [hA] at o1 o2
  obtain ⟨R, hR⟩ : ∃ R : Int, ((rowZ Z : Nat) : Int) = R := ⟨_, rfl⟩
  have hR' : Hid (((rowZ Z : Nat) : Int) = R) := hR
  have R0 : 0 ≤ R := by omega
  have R9 : R < 1024 := by have := hR1.out; omega
  cases hb : parN 10 Z
  · have o2' : bits .or .u16 A 512 = R := by rw [o2, ← hR, hRz.out, hb]; rfl
    rw [hb] at hO
    clear hb hR hRz hA o2 hZ
    refine callsIn_of_wp Tryd.func11 rfl trivial ?_ rfl
    simp only [Tryd.ntmps11, List.size_toArray, List.length_cons, List.length_nil, Nat.reduceAdd, Nat.reduceSub, Array.replicate_succ, Array.replicate_zero, List.push_toArray, List.append_toArray, List.nil_append, List.cons_append]
    gi_wp2_with (refine ⟨trivial, ?_⟩; gi_at_call 12; refine (callsIn_wide.2 hO).mono ?_; rintro e z ⟨rfl, rfl⟩)
    gi_loopw [15] (fun f wz => ∃ (k : Nat) (y : World), y = wz ∧ f = .int .i64 (k : Int) ∧ Hid (k ≤ 10) ∧ Hid (J ((rowB Z).take k) y)) (fun f _ => (10 - intOf f).toNat)
    case atStart => exact ⟨0, z, rfl, rfl, Nat.zero_le _, by simpa using h0⟩
    case round =>
      obtain ⟨k, y, rfl, rfl, K, HJ⟩ := hrel
      by_cases hlt : k < 10
      · have hki : (k : Int) < 10 := by omega
        have hlt' : Hid (k < 10) := hlt
        obtain ⟨x, hx⟩ : ∃ x, x = decide (rowZ Z / 2 ^ k % 2 = 1) := ⟨_, rfl⟩
        have htk : Hid ((rowB Z).take (k + 1) = (rowB Z).take k ++ [x]) := by
          show _ = _
          have h1 : (rowB Z)[k]? = some x := by
            rw [hx]
            simp [rowB, hlt]
          rw [List.take_add_one, h1]
          rfl
        have hv : Hid (bI x = ((rowZ Z / 2 ^ k % 2 : Nat) : Int)) := by
          show _ = _
          rw [hx]
          unfold bI
          rcases Nat.mod_two_eq_zero_or_one (rowZ Z / 2 ^ k) with h | h <;> simp [h]
        have hand : bits .and .u16 (R / 2 ^ k) 1 = bI x := by
          have e : R / 2 ^ k = ((rowZ Z / 2 ^ k : Nat) : Int) := by rw [← hR'.out]; push_cast; rfl
          rw [e]
          have h := andN (rowZ Z / 2 ^ k) 1 (Nat.lt_of_le_of_lt (Nat.div_le_self _ _) (by have := hR1.out; omega)) (by decide)
          rw [Nat.and_one_is_mod] at h
          rw [hv.out]
          exact h
        obtain ⟨fn, tmps, assign, body, hy, hR2⟩ := hY.out ((rowB Z).take k) x y HJ.out (by rw [List.length_take, rowB_len]; omega)
        have hb01 : 0 ≤ bI x ∧ bI x ≤ 1 := by cases x <;> decide
        obtain ⟨b0, b1⟩ := hb01
        clear hlt hx
        have hvm : bI x % 256 = bI x := by omega
        generalize bI x = v at hand hy b0 b1 hvm hv
        gi_wp2
        refine hR2.mono ?_
        rintro e z2 (⟨rfl, hJ2, -⟩ | ⟨rfl, hJx2⟩)
        · gi_wp2
          go_roundw
          case rel => exact ⟨k + 1, z2, rfl, by simp, hlt'.out, by rw [htk.out]; exact hJ2⟩
          case measure => have := hlt'.out; simp [intOf]; omega
        · gi_wp2
          refine bodyPost_ret (results_none rfl _ _ _) rfl ?_
          exact ⟨⟨_, rfl⟩, .inr ⟨_, trivial, hJx2⟩⟩
      · have hke : k = 10 := by have := K.out; omega
        subst hke
        have fin : Hid (J (rowB Z) y) := by
          have h := HJ
          rw [List.take_of_length_le (by rw [rowB_len]; exact Nat.le_refl _)] at h
          exact h
        clear hlt
        gi_wp2
        go_end0
        exact ⟨⟨_, rfl⟩, .inl ⟨_, rfl, fin.out⟩⟩
  · have hAR : A = R := by rw [← hA, ← hR, hRz.out, hb]; rfl
    rw [hAR] at o1
    rw [hb] at hO
    clear hb hR hRz hA o2 hZ hAR
    refine callsIn_of_wp Tryd.func11 rfl trivial ?_ rfl
    simp only [Tryd.ntmps11, List.size_toArray, List.length_cons, List.length_nil, Nat.reduceAdd, Nat.reduceSub, Array.replicate_succ, Array.replicate_zero, List.push_toArray, List.append_toArray, List.nil_append, List.cons_append]
    gi_wp2_with (refine ⟨trivial, ?_⟩; gi_at_call 12; refine (callsIn_wide.2 hO).mono ?_; rintro e z ⟨rfl, rfl⟩)
    gi_loopw [15] (fun f wz => ∃ (k : Nat) (y : World), y = wz ∧ f = .int .i64 (k : Int) ∧ Hid (k ≤ 10) ∧ Hid (J ((rowB Z).take k) y)) (fun f _ => (10 - intOf f).toNat)
    case atStart => exact ⟨0, z, rfl, rfl, Nat.zero_le _, by simpa using h0⟩
    case round =>
      obtain ⟨k, y, rfl, rfl, K, HJ⟩ := hrel
      by_cases hlt : k < 10
      · have hki : (k : Int) < 10 := by omega
        have hlt' : Hid (k < 10) := hlt
        obtain ⟨x, hx⟩ : ∃ x, x = decide (rowZ Z / 2 ^ k % 2 = 1) := ⟨_, rfl⟩
        have htk : Hid ((rowB Z).take (k + 1) = (rowB Z).take k ++ [x]) := by
          show _ = _
          have h1 : (rowB Z)[k]? = some x := by
            rw [hx]
            simp [rowB, hlt]
          rw [List.take_add_one, h1]
          rfl
        have hv : Hid (bI x = ((rowZ Z / 2 ^ k % 2 : Nat) : Int)) := by
          show _ = _
          rw [hx]
          unfold bI
          rcases Nat.mod_two_eq_zero_or_one (rowZ Z / 2 ^ k) with h | h <;> simp [h]
        have hand : bits .and .u16 (R / 2 ^ k) 1 = bI x := by
          have e : R / 2 ^ k = ((rowZ Z / 2 ^ k : Nat) : Int) := by rw [← hR'.out]; push_cast; rfl
          rw [e]
          have h := andN (rowZ Z / 2 ^ k) 1 (Nat.lt_of_le_of_lt (Nat.div_le_self _ _) (by have := hR1.out; omega)) (by decide)
          rw [Nat.and_one_is_mod] at h
          rw [hv.out]
          exact h
        obtain ⟨fn, tmps, assign, body, hy, hR2⟩ := hY.out ((rowB Z).take k) x y HJ.out (by rw [List.length_take, rowB_len]; omega)
        have hb01 : 0 ≤ bI x ∧ bI x ≤ 1 := by cases x <;> decide
        obtain ⟨b0, b1⟩ := hb01
        clear hlt hx
        have hvm : bI x % 256 = bI x := by omega
        generalize bI x = v at hand hy b0 b1 hvm hv
        gi_wp2
        refine hR2.mono ?_
        rintro e z2 (⟨rfl, hJ2, -⟩ | ⟨rfl, hJx2⟩)
        · gi_wp2
          go_roundw
          case rel => exact ⟨k + 1, z2, rfl, by simp, hlt'.out, by rw [htk.out]; exact hJ2⟩
          case measure => have := hlt'.out; simp [intOf]; omega
        · gi_wp2
          refine bodyPost_ret (results_none rfl _ _ _) rfl ?_
          exact ⟨⟨_, rfl⟩, .inr ⟨_, trivial, hJx2⟩⟩
      · have hke : k = 10 := by have := K.out; omega
        subst hke
        have fin : Hid (J (rowB Z) y) := by
          have h := HJ
          rw [List.take_of_length_le (by rw [rowB_len]; exact Nat.le_refl _)] at h
          exact h
        clear hlt
        gi_wp2
        go_end0
        exact ⟨⟨_, rfl⟩, .inl ⟨_, rfl, fin.out⟩⟩
theorem bits_stops (m : Nat) (hm : 1 ≤ m) (bk : Nat) (Z : Nat) (hZ : Z < 256) (w : World) (hbk : Bx w bk #[.int .u8 (Z : Int)] 5) :
    SeqStopsK Fence.wide m Tryd.prog 11 #[.pointer (some ⟨bk, 0, none⟩)] (fun x : Bool => #[.int .u8 (bI x)]) (fun _ _ => True) (fun xs => xs = rowB Z) (fun _ => True) 10 w := fun l J Jx W hWW hJ _ hY h0 =>
  bits1_in m hm l bk Z hZ J Jx hY W ((hWW.block bk (heap_lt hbk)).trans hbk) h0
end Go.Proofs.YtdfjfacilbahkabDoor
