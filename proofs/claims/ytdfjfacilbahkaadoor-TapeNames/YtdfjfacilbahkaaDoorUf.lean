/- The document's writing of bytes: the walk. -/
import Derived.Test.YtdfjfacilbahkaaDoorUe
namespace Go.Proofs.YtdfjfacilbahkaaDoor
open Go Go.RowKit
set_option linter.unusedVariables false
set_option maxHeartbeats 2000000
set_option maxRecDepth 20000

theorem fill2 (p : Int × Int) : Instr.fill (fun i => some (i * 2, 2)) ((Array.range (1 * 2)).map ((Value.agg #[.int .i64 0, .int .i64 0]).cells[· % (Value.agg #[.int .i64 0, .int .i64 0]).cells.size]!)) [(0, .agg (c2 p).toArray)] = some (c2 p).toArray := by kernel_rfl
theorem at_bsWa {ops : Array Oper} {rest : List Oper} {o : Oper} {a : Act} {w : World} {Q : Exit → Act → World → Prop} (p : Int × Int) (x : Operand) (hgd : o.guard = none) (ho : o.op = .buildSlice 24 1 #[(0, x)]) (hx : a.eval x = .agg (c2 p).toArray)
    (h : wpList Tryd.prog ops Q rest (a.put o.dst (.slice (some ⟨w.heap.size, 0, none⟩) 1 1)) (w.alloc (.cells (c2 p).toArray 49))) : wpList Tryd.prog ops Q (o :: rest) a w := by
  obtain ⟨i, hi, e⟩ := Option.map_eq_some_iff.1 infoWa
  injection e with hz0 e2
  injection e2 with hz1 hz2
  refine wpList_buildSlice hgd 24 49 1 #[(0, x)] ho (c2 p).toArray i _ Tryd.underlying24 hi hz0 (by rw [hz1]; decide) (by rw [hz1]; decide) ?_ h
  rw [hz1]
  have e : (#[(0, x)].map fun (i, x) => (i, a.eval x)).toList = [(0, .agg (c2 p).toArray)] := by simp [hx]
  rw [e]
  exact fill2 p
abbrev LB (x : World) (sp : Option Addr) (l : List UInt8) : Prop := LiesL 1 cB x sp l
theorem lb_at {x : World} {sp : Option Addr} {l : List UInt8} (h : LB x sp l) (j : Nat) (z : UInt8) (hj : l[j]? = some z) : ∃ g o, sp = some ⟨g, o, none⟩ ∧ x.cell? ⟨g, o + j, none⟩ = some (.int .u8 (z.toNat : Int)) := by
  obtain ⟨g, o, e, k⟩ := h j z hj
  refine ⟨g, o, e, ?_⟩
  have := k 0 _ rfl
  rwa [Nat.mul_one, Nat.add_zero] at this
theorem idxB (g o n cap k : Nat) (h : k < n) (v : World) : (Instr.indexAt 23 (.slice (some ⟨g, o, none⟩) n cap) (.int .i64 (k : Int))).run Tryd.prog v = .ok (.pointer (some ⟨g, o + k, none⟩)) v := by
  have := idxP (g := g) (off := o) (len := n) (cap := cap) Tryd.underlying23 (s := 1) (by kernel_rfl) .i64 k v h
  rw [Nat.mul_one] at this
  exact this
/-- What is written, and the error. -/
def writeW (b : List UInt8) (m : Int) : List (Int × Int) × Int := if 16384 < b.length then ([], 2) else if m < 0 ∨ 16384 < m then ([], 1) else (writeL b m.toNat, 0)
theorem bitsN_snoc (k : Nat) : ∀ N, bitsN (k + 1) N = bitsN k N ++ [((N / 2 ^ k % 2 : Nat) : Int)] := by
  induction k with
  | zero => intro N; simp [bitsN]
  | succ k ih =>
    intro N
    show ((N % 2 : Nat) : Int) :: bitsN (k + 1) (N / 2) = (((N % 2 : Nat) : Int) :: bitsN k (N / 2)) ++ _
    rw [ih, Nat.div_div_eq_div_mul, Nat.pow_succ, Nat.mul_comm 2]
    rfl
theorem sumI_app (a b : List Int) : sumI (a ++ b) = sumI a + sumI b := by
  induction a with
  | nil => simp [sumI]
  | cons x a ih => simp only [List.cons_append, sumI, ih]; omega
theorem sumI_bits (k N : Nat) : 0 ≤ sumI (bitsN k N) ∧ sumI (bitsN k N) ≤ k := by
  induction k with
  | zero => simp [bitsN, sumI]
  | succ k ih =>
    rw [bitsN_snoc, sumI_app]
    simp only [sumI]
    have := Nat.mod_two_eq_zero_or_one (N / 2 ^ k)
    omega
theorem rwrite_any (w : World) (sb : Option Addr) (cb : Nat) (bs : List UInt8) (m : Int) (hl : Hid (LB w sb bs)) (hn : bs.length ≤ 9223372036854775807) :
    Calls Tryd.prog 11 #[.slice sb bs.length cb, .int .i64 m] w fun e w' => ∃ v, e = .returned (.tuple #[v, .int .i64 (writeW bs m).2]) ∧ Hid (KL 49 2 c2 w v (writeW bs m).1 w') := by
  obtain ⟨n, hn'⟩ : ∃ n, bs.length = n := ⟨_, rfl⟩
  have ni : (n : Int) ≤ 9223372036854775807 := by omega
  unfold writeW
  rw [hn']
  by_cases hb : 16384 < n
  · rw [if_pos hb]
    have q : decide ((16384 : Int) < n) = true := by simp; omega
    clear hb hn hn'
    go_enter Tryd.func11, Tryd.ntmps11
    go_wp2
    go_ret2
    exact ⟨_, rfl, KL.nil w⟩
  rw [if_neg hb]
  have q : decide ((16384 : Int) < n) = false := by simp; omega
  by_cases h0 : m < 0
  · rw [if_pos (.inl h0)]
    have q0 : decide (m < 0) = true := by simpa using h0
    clear hb hn hn' h0
    go_enter Tryd.func11, Tryd.ntmps11
    go_wp2
    go_ret2
    exact ⟨_, rfl, KL.nil w⟩
  have q0 : decide (m < 0) = false := by simpa using h0
  by_cases h1 : 16384 < m
  · rw [if_pos (.inr h1)]
    have q1 : decide (16384 < m) = true := by simpa using h1
    clear hb hn hn' h0 h1
    go_enter Tryd.func11, Tryd.ntmps11
    go_wp2
    go_ret2
    exact ⟨_, rfl, KL.nil w⟩
  have q1 : decide (16384 < m) = false := by simpa using h1
  rw [if_neg (by omega)]
  obtain ⟨M, rfl⟩ : ∃ M : Nat, m = (M : Int) := ⟨m.toNat, by omega⟩
  have hM : Hid (M ≤ 16384 ∧ n ≤ 16384) := ⟨by omega, by omega⟩
  have Mi : (M : Int) ≤ 16384 := by omega
  have n16 : (n : Int) ≤ 16384 := by omega
  rw [Int.toNat_natCast]
  unfold writeL
  have hl' : Hid (bs.length = n) := hn'
  clear hb hn hn' h0 h1
  go_enter Tryd.func11, Tryd.ntmps11
  go_wp2
  go_loopw [6, 7] (fun o i wz => ∃ (k : Nat) (v : Value) (y : World), y = wz ∧ v = o ∧ i = .int .i64 (k : Int) ∧ Hid (k ≤ M) ∧ Hid (KL 49 2 c2 w v (List.replicate k (wv 0)) y)) (fun _ i _ => (M - intOf i).toNat)
  case atStart => exact ⟨0, _, w, rfl, rfl, rfl, Nat.zero_le _, KL.nil w⟩
  case round =>
    obtain ⟨k, v, y, rfl, rfl, rfl, J, K⟩ := hrel
    by_cases hlt : k < M
    · have hki : (k : Int) < M := by omega
      have hlt' : Hid (k < M) := hlt
      have hW := rwave_any y 0
      have hol : Hid ((List.replicate k (wv 0)).length ≤ 16384) := by have := hM.out.1; show _ ≤ _; simp; omega
      have hnx : Hid (List.replicate (k + 1) (wv 0) = List.replicate k (wv 0) ++ [wv 0]) := List.replicate_succ'
      obtain ⟨out, eo⟩ : ∃ x, List.replicate k (wv 0) = x := ⟨_, rfl⟩
      rw [eo] at K hol hnx
      obtain ⟨P, eP⟩ : ∃ x, wv 0 = x := ⟨_, rfl⟩
      rw [eP] at hW
      have hnx2 : Hid (List.replicate (k + 1) (wv 0) = out ++ [P]) := by show _ = _; rw [hnx.out, eP]
      clear eo eP hlt hnx
      go_wp2_with (first
        | (go_at_call 25; refine hW.mono ?_; rintro e' y1 ⟨rfl, h2⟩; have K1 : Hid (KL 49 2 c2 w v out y1) := K.out.below h2; clear h2)
        | ((with_reducible refine at_bsWa P (.tmp 27) ?_ ?_ ?_ ?_); rfl; rfl; rfl)
        | (at_builtin; refine at_appL kWave rfl (.tmp 26) (.tmp 28) rfl w.heap.size v out rfl (K1.out.own.alloc _) y1.heap.size P rfl (bx1 _ _ _) ?_ ?_ ?_; (have := hol.out; omega); (have := K1.out.low.size; simp; omega); intro v' y2 A; have K2 : Hid (KL 49 2 c2 w v' (out ++ [P]) y2) := K1.out.add A.out; clear A))
      go_roundw
      case rel => exact ⟨k + 1, _, _, rfl, rfl, by simp, hlt'.out, by rw [hnx2.out]; exact K2⟩
      case measure => have := hlt'.out; simp [intOf]; omega
    · have hke : k = M := by have := J.out; omega
      subst hke
      clear hlt J
      go_wp2
      go_loopw [6, 8, 9, 10, 11] (fun o i _ _ _ wz => ∃ (j : Nat) (v : Value) (y : World), y = wz ∧ v = o ∧ i = .int .i64 (j : Int) ∧ Hid (j ≤ n) ∧ Hid (KL 49 2 c2 w v (List.replicate k (wv 0) ++ (bs.take j).flatMap fun x => byteW x.toNat) y)) (fun _ i _ _ _ _ => (n - intOf i).toNat)
      case atStart => exact ⟨0, v, y, rfl, rfl, rfl, Nat.zero_le _, by simpa using K⟩
      case round =>
        obtain ⟨j, v, y, rfl, rfl, rfl, J, K⟩ := hrel
        by_cases hlt : j < n
        · obtain ⟨z, hz, hdrop⟩ := row_at hl'.out hlt
          have hji : (j : Int) < n := by omega
          have hlt' : Hid (j < n) := hlt
          have hnx : Hid ((List.replicate k (wv 0) ++ (bs.take (j + 1)).flatMap fun x => byteW x.toNat) = (List.replicate k (wv 0) ++ (bs.take j).flatMap fun x => byteW x.toNat) ++ byteW z.toNat) := by
            show _ = _
            rw [List.take_add_one, hz]
            simp [List.flatMap_append]
          have hol : Hid ((List.replicate k (wv 0) ++ (bs.take j).flatMap fun x => byteW x.toNat).length ≤ 16384 + 163840) := by
            show _ ≤ _
            have h := writeL_len (bs.take j) k
            unfold writeL at h
            rw [h, List.length_take]
            have := hM.out
            omega
          obtain ⟨out, eo⟩ : ∃ x, (List.replicate k (wv 0) ++ (bs.take j).flatMap fun x => byteW x.toNat) = x := ⟨_, rfl⟩
          rw [eo] at K hol hnx
          have hzn := z.toNat_lt
          have hz' : Hid (bs[j]? = some z) := hz
          obtain ⟨Z, eZ⟩ : ∃ x, z.toNat = x := ⟨_, rfl⟩
          have hcell0 : Hid (∀ y, LB y sb bs → ∃ g o, sb = some ⟨g, o, none⟩ ∧ y.cell? ⟨g, o + j, none⟩ = some (.int .u8 (Z : Int))) := fun y h => by
            rw [← eZ]
            exact lb_at h j z hz
          rw [eZ] at hnx hzn
          obtain ⟨g, o, rfl, -⟩ := hcell0.out w hl.out
          have ij := fun u => idxB g o n cb j hlt u
          have hZi : (Z : Int) < 256 := by omega
          have hZ : Hid (Z < 256) := by show _ < _; omega
          have hW1 : Hid (∀ y, Calls Tryd.prog 25 #[.int .i64 1] y fun e w' => e = .returned (.agg (c2 (wv 1)).toArray) ∧ Below y.heap.size y w') := fun y => rwave_any y 1
          obtain ⟨P, eP⟩ : ∃ x, wv 1 = x := ⟨_, rfl⟩
          rw [eP] at hW1
          replace eP : Hid _ := eP
          clear eo hlt hz hdrop eZ hzn
          go_wp2_with (first
            | (go_at_call 25; refine (hW1.out y).mono ?_; rintro e' y1 ⟨rfl, h2⟩; have K1 : Hid (KL 49 2 c2 w v out y1) := K.out.below h2; clear h2)
            | ((with_reducible refine at_bsWa P (.tmp 37) ?_ ?_ ?_ ?_); rfl; rfl; rfl)
            | (at_builtin; refine at_appL kWave rfl (.tmp 36) (.tmp 38) rfl w.heap.size v out rfl (K1.out.own.alloc _) y1.heap.size P rfl (bx1 _ _ _) ?_ ?_ ?_; (have := hol.out; omega); (have := K1.out.low.size; simp; omega); intro v' y2 A; have K2 : Hid (KL 49 2 c2 w v' (out ++ [P]) y2) := K1.out.add A.out; clear A; have hcell : y2.cell? ⟨g, o + j, none⟩ = some (.int .u8 (Z : Int)) := by (obtain ⟨g', o', e', h'⟩ := hcell0.out y2 (hl.out.below K2.out.low); cases e'; exact h')))
          go_loopw [6, 9, 10, 11] (fun o1 s x t wz => ∃ (t' : Nat) (v : Value) (y : World), y = wz ∧ v = o1 ∧ s = .int .i64 (sumI (bitsN t' Z)) ∧ x = .int .i64 ((Z / 2 ^ t' : Nat) : Int) ∧ t = .int .i64 (t' : Int) ∧ Hid (t' ≤ 8) ∧ Hid (KL 49 2 c2 w v (out ++ [P] ++ (bitsN t' Z).map wv) y)) (fun _ _ _ t _ => (8 - intOf t).toNat)
          case atStart => exact ⟨0, v', y2, rfl, rfl, rfl, by simp, rfl, Nat.zero_le _, by simpa [bitsN] using K2⟩
          case round =>
            obtain ⟨t, v, y, rfl, rfl, rfl, rfl, rfl, J, K⟩ := hrel
            have hs := sumI_bits t Z
            obtain ⟨s0, s8⟩ := hs
            have s8' : sumI (bitsN t Z) ≤ 8 := by have := J.out; omega
            obtain ⟨O, eO⟩ : ∃ x, sumI (bitsN t Z) = x := ⟨_, rfl⟩
            rw [eO] at s0 s8' ⊢
            clear s8
            by_cases ht : t < 8
            · have hti : (t : Int) < 8 := by omega
              have ht' : Hid (t < 8) := ht
              have hX : Hid (Z / 2 ^ t < 256) := Nat.lt_of_le_of_lt (Nat.div_le_self _ _) hZ.out
              have hsn : Hid (bitsN (t + 1) Z = bitsN t Z ++ [((Z / 2 ^ t % 2 : Nat) : Int)]) := bitsN_snoc t Z
              have hd : Hid (Z / 2 ^ (t + 1) = Z / 2 ^ t / 2) := by show _ = _; rw [Nat.div_div_eq_div_mul, Nat.pow_succ]
              obtain ⟨X, eX⟩ : ∃ x, Z / 2 ^ t = x := ⟨_, rfl⟩
              rw [eX] at hX hsn hd ⊢
              have r2 : ((X : Nat) : Int).tmod 2 = ((X % 2 : Nat) : Int) := by rw [Int.tmod_eq_emod_of_nonneg (by omega)]; omega
              have d2 : ((X : Nat) : Int).tdiv 2 = ((X / 2 : Nat) : Int) := by rw [Int.tdiv_eq_ediv_of_nonneg (by omega)]; omega
              obtain ⟨B, eB⟩ : ∃ x : Int, ((X % 2 : Nat) : Int) = x := ⟨_, rfl⟩
              have B0 : 0 ≤ B := by omega
              have B1 : B ≤ 1 := by omega
              rw [eB] at r2 hsn
              obtain ⟨X2, eX2⟩ : ∃ x : Nat, X / 2 = x := ⟨_, rfl⟩
              rw [eX2] at d2 hd
              have Xi : (X : Int) < 256 := by have := hX.out; omega
              have X2i : (X2 : Int) < 256 := by have := hX.out; omega
              have hW := rwave_any y B
              have hol2 : Hid ((out ++ [P] ++ (bitsN t Z).map wv).length ≤ 200000) := by
                show _ ≤ _
                have := hol.out
                simp [bitsN_len]
                omega
              have hnx2 : Hid (out ++ [P] ++ (bitsN (t + 1) Z).map wv = (out ++ [P] ++ (bitsN t Z).map wv) ++ [wv B]) := by
                show _ = _
                rw [hsn.out]
                simp
              have hO2 : Hid (sumI (bitsN (t + 1) Z) = O + B) := by
                show _ = _
                rw [hsn.out, sumI_app, eO]
                simp [sumI]
              obtain ⟨out2, eo2⟩ : ∃ x, out ++ [P] ++ (bitsN t Z).map wv = x := ⟨_, rfl⟩
              rw [eo2] at K hol2 hnx2
              obtain ⟨P2, eP2⟩ : ∃ x, wv B = x := ⟨_, rfl⟩
              rw [eP2] at hW hnx2
              clear eX eB eX2 eo2 eP2 ht eO hsn
              go_wp2_with (first
                | (go_at_call 25; refine hW.mono ?_; rintro e' y1 ⟨rfl, h2⟩; have K1 : Hid (KL 49 2 c2 w v out2 y1) := K.out.below h2; clear h2)
                | ((with_reducible refine at_bsWa P2 (.tmp 52) ?_ ?_ ?_ ?_); rfl; rfl; rfl)
                | (at_builtin; refine at_appL kWave rfl (.tmp 49) (.tmp 53) rfl w.heap.size v out2 rfl (K1.out.own.alloc _) y1.heap.size P2 rfl (bx1 _ _ _) ?_ ?_ ?_; (have := hol2.out; omega); (have := K1.out.low.size; simp; omega); intro v' y2 A; have K2 : Hid (KL 49 2 c2 w v' (out2 ++ [P2]) y2) := K1.out.add A.out; clear A))
              go_roundw
              case rel => exact ⟨t + 1, _, _, rfl, rfl, by rw [hO2.out], by rw [hd.out], by simp, ht'.out, by rw [hnx2.out]; exact K2⟩
              case measure => have := ht'.out; simp [intOf]; omega
            · have hte : t = 8 := by have := J.out; omega
              subst hte
              have r2 : (O + 1).tmod 2 = (O + 1) % 2 := Int.tmod_eq_emod_of_nonneg (by omega)
              have hodd : Hid (oddI (bitsN 8 Z) = (O + 1) % 2) := by show _ = _; unfold oddI; rw [eO]
              obtain ⟨B, eB⟩ : ∃ x : Int, (O + 1) % 2 = x := ⟨_, rfl⟩
              rw [eB] at r2 hodd
              have hW := rwave_any y B
              have hfin : Hid (out ++ byteW Z = (out ++ [P] ++ (bitsN 8 Z).map wv) ++ [wv B]) := by
                show _ = _
                unfold byteW
                rw [hodd.out, eP.out]
                simp
              have hol2 : Hid ((out ++ [P] ++ (bitsN 8 Z).map wv).length ≤ 200000) := by
                show _ ≤ _
                have := hol.out
                simp [bitsN_len]
                omega
              obtain ⟨out2, eo2⟩ : ∃ x, out ++ [P] ++ (bitsN 8 Z).map wv = x := ⟨_, rfl⟩
              rw [eo2] at K hol2 hfin
              obtain ⟨P2, eP2⟩ : ∃ x, wv B = x := ⟨_, rfl⟩
              rw [eP2] at hW hfin
              clear eB eo2 eP2 ht eO hodd
              go_wp2_with (first
                | (go_at_call 25; refine hW.mono ?_; rintro e' y1 ⟨rfl, h2⟩; have K1 : Hid (KL 49 2 c2 w v out2 y1) := K.out.below h2; clear h2)
                | ((with_reducible refine at_bsWa P2 (.tmp 65) ?_ ?_ ?_ ?_); rfl; rfl; rfl)
                | (at_builtin; refine at_appL kWave rfl (.tmp 61) (.tmp 66) rfl w.heap.size v out2 rfl (K1.out.own.alloc _) y1.heap.size P2 rfl (bx1 _ _ _) ?_ ?_ ?_; (have := hol2.out; omega); (have := K1.out.low.size; simp; omega); intro v' y2 A; have K2 : Hid (KL 49 2 c2 w v' (out2 ++ [P2]) y2) := K1.out.add A.out; clear A))
              go_roundw
              case rel => exact ⟨j + 1, _, _, rfl, rfl, by simp, hlt'.out, by rw [hnx.out, hfin.out]; exact K2⟩
              case measure => have := hlt'.out; simp [intOf]; omega
        · have hje : j = n := by have := J.out; omega
          subst hje
          have K2 : Hid (KL 49 2 c2 w v (List.replicate k (wv 0) ++ bs.flatMap fun x => byteW x.toNat) y) := by
            have h := K
            rw [List.take_of_length_le (by rw [hl'.out]; exact Nat.le_refl _)] at h
            exact h
          clear hlt
          go_wp2
          go_ret2
          exact ⟨v, rfl, K2⟩
end Go.Proofs.YtdfjfacilbahkaaDoor
