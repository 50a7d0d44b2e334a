/- The document's reading of bytes: the walk. -/
import Derived.Test.YtdfjfacilbahkaaDoorUd
namespace Go.Proofs.YtdfjfacilbahkaaDoor
open Go Go.RowKit
set_option linter.unusedVariables false
set_option maxHeartbeats 2000000
set_option maxRecDepth 20000

def cB (z : UInt8) : List Value := [.int .u8 (z.toNat : Int)]
theorem infoBy : (Tryd.prog.info? 5).map (fun i => (i.zero, i.size, i.bytes)) = some (some (.int .u8 0), 1, 1) := by kernel_rfl
theorem kByte : KdL 23 5 1 1 cB := by
  obtain ⟨i, hi, e⟩ := Option.map_eq_some_iff.1 infoBy
  injection e with e1 e2
  injection e2 with e2 e3
  exact ⟨Tryd.underlying23, ⟨i, _, hi, e1, e2, e3, rfl⟩, fun _ => rfl, fun x v hv => by simp [cB] at hv; subst hv; rfl, by decide, by decide⟩
theorem bx1 (z : World) (cs : Array Value) (t : TypeId) : Bx (z.alloc (.cells cs t)) z.heap.size cs t := alloc_last' z _
theorem readGo_succ (q : Nat) (L : List (Int × Int)) (j : Nat) (out : List UInt8) : readGo (q + 1) L j out = if (byteL L j).2.1 ≠ 0 then ([], (byteL L j).2.1, ((byteL L j).2.2.1 : Int)) else readGo q (byteL L j).2.2.2 (byteL L j).2.2.1 (out ++ [UInt8.ofNat (byteL L j).1.toNat]) := rfl
theorem rread_any (w : World) (sp : Option Addr) (cap : Nat) (l : List (Int × Int)) (m : Int) (hl : Hid (L2 w sp l)) (hn : l.length ≤ 9223372036854775807) :
    Calls Tryd.prog 16 #[.slice sp l.length cap, .int .i64 m] w fun e w' => ∃ v, e = .returned (.tuple #[v, .int .i64 (readW l m).2.1, .int .i64 (readW l m).2.2]) ∧ Hid (KL 5 1 cB w v (readW l m).1 w') := by
  by_cases h0 : m < 0
  · have e : readW l m = ([], 1, 0) := by unfold readW; rw [if_pos (.inl h0)]
    rw [e]
    have q : decide (m < 0) = true := by simpa using h0
    clear h0 e
    go_enter Tryd.func16, Tryd.ntmps16
    go_wp2
    go_ret3
    exact ⟨_, rfl, KL.nil w⟩
  have q0 : decide (m < 0) = false := by simpa using h0
  by_cases h1 : 16384 < m
  · have e : readW l m = ([], 1, 0) := by unfold readW; rw [if_pos (.inr h1)]
    rw [e]
    have q : decide (16384 < m) = true := by simpa using h1
    clear h0 h1 e
    go_enter Tryd.func16, Tryd.ntmps16
    go_wp2
    go_ret3
    exact ⟨_, rfl, KL.nil w⟩
  have q1 : decide (16384 < m) = false := by simpa using h1
  obtain ⟨M, rfl⟩ : ∃ M : Nat, m = (M : Int) := ⟨m.toNat, by omega⟩
  have M1 : Hid (M ≤ 16384) := by show _ ≤ _; omega
  have Mi : (M : Int) ≤ 16384 := by omega
  obtain ⟨R, hR⟩ : ∃ R, readW l (M : Int) = R := ⟨_, rfl⟩
  have hR' : Hid (readGo M (l.drop 0) 0 [] = R) := by
    show _ = _
    rw [← hR]
    unfold readW
    rw [if_neg (by omega)]
    rfl
  rw [hR]
  obtain ⟨n, hn'⟩ : ∃ n, l.length = n := ⟨_, rfl⟩
  have hbyte : Hid (∀ (y : World) (j : Nat), L2 y sp l → j ≤ n → Calls Tryd.prog 28 #[.slice sp n cap, .int .i64 (j : Int)] y fun e w' => e = .returned (.tuple #[.int .u8 (byteL (l.drop j) j).1, .int .i64 (byteL (l.drop j) j).2.1, .int .i64 ((byteL (l.drop j) j).2.2.1 : Int)]) ∧ Below y.heap.size y w') := fun y j h hj => by
    have := rbyte_any y sp cap l j h hn (by omega)
    rw [hn'] at this
    exact this
  rw [hn']
  have hl' : Hid (l.length = n) := hn'
  clear hR h0 h1 hn hn'
  go_enter Tryd.func16, Tryd.ntmps16
  go_wp2
  go_loopw [7, 8, 9, 10, 11, 12] (fun o a i _ _ _ wz => ∃ (j k : Nat) (v : Value) (out : List UInt8) (y : World), y = wz ∧ v = o ∧ a = .int .i64 (j : Int) ∧ i = .int .i64 (k : Int) ∧ Hid (j ≤ n ∧ k ≤ M ∧ out.length = k ∧ readGo (M - k) (l.drop j) j out = R) ∧ Hid (KL 5 1 cB w v out y)) (fun _ _ i _ _ _ _ => (M - intOf i).toNat)
  case atStart => exact ⟨0, 0, _, [], w, rfl, rfl, rfl, rfl, ⟨Nat.zero_le _, Nat.zero_le _, rfl, hR'.out⟩, KL.nil w⟩
  case round =>
    obtain ⟨j, k, v, out, y, rfl, rfl, rfl, rfl, J, K⟩ := hrel
    by_cases hlt : k < M
    · have hki : (k : Int) < M := by omega
      have hlt' : Hid (k < M) := hlt
      have J2 : Hid ((if (byteL (l.drop j) j).2.1 ≠ 0 then ([], (byteL (l.drop j) j).2.1, ((byteL (l.drop j) j).2.2.1 : Int)) else readGo (M - (k + 1)) (byteL (l.drop j) j).2.2.2 (byteL (l.drop j) j).2.2.1 (out ++ [UInt8.ofNat (byteL (l.drop j) j).1.toNat])) = R) := by
        have h := J.out.2.2.2
        rw [show M - k = M - (k + 1) + 1 by omega, readGo_succ] at h
        exact h
      have hb := hbyte.out y j (hl.out.below K.out.low) J.out.1
      have hlo := byteL_lo (l.drop j) j
      have hre : Hid ((byteL (l.drop j) j).2.1 = 0 → (byteL (l.drop j) j).2.2.2 = l.drop (byteL (l.drop j) j).2.2.1 ∧ (byteL (l.drop j) j).2.2.1 ≤ l.length) := byteL_rest l j (by rw [hl'.out]; exact J.out.1)
      obtain ⟨Y, hY⟩ : ∃ Y, byteL (l.drop j) j = Y := ⟨_, rfl⟩
      rw [hY] at J2 hb hlo hre
      obtain ⟨b, e, t, r⟩ := Y
      dsimp only at J2 hb hlo hre
      clear hlt hY
      by_cases he : e = 0
      · subst he
        have hr := hre.out rfl
        rw [hl'.out] at hr
        obtain ⟨hr, htn⟩ := hr
        have htn : Hid (t ≤ n) := htn
        have J3 : Hid (readGo (M - (k + 1)) (l.drop t) t (out ++ [UInt8.ofNat b.toNat]) = R) := by
          have h := J2.out
          rw [if_neg (by simp), hr] at h
          exact h
        have hz : Hid (((UInt8.ofNat b.toNat).toNat : Int) = b) := by
          show _ = _
          rw [UInt8.toNat_ofNat']
          omega
        obtain ⟨z, ez⟩ : ∃ z, UInt8.ofNat b.toNat = z := ⟨_, rfl⟩
        rw [ez] at J3 hz
        obtain rfl : b = ((z.toNat : Nat) : Int) := hz.out.symm
        have hol : Hid (out.length ≤ 16384) := by have := J.out.2.2.1; have := J.out.2.1; have := M1.out; show _ ≤ _; omega
        clear ez hz J2 hre hr hlo
        go_wp2_with (first
          | (go_at_call 28; refine hb.mono ?_; rintro e' y1 ⟨rfl, h2⟩; have K1 : Hid (KL 5 1 cB w v out y1) := K.out.below h2; clear h2)
          | (at_builtin; refine at_appL kByte rfl (.tmp 35) (.tmp 37) rfl w.heap.size v out rfl (K1.out.own.alloc _) y1.heap.size z rfl (bx1 _ _ _) ?_ ?_ ?_; (have := hol.out; omega); (have := K1.out.low.size; simp; omega); intro v' y2 A; have K2 : Hid (KL 5 1 cB w v' (out ++ [z]) y2) := K1.out.add A.out; clear A))
        go_roundw
        case rel => exact ⟨t, k + 1, _, _, _, rfl, rfl, rfl, by simp, ⟨htn.out, hlt'.out, by have := J.out.2.2.1; simp; omega, J3.out⟩, K2⟩
        case measure => have := hlt'.out; simp [intOf]; omega
      · have J3 : Hid (([], e, (t : Int)) = R) := by
          have h := J2.out
          rw [if_pos he] at h
          exact h
        have qe : (e == 0) = false := by simpa using he
        clear he J2 hre hlo
        go_wp2_with (go_at_call 28; refine hb.mono ?_; rintro e' y1 ⟨rfl, h2⟩; have K1 : Hid (KL 5 1 cB w v out y1) := K.out.below h2; clear h2)
        go_ret3
        exact ⟨.slice none 0 0, by rw [← J3.out]; rfl, by rw [← J3.out]; exact (KL.nil y1).base K1.out.low⟩
    · have hke : k = M := by have := J.out.2.1; omega
      subst hke
      have J2 : Hid ((out, 0, 0) = R) := by
        have h := J.out.2.2.2
        rw [Nat.sub_self] at h
        exact h
      clear hlt
      go_wp2
      go_ret3
      exact ⟨v, by rw [← J2.out]; rfl, by rw [← J2.out]; exact K⟩
end Go.Proofs.YtdfjfacilbahkaaDoor
