/- Bytes read off a tape: the program's. -/
import Derived.Test.YtdfjfacilbahkabDoorQh
import Derived.Test.YtdfjfacilbahkabDoorQc
namespace Go.Proofs.YtdfjfacilbahkabDoor
open Go Go.RowKit
set_option linter.unusedVariables false
set_option maxHeartbeats 1000000
set_option maxRecDepth 20000

theorem KL.move {w y z : World} {v : Value} {out : List UInt8} {hb : Nat} {C : Array Value} (h : KL 5 1 cB w v out y) (hk : Bx y hb C 43) (m : Mv hb y z) (hb0 : w.heap.size ≤ hb) : KL 5 1 cB w v out z :=
  ⟨h.own.keepB fun g e => m.oth g (h.own.lt g e).2 fun e' => by
      obtain ⟨cs, hg⟩ := h.own.ty g e
      exact hk.unlike hg (by decide) e'.symm,
    h.low.trans (m.low _ hb0 h.low.size)⟩
theorem App1L.boxH {n0 hb : Nat} {W y : World} {v v' : Value} {C : Array Value} {l : List UInt8} {x : UInt8} (A : App1L 5 1 cB n0 v l x v' W y) (ho : OwnL 5 1 cB n0 W v l) (hk : Bx W hb C 43) : Bx y hb C 43 := by
  refine (A.cu.blk hb (heap_lt hk) fun j hF => ?_).trans hk
  obtain ⟨cs, h⟩ := ho.ty hb hF.1
  exact hk.unlike h (by decide) rfl
/-- A list made with room, and nothing in it. -/
theorem makeL {α : Type} {T t : TypeId} {s bts : Nat} {c : α → List Value} (K : KdL T t s bts c) (y : World) (C : Nat) (hC : C ≤ 10000000000) : ∃ y1, (Instr.makeSlice T (.int .i64 0) (.int .i64 (C : Int))).run Tryd.prog y = .ok (.slice (some ⟨y.heap.size, 0, none⟩) 0 C) y1 ∧ KL t s c y (.slice (some ⟨y.heap.size, 0, none⟩) 0 C) ([] : List α) y1 := by
  obtain ⟨i, z, hi, hz0, hz1, hz2, hz3⟩ := K.i
  obtain ⟨y1, h1, h2, h3⟩ := run_make_own (P := Tryd.prog) y y.heap.size T t i z s K.u hi hz0 hz1 .i64 .i64 C (by rw [hz2]; exact Nat.le_trans (Nat.mul_le_mul K.b0 hC) (by decide)) (by unfold maxLen; omega) (Nat.le_refl _)
  exact ⟨y1, h1, h2, ⟨h3.os, h3.tape, h3.output, h3.size, fun k hk => h3.block k hk (by simp)⟩⟩
theorem bytes_any (w : World) (y0 : World) (hb : Nat) (sp : Option Addr) (n cap M : Nat) (l : List (Int × Int)) (hl : Hid (L2 w sp l)) (hln : Hid (l.length = n)) (hn : (n : Int) ≤ 9223372036854775807) (hM : Hid (M ≤ 16384)) (hw : Hid (Below w.heap.size w y0)) (hb0 : Hid (w.heap.size ≤ hb)) (hB : Hid (Bx y0 hb (hdC sp n cap 0) 43)) :
    Calls Tryd.prog 9 #[.pointer (some ⟨hb, 0, none⟩), .int .i64 (M : Int)] y0 fun e z => ∃ v, e = .returned (.tuple #[v, errV (readGo M l 0 []).2.1 (readGo M l 0 []).2.2.toNat]) ∧ Hid (KL 5 1 cB w v (readGo M l 0 []).1 z) := by
  obtain ⟨R, hR⟩ : ∃ R, readGo M l 0 [] = R := ⟨_, rfl⟩
  rw [hR]
  have st : Hid (readGo (M - 0) (l.drop 0) 0 [] = R) := hR
  have Mi : (M : Int) ≤ 16384 := by have := hM.out; omega
  obtain ⟨y1, hmk, hk1⟩ := makeL kByte y0 M (by have := hM.out; omega)
  have K0 : Hid (KL 5 1 cB w (.slice (some ⟨y0.heap.size, 0, none⟩) 0 M) [] y1 ∧ Bx y1 hb (hdC sp n cap 0) 43) := ⟨hk1.base hw.out, (hk1.low.block hb (heap_lt hB.out)).trans hB.out⟩
  have hbyte : Hid (∀ (y : World) (j : Nat), Below w.heap.size w y → j ≤ n → Bx y hb (hdC sp n cap j) 43 → Calls Tryd.prog 13 #[.pointer (some ⟨hb, 0, none⟩)] y fun e z => e = .returned (.tuple #[.int .u8 (byteL (l.drop j) j).1, errV (byteL (l.drop j) j).2.1 (byteL (l.drop j) j).2.2.1]) ∧ Hid (Mv hb y z ∧ ((byteL (l.drop j) j).2.1 = 0 → Bx z hb (hdC sp n cap (byteL (l.drop j) j).2.2.1) 43))) := fun y j h1 hj h2 => byte_any w y hb sp n cap j l hl hln hn hj h1 hb0 h2
  obtain ⟨v0, hv0⟩ : ∃ v, Value.slice (some ⟨y0.heap.size, 0, none⟩) 0 M = v := ⟨_, rfl⟩
  rw [hv0] at hmk K0
  clear hR hk1 hv0
  go_enter Tryd.func9, Tryd.ntmps9
  go_wp2
  go_loopw [6, 12] (fun o i wz => ∃ (j k : Nat) (v : Value) (out : List UInt8) (y : World), y = wz ∧ v = o ∧ i = .int .i64 (k : Int) ∧ Hid (j ≤ n ∧ k ≤ M ∧ out.length = k ∧ readGo (M - k) (l.drop j) j out = R) ∧ Hid (KL 5 1 cB w v out y ∧ Bx y hb (hdC sp n cap j) 43)) (fun _ i _ => (M - intOf i).toNat)
  case atStart => exact ⟨0, 0, _, [], y1, rfl, rfl, rfl, ⟨Nat.zero_le _, Nat.zero_le _, rfl, st.out⟩, K0⟩
  case round =>
    obtain ⟨j, k, v, out, y, rfl, rfl, rfl, J, K⟩ := hrel
    by_cases hlt : k < M
    · have hki : (k : Int) < M := by omega
      have hlt' : Hid (k < M) := hlt
      have J2 : Hid ((if (byteL (l.drop j) j).2.1 ≠ 0 then ([], (byteL (l.drop j) j).2.1, ((byteL (l.drop j) j).2.2.1 : Int)) else readGo (M - (k + 1)) (byteL (l.drop j) j).2.2.2 (byteL (l.drop j) j).2.2.1 (out ++ [UInt8.ofNat (byteL (l.drop j) j).1.toNat])) = R) := by
        have h := J.out.2.2.2
        rw [show M - k = M - (k + 1) + 1 by omega, readGo_succ] at h
        exact h
      have hb1 := hbyte.out y j K.out.1.low J.out.1 K.out.2
      have hlo := byteL_lo (l.drop j) j
      have hre : Hid ((byteL (l.drop j) j).2.1 = 0 → (byteL (l.drop j) j).2.2.2 = l.drop (byteL (l.drop j) j).2.2.1 ∧ (byteL (l.drop j) j).2.2.1 ≤ l.length) := byteL_rest l j (by rw [hln.out]; exact J.out.1)
      obtain ⟨Y, hY⟩ : ∃ Y, byteL (l.drop j) j = Y := ⟨_, rfl⟩
      rw [hY] at J2 hb1 hlo hre
      obtain ⟨b, e, t, r⟩ := Y
      dsimp only at J2 hb1 hlo hre
      clear hlt hY
      by_cases he : e = 0
      · subst he
        have hr := hre.out rfl
        rw [hln.out] at hr
        obtain ⟨hr, htn⟩ := hr
        have htn : Hid (t ≤ n) := htn
        have J3 : Hid (readGo (M - (k + 1)) (l.drop t) t (out ++ [UInt8.ofNat b.toNat]) = R) := by
          have h := J2.out
          rw [if_neg (by simp), hr] at h
          exact h
        have hz : Hid (((UInt8.ofNat b.toNat).toNat : Int) = b) := by
          show _ = _
          rw [UInt8.toNat_ofNat']
          omega
        obtain ⟨z, ez⟩ : ∃ z, UInt8.ofNat b.toNat = z := ⟨_, rfl⟩
        rw [ez] at J3 hz
        obtain rfl : b = ((z.toNat : Nat) : Int) := hz.out.symm
        have hol : Hid (out.length ≤ 16384) := by have := J.out.2.2.1; have := J.out.2.1; have := hM.out; show _ ≤ _; omega
        have hb2 : Calls Tryd.prog 13 #[.pointer (some ⟨hb, 0, none⟩)] y fun e y1 => e = .returned (.tuple #[.int .u8 ((z.toNat : Nat) : Int), .nilIface]) ∧ Hid (KL 5 1 cB w v out y1 ∧ Bx y1 hb (hdC sp n cap t) 43) := hb1.mono fun e y1 ⟨h1, h2⟩ => ⟨h1, K.out.1.move K.out.2 h2.out.1 hb0.out, h2.out.2 rfl⟩
        clear ez hz J2 hre hr hlo hb1
        go_wp2_with (first
          | (go_at_call 13; refine hb2.mono ?_; rintro e' y1 ⟨rfl, K1⟩)
          | (at_builtin; refine at_appL kByte rfl (.tmp 22) (.tmp 24) rfl w.heap.size v out rfl (K1.out.1.own.alloc _) y1.heap.size z rfl (bx1 _ _ _) ?_ ?_ ?_; (have := hol.out; omega); (have := K1.out.1.low.size; simp; omega); intro v' y2 A; have K2 : Hid (KL 5 1 cB w v' (out ++ [z]) y2 ∧ Bx y2 hb (hdC sp n cap t) 43) := ⟨K1.out.1.add A.out, A.out.boxH (K1.out.1.own.alloc _) (((below1 _ _).block hb (heap_lt K1.out.2)).trans K1.out.2)⟩; clear A))
        go_roundw
        case rel => exact ⟨t, k + 1, _, _, _, rfl, rfl, by simp, ⟨htn.out, hlt'.out, by have := J.out.2.2.1; simp; omega, J3.out⟩, K2⟩
        case measure => have := hlt'.out; simp [intOf]; omega
      · have J3 : Hid (R = ([], e, (t : Int))) := by
          have h := J2.out
          rw [if_pos he] at h
          exact h.symm
        have hb2 : Calls Tryd.prog 13 #[.pointer (some ⟨hb, 0, none⟩)] y fun e' y1 => e' = .returned (.tuple #[.int .u8 b, fltV e t]) ∧ Hid (Below w.heap.size w y1) := hb1.mono fun e y1 ⟨h1, h2⟩ => ⟨by rw [h1]; unfold errV; rw [if_neg he], (K.out.1.move K.out.2 h2.out.1 hb0.out).low⟩
        have qv : Hid (errV R.2.1 R.2.2.toNat = fltV e t ∧ R.1 = []) := by rw [J3.out]; exact ⟨by unfold errV; rw [if_neg he]; rfl, rfl⟩
        clear he J2 hre hlo hb1 J3
        go_wp2_with (go_at_call 13; refine hb2.mono ?_; rintro e' y1 ⟨rfl, K1⟩; dsimp only [fltV])
        go_ret2
        exact ⟨.slice none 0 0, by rw [qv.out.1]; rfl, by rw [qv.out.2]; exact (KL.nil y1).base K1.out⟩
    · have hke : k = M := by have := J.out.2.1; omega
      subst hke
      have J2 : Hid (R = (out, 0, 0)) := by
        have h := J.out.2.2.2
        rw [Nat.sub_self] at h
        exact h.symm
      have qv : Hid (errV R.2.1 R.2.2.toNat = .nilIface ∧ R.1 = out) := by rw [J2.out]; exact ⟨rfl, rfl⟩
      clear hlt
      go_wp2
      go_ret2
      exact ⟨v, by rw [qv.out.1]; rfl, by rw [qv.out.2]; exact K.out.1⟩
theorem readGo_at (n : Nat) : ∀ (l : List (Int × Int)) (i : Nat) (out : List UInt8), 0 ≤ (readGo n l i out).2.2 ∧ ((readGo n l i out).2.1 = 0 → (readGo n l i out).2.2 = 0) := by
  induction n with
  | zero => intro l i out; simp [readGo]
  | succ n ih =>
    intro l i out
    rw [readGo_succ]
    split
    · rename_i h
      exact ⟨by simp, fun h2 => absurd h2 h⟩
    · exact ih _ _ _
theorem readGo_err (n : Nat) : ∀ (l : List (Int × Int)) (i : Nat) (out : List UInt8), (readGo n l i out).2.1 ≠ 0 → (readGo n l i out).1 = [] := by
  induction n with
  | zero => intro l i out h; simp [readGo] at h
  | succ n ih =>
    intro l i out
    rw [readGo_succ]
    split
    · intro _; rfl
    · exact ih _ _ _
theorem pread_any (w : World) (T : Hid (Tq w)) (sp : Option Addr) (cap : Nat) (l : List (Int × Int)) (m : Int) (hl : Hid (L2 w sp l)) (hn : l.length ≤ 9223372036854775807) :
    Calls Tryd.prog 6 #[.slice sp l.length cap, .int .i64 m] w fun e w' => ∃ v, e = .returned (.tuple #[v, .int .i64 (readW l m).2.1, .int .i64 (readW l m).2.2]) ∧ Hid (KL 5 1 cB w v (readW l m).1 w') := by
  by_cases h0 : m < 0
  · have e : readW l m = ([], 1, 0) := by unfold readW; rw [if_pos (.inl h0)]
    rw [e]
    have q : decide (m < 0) = true := by simpa using h0
    clear h0 e
    go_enter Tryd.func6, Tryd.ntmps6
    go_wp2
    go_ret3
    exact ⟨_, rfl, KL.nil w⟩
  have q0 : decide (m < 0) = false := by simpa using h0
  by_cases h1 : 16384 < m
  · have e : readW l m = ([], 1, 0) := by unfold readW; rw [if_pos (.inr h1)]
    rw [e]
    have q : decide (16384 < m) = true := by simpa using h1
    clear h0 h1 e
    go_enter Tryd.func6, Tryd.ntmps6
    go_wp2
    go_ret3
    exact ⟨_, rfl, KL.nil w⟩
  have q1 : decide (16384 < m) = false := by simpa using h1
  obtain ⟨M, rfl⟩ : ∃ M : Nat, m = (M : Int) := ⟨m.toNat, by omega⟩
  have hM : Hid (M ≤ 16384) := by show _ ≤ _; omega
  have eR : readW l (M : Int) = readGo M l 0 [] := by unfold readW; rw [if_neg (by omega), Int.toNat_natCast]
  rw [eR]
  have hpos := readGo_at M l 0 []
  have herr : Hid ((readGo M l 0 []).2.1 ≠ 0 → (readGo M l 0 []).1 = []) := readGo_err M l 0 []
  obtain ⟨n, hn'⟩ : ∃ n, l.length = n := ⟨_, rfl⟩
  rw [hn']
  have F1 : Hid (Fm w [(w.heap.size, #[.slice sp n cap, .int .i64 0], 43)] (w.alloc (.cells #[.slice sp n cap, .int .i64 0] 43))) := Fm.one w _ _
  have hBy : Hid (∀ y, Below w.heap.size w y → Bx y w.heap.size #[.slice sp n cap, .int .i64 0] 43 → Calls Tryd.prog 9 #[.pointer (some ⟨w.heap.size, 0, none⟩), .int .i64 (M : Int)] y fun e z => ∃ v, e = .returned (.tuple #[v, errV (readGo M l 0 []).2.1 (readGo M l 0 []).2.2.toNat]) ∧ Hid (KL 5 1 cB w v (readGo M l 0 []).1 z)) := fun y h1 h2 =>
    bytes_any w y w.heap.size sp n cap M l hl hn' (by omega) hM h1 (Nat.le_refl _) h2
  obtain ⟨⟨O, E, A⟩, hO⟩ : ∃ x, readGo M l 0 [] = x := ⟨_, rfl⟩
  rw [hO] at hBy hpos herr ⊢
  dsimp only at hBy hpos herr ⊢
  obtain ⟨N, rfl⟩ : ∃ N : Nat, A = (N : Int) := ⟨A.toNat, by omega⟩
  rw [Int.toNat_natCast] at hBy
  have zf : ∀ w, (zeroValue 46).run Tryd.prog w = .ok (.agg #[.int .i64 0, .int .i64 0]) w := fun w => by kernel_rfl
  have Mi : (M : Int) ≤ 16384 := by omega
  clear hO eR h0 h1 hn hn'
  by_cases hE : E = 0
  · subst hE
    obtain rfl : N = 0 := by have := hpos.2 rfl; omega
    have qe : errV 0 0 = .nilIface := rfl
    rw [qe] at hBy
    clear hpos herr qe
    go_enter Tryd.func6, Tryd.ntmps6
    go_wp2_with (first
      | (go_at_call 9; refine (hBy.out _ F1.out.low (F1.out.bx 0 _ _ _ rfl)).mono ?_; rintro e y2 ⟨v, rfl, K2⟩)
      | (go_at_call 10; refine (as_nil _ _).mono ?_; rintro e y3 ⟨rfl, rfl⟩))
    go_ret3
    exact ⟨v, rfl, K2.out.below (below1 _ _)⟩
  · have qe : errV E N = fltV E N := by unfold errV; rw [if_neg hE]
    rw [qe] at hBy
    obtain rfl : O = [] := herr.out hE
    clear hpos herr qe hE
    go_enter Tryd.func6, Tryd.ntmps6
    go_wp2_with (first
      | (go_at_call 9; refine (hBy.out _ F1.out.low (F1.out.bx 0 _ _ _ rfl)).mono ?_; rintro e y2 ⟨v, rfl, K2⟩; dsimp only [fltV])
      | (go_at_call 10; refine (as_any E N y2.heap.size (.int .i64 0) (.int .i64 0) _ ((T.out.below K2.out.low).below (below1 _ _)) (bx1 _ _ _)).mono ?_; rintro e y3 ⟨rfl, H3⟩; have d0 := H3.out.1.c 0 _ rfl; have d1 := H3.out.1.c 1 _ rfl))
    go_quiet (fail)
    go_wp2
    go_ret3
    exact ⟨.slice none 0 0, rfl, (KL.nil _).base (below_drewN ((K2.out.low.alloc K2.out.low.size _).trans (H3.out.2 _ K2.out.low.size)))⟩
end Go.Proofs.YtdfjfacilbahkabDoor
