/- Waves read: the statement's walk. -/
import Derived.Test.YtdfjfacilbahkaaDoorUr
import Derived.Test.YtdfjfacilbahkaaDoorUq
namespace Go.Proofs.YtdfjfacilbahkaaDoor
open Go Go.RowKit
set_option linter.unusedVariables false
set_option maxHeartbeats 2000000
set_option maxRecDepth 20000

theorem readGo_len (k : Nat) : ∀ (l : List (Int × Int)) (i : Nat) (out : List UInt8), (readGo k l i out).1.length ≤ out.length + k := by
  induction k with
  | zero => intro l i out; simp [readGo]
  | succ k ih =>
    intro l i out
    rw [readGo_succ]
    split
    · simp
    · refine Nat.le_trans (ih _ _ _) ?_
      simp
      omega
theorem readW_len (l : List (Int × Int)) (n : Int) : (readW l n).1.length ≤ 16384 := by
  unfold readW
  split
  · simp
  · have := readGo_len n.toNat l 0 []
    simp at this
    omega
theorem reads_walk (w : World) (T : Hid (Tq w)) (sp : Option Addr) (cap : Nat) (l : List (Int × Int)) (r : Int) (hl : Hid (L2 w sp l)) (hn : l.length ≤ maxLen) :
    Calls Tryd.prog 5 #[.slice sp l.length cap, .int .i64 r] w fun e w' => e = .returned (.bool true) ∧ Below w.heap.size w w' := by
  have hn : l.length ≤ 9223372036854775807 := by unfold maxLen at hn; omega
  obtain ⟨n, hn'⟩ : ∃ n, l.length = n := ⟨_, rfl⟩
  have ni : (n : Int) ≤ 9223372036854775807 := by omega
  by_cases hbig : 2147483647 < n
  · have q : decide ((2147483647 : Int) < n) = true := by simp; omega
    rw [hn']
    clear hbig hn hn'
    go_enter Tryd.func5, Tryd.ntmps5
    go_wp2
    go_ret
    exact ⟨rfl, Below.refl _ _⟩
  have q : decide ((2147483647 : Int) < n) = false := by simp; omega
  have hP : Hid (∀ (y : World) (p : Option Addr) (c : Nat), Tq y → L2 y p l → Calls Tryd.prog 14 #[.slice p n c, .int .i64 r] y fun e w' => ∃ v, e = .returned (.tuple #[v, .int .i64 (readW l r).2.1, .int .i64 (readW l r).2.2]) ∧ Hid (KL 5 1 cB y v (readW l r).1 w')) := fun y p c ht h => by
    have := pread_any y ht p c l r h (by omega)
    rw [hn'] at this
    exact this
  have hR : Hid (∀ (y : World), L2 y sp l → Calls Tryd.prog 16 #[.slice sp n cap, .int .i64 r] y fun e w' => ∃ v, e = .returned (.tuple #[v, .int .i64 (readW l r).2.1, .int .i64 (readW l r).2.2]) ∧ Hid (KL 5 1 cB y v (readW l r).1 w')) := fun y h => by
    have := rread_any y sp cap l r h (by omega)
    rw [hn'] at this
    exact this
  have hbl : (readW l r).1.length ≤ 16384 := readW_len l r
  obtain ⟨g, hg⟩ : ∃ g, w.heap.size = g := ⟨_, rfl⟩
  have hLent : Hid (Calls Tryd.prog 13 #[.slice sp n cap] w fun e w' => e = .returned (.slice (some ⟨g, 0, none⟩) n (n + 1)) ∧ Hid (LntW w g l w')) := by
    have := lent_any w sp cap l hl (by omega)
    rw [hn', hg] at this
    exact this
  have hBack : Hid (∀ y : World, LntW w g l y → L2 y sp l → Calls Tryd.prog 15 #[.slice (some ⟨g, 0, none⟩) n (n + 1), .slice sp n cap] y fun e w' => e = .returned (.bool true) ∧ Hid (CuL w.heap.size (fun q _ => q = g) y w')) := fun y h1 h2 => by
    have := back_any w y g sp cap l (by omega) h1 h2 (by omega)
    rw [hn'] at this
    exact this
  rw [hn']
  obtain ⟨⟨BL, E, A0⟩, hBL⟩ : ∃ x, readW l r = x := ⟨_, rfl⟩
  rw [hBL] at hP hR hbl
  dsimp only at hP hR hbl
  obtain ⟨m, hm⟩ : ∃ m, BL.length = m := ⟨_, rfl⟩
  have hm' : Hid (BL.length = m) := hm
  have mi : (m : Int) ≤ 16384 := by omega
  have hmb : Hid (m ≤ 16384) := by show m ≤ 16384; omega
  obtain ⟨S, hS⟩ : ∃ S : ByteArray, (⟨BL.toArray⟩ : ByteArray) = S := ⟨_, rfl⟩
  have hcv : Hid (∀ (y : World) (p : Option Addr) (c : Nat), LB y p BL → (convert 23 9 (.slice p m c)).run Tryd.prog y = .ok (.string S) y) := fun y p c h => by rw [← hS, ← hm]; exact LB.conv h c
  have qE : (E != E) = false := by simp
  have qA : (A0 != A0) = false := by simp
  have hg' : Hid (w.heap.size = g) := hg
  clear hbig hn hn' hBL hm hbl hS hg
  go_enter Tryd.func5, Tryd.ntmps5
  go_wp2_with (first
    | (go_at_call 16; refine (hR.out y4 (hl.out.below L4.out)).mono ?_; rintro e y5 ⟨vc, rfl, H5⟩; refine stopAt ?_)
    | (go_at_call 14; refine (hP.out y3 sp cap (T.out.below L3.out) (hl.out.below L3.out)).mono ?_; rintro e y4 ⟨vb, rfl, H4⟩; have L4 : Hid (Below w.heap.size w y4) := L3.out.trans (H4.out.low.mono L3.out.size))
    | (go_at_call 15; refine (hBack.out y2 N2.out (hl.out.below N2.out.low)).mono ?_; rintro e y3 ⟨rfl, C3⟩; have L3 : Hid (Below w.heap.size w y3) := N2.out.low.trans C3.out.low)
    | (go_at_call 14; refine (hP.out y1 (some ⟨g, 0, none⟩) (n + 1) (T.out.below H1.out.low) (H1.out.lies kWave.len)).mono ?_; rintro e y2 ⟨va, rfl, H2⟩; have N2 : Hid (LntW w g l y2) := H1.out.below H2.out.low)
    | (go_at_call 13; refine hLent.out.mono ?_; rintro e y1 ⟨rfl, H1⟩))
  have Ka : KL 5 1 cB w va BL y3 := by
    have h1 := H2.out.base H1.out.low
    refine ⟨h1.own.cu C3.out fun q j e hF => ?_, L3.out⟩
    have a := (H2.out.own.lt q e).1
    have b := heap_lt H1.out.bx
    omega
  obtain ⟨T0, dab, dac, dbc⟩ := T3.made Ka H4.out H5.out
  replace T0 : Hid _ := T0
  obtain ⟨pa, ca, rfl, la, aa, oa, _⟩ := T0.out.a.open kByte.len
  obtain ⟨pb, cb, rfl, lb, ab, ob, _⟩ := T0.out.b.open kByte.len
  obtain ⟨pc, cc, rfl, lc, ac, oc, _⟩ := T0.out.c.open kByte.len
  rw [hm'.out] at T0 dab dac dbc oa ob oc ⊢
  have Pa : Hid (∀ j, j < m → ∃ g, pa = some ⟨g, 0, none⟩) := fun j hj => ptr_of (k := 0) (d := 0) la (fun a e => (aa a e).1) j (by rw [hm'.out]; exact hj)
  have lies3 : Hid (∀ (xs : List UInt8) (va : Value) (z : World), T3 5 1 cB w va (.slice pb m cb) (.slice pc m cc) xs BL BL z → LB z pb BL ∧ LB z pc BL) := fun xs va z h => by
    obtain ⟨p1, k1, e1, l1, _⟩ := h.b.open kByte.len
    obtain ⟨p2, k2, e2, l2, _⟩ := h.c.open kByte.len
    rw [hm'.out] at e1 e2
    cases e1
    cases e2
    exact ⟨l1, l2⟩
  have la' : Hid (LB y5 pa BL) := la
  replace dab : Hid _ := dab
  replace dac : Hid _ := dac
  replace dbc : Hid _ := dbc
  clear la lb lc aa ab ac oa ob oc H1 H2 H4 H5 Ka C3 L3 L4 N2 hP hR hl hLent hBack
  refine Stop.go ?_
  have v1 := hcv.out y5 pa ca la'.out
  have v2 := hcv.out y5 pb cb (lies3.out _ _ _ T0.out).1
  have v3 := hcv.out y5 pc cc (lies3.out _ _ _ T0.out).2
  go_wp2
  have T1 : Hid (T3 5 1 cB w (.slice pa m ca) (.slice pb m cb) (.slice pc m cc) BL BL BL y5) := T0.out
  clear T0 la' v1 v2 v3
  go_loopw [15] (fun i wz => ∃ (k : Nat) (z : World) (xs : List UInt8), z = wz ∧ i = .int .i64 (k : Int) ∧ Hid (k ≤ m ∧ xs.length = m) ∧ Hid (T3 5 1 cB w (.slice pa m ca) (.slice pb m cb) (.slice pc m cc) xs BL BL z)) (fun i _ => (m - intOf i).toNat)
  case atStart => exact ⟨0, _, BL, rfl, rfl, ⟨Nat.zero_le _, hm'.out⟩, T1⟩
  case round =>
    obtain ⟨k, z, xs, rfl, rfl, J, K⟩ := hrel
    by_cases hlt : k < m
    · obtain ⟨gA, rfl⟩ := Pa.out k hlt
      obtain ⟨K2, hth⟩ := K.out.set kByte.len (dab.out gA rfl) (dac.out gA rfl) k (by rw [J.out.2]; exact hlt) 7
      rw [Nat.mul_one] at K2 hth
      have ij := fun u => idxB gA 0 m ca k hlt u
      simp only [Nat.zero_add] at ij
      have hK2 : Hid (T3 5 1 cB w (.slice (some ⟨gA, 0, none⟩) m ca) (.slice pb m cb) (.slice pc m cc) (xs.set k 7) BL BL (z.setCell ⟨gA, k, none⟩ (.int .u8 7))) := K2
      obtain ⟨t1, t2⟩ := hth 0 (by decide)
      rw [Nat.add_zero] at t1 t2
      obtain ⟨u7, t1⟩ := Option.isSome_iff_exists.1 t1
      have hki : (k : Int) < m := by omega
      have hlt' : Hid (k < m) := hlt
      clear hlt K2 hth
      go_wp2
      go_roundw
      case rel => exact ⟨k + 1, _, _, rfl, by simp, ⟨hlt'.out, by rw [List.length_set]; exact J.out.2⟩, hK2⟩
      case measure => have := hlt'.out; simp [intOf]; omega
    · have hke : k = m := by have := J.out.1; omega
      have hxl : Hid (xs.length = m) := J.out.2
      have hji : ¬ (k : Int) < m := by omega
      have hys : Hid (w.heap.size ≤ z.heap.size) := K.out.low.size
      clear hlt J T1 Pa hke
      go_wp2
      go_loopw [16, 17] (fun x i wz => ∃ (j : Nat) (vx : Value) (u : World), u = wz ∧ vx = x ∧ i = .int .i64 (j : Int) ∧ Hid (j ≤ 40) ∧ Hid (T3 5 1 cB w vx (.slice pb m cb) (.slice pc m cc) (groL xs (8 : UInt8) j) BL BL u ∧ (∀ g, vx.ownBlock = some g → (Value.slice pb m cb).ownBlock ≠ some g) ∧ (∀ g, vx.ownBlock = some g → (Value.slice pc m cc).ownBlock ≠ some g))) (fun _ i _ => (40 - intOf i).toNat)
      case atStart => exact ⟨0, _, _, rfl, rfl, rfl, (show 0 ≤ 40 by omega), ⟨by rw [groL_zero]; exact K.out, dab.out, dac.out⟩⟩
      case round =>
        obtain ⟨j, vx, u, rfl, rfl, rfl, J2, D⟩ := hrel
        by_cases hlt : j < 40
        · have hlt' : Hid (j < 40) := hlt
          have hji2 : (j : Int) < 40 := by omega
          have hl1 : Hid ((groL xs (8 : UInt8) j).length ≤ 2147483700) := by rw [groL_len, hxl.out]; show _ ≤ _; have := hmb.out; omega
          have hg1 : Hid (groL xs (8 : UInt8) (j + 1) = groL xs (8 : UInt8) j ++ [8]) := groL_succ _ _ _
          obtain ⟨GX, hGX⟩ : ∃ x, groL xs (8 : UInt8) j = x := ⟨_, rfl⟩
          rw [hGX] at D hl1 hg1
          clear hlt hGX
          go_wp2_with (at_builtin; refine at_appL kByte rfl (.tmp 89) (.tmp 90) rfl w.heap.size vx GX rfl (D.out.1.a.alloc _) u.heap.size 8 rfl (bx1 _ _ _) ?_ ?_ ?_; (have := hl1.out; omega); (have := D.out.1.low.size; simp; omega); intro vx' u1 A; have D1 : Hid _ := D.out.1.addA D.out.2.1 D.out.2.2 A.out; clear A)
          go_roundw
          case rel => exact ⟨j + 1, _, _, rfl, rfl, by simp, hlt'.out, by rw [hg1.out]; exact D1⟩
          case measure => have := hlt'.out; simp [intOf]; omega
        · have hje : j = 40 := by have := J2.out; omega
          subst hje
          rw [show ((40 : Nat) : Int) = 40 from rfl]
          obtain ⟨px, cx, rfl, lx, _⟩ := D.out.1.a.open kByte.len
          rw [groL_len, hxl.out]
          have ls := lies3.out _ _ _ D.out.1
          have lowU : Hid (Below w.heap.size w u) := D.out.1.low
          have v2 := hcv.out u pb cb ls.1
          have v3 := hcv.out u pc cc ls.2
          clear lx hlt D J2 ls
          go_wp2_with (go_at_call 9; refine (awake_any u (T.out.below lowU.out)).mono ?_; rintro e z7 ⟨rfl, h7⟩; replace h7 : Hid _ := h7)
          go_ret
          exact ⟨by first | rfl | simp, lowU.out.trans (h7.out.mono lowU.out.size)⟩
end Go.Proofs.YtdfjfacilbahkaaDoor
