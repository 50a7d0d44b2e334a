/- The statement on Pack: the walk. -/
import Derived.Test.YtoajmicdphffnaaDoorJb0
namespace Go.Proofs.YtoajmicdphffnaaDoor
open Go Go.RowKit
set_option linter.unusedVariables false
set_option maxHeartbeats 2000000
set_option maxRecDepth 20000

theorem packs_walk (w : World) (tb : Hid (Tp w)) (sp : Option Addr) (cap : Nat) (l : List Rc) (hl : Hid (LiesR w sp l)) (hn : l.length ≤ maxLen) (hk : Hid (AllG l)) :
    Calls Tryd.prog 6 #[.slice sp l.length cap] w fun e w' => e = .returned (.bool true) ∧ Below w.heap.size w w' := by
  have hn : l.length ≤ 9223372036854775807 := by unfold maxLen at hn; omega
  obtain ⟨n, hn'⟩ : ∃ n, l.length = n := ⟨_, rfl⟩
  have ni : (n : Int) ≤ 9223372036854775807 := by omega
  by_cases hbig : 2147483647 < n
  · have q : decide ((2147483647 : Int) < n) = true := by simp; omega
    rw [hn']
    clear hbig hn hn'
    go_enter Tryd.func6, Tryd.ntmps6
    go_wp2
    go_ret
    exact ⟨rfl, Below.refl _ _⟩
  have q : decide ((2147483647 : Int) < n) = false := by simp; omega
  have hL := lent_any w sp cap l hl (by omega)
  have hP : Hid (∀ (y : World) (g : Nat), LiesR y (some ⟨g, 0, none⟩) l → Calls Tryd.prog 17 #[.slice (some ⟨g, 0, none⟩) n (n + 1)] y fun e w' => ∃ v, e = .returned (.tuple #[v, .int .i64 (checkR l)]) ∧ Hid (KB y v (packB l) w')) := fun y g h => by
    have := ppack_any y (some ⟨g, 0, none⟩) (n + 1) l h hn hk
    rw [hn'] at this
    exact this
  have hP2 : Hid (∀ (y : World), LiesR y sp l → Calls Tryd.prog 17 #[.slice sp n cap] y fun e w' => ∃ v, e = .returned (.tuple #[v, .int .i64 (checkR l)]) ∧ Hid (KB y v (packB l) w')) := fun y h => by
    have := ppack_any y sp cap l h hn hk
    rw [hn'] at this
    exact this
  have hR : Hid (∀ y : World, LiesR y sp l → Calls Tryd.prog 18 #[.slice sp n cap] y fun e w' => ∃ v, e = .returned (.tuple #[v, .int .i64 (checkR l)]) ∧ Hid (KB y v (packB l) w')) := fun y h => by
    have := rpack_any y sp cap l h hn hk
    rw [hn'] at this
    exact this
  have hBk : Hid (∀ (y : World) (g : Nat), w.heap.size ≤ g → LntR w g l y → LiesR y sp l → Calls Tryd.prog 13 #[.slice (some ⟨g, 0, none⟩) n (n + 1), .slice sp n cap] y fun e w' => e = .returned (.bool true) ∧ Cu w.heap.size (fun q _ => q = g) y w') := fun y g h1 h2 h3 => by
    have := back_any w y g sp cap l h1 h2 h3 (by omega)
    rw [hn'] at this
    exact this
  rw [hn'] at hL ⊢
  have hPl := pack_len l
  obtain ⟨PL, hPL⟩ : ∃ x, packB l = x := ⟨_, rfl⟩
  obtain ⟨PE, hPE⟩ : ∃ x, checkR l = x := ⟨_, rfl⟩
  rw [hPL, hPE] at hP hP2 hR
  rw [hPL] at hPl
  obtain ⟨m, hm⟩ : ∃ m, PL.length = m := ⟨_, rfl⟩
  have hm' : Hid (PL.length = m) := hm
  have mi : (m : Int) ≤ 20971528 := by omega
  have hSame : Hid (∀ (y : World) (pa pb : Option Addr) (ca cb : Nat), LiesB y pa PL → LiesB y pb PL → Calls Tryd.prog 19 #[.slice pa m ca, .slice pb m cb] y fun e w' => e = .returned (.bool true) ∧ w' = y) := fun y pa pb ca cb h1 h2 => by
    have := sameB_any y pa pb ca cb PL PL h1 h2
    rw [hm, beq_self_eq_true] at this
    exact this
  have qe : (PE != PE) = false := by simp
  clear hbig hn hn' hPL hPE hPl hm
  go_enter Tryd.func6, Tryd.ntmps6
  go_wp2_with (first
    | (go_at_call 10; refine hL.mono ?_; rintro e y1 ⟨rfl, L1⟩)
    | (go_at_call 18; refine (hR.out y4 (hl.out.below K4.out)).mono ?_; rintro e y5 ⟨vc, rfl, H5⟩; refine stopAt ?_)
    | (go_at_call 17; refine (hP2.out y3 (hl.out.below K3.out)).mono ?_; rintro e y4 ⟨vb, rfl, H4⟩; have K4 : Hid (Below w.heap.size w y4) := K3.out.trans (H4.out.2.mono K3.out.size))
    | (go_at_call 17; refine (hP.out y1 _ L1.out.lies).mono ?_; rintro e y2 ⟨va, rfl, H2⟩; have L2 : Hid (LntR w w.heap.size l y2) := L1.out.below H2.out.2)
    | (go_at_call 13; refine (hBk.out y2 _ (Nat.le_refl _) L2.out (hl.out.below L2.out.low)).mono ?_; rintro e y3 ⟨rfl, H3⟩; have K3 : Hid (Below w.heap.size w y3) := L2.out.low.trans H3.low; have O3 : Hid (OwnB w.heap.size y3 va PL ∧ ∀ g, va.ownBlock = some g → g < y3.heap.size) := (by have h1 := (KB.owb (w := w) H2.out L1.out.low.size); have h2 : ∀ g, va.ownBlock = some g → y1.heap.size ≤ g := fun g e => (World.ownsRow.lt H2.out.1 g e).1; have h4 := heap_lt L1.out.bx; have h3 : OwnB w.heap.size y3 va PL := h1.keep (fun g e => H3.blk g (World.ownsRow.lt h1 g e).2 (fun _ hq => by have := h2 g e; omega)); exact ⟨h3, fun g e => (World.ownsRow.lt h3 g e).2⟩); clear H3))
  refine Stop.go ?_
  have K5 : Hid (Below w.heap.size w y5) := K4.out.trans (H5.out.2.mono K4.out.size)
  have P0 : Hid (P3 w.heap.size va vb vc PL PL y5) := by
    have a1 := (O3.out.1.below H4.out.2).below H5.out.2
    have b1 := (KB.owb (w := w) H4.out K3.out.size).below H5.out.2
    have c1 := KB.owb (w := w) H5.out K4.out.size
    refine ⟨a1, b1, c1, fun g e1 e2 => ?_, fun g e1 e2 => ?_⟩
    · have h1 := O3.out.2 g e1
      have h2 := (World.ownsRow.lt H4.out.1 g e2).1
      omega
    · have h1 := O3.out.2 g e1
      have h2 := (World.ownsRow.lt H5.out.1 g e2).1
      have h3 := H4.out.2.size
      omega
  obtain ⟨pa, ca, rfl, xa, la⟩ := P0.out.a.open
  obtain ⟨pb, cb, rfl, xb, lb⟩ := P0.out.b.open
  obtain ⟨pc, cc, rfl, xc, lc⟩ := P0.out.c.open
  rw [hm'.out] at P0 ⊢
  have xa' : Hid (∀ j, j < m → ∃ g, pa = some ⟨g, 0, none⟩) := by rw [hm'.out] at xa; exact xa
  have la' : Hid (LiesB y5 pa PL) := la
  have lb' : Hid (LiesB y5 pb PL) := lb
  have lc' : Hid (LiesB y5 pc PL) := lc
  clear xa xb xc la lb lc H5 H4 H2 L1 L2 O3 hP hP2 hR hBk hL K3 K4
  go_wp2_with (first
    | (go_at_call_of 19 (Value.slice pa m ca); refine (hSame.out y5 pa pc ca cc la'.out lc'.out).mono ?_; rintro e y6 ⟨rfl, h6⟩; replace h6 := h6.symm; subst h6)
    | (go_at_call_of 19 (Value.slice pb m cb); refine (hSame.out y5 pb pc cb cc lb'.out lc'.out).mono ?_; rintro e y6 ⟨rfl, h6⟩; replace h6 := h6.symm; subst h6))
  go_loopw [10] (fun i wz => ∃ (k : Nat) (la : List UInt8) (y : World), y = wz ∧ i = .int .i64 (k : Int) ∧ Hid (k ≤ m ∧ la.length = m) ∧ Hid (P3 w.heap.size (.slice pa m ca) (.slice pb m cb) (.slice pc m cc) la PL y ∧ Below w.heap.size w y)) (fun i _ => (m - intOf i).toNat)
  case atStart => exact ⟨0, PL, _, rfl, rfl, ⟨Nat.zero_le _, hm'.out⟩, ⟨P0.out, K5.out⟩⟩
  case round =>
    obtain ⟨k, la, y, rfl, rfl, J, K⟩ := hrel
    by_cases hlt : k < m
    · obtain ⟨g, rfl⟩ := xa'.out k hlt
      obtain ⟨o1, ⟨u, cu⟩, fz, hbg⟩ := K.out.1.a.set k (by rw [J.out.2]; exact hlt) 7
      have K2 : Hid (P3 w.heap.size (.slice (some ⟨g, 0, none⟩) m ca) (.slice pb m cb) (.slice pc m cc) (la.set k 7) PL (y.setCell ⟨g, k, none⟩ (.int .u8 7)) ∧ Below w.heap.size w (y.setCell ⟨g, k, none⟩ (.int .u8 7))) := ⟨K.out.1.set k (by rw [J.out.2]; exact hlt) 7, K.out.2.setCell (p := ⟨g, k, none⟩) hbg _⟩
      have ij : ∀ v, (Instr.indexAt 34 (.slice (some ⟨g, 0, none⟩) m ca) (.int .i64 (k : Int))).run Tryd.prog v = .ok (.pointer (some ⟨g, k, none⟩)) v := fun v => by
        have := idxB g 0 m ca k hlt v
        rw [Nat.zero_add] at this
        exact this
      have hki : (k : Int) < m := by omega
      have hlt' : Hid (k < m) := hlt
      clear hlt o1 hbg
      go_wp2
      go_roundw
      case rel => exact ⟨k + 1, la.set k 7, _, rfl, by simp, ⟨by have := hlt'.out; omega, by rw [List.length_set]; exact J.out.2⟩, K2⟩
      case measure => have := hlt'.out; simp [intOf]; omega
    · have hke : k = m := by have := J.out.1; omega
      subst hke
      have J2 : Hid (la.length = k) := J.out.2
      clear hlt J P0 la' lb' lc' K5
      go_wp2
      go_loopw [11, 12] (fun x i wz => ∃ (j : Nat) (v : Value) (lx : List UInt8) (z : World), z = wz ∧ v = x ∧ i = .int .i64 (j : Int) ∧ Hid (j ≤ 70 ∧ lx.length = k + j) ∧ Hid (P3 w.heap.size v (.slice pb k cb) (.slice pc k cc) lx PL z ∧ Below w.heap.size w z)) (fun _ i _ => (70 - intOf i).toNat)
      case atStart => exact ⟨0, _, la, _, rfl, rfl, rfl, ⟨by omega, by rw [J2.out]; rfl⟩, K⟩
      case round =>
        obtain ⟨j, v, lx, z, rfl, rfl, rfl, J, K3⟩ := hrel
        clear K
        by_cases hlt : j < 70
        · have hlt' : Hid (j < 70) := hlt
          have hji : (j : Int) < 70 := by omega
          have hlx : Hid (lx.length ≤ 20971600) := by have := J.out.2; show lx.length ≤ 20971600; omega
          clear hlt
          go_wp2_with (at_builtin; refine at_apB rfl (.tmp 71) (.tmp 72) rfl w.heap.size v lx.length (lx.map byV) rfl (World.ownsRow.alloc K3.out.1.a _) z.heap.size (byV 8) rfl (one_byte _ _) rfl ?_ ?_ ?_; (have := hlx.out; omega); (have := K3.out.2.size; simp; omega); intro v' z2 A; have K4 : Hid (P3 w.heap.size v' (.slice pb k cb) (.slice pc k cc) (lx ++ [8]) PL z2 ∧ Below w.heap.size w z2) := ⟨K3.out.1.app A.out, (K3.out.2.alloc K3.out.2.size _).trans A.out.cu.low⟩; clear A)
          go_roundw
          case rel => exact ⟨j + 1, _, _, _, rfl, rfl, by simp, ⟨by have := hlt'.out; omega, by have := J.out.2; simp; omega⟩, K4⟩
          case measure => have := hlt'.out; simp [intOf]; omega
        · have hje : j = 70 := by have := J.out.1; omega
          subst hje
          rw [show ((70 : Nat) : Int) = 70 from rfl]
          obtain ⟨pv, cv, rfl, _, _⟩ := K3.out.1.a.open
          obtain ⟨p1, c1, e1, _, lb⟩ := K3.out.1.b.open
          obtain ⟨p2, c2, e2, _, lc⟩ := K3.out.1.c.open
          rw [hm'.out] at e1 e2
          cases e1
          cases e2
          have lb' : Hid (LiesB z pb PL) := lb
          have lc' : Hid (LiesB z pc PL) := lc
          rw [J.out.2]
          have qk : (((k : Int) + 70) == ((k : Int) + 70)) = true := by simp
          clear hlt lb lc
          go_wp2_with (first
            | (go_at_call 19; refine (hSame.out z pb pc cb cc lb'.out lc'.out).mono ?_; rintro e z6 ⟨rfl, h6⟩; replace h6 := h6.symm; subst h6)
            | (go_at_call 9; refine (awake_any z (tb.out.below K3.out.2)).mono ?_; rintro e z7 ⟨rfl, h7⟩; replace h7 : Hid _ := h7))
          go_ret
          exact ⟨by first | rfl | simp, K3.out.2.trans (h7.out.mono K3.out.2.size)⟩
end Go.Proofs.YtoajmicdphffnaaDoor
