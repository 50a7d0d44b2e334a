/- A script's cycles, one by one, each handed to whatever function: the program's. -/
import Derived.Test.YthpahpfnpapoiaaDoorWa
namespace Go.Proofs.YthpahpfnpapoiaaDoor
open Go Go.RowKit Go.Shelf
set_option linter.unusedVariables false
set_option maxHeartbeats 2000000
set_option maxRecDepth 20000

/-- A function value that goes through a script's cycles. -/
def AllF (B : Nat) (W : World) (fv : Value) (l : List Sn) : Prop := (checkS l ≠ 0 ∧ fv = .func (.func 30) #[] #[]) ∨ (checkS l = 0 ∧ ∃ bk v, fv = .func (.func 32) #[] #[.pointer (some ⟨bk, 0, none⟩)] ∧ Bx W bk #[v] 23 ∧ OwnS B W v l ∧ B ≤ bk)
theorem AllF.below {B : Nat} {W W' : World} {fv : Value} {l : List Sn} (h : AllF B W fv l) (hb : Below W.heap.size W W') : AllF B W' fv l := by
  rcases h with h | ⟨h1, bk, v, h2, h3, h4, h5⟩
  · exact .inl h
  · exact .inr ⟨h1, bk, v, h2, (hb.block bk (heap_lt h3)).trans h3, h4.below hb, h5⟩
theorem all_any (w : World) (g cap : Nat) (l : List Sn) (hl : Hid (LiesS w (some ⟨g, 0, none⟩) l)) (hn : l.length ≤ 2147483647) :
    Calls Tryd.prog 18 #[.slice (some ⟨g, 0, none⟩) l.length cap] w fun e w' => ∃ fv, e = .returned fv ∧ Hid (AllF w.heap.size w' fv l ∧ Below w.heap.size w w') := by
  have hC := check_any w (some ⟨g, 0, none⟩) cap l hl hn
  by_cases h0 : checkS l = 0
  · have h4 := (check_ok h0).1
    have hcl : Hid (∀ y, LiesS y (some ⟨g, 0, none⟩) l → Calls Tryd.prog 31 #[.slice (some ⟨g, 0, none⟩) l.length cap] y fun e w' => ∃ v, e = .returned v ∧ Hid (OwnS y.heap.size w' v l ∧ Below y.heap.size y w')) := fun y hy => clone_any y g 0 cap l hy (by omega)
    rw [h0] at hC
    obtain ⟨n, hn'⟩ : ∃ n, l.length = n := ⟨_, rfl⟩
    rw [hn'] at hC hcl ⊢
    have h0 : Hid (checkS l = 0) := h0
    have hn' : Hid (l.length = n) := hn'
    clear hn h4
    go_enter Tryd.func18, Tryd.ntmps18
    go_wp2_with (first
      | (go_at_call 11; refine hC.mono ?_; rintro e x ⟨rfl, hx⟩)
      | (go_at_call 31; refine (hcl.out x (hl.out.below hx)).mono ?_; rintro e y ⟨v, rfl, H⟩; obtain ⟨sp, cp, ev, _, _⟩ := OwnS.open H.out.1; rw [hn'.out] at ev; subst ev; have KB : Hid (Fm y [(y.heap.size, #[.slice sp n cp], 23)] (y.alloc (.cells #[.slice sp n cp] 23))) := Fm.one y _ _))
    go_ret
    exact ⟨_, rfl, ⟨.inr ⟨h0.out, y.heap.size, .slice sp n cp, rfl, KB.out.bx 0 _ _ _ rfl, (H.out.1.weak hx.size).alloc _, Nat.le_trans hx.size H.out.2.size⟩, (hx.trans (H.out.2.mono hx.size)).alloc (Nat.le_trans hx.size H.out.2.size) _⟩⟩
  · obtain ⟨C, hCe⟩ : ∃ C, checkS l = C := ⟨_, rfl⟩
    rw [hCe] at hC
    have q : (C != 0) = true := by rw [← hCe]; simpa using h0
    have h0 : Hid (checkS l ≠ 0) := h0
    clear hCe
    go_enter Tryd.func18, Tryd.ntmps18
    go_wp2_with (go_at_call 11; refine hC.mono ?_; rintro e x ⟨rfl, hx⟩)
    go_ret
    exact ⟨_, rfl, ⟨.inl ⟨h0.out, rfl⟩, hx⟩⟩
theorem all2_any (W0 : World) (B bk : Nat) (v : Value) (l : List Sn) (hk : Hid (Bx W0 bk #[v] 23)) (hv : Hid (OwnS B W0 v l)) (hBW : B ≤ W0.heap.size) (hc : Hid (checkS l = 0)) (M : Nat → Prop) (hM : Hid (∀ q, M q → B ≤ q ∧ q < W0.heap.size ∧ q ≠ bk ∧ v.ownBlock ≠ some q)) (cb : Nat) (lb : Array Value) (ecb : ∀ args w, (callFunc cb args).run Tryd.prog w = .ok (.enter cb args) w)
    (I X : Nat → World → Prop) (hI : Hid (∀ i W W', I i W → Below W.heap.size W W' → I i W'))
    (hcb : Hid (∀ i a W, (expand l)[i]? = some a → W0.heap.size ≤ W.heap.size → I i W → Calls Tryd.prog cb (#[.int .i64 (i : Int), .agg (spC ⟨1, a⟩)] ++ lb) W fun e W' => Cu B (fun g _ => M g) W W' ∧ ((e = .returned (.bool true) ∧ I (i + 1) W') ∨ (e = .returned (.bool false) ∧ X i W'))))
    (h0 : Hid (I 0 W0)) :
    Calls Tryd.prog 32 #[.func (.func cb) #[] lb, .pointer (some ⟨bk, 0, none⟩)] W0 fun e W' => (∃ u, e = .returned u) ∧ Hid (Cu B (fun g _ => M g) W0 W' ∧ (I (expand l).length W' ∨ ∃ i, i < (expand l).length ∧ X i W')) := by
  obtain ⟨c1, c2, c3⟩ := check_ok hc.out
  have htot : Hid (((expand l).length : Int) ≤ 4194304) := by have := exp_len l c2.pos; show _ ≤ _; omega
  have hIn : Hid (InM 1048576 l) := c2
  obtain ⟨sp, cp, ev, hLs, hsp, _⟩ := OwnS.open hv.out
  obtain ⟨n, hn⟩ : ∃ n, l.length = n := ⟨_, rfl⟩
  rw [hn] at ev
  subst ev
  have hl' : Hid (l.length = n) := hn
  have hn4 : Hid (n ≤ 4096) := by show n ≤ 4096; omega
  have ni4 : (n : Int) ≤ 4096 := by omega
  have hlies : Hid (∀ y, Cu B (fun g _ => M g) W0 y → LiesS y sp l) := fun y hy => by
    have h1 : OwnS B y (.slice sp n cp) l := hv.out.keepB fun g e => hy.blk g (World.ownsRow.lt hv.out g e).2 (fun j hF => (hM.out g hF).2.2.2 e)
    obtain ⟨sp', cp', ev', hL', _, _⟩ := OwnS.open h1
    injection ev' with e1 _ _
    rw [e1]
    exact hL'
  have zz := zeroVS
  obtain ⟨Z, hZ⟩ : ∃ Z, (⟨0, ⟨0, false, false, false, false, false, false, false, 0⟩⟩ : Sn) = Z := ⟨_, rfl⟩
  rw [hZ] at zz
  have dk := hk.out.c 0 (.slice sp n cp) rfl
  clear c1 c2 c3 hLs hsp hn hZ
  go_enter Tryd.func32, Tryd.ntmps32
  go_wp2
  go_loopw [3, 9] (fun cn i wz => ∃ (j p : Nat) (y : World), y = wz ∧ cn = .int .i64 (p : Int) ∧ i = .int .i64 (j : Int) ∧ Hid (j ≤ n ∧ p = (expand (l.take j)).length) ∧ Hid (I p y) ∧ Hid (Cu B (fun g _ => M g) W0 y)) (fun _ i _ => (n - intOf i).toNat)
  case atStart => exact ⟨0, 0, W0, rfl, rfl, rfl, ⟨Nat.zero_le _, rfl⟩, h0, Cu.refl _ _ _⟩
  case round =>
    obtain ⟨j, p, y, rfl, rfl, rfl, J, HI, K⟩ := hrel
    clear h0 dk
    by_cases hlt : j < n
    · obtain ⟨s, hs, hdrop⟩ := at_list hl'.out hlt
      obtain ⟨gb, ob, hspe, hR⟩ := hlies.out y K.out j s hs
      subst hspe
      obtain ⟨c, sa⟩ := s
      have hR : Hid (y.rangeAt gb (ob + j * 10) (spC ⟨c, sa⟩).toList) := hR
      have ij := fun v => idxP (g := gb) (off := ob) (len := n) (cap := cp) Tryd.underlying23 (s := 10) (by kernel_rfl) .i64 j v hlt
      have hd := drop_in hIn.out j
      rw [hdrop] at hd
      have c1 : 1 ≤ c := hd.1.1
      have c2 : c ≤ 1048576 := hd.1.2
      have hji : (j : Int) < n := by omega
      have hlt' : Hid (j < n) := hlt
      obtain ⟨N, hN⟩ : ∃ N, c.toNat = N := ⟨_, rfl⟩
      have hNc : c = (N : Int) := by omega
      have hnext := exp_next l j _ hs
      have hat := exp_at l j _ hs
      dsimp only at hnext hat
      rw [← J.out.2, hN] at hnext
      rw [← J.out.2, hN] at hat
      have hpN : Hid (p + N ≤ (expand l).length) := by
        have h1 : (expand l).length = (expand (l.take (j + 1))).length + (expand (l.drop (j + 1))).length := by rw [← List.length_append, ← expand_app, List.take_append_drop]
        show p + N ≤ _
        omega
      have hnext : Hid ((expand (l.take (j + 1))).length = p + N) := hnext
      have hat : Hid (∀ t, t < N → (expand l)[p + t]? = some sa) := hat
      replace hs : Hid _ := hs
      replace hdrop : Hid _ := hdrop
      clear hd hlt
      subst hNc
      go_wp2_with (first
        | ((with_reducible refine at_loadm rtS gb (ob + j * 10) (spC ⟨(N : Int), sa⟩) ?_ ?_ (.tmp 11) ?_ ?_ ?_ ?_); exact hR.out; rfl; kernel_rfl; rfl; rfl)
        | ((with_reducible refine gen_world (y.alloc (.cells (spC Z) 34)) (Fm y [(y.heap.size, spC Z, 34)]) ?_ ?_); exact Fm.one y _ _; intro y1 K1)
        | ((with_reducible refine at_st rtS y.heap.size (spC Z) (spC ⟨(N : Int), sa⟩) ?_ ?_ ?_ ?_ (.tmp 5) (.tmp 12) ?_ ?_ ?_ ?_ ?_); exact K1.out.bx 0 _ _ _ rfl; rfl; rfl; exact spC_one _; rfl; rfl; rfl; rfl; intro y2 hw2; have K2 : Hid (Fm y [(y.heap.size, spC ⟨(N : Int), sa⟩, 34)] y2) := K1.out.put 0 _ _ _ _ rfl hw2.out; have d2 := (K2.out.bx 0 _ _ _ rfl).c 0 _ (spC_c ⟨(N : Int), sa⟩); dsimp only at d2; have z2 := (K2.out.bx 0 _ _ _ rfl).fz 0))
      have e1 : (spC ⟨(N : Int), sa⟩).setIfInBounds 0 (.int .i64 1) = spC ⟨1, sa⟩ := rfl
      have K3 : Hid (Fm y [(y.heap.size, spC ⟨1, sa⟩, 34)] (y2.setCell ⟨y.heap.size, 0, none⟩ (.int .i64 1))) := K2.out.setCell 0 _ _ _ _ rfl 0 _ e1
      generalize y2.setCell ⟨y.heap.size, 0, none⟩ (.int .i64 1) = y3 at K3 ⊢
      obtain ⟨b5, hb5⟩ : ∃ b, y.heap.size = b := ⟨_, rfl⟩
      have hyB : Hid (B ≤ y.heap.size) := Nat.le_trans hBW K.out.low.size
      have C3 : Hid (Cu B (fun g _ => M g) W0 y3) := K.out.trans (Cu.of_below K3.out.low hyB.out)
      have I3 : Hid (I p y3) := hI.out p y y3 HI.out K3.out.low
      have X3 : Hid (Bx y3 b5 (spC ⟨1, sa⟩) 34) := by rw [← hb5]; exact K3.out.bx 0 _ _ _ rfl
      have hb5M : Hid (¬ M b5) := fun h => by have h1 := (hM.out b5 h).2.1; have h2 := K.out.low.size; omega
      rw [hb5]
      clear K1 K2 K3 hw2 d2 z2 hb5
      go_loopw [3, 17] (fun cn t wz => ∃ (k : Nat) (z : World), z = wz ∧ cn = .int .i64 ((p : Int) + (k : Int)) ∧ t = .int .i64 (k : Int) ∧ k ≤ N ∧ Hid (I (p + k) z) ∧ Hid (Bx z b5 (spC ⟨1, sa⟩) 34) ∧ Hid (Cu B (fun g _ => M g) W0 z)) (fun _ t _ => (N - intOf t).toNat)
      case atStart => exact ⟨0, y3, rfl, by simp, rfl, Nat.zero_le _, I3, X3, C3⟩
      case round =>
        obtain ⟨k, z, rfl, rfl, rfl, kN, HZ, XZ, CZ⟩ := hrel
        clear C3 I3 X3
        by_cases hk2 : k < N
        · have hcall := hcb.out (p + k) sa z (hat.out k hk2) CZ.out.low.size HZ.out
          have hki : (k : Int) < (N : Int) := by omega
          have pki : ((p + k : Nat) : Int) = (p : Int) + (k : Int) := by omega
          rw [pki] at hcall
          have pkb : (p : Int) + (k : Int) ≤ 4194304 := by have h1 := hpN.out; have h2 := htot.out; omega
          have hk2 : Hid (k < N) := hk2
          go_wp2_with (first
            | ((with_reducible refine at_load rtS b5 (spC ⟨1, sa⟩) ?_ ?_ (.tmp 5) ?_ ?_ ?_ ?_); exact XZ.out; rfl; kernel_rfl; rfl; rfl)
            | (go_at_fn cb; refine hcall.mono ?_; rintro e z2 ⟨CZ2, (⟨rfl, HZ2⟩ | ⟨rfl, HX⟩)⟩))
          · have hk3 := hk2.out
            go_roundw
            case rel => exact ⟨k + 1, z2, rfl, by simp; omega, by simp, hk3, HZ2, (CZ2.blk b5 (heap_lt XZ.out) (fun j h => hb5M.out h)).trans XZ.out, CZ.out.trans CZ2⟩
            case measure => simp [intOf]; omega
          · refine bodyPost_ret (results_none rfl _ _ _) rfl ?_
            exact ⟨⟨_, rfl⟩, ⟨CZ.out.trans CZ2, .inr ⟨p + k, by have h1 := hpN.out; have h2 := hk2.out; omega, HX⟩⟩⟩
        · have hke : k = N := by omega
          subst hke
          clear hk2
          go_wp2
          go_roundw
          case rel => exact ⟨j + 1, p + k, z, rfl, by simp, by simp, ⟨hlt'.out, hnext.out.symm⟩, HZ, CZ⟩
          case measure => have := hlt'.out; simp [intOf]; omega
    · have hje : j = n := by have := J.out.1; omega
      subst hje
      have fin : Hid (p = (expand l).length) := by
        have h1 := J.out.2
        rw [List.take_of_length_le (by rw [hl'.out]; exact Nat.le_refl _)] at h1
        exact h1
      clear hlt
      go_wp2
      go_end0
      exact ⟨⟨_, rfl⟩, ⟨K.out, .inl (by rw [← fin.out]; exact HI.out)⟩⟩
end Go.Proofs.YthpahpfnpapoiaaDoor
