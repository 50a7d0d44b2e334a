/- The statements' own: an item's bytes, by the labels that an object tells. The labels' order, by plain mathematics. -/
import Derived.Test.YthbdpceobnkflaaDoorJ14
import Derived.Test.YthbdpceobnkflaaDoorJ7
namespace Go.Proofs.YthbdpceobnkflaaDoor
open Go Go.RowKit
set_option linter.unusedVariables false
set_option maxHeartbeats 3000000
set_option maxRecDepth 20000

/-- The boxes of lays: the object, the item. -/
abbrev LyB (w : World) (ob : Oo) (r : Ri) : List (Nat × Array Value × TypeId) := [(w.heap.size, oC ob, 29), (w.heap.size + 1, i6 r, 40)]
def FdE (t : Nat) (y : World) (e : Ending) (z : World) : Prop := ∃ b : Bool, e = .returned (.tuple #[.int .i64 (t : Int), .bool b]) ∧ Hid (Below y.heap.size y z)
theorem find_to {N : List (ByteArray × Nat)} {ob : Oo} (hf : ∀ s, findL ob.L s = (lookN N s).map (fun (t : Nat) => (t : Int))) (s : ByteArray) (y : World) (h : Lo y ob) :
    Calls Tryd.prog 11 #[.agg (oC ob), .string s] y (FdE ((lookN N s).getD 0) y) := by
  have e : (findL ob.L s).getD 0 = (((lookN N s).getD 0 : Nat) : Int) := by
    rw [hf s]
    cases lookN N s <;> rfl
  have c := ofind_any y ob h s
  rw [e] at c
  exact c.mono fun e z ⟨h1, h2⟩ => ⟨_, h1, h2⟩
theorem lays_addr (w : World) (N : List (ByteArray × Nat)) (hN : ∀ x ∈ N, x.2 ≤ 65535) (ob : Oo) (ho : Hid (Lo w ob)) (hf : ∀ s, findL ob.L s = (lookN N s).map (fun (t : Nat) => (t : Int))) (x : Itm) (hk : x.1.k = 5) :
    Calls Tryd.prog 12 #[.agg (oC ob), .agg (i6 x.1)] w (BtE w (flB N x)) := by
  obtain ⟨r, bs⟩ := x
  simp only at hk
  have K0 : Hid (Fm w (LyB w ob r) ((w.alloc (.cells (oC ob) 29)).alloc (.cells (i6 r) 40))) := Fm.two w _ _ _ _
  obtain ⟨t, ht⟩ : ∃ t, (lookN N r.l).getD 0 = t := ⟨_, rfl⟩
  have hfd : Hid (∀ y, Fm w (LyB w ob r) y → Calls Tryd.prog 11 #[.agg (oC ob), .string r.l] y (FdE t y)) := fun y hy => by rw [← ht]; exact find_to hf r.l y (ho.out.below hy.low)
  have hL : flB N (r, bs) = [UInt8.ofNat (t / 256), UInt8.ofNat t] := by
    have ea : asksI r = true := by unfold asksI; rw [hk]; rfl
    have : tgtN N r = t := by unfold tgtN; rw [if_pos ea, ht]
    unfold flB
    simp only
    rw [if_neg (by rw [hk]; decide), if_pos hk, this]
  rw [hL]
  have fin : Hid (#[Value.int .u8 ((t : Int) / 256 % 256), .int .u8 ((t : Int) % 256)] = rU [UInt8.ofNat (t / 256), UInt8.ofNat t]) := by
    show _ = _
    unfold rU byV
    simp [UInt8.toNat_ofNat']
  have k5 : (r.k == 5) = true := by rw [hk]; rfl
  clear hN ho hf hk ht hL
  go_enter Tryd.func12, Tryd.ntmps12
  go_wp2_with (first
    | ((with_reducible refine gen_world ((w.alloc (.cells (oC ob) 29)).alloc (.cells (i6 r) 40)) (Fm w (LyB w ob r)) K0.out ?_); intro y K1; have d3 := (K1.out.bx 1 _ _ _ rfl).c 3 (.string r.l) rfl)
    | ((with_reducible refine at_load rtO w.heap.size (oC ob) ?_ ?_ (.tmp 2) ?_ ?_ ?_ ?_); exact K1.out.bx 0 _ _ _ rfl; rfl; rfl; rfl; rfl)
    | (go_at_call 11; refine (hfd.out _ K1.out).mono ?_; rintro e y2 ⟨b, rfl, H2⟩; clear hfd d3; have K2 : Hid (Fm w (LyB w ob r) y2) := K1.out.below H2.out; clear H2 K1; have d0 := (K2.out.bx 1 _ _ _ rfl).c 0 (.int .u8 r.k) rfl))
  go_ret
  refine ⟨some ⟨y2.heap.size, 0, none⟩, 2, rfl, ?_, K2.out.low.trans ((below1 y2 _).mono K2.out.low.size)⟩
  have h9 := one_bxL y2 #[.int .u8 ((t : Int) / 256 % 256), .int .u8 ((t : Int) % 256)] 5
  rw [fin.out] at h9
  rw [fin.out]
  exact lb_bx h9
theorem lays_data (w : World) (N : List (ByteArray × Nat)) (ob : Oo) (ho : Hid (Lo w ob)) (hf : ∀ s, findL ob.L s = (lookN N s).map (fun (t : Nat) => (t : Int))) (x : Itm) (hk : x.1.k = 3) (hg : LB8 w x.1.sp x.2 ∧ x.2.length = x.1.m) :
    Calls Tryd.prog 12 #[.agg (oC ob), .agg (i6 x.1)] w (BtE w (flB N x)) := by
  obtain ⟨r, bs⟩ := x
  simp only at hk hg
  have K0 : Hid (Fm w (LyB w ob r) ((w.alloc (.cells (oC ob) 29)).alloc (.cells (i6 r) 40))) := Fm.two w _ _ _ _
  obtain ⟨t, ht⟩ : ∃ t, (lookN N r.l).getD 0 = t := ⟨_, rfl⟩
  have hfd : Hid (∀ y, Fm w (LyB w ob r) y → Calls Tryd.prog 11 #[.agg (oC ob), .string r.l] y (FdE t y)) := fun y hy => by rw [← ht]; exact find_to hf r.l y (ho.out.below hy.low)
  have hL : flB N (r, bs) = bs := by unfold flB; simp only; rw [if_pos hk]
  rw [hL]
  have hg' : Hid (LB8 w r.sp bs ∧ bs.length = r.m) := hg
  have k5 : (r.k == 5) = false := by rw [hk]; rfl
  have k3 : (r.k == 3) = true := by rw [hk]; rfl
  clear ho hf hk ht hL hg
  go_enter Tryd.func12, Tryd.ntmps12
  go_wp2_with (first
    | ((with_reducible refine gen_world ((w.alloc (.cells (oC ob) 29)).alloc (.cells (i6 r) 40)) (Fm w (LyB w ob r)) K0.out ?_); intro y K1; have d3 := (K1.out.bx 1 _ _ _ rfl).c 3 (.string r.l) rfl)
    | ((with_reducible refine at_load rtO w.heap.size (oC ob) ?_ ?_ (.tmp 2) ?_ ?_ ?_ ?_); exact K1.out.bx 0 _ _ _ rfl; rfl; rfl; rfl; rfl)
    | (go_at_call 11; refine (hfd.out _ K1.out).mono ?_; rintro e y2 ⟨b, rfl, H2⟩; clear hfd d3; have K2 : Hid (Fm w (LyB w ob r) y2) := K1.out.below H2.out; clear H2 K1; have d0 := (K2.out.bx 1 _ _ _ rfl).c 0 (.int .u8 r.k) rfl; have d5 := (K2.out.bx 1 _ _ _ rfl).c 5 (.slice r.sp r.m r.cap) rfl))
  go_ret
  rw [← hg'.out.2]
  exact ⟨r.sp, r.cap, rfl, hg'.out.1.below K2.out.low, K2.out.low⟩
theorem lays_code (w : World) (Tb : Hid (Tabs w)) (N : List (ByteArray × Nat)) (hN : ∀ x ∈ N, x.2 ≤ 65535) (ob : Oo) (ho : Hid (Lo w ob)) (hf : ∀ s, findL ob.L s = (lookN N s).map (fun (t : Nat) => (t : Int))) (x : Itm) (hm : mayI x.1 = true) (hk : x.1.k = 2) :
    Calls Tryd.prog 12 #[.agg (oC ob), .agg (i6 x.1)] w (BtE w (flB N x)) := by
  obtain ⟨r, bs⟩ := x
  simp only at hk hm
  have K0 : Hid (Fm w (LyB w ob r) ((w.alloc (.cells (oC ob) 29)).alloc (.cells (i6 r) 40))) := Fm.two w _ _ _ _
  obtain ⟨t, ht⟩ : ∃ t, (lookN N r.l).getD 0 = t := ⟨_, rfl⟩
  have ht5 : t ≤ 65535 := by
    rw [← ht]
    rcases e : lookN N r.l with _ | q
    · exact Nat.zero_le _
    · exact look_le hN e
  have hfd : Hid (∀ y, Fm w (LyB w ob r) y → Calls Tryd.prog 11 #[.agg (oC ob), .string r.l] y (FdE t y)) := fun y hy => by rw [← ht]; exact find_to hf r.l y (ho.out.below hy.low)
  have hL : flB N (r, bs) = encL r.n (if r.p = 0 then r.a else (opndI r (tgtN N r) : Nat)) := by
    unfold flB
    simp only
    rw [if_neg (by rw [hk]; decide), if_neg (by rw [hk]; decide), if_pos hk]
  have hcase : ∃ n, opOf r.n = some n ∧ ((r.p = 0 ∧ may n r.a ∧ flB N (r, bs) = encL r.n r.a) ∨ (r.p ≠ 0 ∧ takesB (fm n : Nat) r.p = true ∧ may n ((opF (fm n : Nat) r.p t : Nat) : Int) ∧ flB N (r, bs) = encL r.n ((opF (fm n : Nat) r.p t : Nat) : Int))) := by
    by_cases hp : r.p = 0
    · obtain ⟨n, h1, h2⟩ := may_enc hm hk hp
      exact ⟨n, h1, .inl ⟨hp, h2, by rw [hL, if_pos hp]⟩⟩
    · obtain ⟨n, h1, h2⟩ := may_lab hm hk hp
      have ea : asksI r = true := by unfold asksI; simp [hk, hp]
      have e9 : tgtN N r = t := by unfold tgtN; rw [if_pos ea, ht]
      exact ⟨n, h1, .inr ⟨hp, h2, opF_may (opOf_lt h1).1 ht5 h2, by rw [hL, if_neg hp, e9, opF_opnd h1]⟩⟩
  obtain ⟨n, hop, hc⟩ := hcase
  have hX := (opOf_lt hop).2
  have hcF : Hid (∀ y, Tabs y → Calls Tryd.prog 30 #[.string r.n] y fun e z => e = .returned (.tuple #[.agg #[.string r.n, .int .u8 (fm n : Nat), .int .i64 (lay (fm n * 3) : Nat), .int .i64 (cyc n : Nat)], .bool true]) ∧ Below y.heap.size y z) := fun y T => find_some r.n n hop _ _ _ _ (show nm n = r.n from hX) (show fm n = fm n from rfl) (show lay (fm n * 3) = lay (fm n * 3) from rfl) (show cyc n = cyc n from rfl) y T
  have hEn : Hid (∀ A : Int, may n A → ∀ y, Tabs y → Calls Tryd.prog 31 #[.agg #[.string r.n, .int .i64 A]] y fun e z => ∃ g, e = .returned (.tuple #[.slice (some ⟨g, 0, none⟩) (encL r.n A).length (encL r.n A).length, .int .i64 0]) ∧ Hid (LB8 z (some ⟨g, 0, none⟩) (encL r.n A) ∧ Below y.heap.size y z)) := fun A hA y T => by
    have c := enc_good r.n A n hop hA y T
    have hr := encL_row r.n A n hop hA
    unfold Coded at c
    rw [hr.1, hr.2] at c
    exact c.mono fun e z ⟨g, hg, h1, h2, h3⟩ => ⟨g, h1, lb_bx (t := 5) h2, h3⟩
  have hA : ∃ A : Int, may n A ∧ flB N (r, bs) = encL r.n A ∧ ((r.p = 0 ∧ A = r.a) ∨ (r.p = 1 ∧ fm n = 6 ∧ A = t) ∨ (r.p = 1 ∧ fm n = 5 ∧ A = ((t % 256 : Nat) : Int)) ∨ (r.p = 3 ∧ A = ((t % 256 : Nat) : Int)) ∨ (r.p = 2 ∧ A = (t : Int) / 256)) := by
    rcases hc with ⟨hp, h1, h2⟩ | ⟨hp, h0, h1, h2⟩
    · exact ⟨_, h1, h2, .inl ⟨hp, rfl⟩⟩
    · refine ⟨_, h1, h2, ?_⟩
      unfold takesB at h0
      unfold opF
      by_cases h4 : fm n = 4
      · rw [h4] at h0 ⊢
        simp at h0
        rcases h0 with e | e
        · exact .inr (.inr (.inr (.inr ⟨e, by rw [if_pos e]; omega⟩)))
        · exact .inr (.inr (.inr (.inl ⟨e, by rw [if_neg (by omega), if_pos (.inl e)]⟩)))
      · by_cases h5 : fm n = 5
        · rw [h5] at h0 ⊢
          simp at h0
          exact .inr (.inr (.inl ⟨h0, rfl, by rw [if_neg (by omega), if_pos (.inr rfl)]⟩))
        · by_cases h6 : fm n = 6
          · rw [h6] at h0 ⊢
            simp at h0
            exact .inr (.inl ⟨h0, rfl, by rw [if_neg (by omega), if_neg (by rw [h0]; decide)]⟩)
          · exfalso
            rw [if_neg (by omega), if_neg (by omega)] at h0
            cases h0
  obtain ⟨A, hA1, hA2, hA3⟩ := hA
  rw [hA2]
  have hE : Hid (∀ y, Tabs y → Calls Tryd.prog 31 #[.agg #[.string r.n, .int .i64 A]] y fun e z => ∃ g, e = .returned (.tuple #[.slice (some ⟨g, 0, none⟩) (encL r.n A).length (encL r.n A).length, .int .i64 0]) ∧ Hid (LB8 z (some ⟨g, 0, none⟩) (encL r.n A) ∧ Below y.heap.size y z)) := fun y T => hEn.out A hA1 y T
  generalize encL r.n A = R at hE ⊢
  obtain ⟨f, hfm⟩ : ∃ f, fm n = f := ⟨_, rfl⟩
  obtain ⟨L, hLL⟩ : ∃ L, lay (fm n * 3) = L := ⟨_, rfl⟩
  obtain ⟨c, hcc⟩ : ∃ c, cyc n = c := ⟨_, rfl⟩
  rw [hLL, hcc, hfm] at hcF
  rw [hfm] at hA3
  have k5 : (r.k == 5) = false := by rw [hk]; rfl
  have k3 : (r.k == 3) = false := by rw [hk]; rfl
  have ha := and255 t ht5
  have ti : (t : Int) ≤ 65535 := by omega
  clear hN ho hf hk hm ht hL hc hop hX hEn hA1 hA2 hfm hLL hcc ht5
  rcases hA3 with ⟨hp, rfl⟩ | ⟨hp, rfl, rfl⟩ | ⟨hp, rfl, rfl⟩ | ⟨hp, rfl⟩ | ⟨hp, rfl⟩
  · have p1 : (r.p == 1) = false := by rw [hp]; rfl
    have p2 : (r.p == 2) = false := by rw [hp]; rfl
    have p3 : (r.p == 3) = false := by rw [hp]; rfl
    clear hp
    go_enter Tryd.func12, Tryd.ntmps12
    go_wp2_with (first
      | ((with_reducible refine gen_world ((w.alloc (.cells (oC ob) 29)).alloc (.cells (i6 r) 40)) (Fm w (LyB w ob r)) K0.out ?_); intro y K1; have d3 := (K1.out.bx 1 _ _ _ rfl).c 3 (.string r.l) rfl)
      | ((with_reducible refine at_load rtO w.heap.size (oC ob) ?_ ?_ (.tmp 2) ?_ ?_ ?_ ?_); exact K1.out.bx 0 _ _ _ rfl; rfl; rfl; rfl; rfl)
      | (go_at_call 11; refine (hfd.out _ K1.out).mono ?_; rintro e y2 ⟨b, rfl, H2⟩; clear hfd d3; have K2 : Hid (Fm w (LyB w ob r) y2) := K1.out.below H2.out; clear H2 K1; have d0 := (K2.out.bx 1 _ _ _ rfl).c 0 (.int .u8 r.k) rfl; have d1 := (K2.out.bx 1 _ _ _ rfl).c 1 (.string r.n) rfl; have d2 := (K2.out.bx 1 _ _ _ rfl).c 2 (.int .i64 r.a) rfl)
      | (go_at_call 30; refine (hcF.out _ (Tb.out.below K2.out.low)).mono ?_; rintro e y3 ⟨rfl, H3⟩; have K3 : Hid (Fm w (LyB w ob r) y3) := K2.out.below H3; clear H3 hcF K2 d0 d1 d2)
      | ((with_reducible refine gen_world (y3.alloc (.cells #[.string ⟨#[]⟩, .int .u8 0, .int .i64 0, .int .i64 0] 82)) (Fm w (LyB w ob r ++ [(y3.heap.size, #[.string ⟨#[]⟩, .int .u8 0, .int .i64 0, .int .i64 0], 82)])) ?_ ?_); exact K3.out.new _ _; intro y4 K4)
      | ((with_reducible refine at_st rtI y3.heap.size #[.string ⟨#[]⟩, .int .u8 0, .int .i64 0, .int .i64 0] (#[.string r.n, .int .u8 (f : Int), .int .i64 (L : Int), .int .i64 (c : Int)]) ?_ ?_ ?_ ?_ (.tmp 8) (.tmp 39) ?_ ?_ ?_ ?_ ?_); exact K4.out.bx 2 _ _ _ rfl; rfl; rfl; simp [Value.oneCell']; rfl; rfl; rfl; rfl; intro y5 hw5; have K5 : Hid (Fm w [(w.heap.size, oC ob, 29), (w.heap.size + 1, i6 r, 40), (y3.heap.size, #[.string r.n, .int .u8 (f : Int), .int .i64 (L : Int), .int .i64 (c : Int)], 82)] y5) := K4.out.put 2 _ _ _ _ rfl hw5.out; clear hw5 K4 K3; have g1 := (K5.out.bx 1 _ _ _ rfl).c 1 (.string r.n) rfl; have g4 := (K5.out.bx 1 _ _ _ rfl).c 4 (.int .u8 r.p) rfl; have q1 := (K5.out.bx 2 _ _ _ rfl).c 1 (.int .u8 (f : Int)) rfl)
      | (go_at_call 31; refine (hE.out _ (Tb.out.below K5.out.low)).mono ?_; rintro e y6 ⟨g, rfl, H6⟩; have K6 : Hid (Fm w [(w.heap.size, oC ob, 29), (w.heap.size + 1, i6 r, 40), (y3.heap.size, #[.string r.n, .int .u8 (f : Int), .int .i64 (L : Int), .int .i64 (c : Int)], 82)] y6) := K5.out.below H6.out.2))
    go_ret
    exact ⟨_, _, rfl, H6.out.1, K6.out.low⟩
  · have p1 : (r.p == 1) = true := by rw [hp]; rfl
    have p2 : (r.p == 2) = false := by rw [hp]; rfl
    have p3 : (r.p == 3) = false := by rw [hp]; rfl
    clear hp
    go_enter Tryd.func12, Tryd.ntmps12
    go_wp2_with (first
      | ((with_reducible refine gen_world ((w.alloc (.cells (oC ob) 29)).alloc (.cells (i6 r) 40)) (Fm w (LyB w ob r)) K0.out ?_); intro y K1; have d3 := (K1.out.bx 1 _ _ _ rfl).c 3 (.string r.l) rfl)
      | ((with_reducible refine at_load rtO w.heap.size (oC ob) ?_ ?_ (.tmp 2) ?_ ?_ ?_ ?_); exact K1.out.bx 0 _ _ _ rfl; rfl; rfl; rfl; rfl)
      | (go_at_call 11; refine (hfd.out _ K1.out).mono ?_; rintro e y2 ⟨b, rfl, H2⟩; clear hfd d3; have K2 : Hid (Fm w (LyB w ob r) y2) := K1.out.below H2.out; clear H2 K1; have d0 := (K2.out.bx 1 _ _ _ rfl).c 0 (.int .u8 r.k) rfl; have d1 := (K2.out.bx 1 _ _ _ rfl).c 1 (.string r.n) rfl; have d2 := (K2.out.bx 1 _ _ _ rfl).c 2 (.int .i64 r.a) rfl)
      | (go_at_call 30; refine (hcF.out _ (Tb.out.below K2.out.low)).mono ?_; rintro e y3 ⟨rfl, H3⟩; have K3 : Hid (Fm w (LyB w ob r) y3) := K2.out.below H3; clear H3 hcF K2 d0 d1 d2)
      | ((with_reducible refine gen_world (y3.alloc (.cells #[.string ⟨#[]⟩, .int .u8 0, .int .i64 0, .int .i64 0] 82)) (Fm w (LyB w ob r ++ [(y3.heap.size, #[.string ⟨#[]⟩, .int .u8 0, .int .i64 0, .int .i64 0], 82)])) ?_ ?_); exact K3.out.new _ _; intro y4 K4)
      | ((with_reducible refine at_st rtI y3.heap.size #[.string ⟨#[]⟩, .int .u8 0, .int .i64 0, .int .i64 0] (#[.string r.n, .int .u8 (6 : Int), .int .i64 (L : Int), .int .i64 (c : Int)]) ?_ ?_ ?_ ?_ (.tmp 8) (.tmp 39) ?_ ?_ ?_ ?_ ?_); exact K4.out.bx 2 _ _ _ rfl; rfl; rfl; simp [Value.oneCell']; rfl; rfl; rfl; rfl; intro y5 hw5; have K5 : Hid (Fm w [(w.heap.size, oC ob, 29), (w.heap.size + 1, i6 r, 40), (y3.heap.size, #[.string r.n, .int .u8 (6 : Int), .int .i64 (L : Int), .int .i64 (c : Int)], 82)] y5) := K4.out.put 2 _ _ _ _ rfl hw5.out; clear hw5 K4 K3; have g1 := (K5.out.bx 1 _ _ _ rfl).c 1 (.string r.n) rfl; have g4 := (K5.out.bx 1 _ _ _ rfl).c 4 (.int .u8 r.p) rfl; have q1 := (K5.out.bx 2 _ _ _ rfl).c 1 (.int .u8 (6 : Int)) rfl)
      | (go_at_call 31; refine (hE.out _ (Tb.out.below K5.out.low)).mono ?_; rintro e y6 ⟨g, rfl, H6⟩; have K6 : Hid (Fm w [(w.heap.size, oC ob, 29), (w.heap.size + 1, i6 r, 40), (y3.heap.size, #[.string r.n, .int .u8 (6 : Int), .int .i64 (L : Int), .int .i64 (c : Int)], 82)] y6) := K5.out.below H6.out.2))
    go_ret
    exact ⟨_, _, rfl, H6.out.1, K6.out.low⟩
  · have p1 : (r.p == 1) = true := by rw [hp]; rfl
    have p2 : (r.p == 2) = false := by rw [hp]; rfl
    have p3 : (r.p == 3) = false := by rw [hp]; rfl
    clear hp
    go_enter Tryd.func12, Tryd.ntmps12
    go_wp2_with (first
      | ((with_reducible refine gen_world ((w.alloc (.cells (oC ob) 29)).alloc (.cells (i6 r) 40)) (Fm w (LyB w ob r)) K0.out ?_); intro y K1; have d3 := (K1.out.bx 1 _ _ _ rfl).c 3 (.string r.l) rfl)
      | ((with_reducible refine at_load rtO w.heap.size (oC ob) ?_ ?_ (.tmp 2) ?_ ?_ ?_ ?_); exact K1.out.bx 0 _ _ _ rfl; rfl; rfl; rfl; rfl)
      | (go_at_call 11; refine (hfd.out _ K1.out).mono ?_; rintro e y2 ⟨b, rfl, H2⟩; clear hfd d3; have K2 : Hid (Fm w (LyB w ob r) y2) := K1.out.below H2.out; clear H2 K1; have d0 := (K2.out.bx 1 _ _ _ rfl).c 0 (.int .u8 r.k) rfl; have d1 := (K2.out.bx 1 _ _ _ rfl).c 1 (.string r.n) rfl; have d2 := (K2.out.bx 1 _ _ _ rfl).c 2 (.int .i64 r.a) rfl)
      | (go_at_call 30; refine (hcF.out _ (Tb.out.below K2.out.low)).mono ?_; rintro e y3 ⟨rfl, H3⟩; have K3 : Hid (Fm w (LyB w ob r) y3) := K2.out.below H3; clear H3 hcF K2 d0 d1 d2)
      | ((with_reducible refine gen_world (y3.alloc (.cells #[.string ⟨#[]⟩, .int .u8 0, .int .i64 0, .int .i64 0] 82)) (Fm w (LyB w ob r ++ [(y3.heap.size, #[.string ⟨#[]⟩, .int .u8 0, .int .i64 0, .int .i64 0], 82)])) ?_ ?_); exact K3.out.new _ _; intro y4 K4)
      | ((with_reducible refine at_st rtI y3.heap.size #[.string ⟨#[]⟩, .int .u8 0, .int .i64 0, .int .i64 0] (#[.string r.n, .int .u8 (5 : Int), .int .i64 (L : Int), .int .i64 (c : Int)]) ?_ ?_ ?_ ?_ (.tmp 8) (.tmp 39) ?_ ?_ ?_ ?_ ?_); exact K4.out.bx 2 _ _ _ rfl; rfl; rfl; simp [Value.oneCell']; rfl; rfl; rfl; rfl; intro y5 hw5; have K5 : Hid (Fm w [(w.heap.size, oC ob, 29), (w.heap.size + 1, i6 r, 40), (y3.heap.size, #[.string r.n, .int .u8 (5 : Int), .int .i64 (L : Int), .int .i64 (c : Int)], 82)] y5) := K4.out.put 2 _ _ _ _ rfl hw5.out; clear hw5 K4 K3; have g1 := (K5.out.bx 1 _ _ _ rfl).c 1 (.string r.n) rfl; have g4 := (K5.out.bx 1 _ _ _ rfl).c 4 (.int .u8 r.p) rfl; have q1 := (K5.out.bx 2 _ _ _ rfl).c 1 (.int .u8 (5 : Int)) rfl)
      | (go_at_call 31; refine (hE.out _ (Tb.out.below K5.out.low)).mono ?_; rintro e y6 ⟨g, rfl, H6⟩; have K6 : Hid (Fm w [(w.heap.size, oC ob, 29), (w.heap.size + 1, i6 r, 40), (y3.heap.size, #[.string r.n, .int .u8 (5 : Int), .int .i64 (L : Int), .int .i64 (c : Int)], 82)] y6) := K5.out.below H6.out.2))
    go_ret
    exact ⟨_, _, rfl, H6.out.1, K6.out.low⟩
  · have p1 : (r.p == 1) = false := by rw [hp]; rfl
    have p2 : (r.p == 2) = false := by rw [hp]; rfl
    have p3 : (r.p == 3) = true := by rw [hp]; rfl
    clear hp
    go_enter Tryd.func12, Tryd.ntmps12
    go_wp2_with (first
      | ((with_reducible refine gen_world ((w.alloc (.cells (oC ob) 29)).alloc (.cells (i6 r) 40)) (Fm w (LyB w ob r)) K0.out ?_); intro y K1; have d3 := (K1.out.bx 1 _ _ _ rfl).c 3 (.string r.l) rfl)
      | ((with_reducible refine at_load rtO w.heap.size (oC ob) ?_ ?_ (.tmp 2) ?_ ?_ ?_ ?_); exact K1.out.bx 0 _ _ _ rfl; rfl; rfl; rfl; rfl)
      | (go_at_call 11; refine (hfd.out _ K1.out).mono ?_; rintro e y2 ⟨b, rfl, H2⟩; clear hfd d3; have K2 : Hid (Fm w (LyB w ob r) y2) := K1.out.below H2.out; clear H2 K1; have d0 := (K2.out.bx 1 _ _ _ rfl).c 0 (.int .u8 r.k) rfl; have d1 := (K2.out.bx 1 _ _ _ rfl).c 1 (.string r.n) rfl; have d2 := (K2.out.bx 1 _ _ _ rfl).c 2 (.int .i64 r.a) rfl)
      | (go_at_call 30; refine (hcF.out _ (Tb.out.below K2.out.low)).mono ?_; rintro e y3 ⟨rfl, H3⟩; have K3 : Hid (Fm w (LyB w ob r) y3) := K2.out.below H3; clear H3 hcF K2 d0 d1 d2)
      | ((with_reducible refine gen_world (y3.alloc (.cells #[.string ⟨#[]⟩, .int .u8 0, .int .i64 0, .int .i64 0] 82)) (Fm w (LyB w ob r ++ [(y3.heap.size, #[.string ⟨#[]⟩, .int .u8 0, .int .i64 0, .int .i64 0], 82)])) ?_ ?_); exact K3.out.new _ _; intro y4 K4)
      | ((with_reducible refine at_st rtI y3.heap.size #[.string ⟨#[]⟩, .int .u8 0, .int .i64 0, .int .i64 0] (#[.string r.n, .int .u8 (f : Int), .int .i64 (L : Int), .int .i64 (c : Int)]) ?_ ?_ ?_ ?_ (.tmp 8) (.tmp 39) ?_ ?_ ?_ ?_ ?_); exact K4.out.bx 2 _ _ _ rfl; rfl; rfl; simp [Value.oneCell']; rfl; rfl; rfl; rfl; intro y5 hw5; have K5 : Hid (Fm w [(w.heap.size, oC ob, 29), (w.heap.size + 1, i6 r, 40), (y3.heap.size, #[.string r.n, .int .u8 (f : Int), .int .i64 (L : Int), .int .i64 (c : Int)], 82)] y5) := K4.out.put 2 _ _ _ _ rfl hw5.out; clear hw5 K4 K3; have g1 := (K5.out.bx 1 _ _ _ rfl).c 1 (.string r.n) rfl; have g4 := (K5.out.bx 1 _ _ _ rfl).c 4 (.int .u8 r.p) rfl; have q1 := (K5.out.bx 2 _ _ _ rfl).c 1 (.int .u8 (f : Int)) rfl)
      | (go_at_call 31; refine (hE.out _ (Tb.out.below K5.out.low)).mono ?_; rintro e y6 ⟨g, rfl, H6⟩; have K6 : Hid (Fm w [(w.heap.size, oC ob, 29), (w.heap.size + 1, i6 r, 40), (y3.heap.size, #[.string r.n, .int .u8 (f : Int), .int .i64 (L : Int), .int .i64 (c : Int)], 82)] y6) := K5.out.below H6.out.2))
    go_ret
    exact ⟨_, _, rfl, H6.out.1, K6.out.low⟩
  · have p1 : (r.p == 1) = false := by rw [hp]; rfl
    have p2 : (r.p == 2) = true := by rw [hp]; rfl
    have p3 : (r.p == 3) = false := by rw [hp]; rfl
    clear hp
    go_enter Tryd.func12, Tryd.ntmps12
    go_wp2_with (first
      | ((with_reducible refine gen_world ((w.alloc (.cells (oC ob) 29)).alloc (.cells (i6 r) 40)) (Fm w (LyB w ob r)) K0.out ?_); intro y K1; have d3 := (K1.out.bx 1 _ _ _ rfl).c 3 (.string r.l) rfl)
      | ((with_reducible refine at_load rtO w.heap.size (oC ob) ?_ ?_ (.tmp 2) ?_ ?_ ?_ ?_); exact K1.out.bx 0 _ _ _ rfl; rfl; rfl; rfl; rfl)
      | (go_at_call 11; refine (hfd.out _ K1.out).mono ?_; rintro e y2 ⟨b, rfl, H2⟩; clear hfd d3; have K2 : Hid (Fm w (LyB w ob r) y2) := K1.out.below H2.out; clear H2 K1; have d0 := (K2.out.bx 1 _ _ _ rfl).c 0 (.int .u8 r.k) rfl; have d1 := (K2.out.bx 1 _ _ _ rfl).c 1 (.string r.n) rfl; have d2 := (K2.out.bx 1 _ _ _ rfl).c 2 (.int .i64 r.a) rfl)
      | (go_at_call 30; refine (hcF.out _ (Tb.out.below K2.out.low)).mono ?_; rintro e y3 ⟨rfl, H3⟩; have K3 : Hid (Fm w (LyB w ob r) y3) := K2.out.below H3; clear H3 hcF K2 d0 d1 d2)
      | ((with_reducible refine gen_world (y3.alloc (.cells #[.string ⟨#[]⟩, .int .u8 0, .int .i64 0, .int .i64 0] 82)) (Fm w (LyB w ob r ++ [(y3.heap.size, #[.string ⟨#[]⟩, .int .u8 0, .int .i64 0, .int .i64 0], 82)])) ?_ ?_); exact K3.out.new _ _; intro y4 K4)
      | ((with_reducible refine at_st rtI y3.heap.size #[.string ⟨#[]⟩, .int .u8 0, .int .i64 0, .int .i64 0] (#[.string r.n, .int .u8 (f : Int), .int .i64 (L : Int), .int .i64 (c : Int)]) ?_ ?_ ?_ ?_ (.tmp 8) (.tmp 39) ?_ ?_ ?_ ?_ ?_); exact K4.out.bx 2 _ _ _ rfl; rfl; rfl; simp [Value.oneCell']; rfl; rfl; rfl; rfl; intro y5 hw5; have K5 : Hid (Fm w [(w.heap.size, oC ob, 29), (w.heap.size + 1, i6 r, 40), (y3.heap.size, #[.string r.n, .int .u8 (f : Int), .int .i64 (L : Int), .int .i64 (c : Int)], 82)] y5) := K4.out.put 2 _ _ _ _ rfl hw5.out; clear hw5 K4 K3; have g1 := (K5.out.bx 1 _ _ _ rfl).c 1 (.string r.n) rfl; have g4 := (K5.out.bx 1 _ _ _ rfl).c 4 (.int .u8 r.p) rfl; have q1 := (K5.out.bx 2 _ _ _ rfl).c 1 (.int .u8 (f : Int)) rfl)
      | (go_at_call 31; refine (hE.out _ (Tb.out.below K5.out.low)).mono ?_; rintro e y6 ⟨g, rfl, H6⟩; have K6 : Hid (Fm w [(w.heap.size, oC ob, 29), (w.heap.size + 1, i6 r, 40), (y3.heap.size, #[.string r.n, .int .u8 (f : Int), .int .i64 (L : Int), .int .i64 (c : Int)], 82)] y6) := K5.out.below H6.out.2))
    go_ret
    exact ⟨_, _, rfl, H6.out.1, K6.out.low⟩
/-- Any item that has bytes. -/
theorem lays_any (w : World) (Tb : Hid (Tabs w)) (N : List (ByteArray × Nat)) (hN : ∀ x ∈ N, x.2 ≤ 65535) (ob : Oo) (ho : Hid (Lo w ob)) (hf : ∀ s, findL ob.L s = (lookN N s).map (fun (t : Nat) => (t : Int))) (x : Itm) (hm : mayI x.1 = true) (h1 : x.1.k ≠ 1) (h4 : x.1.k ≠ 4) (hg : LB8 w x.1.sp x.2 ∧ x.2.length = x.1.m) :
    Calls Tryd.prog 12 #[.agg (oC ob), .agg (i6 x.1)] w (BtE w (flB N x)) := by
  rcases may_kind hm with hk | hk | hk | hk | hk
  · exact absurd hk h1
  · exact lays_code w Tb N hN ob ho hf x hm hk
  · exact lays_data w N ob ho hf x hk hg
  · exact absurd hk h4
  · exact lays_addr w N hN ob ho hf x hk
end Go.Proofs.YthbdpceobnkflaaDoor

namespace Go.Proofs.YthbdpceobnkflaaDoor
open Go Go.RowKit
set_option linter.unusedVariables false
set_option maxHeartbeats 1000000
set_option maxRecDepth 20000

theorem bl_irrefl : ∀ l : List UInt8, Op.bytesLess l l = false
  | [] => rfl
  | a :: x => by
    rw [Op.bytesLess, bl_irrefl x]
    simp
theorem bl_trans : ∀ a b c : List UInt8, Op.bytesLess a b = true → Op.bytesLess b c = true → Op.bytesLess a c = true
  | _, [], _, h, _ => by simp [Op.bytesLess] at h
  | _, _ :: _, [], _, h => by simp [Op.bytesLess] at h
  | [], _ :: _, _ :: _, _, _ => rfl
  | a :: x, b :: y, c :: z, h, k => by
    simp only [Op.bytesLess, Bool.or_eq_true, Bool.and_eq_true, decide_eq_true_eq, beq_iff_eq] at h k ⊢
    rcases h with h | ⟨rfl, h⟩
    · rcases k with k | ⟨rfl, k⟩
      · exact .inl (UInt8.lt_trans h k)
      · exact .inl h
    · rcases k with k | ⟨rfl, k⟩
      · exact .inl k
      · exact .inr ⟨rfl, bl_trans x y z h k⟩
theorem bl_tri : ∀ a b : List UInt8, Op.bytesLess a b = false → Op.bytesLess b a = false → a = b
  | [], [], _, _ => rfl
  | [], _ :: _, h, _ => by simp [Op.bytesLess] at h
  | _ :: _, [], _, h => by simp [Op.bytesLess] at h
  | a :: x, b :: y, h, k => by
    simp only [Op.bytesLess, Bool.or_eq_false_iff, Bool.and_eq_false_iff, decide_eq_false_iff_not, beq_eq_false_iff_ne] at h k
    have e : a = b := by
      have h1 := h.1
      have k1 := k.1
      exact UInt8.le_antisymm (UInt8.not_lt.1 k1) (UInt8.not_lt.1 h1)
    subst e
    have h2 := h.2.resolve_left (by simp)
    have k2 := k.2.resolve_left (by simp)
    rw [bl_tri x y h2 k2]
theorem sLt_tri {a b : ByteArray} (h : sLt a b = false) (k : sLt b a = false) : a = b := by
  have := bl_tri _ _ h k
  rw [toList_eq, toList_eq] at this
  cases a; cases b
  simp at this
  rw [this]
theorem befL_irrefl (a : La) : befL a a = false := by
  unfold befL sLt
  rw [bl_irrefl]
  simp
theorem befL_trans (a b c : La) (h : befL a b = true) (k : befL b c = true) : befL a c = true := by
  unfold befL at h k ⊢
  simp only [Bool.or_eq_true, Bool.and_eq_true, decide_eq_true_eq] at h k ⊢
  rcases h with h | ⟨h, h'⟩ <;> rcases k with k | ⟨k, k'⟩
  · exact .inl (by omega)
  · exact .inl (by omega)
  · exact .inl (by omega)
  · exact .inr ⟨by omega, bl_trans _ _ _ h' k'⟩
theorem befL_tri (a b : La) (h : befL a b = false) (k : befL b a = false) : a = b := by
  unfold befL at h k
  simp only [Bool.or_eq_false_iff, Bool.and_eq_false_iff, decide_eq_false_iff_not] at h k
  have e : a.a = b.a := by omega
  have h2 := h.2.resolve_left (by omega)
  have k2 := k.2.resolve_left (by omega)
  have en := sLt_tri h2 k2
  cases a; cases b
  simp at e en
  subst e en
  rfl
theorem befL_ntrans (a b c : La) (h : befL a b = false) (k : befL b c = false) : befL a c = false := by
  by_cases h1 : befL a c = true
  · exfalso
    by_cases h2 : befL b a = true
    · rw [befL_trans b a c h2 h1] at k
      cases k
    · have := befL_tri a b h (by simpa using h2)
      subst this
      rw [h1] at k
      cases k
  · simpa using h1
theorem ordL_lt (a b : La) : decide (ordL a b < 0) = befL a b := by
  unfold ordL befL cmpI cmpS
  by_cases h1 : a.a < b.a
  · simp [h1]
  · by_cases h2 : b.a < a.a
    · have h3 : ¬ a.a = b.a := by omega
      simp [h1, h2, h3]
    · have h3 : a.a = b.a := by omega
      rcases h4 : sLt a.n b.n with _ | _
      · simp only [h3]
        by_cases h5 : a.n = b.n <;> simp [h5]
      · simp [h3]
/-- Labels by rising addresses, those of one address by rising names. -/
def leL (a b : La) : Bool := !befL b a
theorem leL_trans (a b c : La) (h : leL a b = true) (k : leL b c = true) : leL a c = true := by
  unfold leL at h k ⊢
  simp at h k ⊢
  exact befL_ntrans c b a k h
theorem leL_total (a b : La) : (leL a b || leL b a) = true := by
  unfold leL
  rcases h : befL b a with _ | _
  · rfl
  · rcases k : befL a b with _ | _
    · rfl
    · have := befL_trans a b a k h
      rw [befL_irrefl] at this
      cases this
def toLa (x : ByteArray × Nat) : La := ⟨x.1, (x.2 : Int)⟩
def sortN (N : List (ByteArray × Nat)) : List La := (N.map toLa).mergeSort leL
theorem sort_perm {l l' : List La} (h : l.Perm l') : l.mergeSort leL = l'.mergeSort leL := by
  refine List.Perm.eq_of_pairwise (le := fun a b => leL a b = true) (fun a b _ _ h1 h2 => ?_) (List.pairwise_mergeSort leL_trans leL_total l) (List.pairwise_mergeSort leL_trans leL_total l') (((List.mergeSort_perm l leL).trans h).trans (List.mergeSort_perm l' leL).symm)
  unfold leL at h1 h2
  simp at h1 h2
  exact befL_tri a b h2 h1
end Go.Proofs.YthbdpceobnkflaaDoor
