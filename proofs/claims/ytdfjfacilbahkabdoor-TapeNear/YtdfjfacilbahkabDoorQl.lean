/- Bytes written as waves: the program's. -/
import Derived.Test.YtdfjfacilbahkabDoorQk
namespace Go.Proofs.YtdfjfacilbahkabDoor
open Go Go.RowKit Go.Shelf
set_option linter.unusedVariables false
set_option maxHeartbeats 2000000
set_option maxRecDepth 100000
attribute [local go_sem] Oper.semAt_some

theorem opIn_app {F : Fence} {n : Nat} {o : Oper} {a : Act} {K : Act → World → Prop} {Q : Exit → Act → World → Prop} {w w' : World} {v u v' : Value} (hF : ∀ f, F.fn f) (s x : Operand) (t : TypeId) (ho : o.op = .call { callee := .builtin .append, args := #[s, x], argTypes := #[t, t] }) (hs : a.eval s = v) (hx : a.eval x = u) (hr : (Builtin.append_ #[t, t] o.type #[v, u]).run Tryd.prog w = .ok v' w') (h : K (a.put o.dst v') w') : o.wpIn F n Tryd.prog a w K Q := by
  refine ⟨fun f _ => hF f, ?_⟩
  rw [Oper.semAt_plain F _ _ (fun c e => by rw [ho] at e; cases e)]
  unfold execOp
  simp only [ho, resolve, invoke, builtin, Sem.run_bind, Sem.run_pure, Result.andThen_ok, List.map_toArray, List.map_cons, List.map_nil, hs, hx, hr]
  exact h
theorem opIn_bsWa {F : Fence} {n : Nat} {o : Oper} {a : Act} {K : Act → World → Prop} {Q : Exit → Act → World → Prop} {w : World} (hF : ∀ f, F.fn f) (p : Int × Int) (x : Operand) (ho : o.op = .buildSlice 25 1 #[(0, x)]) (hx : a.eval x = .agg (c2 p).toArray)
    (h : K (a.put o.dst (.slice (some ⟨w.heap.size, 0, none⟩) 1 1)) (w.alloc (.cells (c2 p).toArray 30))) : o.wpIn F n Tryd.prog a w K Q := by
  have hr : (execOp a.eval o).run Tryd.prog w = .ok (.value (.slice (some ⟨w.heap.size, 0, none⟩) 1 1)) (w.alloc (.cells (c2 p).toArray 30)) := by
    obtain ⟨h1, h2⟩ := p
    unfold execOp
    simp only [ho, List.map_toArray, List.map_cons, List.map_nil, hx]
    kernel_rfl
  refine ⟨fun f _ => hF f, ?_⟩
  rw [Oper.semAt_plain F _ _ (fun c e => by rw [ho] at e; cases e), hr]
  exact h
theorem pwrite_any (w : World) (sb : Option Addr) (cb : Nat) (bs : List UInt8) (m : Int) (hl : Hid (LB w sb bs)) (hn : bs.length ≤ 9223372036854775807) :
    Calls Tryd.prog 5 #[.slice sb bs.length cb, .int .i64 m] w fun e w' => ∃ v, e = .returned (.tuple #[v, .int .i64 (writeW bs m).2]) ∧ Hid (KL 30 2 c2 w v (writeW bs m).1 w') := by
  obtain ⟨n, hn'⟩ : ∃ n, bs.length = n := ⟨_, rfl⟩
  have ni : (n : Int) ≤ 9223372036854775807 := by omega
  unfold writeW
  rw [hn']
  by_cases hb : 16384 < n
  · rw [if_pos hb]
    have q : decide ((16384 : Int) < n) = true := by simp; omega
    clear hb hn hn'
    go_enter Tryd.func5, Tryd.ntmps5
    go_wp2
    go_ret2
    exact ⟨_, rfl, KL.nil w⟩
  rw [if_neg hb]
  have q : decide ((16384 : Int) < n) = false := by simp; omega
  by_cases h0 : m < 0
  · rw [if_pos (.inl h0)]
    have q0 : decide (m < 0) = true := by simpa using h0
    clear hb hn hn' h0
    go_enter Tryd.func5, Tryd.ntmps5
    go_wp2
    go_ret2
    exact ⟨_, rfl, KL.nil w⟩
  have q0 : decide (m < 0) = false := by simpa using h0
  by_cases h1 : 16384 < m
  · rw [if_pos (.inr h1)]
    have q1 : decide (16384 < m) = true := by simpa using h1
    clear hb hn hn' h0 h1
    go_enter Tryd.func5, Tryd.ntmps5
    go_wp2
    go_ret2
    exact ⟨_, rfl, KL.nil w⟩
  have q1 : decide (16384 < m) = false := by simpa using h1
  rw [if_neg (by omega)]
  obtain ⟨M, rfl⟩ : ∃ M : Nat, m = (M : Int) := ⟨m.toNat, by omega⟩
  have hM : Hid (M ≤ 16384 ∧ n ≤ 16384) := ⟨by omega, by omega⟩
  have Mi : (M : Int) ≤ 16384 := by omega
  have n16 : (n : Int) ≤ 16384 := by omega
  rw [Int.toNat_natCast]
  unfold writeL
  have hl' : Hid (bs.length = n) := hn'
  obtain ⟨C, hC⟩ : ∃ C : Nat, (M : Int) + 10 * (n : Int) = (C : Int) := ⟨M + 10 * n, by push_cast; rfl⟩
  obtain ⟨y1, hmk, hk1⟩ := makeL kWave w C (by omega)
  have hY : Hid (Ho 25 30 2 c2 w.heap.size y1.heap.size [] (y1.alloc (.cells #[.slice (some ⟨w.heap.size, 0, none⟩) 0 C] 25)) ∧ Below w.heap.size w (y1.alloc (.cells #[.slice (some ⟨w.heap.size, 0, none⟩) 0 C] 25))) := ⟨⟨_, bx1 _ _ _, hk1.own.alloc _⟩, hk1.low.alloc hk1.low.size _⟩
  have hbo : Hid (w.heap.size ≤ y1.heap.size) := hk1.low.size
  obtain ⟨Y0, hY0⟩ : ∃ Y0, y1.alloc (.cells #[.slice (some ⟨w.heap.size, 0, none⟩) 0 C] 25) = Y0 := ⟨_, rfl⟩
  rw [hY0] at hY
  obtain ⟨bo, ebo⟩ : ∃ b, y1.heap.size = b := ⟨_, rfl⟩
  rw [ebo] at hY hbo
  replace ebo : Hid _ := ebo
  have hWr : Hid (∀ (b : Int) (y : World), b = 0 ∨ b = 1 → Calls Tryd.prog 7 #[.int .u8 b] y fun e w' => e = .returned (.agg (c2 (wv b)).toArray) ∧ Below y.heap.size y w') := fun b y h => written_any y b h
  clear hb hn hn' h0 h1 hk1
  refine (callsIn_wide (n := 8)).1 ?_
  refine callsIn_of_wp_marks Tryd.func5 rfl trivial ?_ rfl
  simp only [Tryd.ntmps5, List.size_toArray, List.length_cons, List.length_nil, Nat.reduceAdd, Nat.reduceSub, Array.replicate_succ, Array.replicate_zero, List.push_toArray, List.append_toArray, List.nil_append, List.cons_append]
  gi_wp2
  rw [ebo.out]
  clear hY0 hmk
  gi_loopw [26] (fun i wz => ∃ (k : Nat) (y : World), y = wz ∧ i = .int .i64 (k : Int) ∧ Hid (k ≤ M) ∧ Hid (Ho 25 30 2 c2 w.heap.size bo (List.replicate k (wv 0)) y ∧ Below w.heap.size w y)) (fun i _ => (M - intOf i).toNat)
  case atStart => exact ⟨0, Y0, rfl, rfl, Nat.zero_le _, hY⟩
  case round =>
    obtain ⟨k, y, rfl, rfl, J, K⟩ := hrel
    by_cases hlt : k < M
    · have hki : (k : Int) < M := by omega
      have hlt' : Hid (k < M) := hlt
      have hol : Hid ((List.replicate k (wv 0)).length ≤ 16384) := by have := hM.out.1; show _ ≤ _; simp; omega
      have hnx : Hid (List.replicate (k + 1) (wv 0) = List.replicate k (wv 0) ++ [wv 0]) := List.replicate_succ'
      obtain ⟨out, eo⟩ : ∃ x, List.replicate k (wv 0) = x := ⟨_, rfl⟩
      rw [eo] at K hol hnx
      obtain ⟨PP, eP⟩ : ∃ x, wv 0 = x := ⟨_, rfl⟩
      have hnx2 : Hid (List.replicate (k + 1) (wv 0) = out ++ [PP]) := by show _ = _; rw [hnx.out, eP]
      have hW : Hid (∀ y : World, Calls Tryd.prog 7 #[.int .u8 0] y fun e w' => e = .returned (.agg (c2 PP).toArray) ∧ Below y.heap.size y w') := fun y => by rw [← eP]; exact hWr.out 0 y (.inl rfl)
      obtain ⟨⟨v1, bv, ov⟩, lowY⟩ := K.out
      obtain ⟨sp1, cap1, rfl, -⟩ := ov.open kWave.len
      obtain ⟨m1, em1⟩ : ∃ m, out.length = m := ⟨_, rfl⟩
      rw [em1] at bv ov
      have b0 : Hid (Bx y.drew bo #[.slice sp1 m1 cap1] 25) := bv
      have o0 : Hid (OwnL 30 2 c2 w.heap.size y.drew (.slice sp1 m1 cap1) out) := ov.below (below_drew (Below.refl _ _))
      have n0z : Hid (w.heap.size ≤ y.drew.heap.size) := lowY.size
      have l0 : Hid (Below w.heap.size w y.drew) := below_drew lowY
      clear eo eP hlt hnx em1 bv ov lowY K
      gi_wp2
      refine wpIn_region_any (by kernel_rfl) ?_
      change wpAnyIn _ _ _ _ _ _ _ _ _ (World.drew _)
      generalize y.drew = z0 at b0 o0 n0z l0 ⊢
      refine wpAnyIn_ready (rs := [0, 1]) (by kernel_rfl) (by simp) (AllReadyIn.cons rfl (fun K hK => ?_) (AllReadyIn.cons rfl (fun K hK => ?_) AllReadyIn.nil))
      · rw [if_pos (by rfl)]
        have cx := b0.out.c 0 _ rfl
        gi_wp2
        try (refine hK _ _ ?_; clear hK K)
        clear cx
        try simp only [Act.put, List.setIfInBounds_toArray, List.set_cons_zero, List.set_cons_succ]
        refine wpAnyIn_ready (rs := [1]) (by kernel_rfl) (by simp) (AllReadyIn.cons rfl (fun K hK => ?_) AllReadyIn.nil)
        rw [if_pos (by rfl)]
        gi_wp2_with ((first | refine ⟨trivial, ?_⟩ | refine ⟨fun _ _ => trivial, ?_⟩ | skip); gi_at_call 7; refine (callsIn_wide.2 (hW.out _)).mono ?_; rintro e z1 ⟨rfl, h1⟩; refine stopAt ?_)
        obtain ⟨v', z2, A⟩ := Ho.step kWave (by decide) b0.out o0.out h1 PP (by have := hol.out; omega) n0z.out hbo.out
        obtain ⟨sp2, m2, cap2, rfl⟩ := A.sl
        replace A : Hid _ := A
        refine Stop.go ?_
        try (refine hK _ _ ?_; clear hK K)
        try simp only [Act.put, List.setIfInBounds_toArray, List.set_cons_zero, List.set_cons_succ]
        refine wpAnyIn_ready (rs := [2]) (by kernel_rfl) (by simp) (AllReadyIn.cons rfl (fun K hK => ?_) AllReadyIn.nil)
        rw [if_pos (by rfl)]
        refine opIn_bsWa (fun _ => trivial) PP (.tmp 29) rfl rfl ?_
        try (refine hK _ _ ?_; clear hK K)
        try simp only [Act.put, List.setIfInBounds_toArray]
        refine wpAnyIn_ready (rs := [3]) (by kernel_rfl) (by simp) (AllReadyIn.cons rfl (fun K hK => ?_) AllReadyIn.nil)
        rw [if_pos (by rfl)]
        refine opIn_app (v := .slice sp1 m1 cap1) (u := .slice (some ⟨z1.heap.size, 0, none⟩) 1 1) (fun _ => trivial) (.tmp 28) (.tmp 30) 25 rfl rfl rfl (A.out.run _) ?_
        try (refine hK _ _ ?_; clear hK K)
        try simp only [Act.put]
        refine wpAnyIn_ready (rs := [4]) (by kernel_rfl) (by simp) (AllReadyIn.cons rfl (fun K hK => ?_) AllReadyIn.nil)
        rw [if_pos (by rfl)]
        have cc := A.out.b2.c 0 _ rfl
        have cf := A.out.b2.fz 0
        gi_wp2
        try (refine hK _ _ ?_; clear hK K)
        clear cc cf
        try simp only [Act.put, List.setIfInBounds_toArray, List.set_cons_zero, List.set_cons_succ]
        refine wpAnyIn_done (by kernel_rfl) ?_ _
        have K2 : Hid (Ho 25 30 2 c2 w.heap.size bo (out ++ [PP]) (z2.setCell ⟨bo, 0, none⟩ (.slice sp2 m2 cap2)) ∧ Below w.heap.size w (z2.setCell ⟨bo, 0, none⟩ (.slice sp2 m2 cap2))) := ⟨A.out.ho, l0.out.trans A.out.low⟩
        generalize z2.setCell ⟨bo, 0, none⟩ (.slice sp2 m2 cap2) = y9 at K2 ⊢
        clear A b0 o0 n0z l0 h1
        gi_wp2
        go_roundw
        case rel => exact ⟨k + 1, y9, rfl, by simp, hlt'.out, by rw [hnx2.out]; exact K2⟩
        case measure => have := hlt'.out; simp [intOf]; omega
      · rw [if_pos (by rfl)]
        gi_wp2_with ((first | refine ⟨trivial, ?_⟩ | refine ⟨fun _ _ => trivial, ?_⟩ | skip); gi_at_call 7; refine (callsIn_wide.2 (hW.out _)).mono ?_; rintro e z1 ⟨rfl, h1⟩; refine stopAt ?_)
        obtain ⟨v', z2, A⟩ := Ho.step kWave (by decide) b0.out o0.out h1 PP (by have := hol.out; omega) n0z.out hbo.out
        obtain ⟨sp2, m2, cap2, rfl⟩ := A.sl
        replace A : Hid _ := A
        refine Stop.go ?_
        try (refine hK _ _ ?_; clear hK K)
        try simp only [Act.put, List.setIfInBounds_toArray, List.set_cons_zero, List.set_cons_succ]
        refine wpAnyIn_ready (rs := [0, 2]) (by kernel_rfl) (by simp) (AllReadyIn.cons rfl (fun K hK => ?_) (AllReadyIn.cons rfl (fun K hK => ?_) AllReadyIn.nil))
        · rw [if_pos (by rfl)]
          have cx := A.out.b1.c 0 _ rfl
          gi_wp2
          try (refine hK _ _ ?_; clear hK K)
          clear cx
          try simp only [Act.put, List.setIfInBounds_toArray, List.set_cons_zero, List.set_cons_succ]
          refine wpAnyIn_ready (rs := [2]) (by kernel_rfl) (by simp) (AllReadyIn.cons rfl (fun K hK => ?_) AllReadyIn.nil)
          rw [if_pos (by rfl)]
          refine opIn_bsWa (fun _ => trivial) PP (.tmp 29) rfl rfl ?_
          try (refine hK _ _ ?_; clear hK K)
          try simp only [Act.put, List.setIfInBounds_toArray]
          refine wpAnyIn_ready (rs := [3]) (by kernel_rfl) (by simp) (AllReadyIn.cons rfl (fun K hK => ?_) AllReadyIn.nil)
          rw [if_pos (by rfl)]
          refine opIn_app (v := .slice sp1 m1 cap1) (u := .slice (some ⟨z1.heap.size, 0, none⟩) 1 1) (fun _ => trivial) (.tmp 28) (.tmp 30) 25 rfl rfl rfl (A.out.run _) ?_
          try (refine hK _ _ ?_; clear hK K)
          try simp only [Act.put]
          refine wpAnyIn_ready (rs := [4]) (by kernel_rfl) (by simp) (AllReadyIn.cons rfl (fun K hK => ?_) AllReadyIn.nil)
          rw [if_pos (by rfl)]
          have cc := A.out.b2.c 0 _ rfl
          have cf := A.out.b2.fz 0
          gi_wp2
          try (refine hK _ _ ?_; clear hK K)
          clear cc cf
          try simp only [Act.put, List.setIfInBounds_toArray, List.set_cons_zero, List.set_cons_succ]
          refine wpAnyIn_done (by kernel_rfl) ?_ _
          have K2 : Hid (Ho 25 30 2 c2 w.heap.size bo (out ++ [PP]) (z2.setCell ⟨bo, 0, none⟩ (.slice sp2 m2 cap2)) ∧ Below w.heap.size w (z2.setCell ⟨bo, 0, none⟩ (.slice sp2 m2 cap2))) := ⟨A.out.ho, l0.out.trans A.out.low⟩
          generalize z2.setCell ⟨bo, 0, none⟩ (.slice sp2 m2 cap2) = y9 at K2 ⊢
          clear A b0 o0 n0z l0 h1
          gi_wp2
          go_roundw
          case rel => exact ⟨k + 1, y9, rfl, by simp, hlt'.out, by rw [hnx2.out]; exact K2⟩
          case measure => have := hlt'.out; simp [intOf]; omega
        · rw [if_pos (by rfl)]
          refine opIn_bsWa (fun _ => trivial) PP (.tmp 29) rfl rfl ?_
          try (refine hK _ _ ?_; clear hK K)
          try simp only [Act.put, List.setIfInBounds_toArray]
          refine wpAnyIn_ready (rs := [0]) (by kernel_rfl) (by simp) (AllReadyIn.cons rfl (fun K hK => ?_) AllReadyIn.nil)
          rw [if_pos (by rfl)]
          have cx := A.out.ba.c 0 _ rfl
          gi_wp2
          try (refine hK _ _ ?_; clear hK K)
          clear cx
          try simp only [Act.put, List.setIfInBounds_toArray, List.set_cons_zero, List.set_cons_succ]
          refine wpAnyIn_ready (rs := [3]) (by kernel_rfl) (by simp) (AllReadyIn.cons rfl (fun K hK => ?_) AllReadyIn.nil)
          rw [if_pos (by rfl)]
          refine opIn_app (v := .slice sp1 m1 cap1) (u := .slice (some ⟨z1.heap.size, 0, none⟩) 1 1) (fun _ => trivial) (.tmp 28) (.tmp 30) 25 rfl rfl rfl (A.out.run _) ?_
          try (refine hK _ _ ?_; clear hK K)
          try simp only [Act.put, List.setIfInBounds_toArray]
          refine wpAnyIn_ready (rs := [4]) (by kernel_rfl) (by simp) (AllReadyIn.cons rfl (fun K hK => ?_) AllReadyIn.nil)
          rw [if_pos (by rfl)]
          have cc := A.out.b2.c 0 _ rfl
          have cf := A.out.b2.fz 0
          gi_wp2
          try (refine hK _ _ ?_; clear hK K)
          clear cc cf
          try simp only [Act.put, List.setIfInBounds_toArray, List.set_cons_zero, List.set_cons_succ]
          refine wpAnyIn_done (by kernel_rfl) ?_ _
          have K2 : Hid (Ho 25 30 2 c2 w.heap.size bo (out ++ [PP]) (z2.setCell ⟨bo, 0, none⟩ (.slice sp2 m2 cap2)) ∧ Below w.heap.size w (z2.setCell ⟨bo, 0, none⟩ (.slice sp2 m2 cap2))) := ⟨A.out.ho, l0.out.trans A.out.low⟩
          generalize z2.setCell ⟨bo, 0, none⟩ (.slice sp2 m2 cap2) = y9 at K2 ⊢
          clear A b0 o0 n0z l0 h1
          gi_wp2
          go_roundw
          case rel => exact ⟨k + 1, y9, rfl, by simp, hlt'.out, by rw [hnx2.out]; exact K2⟩
          case measure => have := hlt'.out; simp [intOf]; omega
    · have hke : k = M := by have := J.out; omega
      subst hke
      clear hlt J
      have K0 : Hid (Ho 25 30 2 c2 w.heap.size bo (List.replicate k (wv 0) ++ (bs.take 0).flatMap fun x => byteW x.toNat) y ∧ Below w.heap.size w y ∧ ([] : List Nat).Nodup ∧ ∀ D ∈ ([] : List Nat), y.heap[D]? = some (.deferred (some [])) ∧ w.heap.size ≤ D) := ⟨by simpa using K.out.1, K.out.2, by simp, by simp⟩
      clear K
      gi_wp2
      refine wpIn_loop (fun a W => ∃ (j : Nat) (Ds : List Nat) (U8 U36 U37 U38 U39 U40 U47 : Value), a = { tmps := #[.slice sb n cb, .int .i64 (k : Int), undef, undef, .slice none 0 0, .int .i64 0, .pointer (some ⟨bo, 0, none⟩), undef, U8, undef, .slice sb n cb, .int .i64 (n : Int), .bool false, .int .i64 (k : Int), .bool false, .bool false, .int .i64 (k : Int), .bool false, .bool false, .int .i64 (k : Int), .slice sb n cb, .int .i64 (n : Int), .int .i64 (10 * (n : Int)), .int .i64 (C : Int), .slice (some ⟨w.heap.size, 0, none⟩) 0 C, .int .i64 (k : Int), .int .i64 (k : Int), .bool false, u28, u29, u30, u31, u32, .slice sb n cb, .int .i64 (n : Int), .int .i64 (j : Int), U36, U37, U38, U39, U40, undef, undef, undef, undef, undef, undef, U47, undef], defers := marks Ds } ∧ Hid (j ≤ n) ∧ Hid (Ho 25 30 2 c2 w.heap.size bo (List.replicate k (wv 0) ++ (bs.take j).flatMap fun x => byteW x.toNat) W ∧ Below w.heap.size w W ∧ Ds.Nodup ∧ ∀ D ∈ Ds, W.heap[D]? = some (.deferred (some [])) ∧ w.heap.size ≤ D)) (fun a _ => (n - intOf (a.tmps.getD 35 undef)).toNat) ?_ ?_
      · exact ⟨0, [], _, _, _, _, _, _, _, rfl, Nat.zero_le _, K0⟩
      rintro a W ⟨j, Ds, U8, U36, U37, U38, U39, U40, U47, rfl, J, K⟩
      by_cases hlt : j < n
      · obtain ⟨z, hz, hdrop⟩ := row_at hl'.out hlt
        have hji : (j : Int) < n := by omega
        have hlt' : Hid (j < n) := hlt
        have hnx : Hid ((List.replicate k (wv 0) ++ (bs.take (j + 1)).flatMap fun x => byteW x.toNat) = (List.replicate k (wv 0) ++ (bs.take j).flatMap fun x => byteW x.toNat) ++ byteW z.toNat) := by
          show _ = _
          rw [List.take_add_one, hz]
          simp [List.flatMap_append]
        have hol : Hid ((List.replicate k (wv 0) ++ (bs.take j).flatMap fun x => byteW x.toNat).length ≤ 16384 + 163840) := by
          show _ ≤ _
          have h := writeL_len (bs.take j) k
          unfold writeL at h
          rw [h, List.length_take]
          have := hM.out
          omega
        obtain ⟨out, eo⟩ : ∃ x, (List.replicate k (wv 0) ++ (bs.take j).flatMap fun x => byteW x.toNat) = x := ⟨_, rfl⟩
        rw [eo] at K hol hnx
        have hzn := z.toNat_lt
        obtain ⟨g, o, rfl, hcell⟩ := lb_at (hl.out.below K.out.2.1) j z hz
        obtain ⟨Z, eZ⟩ : ∃ x, z.toNat = x := ⟨_, rfl⟩
        rw [eZ] at hnx hzn hcell
        have ij := fun u => idxB g o n cb j hlt u
        have hZ : Hid (Z < 256) := by show _ < _; omega
        clear eo hlt hz hdrop eZ hzn
        gi_wp2_with ((first | refine ⟨trivial, ?_⟩ | skip); gi_at_call 8; refine (bitsOf_in _ _ _).mono ?_; rintro e w' ⟨rfl, rfl⟩)
        have bkZ : Bx (W.alloc (.cells #[.int .u8 (Z : Int)] 5)) W.heap.size #[.int .u8 (Z : Int)] 5 := bx1 _ _ _
        have hb1 : Below W.heap.size W (W.alloc (.cells #[.int .u8 (Z : Int)] 5)) := below1 _ _
        have hds : Hid (∀ D ∈ Ds, D < W.heap.size) := fun D hD => heap_lt (K.out.2.2.2 D hD).1
        have hKs : Hid (w.heap.size ≤ W.heap.size) := K.out.2.1.size
        have hsz : (W.alloc (.cells #[.int .u8 (Z : Int)] 5)).heap.size = W.heap.size + 1 := by simp
        have hI0 : Hid ((Ho 25 30 2 c2 w.heap.size bo (out ++ ([] : List Bool).map fun x => wv (bI x)) (W.alloc (.cells #[.int .u8 (Z : Int)] 5)) ∧ Below w.heap.size w (W.alloc (.cells #[.int .u8 (Z : Int)] 5))) ∧ ∀ D ∈ Ds, (W.alloc (.cells #[.int .u8 (Z : Int)] 5)).heap[D]? = some (.deferred (some []))) := by
          refine ⟨⟨?_, K.out.2.1.trans (hb1.mono K.out.2.1.size)⟩, fun D hD => (hb1.block D (hds.out D hD)).trans (K.out.2.2.2 D hD).1⟩
          obtain ⟨v, h1, h2⟩ := K.out.1
          rw [List.map_nil, List.append_nil]
          exact ⟨v, (hb1.block bo (heap_lt h1)).trans h1, h2.below hb1⟩
        have hn1 : Hid (Ds.Nodup ∧ ∀ D ∈ Ds, w.heap.size ≤ D) := ⟨K.out.2.2.1, fun D hD => (K.out.2.2.2 D hD).2⟩
        clear K hcell hb1
        generalize W.alloc (.cells #[.int .u8 (Z : Int)] 5) = W1 at bkZ hsz hI0 ⊢
        refine wpIn_rangeFunc_ownH rfl (by omega) (gf := 11) (lb := #[.pointer (some ⟨W.heap.size, 0, none⟩)]) rfl trivial (enters_of Tryd.func11 (by kernel_rfl) rfl)
          (bits_stops _ (by omega) W.heap.size Z hZ.out W1 bkZ) (fun _ _ => trivial) (fun _ _ _ _ _ _ _ _ => trivial) (Below.refl _ _) (fun _ => rfl)
          (fun pre W => (Ho 25 30 2 c2 w.heap.size bo (out ++ pre.map fun x => wv (bI x)) W ∧ Below w.heap.size w W) ∧ ∀ D ∈ Ds, W.heap[D]? = some (.deferred (some [])))
          (fun _ _ _ => False)
          (OwnFrom.and (OwnFrom.and ((Ho.own _ _ _ _ _ _ (fun pre : List Bool => out ++ pre.map fun x => wv (bI x))).from _) (ownFrom_below (Nat.le_refl _) (by have := hKs.out; omega)))
            (fun s A B row hs hg hr D hD => (hg.block D (heap_lt (hs D hD)) (fun e => by have := (hr D e.symm).1; have := hds.out D hD; omega)).trans (hs D hD)))
          (fun _ _ _ _ _ hs _ _ => hs)
          hI0.out
          (fun x a' _ => a' = { tmps := #[.slice (some ⟨g, o, none⟩) n cb, .int .i64 (k : Int), undef, undef, .slice none 0 0, .int .i64 0, .pointer (some ⟨bo, 0, none⟩), undef, .int .u8 (Z : Int), .int .u8 (bI x), .slice (some ⟨g, o, none⟩) n cb, .int .i64 (n : Int), .bool false, .int .i64 (k : Int), .bool false, .bool false, .int .i64 (k : Int), .bool false, .bool false, .int .i64 (k : Int), .slice (some ⟨g, o, none⟩) n cb, .int .i64 (n : Int), .int .i64 (10 * (n : Int)), .int .i64 (C : Int), .slice (some ⟨w.heap.size, 0, none⟩) 0 C, .int .i64 (k : Int), .int .i64 (k : Int), .bool false, u28, u29, u30, u31, u32, .slice (some ⟨g, o, none⟩) n cb, .int .i64 (n : Int), .int .i64 (j : Int), .bool true, .pointer (some ⟨g, o + j, none⟩), .int .u8 (Z : Int), .int .u8 (Z : Int), .func (.func 11) #[] #[.pointer (some ⟨W.heap.size, 0, none⟩)], .int .u8 (bI x), undef, undef, undef, undef, undef, U47, undef], defers := [] })
          (fun x a' _ X Y row hs hg hr => hs)
          ?assign ?body ?done ?stop
        case assign =>
          rintro lp pre x W2 K2 hi hK2
          have hK2 : Hid _ := hK2
          have hi : Hid _ := hi
          gi_wp2
          exact hK2.out _ _ ((KeepsOthers.refl _).from _) trivial hi.out rfl
        case body =>
          rintro lp pre x a' y hl hr ⟨⟨hho, hlow⟩, hd⟩ rfl hpre
          obtain ⟨v1, bv, ov⟩ := hho
          obtain ⟨sp1, cap1, rfl, -⟩ := ov.open kWave.len
          have hol2 : (out ++ pre.map fun x => wv (bI x)).length ≤ 200000 := by have := hol.out; simp; omega
          have hnx2 : Hid (out ++ (pre ++ [x]).map (fun x => wv (bI x)) = (out ++ pre.map fun x => wv (bI x)) ++ [wv (bI x)]) := by show _ = _; simp
          obtain ⟨out2, eo2⟩ : ∃ q, (out ++ pre.map fun x => wv (bI x)) = q := ⟨_, rfl⟩
          rw [eo2] at bv ov hol2 hnx2
          replace hol : Hid (out2.length ≤ 200000) := hol2
          obtain ⟨m1, em1⟩ : ∃ m, out2.length = m := ⟨_, rfl⟩
          rw [em1] at bv ov
          have hW0 : Hid (∀ y : World, Calls Tryd.prog 7 #[.int .u8 (bI x)] y fun e w' => e = .returned (.agg (c2 (wv (bI x))).toArray) ∧ Below y.heap.size y w') := fun y => hWr.out (bI x) y (by cases x <;> simp [bI])
          obtain ⟨PP, eP⟩ : ∃ q, wv (bI x) = q := ⟨_, rfl⟩
          rw [eP] at hW0 hnx2
          obtain ⟨bx, ebx⟩ : ∃ q, bI x = q := ⟨_, rfl⟩
          rw [ebx] at hW0 ⊢
          have hW : Hid _ := hW0
          have b0 : Hid (Bx y.drew bo #[.slice sp1 m1 cap1] 25) := bv
          have o0 : Hid (OwnL 30 2 c2 w.heap.size y.drew (.slice sp1 m1 cap1) out2) := ov.below (below_drew (Below.refl _ _))
          have n0z : Hid (w.heap.size ≤ y.drew.heap.size) := hlow.size
          have l0 : Hid (Below w.heap.size w y.drew ∧ ∀ D ∈ Ds, y.drew.heap[D]? = some (.deferred (some []))) := ⟨below_drew hlow, hd⟩
          have k0 : Hid (KeepsOthers y y.drew) := ⟨Nat.le_refl _, fun _ _ h _ => h⟩
          clear eo2 eP ebx em1 bv ov hlow hd hpre hr hl hol2 hW0
          gi_wp2
          refine wpIn_region_any (by kernel_rfl) ?_
          change wpAnyIn _ _ _ _ _ _ _ _ _ (World.drew _)
          generalize y.drew = z0 at b0 o0 n0z l0 k0 ⊢
          refine wpAnyIn_ready (rs := [0, 1]) (by kernel_rfl) (by simp) (AllReadyIn.cons rfl (fun K hK => ?_) (AllReadyIn.cons rfl (fun K hK => ?_) AllReadyIn.nil))
          · rw [if_pos (by rfl)]
            have cx := b0.out.c 0 _ rfl
            gi_wp2
            try (refine hK _ _ ?_; clear hK K)
            clear cx
            try simp only [Act.put, List.setIfInBounds_toArray, List.set_cons_zero, List.set_cons_succ]
            refine wpAnyIn_ready (rs := [1]) (by kernel_rfl) (by simp) (AllReadyIn.cons rfl (fun K hK => ?_) AllReadyIn.nil)
            rw [if_pos (by rfl)]
            gi_wp2
            try (refine hK _ _ ?_; clear hK K)
            try simp only [Act.put, List.setIfInBounds_toArray, List.set_cons_zero, List.set_cons_succ]
            refine wpAnyIn_ready (rs := [2]) (by kernel_rfl) (by simp) (AllReadyIn.cons rfl (fun K hK => ?_) AllReadyIn.nil)
            rw [if_pos (by rfl)]
            gi_wp2_with ((first | refine ⟨trivial, ?_⟩ | refine ⟨fun _ _ => trivial, ?_⟩ | skip); gi_at_call 7; refine (CallsIn.inRound lp (callsIn_wide.2 (hW.out _))).mono ?_; rintro e z1 ⟨rfl, h1⟩; refine stopAt ?_)
            obtain ⟨v', z2, A⟩ := Ho.step kWave (by decide) b0.out o0.out h1 PP (by have := hol.out; omega) n0z.out hbo.out
            obtain ⟨sp2, m2, cap2, rfl⟩ := A.sl
            replace A : Hid _ := A
            refine Stop.go ?_
            try (refine hK _ _ ?_; clear hK K)
            try simp only [Act.put, List.setIfInBounds_toArray, List.set_cons_zero, List.set_cons_succ]
            refine wpAnyIn_ready (rs := [3]) (by kernel_rfl) (by simp) (AllReadyIn.cons rfl (fun K hK => ?_) AllReadyIn.nil)
            rw [if_pos (by rfl)]
            refine opIn_bsWa (fun _ => trivial) PP (.tmp 44) rfl rfl ?_
            try (refine hK _ _ ?_; clear hK K)
            try simp only [Act.put, List.setIfInBounds_toArray]
            refine wpAnyIn_ready (rs := [4]) (by kernel_rfl) (by simp) (AllReadyIn.cons rfl (fun K hK => ?_) AllReadyIn.nil)
            rw [if_pos (by rfl)]
            refine opIn_app (v := .slice sp1 m1 cap1) (u := .slice (some ⟨z1.heap.size, 0, none⟩) 1 1) (fun _ => trivial) (.tmp 42) (.tmp 45) 25 rfl rfl rfl (A.out.run _) ?_
            try (refine hK _ _ ?_; clear hK K)
            try simp only [Act.put]
            refine wpAnyIn_ready (rs := [5]) (by kernel_rfl) (by simp) (AllReadyIn.cons rfl (fun K hK => ?_) AllReadyIn.nil)
            rw [if_pos (by rfl)]
            have cc := A.out.b2.c 0 _ rfl
            have cf := A.out.b2.fz 0
            gi_wp2
            try (refine hK _ _ ?_; clear hK K)
            clear cc cf
            try simp only [Act.put, List.setIfInBounds_toArray, List.set_cons_zero, List.set_cons_succ]
            refine wpAnyIn_done (by kernel_rfl) ?_ _
            have K2 : Hid ((Ho 25 30 2 c2 w.heap.size bo (out2 ++ [PP]) (z2.setCell ⟨bo, 0, none⟩ (.slice sp2 m2 cap2)) ∧ Below w.heap.size w (z2.setCell ⟨bo, 0, none⟩ (.slice sp2 m2 cap2))) ∧ ∀ D ∈ Ds, (z2.setCell ⟨bo, 0, none⟩ (.slice sp2 m2 cap2)).heap[D]? = some (.deferred (some []))) := ⟨⟨A.out.ho, l0.out.1.trans A.out.low⟩, fun D hD => A.out.oth.same D _ (l0.out.2 D hD) rfl⟩
            have k2 : Hid (KeepsOthers y (z2.setCell ⟨bo, 0, none⟩ (.slice sp2 m2 cap2))) := k0.out.trans A.out.oth
            generalize z2.setCell ⟨bo, 0, none⟩ (.slice sp2 m2 cap2) = y9 at K2 k2 ⊢
            clear A b0 o0 n0z l0 h1 k0
            gi_wp2
            refine ⟨k2.out.from _, trivial, ?_⟩
            dsimp only
            rw [hnx2.out]
            exact K2.out
          · rw [if_pos (by rfl)]
            gi_wp2
            try (refine hK _ _ ?_; clear hK K)
            try simp only [Act.put, List.setIfInBounds_toArray, List.set_cons_zero, List.set_cons_succ]
            refine wpAnyIn_ready (rs := [0, 2]) (by kernel_rfl) (by simp) (AllReadyIn.cons rfl (fun K hK => ?_) (AllReadyIn.cons rfl (fun K hK => ?_) AllReadyIn.nil))
            · rw [if_pos (by rfl)]
              have cx := b0.out.c 0 _ rfl
              gi_wp2
              try (refine hK _ _ ?_; clear hK K)
              clear cx
              try simp only [Act.put, List.setIfInBounds_toArray, List.set_cons_zero, List.set_cons_succ]
              refine wpAnyIn_ready (rs := [2]) (by kernel_rfl) (by simp) (AllReadyIn.cons rfl (fun K hK => ?_) AllReadyIn.nil)
              rw [if_pos (by rfl)]
              gi_wp2_with ((first | refine ⟨trivial, ?_⟩ | refine ⟨fun _ _ => trivial, ?_⟩ | skip); gi_at_call 7; refine (CallsIn.inRound lp (callsIn_wide.2 (hW.out _))).mono ?_; rintro e z1 ⟨rfl, h1⟩; refine stopAt ?_)
              obtain ⟨v', z2, A⟩ := Ho.step kWave (by decide) b0.out o0.out h1 PP (by have := hol.out; omega) n0z.out hbo.out
              obtain ⟨sp2, m2, cap2, rfl⟩ := A.sl
              replace A : Hid _ := A
              refine Stop.go ?_
              try (refine hK _ _ ?_; clear hK K)
              try simp only [Act.put, List.setIfInBounds_toArray, List.set_cons_zero, List.set_cons_succ]
              refine wpAnyIn_ready (rs := [3]) (by kernel_rfl) (by simp) (AllReadyIn.cons rfl (fun K hK => ?_) AllReadyIn.nil)
              rw [if_pos (by rfl)]
              refine opIn_bsWa (fun _ => trivial) PP (.tmp 44) rfl rfl ?_
              try (refine hK _ _ ?_; clear hK K)
              try simp only [Act.put, List.setIfInBounds_toArray]
              refine wpAnyIn_ready (rs := [4]) (by kernel_rfl) (by simp) (AllReadyIn.cons rfl (fun K hK => ?_) AllReadyIn.nil)
              rw [if_pos (by rfl)]
              refine opIn_app (v := .slice sp1 m1 cap1) (u := .slice (some ⟨z1.heap.size, 0, none⟩) 1 1) (fun _ => trivial) (.tmp 42) (.tmp 45) 25 rfl rfl rfl (A.out.run _) ?_
              try (refine hK _ _ ?_; clear hK K)
              try simp only [Act.put]
              refine wpAnyIn_ready (rs := [5]) (by kernel_rfl) (by simp) (AllReadyIn.cons rfl (fun K hK => ?_) AllReadyIn.nil)
              rw [if_pos (by rfl)]
              have cc := A.out.b2.c 0 _ rfl
              have cf := A.out.b2.fz 0
              gi_wp2
              try (refine hK _ _ ?_; clear hK K)
              clear cc cf
              try simp only [Act.put, List.setIfInBounds_toArray, List.set_cons_zero, List.set_cons_succ]
              refine wpAnyIn_done (by kernel_rfl) ?_ _
              have K2 : Hid ((Ho 25 30 2 c2 w.heap.size bo (out2 ++ [PP]) (z2.setCell ⟨bo, 0, none⟩ (.slice sp2 m2 cap2)) ∧ Below w.heap.size w (z2.setCell ⟨bo, 0, none⟩ (.slice sp2 m2 cap2))) ∧ ∀ D ∈ Ds, (z2.setCell ⟨bo, 0, none⟩ (.slice sp2 m2 cap2)).heap[D]? = some (.deferred (some []))) := ⟨⟨A.out.ho, l0.out.1.trans A.out.low⟩, fun D hD => A.out.oth.same D _ (l0.out.2 D hD) rfl⟩
              have k2 : Hid (KeepsOthers y (z2.setCell ⟨bo, 0, none⟩ (.slice sp2 m2 cap2))) := k0.out.trans A.out.oth
              generalize z2.setCell ⟨bo, 0, none⟩ (.slice sp2 m2 cap2) = y9 at K2 k2 ⊢
              clear A b0 o0 n0z l0 h1 k0
              gi_wp2
              refine ⟨k2.out.from _, trivial, ?_⟩
              dsimp only
              rw [hnx2.out]
              exact K2.out
            · rw [if_pos (by rfl)]
              gi_wp2_with ((first | refine ⟨trivial, ?_⟩ | refine ⟨fun _ _ => trivial, ?_⟩ | skip); gi_at_call 7; refine (CallsIn.inRound lp (callsIn_wide.2 (hW.out _))).mono ?_; rintro e z1 ⟨rfl, h1⟩; refine stopAt ?_)
              obtain ⟨v', z2, A⟩ := Ho.step kWave (by decide) b0.out o0.out h1 PP (by have := hol.out; omega) n0z.out hbo.out
              obtain ⟨sp2, m2, cap2, rfl⟩ := A.sl
              replace A : Hid _ := A
              refine Stop.go ?_
              try (refine hK _ _ ?_; clear hK K)
              try simp only [Act.put, List.setIfInBounds_toArray, List.set_cons_zero, List.set_cons_succ]
              refine wpAnyIn_ready (rs := [0, 3]) (by kernel_rfl) (by simp) (AllReadyIn.cons rfl (fun K hK => ?_) (AllReadyIn.cons rfl (fun K hK => ?_) AllReadyIn.nil))
              · rw [if_pos (by rfl)]
                have cx := A.out.b1.c 0 _ rfl
                gi_wp2
                try (refine hK _ _ ?_; clear hK K)
                clear cx
                try simp only [Act.put, List.setIfInBounds_toArray, List.set_cons_zero, List.set_cons_succ]
                refine wpAnyIn_ready (rs := [3]) (by kernel_rfl) (by simp) (AllReadyIn.cons rfl (fun K hK => ?_) AllReadyIn.nil)
                rw [if_pos (by rfl)]
                refine opIn_bsWa (fun _ => trivial) PP (.tmp 44) rfl rfl ?_
                try (refine hK _ _ ?_; clear hK K)
                try simp only [Act.put, List.setIfInBounds_toArray]
                refine wpAnyIn_ready (rs := [4]) (by kernel_rfl) (by simp) (AllReadyIn.cons rfl (fun K hK => ?_) AllReadyIn.nil)
                rw [if_pos (by rfl)]
                refine opIn_app (v := .slice sp1 m1 cap1) (u := .slice (some ⟨z1.heap.size, 0, none⟩) 1 1) (fun _ => trivial) (.tmp 42) (.tmp 45) 25 rfl rfl rfl (A.out.run _) ?_
                try (refine hK _ _ ?_; clear hK K)
                try simp only [Act.put]
                refine wpAnyIn_ready (rs := [5]) (by kernel_rfl) (by simp) (AllReadyIn.cons rfl (fun K hK => ?_) AllReadyIn.nil)
                rw [if_pos (by rfl)]
                have cc := A.out.b2.c 0 _ rfl
                have cf := A.out.b2.fz 0
                gi_wp2
                try (refine hK _ _ ?_; clear hK K)
                clear cc cf
                try simp only [Act.put, List.setIfInBounds_toArray, List.set_cons_zero, List.set_cons_succ]
                refine wpAnyIn_done (by kernel_rfl) ?_ _
                have K2 : Hid ((Ho 25 30 2 c2 w.heap.size bo (out2 ++ [PP]) (z2.setCell ⟨bo, 0, none⟩ (.slice sp2 m2 cap2)) ∧ Below w.heap.size w (z2.setCell ⟨bo, 0, none⟩ (.slice sp2 m2 cap2))) ∧ ∀ D ∈ Ds, (z2.setCell ⟨bo, 0, none⟩ (.slice sp2 m2 cap2)).heap[D]? = some (.deferred (some []))) := ⟨⟨A.out.ho, l0.out.1.trans A.out.low⟩, fun D hD => A.out.oth.same D _ (l0.out.2 D hD) rfl⟩
                have k2 : Hid (KeepsOthers y (z2.setCell ⟨bo, 0, none⟩ (.slice sp2 m2 cap2))) := k0.out.trans A.out.oth
                generalize z2.setCell ⟨bo, 0, none⟩ (.slice sp2 m2 cap2) = y9 at K2 k2 ⊢
                clear A b0 o0 n0z l0 h1 k0
                gi_wp2
                refine ⟨k2.out.from _, trivial, ?_⟩
                dsimp only
                rw [hnx2.out]
                exact K2.out
              · rw [if_pos (by rfl)]
                refine opIn_bsWa (fun _ => trivial) PP (.tmp 44) rfl rfl ?_
                try (refine hK _ _ ?_; clear hK K)
                try simp only [Act.put, List.setIfInBounds_toArray]
                refine wpAnyIn_ready (rs := [0]) (by kernel_rfl) (by simp) (AllReadyIn.cons rfl (fun K hK => ?_) AllReadyIn.nil)
                rw [if_pos (by rfl)]
                have cx := A.out.ba.c 0 _ rfl
                gi_wp2
                try (refine hK _ _ ?_; clear hK K)
                clear cx
                try simp only [Act.put, List.setIfInBounds_toArray, List.set_cons_zero, List.set_cons_succ]
                refine wpAnyIn_ready (rs := [4]) (by kernel_rfl) (by simp) (AllReadyIn.cons rfl (fun K hK => ?_) AllReadyIn.nil)
                rw [if_pos (by rfl)]
                refine opIn_app (v := .slice sp1 m1 cap1) (u := .slice (some ⟨z1.heap.size, 0, none⟩) 1 1) (fun _ => trivial) (.tmp 42) (.tmp 45) 25 rfl rfl rfl (A.out.run _) ?_
                try (refine hK _ _ ?_; clear hK K)
                try simp only [Act.put, List.setIfInBounds_toArray]
                refine wpAnyIn_ready (rs := [5]) (by kernel_rfl) (by simp) (AllReadyIn.cons rfl (fun K hK => ?_) AllReadyIn.nil)
                rw [if_pos (by rfl)]
                have cc := A.out.b2.c 0 _ rfl
                have cf := A.out.b2.fz 0
                gi_wp2
                try (refine hK _ _ ?_; clear hK K)
                clear cc cf
                try simp only [Act.put, List.setIfInBounds_toArray, List.set_cons_zero, List.set_cons_succ]
                refine wpAnyIn_done (by kernel_rfl) ?_ _
                have K2 : Hid ((Ho 25 30 2 c2 w.heap.size bo (out2 ++ [PP]) (z2.setCell ⟨bo, 0, none⟩ (.slice sp2 m2 cap2)) ∧ Below w.heap.size w (z2.setCell ⟨bo, 0, none⟩ (.slice sp2 m2 cap2))) ∧ ∀ D ∈ Ds, (z2.setCell ⟨bo, 0, none⟩ (.slice sp2 m2 cap2)).heap[D]? = some (.deferred (some []))) := ⟨⟨A.out.ho, l0.out.1.trans A.out.low⟩, fun D hD => A.out.oth.same D _ (l0.out.2 D hD) rfl⟩
                have k2 : Hid (KeepsOthers y (z2.setCell ⟨bo, 0, none⟩ (.slice sp2 m2 cap2))) := k0.out.trans A.out.oth
                generalize z2.setCell ⟨bo, 0, none⟩ (.slice sp2 m2 cap2) = y9 at K2 k2 ⊢
                clear A b0 o0 n0z l0 h1 k0
                gi_wp2
                refine ⟨k2.out.from _, trivial, ?_⟩
                dsimp only
                rw [hnx2.out]
                exact K2.out
        case done =>
          rintro D xs W2 hD hS ⟨⟨hho, hlow⟩, hd⟩ hKD
          have fin : Hid (Ho 25 30 2 c2 w.heap.size bo (List.replicate k (wv 0) ++ (bs.take (j + 1)).flatMap fun x => byteW x.toNat) W2 ∧ Below w.heap.size w W2 ∧ (D :: Ds).Nodup ∧ ∀ D' ∈ D :: Ds, W2.heap[D']? = some (.deferred (some [])) ∧ w.heap.size ≤ D') := by
            refine ⟨?_, hlow, List.nodup_cons.2 ⟨fun h => by have := hds.out D h; omega, hn1.out.1⟩, fun D' h' => ?_⟩
            · rw [hnx.out, ← rowB_wave Z hZ.out, ← hS]
              exact hho
            · rcases List.mem_cons.1 h' with e | e
              · subst e
                exact ⟨hKD, by have := hKs.out; omega⟩
              · exact ⟨hd D' e, hn1.out.2 D' e⟩
          clear hho hlow hd hKD hS
          gi_wp2
          rw [show ((j : Int) + 1) = ((j + 1 : Nat) : Int) from by push_cast; rfl]
          refine ⟨⟨j + 1, D :: Ds, _, _, _, _, _, _, _, rfl, hlt'.out, fin⟩, ?_⟩
          have := hlt'.out
          simp [intOf]
          omega
        case stop =>
          rintro D c pre W2 _ _ h _
          exact h.elim
      · have hje : j = n := by have := J.out; omega
        subst hje
        obtain ⟨⟨v, hv, ho⟩, hlow, hnd, hd⟩ := K.out
        rw [List.take_of_length_le (by rw [hl'.out]; exact Nat.le_refl _)] at ho
        obtain ⟨sp', cap', rfl, -⟩ := ho.open kWave.len
        obtain ⟨mm, emm⟩ : ∃ m, (List.replicate k (wv 0) ++ bs.flatMap fun x => byteW x.toNat).length = m := ⟨_, rfl⟩
        rw [emm] at hv ho
        have cv := hv.c 0 (.slice sp' mm cap') rfl
        have KW : Hid (OwnL 30 2 c2 w.heap.size W (.slice sp' mm cap') (List.replicate k (wv 0) ++ bs.flatMap fun x => byteW x.toNat) ∧ Below w.heap.size w W ∧ Ds.Nodup ∧ ∀ D ∈ Ds, W.heap[D]? = some (.deferred (some [])) ∧ w.heap.size ≤ D) := ⟨ho, hlow, hnd, hd⟩
        clear hlt K hv ho hlow hnd hd emm J
        gi_wp2
        refine leaves_marks w.heap.size Ds W KW.out.2.2.1 KW.out.2.2.2 fun W' b1 b2 => ?_
        refine ⟨_, results_tmp2 rfl _ _ _, _, rfl, ?_⟩
        refine ⟨KW.out.1.keepB fun g e => b2 g fun hm => ?_, KW.out.2.1.trans b1⟩
        obtain ⟨cs, hg⟩ := KW.out.1.ty g e
        have := (KW.out.2.2.2 g hm).1
        rw [show W.heap[g]? = _ from hg] at this
        cases this
end Go.Proofs.YtdfjfacilbahkabDoor
