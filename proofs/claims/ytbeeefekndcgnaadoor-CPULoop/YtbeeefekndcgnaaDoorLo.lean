/- CPULoop: a loop goes round just n times, in so many cycles. -/
import Derived.Test.YtbeeefekndcgnaaDoorMr
import Derived.Test.YtbeeefekndcgnaaDoorLc
namespace Go.Proofs.YtbeeefekndcgnaaDoor
open Go Go.RowKit
set_option linter.unusedVariables false
set_option maxHeartbeats 1000000
set_option maxRecDepth 20000

theorem loop0 (w : World) (tb : Tabs w) (n page low : Int) (n0 : 0 ≤ n) (n1 : n ≤ 255) (p0 : 0 ≤ page) (p1 : page ≤ 255) (l0 : 0 ≤ low) (l1 : low ≤ 255) (hz : n = 0) : Calls Tryd.prog 6 #[.int .u8 n, .int .u8 page, .int .u8 low] w fun e w' => e = .returned (.bool true) ∧ Below w.heap.size w w' := by
  obtain ⟨r, hr⟩ : ∃ r, low % 240 = r := ⟨_, rfl⟩
  have r0 : 0 ≤ r := by omega
  have r1 : r ≤ 239 := by omega
  have e2 : low.tmod 240 = r := by rw [Int.tmod_eq_emod_of_nonneg (by omega)]; exact hr
  have e3 : IntKind.u8.wrap (page * 256 + r) = r := by rw [IntKind.wrap_u8]; omega
  obtain ⟨a, ha⟩ : ∃ a : Nat, (a : Int) = page * 256 + r := ⟨(page * 256 + r).toNat, by omega⟩
  have hat : a < 65536 := by omega
  have hRo : Calls Tryd.prog 13 #[.int .i64 (a : Int), .slice (some ⟨w.heap.size, 0, none⟩) 9 9] (w.alloc (.cells #[Value.int IntKind.u8 248, Value.int IntKind.u8 n, Value.int IntKind.u8 163, Value.int IntKind.u8 35, Value.int IntKind.u8 131, Value.int IntKind.u8 58, Value.int IntKind.u8 (r + 3), Value.int IntKind.u8 123, Value.int IntKind.u8 0] 5)) fun e w' => e = .returned (.slice (some ⟨w.heap.size + 1, 0, none⟩) 65536 65536) ∧ Hid (Blk w' (w.heap.size + 1) 65536 (laidM a 9 (fun j => ([248, n, 163, 35, 131, 58, r + 3, 123, 0] : List Int).getD j 0)) ∧ Below w.heap.size w w') := lroom_lit w a hat [248, n, 163, 35, 131, 58, r + 3, 123, 0] (by simp)
  rw [ha] at hRo
  obtain ⟨Y, hYe⟩ : ∃ Y, laidM a ([248, n, 163, 35, 131, 58, r + 3, 123, 0] : List Int).length (fun j => ([248, n, 163, 35, 131, 58, r + 3, 123, 0] : List Int).getD j 0) = Y := ⟨_, rfl⟩
  have hYe' : laidM a 9 (fun j => ([248, n, 163, 35, 131, 58, r + 3, 123, 0] : List Int).getD j 0) = Y := hYe
  rw [hYe'] at hRo
  have hY : ∀ j, 0 ≤ Y j ∧ Y j < 256 := fun j => by rw [← hYe]; exact laid_ok a [248, n, 163, 35, 131, 58, r + 3, 123, 0] (fun x hx => by simp at hx; omega) j
  have m0 : Y (page * 256 + r).toNat = 248 := by rw [← hYe]; exact laid_at a [248, n, 163, 35, 131, 58, r + 3, 123, 0] 0 _ (by simp) rfl _ (by omega)
  have m1 : Y ((page * 256 + r) + 1).toNat = n := by rw [← hYe]; exact laid_at a [248, n, 163, 35, 131, 58, r + 3, 123, 0] 1 _ (by simp) rfl _ (by omega)
  have m2 : Y ((page * 256 + r) + 2).toNat = 163 := by rw [← hYe]; exact laid_at a [248, n, 163, 35, 131, 58, r + 3, 123, 0] 2 _ (by simp) rfl _ (by omega)
  have m3 : Y ((page * 256 + r) + 3).toNat = 35 := by rw [← hYe]; exact laid_at a [248, n, 163, 35, 131, 58, r + 3, 123, 0] 3 _ (by simp) rfl _ (by omega)
  have m4 : Y ((page * 256 + r) + 4).toNat = 131 := by rw [← hYe]; exact laid_at a [248, n, 163, 35, 131, 58, r + 3, 123, 0] 4 _ (by simp) rfl _ (by omega)
  have m5 : Y ((page * 256 + r) + 5).toNat = 58 := by rw [← hYe]; exact laid_at a [248, n, 163, 35, 131, 58, r + 3, 123, 0] 5 _ (by simp) rfl _ (by omega)
  have m6 : Y ((page * 256 + r) + 6).toNat = r + 3 := by rw [← hYe]; exact laid_at a [248, n, 163, 35, 131, 58, r + 3, 123, 0] 6 _ (by simp) rfl _ (by omega)
  have m7 : Y ((page * 256 + r) + 7).toNat = 123 := by rw [← hYe]; exact laid_at a [248, n, 163, 35, 131, 58, r + 3, 123, 0] 7 _ (by simp) rfl _ (by omega)
  have m8 : Y ((page * 256 + r) + 8).toNat = 0 := by rw [← hYe]; exact laid_at a [248, n, 163, 35, 131, 58, r + 3, 123, 0] 8 _ (by simp) rfl _ (by omega)
  have m6' : Y ((page * 256 + r) + 6).toNat = ((page * 256 + r) + 3) % 256 := by rw [m6]; omega
  have hend := st_end (page * 256 + r) n Y (by omega) (by omega) ⟨n0, by omega⟩ (by omega) m0 m1 m2 m3 m4 m5 m6' 256 (by rw [if_pos hz])
  have hlast := st_last (page * 256 + r) ((n - ((256 : Nat) : Int)) % 65536) 0 58 Y (by omega) (by omega) m7 m8
  obtain ⟨R3, hR3⟩ : ∃ R3, (n - ((256 : Nat) : Int)) % 65536 = R3 := ⟨_, rfl⟩
  rw [hR3] at hend hlast
  have e5 : IntKind.u8.wrap R3 = 0 := by rw [IntKind.wrap_u8]; omega
  have hbg : bg (page * 256 + r) = st (page * 256 + r) 0 0 0 1 false := bg_st _
  have wf0 : (st (page * 256 + r) 0 0 0 1 false).wf := by rw [← hbg]; exact bg_wf _ (by omega)
  have wf1 : (st ((page * 256 + r) + 7) R3 0 58 1 false).wf := by have := (runsM_ok (4 + 6 * 256) wf0 hY).1; rw [hend] at this; exact this
  have hRu := fun (v : World) (hb : Below w.heap.size w v) (g : Nat) (hg : w.heap.size ≤ g) (hm : Blk v g 65536 Y) => lruns w v tb hb g hg Y hY hm (st (page * 256 + r) 0 0 0 1 false) wf0 (4 + 6 * 256) (by omega) _ hend
  have hk : ((4 + 6 * 256 : Nat) : Int) = 1540 := by omega
  rw [hk] at hRu
  have hRv := fun (v : World) (hb : Below w.heap.size w v) (g : Nat) (hg : w.heap.size ≤ g) (hm : Blk v g 65536 Y) => lruns w v tb hb g hg Y hY hm (st ((page * 256 + r) + 7) R3 0 58 1 false) wf1 4 (by omega) _ hlast
  have hB := fun v t => lbegun v t (page * 256 + r)
  rw [hbg] at hB
  have c0 : Hid ((cpC (st ((page * 256 + r) + 7) R3 0 58 1 false))[0]? = some (.int .u16 ((page * 256 + r) + 7))) := (rfl : (cpC (st ((page * 256 + r) + 7) R3 0 58 1 false))[0]? = some (.int .u16 ((page * 256 + r) + 7)))
  have c3 : Hid ((cpC (st ((page * 256 + r) + 7) R3 0 58 1 false))[3]? = some (.int .u16 R3)) := (rfl : (cpC (st ((page * 256 + r) + 7) R3 0 58 1 false))[3]? = some (.int .u16 R3))
  have c16 : Hid ((cpC (st ((page * 256 + r) + 7) R3 0 58 1 false))[16]? = some (.int .u8 0)) := (rfl : (cpC (st ((page * 256 + r) + 7) R3 0 58 1 false))[16]? = some (.int .u8 0))
  have c22 : Hid ((cpC (st ((page * 256 + r) + 7) R3 0 58 1 false))[22]? = some (.bool false)) := (rfl : (cpC (st ((page * 256 + r) + 7) R3 0 58 1 false))[22]? = some (.bool false))
  have c25 : Hid ((cpC (st ((page * 256 + r) + 7) R3 0 58 1 false))[25]? = some (.int .u8 1)) := (rfl : (cpC (st ((page * 256 + r) + 7) R3 0 58 1 false))[25]? = some (.int .u8 1))
  have z0 : Hid ((cpC (st ((page * 256 + r) + 9) R3 0 0 4 true))[0]? = some (.int .u16 ((page * 256 + r) + 9))) := (rfl : (cpC (st ((page * 256 + r) + 9) R3 0 0 4 true))[0]? = some (.int .u16 ((page * 256 + r) + 9)))
  have z22 : Hid ((cpC (st ((page * 256 + r) + 9) R3 0 0 4 true))[22]? = some (.bool true)) := (rfl : (cpC (st ((page * 256 + r) + 9) R3 0 0 4 true))[22]? = some (.bool true))
  have z25 : Hid ((cpC (st ((page * 256 + r) + 9) R3 0 0 4 true))[25]? = some (.int .u8 4)) := (rfl : (cpC (st ((page * 256 + r) + 9) R3 0 0 4 true))[25]? = some (.int .u8 4))
  obtain ⟨S0, hS0⟩ : ∃ S, st (page * 256 + r) 0 0 0 1 false = S := ⟨_, rfl⟩
  obtain ⟨S1, hS1⟩ : ∃ S, st ((page * 256 + r) + 7) R3 0 58 1 false = S := ⟨_, rfl⟩
  obtain ⟨S2, hS2⟩ : ∃ S, st ((page * 256 + r) + 9) R3 0 0 4 true = S := ⟨_, rfl⟩
  rw [hS0] at hB hRu
  rw [hS1] at hRu hRv c0 c3 c16 c22 c25
  rw [hS2] at hRv z0 z22 z25
  have ix0 : ∀ g v, (Instr.indexAt 23 (.pointer (some ⟨g, 0, none⟩)) (.int .i64 0)).run Tryd.prog v = .ok (.pointer (some ⟨g, 0, none⟩)) v := fun g v => by have := idx (g := g) (off := 0) (N := 16) Tryd.underlying23 infoR .i64 0 v (by decide); simpa using this
  have ix3 : ∀ g v, (Instr.indexAt 23 (.pointer (some ⟨g, 0, none⟩)) (.int .i64 3)).run Tryd.prog v = .ok (.pointer (some ⟨g, 3, none⟩)) v := fun g v => by have := idx (g := g) (off := 0) (N := 16) Tryd.underlying23 infoR .i64 3 v (by decide); simpa using this
  have zz := zeroVC
  have tb' : Hid (Tabs w) := tb
  clear hr hend hlast hR3 hbg wf0 wf1 hk hS0 hS1 hS2 m0 m1 m2 m3 m4 m5 m6 m6' m7 m8 hYe hYe' hY hat ha l0 l1 tb
  subst hz
  go_enter Tryd.func6, Tryd.ntmps6
  go_wp2_with (first
    | (go_at_call 13; refine hRo.mono ?_; rintro e v2 ⟨rfl, hr2⟩; have hb2 : Hid (Below w.heap.size w v2) := hr2.out.2; have hg : Hid (w.heap.size ≤ w.heap.size + 1) := Nat.le_succ _; have K0 : Hid (Fb v2 [] (w.heap.size + 1) Y v2) := Fb.nil hr2.out.1)
    | (go_at_call 15; refine (hB _ (tb'.out.below hb2.out)).mono ?_; rintro e v3 ⟨rfl, hb3⟩; have K1 : Hid (Fb v2 [] (w.heap.size + 1) Y v3) := K0.out.below hb3)
    | (go_at_call 14; refine (hRu _ (hb2.out.trans (K1.out.upd.below hb2.out.size hg.out)) (w.heap.size + 1) hg.out K1.out.mem).mono ?_; rintro e v4 ⟨rfl, hb4⟩; have K2 : Hid (Fb v2 [] (w.heap.size + 1) Y v4) := K1.out.mov hb4.out.1 hb4.out.2; clear hRu)
    | (refine gen_world (v4.alloc (.cells (cpC zeroC) 26)) (Fb v2 [(v4.heap.size, cpC zeroC, 26)] (w.heap.size + 1) Y) (K2.out.new _ _) ?_; intro y5 K5)
    | (refine at_storeC v4.heap.size zeroC S1 (K5.out.get 0 _ _ _ rfl) _ _ rfl rfl rfl rfl ?_; intro y6 hw6; have K6 : Hid (Fb v2 [(v4.heap.size, cpC S1, 26)] (w.heap.size + 1) Y y6) := K5.out.put 0 _ _ _ _ rfl hw6.out; have d0 := BoxC.f (K6.out.get 0 _ _ _ rfl) 0 _ c0.out; have d3 := BoxC.f (K6.out.get 0 _ _ _ rfl) 3 _ c3.out; have d16 := BoxC.f (K6.out.get 0 _ _ _ rfl) 16 _ c16.out; have d22 := BoxC.f (K6.out.get 0 _ _ _ rfl) 22 _ c22.out; have d25 := BoxC.f (K6.out.get 0 _ _ _ rfl) 25 _ c25.out)
    | (refine at_loadC v4.heap.size S1 (K6.out.get 0 _ _ _ rfl) _ rfl rfl rfl ?_)
    | (go_at_call 14; refine (hRv _ (hb2.out.trans (K6.out.upd.below hb2.out.size hg.out)) (w.heap.size + 1) hg.out K6.out.mem).mono ?_; rintro e v7 ⟨rfl, hb7⟩; have K7 : Hid (Fb v2 [(v4.heap.size, cpC S1, 26)] (w.heap.size + 1) Y v7) := K6.out.mov hb7.out.1 hb7.out.2)
    | (refine at_storeC v4.heap.size S1 S2 (K7.out.get 0 _ _ _ rfl) _ _ rfl rfl rfl rfl ?_; intro y8 hw8; have K8 : Hid (Fb v2 [(v4.heap.size, cpC S2, 26)] (w.heap.size + 1) Y y8) := K7.out.put 0 _ _ _ _ rfl hw8.out; have f0 := BoxC.f (K8.out.get 0 _ _ _ rfl) 0 _ z0.out; have f22 := BoxC.f (K8.out.get 0 _ _ _ rfl) 22 _ z22.out; have f25 := BoxC.f (K8.out.get 0 _ _ _ rfl) 25 _ z25.out; refine stopAt ?_))
  refine Stop.go ?_
  go_wp2
  go_ret
  exact ⟨by first | rfl | simp, hb2.out.trans (K8.out.upd.below hb2.out.size hg.out)⟩
theorem loop1 (w : World) (tb : Tabs w) (n page low : Int) (n0 : 0 ≤ n) (n1 : n ≤ 255) (p0 : 0 ≤ page) (p1 : page ≤ 255) (l0 : 0 ≤ low) (l1 : low ≤ 255) (hz : n ≠ 0) : Calls Tryd.prog 6 #[.int .u8 n, .int .u8 page, .int .u8 low] w fun e w' => e = .returned (.bool true) ∧ Below w.heap.size w w' := by
  obtain ⟨r, hr⟩ : ∃ r, low % 240 = r := ⟨_, rfl⟩
  have r0 : 0 ≤ r := by omega
  have r1 : r ≤ 239 := by omega
  have e2 : low.tmod 240 = r := by rw [Int.tmod_eq_emod_of_nonneg (by omega)]; exact hr
  have e3 : IntKind.u8.wrap (page * 256 + r) = r := by rw [IntKind.wrap_u8]; omega
  obtain ⟨a, ha⟩ : ∃ a : Nat, (a : Int) = page * 256 + r := ⟨(page * 256 + r).toNat, by omega⟩
  have hat : a < 65536 := by omega
  have hRo : Calls Tryd.prog 13 #[.int .i64 (a : Int), .slice (some ⟨w.heap.size, 0, none⟩) 9 9] (w.alloc (.cells #[Value.int IntKind.u8 248, Value.int IntKind.u8 n, Value.int IntKind.u8 163, Value.int IntKind.u8 35, Value.int IntKind.u8 131, Value.int IntKind.u8 58, Value.int IntKind.u8 (r + 3), Value.int IntKind.u8 123, Value.int IntKind.u8 0] 5)) fun e w' => e = .returned (.slice (some ⟨w.heap.size + 1, 0, none⟩) 65536 65536) ∧ Hid (Blk w' (w.heap.size + 1) 65536 (laidM a 9 (fun j => ([248, n, 163, 35, 131, 58, r + 3, 123, 0] : List Int).getD j 0)) ∧ Below w.heap.size w w') := lroom_lit w a hat [248, n, 163, 35, 131, 58, r + 3, 123, 0] (by simp)
  rw [ha] at hRo
  obtain ⟨Y, hYe⟩ : ∃ Y, laidM a ([248, n, 163, 35, 131, 58, r + 3, 123, 0] : List Int).length (fun j => ([248, n, 163, 35, 131, 58, r + 3, 123, 0] : List Int).getD j 0) = Y := ⟨_, rfl⟩
  have hYe' : laidM a 9 (fun j => ([248, n, 163, 35, 131, 58, r + 3, 123, 0] : List Int).getD j 0) = Y := hYe
  rw [hYe'] at hRo
  have hY : ∀ j, 0 ≤ Y j ∧ Y j < 256 := fun j => by rw [← hYe]; exact laid_ok a [248, n, 163, 35, 131, 58, r + 3, 123, 0] (fun x hx => by simp at hx; omega) j
  have m0 : Y (page * 256 + r).toNat = 248 := by rw [← hYe]; exact laid_at a [248, n, 163, 35, 131, 58, r + 3, 123, 0] 0 _ (by simp) rfl _ (by omega)
  have m1 : Y ((page * 256 + r) + 1).toNat = n := by rw [← hYe]; exact laid_at a [248, n, 163, 35, 131, 58, r + 3, 123, 0] 1 _ (by simp) rfl _ (by omega)
  have m2 : Y ((page * 256 + r) + 2).toNat = 163 := by rw [← hYe]; exact laid_at a [248, n, 163, 35, 131, 58, r + 3, 123, 0] 2 _ (by simp) rfl _ (by omega)
  have m3 : Y ((page * 256 + r) + 3).toNat = 35 := by rw [← hYe]; exact laid_at a [248, n, 163, 35, 131, 58, r + 3, 123, 0] 3 _ (by simp) rfl _ (by omega)
  have m4 : Y ((page * 256 + r) + 4).toNat = 131 := by rw [← hYe]; exact laid_at a [248, n, 163, 35, 131, 58, r + 3, 123, 0] 4 _ (by simp) rfl _ (by omega)
  have m5 : Y ((page * 256 + r) + 5).toNat = 58 := by rw [← hYe]; exact laid_at a [248, n, 163, 35, 131, 58, r + 3, 123, 0] 5 _ (by simp) rfl _ (by omega)
  have m6 : Y ((page * 256 + r) + 6).toNat = r + 3 := by rw [← hYe]; exact laid_at a [248, n, 163, 35, 131, 58, r + 3, 123, 0] 6 _ (by simp) rfl _ (by omega)
  have m7 : Y ((page * 256 + r) + 7).toNat = 123 := by rw [← hYe]; exact laid_at a [248, n, 163, 35, 131, 58, r + 3, 123, 0] 7 _ (by simp) rfl _ (by omega)
  have m8 : Y ((page * 256 + r) + 8).toNat = 0 := by rw [← hYe]; exact laid_at a [248, n, 163, 35, 131, 58, r + 3, 123, 0] 8 _ (by simp) rfl _ (by omega)
  have m6' : Y ((page * 256 + r) + 6).toNat = ((page * 256 + r) + 3) % 256 := by rw [m6]; omega
  have hend := st_end (page * 256 + r) n Y (by omega) (by omega) ⟨n0, by omega⟩ (by omega) m0 m1 m2 m3 m4 m5 m6' n.toNat (by rw [if_neg hz])
  have hlast := st_last (page * 256 + r) ((n - ((n.toNat : Nat) : Int)) % 65536) 0 58 Y (by omega) (by omega) m7 m8
  obtain ⟨R3, hR3⟩ : ∃ R3, (n - ((n.toNat : Nat) : Int)) % 65536 = R3 := ⟨_, rfl⟩
  rw [hR3] at hend hlast
  have e5 : IntKind.u8.wrap R3 = 0 := by rw [IntKind.wrap_u8]; omega
  have hbg : bg (page * 256 + r) = st (page * 256 + r) 0 0 0 1 false := bg_st _
  have wf0 : (st (page * 256 + r) 0 0 0 1 false).wf := by rw [← hbg]; exact bg_wf _ (by omega)
  have wf1 : (st ((page * 256 + r) + 7) R3 0 58 1 false).wf := by have := (runsM_ok (4 + 6 * n.toNat) wf0 hY).1; rw [hend] at this; exact this
  have hRu := fun (v : World) (hb : Below w.heap.size w v) (g : Nat) (hg : w.heap.size ≤ g) (hm : Blk v g 65536 Y) => lruns w v tb hb g hg Y hY hm (st (page * 256 + r) 0 0 0 1 false) wf0 (4 + 6 * n.toNat) (by omega) _ hend
  have hk : ((4 + 6 * n.toNat : Nat) : Int) = 4 + 6 * n := by omega
  rw [hk] at hRu
  have hRv := fun (v : World) (hb : Below w.heap.size w v) (g : Nat) (hg : w.heap.size ≤ g) (hm : Blk v g 65536 Y) => lruns w v tb hb g hg Y hY hm (st ((page * 256 + r) + 7) R3 0 58 1 false) wf1 4 (by omega) _ hlast
  have hB := fun v t => lbegun v t (page * 256 + r)
  rw [hbg] at hB
  have c0 : Hid ((cpC (st ((page * 256 + r) + 7) R3 0 58 1 false))[0]? = some (.int .u16 ((page * 256 + r) + 7))) := (rfl : (cpC (st ((page * 256 + r) + 7) R3 0 58 1 false))[0]? = some (.int .u16 ((page * 256 + r) + 7)))
  have c3 : Hid ((cpC (st ((page * 256 + r) + 7) R3 0 58 1 false))[3]? = some (.int .u16 R3)) := (rfl : (cpC (st ((page * 256 + r) + 7) R3 0 58 1 false))[3]? = some (.int .u16 R3))
  have c16 : Hid ((cpC (st ((page * 256 + r) + 7) R3 0 58 1 false))[16]? = some (.int .u8 0)) := (rfl : (cpC (st ((page * 256 + r) + 7) R3 0 58 1 false))[16]? = some (.int .u8 0))
  have c22 : Hid ((cpC (st ((page * 256 + r) + 7) R3 0 58 1 false))[22]? = some (.bool false)) := (rfl : (cpC (st ((page * 256 + r) + 7) R3 0 58 1 false))[22]? = some (.bool false))
  have c25 : Hid ((cpC (st ((page * 256 + r) + 7) R3 0 58 1 false))[25]? = some (.int .u8 1)) := (rfl : (cpC (st ((page * 256 + r) + 7) R3 0 58 1 false))[25]? = some (.int .u8 1))
  have z0 : Hid ((cpC (st ((page * 256 + r) + 9) R3 0 0 4 true))[0]? = some (.int .u16 ((page * 256 + r) + 9))) := (rfl : (cpC (st ((page * 256 + r) + 9) R3 0 0 4 true))[0]? = some (.int .u16 ((page * 256 + r) + 9)))
  have z22 : Hid ((cpC (st ((page * 256 + r) + 9) R3 0 0 4 true))[22]? = some (.bool true)) := (rfl : (cpC (st ((page * 256 + r) + 9) R3 0 0 4 true))[22]? = some (.bool true))
  have z25 : Hid ((cpC (st ((page * 256 + r) + 9) R3 0 0 4 true))[25]? = some (.int .u8 4)) := (rfl : (cpC (st ((page * 256 + r) + 9) R3 0 0 4 true))[25]? = some (.int .u8 4))
  obtain ⟨S0, hS0⟩ : ∃ S, st (page * 256 + r) 0 0 0 1 false = S := ⟨_, rfl⟩
  obtain ⟨S1, hS1⟩ : ∃ S, st ((page * 256 + r) + 7) R3 0 58 1 false = S := ⟨_, rfl⟩
  obtain ⟨S2, hS2⟩ : ∃ S, st ((page * 256 + r) + 9) R3 0 0 4 true = S := ⟨_, rfl⟩
  rw [hS0] at hB hRu
  rw [hS1] at hRu hRv c0 c3 c16 c22 c25
  rw [hS2] at hRv z0 z22 z25
  have ix0 : ∀ g v, (Instr.indexAt 23 (.pointer (some ⟨g, 0, none⟩)) (.int .i64 0)).run Tryd.prog v = .ok (.pointer (some ⟨g, 0, none⟩)) v := fun g v => by have := idx (g := g) (off := 0) (N := 16) Tryd.underlying23 infoR .i64 0 v (by decide); simpa using this
  have ix3 : ∀ g v, (Instr.indexAt 23 (.pointer (some ⟨g, 0, none⟩)) (.int .i64 3)).run Tryd.prog v = .ok (.pointer (some ⟨g, 3, none⟩)) v := fun g v => by have := idx (g := g) (off := 0) (N := 16) Tryd.underlying23 infoR .i64 3 v (by decide); simpa using this
  have zz := zeroVC
  have tb' : Hid (Tabs w) := tb
  have hz' : (n == 0) = false := by simpa using hz
  clear hr hend hlast hR3 hbg wf0 wf1 hk hS0 hS1 hS2 m0 m1 m2 m3 m4 m5 m6 m6' m7 m8 hYe hYe' hY hat ha l0 l1 tb hz
  go_enter Tryd.func6, Tryd.ntmps6
  go_wp2_with (first
    | (go_at_call 13; refine hRo.mono ?_; rintro e v2 ⟨rfl, hr2⟩; have hb2 : Hid (Below w.heap.size w v2) := hr2.out.2; have hg : Hid (w.heap.size ≤ w.heap.size + 1) := Nat.le_succ _; have K0 : Hid (Fb v2 [] (w.heap.size + 1) Y v2) := Fb.nil hr2.out.1)
    | (go_at_call 15; refine (hB _ (tb'.out.below hb2.out)).mono ?_; rintro e v3 ⟨rfl, hb3⟩; have K1 : Hid (Fb v2 [] (w.heap.size + 1) Y v3) := K0.out.below hb3)
    | (go_at_call 14; refine (hRu _ (hb2.out.trans (K1.out.upd.below hb2.out.size hg.out)) (w.heap.size + 1) hg.out K1.out.mem).mono ?_; rintro e v4 ⟨rfl, hb4⟩; have K2 : Hid (Fb v2 [] (w.heap.size + 1) Y v4) := K1.out.mov hb4.out.1 hb4.out.2; clear hRu)
    | (refine gen_world (v4.alloc (.cells (cpC zeroC) 26)) (Fb v2 [(v4.heap.size, cpC zeroC, 26)] (w.heap.size + 1) Y) (K2.out.new _ _) ?_; intro y5 K5)
    | (refine at_storeC v4.heap.size zeroC S1 (K5.out.get 0 _ _ _ rfl) _ _ rfl rfl rfl rfl ?_; intro y6 hw6; have K6 : Hid (Fb v2 [(v4.heap.size, cpC S1, 26)] (w.heap.size + 1) Y y6) := K5.out.put 0 _ _ _ _ rfl hw6.out; have d0 := BoxC.f (K6.out.get 0 _ _ _ rfl) 0 _ c0.out; have d3 := BoxC.f (K6.out.get 0 _ _ _ rfl) 3 _ c3.out; have d16 := BoxC.f (K6.out.get 0 _ _ _ rfl) 16 _ c16.out; have d22 := BoxC.f (K6.out.get 0 _ _ _ rfl) 22 _ c22.out; have d25 := BoxC.f (K6.out.get 0 _ _ _ rfl) 25 _ c25.out)
    | (refine at_loadC v4.heap.size S1 (K6.out.get 0 _ _ _ rfl) _ rfl rfl rfl ?_)
    | (go_at_call 14; refine (hRv _ (hb2.out.trans (K6.out.upd.below hb2.out.size hg.out)) (w.heap.size + 1) hg.out K6.out.mem).mono ?_; rintro e v7 ⟨rfl, hb7⟩; have K7 : Hid (Fb v2 [(v4.heap.size, cpC S1, 26)] (w.heap.size + 1) Y v7) := K6.out.mov hb7.out.1 hb7.out.2)
    | (refine at_storeC v4.heap.size S1 S2 (K7.out.get 0 _ _ _ rfl) _ _ rfl rfl rfl rfl ?_; intro y8 hw8; have K8 : Hid (Fb v2 [(v4.heap.size, cpC S2, 26)] (w.heap.size + 1) Y y8) := K7.out.put 0 _ _ _ _ rfl hw8.out; have f0 := BoxC.f (K8.out.get 0 _ _ _ rfl) 0 _ z0.out; have f22 := BoxC.f (K8.out.get 0 _ _ _ rfl) 22 _ z22.out; have f25 := BoxC.f (K8.out.get 0 _ _ _ rfl) 25 _ z25.out; refine stopAt ?_))
  refine Stop.go ?_
  go_wp2
  go_ret
  exact ⟨by first | rfl | simp, hb2.out.trans (K8.out.upd.below hb2.out.size hg.out)⟩
theorem loop_walk (w : World) (tb : Tabs w) (n page low : Int) (n0 : 0 ≤ n) (n1 : n ≤ 255) (p0 : 0 ≤ page) (p1 : page ≤ 255) (l0 : 0 ≤ low) (l1 : low ≤ 255) : Calls Tryd.prog 6 #[.int .u8 n, .int .u8 page, .int .u8 low] w fun e w' => e = .returned (.bool true) ∧ Below w.heap.size w w' := by
  by_cases hz : n = 0
  · exact loop0 w tb n page low n0 n1 p0 p1 l0 l1 hz
  · exact loop1 w tb n page low n0 n1 p0 p1 l0 l1 hz
end Go.Proofs.YtbeeefekndcgnaaDoor
