/- The rows' closures, over whatever functions they hold. -/
import Derived.Test.YtehnhjdjjalifaaGreatDoorQ2
import Derived.Shelf.Abstract
import Derived.BigQuiet
namespace Go.Proofs.YtehnhjdjjalifaaGreatDoor
open Go Go.RowKit Go.Shelf
set_option linter.unusedVariables false
set_option maxHeartbeats 2000000
set_option maxRecDepth 20000

theorem alw_any (w : World) (C : Array Value) (b n : Nat) (hb : Hid (Bx w b #[.int .i64 (n : Int)] 3)) : Calls Tryz.prog 111 #[.agg C, .pointer (some ⟨b, 0, none⟩)] w fun e w' => e = .returned (.int .i64 (n : Int)) ∧ Below w.heap.size w w' := by
  have K0 : Hid (Below w.heap.size w (w.alloc (.cells C 34))) := below1 w _
  have c0 := Bx.c ((K0.out.block b (heap_lt hb.out)).trans hb.out) 0 _ rfl
  go_enter Tryz.func111, Tryz.ntmps111
  go_wp2
  go_ret
  exact ⟨rfl, K0.out⟩
theorem nw_q (w : World) (B : Nat) (v : Value) (l : List UInt8) (hv : Hid (OwnL 5 1 cB B w v l)) (hB : Hid (B ≤ w.heap.size)) (hl : Hid (l.length ≤ 10000000000)) (C : Array Value) (sC : Hid (C.size = 35)) (bo k : Nat) (caps : Array Value) (hbo : Hid (Bx w bo #[.func (.func k) #[] caps] 85)) (ek : ∀ args w, (callFunc k args).run Tryz.prog w = .ok (.enter k args) w) (N : Nat) (hN : N < 18446744073709551616) (hk : Hid (∀ y, Below w.heap.size w y → Calls Tryz.prog k (#[.agg C] ++ caps) y fun e w' => e = .returned (.int .u64 (N : Int)) ∧ Below y.heap.size y w')) :
    Calls Tryz.prog 107 #[v, .agg C, .pointer (some ⟨bo, 0, none⟩)] w fun e w' => ∃ v', e = .returned v' ∧ Hid (OwnL 5 1 cB B w' v' (l ++ putN N 8) ∧ Below B w w') := by
  have hN' : Hid (N < 18446744073709551616) := hN
  clear hN
  go_enter Tryz.func107, Tryz.ntmps107
  go_wp2_with (first
    | ((with_reducible refine gen_world (w.alloc (.cells C 34)) (Fm w [(w.heap.size, C, 34)]) ?_ ?_); exact Fm.one w _ _; intro y0 K0; have c0 := Bx.c ((K0.out.low.block bo (heap_lt hbo.out)).trans hbo.out) 0 _ rfl)
    | ((with_reducible refine at_load rtBd w.heap.size C ?_ ?_ (.tmp 4) ?_ ?_ ?_ ?_); exact K0.out.bx 0 _ _ _ rfl; exact sC.out; kernel_rfl; rfl; rfl)
    | (go_at_fn k; refine (hk.out y0 K0.out.low).mono ?_; rintro e y1 ⟨rfl, H1⟩; have K1 : Hid (Below w.heap.size w y1) := K0.out.low.trans (H1.mono K0.out.low.size); clear H1)
    | (go_at_call 17; refine (app_q y1 B v l (hv.out.below K1.out) (Nat.le_trans hB.out K1.out.size) hl N hN'.out).mono ?_; rintro e y2 ⟨v2, rfl, H2⟩; have K2 : Hid (OwnL 5 1 cB B y2 v2 (l ++ putN N 8) ∧ Below B w y2) := ⟨H2.out.1, (K1.out.mono hB.out).trans H2.out.2⟩; clear H2))
  go_ret
  exact ⟨v2, rfl, K2⟩
theorem nw_h (w : World) (B : Nat) (v : Value) (l : List UInt8) (hv : Hid (OwnL 5 1 cB B w v l)) (hB : Hid (B ≤ w.heap.size)) (hl : Hid (l.length ≤ 10000000000)) (C : Array Value) (sC : Hid (C.size = 35)) (bo k : Nat) (caps : Array Value) (hbo : Hid (Bx w bo #[.func (.func k) #[] caps] 73)) (ek : ∀ args w, (callFunc k args).run Tryz.prog w = .ok (.enter k args) w) (N : Nat) (hN : N < 65536) (hk : Hid (∀ y, Below w.heap.size w y → Calls Tryz.prog k (#[.agg C] ++ caps) y fun e w' => e = .returned (.int .u16 (N : Int)) ∧ Below y.heap.size y w')) :
    Calls Tryz.prog 91 #[v, .agg C, .pointer (some ⟨bo, 0, none⟩)] w fun e w' => ∃ v', e = .returned v' ∧ Hid (OwnL 5 1 cB B w' v' (l ++ putN N 2) ∧ Below B w w') := by
  have hN' : Hid (N < 65536) := hN
  clear hN
  go_enter Tryz.func91, Tryz.ntmps91
  go_wp2_with (first
    | ((with_reducible refine gen_world (w.alloc (.cells C 34)) (Fm w [(w.heap.size, C, 34)]) ?_ ?_); exact Fm.one w _ _; intro y0 K0; have c0 := Bx.c ((K0.out.low.block bo (heap_lt hbo.out)).trans hbo.out) 0 _ rfl)
    | ((with_reducible refine at_load rtBd w.heap.size C ?_ ?_ (.tmp 4) ?_ ?_ ?_ ?_); exact K0.out.bx 0 _ _ _ rfl; exact sC.out; kernel_rfl; rfl; rfl)
    | (go_at_fn k; refine (hk.out y0 K0.out.low).mono ?_; rintro e y1 ⟨rfl, H1⟩; have K1 : Hid (Below w.heap.size w y1) := K0.out.low.trans (H1.mono K0.out.low.size); clear H1)
    | (go_at_call 92; refine (app_h y1 B v l (hv.out.below K1.out) (Nat.le_trans hB.out K1.out.size) hl N hN'.out).mono ?_; rintro e y2 ⟨v2, rfl, H2⟩; have K2 : Hid (OwnL 5 1 cB B y2 v2 (l ++ putN N 2) ∧ Below B w y2) := ⟨H2.out.1, (K1.out.mono hB.out).trans H2.out.2⟩; clear H2))
  go_ret
  exact ⟨v2, rfl, K2⟩
theorem nw_y (w : World) (B : Nat) (v : Value) (l : List UInt8) (hv : Hid (OwnL 5 1 cB B w v l)) (hB : Hid (B ≤ w.heap.size)) (hl : Hid (l.length ≤ 10000000000)) (C : Array Value) (sC : Hid (C.size = 35)) (bo k : Nat) (caps : Array Value) (hbo : Hid (Bx w bo #[.func (.func k) #[] caps] 77)) (ek : ∀ args w, (callFunc k args).run Tryz.prog w = .ok (.enter k args) w) (N : Nat) (hN : N < 256) (hk : Hid (∀ y, Below w.heap.size w y → Calls Tryz.prog k (#[.agg C] ++ caps) y fun e w' => e = .returned (.int .u8 (N : Int)) ∧ Below y.heap.size y w')) :
    Calls Tryz.prog 96 #[v, .agg C, .pointer (some ⟨bo, 0, none⟩)] w fun e w' => ∃ v', e = .returned v' ∧ Hid (OwnL 5 1 cB B w' v' (l ++ putN N 1) ∧ Below B w w') := by
  have hN' : Hid (N < 256) := hN
  clear hN
  go_enter Tryz.func96, Tryz.ntmps96
  go_wp2_with (first
    | ((with_reducible refine gen_world (w.alloc (.cells C 34)) (Fm w [(w.heap.size, C, 34)]) ?_ ?_); exact Fm.one w _ _; intro y0 K0; have c0 := Bx.c ((K0.out.low.block bo (heap_lt hbo.out)).trans hbo.out) 0 _ rfl)
    | ((with_reducible refine at_load rtBd w.heap.size C ?_ ?_ (.tmp 4) ?_ ?_ ?_ ?_); exact K0.out.bx 0 _ _ _ rfl; exact sC.out; kernel_rfl; rfl; rfl)
    | (go_at_fn k; refine (hk.out y0 K0.out.low).mono ?_; rintro e y1 ⟨rfl, H1⟩; have K1 : Hid (Below w.heap.size w y1) := K0.out.low.trans (H1.mono K0.out.low.size); clear H1)
    | (go_at_call 97; refine (app_y y1 B v l (hv.out.below K1.out) (Nat.le_trans hB.out K1.out.size) hl N hN'.out).mono ?_; rintro e y2 ⟨v2, rfl, H2⟩; have K2 : Hid (OwnL 5 1 cB B y2 v2 (l ++ putN N 1) ∧ Below B w y2) := ⟨H2.out.1, (K1.out.mono hB.out).trans H2.out.2⟩; clear H2))
  go_ret
  exact ⟨v2, rfl, K2⟩
theorem nw_p (w : World) (B : Nat) (v : Value) (l : List UInt8) (hv : Hid (OwnL 5 1 cB B w v l)) (hB : Hid (B ≤ w.heap.size)) (hl : Hid (l.length ≤ 10000000000)) (C : Array Value) (sC : Hid (C.size = 35)) (bo k : Nat) (caps : Array Value) (hbo : Hid (Bx w bo #[.func (.func k) #[] caps] 82)) (ek : ∀ args w, (callFunc k args).run Tryz.prog w = .ok (.enter k args) w) (N : Nat) (hN : N < 256) (hk : Hid (∀ y, Below w.heap.size w y → Calls Tryz.prog k (#[.agg C] ++ caps) y fun e w' => e = .returned (.int .u8 (N : Int)) ∧ Below y.heap.size y w')) :
    Calls Tryz.prog 103 #[v, .agg C, .pointer (some ⟨bo, 0, none⟩)] w fun e w' => ∃ v', e = .returned v' ∧ Hid (OwnL 5 1 cB B w' v' (l ++ putN N 1) ∧ Below B w w') := by
  have hN' : Hid (N < 256) := hN
  clear hN
  go_enter Tryz.func103, Tryz.ntmps103
  go_wp2_with (first
    | ((with_reducible refine gen_world (w.alloc (.cells C 34)) (Fm w [(w.heap.size, C, 34)]) ?_ ?_); exact Fm.one w _ _; intro y0 K0; have c0 := Bx.c ((K0.out.low.block bo (heap_lt hbo.out)).trans hbo.out) 0 _ rfl)
    | ((with_reducible refine at_load rtBd w.heap.size C ?_ ?_ (.tmp 4) ?_ ?_ ?_ ?_); exact K0.out.bx 0 _ _ _ rfl; exact sC.out; kernel_rfl; rfl; rfl)
    | (go_at_fn k; refine (hk.out y0 K0.out.low).mono ?_; rintro e y1 ⟨rfl, H1⟩; have K1 : Hid (Below w.heap.size w y1) := K0.out.low.trans (H1.mono K0.out.low.size); clear H1)
    | (go_at_call 104; refine (app_p y1 B v l (hv.out.below K1.out) (Nat.le_trans hB.out K1.out.size) hl N hN'.out).mono ?_; rintro e y2 ⟨v2, rfl, H2⟩; have K2 : Hid (OwnL 5 1 cB B y2 v2 (l ++ putN N 1) ∧ Below B w y2) := ⟨H2.out.1, (K1.out.mono hB.out).trans H2.out.2⟩; clear H2))
  go_ret
  exact ⟨v2, rfl, K2⟩
theorem nw_b (w : World) (B : Nat) (v : Value) (l : List UInt8) (hv : Hid (OwnL 5 1 cB B w v l)) (hB : Hid (B ≤ w.heap.size)) (hl : Hid (l.length ≤ 10000000000)) (C : Array Value) (sC : Hid (C.size = 35)) (bo k : Nat) (caps : Array Value) (hbo : Hid (Bx w bo #[.func (.func k) #[] caps] 41)) (ek : ∀ args w, (callFunc k args).run Tryz.prog w = .ok (.enter k args) w) (q : Bool) (hk : Hid (∀ y, Below w.heap.size w y → Calls Tryz.prog k (#[.agg C] ++ caps) y fun e w' => e = .returned (.bool q) ∧ Below y.heap.size y w')) :
    Calls Tryz.prog 100 #[v, .agg C, .pointer (some ⟨bo, 0, none⟩)] w fun e w' => ∃ v', e = .returned v' ∧ Hid (OwnL 5 1 cB B w' v' (l ++ [flB q]) ∧ Below B w w') := by
  obtain ⟨sv, cv, hvj, _⟩ := hv.out.open kByte.len
  have hlen : Hid (l.length ≤ 100000000000) := by have := hl.out; show _ ≤ _; omega
  generalize hnl : l.length = nl at hvj
  subst hvj
  clear hl hnl
  go_enter Tryz.func100, Tryz.ntmps100
  rcases q with _ | _
  · go_wp2_with (first
      | ((with_reducible refine gen_world (w.alloc (.cells C 34)) (Fm w [(w.heap.size, C, 34)]) ?_ ?_); exact Fm.one w _ _; intro y0 K0; have c0 := Bx.c ((K0.out.low.block bo (heap_lt hbo.out)).trans hbo.out) 0 _ rfl)
      | ((with_reducible refine at_load rtBd w.heap.size C ?_ ?_ (.tmp 4) ?_ ?_ ?_ ?_); exact K0.out.bx 0 _ _ _ rfl; exact sC.out; kernel_rfl; rfl; rfl)
      | (go_at_fn k; refine (hk.out y0 K0.out.low).mono ?_; rintro e y1 ⟨rfl, H1⟩; have K1 : Hid (Below w.heap.size w y1) := K0.out.low.trans (H1.mono K0.out.low.size); clear H1)
      | (at_builtin; refine at_appL kByte rfl (.tmp 12) (.tmp 13) rfl B (.slice sv nl cv) l rfl ((hv.out.below K1.out).alloc _) y1.heap.size (flB false) rfl ?_ ?_ ?_ ?_; (exact one_bxL y1 _ _); exact hlen.out; (have h1 := hB.out; have h2 := K1.out.size; simp [World.size_alloc]; omega); intro v2 y2 K2; have N2 : Hid (OwnL 5 1 cB B y2 v2 (l ++ [flB false]) ∧ Below B w y2) := ⟨K2.out.own, (K1.out.mono hB.out).trans (((Below.refl B y1).alloc (Nat.le_trans hB.out K1.out.size) _).trans K2.out.cu.low)⟩; clear K2))
    go_ret
    exact ⟨v2, rfl, N2⟩
  · go_wp2_with (first
      | ((with_reducible refine gen_world (w.alloc (.cells C 34)) (Fm w [(w.heap.size, C, 34)]) ?_ ?_); exact Fm.one w _ _; intro y0 K0; have c0 := Bx.c ((K0.out.low.block bo (heap_lt hbo.out)).trans hbo.out) 0 _ rfl)
      | ((with_reducible refine at_load rtBd w.heap.size C ?_ ?_ (.tmp 4) ?_ ?_ ?_ ?_); exact K0.out.bx 0 _ _ _ rfl; exact sC.out; kernel_rfl; rfl; rfl)
      | (go_at_fn k; refine (hk.out y0 K0.out.low).mono ?_; rintro e y1 ⟨rfl, H1⟩; have K1 : Hid (Below w.heap.size w y1) := K0.out.low.trans (H1.mono K0.out.low.size); clear H1)
      | (at_builtin; refine at_appL kByte rfl (.tmp 9) (.tmp 10) rfl B (.slice sv nl cv) l rfl ((hv.out.below K1.out).alloc _) y1.heap.size (flB true) rfl ?_ ?_ ?_ ?_; (exact one_bxL y1 _ _); exact hlen.out; (have h1 := hB.out; have h2 := K1.out.size; simp [World.size_alloc]; omega); intro v2 y2 K2; have N2 : Hid (OwnL 5 1 cB B y2 v2 (l ++ [flB true]) ∧ Below B w y2) := ⟨K2.out.own, (K1.out.mono hB.out).trans (((Below.refl B y1).alloc (Nat.le_trans hB.out K1.out.size) _).trans K2.out.cu.low)⟩; clear K2))
    go_ret
    exact ⟨v2, rfl, N2⟩
theorem nw_l (w : World) (B : Nat) (v : Value) (l : List UInt8) (hv : Hid (OwnL 5 1 cB B w v l)) (hB : Hid (B ≤ w.heap.size)) (hl : Hid (l.length ≤ 10000000000)) (C : Array Value) (sC : Hid (C.size = 35)) (bo k : Nat) (caps : Array Value) (hbo : Hid (Bx w bo #[.func (.func k) #[] caps] 88)) (ek : ∀ args w, (callFunc k args).run Tryz.prog w = .ok (.enter k args) w) (g o n cap : Nat) (f : List UInt8) (hf : Hid (LB w (some ⟨g, o, none⟩) f)) (hfn : Hid (f.length = n)) (hn0 : Hid (0 < n ∧ n ≤ 100000)) (hk : Hid (∀ y, Below w.heap.size w y → Calls Tryz.prog k (#[.agg C] ++ caps) y fun e w' => e = .returned (.slice (some ⟨g, o, none⟩) n cap) ∧ Below y.heap.size y w')) :
    Calls Tryz.prog 109 #[v, .agg C, .pointer (some ⟨bo, 0, none⟩)] w fun e w' => ∃ v', e = .returned v' ∧ Hid (OwnL 5 1 cB B w' v' (l ++ f) ∧ Below B w w') := by
  obtain ⟨sv, cv, hvj, _⟩ := hv.out.open kByte.len
  have hlen : Hid (l.length + n ≤ 100000000000) := by have := hl.out; have := hn0.out; show _ ≤ _; omega
  generalize hnl : l.length = nl at hvj
  subst hvj
  clear hl hnl
  go_enter Tryz.func109, Tryz.ntmps109
  go_wp2_with (first
    | ((with_reducible refine gen_world (w.alloc (.cells C 34)) (Fm w [(w.heap.size, C, 34)]) ?_ ?_); exact Fm.one w _ _; intro y0 K0; have c0 := Bx.c ((K0.out.low.block bo (heap_lt hbo.out)).trans hbo.out) 0 _ rfl)
    | ((with_reducible refine at_load rtBd w.heap.size C ?_ ?_ (.tmp 4) ?_ ?_ ?_ ?_); exact K0.out.bx 0 _ _ _ rfl; exact sC.out; kernel_rfl; rfl; rfl)
    | (go_at_fn k; refine (hk.out y0 K0.out.low).mono ?_; rintro e y1 ⟨rfl, H1⟩; have K1 : Hid (Below w.heap.size w y1) := K0.out.low.trans (H1.mono K0.out.low.size); clear H1)
    | (at_builtin; (with_reducible refine at_appNL kByte ?_ (.tmp 6) (.tmp 9) ?_ B (.slice sv nl cv) l ?_ ?_ g o n cap f ?_ ?_ ?_ ?_ ?_ ?_ ?_); rfl; rfl; rfl; exact hv.out.below K1.out; exact hfn.out; rfl; exact hf.out.below K1.out; exact hn0.out.1; exact hlen.out; exact Nat.le_trans hB.out K1.out.size; intro v2 y2 A; have N2 : Hid (OwnL 5 1 cB B y2 v2 (l ++ f) ∧ Below B w y2) := ⟨A.out.own, (K1.out.mono hB.out).trans A.out.cu.low⟩; clear A))
  go_ret
  exact ⟨v2, rfl, N2⟩
end Go.Proofs.YtehnhjdjjalifaaGreatDoor
