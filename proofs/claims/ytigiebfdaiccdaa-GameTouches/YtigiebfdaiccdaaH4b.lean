/- GameTouches: where PC may have gone. -/
import Derived.Test.YtigiebfdaiccdaaH4
namespace Go.Proofs.Ytigiebfdaiccdaa
open Go Go.RowKit Go.Shelf
set_option linter.unusedVariables false
set_option maxHeartbeats 1000000
set_option maxRecDepth 20000

theorem went_3 (w : World) (C : Array Value) (hC : C.size = 23) (x y n b a : Nat) (p : Nat) (gS oS m m1 cS : Nat) (h18 : Hid (C[18]? = some (.slice (some ⟨gS, oS, none⟩) m cS))) (hm : (0 : Int) < (m : Int)) (hd : decide (0 < m) = true) (hd2 : decide ((0 : Int) < (m : Int)) = true) (hm2 : (m : Int) ≤ 4000000000) (hm1 : (m : Int) - 1 = (m1 : Int)) (hl : Hid (∀ y, Below w.heap.size w y → y.cell? ⟨gS, oS + m1, none⟩ = some (.int .u16 (p : Int)))) (q : ((p : Int) == (p : Int)) = true) :
    Calls Try.prog 23 #[.agg C, .agg #[.int .u8 (3 : Int), .int .u8 (x : Int), .int .u8 (y : Int), .int .u8 (n : Int), .int .u8 (b : Int), .int .u16 (a : Int)], .int .u16 (p : Int)] w fun e w' => e = .returned (.bool true) ∧ Below w.heap.size w w' := by
  have gC : Hid (C.size = 23) := hC
  clear hC
  go_enter Try.func23, Try.ntmps23
  go_wp2_with ((with_reducible refine gen_world ((w.alloc (.cells C 29)).alloc (.cells #[.int .u8 (3 : Int), .int .u8 (x : Int), .int .u8 (y : Int), .int .u8 (n : Int), .int .u8 (b : Int), .int .u16 (a : Int)] 45)) (Fm w [(w.heap.size, C, 29), (w.heap.size + 1, #[.int .u8 (3 : Int), .int .u8 (x : Int), .int .u8 (y : Int), .int .u8 (n : Int), .int .u8 (b : Int), .int .u16 (a : Int)], 45)]) ?_ ?_); (exact Fm.two w _ _ _ _); intro z K; have d0 := (K.out.bx 1 _ _ _ rfl).c 0 _ rfl; have d5 := (K.out.bx 1 _ _ _ rfl).c 5 _ rfl; have c18 := (K.out.bx 0 _ _ _ rfl).c 18 _ h18.out; have cl := hl.out z K.out.low; have ixS := fun v => idxW .i64 gS oS m cS m1 v (by omega))
  go_ret
  exact ⟨rfl, K.out.low⟩

theorem went_4 (w : World) (C : Array Value) (hC : C.size = 23) (x y n b a : Nat)  (q : ((a : Int) == (a : Int)) = true) :
    Calls Try.prog 23 #[.agg C, .agg #[.int .u8 (4 : Int), .int .u8 (x : Int), .int .u8 (y : Int), .int .u8 (n : Int), .int .u8 (b : Int), .int .u16 (a : Int)], .int .u16 (a : Int)] w fun e w' => e = .returned (.bool true) ∧ Below w.heap.size w w' := by
  have gC : Hid (C.size = 23) := hC
  clear hC
  go_enter Try.func23, Try.ntmps23
  go_wp2_with ((with_reducible refine gen_world ((w.alloc (.cells C 29)).alloc (.cells #[.int .u8 (4 : Int), .int .u8 (x : Int), .int .u8 (y : Int), .int .u8 (n : Int), .int .u8 (b : Int), .int .u16 (a : Int)] 45)) (Fm w [(w.heap.size, C, 29), (w.heap.size + 1, #[.int .u8 (4 : Int), .int .u8 (x : Int), .int .u8 (y : Int), .int .u8 (n : Int), .int .u8 (b : Int), .int .u16 (a : Int)], 45)]) ?_ ?_); (exact Fm.two w _ _ _ _); intro z K; have d0 := (K.out.bx 1 _ _ _ rfl).c 0 _ rfl; have d5 := (K.out.bx 1 _ _ _ rfl).c 5 _ rfl)
  go_ret
  exact ⟨rfl, K.out.low⟩

theorem went_5 (w : World) (C : Array Value) (hC : C.size = 23) (x y n b a : Nat)  (q : ((a : Int) == (a : Int)) = true) :
    Calls Try.prog 23 #[.agg C, .agg #[.int .u8 (5 : Int), .int .u8 (x : Int), .int .u8 (y : Int), .int .u8 (n : Int), .int .u8 (b : Int), .int .u16 (a : Int)], .int .u16 (a : Int)] w fun e w' => e = .returned (.bool true) ∧ Below w.heap.size w w' := by
  have gC : Hid (C.size = 23) := hC
  clear hC
  go_enter Try.func23, Try.ntmps23
  go_wp2_with ((with_reducible refine gen_world ((w.alloc (.cells C 29)).alloc (.cells #[.int .u8 (5 : Int), .int .u8 (x : Int), .int .u8 (y : Int), .int .u8 (n : Int), .int .u8 (b : Int), .int .u16 (a : Int)] 45)) (Fm w [(w.heap.size, C, 29), (w.heap.size + 1, #[.int .u8 (5 : Int), .int .u8 (x : Int), .int .u8 (y : Int), .int .u8 (n : Int), .int .u8 (b : Int), .int .u16 (a : Int)], 45)]) ?_ ?_); (exact Fm.two w _ _ _ _); intro z K; have d0 := (K.out.bx 1 _ _ _ rfl).c 0 _ rfl; have d5 := (K.out.bx 1 _ _ _ rfl).c 5 _ rfl)
  go_ret
  exact ⟨rfl, K.out.low⟩

theorem went_18 (w : World) (C : Array Value) (hC : C.size = 23) (x y n b a : Nat) (p V : Nat) (h0 : Hid (C[0]? = some (.int .u8 (V : Int)))) (hV : (V : Int) < 256) (ha : (a : Int) < 65536) (w0 : IntKind.u16.wrap ((a : Int) + (V : Int)) = (p : Int)) (v0 : ((a : Int) + (V : Int)) % 65536 = (p : Int)) (q : ((p : Int) == (p : Int)) = true) :
    Calls Try.prog 23 #[.agg C, .agg #[.int .u8 (18 : Int), .int .u8 (x : Int), .int .u8 (y : Int), .int .u8 (n : Int), .int .u8 (b : Int), .int .u16 (a : Int)], .int .u16 (p : Int)] w fun e w' => e = .returned (.bool true) ∧ Below w.heap.size w w' := by
  have gC : Hid (C.size = 23) := hC
  clear hC
  go_enter Try.func23, Try.ntmps23
  go_wp2_with ((with_reducible refine gen_world ((w.alloc (.cells C 29)).alloc (.cells #[.int .u8 (18 : Int), .int .u8 (x : Int), .int .u8 (y : Int), .int .u8 (n : Int), .int .u8 (b : Int), .int .u16 (a : Int)] 45)) (Fm w [(w.heap.size, C, 29), (w.heap.size + 1, #[.int .u8 (18 : Int), .int .u8 (x : Int), .int .u8 (y : Int), .int .u8 (n : Int), .int .u8 (b : Int), .int .u16 (a : Int)], 45)]) ?_ ?_); (exact Fm.two w _ _ _ _); intro z K; have d0 := (K.out.bx 1 _ _ _ rfl).c 0 _ rfl; have d5 := (K.out.bx 1 _ _ _ rfl).c 5 _ rfl; have c0 := (K.out.bx 0 _ _ _ rfl).c 0 _ h0.out)
  go_ret
  exact ⟨rfl, K.out.low⟩

theorem went_6a (w : World) (C : Array Value) (hC : C.size = 23) (x y n b a : Nat) (p : Nat) (Pc : Nat) (h17 : Hid (C[17]? = some (.int .u16 (Pc : Int)))) (hPc : (Pc : Int) < 65536) (w2 : IntKind.u16.wrap ((Pc : Int) + 2) = (p : Int)) (v2 : ((Pc : Int) + 2) % 65536 = (p : Int)) (q : ((p : Int) == (p : Int)) = true) :
    Calls Try.prog 23 #[.agg C, .agg #[.int .u8 (6 : Int), .int .u8 (x : Int), .int .u8 (y : Int), .int .u8 (n : Int), .int .u8 (b : Int), .int .u16 (a : Int)], .int .u16 (p : Int)] w fun e w' => e = .returned (.bool true) ∧ Below w.heap.size w w' := by
  have gC : Hid (C.size = 23) := hC
  clear hC
  go_enter Try.func23, Try.ntmps23
  go_wp2_with ((with_reducible refine gen_world ((w.alloc (.cells C 29)).alloc (.cells #[.int .u8 (6 : Int), .int .u8 (x : Int), .int .u8 (y : Int), .int .u8 (n : Int), .int .u8 (b : Int), .int .u16 (a : Int)] 45)) (Fm w [(w.heap.size, C, 29), (w.heap.size + 1, #[.int .u8 (6 : Int), .int .u8 (x : Int), .int .u8 (y : Int), .int .u8 (n : Int), .int .u8 (b : Int), .int .u16 (a : Int)], 45)]) ?_ ?_); (exact Fm.two w _ _ _ _); intro z K; have d0 := (K.out.bx 1 _ _ _ rfl).c 0 _ rfl; have d5 := (K.out.bx 1 _ _ _ rfl).c 5 _ rfl; have c17 := (K.out.bx 0 _ _ _ rfl).c 17 _ h17.out)
  go_ret
  exact ⟨rfl, K.out.low⟩

theorem went_6b (w : World) (C : Array Value) (hC : C.size = 23) (x y n b a : Nat) (p P2 : Nat) (Pc : Nat) (h17 : Hid (C[17]? = some (.int .u16 (Pc : Int)))) (hPc : (Pc : Int) < 65536) (w2 : IntKind.u16.wrap ((Pc : Int) + 2) = (P2 : Int)) (v2 : ((Pc : Int) + 2) % 65536 = (P2 : Int)) (w4 : IntKind.u16.wrap ((Pc : Int) + 4) = (p : Int)) (v4 : ((Pc : Int) + 4) % 65536 = (p : Int)) (q : ((p : Int) == (p : Int)) = true) (q2 : ((p : Int) == (P2 : Int)) = false) (q3 : decide (p = P2) = false) :
    Calls Try.prog 23 #[.agg C, .agg #[.int .u8 (6 : Int), .int .u8 (x : Int), .int .u8 (y : Int), .int .u8 (n : Int), .int .u8 (b : Int), .int .u16 (a : Int)], .int .u16 (p : Int)] w fun e w' => e = .returned (.bool true) ∧ Below w.heap.size w w' := by
  have gC : Hid (C.size = 23) := hC
  clear hC
  go_enter Try.func23, Try.ntmps23
  go_wp2_with ((with_reducible refine gen_world ((w.alloc (.cells C 29)).alloc (.cells #[.int .u8 (6 : Int), .int .u8 (x : Int), .int .u8 (y : Int), .int .u8 (n : Int), .int .u8 (b : Int), .int .u16 (a : Int)] 45)) (Fm w [(w.heap.size, C, 29), (w.heap.size + 1, #[.int .u8 (6 : Int), .int .u8 (x : Int), .int .u8 (y : Int), .int .u8 (n : Int), .int .u8 (b : Int), .int .u16 (a : Int)], 45)]) ?_ ?_); (exact Fm.two w _ _ _ _); intro z K; have d0 := (K.out.bx 1 _ _ _ rfl).c 0 _ rfl; have d5 := (K.out.bx 1 _ _ _ rfl).c 5 _ rfl; have c17 := (K.out.bx 0 _ _ _ rfl).c 17 _ h17.out)
  go_ret
  exact ⟨rfl, K.out.low⟩

theorem went_7a (w : World) (C : Array Value) (hC : C.size = 23) (x y n b a : Nat) (p : Nat) (Pc : Nat) (h17 : Hid (C[17]? = some (.int .u16 (Pc : Int)))) (hPc : (Pc : Int) < 65536) (w2 : IntKind.u16.wrap ((Pc : Int) + 2) = (p : Int)) (v2 : ((Pc : Int) + 2) % 65536 = (p : Int)) (q : ((p : Int) == (p : Int)) = true) :
    Calls Try.prog 23 #[.agg C, .agg #[.int .u8 (7 : Int), .int .u8 (x : Int), .int .u8 (y : Int), .int .u8 (n : Int), .int .u8 (b : Int), .int .u16 (a : Int)], .int .u16 (p : Int)] w fun e w' => e = .returned (.bool true) ∧ Below w.heap.size w w' := by
  have gC : Hid (C.size = 23) := hC
  clear hC
  go_enter Try.func23, Try.ntmps23
  go_wp2_with ((with_reducible refine gen_world ((w.alloc (.cells C 29)).alloc (.cells #[.int .u8 (7 : Int), .int .u8 (x : Int), .int .u8 (y : Int), .int .u8 (n : Int), .int .u8 (b : Int), .int .u16 (a : Int)] 45)) (Fm w [(w.heap.size, C, 29), (w.heap.size + 1, #[.int .u8 (7 : Int), .int .u8 (x : Int), .int .u8 (y : Int), .int .u8 (n : Int), .int .u8 (b : Int), .int .u16 (a : Int)], 45)]) ?_ ?_); (exact Fm.two w _ _ _ _); intro z K; have d0 := (K.out.bx 1 _ _ _ rfl).c 0 _ rfl; have d5 := (K.out.bx 1 _ _ _ rfl).c 5 _ rfl; have c17 := (K.out.bx 0 _ _ _ rfl).c 17 _ h17.out)
  go_ret
  exact ⟨rfl, K.out.low⟩

theorem went_7b (w : World) (C : Array Value) (hC : C.size = 23) (x y n b a : Nat) (p P2 : Nat) (Pc : Nat) (h17 : Hid (C[17]? = some (.int .u16 (Pc : Int)))) (hPc : (Pc : Int) < 65536) (w2 : IntKind.u16.wrap ((Pc : Int) + 2) = (P2 : Int)) (v2 : ((Pc : Int) + 2) % 65536 = (P2 : Int)) (w4 : IntKind.u16.wrap ((Pc : Int) + 4) = (p : Int)) (v4 : ((Pc : Int) + 4) % 65536 = (p : Int)) (q : ((p : Int) == (p : Int)) = true) (q2 : ((p : Int) == (P2 : Int)) = false) (q3 : decide (p = P2) = false) :
    Calls Try.prog 23 #[.agg C, .agg #[.int .u8 (7 : Int), .int .u8 (x : Int), .int .u8 (y : Int), .int .u8 (n : Int), .int .u8 (b : Int), .int .u16 (a : Int)], .int .u16 (p : Int)] w fun e w' => e = .returned (.bool true) ∧ Below w.heap.size w w' := by
  have gC : Hid (C.size = 23) := hC
  clear hC
  go_enter Try.func23, Try.ntmps23
  go_wp2_with ((with_reducible refine gen_world ((w.alloc (.cells C 29)).alloc (.cells #[.int .u8 (7 : Int), .int .u8 (x : Int), .int .u8 (y : Int), .int .u8 (n : Int), .int .u8 (b : Int), .int .u16 (a : Int)] 45)) (Fm w [(w.heap.size, C, 29), (w.heap.size + 1, #[.int .u8 (7 : Int), .int .u8 (x : Int), .int .u8 (y : Int), .int .u8 (n : Int), .int .u8 (b : Int), .int .u16 (a : Int)], 45)]) ?_ ?_); (exact Fm.two w _ _ _ _); intro z K; have d0 := (K.out.bx 1 _ _ _ rfl).c 0 _ rfl; have d5 := (K.out.bx 1 _ _ _ rfl).c 5 _ rfl; have c17 := (K.out.bx 0 _ _ _ rfl).c 17 _ h17.out)
  go_ret
  exact ⟨rfl, K.out.low⟩

theorem went_8a (w : World) (C : Array Value) (hC : C.size = 23) (x y n b a : Nat) (p : Nat) (Pc : Nat) (h17 : Hid (C[17]? = some (.int .u16 (Pc : Int)))) (hPc : (Pc : Int) < 65536) (w2 : IntKind.u16.wrap ((Pc : Int) + 2) = (p : Int)) (v2 : ((Pc : Int) + 2) % 65536 = (p : Int)) (q : ((p : Int) == (p : Int)) = true) :
    Calls Try.prog 23 #[.agg C, .agg #[.int .u8 (8 : Int), .int .u8 (x : Int), .int .u8 (y : Int), .int .u8 (n : Int), .int .u8 (b : Int), .int .u16 (a : Int)], .int .u16 (p : Int)] w fun e w' => e = .returned (.bool true) ∧ Below w.heap.size w w' := by
  have gC : Hid (C.size = 23) := hC
  clear hC
  go_enter Try.func23, Try.ntmps23
  go_wp2_with ((with_reducible refine gen_world ((w.alloc (.cells C 29)).alloc (.cells #[.int .u8 (8 : Int), .int .u8 (x : Int), .int .u8 (y : Int), .int .u8 (n : Int), .int .u8 (b : Int), .int .u16 (a : Int)] 45)) (Fm w [(w.heap.size, C, 29), (w.heap.size + 1, #[.int .u8 (8 : Int), .int .u8 (x : Int), .int .u8 (y : Int), .int .u8 (n : Int), .int .u8 (b : Int), .int .u16 (a : Int)], 45)]) ?_ ?_); (exact Fm.two w _ _ _ _); intro z K; have d0 := (K.out.bx 1 _ _ _ rfl).c 0 _ rfl; have d5 := (K.out.bx 1 _ _ _ rfl).c 5 _ rfl; have c17 := (K.out.bx 0 _ _ _ rfl).c 17 _ h17.out)
  go_ret
  exact ⟨rfl, K.out.low⟩

theorem went_8b (w : World) (C : Array Value) (hC : C.size = 23) (x y n b a : Nat) (p P2 : Nat) (Pc : Nat) (h17 : Hid (C[17]? = some (.int .u16 (Pc : Int)))) (hPc : (Pc : Int) < 65536) (w2 : IntKind.u16.wrap ((Pc : Int) + 2) = (P2 : Int)) (v2 : ((Pc : Int) + 2) % 65536 = (P2 : Int)) (w4 : IntKind.u16.wrap ((Pc : Int) + 4) = (p : Int)) (v4 : ((Pc : Int) + 4) % 65536 = (p : Int)) (q : ((p : Int) == (p : Int)) = true) (q2 : ((p : Int) == (P2 : Int)) = false) (q3 : decide (p = P2) = false) :
    Calls Try.prog 23 #[.agg C, .agg #[.int .u8 (8 : Int), .int .u8 (x : Int), .int .u8 (y : Int), .int .u8 (n : Int), .int .u8 (b : Int), .int .u16 (a : Int)], .int .u16 (p : Int)] w fun e w' => e = .returned (.bool true) ∧ Below w.heap.size w w' := by
  have gC : Hid (C.size = 23) := hC
  clear hC
  go_enter Try.func23, Try.ntmps23
  go_wp2_with ((with_reducible refine gen_world ((w.alloc (.cells C 29)).alloc (.cells #[.int .u8 (8 : Int), .int .u8 (x : Int), .int .u8 (y : Int), .int .u8 (n : Int), .int .u8 (b : Int), .int .u16 (a : Int)] 45)) (Fm w [(w.heap.size, C, 29), (w.heap.size + 1, #[.int .u8 (8 : Int), .int .u8 (x : Int), .int .u8 (y : Int), .int .u8 (n : Int), .int .u8 (b : Int), .int .u16 (a : Int)], 45)]) ?_ ?_); (exact Fm.two w _ _ _ _); intro z K; have d0 := (K.out.bx 1 _ _ _ rfl).c 0 _ rfl; have d5 := (K.out.bx 1 _ _ _ rfl).c 5 _ rfl; have c17 := (K.out.bx 0 _ _ _ rfl).c 17 _ h17.out)
  go_ret
  exact ⟨rfl, K.out.low⟩

theorem went_16a (w : World) (C : Array Value) (hC : C.size = 23) (x y n b a : Nat) (p : Nat) (Pc : Nat) (h17 : Hid (C[17]? = some (.int .u16 (Pc : Int)))) (hPc : (Pc : Int) < 65536) (w2 : IntKind.u16.wrap ((Pc : Int) + 2) = (p : Int)) (v2 : ((Pc : Int) + 2) % 65536 = (p : Int)) (q : ((p : Int) == (p : Int)) = true) :
    Calls Try.prog 23 #[.agg C, .agg #[.int .u8 (16 : Int), .int .u8 (x : Int), .int .u8 (y : Int), .int .u8 (n : Int), .int .u8 (b : Int), .int .u16 (a : Int)], .int .u16 (p : Int)] w fun e w' => e = .returned (.bool true) ∧ Below w.heap.size w w' := by
  have gC : Hid (C.size = 23) := hC
  clear hC
  go_enter Try.func23, Try.ntmps23
  go_wp2_with ((with_reducible refine gen_world ((w.alloc (.cells C 29)).alloc (.cells #[.int .u8 (16 : Int), .int .u8 (x : Int), .int .u8 (y : Int), .int .u8 (n : Int), .int .u8 (b : Int), .int .u16 (a : Int)] 45)) (Fm w [(w.heap.size, C, 29), (w.heap.size + 1, #[.int .u8 (16 : Int), .int .u8 (x : Int), .int .u8 (y : Int), .int .u8 (n : Int), .int .u8 (b : Int), .int .u16 (a : Int)], 45)]) ?_ ?_); (exact Fm.two w _ _ _ _); intro z K; have d0 := (K.out.bx 1 _ _ _ rfl).c 0 _ rfl; have d5 := (K.out.bx 1 _ _ _ rfl).c 5 _ rfl; have c17 := (K.out.bx 0 _ _ _ rfl).c 17 _ h17.out)
  go_ret
  exact ⟨rfl, K.out.low⟩

theorem went_16b (w : World) (C : Array Value) (hC : C.size = 23) (x y n b a : Nat) (p P2 : Nat) (Pc : Nat) (h17 : Hid (C[17]? = some (.int .u16 (Pc : Int)))) (hPc : (Pc : Int) < 65536) (w2 : IntKind.u16.wrap ((Pc : Int) + 2) = (P2 : Int)) (v2 : ((Pc : Int) + 2) % 65536 = (P2 : Int)) (w4 : IntKind.u16.wrap ((Pc : Int) + 4) = (p : Int)) (v4 : ((Pc : Int) + 4) % 65536 = (p : Int)) (q : ((p : Int) == (p : Int)) = true) (q2 : ((p : Int) == (P2 : Int)) = false) (q3 : decide (p = P2) = false) :
    Calls Try.prog 23 #[.agg C, .agg #[.int .u8 (16 : Int), .int .u8 (x : Int), .int .u8 (y : Int), .int .u8 (n : Int), .int .u8 (b : Int), .int .u16 (a : Int)], .int .u16 (p : Int)] w fun e w' => e = .returned (.bool true) ∧ Below w.heap.size w w' := by
  have gC : Hid (C.size = 23) := hC
  clear hC
  go_enter Try.func23, Try.ntmps23
  go_wp2_with ((with_reducible refine gen_world ((w.alloc (.cells C 29)).alloc (.cells #[.int .u8 (16 : Int), .int .u8 (x : Int), .int .u8 (y : Int), .int .u8 (n : Int), .int .u8 (b : Int), .int .u16 (a : Int)] 45)) (Fm w [(w.heap.size, C, 29), (w.heap.size + 1, #[.int .u8 (16 : Int), .int .u8 (x : Int), .int .u8 (y : Int), .int .u8 (n : Int), .int .u8 (b : Int), .int .u16 (a : Int)], 45)]) ?_ ?_); (exact Fm.two w _ _ _ _); intro z K; have d0 := (K.out.bx 1 _ _ _ rfl).c 0 _ rfl; have d5 := (K.out.bx 1 _ _ _ rfl).c 5 _ rfl; have c17 := (K.out.bx 0 _ _ _ rfl).c 17 _ h17.out)
  go_ret
  exact ⟨rfl, K.out.low⟩

theorem went_21a (w : World) (C : Array Value) (hC : C.size = 23) (x y n b a : Nat) (p : Nat) (Pc : Nat) (h17 : Hid (C[17]? = some (.int .u16 (Pc : Int)))) (hPc : (Pc : Int) < 65536) (w2 : IntKind.u16.wrap ((Pc : Int) + 2) = (p : Int)) (v2 : ((Pc : Int) + 2) % 65536 = (p : Int)) (q : ((p : Int) == (p : Int)) = true) :
    Calls Try.prog 23 #[.agg C, .agg #[.int .u8 (21 : Int), .int .u8 (x : Int), .int .u8 (y : Int), .int .u8 (n : Int), .int .u8 (b : Int), .int .u16 (a : Int)], .int .u16 (p : Int)] w fun e w' => e = .returned (.bool true) ∧ Below w.heap.size w w' := by
  have gC : Hid (C.size = 23) := hC
  clear hC
  go_enter Try.func23, Try.ntmps23
  go_wp2_with ((with_reducible refine gen_world ((w.alloc (.cells C 29)).alloc (.cells #[.int .u8 (21 : Int), .int .u8 (x : Int), .int .u8 (y : Int), .int .u8 (n : Int), .int .u8 (b : Int), .int .u16 (a : Int)] 45)) (Fm w [(w.heap.size, C, 29), (w.heap.size + 1, #[.int .u8 (21 : Int), .int .u8 (x : Int), .int .u8 (y : Int), .int .u8 (n : Int), .int .u8 (b : Int), .int .u16 (a : Int)], 45)]) ?_ ?_); (exact Fm.two w _ _ _ _); intro z K; have d0 := (K.out.bx 1 _ _ _ rfl).c 0 _ rfl; have d5 := (K.out.bx 1 _ _ _ rfl).c 5 _ rfl; have c17 := (K.out.bx 0 _ _ _ rfl).c 17 _ h17.out)
  go_ret
  exact ⟨rfl, K.out.low⟩

theorem went_21b (w : World) (C : Array Value) (hC : C.size = 23) (x y n b a : Nat) (p P2 : Nat) (Pc : Nat) (h17 : Hid (C[17]? = some (.int .u16 (Pc : Int)))) (hPc : (Pc : Int) < 65536) (w2 : IntKind.u16.wrap ((Pc : Int) + 2) = (P2 : Int)) (v2 : ((Pc : Int) + 2) % 65536 = (P2 : Int)) (w4 : IntKind.u16.wrap ((Pc : Int) + 4) = (p : Int)) (v4 : ((Pc : Int) + 4) % 65536 = (p : Int)) (q : ((p : Int) == (p : Int)) = true) (q2 : ((p : Int) == (P2 : Int)) = false) (q3 : decide (p = P2) = false) :
    Calls Try.prog 23 #[.agg C, .agg #[.int .u8 (21 : Int), .int .u8 (x : Int), .int .u8 (y : Int), .int .u8 (n : Int), .int .u8 (b : Int), .int .u16 (a : Int)], .int .u16 (p : Int)] w fun e w' => e = .returned (.bool true) ∧ Below w.heap.size w w' := by
  have gC : Hid (C.size = 23) := hC
  clear hC
  go_enter Try.func23, Try.ntmps23
  go_wp2_with ((with_reducible refine gen_world ((w.alloc (.cells C 29)).alloc (.cells #[.int .u8 (21 : Int), .int .u8 (x : Int), .int .u8 (y : Int), .int .u8 (n : Int), .int .u8 (b : Int), .int .u16 (a : Int)] 45)) (Fm w [(w.heap.size, C, 29), (w.heap.size + 1, #[.int .u8 (21 : Int), .int .u8 (x : Int), .int .u8 (y : Int), .int .u8 (n : Int), .int .u8 (b : Int), .int .u16 (a : Int)], 45)]) ?_ ?_); (exact Fm.two w _ _ _ _); intro z K; have d0 := (K.out.bx 1 _ _ _ rfl).c 0 _ rfl; have d5 := (K.out.bx 1 _ _ _ rfl).c 5 _ rfl; have c17 := (K.out.bx 0 _ _ _ rfl).c 17 _ h17.out)
  go_ret
  exact ⟨rfl, K.out.low⟩

theorem went_22a (w : World) (C : Array Value) (hC : C.size = 23) (x y n b a : Nat) (p : Nat) (Pc : Nat) (h17 : Hid (C[17]? = some (.int .u16 (Pc : Int)))) (hPc : (Pc : Int) < 65536) (w2 : IntKind.u16.wrap ((Pc : Int) + 2) = (p : Int)) (v2 : ((Pc : Int) + 2) % 65536 = (p : Int)) (q : ((p : Int) == (p : Int)) = true) :
    Calls Try.prog 23 #[.agg C, .agg #[.int .u8 (22 : Int), .int .u8 (x : Int), .int .u8 (y : Int), .int .u8 (n : Int), .int .u8 (b : Int), .int .u16 (a : Int)], .int .u16 (p : Int)] w fun e w' => e = .returned (.bool true) ∧ Below w.heap.size w w' := by
  have gC : Hid (C.size = 23) := hC
  clear hC
  go_enter Try.func23, Try.ntmps23
  go_wp2_with ((with_reducible refine gen_world ((w.alloc (.cells C 29)).alloc (.cells #[.int .u8 (22 : Int), .int .u8 (x : Int), .int .u8 (y : Int), .int .u8 (n : Int), .int .u8 (b : Int), .int .u16 (a : Int)] 45)) (Fm w [(w.heap.size, C, 29), (w.heap.size + 1, #[.int .u8 (22 : Int), .int .u8 (x : Int), .int .u8 (y : Int), .int .u8 (n : Int), .int .u8 (b : Int), .int .u16 (a : Int)], 45)]) ?_ ?_); (exact Fm.two w _ _ _ _); intro z K; have d0 := (K.out.bx 1 _ _ _ rfl).c 0 _ rfl; have d5 := (K.out.bx 1 _ _ _ rfl).c 5 _ rfl; have c17 := (K.out.bx 0 _ _ _ rfl).c 17 _ h17.out)
  go_ret
  exact ⟨rfl, K.out.low⟩

theorem went_22b (w : World) (C : Array Value) (hC : C.size = 23) (x y n b a : Nat) (p P2 : Nat) (Pc : Nat) (h17 : Hid (C[17]? = some (.int .u16 (Pc : Int)))) (hPc : (Pc : Int) < 65536) (w2 : IntKind.u16.wrap ((Pc : Int) + 2) = (P2 : Int)) (v2 : ((Pc : Int) + 2) % 65536 = (P2 : Int)) (w4 : IntKind.u16.wrap ((Pc : Int) + 4) = (p : Int)) (v4 : ((Pc : Int) + 4) % 65536 = (p : Int)) (q : ((p : Int) == (p : Int)) = true) (q2 : ((p : Int) == (P2 : Int)) = false) (q3 : decide (p = P2) = false) :
    Calls Try.prog 23 #[.agg C, .agg #[.int .u8 (22 : Int), .int .u8 (x : Int), .int .u8 (y : Int), .int .u8 (n : Int), .int .u8 (b : Int), .int .u16 (a : Int)], .int .u16 (p : Int)] w fun e w' => e = .returned (.bool true) ∧ Below w.heap.size w w' := by
  have gC : Hid (C.size = 23) := hC
  clear hC
  go_enter Try.func23, Try.ntmps23
  go_wp2_with ((with_reducible refine gen_world ((w.alloc (.cells C 29)).alloc (.cells #[.int .u8 (22 : Int), .int .u8 (x : Int), .int .u8 (y : Int), .int .u8 (n : Int), .int .u8 (b : Int), .int .u16 (a : Int)] 45)) (Fm w [(w.heap.size, C, 29), (w.heap.size + 1, #[.int .u8 (22 : Int), .int .u8 (x : Int), .int .u8 (y : Int), .int .u8 (n : Int), .int .u8 (b : Int), .int .u16 (a : Int)], 45)]) ?_ ?_); (exact Fm.two w _ _ _ _); intro z K; have d0 := (K.out.bx 1 _ _ _ rfl).c 0 _ rfl; have d5 := (K.out.bx 1 _ _ _ rfl).c 5 _ rfl; have c17 := (K.out.bx 0 _ _ _ rfl).c 17 _ h17.out)
  go_ret
  exact ⟨rfl, K.out.low⟩

theorem went_no (w : World) (C : Array Value) (hC : C.size = 23) (op x y n b a : Nat) (p : Nat) (Pc : Nat) (h17 : Hid (C[17]? = some (.int .u16 (Pc : Int)))) (hPc : (Pc : Int) < 65536) (w2 : IntKind.u16.wrap ((Pc : Int) + 2) = (p : Int)) (v2 : ((Pc : Int) + 2) % 65536 = (p : Int)) (q : ((p : Int) == (p : Int)) = true) (n3 : ((op : Int) == 3) = false) (n4 : ((op : Int) == 4) = false) (n5 : ((op : Int) == 5) = false) (n18 : ((op : Int) == 18) = false) (n6 : ((op : Int) == 6) = false) (n7 : ((op : Int) == 7) = false) (n8 : ((op : Int) == 8) = false) (n16 : ((op : Int) == 16) = false) (n21 : ((op : Int) == 21) = false) (n22 : ((op : Int) == 22) = false) :
    Calls Try.prog 23 #[.agg C, .agg #[.int .u8 (op : Int), .int .u8 (x : Int), .int .u8 (y : Int), .int .u8 (n : Int), .int .u8 (b : Int), .int .u16 (a : Int)], .int .u16 (p : Int)] w fun e w' => e = .returned (.bool true) ∧ Below w.heap.size w w' := by
  have gC : Hid (C.size = 23) := hC
  clear hC
  go_enter Try.func23, Try.ntmps23
  go_wp2_with ((with_reducible refine gen_world ((w.alloc (.cells C 29)).alloc (.cells #[.int .u8 (op : Int), .int .u8 (x : Int), .int .u8 (y : Int), .int .u8 (n : Int), .int .u8 (b : Int), .int .u16 (a : Int)] 45)) (Fm w [(w.heap.size, C, 29), (w.heap.size + 1, #[.int .u8 (op : Int), .int .u8 (x : Int), .int .u8 (y : Int), .int .u8 (n : Int), .int .u8 (b : Int), .int .u16 (a : Int)], 45)]) ?_ ?_); (exact Fm.two w _ _ _ _); intro z K; have d0 := (K.out.bx 1 _ _ _ rfl).c 0 _ rfl; have d5 := (K.out.bx 1 _ _ _ rfl).c 5 _ rfl; have c17 := (K.out.bx 0 _ _ _ rfl).c 17 _ h17.out)
  go_ret
  exact ⟨rfl, K.out.low⟩

theorem went_any (w : World) (C : Array Value) (g : Gm) (o : Od) (h : GL w C g) (ho : OdR o) (hn : g.st.length ≤ 4000000000) (p : Nat) (hw : wntG g o p = true) :
    Calls Try.prog 23 #[.agg C, .agg (o6 o), .int .u16 (p : Int)] w fun e w' => e = .returned (.bool true) ∧ Below w.heap.size w w' := by
  have hs := h.size.1
  obtain ⟨⟨sS, sP, sM, cS, cP, cM, e, h1, h2, h3⟩, ok⟩ := h
  have g17 : Hid (C[17]? = some (.int .u16 (g.pc : Int))) := by rw [e]; exact (rfl : _ = _)
  have g0 : Hid (C[0]? = some (.int .u8 ((g.v.getD 0 0).toNat : Int))) := by rw [e]; exact (rfl : _ = _)
  have g18 : C[18]? = some (.slice sS g.st.length cS) := by rw [e]; rfl
  have hp := ok.pc
  have hV := (g.v.getD 0 0).toNat_lt
  have ha := ho.a
  clear e
  obtain ⟨op, x, y, n, b, a⟩ := o
  replace ha : a < 65536 := ha
  unfold o6
  by_cases h3' : op = 3
  · subst h3'
    have hw' : (decide (0 < g.st.length) && p == g.st.getD (g.st.length - 1) 0) = true := hw
    simp only [Bool.and_eq_true, decide_eq_true_eq, beq_iff_eq] at hw'
    obtain ⟨l0, e0⟩ := hw'
    obtain ⟨gS, oS, rfl⟩ := lw_some h1 (by omega)
    refine went_3 w C hs x y n b a p gS oS g.st.length (g.st.length - 1) cS g18 (by omega) (by simp; omega) (by simp; omega) (by omega) (by omega) (fun z hz => ?_) (by simp)
    rw [e0]
    exact lw_at (h1.below hz) (g.st.length - 1) (by omega)
  by_cases h4' : op = 4
  · subst h4'
    have hw' : (p == a) = true := hw
    rw [beq_iff_eq] at hw'
    subst hw'
    exact went_4 w C hs x y n b _ (by simp)
  by_cases h5' : op = 5
  · subst h5'
    have hw' : (p == a) = true := hw
    rw [beq_iff_eq] at hw'
    subst hw'
    exact went_5 w C hs x y n b _ (by simp)
  by_cases h18' : op = 18
  · subst h18'
    have hw' : (p == (a + (g.v.getD 0 0).toNat) % 65536) = true := hw
    rw [beq_iff_eq] at hw'
    exact went_18 w C hs x y n b a p _ g0 (by omega) (by omega) (by rw [IntKind.wrap_u16]; omega) (by omega) (by simp)
  by_cases h6' : op = 6
  · subst h6'
    have hw' : (p == (g.pc + 2) % 65536 || p == (g.pc + 4) % 65536) = true := hw
    by_cases hq : p = (g.pc + 2) % 65536
    · exact went_6a w C hs x y n b a p g.pc g17 (by omega) (by rw [IntKind.wrap_u16]; omega) (by omega) (by simp)
    · have hq2 : p = (g.pc + 4) % 65536 := by simpa [hq] using hw'
      exact went_6b w C hs x y n b a p ((g.pc + 2) % 65536) g.pc g17 (by omega) (by rw [IntKind.wrap_u16]; omega) (by omega) (by rw [IntKind.wrap_u16]; omega) (by omega) (by simp) (by simp; omega) (by simp; omega)
  by_cases h7' : op = 7
  · subst h7'
    have hw' : (p == (g.pc + 2) % 65536 || p == (g.pc + 4) % 65536) = true := hw
    by_cases hq : p = (g.pc + 2) % 65536
    · exact went_7a w C hs x y n b a p g.pc g17 (by omega) (by rw [IntKind.wrap_u16]; omega) (by omega) (by simp)
    · have hq2 : p = (g.pc + 4) % 65536 := by simpa [hq] using hw'
      exact went_7b w C hs x y n b a p ((g.pc + 2) % 65536) g.pc g17 (by omega) (by rw [IntKind.wrap_u16]; omega) (by omega) (by rw [IntKind.wrap_u16]; omega) (by omega) (by simp) (by simp; omega) (by simp; omega)
  by_cases h8' : op = 8
  · subst h8'
    have hw' : (p == (g.pc + 2) % 65536 || p == (g.pc + 4) % 65536) = true := hw
    by_cases hq : p = (g.pc + 2) % 65536
    · exact went_8a w C hs x y n b a p g.pc g17 (by omega) (by rw [IntKind.wrap_u16]; omega) (by omega) (by simp)
    · have hq2 : p = (g.pc + 4) % 65536 := by simpa [hq] using hw'
      exact went_8b w C hs x y n b a p ((g.pc + 2) % 65536) g.pc g17 (by omega) (by rw [IntKind.wrap_u16]; omega) (by omega) (by rw [IntKind.wrap_u16]; omega) (by omega) (by simp) (by simp; omega) (by simp; omega)
  by_cases h16' : op = 16
  · subst h16'
    have hw' : (p == (g.pc + 2) % 65536 || p == (g.pc + 4) % 65536) = true := hw
    by_cases hq : p = (g.pc + 2) % 65536
    · exact went_16a w C hs x y n b a p g.pc g17 (by omega) (by rw [IntKind.wrap_u16]; omega) (by omega) (by simp)
    · have hq2 : p = (g.pc + 4) % 65536 := by simpa [hq] using hw'
      exact went_16b w C hs x y n b a p ((g.pc + 2) % 65536) g.pc g17 (by omega) (by rw [IntKind.wrap_u16]; omega) (by omega) (by rw [IntKind.wrap_u16]; omega) (by omega) (by simp) (by simp; omega) (by simp; omega)
  by_cases h21' : op = 21
  · subst h21'
    have hw' : (p == (g.pc + 2) % 65536 || p == (g.pc + 4) % 65536) = true := hw
    by_cases hq : p = (g.pc + 2) % 65536
    · exact went_21a w C hs x y n b a p g.pc g17 (by omega) (by rw [IntKind.wrap_u16]; omega) (by omega) (by simp)
    · have hq2 : p = (g.pc + 4) % 65536 := by simpa [hq] using hw'
      exact went_21b w C hs x y n b a p ((g.pc + 2) % 65536) g.pc g17 (by omega) (by rw [IntKind.wrap_u16]; omega) (by omega) (by rw [IntKind.wrap_u16]; omega) (by omega) (by simp) (by simp; omega) (by simp; omega)
  by_cases h22' : op = 22
  · subst h22'
    have hw' : (p == (g.pc + 2) % 65536 || p == (g.pc + 4) % 65536) = true := hw
    by_cases hq : p = (g.pc + 2) % 65536
    · exact went_22a w C hs x y n b a p g.pc g17 (by omega) (by rw [IntKind.wrap_u16]; omega) (by omega) (by simp)
    · have hq2 : p = (g.pc + 4) % 65536 := by simpa [hq] using hw'
      exact went_22b w C hs x y n b a p ((g.pc + 2) % 65536) g.pc g17 (by omega) (by rw [IntKind.wrap_u16]; omega) (by omega) (by rw [IntKind.wrap_u16]; omega) (by omega) (by simp) (by simp; omega) (by simp; omega)
  have hw' : p = (g.pc + 2) % 65536 := by simpa [wntG, h3', h4', h5', h18', h6', h7', h8', h16', h21', h22'] using hw
  exact went_no w C hs op x y n b a p g.pc g17 (by omega) (by rw [IntKind.wrap_u16]; omega) (by omega) (by simp) (by simp; omega) (by simp; omega) (by simp; omega) (by simp; omega) (by simp; omega) (by simp; omega) (by simp; omega) (by simp; omega) (by simp; omega) (by simp; omega)

end Go.Proofs.Ytigiebfdaiccdaa
