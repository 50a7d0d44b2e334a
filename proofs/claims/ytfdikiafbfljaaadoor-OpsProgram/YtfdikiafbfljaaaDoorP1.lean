/- What the fields of an order are asked for and given: the closures of the rows; a field's mask. -/
import Derived.Test.YtfdikiafbfljaaaDoorP0
import Derived.Test.YtfdikiafbfljaaaDoorLw
import Derived.Laws.BitsAllLaws
namespace Go.Proofs.YtfdikiafbfljaaaDoor
open Go Go.RowKit
set_option linter.unusedVariables false
set_option maxHeartbeats 1000000
set_option maxRecDepth 20000

/-- An order's cells. -/
def o6 (o : Od) : Array Value := #[.int .u8 o.op, .int .u8 o.x, .int .u8 o.y, .int .u8 o.n, .int .u8 o.b, .int .u16 o.a]
theorem o6_size (o : Od) : (o6 o).size = 6 := rfl
theorem o6_one (o : Od) : (o6 o).all (·.oneCell') = true := by simp [o6, Value.oneCell']
theorem rtO : Rt Tryd.prog 30 6 := ⟨⟨_, Tryd.underlying30, rfl⟩, by kernel_rfl⟩
theorem zeroO (w : World) : (zeroValue 30).run Tryd.prog w = .ok (.agg (o6 od0)) w := by kernel_rfl
/-- What an order's types allow. -/
structure OdR (o : Od) : Prop where
  op : o.op < 256
  x : o.x < 256
  y : o.y < 256
  n : o.n < 256
  b : o.b < 256
  a : o.a < 65536

theorem of0 (o : Od) (ho : OdR o) (w : World) : Calls Tryd.prog 56 #[.agg (o6 o)] w fun e w' => e = .returned (.int .u16 ((getK 0 o : Nat) : Int)) ∧ Below w.heap.size w w' := by
  have hB : Hid (Fm w [(w.heap.size, o6 o, 30)] (w.alloc (.cells (o6 o) 30))) := Fm.one w _ _
  have h0 : (0 : Int) ≤ (o.x : Int) := by omega
  have h1 : (o.x : Int) < 256 := by have := ho.x; omega
  go_enter Tryd.func56, Tryd.ntmps56
  go_wp2_with ((with_reducible refine gen_world (w.alloc (.cells (o6 o) 30)) (Fm w [(w.heap.size, o6 o, 30)]) hB.out ?_); intro y K1; have d1 := (K1.out.bx 0 _ _ _ rfl).c 1 (.int .u8 o.x) rfl)
  go_ret
  exact ⟨rfl, K1.out.low⟩
theorem with0 (o : Od) (v : Nat) (hv : v < 65536) (w : World) : Calls Tryd.prog 57 #[.agg (o6 o), .int .u16 (v : Int)] w fun e w' => e = .returned (.agg (o6 (putK 0 o v))) ∧ Below w.heap.size w w' := by
  have zz := zeroO
  have hB : Hid (Fm w [(w.heap.size, o6 o, 30), (w.heap.size + 1, o6 od0, 30)] ((w.alloc (.cells (o6 o) 30)).alloc (.cells (o6 od0) 30))) := Fm.two w _ _ _ _
  have h0 : (0 : Int) ≤ (v : Int) := by omega
  have h1 : (v : Int) < 65536 := by omega
  have hs : ∀ y, Fm w [(w.heap.size, o6 o, 30), (w.heap.size + 1, o6 od0, 30)] y → Fm w [(w.heap.size, o6 (putK 0 o v), 30), (w.heap.size + 1, o6 od0, 30)] (y.setCell ⟨w.heap.size, 1, none⟩ (.int .u8 ((v : Int) % 256))) := fun y K => K.setCell 0 _ _ _ _ rfl 1 _ (by simp [o6, putK])
  clear hv
  go_enter Tryd.func57, Tryd.ntmps57
  go_wp2_with (first
    | ((with_reducible refine gen_world ((w.alloc (.cells (o6 o) 30)).alloc (.cells (o6 od0) 30)) (Fm w [(w.heap.size, o6 o, 30), (w.heap.size + 1, o6 od0, 30)]) hB.out ?_); intro y K1; have d1 := (K1.out.bx 0 _ _ _ rfl).c 1 (.int .u8 o.x) rfl; have z1 := (K1.out.bx 0 _ _ _ rfl).fz 1)
    | ((with_reducible refine gen_world (y.setCell ⟨w.heap.size, 1, none⟩ (.int .u8 ((v : Int) % 256))) (Fm w [(w.heap.size, o6 (putK 0 o v), 30), (w.heap.size + 1, o6 od0, 30)]) ?_ ?_); exact hs y K1.out; intro y2 K2)
    | ((with_reducible refine at_load rtO w.heap.size (o6 (putK 0 o v)) ?_ ?_ (.tmp 2) ?_ ?_ ?_ ?_); exact K2.out.bx 0 _ _ _ rfl; rfl; rfl; rfl; rfl)
    | ((with_reducible refine at_st rtO (w.heap.size + 1) (o6 od0) (o6 (putK 0 o v)) ?_ ?_ ?_ ?_ (.tmp 4) (.tmp 8) ?_ ?_ ?_ ?_ ?_); exact K2.out.bx 1 _ _ _ rfl; rfl; rfl; exact o6_one _; rfl; rfl; rfl; rfl; intro y3 hw3; have K3 : Hid (Fm w [(w.heap.size, o6 (putK 0 o v), 30), (w.heap.size + 1, o6 (putK 0 o v), 30)] y3) := K2.out.put 1 _ _ _ _ rfl hw3.out))
  refine ret_row rtO rfl rfl (K3.out.bx 1 _ _ _ rfl) rfl rfl ⟨rfl, K3.out.low⟩

theorem of1 (o : Od) (ho : OdR o) (w : World) : Calls Tryd.prog 58 #[.agg (o6 o)] w fun e w' => e = .returned (.int .u16 ((getK 1 o : Nat) : Int)) ∧ Below w.heap.size w w' := by
  have hB : Hid (Fm w [(w.heap.size, o6 o, 30)] (w.alloc (.cells (o6 o) 30))) := Fm.one w _ _
  have h0 : (0 : Int) ≤ (o.y : Int) := by omega
  have h1 : (o.y : Int) < 256 := by have := ho.y; omega
  go_enter Tryd.func58, Tryd.ntmps58
  go_wp2_with ((with_reducible refine gen_world (w.alloc (.cells (o6 o) 30)) (Fm w [(w.heap.size, o6 o, 30)]) hB.out ?_); intro y K1; have d1 := (K1.out.bx 0 _ _ _ rfl).c 2 (.int .u8 o.y) rfl)
  go_ret
  exact ⟨rfl, K1.out.low⟩
theorem with1 (o : Od) (v : Nat) (hv : v < 65536) (w : World) : Calls Tryd.prog 59 #[.agg (o6 o), .int .u16 (v : Int)] w fun e w' => e = .returned (.agg (o6 (putK 1 o v))) ∧ Below w.heap.size w w' := by
  have zz := zeroO
  have hB : Hid (Fm w [(w.heap.size, o6 o, 30), (w.heap.size + 1, o6 od0, 30)] ((w.alloc (.cells (o6 o) 30)).alloc (.cells (o6 od0) 30))) := Fm.two w _ _ _ _
  have h0 : (0 : Int) ≤ (v : Int) := by omega
  have h1 : (v : Int) < 65536 := by omega
  have hs : ∀ y, Fm w [(w.heap.size, o6 o, 30), (w.heap.size + 1, o6 od0, 30)] y → Fm w [(w.heap.size, o6 (putK 1 o v), 30), (w.heap.size + 1, o6 od0, 30)] (y.setCell ⟨w.heap.size, 2, none⟩ (.int .u8 ((v : Int) % 256))) := fun y K => K.setCell 0 _ _ _ _ rfl 2 _ (by simp [o6, putK])
  clear hv
  go_enter Tryd.func59, Tryd.ntmps59
  go_wp2_with (first
    | ((with_reducible refine gen_world ((w.alloc (.cells (o6 o) 30)).alloc (.cells (o6 od0) 30)) (Fm w [(w.heap.size, o6 o, 30), (w.heap.size + 1, o6 od0, 30)]) hB.out ?_); intro y K1; have d1 := (K1.out.bx 0 _ _ _ rfl).c 2 (.int .u8 o.y) rfl; have z1 := (K1.out.bx 0 _ _ _ rfl).fz 2)
    | ((with_reducible refine gen_world (y.setCell ⟨w.heap.size, 2, none⟩ (.int .u8 ((v : Int) % 256))) (Fm w [(w.heap.size, o6 (putK 1 o v), 30), (w.heap.size + 1, o6 od0, 30)]) ?_ ?_); exact hs y K1.out; intro y2 K2)
    | ((with_reducible refine at_load rtO w.heap.size (o6 (putK 1 o v)) ?_ ?_ (.tmp 2) ?_ ?_ ?_ ?_); exact K2.out.bx 0 _ _ _ rfl; rfl; rfl; rfl; rfl)
    | ((with_reducible refine at_st rtO (w.heap.size + 1) (o6 od0) (o6 (putK 1 o v)) ?_ ?_ ?_ ?_ (.tmp 4) (.tmp 8) ?_ ?_ ?_ ?_ ?_); exact K2.out.bx 1 _ _ _ rfl; rfl; rfl; exact o6_one _; rfl; rfl; rfl; rfl; intro y3 hw3; have K3 : Hid (Fm w [(w.heap.size, o6 (putK 1 o v), 30), (w.heap.size + 1, o6 (putK 1 o v), 30)] y3) := K2.out.put 1 _ _ _ _ rfl hw3.out))
  refine ret_row rtO rfl rfl (K3.out.bx 1 _ _ _ rfl) rfl rfl ⟨rfl, K3.out.low⟩

theorem of2 (o : Od) (ho : OdR o) (w : World) : Calls Tryd.prog 60 #[.agg (o6 o)] w fun e w' => e = .returned (.int .u16 ((getK 2 o : Nat) : Int)) ∧ Below w.heap.size w w' := by
  have hB : Hid (Fm w [(w.heap.size, o6 o, 30)] (w.alloc (.cells (o6 o) 30))) := Fm.one w _ _
  have h0 : (0 : Int) ≤ (o.n : Int) := by omega
  have h1 : (o.n : Int) < 256 := by have := ho.n; omega
  go_enter Tryd.func60, Tryd.ntmps60
  go_wp2_with ((with_reducible refine gen_world (w.alloc (.cells (o6 o) 30)) (Fm w [(w.heap.size, o6 o, 30)]) hB.out ?_); intro y K1; have d1 := (K1.out.bx 0 _ _ _ rfl).c 3 (.int .u8 o.n) rfl)
  go_ret
  exact ⟨rfl, K1.out.low⟩
theorem with2 (o : Od) (v : Nat) (hv : v < 65536) (w : World) : Calls Tryd.prog 61 #[.agg (o6 o), .int .u16 (v : Int)] w fun e w' => e = .returned (.agg (o6 (putK 2 o v))) ∧ Below w.heap.size w w' := by
  have zz := zeroO
  have hB : Hid (Fm w [(w.heap.size, o6 o, 30), (w.heap.size + 1, o6 od0, 30)] ((w.alloc (.cells (o6 o) 30)).alloc (.cells (o6 od0) 30))) := Fm.two w _ _ _ _
  have h0 : (0 : Int) ≤ (v : Int) := by omega
  have h1 : (v : Int) < 65536 := by omega
  have hs : ∀ y, Fm w [(w.heap.size, o6 o, 30), (w.heap.size + 1, o6 od0, 30)] y → Fm w [(w.heap.size, o6 (putK 2 o v), 30), (w.heap.size + 1, o6 od0, 30)] (y.setCell ⟨w.heap.size, 3, none⟩ (.int .u8 ((v : Int) % 256))) := fun y K => K.setCell 0 _ _ _ _ rfl 3 _ (by simp [o6, putK])
  clear hv
  go_enter Tryd.func61, Tryd.ntmps61
  go_wp2_with (first
    | ((with_reducible refine gen_world ((w.alloc (.cells (o6 o) 30)).alloc (.cells (o6 od0) 30)) (Fm w [(w.heap.size, o6 o, 30), (w.heap.size + 1, o6 od0, 30)]) hB.out ?_); intro y K1; have d1 := (K1.out.bx 0 _ _ _ rfl).c 3 (.int .u8 o.n) rfl; have z1 := (K1.out.bx 0 _ _ _ rfl).fz 3)
    | ((with_reducible refine gen_world (y.setCell ⟨w.heap.size, 3, none⟩ (.int .u8 ((v : Int) % 256))) (Fm w [(w.heap.size, o6 (putK 2 o v), 30), (w.heap.size + 1, o6 od0, 30)]) ?_ ?_); exact hs y K1.out; intro y2 K2)
    | ((with_reducible refine at_load rtO w.heap.size (o6 (putK 2 o v)) ?_ ?_ (.tmp 2) ?_ ?_ ?_ ?_); exact K2.out.bx 0 _ _ _ rfl; rfl; rfl; rfl; rfl)
    | ((with_reducible refine at_st rtO (w.heap.size + 1) (o6 od0) (o6 (putK 2 o v)) ?_ ?_ ?_ ?_ (.tmp 4) (.tmp 8) ?_ ?_ ?_ ?_ ?_); exact K2.out.bx 1 _ _ _ rfl; rfl; rfl; exact o6_one _; rfl; rfl; rfl; rfl; intro y3 hw3; have K3 : Hid (Fm w [(w.heap.size, o6 (putK 2 o v), 30), (w.heap.size + 1, o6 (putK 2 o v), 30)] y3) := K2.out.put 1 _ _ _ _ rfl hw3.out))
  refine ret_row rtO rfl rfl (K3.out.bx 1 _ _ _ rfl) rfl rfl ⟨rfl, K3.out.low⟩

theorem of3 (o : Od) (ho : OdR o) (w : World) : Calls Tryd.prog 62 #[.agg (o6 o)] w fun e w' => e = .returned (.int .u16 ((getK 3 o : Nat) : Int)) ∧ Below w.heap.size w w' := by
  have hB : Hid (Fm w [(w.heap.size, o6 o, 30)] (w.alloc (.cells (o6 o) 30))) := Fm.one w _ _
  have h0 : (0 : Int) ≤ (o.b : Int) := by omega
  have h1 : (o.b : Int) < 256 := by have := ho.b; omega
  go_enter Tryd.func62, Tryd.ntmps62
  go_wp2_with ((with_reducible refine gen_world (w.alloc (.cells (o6 o) 30)) (Fm w [(w.heap.size, o6 o, 30)]) hB.out ?_); intro y K1; have d1 := (K1.out.bx 0 _ _ _ rfl).c 4 (.int .u8 o.b) rfl)
  go_ret
  exact ⟨rfl, K1.out.low⟩
theorem with3 (o : Od) (v : Nat) (hv : v < 65536) (w : World) : Calls Tryd.prog 63 #[.agg (o6 o), .int .u16 (v : Int)] w fun e w' => e = .returned (.agg (o6 (putK 3 o v))) ∧ Below w.heap.size w w' := by
  have zz := zeroO
  have hB : Hid (Fm w [(w.heap.size, o6 o, 30), (w.heap.size + 1, o6 od0, 30)] ((w.alloc (.cells (o6 o) 30)).alloc (.cells (o6 od0) 30))) := Fm.two w _ _ _ _
  have h0 : (0 : Int) ≤ (v : Int) := by omega
  have h1 : (v : Int) < 65536 := by omega
  have hs : ∀ y, Fm w [(w.heap.size, o6 o, 30), (w.heap.size + 1, o6 od0, 30)] y → Fm w [(w.heap.size, o6 (putK 3 o v), 30), (w.heap.size + 1, o6 od0, 30)] (y.setCell ⟨w.heap.size, 4, none⟩ (.int .u8 ((v : Int) % 256))) := fun y K => K.setCell 0 _ _ _ _ rfl 4 _ (by simp [o6, putK])
  clear hv
  go_enter Tryd.func63, Tryd.ntmps63
  go_wp2_with (first
    | ((with_reducible refine gen_world ((w.alloc (.cells (o6 o) 30)).alloc (.cells (o6 od0) 30)) (Fm w [(w.heap.size, o6 o, 30), (w.heap.size + 1, o6 od0, 30)]) hB.out ?_); intro y K1; have d1 := (K1.out.bx 0 _ _ _ rfl).c 4 (.int .u8 o.b) rfl; have z1 := (K1.out.bx 0 _ _ _ rfl).fz 4)
    | ((with_reducible refine gen_world (y.setCell ⟨w.heap.size, 4, none⟩ (.int .u8 ((v : Int) % 256))) (Fm w [(w.heap.size, o6 (putK 3 o v), 30), (w.heap.size + 1, o6 od0, 30)]) ?_ ?_); exact hs y K1.out; intro y2 K2)
    | ((with_reducible refine at_load rtO w.heap.size (o6 (putK 3 o v)) ?_ ?_ (.tmp 2) ?_ ?_ ?_ ?_); exact K2.out.bx 0 _ _ _ rfl; rfl; rfl; rfl; rfl)
    | ((with_reducible refine at_st rtO (w.heap.size + 1) (o6 od0) (o6 (putK 3 o v)) ?_ ?_ ?_ ?_ (.tmp 4) (.tmp 8) ?_ ?_ ?_ ?_ ?_); exact K2.out.bx 1 _ _ _ rfl; rfl; rfl; exact o6_one _; rfl; rfl; rfl; rfl; intro y3 hw3; have K3 : Hid (Fm w [(w.heap.size, o6 (putK 3 o v), 30), (w.heap.size + 1, o6 (putK 3 o v), 30)] y3) := K2.out.put 1 _ _ _ _ rfl hw3.out))
  refine ret_row rtO rfl rfl (K3.out.bx 1 _ _ _ rfl) rfl rfl ⟨rfl, K3.out.low⟩

theorem of4 (o : Od) (ho : OdR o) (w : World) : Calls Tryd.prog 64 #[.agg (o6 o)] w fun e w' => e = .returned (.int .u16 ((getK 4 o : Nat) : Int)) ∧ Below w.heap.size w w' := by
  have hB : Hid (Fm w [(w.heap.size, o6 o, 30)] (w.alloc (.cells (o6 o) 30))) := Fm.one w _ _
  have h0 : (0 : Int) ≤ (o.a : Int) := by omega
  have h1 : (o.a : Int) < 65536 := by have := ho.a; omega
  go_enter Tryd.func64, Tryd.ntmps64
  go_wp2_with ((with_reducible refine gen_world (w.alloc (.cells (o6 o) 30)) (Fm w [(w.heap.size, o6 o, 30)]) hB.out ?_); intro y K1; have d1 := (K1.out.bx 0 _ _ _ rfl).c 5 (.int .u16 o.a) rfl)
  go_ret
  exact ⟨rfl, K1.out.low⟩
theorem with4 (o : Od) (v : Nat) (hv : v < 65536) (w : World) : Calls Tryd.prog 65 #[.agg (o6 o), .int .u16 (v : Int)] w fun e w' => e = .returned (.agg (o6 (putK 4 o v))) ∧ Below w.heap.size w w' := by
  have zz := zeroO
  have hB : Hid (Fm w [(w.heap.size, o6 o, 30), (w.heap.size + 1, o6 od0, 30)] ((w.alloc (.cells (o6 o) 30)).alloc (.cells (o6 od0) 30))) := Fm.two w _ _ _ _
  have h0 : (0 : Int) ≤ (v : Int) := by omega
  have h1 : (v : Int) < 65536 := by omega
  have hs : ∀ y, Fm w [(w.heap.size, o6 o, 30), (w.heap.size + 1, o6 od0, 30)] y → Fm w [(w.heap.size, o6 (putK 4 o v), 30), (w.heap.size + 1, o6 od0, 30)] (y.setCell ⟨w.heap.size, 5, none⟩ (.int .u16 (v : Int))) := fun y K => K.setCell 0 _ _ _ _ rfl 5 _ (by simp [o6, putK])
  clear hv h1
  go_enter Tryd.func65, Tryd.ntmps65
  go_wp2_with (first
    | ((with_reducible refine gen_world ((w.alloc (.cells (o6 o) 30)).alloc (.cells (o6 od0) 30)) (Fm w [(w.heap.size, o6 o, 30), (w.heap.size + 1, o6 od0, 30)]) hB.out ?_); intro y K1; have d1 := (K1.out.bx 0 _ _ _ rfl).c 5 (.int .u16 o.a) rfl; have z1 := (K1.out.bx 0 _ _ _ rfl).fz 5)
    | ((with_reducible refine gen_world (y.setCell ⟨w.heap.size, 5, none⟩ (.int .u16 (v : Int))) (Fm w [(w.heap.size, o6 (putK 4 o v), 30), (w.heap.size + 1, o6 od0, 30)]) ?_ ?_); exact hs y K1.out; intro y2 K2)
    | ((with_reducible refine at_load rtO w.heap.size (o6 (putK 4 o v)) ?_ ?_ (.tmp 2) ?_ ?_ ?_ ?_); exact K2.out.bx 0 _ _ _ rfl; rfl; rfl; rfl; rfl)
    | ((with_reducible refine at_st rtO (w.heap.size + 1) (o6 od0) (o6 (putK 4 o v)) ?_ ?_ ?_ ?_ (.tmp 4) (.tmp 7) ?_ ?_ ?_ ?_ ?_); exact K2.out.bx 1 _ _ _ rfl; rfl; rfl; exact o6_one _; rfl; rfl; rfl; rfl; intro y3 hw3; have K3 : Hid (Fm w [(w.heap.size, o6 (putK 4 o v), 30), (w.heap.size + 1, o6 (putK 4 o v), 30)] y3) := K2.out.put 1 _ _ _ _ rfl hw3.out))
  refine ret_row rtO rfl rfl (K3.out.bx 1 _ _ _ rfl) rfl rfl ⟨rfl, K3.out.low⟩

/-- A field's cells, its two functions. -/
def ofF (k : Nat) : Nat := if k = 0 then 56 else if k = 1 then 58 else if k = 2 then 60 else if k = 3 then 62 else 64
def wtF (k : Nat) : Nat := if k = 0 then 57 else if k = 1 then 59 else if k = 2 then 61 else if k = 3 then 63 else 65
def fdC (k : Nat) : List Value := [.string ⟨(ledK k).toArray⟩, .int .i64 (digK k : Nat), .int .i64 (belK k : Nat), .func (.func (ofF k)) #[] #[], .func (.func (wtF k)) #[] #[]]
theorem of_any (k : Nat) (hk : k < 5) (o : Od) (ho : OdR o) (w : World) : Calls Tryd.prog (ofF k) #[.agg (o6 o)] w fun e w' => e = .returned (.int .u16 ((getK k o : Nat) : Int)) ∧ Below w.heap.size w w' :=
  match k, hk with
  | 0, _ => of0 o ho w
  | 1, _ => of1 o ho w
  | 2, _ => of2 o ho w
  | 3, _ => of3 o ho w
  | 4, _ => of4 o ho w
theorem with_any (k : Nat) (hk : k < 5) (o : Od) (v : Nat) (hv : v < 65536) (w : World) : Calls Tryd.prog (wtF k) #[.agg (o6 o), .int .u16 (v : Int)] w fun e w' => e = .returned (.agg (o6 (putK k o v))) ∧ Below w.heap.size w w' :=
  match k, hk with
  | 0, _ => with0 o v hv w
  | 1, _ => with1 o v hv w
  | 2, _ => with2 o v hv w
  | 3, _ => with3 o v hv w
  | 4, _ => with4 o v hv w
theorem ent_of (k : Nat) (hk : k < 5) (args : Array Value) (w : World) : (callFunc (ofF k) args).run Tryd.prog w = .ok (.enter (ofF k) args) w := by
  rcases (show k = 0 ∨ k = 1 ∨ k = 2 ∨ k = 3 ∨ k = 4 by omega) with rfl | rfl | rfl | rfl | rfl <;> kernel_rfl
theorem ent_wt (k : Nat) (hk : k < 5) (args : Array Value) (w : World) : (callFunc (wtF k) args).run Tryd.prog w = .ok (.enter (wtF k) args) w := by
  rcases (show k = 0 ∨ k = 1 ∨ k = 2 ∨ k = 3 ∨ k = 4 by omega) with rfl | rfl | rfl | rfl | rfl <;> kernel_rfl
theorem rtF : Rt Tryd.prog 62 5 := ⟨⟨_, Tryd.underlying62, rfl⟩, by kernel_rfl⟩
theorem mask_any (k : Nat) (hk : k < 5) (w : World) : Calls Tryd.prog 22 #[.agg (fdC k).toArray] w fun e w' => e = .returned (.int .u16 ((mskK k : Nat) : Int)) ∧ Below w.heap.size w w' := by
  match k, hk with
  | 0, _ =>
    have hB : Below w.heap.size w (w.alloc (.cells #[.string ⟨#[118]⟩, .int .i64 1, .int .i64 8, .func (.func 56) #[] #[], .func (.func 57) #[] #[]] 62)) := below1 w _
    change Calls Tryd.prog 22 #[.agg #[.string ⟨#[118]⟩, .int .i64 1, .int .i64 8, .func (.func 56) #[] #[], .func (.func 57) #[] #[]]] w _
    go_enter Tryd.func22, Tryd.ntmps22
    go_wp2
    go_quiet (fail)
    go_wp2
    go_ret
    exact ⟨rfl, below_drewN hB⟩
  | 1, _ =>
    have hB : Below w.heap.size w (w.alloc (.cells #[.string ⟨#[118]⟩, .int .i64 1, .int .i64 4, .func (.func 58) #[] #[], .func (.func 59) #[] #[]] 62)) := below1 w _
    change Calls Tryd.prog 22 #[.agg #[.string ⟨#[118]⟩, .int .i64 1, .int .i64 4, .func (.func 58) #[] #[], .func (.func 59) #[] #[]]] w _
    go_enter Tryd.func22, Tryd.ntmps22
    go_wp2
    go_quiet (fail)
    go_wp2
    go_ret
    exact ⟨rfl, below_drewN hB⟩
  | 2, _ =>
    have hB : Below w.heap.size w (w.alloc (.cells #[.string ⟨#[]⟩, .int .i64 1, .int .i64 0, .func (.func 60) #[] #[], .func (.func 61) #[] #[]] 62)) := below1 w _
    change Calls Tryd.prog 22 #[.agg #[.string ⟨#[]⟩, .int .i64 1, .int .i64 0, .func (.func 60) #[] #[], .func (.func 61) #[] #[]]] w _
    go_enter Tryd.func22, Tryd.ntmps22
    go_wp2
    go_quiet (fail)
    go_wp2
    go_ret
    exact ⟨rfl, below_drewN hB⟩
  | 3, _ =>
    have hB : Below w.heap.size w (w.alloc (.cells #[.string ⟨#[]⟩, .int .i64 2, .int .i64 0, .func (.func 62) #[] #[], .func (.func 63) #[] #[]] 62)) := below1 w _
    change Calls Tryd.prog 22 #[.agg #[.string ⟨#[]⟩, .int .i64 2, .int .i64 0, .func (.func 62) #[] #[], .func (.func 63) #[] #[]]] w _
    go_enter Tryd.func22, Tryd.ntmps22
    go_wp2
    go_quiet (fail)
    go_wp2
    go_ret
    exact ⟨rfl, below_drewN hB⟩
  | 4, _ =>
    have hB : Below w.heap.size w (w.alloc (.cells #[.string ⟨#[]⟩, .int .i64 3, .int .i64 0, .func (.func 64) #[] #[], .func (.func 65) #[] #[]] 62)) := below1 w _
    change Calls Tryd.prog 22 #[.agg #[.string ⟨#[]⟩, .int .i64 3, .int .i64 0, .func (.func 64) #[] #[], .func (.func 65) #[] #[]]] w _
    go_enter Tryd.func22, Tryd.ntmps22
    go_wp2
    go_quiet (fail)
    go_wp2
    go_ret
    exact ⟨rfl, below_drewN hB⟩
end Go.Proofs.YtfdikiafbfljaaaDoor
