/- What the fields of an order are asked for and given: the closures of the rows; a field's mask. A region that draws its order, by an invariant over what is done: each operation keeps it, whenever it comes. -/
import Derived.Test.YthaijjehplomfaaDoorJ0
import Derived.Test.YthaijjehplomfaaDoorJ2
import Derived.Laws.BitsAllLaws
import Derived.Test.YthaijjehplomfaaDoorJ1
namespace Go.Proofs.YthaijjehplomfaaDoor
open Go Go.RowKit
set_option linter.unusedVariables false
set_option maxHeartbeats 1000000
set_option maxRecDepth 20000

/-- An order's cells. -/
def o6 (o : Od) : Array Value := #[.int .u8 o.op, .int .u8 o.x, .int .u8 o.y, .int .u8 o.n, .int .u8 o.b, .int .u16 o.a]
theorem o6_one (o : Od) : (o6 o).all (·.oneCell') = true := by simp [o6, Value.oneCell']
theorem rtO : Rt Tryd.prog 30 6 := ⟨⟨_, Tryd.underlying30, rfl⟩, by kernel_rfl⟩
theorem zeroO (w : World) : (zeroValue 30).run Tryd.prog w = .ok (.agg (o6 od0)) w := by kernel_rfl
/-- What an order's types allow. -/
structure OdR (o : Od) : Prop where
  op : o.op < 256
  x : o.x < 256
  y : o.y < 256
  n : o.n < 256
  b : o.b < 256
  a : o.a < 65536

theorem of0 (o : Od) (ho : OdR o) (w : World) : Calls Tryd.prog 54 #[.agg (o6 o)] w fun e w' => e = .returned (.int .u16 ((getK 0 o : Nat) : Int)) ∧ Below w.heap.size w w' := by
  have hB : Hid (Fm w [(w.heap.size, o6 o, 30)] (w.alloc (.cells (o6 o) 30))) := Fm.one w _ _
  have h0 : (0 : Int) ≤ (o.x : Int) := by omega
  have h1 : (o.x : Int) < 256 := by have := ho.x; omega
  go_enter Tryd.func54, Tryd.ntmps54
  go_wp2_with ((with_reducible refine gen_world (w.alloc (.cells (o6 o) 30)) (Fm w [(w.heap.size, o6 o, 30)]) hB.out ?_); intro y K1; have d1 := (K1.out.bx 0 _ _ _ rfl).c 1 (.int .u8 o.x) rfl)
  go_ret
  exact ⟨rfl, K1.out.low⟩
theorem with0 (o : Od) (v : Nat) (hv : v < 65536) (w : World) : Calls Tryd.prog 55 #[.agg (o6 o), .int .u16 (v : Int)] w fun e w' => e = .returned (.agg (o6 (putK 0 o v))) ∧ Below w.heap.size w w' := by
  have zz := zeroO
  have hB : Hid (Fm w [(w.heap.size, o6 o, 30), (w.heap.size + 1, o6 od0, 30)] ((w.alloc (.cells (o6 o) 30)).alloc (.cells (o6 od0) 30))) := Fm.two w _ _ _ _
  have h0 : (0 : Int) ≤ (v : Int) := by omega
  have h1 : (v : Int) < 65536 := by omega
  have hs : ∀ y, Fm w [(w.heap.size, o6 o, 30), (w.heap.size + 1, o6 od0, 30)] y → Fm w [(w.heap.size, o6 (putK 0 o v), 30), (w.heap.size + 1, o6 od0, 30)] (y.setCell ⟨w.heap.size, 1, none⟩ (.int .u8 ((v : Int) % 256))) := fun y K => K.setCell 0 _ _ _ _ rfl 1 _ (by simp [o6, putK])
  clear hv
  go_enter Tryd.func55, Tryd.ntmps55
  go_wp2_with (first
    | ((with_reducible refine gen_world ((w.alloc (.cells (o6 o) 30)).alloc (.cells (o6 od0) 30)) (Fm w [(w.heap.size, o6 o, 30), (w.heap.size + 1, o6 od0, 30)]) hB.out ?_); intro y K1; have d1 := (K1.out.bx 0 _ _ _ rfl).c 1 (.int .u8 o.x) rfl; have z1 := (K1.out.bx 0 _ _ _ rfl).fz 1)
    | ((with_reducible refine gen_world (y.setCell ⟨w.heap.size, 1, none⟩ (.int .u8 ((v : Int) % 256))) (Fm w [(w.heap.size, o6 (putK 0 o v), 30), (w.heap.size + 1, o6 od0, 30)]) ?_ ?_); exact hs y K1.out; intro y2 K2)
    | ((with_reducible refine at_load rtO w.heap.size (o6 (putK 0 o v)) ?_ ?_ (.tmp 2) ?_ ?_ ?_ ?_); exact K2.out.bx 0 _ _ _ rfl; rfl; rfl; rfl; rfl)
    | ((with_reducible refine at_st rtO (w.heap.size + 1) (o6 od0) (o6 (putK 0 o v)) ?_ ?_ ?_ ?_ (.tmp 4) (.tmp 8) ?_ ?_ ?_ ?_ ?_); exact K2.out.bx 1 _ _ _ rfl; rfl; rfl; exact o6_one _; rfl; rfl; rfl; rfl; intro y3 hw3; have K3 : Hid (Fm w [(w.heap.size, o6 (putK 0 o v), 30), (w.heap.size + 1, o6 (putK 0 o v), 30)] y3) := K2.out.put 1 _ _ _ _ rfl hw3.out))
  refine ret_row rtO rfl rfl (K3.out.bx 1 _ _ _ rfl) rfl rfl ⟨rfl, K3.out.low⟩

theorem of1 (o : Od) (ho : OdR o) (w : World) : Calls Tryd.prog 56 #[.agg (o6 o)] w fun e w' => e = .returned (.int .u16 ((getK 1 o : Nat) : Int)) ∧ Below w.heap.size w w' := by
  have hB : Hid (Fm w [(w.heap.size, o6 o, 30)] (w.alloc (.cells (o6 o) 30))) := Fm.one w _ _
  have h0 : (0 : Int) ≤ (o.y : Int) := by omega
  have h1 : (o.y : Int) < 256 := by have := ho.y; omega
  go_enter Tryd.func56, Tryd.ntmps56
  go_wp2_with ((with_reducible refine gen_world (w.alloc (.cells (o6 o) 30)) (Fm w [(w.heap.size, o6 o, 30)]) hB.out ?_); intro y K1; have d1 := (K1.out.bx 0 _ _ _ rfl).c 2 (.int .u8 o.y) rfl)
  go_ret
  exact ⟨rfl, K1.out.low⟩
theorem with1 (o : Od) (v : Nat) (hv : v < 65536) (w : World) : Calls Tryd.prog 57 #[.agg (o6 o), .int .u16 (v : Int)] w fun e w' => e = .returned (.agg (o6 (putK 1 o v))) ∧ Below w.heap.size w w' := by
  have zz := zeroO
  have hB : Hid (Fm w [(w.heap.size, o6 o, 30), (w.heap.size + 1, o6 od0, 30)] ((w.alloc (.cells (o6 o) 30)).alloc (.cells (o6 od0) 30))) := Fm.two w _ _ _ _
  have h0 : (0 : Int) ≤ (v : Int) := by omega
  have h1 : (v : Int) < 65536 := by omega
  have hs : ∀ y, Fm w [(w.heap.size, o6 o, 30), (w.heap.size + 1, o6 od0, 30)] y → Fm w [(w.heap.size, o6 (putK 1 o v), 30), (w.heap.size + 1, o6 od0, 30)] (y.setCell ⟨w.heap.size, 2, none⟩ (.int .u8 ((v : Int) % 256))) := fun y K => K.setCell 0 _ _ _ _ rfl 2 _ (by simp [o6, putK])
  clear hv
  go_enter Tryd.func57, Tryd.ntmps57
  go_wp2_with (first
    | ((with_reducible refine gen_world ((w.alloc (.cells (o6 o) 30)).alloc (.cells (o6 od0) 30)) (Fm w [(w.heap.size, o6 o, 30), (w.heap.size + 1, o6 od0, 30)]) hB.out ?_); intro y K1; have d1 := (K1.out.bx 0 _ _ _ rfl).c 2 (.int .u8 o.y) rfl; have z1 := (K1.out.bx 0 _ _ _ rfl).fz 2)
    | ((with_reducible refine gen_world (y.setCell ⟨w.heap.size, 2, none⟩ (.int .u8 ((v : Int) % 256))) (Fm w [(w.heap.size, o6 (putK 1 o v), 30), (w.heap.size + 1, o6 od0, 30)]) ?_ ?_); exact hs y K1.out; intro y2 K2)
    | ((with_reducible refine at_load rtO w.heap.size (o6 (putK 1 o v)) ?_ ?_ (.tmp 2) ?_ ?_ ?_ ?_); exact K2.out.bx 0 _ _ _ rfl; rfl; rfl; rfl; rfl)
    | ((with_reducible refine at_st rtO (w.heap.size + 1) (o6 od0) (o6 (putK 1 o v)) ?_ ?_ ?_ ?_ (.tmp 4) (.tmp 8) ?_ ?_ ?_ ?_ ?_); exact K2.out.bx 1 _ _ _ rfl; rfl; rfl; exact o6_one _; rfl; rfl; rfl; rfl; intro y3 hw3; have K3 : Hid (Fm w [(w.heap.size, o6 (putK 1 o v), 30), (w.heap.size + 1, o6 (putK 1 o v), 30)] y3) := K2.out.put 1 _ _ _ _ rfl hw3.out))
  refine ret_row rtO rfl rfl (K3.out.bx 1 _ _ _ rfl) rfl rfl ⟨rfl, K3.out.low⟩

theorem of2 (o : Od) (ho : OdR o) (w : World) : Calls Tryd.prog 58 #[.agg (o6 o)] w fun e w' => e = .returned (.int .u16 ((getK 2 o : Nat) : Int)) ∧ Below w.heap.size w w' := by
  have hB : Hid (Fm w [(w.heap.size, o6 o, 30)] (w.alloc (.cells (o6 o) 30))) := Fm.one w _ _
  have h0 : (0 : Int) ≤ (o.n : Int) := by omega
  have h1 : (o.n : Int) < 256 := by have := ho.n; omega
  go_enter Tryd.func58, Tryd.ntmps58
  go_wp2_with ((with_reducible refine gen_world (w.alloc (.cells (o6 o) 30)) (Fm w [(w.heap.size, o6 o, 30)]) hB.out ?_); intro y K1; have d1 := (K1.out.bx 0 _ _ _ rfl).c 3 (.int .u8 o.n) rfl)
  go_ret
  exact ⟨rfl, K1.out.low⟩
theorem with2 (o : Od) (v : Nat) (hv : v < 65536) (w : World) : Calls Tryd.prog 59 #[.agg (o6 o), .int .u16 (v : Int)] w fun e w' => e = .returned (.agg (o6 (putK 2 o v))) ∧ Below w.heap.size w w' := by
  have zz := zeroO
  have hB : Hid (Fm w [(w.heap.size, o6 o, 30), (w.heap.size + 1, o6 od0, 30)] ((w.alloc (.cells (o6 o) 30)).alloc (.cells (o6 od0) 30))) := Fm.two w _ _ _ _
  have h0 : (0 : Int) ≤ (v : Int) := by omega
  have h1 : (v : Int) < 65536 := by omega
  have hs : ∀ y, Fm w [(w.heap.size, o6 o, 30), (w.heap.size + 1, o6 od0, 30)] y → Fm w [(w.heap.size, o6 (putK 2 o v), 30), (w.heap.size + 1, o6 od0, 30)] (y.setCell ⟨w.heap.size, 3, none⟩ (.int .u8 ((v : Int) % 256))) := fun y K => K.setCell 0 _ _ _ _ rfl 3 _ (by simp [o6, putK])
  clear hv
  go_enter Tryd.func59, Tryd.ntmps59
  go_wp2_with (first
    | ((with_reducible refine gen_world ((w.alloc (.cells (o6 o) 30)).alloc (.cells (o6 od0) 30)) (Fm w [(w.heap.size, o6 o, 30), (w.heap.size + 1, o6 od0, 30)]) hB.out ?_); intro y K1; have d1 := (K1.out.bx 0 _ _ _ rfl).c 3 (.int .u8 o.n) rfl; have z1 := (K1.out.bx 0 _ _ _ rfl).fz 3)
    | ((with_reducible refine gen_world (y.setCell ⟨w.heap.size, 3, none⟩ (.int .u8 ((v : Int) % 256))) (Fm w [(w.heap.size, o6 (putK 2 o v), 30), (w.heap.size + 1, o6 od0, 30)]) ?_ ?_); exact hs y K1.out; intro y2 K2)
    | ((with_reducible refine at_load rtO w.heap.size (o6 (putK 2 o v)) ?_ ?_ (.tmp 2) ?_ ?_ ?_ ?_); exact K2.out.bx 0 _ _ _ rfl; rfl; rfl; rfl; rfl)
    | ((with_reducible refine at_st rtO (w.heap.size + 1) (o6 od0) (o6 (putK 2 o v)) ?_ ?_ ?_ ?_ (.tmp 4) (.tmp 8) ?_ ?_ ?_ ?_ ?_); exact K2.out.bx 1 _ _ _ rfl; rfl; rfl; exact o6_one _; rfl; rfl; rfl; rfl; intro y3 hw3; have K3 : Hid (Fm w [(w.heap.size, o6 (putK 2 o v), 30), (w.heap.size + 1, o6 (putK 2 o v), 30)] y3) := K2.out.put 1 _ _ _ _ rfl hw3.out))
  refine ret_row rtO rfl rfl (K3.out.bx 1 _ _ _ rfl) rfl rfl ⟨rfl, K3.out.low⟩

theorem of3 (o : Od) (ho : OdR o) (w : World) : Calls Tryd.prog 60 #[.agg (o6 o)] w fun e w' => e = .returned (.int .u16 ((getK 3 o : Nat) : Int)) ∧ Below w.heap.size w w' := by
  have hB : Hid (Fm w [(w.heap.size, o6 o, 30)] (w.alloc (.cells (o6 o) 30))) := Fm.one w _ _
  have h0 : (0 : Int) ≤ (o.b : Int) := by omega
  have h1 : (o.b : Int) < 256 := by have := ho.b; omega
  go_enter Tryd.func60, Tryd.ntmps60
  go_wp2_with ((with_reducible refine gen_world (w.alloc (.cells (o6 o) 30)) (Fm w [(w.heap.size, o6 o, 30)]) hB.out ?_); intro y K1; have d1 := (K1.out.bx 0 _ _ _ rfl).c 4 (.int .u8 o.b) rfl)
  go_ret
  exact ⟨rfl, K1.out.low⟩
theorem with3 (o : Od) (v : Nat) (hv : v < 65536) (w : World) : Calls Tryd.prog 61 #[.agg (o6 o), .int .u16 (v : Int)] w fun e w' => e = .returned (.agg (o6 (putK 3 o v))) ∧ Below w.heap.size w w' := by
  have zz := zeroO
  have hB : Hid (Fm w [(w.heap.size, o6 o, 30), (w.heap.size + 1, o6 od0, 30)] ((w.alloc (.cells (o6 o) 30)).alloc (.cells (o6 od0) 30))) := Fm.two w _ _ _ _
  have h0 : (0 : Int) ≤ (v : Int) := by omega
  have h1 : (v : Int) < 65536 := by omega
  have hs : ∀ y, Fm w [(w.heap.size, o6 o, 30), (w.heap.size + 1, o6 od0, 30)] y → Fm w [(w.heap.size, o6 (putK 3 o v), 30), (w.heap.size + 1, o6 od0, 30)] (y.setCell ⟨w.heap.size, 4, none⟩ (.int .u8 ((v : Int) % 256))) := fun y K => K.setCell 0 _ _ _ _ rfl 4 _ (by simp [o6, putK])
  clear hv
  go_enter Tryd.func61, Tryd.ntmps61
  go_wp2_with (first
    | ((with_reducible refine gen_world ((w.alloc (.cells (o6 o) 30)).alloc (.cells (o6 od0) 30)) (Fm w [(w.heap.size, o6 o, 30), (w.heap.size + 1, o6 od0, 30)]) hB.out ?_); intro y K1; have d1 := (K1.out.bx 0 _ _ _ rfl).c 4 (.int .u8 o.b) rfl; have z1 := (K1.out.bx 0 _ _ _ rfl).fz 4)
    | ((with_reducible refine gen_world (y.setCell ⟨w.heap.size, 4, none⟩ (.int .u8 ((v : Int) % 256))) (Fm w [(w.heap.size, o6 (putK 3 o v), 30), (w.heap.size + 1, o6 od0, 30)]) ?_ ?_); exact hs y K1.out; intro y2 K2)
    | ((with_reducible refine at_load rtO w.heap.size (o6 (putK 3 o v)) ?_ ?_ (.tmp 2) ?_ ?_ ?_ ?_); exact K2.out.bx 0 _ _ _ rfl; rfl; rfl; rfl; rfl)
    | ((with_reducible refine at_st rtO (w.heap.size + 1) (o6 od0) (o6 (putK 3 o v)) ?_ ?_ ?_ ?_ (.tmp 4) (.tmp 8) ?_ ?_ ?_ ?_ ?_); exact K2.out.bx 1 _ _ _ rfl; rfl; rfl; exact o6_one _; rfl; rfl; rfl; rfl; intro y3 hw3; have K3 : Hid (Fm w [(w.heap.size, o6 (putK 3 o v), 30), (w.heap.size + 1, o6 (putK 3 o v), 30)] y3) := K2.out.put 1 _ _ _ _ rfl hw3.out))
  refine ret_row rtO rfl rfl (K3.out.bx 1 _ _ _ rfl) rfl rfl ⟨rfl, K3.out.low⟩

theorem of4 (o : Od) (ho : OdR o) (w : World) : Calls Tryd.prog 62 #[.agg (o6 o)] w fun e w' => e = .returned (.int .u16 ((getK 4 o : Nat) : Int)) ∧ Below w.heap.size w w' := by
  have hB : Hid (Fm w [(w.heap.size, o6 o, 30)] (w.alloc (.cells (o6 o) 30))) := Fm.one w _ _
  have h0 : (0 : Int) ≤ (o.a : Int) := by omega
  have h1 : (o.a : Int) < 65536 := by have := ho.a; omega
  go_enter Tryd.func62, Tryd.ntmps62
  go_wp2_with ((with_reducible refine gen_world (w.alloc (.cells (o6 o) 30)) (Fm w [(w.heap.size, o6 o, 30)]) hB.out ?_); intro y K1; have d1 := (K1.out.bx 0 _ _ _ rfl).c 5 (.int .u16 o.a) rfl)
  go_ret
  exact ⟨rfl, K1.out.low⟩
theorem with4 (o : Od) (v : Nat) (hv : v < 65536) (w : World) : Calls Tryd.prog 63 #[.agg (o6 o), .int .u16 (v : Int)] w fun e w' => e = .returned (.agg (o6 (putK 4 o v))) ∧ Below w.heap.size w w' := by
  have zz := zeroO
  have hB : Hid (Fm w [(w.heap.size, o6 o, 30), (w.heap.size + 1, o6 od0, 30)] ((w.alloc (.cells (o6 o) 30)).alloc (.cells (o6 od0) 30))) := Fm.two w _ _ _ _
  have h0 : (0 : Int) ≤ (v : Int) := by omega
  have h1 : (v : Int) < 65536 := by omega
  have hs : ∀ y, Fm w [(w.heap.size, o6 o, 30), (w.heap.size + 1, o6 od0, 30)] y → Fm w [(w.heap.size, o6 (putK 4 o v), 30), (w.heap.size + 1, o6 od0, 30)] (y.setCell ⟨w.heap.size, 5, none⟩ (.int .u16 (v : Int))) := fun y K => K.setCell 0 _ _ _ _ rfl 5 _ (by simp [o6, putK])
  clear hv h1
  go_enter Tryd.func63, Tryd.ntmps63
  go_wp2_with (first
    | ((with_reducible refine gen_world ((w.alloc (.cells (o6 o) 30)).alloc (.cells (o6 od0) 30)) (Fm w [(w.heap.size, o6 o, 30), (w.heap.size + 1, o6 od0, 30)]) hB.out ?_); intro y K1; have d1 := (K1.out.bx 0 _ _ _ rfl).c 5 (.int .u16 o.a) rfl; have z1 := (K1.out.bx 0 _ _ _ rfl).fz 5)
    | ((with_reducible refine gen_world (y.setCell ⟨w.heap.size, 5, none⟩ (.int .u16 (v : Int))) (Fm w [(w.heap.size, o6 (putK 4 o v), 30), (w.heap.size + 1, o6 od0, 30)]) ?_ ?_); exact hs y K1.out; intro y2 K2)
    | ((with_reducible refine at_load rtO w.heap.size (o6 (putK 4 o v)) ?_ ?_ (.tmp 2) ?_ ?_ ?_ ?_); exact K2.out.bx 0 _ _ _ rfl; rfl; rfl; rfl; rfl)
    | ((with_reducible refine at_st rtO (w.heap.size + 1) (o6 od0) (o6 (putK 4 o v)) ?_ ?_ ?_ ?_ (.tmp 4) (.tmp 7) ?_ ?_ ?_ ?_ ?_); exact K2.out.bx 1 _ _ _ rfl; rfl; rfl; exact o6_one _; rfl; rfl; rfl; rfl; intro y3 hw3; have K3 : Hid (Fm w [(w.heap.size, o6 (putK 4 o v), 30), (w.heap.size + 1, o6 (putK 4 o v), 30)] y3) := K2.out.put 1 _ _ _ _ rfl hw3.out))
  refine ret_row rtO rfl rfl (K3.out.bx 1 _ _ _ rfl) rfl rfl ⟨rfl, K3.out.low⟩

/-- A field's cells, its two functions. -/
def ofF (k : Nat) : Nat := if k = 0 then 54 else if k = 1 then 56 else if k = 2 then 58 else if k = 3 then 60 else 62
def wtF (k : Nat) : Nat := if k = 0 then 55 else if k = 1 then 57 else if k = 2 then 59 else if k = 3 then 61 else 63
def fdC (k : Nat) : List Value := [.string ⟨(ledK k).toArray⟩, .int .i64 (digK k : Nat), .int .i64 (belK k : Nat), .func (.func (ofF k)) #[] #[], .func (.func (wtF k)) #[] #[]]
theorem of_any (k : Nat) (hk : k < 5) (o : Od) (ho : OdR o) (w : World) : Calls Tryd.prog (ofF k) #[.agg (o6 o)] w fun e w' => e = .returned (.int .u16 ((getK k o : Nat) : Int)) ∧ Below w.heap.size w w' :=
  match k, hk with
  | 0, _ => of0 o ho w
  | 1, _ => of1 o ho w
  | 2, _ => of2 o ho w
  | 3, _ => of3 o ho w
  | 4, _ => of4 o ho w
theorem with_any (k : Nat) (hk : k < 5) (o : Od) (v : Nat) (hv : v < 65536) (w : World) : Calls Tryd.prog (wtF k) #[.agg (o6 o), .int .u16 (v : Int)] w fun e w' => e = .returned (.agg (o6 (putK k o v))) ∧ Below w.heap.size w w' :=
  match k, hk with
  | 0, _ => with0 o v hv w
  | 1, _ => with1 o v hv w
  | 2, _ => with2 o v hv w
  | 3, _ => with3 o v hv w
  | 4, _ => with4 o v hv w
theorem ent_of (k : Nat) (hk : k < 5) (args : Array Value) (w : World) : (callFunc (ofF k) args).run Tryd.prog w = .ok (.enter (ofF k) args) w := by
  rcases (show k = 0 ∨ k = 1 ∨ k = 2 ∨ k = 3 ∨ k = 4 by omega) with rfl | rfl | rfl | rfl | rfl <;> kernel_rfl
theorem ent_wt (k : Nat) (hk : k < 5) (args : Array Value) (w : World) : (callFunc (wtF k) args).run Tryd.prog w = .ok (.enter (wtF k) args) w := by
  rcases (show k = 0 ∨ k = 1 ∨ k = 2 ∨ k = 3 ∨ k = 4 by omega) with rfl | rfl | rfl | rfl | rfl <;> kernel_rfl
theorem rtF : Rt Tryd.prog 59 5 := ⟨⟨_, Tryd.underlying59, rfl⟩, by kernel_rfl⟩
theorem mask_any (k : Nat) (hk : k < 5) (w : World) : Calls Tryd.prog 20 #[.agg (fdC k).toArray] w fun e w' => e = .returned (.int .u16 ((mskK k : Nat) : Int)) ∧ Below w.heap.size w w' := by
  match k, hk with
  | 0, _ =>
    have hB : Below w.heap.size w (w.alloc (.cells #[.string ⟨#[118]⟩, .int .i64 1, .int .i64 8, .func (.func 54) #[] #[], .func (.func 55) #[] #[]] 59)) := below1 w _
    change Calls Tryd.prog 20 #[.agg #[.string ⟨#[118]⟩, .int .i64 1, .int .i64 8, .func (.func 54) #[] #[], .func (.func 55) #[] #[]]] w _
    go_enter Tryd.func20, Tryd.ntmps20
    go_wp2
    go_quiet (fail)
    go_wp2
    go_ret
    exact ⟨rfl, below_drewN hB⟩
  | 1, _ =>
    have hB : Below w.heap.size w (w.alloc (.cells #[.string ⟨#[118]⟩, .int .i64 1, .int .i64 4, .func (.func 56) #[] #[], .func (.func 57) #[] #[]] 59)) := below1 w _
    change Calls Tryd.prog 20 #[.agg #[.string ⟨#[118]⟩, .int .i64 1, .int .i64 4, .func (.func 56) #[] #[], .func (.func 57) #[] #[]]] w _
    go_enter Tryd.func20, Tryd.ntmps20
    go_wp2
    go_quiet (fail)
    go_wp2
    go_ret
    exact ⟨rfl, below_drewN hB⟩
  | 2, _ =>
    have hB : Below w.heap.size w (w.alloc (.cells #[.string ⟨#[]⟩, .int .i64 1, .int .i64 0, .func (.func 58) #[] #[], .func (.func 59) #[] #[]] 59)) := below1 w _
    change Calls Tryd.prog 20 #[.agg #[.string ⟨#[]⟩, .int .i64 1, .int .i64 0, .func (.func 58) #[] #[], .func (.func 59) #[] #[]]] w _
    go_enter Tryd.func20, Tryd.ntmps20
    go_wp2
    go_quiet (fail)
    go_wp2
    go_ret
    exact ⟨rfl, below_drewN hB⟩
  | 3, _ =>
    have hB : Below w.heap.size w (w.alloc (.cells #[.string ⟨#[]⟩, .int .i64 2, .int .i64 0, .func (.func 60) #[] #[], .func (.func 61) #[] #[]] 59)) := below1 w _
    change Calls Tryd.prog 20 #[.agg #[.string ⟨#[]⟩, .int .i64 2, .int .i64 0, .func (.func 60) #[] #[], .func (.func 61) #[] #[]]] w _
    go_enter Tryd.func20, Tryd.ntmps20
    go_wp2
    go_quiet (fail)
    go_wp2
    go_ret
    exact ⟨rfl, below_drewN hB⟩
  | 4, _ =>
    have hB : Below w.heap.size w (w.alloc (.cells #[.string ⟨#[]⟩, .int .i64 3, .int .i64 0, .func (.func 62) #[] #[], .func (.func 63) #[] #[]] 59)) := below1 w _
    change Calls Tryd.prog 20 #[.agg #[.string ⟨#[]⟩, .int .i64 3, .int .i64 0, .func (.func 62) #[] #[], .func (.func 63) #[] #[]]] w _
    go_enter Tryd.func20, Tryd.ntmps20
    go_wp2
    go_quiet (fail)
    go_wp2
    go_ret
    exact ⟨rfl, below_drewN hB⟩
end Go.Proofs.YthaijjehplomfaaDoor

namespace Go.Proofs.YthaijjehplomfaaDoor
open Go Go.RowKit
set_option linter.unusedVariables false
set_option maxHeartbeats 400000
set_option maxRecDepth 20000

section
variable {P : Program} {ops : Array Oper} {md : Region.Mode} {Q : Exit → Act → World → Prop}

/-- Each operation waits for earlier ones alone. -/
def upB (md : Region.Mode) (ops : Array Oper) : Bool := (List.range ops.size).all fun i => (ops[i]?.map fun o => o.after.all fun e => !Region.binds md e || decide (e.on < i)).getD false
theorem all_done (hu : upB md ops = true) {s : Array Bool} (hs : s.size = ops.size) (hr : Region.ready md ops s = []) : ∀ i, i < ops.size → s.getD i false = true := by
  intro i
  induction i using Nat.strongRecOn with
  | _ i ih =>
    intro hi
    have h1 := List.all_eq_true.1 hu i (List.mem_range.2 hi)
    rw [Array.getElem?_eq_getElem hi] at h1
    simp only [Option.map_some, Option.getD_some] at h1
    have hsi : i < s.size := by omega
    rcases hb : s[i] with _ | _
    · exfalso
      have hm : i ∈ Region.ready md ops s := by
        unfold Region.ready
        rw [List.mem_filter]
        refine ⟨List.mem_range.2 hi, ?_⟩
        rw [Array.getElem?_eq_getElem hi]
        simp only [Option.map_some, Option.getD_some, Bool.and_eq_true]
        refine ⟨by simp [Array.getD, hsi, hb], ?_⟩
        rw [Array.all_eq_true] at h1 ⊢
        intro j hj
        have h2 := h1 j hj
        rw [Bool.or_eq_true] at h2 ⊢
        rcases h2 with h2 | h2
        · exact .inl h2
        · have h3 : ops[i].after[j].on < i := of_decide_eq_true h2
          exact .inr (ih _ h3 (by omega))
      rw [hr] at hm
      cases hm
    · simp [Array.getD, hsi, hb]
theorem wpAny_inv (I : Array Bool → Act → World → Prop) (hu : upB md ops = true) (hs : ∀ s a w, I s a w → s.size = ops.size)
    (step : ∀ s a w i o, I s a w → ops[i]? = some o → (∀ e ∈ o.after, Region.binds md e = true → s.getD e.on false = true) → wpOp P ops Q i (I (s.setIfInBounds i true)) a w)
    (fin : ∀ s a w, I s a w → (∀ i, i < ops.size → s.getD i false = true) → Q .normal a w) :
    ∀ (fuel : Nat) (s : Array Bool) (a : Act) (w : World), I s a w → s.toList.countP (! ·) ≤ fuel → wpAny P md ops Q fuel s a w := by
  intro fuel
  induction fuel with
  | zero =>
    intro s a w hI hc
    have hall : ∀ i, i < ops.size → s.getD i false = true := fun i hi => by
      have hsi : i < s.size := by rw [hs s a w hI]; exact hi
      rcases hb : s[i] with _ | _
      · have : 0 < s.toList.countP (! ·) := List.countP_pos_iff.2 ⟨s[i], by simp, by rw [hb]; rfl⟩
        omega
      · simp [Array.getD, hsi, hb]
    refine ⟨?_, fin s a w hI hall⟩
    rcases hr : Region.ready md ops s with _ | ⟨i, r⟩
    · rfl
    · have hm : i ∈ Region.ready md ops s := by rw [hr]; simp
      obtain ⟨h1, o, h2, _⟩ := mem_ready.1 hm
      have hi : i < ops.size := (Array.getElem?_eq_some_iff.1 h2).1
      have hsi : i < s.size := by rw [hs s a w hI]; exact hi
      have := hall i hi
      simp only [Array.getD, hsi, dif_pos] at this h1
      rw [this] at h1
      cases h1
  | succ fuel ih =>
    intro s a w hI hc
    refine ⟨fun hr => fin s a w hI (all_done hu (hs s a w hI) hr), fun i hm => ?_⟩
    obtain ⟨h1, o, h2, h3⟩ := mem_ready.1 hm
    have hi : i < ops.size := (Array.getElem?_eq_some_iff.1 h2).1
    have hsi : i < s.size := by rw [hs s a w hI]; exact hi
    have hb : s[i] = false := by simpa [Array.getD, hsi] using h1
    refine wpOp_mono (fun a' w' h' => ih _ a' w' h' ?_) (step s a w i o hI h2 fun e he hbd => h3 e he hbd)
    rw [Array.toList_setIfInBounds, List.countP_set (by simpa using hsi)]
    have hpos : 0 < s.toList.countP (! ·) := List.countP_pos_iff.2 ⟨s[i], by simp, by rw [hb]; rfl⟩
    have e1 : (!(s.toList[i]'(by simpa using hsi))) = true := by rw [Array.getElem_toList, hb]; rfl
    simp only [e1, if_true]
    rw [if_neg (by decide)]
    omega
theorem region_inv {id : Nat} {a : Act} {w : World} (I : Array Bool → Act → World → Prop) (hm : P.follows .mixedOrders = true) (hu : upB .any ops = true) (hs : ∀ s a w, I s a w → s.size = ops.size)
    (start : I (Array.replicate ops.size false) a w.drew)
    (step : ∀ s a w i o, I s a w → ops[i]? = some o → (∀ e ∈ o.after, Region.binds .any e = true → s.getD e.on false = true) → wpOp P ops Q i (I (s.setIfInBounds i true)) a w)
    (fin : ∀ s a w, I s a w → (∀ i, i < ops.size → s.getD i false = true) → Q .normal a w) : (Code.region id ops true).wp P Q a w :=
  wp_region_any hm (wpAny_inv I hu hs step fin ops.size _ a _ start (by rw [Array.toList_replicate]; exact Nat.le_trans List.countP_le_length (by simp)))
theorem wpOp_of {i : Nat} {o : Oper} {K : Act → World → Prop} {a : Act} {w : World} (ho : ops[i]? = some o) (hw : Region.wanted o (yielded ops a.tmps) = true) (h : o.wp P a w K Q) : wpOp P ops Q i K a w := by
  unfold wpOp
  rw [ho]
  simp only [hw, if_true]
  exact .inl h
theorem wp_ld {t : TypeId} {n : Nat} {o : Oper} {K : Act → World → Prop} {a : Act} {w : World} (R : Rt P t n) (b : Nat) (cs : Array Value) (h : Bx w b cs t) (hs : cs.size = n) (x : Operand) (ho : o.op = .load t x) (hx : a.eval x = .pointer (some ⟨b, 0, none⟩))
    (k : K (a.put o.dst (.agg cs)) w) : o.wp P a w K Q := by
  obtain ⟨d, hu, hd⟩ := R.u
  exact wp_load_row t x ho b hx t cs (0, 0) d h hu (by cases d <;> first | rfl | exact hd) (by rw [hs]; exact R.i) k
theorem wp_as {o : Oper} {K : Act → World → Prop} {a : Act} {w : World} (x : Operand) (v : Value) (ho : o.op = .assign x) (hx : a.eval x = v) (k : K (a.put o.dst v) w) : o.wp P a w K Q := by
  unfold Oper.wp execOp
  simp only [ho, hx, Sem.run_pure]
  exact k
theorem getD_set (s : Array Bool) (i j : Nat) (hi : i < s.size) : (s.setIfInBounds i true).getD j false = if j = i then true else s.getD j false := by
  rw [Array.getD_eq_getD_getElem?, Array.getD_eq_getD_getElem?, Array.getElem?_setIfInBounds]
  by_cases h : i = j
  · subst h
    simp [hi]
  · rw [if_neg h, if_neg (fun e => h e.symm)]
end
end Go.Proofs.YthaijjehplomfaaDoor
