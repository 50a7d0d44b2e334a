/- The law's own step, kind by kind. -/
import Derived.Test.YtbllnjifmcodbaaDoorKeepN
import Derived.Test.YtbllnjifmcodbaaDoorLentB
import Derived.Test.YtbllnjifmcodbaaDoorRefJ
import Derived.Deep.RegionWith
import Derived.Deep.RegionHeld3
import Derived.Deep.DrawnRows
namespace Go.Proofs.YtbllnjifmcodbaaDoor
open Go.RowKit
set_option linter.unusedVariables false
set_option maxHeartbeats 2000000
set_option maxRecDepth 20000

theorem carry {P : Program} {f : FuncId} {args : Array Value} {r : Ending} {x : World} (h : ∀ v, Below x.heap.size x v → Calls P f args v fun e v' => e = r ∧ Below v.heap.size v v') (v : World) (hv : Below x.heap.size x v) :
    Calls P f args v fun e v' => e = r ∧ Below x.heap.size x v' := (h v hv).mono fun _ _ ⟨he, hb⟩ => ⟨he, hv.trans (hb.mono hv.size)⟩

theorem below_drew {B : Nat} {a w : World} (h : Below B a w) : Below B a w.drew := ⟨h.os, h.tape, h.output, h.size, h.block⟩
def opV (k : Int) (n : Nat) (ag : Bool) (S : ByteArray) (A : Int) (L : ByteArray) (sp : Option Addr) (len cap : Nat) : Value := .agg #[.int .i64 k, .int .u8 n, .bool ag, .string S, .int .i64 A, .string L, .slice sp len cap]
abbrev opC (k : Int) (n : Nat) (ag : Bool) (S : ByteArray) (A : Int) (L : ByteArray) (sp : Option Addr) (len cap : Nat) : Obj := .cells #[.int .i64 k, .int .u8 n, .bool ag, .string S, .int .i64 A, .string L, .slice sp len cap] 47

theorem step_none (w : World) (kb : Nat) (k : Int) (n : Nat) (ag : Bool) (S : ByteArray) (A : Int) (L : ByteArray) (sp : Option Addr) (len cap : Nat) (h1 : k ≠ 1) (h2 : k ≠ 2) (h3 : k ≠ 3) (h4 : k ≠ 4) (h5 : k ≠ 5) (h6 : k ≠ 6) (h7 : k ≠ 7) :
    Calls Tryd.prog 13 #[.pointer (some ⟨kb, 0, none⟩), opV k n ag S A L sp len cap] w fun e w' => e = .returned (.bool true) ∧ Below w.heap.size w w' := by
  have b1 : (k == 1) = false := by simpa using h1
  have b2 : (k == 2) = false := by simpa using h2
  have b3 : (k == 3) = false := by simpa using h3
  have b4 : (k == 4) = false := by simpa using h4
  have b5 : (k == 5) = false := by simpa using h5
  have b6 : (k == 6) = false := by simpa using h6
  have b7 : (k == 7) = false := by simpa using h7
  clear h1 h2 h3 h4 h5 h6 h7
  have HB : Below w.heap.size w (w.alloc (opC k n ag S A L sp len cap)) := (Below.refl _ _).alloc (Nat.le_refl _) _
  unfold opV
  go_enter Tryd.func13, Tryd.ntmps13
  go_wp2
  go_ret
  exact ⟨rfl, HB⟩

theorem step_info (w : World) (T : Tabs w) (kb : Nat) (n : Nat) (hn : n < 256) (ag : Bool) (S : ByteArray) (A : Int) (L : ByteArray) (sp : Option Addr) (len cap : Nat) :
    Calls Tryd.prog 13 #[.pointer (some ⟨kb, 0, none⟩), opV 1 n ag S A L sp len cap] w fun e w' => e = .returned (.bool true) ∧ Below w.heap.size w w' := by
  have HB : Below w.heap.size w (w.alloc (opC 1 n ag S A L sp len cap)) := (Below.refl _ _).alloc (Nat.le_refl _) _
  have T' := T.below HB
  have cA := carry (x := w.alloc (opC 1 n ag S A L sp len cap)) (fun v hv => info_any n v (T'.below hv) hn)
  have cB := carry (x := w.alloc (opC 1 n ag S A L sp len cap)) (fun v hv => rinfo_any n v hn)
  unfold infoV at cA cB
  obtain ⟨X, hX⟩ : ∃ X, nm n = X := ⟨_, rfl⟩
  obtain ⟨F, hF⟩ : ∃ X, fm n = X := ⟨_, rfl⟩
  rw [hX, hF] at cA cB
  obtain ⟨F', hF'⟩ : ∃ X, lay (F * 3) = X := ⟨_, rfl⟩
  obtain ⟨c, hc⟩ : ∃ X, cyc n = X := ⟨_, rfl⟩
  rw [hF', hc] at cA cB
  have P0 : Below (w.alloc (opC 1 n ag S A L sp len cap)).heap.size (w.alloc (opC 1 n ag S A L sp len cap)) (w.alloc (opC 1 n ag S A L sp len cap)) := Below.refl _ _
  clear hX hF hF' hc T T' hn
  unfold opV
  go_enter Tryd.func13, Tryd.ntmps13
  go_wp2
  go_region_held3 (fun w' => w'.cell? ⟨w.heap.size, 1, none⟩ = some (.int .u8 n)) (first | go_keep | exact c1)
   (first
    | (go_at_call 8; refine (cA _ (by first | exact P1 | exact P0 | exact below_drew P1 | exact below_drew P0)).mono ?_; rintro e v1 ⟨rfl, P1⟩; have c1 : v1.cell? ⟨w.heap.size, 1, none⟩ = some (.int .u8 n) := own_cell P1 1)
    | (go_at_call 24; refine (cB _ (by first | exact P1 | exact P0 | exact below_drew P1 | exact below_drew P0)).mono ?_; rintro e v1 ⟨rfl, P1⟩; have c1 : v1.cell? ⟨w.heap.size, 1, none⟩ = some (.int .u8 n) := own_cell P1 1))
  go_wp2
  go_ret
  exact ⟨by first | rfl | simp, below_own P1⟩

theorem busV_form (n : Nat) (b : Bool) : ∃ (a : Int) (r s t : Bool) (p : Int), busV n b = .agg #[.int .u8 a, .bool r, .bool s, .bool t, .int .u8 p] := by
  unfold busV
  split
  · exact ⟨_, _, _, _, _, rfl⟩
  · exact ⟨_, _, _, _, _, rfl⟩
theorem step_bus (w : World) (T : Tabs w) (U : TabsU w) (kb : Nat) (n : Nat) (hn : n < 256) (ag : Bool) (S : ByteArray) (A : Int) (L : ByteArray) (sp : Option Addr) (len cap : Nat) :
    Calls Tryd.prog 13 #[.pointer (some ⟨kb, 0, none⟩), opV 3 n ag S A L sp len cap] w fun e w' => e = .returned (.bool true) ∧ Below w.heap.size w w' := by
  have HB : Below w.heap.size w (w.alloc (opC 3 n ag S A L sp len cap)) := (Below.refl _ _).alloc (Nat.le_refl _) _
  have T' := T.below HB
  have U' := U.below HB
  have cA := carry (x := w.alloc (opC 3 n ag S A L sp len cap)) (fun v hv => bus_any n ag v (T'.below hv) (U'.below hv) hn)
  have cB := carry (x := w.alloc (opC 3 n ag S A L sp len cap)) (fun v hv => rbus_any n ag v hn)
  obtain ⟨x1, x2, x3, x4, x5, hx⟩ := busV_form n ag
  rw [hx] at cA cB
  have P0 : Below (w.alloc (opC 3 n ag S A L sp len cap)).heap.size (w.alloc (opC 3 n ag S A L sp len cap)) (w.alloc (opC 3 n ag S A L sp len cap)) := Below.refl _ _
  clear hx T T' U U' hn
  unfold opV
  go_enter Tryd.func13, Tryd.ntmps13
  go_wp2
  go_region_held3 (fun w' => w'.cell? ⟨w.heap.size, 1, none⟩ = some (.int .u8 n) ∧ w'.cell? ⟨w.heap.size, 2, none⟩ = some (.bool ag)) (first | go_keep | exact ⟨c1, c2⟩)
   (first
    | (go_at_call 9; refine (cA _ (by first | exact P1 | exact P0 | exact below_drew P1 | exact below_drew P0)).mono ?_; rintro e v1 ⟨rfl, P1⟩; have c1 : v1.cell? ⟨w.heap.size, 1, none⟩ = some (.int .u8 n) := own_cell P1 1; have c2 : v1.cell? ⟨w.heap.size, 2, none⟩ = some (.bool ag) := own_cell P1 2)
    | (go_at_call 26; refine (cB _ (by first | exact P1 | exact P0 | exact below_drew P1 | exact below_drew P0)).mono ?_; rintro e v1 ⟨rfl, P1⟩; have c1 : v1.cell? ⟨w.heap.size, 1, none⟩ = some (.int .u8 n) := own_cell P1 1; have c2 : v1.cell? ⟨w.heap.size, 2, none⟩ = some (.bool ag) := own_cell P1 2))
  go_wp2
  go_ret
  exact ⟨by first | rfl | simp, below_own P1⟩
end Go.Proofs.YtbllnjifmcodbaaDoor
