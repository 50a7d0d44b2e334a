/- The law's own act, kind by kind. -/
import Derived.Test.YthjpghnmnbhaiaaBox
namespace Go.Proofs.Ythjpghnmnbhaiaa
open Go Go.RowKit
set_option linter.unusedVariables false
set_option maxHeartbeats 1000000
set_option maxRecDepth 20000

def actA (k : Int) (ot : Bool) (p : Int) (a : Nat) (b : Int) (on : Bool) (sp : Option Addr) (len cap : Nat) : Array Value := #[.int .i64 k, .bool ot, .int .i64 p, .int .u16 (a : Int), .int .u8 b, .bool on, .slice sp len cap]
/-- What an act leaves. -/
def ActOk (w x : World) (g r m f : Nat) (e : Ending) (y : World) : Prop := e = .returned (.bool true) ∧ ∃ S, Goes w x g r m f S S y
theorem ActOk.of {w x y : World} {C : Array Value} {g r m f : Nat} {S : St} (h : Bx w x C g r m f S S y) : ActOk w x g r m f (.returned (.bool true)) y := ⟨rfl, S, h.two, h.upd⟩

section
variable (w x : World) (g r m f : Nat) (S : St) (ot : Bool) (p : Int) (a : Nat) (b : Int) (on : Bool) (sp : Option Addr) (len cap : Nat) (Y : Nat → Int)

theorem act_1 (h : Two w x g r m f S S) (ok : ActD.ok w ⟨1, ot, p, a, b, on, sp, len, cap, Y⟩) (hl : len ≤ 2147483647) :
    Calls Try.prog 16 #[.pointer (some ⟨g, 0, none⟩), .pointer (some ⟨r, 0, none⟩), .agg (actA 1 ot p a b on sp len cap)] x fun e y => ActOk w x g r m f e y := by
  have K : Hid (Bx w x (actA 1 ot p a b on sp len cap) g r m f S S (x.alloc (.cells (actA 1 ot p a b on sp len cap) 39))) := Bx.start h
  have hok : Hid (ActD.ok w ⟨1, ot, p, a, b, on, sp, len, cap, Y⟩) := ok
  have hR : Hid (Row w sp len Y) := ok.row
  have hl' : Hid (len ≤ 2147483647) := hl
  clear h ok hl
  unfold actA at K ⊢
  go_enter Try.func16, Try.ntmps16
  go_wp2_with (first
    | (go_at_call 10; refine (b_lent w x _ g r m f S S _ sp len cap hl'.out Y hR K).mono ?_; rintro e y1 ⟨bb, rfl, K1⟩; have d2 : y1.cell? ⟨x.heap.size, 2, none⟩ = some (.int .i64 p) := K1.out.2.2.box 2 _ rfl)
    | (go_at_call 25; refine (b_lay w x _ g r m f S S _ p hok.out.at1 hok.out.at2 len hok.out.len Y hR.out.ok bb K1).mono ?_; rintro e y2 ⟨rfl, K2⟩; have d6 : y2.cell? ⟨x.heap.size, 6, none⟩ = some (.slice sp len cap) := K2.out.2.2.box 6 _ rfl)
    | (go_at_call 13; refine (b_back w x _ g r m f _ S _ sp len cap hl'.out Y hR bb K2).mono ?_; rintro e y3 ⟨rfl, K3⟩; have d2' : y3.cell? ⟨x.heap.size, 2, none⟩ = some (.int .i64 p) := K3.out.box 2 _ rfl; have d6' : y3.cell? ⟨x.heap.size, 6, none⟩ = some (.slice sp len cap) := K3.out.box 6 _ rfl)
    | (go_at_call 26; refine (b_rlay w x _ g r m f _ S _ p hok.out.at1 hok.out.at2 sp len cap hok.out.len Y hR K3).mono ?_; rintro e y4 ⟨rfl, K4⟩))
  go_ret
  have e : (layE S.n p len == layE S.n p len) = true := by simp
  first | exact ActOk.of K4.out | (simp; exact ActOk.of K4.out)

theorem act_3 (h : Two w x g r m f S S) (ok : ActD.ok w ⟨3, ot, p, a, b, on, sp, len, cap, Y⟩) :
    Calls Try.prog 16 #[.pointer (some ⟨g, 0, none⟩), .pointer (some ⟨r, 0, none⟩), .agg (actA 3 ot p a b on sp len cap)] x fun e y => ActOk w x g r m f e y := by
  have K : Hid (Bx w x (actA 3 ot p a b on sp len cap) g r m f S S (x.alloc (.cells (actA 3 ot p a b on sp len cap) 39))) := Bx.start h
  have hok : Hid (ActD.ok w ⟨3, ot, p, a, b, on, sp, len, cap, Y⟩) := ok
  clear h ok
  unfold actA at K ⊢
  go_enter Try.func16, Try.ntmps16
  go_wp2_with (first
    | (go_at_call 31; refine (b_write w x _ g r m f S S _ K a hok.out.a b hok.out.b).mono ?_; rintro e y1 ⟨⟨v, rfl⟩, K1⟩; have d3 : y1.cell? ⟨x.heap.size, 3, none⟩ = some (.int .u16 (a : Int)) := K1.out.box 3 _ rfl; have d4 : y1.cell? ⟨x.heap.size, 4, none⟩ = some (.int .u8 b) := K1.out.box 4 _ rfl)
    | (go_at_call 35; refine (b_rwrite w x _ g r m f _ S _ K1 a hok.out.a b hok.out.b).mono ?_; rintro e y2 ⟨⟨v2, rfl⟩, K2⟩; have d3' : y2.cell? ⟨x.heap.size, 3, none⟩ = some (.int .u16 (a : Int)) := K2.out.box 3 _ rfl))
  have R1 := fun n => read_any (y2.drewN n) g _ K2.out.two.okS K2.out.two.sto.drewN a hok.out.a
  have R2 := fun n => rread_any (y2.drewN n) r m f _ K2.out.two.drewN.ref a hok.out.a
  obtain ⟨vv, hvv⟩ : ∃ vv, (S.write a b).read a = vv := ⟨_, rfl⟩
  rw [hvv] at R1 R2
  have F : Hid (∀ n, ActOk w x g r m f (.returned (.bool true)) (y2.drewN n)) := fun n => ActOk.of (K2.out.below (below_drewN (Below.refl _ _)))
  clear hvv K K1 K2
  go_quiet ((first | (go_at_call 29; exact quiet1D (R1 _)) | (go_at_call 30; exact quiet1S (R2 _))))
  go_wp2
  go_ret
  first | exact F.out _ | (simp; exact F.out _)
end
end Go.Proofs.Ythjpghnmnbhaiaa
