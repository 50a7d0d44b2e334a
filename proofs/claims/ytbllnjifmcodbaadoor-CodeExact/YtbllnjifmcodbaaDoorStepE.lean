/- The law's own step: Decode. -/
import Derived.Test.YtbllnjifmcodbaaDoorStepA
namespace Go.Proofs.YtbllnjifmcodbaaDoor
open Go.RowKit
set_option linter.unusedVariables false
set_option maxHeartbeats 2000000
set_option maxRecDepth 20000

theorem LentAt.below {x y : World} {g len : Nat} {Z : List Value} (h : LentAt x g len Z) (hb : Below x.heap.size x y) : LentAt y g len Z := by
  obtain ⟨cur, h1, h2⟩ := h
  exact ⟨cur, (hb.block g (Array.getElem?_eq_some_iff.1 h1).1).trans h1, h2⟩
/-- The bytes that came in lie where they lay. -/
def Lies (x : World) (sp : Option Addr) (len : Nat) (Y : Nat → Int) : Prop := ∀ j, j < len → ∃ gb ob, sp = some ⟨gb, ob, none⟩ ∧ x.cell? ⟨gb, ob + j, none⟩ = some (.int .u8 (Y j))
theorem Lies.below {x y : World} {sp : Option Addr} {len : Nat} {Y : Nat → Int} (h : Lies x sp len Y) (hb : Below x.heap.size x y) : Lies y sp len Y := fun j hj => by
  obtain ⟨gb, ob, h1, h2⟩ := h j hj
  exact ⟨gb, ob, h1, keepAt0 hb h2⟩
def rowZ (len : Nat) (Y : Nat → Int) : List Value := (List.range len).map fun j => .int .u8 (Y j)
theorem rowZ_at (len : Nat) (Y : Nat → Int) : ∀ j, j < len → (rowZ len Y)[j]? = some (.int .u8 (Y j)) := fun j hj => by unfold rowZ; simp [hj]
theorem rowZ_of {x : World} {sp : Option Addr} {len : Nat} {Y : Nat → Int} (h : Lies x sp len Y) : 0 < len → ∃ ad, sp = some ad ∧ ∀ j v, (rowZ len Y)[j]? = some v → x.cell? (ad.add j) = some v := fun hp => by
  obtain ⟨gb, ob, h1, _⟩ := h 0 hp
  refine ⟨⟨gb, ob, none⟩, h1, fun j v hv => ?_⟩
  have hj : j < len := by
    rcases Nat.lt_or_ge j len with h | h
    · exact h
    · rw [List.getElem?_eq_none (by unfold rowZ; simpa using h)] at hv; cases hv
  rw [rowZ_at len Y j hj] at hv
  obtain ⟨gb', ob', h2, h3⟩ := h j hj
  rw [h1] at h2
  simp at h2
  obtain ⟨rfl, rfl⟩ := h2
  rw [show (⟨gb, ob, none⟩ : Addr).add j = ⟨gb, ob + j, none⟩ from by unfold Addr.add; split <;> simp_all, h3]
  exact hv

theorem step_dec (w : World) (kb : Nat) (n : Nat) (ag : Bool) (S : ByteArray) (A : Int) (L : ByteArray) (sp : Option Addr) (len cap : Nat) (hlen : len ≤ 2147483647) (Y : Nat → Int) (hY : Hid (Lies w sp len Y)) (X : ByteArray) (a m er : Int)
    (cA : ∀ v g, Below w.heap.size w v → LentAt v g len (rowZ len Y) → Calls Tryd.prog 11 #[.slice (some ⟨g, 0, none⟩) len (len + 9)] v fun e v' => e = .returned (.tuple #[.agg #[.string X, .int .i64 a], .int .i64 m, .int .i64 er]) ∧ Below v.heap.size v v')
    (cB : ∀ v, Below w.heap.size w v → Calls Tryd.prog 30 #[.slice sp len cap] v fun e v' => e = .returned (.tuple #[.agg #[.string X, .int .i64 a], .int .i64 m, .int .i64 er]) ∧ Below v.heap.size v v') :
    Calls Tryd.prog 13 #[.pointer (some ⟨kb, 0, none⟩), opV 5 n ag S A L sp len cap] w fun e w' => e = .returned (.bool true) ∧ Below w.heap.size w w' := by
  have HB : Below w.heap.size w (w.alloc (opC 5 n ag S A L sp len cap)) := (Below.refl _ _).alloc (Nat.le_refl _) _
  have hl := lent_any (w.alloc (opC 5 n ag S A L sp len cap)) sp len cap hlen (rowZ len Y) (by unfold rowZ; simp) (rowZ_of (hY.out.below HB)) (fun u hu => by unfold rowZ at hu; simp at hu; obtain ⟨j, _, rfl⟩ := hu; rfl : ∀ u ∈ rowZ len Y, u.oneCell' = true)
  unfold opV
  go_enter Tryd.func13, Tryd.ntmps13
  go_wp2_with (first
    | (go_at_call 29; refine hl.mono ?_; rintro e v1 ⟨g, hg, rfl, hL, P1⟩; have c6 : v1.cell? ⟨w.heap.size, 6, none⟩ = some (.slice sp len cap) := own_cell P1 6; replace P1 := below_own P1; have hL1 : Hid (LentAt v1 g len (rowZ len Y)) := hL; have hd := cA v1 g P1 hL; clear hL hg)
    | (go_at_call 11; refine hd.mono ?_; rintro e v2 ⟨rfl, P2⟩; have e6 : ∀ o, (v2.alloc o).cell? ⟨w.heap.size, 6, none⟩ = some (.slice sp len cap) := (fun o => keepAt0 (P2.trans ((Below.refl _ _).alloc P2.size _)) c6); have hL2 : Hid (LentAt v2 g len (rowZ len Y)) := hL1.out.below P2; replace P2 := P1.trans (P2.mono P1.size); have hr := cB _ (P2.alloc P2.size (.cells #[.string X, .int .i64 a] 33)); have B2 := P2.alloc P2.size (.cells #[.string X, .int .i64 a] 33))
    | (go_at_call 30; refine hr.mono ?_; rintro e v3 ⟨rfl, P3⟩
       have d0 : ∀ o, (v3.alloc o).cell? ⟨v2.heap.size, 0, none⟩ = some (.string X) := (fun o => keepAt0 ((Below.refl _ _).alloc (Nat.le_refl _) _) (own_cell P3 0))
       have d1 : ∀ o, (v3.alloc o).cell? ⟨v2.heap.size, 1, none⟩ = some (.int .i64 a) := (fun o => keepAt0 ((Below.refl _ _).alloc (Nat.le_refl _) _) (own_cell P3 1))
       have d6 : ∀ o, (v3.alloc o).cell? ⟨w.heap.size, 6, none⟩ = some (.slice sp len cap) := (fun o => keepAt0 (P3.trans ((Below.refl _ _).alloc P3.size _)) (e6 _))
       have hL3 := fun o => (hL2.out.below (below_own P3)).below ((Below.refl v3.heap.size v3).alloc (Nat.le_refl _) o)
       have B3 : Below w.heap.size w v3 := B2.trans (P3.mono B2.size)
       have hk := fun o => back_any (v3.alloc o) g sp len cap hlen Y (rowZ len Y) (rowZ_at len Y) (hL3 o) (hY.out.below (B3.alloc B3.size o))
       clear hL3)
    | (go_at_call 31; refine (hk _).mono ?_; rintro e v4 ⟨rfl, q, rfl⟩))
  go_ret
  exact ⟨by first | rfl | simp, below_drewN (B3.alloc B3.size _)⟩
end Go.Proofs.YtbllnjifmcodbaaDoor
