/- A cycle's conditions. -/
import Derived.Test.YtbeeefekndcgnaaGreatDoorCy
import Derived.Test.YtbeeefekndcgnaaGreatDoorPl
import Derived.Test.YtbeeefekndcgnaaGreatDoorYa
namespace Go.Proofs.YtbeeefekndcgnaaGreatDoor
open Go Go.RowKit
set_option linter.unusedVariables false
set_option maxHeartbeats 1000000
set_option maxRecDepth 20000

theorem and7 (n : Nat) (h : n < 256) : bits .and .u8 (n : Int) 7 = ((n % 8 : Nat) : Int) := by
  have : ∀ n : Nat, n < 256 → bits .and .u8 (n : Int) 7 = ((n % 8 : Nat) : Int) := by decide +kernel
  exact this n h
theorem and8 (n : Nat) (h : n < 256) : bits .and .u8 (n : Int) 8 = ((if 8 ≤ n % 16 then 8 else 0 : Nat) : Int) := by
  have : ∀ n : Nat, n < 256 → bits .and .u8 (n : Int) 8 = ((if 8 ≤ n % 16 then 8 else 0 : Nat) : Int) := by decide +kernel
  exact this n h
theorem fm_eq (n : Nat) (h : n < 256) : ((fm n : Nat) : Int) = rfmI n := by
  have : ∀ n : Nat, n < 256 → ((fm n : Nat) : Int) = rfmI n := by decide +kernel
  exact this n h
theorem yholds (w : World) (c : Cp) (p : Pn) (k : Nat) (hk : k < 8) : Calls Tryz.prog 92 #[.agg (cyC c p), .int .u8 (k : Int)] w fun e w' => e = .returned (.bool (holdsM c p k)) ∧ Below w.heap.size w w' := by
  have c1 : (cyC c p)[22]? = some (.bool c.Q) := rfl
  have c2 : (cyC c p)[16]? = some (.int .u8 c.D) := rfl
  have c3 : (cyC c p)[17]? = some (.bool c.DF) := rfl
  have p0 : (cyC c p)[28]? = some (.bool (p.EF 0)) := rfl
  have p1 : (cyC c p)[29]? = some (.bool (p.EF 1)) := rfl
  have p2 : (cyC c p)[30]? = some (.bool (p.EF 2)) := rfl
  have p3 : (cyC c p)[31]? = some (.bool (p.EF 3)) := rfl
  have hB : Hid (Below w.heap.size w (w.alloc (.cells (cyC c p) 52))) := below1 _ _
  have ix : ∀ (j : Nat), j < 4 → ∀ v, (Instr.indexAt 36 (.pointer (some ⟨w.heap.size, 28, none⟩)) (.int .u8 (j : Int))).run Tryz.prog v = .ok (.pointer (some ⟨w.heap.size, 28 + j, none⟩)) v := fun j hj v => by
    have := idx (g := w.heap.size) (off := 28) (N := 4) Tryz.underlying36 infoE .u8 j v hj
    simp only [Nat.mul_one] at this
    exact this
  have i0 := ix 0 (by decide)
  have i1 := ix 1 (by decide)
  have i2 := ix 2 (by decide)
  have i3 := ix 3 (by decide)
  clear ix
  rcases (show k = 0 ∨ k = 1 ∨ k = 2 ∨ k = 3 ∨ k = 4 ∨ k = 5 ∨ k = 6 ∨ k = 7 by omega) with rfl | rfl | rfl | rfl | rfl | rfl | rfl | rfl
  all_goals
    go_enter Tryz.func92, Tryz.ntmps92
    go_wp2
    go_ret
    exact ⟨by first | rfl | simp [holdsM], hB.out⟩

theorem ybranches1 (w : World) (c : Cp) (hc : c.wf) (p : Pn) (hp : p.wf) (h8 : 8 ≤ c.Op % 16) : Calls Tryz.prog 82 #[.agg (cyC c p)] w fun e w' => e = .returned (.bool (!holdsM c p (c.Op % 8))) ∧ Below w.heap.size w w' := by
  obtain ⟨k, hk⟩ : ∃ k, c.Op % 8 = k := ⟨_, rfl⟩
  have hH := fun v => yholds v c p k (by omega)
  have h7 : bits .and .u8 (c.Op : Int) 7 = (k : Int) := by rw [and7 c.Op hc.Op, hk]
  rw [hk]
  obtain ⟨H, hHe⟩ : ∃ H, holdsM c p k = H := ⟨_, rfl⟩
  rw [hHe] at hH ⊢
  have e8 : bits .and .u8 (c.Op : Int) 8 = 8 := by rw [and8 c.Op hc.Op, if_pos h8]; rfl
  have hY : Hid (BoxY (w.alloc (.cells (cyC c p) 52)) w.heap.size c p) := BoxY.new w c p
  have hB : Hid (Below w.heap.size w (w.alloc (.cells (cyC c p) 52))) := below1 _ _
  clear hc hp hk h8 hHe
  go_enter Tryz.func82, Tryz.ntmps82
  go_wp2_with (first
    | (refine gen_world (w.alloc (.cells (cyC c p) 52)) (fun y => BoxY y w.heap.size c p ∧ Below w.heap.size w y) ⟨hY.out, hB.out⟩ ?_; intro y K; have d1 := K.out.1.fOp)
    | (go_at_call 92; refine (hH _).mono ?_; rintro e v1 ⟨rfl, hb1⟩; replace K : Hid (BoxY v1 w.heap.size c p ∧ Below w.heap.size w v1) := ⟨K.out.1.below hb1, K.out.2.trans (hb1.mono K.out.2.size)⟩; have d2 := K.out.1.fOp)
    | (refine at_loadY w.heap.size c p K.out.1 _ rfl rfl rfl ?_))
  go_ret
  exact ⟨by first | rfl | simp, K.out.2⟩

theorem ybranches0 (w : World) (c : Cp) (hc : c.wf) (p : Pn) (hp : p.wf) (h8 : ¬ 8 ≤ c.Op % 16) : Calls Tryz.prog 82 #[.agg (cyC c p)] w fun e w' => e = .returned (.bool (holdsM c p (c.Op % 8))) ∧ Below w.heap.size w w' := by
  obtain ⟨k, hk⟩ : ∃ k, c.Op % 8 = k := ⟨_, rfl⟩
  have hH := fun v => yholds v c p k (by omega)
  have h7 : bits .and .u8 (c.Op : Int) 7 = (k : Int) := by rw [and7 c.Op hc.Op, hk]
  rw [hk]
  obtain ⟨H, hHe⟩ : ∃ H, holdsM c p k = H := ⟨_, rfl⟩
  rw [hHe] at hH ⊢
  have e8 : bits .and .u8 (c.Op : Int) 8 = 0 := by rw [and8 c.Op hc.Op, if_neg h8]; rfl
  have hY : Hid (BoxY (w.alloc (.cells (cyC c p) 52)) w.heap.size c p) := BoxY.new w c p
  have hB : Hid (Below w.heap.size w (w.alloc (.cells (cyC c p) 52))) := below1 _ _
  clear hc hp hk h8 hHe
  go_enter Tryz.func82, Tryz.ntmps82
  go_wp2_with (first
    | (refine gen_world (w.alloc (.cells (cyC c p) 52)) (fun y => BoxY y w.heap.size c p ∧ Below w.heap.size w y) ⟨hY.out, hB.out⟩ ?_; intro y K; have d1 := K.out.1.fOp)
    | (go_at_call 92; refine (hH _).mono ?_; rintro e v1 ⟨rfl, hb1⟩; replace K : Hid (BoxY v1 w.heap.size c p ∧ Below w.heap.size w v1) := ⟨K.out.1.below hb1, K.out.2.trans (hb1.mono K.out.2.size)⟩; have d2 := K.out.1.fOp)
    | (refine at_loadY w.heap.size c p K.out.1 _ rfl rfl rfl ?_))
  go_ret
  exact ⟨by first | rfl | simp, K.out.2⟩

def branchesM (c : Cp) (p : Pn) : Bool := if 8 ≤ c.Op % 16 then !holdsM c p (c.Op % 8) else holdsM c p (c.Op % 8)
theorem ybranches (w : World) (c : Cp) (hc : c.wf) (p : Pn) (hp : p.wf) : Calls Tryz.prog 82 #[.agg (cyC c p)] w fun e w' => e = .returned (.bool (branchesM c p)) ∧ Below w.heap.size w w' := by
  unfold branchesM
  by_cases h8 : 8 ≤ c.Op % 16
  · rw [if_pos h8]; exact ybranches1 w c hc p hp h8
  · rw [if_neg h8]; exact ybranches0 w c hc p hp h8
theorem fld (a b c d : Value) (w : World) : (Instr.field 60 (.agg #[a, b, c, d]) 1).run Tryz.prog w = .ok b w := by kernel_rfl
theorem yjumps (w : World) (c : Cp) (hc : c.wf) (p : Pn) (hp : p.wf) (tb : Tabs w) : Calls Tryz.prog 87 #[.agg (cyC c p)] w fun e w' => e = .returned (.bool (decide (rfmI c.Op = 6))) ∧ Below w.heap.size w w' := by
  have hI := fun v t => info_any c.Op v t hc.Op
  have he := fm_eq c.Op hc.Op
  obtain ⟨f, hf⟩ : ∃ f, fm c.Op = f := ⟨_, rfl⟩
  rw [← he, hf]
  have ef : ((f : Int) == 6) = decide ((f : Int) = 6) := by rfl
  obtain ⟨S, hS⟩ : ∃ S, nm c.Op = S := ⟨_, rfl⟩
  obtain ⟨L, hL⟩ : ∃ L, ((lay (fm c.Op * 3) : Nat) : Int) = L := ⟨_, rfl⟩
  obtain ⟨Z, hZ⟩ : ∃ Z, ((cyc c.Op : Nat) : Int) = Z := ⟨_, rfl⟩
  unfold infoV at hI
  rw [hS, hL, hZ, hf] at hI
  have tb' : Hid (Tabs w) := tb
  have hY : Hid (BoxY (w.alloc (.cells (cyC c p) 52)) w.heap.size c p) := BoxY.new w c p
  have hB : Hid (Below w.heap.size w (w.alloc (.cells (cyC c p) 52))) := below1 _ _
  clear hc hp tb hf hS hL hZ he
  go_enter Tryz.func87, Tryz.ntmps87
  go_wp2_with (first
    | (refine gen_world (w.alloc (.cells (cyC c p) 52)) (fun y => BoxY y w.heap.size c p ∧ Below w.heap.size w y) ⟨hY.out, hB.out⟩ ?_; intro y K; have d1 := K.out.1.fOp)
    | (go_at_call 34; refine (hI _ (tb'.out.below (K.out.2))).mono ?_; rintro e v1 ⟨rfl, hb1⟩; replace K : Hid (BoxY v1 w.heap.size c p ∧ Below w.heap.size w v1) := ⟨K.out.1.below hb1, K.out.2.trans (hb1.mono K.out.2.size)⟩; have fl := fld (.string S) (.int .u8 (f : Int)) (.int .i64 L) (.int .i64 Z))
    | (refine at_loadY w.heap.size c p K.out.1 _ rfl rfl rfl ?_))
  go_ret
  exact ⟨by first | rfl | simp, K.out.2⟩

end Go.Proofs.YtbeeefekndcgnaaGreatDoor
