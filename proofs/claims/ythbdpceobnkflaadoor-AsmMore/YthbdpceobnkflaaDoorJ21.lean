/- A new sheet. -/
import Derived.Test.YthbdpceobnkflaaDoorJ8
import Derived.Test.YthbdpceobnkflaaDoorJ12
namespace Go.Proofs.YthbdpceobnkflaaDoor
open Go Go.RowKit
set_option linter.unusedVariables false
set_option maxHeartbeats 3000000
set_option maxRecDepth 20000

theorem infoUs : (Tryd.prog.info? 123).map (fun i => (i.zero, i.size, i.bytes)) = some (some (.int .u8 0), 1, 1) := by kernel_rfl
theorem hmkS (D : Nat) (hD : D ≤ 2147483652) (y : World) : (Instr.makeSlice 67 (.int .i64 (D : Int)) (.int .i64 (D : Int))).run Tryd.prog y = .ok (.slice (some ⟨y.heap.size, 0, none⟩) D D) (y.alloc (.cells (rU (List.replicate D 0)) 123)) := by
  obtain ⟨ib, hib, hb0, hb1, hb2⟩ := info_parts infoUs
  have := run_make (P := Tryd.prog) y 67 123 ib _ Tryd.underlying67 hib hb0 .i64 .i64 (D : Int) (D : Int) (by omega) (Int.le_refl _) (by rw [hb2]; omega) (by omega)
  rw [hb1, Int.toNat_natCast] at this
  rw [← made_u8]
  exact this
theorem four (y : World) (o1 o2 o3 o4 : Obj) : (((((y.alloc o1).alloc o2).alloc o3).alloc o4).drew).heap[y.heap.size]? = some o1 ∧ (((((y.alloc o1).alloc o2).alloc o3).alloc o4).drew).heap[y.heap.size + 1]? = some o2 ∧ (((((y.alloc o1).alloc o2).alloc o3).alloc o4).drew).heap[y.heap.size + 1 + 1]? = some o3 ∧ (((((y.alloc o1).alloc o2).alloc o3).alloc o4).drew).heap[y.heap.size + 1 + 1 + 1]? = some o4 ∧ Below y.heap.size y ((((y.alloc o1).alloc o2).alloc o3).alloc o4 |>.drew) := by
  have e1 : (y.alloc o1).heap.size = y.heap.size + 1 := by simp
  have e2 : ((y.alloc o1).alloc o2).heap.size = y.heap.size + 1 + 1 := by simp
  have e3 : (((y.alloc o1).alloc o2).alloc o3).heap.size = y.heap.size + 1 + 1 + 1 := by simp
  have h1 := alloc_last' y o1
  have h2 := alloc_last' (y.alloc o1) o2
  have h3 := alloc_last' ((y.alloc o1).alloc o2) o3
  have h4 := alloc_last' (((y.alloc o1).alloc o2).alloc o3) o4
  have b2 := below1 (y.alloc o1) o2
  have b3 := below1 ((y.alloc o1).alloc o2) o3
  have b4 := below1 (((y.alloc o1).alloc o2).alloc o3) o4
  rw [e1] at h2 b2
  rw [e2] at h3 b3
  rw [e3] at h4 b4
  refine ⟨?_, ?_, ?_, h4, below_drew ?_⟩
  · exact (b4.block _ (by omega)).trans ((b3.block _ (by omega)).trans ((b2.block _ (by omega)).trans h1))
  · exact (b4.block _ (by omega)).trans ((b3.block _ (by omega)).trans h2)
  · exact (b4.block _ (by omega)).trans h3
  · exact (((below1 y o1).trans (b2.mono (by omega))).trans (b3.mono (by omega))).trans (b4.mono (by omega))
theorem mapF_empty {z : World} {m : Nat} (h : z.heap[m]? = some (.map #[] 0)) : MapE z m [] := ⟨h, List.nodup_nil⟩
/-- What newSheet answers. -/
def NsE (y : World) (e : Ending) (z : World) : Prop := ∃ q : Nu, e = .returned (.pointer (some ⟨q.s, 0, none⟩)) ∧ Hid (Below y.heap.size y z ∧ Sht y.heap.size q sh0 (List.replicate 65536 0) (.slice none 0 0) [] z)
theorem ns_of {y z : World} {q : Nu} (h : Below y.heap.size y z) (hs : Bx z q.s (sC q 0 (.slice none 0 0)) 70) (hu : Bx z q.u (rU (List.replicate 65536 0)) 123) (hb : Bx z q.b (rU (List.replicate 65536 0)) 5) (hm : MapE z q.m []) (lo : y.heap.size ≤ q.s ∧ y.heap.size ≤ q.u ∧ y.heap.size ≤ q.b ∧ y.heap.size ≤ q.m) : NsE y (.returned (.pointer (some ⟨q.s, 0, none⟩))) z :=
  ⟨q, rfl, h, sh0_ok, hs, hu, hb, hm, OwnL.nil _ _, lo⟩
theorem newSheet_any (y : World) : Calls Tryd.prog 21 #[] y (NsE y) := by
  have m1 := hmkS 65536 (by decide)
  have m2 := hmkV 65536 (by decide)
  rw [show ((65536 : Nat) : Int) = 65536 from rfl] at m1 m2
  have m3 : ∀ v : World, (Instr.makeMap 68 none).run Tryd.prog v = .ok (.map (some v.heap.size)) (v.alloc (.map #[] 0)) := fun v => by first | rfl | kernel_rfl
  have fin := fun (q : Nu) (z : World) => @ns_of y z q
  generalize rU (List.replicate 65536 0) = Z at m1 m2 fin
  generalize NsE y = Fin at fin ⊢
  go_enter Tryd.func21, Tryd.ntmps21
  go_wp2
  go_region
  all_goals go_wp2
  all_goals (first
    | (have F := four y (.cells Z 123) (.cells Z 5) (.map #[] 0) (.cells (sC ⟨y.heap.size + 1 + 1 + 1, y.heap.size, y.heap.size + 1, y.heap.size + 1 + 1⟩ 0 (.slice none 0 0)) 70); exact fin ⟨y.heap.size + 1 + 1 + 1, y.heap.size, y.heap.size + 1, y.heap.size + 1 + 1⟩ _ F.2.2.2.2 F.2.2.2.1 F.1 F.2.1 (mapF_empty F.2.2.1) ⟨by show _ ≤ y.heap.size + 1 + 1 + 1; omega, by show _ ≤ y.heap.size; omega, by show _ ≤ y.heap.size + 1; omega, by show _ ≤ y.heap.size + 1 + 1; omega⟩)
    | (have F := four y (.cells Z 123) (.map #[] 0) (.cells Z 5) (.cells (sC ⟨y.heap.size + 1 + 1 + 1, y.heap.size, y.heap.size + 1 + 1, y.heap.size + 1⟩ 0 (.slice none 0 0)) 70); exact fin ⟨y.heap.size + 1 + 1 + 1, y.heap.size, y.heap.size + 1 + 1, y.heap.size + 1⟩ _ F.2.2.2.2 F.2.2.2.1 F.1 F.2.2.1 (mapF_empty F.2.1) ⟨by show _ ≤ y.heap.size + 1 + 1 + 1; omega, by show _ ≤ y.heap.size; omega, by show _ ≤ y.heap.size + 1 + 1; omega, by show _ ≤ y.heap.size + 1; omega⟩)
    | (have F := four y (.cells Z 5) (.cells Z 123) (.map #[] 0) (.cells (sC ⟨y.heap.size + 1 + 1 + 1, y.heap.size + 1, y.heap.size, y.heap.size + 1 + 1⟩ 0 (.slice none 0 0)) 70); exact fin ⟨y.heap.size + 1 + 1 + 1, y.heap.size + 1, y.heap.size, y.heap.size + 1 + 1⟩ _ F.2.2.2.2 F.2.2.2.1 F.2.1 F.1 (mapF_empty F.2.2.1) ⟨by show _ ≤ y.heap.size + 1 + 1 + 1; omega, by show _ ≤ y.heap.size + 1; omega, by show _ ≤ y.heap.size; omega, by show _ ≤ y.heap.size + 1 + 1; omega⟩)
    | (have F := four y (.map #[] 0) (.cells Z 123) (.cells Z 5) (.cells (sC ⟨y.heap.size + 1 + 1 + 1, y.heap.size + 1, y.heap.size + 1 + 1, y.heap.size⟩ 0 (.slice none 0 0)) 70); exact fin ⟨y.heap.size + 1 + 1 + 1, y.heap.size + 1, y.heap.size + 1 + 1, y.heap.size⟩ _ F.2.2.2.2 F.2.2.2.1 F.2.1 F.2.2.1 (mapF_empty F.1) ⟨by show _ ≤ y.heap.size + 1 + 1 + 1; omega, by show _ ≤ y.heap.size + 1; omega, by show _ ≤ y.heap.size + 1 + 1; omega, by show _ ≤ y.heap.size; omega⟩)
    | (have F := four y (.cells Z 5) (.map #[] 0) (.cells Z 123) (.cells (sC ⟨y.heap.size + 1 + 1 + 1, y.heap.size + 1 + 1, y.heap.size, y.heap.size + 1⟩ 0 (.slice none 0 0)) 70); exact fin ⟨y.heap.size + 1 + 1 + 1, y.heap.size + 1 + 1, y.heap.size, y.heap.size + 1⟩ _ F.2.2.2.2 F.2.2.2.1 F.2.2.1 F.1 (mapF_empty F.2.1) ⟨by show _ ≤ y.heap.size + 1 + 1 + 1; omega, by show _ ≤ y.heap.size + 1 + 1; omega, by show _ ≤ y.heap.size; omega, by show _ ≤ y.heap.size + 1; omega⟩)
    | (have F := four y (.map #[] 0) (.cells Z 5) (.cells Z 123) (.cells (sC ⟨y.heap.size + 1 + 1 + 1, y.heap.size + 1 + 1, y.heap.size + 1, y.heap.size⟩ 0 (.slice none 0 0)) 70); exact fin ⟨y.heap.size + 1 + 1 + 1, y.heap.size + 1 + 1, y.heap.size + 1, y.heap.size⟩ _ F.2.2.2.2 F.2.2.2.1 F.2.2.1 F.2.1 (mapF_empty F.1) ⟨by show _ ≤ y.heap.size + 1 + 1 + 1; omega, by show _ ≤ y.heap.size + 1 + 1; omega, by show _ ≤ y.heap.size + 1; omega, by show _ ≤ y.heap.size; omega⟩))
end Go.Proofs.YthbdpceobnkflaaDoor
