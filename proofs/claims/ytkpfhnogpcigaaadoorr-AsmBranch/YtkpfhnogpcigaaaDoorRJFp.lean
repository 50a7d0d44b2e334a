/- Labels sorted by the library, whatever order they came in. -/
import Derived.Test.YtkpfhnogpcigaaaDoorRJFo
import Derived.Test.YtkpfhnogpcigaaaDoorRJSh
namespace Go.Proofs.YtkpfhnogpcigaaaDoorR
open Go Go.RowKit Go.Shelf Go.Lib Go.Sort
set_option linter.unusedVariables false
set_option maxHeartbeats 3000000
set_option maxRecDepth 20000

theorem order_lays (w : World) (a b : La) : Calls Tryd.prog 43 #[.agg (kl a), .agg (kl b)] w fun e w' => e = .returned (.int .i64 (ordL a b)) ∧ ∃ q os, w' = grow (w.drewN q) os := by
  have K1 : Hid (Fm w [(w.heap.size, kl a, 61), (w.heap.size + 1, kl b, 61)] ((w.alloc (.cells (kl a) 61)).alloc (.cells (kl b) 61))) := Fm.two w _ _ _ _
  have hcl : Hid (∀ y, Fm w [(w.heap.size, kl a, 61), (w.heap.size + 1, kl b, 61)] y → y.cell? ⟨w.heap.size, 0, none⟩ = some (.string a.n) ∧ y.cell? ⟨w.heap.size, 1, none⟩ = some (.int .i64 a.a) ∧ y.cell? ⟨w.heap.size + 1, 0, none⟩ = some (.string b.n) ∧ y.cell? ⟨w.heap.size + 1, 1, none⟩ = some (.int .i64 b.a)) := fun y hy => ⟨(hy.bx 0 _ _ _ rfl).c 0 (.string a.n) rfl, (hy.bx 0 _ _ _ rfl).c 1 (.int .i64 a.a) rfl, (hy.bx 1 _ _ _ rfl).c 0 (.string b.n) rfl, (hy.bx 1 _ _ _ rfl).c 1 (.int .i64 b.a) rfl⟩
  have hI := fun v => cmpI_any a.a b.a v
  have hS := fun v => cmpS_any a.n b.n v
  have hO : Hid (∀ v g, v.cell? ⟨g, 0, none⟩ = some (.int .i64 (cmpI a.a b.a)) → v.cell? ⟨g, 1, none⟩ = some (.int .i64 (cmpS a.n b.n)) → Calls Tryd.prog 57 #[.slice (some ⟨g, 0, none⟩) 2 2] v fun e w' => e = .returned (.int .i64 (ordL a b)) ∧ w' = v) := fun v g h1 h2 => cmpOr_any _ _ g v h1 h2
  replace hI : Hid _ := hI
  replace hS : Hid _ := hS
  go_enter Tryd.func43, Tryd.ntmps43
  go_wp2
  refine region_class_tail 10 (fun u => Fm w [(w.heap.size, kl a, 61), (w.heap.size + 1, kl b, 61)] u ∧ ∃ q, u = ((w.alloc (.cells (kl a) 61)).alloc (.cells (kl b) 61)).drewN q) (by kernel_rfl) (by kernel_rfl) ⟨K1.out.below (below_drew (Below.refl _ _)), 1, rfl⟩ ?_
  simp only [List.take_succ_cons, List.take_zero, List.drop_succ_cons, List.drop_zero]
  with_reducible refine quiet_one (.pointer (some ⟨w.heap.size, 1, none⟩)) ?_ ?_ ?_
  · kernel_rfl
  · intro u hy
    go_simp
  with_reducible refine quiet_one (.int .i64 a.a) ?_ ?_ ?_
  · kernel_rfl
  · intro u hy
    have t := (hcl.out u hy.1).2.1
    go_simp
  with_reducible refine quiet_one (.pointer (some ⟨w.heap.size + 1, 1, none⟩)) ?_ ?_ ?_
  · kernel_rfl
  · intro u hy
    go_simp
  with_reducible refine quiet_one (.int .i64 b.a) ?_ ?_ ?_
  · kernel_rfl
  · intro u hy
    have t := (hcl.out u hy.1).2.2.2
    go_simp
  with_reducible refine quiet_one (.int .i64 (cmpI a.a b.a)) ?_ ?_ ?_
  · kernel_rfl
  · intro u hy
    have d := calls_same (C := fun u => Fm w [(w.heap.size, kl a, 61), (w.heap.size + 1, kl b, 61)] u ∧ ∃ q, u = ((w.alloc (.cells (kl a) 61)).alloc (.cells (kl b) 61)).drewN q) (hI.out u) hy
    go_simp
    all_goals exact d
  with_reducible refine quiet_one (.pointer (some ⟨w.heap.size, 0, none⟩)) ?_ ?_ ?_
  · kernel_rfl
  · intro u hy
    go_simp
  with_reducible refine quiet_one (.string a.n) ?_ ?_ ?_
  · kernel_rfl
  · intro u hy
    have t := (hcl.out u hy.1).1
    go_simp
  with_reducible refine quiet_one (.pointer (some ⟨w.heap.size + 1, 0, none⟩)) ?_ ?_ ?_
  · kernel_rfl
  · intro u hy
    go_simp
  with_reducible refine quiet_one (.string b.n) ?_ ?_ ?_
  · kernel_rfl
  · intro u hy
    have t := (hcl.out u hy.1).2.2.1
    go_simp
  with_reducible refine quiet_one (.int .i64 (cmpS a.n b.n)) ?_ ?_ ?_
  · kernel_rfl
  · intro u hy
    have d := calls_same (C := fun u => Fm w [(w.heap.size, kl a, 61), (w.heap.size + 1, kl b, 61)] u ∧ ∃ q, u = ((w.alloc (.cells (kl a) 61)).alloc (.cells (kl b) 61)).drewN q) (hS.out u) hy
    go_simp
    all_goals exact d
  refine wpQuiet_nil ?_
  intro z0 Z0
  replace Z0 : Hid _ := Z0
  go_simp
  have F3 : Hid (Fm w [(w.heap.size, kl a, 61), (w.heap.size + 1, kl b, 61), (z0.heap.size, #[.int .i64 (cmpI a.a b.a), .int .i64 (cmpS a.n b.n)], 3)] (z0.alloc (.cells #[.int .i64 (cmpI a.a b.a), .int .i64 (cmpS a.n b.n)] 3))) := Z0.out.1.new _ _
  go_wp2_with (go_at_call 57; refine (hO.out _ z0.heap.size ((F3.out.bx 2 _ _ _ rfl).c 0 _ rfl) ((F3.out.bx 2 _ _ _ rfl).c 1 _ rfl)).mono ?_; rintro e y ⟨rfl, rfl⟩)
  go_ret
  obtain ⟨q, hq⟩ := Z0.out.2
  refine ⟨rfl, q, #[.cells (kl a) 61, .cells (kl b) 61, .cells #[.int .i64 (cmpI a.a b.a), .int .i64 (cmpS a.n b.n)] 3], ?_⟩
  have e1 : (w.alloc (.cells (kl a) 61)).alloc (.cells (kl b) 61) = grow w #[.cells (kl a) 61, .cells (kl b) 61] := by
    rw [alloc_eq_grow w, alloc_eq_grow, grow_grow]
    rfl
  have e2 : (grow w #[.cells (kl a) 61, .cells (kl b) 61]).drewN q = grow (w.drewN q) #[.cells (kl a) 61, .cells (kl b) 61] := rfl
  rw [hq, e1, e2, alloc_eq_grow, grow_grow]
  rfl
theorem ordSWO : SWO (ltOf ordL) :=
  ⟨fun x => by unfold ltOf; rw [ordL_lt, befL_irrefl], fun x y z h k => by unfold ltOf at *; rw [ordL_lt] at *; exact befL_trans x y z h k, fun x y z h k => by unfold ltOf at *; rw [ordL_lt] at *; exact befL_ntrans x y z h k⟩
theorem clone_any (s : ByteArray) (w : World) (hs : s.size ≤ 1000000) : Calls Tryd.prog 68 #[.string s] w fun e w' => e = .returned (.string s) ∧ Below w.heap.size w w' := by
  have hC := fun v => Tryd.stringslite_Clone s v (by omega)
  change ∀ v, Calls Tryd.prog 82 _ _ _ at hC
  clear hs
  go_enter Tryd.func68, Tryd.ntmps68
  go_wp2_with (go_at_call 82; refine (hC _).mono ?_; rintro e y ⟨rfl, H⟩)
  go_ret
  exact ⟨rfl, H⟩
theorem lt_eq : (fun x y : La => !(ltOf ordL) y x) = leL := by
  funext x y
  unfold ltOf leL
  rw [ordL_lt]
/-- Any list of labels that the call has made, sorted. -/
theorem sort_any (I : Inhabited La) (y z : World) (sp : Option Addr) (cap : Nat) (l : List La) (K : KL 61 2 cLa y (.slice sp l.length cap) l z) (hl : l.length ≤ 1000000) :
    Calls Tryd.prog 69 #[.slice sp l.length cap, .func (.func 43) #[] #[]] z fun e z' => e = .returned (.tuple #[]) ∧ Hid (Below y.heap.size y z' ∧ LiesL 2 cLa z' sp (l.mergeSort leL) ∧ l.length ≤ cap) := by
  have hcap : l.length ≤ cap := by
    obtain ⟨q1, k1, e1, l1, -, -, c1⟩ := OwnL.open (c := cLa) (s := 2) (fun _ => rfl) K.own
    injection e1 with e1 e2 e3
    rw [e3]
    exact c1
  by_cases h0 : l = []
  · subst h0
    have hcon := AnyF.slices_SortFunc_none Tryd.sortL sp cap (.func (.func 43) #[] #[]) z
    change Calls Tryd.prog 69 _ _ _ at hcon
    refine hcon.mono fun e z' h => ⟨h.1, ?_⟩
    rw [h.2]
    exact ⟨K.low, fun j a hj => by simp at hj, hcap⟩
  · rcases K.own.2 with ⟨_, h9⟩ | ⟨g, cap', cur, hv, hbg, hg, hnc, hcm, hcs, htake⟩
    · exact absurd (List.length_eq_zero_iff.1 h9) h0
    · injection hv with hv1 hv2 hv3
      subst hv1 hv3
      have hcells := World.ownsRow.cells (g := g) K.own rfl
      have hH : HoldsK cLa 2 z g 0 l.toArray := fun j hj => by
        rw [size_flatK] at hj
        refine ⟨?_, frozen_heap hg _⟩
        rw [get_flatK _ _ _ _ hj]
        have hj2 : j / 2 < l.length := by
          have : l.toArray.size = l.length := by simp
          omega
        have hr := hcells j ((cLa l.toArray[j / 2]!)[j % 2]!) (by
          have e : j / 2 * 2 + j % 2 = j := by omega
          have h9 := rowL_at kLa.len l (j / 2) (j % 2) l[j / 2] (List.getElem?_eq_getElem hj2) (Nat.mod_lt _ (by decide))
          rw [e] at h9
          rw [h9]
          have e2 : l.toArray[j / 2]! = l[j / 2] := by simp [getElem!_pos, hj2]
          rw [e2]
          have hl2 : (cLa l[j / 2]).length = 2 := rfl
          rw [List.getElem!_eq_getElem?_getD, List.getElem?_eq_getElem (by rw [hl2]; exact Nat.mod_lt _ (by decide))]
          rfl)
        rw [Addr.add_lit] at hr
        exact hr
      have eg : ∀ args w, (callFunc 43 args).run Tryd.prog w = .ok (.enter 43 args) w := enters_of Tryd.func43 (by kernel_rfl) rfl
      have hcmp : CmpLays Tryd.prog 43 #[] cLa 2 ordL g 0 l.toArray.size z := fun m os dk _ x y' => order_lays _ x y'
      have hcon := AnyQ.slices_SortFunc_total Tryd.sortL 2 Tryd.isAgg61 Tryd.sizeOf61 cLa (fun _ => rfl) kLa.one ordL ordSWO 43 #[] g 0 cap l.toArray z eg hcmp hH (heap_lt hg) (by simp; omega) (fun x y' h k => by unfold ltOf at h k; rw [ordL_lt] at h k; exact befL_tri x y' h k)
      change Calls Tryd.prog 69 _ _ _ at hcon
      rw [show l.toArray.size = l.length by simp] at hcon
      refine hcon.mono fun e z' h => ⟨h.1, ?_⟩
      obtain ⟨n, os, hz⟩ := h.2
      rw [lt_eq, show l.toArray.toList = l by simp] at hz
      have hlen : (l.mergeSort leL).length = l.length := List.length_mergeSort l
      refine ⟨?_, fun j a hj => ⟨g, 0, rfl, fun i v hv => ?_⟩, hcap⟩
      · rw [hz]
        refine K.low.trans ⟨rfl, rfl, rfl, by simp [sortWorldK, grow, putRowK, putRow, mapBlock, Sort.ahead], fun k hk => ?_⟩
        have hkz : k < z.heap.size := Nat.lt_of_lt_of_le hk K.low.size
        have hkg : k ≠ g := by omega
        unfold sortWorldK
        rw [heap_grow_old _ _ (by simp [putRowK, putRow, mapBlock, Sort.ahead]; exact hkz)]
        simp [putRowK, putRow, mapBlock, Sort.ahead, Array.getElem?_modify, hkg.symm]
      · have hjl := (List.getElem?_eq_some_iff.1 hj).1
        have hi : i < 2 := by
          have := (List.getElem?_eq_some_iff.1 hv).1
          exact this
        have ht : j * 2 + i < (l.mergeSort leL).toArray.size * 2 := by simp; omega
        rw [hz]
        unfold sortWorldK putRowK
        rw [cell?_grow _ _ _ (by simp [putRow, mapBlock, Sort.ahead]; exact heap_lt hg)]
        rw [show 0 + j * 2 + i = 0 + (j * 2 + i) by omega, cell?_putRow id (Sort.ahead z n) g 0 (flatK cLa 2 l.toArray) (flatK cLa 2 (l.mergeSort leL).toArray) hH (by simp) (j * 2 + i) (by rw [size_flatK]; exact ht), get_flatK _ _ _ _ ht]
        have e1 : (j * 2 + i) / 2 = j := by omega
        have e2 : (j * 2 + i) % 2 = i := by omega
        rw [e1, e2]
        have e3 : (l.mergeSort leL).toArray[j]! = a := by
          rw [getElem!_pos _ _ (by simpa using hjl)]
          have := (List.getElem?_eq_some_iff.1 hj).2
          simpa using this
        rw [e3, List.getElem!_eq_getElem?_getD, hv]
        rfl
end Go.Proofs.YtkpfhnogpcigaaaDoorR
