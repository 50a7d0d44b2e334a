/- Contracts of Go's library, laid at this program: each is one application of a contract that holds of any program. Labels sorted by the library, whatever order they came in. The marks of what was laid: rows of addresses at which the same lies. -/
import Derived.Shelf.SlSortCmp.NoneTotal
import Derived.Shelf.SlGeneric
import Derived.Ground.SlsfProg
import Derived.Shelf.LaysM
import Derived.Shelf.Strconv.Clone
import Derived.Test.YthbdpceobnkflaaDoorProg
import Derived.Test.YthbdpceobnkflaaDoorJ15
import Derived.Test.YthbdpceobnkflaaDoorJ8
namespace Go.Proofs.YthbdpceobnkflaaDoor
set_option linter.unusedVariables false
open Go.Shelf
def Tryd.sortL_ren : Go.Shelf.Ren := ⟨fun | 6 => 52 | 15 => 63 | 14 => 62 | 28 => 75 | 29 => 76 | 20 => 67 | 21 => 68 | 22 => 69 | 23 => 70 | 24 => 71 | 25 => 72 | 26 => 73 | 27 => 74 | 46 => 78 | 47 => 79 | 48 => 80 | 49 => 81 | 50 => 82 | 57 => 83 | n => n, fun | 22 => 27 | 24 => 52 | 25 => 112 | 3 => 3 | 39 => 79 | 0 => 0 | 53 => 154 | 55 => 156 | 4 => 4 | 46 => 148 | 45 => 147 | 50 => 41 | 5 => 5 | 9 => 9 | 66 => 158 | 70 => 162 | 76 => 164 | 77 => 165 | n => n, fun | n => n⟩
theorem Tryd.sortL : Go.Proofs.SlLaysF0.n6 Tryd.prog Tryd.sortL_ren := {
  mixed := by kernel_rfl
  f6 := ⟨Tryd.f52.name, by decide, Tryd.func52.trans (congrArg some (by kernel_rfl))⟩
  f14 := ⟨Tryd.f62.name, by decide, Tryd.func62.trans (congrArg some (by kernel_rfl))⟩
  f15 := Tryd.func63.trans (congrArg some (by kernel_rfl))
  f20 := ⟨Tryd.f67.name, by decide, Tryd.func67.trans (congrArg some (by kernel_rfl))⟩
  f21 := ⟨Tryd.f68.name, by decide, Tryd.func68.trans (congrArg some (by kernel_rfl))⟩
  f22 := ⟨Tryd.f69.name, by decide, Tryd.func69.trans (congrArg some (by kernel_rfl))⟩
  f23 := ⟨Tryd.f70.name, by decide, Tryd.func70.trans (congrArg some (by kernel_rfl))⟩
  f24 := ⟨Tryd.f71.name, by decide, Tryd.func71.trans (congrArg some (by kernel_rfl))⟩
  f25 := ⟨Tryd.f72.name, by decide, Tryd.func72.trans (congrArg some (by kernel_rfl))⟩
  f26 := ⟨Tryd.f73.name, by decide, Tryd.func73.trans (congrArg some (by kernel_rfl))⟩
  f27 := ⟨Tryd.f74.name, by decide, Tryd.func74.trans (congrArg some (by kernel_rfl))⟩
  f28 := Tryd.func75.trans (congrArg some (by kernel_rfl))
  f29 := Tryd.func76.trans (congrArg some (by kernel_rfl))
  f46 := ⟨Tryd.f78.name, by decide, Tryd.func78.trans (congrArg some (by kernel_rfl))⟩
  f47 := Tryd.func79.trans (congrArg some (by kernel_rfl))
  f48 := Tryd.func80.trans (congrArg some (by kernel_rfl))
  f49 := ⟨Tryd.f81.name, by decide, Tryd.func81.trans (congrArg some (by kernel_rfl))⟩
  f50 := ⟨Tryd.f82.name, by decide, Tryd.func82.trans (congrArg some (by kernel_rfl))⟩
  f57 := ⟨Tryd.f83.name, by decide, Tryd.func83.trans (congrArg some (by kernel_rfl))⟩
  t0 := Tryd.underlying0
  a0 := Tryd.isAgg0
  z0 := Tryd.sizeOf0
  v0 := Tryd.zeroValue0
  t3 := Tryd.underlying3
  a3 := Tryd.isAgg3
  z3 := Tryd.sizeOf3
  v3 := Tryd.zeroValue3
  t4 := Tryd.underlying4
  a4 := Tryd.isAgg4
  z4 := Tryd.sizeOf4
  v4 := Tryd.zeroValue4
  t5 := Tryd.underlying5
  a5 := Tryd.isAgg5
  z5 := Tryd.sizeOf5
  v5 := Tryd.zeroValue5
  t9 := Tryd.underlying9
  a9 := Tryd.isAgg9
  z9 := Tryd.sizeOf9
  v9 := Tryd.zeroValue9
  t22 := Tryd.underlying27
  a22 := Tryd.isAgg27
  z22 := Tryd.sizeOf27
  v22 := Tryd.zeroValue27
  t25 := Tryd.underlying112
  a25 := Tryd.isAgg112
  z25 := Tryd.sizeOf112
  v25 := Tryd.zeroValue112
  t39 := Tryd.underlying79
  a39 := Tryd.isAgg79
  z39 := Tryd.sizeOf79
  v39 := Tryd.zeroValue79
  t45 := Tryd.underlying147
  a45 := Tryd.isAgg147
  z45 := Tryd.sizeOf147
  v45 := Tryd.zeroValue147
  t46 := Tryd.underlying148
  a46 := Tryd.isAgg148
  z46 := Tryd.sizeOf148
  v46 := Tryd.zeroValue148
  t50 := Tryd.underlying41
  a50 := Tryd.isAgg41
  z50 := Tryd.sizeOf41
  v50 := Tryd.zeroValue41
  t53 := Tryd.underlying154
  a53 := Tryd.isAgg154
  z53 := Tryd.sizeOf154
  v53 := Tryd.zeroValue154
  t55 := Tryd.underlying156
  a55 := Tryd.isAgg156
  z55 := Tryd.sizeOf156
  v55 := Tryd.zeroValue156
  t66 := Tryd.underlying158
  a66 := Tryd.isAgg158
  z66 := Tryd.sizeOf158
  v66 := Tryd.zeroValue158
  t70 := Tryd.underlying162
  a70 := Tryd.isAgg162
  z70 := Tryd.sizeOf162
  v70 := Tryd.zeroValue162
  t76 := Tryd.underlying164
  a76 := Tryd.isAgg164
  z76 := Tryd.sizeOf164
  v76 := Tryd.zeroValue164
  t77 := Tryd.underlying165
  a77 := Tryd.isAgg165
  z77 := Tryd.sizeOf165
  v77 := Tryd.zeroValue165 }
def Tryd.laysM316_ren : Go.Shelf.Ren := ⟨fun | 316 => 61 | n => n, fun | 9 => 9 | 3 => 3 | 4 => 4 | 37 => 33 | 0 => 0 | 127 => 145 | 5 => 5 | n => n, fun | n => n⟩
theorem Tryd.laysM316 : Go.Proofs.LaysM.n316 Tryd.prog Tryd.laysM316_ren := {
  mixed := by kernel_rfl
  f316 := Tryd.func61.trans (congrArg some (by kernel_rfl))
  t0 := Tryd.underlying0
  a0 := Tryd.isAgg0
  z0 := Tryd.sizeOf0
  v0 := Tryd.zeroValue0
  t3 := Tryd.underlying3
  a3 := Tryd.isAgg3
  z3 := Tryd.sizeOf3
  v3 := Tryd.zeroValue3
  t4 := Tryd.underlying4
  a4 := Tryd.isAgg4
  z4 := Tryd.sizeOf4
  v4 := Tryd.zeroValue4
  t9 := Tryd.underlying9
  a9 := Tryd.isAgg9
  z9 := Tryd.sizeOf9
  v9 := Tryd.zeroValue9
  t37 := Tryd.underlying33
  a37 := Tryd.isAgg33
  z37 := Tryd.sizeOf33
  v37 := Tryd.zeroValue33
  t127 := Tryd.underlying145
  a127 := Tryd.isAgg145
  z127 := Tryd.sizeOf145
  v127 := Tryd.zeroValue145
  t5 := Tryd.underlying5
  a5 := Tryd.isAgg5
  z5 := Tryd.sizeOf5
  v5 := Tryd.zeroValue5
  i0 := by kernel_rfl
  i3 := by kernel_rfl
  i4 := by kernel_rfl
  i5 := by kernel_rfl
  i9 := by kernel_rfl
  i37 := by kernel_rfl
  i127 := by kernel_rfl }
open Go.RowKit in
theorem Tryd.stringslite_Clone (s : ByteArray) (w : World) (hlim : s.size ≤ 281474976710656) :
    Calls Tryd.prog 61 #[.string s] w fun e w' => e = .returned (.string s) ∧ Below w.heap.size w w' := Any.stringslite_Clone Tryd.laysM316 s w hlim
end Go.Proofs.YthbdpceobnkflaaDoor

namespace Go.Proofs.YthbdpceobnkflaaDoor
open Go Go.RowKit Go.Shelf Go.Lib Go.Sort
set_option linter.unusedVariables false
set_option maxHeartbeats 3000000
set_option maxRecDepth 20000

theorem order_lays (w : World) (a b : La) : Calls Tryd.prog 40 #[.agg (kl a), .agg (kl b)] w fun e w' => e = .returned (.int .i64 (ordL a b)) ∧ ∃ q os, w' = grow (w.drewN q) os := by
  have K1 : Hid (Fm w [(w.heap.size, kl a, 52), (w.heap.size + 1, kl b, 52)] ((w.alloc (.cells (kl a) 52)).alloc (.cells (kl b) 52))) := Fm.two w _ _ _ _
  have hcl : Hid (∀ y, Fm w [(w.heap.size, kl a, 52), (w.heap.size + 1, kl b, 52)] y → y.cell? ⟨w.heap.size, 0, none⟩ = some (.string a.n) ∧ y.cell? ⟨w.heap.size, 1, none⟩ = some (.int .i64 a.a) ∧ y.cell? ⟨w.heap.size + 1, 0, none⟩ = some (.string b.n) ∧ y.cell? ⟨w.heap.size + 1, 1, none⟩ = some (.int .i64 b.a)) := fun y hy => ⟨(hy.bx 0 _ _ _ rfl).c 0 (.string a.n) rfl, (hy.bx 0 _ _ _ rfl).c 1 (.int .i64 a.a) rfl, (hy.bx 1 _ _ _ rfl).c 0 (.string b.n) rfl, (hy.bx 1 _ _ _ rfl).c 1 (.int .i64 b.a) rfl⟩
  have hI := fun v => cmpI_any a.a b.a v
  have hS := fun v => cmpS_any a.n b.n v
  have hO : Hid (∀ v g, v.cell? ⟨g, 0, none⟩ = some (.int .i64 (cmpI a.a b.a)) → v.cell? ⟨g, 1, none⟩ = some (.int .i64 (cmpS a.n b.n)) → Calls Tryd.prog 55 #[.slice (some ⟨g, 0, none⟩) 2 2] v fun e w' => e = .returned (.int .i64 (ordL a b)) ∧ w' = v) := fun v g h1 h2 => cmpOr_any _ _ g v h1 h2
  replace hI : Hid _ := hI
  replace hS : Hid _ := hS
  go_enter Tryd.func40, Tryd.ntmps40
  go_wp2
  refine region_class_tail 10 (fun u => Fm w [(w.heap.size, kl a, 52), (w.heap.size + 1, kl b, 52)] u ∧ ∃ q, u = ((w.alloc (.cells (kl a) 52)).alloc (.cells (kl b) 52)).drewN q) (by kernel_rfl) (by kernel_rfl) ⟨K1.out.below (below_drew (Below.refl _ _)), 1, rfl⟩ ?_
  simp only [List.take_succ_cons, List.take_zero, List.drop_succ_cons, List.drop_zero]
  with_reducible refine quiet_one (.pointer (some ⟨w.heap.size, 1, none⟩)) ?_ ?_ ?_
  · kernel_rfl
  · intro u hy
    go_simp
  with_reducible refine quiet_one (.int .i64 a.a) ?_ ?_ ?_
  · kernel_rfl
  · intro u hy
    have t := (hcl.out u hy.1).2.1
    go_simp
  with_reducible refine quiet_one (.pointer (some ⟨w.heap.size + 1, 1, none⟩)) ?_ ?_ ?_
  · kernel_rfl
  · intro u hy
    go_simp
  with_reducible refine quiet_one (.int .i64 b.a) ?_ ?_ ?_
  · kernel_rfl
  · intro u hy
    have t := (hcl.out u hy.1).2.2.2
    go_simp
  with_reducible refine quiet_one (.int .i64 (cmpI a.a b.a)) ?_ ?_ ?_
  · kernel_rfl
  · intro u hy
    have d := calls_same (C := fun u => Fm w [(w.heap.size, kl a, 52), (w.heap.size + 1, kl b, 52)] u ∧ ∃ q, u = ((w.alloc (.cells (kl a) 52)).alloc (.cells (kl b) 52)).drewN q) (hI.out u) hy
    go_simp
    all_goals exact d
  with_reducible refine quiet_one (.pointer (some ⟨w.heap.size, 0, none⟩)) ?_ ?_ ?_
  · kernel_rfl
  · intro u hy
    go_simp
  with_reducible refine quiet_one (.string a.n) ?_ ?_ ?_
  · kernel_rfl
  · intro u hy
    have t := (hcl.out u hy.1).1
    go_simp
  with_reducible refine quiet_one (.pointer (some ⟨w.heap.size + 1, 0, none⟩)) ?_ ?_ ?_
  · kernel_rfl
  · intro u hy
    go_simp
  with_reducible refine quiet_one (.string b.n) ?_ ?_ ?_
  · kernel_rfl
  · intro u hy
    have t := (hcl.out u hy.1).2.2.1
    go_simp
  with_reducible refine quiet_one (.int .i64 (cmpS a.n b.n)) ?_ ?_ ?_
  · kernel_rfl
  · intro u hy
    have d := calls_same (C := fun u => Fm w [(w.heap.size, kl a, 52), (w.heap.size + 1, kl b, 52)] u ∧ ∃ q, u = ((w.alloc (.cells (kl a) 52)).alloc (.cells (kl b) 52)).drewN q) (hS.out u) hy
    go_simp
    all_goals exact d
  refine wpQuiet_nil ?_
  intro z0 Z0
  replace Z0 : Hid _ := Z0
  go_simp
  have F3 : Hid (Fm w [(w.heap.size, kl a, 52), (w.heap.size + 1, kl b, 52), (z0.heap.size, #[.int .i64 (cmpI a.a b.a), .int .i64 (cmpS a.n b.n)], 3)] (z0.alloc (.cells #[.int .i64 (cmpI a.a b.a), .int .i64 (cmpS a.n b.n)] 3))) := Z0.out.1.new _ _
  go_wp2_with (go_at_call 55; refine (hO.out _ z0.heap.size ((F3.out.bx 2 _ _ _ rfl).c 0 _ rfl) ((F3.out.bx 2 _ _ _ rfl).c 1 _ rfl)).mono ?_; rintro e y ⟨rfl, rfl⟩)
  go_ret
  obtain ⟨q, hq⟩ := Z0.out.2
  refine ⟨rfl, q, #[.cells (kl a) 52, .cells (kl b) 52, .cells #[.int .i64 (cmpI a.a b.a), .int .i64 (cmpS a.n b.n)] 3], ?_⟩
  have e1 : (w.alloc (.cells (kl a) 52)).alloc (.cells (kl b) 52) = grow w #[.cells (kl a) 52, .cells (kl b) 52] := by
    rw [alloc_eq_grow w, alloc_eq_grow, grow_grow]
    rfl
  have e2 : (grow w #[.cells (kl a) 52, .cells (kl b) 52]).drewN q = grow (w.drewN q) #[.cells (kl a) 52, .cells (kl b) 52] := rfl
  rw [hq, e1, e2, alloc_eq_grow, grow_grow]
  rfl
theorem ordSWO : SWO (ltOf ordL) :=
  ⟨fun x => by unfold ltOf; rw [ordL_lt, befL_irrefl], fun x y z h k => by unfold ltOf at *; rw [ordL_lt] at *; exact befL_trans x y z h k, fun x y z h k => by unfold ltOf at *; rw [ordL_lt] at *; exact befL_ntrans x y z h k⟩
theorem clone_any (s : ByteArray) (w : World) (hs : s.size ≤ 1000000) : Calls Tryd.prog 51 #[.string s] w fun e w' => e = .returned (.string s) ∧ Below w.heap.size w w' := by
  have hC := fun v => Tryd.stringslite_Clone s v (by omega)
  change ∀ v, Calls Tryd.prog 61 _ _ _ at hC
  clear hs
  go_enter Tryd.func51, Tryd.ntmps51
  go_wp2_with (go_at_call 61; refine (hC _).mono ?_; rintro e y ⟨rfl, H⟩)
  go_ret
  exact ⟨rfl, H⟩
theorem lt_eq : (fun x y : La => !(ltOf ordL) y x) = leL := by
  funext x y
  unfold ltOf leL
  rw [ordL_lt]
/-- Any list of labels that the call has made, sorted. -/
theorem sort_any (I : Inhabited La) (y z : World) (sp : Option Addr) (cap : Nat) (l : List La) (K : KL 52 2 cLa y (.slice sp l.length cap) l z) (hl : l.length ≤ 1000000) :
    Calls Tryd.prog 52 #[.slice sp l.length cap, .func (.func 40) #[] #[]] z fun e z' => e = .returned (.tuple #[]) ∧ Hid (Below y.heap.size y z' ∧ LiesL 2 cLa z' sp (l.mergeSort leL) ∧ l.length ≤ cap) := by
  have hcap : l.length ≤ cap := by
    obtain ⟨q1, k1, e1, l1, -, -, c1⟩ := OwnL.open (c := cLa) (s := 2) (fun _ => rfl) K.own
    injection e1 with e1 e2 e3
    rw [e3]
    exact c1
  by_cases h0 : l = []
  · subst h0
    have hcon := AnyF.slices_SortFunc_none Tryd.sortL sp cap (.func (.func 40) #[] #[]) z
    change Calls Tryd.prog 52 _ _ _ at hcon
    refine hcon.mono fun e z' h => ⟨h.1, ?_⟩
    rw [h.2]
    exact ⟨K.low, fun j a hj => by simp at hj, hcap⟩
  · rcases K.own.2 with ⟨_, h9⟩ | ⟨g, cap', cur, hv, hbg, hg, hnc, hcm, hcs, htake⟩
    · exact absurd (List.length_eq_zero_iff.1 h9) h0
    · injection hv with hv1 hv2 hv3
      subst hv1 hv3
      have hcells := World.ownsRow.cells (g := g) K.own rfl
      have hH : HoldsK cLa 2 z g 0 l.toArray := fun j hj => by
        rw [size_flatK] at hj
        refine ⟨?_, frozen_heap hg _⟩
        rw [get_flatK _ _ _ _ hj]
        have hj2 : j / 2 < l.length := by
          have : l.toArray.size = l.length := by simp
          omega
        have hr := hcells j ((cLa l.toArray[j / 2]!)[j % 2]!) (by
          have e : j / 2 * 2 + j % 2 = j := by omega
          have h9 := rowL_at kLa.len l (j / 2) (j % 2) l[j / 2] (List.getElem?_eq_getElem hj2) (Nat.mod_lt _ (by decide))
          rw [e] at h9
          rw [h9]
          have e2 : l.toArray[j / 2]! = l[j / 2] := by simp [getElem!_pos, hj2]
          rw [e2]
          have hl2 : (cLa l[j / 2]).length = 2 := rfl
          rw [List.getElem!_eq_getElem?_getD, List.getElem?_eq_getElem (by rw [hl2]; exact Nat.mod_lt _ (by decide))]
          rfl)
        rw [Addr.add_lit] at hr
        exact hr
      have eg : ∀ args w, (callFunc 40 args).run Tryd.prog w = .ok (.enter 40 args) w := enters_of Tryd.func40 (by kernel_rfl) rfl
      have hcmp : CmpLays Tryd.prog 40 #[] cLa 2 ordL g 0 l.toArray.size z := fun m os dk _ x y' => order_lays _ x y'
      have hcon := AnyQ.slices_SortFunc_total Tryd.sortL 2 Tryd.isAgg52 Tryd.sizeOf52 cLa (fun _ => rfl) kLa.one ordL ordSWO 40 #[] g 0 cap l.toArray z eg hcmp hH (heap_lt hg) (by simp; omega) (fun x y' h k => by unfold ltOf at h k; rw [ordL_lt] at h k; exact befL_tri x y' h k)
      change Calls Tryd.prog 52 _ _ _ at hcon
      rw [show l.toArray.size = l.length by simp] at hcon
      refine hcon.mono fun e z' h => ⟨h.1, ?_⟩
      obtain ⟨n, os, hz⟩ := h.2
      rw [lt_eq, show l.toArray.toList = l by simp] at hz
      have hlen : (l.mergeSort leL).length = l.length := List.length_mergeSort l
      refine ⟨?_, fun j a hj => ⟨g, 0, rfl, fun i v hv => ?_⟩, hcap⟩
      · rw [hz]
        refine K.low.trans ⟨rfl, rfl, rfl, by simp [sortWorldK, grow, putRowK, putRow, mapBlock, Sort.ahead], fun k hk => ?_⟩
        have hkz : k < z.heap.size := Nat.lt_of_lt_of_le hk K.low.size
        have hkg : k ≠ g := by omega
        unfold sortWorldK
        rw [heap_grow_old _ _ (by simp [putRowK, putRow, mapBlock, Sort.ahead]; exact hkz)]
        simp [putRowK, putRow, mapBlock, Sort.ahead, Array.getElem?_modify, hkg.symm]
      · have hjl := (List.getElem?_eq_some_iff.1 hj).1
        have hi : i < 2 := by
          have := (List.getElem?_eq_some_iff.1 hv).1
          exact this
        have ht : j * 2 + i < (l.mergeSort leL).toArray.size * 2 := by simp; omega
        rw [hz]
        unfold sortWorldK putRowK
        rw [cell?_grow _ _ _ (by simp [putRow, mapBlock, Sort.ahead]; exact heap_lt hg)]
        rw [show 0 + j * 2 + i = 0 + (j * 2 + i) by omega, cell?_putRow id (Sort.ahead z n) g 0 (flatK cLa 2 l.toArray) (flatK cLa 2 (l.mergeSort leL).toArray) hH (by simp) (j * 2 + i) (by rw [size_flatK]; exact ht), get_flatK _ _ _ _ ht]
        have e1 : (j * 2 + i) / 2 = j := by omega
        have e2 : (j * 2 + i) % 2 = i := by omega
        rw [e1, e2]
        have e3 : (l.mergeSort leL).toArray[j]! = a := by
          rw [getElem!_pos _ _ (by simpa using hjl)]
          have := (List.getElem?_eq_some_iff.1 hj).2
          simpa using this
        rw [e3, List.getElem!_eq_getElem?_getD, hv]
        rfl
end Go.Proofs.YthbdpceobnkflaaDoor

namespace Go.Proofs.YthbdpceobnkflaaDoor
open Go Go.RowKit
set_option linter.unusedVariables false
set_option maxHeartbeats 3000000
set_option maxRecDepth 20000

/-- Up to where the same lies. -/
def rEnd (U : List UInt8) (u : UInt8) (e : Nat) : Nat := e + ((U.drop e).takeWhile (fun x => decide (x = u))).length
theorem rEnd_ge (U : List UInt8) (u : UInt8) (e : Nat) : e ≤ rEnd U u e := Nat.le_add_right _ _
theorem rEnd_le (U : List UInt8) (u : UInt8) (e : Nat) (h : e ≤ U.length) : rEnd U u e ≤ U.length := by
  unfold rEnd
  have h1 : ((U.drop e).takeWhile (fun x => decide (x = u))).length ≤ (U.drop e).length := (List.takeWhile_prefix _).length_le
  rw [List.length_drop] at h1
  omega
theorem rEnd_step {U : List UInt8} {u : UInt8} {e : Nat} (h : U[e]? = some u) : rEnd U u e = rEnd U u (e + 1) := by
  unfold rEnd
  obtain ⟨h1, h2⟩ := List.getElem?_eq_some_iff.1 h
  rw [List.drop_eq_getElem_cons h1, h2, List.takeWhile_cons, if_pos (decide_eq_true rfl), List.length_cons]
  omega
theorem rEnd_stop {U : List UInt8} {u : UInt8} {e : Nat} (h : U[e]? ≠ some u) : rEnd U u e = e := by
  unfold rEnd
  rcases h0 : U[e]? with _ | x
  · have := List.getElem?_eq_none_iff.1 h0
    rw [List.drop_eq_nil_of_le this]
    rfl
  · obtain ⟨h1, h2⟩ := List.getElem?_eq_some_iff.1 h0
    have hx : x ≠ u := fun e' => h (by rw [h0, e'])
    rw [List.drop_eq_getElem_cons h1, h2, List.takeWhile_cons, if_neg (by simp [hx])]
    rfl
/-- The marks, from an address on. -/
def mks (U : List UInt8) : Nat → Nat → List Mk
  | 0, _ => []
  | f + 1, a => match U[a]? with
    | none => []
    | some u => (if u = 0 then [] else [⟨(a : Int), ((rEnd U u (a + 1) : Nat) : Int) - (a : Int), decide (u = 1)⟩]) ++ mks U f (rEnd U u (a + 1))
def marksU (U : List UInt8) : List Mk := mks U 65536 0
theorem mks_len (U : List UInt8) : ∀ (f a : Nat), a ≤ U.length → (mks U f a).length ≤ U.length - a
  | 0, a, _ => Nat.zero_le _
  | f + 1, a, ha => by
    unfold mks
    rcases h0 : U[a]? with _ | u
    · exact Nat.zero_le _
    · have h1 := (List.getElem?_eq_some_iff.1 h0).1
      have h2 := rEnd_ge U u (a + 1)
      have h3 := rEnd_le U u (a + 1) h1
      have ih := mks_len U f (rEnd U u (a + 1)) h3
      simp only [List.length_append]
      by_cases hu : u = 0
      · rw [if_pos hu]
        simp only [List.length_nil]
        omega
      · rw [if_neg hu]
        simp only [List.length_cons, List.length_nil]
        omega
theorem marks_any' (y : World) (q : Nu) (p : Nat) (vl : Value) (U : List UInt8) (hs : Hid (Bx y q.s (sC q p vl) 70)) (hu : Hid (Bx y q.u (rU U) 123)) (hU : Hid (U.length = 65536)) :
    Calls Tryd.prog 35 #[.pointer (some ⟨q.s, 0, none⟩)] y fun e z => ∃ v, e = .returned v ∧ Hid (KL 89 3 cM y v (marksU U) z) := by
  have K0 : Hid (KL 89 3 cM y (.slice none 0 0) [] y) := KL.nil y
  have hB : Hid (∀ z, Below y.heap.size y z → Bx z q.s (sC q p vl) 70 ∧ Bx z q.u (rU U) 123) := fun z hz => ⟨hs.out.below hz, hu.out.below hz⟩
  clear hs hu
  go_enter Tryd.func35, Tryd.ntmps35
  go_wp2
  go_loopw [3, 4] (fun t3 t4 wz => ∃ (a : Nat) (sl : Option Addr) (cl : Nat) (l : List Mk) (z : World), z = wz ∧ t3 = .slice sl l.length cl ∧ t4 = .int .i64 (a : Int) ∧ Hid (a ≤ 65536 ∧ (∃ f, l ++ mks U f a = marksU U ∧ 65536 - a ≤ f)) ∧ Hid (KL 89 3 cM y (.slice sl l.length cl) l z)) (fun _ t4 _ => (65536 - intOf t4).toNat)
  case atStart => exact ⟨0, _, _, [], _, rfl, rfl, rfl, ⟨Nat.zero_le _, 65536, rfl, Nat.le_refl _⟩, K0⟩
  case round =>
    obtain ⟨a, sl, cl, l, z, rfl, rfl, rfl, J, K⟩ := hrel
    clear K0
    by_cases hlt : a < 65536
    · obtain ⟨u, hx⟩ : ∃ u, U[a]? = some u := ⟨_, List.getElem?_eq_getElem (by rw [hU.out]; exact hlt)⟩
      have hai : (a : Int) < 65536 := by omega
      have hlt' : Hid (a < 65536) := hlt
      have wa : IntKind.i64.wrap ((a : Int) + 1) = (a : Int) + 1 := by rw [IntKind.wrap_i64]; omega
      have ia := fun w => idxP (P := Tryd.prog) (g := q.u) (off := 0) (len := 65536) (cap := 65536) Tryd.underlying67 (s := 1) (by kernel_rfl) .i64 a w hlt
      rw [Nat.mul_one, Nat.zero_add] at ia
      have c2 : z.cell? ⟨q.s, 2, none⟩ = some (.slice (some ⟨q.u, 0, none⟩) 65536 65536) := (hB.out z K.out.low).1.c 2 _ rfl
      have ca : z.cell? ⟨q.u, a, none⟩ = some (.int .u8 (u.toNat : Int)) := (hB.out z K.out.low).2.c _ _ (rU_get _ _ _ hx)
      have hx' : Hid (U[a]? = some u) := hx
      clear hlt hx
      go_wp2
      go_loopw [5] (fun t5 wz => ∃ (e : Nat) (x : World), x = wz ∧ t5 = .int .i64 (e : Int) ∧ Hid (a + 1 ≤ e ∧ e ≤ 65536 ∧ rEnd U u e = rEnd U u (a + 1)) ∧ Hid (Below z.heap.size z x)) (fun t5 _ => (65536 - intOf t5).toNat)
      case atStart => exact ⟨a + 1, _, rfl, by simp, ⟨Nat.le_refl _, hlt'.out, rfl⟩, Below.refl _ _⟩
      case round =>
        obtain ⟨e, x, rfl, rfl, E, X⟩ := hrel
        have K1 : Hid (KL 89 3 cM y (.slice sl l.length cl) l x) := K.out.below X.out
        clear c2 ca
        have c2 : x.cell? ⟨q.s, 2, none⟩ = some (.slice (some ⟨q.u, 0, none⟩) 65536 65536) := (hB.out x K1.out.low).1.c 2 _ rfl
        have ca : x.cell? ⟨q.u, a, none⟩ = some (.int .u8 (u.toNat : Int)) := (hB.out x K1.out.low).2.c _ _ (rU_get _ _ _ hx'.out)
        by_cases hgo : U[e]? = some u
        · have hel : e < 65536 := by have := (List.getElem?_eq_some_iff.1 hgo).1; rw [hU.out] at this; exact this
          have hei : (e : Int) < 65536 := by omega
          have we : IntKind.i64.wrap ((e : Int) + 1) = (e : Int) + 1 := by rw [IntKind.wrap_i64]; omega
          have ie := fun w => idxP (P := Tryd.prog) (g := q.u) (off := 0) (len := 65536) (cap := 65536) Tryd.underlying67 (s := 1) (by kernel_rfl) .i64 e w hel
          rw [Nat.mul_one, Nat.zero_add] at ie
          have ce : x.cell? ⟨q.u, e, none⟩ = some (.int .u8 (u.toNat : Int)) := (hB.out x K1.out.low).2.c _ _ (rU_get _ _ _ hgo)
          have hq : ((u.toNat : Int) == (u.toNat : Int)) = true := by simp
          have E' : Hid (a + 1 ≤ e + 1 ∧ e + 1 ≤ 65536 ∧ rEnd U u (e + 1) = rEnd U u (a + 1)) := ⟨by have := E.out.1; omega, hel, by rw [← rEnd_step hgo]; exact E.out.2.2⟩
          have hel' : Hid (e < 65536) := hel
          clear hgo hel
          go_wp2
          go_quiet (fail)
          go_wp2
          go_roundw
          case rel => exact ⟨e + 1, _, rfl, by simp, E', below_drewN X.out⟩
          case measure => have := hel'.out; simp [intOf]; omega
        · have hend : Hid (rEnd U u (a + 1) = e) := by show _ = _; rw [← E.out.2.2]; exact rEnd_stop hgo
          have he1 : Hid (a + 1 ≤ e ∧ e ≤ 65536) := ⟨E.out.1, E.out.2.1⟩
          have ws : IntKind.i64.wrap ((e : Int) - a) = (e : Int) - a := by rw [IntKind.wrap_i64]; have := he1.out; omega
          have hfin : Hid (∃ f, 65536 - e ≤ f ∧ (l ++ (if u = 0 then [] else [⟨(a : Int), (e : Int) - (a : Int), decide (u = 1)⟩])) ++ mks U f e = marksU U) := by
            obtain ⟨f, h1, h2⟩ := J.out.2
            rcases f with _ | f
            · have := hlt'.out; omega
            · refine ⟨f, by have := he1.out; omega, ?_⟩
              rw [← h1]
              conv => rhs; unfold mks
              rw [hx'.out]
              simp only
              rw [hend.out, List.append_assoc]
          have hlen : Hid (l.length ≤ 65536) := by
            obtain ⟨f, h1, h2⟩ := J.out.2
            have h3 := mks_len U 65536 0 (Nat.zero_le _)
            have h4 : (l ++ mks U f a).length = (mks U 65536 0).length := congrArg List.length h1
            rw [List.length_append] at h4
            rw [hU.out] at h3
            show _ ≤ _
            omega
          have hy0 : Hid (y.heap.size ≤ x.heap.size) := K1.out.low.size
          have hone : ((u.toNat : Int) == 1) = decide (u = 1) := by
            rw [Bool.eq_iff_iff]
            simp
            constructor
            · intro h9; exact UInt8.toNat_inj.1 (by have : (1 : UInt8).toNat = 1 := rfl; omega)
            · intro h9; subst h9; rfl
          have hnz : ((u.toNat : Int) != 0) = !decide (u = 0) := by
            rw [Bool.eq_iff_iff]
            simp
            constructor
            · intro h9 h8; subst h8; exact h9 rfl
            · intro h9 h8; exact h9 (UInt8.toNat_inj.1 (by have : (0 : UInt8).toNat = 0 := rfl; omega))
          clear E
          by_cases hel : e < 65536
          · obtain ⟨xe, hxe⟩ : ∃ u, U[e]? = some u := ⟨_, List.getElem?_eq_getElem (by rw [hU.out]; exact hel)⟩
            have hei : (e : Int) < 65536 := by omega
            have ie := fun w => idxP (P := Tryd.prog) (g := q.u) (off := 0) (len := 65536) (cap := 65536) Tryd.underlying67 (s := 1) (by kernel_rfl) .i64 e w hel
            rw [Nat.mul_one, Nat.zero_add] at ie
            have ce : x.cell? ⟨q.u, e, none⟩ = some (.int .u8 (xe.toNat : Int)) := (hB.out x K1.out.low).2.c _ _ (rU_get _ _ _ hxe)
            have hq : ((xe.toNat : Int) == (u.toNat : Int)) = false := by
              rw [beq_eq_false_iff_ne]
              intro h9
              exact hgo (by rw [hxe, UInt8.toNat_inj.1 (Int.ofNat.inj h9)])
            clear hgo hel hxe
            by_cases hu0 : u = 0
            · rw [decide_eq_true hu0] at hnz
              rw [if_pos hu0, List.append_nil] at hfin
              clear hu0
              go_wp2
              go_quiet (fail)
              go_wp2
              go_roundw
              case rel => exact ⟨e, _, _, l, _, rfl, rfl, rfl, ⟨he1.out.2, by obtain ⟨f, h1, h2⟩ := hfin.out; exact ⟨f, h2, h1⟩⟩, K1.out.below (below_drewN (Below.refl _ _))⟩
              case measure => have := he1.out; have := hlt'.out; simp [intOf]; omega
            · rw [decide_eq_false hu0] at hnz
              rw [if_neg hu0] at hfin
              obtain ⟨ub, hub⟩ : ∃ b, decide (u = 1) = b := ⟨_, rfl⟩
              rw [hub] at hone hfin
              clear hu0 hub
              go_wp2
              go_quiet (fail)
              go_wp2_with (first
                | ((with_reducible refine at_bu _ _ (k3 ⟨(a : Int), (e : Int) - (a : Int), ub⟩) ?_ ?_ ?_ ?_ ?_); rfl; rfl; rfl; kernel_rfl)
                | (at_builtin; refine at_appL kMk rfl (.tmp 39) (.tmp 53) rfl y.heap.size _ l rfl ((K1.out.own.below (below_drewN (Below.refl _ _))).alloc _) (x.drewN nq).heap.size ⟨(a : Int), (e : Int) - (a : Int), ub⟩ rfl (one_bxL _ _ _) ?_ ?_ ?_; (have := hlen.out; omega); (have := hy0.out; simp; omega); intro v' z1 A; obtain ⟨sp9, cp9, e9, _⟩ := OwnL.open (c := cM) (s := 3) (fun _ => rfl) A.out.own; subst e9; have K2 : Hid (KL 89 3 cM y _ (l ++ [⟨(a : Int), (e : Int) - (a : Int), ub⟩]) z1) := (K1.out.below (below_drewN (Below.refl _ _))).add A.out; clear A))
              go_roundw
              case rel => exact ⟨e, _, _, _, _, rfl, by rw [List.length_append, List.length_singleton], rfl, ⟨he1.out.2, by obtain ⟨f, h1, h2⟩ := hfin.out; exact ⟨f, h2, h1⟩⟩, K2⟩
              case measure => have := he1.out; have := hlt'.out; simp [intOf]; omega
          · have hei : ¬ (e : Int) < 65536 := by omega
            have hed : decide ((e : Int) < 65536) = false := decide_eq_false hei
            clear hgo hel hei
            by_cases hu0 : u = 0
            · rw [decide_eq_true hu0] at hnz
              rw [if_pos hu0, List.append_nil] at hfin
              clear hu0
              go_wp2
              go_quiet (fail)
              go_wp2
              go_roundw
              case rel => exact ⟨e, _, _, l, _, rfl, rfl, rfl, ⟨he1.out.2, by obtain ⟨f, h1, h2⟩ := hfin.out; exact ⟨f, h2, h1⟩⟩, K1.out.below (below_drewN (Below.refl _ _))⟩
              case measure => have := he1.out; have := hlt'.out; simp [intOf]; omega
            · rw [decide_eq_false hu0] at hnz
              rw [if_neg hu0] at hfin
              obtain ⟨ub, hub⟩ : ∃ b, decide (u = 1) = b := ⟨_, rfl⟩
              rw [hub] at hone hfin
              clear hu0 hub
              go_wp2
              go_quiet (fail)
              go_wp2_with (first
                | ((with_reducible refine at_bu _ _ (k3 ⟨(a : Int), (e : Int) - (a : Int), ub⟩) ?_ ?_ ?_ ?_ ?_); rfl; rfl; rfl; kernel_rfl)
                | (at_builtin; refine at_appL kMk rfl (.tmp 39) (.tmp 53) rfl y.heap.size _ l rfl ((K1.out.own.below (below_drewN (Below.refl _ _))).alloc _) (x.drewN nq).heap.size ⟨(a : Int), (e : Int) - (a : Int), ub⟩ rfl (one_bxL _ _ _) ?_ ?_ ?_; (have := hlen.out; omega); (have := hy0.out; simp; omega); intro v' z1 A; obtain ⟨sp9, cp9, e9, _⟩ := OwnL.open (c := cM) (s := 3) (fun _ => rfl) A.out.own; subst e9; have K2 : Hid (KL 89 3 cM y _ (l ++ [⟨(a : Int), (e : Int) - (a : Int), ub⟩]) z1) := (K1.out.below (below_drewN (Below.refl _ _))).add A.out; clear A))
              go_roundw
              case rel => exact ⟨e, _, _, _, _, rfl, by rw [List.length_append, List.length_singleton], rfl, ⟨he1.out.2, by obtain ⟨f, h1, h2⟩ := hfin.out; exact ⟨f, h2, h1⟩⟩, K2⟩
              case measure => have := he1.out; have := hlt'.out; simp [intOf]; omega
    · have hae : a = 65536 := by have := J.out.1; omega
      subst hae
      have hfin : Hid (l = marksU U) := by
        obtain ⟨f, h1, h2⟩ := J.out.2
        show _ = _
        rw [← h1]
        have : mks U f 65536 = [] := by
          cases f with
          | zero => rfl
          | succ f =>
            unfold mks
            rw [List.getElem?_eq_none (by rw [hU.out]; exact Nat.le_refl _)]
        rw [this, List.append_nil]
      clear hlt
      go_wp2
      go_ret
      exact ⟨_, rfl, by rw [← hfin.out]; exact K⟩
end Go.Proofs.YthbdpceobnkflaaDoor
