/- All labels of a sheet, sorted. -/
import Derived.Test.YtkpfhnogpcigaaaDoorRJFp
import Derived.Test.YtkpfhnogpcigaaaDoorRJFs
import Derived.Maps.RangeRun
import Derived.Maps.Range
namespace Go.Proofs.YtkpfhnogpcigaaaDoorR
open Go Go.RowKit
set_option linter.unusedVariables false
set_option maxHeartbeats 3000000
set_option maxRecDepth 20000

/-- The labels that have come, by the stamps that were seen. -/
def comeL (N : List (ByteArray × Nat)) (seen : Array Nat) : List La := seen.toList.map fun i => toLa ((N.reverse[i]?).getD (⟨#[]⟩, 0))
theorem comeL_all {N : List (ByteArray × Nat)} {seen : Array Nat} (hn : seen.toList.Nodup) (hlt : ∀ i ∈ seen.toList, i < N.length) (hall : ∀ i, i < N.length → i ∈ seen.toList) : (comeL N seen).Perm (N.map toLa) := by
  have h1 : seen.toList.Perm (List.range N.length) := (List.perm_ext_iff_of_nodup hn List.nodup_range).2 fun i => ⟨fun h => List.mem_range.2 (hlt i h), fun h => hall i (List.mem_range.1 h)⟩
  have h2 : (List.range N.length).map (fun i => toLa ((N.reverse[i]?).getD (⟨#[]⟩, 0))) = N.reverse.map toLa := by
    apply List.ext_getElem?
    intro i
    rw [List.getElem?_map, List.getElem?_map]
    by_cases hi : i < N.length
    · rw [List.getElem?_range hi]
      rcases h9 : N.reverse[i]? with _ | x
      · have := List.getElem?_eq_none_iff.1 h9
        rw [List.length_reverse] at this
        omega
      · simp [h9]
    · rw [List.getElem?_eq_none (by rw [List.length_range]; omega), List.getElem?_eq_none (by rw [List.length_reverse]; omega)]
      rfl
  have h3 := h1.map (fun i => toLa ((N.reverse[i]?).getD (⟨#[]⟩, 0)))
  rw [h2] at h3
  exact h3.trans ((List.reverse_perm N).map toLa)
theorem app1_obj {α : Type} {t : TypeId} {s : Nat} {c : α → List Value} {B : Nat} {v v' : Value} {l : List α} {x : α} {z z1 : World} {o : Obj} (h : OwnL t s c B z v l) (A : App1L t s c B v l x v' (z.alloc o) z1) {g : Nat} {ob : Obj} (hb : z.heap[g]? = some ob) (hne : ∀ cs t f, ob ≠ .cells cs t f) : z1.heap[g]? = some ob := by
  have h1 : (z.alloc o).heap[g]? = some ob := ((below1 z o).block g (heap_lt hb)).trans hb
  refine (A.cu.blk g (heap_lt h1) fun j hF => ?_).trans h1
  obtain ⟨c9, h9⟩ := h.ty g hF.1
  have := hb.symm.trans h9
  simp at this
  exact hne _ _ _ this
theorem sorted_any (I : Inhabited La) (q : Nu) (p : Nat) (vl : Value) (N : List (ByteArray × Nat)) (y : World) (hs : Hid (Bx y q.s (sC q p vl) 85)) (hm : Hid (MapE y q.m N)) (hN : ∀ x ∈ N, x.1.size ≤ 1000000) (hl : N.length ≤ 1000000) :
    Calls Tryd.prog 53 #[.pointer (some ⟨q.s, 0, none⟩)] y (SoE y N) := by
  have c4 : y.cell? ⟨q.s, 4, none⟩ = some (.map (some q.m)) := hs.out.c 4 _ rfl
  have hrg := run_range_map (P := Tryd.prog) y 83 9 3 q.m (esOf N).toArray N.length mapUL hm.out.1
  obtain ⟨it, hit⟩ : ∃ o, Obj.mapIter (some q.m) N.length #[] N.length = o := ⟨_, rfl⟩
  have hst : Hid (KL 61 2 cLa y (.slice none 0 0) [] (y.alloc it) ∧ (y.alloc it).heap[q.m]? = some (.map (esOf N).toArray N.length) ∧ (y.alloc it).heap[y.heap.size]? = some (.mapIter (some q.m) N.length #[] N.length)) := by
    refine ⟨⟨OwnL.nil _ _, below1 y _⟩, ((below1 y it).block _ hm.out.lt).trans hm.out.1, ?_⟩
    rw [hit]
    exact alloc_last' y it
  rw [hit] at hrg
  have hmN : Hid (MapE y q.m N ∧ (∀ x ∈ N, x.1.size ≤ 1000000) ∧ N.length ≤ 1000000) := ⟨hm.out, hN, hl⟩
  have hfin : Hid (∀ sp cap z, Below y.heap.size y z → LiesL 2 cLa z sp (sortN N) → N.length ≤ cap → (∀ a, sp = some a → y.heap.size ≤ a.block) → SoE y N (.returned (.slice sp N.length cap)) z) := fun sp cap z h1 h2 h3 h4 => ⟨sp, cap, rfl, h1, h2, h3, h4⟩
  generalize SoE y N = Fin at hfin ⊢
  clear hm hN hl hs hit
  obtain ⟨n, hn⟩ : ∃ n, N.length = n := ⟨_, rfl⟩
  have hnn : Hid (N.length = n) := hn
  go_enter Tryd.func53, Tryd.ntmps53
  go_wp2
  go_loopw [3] (fun t3 wz => ∃ (sl : Option Addr) (cl : Nat) (l : List La) (seen : Array Nat) (z : World), z = wz ∧ t3 = .slice sl l.length cl ∧ Hid (seen.toList.Nodup ∧ (∀ i ∈ seen.toList, i < N.length) ∧ l = comeL N seen ∧ l.length + (leftOf (esOf N).toArray seen).size ≤ N.length) ∧ Hid (KL 61 2 cLa y (.slice sl l.length cl) l z ∧ z.heap[q.m]? = some (.map (esOf N).toArray N.length) ∧ z.heap[y.heap.size]? = some (.mapIter (some q.m) N.length seen N.length))) (fun _ wz => wz.rangeLeft q.m y.heap.size)
  case atStart => exact ⟨none, 0, [], #[], _, rfl, rfl, ⟨List.nodup_nil, fun i h => (by simp at h), rfl, by
    have h9 : (leftOf (esOf N).toArray #[]).size ≤ (esOf N).toArray.size := by unfold leftOf; exact Array.size_filter_le
    have h8 := esOf_len N
    simp at h9
    simp
    omega⟩, hst⟩
  case round =>
    obtain ⟨sl, cl, l, seen, z, rfl, rfl, J, K⟩ := hrel
    clear hst hrg c4
    have hold : ∀ x ∈ (esOf N).toArray.toList, x.born < N.length := fun x hx => by
      obtain ⟨i, hi, ei⟩ := List.getElem_of_mem hx
      obtain ⟨w, hw, rfl⟩ := esOf_at N i x (by rw [List.getElem?_eq_getElem hi, ei])
      have := (List.getElem?_eq_some_iff.1 hw).1
      rw [List.length_reverse] at this
      exact this
    have hborn : ((esOf N).toArray.toList.map (·.born)).Nodup := by
      have e : (esOf N).toArray.toList.map (·.born) = List.range N.length := by
        apply List.ext_getElem?
        intro i
        rw [List.getElem?_map]
        by_cases hi : i < N.length
        · rw [List.getElem?_range hi, List.getElem?_eq_getElem (by simpa [esOf_len] using hi)]
          obtain ⟨w, hw, e9⟩ := esOf_at N i ((esOf N).toArray.toList[i]'(by simpa [esOf_len] using hi)) (by rw [← List.getElem?_eq_getElem])
          rw [e9]
          rfl
        · rw [List.getElem?_eq_none (by simp [esOf_len]; omega), List.getElem?_eq_none (by simp; omega)]
          rfl
      rw [e]
      exact List.nodup_range
    rcases run_next_at (P := Tryd.prog) z 0 y.heap.size q.m N.length N.length seen (esOf N).toArray N.length K.out.2.2 K.out.2.1 hold (Nat.le_refl _) with ⟨h0, hrun⟩ | ⟨e, he, w1, hal, hrun⟩
    · have hall : ∀ i, i < N.length → i ∈ seen.toList := fun i hi => by
        have hx : (esOf N).toArray.toList[i]'(by simpa [esOf_len] using hi) ∈ (esOf N).toArray.toList := List.getElem_mem _
        have h9 := all_seen (esOf N).toArray seen h0 _ hx
        obtain ⟨w, hw, e9⟩ := esOf_at N i ((esOf N).toArray.toList[i]'(by simpa [esOf_len] using hi)) (by rw [← List.getElem?_eq_getElem])
        rw [e9] at h9
        simpa [enN] using h9
      have hp := comeL_all J.out.1 J.out.2.1 hall
      rw [← J.out.2.2.1] at hp
      have hlen : l.length = N.length := by rw [hp.length_eq, List.length_map]
      have hsrt : Hid (l.mergeSort leL = sortN N ∧ l.length = N.length) := ⟨sort_perm hp, hlen⟩
      have hSt := sort_any I y z sl cl l K.out.1 (by rw [hlen]; exact hmN.out.2.2)
      have hbk : Hid (∀ a, sl = some a → y.heap.size ≤ a.block) := by
        obtain ⟨q1, k1, e1, -, b1, -, -⟩ := OwnL.open (c := cLa) (s := 2) (fun _ => rfl) K.out.1.own
        injection e1 with e1 e2 e3
        rw [e1]
        exact fun a ha => (b1 a ha).2.2.1
      clear hall hp hlen h0 hold hborn hn
      go_wp2_with (go_at_call 69; refine hSt.mono ?_; rintro e z' ⟨rfl, H⟩)
      have h9 := hfin.out sl cl z' H.out.1 (by rw [← hsrt.out.1]; exact H.out.2.1) (by rw [← hsrt.out.2]; exact H.out.2.2) hbk.out
      rw [← hsrt.out.2] at h9
      exact h9
    · obtain ⟨hem, hes⟩ := mem_left he
      obtain ⟨i, hi, ei⟩ := List.getElem_of_mem hem
      obtain ⟨x, hx, hex⟩ := esOf_at N i e (by rw [List.getElem?_eq_getElem hi, ei])
      have hil : i < N.length := by
        have := (List.getElem?_eq_some_iff.1 hx).1
        rw [List.length_reverse] at this
        exact this
      have hxm : x ∈ N := List.mem_reverse.1 (List.mem_of_getElem? hx)
      have hsh := left_shrinks (esOf N).toArray seen e he
      subst hex
      have hbi : (enN x i).born = i := rfl
      rw [hbi] at hes hsh hrun
      have hr1 : w1.heap[y.heap.size]? = some (.mapIter (some q.m) N.length seen N.length) := by rcases hal with rfl | rfl <;> exact K.out.2.2
      have hb1 : w1.heap[q.m]? = some (.map (esOf N).toArray N.length) := by rcases hal with rfl | rfl <;> exact K.out.2.1
      have hqm : q.m ≠ y.heap.size := fun e9 => by rw [e9, hr1] at hb1; cases hb1
      have hset : ∀ k, k ≠ y.heap.size → (Go.ChangeMaps.setBlock w1 y.heap.size (.mapIter (some q.m) N.length (seen.push i) N.length)).heap[k]? = w1.heap[k]? := fun k hk => by unfold Go.ChangeMaps.setBlock; simp [hk.symm]
      have hsetr : (Go.ChangeMaps.setBlock w1 y.heap.size (.mapIter (some q.m) N.length (seen.push i) N.length)).heap[y.heap.size]? = some (.mapIter (some q.m) N.length (seen.push i) N.length) := by unfold Go.ChangeMaps.setBlock; simp [heap_lt hr1]
      have hw1 : Below z.heap.size z w1 := by rcases hal with rfl | rfl; exact Below.refl _ _; exact below_drew (Below.refl _ _)
      obtain ⟨z1, hz1⟩ : ∃ z1, Go.ChangeMaps.setBlock w1 y.heap.size (.mapIter (some q.m) N.length (seen.push i) N.length) = z1 := ⟨_, rfl⟩
      rw [hz1] at hrun hset hsetr
      have hzs : z1.heap.size = w1.heap.size := by rw [← hz1]; unfold Go.ChangeMaps.setBlock; simp
      have hlow1 : Below y.heap.size w1 z1 := by rw [← hz1]; exact ⟨rfl, rfl, rfl, by unfold Go.ChangeMaps.setBlock; simp, fun k hk => by unfold Go.ChangeMaps.setBlock; simp [show y.heap.size ≠ k by omega]⟩
      have hent := run_entry_at (P := Tryd.prog) z1 y.heap.size q.m N.length seen (esOf N).toArray N.length (enN x i) hsetr ((hset _ hqm).trans hb1) hem hborn
      have K1 : Hid (KL 61 2 cLa y (.slice sl l.length cl) l z1 ∧ z1.heap[q.m]? = some (.map (esOf N).toArray N.length) ∧ z1.heap[y.heap.size]? = some (.mapIter (some q.m) N.length (seen.push i) N.length)) := by
        refine ⟨⟨(K.out.1.own.below hw1).keepB fun g eg => hset g fun e9 => ?_, (K.out.1.low.trans (hw1.mono K.out.1.low.size)).trans hlow1⟩, (hset _ hqm).trans hb1, hsetr⟩
        subst e9
        obtain ⟨c9, h9⟩ := (K.out.1.own.below hw1).ty _ eg
        have := h9.symm.trans hr1
        simp at this
      have J1 : Hid ((seen.push i).toList.Nodup ∧ (∀ j ∈ (seen.push i).toList, j < N.length) ∧ l ++ [toLa x] = comeL N (seen.push i) ∧ (l ++ [toLa x]).length + (leftOf (esOf N).toArray (seen.push i)).size ≤ N.length) := by
        have hni : i ∉ seen.toList := by simpa using hes
        refine ⟨?_, ?_, ?_, ?_⟩
        · rw [Array.toList_push]
          refine List.nodup_append.2 ⟨J.out.1, by simp, fun a ha b hb e9 => ?_⟩
          rw [List.mem_singleton.1 hb] at e9
          exact hni (e9 ▸ ha)
        · intro j hj
          rw [Array.toList_push] at hj
          rcases List.mem_append.1 hj with hj | hj
          · exact J.out.2.1 j hj
          · rw [List.mem_singleton.1 hj]; exact hil
        · unfold comeL
          rw [Array.toList_push, List.map_append, J.out.2.2.1]
          unfold comeL
          simp [hx]
        · rw [List.length_append, List.length_singleton]
          have := J.out.2.2.2
          omega
      have hms : Hid (z1.rangeLeft q.m y.heap.size < z.rangeLeft q.m y.heap.size) := by
        show _ < _
        unfold World.rangeLeft
        rw [K1.out.2.1, K1.out.2.2, K.out.2.1, K.out.2.2]
        exact hsh
      have hCl := fun v => clone_any x.1 v (hmN.out.2.1 x hxm)
      have hln : Hid (l.length ≤ 1000000) := by have h1 := J.out.2.2.2; have h2 := hmN.out.2.2; show _ ≤ _; omega
      replace hCl : Hid _ := hCl
      simp only [enN] at hrun hent
      clear hal hset hsetr hw1 hz1 hzs hlow1 hqm hr1 hb1 hsh hbi hes hil hem hi ei he hold hborn hn K J hx hxm
      go_wp2_with (first
        | (go_at_call 68; refine (hCl.out _).mono ?_; rintro e9 z2 ⟨rfl, H2⟩; have K2 : Hid (KL 61 2 cLa y (.slice sl l.length cl) l z2 ∧ z2.heap[q.m]? = some (.map (esOf N).toArray N.length) ∧ z2.heap[y.heap.size]? = some (.mapIter (some q.m) N.length (seen.push i) N.length)) := ⟨K1.out.1.below H2, (H2.block _ (heap_lt K1.out.2.1)).trans K1.out.2.1, (H2.block _ (heap_lt K1.out.2.2)).trans K1.out.2.2⟩; clear H2)
        | (at_builtin; refine at_appL kLa rfl (.tmp 16) (.tmp 21) rfl y.heap.size _ l rfl (K2.out.1.own.alloc _) z2.heap.size (toLa x) rfl (one_bxL _ _ _) ?_ ?_ ?_; (have := hln.out; omega); (have := K2.out.1.low.size; simp; omega); intro v' z3 A; obtain ⟨sp9, cp9, e9, _⟩ := OwnL.open (c := cLa) (s := 2) (fun _ => rfl) A.out.own; subst e9; have K3 : Hid (KL 61 2 cLa y _ (l ++ [toLa x]) z3 ∧ z3.heap[q.m]? = some (.map (esOf N).toArray N.length) ∧ z3.heap[y.heap.size]? = some (.mapIter (some q.m) N.length (seen.push i) N.length)) := ⟨K2.out.1.add A.out, app1_obj K2.out.1.own A.out K2.out.2.1 (fun cs t f e => by cases e), app1_obj K2.out.1.own A.out K2.out.2.2 (fun cs t f e => by cases e)⟩; clear A))
      go_roundw
      case rel => exact ⟨_, _, _, _, _, rfl, by rw [List.length_append, List.length_singleton], J1, K3⟩
      case measure =>
        refine Nat.lt_of_le_of_lt (Nat.le_of_eq ?_) hms.out
        unfold World.rangeLeft
        rw [K1.out.2.1, K1.out.2.2, K3.out.2.1, K3.out.2.2]
end Go.Proofs.YtkpfhnogpcigaaaDoorR
