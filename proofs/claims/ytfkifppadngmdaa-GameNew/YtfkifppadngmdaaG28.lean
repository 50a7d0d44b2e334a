/- The program's own: one order, whole; a machine with a program. -/
import Derived.Test.YtfkifppadngmdaaG27
namespace Go.Proofs.Ytfkifppadngmdaa
open Go Go.RowKit Go.Shelf
set_option linter.unusedVariables false
set_option maxHeartbeats 1000000
set_option maxRecDepth 20000

theorem next_any (w : World) (C : Array Value) (g : Gm) (hg : GL w C g) : Calls Try.prog 14 #[.agg C] w fun e w' => e = .returned (.tuple #[.agg (o6 (nextG g).1), .int .u8 ((nextG g).2 : Int)]) ∧ Below w.heap.size w w' := by
  rcases hm : g.may with _ | _
  · have e : nextG g = (od0, 0) := by unfold nextG; rw [hm]; rfl
    rw [e]
    exact next_bad w C g hg hm
  · rcases hf : fitG g.pc 2 with _ | _
    · have hi := hf
      rw [fit_in g.pc 2 (by decide)] at hi
      have e : nextG g = (od0, 7) := by unfold nextG; rw [hm, if_pos rfl, show (inM g.pc && inM (g.pc + 1)) = false from hi]; rfl
      rw [e]
      exact next_out w C g hg hm hf
    · have hi := hf
      rw [fit_in g.pc 2 (by decide)] at hi
      rcases hd : decB (wordG g) with _ | _
      · have e : nextG g = (od0, 4) := by unfold nextG; rw [hm, if_pos rfl, show (inM g.pc && inM (g.pc + 1)) = true from hi, if_pos rfl, hd]; rfl
        rw [e]
        exact next_none w C g hg hm hf _ _ rfl rfl hd
      · by_cases ho : (decO (wordG g)).op = 1
        · have e : nextG g = (decO (wordG g), 3) := by unfold nextG; rw [hm, if_pos rfl, show (inM g.pc && inM (g.pc + 1)) = true from hi, if_pos rfl, hd, if_pos rfl, if_pos ho]
          rw [e]
          exact next_machine w C g hg hm hf _ _ rfl rfl hd ho
        · have e : nextG g = (decO (wordG g), 1) := by unfold nextG; rw [hm, if_pos rfl, show (inM g.pc && inM (g.pc + 1)) = true from hi, if_pos rfl, hd, if_pos rfl, if_neg ho]
          rw [e]
          exact next_order w C g hg hm hf _ _ rfl rfl hd ho
theorem step_any (w : World) (C D : Array Value) (g : Gm) (f : Fo) (d : Fd) (hg : GL w C g) (hf : FL w D f) (hd : d.Ok) (hs : smaG g f) :
    Calls Try.prog 11 #[.agg C, .agg D, .agg (dCs d)] w fun e w' => ∃ C', e = .returned (.tuple #[.agg C', .int .u8 ((stepG g f d).2.1 : Int), .int .i64 ((stepG g f d).2.2 : Int)]) ∧ GO w.heap.size w' C' (stepG g f d).1 ∧ Below w.heap.size w w' := by
  rcases hm : g.may with _ | _
  · have e : stepG g f d = (gz, 0, 180) := by unfold stepG; rw [hm]; rfl
    rw [e]
    exact step_bad w C D g f d hg hf hd hs hm
  · rcases hfo : fontG f with _ | _
    · have e := step_arg (d := d) hm (by rw [hfo]; rfl)
      rw [e]
      exact step_font w C D g f d hg hf hd hs hm hfo
    · by_cases hk : d.ky ≤ 15
      · have hnx : Hid (∀ y, Below w.heap.size w y → Calls Try.prog 14 #[.agg C] y fun e w' => e = .returned (.tuple #[.agg (o6 (nextG g).1), .int .u8 ((nextG g).2 : Int)]) ∧ Below y.heap.size y w') := fun y hy => next_any y C g (hg.below hy)
        have e0 : stepG g f d = if (nextG g).2 = 1 then if (doG g.on (nextG g).1 f d).2 = 1 then ((doG g.on (nextG g).1 f d).1, 1, 0) else (g, (doG g.on (nextG g).1 f d).2, 0) else (g, (nextG g).2, 0) := by
          unfold stepG
          rw [if_pos hm, if_pos (by rw [hfo]; simpa using hk)]
        by_cases h1 : (nextG g).2 = 1
        · rw [if_pos h1] at e0
          obtain ⟨_, _, _, hdb, eo, hop⟩ := next_done h1
          have hb := dec_op _ hdb
          rw [← eo] at hb hop
          have hok : (nextG g).1.Ok := by rw [eo]; exact dec_ok _
          rw [h1] at hnx
          by_cases h2 : (doG g.on (nextG g).1 f d).2 = 1
          · rw [if_pos h2] at e0
            rw [e0]
            exact step_done w C D g f d hg hf hd hs hm hfo hk (nextG g).1 hnx hok _ rfl (by omega) hb.2 _ rfl _ rfl h2
          · rw [if_neg h2] at e0
            rw [e0]
            exact step_not w C D g f d hg hf hd hs hm hfo hk (nextG g).1 hnx hok _ rfl (by omega) hb.2 _ rfl _ rfl h2
        · rw [if_neg h1] at e0
          rw [e0]
          exact step_plain w C D g f d hg hf hd hs hm hfo hk (nextG g).1 (nextG g).2 hnx h1
      · have e := step_arg (f := f) (d := d) hm (by rw [hfo]; simpa using hk)
        rw [e]
        exact step_key w C D g f d hg hf hd hs hm hfo (by omega)
theorem at_mkZ {ops : Array Oper} {o : Oper} {a : Act} {w : World} {Q : Exit → Act → World → Prop} {rest : List Oper} (n : Nat) (hn : n ≤ 1000000) (hg : o.guard = none) (ho : o.op = .makeSlice 22 (.const (.int .i64 (n : Int))) (.const (.int .i64 (n : Int)))) (k : wpList Try.prog ops Q rest (a.put o.dst (.slice (some ⟨w.heap.size, 0, none⟩) n n)) (w.alloc (.cells (rowB (List.replicate n 0)) 5))) : wpList Try.prog ops Q (o :: rest) a w := by
  refine wpList_plain hg fun K hK => ?_
  have hr := mkZ n hn w
  have e1 : a.eval (.const (.int .i64 (n : Int))) = .int .i64 (n : Int) := rfl
  unfold Oper.wp execOp
  simp only [ho, e1, Sem.run_bind, hr, Result.andThen_ok, Sem.run_pure]
  exact hK _ _ k
theorem at_alG {ops : Array Oper} {o : Oper} {a : Act} {w : World} {Q : Exit → Act → World → Prop} {rest : List Oper} (hg : o.guard = none) (ho : o.op = .alloc 29) (k : wpList Try.prog ops Q rest (a.put o.dst (.pointer (some ⟨w.heap.size, 0, none⟩))) (w.alloc (.cells #[.int .u8 0, .int .u8 0, .int .u8 0, .int .u8 0, .int .u8 0, .int .u8 0, .int .u8 0, .int .u8 0, .int .u8 0, .int .u8 0, .int .u8 0, .int .u8 0, .int .u8 0, .int .u8 0, .int .u8 0, .int .u8 0, .int .u16 0, .int .u16 0, .slice none 0 0, .int .u8 0, .int .u8 0, .slice none 0 0, .slice none 0 0] 29))) : wpList Try.prog ops Q (o :: rest) a w := by
  refine wpList_plain hg fun K hK => ?_
  have hr : (execOp a.eval o).run Try.prog w = .ok (.value (.pointer (some ⟨w.heap.size, 0, none⟩))) (w.alloc (.cells #[.int .u8 0, .int .u8 0, .int .u8 0, .int .u8 0, .int .u8 0, .int .u8 0, .int .u8 0, .int .u8 0, .int .u8 0, .int .u8 0, .int .u8 0, .int .u8 0, .int .u8 0, .int .u8 0, .int .u8 0, .int .u8 0, .int .u16 0, .int .u16 0, .slice none 0 0, .int .u8 0, .int .u8 0, .slice none 0 0, .slice none 0 0] 29)) := by
    unfold execOp
    simp only [ho]
    kernel_rfl
  unfold Oper.wp
  rw [hr]
  exact hK _ _ k
theorem built_n (p m : Nat) : Try.prog.built 29 [(2, .int .u16 512), (6, .slice (some ⟨p, 0, none⟩) 256 256), (7, .slice (some ⟨m, 0, none⟩) 3232 3232)] = some (gCs (List.replicate 16 0) 0 512 (.slice none 0 0) 0 0 (.slice (some ⟨p, 0, none⟩) 256 256) (.slice (some ⟨m, 0, none⟩) 3232 3232)) := by kernel_rfl
theorem new_long (w : World) (sp : Option Addr) (n cap : Nat) (hn : 3232 < n) : Calls Try.prog 6 #[.slice sp n cap] w fun e w' => ∃ C', e = .returned (.tuple #[.agg C', .int .i64 2]) ∧ Hid (GO w.heap.size w' C' gz ∧ Below w.heap.size w w') := by
  have q1 : decide ((3232 : Int) < (n : Int)) = true := by simp; omega
  obtain ⟨Z, hZ⟩ : ∃ x : Array Value, Hid (x = gZ) := ⟨_, (rfl : gZ = gZ)⟩
  have hZ' : Hid (Z.size = 23) := by show _ = _; rw [hZ.out]; rfl
  clear hn
  go_enter Try.func6, Try.ntmps6
  go_wp2_with (first
    | ((with_reducible refine gen_world (w.alloc (.cells #[.int .u8 0, .int .u8 0, .int .u8 0, .int .u8 0, .int .u8 0, .int .u8 0, .int .u8 0, .int .u8 0, .int .u8 0, .int .u8 0, .int .u8 0, .int .u8 0, .int .u8 0, .int .u8 0, .int .u8 0, .int .u8 0, .int .u16 0, .int .u16 0, .slice none 0 0, .int .u8 0, .int .u8 0, .slice none 0 0, .slice none 0 0] 29)) (fun y => Fm w [(w.heap.size, Z, 29)] y ∧ y.heap.size = w.heap.size + 1) ?_ ?_); (rw [hZ.out]; unfold gZ; exact ⟨Fm.one w _ _, by simp [World.size_alloc]⟩); intro y0 K0)
    | ((with_reducible refine at_bu #[] [] gZ ?_ ?_ ?_ builtG0 ?_); kernel_rfl; rfl; rfl)
    | ((with_reducible refine at_st rtG w.heap.size Z gZ ?_ ?_ ?_ ?_ (.tmp 2) (.tmp 8) ?_ ?_ ?_ ?_ ?_); exact K0.out.1.bx 0 _ _ _ rfl; exact hZ'.out; rfl; kernel_rfl; rfl; rfl; rfl; rfl; intro yE HE; have KE : Hid (Fm w [(w.heap.size, gZ, 29)] yE) := K0.out.1.put 0 _ _ _ _ rfl HE.out))
  exact ret_two rtG rfl rfl rfl (KE.out.bx 0 _ _ _ rfl) rfl rfl ⟨gZ, rfl, ⟨GO.zero _ _, KE.out.low⟩⟩
/-- A copy to the front of a block, of any bytes, of none too. -/
theorem at_copyN {ops : Array Oper} {rest : List Oper} {o : Oper} {a : Act} {w : World} {Q : Exit → Act → World → Prop} (hgd : o.guard = none) (d e : Operand)
    (ho : o.op = .call { callee := .builtin .copy, args := #[d, e], argTypes := #[22, 22] }) (g N dCap : Nat) (sp : Option Addr) (n sCap : Nat) (hd : a.eval d = .slice (some ⟨g, 0, none⟩) N dCap) (hs : a.eval e = .slice sp n sCap)
    (hg : Bx w g (rowB (List.replicate N 0)) 5) (l : List UInt8) (hlen : l.length = n) (hle : n ≤ N) (hl : LB w sp l)
    (h : ∀ w', Hid (Bx w' g (rowB (l ++ List.replicate (N - n) 0)) 5 ∧ (∀ B, B ≤ g → Below B w w') ∧ ∀ q, q ≠ g → w'.heap[q]? = w.heap[q]?) → wpList Try.prog ops Q rest (a.put o.dst (goInt n)) w') : wpList Try.prog ops Q (o :: rest) a w := by
  by_cases h0 : n = 0
  · subst h0
    obtain rfl : l = [] := List.eq_nil_of_length_eq_zero hlen
    refine wpList_plain hgd fun K' hK => ?_
    have hrun := run_copy_none (P := Try.prog) w 22 22 o.type 5 (some ⟨g, 0, none⟩) sp N dCap 0 sCap Try.underlying22 (by kernel_rfl) (Nat.zero_min _)
    unfold Oper.wp
    simp [execOp, ho, resolve, invoke, builtin, hd, hs, hrun, Result.andThen]
    exact hK _ _ (h w ⟨by rw [List.nil_append, Nat.sub_zero]; exact hg, fun B _ => Below.refl _ _, fun _ _ => rfl⟩)
  · obtain ⟨gb, ob, rfl⟩ := lb_some hl (by omega)
    refine at_copyO hgd d e ho g 0 N dCap ⟨gb, ob, none⟩ n sCap hd hs (rowB (List.replicate N 0)) 5 hg l hlen hle (fun j v hj => ?_) (by rw [rowB_size, List.length_replicate]; omega) ?_
    · rw [Addr.add_lit]
      have hjl : j < l.length := by have := (List.getElem?_eq_some_iff.1 hj).1; rw [List.length_map] at this; exact this
      rw [lb_at hl j hjl]
      rw [List.getElem?_map, List.getElem?_eq_getElem hjl] at hj
      injection hj with hj
      rw [← hj, List.getD_eq_getElem?_getD, List.getElem?_eq_getElem hjl]
      rfl
    · intro w' H
      refine h w' ⟨?_, H.out.2⟩
      have e1 : (splice (rowB (List.replicate N 0)).toList 0 (l.map byV)).toArray = rowB (l ++ List.replicate (N - n) 0) := by
        unfold rowB splice
        rw [List.map_append, List.length_map, hlen]
        simp
      have := H.out.1
      rw [e1] at this
      exact this
theorem new_fit (w : World) (sp : Option Addr) (cap n : Nat) (l : List UInt8) (hl : Hid (LB w sp l)) (hln : l.length = n) (hn : n ≤ 3232) : Calls Try.prog 6 #[.slice sp n cap] w fun e w' => ∃ C', e = .returned (.tuple #[.agg C', .int .i64 0]) ∧ Hid (GO w.heap.size w' C' (newG l) ∧ Below w.heap.size w w') := by
  have q1 : decide ((3232 : Int) < (n : Int)) = false := by simp; omega
  obtain ⟨Z, hZ⟩ : ∃ x : Array Value, Hid (x = gZ) := ⟨_, (rfl : gZ = gZ)⟩
  have hZ' : Hid (Z.size = 23) := by show _ = _; rw [hZ.out]; rfl
  have hln' : Hid (l.length = n ∧ n ≤ 3232) := ⟨hln, hn⟩
  have i1 : (n : Int) ≤ 3232 := by omega
  clear hn hln
  go_enter Try.func6, Try.ntmps6
  go_upto_region 3 with (
((with_reducible refine gen_world (w.alloc (.cells #[.int .u8 0, .int .u8 0, .int .u8 0, .int .u8 0, .int .u8 0, .int .u8 0, .int .u8 0, .int .u8 0, .int .u8 0, .int .u8 0, .int .u8 0, .int .u8 0, .int .u8 0, .int .u8 0, .int .u8 0, .int .u8 0, .int .u16 0, .int .u16 0, .slice none 0 0, .int .u8 0, .int .u8 0, .slice none 0 0, .slice none 0 0] 29)) (fun y => Fm w [(w.heap.size, Z, 29)] y ∧ y.heap.size = w.heap.size + 1) ?_ ?_); (rw [hZ.out]; unfold gZ; exact ⟨Fm.one w _ _, by simp [World.size_alloc]⟩); intro y0 K0))
  go_cut [4] (fun pp wz => ∃ (p m b : Nat) (y : World), y = wz ∧ pp = .pointer (some ⟨b, 0, none⟩) ∧ Hid (Below y0.heap.size y0 y ∧ Bx y b (gCs (List.replicate 16 0) 0 512 (.slice none 0 0) 0 0 (.slice (some ⟨p, 0, none⟩) 256 256) (.slice (some ⟨m, 0, none⟩) 3232 3232)) 29 ∧ Bx y p (rowB (List.replicate 256 0)) 5 ∧ Bx y m (rowB (List.replicate 3232 0)) 5 ∧ p ≠ m ∧ y0.heap.size ≤ p ∧ y0.heap.size ≤ m ∧ y0.heap.size ≤ b))
  case first =>
    have Kz0 : Hid (Below y0.heap.size y0 y0.drew) := below_drew (Below.refl _ _)
    refine wp_region_held_drew (S := fun y => Below y0.heap.size y0 y) (by kernel_rfl) Kz0.out (fun hH => ?_)
    generalize y0.drew = z0 at hH Kz0 ⊢
    refine wpAnyH_ready (rs := [0, 1, 3]) (by kernel_rfl) (by simp) (fun i hi => ?_)
    rcases List.mem_cons.1 hi with rfl | hi
    · clear hi
      refine wpOp_list (o := ⟨some 9, _, _, _, _, _⟩) rfl ?_
      refine at_mkZ 256 (by decide) rfl rfl ?_
      have Kz1 : Hid (Below y0.heap.size y0 (z0.alloc (.cells (rowB (List.replicate 256 0)) 5))) := Kz0.out.trans ((below1 z0 _).mono Kz0.out.size)
      have Xp : Hid (Bx (z0.alloc (.cells (rowB (List.replicate 256 0)) 5)) z0.heap.size (rowB (List.replicate 256 0)) 5 ∧ y0.heap.size ≤ z0.heap.size) := ⟨one_bxL z0 _ _, Kz0.out.size⟩
      refine ⟨Kz1.out, ?_⟩
      replace hH := Kz1.out
      generalize z0.alloc (.cells (rowB (List.replicate 256 0)) 5) = z1 at hH Kz1 Xp  ⊢
      obtain ⟨p, hp⟩ : ∃ x, z0.heap.size = x := ⟨_, rfl⟩
      rw [hp] at Xp 
      rw [hp]
      clear hp
      try simp only [Act.put, List.setIfInBounds_toArray, List.set_cons_zero, List.set_cons_succ]
      refine wpAnyH_ready (rs := [1, 3]) (by kernel_rfl) (by simp) (fun i hi => ?_)
      rcases List.mem_cons.1 hi with rfl | hi
      · clear hi
        refine wpOp_list (o := ⟨some 10, _, _, _, _, _⟩) rfl ?_
        refine at_mkZ 3232 (by decide) rfl rfl ?_
        have Kz2 : Hid (Below y0.heap.size y0 (z1.alloc (.cells (rowB (List.replicate 3232 0)) 5))) := Kz1.out.trans ((below1 z1 _).mono Kz1.out.size)
        have Xm : Hid (Bx (z1.alloc (.cells (rowB (List.replicate 3232 0)) 5)) z1.heap.size (rowB (List.replicate 3232 0)) 5 ∧ y0.heap.size ≤ z1.heap.size) := ⟨one_bxL z1 _ _, Kz1.out.size⟩
        have ne0 : Hid (p < z1.heap.size) := heap_lt Xp.out.1
        replace Xp : Hid (Bx (z1.alloc (.cells (rowB (List.replicate 3232 0)) 5)) p (rowB (List.replicate 256 0)) 5 ∧ y0.heap.size ≤ p) := ⟨((below1 z1 (.cells (rowB (List.replicate 3232 0)) 5)).block p (heap_lt Xp.out.1)).trans Xp.out.1, Xp.out.2⟩
        refine ⟨Kz2.out, ?_⟩
        replace hH := Kz2.out
        generalize z1.alloc (.cells (rowB (List.replicate 3232 0)) 5) = z2 at hH Kz2 Xm Xp ⊢
        obtain ⟨m, hm⟩ : ∃ x, z1.heap.size = x := ⟨_, rfl⟩
        rw [hm] at Xm ne0
        rw [hm]
        clear hm
        try simp only [Act.put, List.setIfInBounds_toArray, List.set_cons_zero, List.set_cons_succ]
        refine wpAnyH_take (i := 2) (oi := ⟨some 11, _, _, _, _, _⟩) (v := .agg (gCs (List.replicate 16 0) 0 512 (.slice none 0 0) 0 0 (.slice (some ⟨p, 0, none⟩) 256 256) (.slice (some ⟨m, 0, none⟩) 3232 3232))) rfl (by kernel_rfl) (by kernel_rfl) (by kernel_rfl) (fun _ _ _ h => h) (y_bu #[(2, .const (.int .u16 512)), (6, .tmp 9), (7, .tmp 10)] [(2, .int .u16 512), (6, .slice (some ⟨p, 0, none⟩) 256 256), (7, .slice (some ⟨m, 0, none⟩) 3232 3232)] (gCs (List.replicate 16 0) 0 512 (.slice none 0 0) 0 0 (.slice (some ⟨p, 0, none⟩) 256 256) (.slice (some ⟨m, 0, none⟩) 3232 3232)) (by kernel_rfl) rfl (by kernel_rfl) (built_n p m)) hH ?_
        try simp only [Act.put, List.setIfInBounds_toArray, List.set_cons_zero, List.set_cons_succ]
        refine wpAnyH_ready (rs := [3]) (by kernel_rfl) (by simp) (fun i hi => ?_)
        obtain rfl := List.mem_singleton.1 hi
        clear hi
        refine wpOp_list (o := ⟨some 4, _, _, _, _, _⟩) rfl ?_
        refine at_alG rfl rfl ?_
        have Kz3 : Hid (Below y0.heap.size y0 (z2.alloc (.cells #[.int .u8 0, .int .u8 0, .int .u8 0, .int .u8 0, .int .u8 0, .int .u8 0, .int .u8 0, .int .u8 0, .int .u8 0, .int .u8 0, .int .u8 0, .int .u8 0, .int .u8 0, .int .u8 0, .int .u8 0, .int .u8 0, .int .u16 0, .int .u16 0, .slice none 0 0, .int .u8 0, .int .u8 0, .slice none 0 0, .slice none 0 0] 29))) := Kz2.out.trans ((below1 z2 _).mono Kz2.out.size)
        have Xb : Hid (Bx (z2.alloc (.cells #[.int .u8 0, .int .u8 0, .int .u8 0, .int .u8 0, .int .u8 0, .int .u8 0, .int .u8 0, .int .u8 0, .int .u8 0, .int .u8 0, .int .u8 0, .int .u8 0, .int .u8 0, .int .u8 0, .int .u8 0, .int .u8 0, .int .u16 0, .int .u16 0, .slice none 0 0, .int .u8 0, .int .u8 0, .slice none 0 0, .slice none 0 0] 29)) z2.heap.size #[.int .u8 0, .int .u8 0, .int .u8 0, .int .u8 0, .int .u8 0, .int .u8 0, .int .u8 0, .int .u8 0, .int .u8 0, .int .u8 0, .int .u8 0, .int .u8 0, .int .u8 0, .int .u8 0, .int .u8 0, .int .u8 0, .int .u16 0, .int .u16 0, .slice none 0 0, .int .u8 0, .int .u8 0, .slice none 0 0, .slice none 0 0] 29 ∧ y0.heap.size ≤ z2.heap.size) := ⟨one_bxL z2 _ _, Kz2.out.size⟩
        replace Xp : Hid (Bx (z2.alloc (.cells #[.int .u8 0, .int .u8 0, .int .u8 0, .int .u8 0, .int .u8 0, .int .u8 0, .int .u8 0, .int .u8 0, .int .u8 0, .int .u8 0, .int .u8 0, .int .u8 0, .int .u8 0, .int .u8 0, .int .u8 0, .int .u8 0, .int .u16 0, .int .u16 0, .slice none 0 0, .int .u8 0, .int .u8 0, .slice none 0 0, .slice none 0 0] 29)) p (rowB (List.replicate 256 0)) 5 ∧ y0.heap.size ≤ p) := ⟨((below1 z2 (.cells #[.int .u8 0, .int .u8 0, .int .u8 0, .int .u8 0, .int .u8 0, .int .u8 0, .int .u8 0, .int .u8 0, .int .u8 0, .int .u8 0, .int .u8 0, .int .u8 0, .int .u8 0, .int .u8 0, .int .u8 0, .int .u8 0, .int .u16 0, .int .u16 0, .slice none 0 0, .int .u8 0, .int .u8 0, .slice none 0 0, .slice none 0 0] 29)).block p (heap_lt Xp.out.1)).trans Xp.out.1, Xp.out.2⟩
        replace Xm : Hid (Bx (z2.alloc (.cells #[.int .u8 0, .int .u8 0, .int .u8 0, .int .u8 0, .int .u8 0, .int .u8 0, .int .u8 0, .int .u8 0, .int .u8 0, .int .u8 0, .int .u8 0, .int .u8 0, .int .u8 0, .int .u8 0, .int .u8 0, .int .u8 0, .int .u16 0, .int .u16 0, .slice none 0 0, .int .u8 0, .int .u8 0, .slice none 0 0, .slice none 0 0] 29)) m (rowB (List.replicate 3232 0)) 5 ∧ y0.heap.size ≤ m) := ⟨((below1 z2 (.cells #[.int .u8 0, .int .u8 0, .int .u8 0, .int .u8 0, .int .u8 0, .int .u8 0, .int .u8 0, .int .u8 0, .int .u8 0, .int .u8 0, .int .u8 0, .int .u8 0, .int .u8 0, .int .u8 0, .int .u8 0, .int .u8 0, .int .u16 0, .int .u16 0, .slice none 0 0, .int .u8 0, .int .u8 0, .slice none 0 0, .slice none 0 0] 29)).block m (heap_lt Xm.out.1)).trans Xm.out.1, Xm.out.2⟩
        refine ⟨Kz3.out, ?_⟩
        replace hH := Kz3.out
        generalize z2.alloc (.cells #[.int .u8 0, .int .u8 0, .int .u8 0, .int .u8 0, .int .u8 0, .int .u8 0, .int .u8 0, .int .u8 0, .int .u8 0, .int .u8 0, .int .u8 0, .int .u8 0, .int .u8 0, .int .u8 0, .int .u8 0, .int .u8 0, .int .u16 0, .int .u16 0, .slice none 0 0, .int .u8 0, .int .u8 0, .slice none 0 0, .slice none 0 0] 29) = z3 at hH Kz3 Xb Xp Xm ⊢
        obtain ⟨b, hb⟩ : ∃ x, z2.heap.size = x := ⟨_, rfl⟩
        rw [hb] at Xb 
        rw [hb]
        clear hb
        try simp only [Act.put, List.setIfInBounds_toArray, List.set_cons_zero, List.set_cons_succ]
        refine wpAnyH_ready (rs := [4]) (by kernel_rfl) (by simp) (fun i hi => ?_)
        obtain rfl := List.mem_singleton.1 hi
        clear hi
        refine wpOp_list (o := ⟨none, _, _, _, _, _⟩) rfl ?_
        refine at_st rtG b #[.int .u8 0, .int .u8 0, .int .u8 0, .int .u8 0, .int .u8 0, .int .u8 0, .int .u8 0, .int .u8 0, .int .u8 0, .int .u8 0, .int .u8 0, .int .u8 0, .int .u8 0, .int .u8 0, .int .u8 0, .int .u8 0, .int .u16 0, .int .u16 0, .slice none 0 0, .int .u8 0, .int .u8 0, .slice none 0 0, .slice none 0 0] (gCs (List.replicate 16 0) 0 512 (.slice none 0 0) 0 0 (.slice (some ⟨p, 0, none⟩) 256 256) (.slice (some ⟨m, 0, none⟩) 3232 3232)) Xb.out.1 rfl rfl (gCs_one _ _ _ _ _ _ _ _ _ _ _ _ _ _) (.tmp 4) (.tmp 11) rfl rfl rfl rfl ?_
        intro zE HE
        have KzE : Hid (Below y0.heap.size y0 zE) := Kz3.out.trans (HE.out.2.1 _ Xb.out.2)
        refine ⟨KzE.out, ?_⟩
        refine wpAnyH_done (by kernel_rfl) ?_ _
        try go_wp2
        go_meet
        have np : p ≠ b := Bx.unlike Xp.out.1 Xb.out.1 (by decide)
        have nm : m ≠ b := Bx.unlike Xm.out.1 Xb.out.1 (by decide)
        exact ⟨p, m, b, zE, rfl, rfl, ⟨KzE.out, HE.out.1, (HE.out.2.2 p np).trans Xp.out.1, (HE.out.2.2 m nm).trans Xm.out.1, by have := ne0.out; omega, Xp.out.2, Xm.out.2, Xb.out.2⟩⟩
      · obtain rfl := List.mem_singleton.1 hi
        clear hi
        refine wpOp_list (o := ⟨some 4, _, _, _, _, _⟩) rfl ?_
        refine at_alG rfl rfl ?_
        have Kz2 : Hid (Below y0.heap.size y0 (z1.alloc (.cells #[.int .u8 0, .int .u8 0, .int .u8 0, .int .u8 0, .int .u8 0, .int .u8 0, .int .u8 0, .int .u8 0, .int .u8 0, .int .u8 0, .int .u8 0, .int .u8 0, .int .u8 0, .int .u8 0, .int .u8 0, .int .u8 0, .int .u16 0, .int .u16 0, .slice none 0 0, .int .u8 0, .int .u8 0, .slice none 0 0, .slice none 0 0] 29))) := Kz1.out.trans ((below1 z1 _).mono Kz1.out.size)
        have Xb : Hid (Bx (z1.alloc (.cells #[.int .u8 0, .int .u8 0, .int .u8 0, .int .u8 0, .int .u8 0, .int .u8 0, .int .u8 0, .int .u8 0, .int .u8 0, .int .u8 0, .int .u8 0, .int .u8 0, .int .u8 0, .int .u8 0, .int .u8 0, .int .u8 0, .int .u16 0, .int .u16 0, .slice none 0 0, .int .u8 0, .int .u8 0, .slice none 0 0, .slice none 0 0] 29)) z1.heap.size #[.int .u8 0, .int .u8 0, .int .u8 0, .int .u8 0, .int .u8 0, .int .u8 0, .int .u8 0, .int .u8 0, .int .u8 0, .int .u8 0, .int .u8 0, .int .u8 0, .int .u8 0, .int .u8 0, .int .u8 0, .int .u8 0, .int .u16 0, .int .u16 0, .slice none 0 0, .int .u8 0, .int .u8 0, .slice none 0 0, .slice none 0 0] 29 ∧ y0.heap.size ≤ z1.heap.size) := ⟨one_bxL z1 _ _, Kz1.out.size⟩
        replace Xp : Hid (Bx (z1.alloc (.cells #[.int .u8 0, .int .u8 0, .int .u8 0, .int .u8 0, .int .u8 0, .int .u8 0, .int .u8 0, .int .u8 0, .int .u8 0, .int .u8 0, .int .u8 0, .int .u8 0, .int .u8 0, .int .u8 0, .int .u8 0, .int .u8 0, .int .u16 0, .int .u16 0, .slice none 0 0, .int .u8 0, .int .u8 0, .slice none 0 0, .slice none 0 0] 29)) p (rowB (List.replicate 256 0)) 5 ∧ y0.heap.size ≤ p) := ⟨((below1 z1 (.cells #[.int .u8 0, .int .u8 0, .int .u8 0, .int .u8 0, .int .u8 0, .int .u8 0, .int .u8 0, .int .u8 0, .int .u8 0, .int .u8 0, .int .u8 0, .int .u8 0, .int .u8 0, .int .u8 0, .int .u8 0, .int .u8 0, .int .u16 0, .int .u16 0, .slice none 0 0, .int .u8 0, .int .u8 0, .slice none 0 0, .slice none 0 0] 29)).block p (heap_lt Xp.out.1)).trans Xp.out.1, Xp.out.2⟩
        refine ⟨Kz2.out, ?_⟩
        replace hH := Kz2.out
        generalize z1.alloc (.cells #[.int .u8 0, .int .u8 0, .int .u8 0, .int .u8 0, .int .u8 0, .int .u8 0, .int .u8 0, .int .u8 0, .int .u8 0, .int .u8 0, .int .u8 0, .int .u8 0, .int .u8 0, .int .u8 0, .int .u8 0, .int .u8 0, .int .u16 0, .int .u16 0, .slice none 0 0, .int .u8 0, .int .u8 0, .slice none 0 0, .slice none 0 0] 29) = z2 at hH Kz2 Xb Xp ⊢
        obtain ⟨b, hb⟩ : ∃ x, z1.heap.size = x := ⟨_, rfl⟩
        rw [hb] at Xb 
        rw [hb]
        clear hb
        try simp only [Act.put, List.setIfInBounds_toArray, List.set_cons_zero, List.set_cons_succ]
        refine wpAnyH_ready (rs := [1]) (by kernel_rfl) (by simp) (fun i hi => ?_)
        obtain rfl := List.mem_singleton.1 hi
        clear hi
        refine wpOp_list (o := ⟨some 10, _, _, _, _, _⟩) rfl ?_
        refine at_mkZ 3232 (by decide) rfl rfl ?_
        have Kz3 : Hid (Below y0.heap.size y0 (z2.alloc (.cells (rowB (List.replicate 3232 0)) 5))) := Kz2.out.trans ((below1 z2 _).mono Kz2.out.size)
        have Xm : Hid (Bx (z2.alloc (.cells (rowB (List.replicate 3232 0)) 5)) z2.heap.size (rowB (List.replicate 3232 0)) 5 ∧ y0.heap.size ≤ z2.heap.size) := ⟨one_bxL z2 _ _, Kz2.out.size⟩
        have ne0 : Hid (p < z2.heap.size) := heap_lt Xp.out.1
        replace Xp : Hid (Bx (z2.alloc (.cells (rowB (List.replicate 3232 0)) 5)) p (rowB (List.replicate 256 0)) 5 ∧ y0.heap.size ≤ p) := ⟨((below1 z2 (.cells (rowB (List.replicate 3232 0)) 5)).block p (heap_lt Xp.out.1)).trans Xp.out.1, Xp.out.2⟩
        replace Xb : Hid (Bx (z2.alloc (.cells (rowB (List.replicate 3232 0)) 5)) b #[.int .u8 0, .int .u8 0, .int .u8 0, .int .u8 0, .int .u8 0, .int .u8 0, .int .u8 0, .int .u8 0, .int .u8 0, .int .u8 0, .int .u8 0, .int .u8 0, .int .u8 0, .int .u8 0, .int .u8 0, .int .u8 0, .int .u16 0, .int .u16 0, .slice none 0 0, .int .u8 0, .int .u8 0, .slice none 0 0, .slice none 0 0] 29 ∧ y0.heap.size ≤ b) := ⟨((below1 z2 (.cells (rowB (List.replicate 3232 0)) 5)).block b (heap_lt Xb.out.1)).trans Xb.out.1, Xb.out.2⟩
        refine ⟨Kz3.out, ?_⟩
        replace hH := Kz3.out
        generalize z2.alloc (.cells (rowB (List.replicate 3232 0)) 5) = z3 at hH Kz3 Xm Xp Xb ⊢
        obtain ⟨m, hm⟩ : ∃ x, z2.heap.size = x := ⟨_, rfl⟩
        rw [hm] at Xm ne0
        rw [hm]
        clear hm
        try simp only [Act.put, List.setIfInBounds_toArray, List.set_cons_zero, List.set_cons_succ]
        refine wpAnyH_take (i := 2) (oi := ⟨some 11, _, _, _, _, _⟩) (v := .agg (gCs (List.replicate 16 0) 0 512 (.slice none 0 0) 0 0 (.slice (some ⟨p, 0, none⟩) 256 256) (.slice (some ⟨m, 0, none⟩) 3232 3232))) rfl (by kernel_rfl) (by kernel_rfl) (by kernel_rfl) (fun _ _ _ h => h) (y_bu #[(2, .const (.int .u16 512)), (6, .tmp 9), (7, .tmp 10)] [(2, .int .u16 512), (6, .slice (some ⟨p, 0, none⟩) 256 256), (7, .slice (some ⟨m, 0, none⟩) 3232 3232)] (gCs (List.replicate 16 0) 0 512 (.slice none 0 0) 0 0 (.slice (some ⟨p, 0, none⟩) 256 256) (.slice (some ⟨m, 0, none⟩) 3232 3232)) (by kernel_rfl) rfl (by kernel_rfl) (built_n p m)) hH ?_
        try simp only [Act.put, List.setIfInBounds_toArray, List.set_cons_zero, List.set_cons_succ]
        refine wpAnyH_ready (rs := [4]) (by kernel_rfl) (by simp) (fun i hi => ?_)
        obtain rfl := List.mem_singleton.1 hi
        clear hi
        refine wpOp_list (o := ⟨none, _, _, _, _, _⟩) rfl ?_
        refine at_st rtG b #[.int .u8 0, .int .u8 0, .int .u8 0, .int .u8 0, .int .u8 0, .int .u8 0, .int .u8 0, .int .u8 0, .int .u8 0, .int .u8 0, .int .u8 0, .int .u8 0, .int .u8 0, .int .u8 0, .int .u8 0, .int .u8 0, .int .u16 0, .int .u16 0, .slice none 0 0, .int .u8 0, .int .u8 0, .slice none 0 0, .slice none 0 0] (gCs (List.replicate 16 0) 0 512 (.slice none 0 0) 0 0 (.slice (some ⟨p, 0, none⟩) 256 256) (.slice (some ⟨m, 0, none⟩) 3232 3232)) Xb.out.1 rfl rfl (gCs_one _ _ _ _ _ _ _ _ _ _ _ _ _ _) (.tmp 4) (.tmp 11) rfl rfl rfl rfl ?_
        intro zE HE
        have KzE : Hid (Below y0.heap.size y0 zE) := Kz3.out.trans (HE.out.2.1 _ Xb.out.2)
        refine ⟨KzE.out, ?_⟩
        refine wpAnyH_done (by kernel_rfl) ?_ _
        try go_wp2
        go_meet
        have np : p ≠ b := Bx.unlike Xp.out.1 Xb.out.1 (by decide)
        have nm : m ≠ b := Bx.unlike Xm.out.1 Xb.out.1 (by decide)
        exact ⟨p, m, b, zE, rfl, rfl, ⟨KzE.out, HE.out.1, (HE.out.2.2 p np).trans Xp.out.1, (HE.out.2.2 m nm).trans Xm.out.1, by have := ne0.out; omega, Xp.out.2, Xm.out.2, Xb.out.2⟩⟩
    rcases List.mem_cons.1 hi with rfl | hi
    · clear hi
      refine wpOp_list (o := ⟨some 10, _, _, _, _, _⟩) rfl ?_
      refine at_mkZ 3232 (by decide) rfl rfl ?_
      have Kz1 : Hid (Below y0.heap.size y0 (z0.alloc (.cells (rowB (List.replicate 3232 0)) 5))) := Kz0.out.trans ((below1 z0 _).mono Kz0.out.size)
      have Xm : Hid (Bx (z0.alloc (.cells (rowB (List.replicate 3232 0)) 5)) z0.heap.size (rowB (List.replicate 3232 0)) 5 ∧ y0.heap.size ≤ z0.heap.size) := ⟨one_bxL z0 _ _, Kz0.out.size⟩
      refine ⟨Kz1.out, ?_⟩
      replace hH := Kz1.out
      generalize z0.alloc (.cells (rowB (List.replicate 3232 0)) 5) = z1 at hH Kz1 Xm  ⊢
      obtain ⟨m, hm⟩ : ∃ x, z0.heap.size = x := ⟨_, rfl⟩
      rw [hm] at Xm 
      rw [hm]
      clear hm
      try simp only [Act.put, List.setIfInBounds_toArray, List.set_cons_zero, List.set_cons_succ]
      refine wpAnyH_ready (rs := [0, 3]) (by kernel_rfl) (by simp) (fun i hi => ?_)
      rcases List.mem_cons.1 hi with rfl | hi
      · clear hi
        refine wpOp_list (o := ⟨some 9, _, _, _, _, _⟩) rfl ?_
        refine at_mkZ 256 (by decide) rfl rfl ?_
        have Kz2 : Hid (Below y0.heap.size y0 (z1.alloc (.cells (rowB (List.replicate 256 0)) 5))) := Kz1.out.trans ((below1 z1 _).mono Kz1.out.size)
        have Xp : Hid (Bx (z1.alloc (.cells (rowB (List.replicate 256 0)) 5)) z1.heap.size (rowB (List.replicate 256 0)) 5 ∧ y0.heap.size ≤ z1.heap.size) := ⟨one_bxL z1 _ _, Kz1.out.size⟩
        have ne0 : Hid (m < z1.heap.size) := heap_lt Xm.out.1
        replace Xm : Hid (Bx (z1.alloc (.cells (rowB (List.replicate 256 0)) 5)) m (rowB (List.replicate 3232 0)) 5 ∧ y0.heap.size ≤ m) := ⟨((below1 z1 (.cells (rowB (List.replicate 256 0)) 5)).block m (heap_lt Xm.out.1)).trans Xm.out.1, Xm.out.2⟩
        refine ⟨Kz2.out, ?_⟩
        replace hH := Kz2.out
        generalize z1.alloc (.cells (rowB (List.replicate 256 0)) 5) = z2 at hH Kz2 Xp Xm ⊢
        obtain ⟨p, hp⟩ : ∃ x, z1.heap.size = x := ⟨_, rfl⟩
        rw [hp] at Xp ne0
        rw [hp]
        clear hp
        try simp only [Act.put, List.setIfInBounds_toArray, List.set_cons_zero, List.set_cons_succ]
        refine wpAnyH_take (i := 2) (oi := ⟨some 11, _, _, _, _, _⟩) (v := .agg (gCs (List.replicate 16 0) 0 512 (.slice none 0 0) 0 0 (.slice (some ⟨p, 0, none⟩) 256 256) (.slice (some ⟨m, 0, none⟩) 3232 3232))) rfl (by kernel_rfl) (by kernel_rfl) (by kernel_rfl) (fun _ _ _ h => h) (y_bu #[(2, .const (.int .u16 512)), (6, .tmp 9), (7, .tmp 10)] [(2, .int .u16 512), (6, .slice (some ⟨p, 0, none⟩) 256 256), (7, .slice (some ⟨m, 0, none⟩) 3232 3232)] (gCs (List.replicate 16 0) 0 512 (.slice none 0 0) 0 0 (.slice (some ⟨p, 0, none⟩) 256 256) (.slice (some ⟨m, 0, none⟩) 3232 3232)) (by kernel_rfl) rfl (by kernel_rfl) (built_n p m)) hH ?_
        try simp only [Act.put, List.setIfInBounds_toArray, List.set_cons_zero, List.set_cons_succ]
        refine wpAnyH_ready (rs := [3]) (by kernel_rfl) (by simp) (fun i hi => ?_)
        obtain rfl := List.mem_singleton.1 hi
        clear hi
        refine wpOp_list (o := ⟨some 4, _, _, _, _, _⟩) rfl ?_
        refine at_alG rfl rfl ?_
        have Kz3 : Hid (Below y0.heap.size y0 (z2.alloc (.cells #[.int .u8 0, .int .u8 0, .int .u8 0, .int .u8 0, .int .u8 0, .int .u8 0, .int .u8 0, .int .u8 0, .int .u8 0, .int .u8 0, .int .u8 0, .int .u8 0, .int .u8 0, .int .u8 0, .int .u8 0, .int .u8 0, .int .u16 0, .int .u16 0, .slice none 0 0, .int .u8 0, .int .u8 0, .slice none 0 0, .slice none 0 0] 29))) := Kz2.out.trans ((below1 z2 _).mono Kz2.out.size)
        have Xb : Hid (Bx (z2.alloc (.cells #[.int .u8 0, .int .u8 0, .int .u8 0, .int .u8 0, .int .u8 0, .int .u8 0, .int .u8 0, .int .u8 0, .int .u8 0, .int .u8 0, .int .u8 0, .int .u8 0, .int .u8 0, .int .u8 0, .int .u8 0, .int .u8 0, .int .u16 0, .int .u16 0, .slice none 0 0, .int .u8 0, .int .u8 0, .slice none 0 0, .slice none 0 0] 29)) z2.heap.size #[.int .u8 0, .int .u8 0, .int .u8 0, .int .u8 0, .int .u8 0, .int .u8 0, .int .u8 0, .int .u8 0, .int .u8 0, .int .u8 0, .int .u8 0, .int .u8 0, .int .u8 0, .int .u8 0, .int .u8 0, .int .u8 0, .int .u16 0, .int .u16 0, .slice none 0 0, .int .u8 0, .int .u8 0, .slice none 0 0, .slice none 0 0] 29 ∧ y0.heap.size ≤ z2.heap.size) := ⟨one_bxL z2 _ _, Kz2.out.size⟩
        replace Xm : Hid (Bx (z2.alloc (.cells #[.int .u8 0, .int .u8 0, .int .u8 0, .int .u8 0, .int .u8 0, .int .u8 0, .int .u8 0, .int .u8 0, .int .u8 0, .int .u8 0, .int .u8 0, .int .u8 0, .int .u8 0, .int .u8 0, .int .u8 0, .int .u8 0, .int .u16 0, .int .u16 0, .slice none 0 0, .int .u8 0, .int .u8 0, .slice none 0 0, .slice none 0 0] 29)) m (rowB (List.replicate 3232 0)) 5 ∧ y0.heap.size ≤ m) := ⟨((below1 z2 (.cells #[.int .u8 0, .int .u8 0, .int .u8 0, .int .u8 0, .int .u8 0, .int .u8 0, .int .u8 0, .int .u8 0, .int .u8 0, .int .u8 0, .int .u8 0, .int .u8 0, .int .u8 0, .int .u8 0, .int .u8 0, .int .u8 0, .int .u16 0, .int .u16 0, .slice none 0 0, .int .u8 0, .int .u8 0, .slice none 0 0, .slice none 0 0] 29)).block m (heap_lt Xm.out.1)).trans Xm.out.1, Xm.out.2⟩
        replace Xp : Hid (Bx (z2.alloc (.cells #[.int .u8 0, .int .u8 0, .int .u8 0, .int .u8 0, .int .u8 0, .int .u8 0, .int .u8 0, .int .u8 0, .int .u8 0, .int .u8 0, .int .u8 0, .int .u8 0, .int .u8 0, .int .u8 0, .int .u8 0, .int .u8 0, .int .u16 0, .int .u16 0, .slice none 0 0, .int .u8 0, .int .u8 0, .slice none 0 0, .slice none 0 0] 29)) p (rowB (List.replicate 256 0)) 5 ∧ y0.heap.size ≤ p) := ⟨((below1 z2 (.cells #[.int .u8 0, .int .u8 0, .int .u8 0, .int .u8 0, .int .u8 0, .int .u8 0, .int .u8 0, .int .u8 0, .int .u8 0, .int .u8 0, .int .u8 0, .int .u8 0, .int .u8 0, .int .u8 0, .int .u8 0, .int .u8 0, .int .u16 0, .int .u16 0, .slice none 0 0, .int .u8 0, .int .u8 0, .slice none 0 0, .slice none 0 0] 29)).block p (heap_lt Xp.out.1)).trans Xp.out.1, Xp.out.2⟩
        refine ⟨Kz3.out, ?_⟩
        replace hH := Kz3.out
        generalize z2.alloc (.cells #[.int .u8 0, .int .u8 0, .int .u8 0, .int .u8 0, .int .u8 0, .int .u8 0, .int .u8 0, .int .u8 0, .int .u8 0, .int .u8 0, .int .u8 0, .int .u8 0, .int .u8 0, .int .u8 0, .int .u8 0, .int .u8 0, .int .u16 0, .int .u16 0, .slice none 0 0, .int .u8 0, .int .u8 0, .slice none 0 0, .slice none 0 0] 29) = z3 at hH Kz3 Xb Xm Xp ⊢
        obtain ⟨b, hb⟩ : ∃ x, z2.heap.size = x := ⟨_, rfl⟩
        rw [hb] at Xb 
        rw [hb]
        clear hb
        try simp only [Act.put, List.setIfInBounds_toArray, List.set_cons_zero, List.set_cons_succ]
        refine wpAnyH_ready (rs := [4]) (by kernel_rfl) (by simp) (fun i hi => ?_)
        obtain rfl := List.mem_singleton.1 hi
        clear hi
        refine wpOp_list (o := ⟨none, _, _, _, _, _⟩) rfl ?_
        refine at_st rtG b #[.int .u8 0, .int .u8 0, .int .u8 0, .int .u8 0, .int .u8 0, .int .u8 0, .int .u8 0, .int .u8 0, .int .u8 0, .int .u8 0, .int .u8 0, .int .u8 0, .int .u8 0, .int .u8 0, .int .u8 0, .int .u8 0, .int .u16 0, .int .u16 0, .slice none 0 0, .int .u8 0, .int .u8 0, .slice none 0 0, .slice none 0 0] (gCs (List.replicate 16 0) 0 512 (.slice none 0 0) 0 0 (.slice (some ⟨p, 0, none⟩) 256 256) (.slice (some ⟨m, 0, none⟩) 3232 3232)) Xb.out.1 rfl rfl (gCs_one _ _ _ _ _ _ _ _ _ _ _ _ _ _) (.tmp 4) (.tmp 11) rfl rfl rfl rfl ?_
        intro zE HE
        have KzE : Hid (Below y0.heap.size y0 zE) := Kz3.out.trans (HE.out.2.1 _ Xb.out.2)
        refine ⟨KzE.out, ?_⟩
        refine wpAnyH_done (by kernel_rfl) ?_ _
        try go_wp2
        go_meet
        have np : p ≠ b := Bx.unlike Xp.out.1 Xb.out.1 (by decide)
        have nm : m ≠ b := Bx.unlike Xm.out.1 Xb.out.1 (by decide)
        exact ⟨p, m, b, zE, rfl, rfl, ⟨KzE.out, HE.out.1, (HE.out.2.2 p np).trans Xp.out.1, (HE.out.2.2 m nm).trans Xm.out.1, by have := ne0.out; omega, Xp.out.2, Xm.out.2, Xb.out.2⟩⟩
      · obtain rfl := List.mem_singleton.1 hi
        clear hi
        refine wpOp_list (o := ⟨some 4, _, _, _, _, _⟩) rfl ?_
        refine at_alG rfl rfl ?_
        have Kz2 : Hid (Below y0.heap.size y0 (z1.alloc (.cells #[.int .u8 0, .int .u8 0, .int .u8 0, .int .u8 0, .int .u8 0, .int .u8 0, .int .u8 0, .int .u8 0, .int .u8 0, .int .u8 0, .int .u8 0, .int .u8 0, .int .u8 0, .int .u8 0, .int .u8 0, .int .u8 0, .int .u16 0, .int .u16 0, .slice none 0 0, .int .u8 0, .int .u8 0, .slice none 0 0, .slice none 0 0] 29))) := Kz1.out.trans ((below1 z1 _).mono Kz1.out.size)
        have Xb : Hid (Bx (z1.alloc (.cells #[.int .u8 0, .int .u8 0, .int .u8 0, .int .u8 0, .int .u8 0, .int .u8 0, .int .u8 0, .int .u8 0, .int .u8 0, .int .u8 0, .int .u8 0, .int .u8 0, .int .u8 0, .int .u8 0, .int .u8 0, .int .u8 0, .int .u16 0, .int .u16 0, .slice none 0 0, .int .u8 0, .int .u8 0, .slice none 0 0, .slice none 0 0] 29)) z1.heap.size #[.int .u8 0, .int .u8 0, .int .u8 0, .int .u8 0, .int .u8 0, .int .u8 0, .int .u8 0, .int .u8 0, .int .u8 0, .int .u8 0, .int .u8 0, .int .u8 0, .int .u8 0, .int .u8 0, .int .u8 0, .int .u8 0, .int .u16 0, .int .u16 0, .slice none 0 0, .int .u8 0, .int .u8 0, .slice none 0 0, .slice none 0 0] 29 ∧ y0.heap.size ≤ z1.heap.size) := ⟨one_bxL z1 _ _, Kz1.out.size⟩
        replace Xm : Hid (Bx (z1.alloc (.cells #[.int .u8 0, .int .u8 0, .int .u8 0, .int .u8 0, .int .u8 0, .int .u8 0, .int .u8 0, .int .u8 0, .int .u8 0, .int .u8 0, .int .u8 0, .int .u8 0, .int .u8 0, .int .u8 0, .int .u8 0, .int .u8 0, .int .u16 0, .int .u16 0, .slice none 0 0, .int .u8 0, .int .u8 0, .slice none 0 0, .slice none 0 0] 29)) m (rowB (List.replicate 3232 0)) 5 ∧ y0.heap.size ≤ m) := ⟨((below1 z1 (.cells #[.int .u8 0, .int .u8 0, .int .u8 0, .int .u8 0, .int .u8 0, .int .u8 0, .int .u8 0, .int .u8 0, .int .u8 0, .int .u8 0, .int .u8 0, .int .u8 0, .int .u8 0, .int .u8 0, .int .u8 0, .int .u8 0, .int .u16 0, .int .u16 0, .slice none 0 0, .int .u8 0, .int .u8 0, .slice none 0 0, .slice none 0 0] 29)).block m (heap_lt Xm.out.1)).trans Xm.out.1, Xm.out.2⟩
        refine ⟨Kz2.out, ?_⟩
        replace hH := Kz2.out
        generalize z1.alloc (.cells #[.int .u8 0, .int .u8 0, .int .u8 0, .int .u8 0, .int .u8 0, .int .u8 0, .int .u8 0, .int .u8 0, .int .u8 0, .int .u8 0, .int .u8 0, .int .u8 0, .int .u8 0, .int .u8 0, .int .u8 0, .int .u8 0, .int .u16 0, .int .u16 0, .slice none 0 0, .int .u8 0, .int .u8 0, .slice none 0 0, .slice none 0 0] 29) = z2 at hH Kz2 Xb Xm ⊢
        obtain ⟨b, hb⟩ : ∃ x, z1.heap.size = x := ⟨_, rfl⟩
        rw [hb] at Xb 
        rw [hb]
        clear hb
        try simp only [Act.put, List.setIfInBounds_toArray, List.set_cons_zero, List.set_cons_succ]
        refine wpAnyH_ready (rs := [0]) (by kernel_rfl) (by simp) (fun i hi => ?_)
        obtain rfl := List.mem_singleton.1 hi
        clear hi
        refine wpOp_list (o := ⟨some 9, _, _, _, _, _⟩) rfl ?_
        refine at_mkZ 256 (by decide) rfl rfl ?_
        have Kz3 : Hid (Below y0.heap.size y0 (z2.alloc (.cells (rowB (List.replicate 256 0)) 5))) := Kz2.out.trans ((below1 z2 _).mono Kz2.out.size)
        have Xp : Hid (Bx (z2.alloc (.cells (rowB (List.replicate 256 0)) 5)) z2.heap.size (rowB (List.replicate 256 0)) 5 ∧ y0.heap.size ≤ z2.heap.size) := ⟨one_bxL z2 _ _, Kz2.out.size⟩
        have ne0 : Hid (m < z2.heap.size) := heap_lt Xm.out.1
        replace Xm : Hid (Bx (z2.alloc (.cells (rowB (List.replicate 256 0)) 5)) m (rowB (List.replicate 3232 0)) 5 ∧ y0.heap.size ≤ m) := ⟨((below1 z2 (.cells (rowB (List.replicate 256 0)) 5)).block m (heap_lt Xm.out.1)).trans Xm.out.1, Xm.out.2⟩
        replace Xb : Hid (Bx (z2.alloc (.cells (rowB (List.replicate 256 0)) 5)) b #[.int .u8 0, .int .u8 0, .int .u8 0, .int .u8 0, .int .u8 0, .int .u8 0, .int .u8 0, .int .u8 0, .int .u8 0, .int .u8 0, .int .u8 0, .int .u8 0, .int .u8 0, .int .u8 0, .int .u8 0, .int .u8 0, .int .u16 0, .int .u16 0, .slice none 0 0, .int .u8 0, .int .u8 0, .slice none 0 0, .slice none 0 0] 29 ∧ y0.heap.size ≤ b) := ⟨((below1 z2 (.cells (rowB (List.replicate 256 0)) 5)).block b (heap_lt Xb.out.1)).trans Xb.out.1, Xb.out.2⟩
        refine ⟨Kz3.out, ?_⟩
        replace hH := Kz3.out
        generalize z2.alloc (.cells (rowB (List.replicate 256 0)) 5) = z3 at hH Kz3 Xp Xm Xb ⊢
        obtain ⟨p, hp⟩ : ∃ x, z2.heap.size = x := ⟨_, rfl⟩
        rw [hp] at Xp ne0
        rw [hp]
        clear hp
        try simp only [Act.put, List.setIfInBounds_toArray, List.set_cons_zero, List.set_cons_succ]
        refine wpAnyH_take (i := 2) (oi := ⟨some 11, _, _, _, _, _⟩) (v := .agg (gCs (List.replicate 16 0) 0 512 (.slice none 0 0) 0 0 (.slice (some ⟨p, 0, none⟩) 256 256) (.slice (some ⟨m, 0, none⟩) 3232 3232))) rfl (by kernel_rfl) (by kernel_rfl) (by kernel_rfl) (fun _ _ _ h => h) (y_bu #[(2, .const (.int .u16 512)), (6, .tmp 9), (7, .tmp 10)] [(2, .int .u16 512), (6, .slice (some ⟨p, 0, none⟩) 256 256), (7, .slice (some ⟨m, 0, none⟩) 3232 3232)] (gCs (List.replicate 16 0) 0 512 (.slice none 0 0) 0 0 (.slice (some ⟨p, 0, none⟩) 256 256) (.slice (some ⟨m, 0, none⟩) 3232 3232)) (by kernel_rfl) rfl (by kernel_rfl) (built_n p m)) hH ?_
        try simp only [Act.put, List.setIfInBounds_toArray, List.set_cons_zero, List.set_cons_succ]
        refine wpAnyH_ready (rs := [4]) (by kernel_rfl) (by simp) (fun i hi => ?_)
        obtain rfl := List.mem_singleton.1 hi
        clear hi
        refine wpOp_list (o := ⟨none, _, _, _, _, _⟩) rfl ?_
        refine at_st rtG b #[.int .u8 0, .int .u8 0, .int .u8 0, .int .u8 0, .int .u8 0, .int .u8 0, .int .u8 0, .int .u8 0, .int .u8 0, .int .u8 0, .int .u8 0, .int .u8 0, .int .u8 0, .int .u8 0, .int .u8 0, .int .u8 0, .int .u16 0, .int .u16 0, .slice none 0 0, .int .u8 0, .int .u8 0, .slice none 0 0, .slice none 0 0] (gCs (List.replicate 16 0) 0 512 (.slice none 0 0) 0 0 (.slice (some ⟨p, 0, none⟩) 256 256) (.slice (some ⟨m, 0, none⟩) 3232 3232)) Xb.out.1 rfl rfl (gCs_one _ _ _ _ _ _ _ _ _ _ _ _ _ _) (.tmp 4) (.tmp 11) rfl rfl rfl rfl ?_
        intro zE HE
        have KzE : Hid (Below y0.heap.size y0 zE) := Kz3.out.trans (HE.out.2.1 _ Xb.out.2)
        refine ⟨KzE.out, ?_⟩
        refine wpAnyH_done (by kernel_rfl) ?_ _
        try go_wp2
        go_meet
        have np : p ≠ b := Bx.unlike Xp.out.1 Xb.out.1 (by decide)
        have nm : m ≠ b := Bx.unlike Xm.out.1 Xb.out.1 (by decide)
        exact ⟨p, m, b, zE, rfl, rfl, ⟨KzE.out, HE.out.1, (HE.out.2.2 p np).trans Xp.out.1, (HE.out.2.2 m nm).trans Xm.out.1, by have := ne0.out; omega, Xp.out.2, Xm.out.2, Xb.out.2⟩⟩
    · obtain rfl := List.mem_singleton.1 hi
      clear hi
      refine wpOp_list (o := ⟨some 4, _, _, _, _, _⟩) rfl ?_
      refine at_alG rfl rfl ?_
      have Kz1 : Hid (Below y0.heap.size y0 (z0.alloc (.cells #[.int .u8 0, .int .u8 0, .int .u8 0, .int .u8 0, .int .u8 0, .int .u8 0, .int .u8 0, .int .u8 0, .int .u8 0, .int .u8 0, .int .u8 0, .int .u8 0, .int .u8 0, .int .u8 0, .int .u8 0, .int .u8 0, .int .u16 0, .int .u16 0, .slice none 0 0, .int .u8 0, .int .u8 0, .slice none 0 0, .slice none 0 0] 29))) := Kz0.out.trans ((below1 z0 _).mono Kz0.out.size)
      have Xb : Hid (Bx (z0.alloc (.cells #[.int .u8 0, .int .u8 0, .int .u8 0, .int .u8 0, .int .u8 0, .int .u8 0, .int .u8 0, .int .u8 0, .int .u8 0, .int .u8 0, .int .u8 0, .int .u8 0, .int .u8 0, .int .u8 0, .int .u8 0, .int .u8 0, .int .u16 0, .int .u16 0, .slice none 0 0, .int .u8 0, .int .u8 0, .slice none 0 0, .slice none 0 0] 29)) z0.heap.size #[.int .u8 0, .int .u8 0, .int .u8 0, .int .u8 0, .int .u8 0, .int .u8 0, .int .u8 0, .int .u8 0, .int .u8 0, .int .u8 0, .int .u8 0, .int .u8 0, .int .u8 0, .int .u8 0, .int .u8 0, .int .u8 0, .int .u16 0, .int .u16 0, .slice none 0 0, .int .u8 0, .int .u8 0, .slice none 0 0, .slice none 0 0] 29 ∧ y0.heap.size ≤ z0.heap.size) := ⟨one_bxL z0 _ _, Kz0.out.size⟩
      refine ⟨Kz1.out, ?_⟩
      replace hH := Kz1.out
      generalize z0.alloc (.cells #[.int .u8 0, .int .u8 0, .int .u8 0, .int .u8 0, .int .u8 0, .int .u8 0, .int .u8 0, .int .u8 0, .int .u8 0, .int .u8 0, .int .u8 0, .int .u8 0, .int .u8 0, .int .u8 0, .int .u8 0, .int .u8 0, .int .u16 0, .int .u16 0, .slice none 0 0, .int .u8 0, .int .u8 0, .slice none 0 0, .slice none 0 0] 29) = z1 at hH Kz1 Xb  ⊢
      obtain ⟨b, hb⟩ : ∃ x, z0.heap.size = x := ⟨_, rfl⟩
      rw [hb] at Xb 
      rw [hb]
      clear hb
      try simp only [Act.put, List.setIfInBounds_toArray, List.set_cons_zero, List.set_cons_succ]
      refine wpAnyH_ready (rs := [0, 1]) (by kernel_rfl) (by simp) (fun i hi => ?_)
      rcases List.mem_cons.1 hi with rfl | hi
      · clear hi
        refine wpOp_list (o := ⟨some 9, _, _, _, _, _⟩) rfl ?_
        refine at_mkZ 256 (by decide) rfl rfl ?_
        have Kz2 : Hid (Below y0.heap.size y0 (z1.alloc (.cells (rowB (List.replicate 256 0)) 5))) := Kz1.out.trans ((below1 z1 _).mono Kz1.out.size)
        have Xp : Hid (Bx (z1.alloc (.cells (rowB (List.replicate 256 0)) 5)) z1.heap.size (rowB (List.replicate 256 0)) 5 ∧ y0.heap.size ≤ z1.heap.size) := ⟨one_bxL z1 _ _, Kz1.out.size⟩
        replace Xb : Hid (Bx (z1.alloc (.cells (rowB (List.replicate 256 0)) 5)) b #[.int .u8 0, .int .u8 0, .int .u8 0, .int .u8 0, .int .u8 0, .int .u8 0, .int .u8 0, .int .u8 0, .int .u8 0, .int .u8 0, .int .u8 0, .int .u8 0, .int .u8 0, .int .u8 0, .int .u8 0, .int .u8 0, .int .u16 0, .int .u16 0, .slice none 0 0, .int .u8 0, .int .u8 0, .slice none 0 0, .slice none 0 0] 29 ∧ y0.heap.size ≤ b) := ⟨((below1 z1 (.cells (rowB (List.replicate 256 0)) 5)).block b (heap_lt Xb.out.1)).trans Xb.out.1, Xb.out.2⟩
        refine ⟨Kz2.out, ?_⟩
        replace hH := Kz2.out
        generalize z1.alloc (.cells (rowB (List.replicate 256 0)) 5) = z2 at hH Kz2 Xp Xb ⊢
        obtain ⟨p, hp⟩ : ∃ x, z1.heap.size = x := ⟨_, rfl⟩
        rw [hp] at Xp 
        rw [hp]
        clear hp
        try simp only [Act.put, List.setIfInBounds_toArray, List.set_cons_zero, List.set_cons_succ]
        refine wpAnyH_ready (rs := [1]) (by kernel_rfl) (by simp) (fun i hi => ?_)
        obtain rfl := List.mem_singleton.1 hi
        clear hi
        refine wpOp_list (o := ⟨some 10, _, _, _, _, _⟩) rfl ?_
        refine at_mkZ 3232 (by decide) rfl rfl ?_
        have Kz3 : Hid (Below y0.heap.size y0 (z2.alloc (.cells (rowB (List.replicate 3232 0)) 5))) := Kz2.out.trans ((below1 z2 _).mono Kz2.out.size)
        have Xm : Hid (Bx (z2.alloc (.cells (rowB (List.replicate 3232 0)) 5)) z2.heap.size (rowB (List.replicate 3232 0)) 5 ∧ y0.heap.size ≤ z2.heap.size) := ⟨one_bxL z2 _ _, Kz2.out.size⟩
        replace Xb : Hid (Bx (z2.alloc (.cells (rowB (List.replicate 3232 0)) 5)) b #[.int .u8 0, .int .u8 0, .int .u8 0, .int .u8 0, .int .u8 0, .int .u8 0, .int .u8 0, .int .u8 0, .int .u8 0, .int .u8 0, .int .u8 0, .int .u8 0, .int .u8 0, .int .u8 0, .int .u8 0, .int .u8 0, .int .u16 0, .int .u16 0, .slice none 0 0, .int .u8 0, .int .u8 0, .slice none 0 0, .slice none 0 0] 29 ∧ y0.heap.size ≤ b) := ⟨((below1 z2 (.cells (rowB (List.replicate 3232 0)) 5)).block b (heap_lt Xb.out.1)).trans Xb.out.1, Xb.out.2⟩
        have ne0 : Hid (p < z2.heap.size) := heap_lt Xp.out.1
        replace Xp : Hid (Bx (z2.alloc (.cells (rowB (List.replicate 3232 0)) 5)) p (rowB (List.replicate 256 0)) 5 ∧ y0.heap.size ≤ p) := ⟨((below1 z2 (.cells (rowB (List.replicate 3232 0)) 5)).block p (heap_lt Xp.out.1)).trans Xp.out.1, Xp.out.2⟩
        refine ⟨Kz3.out, ?_⟩
        replace hH := Kz3.out
        generalize z2.alloc (.cells (rowB (List.replicate 3232 0)) 5) = z3 at hH Kz3 Xm Xb Xp ⊢
        obtain ⟨m, hm⟩ : ∃ x, z2.heap.size = x := ⟨_, rfl⟩
        rw [hm] at Xm ne0
        rw [hm]
        clear hm
        try simp only [Act.put, List.setIfInBounds_toArray, List.set_cons_zero, List.set_cons_succ]
        refine wpAnyH_take (i := 2) (oi := ⟨some 11, _, _, _, _, _⟩) (v := .agg (gCs (List.replicate 16 0) 0 512 (.slice none 0 0) 0 0 (.slice (some ⟨p, 0, none⟩) 256 256) (.slice (some ⟨m, 0, none⟩) 3232 3232))) rfl (by kernel_rfl) (by kernel_rfl) (by kernel_rfl) (fun _ _ _ h => h) (y_bu #[(2, .const (.int .u16 512)), (6, .tmp 9), (7, .tmp 10)] [(2, .int .u16 512), (6, .slice (some ⟨p, 0, none⟩) 256 256), (7, .slice (some ⟨m, 0, none⟩) 3232 3232)] (gCs (List.replicate 16 0) 0 512 (.slice none 0 0) 0 0 (.slice (some ⟨p, 0, none⟩) 256 256) (.slice (some ⟨m, 0, none⟩) 3232 3232)) (by kernel_rfl) rfl (by kernel_rfl) (built_n p m)) hH ?_
        try simp only [Act.put, List.setIfInBounds_toArray, List.set_cons_zero, List.set_cons_succ]
        refine wpAnyH_ready (rs := [4]) (by kernel_rfl) (by simp) (fun i hi => ?_)
        obtain rfl := List.mem_singleton.1 hi
        clear hi
        refine wpOp_list (o := ⟨none, _, _, _, _, _⟩) rfl ?_
        refine at_st rtG b #[.int .u8 0, .int .u8 0, .int .u8 0, .int .u8 0, .int .u8 0, .int .u8 0, .int .u8 0, .int .u8 0, .int .u8 0, .int .u8 0, .int .u8 0, .int .u8 0, .int .u8 0, .int .u8 0, .int .u8 0, .int .u8 0, .int .u16 0, .int .u16 0, .slice none 0 0, .int .u8 0, .int .u8 0, .slice none 0 0, .slice none 0 0] (gCs (List.replicate 16 0) 0 512 (.slice none 0 0) 0 0 (.slice (some ⟨p, 0, none⟩) 256 256) (.slice (some ⟨m, 0, none⟩) 3232 3232)) Xb.out.1 rfl rfl (gCs_one _ _ _ _ _ _ _ _ _ _ _ _ _ _) (.tmp 4) (.tmp 11) rfl rfl rfl rfl ?_
        intro zE HE
        have KzE : Hid (Below y0.heap.size y0 zE) := Kz3.out.trans (HE.out.2.1 _ Xb.out.2)
        refine ⟨KzE.out, ?_⟩
        refine wpAnyH_done (by kernel_rfl) ?_ _
        try go_wp2
        go_meet
        have np : p ≠ b := Bx.unlike Xp.out.1 Xb.out.1 (by decide)
        have nm : m ≠ b := Bx.unlike Xm.out.1 Xb.out.1 (by decide)
        exact ⟨p, m, b, zE, rfl, rfl, ⟨KzE.out, HE.out.1, (HE.out.2.2 p np).trans Xp.out.1, (HE.out.2.2 m nm).trans Xm.out.1, by have := ne0.out; omega, Xp.out.2, Xm.out.2, Xb.out.2⟩⟩
      · obtain rfl := List.mem_singleton.1 hi
        clear hi
        refine wpOp_list (o := ⟨some 10, _, _, _, _, _⟩) rfl ?_
        refine at_mkZ 3232 (by decide) rfl rfl ?_
        have Kz2 : Hid (Below y0.heap.size y0 (z1.alloc (.cells (rowB (List.replicate 3232 0)) 5))) := Kz1.out.trans ((below1 z1 _).mono Kz1.out.size)
        have Xm : Hid (Bx (z1.alloc (.cells (rowB (List.replicate 3232 0)) 5)) z1.heap.size (rowB (List.replicate 3232 0)) 5 ∧ y0.heap.size ≤ z1.heap.size) := ⟨one_bxL z1 _ _, Kz1.out.size⟩
        replace Xb : Hid (Bx (z1.alloc (.cells (rowB (List.replicate 3232 0)) 5)) b #[.int .u8 0, .int .u8 0, .int .u8 0, .int .u8 0, .int .u8 0, .int .u8 0, .int .u8 0, .int .u8 0, .int .u8 0, .int .u8 0, .int .u8 0, .int .u8 0, .int .u8 0, .int .u8 0, .int .u8 0, .int .u8 0, .int .u16 0, .int .u16 0, .slice none 0 0, .int .u8 0, .int .u8 0, .slice none 0 0, .slice none 0 0] 29 ∧ y0.heap.size ≤ b) := ⟨((below1 z1 (.cells (rowB (List.replicate 3232 0)) 5)).block b (heap_lt Xb.out.1)).trans Xb.out.1, Xb.out.2⟩
        refine ⟨Kz2.out, ?_⟩
        replace hH := Kz2.out
        generalize z1.alloc (.cells (rowB (List.replicate 3232 0)) 5) = z2 at hH Kz2 Xm Xb ⊢
        obtain ⟨m, hm⟩ : ∃ x, z1.heap.size = x := ⟨_, rfl⟩
        rw [hm] at Xm 
        rw [hm]
        clear hm
        try simp only [Act.put, List.setIfInBounds_toArray, List.set_cons_zero, List.set_cons_succ]
        refine wpAnyH_ready (rs := [0]) (by kernel_rfl) (by simp) (fun i hi => ?_)
        obtain rfl := List.mem_singleton.1 hi
        clear hi
        refine wpOp_list (o := ⟨some 9, _, _, _, _, _⟩) rfl ?_
        refine at_mkZ 256 (by decide) rfl rfl ?_
        have Kz3 : Hid (Below y0.heap.size y0 (z2.alloc (.cells (rowB (List.replicate 256 0)) 5))) := Kz2.out.trans ((below1 z2 _).mono Kz2.out.size)
        have Xp : Hid (Bx (z2.alloc (.cells (rowB (List.replicate 256 0)) 5)) z2.heap.size (rowB (List.replicate 256 0)) 5 ∧ y0.heap.size ≤ z2.heap.size) := ⟨one_bxL z2 _ _, Kz2.out.size⟩
        replace Xb : Hid (Bx (z2.alloc (.cells (rowB (List.replicate 256 0)) 5)) b #[.int .u8 0, .int .u8 0, .int .u8 0, .int .u8 0, .int .u8 0, .int .u8 0, .int .u8 0, .int .u8 0, .int .u8 0, .int .u8 0, .int .u8 0, .int .u8 0, .int .u8 0, .int .u8 0, .int .u8 0, .int .u8 0, .int .u16 0, .int .u16 0, .slice none 0 0, .int .u8 0, .int .u8 0, .slice none 0 0, .slice none 0 0] 29 ∧ y0.heap.size ≤ b) := ⟨((below1 z2 (.cells (rowB (List.replicate 256 0)) 5)).block b (heap_lt Xb.out.1)).trans Xb.out.1, Xb.out.2⟩
        have ne0 : Hid (m < z2.heap.size) := heap_lt Xm.out.1
        replace Xm : Hid (Bx (z2.alloc (.cells (rowB (List.replicate 256 0)) 5)) m (rowB (List.replicate 3232 0)) 5 ∧ y0.heap.size ≤ m) := ⟨((below1 z2 (.cells (rowB (List.replicate 256 0)) 5)).block m (heap_lt Xm.out.1)).trans Xm.out.1, Xm.out.2⟩
        refine ⟨Kz3.out, ?_⟩
        replace hH := Kz3.out
        generalize z2.alloc (.cells (rowB (List.replicate 256 0)) 5) = z3 at hH Kz3 Xp Xb Xm ⊢
        obtain ⟨p, hp⟩ : ∃ x, z2.heap.size = x := ⟨_, rfl⟩
        rw [hp] at Xp ne0
        rw [hp]
        clear hp
        try simp only [Act.put, List.setIfInBounds_toArray, List.set_cons_zero, List.set_cons_succ]
        refine wpAnyH_take (i := 2) (oi := ⟨some 11, _, _, _, _, _⟩) (v := .agg (gCs (List.replicate 16 0) 0 512 (.slice none 0 0) 0 0 (.slice (some ⟨p, 0, none⟩) 256 256) (.slice (some ⟨m, 0, none⟩) 3232 3232))) rfl (by kernel_rfl) (by kernel_rfl) (by kernel_rfl) (fun _ _ _ h => h) (y_bu #[(2, .const (.int .u16 512)), (6, .tmp 9), (7, .tmp 10)] [(2, .int .u16 512), (6, .slice (some ⟨p, 0, none⟩) 256 256), (7, .slice (some ⟨m, 0, none⟩) 3232 3232)] (gCs (List.replicate 16 0) 0 512 (.slice none 0 0) 0 0 (.slice (some ⟨p, 0, none⟩) 256 256) (.slice (some ⟨m, 0, none⟩) 3232 3232)) (by kernel_rfl) rfl (by kernel_rfl) (built_n p m)) hH ?_
        try simp only [Act.put, List.setIfInBounds_toArray, List.set_cons_zero, List.set_cons_succ]
        refine wpAnyH_ready (rs := [4]) (by kernel_rfl) (by simp) (fun i hi => ?_)
        obtain rfl := List.mem_singleton.1 hi
        clear hi
        refine wpOp_list (o := ⟨none, _, _, _, _, _⟩) rfl ?_
        refine at_st rtG b #[.int .u8 0, .int .u8 0, .int .u8 0, .int .u8 0, .int .u8 0, .int .u8 0, .int .u8 0, .int .u8 0, .int .u8 0, .int .u8 0, .int .u8 0, .int .u8 0, .int .u8 0, .int .u8 0, .int .u8 0, .int .u8 0, .int .u16 0, .int .u16 0, .slice none 0 0, .int .u8 0, .int .u8 0, .slice none 0 0, .slice none 0 0] (gCs (List.replicate 16 0) 0 512 (.slice none 0 0) 0 0 (.slice (some ⟨p, 0, none⟩) 256 256) (.slice (some ⟨m, 0, none⟩) 3232 3232)) Xb.out.1 rfl rfl (gCs_one _ _ _ _ _ _ _ _ _ _ _ _ _ _) (.tmp 4) (.tmp 11) rfl rfl rfl rfl ?_
        intro zE HE
        have KzE : Hid (Below y0.heap.size y0 zE) := Kz3.out.trans (HE.out.2.1 _ Xb.out.2)
        refine ⟨KzE.out, ?_⟩
        refine wpAnyH_done (by kernel_rfl) ?_ _
        try go_wp2
        go_meet
        have np : p ≠ b := Bx.unlike Xp.out.1 Xb.out.1 (by decide)
        have nm : m ≠ b := Bx.unlike Xm.out.1 Xb.out.1 (by decide)
        exact ⟨p, m, b, zE, rfl, rfl, ⟨KzE.out, HE.out.1, (HE.out.2.2 p np).trans Xp.out.1, (HE.out.2.2 m nm).trans Xm.out.1, by have := ne0.out; omega, Xp.out.2, Xm.out.2, Xb.out.2⟩⟩
  case rest =>
    obtain ⟨p, m, b, y1, rfl, rfl, K1⟩ := hcut
    have cC : Hid (Bx y1 b (gCs (List.replicate 16 0) 0 512 (.slice none 0 0) 0 0 (.slice (some ⟨p, 0, none⟩) 256 256) (.slice (some ⟨m, 0, none⟩) 3232 3232)) 29) := K1.out.2.1
    obtain ⟨CC, hCC⟩ : ∃ x, Hid (x = (gCs (List.replicate 16 0) 0 512 (.slice none 0 0) 0 0 (.slice (some ⟨p, 0, none⟩) 256 256) (.slice (some ⟨m, 0, none⟩) 3232 3232))) := ⟨_, (rfl : (gCs (List.replicate 16 0) 0 512 (.slice none 0 0) 0 0 (.slice (some ⟨p, 0, none⟩) 256 256) (.slice (some ⟨m, 0, none⟩) 3232 3232)) = _)⟩
    have c22 := cC.out.c 22 (.slice (some ⟨m, 0, none⟩) 3232 3232) rfl
    have zC : Hid (CC.size = 23 ∧ CC.all (·.oneCell') = true) := by rw [hCC.out]; exact ⟨rfl, gCs_one _ _ _ _ _ _ _ _ _ _ _ _ _ _⟩
    rw [← hCC.out] at cC
    go_wp2_with (first
      | ((with_reducible refine at_copyN ?_ (.tmp 13) (.tmp 14) ?_ m 3232 3232 sp n cap ?_ ?_ ?_ l ?_ ?_ ?_ ?_); rfl; rfl; rfl; rfl; exact K1.out.2.2.2.1; exact hln'.out.1; exact hln'.out.2; exact hl.out.below (K0.out.1.below K1.out.1).low; intro y2 H2; have K2 : Hid (Bx y2 b CC 29 ∧ Bx y2 p (rowB (List.replicate 256 0)) 5 ∧ Bx y2 m (rowB (l ++ List.replicate (3232 - n) 0)) 5 ∧ Below y0.heap.size y0 y2) := ⟨(H2.out.2.2 b (by have := Bx.unlike cC.out K1.out.2.2.2.1 (by decide); exact this)).trans cC.out, (H2.out.2.2 p K1.out.2.2.2.2.1).trans K1.out.2.2.1, H2.out.1, K1.out.1.trans (H2.out.2.1 _ K1.out.2.2.2.2.2.2.1)⟩; clear H2 c22)
      | ((with_reducible refine at_load rtG b CC ?_ ?_ (.tmp 4) ?_ ?_ ?_ ?_); exact K2.out.1; exact zC.out.1; kernel_rfl; rfl; rfl)
      | ((with_reducible refine at_st rtG w.heap.size Z CC ?_ ?_ ?_ ?_ (.tmp 2) (.tmp 16) ?_ ?_ ?_ ?_ ?_); exact (K0.out.1.below K2.out.2.2.2).bx 0 _ _ _ rfl; exact hZ'.out; exact zC.out.1; exact zC.out.2; rfl; rfl; rfl; rfl; intro yE HE; have KE : Hid (Bx yE w.heap.size CC 29 ∧ Bx yE p (rowB (List.replicate 256 0)) 5 ∧ Bx yE m (rowB (l ++ List.replicate (3232 - n) 0)) 5 ∧ Below w.heap.size w yE) := (by have h0 := K0.out.2; have h1 := K1.out.2.2.2.2.2.1; have h2 := K1.out.2.2.2.2.2.2.1; exact ⟨HE.out.1, (HE.out.2.2 p (by omega)).trans K2.out.2.1, (HE.out.2.2 m (by omega)).trans K2.out.2.2.1, (K0.out.1.below K2.out.2.2.2).low.trans (HE.out.2.1 _ (Nat.le_refl _))⟩)))
    refine ret_two rtG rfl rfl rfl KE.out.1 zC.out.1 rfl ⟨CC, rfl, ⟨⟨⟨.slice none 0 0, .slice (some ⟨p, 0, none⟩) 256 256, .slice (some ⟨m, 0, none⟩) 3232 3232, hCC.out, OwnL.nil _ _, ?_, ?_, ?_⟩, ⟨rfl, by show 0 < 65536; decide, by show 512 < 65536; decide, by simp [newG]⟩⟩, KE.out.2.2.2⟩⟩
    · have := own_of_bx (B := w.heap.size) KE.out.2.1 (by have h0 := K0.out.2; have h1 := K1.out.2.2.2.2.2.1; omega) (by rw [List.length_replicate]; decide)
      rw [List.length_replicate] at this
      exact this
    · have hl3 : (l ++ List.replicate (3232 - n) (0 : UInt8)).length = 3232 := by rw [List.length_append, List.length_replicate, hln'.out.1]; have := hln'.out.2; omega
      have := own_of_bx (B := w.heap.size) KE.out.2.2.1 (by have h0 := K0.out.2; have h1 := K1.out.2.2.2.2.2.2.1; omega) (by rw [hl3]; decide)
      rw [hl3] at this
      have e2 : (newG l).me = l ++ List.replicate (3232 - n) 0 := by show l ++ List.replicate (3232 - l.length) 0 = _; rw [hln'.out.1]
      rw [e2]
      exact this
    · intro q hq hq2
      have e1 : p = q := by simpa [Value.ownBlock] using hq
      have e2 : m = q := by simpa [Value.ownBlock] using hq2
      exact K1.out.2.2.2.2.1 (e1.trans e2.symm)
end Go.Proofs.Ytfkifppadngmdaa
