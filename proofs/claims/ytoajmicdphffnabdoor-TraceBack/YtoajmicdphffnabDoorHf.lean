/- A text read as a trace: the program's face. -/
import Derived.Test.YtoajmicdphffnabDoorHe
import Derived.Test.YtoajmicdphffnabDoorGj
namespace Go.Proofs.YtoajmicdphffnabDoor
open Go Go.RowKit
set_option linter.unusedVariables false
set_option maxHeartbeats 8000000
set_option maxRecDepth 20000

theorem catchT (pa pl pe pp : Nat) (at' : Int) (v x z : Value) (older : List PanicEntry) (w : World) (ha : Bx w pa #[.int .i64 at'] 3) (hl : Bx w pl #[v] 22) (he : Bx w pe #[x] 24) (hp : Bx w pp #[z] 3) (n1 : pe ≠ pl) (n2 : pp ≠ pl) (n3 : pp ≠ pe) :
    CallsD Tryd.prog 21 #[.pointer (some ⟨pa, 0, none⟩), .pointer (some ⟨pl, 0, none⟩), .pointer (some ⟨pe, 0, none⟩), .pointer (some ⟨pp, 0, none⟩)] (.panicking ({ v := pv, recovered := false } :: older)) w fun e' u' w' =>
      e' = .returned (.tuple #[]) ∧ u' = .panicking ({ v := pv, recovered := true } :: older) ∧ w' = ((w.setCell ⟨pl, 0, none⟩ (.slice none 0 0)).setCell ⟨pe, 0, none⟩ (.int .i64 90)).setCell ⟨pp, 0, none⟩ (.int .i64 at') := by
  have a0 := ha.c 0 _ rfl
  have l0 := hl.c 0 _ rfl
  have l1 := hl.fz 0
  have e0 := (he.setO (c := pl) (.slice none 0 0) n1).c 0 _ rfl
  have e1 := (he.setO (c := pl) (.slice none 0 0) n1).fz 0
  have p0 := ((hp.setO (c := pl) (.slice none 0 0) n2).setO (c := pe) (.int .i64 90) n3).c 0 _ rfl
  have p1 := ((hp.setO (c := pl) (.slice none 0 0) n2).setO (c := pe) (.int .i64 90) n3).fz 0
  clear ha hl he hp n1 n2 n3
  refine callsD_of_wpS Tryd.func21 rfl fun c₀ cs hu => ?_
  rw [show (#[.pointer (some ⟨pa, 0, none⟩), .pointer (some ⟨pl, 0, none⟩), .pointer (some ⟨pe, 0, none⟩), .pointer (some ⟨pp, 0, none⟩)] ++ Array.replicate (Tryd.f21.ntmps - (#[.pointer (some ⟨pa, 0, none⟩), .pointer (some ⟨pl, 0, none⟩), .pointer (some ⟨pe, 0, none⟩), .pointer (some ⟨pp, 0, none⟩)] : Array Value).size) undef : Array Value) = #[.pointer (some ⟨pa, 0, none⟩), .pointer (some ⟨pl, 0, none⟩), .pointer (some ⟨pe, 0, none⟩), .pointer (some ⟨pp, 0, none⟩), undef, undef, undef] from by rw [Tryd.ntmps21]; rfl]
  refine wpS_rec (v := pv) (cs' := { c₀ with mode := .panicking ({ v := pv, recovered := true } :: older) } :: cs) rfl (by kernel_rfl) (by rfl) (.inl (by simp [recoverD, hu, pv])) ?_
  unfold pv
  go_simp
  go_wp2
  exact ⟨rfl, _, rfl, .tuple #[], by simp [results, Tryd.results21], rfl, rfl, rfl⟩
theorem restT (pa pl pe pp : Nat) (w : World) :
    CallsD Tryd.prog 21 #[.pointer (some ⟨pa, 0, none⟩), .pointer (some ⟨pl, 0, none⟩), .pointer (some ⟨pe, 0, none⟩), .pointer (some ⟨pp, 0, none⟩)] .returning w fun e' u' w' => e' = .returned (.tuple #[]) ∧ u' = .returning ∧ w' = w := by
  refine callsD_of_wpS Tryd.func21 rfl fun c₀ cs hu => ?_
  rw [show (#[.pointer (some ⟨pa, 0, none⟩), .pointer (some ⟨pl, 0, none⟩), .pointer (some ⟨pe, 0, none⟩), .pointer (some ⟨pp, 0, none⟩)] ++ Array.replicate (Tryd.f21.ntmps - (#[.pointer (some ⟨pa, 0, none⟩), .pointer (some ⟨pl, 0, none⟩), .pointer (some ⟨pe, 0, none⟩), .pointer (some ⟨pp, 0, none⟩)] : Array Value).size) undef : Array Value) = #[.pointer (some ⟨pa, 0, none⟩), .pointer (some ⟨pl, 0, none⟩), .pointer (some ⟨pe, 0, none⟩), .pointer (some ⟨pp, 0, none⟩), undef, undef, undef] from by rw [Tryd.ntmps21]; rfl]
  refine wpS_rec (v := .nilIface) (cs' := c₀ :: cs) rfl (by kernel_rfl) (by rfl) (.inr ⟨by simp [recoverD, hu], rfl, rfl⟩) ?_
  go_simp
  go_wp2
  refine ⟨rfl, .returning, ?_, .tuple #[], by simp [results, Tryd.results21], rfl, rfl, rfl⟩
  cases c₀
  simp_all
theorem RwA.keepB {y z : World} {g p1 f1 p2 f2 p3 f3 : Nat} (h : RwA y g p1 f1 p2 f2 p3 f3) (hk : ∀ q cs t, (t = 72 ∨ t = 9 ∨ t = 77) → Bx y q cs t → Bx z q cs t) : RwA z g p1 f1 p2 f2 p3 f3 :=
  ⟨hk _ _ _ (.inl rfl) h.tab, hk _ _ _ (.inr (.inl rfl)) h.s1, hk _ _ _ (.inr (.inr rfl)) h.g1, hk _ _ _ (.inr (.inl rfl)) h.s2, hk _ _ _ (.inr (.inr rfl)) h.g2, hk _ _ _ (.inr (.inl rfl)) h.s3, hk _ _ _ (.inr (.inr rfl)) h.g3⟩
theorem RwA.setCell {y : World} {g p1 f1 p2 f2 p3 f3 : Nat} (h : RwA y g p1 f1 p2 f2 p3 f3) {b t : Nat} {cs : Array Value} (hb : Bx y b cs t) (ht : t ≠ 72 ∧ t ≠ 9 ∧ t ≠ 77) (v : Value) : RwA (y.setCell ⟨b, 0, none⟩ v) g p1 f1 p2 f2 p3 f3 :=
  h.keepB fun q cs' t' e hx => (heap_setCell_other y ⟨b, 0, none⟩ q v (Bx.diff hx hb (by rcases e with e | e | e <;> subst e <;> first | exact Ne.symm ht.1 | exact Ne.symm ht.2.1 | exact Ne.symm ht.2.2))).trans hx
theorem RwA.app {y z : World} {g p1 f1 p2 f2 p3 f3 B : Nat} {va va' : Value} {O : List Rc} {s : Rc} (h : RwA y g p1 f1 p2 f2 p3 f3) (ho : OwnR B y va O) (a : App1 B va O s va' y z) : RwA z g p1 f1 p2 f2 p3 f3 :=
  h.keepB fun q cs' t' e hx => (a.cu.blk q (heap_lt hx) fun j hF => by
    rcases ho.2 with ⟨h0, _⟩ | ⟨gb, cap, cur, hv, _, hg, _⟩
    · rw [h0] at hF; simp [Value.ownBlock] at hF
    · rw [hv] at hF
      have e1 : gb = q := by simpa [Value.ownBlock] using hF.1
      subst e1
      exact Bx.diff hx (show Bx y gb cur 45 from hg) (by rcases e with e | e | e <;> subst e <;> decide) rfl).trans hx
theorem Leaves.cong {P : Program} {fn : Func} {R : Ending → World → Prop} {t t' : Array Value} (h : results fn t = results fn t') : ∀ (ds : List Deferred) (u : FrameMode) (w : World), Leaves P fn t R ds u w → Leaves P fn t' R ds u w
  | [], .returning, w, hl => by
    obtain ⟨v, h1, h2⟩ := hl
    exact ⟨v, h ▸ h1, h2⟩
  | [], .panicking chain, w, hl => hl
  | [], .run, w, hl => hl
  | d :: ds, u, w, hl => by
    obtain ⟨h0, fv, cap, f, args, h1, h2, h3⟩ := hl
    refine ⟨h0, fv, cap, f, args, h1, h2, h3.mono ?_⟩
    intro e u' w' he
    cases e with
    | returned v => exact Leaves.cong h ds _ _ he
    | panicked c => exact Leaves.cong h ds _ _ he
    | outgrown => exact he
theorem res_put (t : Array Value) (d : Nat) (v : Value) (hd : 4 < d) : results Tryd.f6 (t.setIfInBounds d v) = results Tryd.f6 t := by
  have e : ∀ k, k ≤ 4 → (t.setIfInBounds d v)[k]?.getD undef = t[k]?.getD undef := fun k hk => by
    rw [Array.getElem?_setIfInBounds_ne (by omega)]
  unfold results
  rw [Tryd.results6]
  simp [e 2 (by omega), e 3 (by omega), e 4 (by omega)]
theorem op_bsR {o : Oper} {a : Act} {w : World} {K : Act → World → Prop} {Q : Exit → Act → World → Prop} (s : Rc) (x : Operand) (ho : o.op = .buildSlice 22 1 #[(0, x)]) (hx : a.eval x = .agg (rcC s))
    (h : K (a.put o.dst (.slice (some ⟨w.heap.size, 0, none⟩) 1 1)) (w.alloc (.cells (rcC s) 45))) : o.wp Tryd.prog a w K Q := by
  obtain ⟨i, hi, hz0, hz1, hz2⟩ := info_parts infoR
  refine wp_buildSlice 22 45 1 #[(0, x)] ho (rcC s) i _ Tryd.underlying22 hi hz0 (by rw [hz1]; decide) (by rw [hz1]; decide) ?_ h
  rw [hz1]
  have e : (#[(0, x)].map fun (i, x) => (i, a.eval x)).toList = [(0, .agg (rcC s))] := by simp [hx]
  rw [e]
  exact fillR s
theorem app_run {w y : World} {va : Value} {O : List Rc} {bs : List (Nat × Array Value × TypeId)} (h : Ct w va (.slice none 0 0) O [] bs y) (s : Rc) (hn : O.length ≤ 1000000) (hb : ∀ (i b : Nat) cs t, bs[i]? = some (b, cs, t) → t ≠ 45) :
    ∃ s' k' c' z, (Builtin.append_ #[22, 22] 22 #[va, .slice (some ⟨y.heap.size, 0, none⟩) 1 1]).run Tryd.prog (y.alloc (.cells (rcC s) 45)) = .ok (.slice s' k' c') z ∧ Ct w (.slice s' k' c') (.slice none 0 0) (O ++ [s]) [] bs z ∧ ∀ q cs t, t ≠ 45 → Bx y q cs t → Bx z q cs t := by
  obtain ⟨i, hi, hz0, hz1, hz2⟩ := info_parts infoR
  have hc : ∀ j u', (rcC s).toList[j]? = some u' → (y.alloc (.cells (rcC s) 45)).cell? ((⟨y.heap.size, 0, none⟩ : Addr).add j) = some u' := fun j u' hj => by
    rw [Addr.add_lit, Nat.zero_add]
    exact (one_bx y (rcC s) 45).c j u' (by rw [← Array.getElem?_toList]; exact hj)
  have hnews : ∀ x ∈ (rcC s).toList, x.oneCell' = true := fun x hx => rowR_one [s] x (by simp only [rowR, List.append_nil]; exact hx)
  obtain ⟨v', z, hrun, h3, h4, h5⟩ := run_append_own (P := Tryd.prog) (y.alloc (.cells (rcC s) 45)) w.heap.size 22 22 45 i (.agg (rcC zR)) 8 10 Tryd.underlying22 hi hz0 hz1 hz2 rfl (by decide) va O.length (rowR O) (h.oa.alloc _) ⟨y.heap.size, 0, none⟩ 1 1 (rcC s).toList rfl hc hnews (by unfold maxLen; omega) (by omega) (by have := h.fm.low.size; simp; omega)
  have ho : OwnR w.heap.size z v' (O ++ [s]) := by
    unfold OwnR
    rw [rowR_app, List.length_append]
    simpa [rowR] using h3
  have tyO : ∀ g, va.ownBlock = some g → ∃ cs, Bx y g cs 45 := fun g e => by
    rcases h.oa.2 with ⟨h0, _⟩ | ⟨gb, cap, cur, hv, _, hg, _⟩
    · rw [h0] at e; cases e
    · rw [hv] at e
      have e1 : gb = g := by simpa [Value.ownBlock] using e
      subst e1
      exact ⟨cur, hg⟩
  have tyN : ∀ g, v'.ownBlock = some g → ∃ cs, Bx z g cs 45 := fun g e => by
    rcases ho.2 with ⟨h0, _⟩ | ⟨gb, cap, cur, hv, _, hg, _⟩
    · rw [h0] at e; cases e
    · rw [hv] at e
      have e1 : gb = g := by simpa [Value.ownBlock] using e
      subst e1
      exact ⟨cur, hg⟩
  have keep : ∀ q cs t, t ≠ 45 → Bx y q cs t → Bx z q cs t := fun q cs t ht hx => by
    have h1 := ((below1 y (.cells (rcC s) 45)).block q (heap_lt hx)).trans hx
    refine (h4.block q (by have := heap_lt hx; simp; omega) fun e => ?_).trans h1
    obtain ⟨cs', h2⟩ := tyO q e.symm
    exact Bx.diff hx h2 ht rfl
  obtain ⟨s', k', c', rfl⟩ := OwnR.op ho
  refine ⟨s', k', c', z, hrun, ⟨⟨fun i b cs t e => keep b cs t (hb i b cs t e) (h.fm.get i b cs t e), h.fm.ge, h.fm.ne, Below.grown (h.fm.low.alloc h.fm.low.size _) h4 (by have := h.fm.low.size; simp; omega) (fun q hq => (World.ownsRow.lt h.oa q hq).1)⟩, ho, OwnR.nil _ _, fun g _ => by simp [Value.ownBlock], fun i b cs t e => ⟨fun e1 => ?_, by simp [Value.ownBlock]⟩⟩, keep⟩
  obtain ⟨cs', h2⟩ := tyN b e1
  exact Bx.diff (keep b cs t (hb i b cs t e) (h.fm.get i b cs t e)) h2 (hb i b cs t e) rfl
theorem bsU_ty (b0 b1 b2 b3 : Nat) (va : Value) (e p a : Int) : ∀ (i b : Nat) cs t, (bsU b0 b1 b2 b3 va e p a)[i]? = some (b, cs, t) → t ≠ 45 := fun i b cs t h => by
  have := List.mem_of_getElem? h
  simp [bsU] at this
  rcases this with h | h | h | h <;> (obtain ⟨_, _, rfl⟩ := h; decide)
theorem pparse_any (w : World) (tb : Hid (Tp w)) (tq : Hid (Tq w)) (text : ByteArray) (hs : text.size ≤ 9223372036854775807) :
    Calls Tryd.prog 6 #[.string text] w fun e w' => ∃ v, e = .returned (.tuple #[v, .int .i64 (parseR (strL text)).2.1, .int .i64 (parseR (strL text)).2.2]) ∧ Hid (Ct w v (.slice none 0 0) (parseR (strL text)).1 [] [] w') := by
  have hmf : ∀ (fn : Fn) (first cap : Array Value) (w : World), (Instr.makeFunc fn first cap).run Tryd.prog w = .ok (.func fn first cap) w := fun _ _ _ _ => rfl
  have hS : Hid _ := startU w
  have si : (text.size : Int) ≤ 9223372036854775807 := by omega
  obtain ⟨PS, hPS⟩ : ∃ x, parseR (strL text) = x := ⟨_, rfl⟩
  rw [hPS]
  by_cases hbig : 65536 < text.size
  · have fin : Hid (PS = ([], 2, 0)) := by show PS = _; rw [← hPS]; unfold parseR; rw [if_pos (by rw [strL_len]; exact hbig)]
    have q : decide ((65536 : Int) < text.size) = true := by simp; omega
    have L1 : Hid _ := hS.out.setCell 1 _ _ #[.int .i64 2] _ rfl 0 (.int .i64 2) rfl
    clear hbig hs hPS
    go_enter_defers Tryd.func6, Tryd.ntmps6
    go_wp2
    refine leaves_cons (f := 21) (args := #[.pointer (some ⟨w.heap.size + 1 + 1 + 1, 0, none⟩), .pointer (some ⟨w.heap.size, 0, none⟩), .pointer (some ⟨w.heap.size + 1, 0, none⟩), .pointer (some ⟨w.heap.size + 1 + 1, 0, none⟩)]) (by simp) (by simp [go_sem]) ?_
    refine (restT _ _ _ _ _).mono ?_
    rintro e u' w' ⟨rfl, rfl, rfl⟩
    have F : Fm w [(w.heap.size, #[.slice none 0 0], 22), (w.heap.size + 1, #[.int .i64 2], 24), (w.heap.size + 1 + 1, #[.int .i64 0], 3), (w.heap.size + 1 + 1 + 1, #[.int .i64 0], 3)] ((((w.alloc (.cells #[.slice none 0 0] 22)).alloc (.cells #[.int .i64 2] 24)).alloc (.cells #[.int .i64 0] 3)).alloc (.cells #[.int .i64 0] 3)) := by
      have h := ((((Fm.nil w).new #[.slice none 0 0] 22).new #[.int .i64 2] 24).new #[.int .i64 0] 3).new #[.int .i64 0] 3
      simpa using h
    have r1 := (F.bx 0 _ _ _ rfl).c 0 _ rfl
    have r2 := (F.bx 1 _ _ _ rfl).c 0 _ rfl
    have r3 := (F.bx 2 _ _ _ rfl).c 0 _ rfl
    have fin2 : Hid (Ct w (.slice none 0 0) (.slice none 0 0) [] [] [] _) := (Ct.nil w).below F.low
    clear F L1
    generalize (((w.alloc (.cells #[.slice none 0 0] 22)).alloc (.cells #[.int .i64 2] 24)).alloc (.cells #[.int .i64 0] 3)).alloc (.cells #[.int .i64 0] 3) = W at r1 r2 r3 fin2 ⊢
    rw [fin.out]
    simp [Leaves, settle, results, Tryd.results6, go_sem, r1, r2, r3]
    exact fin2
  · have q : decide ((65536 : Int) < text.size) = false := by simp; omega
    have hpst : Hid (pst (strL text) 0 [] = PS) := by show _ = _; rw [← parse_pst _ (by rw [strL_len]; omega)]; exact hPS
    have hsz : Hid (text.size ≤ 65536) := by show _ ≤ _; omega
    clear hbig hs hPS
    go_enter_defers Tryd.func6, Tryd.ntmps6
    go_wp2_with (go_at_call 13; refine (rows_any _).mono ?_; rintro e y1 ⟨g, p1, f1, p2, f2, p3, f3, rfl, H1⟩; have K1 : Hid (Ct w (.slice none 0 0) (.slice none 0 0) [] [] (bsU w.heap.size (w.heap.size + 1) (w.heap.size + 1 + 1) (w.heap.size + 1 + 1 + 1) (.slice none 0 0) 0 0 0) y1) := hS.out.below H1.out.2; have R1 : Hid (RwA y1 g p1 f1 p2 f2 p3 f3) := H1.out.1; clear H1; refine stopAt ?_)
    refine Stop.go ?_
    obtain ⟨b0, q0⟩ : ∃ b, w.heap.size = b := ⟨_, rfl⟩
    obtain ⟨b1, q1⟩ : ∃ b, w.heap.size + 1 = b := ⟨_, rfl⟩
    obtain ⟨b2, q2⟩ : ∃ b, w.heap.size + 1 + 1 = b := ⟨_, rfl⟩
    obtain ⟨b3, q3⟩ : ∃ b, w.heap.size + 1 + 1 + 1 = b := ⟨_, rfl⟩
    rw [q3, q2, q1] at K1 ⊢
    have K0 : Hid (Ct w (.slice none 0 0) (.slice none 0 0) [] [] (bsU b0 b1 b2 b3 (.slice none 0 0) 0 0 0) y1) := by rw [← q0]; exact K1
    rw [q0]
    clear K1 hS q0 q1 q2 q3 si q
    go_wp2
    go_loopw [7] (fun t wz => ∃ (i : Nat) (rest : ByteArray) (va : Value) (O : List Rc) (y : World), y = wz ∧ t = .string rest ∧ Hid (i + rest.size ≤ 65536 ∧ O.length ≤ i ∧ pst (strL rest) i O = PS) ∧ Hid (Ct w va (.slice none 0 0) O [] (bsU b0 b1 b2 b3 va 0 0 i) y ∧ RwA y g p1 f1 p2 f2 p3 f3)) (fun t _ => match t with | .string s => s.size | _ => 0)
    case atStart => exact ⟨0, text, _, [], y1, rfl, rfl, ⟨by have := hsz.out; omega, Nat.le_refl _, hpst.out⟩, K0.out, R1.out⟩
    case round =>
      obtain ⟨i, rest, va, O, y, rfl, rfl, J, K⟩ := hrel
      have ii : (i : Int) ≤ 65536 := by have := J.out.1; omega
      have d3 := (K.out.1.fm.bx 3 _ _ _ rfl).c 0 _ rfl
      have f3' := (K.out.1.fm.bx 3 _ _ _ rfl).fz 0
      by_cases hz : rest.size = 0
      · have est : rest = ⟨#[]⟩ := by
          have : strL rest = [] := List.eq_nil_of_length_eq_zero (by rw [strL_len]; exact hz)
          rw [← strL_mk rest, this]
        have fin : Hid (PS = (O, 0, 0)) := by
          have h1 := J.out.2.2
          rw [est] at h1
          show _ = _
          rw [← h1]
          rfl
        subst est
        obtain ⟨s3, k3, c3, rfl⟩ := K.out.1.oa.op
        have c0 := (K.out.1.fm.bx 0 _ _ _ rfl).c 0 _ rfl
        have g0 := (K.out.1.fm.bx 0 _ _ _ rfl).fz 0
        have L1 : Hid (Ct w (.slice s3 k3 c3) (.slice none 0 0) O [] (bsU b0 b1 b2 b3 (.slice s3 k3 c3) 0 0 i) (y.setCell ⟨b0, 0, none⟩ (.slice s3 k3 c3))) := K.out.1.setCell 0 b0 _ #[.slice s3 k3 c3] _ rfl 0 _ rfl
        have c1 := (L1.out.fm.bx 1 _ _ _ rfl).c 0 _ rfl
        have g1 := (L1.out.fm.bx 1 _ _ _ rfl).fz 0
        have L2 : Hid (Ct w (.slice s3 k3 c3) (.slice none 0 0) O [] (bsU b0 b1 b2 b3 (.slice s3 k3 c3) 0 0 i) ((y.setCell ⟨b0, 0, none⟩ (.slice s3 k3 c3)).setCell ⟨b1, 0, none⟩ (.int .i64 0))) := L1.out.setCell 1 b1 _ #[.int .i64 0] _ rfl 0 _ rfl
        have c2 := (L2.out.fm.bx 2 _ _ _ rfl).c 0 _ rfl
        have g2 := (L2.out.fm.bx 2 _ _ _ rfl).fz 0
        have L3 : Hid (Ct w (.slice s3 k3 c3) (.slice none 0 0) O [] (bsU b0 b1 b2 b3 (.slice s3 k3 c3) 0 0 i) (((y.setCell ⟨b0, 0, none⟩ (.slice s3 k3 c3)).setCell ⟨b1, 0, none⟩ (.int .i64 0)).setCell ⟨b2, 0, none⟩ (.int .i64 0))) := L2.out.setCell 2 b2 _ #[.int .i64 0] _ rfl 0 _ rfl
        have r1 := (L3.out.fm.bx 0 _ _ _ rfl).c 0 _ rfl
        have r2 := (L3.out.fm.bx 1 _ _ _ rfl).c 0 _ rfl
        have r3 := (L3.out.fm.bx 2 _ _ _ rfl).c 0 _ rfl
        have r4 : Hid (Ct w (.slice s3 k3 c3) (.slice none 0 0) O [] [] (((y.setCell ⟨b0, 0, none⟩ (.slice s3 k3 c3)).setCell ⟨b1, 0, none⟩ (.int .i64 0)).setCell ⟨b2, 0, none⟩ (.int .i64 0))) := L3.out.pre (bs := [])
        clear hz d3 f3'
        go_wp2
        refine leaves_cons (f := 21) (args := #[.pointer (some ⟨b3, 0, none⟩), .pointer (some ⟨b0, 0, none⟩), .pointer (some ⟨b1, 0, none⟩), .pointer (some ⟨b2, 0, none⟩)]) (by simp) (by simp [go_sem]) ?_
        refine (restT _ _ _ _ _).mono ?_
        rintro e u' w' ⟨rfl, rfl, rfl⟩
        rw [fin.out]
        simp [Leaves, settle, results, Tryd.results6, go_sem, r1, r2, r3]
        exact r4
      · have qe : rest.toList.isEmpty = false := by
          rw [toL]
          cases h : strL rest with
          | nil => exact absurd (by rw [← strL_len, h]; rfl) hz
          | cons a b => rfl
        have hne : Hid (strL rest ≠ []) := fun h => hz (by rw [← strL_len, h]; rfl)
        have hrz : Hid (rest.size ≤ 65536) := by have := J.out.1; show _ ≤ _; omega
        have hcut : Hid (∀ z, Below w.heap.size w z → _) := fun z hz => cutl_any z (tq.out.below hz) rest (by have := hrz.out; omega)
        have K1 : Hid (Ct w va (.slice none 0 0) O [] (bsU b0 b1 b2 b3 va 0 0 ((i : Int) + 1)) (y.setCell ⟨b3, 0, none⟩ (.int .i64 ((i : Int) + 1))) ∧ RwA (y.setCell ⟨b3, 0, none⟩ (.int .i64 ((i : Int) + 1))) g p1 f1 p2 f2 p3 f3) := ⟨K.out.1.setCell 3 b3 _ #[.int .i64 ((i : Int) + 1)] _ rfl 0 _ rfl, K.out.2.setCell (K.out.1.fm.bx 3 _ _ _ rfl) (by decide) _⟩
        clear hz
        go_wp2_with (first
          | ((with_reducible refine gen_world (y.setCell ⟨b3, 0, none⟩ (.int .i64 ((i : Int) + 1))) (fun z => Ct w va (.slice none 0 0) O [] (bsU b0 b1 b2 b3 va 0 0 ((i : Int) + 1)) z ∧ RwA z g p1 f1 p2 f2 p3 f3) ?_ ?_); exact K1.out; intro y2 K2)
          | (go_at_call 22; refine (hcut.out y2 K2.out.1.fm.low).mono ?_; rintro e y3 ⟨own, oth, fd, rfl, H3, B3⟩; have K3 : Hid (Ct w va (.slice none 0 0) O [] (bsU b0 b1 b2 b3 va 0 0 ((i : Int) + 1)) y3 ∧ RwA y3 g p1 f1 p2 f2 p3 f3) := ⟨K2.out.1.below B3.out, K2.out.2.below B3.out⟩; refine stopAt ?_))
        refine Stop.go ?_
        clear d3 f3' K1 qe
        cases fd
        · have hno : ∀ x ∈ strL rest, x ≠ 10 := by
            rcases H3.out with h | h
            · exact h.2.2
            · exact absurd h.1 (by decide)
          have fin : Hid (PS = ([], 90, (i : Int) + 1)) := by
            show _ = _
            rw [← J.out.2.2, pst_open _ i O hno hne.out]
          clear hno
          go_wp2_with (go_at_call 23; refine (need_no y3).mono ?_; rintro e z4 ⟨rfl, hz4⟩; replace hz4 := hz4.symm; subst hz4)
          have K4 : Hid (Ct w va (.slice none 0 0) O [] (bsU b0 b1 b2 b3 va 0 0 ((i : Int) + 1)) y3) := K3.out.1
          refine leaves_cons (f := 21) (args := #[.pointer (some ⟨b3, 0, none⟩), .pointer (some ⟨b0, 0, none⟩), .pointer (some ⟨b1, 0, none⟩), .pointer (some ⟨b2, 0, none⟩)]) (by simp) (by simp [go_sem]) ?_
          refine (catchT b3 b0 b1 b2 ((i : Int) + 1) _ _ _ [] _ (K4.out.fm.bx 3 _ _ _ rfl) (K4.out.fm.bx 0 _ _ _ rfl) (K4.out.fm.bx 1 _ _ _ rfl) (K4.out.fm.bx 2 _ _ _ rfl) (bsU_ne K4.out).1 (bsU_ne K4.out).2.1 (bsU_ne K4.out).2.2).mono ?_
          rintro e u' w' ⟨rfl, rfl, rfl⟩
          obtain ⟨r1, r2, r3, r4⟩ := K4.out.caught 90 ((i : Int) + 1)
          replace r4 : Hid _ := r4
          rw [fin.out]
          simp [Leaves, settle, results, Tryd.results6, go_sem, r1, r2, r3]
          exact r4
        · have hyes : Hid (strL rest = strL own ++ 10 :: strL oth ∧ (∀ x ∈ strL own, x ≠ 10) ∧ own.size + oth.size + 1 = rest.size) := by
            rcases H3.out with h | h
            · exact absurd h.1 (by decide)
            · exact h.2
          have hst : Hid (PS = match recOf (strL own) with | none => ([], 90, (i : Int) + 1) | some r => pst (strL oth) (i + 1) (O ++ [r])) := by
            show _ = _
            rw [← J.out.2.2, hyes.out.1, pst_line _ _ i O hyes.out.2.1]
            cases recOf (strL own) <;> rfl
          have hrl : Hid (∀ z, Below w.heap.size w z → RwA z g p1 f1 p2 f2 p3 f3 → Calls Tryd.prog 24 #[.slice (some ⟨g, 0, none⟩) 8 8, .string own] z fun e w' => e = endT (recOf (strL own)) ∧ Hid (Below z.heap.size z w')) := fun z hz hr => readline_any z (tb.out.below hz) (tq.out.below hz) g p1 f1 p2 f2 p3 f3 hr own (by have := hyes.out.2.2; have := hrz.out; omega)
          have hOl : Hid (O.length ≤ 65536) := by have := J.out.1; have := J.out.2.1; show _ ≤ _; omega
          obtain ⟨s3, k3, c3, hva⟩ := K3.out.1.oa.op
          subst hva
          clear H3
          go_wp2_with (go_at_call 23; refine (need_ok y3).mono ?_; rintro e z4 ⟨rfl, hz4⟩; replace hz4 := hz4.symm; subst hz4)
          cases hrec : recOf (strL own) with
          | none =>
            rw [hrec] at hrl hst
            simp only [endT] at hrl
            have fin : Hid (PS = ([], 90, (i : Int) + 1)) := hst.out
            clear hrec
            refine wp_region_held_drew (S := fun z => Ct w (.slice s3 k3 c3) (.slice none 0 0) O [] (bsU b0 b1 b2 b3 (.slice s3 k3 c3) 0 0 ((i : Int) + 1)) z ∧ RwA z g p1 f1 p2 f2 p3 f3) (by kernel_rfl) ⟨K3.out.1.below (below_drew (Below.refl _ _)), K3.out.2.below (below_drew (Below.refl _ _))⟩ (fun hH => ?_)
            generalize y3.drew = z0 at hH ⊢
            refine wpAnyH_take (i := 0) (v := .slice s3 k3 c3) rfl (by kernel_rfl) (by kernel_rfl) (by kernel_rfl) (fun _ a _ h => Leaves.cong (res_put a.tmps _ _ (by decide)) _ _ _ h) (.inl ⟨by kernel_rfl, fun u hu => by have c := (hu.1.fm.bx 0 _ _ _ rfl).c 0 _ rfl; go_simp⟩) hH ?_
            try simp only [Act.put, List.setIfInBounds_toArray]
            refine wpAnyH_take (i := 1) (v := .slice (some ⟨g, 0, none⟩) 8 8) rfl (by kernel_rfl) (by kernel_rfl) (by kernel_rfl) (fun _ a _ h => Leaves.cong (res_put a.tmps _ _ (by decide)) _ _ _ h) (.inl ⟨by kernel_rfl, fun u hu => by go_simp⟩) hH ?_
            try simp only [Act.put]
            refine wpAnyH_take (i := 2) (v := .string own) rfl (by kernel_rfl) (by kernel_rfl) (by kernel_rfl) (fun _ a _ h => Leaves.cong (res_put a.tmps _ _ (by decide)) _ _ _ h) (.inl ⟨by kernel_rfl, fun u hu => by go_simp⟩) hH ?_
            try simp only [Act.put]
            refine wpAnyH_ready (rs := [3]) (by kernel_rfl) (by simp) (AllReadyH.cons rfl (fun K hK => ?_) AllReadyH.nil)
            rw [if_pos (by rfl)]
            have U0 : Hid _ := hH
            go_wp2_with (go_at_call 24; refine (hrl.out z0 U0.out.1.fm.low U0.out.2).mono ?_; rintro e y5 ⟨rfl, H5⟩; have K5 : Hid (Ct w (.slice s3 k3 c3) (.slice none 0 0) O [] (bsU b0 b1 b2 b3 (.slice s3 k3 c3) 0 0 ((i : Int) + 1)) y5) := U0.out.1.below H5.out)
            refine leaves_cons (f := 21) (args := #[.pointer (some ⟨b3, 0, none⟩), .pointer (some ⟨b0, 0, none⟩), .pointer (some ⟨b1, 0, none⟩), .pointer (some ⟨b2, 0, none⟩)]) (by simp) (by simp [go_sem]) ?_
            refine (catchT b3 b0 b1 b2 ((i : Int) + 1) _ _ _ [] _ (K5.out.fm.bx 3 _ _ _ rfl) (K5.out.fm.bx 0 _ _ _ rfl) (K5.out.fm.bx 1 _ _ _ rfl) (K5.out.fm.bx 2 _ _ _ rfl) (bsU_ne K5.out).1 (bsU_ne K5.out).2.1 (bsU_ne K5.out).2.2).mono ?_
            rintro e u' w' ⟨rfl, rfl, rfl⟩
            obtain ⟨r1, r2, r3, r4⟩ := K5.out.caught 90 ((i : Int) + 1)
            replace r4 : Hid _ := r4
            rw [fin.out]
            simp [Leaves, settle, results, Tryd.results6, go_sem, r1, r2, r3]
            exact r4
          | some s =>
            rw [hrec] at hrl hst
            simp only [endT] at hrl
            have J3 : Hid (pst (strL oth) (i + 1) (O ++ [s]) = PS) := hst.out.symm
            clear hrec
            refine wp_region_held_drew (S := fun _ => True) (by kernel_rfl) trivial (fun hH => ?_)
            have U0 : Hid (Ct w (.slice s3 k3 c3) (.slice none 0 0) O [] (bsU b0 b1 b2 b3 (.slice s3 k3 c3) 0 0 ((i : Int) + 1)) y3.drew ∧ RwA y3.drew g p1 f1 p2 f2 p3 f3) := ⟨K3.out.1.below (below_drew (Below.refl _ _)), K3.out.2.below (below_drew (Below.refl _ _))⟩
            generalize y3.drew = z0 at U0 ⊢
            refine wpAnyH_take (i := 1) (v := .slice (some ⟨g, 0, none⟩) 8 8) rfl (by kernel_rfl) (by kernel_rfl) (by kernel_rfl) (fun _ a _ h => Leaves.cong (res_put a.tmps _ _ (by decide)) _ _ _ h) (.inl ⟨by kernel_rfl, fun u hu => by go_simp⟩) hH ?_
            try simp only [Act.put, List.setIfInBounds_toArray]
            refine wpAnyH_take (i := 2) (v := .string own) rfl (by kernel_rfl) (by kernel_rfl) (by kernel_rfl) (fun _ a _ h => Leaves.cong (res_put a.tmps _ _ (by decide)) _ _ _ h) (.inl ⟨by kernel_rfl, fun u hu => by go_simp⟩) hH ?_
            try simp only [Act.put]
            refine wpAnyH_ready (rs := [0, 3]) (by kernel_rfl) (by simp) (AllReadyH.cons rfl (fun K hK => ?_) (AllReadyH.cons rfl (fun K hK => ?_) AllReadyH.nil))
            · rw [if_pos (by rfl)]
              have c0 := (U0.out.1.fm.bx 0 _ _ _ rfl).c 0 _ rfl
              go_wp2
              refine hK.out _ _ trivial (fun _ => ?_)
              clear hK K c0
              try simp only [Act.put, List.setIfInBounds_toArray, List.set_cons_zero, List.set_cons_succ]
              refine wpAnyH_ready (rs := [3]) (by kernel_rfl) (by simp) (AllReadyH.cons rfl (fun K hK => ?_) AllReadyH.nil)
              rw [if_pos (by rfl)]
              go_wp2_with (go_at_call 24; refine (hrl.out z0 U0.out.1.fm.low U0.out.2).mono ?_; rintro e y5 ⟨rfl, H5⟩; have K5 : Hid (Ct w (.slice s3 k3 c3) (.slice none 0 0) O [] (bsU b0 b1 b2 b3 (.slice s3 k3 c3) 0 0 ((i : Int) + 1)) y5 ∧ RwA y5 g p1 f1 p2 f2 p3 f3) := ⟨U0.out.1.below H5.out, U0.out.2.below H5.out⟩; refine stopAt ?_)
              refine Stop.go ?_
              obtain ⟨s4, k4, c4, y12, hrun, H12, keep⟩ := app_run K5.out.1 s (by have := hOl.out; omega) (bsU_ty _ _ _ _ _ _ _ _)
              have K12 : Hid (Ct w (.slice s4 k4 c4) (.slice none 0 0) (O ++ [s]) [] (bsU b0 b1 b2 b3 (.slice s3 k3 c3) 0 0 ((i : Int) + 1)) y12 ∧ RwA y12 g p1 f1 p2 f2 p3 f3) := ⟨H12, K5.out.2.keepB fun q cs t e hx => keep q cs t (by rcases e with e | e | e <;> subst e <;> decide) hx⟩
              replace hrun : Hid _ := hrun
              clear H12 keep
              refine hK.out _ _ trivial (fun _ => ?_)
              clear hK K
              try simp only [Act.put, List.setIfInBounds_toArray, List.set_cons_zero, List.set_cons_succ]
              refine wpAnyH_ready (rs := [4]) (by kernel_rfl) (by simp) (AllReadyH.cons rfl (fun K hK => ?_) AllReadyH.nil)
              rw [if_pos (by rfl)]
              refine op_bsR s (.tmp 32) rfl rfl ?_
              refine hK.out _ _ trivial (fun _ => ?_)
              clear hK K
              try simp only [Act.put, List.setIfInBounds_toArray]
              refine wpAnyH_ready (rs := [5]) (by kernel_rfl) (by simp) (AllReadyH.cons rfl (fun K hK => ?_) AllReadyH.nil)
              rw [if_pos (by rfl)]
              refine op_append (v := .slice s3 k3 c3) (u := .slice (some ⟨y5.heap.size, 0, none⟩) 1 1) (.tmp 29) (.tmp 33) 22 rfl rfl rfl hrun.out ?_
              refine hK.out _ _ trivial (fun _ => ?_)
              clear hK K
              try simp only [Act.put]
              refine wpAnyH_ready (rs := [6]) (by kernel_rfl) (by simp) (AllReadyH.cons rfl (fun K hK => ?_) AllReadyH.nil)
              rw [if_pos (by rfl)]
              have c12 := (K12.out.1.fm.bx 0 _ _ _ rfl).c 0 _ rfl
              have f12 := (K12.out.1.fm.bx 0 _ _ _ rfl).fz 0
              go_wp2
              refine hK.out _ _ trivial (fun _ => ?_)
              clear hK K c12 f12
              try simp only [Act.put, List.setIfInBounds_toArray, List.set_cons_zero, List.set_cons_succ]
              refine wpAnyH_done (by kernel_rfl) ?_ _
              have K13 : Hid (Ct w (.slice s4 k4 c4) (.slice none 0 0) (O ++ [s]) [] (bsU b0 b1 b2 b3 (.slice s4 k4 c4) 0 0 ((i : Int) + 1)) (y12.setCell ⟨b0, 0, none⟩ (.slice s4 k4 c4)) ∧ RwA (y12.setCell ⟨b0, 0, none⟩ (.slice s4 k4 c4)) g p1 f1 p2 f2 p3 f3) := ⟨K12.out.1.setCell 0 b0 _ #[.slice s4 k4 c4] _ rfl 0 _ rfl, K12.out.2.setCell (K12.out.1.fm.bx 0 _ _ _ rfl) (by decide) _⟩
              generalize y12.setCell ⟨b0, 0, none⟩ (.slice s4 k4 c4) = y13 at K13 ⊢
              go_wp2
              go_roundw
              case rel => exact ⟨i + 1, oth, _, _, _, rfl, rfl, ⟨by have := J.out.1; have := hyes.out.2.2; omega, by have := J.out.2.1; simp; omega, J3.out⟩, by have h := K13.out; rw [show ((i : Int) + 1) = ((i + 1 : Nat) : Int) by push_cast; rfl] at h; exact h⟩
              case measure => have := hyes.out.2.2; simp; omega
            · rw [if_pos (by rfl)]
              go_wp2_with (go_at_call 24; refine (hrl.out z0 U0.out.1.fm.low U0.out.2).mono ?_; rintro e y5 ⟨rfl, H5⟩; have K5 : Hid (Ct w (.slice s3 k3 c3) (.slice none 0 0) O [] (bsU b0 b1 b2 b3 (.slice s3 k3 c3) 0 0 ((i : Int) + 1)) y5 ∧ RwA y5 g p1 f1 p2 f2 p3 f3) := ⟨U0.out.1.below H5.out, U0.out.2.below H5.out⟩; refine stopAt ?_)
              refine Stop.go ?_
              obtain ⟨s4, k4, c4, y12, hrun, H12, keep⟩ := app_run K5.out.1 s (by have := hOl.out; omega) (bsU_ty _ _ _ _ _ _ _ _)
              have K12 : Hid (Ct w (.slice s4 k4 c4) (.slice none 0 0) (O ++ [s]) [] (bsU b0 b1 b2 b3 (.slice s3 k3 c3) 0 0 ((i : Int) + 1)) y12 ∧ RwA y12 g p1 f1 p2 f2 p3 f3) := ⟨H12, K5.out.2.keepB fun q cs t e hx => keep q cs t (by rcases e with e | e | e <;> subst e <;> decide) hx⟩
              replace hrun : Hid _ := hrun
              clear H12 keep
              refine hK.out _ _ trivial (fun _ => ?_)
              clear hK K
              try simp only [Act.put, List.setIfInBounds_toArray, List.set_cons_zero, List.set_cons_succ]
              refine wpAnyH_ready (rs := [0, 4]) (by kernel_rfl) (by simp) (AllReadyH.cons rfl (fun K hK => ?_) (AllReadyH.cons rfl (fun K hK => ?_) AllReadyH.nil))
              · rw [if_pos (by rfl)]
                have c0 := (K5.out.1.fm.bx 0 _ _ _ rfl).c 0 _ rfl
                go_wp2
                refine hK.out _ _ trivial (fun _ => ?_)
                clear hK K c0
                try simp only [Act.put, List.setIfInBounds_toArray, List.set_cons_zero, List.set_cons_succ]
                refine wpAnyH_ready (rs := [4]) (by kernel_rfl) (by simp) (AllReadyH.cons rfl (fun K hK => ?_) AllReadyH.nil)
                rw [if_pos (by rfl)]
                refine op_bsR s (.tmp 32) rfl rfl ?_
                refine hK.out _ _ trivial (fun _ => ?_)
                clear hK K
                try simp only [Act.put, List.setIfInBounds_toArray]
                refine wpAnyH_ready (rs := [5]) (by kernel_rfl) (by simp) (AllReadyH.cons rfl (fun K hK => ?_) AllReadyH.nil)
                rw [if_pos (by rfl)]
                refine op_append (v := .slice s3 k3 c3) (u := .slice (some ⟨y5.heap.size, 0, none⟩) 1 1) (.tmp 29) (.tmp 33) 22 rfl rfl rfl hrun.out ?_
                refine hK.out _ _ trivial (fun _ => ?_)
                clear hK K
                try simp only [Act.put]
                refine wpAnyH_ready (rs := [6]) (by kernel_rfl) (by simp) (AllReadyH.cons rfl (fun K hK => ?_) AllReadyH.nil)
                rw [if_pos (by rfl)]
                have c12 := (K12.out.1.fm.bx 0 _ _ _ rfl).c 0 _ rfl
                have f12 := (K12.out.1.fm.bx 0 _ _ _ rfl).fz 0
                go_wp2
                refine hK.out _ _ trivial (fun _ => ?_)
                clear hK K c12 f12
                try simp only [Act.put, List.setIfInBounds_toArray, List.set_cons_zero, List.set_cons_succ]
                refine wpAnyH_done (by kernel_rfl) ?_ _
                have K13 : Hid (Ct w (.slice s4 k4 c4) (.slice none 0 0) (O ++ [s]) [] (bsU b0 b1 b2 b3 (.slice s4 k4 c4) 0 0 ((i : Int) + 1)) (y12.setCell ⟨b0, 0, none⟩ (.slice s4 k4 c4)) ∧ RwA (y12.setCell ⟨b0, 0, none⟩ (.slice s4 k4 c4)) g p1 f1 p2 f2 p3 f3) := ⟨K12.out.1.setCell 0 b0 _ #[.slice s4 k4 c4] _ rfl 0 _ rfl, K12.out.2.setCell (K12.out.1.fm.bx 0 _ _ _ rfl) (by decide) _⟩
                generalize y12.setCell ⟨b0, 0, none⟩ (.slice s4 k4 c4) = y13 at K13 ⊢
                go_wp2
                go_roundw
                case rel => exact ⟨i + 1, oth, _, _, _, rfl, rfl, ⟨by have := J.out.1; have := hyes.out.2.2; omega, by have := J.out.2.1; simp; omega, J3.out⟩, by have h := K13.out; rw [show ((i : Int) + 1) = ((i + 1 : Nat) : Int) by push_cast; rfl] at h; exact h⟩
                case measure => have := hyes.out.2.2; simp; omega
              · rw [if_pos (by rfl)]
                refine op_bsR s (.tmp 32) rfl rfl ?_
                refine hK.out _ _ trivial (fun _ => ?_)
                clear hK K
                try simp only [Act.put, List.setIfInBounds_toArray]
                refine wpAnyH_ready (rs := [0]) (by kernel_rfl) (by simp) (AllReadyH.cons rfl (fun K hK => ?_) AllReadyH.nil)
                rw [if_pos (by rfl)]
                have c0 : (y5.alloc (.cells (rcC s) 45)).cell? ⟨b0, 0, none⟩ = some (.slice s3 k3 c3) := (((K5.out.1.below (below1 _ _)).fm.bx 0 _ _ _ rfl).c 0 _ rfl)
                go_wp2
                refine hK.out _ _ trivial (fun _ => ?_)
                clear hK K c0
                try simp only [Act.put, List.setIfInBounds_toArray, List.set_cons_zero, List.set_cons_succ]
                refine wpAnyH_ready (rs := [5]) (by kernel_rfl) (by simp) (AllReadyH.cons rfl (fun K hK => ?_) AllReadyH.nil)
                rw [if_pos (by rfl)]
                refine op_append (v := .slice s3 k3 c3) (u := .slice (some ⟨y5.heap.size, 0, none⟩) 1 1) (.tmp 29) (.tmp 33) 22 rfl rfl rfl hrun.out ?_
                refine hK.out _ _ trivial (fun _ => ?_)
                clear hK K
                try simp only [Act.put, List.setIfInBounds_toArray]
                refine wpAnyH_ready (rs := [6]) (by kernel_rfl) (by simp) (AllReadyH.cons rfl (fun K hK => ?_) AllReadyH.nil)
                rw [if_pos (by rfl)]
                have c12 := (K12.out.1.fm.bx 0 _ _ _ rfl).c 0 _ rfl
                have f12 := (K12.out.1.fm.bx 0 _ _ _ rfl).fz 0
                go_wp2
                refine hK.out _ _ trivial (fun _ => ?_)
                clear hK K c12 f12
                try simp only [Act.put, List.setIfInBounds_toArray, List.set_cons_zero, List.set_cons_succ]
                refine wpAnyH_done (by kernel_rfl) ?_ _
                have K13 : Hid (Ct w (.slice s4 k4 c4) (.slice none 0 0) (O ++ [s]) [] (bsU b0 b1 b2 b3 (.slice s4 k4 c4) 0 0 ((i : Int) + 1)) (y12.setCell ⟨b0, 0, none⟩ (.slice s4 k4 c4)) ∧ RwA (y12.setCell ⟨b0, 0, none⟩ (.slice s4 k4 c4)) g p1 f1 p2 f2 p3 f3) := ⟨K12.out.1.setCell 0 b0 _ #[.slice s4 k4 c4] _ rfl 0 _ rfl, K12.out.2.setCell (K12.out.1.fm.bx 0 _ _ _ rfl) (by decide) _⟩
                generalize y12.setCell ⟨b0, 0, none⟩ (.slice s4 k4 c4) = y13 at K13 ⊢
                go_wp2
                go_roundw
                case rel => exact ⟨i + 1, oth, _, _, _, rfl, rfl, ⟨by have := J.out.1; have := hyes.out.2.2; omega, by have := J.out.2.1; simp; omega, J3.out⟩, by have h := K13.out; rw [show ((i : Int) + 1) = ((i + 1 : Nat) : Int) by push_cast; rfl] at h; exact h⟩
                case measure => have := hyes.out.2.2; simp; omega
end Go.Proofs.YtoajmicdphffnabDoor
