/- AsmMore: what Assemble says of a source with one item more; the statement's own walk. -/
import Derived.Test.YthbdpceobnkflaaDoorJ25
import Derived.Test.YthbdpceobnkflaaDoorJ26
import Derived.Test.YthbdpceobnkflaaDoorJ27
import Derived.Test.YthbdpceobnkflaaDoorJ17
import Derived.Test.YthbdpceobnkflaaDoorJ14
import Derived.Deep.CutRange
import Derived.BigQuiet
namespace Go.Proofs.YthbdpceobnkflaaDoor
open Go Go.RowKit
set_option linter.unusedVariables false
set_option maxHeartbeats 40000000
set_option maxRecDepth 20000

theorem q_objM {C : World → Prop} {o : Oper} {a : Act} (b : Nat) (q : Oo) (x : Operand) (ho : o.op = .load 29 x) (hx : a.eval x = .pointer (some ⟨b, 0, none⟩)) (h : ∀ w, C w → Bx w b (oC q) 29) : ∀ w, C w → o.quietAt Tryd.prog a C w (.agg (oC q)) := q_load rtO b (oC q) h rfl x ho hx
/-- A label more. -/
theorem asm_lab (w : World) (Tb : Hid (Tabs w)) {A D : List Itm} (H : Hid (AsmOk (A ++ D))) (hl : (A ++ D).length < 4096) {nm : ByteArray} (hnm : isNm nm = true) (hf : ∀ y ∈ A ++ D, y.1.n ≠ nm ∧ y.1.l ≠ nm) (pk : Nat) (hp : Hid (pk = (layS sh0 (A.map (·.1))).p)) (hg : Hid (∀ x ∈ A ++ D, LB8 w x.1.sp x.2 ∧ x.2.length = x.1.m))
    (n : Nat) (hn : (A ++ D).length = n) (sp : Option Addr) (cap : Nat) (y : World) (hy : Below w.heap.size w y) (hli : LiesL 6 c6 y sp ((A ++ (lbM nm, []) :: D).map (·.1))) :
    Calls Tryd.prog 8 #[.slice sp (n + 1) cap] y fun e z => ∃ (x : Oo) (E j : Int), e = .returned (.tuple #[.agg (oC x), .int .i64 E, .int .i64 j]) ∧ Hid (Below y.heap.size y z ∧ ((65535 < pk ∧ E = 143 ∧ j = (A.length : Int)) ∨ (pk ≤ 65535 ∧ E = 0 ∧ Lco z x ∧ ObA (A ++ (lbM nm, []) :: D) x))) := by
  have hle : (A ++ (lbM nm, []) :: D).length = n + 1 := by rw [← hn, List.length_append, List.length_append, List.length_cons]; omega
  have c := assemble_any y (Tb.out.below hy) sp cap (A ++ (lbM nm, []) :: D) hli (fun x hx => by
    rcases List.mem_append.1 hx with hx | hx
    · exact ⟨(hg.out x (List.mem_append_left _ hx)).1.below hy, (hg.out x (List.mem_append_left _ hx)).2⟩
    · rcases List.mem_cons.1 hx with rfl | hx
      · exact ⟨fun j b hj => by simp at hj, rfl⟩
      · exact ⟨(hg.out x (List.mem_append_right _ hx)).1.below hy, (hg.out x (List.mem_append_right _ hx)).2⟩) (by rw [hle]; omega)
  rw [hle] at c
  refine c.mono fun e z h => ?_
  by_cases h5 : pk ≤ 65535
  · have M := (H.out.moreLab hl hp.out h5 hnm hf).1
    rcases h with ⟨E, k, rfl, h⟩ | ⟨x, rfl, h⟩
    · exact absurd (M.notbad h.out.2) (fun e => e)
    · obtain ⟨h1, h2, h3, h4, h5', h6, h7, h8⟩ := h.out
      exact ⟨x, 0, 0, rfl, h1, .inr ⟨h5, rfl, h2, ⟨M, h6, h7, h8, fun q hq => (h2.lo.g q hq).2⟩⟩⟩
  · have h6 : 65535 < (layS sh0 (A.map (·.1))).p := by rw [← hp.out]; omega
    rcases h with ⟨E, k, rfl, h⟩ | ⟨x, rfl, h⟩
    · obtain ⟨h7, h8⟩ := H.out.moreHigh hl h6 hnm h.out.2
      exact ⟨zO, E, k, rfl, h.out.1, .inl ⟨by omega, h7, h8⟩⟩
    · exfalso
      have h9 := h.out.2.2.2.1
      rw [H.out.layHigh h6 nm] at h9
      cases h9
/-- An item more that names the place. -/
theorem asm_atm (w : World) (Tb : Hid (Tabs w)) {A D : List Itm} (H : Hid (AsmOk (A ++ D))) (hl : (A ++ D).length < 4096) (pk : Nat) (hp : Hid (pk = (layS sh0 (A.map (·.1))).p)) (h5 : pk ≤ 65535) (hg : Hid (∀ x ∈ A ++ D, LB8 w x.1.sp x.2 ∧ x.2.length = x.1.m))
    (n : Nat) (hn : (A ++ D).length = n) (sp : Option Addr) (cap : Nat) (y : World) (hy : Below w.heap.size w y) (hli : LiesL 6 c6 y sp ((A ++ (atM (pk : Int), []) :: D).map (·.1))) :
    Calls Tryd.prog 8 #[.slice sp (n + 1) cap] y fun e z => ∃ (x : Oo), e = .returned (.tuple #[.agg (oC x), .int .i64 0, .int .i64 0]) ∧ Hid (Below y.heap.size y z ∧ Lco z x ∧ ObA (A ++ (atM (pk : Int), []) :: D) x) := by
  have hle : (A ++ (atM (pk : Int), []) :: D).length = n + 1 := by rw [← hn, List.length_append, List.length_append, List.length_cons]; omega
  have c := assemble_any y (Tb.out.below hy) sp cap (A ++ (atM (pk : Int), []) :: D) hli (fun x hx => by
    rcases List.mem_append.1 hx with hx | hx
    · exact ⟨(hg.out x (List.mem_append_left _ hx)).1.below hy, (hg.out x (List.mem_append_left _ hx)).2⟩
    · rcases List.mem_cons.1 hx with rfl | hx
      · exact ⟨fun j b hj => by simp at hj, rfl⟩
      · exact ⟨(hg.out x (List.mem_append_right _ hx)).1.below hy, (hg.out x (List.mem_append_right _ hx)).2⟩) (by rw [hle]; omega)
  rw [hle] at c
  refine c.mono fun e z h => ?_
  have M := (H.out.moreAt hl hp.out h5).1
  rcases h with ⟨E, k, rfl, h⟩ | ⟨x, rfl, h⟩
  · exact absurd (M.notbad h.out.2) (fun e => e)
  · obtain ⟨h1, h2, h3, h4, h5', h6, h7, h8⟩ := h.out
    exact ⟨x, rfl, h1, h2, ⟨M, h6, h7, h8, fun q hq => (h2.lo.g q hq).2⟩⟩
/-- What the three objects say of one another. -/
structure MoE (o p q : Oo) (nm : ByteArray) (pk : Nat) : Prop where
  qb : plB q.B = plB o.B
  qm : q.M = o.M
  ql : q.L = o.L
  pb : plB p.B = plB o.B
  pm : p.M = o.M
  fd : findL p.L nm = some (pk : Int)
  pl : p.L.length = o.L.length + 1
  old : ∀ y ∈ o.L, findL p.L y.n = some y.a
theorem more_all {A D : List Itm} (hl : (A ++ D).length < 4096) {nm : ByteArray} (hnm : isNm nm = true) (hf : ∀ y ∈ A ++ D, y.1.n ≠ nm ∧ y.1.l ≠ nm) {pk : Nat} (hp : pk = (layS sh0 (A.map (·.1))).p) (h5 : pk ≤ 65535) {o p q : Oo} (ho : ObA (A ++ D) o) (hP : ObA (A ++ (lbM nm, []) :: D) p) (hq : ObA (A ++ (atM (pk : Int), []) :: D) q) : MoE o p q nm pk := by
  obtain ⟨_, l1, l2, l3, l4, l5⟩ := ho.h.moreLab hl hp h5 hnm hf
  obtain ⟨_, a1, a2, a3⟩ := ho.h.moreAt hl hp h5
  refine ⟨by rw [hq.b, ho.b, a1, a2], by rw [hq.m, ho.m, a1], by rw [hq.l, ho.l, a3], by rw [hP.b, ho.b, l1, l2], by rw [hP.m, ho.m, l1], ?_, ?_, ?_⟩
  · rw [hP.l]
    exact hP.h.label l5 rfl
  · rw [hP.l, hP.h.labels, ho.l, ho.h.labels, l3]
  · rw [hP.l, ho.l]
    exact ho.h.findOld hP.h l4
end Go.Proofs.YthbdpceobnkflaaDoor
