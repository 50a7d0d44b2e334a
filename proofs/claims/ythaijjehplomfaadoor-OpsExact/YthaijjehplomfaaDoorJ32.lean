/- The lines of a program, one by one, each handed to whatever is done with it: the function to range over. A range over a function, entered; what stands between two lines of a program. -/
import Derived.Test.YthaijjehplomfaaDoorJ31
import Derived.RangeFuncNested
import Derived.RangeFuncBound
import Derived.RangeFuncCalls
import Derived.RangeFuncLeaves
import Derived.Shelf.Abstract
import Derived.Shelf.RegionOpen
import Derived.WalkKit
import Derived.OwnWalkIn
import Derived.TacticsInMore
import Derived.LoopNIn
import Derived.LoopIn
namespace Go.Proofs.YthaijjehplomfaaDoor
open Go Go.RowKit Go.Shelf
set_option linter.unusedVariables false
set_option maxHeartbeats 1000000
set_option maxRecDepth 100000
attribute [local go_sem] Oper.semAt_some

theorem cut_is (s : ByteArray) (c0 : UInt8) (hs : s.size ≤ 1000000) : ∃ (a b : ByteArray) (f : Bool), ((a = s ∧ b = ⟨#[]⟩ ∧ (∀ x ∈ strL s, x ≠ c0)) ∨ (strL s = strL a ++ c0 :: strL b ∧ (∀ x ∈ strL a, x ≠ c0) ∧ a.size + b.size + 1 = s.size)) ∧
    ∀ (w : World) (mx : Int), Tm mx w → Calls Tryd.prog 44 #[.string s, .string ⟨#[c0]⟩] w fun e w' => e = .returned (.tuple #[.string a, .string b, .bool f]) ∧ Below w.heap.size w w' := by
  refine ⟨⟨(Lib.cut (strL s) [c0]).1.toArray⟩, ⟨(Lib.cut (strL s) [c0]).2.1.toArray⟩, (Lib.cut (strL s) [c0]).2.2, ?_, fun w mx hm => ?_⟩
  · rcases cutC c0 (strL s) with ⟨h1, h2⟩ | ⟨a, b, h1, h2, h3⟩
    · rw [h2]
      exact .inl ⟨strL_mk s, rfl, h1⟩
    · rw [h3]
      refine .inr ⟨by simpa [strL] using h1, by simpa [strL] using h2, ?_⟩
      have := congrArg List.length h1
      rw [strL_len] at this
      rw [this]
      show a.length + b.length + 1 = _
      simp
      omega
  · refine (Tryd.strings_Cut s ⟨#[c0]⟩ mx w (by omega) hm).mono ?_
    rintro e w' ⟨rfl, n, rfl⟩
    exact ⟨rfl, ⟨rfl, rfl, rfl, Nat.le_refl _, fun _ _ => rfl⟩⟩
def szV : Value → Nat
  | .string r => r.size
  | _ => 0
/-- Where the lines have come to. -/
structure At (s : ByteArray) (k : Nat) (r : ByteArray) : Prop where
  sz : r.size + k ≤ 65536
  ln : ∃ pre, lnsG (strL s) [] = pre ++ lnsG (strL r) [] ∧ pre.length = k
theorem strL_ne {r : ByteArray} (h : 0 < r.size) : strL r ≠ [] := fun e => by
  have := strL_len r
  rw [e] at this
  simp at this
  omega
theorem At.step {s r a b : ByteArray} {k : Nat} (h : At s k r) (hr : 0 < r.size) (hc : (a = r ∧ b = ⟨#[]⟩ ∧ (∀ x ∈ strL r, x ≠ 10)) ∨ (strL r = strL a ++ 10 :: strL b ∧ (∀ x ∈ strL a, x ≠ 10) ∧ a.size + b.size + 1 = r.size)) :
    At s (k + 1) b ∧ b.size < r.size ∧ a.size ≤ 65536 ∧ (lnsG (strL s) [])[k]? = some (strL a) := by
  obtain ⟨h1, pre, h2, h3⟩ := h
  have key : lnsG (strL r) [] = strL a :: lnsG (strL b) [] := by
    rcases hc with ⟨rfl, rfl, h⟩ | ⟨h, h', _⟩
    · rw [lns_no _ h (strL_ne hr)]
      rfl
    · rw [h, lns_hit _ _ h']
  have hb : b.size < r.size ∧ a.size ≤ r.size := by
    rcases hc with ⟨rfl, rfl, _⟩ | ⟨_, _, h⟩
    · exact ⟨hr, Nat.le_refl _⟩
    · omega
  refine ⟨⟨by omega, pre ++ [strL a], by rw [h2, key]; simp, by simp [h3]⟩, hb.1, by omega, ?_⟩
  rw [h2, key, List.getElem?_append_right (by omega), h3, Nat.sub_self]
  rfl
theorem At.done {s : ByteArray} {k : Nat} (h : At s k ⟨#[]⟩) : (lnsG (strL s) []).length = k := by
  obtain ⟨h1, pre, h2, h3⟩ := h
  rw [h2, show lnsG (strL ⟨#[]⟩) [] = [] from rfl, List.append_nil, h3]
theorem lines1_in (m : Nat) (hm : 1 ≤ m) (l bk : Nat) (mx : Int) (s : ByteArray) (hs : Hid (s.size ≤ 65536)) (J : Nat → World → Prop) (Jx : World → Prop)
    (hJ : Hid (∀ (k : Nat) (W W' : World), J k W → Below W.heap.size W W' → J k W')) (hT : Hid (∀ (k : Nat) (W : World), J k W → Tm mx W))
    (hS : Hid (∀ (k : Nat) (L : List UInt8) (W : World), (lnsG (strL s) [])[k]? = some L → wordsA L = [] → J k W → J (k + 1) W))
    (hY : Hid (∀ (k N : Nat) (L : List UInt8) (W : World) (gx c : Nat), k + 1 = N → (lnsG (strL s) [])[k]? = some L → L.length ≤ 65536 → J k W → WdsAt W gx 0 (wordsA L) → (wordsA L).length = c → 0 < c →
      YieldAt Fence.wide (m - 1) Tryd.prog l #[.int .i64 (N : Int), .slice (some ⟨gx, 0, none⟩) c c] W fun e W' => (e = .returned (.bool true) ∧ J (k + 1) W') ∨ (e = .returned (.bool false) ∧ Jx W')))
    (W : World) (hbk : Hid (Bx W bk #[.string s] 9)) (h0 : Hid (J 0 W)) :
    CallsIn Fence.wide m Tryd.prog 43 #[.func (.yield l) #[] #[], .pointer (some ⟨bk, 0, none⟩)] W fun e W' => (∃ v, e = .returned v) ∧ (J (lnsG (strL s) []).length W' ∨ Jx W') := by
  have ck := hbk.out.c 0 (.string s) rfl
  refine callsIn_of_wp Tryd.func43 rfl trivial ?_ rfl
  simp only [Tryd.ntmps43, List.size_toArray, List.length_cons, List.length_nil, Nat.reduceAdd, Nat.reduceSub, Array.replicate_succ, Array.replicate_zero, List.push_toArray, List.append_toArray, List.nil_append, List.cons_append]
  gi_wp2
  gi_loopw [3, 4] (fun f g wz => ∃ (k N : Nat) (r : ByteArray) (y : World), y = wz ∧ f = .string r ∧ g = .int .i64 (N : Int) ∧ Hid (k + 1 = N ∧ At s k r) ∧ Hid (J k y)) (fun f _ _ => szV f)
  case atStart => exact ⟨0, 1, s, W, rfl, rfl, rfl, ⟨rfl, ⟨hs.out, [], rfl, rfl⟩⟩, h0⟩
  case round =>
    obtain ⟨k, N, r, y, rfl, rfl, rfl, R, HJ⟩ := hrel
    by_cases hr : 0 < r.size
    · have e1 : r.toList.isEmpty = false := by
        rw [toList_eq]
        have := strL_ne hr
        unfold strL at this
        rcases h : r.data.toList with _ | ⟨c, t⟩
        · exact absurd h this
        · rfl
      have e2 : (r.toList == ([] : List UInt8)) = false := by
        rcases h : r.toList with _ | ⟨c, t⟩
        · rw [h] at e1; cases e1
        · rfl
      have hNi : (N : Int) ≤ 65537 := by have := R.out.1; have := R.out.2.sz; omega
      have hw : IntKind.i64.wrap ((N : Int) + 1) = ((N + 1 : Nat) : Int) := by rw [IntKind.wrap_i64]; omega
      obtain ⟨N1, hN1⟩ : ∃ N1, N + 1 = N1 := ⟨_, rfl⟩
      rw [hN1] at hw
      obtain ⟨a, b, f, hab, hC⟩ := cut_is r 10 (by have := R.out.2.sz; omega)
      obtain ⟨A1, hb, ha, hk⟩ := R.out.2.step hr hab
      have hR : Hid (k + 1 + 1 = N1 ∧ At s (k + 1) b ∧ b.size < r.size) := ⟨by have := R.out.1; omega, A1, hb⟩
      obtain ⟨c, hc⟩ : ∃ c, (wordsA (strL a)).length = c := ⟨_, rfl⟩
      have hci : (c : Int) ≤ 65536 := by have := wordsA_len (strL a); rw [strL_len] at this; omega
      have hW1 : Hid (∀ (z : World), Tm mx z → Calls Tryd.prog 45 #[.string a] z fun e w' => ∃ A, e = .returned (.slice (some ⟨A, 0, none⟩) c c) ∧ Hid (WdsAt w' A 0 (wordsA (strL a)) ∧ Below z.heap.size z w')) := fun z hz => by
        have h := words_any z mx hz a (by omega)
        rw [hc] at h
        exact h.mono fun e w' ⟨A, he, hK⟩ => ⟨A, he, KT.wds hK.out, hK.out.2⟩
      have hC' : Hid (∀ (z : World), Tm mx z → Calls Tryd.prog 44 #[.string r, .string ⟨#[10]⟩] z fun e w' => e = .returned (.tuple #[.string a, .string b, .bool f]) ∧ Below z.heap.size z w') := fun z hz => hC z mx hz
      have hk' : Hid ((lnsG (strL s) [])[k]? = some (strL a) ∧ (strL a).length ≤ 65536 ∧ (wordsA (strL a)).length = c ∧ k + 1 = N) := ⟨hk, by rw [strL_len]; exact ha, hc, R.out.1⟩
      clear hC hab A1 hb ha hk hc hr R hN1
      by_cases hc0 : 0 < c
      · have g1 : decide (0 < c) = true := decide_eq_true hc0
        have hc0' : Hid (0 < c) := hc0
        clear hc0
        gi_wp2_with (first
          | (refine ⟨trivial, ?_⟩; gi_at_call 45; refine (callsIn_wide.2 (hW1.out z (hT.out _ _ Jz.out))).mono ?_; rintro e z2 ⟨A, rfl, HK⟩; have Jz2 : Hid (J k z2) := hJ.out _ _ _ Jz.out HK.out.2; obtain ⟨fn, tmps, assign, body, hy, hRr⟩ := hY.out k N (strL a) z2 A c hk'.out.2.2.2 hk'.out.1 hk'.out.2.1 Jz2.out HK.out.1 hk'.out.2.2.1 hc0'.out)
          | (refine ⟨trivial, ?_⟩; gi_at_call 44; refine (callsIn_wide.2 (hC'.out y (hT.out _ _ HJ.out))).mono ?_; rintro e z ⟨rfl, hbz⟩; have Jz : Hid (J k z) := hJ.out _ _ _ HJ.out hbz; clear hbz))
        refine hRr.mono ?_
        rintro e z3 (⟨rfl, hJ2⟩ | ⟨rfl, hJx2⟩)
        · gi_wp2
          go_roundw
          case rel => exact ⟨k + 1, N1, b, z3, rfl, rfl, rfl, ⟨hR.out.1, hR.out.2.1⟩, hJ2⟩
          case measure => exact hR.out.2.2
        · gi_wp2
          refine bodyPost_ret (results_none rfl _ _ _) rfl ?_
          exact ⟨⟨_, rfl⟩, .inr hJx2⟩
      · have hce : c = 0 := by omega
        subst hce
        have hnil : Hid (wordsA (strL a) = []) := List.eq_nil_of_length_eq_zero hk'.out.2.2.1
        clear hc0
        gi_wp2_with (first
          | (refine ⟨trivial, ?_⟩; gi_at_call 45; refine (callsIn_wide.2 (hW1.out z (hT.out _ _ Jz.out))).mono ?_; rintro e z2 ⟨A, rfl, HK⟩; have Jz2 : Hid (J (k + 1) z2) := hS.out _ _ _ hk'.out.1 hnil.out (hJ.out _ _ _ Jz.out HK.out.2))
          | (refine ⟨trivial, ?_⟩; gi_at_call 44; refine (callsIn_wide.2 (hC'.out y (hT.out _ _ HJ.out))).mono ?_; rintro e z ⟨rfl, hbz⟩; have Jz : Hid (J k z) := hJ.out _ _ _ HJ.out hbz; clear hbz))
        refine ⟨fun _ _ => trivial, ?_⟩
        rename_i K9 hK9 _ _ _ _
        refine hK9 _ _ ?_
        clear hK9
        gi_wp2
        go_roundw
        case rel => exact ⟨k + 1, N1, b, z2, rfl, rfl, rfl, ⟨hR.out.1, hR.out.2.1⟩, Jz2⟩
        case measure => exact hR.out.2.2
    · have hre : r = ⟨#[]⟩ := size_zero (by omega)
      subst hre
      have fin : Hid (J (lnsG (strL s) []).length y) := by rw [R.out.2.done]; exact HJ.out
      clear hr
      gi_wp2
      go_end0
      exact ⟨⟨_, rfl⟩, .inl fin.out⟩
theorem lines_in (m : Nat) (s : ByteArray) (w : World) :
    CallsIn Fence.wide m Tryd.prog 31 #[.string s] w fun e w' => e = .returned (.func (.func 43) #[] #[.pointer (some ⟨w.heap.size, 0, none⟩)]) ∧ w' = w.alloc (.cells #[.string s] 9) := by
  refine callsIn_of_wp Tryd.func31 rfl trivial ?_ rfl
  simp only [Tryd.ntmps31, List.size_toArray, List.length_cons, List.length_nil, Nat.reduceAdd, Nat.reduceSub, Array.replicate_succ, Array.replicate_zero, List.push_toArray, List.append_toArray, List.nil_append, List.cons_append]
  gi_wp2
  go_ret
  exact ⟨rfl, rfl⟩
end Go.Proofs.YthaijjehplomfaaDoor

namespace Go.Proofs.YthaijjehplomfaaDoor
open Go Go.RowKit Go.Shelf
set_option linter.unusedVariables false
set_option maxHeartbeats 1000000
set_option maxRecDepth 100000
attribute [local go_sem] Oper.semAt_some

/-- The record of a range over a function. -/
def recL (fn : FuncId) (tmps : Array Value) (ps : Array Tmp) (assign body : Code) (D : Nat) (st : LoopState) (pe : Option Code) : Loop := { state := st, pending := pe, fn, tmps, params := ps, assign, body, defers := D }
/-- Entered: what is owed is the one call, with the record and the block for deferred calls as they then lie. -/
theorem range_enter {F : Fence} {n : Nat} {P : Program} {g : Operand} {ps : Array Tmp} {assign body : Code} {Q : Exit → Act → World → Prop} {a : Act} {w : World} (hro : F.round = none) (h1 : 1 ≤ n) {gf : Nat} {lb : Array Value} (hg : a.eval g = .func (.func gf) #[] lb) (hFg : F.fn gf)
    (eg : ∀ args w, (callFunc gf args).run P w = .ok (.enter gf args) w)
    (h : ∀ (fn : FuncId) (W : World) (R : LoopState → Option Code → Loop), R = recL fn a.tmps ps assign body w.heap.size → F.fn fn → W.heap[w.heap.size + 1]? = some (.loop (R .ready none)) → W.heap[w.heap.size]? = some (.deferred (some [])) → Below w.heap.size w W →
      CallsIn F (n - 1) P gf (#[.func (.yield (w.heap.size + 1)) #[] #[]] ++ lb) W (rangePost F n P (w.heap.size + 1) Q { a with defers := { target := .collected w.heap.size, args := #[] } :: a.defers })) :
    (Code.rangeFunc g ps assign body).wpIn F n P Q a w := by
  refine wpIn_rangeFunc fun fn hfn => ?_
  obtain ⟨W1, hW1⟩ : ∃ W1, (w.alloc (.deferred (some []))).alloc (.loop (recL fn a.tmps ps assign body w.heap.size .ready none)) = W1 := ⟨_, rfl⟩
  have e0 : (Instr.enterLoop fn a.tmps ps assign body none).run P w = .ok (w.heap.size + 1, [{ target := .collected w.heap.size, args := #[] }]) W1 := by
    rw [← hW1]
    exact run_enterLoop_outer _ _ _ _ _
  rw [hro]
  have h3 := h fn W1 _ rfl hfn (by
      rw [← hW1]
      have x := World.alloc_heap_new (w.alloc (.deferred (some []))) (.loop (recL fn a.tmps ps assign body w.heap.size .ready none))
      rwa [World.size_alloc] at x) (by
      rw [← hW1]
      exact (Below.heap_alloc _ _ _ (by simp)).trans (World.alloc_heap_new w _)) (by
      rw [← hW1]
      exact ((Below.refl _ w).alloc (Nat.le_refl _) _).alloc (by simp) _)
  clear h hW1
  have p1 : (resolve a.eval (rangeCall g (w.heap.size + 1)) 0).run P W1 = .ok { target := .fn (.func gf) lb, args := #[.func (.yield (w.heap.size + 1)) #[] #[]] } W1 := by
    simp only [resolve, hg]
    simp [go_sem]
  have p2 : ∀ f', Target.leads P W1 (Target.fn (.func gf) lb) #[.func (.yield (w.heap.size + 1)) #[] #[]] = some f' → F.fn f' := by
    intro f' hf'
    simp [Target.leads] at hf'
    subst hf'
    exact hFg
  have p3 : (invoke (Target.fn (.func gf) lb) #[.func (.yield (w.heap.size + 1)) #[] #[]]).run P W1 = .ok (.enter gf (#[.func (.yield (w.heap.size + 1)) #[] #[]] ++ lb)) W1 := by
    simp [invoke, go_sem, eg]
  exact ⟨_, _, _, _, _, _, _, _, e0, p1, p2, p3, fun _ => h1, h3⟩
section
variable {P : Program} {fn : FuncId} {tm : Array Value} {ps : Array Tmp} {ca bo : Code} {D l : Nat} {R : LoopState → Option Code → Loop} {W : World}
theorem begin_go (hR : R = recL fn tm ps ca bo D) (h : W.heap[l]? = some (.loop (R .ready none))) : (Instr.beginRound l).run P W = .ok () (W.putObj l (.loop (R .busy none))) := by
  have h := run_beginRound (P := P) h (by rw [hR]; rfl)
  rw [hR] at h ⊢
  exact h
theorem end_go (hR : R = recL fn tm ps ca bo D) (h : W.heap[l]? = some (.loop (R .busy none))) : (Instr.endRound l none).run P W = .ok (.bool true) (W.putObj l (.loop (R .ready none))) := by
  have h := run_endRound (P := P) none h
  rw [hR] at h ⊢
  exact h
theorem end_ret (hR : R = recL fn tm ps ca bo D) (h : W.heap[l]? = some (.loop (R .busy none))) : (Instr.endRound l (some .ret)).run P W = .ok (.bool false) (W.putObj l (.loop (R .done (some .ret)))) := by
  have h := run_endRound (P := P) (some .ret) h
  rw [hR] at h ⊢
  exact h
theorem over_go (hR : R = recL fn tm ps ca bo D) (h : W.heap[l]? = some (.loop (R .ready none))) : (Instr.endLoop l).run P W = .ok none (W.putObj l (.loop (R .exhausted none))) := by
  have h := run_endLoop (P := P) h (by rw [hR]; simp [recL])
  rw [hR] at h ⊢
  exact h
theorem over_ret (hR : R = recL fn tm ps ca bo D) (h : W.heap[l]? = some (.loop (R .done (some .ret)))) : (Instr.endLoop l).run P W = .ok (some .ret) (W.putObj l (.loop (R .exhausted (some .ret)))) := by
  have h := run_endLoop (P := P) h (by rw [hR]; simp [recL])
  rw [hR] at h ⊢
  exact h
end
/-- A program as it lies abides the turn of a block that is none of its own. -/
theorem Pg.turn {w : World} {P g : Nat} {vb vu : Value} {bs : List UInt8} {F : ByteArray → Option Nat} {us : List Us} {y : World} (h : Pg w P g vb vu bs F us y) (l : Nat) (o o' : Obj) (hl : y.heap[l]? = some o) (hr : isRec o = true) (hw : w.heap.size ≤ l) : Pg w P g vb vu bs F us (y.putObj l o') := by
  have oth : ∀ q, q ≠ l → (y.putObj l o').heap[q]? = y.heap[q]? := fun q hq => World.putObj_heap_other hq
  refine ⟨(oth P fun e => rec_ne hl hr h.box e.symm).trans h.box, h.bs.keepB fun q e => oth q fun e' => ?_, h.mp.keep (oth g fun e => rec_nm hl hr h.mp e.symm), h.us.keepB fun q e => oth q fun e' => ?_, h.geP, h.geg, h.low.grown (grownBy_putObj' y l o') h.low.size (fun k e => by cases e; exact hw)⟩
  · obtain ⟨cs, hx⟩ := h.bs.ty q e
    exact rec_ne hl hr hx e'.symm
  · obtain ⟨cs, hx⟩ := h.us.ty q e
    exact rec_ne hl hr hx e'.symm
theorem Fm.turn {w W : World} {bs : List (Nat × Array Value × TypeId)} (h : Fm w bs W) (l : Nat) (o o' : Obj) (hl : W.heap[l]? = some o) (hr : isRec o = true) (hw : w.heap.size ≤ l) : Fm w bs (W.putObj l o') := by
  have oth : ∀ q, q ≠ l → (W.putObj l o').heap[q]? = W.heap[q]? := fun q hq => World.putObj_heap_other hq
  exact ⟨fun i b cs t e => (oth b fun e' => rec_ne hl hr (h.get i b cs t e) e'.symm).trans (h.get i b cs t e), h.ge, h.ne, h.low.grown (grownBy_putObj' W l o') h.low.size (fun k e => by cases e; exact hw)⟩
theorem Fm.kp {w y z : World} {bs : List (Nat × Array Value × TypeId)} (h : Fm w bs y) (k : Kp y z) (hl : Below w.heap.size w z) (ht : ∀ (i b : Nat) (cs : Array Value) (t : TypeId), bs[i]? = some (b, cs, t) → t ≠ 5 ∧ t ≠ 108 ∧ t ≠ 77) : Fm w bs z :=
  ⟨fun i b cs t e => k.ty b cs t (h.get i b cs t e) (ht i b cs t e).1 (ht i b cs t e).2.1 (ht i b cs t e).2.2, h.ge, h.ne, hl⟩
theorem putObj_same {W : World} {l : Nat} {o o' : Obj} (h : W.heap[l]? = some o) : (W.putObj l o').heap[l]? = some o' := World.putObj_heap_same (heap_lt h)
theorem rec_set {W : World} {l b t : Nat} {o : Obj} {cs : Array Value} (h : W.heap[l]? = some o) (hr : isRec o = true) (hx : Bx W b cs t) (j : Nat) (v : Value) : (W.setCell ⟨b, j, none⟩ v).heap[l]? = some o :=
  (heap_setCell_other W ⟨b, j, none⟩ l v (rec_ne h hr hx)).trans h
/-- The boxes of Program's: its three results, and p. -/
abbrev boxesP (b0 b1 b2 q P : Nat) (v0 v1 v2 : Value) : List (Nat × Array Value × TypeId) := [(b0, #[v0], 45), (b1, #[v1], 38), (b2, #[v2], 3), (q, #[.pointer (some ⟨P, 0, none⟩)], 73)]
theorem boxes_ty {b0 b1 b2 q P : Nat} {v0 v1 v2 : Value} (i b : Nat) (cs : Array Value) (t : TypeId) (h : (boxesP b0 b1 b2 q P v0 v1 v2)[i]? = some (b, cs, t)) : t ≠ 5 ∧ t ≠ 108 ∧ t ≠ 77 := by
  rcases i with _ | _ | _ | _ | i
  · simp [boxesP] at h; obtain ⟨_, _, rfl⟩ := h; decide
  · simp [boxesP] at h; obtain ⟨_, _, rfl⟩ := h; decide
  · simp [boxesP] at h; obtain ⟨_, _, rfl⟩ := h; decide
  · simp [boxesP] at h; obtain ⟨_, _, rfl⟩ := h; decide
  · simp [boxesP] at h
/-- What is so between two lines: the record R of the loop at l, the block for deferred calls at D. -/
structure Jp (w : World) (b0 b1 b2 q P g l D : Nat) (R : LoopState → Option Code → Loop) (s : ByteArray) (k : Nat) (W : World) : Prop where
  st : ∃ (t : Sta) (vb vu : Value), linesP 1 (lnsG (strL s) []) ([], fun _ => none, []) = linesP (k + 1) ((lnsG (strL s) []).drop k) t ∧ StOk t ∧ t.1.length ≤ 3232 ∧ Pg w P g vb vu t.1 t.2.1 t.2.2 W
  fm : Fm w (boxesP b0 b1 b2 q P (.slice none 0 0) (.int .i64 0) (.int .i64 0)) W
  lp : W.heap[l]? = some (.loop (R .ready none))
  df : W.heap[D]? = some (.deferred (some []))
theorem Jp.below {w : World} {b0 b1 b2 q P g l D : Nat} {R : LoopState → Option Code → Loop} {s : ByteArray} {k : Nat} {W W' : World} (h : Jp w b0 b1 b2 q P g l D R s k W) (hb : Below W.heap.size W W') : Jp w b0 b1 b2 q P g l D R s k W' := by
  obtain ⟨t, vb, vu, h1, h2, h3, h4⟩ := h.st
  exact ⟨⟨t, vb, vu, h1, h2, h3, h4.below hb⟩, h.fm.below hb, (hb.block l (heap_lt h.lp)).trans h.lp, (hb.block D (heap_lt h.df)).trans h.df⟩
theorem drop_one {α : Type} {l : List α} {k : Nat} {x : α} (h : l[k]? = some x) : l.drop k = x :: l.drop (k + 1) := by
  obtain ⟨h1, h2⟩ := List.getElem?_eq_some_iff.1 h
  rw [List.drop_eq_getElem_cons h1, h2]
theorem linesP_step {n : Nat} {ls : List (List UInt8)} {k : Nat} {L : List UInt8} {t : Sta} (h : ls[k]? = some L) : linesP n (ls.drop k) t = match stepL n L t with
    | .inl e => .inl e
    | .inr t' => linesP (n + 1) (ls.drop (k + 1)) t' := by
  rw [drop_one h]
  rfl
theorem Jp.skip {w : World} {b0 b1 b2 q P g l D : Nat} {R : LoopState → Option Code → Loop} {s : ByteArray} {k : Nat} {L : List UInt8} {W : World} (h : Jp w b0 b1 b2 q P g l D R s k W) (hL : (lnsG (strL s) [])[k]? = some L) (hw : wordsA L = []) : Jp w b0 b1 b2 q P g l D R s (k + 1) W := by
  obtain ⟨t, vb, vu, h1, h2, h3, h4⟩ := h.st
  refine ⟨⟨t, vb, vu, ?_, h2, h3, h4⟩, h.fm, h.lp, h.df⟩
  rw [h1, linesP_step hL]
  unfold stepL
  rw [hw]
/-- A line has ended it. -/
structure Jx (w : World) (b0 b1 b2 q P l D : Nat) (R : LoopState → Option Code → Loop) (s : ByteArray) (W : World) : Prop where
  st : ∃ (er n : Nat), linesP 1 (lnsG (strL s) []) ([], fun _ => none, []) = .inl (er, n) ∧ Fm w (boxesP b0 b1 b2 q P (.slice none 0 0) (.int .i64 (er : Int)) (.int .i64 (n : Int))) W
  lp : W.heap[l]? = some (.loop (R .done (some .ret)))
  df : W.heap[D]? = some (.deferred (some []))
end Go.Proofs.YthaijjehplomfaaDoor
