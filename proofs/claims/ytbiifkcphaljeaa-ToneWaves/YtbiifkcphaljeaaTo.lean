/- The rows of a trace, one by one, each handed to whatever function: the function to range over. -/
import Derived.Test.YtbiifkcphaljeaaTn
import Derived.RangeFuncNested
import Derived.RangeFuncBound
import Derived.RangeFuncCalls
import Derived.RangeFuncLeaves
import Derived.Shelf.Abstract
import Derived.Shelf.RegionOpen
import Derived.WalkKit
import Derived.OwnWalkIn
import Derived.TacticsInMore
import Derived.LoopNIn
import Derived.LoopIn
namespace Go.Proofs.Ytbiifkcphaljeaa
open Go Go.RowKit Go.Shelf
set_option linter.unusedVariables false
set_option maxHeartbeats 2000000
set_option maxRecDepth 100000
attribute [local go_sem] Oper.semAt_some

def rwC (x : Rw) : Array Value := #[.int .i64 x.a, .int .i64 x.b, .bool x.h]
theorem below_grown {W W' : World} (h : Below W.heap.size W W') : W.grownBy W' none := ⟨h.os, h.tape, h.output, h.size, fun k hk _ => h.block k hk⟩
theorem rows1_in (m : Nat) (hm : 1 ≤ m) (l bk : Nat) (w0 : World) (sp : Option Addr) (cap n : Nat) (qs : List Bool) (hq : Hid (LiesQ w0 sp qs)) (hqn : Hid (qs.length = n)) (hn : n ≤ 2147483647) (B : Nat) (J Jx : List Rk → World → Prop) (hJ : Hid (AbidesFrom B J))
    (hY : Hid (∀ (pre : List Rk) (x : Rk) (W : World), J pre W → pre.length < n → YieldAt Fence.wide (m - 1) Try.prog l #[.agg (rwC x.1)] W fun e W' =>
      (e = .returned (.bool true) ∧ J (pre ++ [x]) W' ∧ (Below w0.heap.size W W' ∧ W'.heap[bk]? = W.heap[bk]?)) ∨ (e = .returned (.bool false) ∧ Jx (pre ++ [x]) W')))
    (W : World) (hbk : Hid (Bx W bk #[.slice sp n cap] 22)) (hW : Hid (Below w0.heap.size w0 W)) (h0 : Hid (J [] W)) :
    CallsIn Fence.wide m Try.prog 25 #[.func (.yield l) #[] #[], .pointer (some ⟨bk, 0, none⟩)] W fun e W' => (∃ v, e = .returned v) ∧ ((∃ xs, Rs qs xs qs.length ∧ J xs W') ∨ (∃ pre, True ∧ Jx pre W')) := by
  have ni : (n : Int) ≤ 2147483647 := by omega
  refine callsIn_of_wp Try.func25 rfl trivial ?_ rfl
  simp only [Try.ntmps25, List.size_toArray, List.length_cons, List.length_nil, Nat.reduceAdd, Nat.reduceSub, Array.replicate_succ, Array.replicate_zero, List.push_toArray, List.append_toArray, List.nil_append, List.cons_append]
  gi_wp2
  gi_loopw [3] (fun f wz => ∃ (k : Nat) (pre : List Rk) (y : World), y = wz ∧ f = .int .i64 (k : Int) ∧ Hid (k ≤ n ∧ Rs qs pre k) ∧ Hid (J pre y) ∧ Hid (Bx y bk #[.slice sp n cap] 22) ∧ Hid (Below w0.heap.size w0 y)) (fun f _ => (n - intOf f).toNat)
  case atStart => exact ⟨0, [], W, rfl, rfl, ⟨Nat.zero_le _, Rs.start qs⟩, h0, hbk, hW⟩
  case round =>
    obtain ⟨k, pre, y, rfl, rfl, R, HJ, HB, HW⟩ := hrel
    have ck := HB.out.c 0 (.slice sp n cap) rfl
    by_cases hlt : k < n
    · obtain ⟨q, hqk, -⟩ := at_list hqn.out hlt
      have hki : (k : Int) < n := by omega
      have hqy : Hid (LiesQ y sp qs) := hq.out.below HW.out
      have hE := rowEnd_any y sp cap n k qs hqy hqn hn hlt q hqk
      obtain ⟨g, o, rfl, cq⟩ := hqy.out k q hqk
      have ik := fun u => idxP (g := g) (off := o) (len := n) (cap := cap) Try.underlying22 (s := 8) (by kernel_rfl) .i64 k u hlt
      have hlt' : Hid (k < n) := hlt
      replace hqk : Hid _ := hqk
      have hcq : Hid (y.cell? ⟨g, o + k * 8 + 6, none⟩ = some (.bool q)) := cq
      clear hlt cq
      gi_wp2_with (refine ⟨trivial, ?_⟩; gi_at_call 26; refine (callsIn_wide.2 hE).mono ?_; rintro e z ⟨e', rfl, H⟩; have ck2 := (H.out.1.cell (p := ⟨bk, 0, none⟩) (World.block_lt_of_cell? y _ ck)).trans ck; have cq2 := (H.out.1.cell (p := ⟨g, o + k * 8 + 6, none⟩) (World.block_lt_of_cell? y _ hcq.out)).trans hcq.out; obtain ⟨x, hx⟩ : ∃ x : Rk, x.1 = ⟨k, e', q⟩ := ⟨⟨⟨k, e', q⟩, by have := H.out.2; refine ⟨?_, ?_, ?_⟩ <;> (dsimp only; omega)⟩, rfl⟩; obtain ⟨fn, tmps, assign, body, hy, hR⟩ := hY.out pre x z (hJ.out pre y z none HJ.out (below_grown H.out.1) (fun r e => by cases e)) (Nat.lt_of_le_of_lt R.out.2.cnt hlt'.out); rw [hx] at hy; dsimp only [rwC] at hy)
      refine hR.mono ?_
      rintro e z2 (⟨rfl, hJ2, hk2⟩ | ⟨rfl, hJx2⟩)
      · have HB2 : Hid (Bx z2 bk #[.slice (some ⟨g, o, none⟩) n cap] 22) := hk2.2.trans ((H.out.1.block bk (heap_lt HB.out)).trans HB.out)
        have HW2 : Hid (Below w0.heap.size w0 z2) := (HW.out.trans (H.out.1.mono HW.out.size)).trans hk2.1
        have R2 : Hid (e' ≤ n ∧ Rs qs (pre ++ [x]) e') := ⟨H.out.2.2.1, R.out.2.next q e' H.out.2.1 (by rw [hqn.out]; exact H.out.2.2.1) H.out.2.2.2.1 H.out.2.2.2.2 x hx⟩
        gi_wp2
        go_roundw
        case rel => exact ⟨e', pre ++ [x], z2, rfl, rfl, R2, hJ2, HB2, HW2⟩
        case measure => have h1 := H.out.2.1; have h2 := H.out.2.2.1; simp [intOf]; omega
      · gi_wp2
        refine bodyPost_ret (results_none rfl _ _ _) rfl ?_
        exact ⟨⟨_, rfl⟩, .inr ⟨pre ++ [x], trivial, hJx2⟩⟩
    · have hke : k = n := by have := R.out.1; omega
      subst hke
      have fin : Hid (Rs qs pre qs.length) := by rw [hqn.out]; exact R.out.2
      clear hlt
      gi_wp2
      go_end0
      exact ⟨⟨_, rfl⟩, .inl ⟨pre, fin.out, HJ.out⟩⟩
theorem rows_in (m : Nat) (sp : Option Addr) (n cap : Nat) (w : World) :
    CallsIn Fence.wide m Try.prog 24 #[.slice sp n cap] w fun e w' => e = .returned (.func (.func 25) #[] #[.pointer (some ⟨w.heap.size, 0, none⟩)]) ∧ w' = w.alloc (.cells #[.slice sp n cap] 22) := by
  refine callsIn_of_wp Try.func24 rfl trivial ?_ rfl
  simp only [Try.ntmps24, List.size_toArray, List.length_cons, List.length_nil, Nat.reduceAdd, Nat.reduceSub, Array.replicate_succ, Array.replicate_zero, List.push_toArray, List.append_toArray, List.nil_append, List.cons_append]
  gi_wp2
  go_ret
  exact ⟨rfl, rfl⟩
/-- What a round keeps. -/
def Kr (n0 bk : Nat) (W W' : World) : Prop := Below n0 W W' ∧ W'.heap[bk]? = W.heap[bk]?
theorem Kr.tr {n0 bk : Nat} {A B C : World} (h : Kr n0 bk A B) (k : Kr n0 bk B C) : Kr n0 bk A C := ⟨h.1.trans k.1, k.2.trans h.2⟩
theorem Kr.put {n0 bk : Nat} {w : World} (h0 : n0 ≤ w.heap.size) (hb : bk < w.heap.size) (W : World) (l : Nat) (o o' : Obj) (hl : w.heap.size ≤ l) (h : W.heap[l]? = some o) (h1 : o.isCells = false) (h2 : o.isWalk = false) : Kr n0 bk W (W.putObj l o') :=
  ⟨belowK_b h0 W l o o' hl h h1 h2, World.putObj_heap_other (by omega)⟩
theorem rows_stops (m : Nat) (hm : 1 ≤ m) (bk : Nat) (w0 : World) (sp : Option Addr) (cap n : Nat) (qs : List Bool) (hq : Hid (LiesQ w0 sp qs)) (hqn : Hid (qs.length = n)) (hn : n ≤ 2147483647) (w : World) (hbk : Bx w bk #[.slice sp n cap] 22) (hW : Below w0.heap.size w0 w) :
    SeqStopsK Fence.wide m Try.prog 25 #[.pointer (some ⟨bk, 0, none⟩)] (fun x : Rk => #[.agg (rwC x.1)]) (Kr w0.heap.size bk) (fun xs => Rs qs xs qs.length) (fun _ => True) n w := fun l J Jx W hWW hJ _ hY h0 =>
  rows1_in m hm l bk w0 sp cap n qs hq hqn hn W.heap.size J Jx hJ hY W ((hWW.block bk (heap_lt hbk)).trans hbk) (hW.trans (hWW.mono hW.size)) h0
/-- What whatever is done with a row leaves: no block of these types, no block but cells is turned. -/
structure Keep3 (n0 : Nat) (W W' : World) : Prop where
  oth : KeepsOthers W W'
  low : Below n0 W W'
  ty : ∀ b cs t, Bx W b cs t → t = 22 ∨ t = 46 ∨ t = 45 → Bx W' b cs t
theorem eachRow_any (w0 w : World) (hW : Hid (Below w0.heap.size w0 w)) (sp : Option Addr) (cap n : Nat) (qs : List Bool) (hq : Hid (LiesQ w0 sp qs)) (hqn : Hid (qs.length = n)) (hn : n ≤ 2147483647) (cb : Nat) (lb : Array Value) (ecb : ∀ args w, (callFunc cb args).run Try.prog w = .ok (.enter cb args) w)
    (I : List Rk → World → Prop) (hI : Hid (OwnFrom w.heap.size I)) (h0 : Hid (I [] w))
    (hcb : Hid (∀ (pre : List Rk) (x : Rk) (W : World), pre.length < n → Below w0.heap.size w0 W → I pre W → Calls Try.prog cb (#[.agg (rwC x.1)] ++ lb) W fun e W' => (∃ v, e = .returned v) ∧ Keep3 w0.heap.size W W' ∧ I (pre ++ [x]) W')) :
    Calls Try.prog 18 #[.slice sp n cap, .func (.func cb) #[] lb] w fun e w' => (∃ v, e = .returned v) ∧ Hid (Below w0.heap.size w0 w' ∧ ∃ xs, Rs qs xs qs.length ∧ I xs w') := by
  refine (callsIn_wide (n := 8)).1 ?_
  refine callsIn_of_wp_marks Try.func18 rfl trivial ?_ rfl
  simp only [Try.ntmps18, List.size_toArray, List.length_cons, List.length_nil, Nat.reduceAdd, Nat.reduceSub, Array.replicate_succ, Array.replicate_zero, List.push_toArray, List.append_toArray, List.nil_append, List.cons_append]
  gi_wp2_with (refine ⟨trivial, ?_⟩; gi_at_call 24; refine (rows_in _ _ _ _ _).mono ?_; rintro e w' ⟨rfl, rfl⟩)
  have F2 : Hid (Fm w [(w.heap.size, #[.func (.func cb) #[] lb], 46), (w.heap.size + 1, #[.slice sp n cap], 22)] ((w.alloc (.cells #[.func (.func cb) #[] lb] 46)).alloc (.cells #[.slice sp n cap] 22))) := Fm.two w _ _ _ _
  have hsz : ((w.alloc (.cells #[.func (.func cb) #[] lb] 46)).alloc (.cells #[.slice sp n cap] 22)).heap.size = w.heap.size + 2 := by simp
  have hI2 : Hid (I [] ((w.alloc (.cells #[.func (.func cb) #[] lb] 46)).alloc (.cells #[.slice sp n cap] 22))) := hI.out.alloc _ (hI.out.alloc _ h0.out)
  generalize (w.alloc (.cells #[.func (.func cb) #[] lb] 46)).alloc (.cells #[.slice sp n cap] 22) = W0 at F2 hsz hI2 ⊢
  have hW0 : Hid (Below w0.heap.size w0 W0) := hW.out.trans (F2.out.low.mono hW.out.size)
  have bk := F2.out.bx 1 _ _ _ rfl
  have bd := F2.out.bx 0 _ _ _ rfl
  have hws := hW.out.size
  refine wpIn_rangeFunc_ownH rfl (by omega) (gf := 25) (lb := #[.pointer (some ⟨w.heap.size + 1, 0, none⟩)]) rfl trivial (enters_of Try.func25 (by kernel_rfl) rfl)
    (rows_stops _ (by omega) (w.heap.size + 1) w0 sp cap n qs hq hqn hn W0 bk hW0.out) Kr.tr (Kr.put (by omega) (by omega)) (Below.refl _ _) (fun _ => rfl)
    (fun pre W => ((I pre W ∧ Bx W w.heap.size #[.func (.func cb) #[] lb] 46) ∧ Bx W (w.heap.size + 1) #[.slice sp n cap] 22) ∧ Below w0.heap.size w0 W)
    (fun _ _ _ => False)
    (OwnFrom.and (OwnFrom.and (OwnFrom.and (fun s A B row hs hg hr => hI.out s A B row hs hg (fun r e => ⟨by have := (hr r e).1; omega, (hr r e).2⟩)) (Own.from (boxed_own _ _ _) _)) (Own.from (boxed_own _ _ _) _)) (ownFrom_below (Nat.le_refl _) (by omega)))
    (fun _ _ _ _ _ hs _ _ => hs)
    ⟨⟨⟨hI2.out, bd⟩, bk⟩, hW0.out⟩
    (fun x a' W => ∃ b, Bx W b (rwC x.1) 45 ∧ a' = { tmps := #[.slice sp n cap, .func (.func cb) #[] lb, undef, .pointer (some ⟨w.heap.size, 0, none⟩), .pointer (some ⟨b, 0, none⟩), .slice sp n cap, .func (.func 25) #[] #[.pointer (some ⟨w.heap.size + 1, 0, none⟩)], .agg (rwC x.1), undef, undef, undef], defers := [] })
    (fun x a' _ X Y row hs hg hr => by
      obtain ⟨b, h2, h3⟩ := hs
      refine ⟨b, (hg.block b (heap_lt h2) (fun e => ?_)).trans h2, h3⟩
      obtain ⟨o, ho, hc⟩ := (hr b e.symm).2
      rw [show X.heap[b]? = _ from h2] at ho
      cases ho
      cases hc)
    ?assign ?body ?done ?stop
  case assign =>
    rintro l pre ⟨⟨xa, xb, xh⟩, hok⟩ W K ⟨⟨⟨hi, hb⟩, hk⟩, hB⟩ hK
    have hK : Hid _ := hK
    dsimp only [rwC]
    gi_wp2
    have hWs : w0.heap.size ≤ W.heap.size := hB.size
    have hB1 : Below W.heap.size W (W.alloc (.cells #[.int .i64 xa, .int .i64 xb, .bool xh] 45)) := (Below.refl _ W).alloc (Nat.le_refl _) _
    exact hK.out _ _ ((KeepsOthers.alloc _ _).from _) ⟨hB1.mono hWs, hB1.block _ (heap_lt hk)⟩ ⟨⟨⟨hI.out.alloc _ hi, (hB1.block _ (heap_lt hb)).trans hb⟩, (hB1.block _ (heap_lt hk)).trans hk⟩, hB.trans (hB1.mono hWs)⟩ ⟨W.heap.size, World.alloc_heap_new W _, rfl⟩
  case body =>
    rintro l pre ⟨⟨xa, xb, xh⟩, hok⟩ a' W hl hr ⟨⟨⟨hi, hb⟩, hk⟩, hB⟩ ⟨b, hx, rfl⟩ hlt
    have cb0 := hb.c 0 (.func (.func cb) #[] lb) rfl
    have hC := hcb.out pre ⟨⟨xa, xb, xh⟩, hok⟩ W hlt hB hi
    dsimp only [rwC] at hC hx ⊢
    have x0 := hx.c 0 (.int .i64 xa) rfl
    have x1 := hx.c 1 (.int .i64 xb) rfl
    have x2 := hx.c 2 (.bool xh) rfl
    have hx : Hid _ := hx
    have hb : Hid _ := hb
    have hk : Hid _ := hk
    have hB : Hid _ := hB
    gi_wp2_with ((first | refine ⟨trivial, ?_⟩ | refine ⟨fun _ _ => trivial, ?_⟩ | skip); (with_reducible show CallsIn _ _ _ cb _ _ _); refine (CallsIn.inRound l (callsIn_wide.2 hC)).mono ?_; rintro e W2 ⟨⟨v, rfl⟩, K3, hI3⟩)
    exact ⟨K3.oth.from _, ⟨K3.low, (K3.ty _ _ _ hk.out (.inl rfl)).trans hk.out.symm⟩, ⟨⟨hI3, K3.ty _ _ _ hb.out (.inr (.inl rfl))⟩, K3.ty _ _ _ hk.out (.inl rfl)⟩, hB.out.trans K3.low⟩
  case done =>
    rintro D xs W hD hS ⟨⟨⟨hi, hb⟩, hk⟩, hB⟩ hK
    gi_wp2
    refine ⟨by simp, .inl ⟨_, _, rfl, run_takeDeferred hK, ?_⟩⟩
    exact ⟨_, results_none rfl _ _ _, ⟨_, rfl⟩, ⟨hB.trans (belowK_b (w := w) (by omega) W D _ _ (by omega) hK rfl rfl), xs, hS, hI.out.putObj _ hi (by omega) hK rfl⟩⟩
  case stop =>
    rintro D c pre W _ _ h _
    exact h.elim
end Go.Proofs.Ytbiifkcphaljeaa
