/- ScriptAll: what is handed in gone through; the frame. -/
import Derived.Test.YthpahpfnpapoiaaDoorWe
namespace Go.Proofs.YthpahpfnpapoiaaDoor
open Go Go.RowKit Go.Shelf
set_option linter.unusedVariables false
set_option maxHeartbeats 1000000
set_option maxRecDepth 100000

theorem Fm.add {w yb y : World} {l : List (Nat × Array Value × TypeId)} (h : Fm w l yb) (hb : Below yb.heap.size yb y) (b : Nat) (cs : Array Value) (t : TypeId) (hx : Bx y b cs t) (hge : yb.heap.size ≤ b) : Fm w (l ++ [(b, cs, t)]) y := by
  have h' := h.below hb
  have key : ∀ (i b' : Nat) (cs' : Array Value) (t' : TypeId), (l ++ [(b, cs, t)])[i]? = some (b', cs', t') → l[i]? = some (b', cs', t') ∨ (i = l.length ∧ b' = b ∧ cs' = cs ∧ t' = t) := fun i b' cs' t' e => by
    rcases Nat.lt_or_ge i l.length with hi | hi
    · rw [List.getElem?_append_left hi] at e
      exact .inl e
    · rw [List.getElem?_append_right hi] at e
      rcases Nat.eq_zero_or_pos (i - l.length) with h0 | h0
      · rw [h0] at e
        simp at e
        exact .inr ⟨by omega, e.1.symm, e.2.1.symm, e.2.2.symm⟩
      · rw [List.getElem?_eq_none (by simp; omega)] at e
        cases e
  refine ⟨fun i b' cs' t' e => ?_, fun i b' cs' t' e => ?_, fun i j b' cs' cs'' t' t'' e e' => ?_, h'.low⟩
  · rcases key i b' cs' t' e with e | ⟨_, rfl, rfl, rfl⟩
    · exact h'.get i b' cs' t' e
    · exact hx
  · rcases key i b' cs' t' e with e | ⟨_, rfl, rfl, rfl⟩
    · exact h'.ge i b' cs' t' e
    · exact Nat.le_trans h.low.size hge
  · rcases key i b' cs' t' e with e | ⟨f1, f2, f3, f4⟩
    · rcases key j b' cs'' t'' e' with e' | ⟨f1, f2, f3, f4⟩
      · exact h'.ne i j b' cs' cs'' t' t'' e e'
      · have := heap_lt (h.get i b' cs' t' e)
        omega
    · rcases key j b' cs'' t'' e' with e' | ⟨g1, g2, g3, g4⟩
      · have := heap_lt (h.get j b' cs'' t'' e')
        omega
      · omega
theorem and_mask (x : Int) : 0 ≤ bits .and .i64 x 1023 ∧ bits .and .i64 x 1023 ≤ 1023 := by
  have h : (BitVec.ofInt 64 x &&& BitVec.ofInt 64 1023).toNat ≤ 1023 := by
    rw [BitVec.toNat_and]
    exact Nat.and_le_right
  show 0 ≤ IntKind.i64.wrap ((BitVec.ofInt 64 x &&& BitVec.ofInt 64 1023).toNat : Int) ∧ IntKind.i64.wrap ((BitVec.ofInt 64 x &&& BitVec.ofInt 64 1023).toNat : Int) ≤ 1023
  rw [IntKind.wrap_i64]
  omega
/-- Boxes, and the script that the program's function holds. -/
structure Al (w : World) (bs : List (Nat × Array Value × TypeId)) (bk : Nat) (v : Value) (l : List Sn) (y : World) : Prop where
  fm : Fm w bs y
  bx : Bx y bk #[v] 23
  own : OwnS w.heap.size y v l
  ge : w.heap.size ≤ bk
theorem Al.below {w y z : World} {bs : List (Nat × Array Value × TypeId)} {bk : Nat} {v : Value} {l : List Sn} (h : Al w bs bk v l y) (hb : Below y.heap.size y z) : Al w bs bk v l z := ⟨h.fm.below hb, (hb.block bk (heap_lt h.bx)).trans h.bx, h.own.below hb, h.ge⟩
theorem Al.new {w y : World} {bs : List (Nat × Array Value × TypeId)} {bk : Nat} {v : Value} {l : List Sn} (h : Al w bs bk v l y) (b : Nat) (hb : y.heap.size = b) (cs : Array Value) (t : TypeId) : Al w (bs ++ [(b, cs, t)]) bk v l (y.alloc (.cells cs t)) := by
  subst hb
  have := h.below (below1 y (.cells cs t))
  exact ⟨h.fm.new cs t, this.bx, this.own, h.ge⟩
theorem Al.off {w y : World} {bs : List (Nat × Array Value × TypeId)} {bk : Nat} {v : Value} {l : List Sn} (h : Al w bs bk v l y) (b : Nat) (hb : y.heap.size = b) : bk ≠ b ∧ v.ownBlock ≠ some b := by
  subst hb
  exact ⟨fun e => by have := heap_lt h.bx; omega, fun e => by have := (World.ownsRow.lt h.own _ e).2; omega⟩
theorem Al.allF {w y : World} {bs : List (Nat × Array Value × TypeId)} {bk : Nat} {v : Value} {l : List Sn} (h : Al w bs bk v l y) (h0 : checkS l = 0) : AllF w.heap.size y (.func (.func 32) #[] #[.pointer (some ⟨bk, 0, none⟩)]) l := .inr ⟨h0, bk, v, rfl, h.bx, h.own, h.ge⟩
theorem Al.cu {w y z : World} {bs bs' : List (Nat × Array Value × TypeId)} {bk : Nat} {v : Value} {l : List Sn} (h : Al w bs bk v l y) (M : Nat → Prop) (hc : Cu w.heap.size (fun g _ => M g) y z) (hbk : ¬ M bk) (hv : ∀ q, M q → v.ownBlock ≠ some q) (hf : Fm w bs' z) : Al w bs' bk v l z :=
  ⟨hf, (hc.blk bk (heap_lt h.bx) (fun _ => hbk)).trans h.bx, h.own.keepB fun g e => hc.blk g (World.ownsRow.lt h.own g e).2 (fun _ hM => hv g hM e), h.ge⟩
theorem cball_any (w y6 : World) (sp : Option Addr) (cap n : Nat) (l : List Sn) (hl : Hid (LiesS w sp l)) (hn : Hid (l.length = n)) (h0 : Hid (checkS l = 0)) (inn m k : Int) (hm : Hid (cyclesS l = m)) (hk : 1 ≤ k) (bk : Nat) (v : Value) (b0 b1 b2 b3 b4 b5 b6 : Nat) (g5 : Hid (bk ≠ b5 ∧ v.ownBlock ≠ some b5)) (g6 : Hid (bk ≠ b6 ∧ v.ownBlock ≠ some b6)) (hA : Hid (Al w [(b0, #[.slice sp n cap], 23), (b1, #[.int .i64 inn], 3), (b2, #[.int .i64 m], 3), (b3, #[(.func (.func 32) #[] #[.pointer (some ⟨bk, 0, none⟩)])], 37), (b4, #[.int .i64 k], 3), (b5, #[.int .i64 (0)], 3), (b6, #[.bool true], 4)] bk v l y6)) :
    Calls Tryd.prog 32 #[.func (.func 20) #[] #[.pointer (some ⟨b5, 0, none⟩), .pointer (some ⟨b1, 0, none⟩), .pointer (some ⟨b0, 0, none⟩), .pointer (some ⟨b4, 0, none⟩), .pointer (some ⟨b3, 0, none⟩), .pointer (some ⟨b2, 0, none⟩), .pointer (some ⟨b6, 0, none⟩)], .pointer (some ⟨bk, 0, none⟩)] y6 fun e y => (∃ u, e = .returned u) ∧ Hid (Fm w [(b0, #[.slice sp n cap], 23), (b1, #[.int .i64 inn], 3), (b2, #[.int .i64 m], 3), (b3, #[(.func (.func 32) #[] #[.pointer (some ⟨bk, 0, none⟩)])], 37), (b4, #[.int .i64 k], 3), (b5, #[.int .i64 (min 101 m)], 3), (b6, #[.bool true], 4)] y) := by
  obtain ⟨c1, c2, c3⟩ := check_ok h0.out
  have hlen := exp_len l c2.pos
  have hcyc : m = ((expand l).length : Int) := by rw [← hm.out]; unfold cyclesS; rw [if_pos h0.out, hlen]
  have h5 := heap_lt (hA.out.fm.get 5 b5 _ _ rfl)
  have h6 := heap_lt (hA.out.fm.get 6 b6 _ _ rfl)
  have e5 := hA.out.fm.ge 5 b5 _ _ rfl
  have e6 := hA.out.fm.ge 6 b6 _ _ rfl
  have hMn : ¬ (fun q => q = b5 ∨ q = b6) bk := fun h => by
    rcases h with h | h
    · exact g5.out.1 h
    · exact g6.out.1 h
  have hMo : ∀ q, (fun q => q = b5 ∨ q = b6) q → v.ownBlock ≠ some q := fun q h => by
    rcases h with rfl | rfl
    · exact g5.out.2
    · exact g6.out.2
  refine (all2_any y6 w.heap.size bk v l hA.out.bx hA.out.own hA.out.fm.low.size h0 (fun q => q = b5 ∨ q = b6) (fun q hq => ⟨by rcases hq with rfl | rfl <;> assumption, by rcases hq with rfl | rfl <;> assumption, fun e => hMn (e ▸ hq), hMo q hq⟩) 20 #[.pointer (some ⟨b5, 0, none⟩), .pointer (some ⟨b1, 0, none⟩), .pointer (some ⟨b0, 0, none⟩), .pointer (some ⟨b4, 0, none⟩), .pointer (some ⟨b3, 0, none⟩), .pointer (some ⟨b2, 0, none⟩), .pointer (some ⟨b6, 0, none⟩)] (fun _ _ => rfl)
    (fun i y => i ≤ 100 ∧ Al w [(b0, #[.slice sp n cap], 23), (b1, #[.int .i64 inn], 3), (b2, #[.int .i64 m], 3), (b3, #[(.func (.func 32) #[] #[.pointer (some ⟨bk, 0, none⟩)])], 37), (b4, #[.int .i64 k], 3), (b5, #[.int .i64 (i)], 3), (b6, #[.bool true], 4)] bk v l y)
    (fun i y => i = 100 ∧ Fm w [(b0, #[.slice sp n cap], 23), (b1, #[.int .i64 inn], 3), (b2, #[.int .i64 m], 3), (b3, #[(.func (.func 32) #[] #[.pointer (some ⟨bk, 0, none⟩)])], 37), (b4, #[.int .i64 k], 3), (b5, #[.int .i64 ((i : Int) + 1)], 3), (b6, #[.bool true], 4)] y) ?_ ?_ ?_).mono ?_
  · rintro i y y' ⟨h, F⟩ hb
    exact ⟨h, F.below hb⟩
  · rintro i a y hi hsz ⟨hi1, F⟩
    have e8 : (#[.int .i64 (i : Int), .agg (spC ⟨1, a⟩)] ++ #[.pointer (some ⟨b5, 0, none⟩), .pointer (some ⟨b1, 0, none⟩), .pointer (some ⟨b0, 0, none⟩), .pointer (some ⟨b4, 0, none⟩), .pointer (some ⟨b3, 0, none⟩), .pointer (some ⟨b2, 0, none⟩), .pointer (some ⟨b6, 0, none⟩)] : Array Value) = #[.int .i64 (i : Int), .agg (spC ⟨1, a⟩), .pointer (some ⟨b5, 0, none⟩), .pointer (some ⟨b1, 0, none⟩), .pointer (some ⟨b0, 0, none⟩), .pointer (some ⟨b4, 0, none⟩), .pointer (some ⟨b3, 0, none⟩), .pointer (some ⟨b2, 0, none⟩), .pointer (some ⟨b6, 0, none⟩)] := by simp
    rw [e8]
    refine (cb_any w.heap.size w y (Nat.le_refl _) sp cap n l hl hn inn m k hm hk (.func (.func 32) #[] #[.pointer (some ⟨bk, 0, none⟩)]) b0 b1 b2 b3 b4 b5 b6 e5 e6 i (by omega) a (fun z hz => ((F.cu (fun q => q = b5 ∨ q = b6) hz hMn hMo (bs' := []) ⟨fun _ _ _ _ h => by simp at h, fun _ _ _ _ h => by simp at h, fun _ _ _ _ _ _ _ h => by simp at h, F.fm.low.trans hz.low⟩)).allF h0.out) F.fm).mono ?_
    rintro e y' ⟨rfl, H⟩
    refine ⟨H.out.cu, ?_⟩
    by_cases h : (i : Int) < 100
    · exact .inl ⟨by rw [decide_eq_true h], by omega, F.cu (fun q => q = b5 ∨ q = b6) H.out.cu hMn hMo H.out.fm⟩
    · exact .inr ⟨by rw [decide_eq_false h], by omega, H.out.fm⟩
  · exact ⟨Nat.zero_le _, hA.out⟩
  · rintro e y ⟨he, H⟩
    refine ⟨he, ?_⟩
    rcases H.out.2 with ⟨h, F⟩ | ⟨i, hi, h, F⟩
    · rw [show min 101 m = ((expand l).length : Int) by omega]
      exact F.fm
    · rw [show min 101 m = (i : Int) + 1 by omega]
      exact F
end Go.Proofs.YthpahpfnpapoiaaDoor
