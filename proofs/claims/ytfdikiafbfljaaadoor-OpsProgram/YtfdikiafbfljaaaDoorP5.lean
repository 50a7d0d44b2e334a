/- The first row of which something is so; Decode's and Encode's own questions. -/
import Derived.Test.YtfdikiafbfljaaaDoorP4
namespace Go.Proofs.YtfdikiafbfljaaaDoor
open Go Go.RowKit
set_option linter.unusedVariables false
set_option maxHeartbeats 1000000
set_option maxRecDepth 20000

theorem ret_two {P : Program} {a : Act} {w : World} {t : TypeId} {n : Nat} {fn : Func} {R' : Ending → World → Prop} {p u : Tmp} {b : Nat} {cs : Array Value} {v : Value} (R : Rt P t n) (hr : fn.results = #[.cell p t, .tmp u]) (hp : a.tmps.getD p undef = .pointer (some ⟨b, 0, none⟩)) (hu : a.tmps.getD u undef = v) (h : Bx w b cs t) (hs : cs.size = n) (hd : a.defers = []) (hR : R' (.returned (.tuple #[.agg cs, v])) w) : bodyPost P fn R' .ret a w := by
  obtain ⟨d, hu9, hd'⟩ := R.u
  refine bodyPost_ret ?_ hd hR
  have hl := run_loadVar_row (P := P) w b t t cs (0, 0) d h hu9 (by cases d <;> first | rfl | exact hd') (by rw [hs]; exact R.i)
  have hp9 : a.tmps[p]?.getD undef = .pointer (some ⟨b, 0, none⟩) := by simpa using hp
  have hu9 : a.tmps[u]?.getD undef = v := by simpa using hu
  simp [results, hr, hp9, hu9, asAddr, hl, Result.andThen]
/-- One block more that a call has made. -/
theorem Fm.more {w : World} {l : List (Nat × Array Value × TypeId)} {y y' : World} (h : Fm w l y) (hb : Below y.heap.size y y') (g : Nat) (cs : Array Value) (t : TypeId) (hg : y.heap.size ≤ g) (hx : Bx y' g cs t) : Fm w (l ++ [(g, cs, t)]) y' := by
  have hb' := h.below hb
  have key : ∀ (i b : Nat) (cs' : Array Value) (t' : TypeId), (l ++ [(g, cs, t)])[i]? = some (b, cs', t') → l[i]? = some (b, cs', t') ∧ i < l.length ∨ i = l.length ∧ b = g ∧ cs' = cs ∧ t' = t := by
    intro i b cs' t' e
    rcases Nat.lt_or_ge i l.length with hi | hi
    · rw [List.getElem?_append_left hi] at e; exact .inl ⟨e, hi⟩
    · rw [List.getElem?_append_right hi] at e
      rcases Nat.eq_or_lt_of_le hi with h0 | h0
      · rw [← h0, Nat.sub_self] at e
        simp at e
        exact .inr ⟨h0.symm, e.1.symm, e.2.1.symm, e.2.2.symm⟩
      · rw [List.getElem?_eq_none (by simp; omega)] at e; cases e
  refine ⟨fun i b cs' t' e => ?_, fun i b cs' t' e => ?_, fun i j b c1 c2 t1 t2 e1 e2 => ?_, hb'.low⟩
  · rcases key i b cs' t' e with ⟨k, _⟩ | ⟨_, rfl, rfl, rfl⟩
    · exact hb'.get i b cs' t' k
    · exact hx
  · rcases key i b cs' t' e with ⟨k, _⟩ | ⟨_, rfl, rfl, rfl⟩
    · exact h.ge i b cs' t' k
    · exact Nat.le_trans h.low.size hg
  · rcases key i b c1 t1 e1 with ⟨k1, l1⟩ | ⟨k1, kb, _⟩ <;> rcases key j b c2 t2 e2 with ⟨k2, l2⟩ | ⟨k2, kb2, _⟩
    · exact h.ne i j b c1 c2 t1 t2 k1 k2
    · exact absurd (heap_lt (h.get i b c1 t1 k1)) (by omega)
    · exact absurd (heap_lt (h.get j b c2 t2 k2)) (by omega)
    · omega
def zR : Array Value := #[.int .u8 0, .int .u16 0, .string ⟨#[]⟩, .slice none 0 0]
theorem rwC_size (sp : Nat → Option Addr) (i : Nat) : (rwC sp i).toArray.size = 4 := rfl
theorem rwC_one (sp : Nat → Option Addr) (i : Nat) : (rwC sp i).toArray.all (·.oneCell') = true := by simp [rwC, Value.oneCell']
theorem builtR0 : Tryd.prog.built 54 [] = some zR := by kernel_rfl
theorem rows_lies {y : World} {g : Nat} {sp : Nat → Option Addr} (h : Bx y g (rowL (rwC sp) (List.range 31)).toArray 54) (p : Nat) (hp : p < 31) : y.rangeAt g (p * 4) (rwC sp p) := fun i v hv => by
  have hi : i < 4 := (List.getElem?_eq_some_iff.1 hv).1
  refine h.c (p * 4 + i) v ?_
  rw [List.getElem?_toArray, rowL_at (s := 4) (fun _ => rfl) (List.range 31) p i p (by rw [List.getElem?_range hp]) hi]
  exact hv
/-- What find answers. -/
def FdE (w : World) (q : Nat → Bool) (e : Ending) (w' : World) : Prop := Below w.heap.size w w' ∧ ((∃ i sp, fstI q 31 = some i ∧ i < 31 ∧ e = .returned (.tuple #[.agg (rwC sp i).toArray, .bool true]) ∧ FsL w' (sp i) (fsR i)) ∨ (fstI q 31 = none ∧ e = .returned (.tuple #[.agg zR, .bool false])))
theorem find_any (w : World) (cb : Nat) (lb : Array Value) (q : Nat → Bool) (ecb : ∀ args w, (callFunc cb args).run Tryd.prog w = .ok (.enter cb args) w)
    (hcb : Hid (∀ i, i < 31 → ∀ (sp : Nat → Option Addr) (y : World), Below w.heap.size w y → LiesL 5 fdC y (sp i) (fsR i) → Calls Tryd.prog cb (#[.agg (rwC sp i).toArray] ++ lb) y fun e y' => e = .returned (.bool (q i)) ∧ Below y.heap.size y y')) :
    Calls Tryd.prog 19 #[.func (.func cb) #[] lb] w (FdE w q) := by
  have hB : Hid (Fm w [(w.heap.size, zR, 54)] (w.alloc (.cells #[.int .u8 0, .int .u16 0, .string ⟨#[]⟩, .slice none 0 0] 54))) := Fm.one w _ _
  have hrw := fun z => rows_any z
  go_enter Tryd.func19, Tryd.ntmps19
  go_wp2_with (go_at_call 38; refine (hrw _).mono ?_; rintro e y ⟨⟨v, rfl, g, sp, hg, rfl, hx, hl⟩, hb⟩)
  have K1 : Hid (Fm w [(w.heap.size, zR, 54), (g, (rowL (rwC sp) (List.range 31)).toArray, 54)] y) := hB.out.more hb g _ _ hg hx
  have hl : Hid (∀ i, i < 31 → FsL y (sp i) (fsR i)) := hl
  clear hB hb hg hx hrw
  go_loopw [8] (fun j wz => ∃ p : Nat, p ≤ 31 ∧ j = .int .i64 (p : Int) ∧ Hid (∀ j, j < p → q j = false) ∧ Hid (Below y.heap.size y wz) ∧ Hid (Fm w [(w.heap.size, zR, 54), (g, (rowL (rwC sp) (List.range 31)).toArray, 54)] wz)) (fun j _ => (31 - intOf j).toNat)
  case atStart => exact ⟨0, by omega, rfl, (fun j h => absurd h (by omega) : ∀ j, j < 0 → q j = false), (Below.refl _ _ : Below y.heap.size y y), K1⟩
  case round =>
    obtain ⟨p, hpn, rfl, hq, hy, K⟩ := hrel
    by_cases hlt : p < 31
    · have hix : ∀ w', (Instr.indexAt 94 (.slice (some ⟨g, 0, none⟩) 31 31) (.int .i64 (p : Int))).run Tryd.prog w' = .ok (.pointer (some ⟨g, p * 4, none⟩)) w' := fun w' => by
        have h := idxP (P := Tryd.prog) (t := 94) (e := 54) (s := 4) (g := g) (off := 0) (len := 31) (cap := 31) Tryd.underlying94 (by kernel_rfl) .i64 p w' hlt
        rwa [Nat.zero_add] at h
      have hr' : Hid (wr.rangeAt g (p * 4) (rwC sp p).toArray.toList) := rows_lies (K.out.bx 1 _ _ _ rfl) p hlt
      have hpi : (p : Int) < 31 := by omega
      have hlt' : Hid (p < 31) := hlt
      have hC : Hid (∀ y' : World, Below w.heap.size w y' → Below wr.heap.size wr y' → Calls Tryd.prog cb (#[.agg (rwC sp p).toArray] ++ lb) y' fun e y2 => e = .returned (.bool (q p)) ∧ Below y'.heap.size y' y2) := fun y' h1 h2 => hcb.out p hlt sp y' h1 ((hl.out p hlt).below (hy.out.trans (h2.mono hy.out.size))).lies
      obtain ⟨b, hbq⟩ : ∃ b, Hid (q p = b) := ⟨_, (rfl : q p = q p)⟩
      rw [hbq.out] at hC
      have hsz : Hid ((rwC sp p).toArray.size = 4) := (rfl : (rwC sp p).toArray.size = 4)
      have hone : Hid ((rwC sp p).toArray.all (·.oneCell') = true) := rwC_one sp p
      obtain ⟨C, hCe⟩ : ∃ C, Hid ((rwC sp p).toArray = C) := ⟨_, (rfl : (rwC sp p).toArray = (rwC sp p).toArray)⟩
      rw [hCe.out] at hr' hC hsz hone
      clear hlt
      cases b
      · go_wp2_with (first
          | ((with_reducible show Calls _ cb _ _ _); refine (hC.out z2 K2.out.low (((below1 wr _).mono (Nat.le_refl _)).trans hzz.out)).mono ?_; rintro e z3 ⟨rfl, hb3⟩; have K3 : Hid (Fm w [(w.heap.size, zR, 54), (g, (rowL (rwC sp) (List.range 31)).toArray, 54), (wr.heap.size, C, 54)] z3) := K2.out.below hb3; have hy3 : Hid (Below y.heap.size y z3) := (hy.out.trans (((below1 wr _).trans hzz.out).mono hy.out.size)).trans (hb3.mono (Nat.le_trans hy.out.size ((below1 wr _).trans hzz.out).size)))
          | ((with_reducible refine at_load rtR wr.heap.size C ?_ ?_ (.tmp 5) ?_ ?_ ?_ ?_); exact K2.out.bx 2 _ _ _ rfl; exact hsz.out; rfl; rfl; rfl)
          | ((with_reducible refine at_st rtR wr.heap.size #[.int .u8 0, .int .u16 0, .string ⟨#[]⟩, .slice none 0 0] C ?_ ?_ ?_ ?_ (.tmp 5) (.tmp 11) ?_ ?_ ?_ ?_ ?_); exact M.out.1.bx 2 _ _ _ rfl; rfl; exact hsz.out; exact hone.out; rfl; rfl; rfl; rfl; intro z2 hw2; have K2 : Hid (Fm w [(w.heap.size, zR, 54), (g, (rowL (rwC sp) (List.range 31)).toArray, 54), (wr.heap.size, C, 54)] z2) := M.out.1.put 2 _ _ _ _ rfl hw2.out; have hzz : Hid (Below wr.heap.size (wr.alloc (.cells #[.int .u8 0, .int .u16 0, .string ⟨#[]⟩, .slice none 0 0] 54)) z2) := by (rw [← M.out.2]; exact hw2.out.2.1 _ (Nat.le_refl _)))
          | ((with_reducible refine gen_world (wr.alloc (.cells #[.int .u8 0, .int .u16 0, .string ⟨#[]⟩, .slice none 0 0] 54)) (fun x => Fm w [(w.heap.size, zR, 54), (g, (rowL (rwC sp) (List.range 31)).toArray, 54), (wr.heap.size, #[.int .u8 0, .int .u16 0, .string ⟨#[]⟩, .slice none 0 0], 54)] x ∧ x = wr.alloc (.cells #[.int .u8 0, .int .u16 0, .string ⟨#[]⟩, .slice none 0 0] 54)) ?_ ?_); exact ⟨K.out.new _ _, rfl⟩; intro z M)
          | ((with_reducible refine at_loadm rtR g (p * 4) C ?_ ?_ (.tmp 10) ?_ ?_ ?_ ?_); exact hr'.out; exact hsz.out; rfl; rfl; rfl))
        go_roundw
        case rel => exact ⟨p + 1, by have := hlt'.out; omega, by simp, (fun j hj => by
          rcases Nat.lt_succ_iff_lt_or_eq.1 hj with h | h
          · exact hq.out j h
          · rw [h]; exact hbq.out : ∀ j, j < p + 1 → q j = false), hy3, K3.out.pre (l' := [_])⟩
        case measure => have := hlt'.out; simp [intOf]; omega
      · go_wp2_with (first
          | ((with_reducible refine at_load rtR wr.heap.size C ?_ ?_ (.tmp 5) ?_ ?_ ?_ ?_); exact K3.out.bx 2 _ _ _ rfl; exact hsz.out; rfl; rfl; rfl)
          | ((with_reducible refine at_st rtR w.heap.size zR C ?_ ?_ ?_ ?_ (.tmp 2) (.tmp 15) ?_ ?_ ?_ ?_ ?_); exact K3.out.bx 0 _ _ _ rfl; rfl; exact hsz.out; exact hone.out; rfl; rfl; rfl; rfl; intro z4 hw4; have K4 : Hid (Fm w [(w.heap.size, C, 54), (g, (rowL (rwC sp) (List.range 31)).toArray, 54), (wr.heap.size, C, 54)] z4) := K3.out.put 0 _ _ _ _ rfl hw4.out)

          | ((with_reducible show Calls _ cb _ _ _); refine (hC.out z2 K2.out.low (((below1 wr _).mono (Nat.le_refl _)).trans hzz.out)).mono ?_; rintro e z3 ⟨rfl, hb3⟩; have K3 : Hid (Fm w [(w.heap.size, zR, 54), (g, (rowL (rwC sp) (List.range 31)).toArray, 54), (wr.heap.size, C, 54)] z3) := K2.out.below hb3; have hy3 : Hid (Below y.heap.size y z3) := (hy.out.trans (((below1 wr _).trans hzz.out).mono hy.out.size)).trans (hb3.mono (Nat.le_trans hy.out.size ((below1 wr _).trans hzz.out).size)))
          | ((with_reducible refine at_load rtR wr.heap.size C ?_ ?_ (.tmp 5) ?_ ?_ ?_ ?_); exact K2.out.bx 2 _ _ _ rfl; exact hsz.out; rfl; rfl; rfl)
          | ((with_reducible refine at_st rtR wr.heap.size #[.int .u8 0, .int .u16 0, .string ⟨#[]⟩, .slice none 0 0] C ?_ ?_ ?_ ?_ (.tmp 5) (.tmp 11) ?_ ?_ ?_ ?_ ?_); exact M.out.1.bx 2 _ _ _ rfl; rfl; exact hsz.out; exact hone.out; rfl; rfl; rfl; rfl; intro z2 hw2; have K2 : Hid (Fm w [(w.heap.size, zR, 54), (g, (rowL (rwC sp) (List.range 31)).toArray, 54), (wr.heap.size, C, 54)] z2) := M.out.1.put 2 _ _ _ _ rfl hw2.out; have hzz : Hid (Below wr.heap.size (wr.alloc (.cells #[.int .u8 0, .int .u16 0, .string ⟨#[]⟩, .slice none 0 0] 54)) z2) := by (rw [← M.out.2]; exact hw2.out.2.1 _ (Nat.le_refl _)))
          | ((with_reducible refine gen_world (wr.alloc (.cells #[.int .u8 0, .int .u16 0, .string ⟨#[]⟩, .slice none 0 0] 54)) (fun x => Fm w [(w.heap.size, zR, 54), (g, (rowL (rwC sp) (List.range 31)).toArray, 54), (wr.heap.size, #[.int .u8 0, .int .u16 0, .string ⟨#[]⟩, .slice none 0 0], 54)] x ∧ x = wr.alloc (.cells #[.int .u8 0, .int .u16 0, .string ⟨#[]⟩, .slice none 0 0] 54)) ?_ ?_); exact ⟨K.out.new _ _, rfl⟩; intro z M)
          | ((with_reducible refine at_loadm rtR g (p * 4) C ?_ ?_ (.tmp 10) ?_ ?_ ?_ ?_); exact hr'.out; exact hsz.out; rfl; rfl; rfl))
        refine ret_two (v := .bool true) rtR rfl rfl rfl (K4.out.bx 0 _ _ _ rfl) hsz.out rfl ⟨K4.out.low, .inl ⟨p, sp, fstI_some hlt'.out hbq.out hq.out, hlt'.out, by rw [hCe.out], ((hl.out p hlt'.out).below hy3.out).off (K3.out.bx 0 _ _ _ rfl) (by decide) hw4.out.2.2⟩⟩
    · have hpe : p = 31 := by omega
      subst hpe
      go_wp2_with (first
        | ((with_reducible refine at_bu #[] [] zR ?_ ?_ ?_ builtR0 ?_); rfl; rfl; rfl)
        | ((with_reducible refine at_st rtR w.heap.size zR zR ?_ ?_ ?_ ?_ (.tmp 2) (.tmp 17) ?_ ?_ ?_ ?_ ?_); exact K.out.bx 0 _ _ _ rfl; rfl; rfl; kernel_rfl; rfl; rfl; rfl; rfl; intro z2 hw2; have K2 : Hid (Fm w [(w.heap.size, zR, 54), (g, (rowL (rwC sp) (List.range 31)).toArray, 54)] z2) := K.out.put 0 _ _ _ _ rfl hw2.out))
      refine ret_two rtR rfl rfl rfl (K2.out.bx 0 _ _ _ rfl) rfl rfl ⟨K2.out.low, .inr ⟨fstI_none hq.out, rfl⟩⟩
end Go.Proofs.YtfdikiafbfljaaaDoor
