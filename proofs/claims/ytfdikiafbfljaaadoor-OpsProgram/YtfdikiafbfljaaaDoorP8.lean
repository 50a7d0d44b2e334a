/- An order's word: Encode. -/
import Derived.Test.YtfdikiafbfljaaaDoorP7
namespace Go.Proofs.YtfdikiafbfljaaaDoor
open Go Go.RowKit
set_option linter.unusedVariables false
set_option maxHeartbeats 1000000
set_option maxRecDepth 20000

theorem eqO (a b : Od) : Eqs Tryd.prog 30 (o6 a) (o6 b) (a.same b) := ⟨by kernel_rfl, fun w => by
  unfold o6
  go_simp
  unfold Od.same
  (repeat' split) <;> simp_all <;> omega⟩
theorem wrdF_take (u : Nat) (o : Od) (fs : List Nat) (p k : Nat) (h : fs[p]? = some k) : wrdF u o (fs.take (p + 1)) = wrdF u o (fs.take p) ||| (getK k o <<< belK k) % 65536 := by
  rw [List.take_add_one, h]
  simp [wrdF]
theorem getK_lt (k : Nat) (o : Od) (ho : OdR o) : getK k o < 65536 := by
  have h1 := ho.x
  have h2 := ho.y
  have h3 := ho.n
  have h4 := ho.b
  have h5 := ho.a
  unfold getK
  (repeat' split) <;> omega
theorem encW_none {o : Od} (h : rowO o = none) : encW o = none := by unfold encW; rw [h]
theorem encW_bad {o : Od} {i : Nat} (h : rowO o = some i) (hd : decB (wrdR i o) = false ∨ (decO (wrdR i o)).same o = false) : encW o = none := by
  unfold encW
  rw [h]
  rcases hd with e | e <;> simp [e]
theorem encW_good {o : Od} {i : Nat} (h : rowO o = some i) (hd : decB (wrdR i o) = true) (hs : (decO (wrdR i o)).same o = true) : encW o = some (wrdR i o) := by
  unfold encW
  rw [h]
  simp [hd, hs]
theorem enc_no (w : World) (o : Od) (hr : rowO o = none) : Calls Tryd.prog 13 #[.agg (o6 o)] w fun e w' => e = .returned (.tuple #[.int .u16 0, .int .i64 160]) ∧ Below w.heap.size w w' := by
  have hF : Hid (Fm w [(w.heap.size, o6 o, 30)] (w.alloc (.cells (o6 o) 30))) := Fm.one w _ _
  have hf := fun z => rowOf_any o z
  rw [hr] at hf
  go_enter Tryd.func13, Tryd.ntmps13
  go_wp2_with (first
    | (go_at_call 23; refine (hf _).mono ?_; rintro e y1 ⟨hb1, rfl⟩; have K1 : Hid (Fm w [(w.heap.size, o6 o, 30)] y1) := hF'.out.below hb1)
    | ((with_reducible refine at_load rtO w.heap.size (o6 o) ?_ ?_ (.tmp 1) ?_ ?_ ?_ ?_); exact hF'.out.bx 0 _ _ _ rfl; rfl; rfl; rfl; rfl)
    | ((with_reducible refine at_st rtR y1.heap.size #[.int .u8 0, .int .u16 0, .string ⟨#[]⟩, .slice none 0 0] #[.int .u8 0, .int .u16 0, .string ⟨#[]⟩, .slice none 0 0] ?_ ?_ ?_ ?_ (.tmp 4) (.tmp 14) ?_ ?_ ?_ ?_ ?_); exact K2.out.bx 1 _ _ _ rfl; rfl; rfl; simp [Value.oneCell']; rfl; rfl; rfl; rfl; intro y3 hw2; have K3 : Hid (Fm w [(w.heap.size, o6 o, 30), (y1.heap.size, #[.int .u8 0, .int .u16 0, .string ⟨#[]⟩, .slice none 0 0], 54)] y3) := K2.out.put 1 _ _ _ _ rfl hw2.out)
    | ((with_reducible refine gen_world (y1.alloc (.cells #[.int .u8 0, .int .u16 0, .string ⟨#[]⟩, .slice none 0 0] 54)) (Fm w [(w.heap.size, o6 o, 30), (y1.heap.size, #[.int .u8 0, .int .u16 0, .string ⟨#[]⟩, .slice none 0 0], 54)]) ?_ ?_); exact K1.out.new _ _; intro y2 K2)
    | ((with_reducible refine gen_world (w.alloc (.cells (o6 o) 30)) (Fm w [(w.heap.size, o6 o, 30)]) hF.out ?_); intro y0 hF'))
  go_ret2
  exact ⟨rfl, K3.out.low⟩
theorem enc_some (w : World) (o : Od) (ho : Hid (OdR o)) (i : Nat) (hr : rowO o = some i) (u d : Nat) (hu : Hid (u = wrdR i o)) (B : Od) (kn sm : Bool) (hB : Hid (B = decO u)) (hkn : Hid (kn = decB u)) (hsm : Hid (sm = B.same o)) :
    Calls Tryd.prog 13 #[.agg (o6 o)] w fun e w' => e = .returned (.tuple #[.int .u16 (if kn && sm then (u : Int) else 0), .int .i64 (if kn && sm then 0 else 160)]) ∧ Below w.heap.size w w' := by
  have hF : Hid (Fm w [(w.heap.size, o6 o, 30)] (w.alloc (.cells (o6 o) 30))) := Fm.one w _ _
  have hf := fun z => rowOf_any o z
  rw [hr] at hf
  go_enter Tryd.func13, Tryd.ntmps13
  go_wp2_with (first
    | (go_at_call 23; refine (hf _).mono ?_; rintro e y1 ⟨hb1, op, wd, nm, S, n, rfl, hL⟩; have hL : Hid (RwLit y1 i op wd nm S n) := hL; have K1 : Hid (Fm w [(w.heap.size, o6 o, 30)] y1) := hF'.out.below hb1)
    | ((with_reducible refine at_load rtO w.heap.size (o6 o) ?_ ?_ (.tmp 1) ?_ ?_ ?_ ?_); exact hF'.out.bx 0 _ _ _ rfl; rfl; rfl; rfl; rfl)
    | ((with_reducible refine gen_world (y1.alloc (.cells #[.int .u8 (op : Int), .int .u16 (wd : Int), .string nm, .slice S n n] 54)) (fun x => Fm w [(w.heap.size, o6 o, 30), (y1.heap.size, #[.int .u8 (op : Int), .int .u16 (wd : Int), .string nm, .slice S n n], 54)] x ∧ Below y1.heap.size y1 x) ?_ ?_); exact ⟨K1.out.new _ _, below1 y1 _⟩; intro y2 K2; have d1 := (K2.out.1.bx 1 _ _ _ rfl).c 1 (.int .u16 (wd : Int)) rfl; have d3 := (K2.out.1.bx 1 _ _ _ rfl).c 3 (.slice S n n) rfl; have hL2 : Hid (RwLit y2 i op wd nm S n) := hL.out.below K2.out.2)
    | ((with_reducible refine gen_world (w.alloc (.cells (o6 o) 30)) (Fm w [(w.heap.size, o6 o, 30)]) hF.out ?_); intro y0 hF'))
  clear hF hf
  have hn : Hid ((fsR i).length = n) := hL.out.2.2.2.2.1
  have hi : Hid (i < 31) := hL.out.1
  have hwd : Hid (wd = wdR i) := hL.out.2.2.1
  have hwl : Hid (wd < 65536) := by rw [hwd.out]; exact wd_bnd i hi.out
  have h3 : (n : Int) ≤ 3 := by rw [← hn.out]; exact fs_len i hi.out
  clear d1 d3
  go_loopw [23, 6] (fun j x wz => ∃ p c : Nat, p ≤ n ∧ j = .int .i64 (p : Int) ∧ x = .int .u16 (c : Int) ∧ Hid (c = wrdF wd o ((fsR i).take p)) ∧ Hid (c < 65536) ∧ Hid (Fm w [(w.heap.size, o6 o, 30), (y1.heap.size, #[.int .u8 (op : Int), .int .u16 (wd : Int), .string nm, .slice S n n], 54)] wz) ∧ Hid (FsL wz S (fsR i))) (fun j _ _ => (n - intOf j).toNat)
  case atStart => exact ⟨0, wd, by omega, rfl, rfl, (rfl : wd = wd), hwl, K2.out.1, hL2.out.2.2.2.2.2⟩
  case round =>
    obtain ⟨p, c, hpn, rfl, rfl, hc, hc6, K, hl⟩ := hrel
    by_cases hlt : p < n
    · obtain ⟨k, hpk⟩ : ∃ k, (fsR i)[p]? = some k := ⟨_, List.getElem?_eq_getElem (by rw [hn.out]; exact hlt)⟩
      have hk5 : Hid (k < 5) := fs_lt i hi.out k (List.mem_of_getElem? hpk)
      obtain ⟨gb, ob, hS, hr⟩ := hl.out.lies p k hpk
      subst hS
      have hr' : Hid (wr.rangeAt gb (ob + p * 5) (fdC k)) := hr
      have hix := fun w' => idxP (P := Tryd.prog) (t := 52) (e := 62) (s := 5) (g := gb) (off := ob) (len := n) (cap := n) Tryd.underlying52 (by kernel_rfl) .i64 p w' hlt
      have hshl : Op.shift .shl .u16 ((getK k o : Nat) : Int) .i64 ((belK k : Nat) : Int) = pure (.int .u16 (((getK k o <<< belK k) % 65536 : Nat) : Int)) := shlN _ _ (belK_le k)
      have hor : bits .or .u16 (c : Int) (((getK k o <<< belK k) % 65536 : Nat) : Int) = ((c ||| (getK k o <<< belK k) % 65536 : Nat) : Int) := orNN _ _ hc6.out (Nat.mod_lt _ (by decide))
      have hpi : (p : Int) < n := by omega
      have fin : Hid (c ||| (getK k o <<< belK k) % 65536 = wrdF wd o ((fsR i).take (p + 1)) ∧ (c ||| (getK k o <<< belK k) % 65536) < 65536) := ⟨by rw [wrdF_take wd o (fsR i) p k hpk, ← hc.out], Nat.or_lt_two_pow (n := 16) hc6.out (Nat.mod_lt _ (by decide))⟩
      have hm := fun z => of_any k hk5.out o ho.out z
      have ew := ent_of k hk5.out
      have hlt' : Hid (p < n) := hlt
      generalize (getK k o <<< belK k) % 65536 = sv at hshl hor fin
      generalize getK k o = gv at hshl hm
      generalize (c ||| sv) = c2 at hor fin
      clear hlt hr hpk
      go_wp2_with (first
        | ((with_reducible refine at_st rtF wr.heap.size #[.string ⟨#[]⟩, .int .i64 0, .int .i64 0, .nilFunc, .nilFunc] (fdC k).toArray ?_ ?_ ?_ ?_ (.tmp 8) (.tmp 26) ?_ ?_ ?_ ?_ ?_); exact M.out.1.bx 2 _ _ _ rfl; rfl; rfl; simp [fdC, Value.oneCell']; rfl; rfl; rfl; rfl; intro z2 hw2; have K2 : Hid (Fm w [(w.heap.size, o6 o, 30), (y1.heap.size, #[.int .u8 (op : Int), .int .u16 (wd : Int), .string nm, .slice (some ⟨gb, ob, none⟩) n n], 54), (wr.heap.size, (fdC k).toArray, 62)] z2) := M.out.1.put 2 _ _ _ _ rfl hw2.out; have hl2 : Hid (FsL z2 (some ⟨gb, ob, none⟩) (fsR i)) := hl.out.below (M.out.2.trans (hw2.out.2.1 _ (Nat.le_refl _))))
        | ((with_reducible refine gen_world (wr.alloc (.cells #[.string ⟨#[]⟩, .int .i64 0, .int .i64 0, .nilFunc, .nilFunc] 62)) (fun x => Fm w [(w.heap.size, o6 o, 30), (y1.heap.size, #[.int .u8 (op : Int), .int .u16 (wd : Int), .string nm, .slice (some ⟨gb, ob, none⟩) n n], 54), (wr.heap.size, #[.string ⟨#[]⟩, .int .i64 0, .int .i64 0, .nilFunc, .nilFunc], 62)] x ∧ Below wr.heap.size wr x) ?_ ?_); exact ⟨K.out.new _ _, below1 wr _⟩; intro z M)
        | ((with_reducible refine at_loadm rtF gb (ob + p * 5) (fdC k).toArray ?_ ?_ (.tmp 25) ?_ ?_ ?_ ?_); exact hr'.out; rfl; rfl; rfl; rfl))
      refine region_class_tail 9 (fun x => Fm w [(w.heap.size, o6 o, 30), (y1.heap.size, #[.int .u8 (op : Int), .int .u16 (wd : Int), .string nm, .slice (some ⟨gb, ob, none⟩) n n], 54), (wr.heap.size, (fdC k).toArray, 62)] x ∧ FsL x (some ⟨gb, ob, none⟩) (fsR i)) (by kernel_rfl) (by kernel_rfl) ⟨K2.out.drew, hl2.out.below ⟨rfl, rfl, rfl, Nat.le_refl _, fun _ _ => rfl⟩⟩ ?_
      simp only [List.take_succ_cons, List.take_zero, List.drop_succ_cons, List.drop_zero]
      with_reducible refine quiet_one (.int .u16 (c : Int)) ?_ ?_ ?_
      · kernel_rfl
      · intro u hy
        go_simp
      with_reducible refine quiet_one (.pointer (some ⟨wr.heap.size, 3, none⟩)) ?_ ?_ ?_
      · kernel_rfl
      · intro u hy
        go_simp
      with_reducible refine quiet_one (.func (.func (ofF k)) #[] #[]) ?_ ?_ ?_
      · kernel_rfl
      · intro u hy
        have x := (hy.1.bx 2 _ _ _ rfl).c 3 (.func (.func (ofF k)) #[] #[]) rfl
        go_simp
      with_reducible refine quiet_one (.agg (o6 o)) ?_ ?_ ?_
      · kernel_rfl
      · intro u hy
        exact q_load rtO w.heap.size (o6 o) (fun u' h' => h'.1.bx 0 _ _ _ rfl) rfl (.tmp 1) rfl rfl u hy
      with_reducible refine quiet_one (.int .u16 (gv : Int)) ?_ ?_ ?_
      · kernel_rfl
      · intro u hy
        go_simp
        exact (hm u).mono fun e u' h' => ⟨h'.1, hy.1.below h'.2, hy.2.below h'.2⟩
      with_reducible refine quiet_one (.pointer (some ⟨wr.heap.size, 2, none⟩)) ?_ ?_ ?_
      · kernel_rfl
      · intro u hy
        go_simp
      with_reducible refine quiet_one (.int .i64 (belK k : Int)) ?_ ?_ ?_
      · kernel_rfl
      · intro u hy
        have x := (hy.1.bx 2 _ _ _ rfl).c 2 (.int .i64 (belK k : Int)) rfl
        go_simp
      with_reducible refine quiet_one (.int .u16 (sv : Int)) ?_ ?_ ?_
      · kernel_rfl
      · intro u hy
        go_simp
      with_reducible refine quiet_one (.int .u16 (c2 : Int)) ?_ ?_ ?_
      · kernel_rfl
      · intro u hy
        go_simp
      refine wpQuiet_nil ?_
      intro z3 K3
      have hl3 : Hid (FsL z3 (some ⟨gb, ob, none⟩) (fsR i)) := K3.2
      have K3 : Hid (Fm w [(w.heap.size, o6 o, 30), (y1.heap.size, #[.int .u8 (op : Int), .int .u16 (wd : Int), .string nm, .slice (some ⟨gb, ob, none⟩) n n], 54), (wr.heap.size, (fdC k).toArray, 62)] z3) := K3.1
      go_simp
      go_wp2
      go_roundw
      case rel => exact ⟨p + 1, c2, by have := hlt'.out; omega, by simp, rfl, fin.out.1, fin.out.2, K3.out.pre (l' := [_]), hl3⟩
      case measure => have := hlt'.out; simp [intOf]; omega
    · have hpe : p = n := by omega
      have ec : Hid (c = u) := by
        show _ = _
        rw [hc.out, hpe, List.take_of_length_le (by rw [hn.out]; exact Nat.le_refl _), hu.out, hwd.out]
        rfl
      have ec' := ec.out
      subst ec'
      clear hpn hlt
      have hdc := fun z => decode_any z c hc6.out
      rw [← hB.out, ← hkn.out] at hdc
      have hE := eqO B o
      rw [← hsm.out] at hE
      have hE : Hid (Eqs Tryd.prog 30 (o6 B) (o6 o) sm) := hE
      subst hpe
      cases kn
      · go_wp2_with (first
          | (go_at_call 7; refine (hdc _).mono ?_; rintro e y5 ⟨rfl, hb5⟩; have K5 : Hid (Fm w [(w.heap.size, o6 o, 30), (y1.heap.size, #[.int .u8 (op : Int), .int .u16 (wd : Int), .string nm, .slice S p p], 54)] y5) := K.out.below hb5)
          | ((with_reducible refine gen_world (y5.alloc (.cells #[.int .u8 0, .int .u8 0, .int .u8 0, .int .u8 0, .int .u8 0, .int .u16 0] 30)) (Fm w [(w.heap.size, o6 o, 30), (y1.heap.size, #[.int .u8 (op : Int), .int .u16 (wd : Int), .string nm, .slice S p p], 54), (y5.heap.size, o6 od0, 30)]) ?_ ?_); exact K5.out.new _ _; intro y6 K6)
          | ((with_reducible refine at_st rtO y5.heap.size (o6 od0) (o6 B) ?_ ?_ ?_ ?_ (.tmp 9) (.tmp 40) ?_ ?_ ?_ ?_ ?_); exact K6.out.bx 2 _ _ _ rfl; rfl; rfl; exact o6_one _; rfl; rfl; rfl; rfl; intro y7 hw7; have K7 : Hid (Fm w [(w.heap.size, o6 o, 30), (y1.heap.size, #[.int .u8 (op : Int), .int .u16 (wd : Int), .string nm, .slice S p p], 54), (y5.heap.size, o6 B, 30)] y7) := K6.out.put 2 _ _ _ _ rfl hw7.out))
        go_ret2
        exact ⟨rfl, K7.out.low⟩
      · cases sm
        all_goals
          go_wp2_with (first
            | (go_at_call 7; refine (hdc _).mono ?_; rintro e y5 ⟨rfl, hb5⟩; have K5 : Hid (Fm w [(w.heap.size, o6 o, 30), (y1.heap.size, #[.int .u8 (op : Int), .int .u16 (wd : Int), .string nm, .slice S p p], 54)] y5) := K.out.below hb5)
            | ((with_reducible refine at_ne hE.out (.tmp 45) (.tmp 46) 30 ?_ ?_ ?_ ?_ ?_); kernel_rfl; rfl; rfl; rfl)
            | ((with_reducible refine at_load rtO y5.heap.size (o6 B) ?_ ?_ (.tmp 9) ?_ ?_ ?_ ?_); exact K7.out.bx 2 _ _ _ rfl; rfl; kernel_rfl; rfl; rfl)
            | ((with_reducible refine at_load rtO w.heap.size (o6 o) ?_ ?_ (.tmp 1) ?_ ?_ ?_ ?_); exact K7.out.bx 0 _ _ _ rfl; rfl; kernel_rfl; rfl; rfl)
            | ((with_reducible refine gen_world (y5.alloc (.cells #[.int .u8 0, .int .u8 0, .int .u8 0, .int .u8 0, .int .u8 0, .int .u16 0] 30)) (Fm w [(w.heap.size, o6 o, 30), (y1.heap.size, #[.int .u8 (op : Int), .int .u16 (wd : Int), .string nm, .slice S p p], 54), (y5.heap.size, o6 od0, 30)]) ?_ ?_); exact K5.out.new _ _; intro y6 K6)
            | ((with_reducible refine at_st rtO y5.heap.size (o6 od0) (o6 B) ?_ ?_ ?_ ?_ (.tmp 9) (.tmp 40) ?_ ?_ ?_ ?_ ?_); exact K6.out.bx 2 _ _ _ rfl; rfl; rfl; exact o6_one _; rfl; rfl; rfl; rfl; intro y7 hw7; have K7 : Hid (Fm w [(w.heap.size, o6 o, 30), (y1.heap.size, #[.int .u8 (op : Int), .int .u16 (wd : Int), .string nm, .slice S p p], 54), (y5.heap.size, o6 B, 30)] y7) := K6.out.put 2 _ _ _ _ rfl hw7.out))
          go_ret2
          exact ⟨rfl, K7.out.low⟩
theorem encode_any (w : World) (o : Od) (ho : OdR o) : Calls Tryd.prog 13 #[.agg (o6 o)] w fun e w' => e = .returned (.tuple #[.int .u16 (((encW o).getD 0 : Nat) : Int), .int .i64 (if (encW o).isSome then 0 else 160)]) ∧ Below w.heap.size w w' := by
  rcases hr : rowO o with _ | i
  · rw [encW_none hr]
    exact enc_no w o hr
  · have h := enc_some w o ho i hr (wrdR i o) 0 (rfl : wrdR i o = _) (decO (wrdR i o)) (decB (wrdR i o)) ((decO (wrdR i o)).same o) (rfl : decO (wrdR i o) = _) (rfl : decB (wrdR i o) = _) (rfl : (decO (wrdR i o)).same o = _)
    rcases hk : decB (wrdR i o) with _ | _
    · rw [encW_bad hr (.inl hk)]
      rw [hk] at h
      exact h
    · rcases hs : (decO (wrdR i o)).same o with _ | _
      · rw [encW_bad hr (.inr hs)]
        rw [hs] at h
        rw [hk] at h
        exact h
      · rw [encW_good hr hk hs]
        rw [hs, hk] at h
        exact h
end Go.Proofs.YtfdikiafbfljaaaDoor
