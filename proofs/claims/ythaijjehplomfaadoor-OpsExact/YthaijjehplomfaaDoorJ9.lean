/- An order's word: Encode. bits.Hex: what it returns for every number and every count of digits; nothing that was there turns. -/
import Derived.Test.YthaijjehplomfaaDoorJ8
import Derived.Test.YthaijjehplomfaaDoorRows
import Derived.Test.YthaijjehplomfaaDoorJ0
import Derived.WalkKit
import Derived.WalkSpells
import Derived.WalkLawsBesides
import Derived.Deep.QuietTactic
import Derived.Deep.OwnRows
import Derived.Laws.IdiomStrings
namespace Go.Proofs.YthaijjehplomfaaDoor
open Go Go.RowKit
set_option linter.unusedVariables false
set_option maxHeartbeats 1000000
set_option maxRecDepth 20000

theorem eqO (a b : Od) : Eqs Tryd.prog 30 (o6 a) (o6 b) (a.same b) := ⟨by kernel_rfl, fun w => by
  unfold o6
  go_simp
  unfold Od.same
  (repeat' split) <;> simp_all <;> omega⟩
theorem wrdF_take (u : Nat) (o : Od) (fs : List Nat) (p k : Nat) (h : fs[p]? = some k) : wrdF u o (fs.take (p + 1)) = wrdF u o (fs.take p) ||| (getK k o <<< belK k) % 65536 := by
  rw [List.take_add_one, h]
  simp [wrdF]
theorem getK_lt (k : Nat) (o : Od) (ho : OdR o) : getK k o < 65536 := by
  have h1 := ho.x
  have h2 := ho.y
  have h3 := ho.n
  have h4 := ho.b
  have h5 := ho.a
  unfold getK
  (repeat' split) <;> omega
theorem encW_none {o : Od} (h : rowO o = none) : encW o = none := by unfold encW; rw [h]
theorem encW_bad {o : Od} {i : Nat} (h : rowO o = some i) (hd : decB (wrdR i o) = false ∨ (decO (wrdR i o)).same o = false) : encW o = none := by
  unfold encW
  rw [h]
  rcases hd with e | e <;> simp [e]
theorem encW_good {o : Od} {i : Nat} (h : rowO o = some i) (hd : decB (wrdR i o) = true) (hs : (decO (wrdR i o)).same o = true) : encW o = some (wrdR i o) := by
  unfold encW
  rw [h]
  simp [hd, hs]
theorem enc_no (w : World) (o : Od) (hr : rowO o = none) : Calls Tryd.prog 8 #[.agg (o6 o)] w fun e w' => e = .returned (.tuple #[.int .u16 0, .int .i64 160]) ∧ Below w.heap.size w w' := by
  have hF : Hid (Fm w [(w.heap.size, o6 o, 30)] (w.alloc (.cells (o6 o) 30))) := Fm.one w _ _
  have hf := fun z => rowOf_any o z
  rw [hr] at hf
  go_enter Tryd.func8, Tryd.ntmps8
  go_wp2_with (first
    | (go_at_call 24; refine (hf _).mono ?_; rintro e y1 ⟨hb1, rfl⟩; have K1 : Hid (Fm w [(w.heap.size, o6 o, 30)] y1) := hF'.out.below hb1)
    | ((with_reducible refine at_load rtO w.heap.size (o6 o) ?_ ?_ (.tmp 1) ?_ ?_ ?_ ?_); exact hF'.out.bx 0 _ _ _ rfl; rfl; rfl; rfl; rfl)
    | ((with_reducible refine at_st rtR y1.heap.size #[.int .u8 0, .int .u16 0, .string ⟨#[]⟩, .slice none 0 0] #[.int .u8 0, .int .u16 0, .string ⟨#[]⟩, .slice none 0 0] ?_ ?_ ?_ ?_ (.tmp 4) (.tmp 14) ?_ ?_ ?_ ?_ ?_); exact K2.out.bx 1 _ _ _ rfl; rfl; rfl; simp [Value.oneCell']; rfl; rfl; rfl; rfl; intro y3 hw2; have K3 : Hid (Fm w [(w.heap.size, o6 o, 30), (y1.heap.size, #[.int .u8 0, .int .u16 0, .string ⟨#[]⟩, .slice none 0 0], 51)] y3) := K2.out.put 1 _ _ _ _ rfl hw2.out)
    | ((with_reducible refine gen_world (y1.alloc (.cells #[.int .u8 0, .int .u16 0, .string ⟨#[]⟩, .slice none 0 0] 51)) (Fm w [(w.heap.size, o6 o, 30), (y1.heap.size, #[.int .u8 0, .int .u16 0, .string ⟨#[]⟩, .slice none 0 0], 51)]) ?_ ?_); exact K1.out.new _ _; intro y2 K2)
    | ((with_reducible refine gen_world (w.alloc (.cells (o6 o) 30)) (Fm w [(w.heap.size, o6 o, 30)]) hF.out ?_); intro y0 hF'))
  go_ret2
  exact ⟨rfl, K3.out.low⟩
theorem enc_some (w : World) (o : Od) (ho : Hid (OdR o)) (i : Nat) (hr : rowO o = some i) (u d : Nat) (hu : Hid (u = wrdR i o)) (B : Od) (kn sm : Bool) (hB : Hid (B = decO u)) (hkn : Hid (kn = decB u)) (hsm : Hid (sm = B.same o)) :
    Calls Tryd.prog 8 #[.agg (o6 o)] w fun e w' => e = .returned (.tuple #[.int .u16 (if kn && sm then (u : Int) else 0), .int .i64 (if kn && sm then 0 else 160)]) ∧ Below w.heap.size w w' := by
  have hF : Hid (Fm w [(w.heap.size, o6 o, 30)] (w.alloc (.cells (o6 o) 30))) := Fm.one w _ _
  have hf := fun z => rowOf_any o z
  rw [hr] at hf
  go_enter Tryd.func8, Tryd.ntmps8
  go_wp2_with (first
    | (go_at_call 24; refine (hf _).mono ?_; rintro e y1 ⟨hb1, op, wd, nm, S, n, rfl, hL⟩; have hL : Hid (RwLit y1 i op wd nm S n) := hL; have K1 : Hid (Fm w [(w.heap.size, o6 o, 30)] y1) := hF'.out.below hb1)
    | ((with_reducible refine at_load rtO w.heap.size (o6 o) ?_ ?_ (.tmp 1) ?_ ?_ ?_ ?_); exact hF'.out.bx 0 _ _ _ rfl; rfl; rfl; rfl; rfl)
    | ((with_reducible refine gen_world (y1.alloc (.cells #[.int .u8 (op : Int), .int .u16 (wd : Int), .string nm, .slice S n n] 51)) (fun x => Fm w [(w.heap.size, o6 o, 30), (y1.heap.size, #[.int .u8 (op : Int), .int .u16 (wd : Int), .string nm, .slice S n n], 51)] x ∧ Below y1.heap.size y1 x) ?_ ?_); exact ⟨K1.out.new _ _, below1 y1 _⟩; intro y2 K2; have d1 := (K2.out.1.bx 1 _ _ _ rfl).c 1 (.int .u16 (wd : Int)) rfl; have d3 := (K2.out.1.bx 1 _ _ _ rfl).c 3 (.slice S n n) rfl; have hL2 : Hid (RwLit y2 i op wd nm S n) := hL.out.below K2.out.2)
    | ((with_reducible refine gen_world (w.alloc (.cells (o6 o) 30)) (Fm w [(w.heap.size, o6 o, 30)]) hF.out ?_); intro y0 hF'))
  clear hF hf
  have hn : Hid ((fsR i).length = n) := hL.out.2.2.2.2.1
  have hi : Hid (i < 31) := hL.out.1
  have hwd : Hid (wd = wdR i) := hL.out.2.2.1
  have hwl : Hid (wd < 65536) := by rw [hwd.out]; exact wd_bnd i hi.out
  have h3 : (n : Int) ≤ 3 := by rw [← hn.out]; exact fs_len i hi.out
  clear d1 d3
  go_loopw [23, 6] (fun j x wz => ∃ p c : Nat, p ≤ n ∧ j = .int .i64 (p : Int) ∧ x = .int .u16 (c : Int) ∧ Hid (c = wrdF wd o ((fsR i).take p)) ∧ Hid (c < 65536) ∧ Hid (Fm w [(w.heap.size, o6 o, 30), (y1.heap.size, #[.int .u8 (op : Int), .int .u16 (wd : Int), .string nm, .slice S n n], 51)] wz) ∧ Hid (FsL wz S (fsR i))) (fun j _ _ => (n - intOf j).toNat)
  case atStart => exact ⟨0, wd, by omega, rfl, rfl, (rfl : wd = wd), hwl, K2.out.1, hL2.out.2.2.2.2.2⟩
  case round =>
    obtain ⟨p, c, hpn, rfl, rfl, hc, hc6, K, hl⟩ := hrel
    by_cases hlt : p < n
    · obtain ⟨k, hpk⟩ : ∃ k, (fsR i)[p]? = some k := ⟨_, List.getElem?_eq_getElem (by rw [hn.out]; exact hlt)⟩
      have hk5 : Hid (k < 5) := fs_lt i hi.out k (List.mem_of_getElem? hpk)
      obtain ⟨gb, ob, hS, hr⟩ := hl.out.lies p k hpk
      subst hS
      have hr' : Hid (wr.rangeAt gb (ob + p * 5) (fdC k)) := hr
      have hix := fun w' => idxP (P := Tryd.prog) (t := 49) (e := 59) (s := 5) (g := gb) (off := ob) (len := n) (cap := n) Tryd.underlying49 (by kernel_rfl) .i64 p w' hlt
      have hshl : Op.shift .shl .u16 ((getK k o : Nat) : Int) .i64 ((belK k : Nat) : Int) = pure (.int .u16 (((getK k o <<< belK k) % 65536 : Nat) : Int)) := shlN _ _ (belK_le k)
      have hor : bits .or .u16 (c : Int) (((getK k o <<< belK k) % 65536 : Nat) : Int) = ((c ||| (getK k o <<< belK k) % 65536 : Nat) : Int) := orNN _ _ hc6.out (Nat.mod_lt _ (by decide))
      have hpi : (p : Int) < n := by omega
      have fin : Hid (c ||| (getK k o <<< belK k) % 65536 = wrdF wd o ((fsR i).take (p + 1)) ∧ (c ||| (getK k o <<< belK k) % 65536) < 65536) := ⟨by rw [wrdF_take wd o (fsR i) p k hpk, ← hc.out], Nat.or_lt_two_pow (n := 16) hc6.out (Nat.mod_lt _ (by decide))⟩
      have hm := fun z => of_any k hk5.out o ho.out z
      have ew := ent_of k hk5.out
      have hlt' : Hid (p < n) := hlt
      generalize (getK k o <<< belK k) % 65536 = sv at hshl hor fin
      generalize getK k o = gv at hshl hm
      generalize (c ||| sv) = c2 at hor fin
      clear hlt hr hpk
      go_wp2_with (first
        | ((with_reducible refine at_st rtF wr.heap.size #[.string ⟨#[]⟩, .int .i64 0, .int .i64 0, .nilFunc, .nilFunc] (fdC k).toArray ?_ ?_ ?_ ?_ (.tmp 8) (.tmp 26) ?_ ?_ ?_ ?_ ?_); exact M.out.1.bx 2 _ _ _ rfl; rfl; rfl; simp [fdC, Value.oneCell']; rfl; rfl; rfl; rfl; intro z2 hw2; have K2 : Hid (Fm w [(w.heap.size, o6 o, 30), (y1.heap.size, #[.int .u8 (op : Int), .int .u16 (wd : Int), .string nm, .slice (some ⟨gb, ob, none⟩) n n], 51), (wr.heap.size, (fdC k).toArray, 59)] z2) := M.out.1.put 2 _ _ _ _ rfl hw2.out; have hl2 : Hid (FsL z2 (some ⟨gb, ob, none⟩) (fsR i)) := hl.out.below (M.out.2.trans (hw2.out.2.1 _ (Nat.le_refl _))))
        | ((with_reducible refine gen_world (wr.alloc (.cells #[.string ⟨#[]⟩, .int .i64 0, .int .i64 0, .nilFunc, .nilFunc] 59)) (fun x => Fm w [(w.heap.size, o6 o, 30), (y1.heap.size, #[.int .u8 (op : Int), .int .u16 (wd : Int), .string nm, .slice (some ⟨gb, ob, none⟩) n n], 51), (wr.heap.size, #[.string ⟨#[]⟩, .int .i64 0, .int .i64 0, .nilFunc, .nilFunc], 59)] x ∧ Below wr.heap.size wr x) ?_ ?_); exact ⟨K.out.new _ _, below1 wr _⟩; intro z M)
        | ((with_reducible refine at_loadm rtF gb (ob + p * 5) (fdC k).toArray ?_ ?_ (.tmp 25) ?_ ?_ ?_ ?_); exact hr'.out; rfl; rfl; rfl; rfl))
      refine region_class_tail 9 (fun x => Fm w [(w.heap.size, o6 o, 30), (y1.heap.size, #[.int .u8 (op : Int), .int .u16 (wd : Int), .string nm, .slice (some ⟨gb, ob, none⟩) n n], 51), (wr.heap.size, (fdC k).toArray, 59)] x ∧ FsL x (some ⟨gb, ob, none⟩) (fsR i)) (by kernel_rfl) (by kernel_rfl) ⟨K2.out.drew, hl2.out.below ⟨rfl, rfl, rfl, Nat.le_refl _, fun _ _ => rfl⟩⟩ ?_
      simp only [List.take_succ_cons, List.take_zero, List.drop_succ_cons, List.drop_zero]
      with_reducible refine quiet_one (.int .u16 (c : Int)) ?_ ?_ ?_
      · kernel_rfl
      · intro u hy
        go_simp
      with_reducible refine quiet_one (.pointer (some ⟨wr.heap.size, 3, none⟩)) ?_ ?_ ?_
      · kernel_rfl
      · intro u hy
        go_simp
      with_reducible refine quiet_one (.func (.func (ofF k)) #[] #[]) ?_ ?_ ?_
      · kernel_rfl
      · intro u hy
        have x := (hy.1.bx 2 _ _ _ rfl).c 3 (.func (.func (ofF k)) #[] #[]) rfl
        go_simp
      with_reducible refine quiet_one (.agg (o6 o)) ?_ ?_ ?_
      · kernel_rfl
      · intro u hy
        exact q_load rtO w.heap.size (o6 o) (fun u' h' => h'.1.bx 0 _ _ _ rfl) rfl (.tmp 1) rfl rfl u hy
      with_reducible refine quiet_one (.int .u16 (gv : Int)) ?_ ?_ ?_
      · kernel_rfl
      · intro u hy
        go_simp
        exact (hm u).mono fun e u' h' => ⟨h'.1, hy.1.below h'.2, hy.2.below h'.2⟩
      with_reducible refine quiet_one (.pointer (some ⟨wr.heap.size, 2, none⟩)) ?_ ?_ ?_
      · kernel_rfl
      · intro u hy
        go_simp
      with_reducible refine quiet_one (.int .i64 (belK k : Int)) ?_ ?_ ?_
      · kernel_rfl
      · intro u hy
        have x := (hy.1.bx 2 _ _ _ rfl).c 2 (.int .i64 (belK k : Int)) rfl
        go_simp
      with_reducible refine quiet_one (.int .u16 (sv : Int)) ?_ ?_ ?_
      · kernel_rfl
      · intro u hy
        go_simp
      with_reducible refine quiet_one (.int .u16 (c2 : Int)) ?_ ?_ ?_
      · kernel_rfl
      · intro u hy
        go_simp
      refine wpQuiet_nil ?_
      intro z3 K3
      have hl3 : Hid (FsL z3 (some ⟨gb, ob, none⟩) (fsR i)) := K3.2
      have K3 : Hid (Fm w [(w.heap.size, o6 o, 30), (y1.heap.size, #[.int .u8 (op : Int), .int .u16 (wd : Int), .string nm, .slice (some ⟨gb, ob, none⟩) n n], 51), (wr.heap.size, (fdC k).toArray, 59)] z3) := K3.1
      go_simp
      go_wp2
      go_roundw
      case rel => exact ⟨p + 1, c2, by have := hlt'.out; omega, by simp, rfl, fin.out.1, fin.out.2, K3.out.pre (l' := [_]), hl3⟩
      case measure => have := hlt'.out; simp [intOf]; omega
    · have hpe : p = n := by omega
      have ec : Hid (c = u) := by
        show _ = _
        rw [hc.out, hpe, List.take_of_length_le (by rw [hn.out]; exact Nat.le_refl _), hu.out, hwd.out]
        rfl
      have ec' := ec.out
      subst ec'
      clear hpn hlt
      have hdc := fun z => decode_any z c hc6.out
      rw [← hB.out, ← hkn.out] at hdc
      have hE := eqO B o
      rw [← hsm.out] at hE
      have hE : Hid (Eqs Tryd.prog 30 (o6 B) (o6 o) sm) := hE
      subst hpe
      cases kn
      · go_wp2_with (first
          | (go_at_call 6; refine (hdc _).mono ?_; rintro e y5 ⟨rfl, hb5⟩; have K5 : Hid (Fm w [(w.heap.size, o6 o, 30), (y1.heap.size, #[.int .u8 (op : Int), .int .u16 (wd : Int), .string nm, .slice S p p], 51)] y5) := K.out.below hb5)
          | ((with_reducible refine gen_world (y5.alloc (.cells #[.int .u8 0, .int .u8 0, .int .u8 0, .int .u8 0, .int .u8 0, .int .u16 0] 30)) (Fm w [(w.heap.size, o6 o, 30), (y1.heap.size, #[.int .u8 (op : Int), .int .u16 (wd : Int), .string nm, .slice S p p], 51), (y5.heap.size, o6 od0, 30)]) ?_ ?_); exact K5.out.new _ _; intro y6 K6)
          | ((with_reducible refine at_st rtO y5.heap.size (o6 od0) (o6 B) ?_ ?_ ?_ ?_ (.tmp 9) (.tmp 40) ?_ ?_ ?_ ?_ ?_); exact K6.out.bx 2 _ _ _ rfl; rfl; rfl; exact o6_one _; rfl; rfl; rfl; rfl; intro y7 hw7; have K7 : Hid (Fm w [(w.heap.size, o6 o, 30), (y1.heap.size, #[.int .u8 (op : Int), .int .u16 (wd : Int), .string nm, .slice S p p], 51), (y5.heap.size, o6 B, 30)] y7) := K6.out.put 2 _ _ _ _ rfl hw7.out))
        go_ret2
        exact ⟨rfl, K7.out.low⟩
      · cases sm
        all_goals
          go_wp2_with (first
            | (go_at_call 6; refine (hdc _).mono ?_; rintro e y5 ⟨rfl, hb5⟩; have K5 : Hid (Fm w [(w.heap.size, o6 o, 30), (y1.heap.size, #[.int .u8 (op : Int), .int .u16 (wd : Int), .string nm, .slice S p p], 51)] y5) := K.out.below hb5)
            | ((with_reducible refine at_ne hE.out (.tmp 45) (.tmp 46) 30 ?_ ?_ ?_ ?_ ?_); kernel_rfl; rfl; rfl; rfl)
            | ((with_reducible refine at_load rtO y5.heap.size (o6 B) ?_ ?_ (.tmp 9) ?_ ?_ ?_ ?_); exact K7.out.bx 2 _ _ _ rfl; rfl; kernel_rfl; rfl; rfl)
            | ((with_reducible refine at_load rtO w.heap.size (o6 o) ?_ ?_ (.tmp 1) ?_ ?_ ?_ ?_); exact K7.out.bx 0 _ _ _ rfl; rfl; kernel_rfl; rfl; rfl)
            | ((with_reducible refine gen_world (y5.alloc (.cells #[.int .u8 0, .int .u8 0, .int .u8 0, .int .u8 0, .int .u8 0, .int .u16 0] 30)) (Fm w [(w.heap.size, o6 o, 30), (y1.heap.size, #[.int .u8 (op : Int), .int .u16 (wd : Int), .string nm, .slice S p p], 51), (y5.heap.size, o6 od0, 30)]) ?_ ?_); exact K5.out.new _ _; intro y6 K6)
            | ((with_reducible refine at_st rtO y5.heap.size (o6 od0) (o6 B) ?_ ?_ ?_ ?_ (.tmp 9) (.tmp 40) ?_ ?_ ?_ ?_ ?_); exact K6.out.bx 2 _ _ _ rfl; rfl; rfl; exact o6_one _; rfl; rfl; rfl; rfl; intro y7 hw7; have K7 : Hid (Fm w [(w.heap.size, o6 o, 30), (y1.heap.size, #[.int .u8 (op : Int), .int .u16 (wd : Int), .string nm, .slice S p p], 51), (y5.heap.size, o6 B, 30)] y7) := K6.out.put 2 _ _ _ _ rfl hw7.out))
          go_ret2
          exact ⟨rfl, K7.out.low⟩
theorem encode_any (w : World) (o : Od) (ho : OdR o) : Calls Tryd.prog 8 #[.agg (o6 o)] w fun e w' => e = .returned (.tuple #[.int .u16 (((encW o).getD 0 : Nat) : Int), .int .i64 (if (encW o).isSome then 0 else 160)]) ∧ Below w.heap.size w w' := by
  rcases hr : rowO o with _ | i
  · rw [encW_none hr]
    exact enc_no w o hr
  · have h := enc_some w o ho i hr (wrdR i o) 0 (rfl : wrdR i o = _) (decO (wrdR i o)) (decB (wrdR i o)) ((decO (wrdR i o)).same o) (rfl : decO (wrdR i o) = _) (rfl : decB (wrdR i o) = _) (rfl : (decO (wrdR i o)).same o = _)
    rcases hk : decB (wrdR i o) with _ | _
    · rw [encW_bad hr (.inl hk)]
      rw [hk] at h
      exact h
    · rcases hs : (decO (wrdR i o)).same o with _ | _
      · rw [encW_bad hr (.inr hs)]
        rw [hs] at h
        rw [hk] at h
        exact h
      · rw [encW_good hr hk hs]
        rw [hs, hk] at h
        exact h
end Go.Proofs.YthaijjehplomfaaDoor

namespace Go.Proofs.YthaijjehplomfaaDoor
open Go.RowKit
set_option maxHeartbeats 400000

theorem info5 : (Tryd.prog.info? 5).map (fun i => (i.zero, i.size, i.bytes)) = some (some (.int .u8 0), 1, 1) := by kernel_rfl

theorem hex_conv (D N : Nat) (w : World) :
    (convert 45 9 (.slice (some ⟨w.heap.size, 0, none⟩) D D)).run Tryd.prog (w.alloc (.cells (hexA D N 0) 5)) = .ok (.string (hexS D N)) (w.alloc (.cells (hexA D N 0) 5)) := by
  have h := run_convert_bytes_back (P := Tryd.prog) (w.alloc (.cells (hexA D N 0) 5)) 45 9 5 ⟨w.heap.size, 0, none⟩ D (hexL D N) Tryd.underlying45 Tryd.underlying5 Tryd.underlying9 (fun j hj => by
    have hj' : j < D := by simpa [hexL_len] using hj
    have hadd : (⟨w.heap.size, 0, none⟩ : Addr).add j = ⟨w.heap.size, j, none⟩ := by unfold Addr.add; split <;> simp_all
    rw [hadd, World.cell?_alloc_mark, hexA_get _ _ _ _ hj', hexL_get]
    simp)
  rw [hexL_len] at h
  exact h

theorem hex_no (n d : Int) (w : World) (h : d < 1 ∨ 8 < d ∨ n < 0) :
    Calls Tryd.prog 25 #[.int .i64 n, .int .i64 d] w fun e w' => e = .returned (.string (hexOf n d)) ∧ w' = w := by
  have e : hexOf n d = ⟨#[]⟩ := by unfold hexOf; rw [if_neg (by omega)]
  rw [e]
  by_cases h1 : d < 1
  · go_enter Tryd.func25, Tryd.ntmps25
    go_wp2
    go_ret
    exact ⟨rfl, rfl⟩
  · by_cases h2 : 8 < d
    · go_enter Tryd.func25, Tryd.ntmps25
      go_wp2
      go_ret
      exact ⟨rfl, rfl⟩
    · have h3 : n < 0 := by omega
      go_enter Tryd.func25, Tryd.ntmps25
      go_wp2
      go_ret
      exact ⟨rfl, rfl⟩

theorem signs (m : Nat) (h : m < 16) : (((ByteArray.mk #[48, 49, 50, 51, 52, 53, 54, 55, 56, 57, 97, 98, 99, 100, 101, 102])[m]'h).toNat : Int) = hexC (m : Int) := by
  revert m; decide

theorem ret_str {a b : ByteArray} (h : a = b) : Ending.returned (.string a) = .returned (.string b) := by rw [h]
theorem hexOf_yes (N D : Nat) (h1 : 1 ≤ D) (h2 : D ≤ 8) (h : N / 16 ^ (D - 0) = 0) : hexOf N D = hexS D N := by
  have e : (N : Int) / 16 ^ D = ((N / 16 ^ D : Nat) : Int) := by simp
  unfold hexOf
  rw [if_pos ⟨by omega, by omega, by omega, by rw [Int.toNat_natCast, e]; exact congrArg _ h⟩]
  simp
theorem hexOf_no (N D : Nat) (h : ¬ N / 16 ^ (D - 0) = 0) : hexOf N D = ⟨#[]⟩ := by
  have e : (N : Int) / 16 ^ D = ((N / 16 ^ D : Nat) : Int) := by simp
  unfold hexOf
  rw [if_neg]
  rintro ⟨_, _, _, h4⟩
  rw [Int.toNat_natCast, e] at h4
  exact h (Int.ofNat.inj h4)

theorem hex_next (N D j M : Nat) (h : j + 1 ≤ D) (hM : M = N / 16 ^ (D - (j + 1))) : M / 16 = N / 16 ^ (D - j) := by
  rw [hM, Nat.div_div_eq_div_mul, ← Nat.pow_succ, show (D - (j + 1)).succ = D - j from by omega]
theorem hex_here (N D j M : Nat) (hM : M = N / 16 ^ (D - (j + 1))) : hexC ((M : Int) % 16) = hexAt D N j := by
  unfold hexAt
  rw [show D - 1 - j = D - (j + 1) from by omega, ← hM]
  congr 1

theorem hex_yes (N D : Nat) (w : World) (h1 : 1 ≤ D) (h2 : D ≤ 8) (h3 : N ≤ 9223372036854775807) :
    Calls Tryd.prog 25 #[.int .i64 N, .int .i64 D] w fun e w' => e = .returned (.string (hexOf N D)) ∧ Below w.heap.size w w' := by
  have hmk := run_make_row' (P := Tryd.prog) 45 5 (.int .u8 0) 1 Tryd.underlying45 info5 rfl .i64 .i64 D (by omega) (by omega)
  have hst := hexA_start D N
  go_enter Tryd.func25, Tryd.ntmps25
  go_wp2
  clear hmk hst
  go_loopw [0, 6] (fun n i wr => ∃ (k M : Nat), k ≤ D ∧ i = .int .i64 ((k : Int) - 1) ∧ n = .int .i64 (M : Int) ∧ Hid (M = N / 16 ^ (D - k)) ∧ wr = w.alloc (.cells (hexA D N k) 5)) (fun _ i _ => (intOf i + 1).toNat)
  case atStart => exact ⟨D, N, Nat.le_refl _, rfl, rfl, show N = N / 16 ^ (D - D) by simp, rfl⟩
  case round =>
    obtain ⟨k, M, hk, rfl, rfl, hM, rfl⟩ := hrel
    have hMN : M ≤ 9223372036854775807 := Nat.le_trans (hM.out ▸ Nat.div_le_self _ _) h3
    cases k with
    | zero =>
      have hcv := hex_conv D N w
      by_cases hz : M = 0
      · subst hz
        go_wp2
        go_ret
        exact ⟨ret_str (hexOf_yes N D h1 h2 hM.out.symm).symm, (Below.refl _ _).alloc (Nat.le_refl _) _⟩
      · have hz' : ((M : Int) != 0) = true := by simp; omega
        go_wp2
        go_ret
        exact ⟨ret_str (hexOf_no N D (fun e => hz (hM.out.trans e))).symm, (Below.refl _ _).alloc (Nat.le_refl _) _⟩
    | succ j =>
      rw [show ((j + 1 : Nat) : Int) - 1 = (j : Int) from by omega]
      have hb : bits .and .i64 (M : Int) 15 = ((M % 16 : Nat) : Int) := by
        have := bits_mask .i64 63 (by decide) (fun n h0 h1 => by rw [IntKind.wrap_i64]; omega) 4 (by decide) (M : Int) (by omega) (by omega)
        have e : ((2 : Int) ^ 4 - 1) = 15 := by decide
        rw [e] at this
        rw [this]; omega
      have hg := hexA_get D N (j + 1) j (by omega)
      rw [if_pos (by omega)] at hg
      have hsg := signs (M % 16) (by omega)
      go_wp2
      go_roundw
      case rel => exact ⟨j, M / 16, by omega, rfl, by simp, hex_next N D j M (by omega) hM.out, by rw [hex_here N D j M hM.out, hexA_set]⟩
      case measure => simp [intOf]
/-- bits.Hex, whole. -/
theorem hex_any (n d : Int) (w : World) (hn : n ≤ 9223372036854775807) :
    Calls Tryd.prog 25 #[.int .i64 n, .int .i64 d] w fun e w' => e = .returned (.string (hexOf n d)) ∧ Below w.heap.size w w' := by
  by_cases h : d < 1 ∨ 8 < d ∨ n < 0
  · refine (hex_no n d w h).mono ?_
    rintro e w' ⟨he, rfl⟩
    exact ⟨he, Below.refl _ _⟩
  · obtain ⟨N, rfl⟩ := Int.eq_ofNat_of_zero_le (show 0 ≤ n by omega)
    obtain ⟨D, rfl⟩ := Int.eq_ofNat_of_zero_le (show 0 ≤ d by omega)
    exact hex_yes N D w (by omega) (by omega) (by omega)
end Go.Proofs.YthaijjehplomfaaDoor
