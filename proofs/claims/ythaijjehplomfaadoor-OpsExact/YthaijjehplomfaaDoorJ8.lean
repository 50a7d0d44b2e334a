/- A word as an order: Decode. -/
import Derived.Test.YthaijjehplomfaaDoorJ7
namespace Go.Proofs.YthaijjehplomfaaDoor
open Go Go.RowKit
set_option linter.unusedVariables false
set_option maxHeartbeats 1000000
set_option maxRecDepth 20000

theorem ordF_take (o : Od) (v : Nat) (fs : List Nat) (p k : Nat) (h : fs[p]? = some k) : ordF o v (fs.take (p + 1)) = putK k (ordF o v (fs.take p)) (fldV k v) := by
  rw [List.take_add_one, h]
  simp [ordF]
theorem belK_le (k : Nat) : belK k ≤ 16 := by unfold belK; split <;> (try split) <;> decide
theorem o6_od0 : o6 od0 = #[.int .u8 0, .int .u8 0, .int .u8 0, .int .u8 0, .int .u8 0, .int .u16 0] := rfl
theorem Fm.drew {w : World} {l : List (Nat × Array Value × TypeId)} {y : World} (h : Fm w l y) : Fm w l y.drew := h.below ⟨rfl, rfl, rfl, Nat.le_refl _, fun _ _ => rfl⟩
theorem dec_no (w : World) (v : Nat) (hv : v < 65536) (hd : decR v = none) : Calls Tryd.prog 6 #[.int .u16 (v : Int)] w fun e w' => e = .returned (.tuple #[.agg (o6 od0), .bool false]) ∧ Below w.heap.size w w' := by
  have hF : Hid (Fm w [(w.heap.size, #[.int .u16 (v : Int)], 27), (w.heap.size + 1, o6 od0, 30)] ((w.alloc (.cells #[.int .u16 (v : Int)] 27)).alloc (.cells #[.int .u8 0, .int .u8 0, .int .u8 0, .int .u8 0, .int .u8 0, .int .u16 0] 30))) := Fm.two w _ _ _ _
  have hf := fun (z : World) (h : z.cell? ⟨w.heap.size, 0, none⟩ = some (.int .u16 (v : Int))) => (find_dec z w.heap.size v hv h).mono (fun e y (x : FdE z (takR · v) e y) => x.no hd)
  clear hd hv
  go_enter Tryd.func6, Tryd.ntmps6
  go_wp2_with (first
    | ((with_reducible refine at_st rtO (w.heap.size + 1) (o6 od0) #[.int .u8 0, .int .u8 0, .int .u8 0, .int .u8 0, .int .u8 0, .int .u16 0] ?_ ?_ ?_ ?_ (.tmp 2) (.tmp 16) ?_ ?_ ?_ ?_ ?_); exact K2b.out.bx 1 _ _ _ rfl; rfl; rfl; simp [Value.oneCell']; rfl; rfl; rfl; rfl; intro y3 hw3; have K3 : Hid (Fm w [(w.heap.size, #[.int .u16 (v : Int)], 27), (w.heap.size + 1, #[.int .u8 0, .int .u8 0, .int .u8 0, .int .u8 0, .int .u8 0, .int .u16 0], 30), (y1.heap.size, #[.int .u8 0, .int .u16 0, .string ⟨#[]⟩, .slice none 0 0], 51)] y3) := K2b.out.put 1 _ _ _ _ rfl hw3.out)
    | ((with_reducible refine at_st rtR y1.heap.size #[.int .u8 0, .int .u16 0, .string ⟨#[]⟩, .slice none 0 0] #[.int .u8 0, .int .u16 0, .string ⟨#[]⟩, .slice none 0 0] ?_ ?_ ?_ ?_ (.tmp 4) (.tmp 12) ?_ ?_ ?_ ?_ ?_); exact K2.out.bx 2 _ _ _ rfl; rfl; rfl; simp [Value.oneCell']; rfl; rfl; rfl; rfl; intro y2b hw2; have K2b : Hid (Fm w [(w.heap.size, #[.int .u16 (v : Int)], 27), (w.heap.size + 1, o6 od0, 30), (y1.heap.size, #[.int .u8 0, .int .u16 0, .string ⟨#[]⟩, .slice none 0 0], 51)] y2b) := K2.out.put 2 _ _ _ _ rfl hw2.out)
    | ((with_reducible refine gen_world (y1.alloc (.cells #[.int .u8 0, .int .u16 0, .string ⟨#[]⟩, .slice none 0 0] 51)) (Fm w [(w.heap.size, #[.int .u16 (v : Int)], 27), (w.heap.size + 1, o6 od0, 30), (y1.heap.size, #[.int .u8 0, .int .u16 0, .string ⟨#[]⟩, .slice none 0 0], 51)]) ?_ ?_); exact K1.out.new _ _; intro y2 K2)
    | (go_at_call 17; refine (hf _ ((hF.out.bx 0 _ _ _ rfl).c 0 _ rfl)).mono ?_; rintro e y1 ⟨hb1, rfl⟩; have K1 : Hid (Fm w [(w.heap.size, #[.int .u16 (v : Int)], 27), (w.heap.size + 1, o6 od0, 30)] y1) := hF.out.below hb1))
  refine ret_two (v := .bool false) rtO rfl rfl rfl (K3.out.bx 1 _ _ _ rfl) rfl rfl ⟨by rw [o6_od0], K3.out.low⟩
theorem dec_yes (w : World) (v i : Nat) (hv : Hid (v < 65536)) (hd : Hid (decR v = some i)) : Calls Tryd.prog 6 #[.int .u16 (v : Int)] w fun e w' => e = .returned (.tuple #[.agg (o6 (ordR i v)), .bool true]) ∧ Below w.heap.size w w' := by
  have hF : Hid (Fm w [(w.heap.size, #[.int .u16 (v : Int)], 27), (w.heap.size + 1, o6 od0, 30)] ((w.alloc (.cells #[.int .u16 (v : Int)] 27)).alloc (.cells #[.int .u8 0, .int .u8 0, .int .u8 0, .int .u8 0, .int .u8 0, .int .u16 0] 30))) := Fm.two w _ _ _ _
  have hf := fun (z : World) (h : z.cell? ⟨w.heap.size, 0, none⟩ = some (.int .u16 (v : Int))) => (find_dec z w.heap.size v hv.out h).mono (fun e y (x : FdE z (takR · v) e y) => x.yes hd.out)
  go_enter Tryd.func6, Tryd.ntmps6
  go_wp2_with (first
    | ((with_reducible refine gen_world (y2.alloc (.cells #[.int .u8 (op : Int), .int .u8 0, .int .u8 0, .int .u8 0, .int .u8 0, .int .u16 0] 30)) (fun x => Fm w [(w.heap.size, #[.int .u16 (v : Int)], 27), (w.heap.size + 1, o6 od0, 30), (y1.heap.size, #[.int .u8 (op : Int), .int .u16 (wd : Int), .string nm, .slice S n n], 51), (y2.heap.size, o6 ⟨op, 0, 0, 0, 0, 0⟩, 30)] x ∧ Below y1.heap.size y1 x) ?_ ?_); exact ⟨K2.out.1.new _ _, K2.out.2.trans ((below1 y2 _).mono K2.out.2.size)⟩; intro y3 K3; have d3 := (K3.out.1.bx 2 _ _ _ rfl).c 3 (.slice S n n) rfl; have hL3 : Hid (RwLit y3 i op wd nm S n) := hL.out.below K3.out.2)
    | ((with_reducible refine gen_world (y1.alloc (.cells #[.int .u8 (op : Int), .int .u16 (wd : Int), .string nm, .slice S n n] 51)) (fun x => Fm w [(w.heap.size, #[.int .u16 (v : Int)], 27), (w.heap.size + 1, o6 od0, 30), (y1.heap.size, #[.int .u8 (op : Int), .int .u16 (wd : Int), .string nm, .slice S n n], 51)] x ∧ Below y1.heap.size y1 x) ?_ ?_); exact ⟨K1.out.new _ _, below1 y1 _⟩; intro y2 K2; have d0 := (K2.out.1.bx 2 _ _ _ rfl).c 0 (.int .u8 (op : Int)) rfl)
    | (go_at_call 17; refine (hf _ ((hF.out.bx 0 _ _ _ rfl).c 0 _ rfl)).mono ?_; rintro e y1 ⟨hb1, op, wd, nm, S, n, rfl, hL⟩; have hL : Hid (RwLit y1 i op wd nm S n) := hL; have K1 : Hid (Fm w [(w.heap.size, #[.int .u16 (v : Int)], 27), (w.heap.size + 1, o6 od0, 30)] y1) := hF.out.below hb1))
  clear hF hf
  have hn : Hid ((fsR i).length = n) := hL.out.2.2.2.2.1
  have hi : Hid (i < 31) := hL.out.1
  have hop : Hid (op = opR i) := hL.out.2.1
  have h3 : (n : Int) ≤ 3 := by rw [← hn.out]; exact fs_len i hi.out
  clear d3
  go_loopw [23] (fun j wz => ∃ p : Nat, p ≤ n ∧ j = .int .i64 (p : Int) ∧ Hid (Fm w [(w.heap.size, #[.int .u16 (v : Int)], 27), (w.heap.size + 1, o6 od0, 30), (y1.heap.size, #[.int .u8 (op : Int), .int .u16 (wd : Int), .string nm, .slice S n n], 51), (y2.heap.size, o6 (ordF ⟨op, 0, 0, 0, 0, 0⟩ v ((fsR i).take p)), 30)] wz) ∧ Hid (FsL wz S (fsR i))) (fun j _ => (n - intOf j).toNat)
  case atStart => exact ⟨0, by omega, rfl, K3.out.1, hL3.out.2.2.2.2.2⟩
  case round =>
    obtain ⟨p, hpn, rfl, K, hl⟩ := hrel
    by_cases hlt : p < n
    · obtain ⟨k, hpk⟩ : ∃ k, (fsR i)[p]? = some k := ⟨_, List.getElem?_eq_getElem (by rw [hn.out]; exact hlt)⟩
      have hk5 : Hid (k < 5) := fs_lt i hi.out k (List.mem_of_getElem? hpk)
      obtain ⟨gb, ob, hS, hr⟩ := hl.out.lies p k hpk
      subst hS
      have hr' : Hid (wr.rangeAt gb (ob + p * 5) (fdC k)) := hr
      have hix := fun w' => idxP (P := Tryd.prog) (t := 49) (e := 59) (s := 5) (g := gb) (off := ob) (len := n) (cap := n) Tryd.underlying49 (by kernel_rfl) .i64 p w' hlt
      have hand : bits .and .u16 (v : Int) ((mskK k : Nat) : Int) = ((v &&& mskK k : Nat) : Int) := andN v (mskK k) hv.out (mskK_lt k hk5.out)
      have hshr : Op.shift .shr .u16 ((v &&& mskK k : Nat) : Int) .i64 ((belK k : Nat) : Int) = pure (.int .u16 ((fldV k v : Nat) : Int)) := shrN _ _ (belK_le k)
      have hfv : Hid (fldV k v < 65536) := Nat.lt_of_lt_of_le (fldV_lt k v hk5.out) (by rcases (show k = 0 ∨ k = 1 ∨ k = 2 ∨ k = 3 ∨ k = 4 by have := hk5.out; omega) with rfl | rfl | rfl | rfl | rfl <;> decide)
      have hpi : (p : Int) < n := by omega
      obtain ⟨OO, hO⟩ : ∃ OO, Hid (OO = ordF ⟨op, 0, 0, 0, 0, 0⟩ v ((fsR i).take p)) := ⟨_, (rfl : _ = ordF ⟨op, 0, 0, 0, 0, 0⟩ v ((fsR i).take p))⟩
      rw [← hO.out] at K
      have fin : Hid (putK k OO (fldV k v) = ordF ⟨op, 0, 0, 0, 0, 0⟩ v ((fsR i).take (p + 1))) := by show _ = _; rw [ordF_take _ v (fsR i) p k hpk, ← hO.out]
      have hm := fun z => mask_any k hk5.out z
      have hw := fun z => with_any k hk5.out OO (fldV k v) hfv.out z
      have ew := ent_wt k hk5.out
      have hlt' : Hid (p < n) := hlt
      generalize mskK k = mk at hand hshr hm
      generalize (v &&& mk) = am at hand hshr
      generalize fldV k v = fv at hshr hfv fin hw
      generalize putK k OO fv = O2 at fin hw
      clear hlt hr hpk hO
      go_wp2_with (first
        | ((with_reducible refine at_st rtF wr.heap.size #[.string ⟨#[]⟩, .int .i64 0, .int .i64 0, .nilFunc, .nilFunc] (fdC k).toArray ?_ ?_ ?_ ?_ (.tmp 8) (.tmp 26) ?_ ?_ ?_ ?_ ?_); exact M.out.1.bx 4 _ _ _ rfl; rfl; rfl; simp [fdC, Value.oneCell']; rfl; rfl; rfl; rfl; intro z2 hw2; have K2 : Hid (Fm w [(w.heap.size, #[.int .u16 (v : Int)], 27), (w.heap.size + 1, o6 od0, 30), (y1.heap.size, #[.int .u8 (op : Int), .int .u16 (wd : Int), .string nm, .slice (some ⟨gb, ob, none⟩) n n], 51), (y2.heap.size, o6 OO, 30), (wr.heap.size, (fdC k).toArray, 59)] z2) := M.out.1.put 4 _ _ _ _ rfl hw2.out; have hl2 : Hid (FsL z2 (some ⟨gb, ob, none⟩) (fsR i)) := hl.out.below (M.out.2.trans (hw2.out.2.1 _ (Nat.le_refl _))))
        | ((with_reducible refine gen_world (wr.alloc (.cells #[.string ⟨#[]⟩, .int .i64 0, .int .i64 0, .nilFunc, .nilFunc] 59)) (fun x => Fm w [(w.heap.size, #[.int .u16 (v : Int)], 27), (w.heap.size + 1, o6 od0, 30), (y1.heap.size, #[.int .u8 (op : Int), .int .u16 (wd : Int), .string nm, .slice (some ⟨gb, ob, none⟩) n n], 51), (y2.heap.size, o6 OO, 30), (wr.heap.size, #[.string ⟨#[]⟩, .int .i64 0, .int .i64 0, .nilFunc, .nilFunc], 59)] x ∧ Below wr.heap.size wr x) ?_ ?_); exact ⟨K.out.new _ _, below1 wr _⟩; intro z M)
        | ((with_reducible refine at_loadm rtF gb (ob + p * 5) (fdC k).toArray ?_ ?_ (.tmp 25) ?_ ?_ ?_ ?_); exact hr'.out; rfl; rfl; rfl; rfl))
      refine region_class_tail 10 (fun x => Fm w [(w.heap.size, #[.int .u16 (v : Int)], 27), (w.heap.size + 1, o6 od0, 30), (y1.heap.size, #[.int .u8 (op : Int), .int .u16 (wd : Int), .string nm, .slice (some ⟨gb, ob, none⟩) n n], 51), (y2.heap.size, o6 OO, 30), (wr.heap.size, (fdC k).toArray, 59)] x ∧ FsL x (some ⟨gb, ob, none⟩) (fsR i)) (by kernel_rfl) (by kernel_rfl) ⟨K2.out.drew, hl2.out.below ⟨rfl, rfl, rfl, Nat.le_refl _, fun _ _ => rfl⟩⟩ ?_
      simp only [List.take_succ_cons, List.take_zero, List.drop_succ_cons, List.drop_zero]
      with_reducible refine quiet_one (.pointer (some ⟨wr.heap.size, 4, none⟩)) ?_ ?_ ?_
      · kernel_rfl
      · intro u hy
        go_simp
      with_reducible refine quiet_one (.func (.func (wtF k)) #[] #[]) ?_ ?_ ?_
      · kernel_rfl
      · intro u hy
        have x := (hy.1.bx 4 _ _ _ rfl).c 4 (.func (.func (wtF k)) #[] #[]) rfl
        go_simp
      with_reducible refine quiet_one (.agg (o6 OO)) ?_ ?_ ?_
      · kernel_rfl
      · intro u hy
        exact q_load rtO y2.heap.size (o6 OO) (fun u' h' => h'.1.bx 3 _ _ _ rfl) rfl (.tmp 6) rfl rfl u hy
      with_reducible refine quiet_one (.int .u16 (v : Int)) ?_ ?_ ?_
      · kernel_rfl
      · intro u hy
        have x := (hy.1.bx 0 _ _ _ rfl).c 0 (.int .u16 (v : Int)) rfl
        go_simp
      with_reducible refine quiet_one (.agg (fdC k).toArray) ?_ ?_ ?_
      · kernel_rfl
      · intro u hy
        exact q_load rtF wr.heap.size (fdC k).toArray (fun u' h' => h'.1.bx 4 _ _ _ rfl) rfl (.tmp 8) rfl rfl u hy
      with_reducible refine quiet_one (.int .u16 (mk : Int)) ?_ ?_ ?_
      · kernel_rfl
      · intro u hy
        go_simp
        exact (hm u).mono fun e u' h' => ⟨h'.1, hy.1.below h'.2, hy.2.below h'.2⟩
      with_reducible refine quiet_one (.int .u16 (am : Int)) ?_ ?_ ?_
      · kernel_rfl
      · intro u hy
        go_simp
      with_reducible refine quiet_one (.pointer (some ⟨wr.heap.size, 2, none⟩)) ?_ ?_ ?_
      · kernel_rfl
      · intro u hy
        go_simp
      with_reducible refine quiet_one (.int .i64 (belK k : Int)) ?_ ?_ ?_
      · kernel_rfl
      · intro u hy
        have x := (hy.1.bx 4 _ _ _ rfl).c 2 (.int .i64 (belK k : Int)) rfl
        go_simp
      with_reducible refine quiet_one (.int .u16 (fv : Int)) ?_ ?_ ?_
      · kernel_rfl
      · intro u hy
        go_simp
      refine wpQuiet_nil ?_
      intro z3 K3
      have hl3 : Hid (FsL z3 (some ⟨gb, ob, none⟩) (fsR i)) := K3.2
      have K3 : Hid (Fm w [(w.heap.size, #[.int .u16 (v : Int)], 27), (w.heap.size + 1, o6 od0, 30), (y1.heap.size, #[.int .u8 (op : Int), .int .u16 (wd : Int), .string nm, .slice (some ⟨gb, ob, none⟩) n n], 51), (y2.heap.size, o6 OO, 30), (wr.heap.size, (fdC k).toArray, 59)] z3) := K3.1
      go_simp
      go_wp2_with (first
        | ((with_reducible refine at_st rtO y2.heap.size (o6 OO) (o6 O2) ?_ ?_ ?_ ?_ (.tmp 6) (.tmp 37) ?_ ?_ ?_ ?_ ?_); exact K4.out.bx 3 _ _ _ rfl; rfl; rfl; exact o6_one _; rfl; rfl; rfl; rfl; intro z5 hw5; have K5 : Hid (Fm w [(w.heap.size, #[.int .u16 (v : Int)], 27), (w.heap.size + 1, o6 od0, 30), (y1.heap.size, #[.int .u8 (op : Int), .int .u16 (wd : Int), .string nm, .slice (some ⟨gb, ob, none⟩) n n], 51), (y2.heap.size, o6 O2, 30), (wr.heap.size, (fdC k).toArray, 59)] z5) := K4.out.put 3 _ _ _ _ rfl hw5.out)
        | ((with_reducible show Calls _ (wtF k) _ _ _); refine (hw _).mono ?_; rintro e z4 ⟨rfl, hb4⟩; have K4 : Hid (Fm w [(w.heap.size, #[.int .u16 (v : Int)], 27), (w.heap.size + 1, o6 od0, 30), (y1.heap.size, #[.int .u8 (op : Int), .int .u16 (wd : Int), .string nm, .slice (some ⟨gb, ob, none⟩) n n], 51), (y2.heap.size, o6 OO, 30), (wr.heap.size, (fdC k).toArray, 59)] z4) := K3.out.below hb4; have hl4 : Hid (FsL z4 (some ⟨gb, ob, none⟩) (fsR i)) := hl3.out.below hb4))
      go_roundw
      case rel => exact ⟨p + 1, by have := hlt'.out; omega, by simp, by rw [← fin.out]; exact K5.out.pre (l' := [_]), hl4.out.off (K4.out.bx 3 _ _ _ rfl) (by decide) hw5.out.2.2⟩
      case measure => have := hlt'.out; simp [intOf]; omega
    · have hpe : p = n := by omega
      subst hpe
      have fin : Hid (ordF ⟨op, 0, 0, 0, 0, 0⟩ v ((fsR i).take p) = ordR i v) := by
        show _ = _
        rw [List.take_of_length_le (by rw [hn.out]; exact Nat.le_refl _), hop.out]
        rfl
      rw [fin.out] at K
      go_wp2_with (first
        | ((with_reducible refine at_load rtO y2.heap.size (o6 (ordR i v)) ?_ ?_ (.tmp 6) ?_ ?_ ?_ ?_); exact K.out.bx 3 _ _ _ rfl; rfl; rfl; rfl; rfl)
        | ((with_reducible refine at_st rtO (w.heap.size + 1) (o6 od0) (o6 (ordR i v)) ?_ ?_ ?_ ?_ (.tmp 2) (.tmp 39) ?_ ?_ ?_ ?_ ?_); exact K.out.bx 1 _ _ _ rfl; rfl; rfl; exact o6_one _; rfl; rfl; rfl; rfl; intro z5 hw5; have K5 : Hid (Fm w [(w.heap.size, #[.int .u16 (v : Int)], 27), (w.heap.size + 1, o6 (ordR i v), 30), (y1.heap.size, #[.int .u8 (op : Int), .int .u16 (wd : Int), .string nm, .slice S p p], 51), (y2.heap.size, o6 (ordR i v), 30)] z5) := K.out.put 1 _ _ _ _ rfl hw5.out))
      refine ret_two (v := .bool true) rtO rfl rfl rfl (K5.out.bx 1 _ _ _ rfl) rfl rfl ⟨rfl, K5.out.low⟩
theorem decode_any (w : World) (v : Nat) (hv : v < 65536) : Calls Tryd.prog 6 #[.int .u16 (v : Int)] w fun e w' => e = .returned (.tuple #[.agg (o6 (decO v)), .bool (decB v)]) ∧ Below w.heap.size w w' := by
  unfold decO decB
  rcases hd : decR v with _ | i
  · exact dec_no w v hv hd
  · exact dec_yes w v i hv hd
end Go.Proofs.YthaijjehplomfaaDoor
