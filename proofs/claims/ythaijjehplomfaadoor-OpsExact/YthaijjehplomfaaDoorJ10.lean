/- An order's line: Print. -/
import Derived.Test.YthaijjehplomfaaDoorJ9
namespace Go.Proofs.YthaijjehplomfaaDoor
open Go Go.RowKit
set_option linter.unusedVariables false
set_option maxHeartbeats 1000000
set_option maxRecDepth 20000

theorem cat_run (P : Program) (a b : ByteArray) (w : World) (h : a.size + b.size < 1000) : (Op.stringOp .add a b).run P w = .ok (.string (a ++ b)) w := by
  simp [Op.stringOp, go_sem]
  omega
/-- A field, and fields, as they stand in a line. -/
def fldB (k : Nat) (o : Od) : ByteArray := ⟨#[32]⟩ ++ ⟨(ledK k).toArray⟩ ++ hexOf (getK k o : Nat) (digK k : Nat)
def linB (s : ByteArray) (o : Od) (fs : List Nat) : ByteArray := fs.foldl (fun s k => s ++ fldB k o) s
theorem linB_take (s : ByteArray) (o : Od) (fs : List Nat) (p k : Nat) (h : fs[p]? = some k) : linB s o (fs.take (p + 1)) = linB s o (fs.take p) ++ fldB k o := by
  rw [List.take_add_one, h]
  simp [linB]
theorem hexOf_sz (n d : Int) : (hexOf n d).size ≤ 8 := by
  unfold hexOf
  split
  · rename_i h
    have : (hexS d.toNat n.toNat).size = d.toNat := by
      show (hexL d.toNat n.toNat).toArray.size = _
      simp [hexL_len]
    omega
  · decide
theorem led_sz (k : Nat) : (⟨(ledK k).toArray⟩ : ByteArray).size ≤ 1 := by
  unfold ledK
  (repeat' split) <;> decide
theorem fldB_sz (k : Nat) (o : Od) : (fldB k o).size ≤ 10 := by
  unfold fldB
  rw [ByteArray.size_append, ByteArray.size_append]
  have h1 := hexOf_sz (getK k o : Nat) (digK k : Nat)
  have h2 := led_sz k
  have h3 : (⟨#[32]⟩ : ByteArray).size = 1 := rfl
  omega
theorem linB_sz (s : ByteArray) (o : Od) (fs : List Nat) : (linB s o fs).size ≤ s.size + 10 * fs.length := by
  induction fs generalizing s with
  | nil => exact Nat.le_refl _
  | cons k fs ih =>
    have := ih (s ++ fldB k o)
    rw [ByteArray.size_append] at this
    have h := fldB_sz k o
    show (linB (s ++ fldB k o) o fs).size ≤ _
    rw [List.length_cons]
    omega
def nmB (i : Nat) : ByteArray := ⟨(nmR i).toArray⟩
theorem nmB_sz (i : Nat) (hi : i < 31) : (nmB i).size ≤ 10 := by
  show (nmR i).toArray.size ≤ 10
  rw [List.size_toArray]
  exact (nm_bnd i hi).2.2
/-- An order's line. -/
def lineB (o : Od) : ByteArray := match rowO o with | some i => linB (nmB i) o (fsR i) | none => ⟨#[]⟩
theorem print_no (w : World) (o : Od) (ho : OdR o) (he : encW o = none) : Calls Tryd.prog 10 #[.agg (o6 o)] w fun e w' => e = .returned (.tuple #[.string ⟨#[]⟩, .int .i64 160]) ∧ Below w.heap.size w w' := by
  have hF : Hid (Fm w [(w.heap.size, o6 o, 30)] (w.alloc (.cells (o6 o) 30))) := Fm.one w _ _
  have hf := fun z => encode_any z o ho
  rw [he] at hf
  simp only [Option.getD_none, Option.isSome_none, Bool.false_eq_true, if_false] at hf
  clear ho he
  go_enter Tryd.func10, Tryd.ntmps10
  go_wp2_with (first
    | (go_at_call 8; refine (hf _).mono ?_; rintro e y1 ⟨rfl, hb1⟩; have K1 : Hid (Fm w [(w.heap.size, o6 o, 30)] y1) := hF'.out.below hb1)
    | ((with_reducible refine at_load rtO w.heap.size (o6 o) ?_ ?_ (.tmp 1) ?_ ?_ ?_ ?_); exact hF'.out.bx 0 _ _ _ rfl; rfl; rfl; rfl; rfl)
    | ((with_reducible refine gen_world (w.alloc (.cells (o6 o) 30)) (Fm w [(w.heap.size, o6 o, 30)]) hF.out ?_); intro y0 hF'))
  go_ret2
  exact ⟨rfl, K1.out.low⟩
theorem print_yes (w : World) (o : Od) (ho : Hid (OdR o)) (x : Nat) (he : encW o = some x) (i : Nat) (hr : rowO o = some i) : Calls Tryd.prog 10 #[.agg (o6 o)] w fun e w' => e = .returned (.tuple #[.string (linB (nmB i) o (fsR i)), .int .i64 0]) ∧ Below w.heap.size w w' := by
  have hF : Hid (Fm w [(w.heap.size, o6 o, 30)] (w.alloc (.cells (o6 o) 30))) := Fm.one w _ _
  have hf := fun z => encode_any z o ho.out
  rw [he] at hf
  simp only [Option.getD_some, Option.isSome_some, if_true] at hf
  have hg := fun z => rowOf_any o z
  rw [hr] at hg
  obtain ⟨fin, hfin⟩ : ∃ fin, Hid (fin = linB (nmB i) o (fsR i)) := ⟨_, (rfl : _ = linB (nmB i) o (fsR i))⟩
  rw [← hfin.out]
  clear he hr
  go_enter Tryd.func10, Tryd.ntmps10
  go_wp2_with (first
    | ((with_reducible refine gen_world (y2.alloc (.cells #[.int .u8 (op : Int), .int .u16 (wd : Int), .string nm, .slice S n n] 51)) (fun x => Fm w [(w.heap.size, o6 o, 30), (y2.heap.size, #[.int .u8 (op : Int), .int .u16 (wd : Int), .string nm, .slice S n n], 51)] x ∧ Below y2.heap.size y2 x) ?_ ?_); exact ⟨K2.out.new _ _, below1 y2 _⟩; intro y3 K3; have d2 := (K3.out.1.bx 1 _ _ _ rfl).c 2 (.string nm) rfl; have d3 := (K3.out.1.bx 1 _ _ _ rfl).c 3 (.slice S n n) rfl; have hL3 : Hid (RwLit y3 i op wd nm S n) := hL.out.below K3.out.2)
    | (go_at_call 24; refine (hg _).mono ?_; rintro e y2 ⟨hb2, op, wd, nm, S, n, rfl, hL⟩; have hL : Hid (RwLit y2 i op wd nm S n) := hL; have K2 : Hid (Fm w [(w.heap.size, o6 o, 30)] y2) := K1.out.below hb2)
    | ((with_reducible refine at_load rtO w.heap.size (o6 o) ?_ ?_ (.tmp 1) ?_ ?_ ?_ ?_); exact K1.out.bx 0 _ _ _ rfl; rfl; rfl; rfl; rfl)
    | (go_at_call 8; refine (hf _).mono ?_; rintro e y1 ⟨rfl, hb1⟩; have K1 : Hid (Fm w [(w.heap.size, o6 o, 30)] y1) := hF'.out.below hb1)
    | ((with_reducible refine at_load rtO w.heap.size (o6 o) ?_ ?_ (.tmp 1) ?_ ?_ ?_ ?_); exact hF'.out.bx 0 _ _ _ rfl; rfl; rfl; rfl; rfl)
    | ((with_reducible refine gen_world (w.alloc (.cells (o6 o) 30)) (Fm w [(w.heap.size, o6 o, 30)]) hF.out ?_); intro y0 hF'))
  clear hF hf hg
  have hn : Hid ((fsR i).length = n) := hL.out.2.2.2.2.1
  have hi : Hid (i < 31) := hL.out.1
  have hnm : Hid (nm = nmB i) := hL.out.2.2.2.1
  have h3 : (n : Int) ≤ 3 := by rw [← hn.out]; exact fs_len i hi.out
  clear d2 d3
  go_loopw [29, 8] (fun j x wz => ∃ (p : Nat) (s : ByteArray), p ≤ n ∧ j = .int .i64 (p : Int) ∧ x = .string s ∧ Hid (s = linB nm o ((fsR i).take p)) ∧ Hid (Fm w [(w.heap.size, o6 o, 30), (y2.heap.size, #[.int .u8 (op : Int), .int .u16 (wd : Int), .string nm, .slice S n n], 51)] wz) ∧ Hid (FsL wz S (fsR i))) (fun j _ _ => (n - intOf j).toNat)
  case atStart => exact ⟨0, nm, by omega, rfl, rfl, (rfl : nm = nm), K3.out.1, hL3.out.2.2.2.2.2⟩
  case round =>
    obtain ⟨p, s, hpn, rfl, rfl, hs, K, hl⟩ := hrel
    by_cases hlt : p < n
    · obtain ⟨k, hpk⟩ : ∃ k, (fsR i)[p]? = some k := ⟨_, List.getElem?_eq_getElem (by rw [hn.out]; exact hlt)⟩
      have hk5 : Hid (k < 5) := fs_lt i hi.out k (List.mem_of_getElem? hpk)
      obtain ⟨gb, ob, hS, hr⟩ := hl.out.lies p k hpk
      subst hS
      have hr' : Hid (wr.rangeAt gb (ob + p * 5) (fdC k)) := hr
      have hix := fun w' => idxP (P := Tryd.prog) (t := 49) (e := 59) (s := 5) (g := gb) (off := ob) (len := n) (cap := n) Tryd.underlying49 (by kernel_rfl) .i64 p w' hlt
      have hpi : (p : Int) < n := by omega
      have fin' : Hid (s ++ fldB k o = linB nm o ((fsR i).take (p + 1))) := by show _ = _; rw [linB_take nm o (fsR i) p k hpk, ← hs.out]
      have z1 : s.size ≤ 40 := by
        rw [hs.out, hnm.out]
        have h1 := linB_sz (nmB i) o ((fsR i).take p)
        have h2 := nmB_sz i hi.out
        have h4 : ((fsR i).take p).length ≤ 3 := by rw [List.length_take]; omega
        omega
      have z2 := led_sz k
      have z3 := hexOf_sz (getK k o : Nat) (digK k : Nat)
      have z4 : (⟨#[32]⟩ : ByteArray).size = 1 := rfl
      have cat1 := fun z => cat_run Tryd.prog ⟨#[32]⟩ ⟨(ledK k).toArray⟩ z (by omega)
      have cat2 := fun z => cat_run Tryd.prog (⟨#[32]⟩ ++ ⟨(ledK k).toArray⟩) (hexOf (getK k o : Nat) (digK k : Nat)) z (by rw [ByteArray.size_append]; omega)
      have cat3 := fun z => cat_run Tryd.prog s (fldB k o) z (by have := fldB_sz k o; omega)
      have hm := fun z => of_any k hk5.out o ho.out z
      have hH := fun z => hex_any (getK k o : Nat) (digK k : Nat) z (by have := getK_lt k o ho.out; omega)
      have hcv : ∀ z, (convert 27 3 (.int .u16 ((getK k o : Nat) : Int))).run Tryd.prog z = .ok (.int .i64 ((getK k o : Nat) : Int)) z := fun z => by
        have hg := getK_lt k o ho.out
        go_simp
        rw [IntKind.wrap_i64]
        omega
      have ew := ent_of k hk5.out
      have hlt' : Hid (p < n) := hlt
      have e2 : (⟨#[32]⟩ ++ ⟨(ledK k).toArray⟩ : ByteArray) ++ hexOf (getK k o : Nat) (digK k : Nat) = fldB k o := rfl
      rw [e2] at cat2
      clear z1 z2 z3 z4 e2
      generalize fldB k o = FB at cat2 cat3 fin'
      generalize hexOf (getK k o : Nat) (digK k : Nat) = HB at cat2 hH
      generalize getK k o = gv at hm hH hcv
      generalize (s ++ FB) = s2 at cat3 fin'
      obtain ⟨ld, hld⟩ : ∃ ld : ByteArray, Hid ((⟨(ledK k).toArray⟩ : ByteArray) = ld) := ⟨_, (rfl : (⟨(ledK k).toArray⟩ : ByteArray) = _)⟩
      rw [hld.out] at cat1 cat2
      generalize (⟨#[32]⟩ ++ ld : ByteArray) = LB at cat1 cat2
      have c0 : Hid ((fdC k).toArray[0]? = some (.string ld)) := by show _ = _; rw [← hld.out]; rfl
      clear hlt hr hpk hld
      go_wp2_with (first
        | ((with_reducible refine at_st rtF wr.heap.size #[.string ⟨#[]⟩, .int .i64 0, .int .i64 0, .nilFunc, .nilFunc] (fdC k).toArray ?_ ?_ ?_ ?_ (.tmp 10) (.tmp 32) ?_ ?_ ?_ ?_ ?_); exact M.out.1.bx 2 _ _ _ rfl; rfl; rfl; simp [fdC, Value.oneCell']; rfl; rfl; rfl; rfl; intro z2 hw2; have K2 : Hid (Fm w [(w.heap.size, o6 o, 30), (y2.heap.size, #[.int .u8 (op : Int), .int .u16 (wd : Int), .string nm, .slice (some ⟨gb, ob, none⟩) n n], 51), (wr.heap.size, (fdC k).toArray, 59)] z2) := M.out.1.put 2 _ _ _ _ rfl hw2.out; have hl2 : Hid (FsL z2 (some ⟨gb, ob, none⟩) (fsR i)) := hl.out.below (M.out.2.trans (hw2.out.2.1 _ (Nat.le_refl _))))
        | ((with_reducible refine gen_world (wr.alloc (.cells #[.string ⟨#[]⟩, .int .i64 0, .int .i64 0, .nilFunc, .nilFunc] 59)) (fun x => Fm w [(w.heap.size, o6 o, 30), (y2.heap.size, #[.int .u8 (op : Int), .int .u16 (wd : Int), .string nm, .slice (some ⟨gb, ob, none⟩) n n], 51), (wr.heap.size, #[.string ⟨#[]⟩, .int .i64 0, .int .i64 0, .nilFunc, .nilFunc], 59)] x ∧ Below wr.heap.size wr x) ?_ ?_); exact ⟨K.out.new _ _, below1 wr _⟩; intro z M)
        | ((with_reducible refine at_loadm rtF gb (ob + p * 5) (fdC k).toArray ?_ ?_ (.tmp 31) ?_ ?_ ?_ ?_); exact hr'.out; rfl; rfl; rfl; rfl))
      refine region_class_tail 14 (fun x => Fm w [(w.heap.size, o6 o, 30), (y2.heap.size, #[.int .u8 (op : Int), .int .u16 (wd : Int), .string nm, .slice (some ⟨gb, ob, none⟩) n n], 51), (wr.heap.size, (fdC k).toArray, 59)] x ∧ FsL x (some ⟨gb, ob, none⟩) (fsR i)) (by kernel_rfl) (by kernel_rfl) ⟨K2.out.drew, hl2.out.below ⟨rfl, rfl, rfl, Nat.le_refl _, fun _ _ => rfl⟩⟩ ?_
      simp only [List.take_succ_cons, List.take_zero, List.drop_succ_cons, List.drop_zero]
      with_reducible refine quiet_one (.string s) ?_ ?_ ?_
      · kernel_rfl
      · intro u hy
        go_simp
      with_reducible refine quiet_one (.pointer (some ⟨wr.heap.size, 0, none⟩)) ?_ ?_ ?_
      · kernel_rfl
      · intro u hy
        go_simp
      with_reducible refine quiet_one (.string ld) ?_ ?_ ?_
      · kernel_rfl
      · intro u hy
        have x := (hy.1.bx 2 _ _ _ rfl).c 0 (.string ld) c0.out
        go_simp
      with_reducible refine quiet_one (.string LB) ?_ ?_ ?_
      · kernel_rfl
      · intro u hy
        go_simp
      with_reducible refine quiet_one (.pointer (some ⟨wr.heap.size, 3, none⟩)) ?_ ?_ ?_
      · kernel_rfl
      · intro u hy
        go_simp
      with_reducible refine quiet_one (.func (.func (ofF k)) #[] #[]) ?_ ?_ ?_
      · kernel_rfl
      · intro u hy
        have x := (hy.1.bx 2 _ _ _ rfl).c 3 (.func (.func (ofF k)) #[] #[]) rfl
        go_simp
      with_reducible refine quiet_one (.agg (o6 o)) ?_ ?_ ?_
      · kernel_rfl
      · intro u hy
        generalize ha : Act.put _ _ _ = a
        have hx : a.eval (.tmp 1) = .pointer (some ⟨w.heap.size, 0, none⟩) := by rw [← ha]; go_simp
        clear ha
        exact q_load rtO w.heap.size (o6 o) (fun u' h' => h'.1.bx 0 _ _ _ rfl) rfl (.tmp 1) rfl hx u hy
      with_reducible refine quiet_one (.int .u16 (gv : Int)) ?_ ?_ ?_
      · kernel_rfl
      · intro u hy
        go_simp
        exact (hm u).mono fun e u' h' => ⟨h'.1, hy.1.below h'.2, hy.2.below h'.2⟩
      with_reducible refine quiet_one (.int .i64 (gv : Int)) ?_ ?_ ?_
      · kernel_rfl
      · intro u hy
        go_simp
      with_reducible refine quiet_one (.pointer (some ⟨wr.heap.size, 1, none⟩)) ?_ ?_ ?_
      · kernel_rfl
      · intro u hy
        go_simp
      with_reducible refine quiet_one (.int .i64 (digK k : Int)) ?_ ?_ ?_
      · kernel_rfl
      · intro u hy
        have x := (hy.1.bx 2 _ _ _ rfl).c 1 (.int .i64 (digK k : Int)) rfl
        go_simp
      with_reducible refine quiet_one (.string HB) ?_ ?_ ?_
      · kernel_rfl
      · intro u hy
        go_simp
        exact (hH u).mono fun e u' h' => ⟨h'.1, hy.1.below h'.2, hy.2.below h'.2⟩
      with_reducible refine quiet_one (.string FB) ?_ ?_ ?_
      · kernel_rfl
      · intro u hy
        go_simp
      with_reducible refine quiet_one (.string s2) ?_ ?_ ?_
      · kernel_rfl
      · intro u hy
        go_simp
      refine wpQuiet_nil ?_
      intro z3 K3
      have hl3 : Hid (FsL z3 (some ⟨gb, ob, none⟩) (fsR i)) := K3.2
      have K3 : Hid (Fm w [(w.heap.size, o6 o, 30), (y2.heap.size, #[.int .u8 (op : Int), .int .u16 (wd : Int), .string nm, .slice (some ⟨gb, ob, none⟩) n n], 51), (wr.heap.size, (fdC k).toArray, 59)] z3) := K3.1
      go_simp
      go_wp2
      go_roundw
      case rel => exact ⟨p + 1, s2, by have := hlt'.out; omega, by simp, rfl, fin'.out, K3.out.pre (l' := [_]), hl3⟩
      case measure => have := hlt'.out; simp [intOf]; omega
    · have hpe : p = n := by omega
      have es : Hid (s = fin) := by
        show _ = _
        rw [hs.out, hpe, List.take_of_length_le (by rw [hn.out]; exact Nat.le_refl _), hfin.out, hnm.out]
      have es' := es.out
      subst es'
      subst hpe
      go_wp2
      go_ret2
      exact ⟨rfl, K.out.low⟩
/-- Print at any order. -/
theorem print_any (w : World) (o : Od) (ho : OdR o) : Calls Tryd.prog 10 #[.agg (o6 o)] w fun e w' => e = .returned (.tuple #[.string (if (encW o).isSome then lineB o else ⟨#[]⟩), .int .i64 (if (encW o).isSome then 0 else 160)]) ∧ Below w.heap.size w w' := by
  rcases he : encW o with _ | x
  · exact print_no w o ho he
  · obtain ⟨i, h1, h2, _⟩ := enc_row he
    have := print_yes w o ho x he i h2
    unfold lineB
    rw [h2]
    exact this
end Go.Proofs.YthaijjehplomfaaDoor
