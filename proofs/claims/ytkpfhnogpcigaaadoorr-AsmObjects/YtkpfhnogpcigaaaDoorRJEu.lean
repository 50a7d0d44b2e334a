/- The statements' own: an object copied. -/
import Derived.Test.YtkpfhnogpcigaaaDoorRJEy
import Derived.Deep.RegionHeld3
namespace Go.Proofs.YtkpfhnogpcigaaaDoorR
open Go Go.RowKit
set_option linter.unusedVariables false
set_option maxHeartbeats 6000000
set_option maxRecDepth 20000

theorem famH {P : Program} {md : Region.Mode} {ops : Array Oper} {Q : Exit → Act → World → Prop} {S : World → Prop} {fuel : Nat} {listed : Array Bool} {a : Act} {w : World} (h : ∀ W : Nat → Array Bool → Act → World → Prop, W = wpAnyH P md ops Q S → W fuel listed a w) : wpAnyH P md ops Q S fuel listed a w := h _ rfl
theorem cast4 {W : Nat → Array Bool → Act → World → Prop} {f f' : Nat} {l l' : Array Bool} {a a' : Act} {w : World} (h : W f l a w) (e1 : f' = f) (e2 : l' = l) (e3 : a' = a) : W f' l' a' w := by
  subst e1; subst e2; subst e3; exact h
theorem fo_back {w y z : World} {ob : Oo} {b : Nat} {v1 v2 v3 u1 u2 u3 : Value} {v : Value} (h : Fm w (F3 w ob b v1 v2 v3) y) (k : Fm w (F3 w ob b u1 u2 u3) (z.setCell ⟨b, 0, none⟩ v)) : Fm w (Fo w ob) z := by
  have hb := k.ge 2 _ _ _ rfl
  have h0 : w.heap.size ≠ b := fun e => by have := k.ne 0 2 b _ _ _ _ (by rw [← e]; rfl) rfl; omega
  have h1 : w.heap.size + 1 ≠ b := fun e => by have := k.ne 1 2 b _ _ _ _ (by rw [← e]; rfl) rfl; omega
  have hk : ∀ q, q ≠ b → z.heap[q]? = (z.setCell ⟨b, 0, none⟩ v).heap[q]? := fun q hq => (heap_setCell_other z ⟨b, 0, none⟩ q v hq).symm
  have kp := Fm.pre (l := Fo w ob) (l' := [_]) k
  refine ⟨fun i g cs t e => ?_, kp.ge, kp.ne, ?_⟩
  · match i, e with
    | 0, e => cases e; exact (hk _ h0).trans (kp.get 0 _ _ _ rfl)
    | 1, e => cases e; exact (hk _ h1).trans (kp.get 1 _ _ _ rfl)
  · have hl := k.low
    exact ⟨hl.os, hl.tape, hl.output, by simpa using hl.size, fun q hq => (hk q (by omega)).trans (hl.block q hq)⟩
theorem cp_one {w y : World} {ob : Oo} {b : Nat} {v1 v2 v3 : Value} {XB : List Bb} (h : Cp w ob b v1 v2 v3 XB y) : (#[v1, v2, v3] : Array Value).all (·.oneCell') = true := by
  obtain ⟨q1, c1, rfl, -⟩ := h.o1.open kBk.len
  obtain ⟨q2, c2, rfl, -⟩ := h.o2.open kMk.len
  obtain ⟨q3, c3, rfl, -⟩ := h.o3.open kLa.len
  simp [Value.oneCell']
theorem object_any (w : World) (ob : Oo) (h : Hid (Lco w ob)) : Calls Tryd.prog 8 #[.agg (oC ob)] w (ObE w ob) := by
  have K0 : Hid (Fm w (Fo w ob) ((w.alloc (.cells (oC ob) 26)).alloc (.cells (oC zO) 26))) := Fm.two w _ _ _ _
  obtain ⟨n, hn⟩ : ∃ n, ob.B.length = n := ⟨_, rfl⟩
  obtain ⟨nm, hnm⟩ : ∃ n, ob.M.length = n := ⟨_, rfl⟩
  obtain ⟨nl, hnl⟩ : ∃ n, ob.L.length = n := ⟨_, rfl⟩
  obtain ⟨bp, hbp⟩ : ∃ q, ob.bp = q := ⟨_, rfl⟩
  obtain ⟨bc, hbc⟩ : ∃ q, ob.bc = q := ⟨_, rfl⟩
  obtain ⟨mp, hmp⟩ : ∃ q, ob.mp = q := ⟨_, rfl⟩
  obtain ⟨mc, hmc⟩ : ∃ q, ob.mc = q := ⟨_, rfl⟩
  obtain ⟨lp, hlp⟩ : ∃ q, ob.lp = q := ⟨_, rfl⟩
  obtain ⟨lc, hlc⟩ : ∃ q, ob.lc = q := ⟨_, rfl⟩
  have hd : Hid (∀ y, Fm w (Fo w ob) y → y.cell? ⟨w.heap.size, 0, none⟩ = some (.slice bp n bc) ∧ y.cell? ⟨w.heap.size, 1, none⟩ = some (.slice mp nm mc) ∧ y.cell? ⟨w.heap.size, 2, none⟩ = some (.slice lp nl lc)) := fun y hy => by
    have h0 := (hy.bx 0 _ _ _ rfl).c 0 (.slice ob.bp ob.B.length ob.bc) rfl
    have h1 := (hy.bx 0 _ _ _ rfl).c 1 (.slice ob.mp ob.M.length ob.mc) rfl
    have h2 := (hy.bx 0 _ _ _ rfl).c 2 (.slice ob.lp ob.L.length ob.lc) rfl
    rw [hbp, hn, hbc] at h0
    rw [hmp, hnm, hmc] at h1
    rw [hlp, hnl, hlc] at h2
    exact ⟨h0, h1, h2⟩
  have hLB : Hid (LiesL 2 cK w bp (ob.B.map (·.1)) ∧ ob.B.length = n) := ⟨by rw [← hbp]; exact h.out.lo.b, hn⟩
  have hLM : Hid (LiesL 3 cM w mp ob.M ∧ LiesL 2 cLa w lp ob.L) := ⟨by rw [← hmp]; exact h.out.lo.m, by rw [← hlp]; exact h.out.lo.l⟩
  have hnn : Hid (ob.M.length = nm ∧ ob.L.length = nl) := ⟨hnm, hnl⟩
  have n1 : (n : Int) ≤ 2147483647 := by have := h.out.lo.n; omega
  have n2 : (nm : Int) ≤ 2147483647 := by have := h.out.lo.n; omega
  have n3 : (nl : Int) ≤ 2147483647 := by have := h.out.lo.n; omega
  clear hn hnm hnl hbp hbc hmp hmc hlp hlc
  go_enter Tryd.func8, Tryd.ntmps8
  go_wp2
  refine wp_region_held_drew (S := Fm w (Fo w ob)) (by kernel_rfl) (K0.out.below (below_drew (Below.refl _ _))) (fun hH => ?_)
  generalize World.drew _ = z0 at hH ⊢
  have I0 : Hid (Iv w ob none none [] none [] none z0) := ⟨hH, fun _ e => (by cases e), fun _ e => (by cases e), fun _ e => (by cases e), fun _ e => (by cases e)⟩
  refine wpAnyH_take (i := 0) (v := .pointer (some ⟨w.heap.size, 0, none⟩)) rfl (by kernel_rfl) (by kernel_rfl) (by kernel_rfl) (fun _ _ _ h => h) (.inl ⟨by kernel_rfl, fun u hu => by go_simp⟩) hH ?_
  try simp only [Act.put, List.setIfInBounds_toArray]
  refine wpAnyH_take (i := 1) (v := .slice bp n bc) rfl (by kernel_rfl) (by kernel_rfl) (by kernel_rfl) (fun _ _ _ h => h) (.inl ⟨by kernel_rfl, fun u hu => by have c := (hd.out u hu).1; go_simp⟩) hH ?_
  try simp only [Act.put]
  refine wpAnyH_take (i := 2) (v := .int .i64 (n : Int)) rfl (by kernel_rfl) (by kernel_rfl) (by kernel_rfl) (fun _ _ _ h => h) (.inl ⟨by kernel_rfl, fun u hu => by go_simp⟩) hH ?_
  try simp only [Act.put]
  refine wpAnyH_take (i := 3) (v := .int .i64 ((n : Int) + 2)) rfl (by kernel_rfl) (by kernel_rfl) (by kernel_rfl) (fun _ _ _ h => h) (.inl ⟨by kernel_rfl, fun u hu => by go_simp; all_goals (first | omega | (rw [IntKind.wrap_i64]; omega))⟩) hH ?_
  try simp only [Act.put]
  refine wpAnyH_take (i := 5) (v := .pointer (some ⟨w.heap.size, 1, none⟩)) rfl (by kernel_rfl) (by kernel_rfl) (by kernel_rfl) (fun _ _ _ h => h) (.inl ⟨by kernel_rfl, fun u hu => by go_simp⟩) hH ?_
  try simp only [Act.put]
  refine wpAnyH_take (i := 6) (v := .slice mp nm mc) rfl (by kernel_rfl) (by kernel_rfl) (by kernel_rfl) (fun _ _ _ h => h) (.inl ⟨by kernel_rfl, fun u hu => by have c := (hd.out u hu).2.1; go_simp⟩) hH ?_
  try simp only [Act.put]
  refine wpAnyH_take (i := 7) (v := .int .i64 (nm : Int)) rfl (by kernel_rfl) (by kernel_rfl) (by kernel_rfl) (fun _ _ _ h => h) (.inl ⟨by kernel_rfl, fun u hu => by go_simp⟩) hH ?_
  try simp only [Act.put]
  refine wpAnyH_take (i := 8) (v := .int .i64 ((nm : Int) + 2)) rfl (by kernel_rfl) (by kernel_rfl) (by kernel_rfl) (fun _ _ _ h => h) (.inl ⟨by kernel_rfl, fun u hu => by go_simp; all_goals (first | omega | (rw [IntKind.wrap_i64]; omega))⟩) hH ?_
  try simp only [Act.put]
  refine wpAnyH_take (i := 10) (v := .pointer (some ⟨w.heap.size, 1, none⟩)) rfl (by kernel_rfl) (by kernel_rfl) (by kernel_rfl) (fun _ _ _ h => h) (.inl ⟨by kernel_rfl, fun u hu => by go_simp⟩) hH ?_
  try simp only [Act.put]
  refine wpAnyH_take (i := 11) (v := .slice mp nm mc) rfl (by kernel_rfl) (by kernel_rfl) (by kernel_rfl) (fun _ _ _ h => h) (.inl ⟨by kernel_rfl, fun u hu => by have c := (hd.out u hu).2.1; go_simp⟩) hH ?_
  try simp only [Act.put]
  refine wpAnyH_take (i := 13) (v := .pointer (some ⟨w.heap.size, 2, none⟩)) rfl (by kernel_rfl) (by kernel_rfl) (by kernel_rfl) (fun _ _ _ h => h) (.inl ⟨by kernel_rfl, fun u hu => by go_simp⟩) hH ?_
  try simp only [Act.put]
  refine wpAnyH_take (i := 14) (v := .slice lp nl lc) rfl (by kernel_rfl) (by kernel_rfl) (by kernel_rfl) (fun _ _ _ h => h) (.inl ⟨by kernel_rfl, fun u hu => by have c := (hd.out u hu).2.2; go_simp⟩) hH ?_
  try simp only [Act.put]
  refine wpAnyH_take (i := 15) (v := .int .i64 (nl : Int)) rfl (by kernel_rfl) (by kernel_rfl) (by kernel_rfl) (fun _ _ _ h => h) (.inl ⟨by kernel_rfl, fun u hu => by go_simp⟩) hH ?_
  try simp only [Act.put]
  refine wpAnyH_take (i := 16) (v := .int .i64 ((nl : Int) + 2)) rfl (by kernel_rfl) (by kernel_rfl) (by kernel_rfl) (fun _ _ _ h => h) (.inl ⟨by kernel_rfl, fun u hu => by go_simp; all_goals (first | omega | (rw [IntKind.wrap_i64]; omega))⟩) hH ?_
  try simp only [Act.put]
  refine wpAnyH_take (i := 18) (v := .pointer (some ⟨w.heap.size, 2, none⟩)) rfl (by kernel_rfl) (by kernel_rfl) (by kernel_rfl) (fun _ _ _ h => h) (.inl ⟨by kernel_rfl, fun u hu => by go_simp⟩) hH ?_
  try simp only [Act.put]
  refine wpAnyH_take (i := 19) (v := .slice lp nl lc) rfl (by kernel_rfl) (by kernel_rfl) (by kernel_rfl) (fun _ _ _ h => h) (.inl ⟨by kernel_rfl, fun u hu => by have c := (hd.out u hu).2.2; go_simp⟩) hH ?_
  try simp only [Act.put]
  refine famH fun W hW => ?_
  have sEnd : ∀ (v1 v2 v2' v3 v3' : Value) (b : Nat) (y : World), Iv w ob (some v1) (some v2') ob.M (some v3') ob.L (some b) y → W 1 #[true, true, true, true, true, true, true, true, true, true, true, true, true, true, true, true, true, true, true, true, true, true, true, false] ⟨#[.agg (oC ob), .pointer (some ⟨w.heap.size, 0, none⟩), .pointer (some ⟨w.heap.size + 1, 0, none⟩), .pointer (some ⟨b, 0, none⟩), undef, .pointer (some ⟨w.heap.size, 0, none⟩), .slice bp n bc, .int .i64 (n : Int), .int .i64 ((n : Int) + 2), v1, .pointer (some ⟨w.heap.size, 1, none⟩), .slice mp nm mc, .int .i64 (nm : Int), .int .i64 ((nm : Int) + 2), v2, .pointer (some ⟨w.heap.size, 1, none⟩), .slice mp nm mc, v2', .pointer (some ⟨w.heap.size, 2, none⟩), .slice lp nl lc, .int .i64 (nl : Int), .int .i64 ((nl : Int) + 2), v3, .pointer (some ⟨w.heap.size, 2, none⟩), .slice lp nl lc, v3', .agg #[v1, v2', v3'], undef, undef, undef, undef, undef, undef, undef, undef, undef, undef, undef, undef, undef, undef, undef, undef, undef, undef, undef, undef, undef, undef, undef, undef, undef, undef, undef], []⟩ y := by
    intro v1 v2 v2' v3 v3' b y I
    have hH := I.base
    rw [hW]
    refine wpAnyH_ready (rs := [23]) (by kernel_rfl) (by simp) (AllReadyH.cons rfl (fun K hK => ?_) AllReadyH.nil)
    rw [if_pos (by rfl)]
    obtain ⟨q1, c1, rfl, -⟩ := (I.f1 v1 rfl).open kBk.len
    obtain ⟨q2, c2, rfl, -⟩ := (I.f2 v2' rfl).open kMk.len
    obtain ⟨q3, c3, rfl, -⟩ := (I.f3 v3' rfl).open kLa.len
    refine wp_st rtO b (oC zO) _ (I.f4 b rfl).1 rfl rfl (by simp [Value.oneCell']) (.tmp 3) (.tmp 26) rfl rfl rfl ?_
    intro y1 hw
    have P1 : Hid (Cp w ob b _ _ _ [] y1) := Iv.stored I hw.out
    refine hK.out _ _ (Fm.pre (l := Fo w ob) (l' := [_]) P1.out.base) (fun _ => ?_)
    refine wpAnyH_done (by kernel_rfl) ?_ _
    clear hK hH hw I hW
    generalize Value.slice q1 _ c1 = v1 at P1 ⊢
    generalize hv2 : Value.slice q2 _ c2 = v2' at P1 ⊢
    generalize hv3 : Value.slice q3 _ c3 = v3' at P1 ⊢
    clear hv2 hv3
    have hd3 : Hid (∀ u v, Fm w (F3 w ob b v v2' v3') u → u.cell? ⟨w.heap.size, 0, none⟩ = some (.slice bp n bc)) := fun u v hu => (hd.out u (Fm.pre (l := Fo w ob) (l' := [_]) hu)).1
    have c0 := hd3.out _ _ P1.out.base
    go_simp
    go_wp2
    go_loopw [4] (fun t wz => ∃ (i : Nat) (v1 : Value) (XB : List Bb) (y : World), y = wz ∧ t = .int .i64 (i : Int) ∧ Hid (i ≤ n ∧ plB XB = plB (ob.B.take i)) ∧ Hid (Cp w ob b v1 v2' v3' XB y)) (fun t _ => (n - intOf t).toNat)
    case atStart => exact ⟨0, _, [], _, rfl, rfl, ⟨Nat.zero_le _, rfl⟩, P1⟩
    case round =>
      clear P1 c0
      obtain ⟨i, v1, XB, y, rfl, rfl, J, P⟩ := hrel
      have c0 := hd3.out _ _ P.out.base
      by_cases hlt : i < n
      · obtain ⟨O, hO⟩ : ∃ v, ob.B[i]? = some v := ⟨_, List.getElem?_eq_getElem (by rw [hLB.out.2]; exact hlt)⟩
        obtain ⟨g2, o2, rfl, r2⟩ := hLB.out.1 i O.1 (by rw [List.getElem?_map, hO]; rfl)
        obtain ⟨lO, mO⟩ := h.out.lo.g O (List.mem_of_getElem? hO)
        have bO := (h.out.lo.ib O (List.mem_of_getElem? hO)).2
        obtain ⟨bs, hbs⟩ : ∃ b, O.2 = b := ⟨_, rfl⟩
        obtain ⟨m, hm⟩ : ∃ m, bs.length = m := ⟨_, rfl⟩
        obtain ⟨a, ha⟩ : ∃ a, O.1.a = a := ⟨_, rfl⟩
        obtain ⟨so, hso⟩ : ∃ a, O.1.sp = a := ⟨_, rfl⟩
        obtain ⟨co, hco⟩ : ∃ a, O.1.cap = a := ⟨_, rfl⟩
        rw [hbs, hm] at mO
        have hcb : Hid (∀ u, Below w.heap.size w u → u.cell? ⟨g2, o2 + i * 2, none⟩ = some (.int .i64 a) ∧ u.cell? ⟨g2, o2 + i * 2 + 1, none⟩ = some (.slice so m co)) := fun u hu => by
          have k3 := range_keep r2 hu 0 (.int .i64 O.1.a) rfl
          have k4 := range_keep r2 hu 1 (.slice O.1.sp O.1.m O.1.cap) rfl
          rw [Nat.add_zero, ha] at k3
          rw [hso, ← mO, hco] at k4
          exact ⟨k3, k4⟩
        have hR : Hid (∀ u, Below w.heap.size w u → Calls Tryd.prog 26 #[.slice so m co] u fun e w' => e = .returned (.slice (some ⟨u.heap.size, 0, none⟩) m (m + 5)) ∧ Hid (Fm u [(u.heap.size, rU (bs ++ List.replicate 5 90), 5)] w')) := fun u hu => by
          have := room_any u so co bs (by rw [← hso, ← hbs]; exact lO.below hu) (by rw [hm, mO]; exact bO)
          rw [hm] at this
          exact this
        have hpl : Hid (∀ X : Bb, X.1.a = a → X.2 = bs → plB (XB ++ [X]) = plB (ob.B.take (i + 1))) := fun X e1 e2 => by
          have e3 := J.out.2
          unfold plB at e3 ⊢
          rw [List.take_add_one, hO, List.map_append, List.map_append, e3]
          simp [e1, e2, ha, hbs]
        have hXn : Hid (XB.length ≤ 2147483647) := by
          have e3 := congrArg List.length J.out.2
          rw [List.length_map, List.length_map, List.length_take, hLB.out.2] at e3
          show _ ≤ _
          omega
        have i2 := fun w => idxP (P := Tryd.prog) (g := g2) (off := o2) (len := n) (cap := bc) Tryd.underlying22 (s := 2) (by kernel_rfl) .i64 i w hlt
        have hii : (i : Int) < n := by omega
        have hlt' : Hid (i < n) := hlt
        have mm : Hid (bs.length = m) := hm
        clear hlt hO r2 lO mO bO hbs hm ha hso hco
        go_wp2
        refine wp_region_held_drew (S := Fm w (Fo w ob)) (by kernel_rfl) (Fm.pre (l := Fo w ob) (l' := [_]) (P.out.below (below_drew (Below.refl _ _))).base) (fun hH => ?_)
        have P5 : Hid (Cp w ob b v1 v2' v3' XB y.drew) := P.out.below (below_drew (Below.refl _ _))
        clear c0 P
        generalize y.drew = z1 at hH P5 ⊢
        refine wpAnyH_take (i := 0) (v := .pointer (some ⟨b, 0, none⟩)) rfl (by kernel_rfl) (by kernel_rfl) (by kernel_rfl) (fun _ _ _ h => h) (.inl ⟨by kernel_rfl, fun u hu => by go_simp⟩) hH ?_
        try simp only [Act.put, List.setIfInBounds_toArray]
        refine wpAnyH_take (i := 2) (v := .pointer (some ⟨w.heap.size, 0, none⟩)) rfl (by kernel_rfl) (by kernel_rfl) (by kernel_rfl) (fun _ _ _ h => h) (.inl ⟨by kernel_rfl, fun u hu => by go_simp⟩) hH ?_
        try simp only [Act.put]
        refine wpAnyH_take (i := 3) (v := .slice (some ⟨g2, o2, none⟩) n bc) rfl (by kernel_rfl) (by kernel_rfl) (by kernel_rfl) (fun _ _ _ h => h) (.inl ⟨by kernel_rfl, fun u hu => by have t0 := (hd.out u hu).1; go_simp⟩) hH ?_
        try simp only [Act.put]
        refine wpAnyH_take (i := 4) (v := .int .i64 (i : Int)) rfl (by kernel_rfl) (by kernel_rfl) (by kernel_rfl) (fun _ _ _ h => h) (.inl ⟨by kernel_rfl, fun u hu => by go_simp⟩) hH ?_
        try simp only [Act.put]
        refine wpAnyH_take (i := 5) (v := .pointer (some ⟨g2, o2 + i * 2, none⟩)) rfl (by kernel_rfl) (by kernel_rfl) (by kernel_rfl) (fun _ _ _ h => h) (.inl ⟨by kernel_rfl, fun u hu => by go_simp⟩) hH ?_
        try simp only [Act.put]
        refine wpAnyH_take (i := 6) (v := .pointer (some ⟨g2, o2 + i * 2, none⟩)) rfl (by kernel_rfl) (by kernel_rfl) (by kernel_rfl) (fun _ _ _ h => h) (.inl ⟨by kernel_rfl, fun u hu => by go_simp⟩) hH ?_
        try simp only [Act.put]
        refine wpAnyH_take (i := 7) (v := .int .i64 a) rfl (by kernel_rfl) (by kernel_rfl) (by kernel_rfl) (fun _ _ _ h => h) (.inl ⟨by kernel_rfl, fun u hu => by have t0 := (hcb.out u hu.low).1; go_simp⟩) hH ?_
        try simp only [Act.put]
        refine wpAnyH_take (i := 8) (v := .pointer (some ⟨w.heap.size, 0, none⟩)) rfl (by kernel_rfl) (by kernel_rfl) (by kernel_rfl) (fun _ _ _ h => h) (.inl ⟨by kernel_rfl, fun u hu => by go_simp⟩) hH ?_
        try simp only [Act.put]
        refine wpAnyH_take (i := 9) (v := .slice (some ⟨g2, o2, none⟩) n bc) rfl (by kernel_rfl) (by kernel_rfl) (by kernel_rfl) (fun _ _ _ h => h) (.inl ⟨by kernel_rfl, fun u hu => by have t0 := (hd.out u hu).1; go_simp⟩) hH ?_
        try simp only [Act.put]
        refine wpAnyH_take (i := 10) (v := .int .i64 (i : Int)) rfl (by kernel_rfl) (by kernel_rfl) (by kernel_rfl) (fun _ _ _ h => h) (.inl ⟨by kernel_rfl, fun u hu => by go_simp⟩) hH ?_
        try simp only [Act.put]
        refine wpAnyH_take (i := 11) (v := .pointer (some ⟨g2, o2 + i * 2, none⟩)) rfl (by kernel_rfl) (by kernel_rfl) (by kernel_rfl) (fun _ _ _ h => h) (.inl ⟨by kernel_rfl, fun u hu => by go_simp⟩) hH ?_
        try simp only [Act.put]
        refine wpAnyH_take (i := 12) (v := .pointer (some ⟨g2, o2 + i * 2 + 1, none⟩)) rfl (by kernel_rfl) (by kernel_rfl) (by kernel_rfl) (fun _ _ _ h => h) (.inl ⟨by kernel_rfl, fun u hu => by go_simp⟩) hH ?_
        try simp only [Act.put]
        refine wpAnyH_take (i := 13) (v := .slice so m co) rfl (by kernel_rfl) (by kernel_rfl) (by kernel_rfl) (fun _ _ _ h => h) (.inl ⟨by kernel_rfl, fun u hu => by have t0 := (hcb.out u hu.low).2; go_simp⟩) hH ?_
        try simp only [Act.put]
        refine wpAnyH_ready (rs := [1, 14]) (by kernel_rfl) (by simp) (AllReadyH.cons rfl (fun K hK => ?_) (AllReadyH.cons rfl (fun K hK => ?_) (AllReadyH.nil)))
        · rw [if_pos (by rfl)]
          have t0 := (P5.out.base.bx 2 _ _ _ rfl).c 0 v1 rfl
          go_wp2
          refine hK.out _ _ hH (fun hH => ?_)
          clear hK K t0
          try simp only [Act.put, List.setIfInBounds_toArray, List.set_cons_zero, List.set_cons_succ]
          refine wpAnyH_ready (rs := [14]) (by kernel_rfl) (by simp) (AllReadyH.cons rfl (fun K hK => ?_) (AllReadyH.nil))
          rw [if_pos (by rfl)]
          go_wp2_with (go_at_call 26; refine (hR.out _ P5.out.base.low).mono ?_; rintro e z2 ⟨rfl, H⟩)
          have Z2 : Hid (Cp w ob b v1 v2' v3' XB z2) := P5.out.below H.out.low
          have hX : Hid (Rmy (w.heap.size + 2) z2 (⟨a, some ⟨z1.heap.size, 0, none⟩, m, m + 5⟩, bs)) := ⟨z1.heap.size, rfl, (by have := heap_lt (P5.out.base.get 1 _ _ _ rfl); omega), H.out.bx 0 _ _ _ rfl, mm.out.symm, (by rw [mm.out])⟩
          refine hK.out _ _ (Fm.pre (l := Fo w ob) (l' := [_]) Z2.out.base) (fun hH => ?_)
          clear hK K H
          try simp only [Act.put, List.setIfInBounds_toArray, List.set_cons_zero, List.set_cons_succ]
          refine wpAnyH_take (i := 15) (v := .agg (k2 ⟨a, some ⟨z1.heap.size, 0, none⟩, m, m + 5⟩)) rfl (by kernel_rfl) (by kernel_rfl) (by kernel_rfl) (fun _ _ _ h => h) (.inl ⟨by kernel_rfl, fun u hu => by go_simp; all_goals (first | rfl | (unfold k2; go_simp))⟩) hH ?_
          try simp only [Act.put, List.setIfInBounds_toArray]
          refine wpAnyH_ready (rs := [16]) (by kernel_rfl) (by simp) (AllReadyH.cons rfl (fun K hK => ?_) (AllReadyH.nil))
          rw [if_pos (by rfl)]
          refine wp_bsK ⟨a, some ⟨z1.heap.size, 0, none⟩, m, m + 5⟩ (.tmp 49) rfl rfl ?_
          have Z4 : Hid (Cp w ob b v1 v2' v3' XB (z2.alloc (.cells (k2 ⟨a, some ⟨z1.heap.size, 0, none⟩, m, m + 5⟩) 42))) := Z2.out.below (Below.alloc (Below.refl _ _) (Nat.le_refl _) _)
          refine hK.out _ _ (Fm.pre (l := Fo w ob) (l' := [_]) Z4.out.base) (fun hH => ?_)
          clear hK K
          try simp only [Act.put]
          refine wpAnyH_ready (rs := [17]) (by kernel_rfl) (by simp) (AllReadyH.cons rfl (fun K hK => ?_) (AllReadyH.nil))
          rw [if_pos (by rfl)]
          obtain ⟨v1', z3, hrun, zc, zf, Z3⟩ := Z2.out.step (⟨a, some ⟨z1.heap.size, 0, none⟩, m, m + 5⟩, bs) hX.out 22 hXn.out
          obtain ⟨q9, N9, k9, rfl⟩ := own_form kBk.len Z3.o1
          replace Z3 : Hid _ := Z3
          have f3 := Z3.out.base
          refine wp_appR 22 (.tmp 35) (.tmp 50) rfl v1 (.slice (some ⟨z2.heap.size, 0, none⟩) 1 1) rfl rfl _ z3 hrun ?_
          refine hK.out _ _ (fo_back Z4.out.base Z3.out.base) (fun hH => ?_)
          clear hK K hrun
          try simp only [Act.put]
          refine wpAnyH_take (i := 18) (v := .pointer (some ⟨b, 0, none⟩)) rfl (by kernel_rfl) (by kernel_rfl) (by kernel_rfl) (fun _ _ _ h => h) (.inl ⟨by kernel_rfl, fun u hu => by go_simp⟩) hH ?_
          try simp only [Act.put]
          refine wpAnyH_ready (rs := [19]) (by kernel_rfl) (by simp) (AllReadyH.cons rfl (fun K hK => ?_) AllReadyH.nil)
          rw [if_pos (by rfl)]
          obtain ⟨c9, zc⟩ := zc
          go_wp2
          refine hK.out _ _ (Fm.pre (l := Fo w ob) (l' := [_]) Z3.out.base) (fun hH => ?_)
          refine wpAnyH_done (by kernel_rfl) ?_ _
          clear hK K hH zc zf Z2 Z4 hX hR hcb P5 f3
          go_simp
          go_wp2
          go_roundw
          case rel => exact ⟨i + 1, _, _, _, rfl, by simp, ⟨hlt'.out, hpl.out _ rfl rfl⟩, Z3⟩
          case measure => have := hlt'.out; simp [intOf]; omega
        · rw [if_pos (by rfl)]
          go_wp2_with (go_at_call 26; refine (hR.out _ P5.out.base.low).mono ?_; rintro e z2 ⟨rfl, H⟩)
          have Z2 : Hid (Cp w ob b v1 v2' v3' XB z2) := P5.out.below H.out.low
          have hX : Hid (Rmy (w.heap.size + 2) z2 (⟨a, some ⟨z1.heap.size, 0, none⟩, m, m + 5⟩, bs)) := ⟨z1.heap.size, rfl, (by have := heap_lt (P5.out.base.get 1 _ _ _ rfl); omega), H.out.bx 0 _ _ _ rfl, mm.out.symm, (by rw [mm.out])⟩
          refine hK.out _ _ (Fm.pre (l := Fo w ob) (l' := [_]) Z2.out.base) (fun hH => ?_)
          clear hK K H
          try simp only [Act.put, List.setIfInBounds_toArray, List.set_cons_zero, List.set_cons_succ]
          refine wpAnyH_take (i := 15) (v := .agg (k2 ⟨a, some ⟨z1.heap.size, 0, none⟩, m, m + 5⟩)) rfl (by kernel_rfl) (by kernel_rfl) (by kernel_rfl) (fun _ _ _ h => h) (.inl ⟨by kernel_rfl, fun u hu => by go_simp; all_goals (first | rfl | (unfold k2; go_simp))⟩) hH ?_
          try simp only [Act.put, List.setIfInBounds_toArray]
          refine wpAnyH_ready (rs := [1, 16]) (by kernel_rfl) (by simp) (AllReadyH.cons rfl (fun K hK => ?_) (AllReadyH.cons rfl (fun K hK => ?_) (AllReadyH.nil)))
          · rw [if_pos (by rfl)]
            have t0 := (Z2.out.base.bx 2 _ _ _ rfl).c 0 v1 rfl
            go_wp2
            refine hK.out _ _ hH (fun hH => ?_)
            clear hK K t0
            try simp only [Act.put, List.setIfInBounds_toArray, List.set_cons_zero, List.set_cons_succ]
            refine wpAnyH_ready (rs := [16]) (by kernel_rfl) (by simp) (AllReadyH.cons rfl (fun K hK => ?_) (AllReadyH.nil))
            rw [if_pos (by rfl)]
            refine wp_bsK ⟨a, some ⟨z1.heap.size, 0, none⟩, m, m + 5⟩ (.tmp 49) rfl rfl ?_
            have Z4 : Hid (Cp w ob b v1 v2' v3' XB (z2.alloc (.cells (k2 ⟨a, some ⟨z1.heap.size, 0, none⟩, m, m + 5⟩) 42))) := Z2.out.below (Below.alloc (Below.refl _ _) (Nat.le_refl _) _)
            refine hK.out _ _ (Fm.pre (l := Fo w ob) (l' := [_]) Z4.out.base) (fun hH => ?_)
            clear hK K
            try simp only [Act.put, List.setIfInBounds_toArray]
            refine wpAnyH_ready (rs := [17]) (by kernel_rfl) (by simp) (AllReadyH.cons rfl (fun K hK => ?_) (AllReadyH.nil))
            rw [if_pos (by rfl)]
            obtain ⟨v1', z3, hrun, zc, zf, Z3⟩ := Z2.out.step (⟨a, some ⟨z1.heap.size, 0, none⟩, m, m + 5⟩, bs) hX.out 22 hXn.out
            obtain ⟨q9, N9, k9, rfl⟩ := own_form kBk.len Z3.o1
            replace Z3 : Hid _ := Z3
            have f3 := Z3.out.base
            refine wp_appR 22 (.tmp 35) (.tmp 50) rfl v1 (.slice (some ⟨z2.heap.size, 0, none⟩) 1 1) rfl rfl _ z3 hrun ?_
            refine hK.out _ _ (fo_back Z4.out.base Z3.out.base) (fun hH => ?_)
            clear hK K hrun
            try simp only [Act.put]
            refine wpAnyH_take (i := 18) (v := .pointer (some ⟨b, 0, none⟩)) rfl (by kernel_rfl) (by kernel_rfl) (by kernel_rfl) (fun _ _ _ h => h) (.inl ⟨by kernel_rfl, fun u hu => by go_simp⟩) hH ?_
            try simp only [Act.put]
            refine wpAnyH_ready (rs := [19]) (by kernel_rfl) (by simp) (AllReadyH.cons rfl (fun K hK => ?_) AllReadyH.nil)
            rw [if_pos (by rfl)]
            obtain ⟨c9, zc⟩ := zc
            go_wp2
            refine hK.out _ _ (Fm.pre (l := Fo w ob) (l' := [_]) Z3.out.base) (fun hH => ?_)
            refine wpAnyH_done (by kernel_rfl) ?_ _
            clear hK K hH zc zf Z2 Z4 hX hR hcb P5 f3
            go_simp
            go_wp2
            go_roundw
            case rel => exact ⟨i + 1, _, _, _, rfl, by simp, ⟨hlt'.out, hpl.out _ rfl rfl⟩, Z3⟩
            case measure => have := hlt'.out; simp [intOf]; omega
          · rw [if_pos (by rfl)]
            refine wp_bsK ⟨a, some ⟨z1.heap.size, 0, none⟩, m, m + 5⟩ (.tmp 49) rfl rfl ?_
            have Z4 : Hid (Cp w ob b v1 v2' v3' XB (z2.alloc (.cells (k2 ⟨a, some ⟨z1.heap.size, 0, none⟩, m, m + 5⟩) 42))) := Z2.out.below (Below.alloc (Below.refl _ _) (Nat.le_refl _) _)
            refine hK.out _ _ (Fm.pre (l := Fo w ob) (l' := [_]) Z4.out.base) (fun hH => ?_)
            clear hK K
            try simp only [Act.put]
            refine wpAnyH_ready (rs := [1]) (by kernel_rfl) (by simp) (AllReadyH.cons rfl (fun K hK => ?_) (AllReadyH.nil))
            rw [if_pos (by rfl)]
            have t0 := (Z4.out.base.bx 2 _ _ _ rfl).c 0 v1 rfl
            go_wp2
            refine hK.out _ _ hH (fun hH => ?_)
            clear hK K t0
            try simp only [Act.put, List.setIfInBounds_toArray, List.set_cons_zero, List.set_cons_succ]
            refine wpAnyH_ready (rs := [17]) (by kernel_rfl) (by simp) (AllReadyH.cons rfl (fun K hK => ?_) (AllReadyH.nil))
            rw [if_pos (by rfl)]
            obtain ⟨v1', z3, hrun, zc, zf, Z3⟩ := Z2.out.step (⟨a, some ⟨z1.heap.size, 0, none⟩, m, m + 5⟩, bs) hX.out 22 hXn.out
            obtain ⟨q9, N9, k9, rfl⟩ := own_form kBk.len Z3.o1
            replace Z3 : Hid _ := Z3
            have f3 := Z3.out.base
            refine wp_appR 22 (.tmp 35) (.tmp 50) rfl v1 (.slice (some ⟨z2.heap.size, 0, none⟩) 1 1) rfl rfl _ z3 hrun ?_
            refine hK.out _ _ (fo_back Z4.out.base Z3.out.base) (fun hH => ?_)
            clear hK K hrun
            try simp only [Act.put, List.setIfInBounds_toArray]
            refine wpAnyH_take (i := 18) (v := .pointer (some ⟨b, 0, none⟩)) rfl (by kernel_rfl) (by kernel_rfl) (by kernel_rfl) (fun _ _ _ h => h) (.inl ⟨by kernel_rfl, fun u hu => by go_simp⟩) hH ?_
            try simp only [Act.put]
            refine wpAnyH_ready (rs := [19]) (by kernel_rfl) (by simp) (AllReadyH.cons rfl (fun K hK => ?_) AllReadyH.nil)
            rw [if_pos (by rfl)]
            obtain ⟨c9, zc⟩ := zc
            go_wp2
            refine hK.out _ _ (Fm.pre (l := Fo w ob) (l' := [_]) Z3.out.base) (fun hH => ?_)
            refine wpAnyH_done (by kernel_rfl) ?_ _
            clear hK K hH zc zf Z2 Z4 hX hR hcb P5 f3
            go_simp
            go_wp2
            go_roundw
            case rel => exact ⟨i + 1, _, _, _, rfl, by simp, ⟨hlt'.out, hpl.out _ rfl rfl⟩, Z3⟩
            case measure => have := hlt'.out; simp [intOf]; omega
      · have hie : i = n := by have := J.out.1; omega
        have hpf : plB XB = plB ob.B := by
          have e3 := J.out.2
          rw [List.take_of_length_le (by rw [hLB.out.2]; omega)] at e3
          exact e3
        subst hie
        clear hlt
        go_wp2_with (first
          | ((with_reducible refine at_load rtO b #[v1, v2', v3'] ?_ ?_ (.tmp 3) ?_ ?_ ?_ ?_); exact P.out.base.bx 2 _ _ _ rfl; rfl; rfl; rfl; rfl)
          | ((with_reducible refine at_st rtO (w.heap.size + 1) (oC zO) #[v1, v2', v3'] ?_ ?_ ?_ ?_ (.tmp 2) (.tmp 53) ?_ ?_ ?_ ?_ ?_); exact P.out.base.bx 1 _ _ _ rfl; rfl; rfl; exact cp_one P.out; rfl; rfl; rfl; rfl; intro z1 hw1; refine stopAt ?_))
        obtain ⟨x, e1, H⟩ := P.out.done h.out hpf (hw1.out.2.1 _ (Nat.le_refl _)) hw1.out.2.2
        have hb1 := hw1.out.1
        rw [e1] at hb1 ⊢
        refine Stop.go ?_
        go_wp2
        exact ret_row rtO rfl rfl hb1 rfl rfl ⟨x, rfl, H⟩
  have sm1m2a2m3a3al : ∀ (v1 : Value) (v2 : Value) (v2' : Value) (v3 : Value) (v3' : Value) (b : Nat) (y : World), Iv w ob (some v1) (some v2') ob.M (some v3') ob.L (some b) y → W 2 #[true, true, true, true, true, true, true, true, true, true, true, true, true, true, true, true, true, true, true, true, true, false, true, false] ⟨#[.agg (oC ob), .pointer (some ⟨w.heap.size, 0, none⟩), .pointer (some ⟨w.heap.size + 1, 0, none⟩), .pointer (some ⟨b, 0, none⟩), undef, .pointer (some ⟨w.heap.size, 0, none⟩), .slice bp n bc, .int .i64 (n : Int), .int .i64 ((n : Int) + 2), v1, .pointer (some ⟨w.heap.size, 1, none⟩), .slice mp nm mc, .int .i64 (nm : Int), .int .i64 ((nm : Int) + 2), v2, .pointer (some ⟨w.heap.size, 1, none⟩), .slice mp nm mc, v2', .pointer (some ⟨w.heap.size, 2, none⟩), .slice lp nl lc, .int .i64 (nl : Int), .int .i64 ((nl : Int) + 2), v3, .pointer (some ⟨w.heap.size, 2, none⟩), .slice lp nl lc, v3', undef, undef, undef, undef, undef, undef, undef, undef, undef, undef, undef, undef, undef, undef, undef, undef, undef, undef, undef, undef, undef, undef, undef, undef, undef, undef, undef, undef], []⟩ y := by
    intro v1 v2 v2' v3 v3' b y I
    have hH := I.base
    rw [hW]
    obtain ⟨q1, c1, rfl, -⟩ := (I.f1 v1 rfl).open kBk.len
    obtain ⟨q2, c2, rfl, -⟩ := (I.f2 v2' rfl).open kMk.len
    obtain ⟨q3, c3, rfl, -⟩ := (I.f3 v3' rfl).open kLa.len
    refine wpAnyH_take (i := 21) (v := .agg #[.slice q1 0 c1, .slice q2 ob.M.length c2, .slice q3 ob.L.length c3]) rfl (by kernel_rfl) (by kernel_rfl) (by kernel_rfl) (fun _ _ _ h => h) (.inl ⟨by kernel_rfl, fun u hu => by go_simp⟩) hH ?_
    try simp only [Act.put, List.setIfInBounds_toArray, List.set_cons_zero, List.set_cons_succ]
    have q := sEnd _ v2 _ v3 _ b y I
    rw [hW] at q
    exact q
  have sm1m2a2m3a3 : ∀ (v1 : Value) (v2 : Value) (v2' : Value) (v3 : Value) (v3' : Value) (y : World), Iv w ob (some v1) (some v2') ob.M (some v3') ob.L none y → W 3 #[true, true, true, true, true, true, true, true, true, true, true, true, true, true, true, true, true, true, true, true, true, false, false, false] ⟨#[.agg (oC ob), .pointer (some ⟨w.heap.size, 0, none⟩), .pointer (some ⟨w.heap.size + 1, 0, none⟩), undef, undef, .pointer (some ⟨w.heap.size, 0, none⟩), .slice bp n bc, .int .i64 (n : Int), .int .i64 ((n : Int) + 2), v1, .pointer (some ⟨w.heap.size, 1, none⟩), .slice mp nm mc, .int .i64 (nm : Int), .int .i64 ((nm : Int) + 2), v2, .pointer (some ⟨w.heap.size, 1, none⟩), .slice mp nm mc, v2', .pointer (some ⟨w.heap.size, 2, none⟩), .slice lp nl lc, .int .i64 (nl : Int), .int .i64 ((nl : Int) + 2), v3, .pointer (some ⟨w.heap.size, 2, none⟩), .slice lp nl lc, v3', undef, undef, undef, undef, undef, undef, undef, undef, undef, undef, undef, undef, undef, undef, undef, undef, undef, undef, undef, undef, undef, undef, undef, undef, undef, undef, undef, undef], []⟩ y := by
    intro v1 v2 v2' v3 v3' y I
    have hH := I.base
    rw [hW]
    obtain ⟨q1, c1, rfl, -⟩ := (I.f1 v1 rfl).open kBk.len
    obtain ⟨q2, c2, rfl, -⟩ := (I.f2 v2' rfl).open kMk.len
    obtain ⟨q3, c3, rfl, -⟩ := (I.f3 v3' rfl).open kLa.len
    refine wpAnyH_take (i := 21) (v := .agg #[.slice q1 0 c1, .slice q2 ob.M.length c2, .slice q3 ob.L.length c3]) rfl (by kernel_rfl) (by kernel_rfl) (by kernel_rfl) (fun _ _ _ h => h) (.inl ⟨by kernel_rfl, fun u hu => by go_simp⟩) hH ?_
    try simp only [Act.put, List.setIfInBounds_toArray, List.set_cons_zero, List.set_cons_succ]
    refine wpAnyH_ready (rs := [22]) (by kernel_rfl) (by simp) (AllReadyH.cons rfl (fun K hK => ?_) (AllReadyH.nil))
    · rw [if_pos (by rfl)]
      have I1 := I.al
      go_wp2
      obtain ⟨b, hb⟩ : ∃ b, y.heap.size = b := ⟨_, rfl⟩
      rw [hb] at I1 ⊢
      refine hK.out _ _ I1.base (fun _ => ?_)
      have q := sEnd _ v2 _ v3 _ b _ I1
      rw [hW] at q
      exact q
  have sm1m2a2m3al : ∀ (v1 : Value) (v2 : Value) (v2' : Value) (v3 : Value) (b : Nat) (y : World), Iv w ob (some v1) (some v2') ob.M (some v3) [] (some b) y → W 3 #[true, true, true, true, true, true, true, true, true, true, true, true, true, true, true, true, true, true, true, true, false, false, true, false] ⟨#[.agg (oC ob), .pointer (some ⟨w.heap.size, 0, none⟩), .pointer (some ⟨w.heap.size + 1, 0, none⟩), .pointer (some ⟨b, 0, none⟩), undef, .pointer (some ⟨w.heap.size, 0, none⟩), .slice bp n bc, .int .i64 (n : Int), .int .i64 ((n : Int) + 2), v1, .pointer (some ⟨w.heap.size, 1, none⟩), .slice mp nm mc, .int .i64 (nm : Int), .int .i64 ((nm : Int) + 2), v2, .pointer (some ⟨w.heap.size, 1, none⟩), .slice mp nm mc, v2', .pointer (some ⟨w.heap.size, 2, none⟩), .slice lp nl lc, .int .i64 (nl : Int), .int .i64 ((nl : Int) + 2), v3, .pointer (some ⟨w.heap.size, 2, none⟩), .slice lp nl lc, undef, undef, undef, undef, undef, undef, undef, undef, undef, undef, undef, undef, undef, undef, undef, undef, undef, undef, undef, undef, undef, undef, undef, undef, undef, undef, undef, undef, undef], []⟩ y := by
    intro v1 v2 v2' v3 b y I
    have hH := I.base
    rw [hW]
    refine wpAnyH_ready (rs := [20]) (by kernel_rfl) (by simp) (AllReadyH.cons rfl (fun K hK => ?_) (AllReadyH.nil))
    · rw [if_pos (by rfl)]
      obtain ⟨v3', y1, hr, I1⟩ := I.a3 lp ob.L nl lc 24 hnn.out.2 hLM.out.2 (by omega)
      unfold Oper.wp
      simp [execOp, resolve, invoke, builtin, hr, Result.andThen, Act.eval]
      refine hK.out _ _ I1.base (fun _ => ?_)
      have q := sm1m2a2m3a3al v1 v2 v2' v3 v3' b y1 I1
      rw [hW] at q
      exact q
  have sm2a2m3a3al : ∀ (v2 : Value) (v2' : Value) (v3 : Value) (v3' : Value) (b : Nat) (y : World), Iv w ob none (some v2') ob.M (some v3') ob.L (some b) y → W 3 #[true, true, true, true, false, true, true, true, true, true, true, true, true, true, true, true, true, true, true, true, true, false, true, false] ⟨#[.agg (oC ob), .pointer (some ⟨w.heap.size, 0, none⟩), .pointer (some ⟨w.heap.size + 1, 0, none⟩), .pointer (some ⟨b, 0, none⟩), undef, .pointer (some ⟨w.heap.size, 0, none⟩), .slice bp n bc, .int .i64 (n : Int), .int .i64 ((n : Int) + 2), undef, .pointer (some ⟨w.heap.size, 1, none⟩), .slice mp nm mc, .int .i64 (nm : Int), .int .i64 ((nm : Int) + 2), v2, .pointer (some ⟨w.heap.size, 1, none⟩), .slice mp nm mc, v2', .pointer (some ⟨w.heap.size, 2, none⟩), .slice lp nl lc, .int .i64 (nl : Int), .int .i64 ((nl : Int) + 2), v3, .pointer (some ⟨w.heap.size, 2, none⟩), .slice lp nl lc, v3', undef, undef, undef, undef, undef, undef, undef, undef, undef, undef, undef, undef, undef, undef, undef, undef, undef, undef, undef, undef, undef, undef, undef, undef, undef, undef, undef, undef], []⟩ y := by
    intro v2 v2' v3 v3' b y I
    have hH := I.base
    rw [hW]
    refine wpAnyH_ready (rs := [4]) (by kernel_rfl) (by simp) (AllReadyH.cons rfl (fun K hK => ?_) (AllReadyH.nil))
    · rw [if_pos (by rfl)]
      obtain ⟨v1, y1, hr, I1⟩ := I.m1 (n + 2) (by omega)
      rw [show ((n + 2 : Nat) : Int) = (n : Int) + 2 by omega] at hr
      go_wp2
      refine hK.out _ _ I1.base (fun _ => ?_)
      have q := sm1m2a2m3a3al v1 v2 v2' v3 v3' b y1 I1
      rw [hW] at q
      exact q
  have sm1m2a2m3 : ∀ (v1 : Value) (v2 : Value) (v2' : Value) (v3 : Value) (y : World), Iv w ob (some v1) (some v2') ob.M (some v3) [] none y → W 4 #[true, true, true, true, true, true, true, true, true, true, true, true, true, true, true, true, true, true, true, true, false, false, false, false] ⟨#[.agg (oC ob), .pointer (some ⟨w.heap.size, 0, none⟩), .pointer (some ⟨w.heap.size + 1, 0, none⟩), undef, undef, .pointer (some ⟨w.heap.size, 0, none⟩), .slice bp n bc, .int .i64 (n : Int), .int .i64 ((n : Int) + 2), v1, .pointer (some ⟨w.heap.size, 1, none⟩), .slice mp nm mc, .int .i64 (nm : Int), .int .i64 ((nm : Int) + 2), v2, .pointer (some ⟨w.heap.size, 1, none⟩), .slice mp nm mc, v2', .pointer (some ⟨w.heap.size, 2, none⟩), .slice lp nl lc, .int .i64 (nl : Int), .int .i64 ((nl : Int) + 2), v3, .pointer (some ⟨w.heap.size, 2, none⟩), .slice lp nl lc, undef, undef, undef, undef, undef, undef, undef, undef, undef, undef, undef, undef, undef, undef, undef, undef, undef, undef, undef, undef, undef, undef, undef, undef, undef, undef, undef, undef, undef], []⟩ y := by
    intro v1 v2 v2' v3 y I
    have hH := I.base
    rw [hW]
    refine wpAnyH_ready (rs := [20, 22]) (by kernel_rfl) (by simp) (AllReadyH.cons rfl (fun K hK => ?_) (AllReadyH.cons rfl (fun K hK => ?_) (AllReadyH.nil)))
    · rw [if_pos (by rfl)]
      obtain ⟨v3', y1, hr, I1⟩ := I.a3 lp ob.L nl lc 24 hnn.out.2 hLM.out.2 (by omega)
      unfold Oper.wp
      simp [execOp, resolve, invoke, builtin, hr, Result.andThen, Act.eval]
      refine hK.out _ _ I1.base (fun _ => ?_)
      have q := sm1m2a2m3a3 v1 v2 v2' v3 v3' y1 I1
      rw [hW] at q
      exact q
    · rw [if_pos (by rfl)]
      have I1 := I.al
      go_wp2
      obtain ⟨b, hb⟩ : ∃ b, y.heap.size = b := ⟨_, rfl⟩
      rw [hb] at I1 ⊢
      refine hK.out _ _ I1.base (fun _ => ?_)
      have q := sm1m2a2m3al v1 v2 v2' v3 b _ I1
      rw [hW] at q
      exact q
  have sm1m2a2al : ∀ (v1 : Value) (v2 : Value) (v2' : Value) (b : Nat) (y : World), Iv w ob (some v1) (some v2') ob.M none [] (some b) y → W 4 #[true, true, true, true, true, true, true, true, true, true, true, true, true, true, true, true, true, false, true, true, false, false, true, false] ⟨#[.agg (oC ob), .pointer (some ⟨w.heap.size, 0, none⟩), .pointer (some ⟨w.heap.size + 1, 0, none⟩), .pointer (some ⟨b, 0, none⟩), undef, .pointer (some ⟨w.heap.size, 0, none⟩), .slice bp n bc, .int .i64 (n : Int), .int .i64 ((n : Int) + 2), v1, .pointer (some ⟨w.heap.size, 1, none⟩), .slice mp nm mc, .int .i64 (nm : Int), .int .i64 ((nm : Int) + 2), v2, .pointer (some ⟨w.heap.size, 1, none⟩), .slice mp nm mc, v2', .pointer (some ⟨w.heap.size, 2, none⟩), .slice lp nl lc, .int .i64 (nl : Int), .int .i64 ((nl : Int) + 2), undef, .pointer (some ⟨w.heap.size, 2, none⟩), .slice lp nl lc, undef, undef, undef, undef, undef, undef, undef, undef, undef, undef, undef, undef, undef, undef, undef, undef, undef, undef, undef, undef, undef, undef, undef, undef, undef, undef, undef, undef, undef], []⟩ y := by
    intro v1 v2 v2' b y I
    have hH := I.base
    rw [hW]
    refine wpAnyH_ready (rs := [17]) (by kernel_rfl) (by simp) (AllReadyH.cons rfl (fun K hK => ?_) (AllReadyH.nil))
    · rw [if_pos (by rfl)]
      obtain ⟨v3, y1, hr, I1⟩ := I.m3 (nl + 2) (by omega)
      rw [show ((nl + 2 : Nat) : Int) = (nl : Int) + 2 by omega] at hr
      go_wp2
      refine hK.out _ _ I1.base (fun _ => ?_)
      have q := sm1m2a2m3al v1 v2 v2' v3 b y1 I1
      rw [hW] at q
      exact q
  have sm1m2m3al : ∀ (v1 : Value) (v2 : Value) (v3 : Value) (b : Nat) (y : World), Iv w ob (some v1) (some v2) [] (some v3) [] (some b) y → W 4 #[true, true, true, true, true, true, true, true, true, true, true, true, false, true, true, true, true, true, true, true, false, false, true, false] ⟨#[.agg (oC ob), .pointer (some ⟨w.heap.size, 0, none⟩), .pointer (some ⟨w.heap.size + 1, 0, none⟩), .pointer (some ⟨b, 0, none⟩), undef, .pointer (some ⟨w.heap.size, 0, none⟩), .slice bp n bc, .int .i64 (n : Int), .int .i64 ((n : Int) + 2), v1, .pointer (some ⟨w.heap.size, 1, none⟩), .slice mp nm mc, .int .i64 (nm : Int), .int .i64 ((nm : Int) + 2), v2, .pointer (some ⟨w.heap.size, 1, none⟩), .slice mp nm mc, undef, .pointer (some ⟨w.heap.size, 2, none⟩), .slice lp nl lc, .int .i64 (nl : Int), .int .i64 ((nl : Int) + 2), v3, .pointer (some ⟨w.heap.size, 2, none⟩), .slice lp nl lc, undef, undef, undef, undef, undef, undef, undef, undef, undef, undef, undef, undef, undef, undef, undef, undef, undef, undef, undef, undef, undef, undef, undef, undef, undef, undef, undef, undef, undef], []⟩ y := by
    intro v1 v2 v3 b y I
    have hH := I.base
    rw [hW]
    refine wpAnyH_ready (rs := [12]) (by kernel_rfl) (by simp) (AllReadyH.cons rfl (fun K hK => ?_) (AllReadyH.nil))
    · rw [if_pos (by rfl)]
      obtain ⟨v2', y1, hr, I1⟩ := I.a2 mp ob.M nm mc 23 hnn.out.1 hLM.out.1 (by omega)
      unfold Oper.wp
      simp [execOp, resolve, invoke, builtin, hr, Result.andThen, Act.eval]
      refine hK.out _ _ I1.base (fun _ => ?_)
      have q := sm1m2a2m3al v1 v2 v2' v3 b y1 I1
      rw [hW] at q
      exact q
  have sm2a2m3a3 : ∀ (v2 : Value) (v2' : Value) (v3 : Value) (v3' : Value) (y : World), Iv w ob none (some v2') ob.M (some v3') ob.L none y → W 4 #[true, true, true, true, false, true, true, true, true, true, true, true, true, true, true, true, true, true, true, true, true, false, false, false] ⟨#[.agg (oC ob), .pointer (some ⟨w.heap.size, 0, none⟩), .pointer (some ⟨w.heap.size + 1, 0, none⟩), undef, undef, .pointer (some ⟨w.heap.size, 0, none⟩), .slice bp n bc, .int .i64 (n : Int), .int .i64 ((n : Int) + 2), undef, .pointer (some ⟨w.heap.size, 1, none⟩), .slice mp nm mc, .int .i64 (nm : Int), .int .i64 ((nm : Int) + 2), v2, .pointer (some ⟨w.heap.size, 1, none⟩), .slice mp nm mc, v2', .pointer (some ⟨w.heap.size, 2, none⟩), .slice lp nl lc, .int .i64 (nl : Int), .int .i64 ((nl : Int) + 2), v3, .pointer (some ⟨w.heap.size, 2, none⟩), .slice lp nl lc, v3', undef, undef, undef, undef, undef, undef, undef, undef, undef, undef, undef, undef, undef, undef, undef, undef, undef, undef, undef, undef, undef, undef, undef, undef, undef, undef, undef, undef], []⟩ y := by
    intro v2 v2' v3 v3' y I
    have hH := I.base
    rw [hW]
    refine wpAnyH_ready (rs := [4, 22]) (by kernel_rfl) (by simp) (AllReadyH.cons rfl (fun K hK => ?_) (AllReadyH.cons rfl (fun K hK => ?_) (AllReadyH.nil)))
    · rw [if_pos (by rfl)]
      obtain ⟨v1, y1, hr, I1⟩ := I.m1 (n + 2) (by omega)
      rw [show ((n + 2 : Nat) : Int) = (n : Int) + 2 by omega] at hr
      go_wp2
      refine hK.out _ _ I1.base (fun _ => ?_)
      have q := sm1m2a2m3a3 v1 v2 v2' v3 v3' y1 I1
      rw [hW] at q
      exact q
    · rw [if_pos (by rfl)]
      have I1 := I.al
      go_wp2
      obtain ⟨b, hb⟩ : ∃ b, y.heap.size = b := ⟨_, rfl⟩
      rw [hb] at I1 ⊢
      refine hK.out _ _ I1.base (fun _ => ?_)
      have q := sm2a2m3a3al v2 v2' v3 v3' b _ I1
      rw [hW] at q
      exact q
  have sm2a2m3al : ∀ (v2 : Value) (v2' : Value) (v3 : Value) (b : Nat) (y : World), Iv w ob none (some v2') ob.M (some v3) [] (some b) y → W 4 #[true, true, true, true, false, true, true, true, true, true, true, true, true, true, true, true, true, true, true, true, false, false, true, false] ⟨#[.agg (oC ob), .pointer (some ⟨w.heap.size, 0, none⟩), .pointer (some ⟨w.heap.size + 1, 0, none⟩), .pointer (some ⟨b, 0, none⟩), undef, .pointer (some ⟨w.heap.size, 0, none⟩), .slice bp n bc, .int .i64 (n : Int), .int .i64 ((n : Int) + 2), undef, .pointer (some ⟨w.heap.size, 1, none⟩), .slice mp nm mc, .int .i64 (nm : Int), .int .i64 ((nm : Int) + 2), v2, .pointer (some ⟨w.heap.size, 1, none⟩), .slice mp nm mc, v2', .pointer (some ⟨w.heap.size, 2, none⟩), .slice lp nl lc, .int .i64 (nl : Int), .int .i64 ((nl : Int) + 2), v3, .pointer (some ⟨w.heap.size, 2, none⟩), .slice lp nl lc, undef, undef, undef, undef, undef, undef, undef, undef, undef, undef, undef, undef, undef, undef, undef, undef, undef, undef, undef, undef, undef, undef, undef, undef, undef, undef, undef, undef, undef], []⟩ y := by
    intro v2 v2' v3 b y I
    have hH := I.base
    rw [hW]
    refine wpAnyH_ready (rs := [4, 20]) (by kernel_rfl) (by simp) (AllReadyH.cons rfl (fun K hK => ?_) (AllReadyH.cons rfl (fun K hK => ?_) (AllReadyH.nil)))
    · rw [if_pos (by rfl)]
      obtain ⟨v1, y1, hr, I1⟩ := I.m1 (n + 2) (by omega)
      rw [show ((n + 2 : Nat) : Int) = (n : Int) + 2 by omega] at hr
      go_wp2
      refine hK.out _ _ I1.base (fun _ => ?_)
      have q := sm1m2a2m3al v1 v2 v2' v3 b y1 I1
      rw [hW] at q
      exact q
    · rw [if_pos (by rfl)]
      obtain ⟨v3', y1, hr, I1⟩ := I.a3 lp ob.L nl lc 24 hnn.out.2 hLM.out.2 (by omega)
      unfold Oper.wp
      simp [execOp, resolve, invoke, builtin, hr, Result.andThen, Act.eval]
      refine hK.out _ _ I1.base (fun _ => ?_)
      have q := sm2a2m3a3al v2 v2' v3 v3' b y1 I1
      rw [hW] at q
      exact q
  have sm1m2a2 : ∀ (v1 : Value) (v2 : Value) (v2' : Value) (y : World), Iv w ob (some v1) (some v2') ob.M none [] none y → W 5 #[true, true, true, true, true, true, true, true, true, true, true, true, true, true, true, true, true, false, true, true, false, false, false, false] ⟨#[.agg (oC ob), .pointer (some ⟨w.heap.size, 0, none⟩), .pointer (some ⟨w.heap.size + 1, 0, none⟩), undef, undef, .pointer (some ⟨w.heap.size, 0, none⟩), .slice bp n bc, .int .i64 (n : Int), .int .i64 ((n : Int) + 2), v1, .pointer (some ⟨w.heap.size, 1, none⟩), .slice mp nm mc, .int .i64 (nm : Int), .int .i64 ((nm : Int) + 2), v2, .pointer (some ⟨w.heap.size, 1, none⟩), .slice mp nm mc, v2', .pointer (some ⟨w.heap.size, 2, none⟩), .slice lp nl lc, .int .i64 (nl : Int), .int .i64 ((nl : Int) + 2), undef, .pointer (some ⟨w.heap.size, 2, none⟩), .slice lp nl lc, undef, undef, undef, undef, undef, undef, undef, undef, undef, undef, undef, undef, undef, undef, undef, undef, undef, undef, undef, undef, undef, undef, undef, undef, undef, undef, undef, undef, undef], []⟩ y := by
    intro v1 v2 v2' y I
    have hH := I.base
    rw [hW]
    refine wpAnyH_ready (rs := [17, 22]) (by kernel_rfl) (by simp) (AllReadyH.cons rfl (fun K hK => ?_) (AllReadyH.cons rfl (fun K hK => ?_) (AllReadyH.nil)))
    · rw [if_pos (by rfl)]
      obtain ⟨v3, y1, hr, I1⟩ := I.m3 (nl + 2) (by omega)
      rw [show ((nl + 2 : Nat) : Int) = (nl : Int) + 2 by omega] at hr
      go_wp2
      refine hK.out _ _ I1.base (fun _ => ?_)
      have q := sm1m2a2m3 v1 v2 v2' v3 y1 I1
      rw [hW] at q
      exact q
    · rw [if_pos (by rfl)]
      have I1 := I.al
      go_wp2
      obtain ⟨b, hb⟩ : ∃ b, y.heap.size = b := ⟨_, rfl⟩
      rw [hb] at I1 ⊢
      refine hK.out _ _ I1.base (fun _ => ?_)
      have q := sm1m2a2al v1 v2 v2' b _ I1
      rw [hW] at q
      exact q
  have sm1m2m3 : ∀ (v1 : Value) (v2 : Value) (v3 : Value) (y : World), Iv w ob (some v1) (some v2) [] (some v3) [] none y → W 5 #[true, true, true, true, true, true, true, true, true, true, true, true, false, true, true, true, true, true, true, true, false, false, false, false] ⟨#[.agg (oC ob), .pointer (some ⟨w.heap.size, 0, none⟩), .pointer (some ⟨w.heap.size + 1, 0, none⟩), undef, undef, .pointer (some ⟨w.heap.size, 0, none⟩), .slice bp n bc, .int .i64 (n : Int), .int .i64 ((n : Int) + 2), v1, .pointer (some ⟨w.heap.size, 1, none⟩), .slice mp nm mc, .int .i64 (nm : Int), .int .i64 ((nm : Int) + 2), v2, .pointer (some ⟨w.heap.size, 1, none⟩), .slice mp nm mc, undef, .pointer (some ⟨w.heap.size, 2, none⟩), .slice lp nl lc, .int .i64 (nl : Int), .int .i64 ((nl : Int) + 2), v3, .pointer (some ⟨w.heap.size, 2, none⟩), .slice lp nl lc, undef, undef, undef, undef, undef, undef, undef, undef, undef, undef, undef, undef, undef, undef, undef, undef, undef, undef, undef, undef, undef, undef, undef, undef, undef, undef, undef, undef, undef], []⟩ y := by
    intro v1 v2 v3 y I
    have hH := I.base
    rw [hW]
    refine wpAnyH_ready (rs := [12, 22]) (by kernel_rfl) (by simp) (AllReadyH.cons rfl (fun K hK => ?_) (AllReadyH.cons rfl (fun K hK => ?_) (AllReadyH.nil)))
    · rw [if_pos (by rfl)]
      obtain ⟨v2', y1, hr, I1⟩ := I.a2 mp ob.M nm mc 23 hnn.out.1 hLM.out.1 (by omega)
      unfold Oper.wp
      simp [execOp, resolve, invoke, builtin, hr, Result.andThen, Act.eval]
      refine hK.out _ _ I1.base (fun _ => ?_)
      have q := sm1m2a2m3 v1 v2 v2' v3 y1 I1
      rw [hW] at q
      exact q
    · rw [if_pos (by rfl)]
      have I1 := I.al
      go_wp2
      obtain ⟨b, hb⟩ : ∃ b, y.heap.size = b := ⟨_, rfl⟩
      rw [hb] at I1 ⊢
      refine hK.out _ _ I1.base (fun _ => ?_)
      have q := sm1m2m3al v1 v2 v3 b _ I1
      rw [hW] at q
      exact q
  have sm1m2al : ∀ (v1 : Value) (v2 : Value) (b : Nat) (y : World), Iv w ob (some v1) (some v2) [] none [] (some b) y → W 5 #[true, true, true, true, true, true, true, true, true, true, true, true, false, true, true, true, true, false, true, true, false, false, true, false] ⟨#[.agg (oC ob), .pointer (some ⟨w.heap.size, 0, none⟩), .pointer (some ⟨w.heap.size + 1, 0, none⟩), .pointer (some ⟨b, 0, none⟩), undef, .pointer (some ⟨w.heap.size, 0, none⟩), .slice bp n bc, .int .i64 (n : Int), .int .i64 ((n : Int) + 2), v1, .pointer (some ⟨w.heap.size, 1, none⟩), .slice mp nm mc, .int .i64 (nm : Int), .int .i64 ((nm : Int) + 2), v2, .pointer (some ⟨w.heap.size, 1, none⟩), .slice mp nm mc, undef, .pointer (some ⟨w.heap.size, 2, none⟩), .slice lp nl lc, .int .i64 (nl : Int), .int .i64 ((nl : Int) + 2), undef, .pointer (some ⟨w.heap.size, 2, none⟩), .slice lp nl lc, undef, undef, undef, undef, undef, undef, undef, undef, undef, undef, undef, undef, undef, undef, undef, undef, undef, undef, undef, undef, undef, undef, undef, undef, undef, undef, undef, undef, undef], []⟩ y := by
    intro v1 v2 b y I
    have hH := I.base
    rw [hW]
    refine wpAnyH_ready (rs := [12, 17]) (by kernel_rfl) (by simp) (AllReadyH.cons rfl (fun K hK => ?_) (AllReadyH.cons rfl (fun K hK => ?_) (AllReadyH.nil)))
    · rw [if_pos (by rfl)]
      obtain ⟨v2', y1, hr, I1⟩ := I.a2 mp ob.M nm mc 23 hnn.out.1 hLM.out.1 (by omega)
      unfold Oper.wp
      simp [execOp, resolve, invoke, builtin, hr, Result.andThen, Act.eval]
      refine hK.out _ _ I1.base (fun _ => ?_)
      have q := sm1m2a2al v1 v2 v2' b y1 I1
      rw [hW] at q
      exact q
    · rw [if_pos (by rfl)]
      obtain ⟨v3, y1, hr, I1⟩ := I.m3 (nl + 2) (by omega)
      rw [show ((nl + 2 : Nat) : Int) = (nl : Int) + 2 by omega] at hr
      go_wp2
      refine hK.out _ _ I1.base (fun _ => ?_)
      have q := sm1m2m3al v1 v2 v3 b y1 I1
      rw [hW] at q
      exact q
  have sm1m3al : ∀ (v1 : Value) (v3 : Value) (b : Nat) (y : World), Iv w ob (some v1) none [] (some v3) [] (some b) y → W 5 #[true, true, true, true, true, true, true, true, true, false, true, true, false, true, true, true, true, true, true, true, false, false, true, false] ⟨#[.agg (oC ob), .pointer (some ⟨w.heap.size, 0, none⟩), .pointer (some ⟨w.heap.size + 1, 0, none⟩), .pointer (some ⟨b, 0, none⟩), undef, .pointer (some ⟨w.heap.size, 0, none⟩), .slice bp n bc, .int .i64 (n : Int), .int .i64 ((n : Int) + 2), v1, .pointer (some ⟨w.heap.size, 1, none⟩), .slice mp nm mc, .int .i64 (nm : Int), .int .i64 ((nm : Int) + 2), undef, .pointer (some ⟨w.heap.size, 1, none⟩), .slice mp nm mc, undef, .pointer (some ⟨w.heap.size, 2, none⟩), .slice lp nl lc, .int .i64 (nl : Int), .int .i64 ((nl : Int) + 2), v3, .pointer (some ⟨w.heap.size, 2, none⟩), .slice lp nl lc, undef, undef, undef, undef, undef, undef, undef, undef, undef, undef, undef, undef, undef, undef, undef, undef, undef, undef, undef, undef, undef, undef, undef, undef, undef, undef, undef, undef, undef], []⟩ y := by
    intro v1 v3 b y I
    have hH := I.base
    rw [hW]
    refine wpAnyH_ready (rs := [9]) (by kernel_rfl) (by simp) (AllReadyH.cons rfl (fun K hK => ?_) (AllReadyH.nil))
    · rw [if_pos (by rfl)]
      obtain ⟨v2, y1, hr, I1⟩ := I.m2 (nm + 2) (by omega)
      rw [show ((nm + 2 : Nat) : Int) = (nm : Int) + 2 by omega] at hr
      go_wp2
      refine hK.out _ _ I1.base (fun _ => ?_)
      have q := sm1m2m3al v1 v2 v3 b y1 I1
      rw [hW] at q
      exact q
  have sm2a2m3 : ∀ (v2 : Value) (v2' : Value) (v3 : Value) (y : World), Iv w ob none (some v2') ob.M (some v3) [] none y → W 5 #[true, true, true, true, false, true, true, true, true, true, true, true, true, true, true, true, true, true, true, true, false, false, false, false] ⟨#[.agg (oC ob), .pointer (some ⟨w.heap.size, 0, none⟩), .pointer (some ⟨w.heap.size + 1, 0, none⟩), undef, undef, .pointer (some ⟨w.heap.size, 0, none⟩), .slice bp n bc, .int .i64 (n : Int), .int .i64 ((n : Int) + 2), undef, .pointer (some ⟨w.heap.size, 1, none⟩), .slice mp nm mc, .int .i64 (nm : Int), .int .i64 ((nm : Int) + 2), v2, .pointer (some ⟨w.heap.size, 1, none⟩), .slice mp nm mc, v2', .pointer (some ⟨w.heap.size, 2, none⟩), .slice lp nl lc, .int .i64 (nl : Int), .int .i64 ((nl : Int) + 2), v3, .pointer (some ⟨w.heap.size, 2, none⟩), .slice lp nl lc, undef, undef, undef, undef, undef, undef, undef, undef, undef, undef, undef, undef, undef, undef, undef, undef, undef, undef, undef, undef, undef, undef, undef, undef, undef, undef, undef, undef, undef], []⟩ y := by
    intro v2 v2' v3 y I
    have hH := I.base
    rw [hW]
    refine wpAnyH_ready (rs := [4, 20, 22]) (by kernel_rfl) (by simp) (AllReadyH.cons rfl (fun K hK => ?_) (AllReadyH.cons rfl (fun K hK => ?_) (AllReadyH.cons rfl (fun K hK => ?_) (AllReadyH.nil))))
    · rw [if_pos (by rfl)]
      obtain ⟨v1, y1, hr, I1⟩ := I.m1 (n + 2) (by omega)
      rw [show ((n + 2 : Nat) : Int) = (n : Int) + 2 by omega] at hr
      go_wp2
      refine hK.out _ _ I1.base (fun _ => ?_)
      have q := sm1m2a2m3 v1 v2 v2' v3 y1 I1
      rw [hW] at q
      exact q
    · rw [if_pos (by rfl)]
      obtain ⟨v3', y1, hr, I1⟩ := I.a3 lp ob.L nl lc 24 hnn.out.2 hLM.out.2 (by omega)
      unfold Oper.wp
      simp [execOp, resolve, invoke, builtin, hr, Result.andThen, Act.eval]
      refine hK.out _ _ I1.base (fun _ => ?_)
      have q := sm2a2m3a3 v2 v2' v3 v3' y1 I1
      rw [hW] at q
      exact q
    · rw [if_pos (by rfl)]
      have I1 := I.al
      go_wp2
      obtain ⟨b, hb⟩ : ∃ b, y.heap.size = b := ⟨_, rfl⟩
      rw [hb] at I1 ⊢
      refine hK.out _ _ I1.base (fun _ => ?_)
      have q := sm2a2m3al v2 v2' v3 b _ I1
      rw [hW] at q
      exact q
  have sm2a2al : ∀ (v2 : Value) (v2' : Value) (b : Nat) (y : World), Iv w ob none (some v2') ob.M none [] (some b) y → W 5 #[true, true, true, true, false, true, true, true, true, true, true, true, true, true, true, true, true, false, true, true, false, false, true, false] ⟨#[.agg (oC ob), .pointer (some ⟨w.heap.size, 0, none⟩), .pointer (some ⟨w.heap.size + 1, 0, none⟩), .pointer (some ⟨b, 0, none⟩), undef, .pointer (some ⟨w.heap.size, 0, none⟩), .slice bp n bc, .int .i64 (n : Int), .int .i64 ((n : Int) + 2), undef, .pointer (some ⟨w.heap.size, 1, none⟩), .slice mp nm mc, .int .i64 (nm : Int), .int .i64 ((nm : Int) + 2), v2, .pointer (some ⟨w.heap.size, 1, none⟩), .slice mp nm mc, v2', .pointer (some ⟨w.heap.size, 2, none⟩), .slice lp nl lc, .int .i64 (nl : Int), .int .i64 ((nl : Int) + 2), undef, .pointer (some ⟨w.heap.size, 2, none⟩), .slice lp nl lc, undef, undef, undef, undef, undef, undef, undef, undef, undef, undef, undef, undef, undef, undef, undef, undef, undef, undef, undef, undef, undef, undef, undef, undef, undef, undef, undef, undef, undef], []⟩ y := by
    intro v2 v2' b y I
    have hH := I.base
    rw [hW]
    refine wpAnyH_ready (rs := [4, 17]) (by kernel_rfl) (by simp) (AllReadyH.cons rfl (fun K hK => ?_) (AllReadyH.cons rfl (fun K hK => ?_) (AllReadyH.nil)))
    · rw [if_pos (by rfl)]
      obtain ⟨v1, y1, hr, I1⟩ := I.m1 (n + 2) (by omega)
      rw [show ((n + 2 : Nat) : Int) = (n : Int) + 2 by omega] at hr
      go_wp2
      refine hK.out _ _ I1.base (fun _ => ?_)
      have q := sm1m2a2al v1 v2 v2' b y1 I1
      rw [hW] at q
      exact q
    · rw [if_pos (by rfl)]
      obtain ⟨v3, y1, hr, I1⟩ := I.m3 (nl + 2) (by omega)
      rw [show ((nl + 2 : Nat) : Int) = (nl : Int) + 2 by omega] at hr
      go_wp2
      refine hK.out _ _ I1.base (fun _ => ?_)
      have q := sm2a2m3al v2 v2' v3 b y1 I1
      rw [hW] at q
      exact q
  have sm2m3al : ∀ (v2 : Value) (v3 : Value) (b : Nat) (y : World), Iv w ob none (some v2) [] (some v3) [] (some b) y → W 5 #[true, true, true, true, false, true, true, true, true, true, true, true, false, true, true, true, true, true, true, true, false, false, true, false] ⟨#[.agg (oC ob), .pointer (some ⟨w.heap.size, 0, none⟩), .pointer (some ⟨w.heap.size + 1, 0, none⟩), .pointer (some ⟨b, 0, none⟩), undef, .pointer (some ⟨w.heap.size, 0, none⟩), .slice bp n bc, .int .i64 (n : Int), .int .i64 ((n : Int) + 2), undef, .pointer (some ⟨w.heap.size, 1, none⟩), .slice mp nm mc, .int .i64 (nm : Int), .int .i64 ((nm : Int) + 2), v2, .pointer (some ⟨w.heap.size, 1, none⟩), .slice mp nm mc, undef, .pointer (some ⟨w.heap.size, 2, none⟩), .slice lp nl lc, .int .i64 (nl : Int), .int .i64 ((nl : Int) + 2), v3, .pointer (some ⟨w.heap.size, 2, none⟩), .slice lp nl lc, undef, undef, undef, undef, undef, undef, undef, undef, undef, undef, undef, undef, undef, undef, undef, undef, undef, undef, undef, undef, undef, undef, undef, undef, undef, undef, undef, undef, undef], []⟩ y := by
    intro v2 v3 b y I
    have hH := I.base
    rw [hW]
    refine wpAnyH_ready (rs := [4, 12]) (by kernel_rfl) (by simp) (AllReadyH.cons rfl (fun K hK => ?_) (AllReadyH.cons rfl (fun K hK => ?_) (AllReadyH.nil)))
    · rw [if_pos (by rfl)]
      obtain ⟨v1, y1, hr, I1⟩ := I.m1 (n + 2) (by omega)
      rw [show ((n + 2 : Nat) : Int) = (n : Int) + 2 by omega] at hr
      go_wp2
      refine hK.out _ _ I1.base (fun _ => ?_)
      have q := sm1m2m3al v1 v2 v3 b y1 I1
      rw [hW] at q
      exact q
    · rw [if_pos (by rfl)]
      obtain ⟨v2', y1, hr, I1⟩ := I.a2 mp ob.M nm mc 23 hnn.out.1 hLM.out.1 (by omega)
      unfold Oper.wp
      simp [execOp, resolve, invoke, builtin, hr, Result.andThen, Act.eval]
      refine hK.out _ _ I1.base (fun _ => ?_)
      have q := sm2a2m3al v2 v2' v3 b y1 I1
      rw [hW] at q
      exact q
  have sm1m2 : ∀ (v1 : Value) (v2 : Value) (y : World), Iv w ob (some v1) (some v2) [] none [] none y → W 6 #[true, true, true, true, true, true, true, true, true, true, true, true, false, true, true, true, true, false, true, true, false, false, false, false] ⟨#[.agg (oC ob), .pointer (some ⟨w.heap.size, 0, none⟩), .pointer (some ⟨w.heap.size + 1, 0, none⟩), undef, undef, .pointer (some ⟨w.heap.size, 0, none⟩), .slice bp n bc, .int .i64 (n : Int), .int .i64 ((n : Int) + 2), v1, .pointer (some ⟨w.heap.size, 1, none⟩), .slice mp nm mc, .int .i64 (nm : Int), .int .i64 ((nm : Int) + 2), v2, .pointer (some ⟨w.heap.size, 1, none⟩), .slice mp nm mc, undef, .pointer (some ⟨w.heap.size, 2, none⟩), .slice lp nl lc, .int .i64 (nl : Int), .int .i64 ((nl : Int) + 2), undef, .pointer (some ⟨w.heap.size, 2, none⟩), .slice lp nl lc, undef, undef, undef, undef, undef, undef, undef, undef, undef, undef, undef, undef, undef, undef, undef, undef, undef, undef, undef, undef, undef, undef, undef, undef, undef, undef, undef, undef, undef], []⟩ y := by
    intro v1 v2 y I
    have hH := I.base
    rw [hW]
    refine wpAnyH_ready (rs := [12, 17, 22]) (by kernel_rfl) (by simp) (AllReadyH.cons rfl (fun K hK => ?_) (AllReadyH.cons rfl (fun K hK => ?_) (AllReadyH.cons rfl (fun K hK => ?_) (AllReadyH.nil))))
    · rw [if_pos (by rfl)]
      obtain ⟨v2', y1, hr, I1⟩ := I.a2 mp ob.M nm mc 23 hnn.out.1 hLM.out.1 (by omega)
      unfold Oper.wp
      simp [execOp, resolve, invoke, builtin, hr, Result.andThen, Act.eval]
      refine hK.out _ _ I1.base (fun _ => ?_)
      have q := sm1m2a2 v1 v2 v2' y1 I1
      rw [hW] at q
      exact q
    · rw [if_pos (by rfl)]
      obtain ⟨v3, y1, hr, I1⟩ := I.m3 (nl + 2) (by omega)
      rw [show ((nl + 2 : Nat) : Int) = (nl : Int) + 2 by omega] at hr
      go_wp2
      refine hK.out _ _ I1.base (fun _ => ?_)
      have q := sm1m2m3 v1 v2 v3 y1 I1
      rw [hW] at q
      exact q
    · rw [if_pos (by rfl)]
      have I1 := I.al
      go_wp2
      obtain ⟨b, hb⟩ : ∃ b, y.heap.size = b := ⟨_, rfl⟩
      rw [hb] at I1 ⊢
      refine hK.out _ _ I1.base (fun _ => ?_)
      have q := sm1m2al v1 v2 b _ I1
      rw [hW] at q
      exact q
  have sm1m3 : ∀ (v1 : Value) (v3 : Value) (y : World), Iv w ob (some v1) none [] (some v3) [] none y → W 6 #[true, true, true, true, true, true, true, true, true, false, true, true, false, true, true, true, true, true, true, true, false, false, false, false] ⟨#[.agg (oC ob), .pointer (some ⟨w.heap.size, 0, none⟩), .pointer (some ⟨w.heap.size + 1, 0, none⟩), undef, undef, .pointer (some ⟨w.heap.size, 0, none⟩), .slice bp n bc, .int .i64 (n : Int), .int .i64 ((n : Int) + 2), v1, .pointer (some ⟨w.heap.size, 1, none⟩), .slice mp nm mc, .int .i64 (nm : Int), .int .i64 ((nm : Int) + 2), undef, .pointer (some ⟨w.heap.size, 1, none⟩), .slice mp nm mc, undef, .pointer (some ⟨w.heap.size, 2, none⟩), .slice lp nl lc, .int .i64 (nl : Int), .int .i64 ((nl : Int) + 2), v3, .pointer (some ⟨w.heap.size, 2, none⟩), .slice lp nl lc, undef, undef, undef, undef, undef, undef, undef, undef, undef, undef, undef, undef, undef, undef, undef, undef, undef, undef, undef, undef, undef, undef, undef, undef, undef, undef, undef, undef, undef], []⟩ y := by
    intro v1 v3 y I
    have hH := I.base
    rw [hW]
    refine wpAnyH_ready (rs := [9, 22]) (by kernel_rfl) (by simp) (AllReadyH.cons rfl (fun K hK => ?_) (AllReadyH.cons rfl (fun K hK => ?_) (AllReadyH.nil)))
    · rw [if_pos (by rfl)]
      obtain ⟨v2, y1, hr, I1⟩ := I.m2 (nm + 2) (by omega)
      rw [show ((nm + 2 : Nat) : Int) = (nm : Int) + 2 by omega] at hr
      go_wp2
      refine hK.out _ _ I1.base (fun _ => ?_)
      have q := sm1m2m3 v1 v2 v3 y1 I1
      rw [hW] at q
      exact q
    · rw [if_pos (by rfl)]
      have I1 := I.al
      go_wp2
      obtain ⟨b, hb⟩ : ∃ b, y.heap.size = b := ⟨_, rfl⟩
      rw [hb] at I1 ⊢
      refine hK.out _ _ I1.base (fun _ => ?_)
      have q := sm1m3al v1 v3 b _ I1
      rw [hW] at q
      exact q
  have sm1al : ∀ (v1 : Value) (b : Nat) (y : World), Iv w ob (some v1) none [] none [] (some b) y → W 6 #[true, true, true, true, true, true, true, true, true, false, true, true, false, true, true, true, true, false, true, true, false, false, true, false] ⟨#[.agg (oC ob), .pointer (some ⟨w.heap.size, 0, none⟩), .pointer (some ⟨w.heap.size + 1, 0, none⟩), .pointer (some ⟨b, 0, none⟩), undef, .pointer (some ⟨w.heap.size, 0, none⟩), .slice bp n bc, .int .i64 (n : Int), .int .i64 ((n : Int) + 2), v1, .pointer (some ⟨w.heap.size, 1, none⟩), .slice mp nm mc, .int .i64 (nm : Int), .int .i64 ((nm : Int) + 2), undef, .pointer (some ⟨w.heap.size, 1, none⟩), .slice mp nm mc, undef, .pointer (some ⟨w.heap.size, 2, none⟩), .slice lp nl lc, .int .i64 (nl : Int), .int .i64 ((nl : Int) + 2), undef, .pointer (some ⟨w.heap.size, 2, none⟩), .slice lp nl lc, undef, undef, undef, undef, undef, undef, undef, undef, undef, undef, undef, undef, undef, undef, undef, undef, undef, undef, undef, undef, undef, undef, undef, undef, undef, undef, undef, undef, undef], []⟩ y := by
    intro v1 b y I
    have hH := I.base
    rw [hW]
    refine wpAnyH_ready (rs := [9, 17]) (by kernel_rfl) (by simp) (AllReadyH.cons rfl (fun K hK => ?_) (AllReadyH.cons rfl (fun K hK => ?_) (AllReadyH.nil)))
    · rw [if_pos (by rfl)]
      obtain ⟨v2, y1, hr, I1⟩ := I.m2 (nm + 2) (by omega)
      rw [show ((nm + 2 : Nat) : Int) = (nm : Int) + 2 by omega] at hr
      go_wp2
      refine hK.out _ _ I1.base (fun _ => ?_)
      have q := sm1m2al v1 v2 b y1 I1
      rw [hW] at q
      exact q
    · rw [if_pos (by rfl)]
      obtain ⟨v3, y1, hr, I1⟩ := I.m3 (nl + 2) (by omega)
      rw [show ((nl + 2 : Nat) : Int) = (nl : Int) + 2 by omega] at hr
      go_wp2
      refine hK.out _ _ I1.base (fun _ => ?_)
      have q := sm1m3al v1 v3 b y1 I1
      rw [hW] at q
      exact q
  have sm2a2 : ∀ (v2 : Value) (v2' : Value) (y : World), Iv w ob none (some v2') ob.M none [] none y → W 6 #[true, true, true, true, false, true, true, true, true, true, true, true, true, true, true, true, true, false, true, true, false, false, false, false] ⟨#[.agg (oC ob), .pointer (some ⟨w.heap.size, 0, none⟩), .pointer (some ⟨w.heap.size + 1, 0, none⟩), undef, undef, .pointer (some ⟨w.heap.size, 0, none⟩), .slice bp n bc, .int .i64 (n : Int), .int .i64 ((n : Int) + 2), undef, .pointer (some ⟨w.heap.size, 1, none⟩), .slice mp nm mc, .int .i64 (nm : Int), .int .i64 ((nm : Int) + 2), v2, .pointer (some ⟨w.heap.size, 1, none⟩), .slice mp nm mc, v2', .pointer (some ⟨w.heap.size, 2, none⟩), .slice lp nl lc, .int .i64 (nl : Int), .int .i64 ((nl : Int) + 2), undef, .pointer (some ⟨w.heap.size, 2, none⟩), .slice lp nl lc, undef, undef, undef, undef, undef, undef, undef, undef, undef, undef, undef, undef, undef, undef, undef, undef, undef, undef, undef, undef, undef, undef, undef, undef, undef, undef, undef, undef, undef], []⟩ y := by
    intro v2 v2' y I
    have hH := I.base
    rw [hW]
    refine wpAnyH_ready (rs := [4, 17, 22]) (by kernel_rfl) (by simp) (AllReadyH.cons rfl (fun K hK => ?_) (AllReadyH.cons rfl (fun K hK => ?_) (AllReadyH.cons rfl (fun K hK => ?_) (AllReadyH.nil))))
    · rw [if_pos (by rfl)]
      obtain ⟨v1, y1, hr, I1⟩ := I.m1 (n + 2) (by omega)
      rw [show ((n + 2 : Nat) : Int) = (n : Int) + 2 by omega] at hr
      go_wp2
      refine hK.out _ _ I1.base (fun _ => ?_)
      have q := sm1m2a2 v1 v2 v2' y1 I1
      rw [hW] at q
      exact q
    · rw [if_pos (by rfl)]
      obtain ⟨v3, y1, hr, I1⟩ := I.m3 (nl + 2) (by omega)
      rw [show ((nl + 2 : Nat) : Int) = (nl : Int) + 2 by omega] at hr
      go_wp2
      refine hK.out _ _ I1.base (fun _ => ?_)
      have q := sm2a2m3 v2 v2' v3 y1 I1
      rw [hW] at q
      exact q
    · rw [if_pos (by rfl)]
      have I1 := I.al
      go_wp2
      obtain ⟨b, hb⟩ : ∃ b, y.heap.size = b := ⟨_, rfl⟩
      rw [hb] at I1 ⊢
      refine hK.out _ _ I1.base (fun _ => ?_)
      have q := sm2a2al v2 v2' b _ I1
      rw [hW] at q
      exact q
  have sm2m3 : ∀ (v2 : Value) (v3 : Value) (y : World), Iv w ob none (some v2) [] (some v3) [] none y → W 6 #[true, true, true, true, false, true, true, true, true, true, true, true, false, true, true, true, true, true, true, true, false, false, false, false] ⟨#[.agg (oC ob), .pointer (some ⟨w.heap.size, 0, none⟩), .pointer (some ⟨w.heap.size + 1, 0, none⟩), undef, undef, .pointer (some ⟨w.heap.size, 0, none⟩), .slice bp n bc, .int .i64 (n : Int), .int .i64 ((n : Int) + 2), undef, .pointer (some ⟨w.heap.size, 1, none⟩), .slice mp nm mc, .int .i64 (nm : Int), .int .i64 ((nm : Int) + 2), v2, .pointer (some ⟨w.heap.size, 1, none⟩), .slice mp nm mc, undef, .pointer (some ⟨w.heap.size, 2, none⟩), .slice lp nl lc, .int .i64 (nl : Int), .int .i64 ((nl : Int) + 2), v3, .pointer (some ⟨w.heap.size, 2, none⟩), .slice lp nl lc, undef, undef, undef, undef, undef, undef, undef, undef, undef, undef, undef, undef, undef, undef, undef, undef, undef, undef, undef, undef, undef, undef, undef, undef, undef, undef, undef, undef, undef], []⟩ y := by
    intro v2 v3 y I
    have hH := I.base
    rw [hW]
    refine wpAnyH_ready (rs := [4, 12, 22]) (by kernel_rfl) (by simp) (AllReadyH.cons rfl (fun K hK => ?_) (AllReadyH.cons rfl (fun K hK => ?_) (AllReadyH.cons rfl (fun K hK => ?_) (AllReadyH.nil))))
    · rw [if_pos (by rfl)]
      obtain ⟨v1, y1, hr, I1⟩ := I.m1 (n + 2) (by omega)
      rw [show ((n + 2 : Nat) : Int) = (n : Int) + 2 by omega] at hr
      go_wp2
      refine hK.out _ _ I1.base (fun _ => ?_)
      have q := sm1m2m3 v1 v2 v3 y1 I1
      rw [hW] at q
      exact q
    · rw [if_pos (by rfl)]
      obtain ⟨v2', y1, hr, I1⟩ := I.a2 mp ob.M nm mc 23 hnn.out.1 hLM.out.1 (by omega)
      unfold Oper.wp
      simp [execOp, resolve, invoke, builtin, hr, Result.andThen, Act.eval]
      refine hK.out _ _ I1.base (fun _ => ?_)
      have q := sm2a2m3 v2 v2' v3 y1 I1
      rw [hW] at q
      exact q
    · rw [if_pos (by rfl)]
      have I1 := I.al
      go_wp2
      obtain ⟨b, hb⟩ : ∃ b, y.heap.size = b := ⟨_, rfl⟩
      rw [hb] at I1 ⊢
      refine hK.out _ _ I1.base (fun _ => ?_)
      have q := sm2m3al v2 v3 b _ I1
      rw [hW] at q
      exact q
  have sm2al : ∀ (v2 : Value) (b : Nat) (y : World), Iv w ob none (some v2) [] none [] (some b) y → W 6 #[true, true, true, true, false, true, true, true, true, true, true, true, false, true, true, true, true, false, true, true, false, false, true, false] ⟨#[.agg (oC ob), .pointer (some ⟨w.heap.size, 0, none⟩), .pointer (some ⟨w.heap.size + 1, 0, none⟩), .pointer (some ⟨b, 0, none⟩), undef, .pointer (some ⟨w.heap.size, 0, none⟩), .slice bp n bc, .int .i64 (n : Int), .int .i64 ((n : Int) + 2), undef, .pointer (some ⟨w.heap.size, 1, none⟩), .slice mp nm mc, .int .i64 (nm : Int), .int .i64 ((nm : Int) + 2), v2, .pointer (some ⟨w.heap.size, 1, none⟩), .slice mp nm mc, undef, .pointer (some ⟨w.heap.size, 2, none⟩), .slice lp nl lc, .int .i64 (nl : Int), .int .i64 ((nl : Int) + 2), undef, .pointer (some ⟨w.heap.size, 2, none⟩), .slice lp nl lc, undef, undef, undef, undef, undef, undef, undef, undef, undef, undef, undef, undef, undef, undef, undef, undef, undef, undef, undef, undef, undef, undef, undef, undef, undef, undef, undef, undef, undef], []⟩ y := by
    intro v2 b y I
    have hH := I.base
    rw [hW]
    refine wpAnyH_ready (rs := [4, 12, 17]) (by kernel_rfl) (by simp) (AllReadyH.cons rfl (fun K hK => ?_) (AllReadyH.cons rfl (fun K hK => ?_) (AllReadyH.cons rfl (fun K hK => ?_) (AllReadyH.nil))))
    · rw [if_pos (by rfl)]
      obtain ⟨v1, y1, hr, I1⟩ := I.m1 (n + 2) (by omega)
      rw [show ((n + 2 : Nat) : Int) = (n : Int) + 2 by omega] at hr
      go_wp2
      refine hK.out _ _ I1.base (fun _ => ?_)
      have q := sm1m2al v1 v2 b y1 I1
      rw [hW] at q
      exact q
    · rw [if_pos (by rfl)]
      obtain ⟨v2', y1, hr, I1⟩ := I.a2 mp ob.M nm mc 23 hnn.out.1 hLM.out.1 (by omega)
      unfold Oper.wp
      simp [execOp, resolve, invoke, builtin, hr, Result.andThen, Act.eval]
      refine hK.out _ _ I1.base (fun _ => ?_)
      have q := sm2a2al v2 v2' b y1 I1
      rw [hW] at q
      exact q
    · rw [if_pos (by rfl)]
      obtain ⟨v3, y1, hr, I1⟩ := I.m3 (nl + 2) (by omega)
      rw [show ((nl + 2 : Nat) : Int) = (nl : Int) + 2 by omega] at hr
      go_wp2
      refine hK.out _ _ I1.base (fun _ => ?_)
      have q := sm2m3al v2 v3 b y1 I1
      rw [hW] at q
      exact q
  have sm3al : ∀ (v3 : Value) (b : Nat) (y : World), Iv w ob none none [] (some v3) [] (some b) y → W 6 #[true, true, true, true, false, true, true, true, true, false, true, true, false, true, true, true, true, true, true, true, false, false, true, false] ⟨#[.agg (oC ob), .pointer (some ⟨w.heap.size, 0, none⟩), .pointer (some ⟨w.heap.size + 1, 0, none⟩), .pointer (some ⟨b, 0, none⟩), undef, .pointer (some ⟨w.heap.size, 0, none⟩), .slice bp n bc, .int .i64 (n : Int), .int .i64 ((n : Int) + 2), undef, .pointer (some ⟨w.heap.size, 1, none⟩), .slice mp nm mc, .int .i64 (nm : Int), .int .i64 ((nm : Int) + 2), undef, .pointer (some ⟨w.heap.size, 1, none⟩), .slice mp nm mc, undef, .pointer (some ⟨w.heap.size, 2, none⟩), .slice lp nl lc, .int .i64 (nl : Int), .int .i64 ((nl : Int) + 2), v3, .pointer (some ⟨w.heap.size, 2, none⟩), .slice lp nl lc, undef, undef, undef, undef, undef, undef, undef, undef, undef, undef, undef, undef, undef, undef, undef, undef, undef, undef, undef, undef, undef, undef, undef, undef, undef, undef, undef, undef, undef], []⟩ y := by
    intro v3 b y I
    have hH := I.base
    rw [hW]
    refine wpAnyH_ready (rs := [4, 9]) (by kernel_rfl) (by simp) (AllReadyH.cons rfl (fun K hK => ?_) (AllReadyH.cons rfl (fun K hK => ?_) (AllReadyH.nil)))
    · rw [if_pos (by rfl)]
      obtain ⟨v1, y1, hr, I1⟩ := I.m1 (n + 2) (by omega)
      rw [show ((n + 2 : Nat) : Int) = (n : Int) + 2 by omega] at hr
      go_wp2
      refine hK.out _ _ I1.base (fun _ => ?_)
      have q := sm1m3al v1 v3 b y1 I1
      rw [hW] at q
      exact q
    · rw [if_pos (by rfl)]
      obtain ⟨v2, y1, hr, I1⟩ := I.m2 (nm + 2) (by omega)
      rw [show ((nm + 2 : Nat) : Int) = (nm : Int) + 2 by omega] at hr
      go_wp2
      refine hK.out _ _ I1.base (fun _ => ?_)
      have q := sm2m3al v2 v3 b y1 I1
      rw [hW] at q
      exact q
  have sm1 : ∀ (v1 : Value) (y : World), Iv w ob (some v1) none [] none [] none y → W 7 #[true, true, true, true, true, true, true, true, true, false, true, true, false, true, true, true, true, false, true, true, false, false, false, false] ⟨#[.agg (oC ob), .pointer (some ⟨w.heap.size, 0, none⟩), .pointer (some ⟨w.heap.size + 1, 0, none⟩), undef, undef, .pointer (some ⟨w.heap.size, 0, none⟩), .slice bp n bc, .int .i64 (n : Int), .int .i64 ((n : Int) + 2), v1, .pointer (some ⟨w.heap.size, 1, none⟩), .slice mp nm mc, .int .i64 (nm : Int), .int .i64 ((nm : Int) + 2), undef, .pointer (some ⟨w.heap.size, 1, none⟩), .slice mp nm mc, undef, .pointer (some ⟨w.heap.size, 2, none⟩), .slice lp nl lc, .int .i64 (nl : Int), .int .i64 ((nl : Int) + 2), undef, .pointer (some ⟨w.heap.size, 2, none⟩), .slice lp nl lc, undef, undef, undef, undef, undef, undef, undef, undef, undef, undef, undef, undef, undef, undef, undef, undef, undef, undef, undef, undef, undef, undef, undef, undef, undef, undef, undef, undef, undef], []⟩ y := by
    intro v1 y I
    have hH := I.base
    rw [hW]
    refine wpAnyH_ready (rs := [9, 17, 22]) (by kernel_rfl) (by simp) (AllReadyH.cons rfl (fun K hK => ?_) (AllReadyH.cons rfl (fun K hK => ?_) (AllReadyH.cons rfl (fun K hK => ?_) (AllReadyH.nil))))
    · rw [if_pos (by rfl)]
      obtain ⟨v2, y1, hr, I1⟩ := I.m2 (nm + 2) (by omega)
      rw [show ((nm + 2 : Nat) : Int) = (nm : Int) + 2 by omega] at hr
      go_wp2
      refine hK.out _ _ I1.base (fun _ => ?_)
      have q := sm1m2 v1 v2 y1 I1
      rw [hW] at q
      exact q
    · rw [if_pos (by rfl)]
      obtain ⟨v3, y1, hr, I1⟩ := I.m3 (nl + 2) (by omega)
      rw [show ((nl + 2 : Nat) : Int) = (nl : Int) + 2 by omega] at hr
      go_wp2
      refine hK.out _ _ I1.base (fun _ => ?_)
      have q := sm1m3 v1 v3 y1 I1
      rw [hW] at q
      exact q
    · rw [if_pos (by rfl)]
      have I1 := I.al
      go_wp2
      obtain ⟨b, hb⟩ : ∃ b, y.heap.size = b := ⟨_, rfl⟩
      rw [hb] at I1 ⊢
      refine hK.out _ _ I1.base (fun _ => ?_)
      have q := sm1al v1 b _ I1
      rw [hW] at q
      exact q
  have sm2 : ∀ (v2 : Value) (y : World), Iv w ob none (some v2) [] none [] none y → W 7 #[true, true, true, true, false, true, true, true, true, true, true, true, false, true, true, true, true, false, true, true, false, false, false, false] ⟨#[.agg (oC ob), .pointer (some ⟨w.heap.size, 0, none⟩), .pointer (some ⟨w.heap.size + 1, 0, none⟩), undef, undef, .pointer (some ⟨w.heap.size, 0, none⟩), .slice bp n bc, .int .i64 (n : Int), .int .i64 ((n : Int) + 2), undef, .pointer (some ⟨w.heap.size, 1, none⟩), .slice mp nm mc, .int .i64 (nm : Int), .int .i64 ((nm : Int) + 2), v2, .pointer (some ⟨w.heap.size, 1, none⟩), .slice mp nm mc, undef, .pointer (some ⟨w.heap.size, 2, none⟩), .slice lp nl lc, .int .i64 (nl : Int), .int .i64 ((nl : Int) + 2), undef, .pointer (some ⟨w.heap.size, 2, none⟩), .slice lp nl lc, undef, undef, undef, undef, undef, undef, undef, undef, undef, undef, undef, undef, undef, undef, undef, undef, undef, undef, undef, undef, undef, undef, undef, undef, undef, undef, undef, undef, undef], []⟩ y := by
    intro v2 y I
    have hH := I.base
    rw [hW]
    refine wpAnyH_ready (rs := [4, 12, 17, 22]) (by kernel_rfl) (by simp) (AllReadyH.cons rfl (fun K hK => ?_) (AllReadyH.cons rfl (fun K hK => ?_) (AllReadyH.cons rfl (fun K hK => ?_) (AllReadyH.cons rfl (fun K hK => ?_) (AllReadyH.nil)))))
    · rw [if_pos (by rfl)]
      obtain ⟨v1, y1, hr, I1⟩ := I.m1 (n + 2) (by omega)
      rw [show ((n + 2 : Nat) : Int) = (n : Int) + 2 by omega] at hr
      go_wp2
      refine hK.out _ _ I1.base (fun _ => ?_)
      have q := sm1m2 v1 v2 y1 I1
      rw [hW] at q
      exact q
    · rw [if_pos (by rfl)]
      obtain ⟨v2', y1, hr, I1⟩ := I.a2 mp ob.M nm mc 23 hnn.out.1 hLM.out.1 (by omega)
      unfold Oper.wp
      simp [execOp, resolve, invoke, builtin, hr, Result.andThen, Act.eval]
      refine hK.out _ _ I1.base (fun _ => ?_)
      have q := sm2a2 v2 v2' y1 I1
      rw [hW] at q
      exact q
    · rw [if_pos (by rfl)]
      obtain ⟨v3, y1, hr, I1⟩ := I.m3 (nl + 2) (by omega)
      rw [show ((nl + 2 : Nat) : Int) = (nl : Int) + 2 by omega] at hr
      go_wp2
      refine hK.out _ _ I1.base (fun _ => ?_)
      have q := sm2m3 v2 v3 y1 I1
      rw [hW] at q
      exact q
    · rw [if_pos (by rfl)]
      have I1 := I.al
      go_wp2
      obtain ⟨b, hb⟩ : ∃ b, y.heap.size = b := ⟨_, rfl⟩
      rw [hb] at I1 ⊢
      refine hK.out _ _ I1.base (fun _ => ?_)
      have q := sm2al v2 b _ I1
      rw [hW] at q
      exact q
  have sm3 : ∀ (v3 : Value) (y : World), Iv w ob none none [] (some v3) [] none y → W 7 #[true, true, true, true, false, true, true, true, true, false, true, true, false, true, true, true, true, true, true, true, false, false, false, false] ⟨#[.agg (oC ob), .pointer (some ⟨w.heap.size, 0, none⟩), .pointer (some ⟨w.heap.size + 1, 0, none⟩), undef, undef, .pointer (some ⟨w.heap.size, 0, none⟩), .slice bp n bc, .int .i64 (n : Int), .int .i64 ((n : Int) + 2), undef, .pointer (some ⟨w.heap.size, 1, none⟩), .slice mp nm mc, .int .i64 (nm : Int), .int .i64 ((nm : Int) + 2), undef, .pointer (some ⟨w.heap.size, 1, none⟩), .slice mp nm mc, undef, .pointer (some ⟨w.heap.size, 2, none⟩), .slice lp nl lc, .int .i64 (nl : Int), .int .i64 ((nl : Int) + 2), v3, .pointer (some ⟨w.heap.size, 2, none⟩), .slice lp nl lc, undef, undef, undef, undef, undef, undef, undef, undef, undef, undef, undef, undef, undef, undef, undef, undef, undef, undef, undef, undef, undef, undef, undef, undef, undef, undef, undef, undef, undef], []⟩ y := by
    intro v3 y I
    have hH := I.base
    rw [hW]
    refine wpAnyH_ready (rs := [4, 9, 22]) (by kernel_rfl) (by simp) (AllReadyH.cons rfl (fun K hK => ?_) (AllReadyH.cons rfl (fun K hK => ?_) (AllReadyH.cons rfl (fun K hK => ?_) (AllReadyH.nil))))
    · rw [if_pos (by rfl)]
      obtain ⟨v1, y1, hr, I1⟩ := I.m1 (n + 2) (by omega)
      rw [show ((n + 2 : Nat) : Int) = (n : Int) + 2 by omega] at hr
      go_wp2
      refine hK.out _ _ I1.base (fun _ => ?_)
      have q := sm1m3 v1 v3 y1 I1
      rw [hW] at q
      exact q
    · rw [if_pos (by rfl)]
      obtain ⟨v2, y1, hr, I1⟩ := I.m2 (nm + 2) (by omega)
      rw [show ((nm + 2 : Nat) : Int) = (nm : Int) + 2 by omega] at hr
      go_wp2
      refine hK.out _ _ I1.base (fun _ => ?_)
      have q := sm2m3 v2 v3 y1 I1
      rw [hW] at q
      exact q
    · rw [if_pos (by rfl)]
      have I1 := I.al
      go_wp2
      obtain ⟨b, hb⟩ : ∃ b, y.heap.size = b := ⟨_, rfl⟩
      rw [hb] at I1 ⊢
      refine hK.out _ _ I1.base (fun _ => ?_)
      have q := sm3al v3 b _ I1
      rw [hW] at q
      exact q
  have sal : ∀ (b : Nat) (y : World), Iv w ob none none [] none [] (some b) y → W 7 #[true, true, true, true, false, true, true, true, true, false, true, true, false, true, true, true, true, false, true, true, false, false, true, false] ⟨#[.agg (oC ob), .pointer (some ⟨w.heap.size, 0, none⟩), .pointer (some ⟨w.heap.size + 1, 0, none⟩), .pointer (some ⟨b, 0, none⟩), undef, .pointer (some ⟨w.heap.size, 0, none⟩), .slice bp n bc, .int .i64 (n : Int), .int .i64 ((n : Int) + 2), undef, .pointer (some ⟨w.heap.size, 1, none⟩), .slice mp nm mc, .int .i64 (nm : Int), .int .i64 ((nm : Int) + 2), undef, .pointer (some ⟨w.heap.size, 1, none⟩), .slice mp nm mc, undef, .pointer (some ⟨w.heap.size, 2, none⟩), .slice lp nl lc, .int .i64 (nl : Int), .int .i64 ((nl : Int) + 2), undef, .pointer (some ⟨w.heap.size, 2, none⟩), .slice lp nl lc, undef, undef, undef, undef, undef, undef, undef, undef, undef, undef, undef, undef, undef, undef, undef, undef, undef, undef, undef, undef, undef, undef, undef, undef, undef, undef, undef, undef, undef], []⟩ y := by
    intro b y I
    have hH := I.base
    rw [hW]
    refine wpAnyH_ready (rs := [4, 9, 17]) (by kernel_rfl) (by simp) (AllReadyH.cons rfl (fun K hK => ?_) (AllReadyH.cons rfl (fun K hK => ?_) (AllReadyH.cons rfl (fun K hK => ?_) (AllReadyH.nil))))
    · rw [if_pos (by rfl)]
      obtain ⟨v1, y1, hr, I1⟩ := I.m1 (n + 2) (by omega)
      rw [show ((n + 2 : Nat) : Int) = (n : Int) + 2 by omega] at hr
      go_wp2
      refine hK.out _ _ I1.base (fun _ => ?_)
      have q := sm1al v1 b y1 I1
      rw [hW] at q
      exact q
    · rw [if_pos (by rfl)]
      obtain ⟨v2, y1, hr, I1⟩ := I.m2 (nm + 2) (by omega)
      rw [show ((nm + 2 : Nat) : Int) = (nm : Int) + 2 by omega] at hr
      go_wp2
      refine hK.out _ _ I1.base (fun _ => ?_)
      have q := sm2al v2 b y1 I1
      rw [hW] at q
      exact q
    · rw [if_pos (by rfl)]
      obtain ⟨v3, y1, hr, I1⟩ := I.m3 (nl + 2) (by omega)
      rw [show ((nl + 2 : Nat) : Int) = (nl : Int) + 2 by omega] at hr
      go_wp2
      refine hK.out _ _ I1.base (fun _ => ?_)
      have q := sm3al v3 b y1 I1
      rw [hW] at q
      exact q
  have s : ∀  (y : World), Iv w ob none none [] none [] none y → W 8 #[true, true, true, true, false, true, true, true, true, false, true, true, false, true, true, true, true, false, true, true, false, false, false, false] ⟨#[.agg (oC ob), .pointer (some ⟨w.heap.size, 0, none⟩), .pointer (some ⟨w.heap.size + 1, 0, none⟩), undef, undef, .pointer (some ⟨w.heap.size, 0, none⟩), .slice bp n bc, .int .i64 (n : Int), .int .i64 ((n : Int) + 2), undef, .pointer (some ⟨w.heap.size, 1, none⟩), .slice mp nm mc, .int .i64 (nm : Int), .int .i64 ((nm : Int) + 2), undef, .pointer (some ⟨w.heap.size, 1, none⟩), .slice mp nm mc, undef, .pointer (some ⟨w.heap.size, 2, none⟩), .slice lp nl lc, .int .i64 (nl : Int), .int .i64 ((nl : Int) + 2), undef, .pointer (some ⟨w.heap.size, 2, none⟩), .slice lp nl lc, undef, undef, undef, undef, undef, undef, undef, undef, undef, undef, undef, undef, undef, undef, undef, undef, undef, undef, undef, undef, undef, undef, undef, undef, undef, undef, undef, undef, undef], []⟩ y := by
    intro  y I
    have hH := I.base
    rw [hW]
    refine wpAnyH_ready (rs := [4, 9, 17, 22]) (by kernel_rfl) (by simp) (AllReadyH.cons rfl (fun K hK => ?_) (AllReadyH.cons rfl (fun K hK => ?_) (AllReadyH.cons rfl (fun K hK => ?_) (AllReadyH.cons rfl (fun K hK => ?_) (AllReadyH.nil)))))
    · rw [if_pos (by rfl)]
      obtain ⟨v1, y1, hr, I1⟩ := I.m1 (n + 2) (by omega)
      rw [show ((n + 2 : Nat) : Int) = (n : Int) + 2 by omega] at hr
      go_wp2
      refine hK.out _ _ I1.base (fun _ => ?_)
      have q := sm1 v1 y1 I1
      rw [hW] at q
      exact q
    · rw [if_pos (by rfl)]
      obtain ⟨v2, y1, hr, I1⟩ := I.m2 (nm + 2) (by omega)
      rw [show ((nm + 2 : Nat) : Int) = (nm : Int) + 2 by omega] at hr
      go_wp2
      refine hK.out _ _ I1.base (fun _ => ?_)
      have q := sm2 v2 y1 I1
      rw [hW] at q
      exact q
    · rw [if_pos (by rfl)]
      obtain ⟨v3, y1, hr, I1⟩ := I.m3 (nl + 2) (by omega)
      rw [show ((nl + 2 : Nat) : Int) = (nl : Int) + 2 by omega] at hr
      go_wp2
      refine hK.out _ _ I1.base (fun _ => ?_)
      have q := sm3 v3 y1 I1
      rw [hW] at q
      exact q
    · rw [if_pos (by rfl)]
      have I1 := I.al
      go_wp2
      obtain ⟨b, hb⟩ : ∃ b, y.heap.size = b := ⟨_, rfl⟩
      rw [hb] at I1 ⊢
      refine hK.out _ _ I1.base (fun _ => ?_)
      have q := sal b _ I1
      rw [hW] at q
      exact q
  exact cast4 (s z0 I0.out) (by kernel_rfl) (by kernel_rfl) (by kernel_rfl)
end Go.Proofs.YtkpfhnogpcigaaaDoorR
