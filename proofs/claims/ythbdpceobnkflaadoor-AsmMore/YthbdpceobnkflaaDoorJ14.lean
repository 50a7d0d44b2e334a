/- Any piece's bytes, written where it lies, or why they can't be. A label's address: the program's answer and the document's. -/
import Derived.Test.YthbdpceobnkflaaDoorJ13
import Derived.Test.YthbdpceobnkflaaDoorJ7
import Derived.BigQuiet
namespace Go.Proofs.YthbdpceobnkflaaDoor
open Go Go.RowKit
set_option linter.unusedVariables false
set_option maxHeartbeats 3000000
set_option maxRecDepth 20000

theorem fill_bad (B : Nat) (q : Nu) (s : Sh) (M : List UInt8) (vl : Value) (l : List Lp) (y : World) (hB : B ≤ y.heap.size) (x : Lp) (E : Int) (hE : E ≠ 0) (L : List UInt8)
    (hT : ∀ u, Below y.heap.size y u → Calls Tryd.prog 34 #[.pointer (some ⟨q.s, 0, none⟩), .agg (lpA x)] u fun e z => ∃ g : Int, e = .returned (.tuple #[.int .i64 g, .int .i64 E]) ∧ Hid (Below u.heap.size u z)) :
    Calls Tryd.prog 24 #[.pointer (some ⟨q.s, 0, none⟩), .agg (lpA x)] y (FiE B q s M vl l E x.a L y) := by
  have K0 : Hid (Fm y [(y.heap.size, lpA x, 72)] (y.alloc (.cells (lpA x) 72))) := Fm.one y _ _
  have hE' : (E != 0) = true := by rw [bne_iff_ne]; exact hE
  have hTg : Hid (∀ u, Below y.heap.size y u → Calls Tryd.prog 34 #[.pointer (some ⟨q.s, 0, none⟩), .agg (lpA x)] u fun e z => ∃ g : Int, e = .returned (.tuple #[.int .i64 g, .int .i64 E]) ∧ Hid (Below u.heap.size u z)) := hT
  have hfin : Hid (∀ z, Below y.heap.size y z → FiE B q s M vl l E x.a L y (.returned (.int .i64 E)) z) := fun z hz => ⟨rfl, hz.mono hB, fun h => absurd h hE⟩
  generalize FiE B q s M vl l E x.a L y = Fin at hfin ⊢
  clear hE hT hB
  go_enter Tryd.func24, Tryd.ntmps24
  go_wp2_with (first
    | ((with_reducible refine at_load rtLp y.heap.size (lpA x) ?_ ?_ (.tmp 3) ?_ ?_ ?_ ?_); exact K0.out.bx 0 _ _ _ rfl; rfl; rfl; rfl; rfl)
    | (go_at_call 34; refine (hTg.out _ K0.out.low).mono ?_; rintro e z ⟨g, rfl, H⟩; clear hTg))
  exact hfin.out _ (of_below K0.out.low H.out)
theorem opF_may {r : Ri} {n t : Nat} (hn : n < 256) (ht : t ≤ 65535) (htk : takesB (fm n : Nat) r.p = true) : may n ((opF (fm n : Nat) r.p t : Nat) : Int) := by
  have hf := fm_le n hn
  have l4 : lay (4 * 3 + 2) = 255 := by decide
  have l5 : lay (5 * 3 + 2) = 255 := by decide
  have l6 : lay (6 * 3 + 2) = 65535 := by decide
  have hh := (held_lt n (fm n)).2.2.2.2
  unfold takesB at htk
  unfold may opF
  by_cases h4 : fm n = 4
  · rw [h4] at htk hh ⊢
    simp at htk
    rw [hh (by decide) (by decide), l4]
    rcases htk with e | e <;> simp [e] <;> omega
  · by_cases h5 : fm n = 5
    · rw [h5] at htk hh ⊢
      simp at htk
      rw [hh (by decide) (by decide), l5]
      simp [htk]
      omega
    · by_cases h6 : fm n = 6
      · rw [h6] at htk hh ⊢
        simp at htk
        rw [hh (by decide) (by decide), l6]
        simp [htk]
        omega
      · exfalso
        have e4 : ¬ ((fm n : Nat) : Int) = 4 := by omega
        have e5 : ¬ (((fm n : Nat) : Int) = 5 ∨ ((fm n : Nat) : Int) = 6) := by omega
        rw [if_neg e4, if_neg e5] at htk
        cases htk
theorem opF_opnd {r : Ri} {n t : Nat} (ho : opOf r.n = some n) : opF (fm n : Nat) r.p t = opndI r t := by
  unfold opF opndI fmS
  rw [ho]
  simp only
  by_cases h : fm n = 5
  · have : ((fm n : Nat) : Int) = 5 := by omega
    simp [h]
  · have : ¬ ((fm n : Nat) : Int) = 5 := by omega
    simp [h, this]
theorem flB_len (N : List (ByteArray × Nat)) (x : Itm) (p : Nat) (hm : mayI x.1 = true) (hx : x.2.length = x.1.m) (h9 : flE N p x.1 = 0) : (flB N x).length = (if x.1.k = 1 ∨ x.1.k = 4 then 0 else szN x.1) := by
  unfold flB
  rcases may_kind hm with hk | hk | hk | hk | hk
  · rw [if_neg (by omega), if_neg (by omega), if_neg (by omega), if_pos (.inl hk)]; rfl
  · obtain ⟨n, ho⟩ := mayI_code hm hk
    rw [if_neg (by omega), if_neg (by omega), if_pos hk, szN_c hm hk ho, encL_len _ _ n ho, if_neg (by omega)]
  · rw [if_pos hk, if_neg (by omega), hx, (szN_k hm hk).1]
  · rw [if_neg (by omega), if_neg (by omega), if_neg (by omega), if_pos (.inr hk)]; rfl
  · rw [if_neg (by omega), if_pos hk, if_neg (by omega), szN_a hm hk]; rfl
theorem fill_any (B : Nat) (q : Nu) (s : Sh) (M : List UInt8) (hM : M.length = 65536) (vl : Value) (l : List Lp) (y : World) (T : Hid (Tabs y)) (h : Hid (Sht B q s M vl l y)) (a : Nat) (ha : a ≤ 65536) (x : Itm) (hm : mayI x.1 = true) (hx : LB8 y x.1.sp x.2 ∧ x.2.length = x.1.m)
    (t : TypeId) (v : Value) (hp : PcV q.b x.1 t v y) (hfit : (x.1.k = 1 ∨ x.1.k = 4) ∨ a + szN x.1 ≤ 65536) :
    Calls Tryd.prog 24 #[.pointer (some ⟨q.s, 0, none⟩), .agg (lpA ⟨t, v, a⟩)] y (FiE B q s M vl l (flE s.N a x.1) a (flB s.N x) y) := by
  have hB := h.out.Ble
  rcases hp with ⟨hk, rfl, rfl⟩ | ⟨hk, rfl, rfl⟩ | ⟨hk, rfl, rfl⟩ | ⟨hk, rfl, rfl⟩ | ⟨hk, hp0, rfl, ⟨g, _, rfl, hbx⟩, n, ho, hma⟩ | ⟨hk, hp0, rfl, n, ho, rfl⟩
  · have e1 : flE s.N a x.1 = 0 := by unfold flE asksI; simp [hk]
    have e2 : flB s.N x = [] := by unfold flB; simp [hk]
    rw [e1, e2]
    exact fill_label B q s M hM vl l y h a ha _ (by simpa using ha)
  · have e1 : flE s.N a x.1 = 0 := by unfold flE asksI; simp [hk]
    have e2 : flB s.N x = [] := by unfold flB; simp [hk]
    rw [e1, e2]
    exact fill_move B q s M hM vl l y h a ha _ (by simpa using ha)
  · have e1 : flE s.N a x.1 = 0 := by unfold flE asksI; simp [hk]
    have e2 : flB s.N x = x.2 := by unfold flB; simp [hk]
    rw [e1, e2]
    exact fill_data B q s M hM vl l y h a ha _ _ _ x.2 hx.2 hx.1 (by rw [hx.2, ← (szN_k hm hk).1]; omega)
  · have ea : asksI x.1 = true := by unfold asksI; simp [hk]
    rcases hf : lookN s.N x.1.l with _ | t
    · have e1 : flE s.N a x.1 = 141 := by unfold flE; rw [ea, if_pos rfl, hf]
      rw [e1]
      refine fill_bad B q s M vl l y hB ⟨99, .agg #[.string x.1.l], a⟩ 141 (by decide) _ fun u hu => ?_
      have c := target_address q s.p vl s.N u (h.out.bx.below hu) (h.out.m.keep (hu.block _ h.out.m.lt)) x.1.l a
      unfold fdE at c
      rw [hf] at c
      exact c.mono fun e z hz => ⟨_, hz.1, hz.2⟩
    · have e1 : flE s.N a x.1 = 0 := by unfold flE; rw [ea, if_pos rfl, hf]; simp [hk]
      have e2 : flB s.N x = [UInt8.ofNat (t / 256), UInt8.ofNat t] := by unfold flB tgtN; rw [ea, if_neg (by omega), if_pos hk, if_pos rfl, hf]; rfl
      rw [e1, e2]
      exact fill_address B q s M hM vl l y h a ha _ t hf (by rw [szN_a hm hk] at hfit; show a + 2 ≤ _; omega)
  · have e1 : flE s.N a x.1 = 0 := by unfold flE asksI; simp [hk, hp0]
    have e2 : flB s.N x = encL x.1.n x.1.a := by unfold flB; simp [hk, hp0]
    rw [e1, e2]
    exact fill_plain B q s M hM vl l y h a ha _ _ _ (encL x.1.n x.1.a) rfl (lb_bx hbx) (by rw [encL_len _ _ n ho, ← szN_c hm hk ho]; omega)
  · have ea : asksI x.1 = true := by unfold asksI; simp [hk, hp0]
    have ef : fmS x.1.n = fm n := by unfold fmS; rw [ho]
    have eg : flE s.N a x.1 = tgE s.N a (fm n : Nat) x.1.l := by
      unfold flE tgE
      rw [ea, if_pos rfl, ef]
      rcases lookN s.N x.1.l with _ | t
      · rfl
      · simp only
        by_cases h5 : fm n = 5
        · simp [hk, h5]
        · have : ¬ ((fm n : Nat) : Int) = 5 := by omega
          simp [h5, this]
    rw [eg]
    by_cases h0 : tgE s.N a (fm n : Nat) x.1.l = 0
    · obtain ⟨t, hf, hng⟩ : ∃ t, lookN s.N x.1.l = some t ∧ ¬ (((fm n : Nat) : Int) = 5 ∧ t / 256 ≠ (a + 1) / 256) := by
        unfold tgE at h0
        rcases hf : lookN s.N x.1.l with _ | t
        · rw [hf] at h0; simp at h0
        · rw [hf] at h0
          refine ⟨t, rfl, fun h9 => ?_⟩
          simp only at h0
          rw [if_pos h9] at h0
          omega
      obtain ⟨n', ho', htk⟩ := may_lab hm hk hp0
      rw [ho] at ho'
      cases ho'
      have hto := look_le h.out.ok.n hf
      have e2 : flB s.N x = encL x.1.n ((opF (fm n : Nat) x.1.p t : Nat) : Int) := by
        unfold flB tgtN
        rw [ea, if_neg (by omega), if_neg (by omega), if_pos hk, if_neg hp0, if_pos rfl, hf, opF_opnd ho]
        rfl
      rw [h0, e2]
      exact fill_labelled B q s M hM vl l y h a ha _ _ _ _ _ _ T t hf hng n ho (opF_may (opOf_lt ho).1 hto htk) (by rw [encL_len _ _ n ho, ← szN_c hm hk ho]; omega)
    · refine fill_bad B q s M vl l y hB ⟨103, .agg (lbC x.1.n (fm n : Nat) (lay (fm n * 3)) (cyc n : Nat) x.1.l x.1.p), a⟩ _ h0 _ fun u hu => ?_
      have c := target_labelled q s.p vl s.N h.out.ok.n u (h.out.bx.below hu) (h.out.m.keep (hu.block _ h.out.m.lt)) x.1.n (fm n : Nat) (lay (fm n * 3)) (cyc n : Nat) x.1.l x.1.p a ha
      exact c.mono fun e z ⟨g, h1, h2⟩ => ⟨g, h1, h2.out.2⟩
end Go.Proofs.YthbdpceobnkflaaDoor

namespace Go.Proofs.YthbdpceobnkflaaDoor
open Go Go.RowKit
set_option linter.unusedVariables false
set_option maxHeartbeats 3000000
set_option maxRecDepth 20000

def findL : List La → ByteArray → Option Int
  | [], _ => none
  | l :: r, s => if l.n = s then some l.a else findL r s
theorem ofind_any (w : World) (ob : Oo) (h : Hid (Lo w ob)) (s : ByteArray) : Calls Tryd.prog 11 #[.agg (oC ob), .string s] w fun e w' => e = .returned (.tuple #[.int .i64 ((findL ob.L s).getD 0), .bool (findL ob.L s).isSome]) ∧ Hid (Below w.heap.size w w') := by
  obtain ⟨R, hR⟩ : ∃ R, findL ob.L s = R := ⟨_, rfl⟩
  have hR' : Hid (findL ob.L s = R) := hR
  have K0 : Hid (Fm w [(w.heap.size, oC ob, 29)] (w.alloc (.cells (oC ob) 29))) := Fm.one w _ _
  obtain ⟨n, hn'⟩ : ∃ n, ob.L.length = n := ⟨_, rfl⟩
  have hnn : Hid (ob.L.length = n) := hn'
  have ni : (n : Int) ≤ 2147483647 := by have := h.out.n; omega
  obtain ⟨sp, hsp⟩ : ∃ q, ob.lp = q := ⟨_, rfl⟩
  obtain ⟨cap, hcap⟩ : ∃ q, ob.lc = q := ⟨_, rfl⟩
  have e2 : (w.alloc (.cells (oC ob) 29)).cell? ⟨w.heap.size, 2, none⟩ = some (.slice sp n cap) := by
    have := (K0.out.bx 0 _ _ _ rfl).c 2 (.slice ob.lp ob.L.length ob.lc) rfl
    rw [hsp, hcap, hn'] at this
    exact this
  have hl : Hid (LiesL 2 cLa w sp ob.L) := by rw [← hsp]; exact h.out.l
  rw [hR]
  clear hR hn' hsp hcap
  go_enter Tryd.func11, Tryd.ntmps11
  go_wp2
  go_loopw [11] (fun t wz => ∃ (i : Nat) (y : World), y = wz ∧ t = .int .i64 (i : Int) ∧ Hid (i ≤ n ∧ findL (ob.L.drop i) s = R) ∧ Hid (Below w.heap.size w y)) (fun t _ => (n - intOf t).toNat)
  case atStart => exact ⟨0, _, rfl, rfl, ⟨Nat.zero_le _, hR'.out⟩, K0.out.low⟩
  case round =>
    obtain ⟨i, y, rfl, rfl, J, K⟩ := hrel
    clear e2
    by_cases hlt : i < n
    · obtain ⟨x, hx⟩ : ∃ x, ob.L[i]? = some x := ⟨_, List.getElem?_eq_getElem (by rw [hnn.out]; exact hlt)⟩
      obtain ⟨g, o, rfl, hc⟩ := hl.out i x hx
      have hc' : Hid (y.rangeAt g (o + i * 2) (kl x).toList) := range_keep hc K.out
      have hd : ob.L.drop i = x :: ob.L.drop (i + 1) := by
        obtain ⟨h1, e⟩ := List.getElem?_eq_some_iff.1 hx
        rw [List.drop_eq_getElem_cons h1, e]
      have hO : Hid (R = if x.n = s then some x.a else findL (ob.L.drop (i + 1)) s) := by
        have h1 := J.out.2
        rw [hd] at h1
        exact h1.symm
      have ij := fun w => idxP (P := Tryd.prog) (g := g) (off := o) (len := n) (cap := cap) Tryd.underlying27 (s := 2) (by kernel_rfl) .i64 i w hlt
      have hii : (i : Int) < n := by omega
      have hlt' : Hid (i < n) := hlt
      by_cases he : x.n = s
      · have qe : (x.n.toList == s.toList) = true := str_eq he
        have fin : Hid (R = some x.a) := by show _ = _; rw [hO.out, if_pos he]
        replace he : Hid _ := he
        clear hlt hx hc hd hO
        go_wp2_with (first
          | ((with_reducible refine at_loadm rtLa g (o + i * 2) (kl x) ?_ ?_ (.tmp 13) ?_ ?_ ?_ ?_); exact hc'.out; rfl; kernel_rfl; rfl; rfl)
          | ((with_reducible refine gen_world (y.alloc (.cells #[.string ⟨#[]⟩, .int .i64 0] 52)) (Fm y [(y.heap.size, kl zL, 52)]) ?_ ?_); exact Fm.one y _ _; intro y1 K1)
          | ((with_reducible refine at_st rtLa y.heap.size (kl zL) (kl x) ?_ ?_ ?_ ?_ (.tmp 7) (.tmp 14) ?_ ?_ ?_ ?_ ?_); exact K1.out.bx 0 _ _ _ rfl; rfl; rfl; exact oneLa _; rfl; rfl; rfl; rfl; intro y2 hw2; have K2 : Hid (Fm y [(y.heap.size, kl x, 52)] y2) := K1.out.put 0 _ _ _ _ rfl hw2.out; clear hw2; have d0 := (K2.out.bx 0 _ _ _ rfl).c 0 (.string x.n) rfl; have d1 := (K2.out.bx 0 _ _ _ rfl).c 1 (.int .i64 x.a) rfl))
        go_ret2
        rw [fin.out]
        exact ⟨rfl, of_below K.out K2.out.low⟩
      · have qe : (x.n.toList == s.toList) = false := str_ne he
        have J2 : Hid (i + 1 ≤ n ∧ findL (ob.L.drop (i + 1)) s = R) := ⟨hlt, by rw [hO.out, if_neg he]⟩
        replace he : Hid _ := he
        clear hlt hx hc hd hO
        go_wp2_with (first
          | ((with_reducible refine at_loadm rtLa g (o + i * 2) (kl x) ?_ ?_ (.tmp 13) ?_ ?_ ?_ ?_); exact hc'.out; rfl; kernel_rfl; rfl; rfl)
          | ((with_reducible refine gen_world (y.alloc (.cells #[.string ⟨#[]⟩, .int .i64 0] 52)) (Fm y [(y.heap.size, kl zL, 52)]) ?_ ?_); exact Fm.one y _ _; intro y1 K1)
          | ((with_reducible refine at_st rtLa y.heap.size (kl zL) (kl x) ?_ ?_ ?_ ?_ (.tmp 7) (.tmp 14) ?_ ?_ ?_ ?_ ?_); exact K1.out.bx 0 _ _ _ rfl; rfl; rfl; exact oneLa _; rfl; rfl; rfl; rfl; intro y2 hw2; have K2 : Hid (Fm y [(y.heap.size, kl x, 52)] y2) := K1.out.put 0 _ _ _ _ rfl hw2.out; clear hw2; have d0 := (K2.out.bx 0 _ _ _ rfl).c 0 (.string x.n) rfl; have d1 := (K2.out.bx 0 _ _ _ rfl).c 1 (.int .i64 x.a) rfl))
        go_roundw
        case rel => exact ⟨i + 1, _, rfl, by simp, J2, of_below K.out K2.out.low⟩
        case measure => have := hlt'.out; simp [intOf]; omega
    · have hie : i = n := by have := J.out.1; omega
      subst hie
      have fin : Hid (R = none) := by
        have h1 := J.out.2
        rw [List.drop_eq_nil_of_le (by rw [hnn.out]; exact Nat.le_refl _)] at h1
        exact h1.symm
      clear hlt
      go_wp2
      go_ret2
      rw [fin.out]
      exact ⟨rfl, K.out⟩
end Go.Proofs.YthbdpceobnkflaaDoor
