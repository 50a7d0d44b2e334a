/- The statements' own: what is too large. -/
import Derived.Test.YtkpfhnogpcigaaaDoorRJFo
import Derived.BigQuiet
namespace Go.Proofs.YtkpfhnogpcigaaaDoorR
open Go Go.RowKit
set_option linter.unusedVariables false
set_option maxHeartbeats 3000000
set_option maxRecDepth 20000

def LgE (w : World) (ob : Oo) (e : Ending) (w' : World) : Prop := ∃ b, e = .returned (.bool b) ∧ Hid (Below w.heap.size w w' ∧ (b = false → (ob.B.length ≤ 2147483647 ∧ ob.M.length ≤ 2147483647 ∧ ob.L.length ≤ 2147483647) ∧ ∀ x ∈ ob.B, x.1.m ≤ 2147483647))
theorem large_any (w : World) (ob : Oo) (hl : Hid (LiesL 2 cK w ob.bp (ob.B.map (·.1)))) (hn : ob.B.length ≤ 140737488355328 ∧ ob.M.length ≤ 140737488355328 ∧ ob.L.length ≤ 140737488355328) (hm : ∀ x ∈ ob.B, x.1.m ≤ 140737488355328) :
    Calls Tryd.prog 7 #[.agg (oC ob)] w (LgE w ob) := by
  have K0 : Hid (Fm w [(w.heap.size, oC ob, 26)] (w.alloc (.cells (oC ob) 26))) := Fm.one w _ _
  obtain ⟨n, hn'⟩ : ∃ n, ob.B.length = n := ⟨_, rfl⟩
  have hnn : Hid (ob.B.length = n) := hn'
  obtain ⟨nm, hnm⟩ : ∃ n, ob.M.length = n := ⟨_, rfl⟩
  obtain ⟨nl, hnl⟩ : ∃ n, ob.L.length = n := ⟨_, rfl⟩
  obtain ⟨bp, hbp⟩ : ∃ q, ob.bp = q := ⟨_, rfl⟩
  obtain ⟨bc, hbc⟩ : ∃ q, ob.bc = q := ⟨_, rfl⟩
  obtain ⟨mp, hmp⟩ : ∃ q, ob.mp = q := ⟨_, rfl⟩
  obtain ⟨mc, hmc⟩ : ∃ q, ob.mc = q := ⟨_, rfl⟩
  obtain ⟨lp, hlp⟩ : ∃ q, ob.lp = q := ⟨_, rfl⟩
  obtain ⟨lc, hlc⟩ : ∃ q, ob.lc = q := ⟨_, rfl⟩
  have hd : Hid (∀ y, Fm w [(w.heap.size, oC ob, 26)] y → y.cell? ⟨w.heap.size, 0, none⟩ = some (.slice bp n bc) ∧ y.cell? ⟨w.heap.size, 1, none⟩ = some (.slice mp nm mc) ∧ y.cell? ⟨w.heap.size, 2, none⟩ = some (.slice lp nl lc)) := fun y hy => by
    have h0 := (hy.bx 0 _ _ _ rfl).c 0 (.slice ob.bp ob.B.length ob.bc) rfl
    have h1 := (hy.bx 0 _ _ _ rfl).c 1 (.slice ob.mp ob.M.length ob.mc) rfl
    have h2 := (hy.bx 0 _ _ _ rfl).c 2 (.slice ob.lp ob.L.length ob.lc) rfl
    rw [hbp, hn', hbc] at h0
    rw [hmp, hnm, hmc] at h1
    rw [hlp, hnl, hlc] at h2
    exact ⟨h0, h1, h2⟩
  rw [hn', hnm, hnl] at hn
  have hnn2 : Hid (ob.M.length = nm ∧ ob.L.length = nl) := ⟨hnm, hnl⟩
  rw [hbp] at hl
  have n1 : (n : Int) ≤ 140737488355328 := by omega
  have n2 : (nm : Int) ≤ 140737488355328 := by omega
  have n3 : (nl : Int) ≤ 140737488355328 := by omega
  have hmm : Hid (∀ x ∈ ob.B, x.1.m ≤ 140737488355328) := hm
  clear hn hn' hnm hnl hbp hbc hmp hmc hlp hlc hm
  obtain ⟨e0, e1, e2⟩ := hd.out _ K0.out
  go_enter Tryd.func7, Tryd.ntmps7
  go_wp2
  go_loopw [3, 4] (fun s t wz => ∃ (N : Int) (i : Nat) (y : World), y = wz ∧ s = .int .i64 N ∧ t = .int .i64 (i : Int) ∧ Hid (i ≤ n ∧ (n : Int) + nm + nl ≤ N ∧ N ≤ 562949953421312 ∧ ∀ x ∈ ob.B.take i, (x.1.m : Int) ≤ N) ∧ Hid (Fm w [(w.heap.size, oC ob, 26)] y)) (fun _ t _ => (n - intOf t).toNat)
  case atStart => exact ⟨(n : Int) + nm + nl, 0, _, rfl, rfl, rfl, ⟨Nat.zero_le _, Int.le_refl _, by omega, fun x hx => by simp at hx⟩, K0⟩
  case round =>
    clear e0 e1 e2
    obtain ⟨N, i, y, rfl, rfl, rfl, J, K⟩ := hrel
    obtain ⟨e0, e1, e2⟩ := hd.out _ K.out
    have N0 := J.out.2.1
    by_cases hbig : 2147483647 < N
    · by_cases hlt : i < n
      · have hii : (i : Int) < n := by omega
        go_wp2
        go_ret
        exact ⟨_, rfl, K.out.low, fun h => by simp at h⟩
      · have hie : i = n := by have := J.out.1; omega
        subst hie
        clear hlt
        go_wp2
        go_ret
        exact ⟨_, rfl, K.out.low, fun h => by simp at h⟩
    · by_cases hlt : i < n
      · obtain ⟨x, hx⟩ : ∃ x, ob.B[i]? = some x := ⟨_, List.getElem?_eq_getElem (by rw [hnn.out]; exact hlt)⟩
        obtain ⟨gb, o, rfl, hcx⟩ := hl.out i x.1 (by rw [List.getElem?_map, hx]; rfl)
        have hxm := hmm.out x (List.mem_of_getElem? hx)
        have c1 := range_keep hcx K.out.low 1 (.slice x.1.sp x.1.m x.1.cap) rfl
        have ij := fun w => idxP (P := Tryd.prog) (g := gb) (off := o) (len := n) (cap := bc) Tryd.underlying22 (s := 2) (by kernel_rfl) .i64 i w hlt
        have hii : (i : Int) < n := by omega
        have hlt' : Hid (i < n) := hlt
        have J9 : Hid (i + 1 ≤ n ∧ (n : Int) + nm + nl ≤ N + x.1.m ∧ N + x.1.m ≤ 562949953421312 ∧ ∀ q ∈ ob.B.take (i + 1), (q.1.m : Int) ≤ N + x.1.m) := by
          refine ⟨hlt, by omega, by omega, fun q hq => ?_⟩
          rw [List.take_add_one, hx] at hq
          rcases List.mem_append.1 hq with h | h
          · have := J.out.2.2.2 q h; omega
          · simp at h
            subst h
            omega
        obtain ⟨L, hL⟩ : ∃ L, x.1.m = L := ⟨_, rfl⟩
        rw [hL] at J9 c1 hxm
        have Li : (L : Int) ≤ 140737488355328 := by omega
        have wl : IntKind.i64.wrap (N + L) = N + L := by rw [IntKind.wrap_i64]; omega
        clear hlt hx hcx hL hxm J
        go_wp2
        go_roundw
        case rel => exact ⟨_, i + 1, _, rfl, rfl, by simp, J9, K⟩
        case measure => have := hlt'.out; simp [intOf]; omega
      · have hie : i = n := by have := J.out.1; omega
        subst hie
        clear hlt
        go_wp2
        go_ret
        refine ⟨_, rfl, K.out.low, fun h => ?_⟩
        have h2 := J.out.2.2.2
        rw [List.take_of_length_le (by rw [hnn.out]; exact Nat.le_refl _)] at h2
        exact ⟨⟨by rw [hnn.out]; omega, by rw [hnn2.out.1]; omega, by rw [hnn2.out.2]; omega⟩, fun x hx => by have := h2 x hx; omega⟩
end Go.Proofs.YtkpfhnogpcigaaaDoorR
/- A label's address: the program's answer and the document's. -/
namespace Go.Proofs.YtkpfhnogpcigaaaDoorR
open Go Go.RowKit
set_option linter.unusedVariables false
set_option maxHeartbeats 3000000
set_option maxRecDepth 20000

def findL : List La → ByteArray → Option Int
  | [], _ => none
  | l :: r, s => if l.n = s then some l.a else findL r s
theorem ofind_any (w : World) (ob : Oo) (h : Hid (Lo w ob)) (s : ByteArray) : Calls Tryd.prog 12 #[.agg (oC ob), .string s] w fun e w' => e = .returned (.tuple #[.int .i64 ((findL ob.L s).getD 0), .bool (findL ob.L s).isSome]) ∧ Hid (Below w.heap.size w w') := by
  obtain ⟨R, hR⟩ : ∃ R, findL ob.L s = R := ⟨_, rfl⟩
  have hR' : Hid (findL ob.L s = R) := hR
  have K0 : Hid (Fm w [(w.heap.size, oC ob, 26)] (w.alloc (.cells (oC ob) 26))) := Fm.one w _ _
  obtain ⟨n, hn'⟩ : ∃ n, ob.L.length = n := ⟨_, rfl⟩
  have hnn : Hid (ob.L.length = n) := hn'
  have ni : (n : Int) ≤ 2147483647 := by have := h.out.n; omega
  obtain ⟨sp, hsp⟩ : ∃ q, ob.lp = q := ⟨_, rfl⟩
  obtain ⟨cap, hcap⟩ : ∃ q, ob.lc = q := ⟨_, rfl⟩
  have e2 : (w.alloc (.cells (oC ob) 26)).cell? ⟨w.heap.size, 2, none⟩ = some (.slice sp n cap) := by
    have := (K0.out.bx 0 _ _ _ rfl).c 2 (.slice ob.lp ob.L.length ob.lc) rfl
    rw [hsp, hcap, hn'] at this
    exact this
  have hl : Hid (LiesL 2 cLa w sp ob.L) := by rw [← hsp]; exact h.out.l
  rw [hR]
  clear hR hn' hsp hcap
  go_enter Tryd.func12, Tryd.ntmps12
  go_wp2
  go_loopw [11] (fun t wz => ∃ (i : Nat) (y : World), y = wz ∧ t = .int .i64 (i : Int) ∧ Hid (i ≤ n ∧ findL (ob.L.drop i) s = R) ∧ Hid (Below w.heap.size w y)) (fun t _ => (n - intOf t).toNat)
  case atStart => exact ⟨0, _, rfl, rfl, ⟨Nat.zero_le _, hR'.out⟩, K0.out.low⟩
  case round =>
    obtain ⟨i, y, rfl, rfl, J, K⟩ := hrel
    clear e2
    by_cases hlt : i < n
    · obtain ⟨x, hx⟩ : ∃ x, ob.L[i]? = some x := ⟨_, List.getElem?_eq_getElem (by rw [hnn.out]; exact hlt)⟩
      obtain ⟨g, o, rfl, hc⟩ := hl.out i x hx
      have hc' : Hid (y.rangeAt g (o + i * 2) (kl x).toList) := range_keep hc K.out
      have hd : ob.L.drop i = x :: ob.L.drop (i + 1) := by
        obtain ⟨h1, e⟩ := List.getElem?_eq_some_iff.1 hx
        rw [List.drop_eq_getElem_cons h1, e]
      have hO : Hid (R = if x.n = s then some x.a else findL (ob.L.drop (i + 1)) s) := by
        have h1 := J.out.2
        rw [hd] at h1
        exact h1.symm
      have ij := fun w => idxP (P := Tryd.prog) (g := g) (off := o) (len := n) (cap := cap) Tryd.underlying24 (s := 2) (by kernel_rfl) .i64 i w hlt
      have hii : (i : Int) < n := by omega
      have hlt' : Hid (i < n) := hlt
      by_cases he : x.n = s
      · have qe : (x.n.toList == s.toList) = true := str_eq he
        have fin : Hid (R = some x.a) := by show _ = _; rw [hO.out, if_pos he]
        replace he : Hid _ := he
        clear hlt hx hc hd hO
        go_wp2_with (first
          | ((with_reducible refine at_loadm rtLa g (o + i * 2) (kl x) ?_ ?_ (.tmp 13) ?_ ?_ ?_ ?_); exact hc'.out; rfl; kernel_rfl; rfl; rfl)
          | ((with_reducible refine gen_world (y.alloc (.cells #[.string ⟨#[]⟩, .int .i64 0] 61)) (Fm y [(y.heap.size, kl zL, 61)]) ?_ ?_); exact Fm.one y _ _; intro y1 K1)
          | ((with_reducible refine at_st rtLa y.heap.size (kl zL) (kl x) ?_ ?_ ?_ ?_ (.tmp 7) (.tmp 14) ?_ ?_ ?_ ?_ ?_); exact K1.out.bx 0 _ _ _ rfl; rfl; rfl; exact oneLa _; rfl; rfl; rfl; rfl; intro y2 hw2; have K2 : Hid (Fm y [(y.heap.size, kl x, 61)] y2) := K1.out.put 0 _ _ _ _ rfl hw2.out; clear hw2; have d0 := (K2.out.bx 0 _ _ _ rfl).c 0 (.string x.n) rfl; have d1 := (K2.out.bx 0 _ _ _ rfl).c 1 (.int .i64 x.a) rfl))
        go_ret2
        rw [fin.out]
        exact ⟨rfl, of_below K.out K2.out.low⟩
      · have qe : (x.n.toList == s.toList) = false := str_ne he
        have J2 : Hid (i + 1 ≤ n ∧ findL (ob.L.drop (i + 1)) s = R) := ⟨hlt, by rw [hO.out, if_neg he]⟩
        replace he : Hid _ := he
        clear hlt hx hc hd hO
        go_wp2_with (first
          | ((with_reducible refine at_loadm rtLa g (o + i * 2) (kl x) ?_ ?_ (.tmp 13) ?_ ?_ ?_ ?_); exact hc'.out; rfl; kernel_rfl; rfl; rfl)
          | ((with_reducible refine gen_world (y.alloc (.cells #[.string ⟨#[]⟩, .int .i64 0] 61)) (Fm y [(y.heap.size, kl zL, 61)]) ?_ ?_); exact Fm.one y _ _; intro y1 K1)
          | ((with_reducible refine at_st rtLa y.heap.size (kl zL) (kl x) ?_ ?_ ?_ ?_ (.tmp 7) (.tmp 14) ?_ ?_ ?_ ?_ ?_); exact K1.out.bx 0 _ _ _ rfl; rfl; rfl; exact oneLa _; rfl; rfl; rfl; rfl; intro y2 hw2; have K2 : Hid (Fm y [(y.heap.size, kl x, 61)] y2) := K1.out.put 0 _ _ _ _ rfl hw2.out; clear hw2; have d0 := (K2.out.bx 0 _ _ _ rfl).c 0 (.string x.n) rfl; have d1 := (K2.out.bx 0 _ _ _ rfl).c 1 (.int .i64 x.a) rfl))
        go_roundw
        case rel => exact ⟨i + 1, _, rfl, by simp, J2, of_below K.out K2.out.low⟩
        case measure => have := hlt'.out; simp [intOf]; omega
    · have hie : i = n := by have := J.out.1; omega
      subst hie
      have fin : Hid (R = none) := by
        have h1 := J.out.2
        rw [List.drop_eq_nil_of_le (by rw [hnn.out]; exact Nat.le_refl _)] at h1
        exact h1.symm
      clear hlt
      go_wp2
      go_ret2
      rw [fin.out]
      exact ⟨rfl, K.out⟩
theorem rofind_any (w : World) (ob : Oo) (h : Hid (Lo w ob)) (s : ByteArray) : Calls Tryd.prog 13 #[.agg (oC ob), .string s] w fun e w' => e = .returned (.tuple #[.int .i64 ((findL ob.L s).getD 0), .bool (findL ob.L s).isSome]) ∧ Hid (Below w.heap.size w w') := by
  obtain ⟨R, hR⟩ : ∃ R, findL ob.L s = R := ⟨_, rfl⟩
  have hR' : Hid (findL ob.L s = R) := hR
  have K0 : Hid (Fm w [(w.heap.size, oC ob, 26)] (w.alloc (.cells (oC ob) 26))) := Fm.one w _ _
  obtain ⟨n, hn'⟩ : ∃ n, ob.L.length = n := ⟨_, rfl⟩
  have hnn : Hid (ob.L.length = n) := hn'
  have ni : (n : Int) ≤ 2147483647 := by have := h.out.n; omega
  obtain ⟨sp, hsp⟩ : ∃ q, ob.lp = q := ⟨_, rfl⟩
  obtain ⟨cap, hcap⟩ : ∃ q, ob.lc = q := ⟨_, rfl⟩
  have hd2 : Hid (∀ y, Fm w [(w.heap.size, oC ob, 26)] y → y.cell? ⟨w.heap.size, 2, none⟩ = some (.slice sp n cap)) := fun y hy => by
    have := (hy.bx 0 _ _ _ rfl).c 2 (.slice ob.lp ob.L.length ob.lc) rfl
    rw [hsp, hcap, hn'] at this
    exact this
  have hl : Hid (LiesL 2 cLa w sp ob.L) := by rw [← hsp]; exact h.out.l
  rw [hR]
  clear hR hn' hsp hcap
  go_enter Tryd.func13, Tryd.ntmps13
  go_wp2
  go_loopw [6] (fun t wz => ∃ (i : Nat) (y : World), y = wz ∧ t = .int .i64 (i : Int) ∧ Hid (i ≤ n ∧ findL (ob.L.drop i) s = R) ∧ Hid (Fm w [(w.heap.size, oC ob, 26)] y)) (fun t _ => (n - intOf t).toNat)
  case atStart => exact ⟨0, _, rfl, rfl, ⟨Nat.zero_le _, hR'.out⟩, K0⟩
  case round =>
    obtain ⟨i, y, rfl, rfl, J, K⟩ := hrel
    have e2 := hd2.out y K.out
    by_cases hlt : i < n
    · obtain ⟨x, hx⟩ : ∃ x, ob.L[i]? = some x := ⟨_, List.getElem?_eq_getElem (by rw [hnn.out]; exact hlt)⟩
      obtain ⟨g, o, rfl, hc⟩ := hl.out i x hx
      have c0 : y.cell? ⟨g, o + i * 2, none⟩ = some (.string x.n) := by
        have := range_keep hc K.out.low 0 (.string x.n) rfl
        rwa [Nat.add_zero] at this
      have c1 : y.cell? ⟨g, o + i * 2 + 1, none⟩ = some (.int .i64 x.a) := range_keep hc K.out.low 1 _ rfl
      have hd : ob.L.drop i = x :: ob.L.drop (i + 1) := by
        obtain ⟨h1, e⟩ := List.getElem?_eq_some_iff.1 hx
        rw [List.drop_eq_getElem_cons h1, e]
      have hO : Hid (R = if x.n = s then some x.a else findL (ob.L.drop (i + 1)) s) := by
        have h1 := J.out.2
        rw [hd] at h1
        exact h1.symm
      have ij := fun w => idxP (P := Tryd.prog) (g := g) (off := o) (len := n) (cap := cap) Tryd.underlying24 (s := 2) (by kernel_rfl) .i64 i w hlt
      have hii : (i : Int) < n := by omega
      have hlt' : Hid (i < n) := hlt
      by_cases he : x.n = s
      · have qe : (x.n.toList == s.toList) = true := str_eq he
        have fin : Hid (R = some x.a) := by show _ = _; rw [hO.out, if_pos he]
        replace he : Hid _ := he
        clear hlt hx hc hd hO
        go_wp2
        go_ret2
        rw [fin.out]
        exact ⟨rfl, K.out.low⟩
      · have qe : (x.n.toList == s.toList) = false := str_ne he
        have J2 : Hid (i + 1 ≤ n ∧ findL (ob.L.drop (i + 1)) s = R) := ⟨hlt, by rw [hO.out, if_neg he]⟩
        replace he : Hid _ := he
        clear hlt hx hc hd hO
        go_wp2
        go_roundw
        case rel => exact ⟨i + 1, _, rfl, by simp, J2, K⟩
        case measure => have := hlt'.out; simp [intOf]; omega
    · have hie : i = n := by have := J.out.1; omega
      subst hie
      have fin : Hid (R = none) := by
        have h1 := J.out.2
        rw [List.drop_eq_nil_of_le (by rw [hnn.out]; exact Nat.le_refl _)] at h1
        exact h1.symm
      clear hlt
      go_wp2
      go_ret2
      rw [fin.out]
      exact ⟨rfl, K.out.low⟩
end Go.Proofs.YtkpfhnogpcigaaaDoorR
