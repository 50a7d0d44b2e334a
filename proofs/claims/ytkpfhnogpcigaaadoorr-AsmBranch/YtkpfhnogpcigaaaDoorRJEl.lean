/- A label's address: the program's answer and the document's. -/
import Derived.Test.YtkpfhnogpcigaaaDoorRJEc
import Derived.BigQuiet
namespace Go.Proofs.YtkpfhnogpcigaaaDoorR
open Go Go.RowKit
set_option linter.unusedVariables false
set_option maxHeartbeats 3000000
set_option maxRecDepth 20000

def findL : List La → ByteArray → Option Int
  | [], _ => none
  | l :: r, s => if l.n = s then some l.a else findL r s
theorem ofind_any (w : World) (ob : Oo) (h : Hid (Lo w ob)) (s : ByteArray) : Calls Tryd.prog 12 #[.agg (oC ob), .string s] w fun e w' => e = .returned (.tuple #[.int .i64 ((findL ob.L s).getD 0), .bool (findL ob.L s).isSome]) ∧ Hid (Below w.heap.size w w') := by
  obtain ⟨R, hR⟩ : ∃ R, findL ob.L s = R := ⟨_, rfl⟩
  have hR' : Hid (findL ob.L s = R) := hR
  have K0 : Hid (Fm w [(w.heap.size, oC ob, 26)] (w.alloc (.cells (oC ob) 26))) := Fm.one w _ _
  obtain ⟨n, hn'⟩ : ∃ n, ob.L.length = n := ⟨_, rfl⟩
  have hnn : Hid (ob.L.length = n) := hn'
  have ni : (n : Int) ≤ 2147483647 := by have := h.out.n; omega
  obtain ⟨sp, hsp⟩ : ∃ q, ob.lp = q := ⟨_, rfl⟩
  obtain ⟨cap, hcap⟩ : ∃ q, ob.lc = q := ⟨_, rfl⟩
  have e2 : (w.alloc (.cells (oC ob) 26)).cell? ⟨w.heap.size, 2, none⟩ = some (.slice sp n cap) := by
    have := (K0.out.bx 0 _ _ _ rfl).c 2 (.slice ob.lp ob.L.length ob.lc) rfl
    rw [hsp, hcap, hn'] at this
    exact this
  have hl : Hid (LiesL 2 cLa w sp ob.L) := by rw [← hsp]; exact h.out.l
  rw [hR]
  clear hR hn' hsp hcap
  go_enter Tryd.func12, Tryd.ntmps12
  go_wp2
  go_loopw [11] (fun t wz => ∃ (i : Nat) (y : World), y = wz ∧ t = .int .i64 (i : Int) ∧ Hid (i ≤ n ∧ findL (ob.L.drop i) s = R) ∧ Hid (Below w.heap.size w y)) (fun t _ => (n - intOf t).toNat)
  case atStart => exact ⟨0, _, rfl, rfl, ⟨Nat.zero_le _, hR'.out⟩, K0.out.low⟩
  case round =>
    obtain ⟨i, y, rfl, rfl, J, K⟩ := hrel
    clear e2
    by_cases hlt : i < n
    · obtain ⟨x, hx⟩ : ∃ x, ob.L[i]? = some x := ⟨_, List.getElem?_eq_getElem (by rw [hnn.out]; exact hlt)⟩
      obtain ⟨g, o, rfl, hc⟩ := hl.out i x hx
      have hc' : Hid (y.rangeAt g (o + i * 2) (kl x).toList) := range_keep hc K.out
      have hd : ob.L.drop i = x :: ob.L.drop (i + 1) := by
        obtain ⟨h1, e⟩ := List.getElem?_eq_some_iff.1 hx
        rw [List.drop_eq_getElem_cons h1, e]
      have hO : Hid (R = if x.n = s then some x.a else findL (ob.L.drop (i + 1)) s) := by
        have h1 := J.out.2
        rw [hd] at h1
        exact h1.symm
      have ij := fun w => idxP (P := Tryd.prog) (g := g) (off := o) (len := n) (cap := cap) Tryd.underlying24 (s := 2) (by kernel_rfl) .i64 i w hlt
      have hii : (i : Int) < n := by omega
      have hlt' : Hid (i < n) := hlt
      by_cases he : x.n = s
      · have qe : (x.n.toList == s.toList) = true := str_eq he
        have fin : Hid (R = some x.a) := by show _ = _; rw [hO.out, if_pos he]
        replace he : Hid _ := he
        clear hlt hx hc hd hO
        go_wp2_with (first
          | ((with_reducible refine at_loadm rtLa g (o + i * 2) (kl x) ?_ ?_ (.tmp 13) ?_ ?_ ?_ ?_); exact hc'.out; rfl; kernel_rfl; rfl; rfl)
          | ((with_reducible refine gen_world (y.alloc (.cells #[.string ⟨#[]⟩, .int .i64 0] 61)) (Fm y [(y.heap.size, kl zL, 61)]) ?_ ?_); exact Fm.one y _ _; intro y1 K1)
          | ((with_reducible refine at_st rtLa y.heap.size (kl zL) (kl x) ?_ ?_ ?_ ?_ (.tmp 7) (.tmp 14) ?_ ?_ ?_ ?_ ?_); exact K1.out.bx 0 _ _ _ rfl; rfl; rfl; exact oneLa _; rfl; rfl; rfl; rfl; intro y2 hw2; have K2 : Hid (Fm y [(y.heap.size, kl x, 61)] y2) := K1.out.put 0 _ _ _ _ rfl hw2.out; clear hw2; have d0 := (K2.out.bx 0 _ _ _ rfl).c 0 (.string x.n) rfl; have d1 := (K2.out.bx 0 _ _ _ rfl).c 1 (.int .i64 x.a) rfl))
        go_ret2
        rw [fin.out]
        exact ⟨rfl, of_below K.out K2.out.low⟩
      · have qe : (x.n.toList == s.toList) = false := str_ne he
        have J2 : Hid (i + 1 ≤ n ∧ findL (ob.L.drop (i + 1)) s = R) := ⟨hlt, by rw [hO.out, if_neg he]⟩
        replace he : Hid _ := he
        clear hlt hx hc hd hO
        go_wp2_with (first
          | ((with_reducible refine at_loadm rtLa g (o + i * 2) (kl x) ?_ ?_ (.tmp 13) ?_ ?_ ?_ ?_); exact hc'.out; rfl; kernel_rfl; rfl; rfl)
          | ((with_reducible refine gen_world (y.alloc (.cells #[.string ⟨#[]⟩, .int .i64 0] 61)) (Fm y [(y.heap.size, kl zL, 61)]) ?_ ?_); exact Fm.one y _ _; intro y1 K1)
          | ((with_reducible refine at_st rtLa y.heap.size (kl zL) (kl x) ?_ ?_ ?_ ?_ (.tmp 7) (.tmp 14) ?_ ?_ ?_ ?_ ?_); exact K1.out.bx 0 _ _ _ rfl; rfl; rfl; exact oneLa _; rfl; rfl; rfl; rfl; intro y2 hw2; have K2 : Hid (Fm y [(y.heap.size, kl x, 61)] y2) := K1.out.put 0 _ _ _ _ rfl hw2.out; clear hw2; have d0 := (K2.out.bx 0 _ _ _ rfl).c 0 (.string x.n) rfl; have d1 := (K2.out.bx 0 _ _ _ rfl).c 1 (.int .i64 x.a) rfl))
        go_roundw
        case rel => exact ⟨i + 1, _, rfl, by simp, J2, of_below K.out K2.out.low⟩
        case measure => have := hlt'.out; simp [intOf]; omega
    · have hie : i = n := by have := J.out.1; omega
      subst hie
      have fin : Hid (R = none) := by
        have h1 := J.out.2
        rw [List.drop_eq_nil_of_le (by rw [hnn.out]; exact Nat.le_refl _)] at h1
        exact h1.symm
      clear hlt
      go_wp2
      go_ret2
      rw [fin.out]
      exact ⟨rfl, K.out⟩
theorem rofind_any (w : World) (ob : Oo) (h : Hid (Lo w ob)) (s : ByteArray) : Calls Tryd.prog 13 #[.agg (oC ob), .string s] w fun e w' => e = .returned (.tuple #[.int .i64 ((findL ob.L s).getD 0), .bool (findL ob.L s).isSome]) ∧ Hid (Below w.heap.size w w') := by
  obtain ⟨R, hR⟩ : ∃ R, findL ob.L s = R := ⟨_, rfl⟩
  have hR' : Hid (findL ob.L s = R) := hR
  have K0 : Hid (Fm w [(w.heap.size, oC ob, 26)] (w.alloc (.cells (oC ob) 26))) := Fm.one w _ _
  obtain ⟨n, hn'⟩ : ∃ n, ob.L.length = n := ⟨_, rfl⟩
  have hnn : Hid (ob.L.length = n) := hn'
  have ni : (n : Int) ≤ 2147483647 := by have := h.out.n; omega
  obtain ⟨sp, hsp⟩ : ∃ q, ob.lp = q := ⟨_, rfl⟩
  obtain ⟨cap, hcap⟩ : ∃ q, ob.lc = q := ⟨_, rfl⟩
  have hd2 : Hid (∀ y, Fm w [(w.heap.size, oC ob, 26)] y → y.cell? ⟨w.heap.size, 2, none⟩ = some (.slice sp n cap)) := fun y hy => by
    have := (hy.bx 0 _ _ _ rfl).c 2 (.slice ob.lp ob.L.length ob.lc) rfl
    rw [hsp, hcap, hn'] at this
    exact this
  have hl : Hid (LiesL 2 cLa w sp ob.L) := by rw [← hsp]; exact h.out.l
  rw [hR]
  clear hR hn' hsp hcap
  go_enter Tryd.func13, Tryd.ntmps13
  go_wp2
  go_loopw [6] (fun t wz => ∃ (i : Nat) (y : World), y = wz ∧ t = .int .i64 (i : Int) ∧ Hid (i ≤ n ∧ findL (ob.L.drop i) s = R) ∧ Hid (Fm w [(w.heap.size, oC ob, 26)] y)) (fun t _ => (n - intOf t).toNat)
  case atStart => exact ⟨0, _, rfl, rfl, ⟨Nat.zero_le _, hR'.out⟩, K0⟩
  case round =>
    obtain ⟨i, y, rfl, rfl, J, K⟩ := hrel
    have e2 := hd2.out y K.out
    by_cases hlt : i < n
    · obtain ⟨x, hx⟩ : ∃ x, ob.L[i]? = some x := ⟨_, List.getElem?_eq_getElem (by rw [hnn.out]; exact hlt)⟩
      obtain ⟨g, o, rfl, hc⟩ := hl.out i x hx
      have c0 : y.cell? ⟨g, o + i * 2, none⟩ = some (.string x.n) := by
        have := range_keep hc K.out.low 0 (.string x.n) rfl
        rwa [Nat.add_zero] at this
      have c1 : y.cell? ⟨g, o + i * 2 + 1, none⟩ = some (.int .i64 x.a) := range_keep hc K.out.low 1 _ rfl
      have hd : ob.L.drop i = x :: ob.L.drop (i + 1) := by
        obtain ⟨h1, e⟩ := List.getElem?_eq_some_iff.1 hx
        rw [List.drop_eq_getElem_cons h1, e]
      have hO : Hid (R = if x.n = s then some x.a else findL (ob.L.drop (i + 1)) s) := by
        have h1 := J.out.2
        rw [hd] at h1
        exact h1.symm
      have ij := fun w => idxP (P := Tryd.prog) (g := g) (off := o) (len := n) (cap := cap) Tryd.underlying24 (s := 2) (by kernel_rfl) .i64 i w hlt
      have hii : (i : Int) < n := by omega
      have hlt' : Hid (i < n) := hlt
      by_cases he : x.n = s
      · have qe : (x.n.toList == s.toList) = true := str_eq he
        have fin : Hid (R = some x.a) := by show _ = _; rw [hO.out, if_pos he]
        replace he : Hid _ := he
        clear hlt hx hc hd hO
        go_wp2
        go_ret2
        rw [fin.out]
        exact ⟨rfl, K.out.low⟩
      · have qe : (x.n.toList == s.toList) = false := str_ne he
        have J2 : Hid (i + 1 ≤ n ∧ findL (ob.L.drop (i + 1)) s = R) := ⟨hlt, by rw [hO.out, if_neg he]⟩
        replace he : Hid _ := he
        clear hlt hx hc hd hO
        go_wp2
        go_roundw
        case rel => exact ⟨i + 1, _, rfl, by simp, J2, K⟩
        case measure => have := hlt'.out; simp [intOf]; omega
    · have hie : i = n := by have := J.out.1; omega
      subst hie
      have fin : Hid (R = none) := by
        have h1 := J.out.2
        rw [List.drop_eq_nil_of_le (by rw [hnn.out]; exact Nat.le_refl _)] at h1
        exact h1.symm
      clear hlt
      go_wp2
      go_ret2
      rw [fin.out]
      exact ⟨rfl, K.out.low⟩
end Go.Proofs.YtkpfhnogpcigaaaDoorR
