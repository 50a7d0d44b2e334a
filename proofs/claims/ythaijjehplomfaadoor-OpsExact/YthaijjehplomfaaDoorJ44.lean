/- The document's own: a text's lines one behind the other, plain; a byte of the first row put. The document's own: a line taken up, whole. -/
import Derived.Test.YthaijjehplomfaaDoorJ42
import Derived.Test.YthaijjehplomfaaDoorJ43
namespace Go.Proofs.YthaijjehplomfaaDoor
open Go Go.RowKit
set_option linter.unusedVariables false
set_option maxHeartbeats 1000000
set_option maxRecDepth 20000

theorem stepD_err {n er n' : Nat} {l : List UInt8} {t : Std} (k : stepD n l t = .inl (er, n')) : n' = n := by
  unfold stepD at k
  split at k
  · cases k
  · split at k
    · injection k with k
      injection k with _ k
      exact k.symm
    · split at k
      · injection k with k
        injection k with _ k
        exact k.symm
      · split at k
        · injection k with k
          injection k with _ k
          exact k.symm
        · cases k
theorem stepD_names {n : Nat} {l : List UInt8} {t t' : Std} (k : stepD n l t = .inr t') : t'.2.1.length ≤ t.2.1.length + 1 := by
  unfold stepD at k
  split at k
  · injection k with k
    rw [← k]
    omega
  · split at k
    · cases k
    · split at k
      · cases k
      · split at k
        · cases k
        · injection k with k
          rw [← k]
          show (if _ = (⟨#[]⟩ : ByteArray) then t.2.1 else _).length ≤ _
          split
          · omega
          · rw [List.length_append]
            exact Nat.le_refl _
theorem linesD_cons (n : Nat) (l : List UInt8) (ls : List (List UInt8)) (t : Std) : linesD n (l :: ls) t = match stepD n l t with
  | .inl e => .inl e
  | .inr t' => linesD (n + 1) ls t' := rfl
/-- Where a text's lines have come to: at byte i, the line's beginning, its number, what there is. -/
structure Lp (L : List UInt8) (i b ln : Nat) (t : Std) : Prop where
  bi : b ≤ i
  no : ∀ x ∈ (L.drop b).take (i - b), x ≠ 10
  eq : linesD 1 (lnsG L []) ([], [], []) = linesD ln (lnsG (L.drop b) []) t
  ok : DOk t
  nm : t.2.1.length + 1 ≤ ln
  li : ln ≤ i + 1
theorem Lp.zero (L : List UInt8) : Lp L 0 0 1 ([], [], []) := ⟨Nat.le_refl _, fun x h => by simp at h, rfl, dok0, by decide, by decide⟩
theorem Lp.go {L : List UInt8} {i b ln : Nat} {t : Std} (h : Lp L i b ln t) {c : UInt8} (hc : L[i]? = some c) (h10 : c ≠ 10) : Lp L (i + 1) b ln t := by
  refine ⟨by have := h.bi; omega, fun x hx => ?_, h.eq, h.ok, h.nm, by have := h.li; omega⟩
  have hb := h.bi
  rw [show i + 1 - b = (i - b) + 1 by omega, List.take_add_one] at hx
  rcases List.mem_append.1 hx with hx | hx
  · exact h.no x hx
  · rw [List.getElem?_drop, show b + (i - b) = i by omega, hc] at hx
    simp at hx
    rw [hx]
    exact h10
theorem drop_cut {L : List UInt8} {i b : Nat} (hb : b ≤ i) {c : UInt8} (hc : L[i]? = some c) : L.drop b = (L.drop b).take (i - b) ++ c :: L.drop (i + 1) := by
  conv => lhs; rw [← List.take_append_drop (i - b) (L.drop b)]
  rw [List.drop_drop, show b + (i - b) = i by omega, drop_at hc]
theorem Lp.line {L : List UInt8} {i b ln : Nat} {t t' : Std} (h : Lp L i b ln t) (hc : L[i]? = some 10) (k : stepD ln ((L.drop b).take (i - b)) t = .inr t') : Lp L (i + 1) (i + 1) (ln + 1) t' := by
  refine ⟨Nat.le_refl _, fun x hx => by simp at hx, ?_, h.ok.step k, by have := h.nm; have := stepD_names k; omega, by have := h.li; omega⟩
  rw [h.eq, drop_cut h.bi hc, lns_hit _ _ h.no, linesD_cons, k]
theorem Lp.bad {L : List UInt8} {i b ln : Nat} {t : Std} {e : Nat × Nat} (h : Lp L i b ln t) (hc : L[i]? = some 10) (k : stepD ln ((L.drop b).take (i - b)) t = .inl e) : linesD 1 (lnsG L []) ([], [], []) = .inl e := by
  rw [h.eq, drop_cut h.bi hc, lns_hit _ _ h.no, linesD_cons, k]
theorem Lp.last {L : List UInt8} {b ln : Nat} {t : Std} (h : Lp L L.length b ln t) : linesD 1 (lnsG L []) ([], [], []) = stepD ln ((L.drop b).take (L.length - b)) t := by
  have e : (L.drop b).take (L.length - b) = L.drop b := List.take_of_length_le (by rw [List.length_drop]; omega)
  have hn := h.no
  rw [h.eq, e]
  rw [e] at hn
  by_cases h0 : L.drop b = []
  · rw [h0]
    rfl
  · rw [lns_no _ hn h0, linesD_cons]
    rcases stepD ln (L.drop b) t with e | t' <;> rfl
/-- One byte of the first row put. -/
theorem Qp.put0 {w : World} {P : Nat} {v : Nat → Value} {t : Std} {y : World} (h : Qp w P v (vsD t) y) {gb nb cb : Nat} (hv : v 0 = .slice (some ⟨gb, 0, none⟩) nb cb) (k : Nat) (a b : UInt8) (hk : t.1[k]? = some a) : Qp w P v (vsD (t.1.set k b, t.2)) (y.setCell ⟨gb, k, none⟩ (byV b)) ∧ y.cell? ⟨gb, k, none⟩ = some (byV a) ∧ y.frozen? ⟨gb, k, none⟩ = false := by
  have ho : OwnL 5 1 one1 w.heap.size y (.slice (some ⟨gb, 0, none⟩) nb cb) (t.1.map byV) := by
    have := h.own 0 (by decide)
    rw [hv] at this
    exact this
  have hb : (v 0).ownBlock = some gb := by rw [hv]; rfl
  have hg := (h.own 0 (by decide)).lt gb hb
  have hs0 := OwnL.set1 (s := 1) (c := one1) (fun _ => rfl) ho k 0 (byV a) (byV b) (byV b) (by rw [List.getElem?_map, hk]; rfl) (by decide) rfl
  rw [show k * 1 + 0 = k by omega] at hs0
  have hs := hs0.1
  have hc := World.ownsRow.cells (g := gb) ho rfl k (byV a) (by rw [rowL_one1, List.getElem?_map, hk]; rfl)
  rw [Addr.add_lit, Nat.zero_add] at hc
  have oth : ∀ q, q ≠ gb → (y.setCell ⟨gb, k, none⟩ (byV b)).heap[q]? = y.heap[q]? := fun q hq => heap_setCell_other y ⟨gb, k, none⟩ q (byV b) hq
  have hP : P ≠ gb := fun e => h.off 0 (by decide) (e ▸ hb)
  refine ⟨⟨(oth P hP).trans h.box, fun j hj => ?_, h.ap, h.gP, h.low.trans ((Below.refl _ y).setCell (p := ⟨gb, k, none⟩) hg.1 (byV b))⟩, hc, hs0.2.1⟩
  match j, hj with
  | 0, _ =>
    show OwnL 5 1 one1 w.heap.size _ (v 0) ((t.1.set k b).map byV)
    rw [hv, List.map_set]
    exact hs
  | j + 1, hj =>
    have e : vsD (t.1.set k b, t.2) (j + 1) = vsD t (j + 1) := by
      match j, hj with
      | 0, _ => rfl
      | 1, _ => rfl
      | 2, _ => rfl
      | 3, _ => rfl
      | 4, _ => rfl
      | 5, _ => rfl
    rw [e]
    exact (h.own (j + 1) hj).keepB fun q hq => oth q fun e' => h.ap (j + 1) 0 q hj (by decide) (by omega) hq (e' ▸ hb)
end Go.Proofs.YthaijjehplomfaaDoor

namespace Go.Proofs.YthaijjehplomfaaDoor
open Go Go.RowKit
set_option linter.unusedVariables false
set_option maxHeartbeats 1000000
set_option maxRecDepth 20000

/-- What is answered of a line. -/
def LnE (w : World) (P : Nat) (r : (Nat × Nat) ⊕ Std) (e : Ending) (z : World) : Prop := match r with
  | .inl er => e = .returned (.int .i64 (er.1 : Int)) ∧ Below w.heap.size w z
  | .inr t' => e = .returned (.int .i64 0) ∧ ∃ v', Qp w P v' (vsD t') z
theorem pushW_pos {cur : List UInt8} : ∀ x ∈ pushW cur, x ≠ [] := fun x hx => by
  unfold pushW at hx
  split at hx
  · cases hx
  · rename_i h
    rw [List.mem_singleton] at hx
    rw [hx]
    exact h
theorem wordsG_pos : ∀ (l cur : List UInt8), ∀ x ∈ wordsG l cur, x ≠ [] := by
  intro l
  induction l with
  | nil => intro cur x hx; exact pushW_pos x hx
  | cons c r ih =>
    intro cur x hx
    unfold wordsG at hx
    split at hx
    · exact pushW_pos x hx
    · split at hx
      · rcases List.mem_append.1 hx with h | h
        · exact pushW_pos x h
        · exact ih [] x h
      · exact ih _ x hx
theorem wordsA_pos {l : List UInt8} {x : ByteArray} (h : x ∈ wordsA l) : 0 < x.size := by
  unfold wordsA at h
  obtain ⟨y, hy, rfl⟩ := List.mem_map.1 h
  have := wordsG_pos l [] y hy
  show 0 < y.toArray.size
  rw [List.size_toArray]
  exact List.length_pos_iff.2 this
theorem itW_len {s : ByteArray} {r : List ByteArray} {x : It} (h : itW s r = some x) : x.1.length ≤ r.length + 2 := by
  unfold itW at h
  split at h
  · split at h
    · injection h with h
      rw [← h]
      exact Nat.zero_le _
    · cases h
  · split at h
    · split at h
      · cases h
      · rcases hd : datW r with _ | d
        · rw [hd] at h; cases h
        · rw [hd] at h
          injection h with h
          rw [← h]
          have := datW_len r d hd
          show d.length ≤ _
          omega
    · split at h
      · rcases ht : toI s with _ | i
        · rw [ht] at h; cases h
        · rw [ht] at h
          simp only at h
          split at h
          · injection h with h
            rw [← h]
            show 2 ≤ _
            omega
          · cases h
      · rcases ho : rdO ((s :: r).map (·.data.toList)) with _ | o
        · rw [ho] at h; cases h
        · rw [ho] at h
          injection h with h
          rw [← h]
          show 2 ≤ _
          omega
theorem isNm_list {s : ByteArray} (h : isNm s = true) : s.toList.isEmpty = false := by
  rw [emp_is, decide_eq_false_iff_not]
  intro e
  exact isNm_ne h (by cases s with | mk d => simp [ByteArray.size] at e; rw [e])
theorem rline_any (w y0 : World) (P n : Nat) (v : Nat → Value) (t : Std) (hQ : Hid (Qp w P v (vsD t) y0)) (hok : DOk t) (hnm : t.2.1.length ≤ 100000) (s : ByteArray) (hs : s.size ≤ 100000) :
    Calls Tryd.prog 34 #[.pointer (some ⟨P, 0, none⟩), .string s, .int .i64 (n : Int)] y0 (LnE w P (stepD n (strL s) t)) := by
  have hW := fun z => rwords16_any z s (by omega)
  have hby : Hid (t.1.length ≤ 3232) := hok.by'
  have hnm' : Hid (t.2.1.length ≤ 100000) := hnm
  have hus : Hid (t.2.2.length ≤ 100000) := by have := hok.us; have := hok.by'; show _ ≤ _; omega
  unfold stepD
  rcases hw : wordsA (strL s) with _ | ⟨s0, r0⟩
  · simp only
    refine (line_blank w y0 P n s fun z => (hW z).mono fun e w' h => ?_).mono fun e z h => ⟨h.1, v, hQ.out.keep h.2⟩
    obtain ⟨u, l, he, hk⟩ := h
    have hl : l = [] := (wordsA_of hk.out.2.1).trans hw
    subst hl
    obtain ⟨g, cap, ⟨e1, _⟩ | ⟨_, e1⟩⟩ := hk.out.1.lies
    · exact ⟨_, cap, by rw [he, e1]; rfl, hk.out.1.2⟩
    · exact ⟨none, 0, by rw [he, e1], hk.out.1.2⟩
  · simp only
    obtain ⟨m, hm⟩ : ∃ m, Hid ((s0 :: r0).length = m) := ⟨_, (rfl : (s0 :: r0).length = _)⟩
    have hm1 : 1 ≤ m := by rw [← hm.out]; exact Nat.succ_le_succ (Nat.zero_le _)
    have hm0 : ((m : Int) == 0) = false := by simp; omega
    have hlen : r0.length + 1 ≤ s.size := by have := wordsA_len (strL s); rw [hw, strL_len] at this; exact this
    have hm2 : (m : Int) ≤ 4294967290 := by have := hm.out; simp only [List.length_cons] at this; omega
    have hsz : Hid (∀ x ∈ s0 :: r0, x.size ≤ 4294967280) := fun x hx => by
      have := wordsA_sz (strL s) x (by rw [hw]; exact hx)
      rw [strL_len] at this
      omega
    have hpos : 0 < s0.size := wordsA_pos (l := strL s) (by rw [hw]; simp)
    have hW2 : Hid (∀ z, Calls Tryd.prog 29 #[.string s] z fun e w' => ∃ g cap, e = .returned (.slice (some ⟨g, 0, none⟩) m cap) ∧ Hid (LiesL 1 strC w' (some ⟨g, 0, none⟩) (s0 :: r0)) ∧ Below z.heap.size z w') := fun z => (hW z).mono fun e w' h => by
      obtain ⟨u, l, he, hk⟩ := h
      have hl : l = s0 :: r0 := (wordsA_of hk.out.2.1).trans hw
      subst hl
      obtain ⟨g, cap, ⟨e1, h1⟩ | ⟨e0, _⟩⟩ := hk.out.1.lies
      · exact ⟨g, cap, by rw [he, e1, hm.out], h1, hk.out.1.2⟩
      · cases e0
    have hI : Hid (∀ z g cap, LiesL 1 strC z (some ⟨g, 0, none⟩) (s0 :: r0) → Calls Tryd.prog 53 #[.slice (some ⟨g, 0, none⟩) m cap] z (ItE z (itW s0 r0))) := fun z g cap hL => item_any z g 0 cap m s0 r0 hm hm2 hL hsz hpos
    rcases hi : itW s0 r0 with _ | x
    · rw [hi] at hI
      exact line_none w y0 P n v t hQ hby hnm' s _ m hm0 hW2 hI
    · rw [hi] at hI
      have hx := itW_len hi
      simp only
      rcases itW_shape hi with ⟨lb, rfl, hn⟩ | ⟨d, rfl⟩ | ⟨i, lb, rfl, hi31, hn⟩
      · have hlb := isNm_ne hn
        simp only [List.length_nil, Nat.add_zero]
        rcases hk : lookN t.2.1 lb with _ | a
        · rw [if_neg (fun e => e.2 rfl), if_neg (by have := hby.out; omega)]
          exact line_new w y0 P n v t hQ hby hnm' s _ m hm0 hW2 hus lb hlb [] (by show 0 ≤ _; omega) hby.out (isNm_list hn) (by show _ = _; rw [hk]; rfl) hI
        · rw [if_pos ⟨hlb, by simp⟩]
          exact line_old w y0 P n v t hQ hby hnm' s _ m hm0 hW2 lb [] a (isNm_list hn) (by show _ = _; rw [hk]; rfl) hI
      · simp only at hx ⊢
        rw [if_neg (by simp)]
        by_cases hov : 3232 < t.1.length + d.length
        · rw [if_pos hov]
          exact line_over w y0 P n v t hQ hby hnm' s _ m hm0 hW2 ⟨#[]⟩ 0 d (by show _ ≤ _; omega) hov hI
        · rw [if_neg hov]
          exact line_fit w y0 P n v t hQ hby hnm' s _ m hm0 hW2 d (by show _ ≤ _; omega) (by omega) hI
      · have hlb := isNm_ne hn
        simp only
        rw [if_neg (by simp)]
        by_cases hov : 3232 < t.1.length + [(0 : UInt8), 0].length
        · rw [if_pos hov]
          exact line_over w y0 P n v t hQ hby hnm' s _ m hm0 hW2 lb (opR i) [0, 0] (by show 2 ≤ _; omega) hov hI
        · rw [if_neg hov]
          exact line_ask w y0 P n v t hQ hby hnm' s _ m hm0 hW2 hus lb (opR i) hlb [0, 0] (by show 2 ≤ _; omega) (by omega) (isNm_list hn) hI
end Go.Proofs.YthaijjehplomfaaDoor
