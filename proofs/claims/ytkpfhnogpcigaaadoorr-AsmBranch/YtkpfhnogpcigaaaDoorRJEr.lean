/- An object's bytes, by plain mathematics; the document's answer. -/
import Derived.Test.YtkpfhnogpcigaaaDoorRJEk
import Derived.Test.YtkpfhnogpcigaaaDoorRJEb8
import Derived.Deep.MidRow
import Derived.BigQuiet
namespace Go.Proofs.YtkpfhnogpcigaaaDoorR
open Go Go.RowKit
set_option linter.unusedVariables false
set_option maxHeartbeats 3000000
set_option maxRecDepth 20000

/-- Bytes laid over others: from fr on there is out, from a on there is bs. -/
def ovr (fr : Int) (out : List UInt8) (a : Int) (bs : List UInt8) : List UInt8 := (List.range out.length).map fun (k : Nat) => if a ≤ fr + k then (bs[(fr + k - a).toNat]?).getD (out.getD k 0) else out.getD k 0
def ovrAll (fr : Int) : List UInt8 → List (Int × List UInt8) → List UInt8
  | out, [] => out
  | out, b :: r => ovrAll fr (ovr fr out b.1 b.2) r
theorem ovr_len (fr : Int) (out : List UInt8) (a : Int) (bs : List UInt8) : (ovr fr out a bs).length = out.length := by unfold ovr; simp
theorem ovr_at (fr : Int) (out : List UInt8) (a : Int) (bs : List UInt8) (k : Nat) (h : k < out.length) : (ovr fr out a bs)[k]? = some (if a ≤ fr + k then (bs[(fr + k - a).toNat]?).getD (out.getD k 0) else out.getD k 0) := by
  unfold ovr
  rw [List.getElem?_map, List.getElem?_range h]
  rfl
theorem ovr_nil (fr : Int) (out : List UInt8) (a : Int) : ovr fr out a [] = out := by
  apply List.ext_getElem?
  intro k
  by_cases h : k < out.length
  · rw [ovr_at _ _ _ _ _ h]
    have : out[k]? = some (out.getD k 0) := by rw [List.getD_eq_getElem?_getD, List.getElem?_eq_getElem h]; rfl
    rw [this]
    split <;> simp
  · rw [List.getElem?_eq_none (by rw [ovr_len]; omega), List.getElem?_eq_none (by omega)]
theorem ovr_step (fr : Int) (out : List UInt8) (a : Int) (bs : List UInt8) (k : Nat) (b : UInt8) (hb : bs[k]? = some b) : ovr fr out a (bs.take (k + 1)) = if fr ≤ a + k ∧ a + k < fr + out.length then (ovr fr out a (bs.take k)).set (a + k - fr).toNat b else ovr fr out a (bs.take k) := by
  have hk := (List.getElem?_eq_some_iff.1 hb).1
  apply List.ext_getElem?
  intro j
  by_cases h : j < out.length
  · rw [ovr_at _ _ _ _ _ h]
    have ht : ∀ q : Nat, q ≠ k → (bs.take (k + 1))[q]? = (bs.take k)[q]? := fun q hq => by
      rw [List.getElem?_take, List.getElem?_take]
      by_cases h1 : q < k
      · rw [if_pos (by omega), if_pos h1]
      · rw [if_neg (by omega), if_neg h1]
    have htk : (bs.take (k + 1))[k]? = some b := by rw [List.getElem?_take, if_pos (by omega)]; exact hb
    have htk0 : (bs.take k)[k]? = none := by rw [List.getElem?_take, if_neg (by omega)]
    by_cases hj : fr + (j : Int) = a + k
    · have h1 : a ≤ fr + (j : Int) := by omega
      have h2 : (fr + (j : Int) - a).toNat = k := by omega
      rw [if_pos h1, h2, htk, if_pos ⟨by omega, by omega⟩, show (a + k - fr).toNat = j by omega, List.getElem?_set_self (by rw [ovr_len]; exact h)]
      rfl
    · have key : (if a ≤ fr + (j : Int) then ((bs.take (k + 1))[(fr + (j : Int) - a).toNat]?).getD (out.getD j 0) else out.getD j 0) = (if a ≤ fr + (j : Int) then ((bs.take k)[(fr + (j : Int) - a).toNat]?).getD (out.getD j 0) else out.getD j 0) := by
        by_cases h1 : a ≤ fr + (j : Int)
        · rw [if_pos h1, if_pos h1, ht _ (by omega)]
        · rw [if_neg h1, if_neg h1]
      rw [key, ← ovr_at fr out a (bs.take k) j h]
      split
      · rw [List.getElem?_set_ne (by omega)]
      · rfl
  · rw [List.getElem?_eq_none (by rw [ovr_len]; omega)]
    symm
    apply List.getElem?_eq_none
    split
    · rw [List.length_set, ovr_len]; omega
    · rw [ovr_len]; omega
theorem ovrAll_len : ∀ (B : List (Int × List UInt8)) (fr : Int) (out : List UInt8), (ovrAll fr out B).length = out.length := by
  intro B
  induction B with
  | nil => intro fr out; rfl
  | cons b r ih => intro fr out; show (ovrAll fr (ovr fr out b.1 b.2) r).length = _; rw [ih, ovr_len]
def bytE (ob : Oo) (fr to : Int) : Int := if chkO ob ≠ 0 then chkO ob else if fr < 0 ∨ to < fr ∨ 65536 < to then 1 else 0
def bytL (ob : Oo) (fr to : Int) : List UInt8 := if bytE ob fr to = 0 then ovrAll fr (List.replicate (to - fr).toNat 0) (plB ob.B) else []
theorem bytL_no {ob : Oo} {fr to : Int} (h : bytE ob fr to ≠ 0) : bytL ob fr to = [] := by unfold bytL; rw [if_neg h]
/-- What Bytes leaves: bytes in a block of their own, or none. -/
def ByE (w : World) (l : List UInt8) (E : Int) (e : Ending) (w' : World) : Prop := ∃ p c, e = .returned (.tuple #[.slice p l.length c, .int .i64 E]) ∧ Hid (Below w.heap.size w w' ∧ ((p = none ∧ c = 0 ∧ l = []) ∨ ∃ g, p = some ⟨g, 0, none⟩ ∧ w.heap.size ≤ g ∧ c = l.length ∧ Bx w' g (rU l) 5))
theorem chk01 (ob : Oo) : chkO ob = 0 ∨ chkO ob = 1 := by unfold chkO; split <;> simp
theorem hmkB (D : Nat) (L : Int) (hL : L = (D : Int)) (hD : D ≤ 65536) (y : World) : (Instr.makeSlice 33 (.int .i64 L) (.int .i64 L)).run Tryd.prog y = .ok (.slice (some ⟨y.heap.size, 0, none⟩) D D) (y.alloc (.cells (rU (List.replicate D 0)) 5)) := by
  subst hL
  obtain ⟨ib, hib, hb0, hb1, hb2⟩ := info_parts infoB
  have := run_make (P := Tryd.prog) y 33 5 ib _ Tryd.underlying33 hib hb0 .i64 .i64 (D : Int) (D : Int) (by omega) (Int.le_refl _) (by rw [hb2]; omega) (by omega)
  rw [hb1, Int.toNat_natCast] at this
  rw [← made_u8]
  exact this
theorem robytes_any (w : World) (ob : Oo) (h : Hid (Lco w ob)) (fr to : Int) (hf : inI fr) (ht : inI to) : Calls Tryd.prog 11 #[.agg (oC ob), .int .i64 fr, .int .i64 to] w (ByE w (bytL ob fr to) (bytE ob fr to)) := by
  have K0 : Hid (Fm w [(w.heap.size, oC ob, 26)] (w.alloc (.cells (oC ob) 26))) := Fm.one w _ _
  have hC := rocheck_any _ ob (h.out.below K0.out.low)
  obtain ⟨f0, f1⟩ := hf
  obtain ⟨t0, t1⟩ := ht
  rcases chk01 ob with hc | hc
  · rw [hc] at hC
    by_cases hq : fr < 0 ∨ to < fr ∨ 65536 < to
    · have hE : bytE ob fr to = 1 := by unfold bytE; rw [if_neg (by rw [hc]; simp), if_pos hq]
      rw [hE, bytL_no (by rw [hE]; decide)]
      have q : (fr < 0) ∨ (¬ fr < 0 ∧ to < fr) ∨ (¬ fr < 0 ∧ ¬ to < fr ∧ 65536 < to) := by omega
      clear hE hq
      rcases q with q1 | ⟨q1, q2⟩ | ⟨q1, q2, q3⟩
      all_goals
        go_enter Tryd.func11, Tryd.ntmps11
        go_wp2_with (first
          | ((with_reducible refine at_load rtO w.heap.size (oC ob) ?_ ?_ (.tmp 3) ?_ ?_ ?_ ?_); exact K0.out.bx 0 _ _ _ rfl; rfl; rfl; rfl; rfl)
          | (go_at_call 14; refine hC.mono ?_; rintro e y1 ⟨rfl, H1⟩; have K1 : Hid (Fm w [(w.heap.size, oC ob, 26)] y1) := K0.out.below H1.out; clear H1))
        go_ret2
        exact ⟨none, 0, rfl, K1.out.low, .inl ⟨rfl, rfl, rfl⟩⟩
    · have hE : bytE ob fr to = 0 := by unfold bytE; rw [if_neg (by rw [hc]; simp), if_neg hq]
      have hLe : bytL ob fr to = ovrAll fr (List.replicate (to - fr).toNat 0) (plB ob.B) := by unfold bytL; rw [if_pos hE]
      rw [hE, hLe]
      obtain ⟨D, hD⟩ : ∃ D, (to - fr).toNat = D := ⟨_, rfl⟩
      rw [hD]
      obtain ⟨R, hR⟩ : ∃ R, ovrAll fr (List.replicate D 0) (plB ob.B) = R := ⟨_, rfl⟩
      have hR' : Hid (ovrAll fr (List.replicate D 0) (plB ob.B) = R ∧ R.length = D) := ⟨hR, by rw [← hR, ovrAll_len, List.length_replicate]⟩
      rw [hR]
      have q1 : ¬ fr < 0 := by omega
      have q2 : ¬ to < fr := by omega
      have q3 : ¬ 65536 < to := by omega
      have hDi : Hid (to - fr = (D : Int) ∧ D ≤ 65536) := ⟨by omega, by omega⟩
      have wD : IntKind.i64.wrap (to - fr) = to - fr := by rw [IntKind.wrap_i64]; omega
      have hok : blkOk 0 (ob.B.map (·.1)) = true := by
        unfold chkO okO at hc
        rcases hb : blkOk 0 (ob.B.map fun x : Bb => x.1) with _ | _
        · rw [hb] at hc; simp at hc
        · rfl
      have hbd : Hid (∀ x ∈ ob.B, 0 ≤ x.1.a ∧ x.1.a ≤ 65536 ∧ 1 ≤ x.1.m ∧ x.1.m ≤ 65536) := fun x hx => blk_bounds _ 0 (by decide) hok x.1 (List.mem_map_of_mem hx)
      obtain ⟨n, hn'⟩ : ∃ n, ob.B.length = n := ⟨_, rfl⟩
      have hnn : Hid (ob.B.length = n) := hn'
      have ni : (n : Int) ≤ 2147483647 := by have := h.out.lo.n; omega
      obtain ⟨bp, hbp⟩ : ∃ q, ob.bp = q := ⟨_, rfl⟩
      obtain ⟨bc, hbc⟩ : ∃ q, ob.bc = q := ⟨_, rfl⟩
      have hd0 : Hid (∀ (y : World) l, Fm w ((w.heap.size, oC ob, 26) :: l) y → y.cell? ⟨w.heap.size, 0, none⟩ = some (.slice bp n bc)) := fun y l hy => by
        have h1 := (hy.bx 0 _ _ _ rfl).c 0 (.slice ob.bp ob.B.length ob.bc) rfl
        rw [hbp, hbc, hn'] at h1
        exact h1
      have hLb : Hid (LiesL 2 cK w bp (ob.B.map (·.1)) ∧ ∀ x ∈ ob.B, LB8 w x.1.sp x.2 ∧ x.2.length = x.1.m) := ⟨by rw [← hbp]; exact h.out.lo.b, h.out.lo.g⟩
      clear hE hLe hD hR hq hok hn' hbp hbc
      go_enter Tryd.func11, Tryd.ntmps11
      go_wp2_with (first
        | ((with_reducible refine at_load rtO w.heap.size (oC ob) ?_ ?_ (.tmp 3) ?_ ?_ ?_ ?_); exact K0.out.bx 0 _ _ _ rfl; rfl; rfl; rfl; rfl)
        | (go_at_call 14; refine hC.mono ?_; rintro e y1 ⟨rfl, H1⟩; have K1 : Hid (Fm w [(w.heap.size, oC ob, 26)] y1) := K0.out.below H1.out; clear H1; have hmk := hmkB D (to - fr) hDi.out.1 hDi.out.2 y1))
      obtain ⟨g, hg⟩ : ∃ g, y1.heap.size = g := ⟨_, rfl⟩
      have K2 : Hid (Fm w [(w.heap.size, oC ob, 26), (g, rU (List.replicate D 0), 5)] (y1.alloc (.cells (rU (List.replicate D 0)) 5))) := by rw [← hg]; exact K1.out.new _ _
      have hgw : Hid (w.heap.size ≤ g) := by rw [← hg]; exact K1.out.low.size
      rw [hg]
      go_loopw [9] (fun t wz => ∃ (i : Nat) (out : List UInt8) (y : World), y = wz ∧ t = .int .i64 (i : Int) ∧ Hid (i ≤ n ∧ out.length = D ∧ ovrAll fr out ((plB ob.B).drop i) = R) ∧ Hid (Fm w [(w.heap.size, oC ob, 26), (g, rU out, 5)] y)) (fun t _ => (n - intOf t).toNat)
      case atStart => exact ⟨0, _, _, rfl, rfl, ⟨Nat.zero_le _, List.length_replicate .., hR'.out.1⟩, K2⟩
      case round =>
        obtain ⟨i, out, y, rfl, rfl, J, K⟩ := hrel
        clear hmk hg
        have c0 := hd0.out y _ K.out
        by_cases hlt : i < n
        · obtain ⟨x, hx⟩ : ∃ x, ob.B[i]? = some x := ⟨_, List.getElem?_eq_getElem (by rw [hnn.out]; exact hlt)⟩
          have hxm := List.mem_of_getElem? hx
          obtain ⟨gb, o, rfl, hcx⟩ := hLb.out.1 i x.1 (by rw [List.getElem?_map, hx]; rfl)
          obtain ⟨g1, g2, g3, g4⟩ := hbd.out x hxm
          obtain ⟨lx, lxm⟩ := hLb.out.2 x hxm
          have hd : (plB ob.B).drop i = (x.1.a, x.2) :: (plB ob.B).drop (i + 1) := by
            have h : (plB ob.B)[i]? = some (x.1.a, x.2) := by rw [List.getElem?_map, hx]; rfl
            obtain ⟨h1, e⟩ := List.getElem?_eq_some_iff.1 h
            rw [List.drop_eq_getElem_cons h1, e]
          have hO : Hid (ovrAll fr (ovr fr out x.1.a x.2) ((plB ob.B).drop (i + 1)) = R) := by
            have h1 := J.out.2.2
            rw [hd] at h1
            exact h1
          obtain ⟨a0, ha0⟩ : ∃ q, x.1.a = q := ⟨_, rfl⟩
          obtain ⟨L, hLm⟩ : ∃ q, x.1.m = q := ⟨_, rfl⟩
          obtain ⟨xs, hxs⟩ : ∃ q, x.1.sp = q := ⟨_, rfl⟩
          obtain ⟨xc, hxc⟩ : ∃ q, x.1.cap = q := ⟨_, rfl⟩
          obtain ⟨bs, hbs⟩ : ∃ q, x.2 = q := ⟨_, rfl⟩
          have hcb : Hid (∀ u, Below w.heap.size w u → u.cell? ⟨gb, o + i * 2, none⟩ = some (.int .i64 a0) ∧ u.cell? ⟨gb, o + i * 2 + 1, none⟩ = some (.slice xs L xc)) := fun u hu => by
            have k1 := range_keep hcx hu 0 (.int .i64 x.1.a) rfl
            have k2 := range_keep hcx hu 1 (.slice x.1.sp x.1.m x.1.cap) rfl
            rw [Nat.add_zero, ha0] at k1
            rw [hxs, hLm, hxc] at k2
            exact ⟨k1, k2⟩
          have hlx : Hid (∀ u, Below w.heap.size w u → LB8 u xs bs) := fun u hu => by rw [← hxs, ← hbs]; exact lx.below hu
          rw [ha0, hbs] at hO
          rw [ha0] at g1 g2
          rw [hLm] at g3 g4 lxm
          rw [hbs] at lxm
          have hbl : Hid (bs.length = L) := lxm
          have Li : (L : Int) ≤ 65536 := by omega
          have ij := fun w => idxP (P := Tryd.prog) (g := gb) (off := o) (len := n) (cap := bc) Tryd.underlying22 (s := 2) (by kernel_rfl) .i64 i w hlt
          have hii : (i : Int) < n := by omega
          have hlt' : Hid (i < n) := hlt
          have hol : Hid (out.length = D) := J.out.2.1
          clear hlt hx hxm hcx lx lxm hd ha0 hLm hxs hxc hbs g3 g4 J
          go_wp2
          go_loopw [10] (fun t wz => ∃ (k : Nat) (u : World), u = wz ∧ t = .int .i64 (k : Int) ∧ Hid (k ≤ L) ∧ Hid (Fm w [(w.heap.size, oC ob, 26), (g, rU (ovr fr out a0 (bs.take k)), 5)] u)) (fun t _ => (L - intOf t).toNat)
          case atStart => exact ⟨0, _, rfl, rfl, Nat.zero_le _, by rw [List.take_zero, ovr_nil]; exact K⟩
          case round =>
            obtain ⟨k, y, rfl, rfl, J, K⟩ := hrel
            clear c0
            have c0 := hd0.out y _ K.out
            obtain ⟨e0, e1⟩ := hcb.out y K.out.low
            by_cases hk : k < L
            · obtain ⟨b, hb⟩ : ∃ b, bs[k]? = some b := ⟨_, List.getElem?_eq_getElem (by rw [hbl.out]; exact hk)⟩
              obtain ⟨g9, o9, rfl, cb⟩ := hlx.out y K.out.low k b hb
              have cb' : y.cell? ⟨g9, o9 + k, none⟩ = some (.int .u8 (b.toNat : Int)) := cb
              have ik : ∀ w, (Instr.indexAt 33 (.slice (some ⟨g9, o9, none⟩) L xc) (.int .i64 (k : Int))).run Tryd.prog w = .ok (.pointer (some ⟨g9, o9 + k, none⟩)) w := fun w => by
                have := idxP (P := Tryd.prog) (g := g9) (off := o9) (len := L) (cap := xc) Tryd.underlying33 (s := 1) (by kernel_rfl) .i64 k w hk
                rw [Nat.mul_one] at this
                exact this
              have hst := ovr_step fr out a0 bs k b hb
              rw [hol.out] at hst
              have wk : IntKind.i64.wrap (a0 + k) = a0 + k := by rw [IntKind.wrap_i64]; omega
              have hki : (k : Int) < L := by omega
              have hk' : Hid (k < L) := hk
              by_cases hin : fr ≤ a0 + (k : Int) ∧ a0 + (k : Int) < to
              · rw [if_pos ⟨hin.1, by have := hDi.out.1; omega⟩] at hst
                obtain ⟨i1, i2⟩ := hin
                obtain ⟨z, hz⟩ : ∃ z : Nat, a0 + (k : Int) - fr = (z : Int) := ⟨(a0 + (k : Int) - fr).toNat, by omega⟩
                have wz9 : IntKind.i64.wrap (a0 + k - fr) = a0 + k - fr := by rw [IntKind.wrap_i64]; omega
                have hzD : z < D := by have := hDi.out.1; omega
                rw [hz, Int.toNat_natCast] at hst
                have iz : ∀ w, (Instr.indexAt 33 (.slice (some ⟨g, 0, none⟩) D D) (.int .i64 (a0 + (k : Int) - fr))).run Tryd.prog w = .ok (.pointer (some ⟨g, z, none⟩)) w := fun w => by
                  have := idxP (P := Tryd.prog) (g := g) (off := 0) (len := D) (cap := D) Tryd.underlying33 (s := 1) (by kernel_rfl) .i64 z w hzD
                  rw [Nat.zero_add, Nat.mul_one, ← hz] at this
                  exact this
                have bx := K.out.bx 1 _ _ _ rfl
                have zc : ∃ c, y.cell? ⟨g, z, none⟩ = some c := by
                  have hl9 : z < (rU (ovr fr out a0 (bs.take k))).size := by unfold rU; simp [ovr_len, hol.out]; exact hzD
                  exact ⟨_, bx.c z _ (Array.getElem?_eq_getElem hl9)⟩
                obtain ⟨c9, zc⟩ := zc
                have zf := bx.fz z
                have K9 : Hid (Fm w [(w.heap.size, oC ob, 26), (g, rU (ovr fr out a0 (bs.take (k + 1))), 5)] (y.setCell ⟨g, z, none⟩ (.int .u8 (b.toNat : Int)))) := by
                  have := K.out.setCell 1 g _ (rU (ovr fr out a0 (bs.take (k + 1)))) 5 rfl z (byV b) (by rw [rU_set, hst])
                  exact this
                clear hst hb hk hz hzD bx cb
                go_wp2
                go_roundw
                case rel => exact ⟨k + 1, _, rfl, by simp, hk'.out, K9⟩
                case measure => have := hk'.out; simp [intOf]; omega
              · rw [if_neg (fun e => hin ⟨e.1, by have := hDi.out.1; omega⟩)] at hst
                have K9 : Hid (Fm w [(w.heap.size, oC ob, 26), (g, rU (ovr fr out a0 (bs.take (k + 1))), 5)] y) := by rw [hst]; exact K.out
                have q : ¬ fr ≤ a0 + (k : Int) ∨ (fr ≤ a0 + (k : Int) ∧ ¬ a0 + (k : Int) < to) := by omega
                clear hst hb hk hin cb
                rcases q with i1 | ⟨i1, i2⟩
                all_goals
                  go_wp2
                  go_roundw
                  case rel => exact ⟨k + 1, _, rfl, by simp, hk'.out, K9⟩
                  case measure => have := hk'.out; simp [intOf]; omega
            · have hke : k = L := by have := J.out; omega
              subst hke
              have K9 : Hid (Fm w [(w.heap.size, oC ob, 26), (g, rU (ovr fr out a0 bs), 5)] y) := by
                have := K.out
                rw [List.take_of_length_le (by rw [hbl.out]; exact Nat.le_refl _)] at this
                exact this
              have J9 : Hid (i + 1 ≤ n ∧ (ovr fr out a0 bs).length = D ∧ ovrAll fr (ovr fr out a0 bs) ((plB ob.B).drop (i + 1)) = R) := ⟨hlt'.out, by rw [ovr_len]; exact hol.out, hO.out⟩
              clear hk
              go_wp2
              go_roundw
              case rel => exact ⟨i + 1, _, _, rfl, by simp, J9, K9⟩
              case measure => have := hlt'.out; simp [intOf]; omega
        · have hie : i = n := by have := J.out.1; omega
          subst hie
          have fin : Hid (out = R) := by
            have h1 := J.out.2.2
            rw [List.drop_eq_nil_of_le (by rw [List.length_map, hnn.out]; exact Nat.le_refl _)] at h1
            exact h1
          clear hlt
          go_wp2
          go_ret2
          refine ⟨some ⟨g, 0, none⟩, D, (by rw [hR'.out.2]; rfl), K.out.low, .inr ⟨g, rfl, hgw.out, hR'.out.2.symm, ?_⟩⟩
          have := K.out.bx 1 _ _ _ rfl
          rw [fin.out] at this
          exact this
  · rw [hc] at hC
    have hE : bytE ob fr to = 1 := by unfold bytE; rw [if_pos (by rw [hc]; simp), hc]
    rw [hE, bytL_no (by rw [hE]; decide)]
    clear hE
    go_enter Tryd.func11, Tryd.ntmps11
    go_wp2_with (first
      | ((with_reducible refine at_load rtO w.heap.size (oC ob) ?_ ?_ (.tmp 3) ?_ ?_ ?_ ?_); exact K0.out.bx 0 _ _ _ rfl; rfl; rfl; rfl; rfl)
      | (go_at_call 14; refine hC.mono ?_; rintro e y1 ⟨rfl, H1⟩; have K1 : Hid (Fm w [(w.heap.size, oC ob, 26)] y1) := K0.out.below H1.out; clear H1))
    go_ret2
    exact ⟨none, 0, rfl, K1.out.low, .inl ⟨rfl, rfl, rfl⟩⟩
end Go.Proofs.YtkpfhnogpcigaaaDoorR
/- The statements' own: bytes that are the same, and the room behind them. -/
namespace Go.Proofs.YtkpfhnogpcigaaaDoorR
open Go Go.RowKit
set_option linter.unusedVariables false
set_option maxHeartbeats 3000000
set_option maxRecDepth 20000

theorem idxU8 (g o n cap k : Nat) (h : k < n) (w : World) : (Instr.indexAt 33 (.slice (some ⟨g, o, none⟩) n cap) (.int .i64 (k : Int))).run Tryd.prog w = .ok (.pointer (some ⟨g, o + k, none⟩)) w := by
  have := idxP (P := Tryd.prog) (g := g) (off := o) (len := n) (cap := cap) Tryd.underlying33 (s := 1) (by kernel_rfl) .i64 k w h
  rw [Nat.mul_one] at this
  exact this
theorem sameO_true (w : World) (pa pb : Option Addr) (ca cb : Nat) (l : List UInt8) (ha : Hid (LB8 w pa l)) (hb : Hid (LB8 w pb l)) (hn : l.length ≤ 2147483647) :
    Calls Tryd.prog 15 #[.slice pa l.length ca, .slice pb l.length cb] w fun e w' => e = .returned (.bool true) ∧ Hid (Below w.heap.size w w') := by
  obtain ⟨n, hn'⟩ : ∃ n, l.length = n := ⟨_, rfl⟩
  have hnn : Hid (l.length = n) := hn'
  rw [hn'] at hn ⊢
  have ni : (n : Int) ≤ 2147483647 := by omega
  clear hn hn'
  go_enter Tryd.func15, Tryd.ntmps15
  go_wp2
  go_loopw [5] (fun t wz => ∃ (i : Nat), t = .int .i64 (i : Int) ∧ Hid (i ≤ n) ∧ Hid (Below w.heap.size w wz)) (fun t _ => (n - intOf t).toNat)
  case atStart => exact ⟨0, rfl, Nat.zero_le _, Below.refl _ _⟩
  case round =>
    obtain ⟨i, rfl, J, U⟩ := hrel
    by_cases hlt : i < n
    · obtain ⟨b, hbb⟩ : ∃ b, l[i]? = some b := ⟨_, List.getElem?_eq_getElem (by rw [hnn.out]; exact hlt)⟩
      obtain ⟨g1, o1, rfl, c1⟩ := (ha.out.below U.out) i b hbb
      obtain ⟨g2, o2, rfl, c2⟩ := (hb.out.below U.out) i b hbb
      obtain ⟨v, hv⟩ : ∃ v, byV b = v := ⟨_, rfl⟩
      have e1 := fun w => idxU8 g1 o1 n ca i hlt w
      have e2 := fun w => idxU8 g2 o2 n cb i hlt w
      have c1' : _ = some (Value.int .u8 (b.toNat : Int)) := c1
      have c2' : _ = some (Value.int .u8 (b.toNat : Int)) := c2
      have hii : (i : Int) < n := by omega
      have hlt' : Hid (i < n) := hlt
      clear hlt hbb c1 c2 hv
      go_wp2
      go_quiet (fail)
      go_wp2
      go_roundw
      case rel => exact ⟨i + 1, by simp, hlt'.out, U.out.trans (below_drewN (Below.refl _ _))⟩
      case measure => have := hlt'.out; simp [intOf]; omega
    · have hie : i = n := by have := J.out; omega
      subst hie
      clear hlt
      go_wp2
      go_ret
      exact ⟨rfl, U⟩
theorem slHi (g o n cap : Nat) (h : Nat) (hc : h ≤ cap) (v : World) : (Instr.sliceAt 33 (.slice (some ⟨g, o, none⟩) n cap) none (some (.int .i64 (h : Int))) none).run Tryd.prog v = .ok (.slice (some ⟨g, o, none⟩) h cap) v := by
  have hu : Tryd.prog.underlying 33 = some (.slice (Tryd.prog.elem 33)) := by kernel_rfl
  rw [run_sliceAt_slice v _ _ _ _ _ hu, run_slice_h v _ _ _ _ hu .i64 (h : Int) (by omega) (by omega)]
  have hz : ∀ v, (sizeOf (Tryd.prog.elem 33)).run Tryd.prog v = .ok 1 v := fun v => by kernel_rfl
  rw [hz]
  simp [Result.andThen_ok, sliced, Addr.add_lit]
theorem roomy_true (w : World) (g o n cap : Nat) (l : List UInt8) (hl : Hid (LB8 w (some ⟨g, o, none⟩) (l ++ List.replicate 5 90))) (hn : l.length ≤ 2147483647) (hc : l.length + 5 ≤ cap) :
    Calls Tryd.prog 17 #[.slice (some ⟨g, o, none⟩) n cap, .int .i64 (l.length : Int)] w fun e w' => e = .returned (.bool true) ∧ Hid (Below w.heap.size w w') := by
  obtain ⟨m, hm'⟩ : ∃ m, l.length = m := ⟨_, rfl⟩
  have hmm : Hid (l.length = m) := hm'
  rw [hm'] at hn hc ⊢
  have ni : (m : Int) ≤ 2147483647 := by omega
  have hs := fun v => slHi g o n cap (m + 5) hc v
  rw [show ((m + 5 : Nat) : Int) = (m : Int) + 5 by omega] at hs
  clear hn hm'
  go_enter Tryd.func17, Tryd.ntmps17
  go_wp2
  go_loopw [6] (fun t wz => ∃ (i : Nat), t = .int .i64 ((m : Int) + i) ∧ Hid (i ≤ 5) ∧ Hid (Below w.heap.size w wz)) (fun t _ => ((m : Int) + 5 - intOf t).toNat)
  case atStart => exact ⟨0, by simp, Nat.zero_le _, Below.refl _ _⟩
  case round =>
    obtain ⟨i, rfl, J, U⟩ := hrel
    by_cases hlt : i < 5
    · obtain ⟨g1, o1, he, c1⟩ := (hl.out.below U.out) (m + i) 90 (by rw [List.getElem?_append_right (by rw [hmm.out]; omega), hmm.out, Nat.add_sub_cancel_left, List.getElem?_replicate, if_pos hlt])
      cases he
      have e1 : ∀ w, (Instr.indexAt 33 (.slice (some ⟨g, o, none⟩) (m + 5) cap) (.int .i64 ((m : Int) + i))).run Tryd.prog w = .ok (.pointer (some ⟨g, o + (m + i), none⟩)) w := fun w => by
        have := idxU8 g o (m + 5) cap (m + i) (by omega) w
        rw [show ((m + i : Nat) : Int) = (m : Int) + i by omega] at this
        exact this
      have c1' : _ = some (Value.int .u8 90) := c1
      have hii : (i : Int) < 5 := by omega
      have hlt' : Hid (i < 5) := hlt
      have wi : IntKind.i64.wrap ((m : Int) + i + 1) = (m : Int) + i + 1 := by rw [IntKind.wrap_i64]; omega
      clear hlt c1
      go_wp2
      go_roundw
      case rel => exact ⟨i + 1, by simp; omega, hlt'.out, U⟩
      case measure => have := hlt'.out; simp [intOf]; omega
    · have hie : i = 5 := by have := J.out; omega
      subst hie
      clear hlt
      go_wp2
      go_ret
      exact ⟨rfl, U⟩
end Go.Proofs.YtkpfhnogpcigaaaDoorR
/- The statements' own: objects that are alike. -/
namespace Go.Proofs.YtkpfhnogpcigaaaDoorR
open Go Go.RowKit
set_option linter.unusedVariables false
set_option maxHeartbeats 3000000
set_option maxRecDepth 20000

theorem eqM (v : Mk) : Eqs Tryd.prog 72 (k3 v) (k3 v) true := ⟨by kernel_rfl, fun w => by
  unfold k3
  go_simp⟩
theorem eqL (v : La) : Eqs Tryd.prog 61 (kl v) (kl v) true := ⟨by kernel_rfl, fun w => by
  unfold kl
  go_simp⟩
theorem alike_true (w : World) (x o : Oo) (hx : Hid (Lo w x)) (ho : Hid (Lo w o)) (hB : Hid (plB x.B = plB o.B)) (hM : Hid (x.M = o.M)) (hL : Hid (x.L = o.L)) :
    Calls Tryd.prog 16 #[.agg (oC x), .agg (oC o)] w fun e w' => e = .returned (.bool true) ∧ Hid (Below w.heap.size w w') := by
  have K0 : Hid (Fm w [(w.heap.size, oC x, 26), (w.heap.size + 1, oC o, 26)] ((w.alloc (.cells (oC x) 26)).alloc (.cells (oC o) 26))) := Fm.two w _ _ _ _
  have hlB : x.B.length = o.B.length := by
    have := congrArg List.length hB.out
    rw [List.length_map, List.length_map] at this
    exact this
  obtain ⟨n, hn⟩ : ∃ n, o.B.length = n := ⟨_, rfl⟩
  obtain ⟨nm, hnm⟩ : ∃ n, o.M.length = n := ⟨_, rfl⟩
  obtain ⟨nl, hnl⟩ : ∃ n, o.L.length = n := ⟨_, rfl⟩
  have hnn : Hid (o.B.length = n ∧ o.M.length = nm ∧ o.L.length = nl) := ⟨hn, hnm, hnl⟩
  have ni : (n : Int) ≤ 2147483647 := by have := ho.out.n; omega
  have nmi : (nm : Int) ≤ 2147483647 := by have := ho.out.n; omega
  have nli : (nl : Int) ≤ 2147483647 := by have := ho.out.n; omega
  obtain ⟨xp, hxp⟩ : ∃ q, x.bp = q := ⟨_, rfl⟩
  obtain ⟨xc, hxc⟩ : ∃ q, x.bc = q := ⟨_, rfl⟩
  obtain ⟨xmp, hxmp⟩ : ∃ q, x.mp = q := ⟨_, rfl⟩
  obtain ⟨xmc, hxmc⟩ : ∃ q, x.mc = q := ⟨_, rfl⟩
  obtain ⟨xlp, hxlp⟩ : ∃ q, x.lp = q := ⟨_, rfl⟩
  obtain ⟨xlc, hxlc⟩ : ∃ q, x.lc = q := ⟨_, rfl⟩
  obtain ⟨op, hop⟩ : ∃ q, o.bp = q := ⟨_, rfl⟩
  obtain ⟨oc, hoc⟩ : ∃ q, o.bc = q := ⟨_, rfl⟩
  obtain ⟨omp, homp⟩ : ∃ q, o.mp = q := ⟨_, rfl⟩
  obtain ⟨omc, homc⟩ : ∃ q, o.mc = q := ⟨_, rfl⟩
  obtain ⟨olp, holp⟩ : ∃ q, o.lp = q := ⟨_, rfl⟩
  obtain ⟨olc, holc⟩ : ∃ q, o.lc = q := ⟨_, rfl⟩
  have hd : Hid (∀ y, Fm w [(w.heap.size, oC x, 26), (w.heap.size + 1, oC o, 26)] y → y.cell? ⟨w.heap.size, 0, none⟩ = some (.slice xp n xc) ∧ y.cell? ⟨w.heap.size, 1, none⟩ = some (.slice xmp nm xmc) ∧ y.cell? ⟨w.heap.size, 2, none⟩ = some (.slice xlp nl xlc) ∧ y.cell? ⟨w.heap.size + 1, 0, none⟩ = some (.slice op n oc) ∧ y.cell? ⟨w.heap.size + 1, 1, none⟩ = some (.slice omp nm omc) ∧ y.cell? ⟨w.heap.size + 1, 2, none⟩ = some (.slice olp nl olc)) := fun y hy => by
    have h0 := (hy.bx 0 _ _ _ rfl).c 0 (.slice x.bp x.B.length x.bc) rfl
    have h1 := (hy.bx 0 _ _ _ rfl).c 1 (.slice x.mp x.M.length x.mc) rfl
    have h2 := (hy.bx 0 _ _ _ rfl).c 2 (.slice x.lp x.L.length x.lc) rfl
    have h3 := (hy.bx 1 _ _ _ rfl).c 0 (.slice o.bp o.B.length o.bc) rfl
    have h4 := (hy.bx 1 _ _ _ rfl).c 1 (.slice o.mp o.M.length o.mc) rfl
    have h5 := (hy.bx 1 _ _ _ rfl).c 2 (.slice o.lp o.L.length o.lc) rfl
    rw [hxp, hlB, hn, hxc] at h0
    rw [hxmp, hM.out, hnm, hxmc] at h1
    rw [hxlp, hL.out, hnl, hxlc] at h2
    rw [hop, hn, hoc] at h3
    rw [homp, hnm, homc] at h4
    rw [holp, hnl, holc] at h5
    exact ⟨h0, h1, h2, h3, h4, h5⟩
  have hLB : Hid (LiesL 2 cK w xp (x.B.map (·.1)) ∧ LiesL 2 cK w op (o.B.map (·.1))) := ⟨by rw [← hxp]; exact hx.out.b, by rw [← hop]; exact ho.out.b⟩
  have hLM : Hid (LiesL 3 cM w xmp o.M ∧ LiesL 3 cM w omp o.M) := ⟨by rw [← hxmp, ← hM.out]; exact hx.out.m, by rw [← homp]; exact ho.out.m⟩
  have hLL : Hid (LiesL 2 cLa w xlp o.L ∧ LiesL 2 cLa w olp o.L) := ⟨by rw [← hxlp, ← hL.out]; exact hx.out.l, by rw [← holp]; exact ho.out.l⟩
  have hBn : Hid (x.B.length = n) := hlB.trans hn
  clear hlB hn hnm hnl hxp hxc hxmp hxmc hxlp hxlc hop hoc homp homc holp holc
  obtain ⟨c0, c1, c2, d0, d1, d2⟩ := hd.out _ K0.out
  go_enter Tryd.func16, Tryd.ntmps16
  go_wp2
  go_loopw [5] (fun t wz => ∃ (i : Nat) (y : World), y = wz ∧ t = .int .i64 (i : Int) ∧ Hid (i ≤ n) ∧ Hid (Fm w [(w.heap.size, oC x, 26), (w.heap.size + 1, oC o, 26)] y)) (fun t _ => (n - intOf t).toNat)
  case atStart => exact ⟨0, _, rfl, rfl, Nat.zero_le _, K0⟩
  case round =>
    clear K0 c0 c1 c2 d0 d1 d2
    obtain ⟨i, y, rfl, rfl, J, K⟩ := hrel
    obtain ⟨c0, c1, c2, d0, d1, d2⟩ := hd.out _ K.out
    by_cases hlt : i < n
    · obtain ⟨X, hX⟩ : ∃ v, x.B[i]? = some v := ⟨_, List.getElem?_eq_getElem (by rw [hBn.out]; exact hlt)⟩
      obtain ⟨O, hO⟩ : ∃ v, o.B[i]? = some v := ⟨_, List.getElem?_eq_getElem (by rw [hnn.out.1]; exact hlt)⟩
      have hp : X.1.a = O.1.a ∧ X.2 = O.2 := by
        have h1 : (plB x.B)[i]? = some (X.1.a, X.2) := by rw [List.getElem?_map, hX]; rfl
        have h2 : (plB o.B)[i]? = some (O.1.a, O.2) := by rw [List.getElem?_map, hO]; rfl
        rw [hB.out, h2] at h1
        have := Option.some.inj h1
        simp only [Prod.mk.injEq] at this
        exact ⟨this.1.symm, this.2.symm⟩
      obtain ⟨g1, o1, rfl, r1⟩ := hLB.out.1 i X.1 (by rw [List.getElem?_map, hX]; rfl)
      obtain ⟨g2, o2, rfl, r2⟩ := hLB.out.2 i O.1 (by rw [List.getElem?_map, hO]; rfl)
      obtain ⟨lX, mX⟩ := hx.out.g X (List.mem_of_getElem? hX)
      obtain ⟨lO, mO⟩ := ho.out.g O (List.mem_of_getElem? hO)
      have bO := (ho.out.ib O (List.mem_of_getElem? hO)).2
      obtain ⟨bs, hbs⟩ : ∃ b, O.2 = b := ⟨_, rfl⟩
      obtain ⟨m, hm⟩ : ∃ m, bs.length = m := ⟨_, rfl⟩
      obtain ⟨a, ha⟩ : ∃ a, O.1.a = a := ⟨_, rfl⟩
      obtain ⟨sx, hsx⟩ : ∃ a, X.1.sp = a := ⟨_, rfl⟩
      obtain ⟨cx, hcx⟩ : ∃ a, X.1.cap = a := ⟨_, rfl⟩
      obtain ⟨so, hso⟩ : ∃ a, O.1.sp = a := ⟨_, rfl⟩
      obtain ⟨co, hco⟩ : ∃ a, O.1.cap = a := ⟨_, rfl⟩
      rw [hp.2, hbs, hm] at mX
      rw [hbs, hm] at mO
      have hcb : Hid (∀ u, Below w.heap.size w u → u.cell? ⟨g1, o1 + i * 2, none⟩ = some (.int .i64 a) ∧ u.cell? ⟨g1, o1 + i * 2 + 1, none⟩ = some (.slice sx m cx) ∧ u.cell? ⟨g2, o2 + i * 2, none⟩ = some (.int .i64 a) ∧ u.cell? ⟨g2, o2 + i * 2 + 1, none⟩ = some (.slice so m co)) := fun u hu => by
        have k1 := range_keep r1 hu 0 (.int .i64 X.1.a) rfl
        have k2 := range_keep r1 hu 1 (.slice X.1.sp X.1.m X.1.cap) rfl
        have k3 := range_keep r2 hu 0 (.int .i64 O.1.a) rfl
        have k4 := range_keep r2 hu 1 (.slice O.1.sp O.1.m O.1.cap) rfl
        rw [Nat.add_zero, hp.1, ha] at k1
        rw [hsx, ← mX, hcx] at k2
        rw [Nat.add_zero, ha] at k3
        rw [hso, ← mO, hco] at k4
        exact ⟨k1, k2, k3, k4⟩
      have hS : Hid (∀ u, Below w.heap.size w u → Calls Tryd.prog 15 #[.slice sx m cx, .slice so m co] u fun e w' => e = .returned (.bool true) ∧ Hid (Below u.heap.size u w')) := fun u hu => by
        have := sameO_true u sx so cx co bs (by rw [← hsx, ← hbs, ← hp.2]; exact lX.below hu) (by rw [← hso, ← hbs]; exact lO.below hu) (by rw [hm, mO]; exact bO)
        rw [hm] at this
        exact this
      have i1 := fun w => idxP (P := Tryd.prog) (g := g1) (off := o1) (len := n) (cap := xc) Tryd.underlying22 (s := 2) (by kernel_rfl) .i64 i w hlt
      have i2 := fun w => idxP (P := Tryd.prog) (g := g2) (off := o2) (len := n) (cap := oc) Tryd.underlying22 (s := 2) (by kernel_rfl) .i64 i w hlt
      have hii : (i : Int) < n := by omega
      have hlt' : Hid (i < n) := hlt
      clear hlt hX hO hp r1 r2 lX mX lO mO bO hbs hm ha hsx hcx hso hco
      go_wp2
      refine region_class_tail 28 (Fm w [(w.heap.size, oC x, 26), (w.heap.size + 1, oC o, 26)]) (by kernel_rfl) (by kernel_rfl) (K.out.below (below_drew (Below.refl _ _))) ?_
      simp only [List.take_succ_cons, List.take_zero, List.drop_succ_cons, List.drop_zero]
      with_reducible refine quiet_one (.pointer (some ⟨w.heap.size, 0, none⟩)) ?_ ?_ ?_
      · kernel_rfl
      · intro u hy
        go_simp
      with_reducible refine quiet_one (.slice (some ⟨g1, o1, none⟩) n xc) ?_ ?_ ?_
      · kernel_rfl
      · intro u hy
        have t0 := (hd.out u hy).1
        have t1 := (hd.out u hy).2.1
        have t2 := (hd.out u hy).2.2.1
        have s0 := (hd.out u hy).2.2.2.1
        have s1 := (hd.out u hy).2.2.2.2.1
        have s2 := (hd.out u hy).2.2.2.2.2
        go_simp
      with_reducible refine quiet_one (.int .i64 (i : Int)) ?_ ?_ ?_
      · kernel_rfl
      · intro u hy
        go_simp
      with_reducible refine quiet_one (.pointer (some ⟨g1, o1 + i * 2, none⟩)) ?_ ?_ ?_
      · kernel_rfl
      · intro u hy
        go_simp
      with_reducible refine quiet_one (.pointer (some ⟨g1, o1 + i * 2, none⟩)) ?_ ?_ ?_
      · kernel_rfl
      · intro u hy
        go_simp
      with_reducible refine quiet_one (.int .i64 a) ?_ ?_ ?_
      · kernel_rfl
      · intro u hy
        have t0 := (hcb.out u (Fm.low hy)).1
        have t1 := (hcb.out u (Fm.low hy)).2.1
        have s0 := (hcb.out u (Fm.low hy)).2.2.1
        have s1 := (hcb.out u (Fm.low hy)).2.2.2
        go_simp
      with_reducible refine quiet_one (.pointer (some ⟨w.heap.size + 1, 0, none⟩)) ?_ ?_ ?_
      · kernel_rfl
      · intro u hy
        go_simp
      with_reducible refine quiet_one (.slice (some ⟨g2, o2, none⟩) n oc) ?_ ?_ ?_
      · kernel_rfl
      · intro u hy
        have t0 := (hd.out u hy).1
        have t1 := (hd.out u hy).2.1
        have t2 := (hd.out u hy).2.2.1
        have s0 := (hd.out u hy).2.2.2.1
        have s1 := (hd.out u hy).2.2.2.2.1
        have s2 := (hd.out u hy).2.2.2.2.2
        go_simp
      with_reducible refine quiet_one (.int .i64 (i : Int)) ?_ ?_ ?_
      · kernel_rfl
      · intro u hy
        go_simp
      with_reducible refine quiet_one (.pointer (some ⟨g2, o2 + i * 2, none⟩)) ?_ ?_ ?_
      · kernel_rfl
      · intro u hy
        go_simp
      with_reducible refine quiet_one (.pointer (some ⟨g2, o2 + i * 2, none⟩)) ?_ ?_ ?_
      · kernel_rfl
      · intro u hy
        go_simp
      with_reducible refine quiet_one (.int .i64 a) ?_ ?_ ?_
      · kernel_rfl
      · intro u hy
        have t0 := (hcb.out u (Fm.low hy)).1
        have t1 := (hcb.out u (Fm.low hy)).2.1
        have s0 := (hcb.out u (Fm.low hy)).2.2.1
        have s1 := (hcb.out u (Fm.low hy)).2.2.2
        go_simp
      with_reducible refine quiet_one (.bool false) ?_ ?_ ?_
      · kernel_rfl
      · intro u hy
        go_simp
      with_reducible refine quiet_one (.bool false) ?_ ?_ ?_
      · kernel_rfl
      · intro u hy
        go_simp
      with_reducible refine quiet_one (.pointer (some ⟨w.heap.size, 0, none⟩)) ?_ ?_ ?_
      · kernel_rfl
      · intro u hy
        go_simp
      with_reducible refine quiet_one (.slice (some ⟨g1, o1, none⟩) n xc) ?_ ?_ ?_
      · kernel_rfl
      · intro u hy
        have t0 := (hd.out u hy).1
        have t1 := (hd.out u hy).2.1
        have t2 := (hd.out u hy).2.2.1
        have s0 := (hd.out u hy).2.2.2.1
        have s1 := (hd.out u hy).2.2.2.2.1
        have s2 := (hd.out u hy).2.2.2.2.2
        go_simp
      with_reducible refine quiet_one (.int .i64 (i : Int)) ?_ ?_ ?_
      · kernel_rfl
      · intro u hy
        go_simp
      with_reducible refine quiet_one (.pointer (some ⟨g1, o1 + i * 2, none⟩)) ?_ ?_ ?_
      · kernel_rfl
      · intro u hy
        go_simp
      with_reducible refine quiet_one (.pointer (some ⟨g1, o1 + i * 2 + 1, none⟩)) ?_ ?_ ?_
      · kernel_rfl
      · intro u hy
        go_simp
      with_reducible refine quiet_one (.slice sx m cx) ?_ ?_ ?_
      · kernel_rfl
      · intro u hy
        have t0 := (hcb.out u (Fm.low hy)).1
        have t1 := (hcb.out u (Fm.low hy)).2.1
        have s0 := (hcb.out u (Fm.low hy)).2.2.1
        have s1 := (hcb.out u (Fm.low hy)).2.2.2
        go_simp
      with_reducible refine quiet_one (.pointer (some ⟨w.heap.size + 1, 0, none⟩)) ?_ ?_ ?_
      · kernel_rfl
      · intro u hy
        go_simp
      with_reducible refine quiet_one (.slice (some ⟨g2, o2, none⟩) n oc) ?_ ?_ ?_
      · kernel_rfl
      · intro u hy
        have t0 := (hd.out u hy).1
        have t1 := (hd.out u hy).2.1
        have t2 := (hd.out u hy).2.2.1
        have s0 := (hd.out u hy).2.2.2.1
        have s1 := (hd.out u hy).2.2.2.2.1
        have s2 := (hd.out u hy).2.2.2.2.2
        go_simp
      with_reducible refine quiet_one (.int .i64 (i : Int)) ?_ ?_ ?_
      · kernel_rfl
      · intro u hy
        go_simp
      with_reducible refine quiet_one (.pointer (some ⟨g2, o2 + i * 2, none⟩)) ?_ ?_ ?_
      · kernel_rfl
      · intro u hy
        go_simp
      with_reducible refine quiet_one (.pointer (some ⟨g2, o2 + i * 2 + 1, none⟩)) ?_ ?_ ?_
      · kernel_rfl
      · intro u hy
        go_simp
      with_reducible refine quiet_one (.slice so m co) ?_ ?_ ?_
      · kernel_rfl
      · intro u hy
        have t0 := (hcb.out u (Fm.low hy)).1
        have t1 := (hcb.out u (Fm.low hy)).2.1
        have s0 := (hcb.out u (Fm.low hy)).2.2.1
        have s1 := (hcb.out u (Fm.low hy)).2.2.2
        go_simp
      with_reducible refine quiet_one (.bool true) ?_ ?_ ?_
      · kernel_rfl
      · intro u hy
        have d := (hS.out u hy.low).mono fun e w' (h : _ ∧ Hid _) => And.intro h.1 (hy.below h.2.out)
        go_simp
        all_goals exact d
      with_reducible refine quiet_one (.bool false) ?_ ?_ ?_
      · kernel_rfl
      · intro u hy
        go_simp
      refine wpQuiet_nil ?_
      intro z0 Z0
      replace Z0 : Hid _ := Z0
      go_simp
      go_wp2
      go_roundw
      case rel => exact ⟨i + 1, _, rfl, by simp, hlt'.out, Z0⟩
      case measure => have := hlt'.out; simp [intOf]; omega
    · have hie : i = n := by have := J.out; omega
      subst hie
      clear hlt
      go_wp2
      go_loopw [6] (fun t wz => ∃ (i : Nat) (y : World), y = wz ∧ t = .int .i64 (i : Int) ∧ Hid (i ≤ nm) ∧ Hid (Fm w [(w.heap.size, oC x, 26), (w.heap.size + 1, oC o, 26)] y)) (fun t _ => (nm - intOf t).toNat)
      case atStart => exact ⟨0, _, rfl, rfl, Nat.zero_le _, K⟩
      case round =>
        clear K c0 c1 c2 d0 d1 d2
        obtain ⟨i, y, rfl, rfl, J, K⟩ := hrel
        obtain ⟨c0, c1, c2, d0, d1, d2⟩ := hd.out _ K.out
        by_cases hlt : i < nm
        · obtain ⟨v, hv⟩ : ∃ v, o.M[i]? = some v := ⟨_, List.getElem?_eq_getElem (by rw [hnn.out.2.1]; exact hlt)⟩
          obtain ⟨g1, o1, rfl, r1⟩ := hLM.out.1 i v hv
          obtain ⟨g2, o2, rfl, r2⟩ := hLM.out.2 i v hv
          have R1 : Hid (w.rangeAt g1 (o1 + i * 3) (k3 v).toList) := r1
          have R2 : Hid (w.rangeAt g2 (o2 + i * 3) (k3 v).toList) := r2
          have hE : Hid _ := eqM v
          have i1 := fun w => idxP (P := Tryd.prog) (g := g1) (off := o1) (len := nm) (cap := xmc) Tryd.underlying23 (s := 3) (by kernel_rfl) .i64 i w hlt
          have i2 := fun w => idxP (P := Tryd.prog) (g := g2) (off := o2) (len := nm) (cap := omc) Tryd.underlying23 (s := 3) (by kernel_rfl) .i64 i w hlt
          have hii : (i : Int) < nm := by omega
          have hlt' : Hid (i < nm) := hlt
          clear hlt hv r1 r2
          go_wp2
          refine region_class_tail 10 (Fm w [(w.heap.size, oC x, 26), (w.heap.size + 1, oC o, 26)]) (by kernel_rfl) (by kernel_rfl) (K.out.below (below_drew (Below.refl _ _))) ?_
          simp only [List.take_succ_cons, List.take_zero, List.drop_succ_cons, List.drop_zero]
          with_reducible refine quiet_one (.pointer (some ⟨w.heap.size, 1, none⟩)) ?_ ?_ ?_
          · kernel_rfl
          · intro u hy
            go_simp
          with_reducible refine quiet_one (.slice (some ⟨g1, o1, none⟩) nm xmc) ?_ ?_ ?_
          · kernel_rfl
          · intro u hy
            have t0 := (hd.out u hy).1
            have t1 := (hd.out u hy).2.1
            have t2 := (hd.out u hy).2.2.1
            have s0 := (hd.out u hy).2.2.2.1
            have s1 := (hd.out u hy).2.2.2.2.1
            have s2 := (hd.out u hy).2.2.2.2.2
            go_simp
          with_reducible refine quiet_one (.int .i64 (i : Int)) ?_ ?_ ?_
          · kernel_rfl
          · intro u hy
            go_simp
          with_reducible refine quiet_one (.pointer (some ⟨g1, o1 + i * 3, none⟩)) ?_ ?_ ?_
          · kernel_rfl
          · intro u hy
            go_simp
          with_reducible refine quiet_one (.agg (k3 v)) ?_ ?_ ?_
          · kernel_rfl
          · intro u hy
            generalize hA : Act.put _ _ _ = A
            have e1 : A.eval (.tmp 79) = .pointer (some ⟨g1, o1 + i * 3, none⟩) := by rw [← hA]; go_simp
            clear hA
            exact q_loadm (C := Fm w [(w.heap.size, oC x, 26), (w.heap.size + 1, oC o, 26)]) rtM g1 (o1 + i * 3) (k3 v) (fun _ h => range_keep R1.out h.low) rfl (.tmp 79) rfl e1 u hy
          with_reducible refine quiet_one (.pointer (some ⟨w.heap.size + 1, 1, none⟩)) ?_ ?_ ?_
          · kernel_rfl
          · intro u hy
            go_simp
          with_reducible refine quiet_one (.slice (some ⟨g2, o2, none⟩) nm omc) ?_ ?_ ?_
          · kernel_rfl
          · intro u hy
            have t0 := (hd.out u hy).1
            have t1 := (hd.out u hy).2.1
            have t2 := (hd.out u hy).2.2.1
            have s0 := (hd.out u hy).2.2.2.1
            have s1 := (hd.out u hy).2.2.2.2.1
            have s2 := (hd.out u hy).2.2.2.2.2
            go_simp
          with_reducible refine quiet_one (.int .i64 (i : Int)) ?_ ?_ ?_
          · kernel_rfl
          · intro u hy
            go_simp
          with_reducible refine quiet_one (.pointer (some ⟨g2, o2 + i * 3, none⟩)) ?_ ?_ ?_
          · kernel_rfl
          · intro u hy
            go_simp
          with_reducible refine quiet_one (.agg (k3 v)) ?_ ?_ ?_
          · kernel_rfl
          · intro u hy
            generalize hA : Act.put _ _ _ = A
            have e1 : A.eval (.tmp 84) = .pointer (some ⟨g2, o2 + i * 3, none⟩) := by rw [← hA]; go_simp
            clear hA
            exact q_loadm (C := Fm w [(w.heap.size, oC x, 26), (w.heap.size + 1, oC o, 26)]) rtM g2 (o2 + i * 3) (k3 v) (fun _ h => range_keep R2.out h.low) rfl (.tmp 84) rfl e1 u hy
          refine wpQuiet_nil ?_
          intro z0 Z0
          replace Z0 : Hid _ := Z0
          go_simp
          go_wp2_with ((with_reducible refine at_ne hE.out (.tmp 80) (.tmp 85) 72 ?_ ?_ ?_ ?_ ?_); kernel_rfl; rfl; rfl; rfl)
          go_roundw
          case rel => exact ⟨i + 1, _, rfl, by simp, hlt'.out, Z0⟩
          case measure => have := hlt'.out; simp [intOf]; omega
        · have hie : i = nm := by have := J.out; omega
          subst hie
          clear hlt
          go_wp2
          go_loopw [7] (fun t wz => ∃ (i : Nat) (y : World), y = wz ∧ t = .int .i64 (i : Int) ∧ Hid (i ≤ nl) ∧ Hid (Fm w [(w.heap.size, oC x, 26), (w.heap.size + 1, oC o, 26)] y)) (fun t _ => (nl - intOf t).toNat)
          case atStart => exact ⟨0, _, rfl, rfl, Nat.zero_le _, K⟩
          case round =>
            clear K c0 c1 c2 d0 d1 d2
            obtain ⟨i, y, rfl, rfl, J, K⟩ := hrel
            obtain ⟨c0, c1, c2, d0, d1, d2⟩ := hd.out _ K.out
            by_cases hlt : i < nl
            · obtain ⟨v, hv⟩ : ∃ v, o.L[i]? = some v := ⟨_, List.getElem?_eq_getElem (by rw [hnn.out.2.2]; exact hlt)⟩
              obtain ⟨g1, o1, rfl, r1⟩ := hLL.out.1 i v hv
              obtain ⟨g2, o2, rfl, r2⟩ := hLL.out.2 i v hv
              have R1 : Hid (w.rangeAt g1 (o1 + i * 2) (kl v).toList) := r1
              have R2 : Hid (w.rangeAt g2 (o2 + i * 2) (kl v).toList) := r2
              have hE : Hid _ := eqL v
              have i1 := fun w => idxP (P := Tryd.prog) (g := g1) (off := o1) (len := nl) (cap := xlc) Tryd.underlying24 (s := 2) (by kernel_rfl) .i64 i w hlt
              have i2 := fun w => idxP (P := Tryd.prog) (g := g2) (off := o2) (len := nl) (cap := olc) Tryd.underlying24 (s := 2) (by kernel_rfl) .i64 i w hlt
              have hii : (i : Int) < nl := by omega
              have hlt' : Hid (i < nl) := hlt
              clear hlt hv r1 r2
              go_wp2
              refine region_class_tail 10 (Fm w [(w.heap.size, oC x, 26), (w.heap.size + 1, oC o, 26)]) (by kernel_rfl) (by kernel_rfl) (K.out.below (below_drew (Below.refl _ _))) ?_
              simp only [List.take_succ_cons, List.take_zero, List.drop_succ_cons, List.drop_zero]
              with_reducible refine quiet_one (.pointer (some ⟨w.heap.size, 2, none⟩)) ?_ ?_ ?_
              · kernel_rfl
              · intro u hy
                go_simp
              with_reducible refine quiet_one (.slice (some ⟨g1, o1, none⟩) nl xlc) ?_ ?_ ?_
              · kernel_rfl
              · intro u hy
                have t0 := (hd.out u hy).1
                have t1 := (hd.out u hy).2.1
                have t2 := (hd.out u hy).2.2.1
                have s0 := (hd.out u hy).2.2.2.1
                have s1 := (hd.out u hy).2.2.2.2.1
                have s2 := (hd.out u hy).2.2.2.2.2
                go_simp
              with_reducible refine quiet_one (.int .i64 (i : Int)) ?_ ?_ ?_
              · kernel_rfl
              · intro u hy
                go_simp
              with_reducible refine quiet_one (.pointer (some ⟨g1, o1 + i * 2, none⟩)) ?_ ?_ ?_
              · kernel_rfl
              · intro u hy
                go_simp
              with_reducible refine quiet_one (.agg (kl v)) ?_ ?_ ?_
              · kernel_rfl
              · intro u hy
                generalize hA : Act.put _ _ _ = A
                have e1 : A.eval (.tmp 97) = .pointer (some ⟨g1, o1 + i * 2, none⟩) := by rw [← hA]; go_simp
                clear hA
                exact q_loadm (C := Fm w [(w.heap.size, oC x, 26), (w.heap.size + 1, oC o, 26)]) rtLa g1 (o1 + i * 2) (kl v) (fun _ h => range_keep R1.out h.low) rfl (.tmp 97) rfl e1 u hy
              with_reducible refine quiet_one (.pointer (some ⟨w.heap.size + 1, 2, none⟩)) ?_ ?_ ?_
              · kernel_rfl
              · intro u hy
                go_simp
              with_reducible refine quiet_one (.slice (some ⟨g2, o2, none⟩) nl olc) ?_ ?_ ?_
              · kernel_rfl
              · intro u hy
                have t0 := (hd.out u hy).1
                have t1 := (hd.out u hy).2.1
                have t2 := (hd.out u hy).2.2.1
                have s0 := (hd.out u hy).2.2.2.1
                have s1 := (hd.out u hy).2.2.2.2.1
                have s2 := (hd.out u hy).2.2.2.2.2
                go_simp
              with_reducible refine quiet_one (.int .i64 (i : Int)) ?_ ?_ ?_
              · kernel_rfl
              · intro u hy
                go_simp
              with_reducible refine quiet_one (.pointer (some ⟨g2, o2 + i * 2, none⟩)) ?_ ?_ ?_
              · kernel_rfl
              · intro u hy
                go_simp
              with_reducible refine quiet_one (.agg (kl v)) ?_ ?_ ?_
              · kernel_rfl
              · intro u hy
                generalize hA : Act.put _ _ _ = A
                have e1 : A.eval (.tmp 102) = .pointer (some ⟨g2, o2 + i * 2, none⟩) := by rw [← hA]; go_simp
                clear hA
                exact q_loadm (C := Fm w [(w.heap.size, oC x, 26), (w.heap.size + 1, oC o, 26)]) rtLa g2 (o2 + i * 2) (kl v) (fun _ h => range_keep R2.out h.low) rfl (.tmp 102) rfl e1 u hy
              refine wpQuiet_nil ?_
              intro z0 Z0
              replace Z0 : Hid _ := Z0
              go_simp
              go_wp2_with ((with_reducible refine at_ne hE.out (.tmp 98) (.tmp 103) 61 ?_ ?_ ?_ ?_ ?_); kernel_rfl; rfl; rfl; rfl)
              go_roundw
              case rel => exact ⟨i + 1, _, rfl, by simp, hlt'.out, Z0⟩
              case measure => have := hlt'.out; simp [intOf]; omega
            · have hie : i = nl := by have := J.out; omega
              subst hie
              clear hlt
              go_wp2
              go_ret
              exact ⟨rfl, K.out.low⟩
end Go.Proofs.YtkpfhnogpcigaaaDoorR
