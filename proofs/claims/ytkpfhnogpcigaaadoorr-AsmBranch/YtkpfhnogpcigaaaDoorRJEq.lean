/- The statements' own: what is too large. -/
import Derived.Test.YtkpfhnogpcigaaaDoorRJEc
namespace Go.Proofs.YtkpfhnogpcigaaaDoorR
open Go Go.RowKit
set_option linter.unusedVariables false
set_option maxHeartbeats 3000000
set_option maxRecDepth 20000

def LgE (w : World) (ob : Oo) (e : Ending) (w' : World) : Prop := ∃ b, e = .returned (.bool b) ∧ Hid (Below w.heap.size w w' ∧ (b = false → (ob.B.length ≤ 2147483647 ∧ ob.M.length ≤ 2147483647 ∧ ob.L.length ≤ 2147483647) ∧ ∀ x ∈ ob.B, x.1.m ≤ 2147483647))
theorem large_any (w : World) (ob : Oo) (hl : Hid (LiesL 2 cK w ob.bp (ob.B.map (·.1)))) (hn : ob.B.length ≤ 140737488355328 ∧ ob.M.length ≤ 140737488355328 ∧ ob.L.length ≤ 140737488355328) (hm : ∀ x ∈ ob.B, x.1.m ≤ 140737488355328) :
    Calls Tryd.prog 7 #[.agg (oC ob)] w (LgE w ob) := by
  have K0 : Hid (Fm w [(w.heap.size, oC ob, 26)] (w.alloc (.cells (oC ob) 26))) := Fm.one w _ _
  obtain ⟨n, hn'⟩ : ∃ n, ob.B.length = n := ⟨_, rfl⟩
  have hnn : Hid (ob.B.length = n) := hn'
  obtain ⟨nm, hnm⟩ : ∃ n, ob.M.length = n := ⟨_, rfl⟩
  obtain ⟨nl, hnl⟩ : ∃ n, ob.L.length = n := ⟨_, rfl⟩
  obtain ⟨bp, hbp⟩ : ∃ q, ob.bp = q := ⟨_, rfl⟩
  obtain ⟨bc, hbc⟩ : ∃ q, ob.bc = q := ⟨_, rfl⟩
  obtain ⟨mp, hmp⟩ : ∃ q, ob.mp = q := ⟨_, rfl⟩
  obtain ⟨mc, hmc⟩ : ∃ q, ob.mc = q := ⟨_, rfl⟩
  obtain ⟨lp, hlp⟩ : ∃ q, ob.lp = q := ⟨_, rfl⟩
  obtain ⟨lc, hlc⟩ : ∃ q, ob.lc = q := ⟨_, rfl⟩
  have hd : Hid (∀ y, Fm w [(w.heap.size, oC ob, 26)] y → y.cell? ⟨w.heap.size, 0, none⟩ = some (.slice bp n bc) ∧ y.cell? ⟨w.heap.size, 1, none⟩ = some (.slice mp nm mc) ∧ y.cell? ⟨w.heap.size, 2, none⟩ = some (.slice lp nl lc)) := fun y hy => by
    have h0 := (hy.bx 0 _ _ _ rfl).c 0 (.slice ob.bp ob.B.length ob.bc) rfl
    have h1 := (hy.bx 0 _ _ _ rfl).c 1 (.slice ob.mp ob.M.length ob.mc) rfl
    have h2 := (hy.bx 0 _ _ _ rfl).c 2 (.slice ob.lp ob.L.length ob.lc) rfl
    rw [hbp, hn', hbc] at h0
    rw [hmp, hnm, hmc] at h1
    rw [hlp, hnl, hlc] at h2
    exact ⟨h0, h1, h2⟩
  rw [hn', hnm, hnl] at hn
  have hnn2 : Hid (ob.M.length = nm ∧ ob.L.length = nl) := ⟨hnm, hnl⟩
  rw [hbp] at hl
  have n1 : (n : Int) ≤ 140737488355328 := by omega
  have n2 : (nm : Int) ≤ 140737488355328 := by omega
  have n3 : (nl : Int) ≤ 140737488355328 := by omega
  have hmm : Hid (∀ x ∈ ob.B, x.1.m ≤ 140737488355328) := hm
  clear hn hn' hnm hnl hbp hbc hmp hmc hlp hlc hm
  obtain ⟨e0, e1, e2⟩ := hd.out _ K0.out
  go_enter Tryd.func7, Tryd.ntmps7
  go_wp2
  go_loopw [3, 4] (fun s t wz => ∃ (N : Int) (i : Nat) (y : World), y = wz ∧ s = .int .i64 N ∧ t = .int .i64 (i : Int) ∧ Hid (i ≤ n ∧ (n : Int) + nm + nl ≤ N ∧ N ≤ 562949953421312 ∧ ∀ x ∈ ob.B.take i, (x.1.m : Int) ≤ N) ∧ Hid (Fm w [(w.heap.size, oC ob, 26)] y)) (fun _ t _ => (n - intOf t).toNat)
  case atStart => exact ⟨(n : Int) + nm + nl, 0, _, rfl, rfl, rfl, ⟨Nat.zero_le _, Int.le_refl _, by omega, fun x hx => by simp at hx⟩, K0⟩
  case round =>
    clear e0 e1 e2
    obtain ⟨N, i, y, rfl, rfl, rfl, J, K⟩ := hrel
    obtain ⟨e0, e1, e2⟩ := hd.out _ K.out
    have N0 := J.out.2.1
    by_cases hbig : 2147483647 < N
    · by_cases hlt : i < n
      · have hii : (i : Int) < n := by omega
        go_wp2
        go_ret
        exact ⟨_, rfl, K.out.low, fun h => by simp at h⟩
      · have hie : i = n := by have := J.out.1; omega
        subst hie
        clear hlt
        go_wp2
        go_ret
        exact ⟨_, rfl, K.out.low, fun h => by simp at h⟩
    · by_cases hlt : i < n
      · obtain ⟨x, hx⟩ : ∃ x, ob.B[i]? = some x := ⟨_, List.getElem?_eq_getElem (by rw [hnn.out]; exact hlt)⟩
        obtain ⟨gb, o, rfl, hcx⟩ := hl.out i x.1 (by rw [List.getElem?_map, hx]; rfl)
        have hxm := hmm.out x (List.mem_of_getElem? hx)
        have c1 := range_keep hcx K.out.low 1 (.slice x.1.sp x.1.m x.1.cap) rfl
        have ij := fun w => idxP (P := Tryd.prog) (g := gb) (off := o) (len := n) (cap := bc) Tryd.underlying22 (s := 2) (by kernel_rfl) .i64 i w hlt
        have hii : (i : Int) < n := by omega
        have hlt' : Hid (i < n) := hlt
        have J9 : Hid (i + 1 ≤ n ∧ (n : Int) + nm + nl ≤ N + x.1.m ∧ N + x.1.m ≤ 562949953421312 ∧ ∀ q ∈ ob.B.take (i + 1), (q.1.m : Int) ≤ N + x.1.m) := by
          refine ⟨hlt, by omega, by omega, fun q hq => ?_⟩
          rw [List.take_add_one, hx] at hq
          rcases List.mem_append.1 hq with h | h
          · have := J.out.2.2.2 q h; omega
          · simp at h
            subst h
            omega
        obtain ⟨L, hL⟩ : ∃ L, x.1.m = L := ⟨_, rfl⟩
        rw [hL] at J9 c1 hxm
        have Li : (L : Int) ≤ 140737488355328 := by omega
        have wl : IntKind.i64.wrap (N + L) = N + L := by rw [IntKind.wrap_i64]; omega
        clear hlt hx hcx hL hxm J
        go_wp2
        go_roundw
        case rel => exact ⟨_, i + 1, _, rfl, rfl, by simp, J9, K⟩
        case measure => have := hlt'.out; simp [intOf]; omega
      · have hie : i = n := by have := J.out.1; omega
        subst hie
        clear hlt
        go_wp2
        go_ret
        refine ⟨_, rfl, K.out.low, fun h => ?_⟩
        have h2 := J.out.2.2.2
        rw [List.take_of_length_le (by rw [hnn.out]; exact Nat.le_refl _)] at h2
        exact ⟨⟨by rw [hnn.out]; omega, by rw [hnn2.out.1]; omega, by rw [hnn2.out.2]; omega⟩, fun x hx => by have := h2 x hx; omega⟩
end Go.Proofs.YtkpfhnogpcigaaaDoorR
