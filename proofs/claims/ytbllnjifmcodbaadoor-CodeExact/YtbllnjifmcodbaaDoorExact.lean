/- vesperlaw02.CodeExact, walked: every script of operations. -/
import Derived.Test.YtbllnjifmcodbaaDoorOpenOp
import Derived.BigQuiet
namespace Go.Proofs.YtbllnjifmcodbaaDoor
open Go.RowKit
set_option linter.unusedVariables false
set_option maxHeartbeats 2000000
set_option maxRecDepth 20000

theorem whole_bk (w : World) (B kb : Nat) (es : List En) (T V : Value) (h : Bk w B kb es T V) (hlen : es.length ≤ 2147483647) (hB : B ≤ kb) :
    Calls Tryd.prog 14 #[.pointer (some ⟨kb, 0, none⟩)] w fun e w' => e = .returned (.bool true) ∧ Below B w w' := by
  rcases Nat.eq_zero_or_pos es.length with h0 | hp
  · have hn := h.nil (List.eq_nil_of_length_eq_zero h0)
    refine (whole_nil w kb none 0 V ?_).mono fun e w' ⟨he, hw⟩ => ⟨he, by rw [hw]; exact Below.refl _ _⟩
    rw [cell_heap h.book, hn.1]
    rfl
  · rcases h.told.2 with ⟨_, h1⟩ | ⟨gt, ct, ut, rfl, _, ht, _, _, _, ht2⟩
    · omega
    rcases h.want.2 with ⟨_, h1⟩ | ⟨gv, cv, uv, rfl, _, hv, _, _, _, hv2⟩
    · omega
    rw [Nat.mul_one] at ht2 hv2
    refine whole_some w B kb gt gv ct cv ut uv es ⟨h.book, ht, hv, fun j e _ he => ⟨(h.ok j e he).1, (h.ok j e he).2.1⟩⟩ hp hlen hB (fun j e he => ?_ : ∀ (j : Nat) (e : En), es[j]? = some e → ut[j]? = some e.tv ∧ uv[j]? = some e.wv) h.lt
    have hj : j < es.length := by
      rcases Nat.lt_or_ge j es.length with h | h
      · exact h
      · rw [List.getElem?_eq_none h] at he; cases he
    have a1 : (ut.toList.take es.length)[j]? = some e.tv := by rw [ht2]; simp [he]
    have a2 : (uv.toList.take es.length)[j]? = some e.wv := by rw [hv2]; simp [he]
    rw [List.getElem?_take, if_pos hj] at a1 a2
    exact ⟨by simpa using a1, by simpa using a2⟩

theorem OpD.ok_below {w x : World} {o : OpD} (h : o.ok w) (hb : Below w.heap.size w x) : o.ok x := ⟨h.1, h.2.1, h.2.2.1, h.2.2.2.1, h.2.2.2.2.1.below hb, h.2.2.2.2.2⟩

theorem exact_long (w : World) (a : Option Addr) (len cap : Nat) (h : (2147483647 : Int) < len) (h2 : len ≤ maxLen) : Calls Tryd.prog 4 #[.slice a len cap] w fun e w' => e = .returned (.bool true) ∧ Below w.heap.size w w' := by
  have h3 : (len : Int) ≤ 9223372036854775807 := by unfold maxLen at h2; omega
  clear h2
  go_enter Tryd.func4, Tryd.ntmps4
  go_wp2
  go_ret
  exact ⟨rfl, Below.refl _ _⟩

theorem exact_any (w : World) (T : Tabs w) (U : TabsU w) (a : Option Addr) (len cap : Nat) (h : Script w a len cap) :
    Calls Tryd.prog 4 #[.slice a len cap] w fun e w' => e = .returned (.bool true) ∧ Below w.heap.size w w' := by
  by_cases hlen : (2147483647 : Int) < len
  · exact exact_long w a len cap hlen h.1
  have hlen' : (len : Int) ≤ 2147483647 := by omega
  have hl0 : len ≤ 2147483647 := by omega
  have hS : Hid (Script w a len cap) := h
  have hT : Hid (Tabs w) := T
  have hU : Hid (TabsU w) := U
  clear h hlen T U
  have hb0 : Bk (w.alloc (.cells #[.slice none 0 0, .slice none 0 0] 45)) w.heap.size w.heap.size [] (.slice none 0 0) (.slice none 0 0) :=
    ⟨alloc_last' w _, World.ownsRow_nil _ _ _ _, World.ownsRow_nil _ _ _ _, fun _ => ⟨rfl, rfl⟩, fun j e he => by simp at he, fun i j e e' _ he => by simp at he⟩
  have B0 : Below w.heap.size w (w.alloc (.cells #[.slice none 0 0, .slice none 0 0] 45)) := (Below.refl _ _).alloc (Nat.le_refl _) _
  go_enter Tryd.func4, Tryd.ntmps4
  go_wp2
  go_loopw [4, 5] (fun s i wz => ∃ (k m : Nat) (es : List En) (T V : Value) (wx : World), wx = wz ∧ k ≤ len ∧ m ≤ 2147483647 ∧ i = .int .i64 (k : Int) ∧ s = .int .i64 (m : Int) ∧ Hid (es.length ≤ k) ∧ Hid (Bk wx w.heap.size w.heap.size es T V) ∧ Below w.heap.size w wx) (fun _ i _ => (len - intOf i).toNat)
  case atStart => exact ⟨0, len, [], _, _, _, rfl, by omega, by omega, rfl, rfl, Nat.le_refl _, hb0, B0⟩
  case round =>
    clear hb0 B0
    obtain ⟨k, m, es, T, V, wx, rfl, hk, hm, rfl, rfl, hes, hbk, HX⟩ := hrel
    by_cases hlt : k < len
    · obtain ⟨g, off, rfl, hg, hops⟩ := hS.out.2 (by omega)
      obtain ⟨o, ho, hc⟩ := hops k hlt
      obtain ⟨p, hp⟩ : ∃ p, off + k * 7 = p := ⟨_, rfl⟩
      rw [hp] at hc
      have ij : ∀ v, (Instr.indexAt 41 (.slice (some ⟨g, off, none⟩) len cap) (.int .i64 (k : Int))).run Tryd.prog v = .ok (.pointer (some ⟨g, p, none⟩)) v := fun v => by
        have := idxS (g := g) (off := off) (len := len) (cap := cap) Tryd.underlying41 (s := 7) (by kernel_rfl) .i64 k v hlt
        rw [hp] at this
        exact this
      have at' : ∀ i v, o.cells[i]? = some v → wx.cell? ⟨g, p + i, none⟩ = some v := fun i v hv => (HX.cell (p := ⟨g, p + i, none⟩) hg).trans (hc i v hv)
      obtain ⟨kk, n, ag, S, A, L, sp, bl, bc, Y⟩ := o
      obtain ⟨hn, hSz, hLz, hbz, hY, hYb⟩ := ho
      have c0 : wx.cell? ⟨g, p, none⟩ = some (.int .i64 kk) := at' 0 _ rfl
      have c1 : wx.cell? ⟨g, p + 1, none⟩ = some (.int .u8 n) := at' 1 _ rfl
      have c2 : wx.cell? ⟨g, p + 2, none⟩ = some (.bool ag) := at' 2 _ rfl
      have c3 : wx.cell? ⟨g, p + 3, none⟩ = some (.string S) := at' 3 _ rfl
      have c4 : wx.cell? ⟨g, p + 4, none⟩ = some (.int .i64 A) := at' 4 _ rfl
      have c5 : wx.cell? ⟨g, p + 5, none⟩ = some (.string L) := at' 5 _ rfl
      have c6 : wx.cell? ⟨g, p + 6, none⟩ = some (.slice sp bl bc) := at' 6 _ rfl
      have hst : Hid (m + bl + L.size + S.size ≤ 2147483647 → ∀ q, Calls Tryd.prog 13 #[.pointer (some ⟨w.heap.size, 0, none⟩), .agg #[.int .i64 kk, .int .u8 n, .bool ag, .string S, .int .i64 A, .string L, .slice sp bl bc]] (wx.drewN q) fun e w' => e = .returned (.bool true) ∧ Kept (wx.drewN q) w.heap.size w.heap.size es w') := fun hs q =>
        step_any (wx.drewN q) (hT.out.below (below_drewN HX)) (hU.out.below (below_drewN HX)) w.heap.size w.heap.size es T V hbk.out.drewN (Nat.le_refl _) HX.size (by have := hes.out; omega) kk n hn ag S A L (by show L.size ≤ 2147483647; omega) sp bl bc (by show bl ≤ 2147483647; omega) Y (hY.below (below_drewN HX)) hYb
      have s1 : (S.size : Int) ≤ 140737488355328 := by have : S.size ≤ 140737488355328 := hSz; omega
      have s2 : (L.size : Int) ≤ 140737488355328 := by have : L.size ≤ 140737488355328 := hLz; omega
      have s3 : (bl : Int) ≤ 140737488355328 := by have : bl ≤ 140737488355328 := hbz; omega
      have s4 : (m : Int) ≤ 2147483647 := by omega
      clear at' hc hops hn hSz hLz hbz hY hYb hp
      by_cases hsum : m + bl + L.size + S.size ≤ 2147483647
      · have hst' := hst.out hsum
        have q1 : (m : Int) + bl + L.size + S.size ≤ 2147483647 := by omega
        clear hst
        go_wp2
        go_quiet (fail)
        go_wp2_with (go_at_call 13; refine (hst' _).mono ?_; rintro e w2 ⟨rfl, hK⟩; have hK' : Hid _ := hK; clear hK)
        go_roundw
        case rel =>
          obtain ⟨es', T', V', h1, h2, h3⟩ := hK'.out
          exact ⟨k + 1, m + bl + L.size + S.size, es', T', V', _, rfl, by omega, hsum, by simp, by simp, (by have := hes.out; omega : es'.length ≤ k + 1), h1, (below_drewN HX).trans h3⟩
        case measure => simp [intOf]; omega
      · have q1 : (2147483647 : Int) < (m : Int) + bl + L.size + S.size := by omega
        clear hst
        go_wp2
        go_quiet (fail)
        go_wp2
        go_ret
        exact ⟨rfl, below_drewN HX⟩
    · have hke : k = len := by omega
      subst hke
      have hw := whole_bk wx w.heap.size w.heap.size es T V hbk.out (by have := hes.out; omega) (Nat.le_refl _)
      go_wp2_with (go_at_call 14; refine hw.mono ?_; rintro e w2 ⟨rfl, HX2⟩)
      go_ret
      exact ⟨rfl, HX.trans HX2⟩
end Go.Proofs.YtbllnjifmcodbaaDoor
