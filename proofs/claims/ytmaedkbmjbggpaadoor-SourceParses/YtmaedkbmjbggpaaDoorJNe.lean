/- An item as it is written: the program's lines. -/
import Derived.Test.YtmaedkbmjbggpaaDoorJNd
import Derived.Test.YtmaedkbmjbggpaaDoorJSh
import Derived.Lib.Join
import Derived.Test.YtmaedkbmjbggpaaDoorJIg
namespace Go.Proofs.YtmaedkbmjbggpaaDoor
open Go Go.RowKit
set_option linter.unusedVariables false
set_option maxHeartbeats 3000000
set_option maxRecDepth 20000

def pwL : List Value := [.string ⟨#[]⟩, .string ⟨#[116, 111]⟩, .string ⟨#[104, 105, 103, 104]⟩, .string ⟨#[108, 111, 119]⟩]
/-- The listed variables as they stand, and the one that Go's library looks at. -/
structure Tw (w : World) : Prop where
  t : Tabs w
  p : ∀ i v, pwL[i]? = some v → w.cell? ⟨0, i, none⟩ = some v
  m : ∃ m, w.cell? ⟨7, 0, none⟩ = some (.int .i64 m)
theorem Tw.below {w y : World} (h : Tw w) (hb : Below w.heap.size w y) : Tw y := by
  obtain ⟨m, hm⟩ := h.m
  exact ⟨h.t.below hb, fun i v hv => (hb.cell (p := ⟨0, i, none⟩) (World.block_lt_of_cell? w _ (h.p i v hv))).trans (h.p i v hv), m, (hb.cell (p := ⟨7, 0, none⟩) (World.block_lt_of_cell? w _ hm)).trans hm⟩
theorem Tw.c {w : World} (h : Tw w) : w.cell? ⟨0, 1, none⟩ = some (.string ⟨#[116, 111]⟩) ∧ w.cell? ⟨0, 2, none⟩ = some (.string ⟨#[104, 105, 103, 104]⟩) ∧ w.cell? ⟨0, 3, none⟩ = some (.string ⟨#[108, 111, 119]⟩) := ⟨h.p 1 _ rfl, h.p 2 _ rfl, h.p 3 _ rfl⟩
theorem idxW (j : Nat) (h : j < 4) (v : World) : (Instr.indexAt 96 (.pointer (some ⟨0, 0, none⟩)) (.int .u8 (j : Int))).run Tryd.prog v = .ok (.pointer (some ⟨0, j, none⟩)) v := by
  have := idx (g := 0) (off := 0) Tryd.underlying96 (s := 1) (by kernel_rfl) .u8 j v h
  rw [Nat.zero_add, Nat.mul_one] at this
  exact this

def textI (r : Ri) : ByteArray := if r.p = 0 then printS r.n r.a else r.n ++ ⟨#[32]⟩ ++ (if r.p = 1 then ⟨#[116, 111]⟩ else if r.p = 2 then ⟨#[104, 105, 103, 104]⟩ else ⟨#[108, 111, 119]⟩) ++ ⟨#[32]⟩ ++ r.l
theorem ctext0 (w : World) (r : Ri) (T : Hid (Tw w)) (hp : r.p = 0) : Calls Tryd.prog 41 #[.agg (i6 r)] w fun e w' => e = .returned (.string (textI r)) ∧ Below w.heap.size w w' := by
  have hB : Hid (Fm w [(w.heap.size, i6 r, 39)] (w.alloc (.cells (i6 r) 39))) := Fm.one w _ _
  have p0 : (r.p == 0) = true := by rw [beq_iff_eq]; exact hp
  have e0 : textI r = printS r.n r.a := by unfold textI; rw [if_pos hp]
  rw [e0]
  have hP := fun v T => print_any r.n r.a v T
  generalize printS r.n r.a = S at hP
  generalize printE r.n r.a = E at hP
  clear hp e0
  go_enter Tryd.func41, Tryd.ntmps41
  go_wp2_with (first
    | ((with_reducible refine gen_world (w.alloc (.cells (i6 r) 39)) (Fm w [(w.heap.size, i6 r, 39)]) hB.out ?_); intro y K1; have d0 := (K1.out.bx 0 _ _ _ rfl).c 0 (.int .u8 r.k) rfl; have d1 := (K1.out.bx 0 _ _ _ rfl).c 1 (.string r.n) rfl; have d2 := (K1.out.bx 0 _ _ _ rfl).c 2 (.int .i64 r.a) rfl; have d3 := (K1.out.bx 0 _ _ _ rfl).c 3 (.string r.l) rfl; have d4 := (K1.out.bx 0 _ _ _ rfl).c 4 (.int .u8 r.p) rfl; have d5 := (K1.out.bx 0 _ _ _ rfl).c 5 (.slice r.sp r.m r.cap) rfl)
    | (go_at_call 69; refine (hP y (T.out.t.below K1.out.low)).mono ?_; rintro e y2 ⟨rfl, h2⟩; have K2 : Hid (Below w.heap.size w y2) := (K1.out.below h2).low; clear d0 d1 d2 d3 d4 d5 h2))
  go_ret
  exact ⟨rfl, K2.out⟩
theorem ctext1 (w : World) (r : Ri) (T : Hid (Tw w)) (hp : r.p = 1) (hs : r.n.size ≤ 1000 ∧ r.l.size ≤ 1000) : Calls Tryd.prog 41 #[.agg (i6 r)] w fun e w' => e = .returned (.string (textI r)) ∧ Below w.heap.size w w' := by
  have e0 : textI r = r.n ++ ⟨#[32]⟩ ++ ⟨#[116, 111]⟩ ++ ⟨#[32]⟩ ++ r.l := by unfold textI; rw [hp]; rfl
  rw [e0]
  clear e0
  obtain ⟨k, n, a, l, p, sp, m, cap⟩ := r
  simp only at hp hs ⊢
  subst hp
  have hB : Hid (Fm w [(w.heap.size, i6 ⟨k, n, a, l, 1, sp, m, cap⟩, 39)] (w.alloc (.cells (i6 ⟨k, n, a, l, 1, sp, m, cap⟩) 39))) := Fm.one w _ _
  have s1 : (n.size : Int) ≤ 1000 := by omega
  have s2 : (l.size : Int) ≤ 1000 := by omega
  have i1 : ∀ v, (Instr.indexAt 96 (.pointer (some ⟨0, 0, none⟩)) (.int .u8 1)).run Tryd.prog v = .ok (.pointer (some ⟨0, 1, none⟩)) v := fun v => idxW 1 (by decide) v
  clear hs
  go_enter Tryd.func41, Tryd.ntmps41
  go_wp2_with ((with_reducible refine gen_world (w.alloc (.cells (i6 ⟨k, n, a, l, 1, sp, m, cap⟩) 39)) (Fm w [(w.heap.size, i6 ⟨k, n, a, l, 1, sp, m, cap⟩, 39)]) hB.out ?_); intro y K1; have d1 := (K1.out.bx 0 _ _ _ rfl).c 1 (.string n) rfl; have d3 := (K1.out.bx 0 _ _ _ rfl).c 3 (.string l) rfl; have d4 := (K1.out.bx 0 _ _ _ rfl).c 4 (.int .u8 1) rfl; have gw := (T.out.below K1.out.low).c.1)
  have fin : Hid (Below w.heap.size w y) := K1.out.low
  go_quiet (fail)
  go_wp2
  go_ret
  exact ⟨rfl, below_drewN fin.out⟩
theorem ctext2 (w : World) (r : Ri) (T : Hid (Tw w)) (hp : r.p = 2) (hs : r.n.size ≤ 1000 ∧ r.l.size ≤ 1000) : Calls Tryd.prog 41 #[.agg (i6 r)] w fun e w' => e = .returned (.string (textI r)) ∧ Below w.heap.size w w' := by
  have e0 : textI r = r.n ++ ⟨#[32]⟩ ++ ⟨#[104, 105, 103, 104]⟩ ++ ⟨#[32]⟩ ++ r.l := by unfold textI; rw [hp]; rfl
  rw [e0]
  clear e0
  obtain ⟨k, n, a, l, p, sp, m, cap⟩ := r
  simp only at hp hs ⊢
  subst hp
  have hB : Hid (Fm w [(w.heap.size, i6 ⟨k, n, a, l, 2, sp, m, cap⟩, 39)] (w.alloc (.cells (i6 ⟨k, n, a, l, 2, sp, m, cap⟩) 39))) := Fm.one w _ _
  have s1 : (n.size : Int) ≤ 1000 := by omega
  have s2 : (l.size : Int) ≤ 1000 := by omega
  have i1 : ∀ v, (Instr.indexAt 96 (.pointer (some ⟨0, 0, none⟩)) (.int .u8 2)).run Tryd.prog v = .ok (.pointer (some ⟨0, 2, none⟩)) v := fun v => idxW 2 (by decide) v
  clear hs
  go_enter Tryd.func41, Tryd.ntmps41
  go_wp2_with ((with_reducible refine gen_world (w.alloc (.cells (i6 ⟨k, n, a, l, 2, sp, m, cap⟩) 39)) (Fm w [(w.heap.size, i6 ⟨k, n, a, l, 2, sp, m, cap⟩, 39)]) hB.out ?_); intro y K1; have d1 := (K1.out.bx 0 _ _ _ rfl).c 1 (.string n) rfl; have d3 := (K1.out.bx 0 _ _ _ rfl).c 3 (.string l) rfl; have d4 := (K1.out.bx 0 _ _ _ rfl).c 4 (.int .u8 2) rfl; have gw := (T.out.below K1.out.low).c.2.1)
  have fin : Hid (Below w.heap.size w y) := K1.out.low
  go_quiet (fail)
  go_wp2
  go_ret
  exact ⟨rfl, below_drewN fin.out⟩
theorem ctext3 (w : World) (r : Ri) (T : Hid (Tw w)) (hp : r.p = 3) (hs : r.n.size ≤ 1000 ∧ r.l.size ≤ 1000) : Calls Tryd.prog 41 #[.agg (i6 r)] w fun e w' => e = .returned (.string (textI r)) ∧ Below w.heap.size w w' := by
  have e0 : textI r = r.n ++ ⟨#[32]⟩ ++ ⟨#[108, 111, 119]⟩ ++ ⟨#[32]⟩ ++ r.l := by unfold textI; rw [hp]; rfl
  rw [e0]
  clear e0
  obtain ⟨k, n, a, l, p, sp, m, cap⟩ := r
  simp only at hp hs ⊢
  subst hp
  have hB : Hid (Fm w [(w.heap.size, i6 ⟨k, n, a, l, 3, sp, m, cap⟩, 39)] (w.alloc (.cells (i6 ⟨k, n, a, l, 3, sp, m, cap⟩) 39))) := Fm.one w _ _
  have s1 : (n.size : Int) ≤ 1000 := by omega
  have s2 : (l.size : Int) ≤ 1000 := by omega
  have i1 : ∀ v, (Instr.indexAt 96 (.pointer (some ⟨0, 0, none⟩)) (.int .u8 3)).run Tryd.prog v = .ok (.pointer (some ⟨0, 3, none⟩)) v := fun v => idxW 3 (by decide) v
  clear hs
  go_enter Tryd.func41, Tryd.ntmps41
  go_wp2_with ((with_reducible refine gen_world (w.alloc (.cells (i6 ⟨k, n, a, l, 3, sp, m, cap⟩) 39)) (Fm w [(w.heap.size, i6 ⟨k, n, a, l, 3, sp, m, cap⟩, 39)]) hB.out ?_); intro y K1; have d1 := (K1.out.bx 0 _ _ _ rfl).c 1 (.string n) rfl; have d3 := (K1.out.bx 0 _ _ _ rfl).c 3 (.string l) rfl; have d4 := (K1.out.bx 0 _ _ _ rfl).c 4 (.int .u8 3) rfl; have gw := (T.out.below K1.out.low).c.2.2)
  have fin : Hid (Below w.heap.size w y) := K1.out.low
  go_quiet (fail)
  go_wp2
  go_ret
  exact ⟨rfl, below_drewN fin.out⟩
theorem ctext_any (w : World) (r : Ri) (T : Hid (Tw w)) (hp : r.p = 0 ∨ r.p = 1 ∨ r.p = 2 ∨ r.p = 3) (hs : r.n.size ≤ 1000 ∧ r.l.size ≤ 1000) : Calls Tryd.prog 41 #[.agg (i6 r)] w fun e w' => e = .returned (.string (textI r)) ∧ Below w.heap.size w w' := by
  rcases hp with h | h | h | h
  · exact ctext0 w r T h
  · exact ctext1 w r T h hs
  · exact ctext2 w r T h hs
  · exact ctext3 w r T h hs

theorem KT.below {w y z : World} {v : Value} {O : List ByteArray} (h : KT w v O y) (hb : Below y.heap.size y z) : KT w v O z := by
  refine ⟨⟨h.1.1, ?_⟩, h.2.trans (hb.mono h.2.size)⟩
  rcases h.1.2 with h0 | ⟨g, cap, cur, hv, hb', hg, hr⟩
  · exact .inl h0
  · exact .inr ⟨g, cap, cur, hv, hb', (hb.block g (heap_lt hg)).trans hg, hr⟩
theorem KT.opened {w y : World} {v : Value} {ws : List ByteArray} (h : KT w v ws y) : ∃ sp cap, v = .slice sp ws.length cap ∧ LiesT y sp ws ∧ ws.length ≤ cap := by
  obtain ⟨sp, cap, e, hl⟩ := h.open
  refine ⟨sp, cap, e, hl, ?_⟩
  rcases h.1.2 with ⟨h0, hn⟩ | ⟨g, cap', cur, hv, _, _, hle, _⟩
  · omega
  · rw [hv] at e
    injection e with e1 e2 e3
    omega
theorem KT.first (w : World) (s : ByteArray) : KT w (.slice (some ⟨w.heap.size, 0, none⟩) 1 1) [s] (w.alloc (.cells #[.string s] 9)) := by
  refine ⟨⟨rfl, .inr ⟨w.heap.size, 1, _, rfl, Nat.le_refl _, alloc_last' w _, Nat.le_refl _, by unfold maxLen; decide, rfl, rfl⟩⟩, below1 w _⟩
def wordsD (b : List UInt8) : List ByteArray := ⟨#[100, 97, 116, 97]⟩ :: b.map fun x => hexOf (x.toNat : Int) 2
theorem wordsD_take {b : List UInt8} {j : Nat} (h : j < b.length) : wordsD (b.take (j + 1)) = wordsD (b.take j) ++ [hexOf (b[j].toNat : Int) 2] := by
  unfold wordsD
  rw [List.take_add_one, List.getElem?_eq_getElem h, List.map_append]
  rfl
theorem wordsD_join (b : List UInt8) : Lib.join ((wordsD b).map (·.data.toList)) [32] = [100, 97, 116, 97] ++ dataL b := by
  have key : Lib.joinTail [32] ((b.map fun x => hexOf (x.toNat : Int) 2).map (·.data.toList)) = dataL b := by
    unfold Lib.joinTail
    induction b with
    | nil => rfl
    | cons x b ih =>
      rw [List.map_cons, List.map_cons, List.map_cons, List.flatten_cons, ih]
      show 32 :: strL (hexOf (x.toNat : Int) 2) ++ dataL b = _
      rw [(hex2_is x).1]
      rfl
  unfold wordsD
  rw [List.map_cons, Lib.join_cons, key]
theorem wordsD_size (b : List UInt8) : ∀ s ∈ wordsD b, s.size ≤ 8 := fun s hs => by
  rcases List.mem_cons.1 hs with rfl | hs
  · decide
  · obtain ⟨x, _, rfl⟩ := List.mem_map.1 hs
    rw [(hex2_is x).2]
    decide
theorem dtext_any (w : World) (sp : Option Addr) (cap : Nat) (b : List UInt8) (hl : Hid (LB8 w sp b)) (h1 : 1 ≤ b.length) (hb : b.length ≤ 256) : Calls Tryd.prog 42 #[.slice sp b.length cap] w fun e w' => e = .returned (.string ⟨([100, 97, 116, 97] ++ dataL b).toArray⟩) ∧ Below w.heap.size w w' := by
  obtain ⟨m, hm⟩ : ∃ m, b.length = m := ⟨_, rfl⟩
  have hm' : Hid (b.length = m ∧ 1 ≤ m ∧ m ≤ 256) := ⟨hm, by omega, by omega⟩
  obtain ⟨LS, hLS⟩ : ∃ x, (⟨([100, 97, 116, 97] ++ dataL b).toArray⟩ : ByteArray) = x := ⟨_, rfl⟩
  have e0 : Hid (LS = ⟨(Lib.join ((wordsD b).map (·.data.toList)) [32]).toArray⟩ ∧ (Lib.join ((wordsD b).map (·.data.toList)) [32]).length ≤ 3000) := by
    refine ⟨by rw [wordsD_join, ← hLS], ?_⟩
    rw [wordsD_join, List.length_append, dataL_len]
    show 4 + _ ≤ _
    omega
  rw [hLS, hm]
  have mi : (m : Int) ≤ 256 := by omega
  obtain ⟨i9, hi9, hz0, hz1, hz2⟩ := info_parts infoT
  have K0 : Hid (KT w (.slice (some ⟨w.heap.size, 0, none⟩) 1 1) (wordsD (b.take 0)) (w.alloc (.cells #[.string ⟨#[100, 97, 116, 97]⟩] 9))) := KT.first w _
  clear hLS hm h1 hb
  go_enter Tryd.func42, Tryd.ntmps42
  go_wp2
  go_loopw [3, 9] (fun o t wz => ∃ (j : Nat) (va : Value) (z : World), z = wz ∧ va = o ∧ t = .int .i64 (j : Int) ∧ Hid (j ≤ m) ∧ Hid (KT w va (wordsD (b.take j)) z)) (fun _ t _ => (m - intOf t).toNat)
  case atStart => exact ⟨0, _, _, rfl, rfl, rfl, Nat.zero_le _, K0⟩
  case round =>
    obtain ⟨j, va, z, rfl, rfl, rfl, J, K⟩ := hrel
    by_cases hlt : j < m
    · have hjb : j < b.length := by have := hm'.out.1; omega
      obtain ⟨g, ob, hsp, hc⟩ := hl.out j b[j] (List.getElem?_eq_getElem hjb)
      have hc : Hid (z.cell? ⟨g, ob + j, none⟩ = some (byV b[j])) := (K.out.2.cell (p := ⟨g, ob + j, none⟩) (World.block_lt_of_cell? w _ hc)).trans hc
      subst hsp
      have ij := fun v => idxP (g := g) (off := ob) (len := m) (cap := cap) Tryd.underlying37 (s := 1) (by kernel_rfl) .i64 j v hlt
      rw [Nat.mul_one] at ij
      have hji : (j : Int) < m := by omega
      have hj' : Hid (j < m) := hlt
      have hH := fun v => hex_any (b[j].toNat : Int) 2 v (by have := b[j].toNat_lt; omega)
      have hnx := wordsD_take hjb
      have hBl : Hid ((wordsD (b.take j)).length ≤ 257) := by
        show _ ≤ _
        unfold wordsD
        rw [List.length_cons, List.length_map, List.length_take]
        have := hm'.out
        omega
      have c1 := hc.out
      unfold byV at c1
      have u1 : (b[j].toNat : Int) < 256 := by have := b[j].toNat_lt; omega
      have u0 : 0 ≤ (b[j].toNat : Int) := by omega
      generalize hexOf (b[j].toNat : Int) 2 = HX at hH hnx
      generalize (b[j].toNat : Int) = N at hH c1 u1 u0
      replace hnx : Hid _ := hnx
      generalize wordsD (b.take j) = B at K hBl hnx
      clear hlt hc
      go_wp2_with (first
        | (go_at_call 43; refine (hH z).mono ?_; rintro e z2 ⟨rfl, h2⟩; have Kb : Hid (KT w va B z2) := K.out.below h2; clear h2)
        | (at_builtin; refine wpList_append_own _ rfl (.tmp 13) (.tmp 17) 59 rfl w.heap.size 9 i9 (.string ⟨#[]⟩) 1 16 Tryd.underlying59 hi9 hz0 hz1 hz2 rfl (by decide) va B.length (B.map .string) rfl (Kb.out.1.alloc _) ⟨z2.heap.size, 0, none⟩ 1 1 [.string HX] rfl rfl (one_str z2 _) (by simp [Value.oneCell']) ?_ ?_ ?_ ?_; (have h1 := hBl.out; unfold maxLen; omega); (have h1 := hBl.out; omega); (have := Kb.out.2.size; simp; omega); intro v4 z4 h3 h4 h5; have K4 : Hid (KT w v4 (B ++ [HX]) z4) := Kb.out.add h3 h4; clear h3 h4 h5))
      go_roundw
      case rel => exact ⟨j + 1, _, _, rfl, rfl, by simp, hj'.out, by rw [hnx.out]; exact K4⟩
      case measure => have := hj'.out; simp [intOf]; omega
    · have hje : j = m := by have := J.out; omega
      subst hje
      have eT : b.take j = b := List.take_of_length_le (by rw [hm'.out.1]; exact Nat.le_refl _)
      rw [eT] at K
      obtain ⟨sp', cap', rfl, hls, hcap⟩ := K.out.opened
      have hln : (wordsD b).length = b.length + 1 := by unfold wordsD; rw [List.length_cons, List.length_map]
      have hsome : ∃ g, sp' = some ⟨g, 0, none⟩ ∧ g < z.heap.size := by
        obtain ⟨g, e, c⟩ := hls 0 ⟨#[100, 97, 116, 97]⟩ rfl
        exact ⟨g, e, World.block_lt_of_cell? z _ c⟩
      obtain ⟨g, rfl, hg⟩ := hsome
      have hJn := Tryd.strings_Join g 0 cap' (wordsD b) ⟨#[32]⟩ z (fun j x hx => by
        obtain ⟨g', e, c⟩ := hls j x hx
        cases e
        rw [Nat.zero_add]
        exact c) hg (by rw [hln]; have := hm'.out; omega) hcap (by have := e0.out.2; show (Lib.join ((wordsD b).map (·.data.toList)) [32]).length ≤ _; omega)
      rw [show (⟨(Lib.join ((wordsD b).map (·.data.toList)) (ByteArray.mk #[32]).data.toList).toArray⟩ : ByteArray) = LS from e0.out.1.symm] at hJn
      generalize (wordsD b).length = L at hJn
      clear hlt
      go_wp2_with (go_at_call 70; refine hJn.mono ?_; rintro e z5 ⟨rfl, h5⟩)
      go_ret
      exact ⟨rfl, K.out.2.trans (h5.mono K.out.2.size)⟩

theorem ba2 {a b : ByteArray} (h : strL a = strL b) : a = b := by rw [← strL_mk a, h, strL_mk]
theorem text_line {r : Ri} {b : List UInt8} (hk : r.k = 2) (hp : r.p = 0 ∨ r.p = 1 ∨ r.p = 2 ∨ r.p = 3) : ⟨#[32]⟩ ++ textI r ++ ⟨#[10]⟩ = lineI r b ++ ⟨#[10]⟩ := by
  have key : ⟨#[32]⟩ ++ textI r = lineI r b := by
    have el : lineI r b = if r.p = 1 then ⟨#[32]⟩ ++ r.n ++ ⟨#[32, 116, 111, 32]⟩ ++ r.l else if r.p = 2 then ⟨#[32]⟩ ++ r.n ++ ⟨#[32, 104, 105, 103, 104, 32]⟩ ++ r.l else if r.p = 3 then ⟨#[32]⟩ ++ r.n ++ ⟨#[32, 108, 111, 119, 32]⟩ ++ r.l else ⟨#[32]⟩ ++ printS r.n r.a := by
      unfold lineI
      rw [if_neg (by omega), if_neg (by omega), if_neg (by omega), if_neg (by omega)]
    rw [el]
    clear el
    rcases hp with h | h | h | h
    · have et : textI r = printS r.n r.a := by unfold textI; rw [if_pos h]
      rw [et, if_neg (by omega), if_neg (by omega), if_neg (by omega)]
    · have et : textI r = r.n ++ ⟨#[32]⟩ ++ ⟨#[116, 111]⟩ ++ ⟨#[32]⟩ ++ r.l := by unfold textI; rw [h]; rfl
      rw [et, if_pos h]
      refine ba2 ?_
      simp only [strL_app, List.append_assoc]
      rfl
    · have et : textI r = r.n ++ ⟨#[32]⟩ ++ ⟨#[104, 105, 103, 104]⟩ ++ ⟨#[32]⟩ ++ r.l := by unfold textI; rw [h]; rfl
      rw [et, if_neg (by omega), if_pos h]
      refine ba2 ?_
      simp only [strL_app, List.append_assoc]
      rfl
    · have et : textI r = r.n ++ ⟨#[32]⟩ ++ ⟨#[108, 111, 119]⟩ ++ ⟨#[32]⟩ ++ r.l := by unfold textI; rw [h]; rfl
      rw [et, if_neg (by omega), if_neg (by omega), if_pos h]
      refine ba2 ?_
      simp only [strL_app, List.append_assoc]
      rfl
  rw [key]
theorem textI_small (r : Ri) (hs : r.n.size ≤ 1000 ∧ r.l.size ≤ 1000) : (textI r).size ≤ 3000 := by
  unfold textI
  split
  · have := printS_le r.n r.a; omega
  · have e : ∀ b1 b2 : Bool, (if b1 then (⟨#[116, 111]⟩ : ByteArray) else if b2 then ⟨#[104, 105, 103, 104]⟩ else ⟨#[108, 111, 119]⟩).size ≤ 4 := by decide
    have e1 := e (decide (r.p = 1)) (decide (r.p = 2))
    simp only [decide_eq_true_eq] at e1
    rw [ByteArray.size_append, ByteArray.size_append, ByteArray.size_append, ByteArray.size_append]
    show _ + 1 + _ + 1 + _ ≤ _
    omega
theorem lineof2 (w : World) (r : Ri) (b : List UInt8) (T : Hid (Tw w)) (hk : r.k = 2) (hs : r.n.size ≤ 1000 ∧ r.l.size ≤ 1000) (hp : r.p = 0 ∨ r.p = 1 ∨ r.p = 2 ∨ r.p = 3) : Calls Tryd.prog 24 #[.agg (i6 r)] w fun e w' => e = .returned (.string (lineI r b ++ ⟨#[10]⟩)) ∧ Below w.heap.size w w' := by
  have hB : Hid (Fm w [(w.heap.size, i6 r, 39)] (w.alloc (.cells (i6 r) 39))) := Fm.one w _ _
  have k2 : (r.k == 2) = true := by rw [beq_iff_eq]; exact hk
  rw [← text_line (b := b) hk hp]
  have hC := fun v T => ctext_any v r T hp hs
  have hz : ((textI r).size : Int) ≤ 3000 := by have := textI_small r hs; omega
  generalize textI r = S at hC hz
  clear hk hp
  have s1 : (r.n.size : Int) ≤ 1000 := by omega
  have s2 : (r.l.size : Int) ≤ 1000 := by omega
  clear hs
  go_enter Tryd.func24, Tryd.ntmps24
  go_wp2_with (first
    | ((with_reducible refine at_load rt6 w.heap.size (i6 r) ?_ ?_ (.tmp 1) ?_ ?_ ?_ ?_); exact K1.out.bx 0 _ _ _ rfl; rfl; rfl; rfl; rfl)
    | (go_at_call 41; refine (hC y (T.out.below K1.out.low)).mono ?_; rintro e y2 ⟨rfl, h2⟩; have K2 : Hid (Below w.heap.size w y2) := (K1.out.below h2).low; clear d0 d1 d2 d3 d4 d5 h2)
    | ((with_reducible refine gen_world (w.alloc (.cells (i6 r) 39)) (Fm w [(w.heap.size, i6 r, 39)]) hB.out ?_); intro y K1; have d0 := (K1.out.bx 0 _ _ _ rfl).c 0 (.int .u8 r.k) rfl; have d1 := (K1.out.bx 0 _ _ _ rfl).c 1 (.string r.n) rfl; have d2 := (K1.out.bx 0 _ _ _ rfl).c 2 (.int .i64 r.a) rfl; have d3 := (K1.out.bx 0 _ _ _ rfl).c 3 (.string r.l) rfl; have d4 := (K1.out.bx 0 _ _ _ rfl).c 4 (.int .u8 r.p) rfl; have d5 := (K1.out.bx 0 _ _ _ rfl).c 5 (.slice r.sp r.m r.cap) rfl))
  go_ret
  exact ⟨rfl, K2.out⟩
theorem lineof3 (w : World) (r : Ri) (b : List UInt8) (T : Hid (Tw w)) (hk : r.k = 3) (hs : r.n.size ≤ 1000 ∧ r.l.size ≤ 1000) (hl : Hid (LB8 w r.sp b)) (hm : b.length = r.m) (h1 : 1 ≤ b.length) (h6 : b.length ≤ 256) : Calls Tryd.prog 24 #[.agg (i6 r)] w fun e w' => e = .returned (.string (lineI r b ++ ⟨#[10]⟩)) ∧ Below w.heap.size w w' := by
  have hB : Hid (Fm w [(w.heap.size, i6 r, 39)] (w.alloc (.cells (i6 r) 39))) := Fm.one w _ _
  have k2 : (r.k == 2) = false := by rw [beq_eq_false_iff_ne]; omega
  have k3 : (r.k == 3) = true := by rw [beq_iff_eq]; exact hk
  have e0 : lineI r b ++ ⟨#[10]⟩ = ⟨#[32]⟩ ++ ⟨([100, 97, 116, 97] ++ dataL b).toArray⟩ ++ ⟨#[10]⟩ := by
    congr 1
    unfold lineI
    rw [if_neg (by omega), if_pos hk]
    refine ba2 ?_
    rw [strL_app]
    rfl
  rw [e0]
  have hD := fun v h => dtext_any v r.sp r.cap b h h1 h6
  rw [hm] at hD
  have hz : ((⟨([100, 97, 116, 97] ++ dataL b).toArray⟩ : ByteArray).size : Int) ≤ 3000 := by
    have : (⟨([100, 97, 116, 97] ++ dataL b).toArray⟩ : ByteArray).size = 4 + b.length * 3 := by
      show ([100, 97, 116, 97] ++ dataL b).toArray.size = _
      rw [List.size_toArray, List.length_append, dataL_len]
      rfl
    omega
  generalize (⟨([100, 97, 116, 97] ++ dataL b).toArray⟩ : ByteArray) = S at hD hz
  clear hk e0 hm h1 h6
  have s1 : (r.n.size : Int) ≤ 1000 := by omega
  have s2 : (r.l.size : Int) ≤ 1000 := by omega
  clear hs
  go_enter Tryd.func24, Tryd.ntmps24
  go_wp2_with (first
    | (go_at_call 42; refine (hD y (hl.out.below K1.out.low)).mono ?_; rintro e y2 ⟨rfl, h2⟩; have K2 : Hid (Below w.heap.size w y2) := (K1.out.below h2).low; clear d0 d1 d2 d3 d4 d5 h2)
    | ((with_reducible refine gen_world (w.alloc (.cells (i6 r) 39)) (Fm w [(w.heap.size, i6 r, 39)]) hB.out ?_); intro y K1; have d0 := (K1.out.bx 0 _ _ _ rfl).c 0 (.int .u8 r.k) rfl; have d1 := (K1.out.bx 0 _ _ _ rfl).c 1 (.string r.n) rfl; have d2 := (K1.out.bx 0 _ _ _ rfl).c 2 (.int .i64 r.a) rfl; have d3 := (K1.out.bx 0 _ _ _ rfl).c 3 (.string r.l) rfl; have d4 := (K1.out.bx 0 _ _ _ rfl).c 4 (.int .u8 r.p) rfl; have d5 := (K1.out.bx 0 _ _ _ rfl).c 5 (.slice r.sp r.m r.cap) rfl))
  go_ret
  exact ⟨rfl, K2.out⟩
theorem lineof4 (w : World) (r : Ri) (b : List UInt8) (T : Hid (Tw w)) (hk : r.k = 4) (hs : r.n.size ≤ 1000 ∧ r.l.size ≤ 1000) (ha : r.a ≤ 9223372036854775807) : Calls Tryd.prog 24 #[.agg (i6 r)] w fun e w' => e = .returned (.string (lineI r b ++ ⟨#[10]⟩)) ∧ Below w.heap.size w w' := by
  have hB : Hid (Fm w [(w.heap.size, i6 r, 39)] (w.alloc (.cells (i6 r) 39))) := Fm.one w _ _
  have k2 : (r.k == 2) = false := by rw [beq_eq_false_iff_ne]; omega
  have k3 : (r.k == 3) = false := by rw [beq_eq_false_iff_ne]; omega
  have k4 : (r.k == 4) = true := by rw [beq_iff_eq]; exact hk
  rw [show lineI r b = _ from by unfold lineI; rw [if_neg (by omega), if_neg (by omega), if_pos hk]]
  have hH := fun v => hex_any r.a 4 v ha
  have hz : ((hexOf r.a 4).size : Int) ≤ 8 := by have := hexOf_le r.a 4; omega
  generalize hexOf r.a 4 = S at hH hz
  clear hk ha
  have s1 : (r.n.size : Int) ≤ 1000 := by omega
  have s2 : (r.l.size : Int) ≤ 1000 := by omega
  clear hs
  go_enter Tryd.func24, Tryd.ntmps24
  go_wp2_with (first
    | (go_at_call 43; refine (hH y).mono ?_; rintro e y2 ⟨rfl, h2⟩; have K2 : Hid (Below w.heap.size w y2) := (K1.out.below h2).low; clear d0 d1 d2 d3 d4 d5 h2)
    | ((with_reducible refine gen_world (w.alloc (.cells (i6 r) 39)) (Fm w [(w.heap.size, i6 r, 39)]) hB.out ?_); intro y K1; have d0 := (K1.out.bx 0 _ _ _ rfl).c 0 (.int .u8 r.k) rfl; have d1 := (K1.out.bx 0 _ _ _ rfl).c 1 (.string r.n) rfl; have d2 := (K1.out.bx 0 _ _ _ rfl).c 2 (.int .i64 r.a) rfl; have d3 := (K1.out.bx 0 _ _ _ rfl).c 3 (.string r.l) rfl; have d4 := (K1.out.bx 0 _ _ _ rfl).c 4 (.int .u8 r.p) rfl; have d5 := (K1.out.bx 0 _ _ _ rfl).c 5 (.slice r.sp r.m r.cap) rfl))
  go_ret
  exact ⟨rfl, K2.out⟩
theorem lineof5 (w : World) (r : Ri) (b : List UInt8) (T : Hid (Tw w)) (hk : r.k = 5) (hs : r.n.size ≤ 1000 ∧ r.l.size ≤ 1000) : Calls Tryd.prog 24 #[.agg (i6 r)] w fun e w' => e = .returned (.string (lineI r b ++ ⟨#[10]⟩)) ∧ Below w.heap.size w w' := by
  have hB : Hid (Fm w [(w.heap.size, i6 r, 39)] (w.alloc (.cells (i6 r) 39))) := Fm.one w _ _
  have k2 : (r.k == 2) = false := by rw [beq_eq_false_iff_ne]; omega
  have k3 : (r.k == 3) = false := by rw [beq_eq_false_iff_ne]; omega
  have k4 : (r.k == 4) = false := by rw [beq_eq_false_iff_ne]; omega
  have k5 : (r.k == 5) = true := by rw [beq_iff_eq]; exact hk
  rw [show lineI r b = _ from by unfold lineI; rw [if_neg (by omega), if_neg (by omega), if_neg (by omega), if_pos hk]]
  clear hk
  have s1 : (r.n.size : Int) ≤ 1000 := by omega
  have s2 : (r.l.size : Int) ≤ 1000 := by omega
  clear hs
  go_enter Tryd.func24, Tryd.ntmps24
  go_wp2_with (first
    | ((with_reducible refine gen_world (w.alloc (.cells (i6 r) 39)) (Fm w [(w.heap.size, i6 r, 39)]) hB.out ?_); intro y K1; have d0 := (K1.out.bx 0 _ _ _ rfl).c 0 (.int .u8 r.k) rfl; have d1 := (K1.out.bx 0 _ _ _ rfl).c 1 (.string r.n) rfl; have d2 := (K1.out.bx 0 _ _ _ rfl).c 2 (.int .i64 r.a) rfl; have d3 := (K1.out.bx 0 _ _ _ rfl).c 3 (.string r.l) rfl; have d4 := (K1.out.bx 0 _ _ _ rfl).c 4 (.int .u8 r.p) rfl; have d5 := (K1.out.bx 0 _ _ _ rfl).c 5 (.slice r.sp r.m r.cap) rfl))
  go_ret
  exact ⟨rfl, K1.out.low⟩
theorem lineof1 (w : World) (r : Ri) (b : List UInt8) (T : Hid (Tw w)) (hk : r.k = 1) (hs : r.n.size ≤ 1000 ∧ r.l.size ≤ 1000) : Calls Tryd.prog 24 #[.agg (i6 r)] w fun e w' => e = .returned (.string (lineI r b ++ ⟨#[10]⟩)) ∧ Below w.heap.size w w' := by
  have hB : Hid (Fm w [(w.heap.size, i6 r, 39)] (w.alloc (.cells (i6 r) 39))) := Fm.one w _ _
  have k2 : (r.k == 2) = false := by rw [beq_eq_false_iff_ne]; omega
  have k3 : (r.k == 3) = false := by rw [beq_eq_false_iff_ne]; omega
  have k4 : (r.k == 4) = false := by rw [beq_eq_false_iff_ne]; omega
  have k5 : (r.k == 5) = false := by rw [beq_eq_false_iff_ne]; omega
  have e0 : lineI r b ++ ⟨#[10]⟩ = r.n ++ ⟨#[58, 10]⟩ := by
    unfold lineI
    rw [if_pos hk]
    refine ba2 ?_
    rw [strL_app, strL_app, strL_app, List.append_assoc]
    rfl
  rw [e0]
  clear hk e0
  have s1 : (r.n.size : Int) ≤ 1000 := by omega
  have s2 : (r.l.size : Int) ≤ 1000 := by omega
  clear hs
  go_enter Tryd.func24, Tryd.ntmps24
  go_wp2_with (first
    | ((with_reducible refine gen_world (w.alloc (.cells (i6 r) 39)) (Fm w [(w.heap.size, i6 r, 39)]) hB.out ?_); intro y K1; have d0 := (K1.out.bx 0 _ _ _ rfl).c 0 (.int .u8 r.k) rfl; have d1 := (K1.out.bx 0 _ _ _ rfl).c 1 (.string r.n) rfl; have d2 := (K1.out.bx 0 _ _ _ rfl).c 2 (.int .i64 r.a) rfl; have d3 := (K1.out.bx 0 _ _ _ rfl).c 3 (.string r.l) rfl; have d4 := (K1.out.bx 0 _ _ _ rfl).c 4 (.int .u8 r.p) rfl; have d5 := (K1.out.bx 0 _ _ _ rfl).c 5 (.slice r.sp r.m r.cap) rfl))
  go_ret
  exact ⟨rfl, K1.out.low⟩

theorem may_form {r : Ri} (h : mayI r = true) : (r.k = 1 ∨ r.k = 2 ∨ r.k = 3 ∨ r.k = 4 ∨ r.k = 5) ∧ (r.p = 0 ∨ r.p = 1 ∨ r.p = 2 ∨ r.p = 3) ∧ (r.k = 3 → 1 ≤ r.m) := by
  unfold mayI at h
  by_cases h2 : r.k = 2
  · rw [if_pos h2] at h
    refine ⟨by omega, ?_, by omega⟩
    unfold codeI at h
    rcases e : opOf r.n with _ | n
    · rw [e] at h; cases h
    · rw [e] at h
      have h' : codeF (fm n) r = true := h
      unfold codeF at h'
      by_cases hp : r.p = 0
      · exact .inl hp
      · rw [if_neg hp] at h'
        simp only [Bool.and_eq_true] at h'
        have h3 := h'.2.2.2
        split at h3
        · have := of_decide_eq_true h3; omega
        · split at h3
          · have := of_decide_eq_true h3; omega
          · cases h3
  rw [if_neg h2] at h
  by_cases hp : r.p = 0
  · rw [if_neg (by omega)] at h
    refine ⟨?_, .inl hp, fun h3 => ?_⟩
    · by_cases h1 : r.k = 1
      · omega
      rw [if_neg h1] at h
      by_cases h3 : r.k = 3
      · omega
      rw [if_neg h3] at h
      by_cases h4 : r.k = 4
      · omega
      rw [if_neg h4] at h
      by_cases h5 : r.k = 5
      · omega
      rw [if_neg h5] at h
      cases h
    · rw [if_neg (by omega), if_pos h3] at h
      simp only [Bool.and_eq_true, decide_eq_true_iff] at h
      omega
  · rw [if_pos hp] at h
    cases h
/-- The line of an item that may be. -/
theorem lineof_any (w : World) (r : Ri) (b : List UInt8) (T : Hid (Tw w)) (hm : mayI r = true) (hs : r.n.size ≤ 1000 ∧ r.l.size ≤ 1000) (hl : Hid (LB8 w r.sp b)) (hb : b.length = r.m) (h6 : b.length ≤ 256) (ha : r.a ≤ 9223372036854775807) : Calls Tryd.prog 24 #[.agg (i6 r)] w fun e w' => e = .returned (.string (lineI r b ++ ⟨#[10]⟩)) ∧ Below w.heap.size w w' := by
  obtain ⟨hk, hp, h3⟩ := may_form hm
  rcases hk with h | h | h | h | h
  · exact lineof1 w r b T h hs
  · exact lineof2 w r b T h hs hp
  · exact lineof3 w r b T h hs hl hb (by have := h3 h; omega) h6
  · exact lineof4 w r b T h hs ha
  · exact lineof5 w r b T h hs
end Go.Proofs.YtmaedkbmjbggpaaDoor
