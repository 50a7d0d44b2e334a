/- The statements' own: bytes lent with three marked ones behind them. The statements' own: whether lent bytes came back as they were; then they are written over. The statements' own: words lent with two marked ones behind them, and whether they came back. -/
import Derived.Test.YtfkifppadngmdaaG11
namespace Go.Proofs.Ytfkifppadngmdaa
open Go Go.RowKit Go.Shelf
set_option linter.unusedVariables false
set_option maxHeartbeats 1000000
set_option maxRecDepth 20000

/-- Bytes with marked ones behind them. -/
def mk3 (l : List UInt8) : List UInt8 := l ++ [161, 162, 163]
theorem three_cells {A : Array Value} {L : List Value} {n : Nat} (hs : A.size = n + 3) (hL : L.length = n) (h : ∀ k, k < n → A[k]? = L[k]?) (a b c : Value) :
    ((A.setIfInBounds n a).setIfInBounds (n + 1) b).setIfInBounds (n + 2) c = (L ++ [a, b, c]).toArray := by
  apply Array.ext
  · simp [hs, hL]
  · intro k h1 h2
    apply Option.some.inj
    rw [← Array.getElem?_eq_getElem h1, ← Array.getElem?_eq_getElem h2]
    simp only [Array.getElem?_setIfInBounds, Array.size_setIfInBounds, List.getElem?_toArray]
    have hk : k < n + 3 := by simpa [hs] using h1
    by_cases e2 : k = n + 2
    · subst e2
      simp [hs, hL]
    by_cases e1 : k = n + 1
    · subst e1
      simp [hs, hL]
    by_cases e0 : k = n
    · subst e0
      simp [hs, hL]
    · rw [if_neg (by omega), if_neg (by omega), if_neg (by omega), h k (by omega), List.getElem?_append_left (by omega)]
theorem lent18_any (w : World) (sp : Option Addr) (cap : Nat) (l : List UInt8) (hl : Hid (LB w sp l)) (hn : l.length ≤ 2147483647) :
    Calls Try.prog 5 #[.slice sp l.length cap] w fun e w' => e = .returned (.slice (some ⟨w.heap.size, 0, none⟩) l.length (l.length + 3)) ∧ Hid (Bx w' w.heap.size (rowB (mk3 l)) 5 ∧ Below w.heap.size w w') := by
  obtain ⟨n, hn'⟩ : ∃ n, l.length = n := ⟨_, rfl⟩
  obtain ⟨M, hM, hmk⟩ := mk_row kByte (n + 3) (by omega) (by omega)
  have hmk2 : ∀ v, (Instr.makeSlice 22 (.int .i64 ((n : Int) + 3)) (.int .i64 ((n : Int) + 3))).run Try.prog v = .ok (.slice (some ⟨v.heap.size, 0, none⟩) (n + 3) (n + 3)) (v.alloc (.cells M 5)) := fun v => hmk v
  have hli : (n : Int) ≤ 2147483647 := by omega
  have hnn : Hid (l.length = n) := hn'
  rw [hn']
  obtain ⟨g, hg⟩ : ∃ g, w.heap.size = g := ⟨_, rfl⟩
  have hmk' := hmk2 w
  rw [hg] at hmk'
  rw [hg]
  have hA : Hid ((w.alloc (.cells M 5)).heap[g]? = some (.cells M 5 (0, 0)) ∧ LB (w.alloc (.cells M 5)) sp l ∧ Below g w (w.alloc (.cells M 5))) := ⟨by rw [← hg]; exact alloc_last' w _, hl.out.below (below1 w _), by rw [← hg]; exact below1 w _⟩
  have hM' : Hid (M.size = n + 3) := by show _ = _; omega
  obtain ⟨n1, hn1⟩ : ∃ x, n + 1 = x := ⟨_, rfl⟩
  obtain ⟨n2, hn2⟩ : ∃ x, n + 2 = x := ⟨_, rfl⟩
  have q1 : (n : Int) + 1 = (n1 : Int) := by omega
  have q2 : (n : Int) + 2 = (n2 : Int) := by omega
  have i0 := fun v => idxB .i64 g 0 (n + 3) (n + 3) n v (by omega)
  have i1 := fun v => idxB .i64 g 0 (n + 3) (n + 3) n1 v (by omega)
  have i2 := fun v => idxB .i64 g 0 (n + 3) (n + 3) n2 v (by omega)
  simp only [Nat.zero_add] at i0 i1 i2
  have hk : Hid (n + 1 = n1 ∧ n + 2 = n2) := ⟨hn1, hn2⟩
  clear hn hn' hmk hmk2 hg hM hn1 hn2
  go_enter Try.func5, Try.ntmps5
  go_wp2_with (refine at_copyL kByte rfl (.tmp 8) (.tmp 9) rfl g (n + 3) (n + 3) sp n cap rfl rfl M hA.out.1 l hnn.out (by omega) hA.out.2.1 ?_ g (Nat.le_refl _) ?_)
  · rw [hM'.out]; omega
  intro w1 H1
  obtain ⟨A0, hA0⟩ : ∃ A0, Hid ((splice M.toList 0 (rowL cB l)).toArray = A0) := ⟨_, (rfl : (splice M.toList 0 (rowL cB l)).toArray = _)⟩
  have f0 : Hid (A0.size = n + 3 ∧ ∀ k, k < n → A0[k]? = (l.map byV)[k]?) := by
    rw [← hA0.out]
    refine ⟨?_, fun k hk => ?_⟩
    · rw [List.size_toArray, length_splice _ _ _ (by rw [rowL_len kByte.len, hnn.out, Array.length_toList, hM'.out]; omega), Array.length_toList, hM'.out]
    · rw [List.getElem?_toArray, spliceL_at _ _ _ (by rw [rowL_len kByte.len, hnn.out, Array.length_toList, hM'.out]; omega), if_pos ⟨Nat.zero_le _, by rw [rowL_len kByte.len, hnn.out]; omega⟩, rowB_eq, Nat.sub_zero]
  have K1 : Hid (Bx w1 g A0 5 ∧ Below g w w1) := ⟨by have := H1.out.1; rw [hA0.out] at this; exact this, hA.out.2.2.trans H1.out.2⟩
  obtain ⟨A1, hA1⟩ : ∃ x, Hid (A0.setIfInBounds n (.int .u8 161) = x) := ⟨_, (rfl : A0.setIfInBounds n (.int .u8 161) = _)⟩
  obtain ⟨A2, hA2⟩ : ∃ x, Hid (A1.setIfInBounds n1 (.int .u8 162) = x) := ⟨_, (rfl : A1.setIfInBounds n1 (.int .u8 162) = _)⟩
  obtain ⟨A3, hA3⟩ : ∃ x, Hid (A2.setIfInBounds n2 (.int .u8 163) = x) := ⟨_, (rfl : A2.setIfInBounds n2 (.int .u8 163) = _)⟩
  have e3 : Hid (A3 = rowB (mk3 l)) := by
    show _ = _
    rw [← hA3.out, ← hA2.out, ← hA1.out, ← hk.out.1, ← hk.out.2, three_cells (L := l.map byV) f0.out.1 (by simp [hnn.out]) f0.out.2]
    unfold rowB mk3
    simp [byV]
  have s1 : Hid (A1.size = n + 3 ∧ A2.size = n + 3) := by show _ ∧ _; rw [← hA2.out, ← hA1.out]; simp [f0.out.1]
  obtain ⟨v0, hv0⟩ : ∃ v, Hid (A0[n]? = some v) := ⟨_, Array.getElem?_eq_getElem (by rw [f0.out.1]; omega)⟩
  obtain ⟨v1, hv1⟩ : ∃ v, Hid (A1[n1]? = some v) := ⟨_, Array.getElem?_eq_getElem (by rw [s1.out.1]; have := hk.out; omega)⟩
  obtain ⟨v2, hv2⟩ : ∃ v, Hid (A2[n2]? = some v) := ⟨_, Array.getElem?_eq_getElem (by rw [s1.out.2]; have := hk.out; omega)⟩
  have c0 := K1.out.1.c n v0 hv0.out
  have z0 := K1.out.1.fz n
  clear H1 hA hmk'
  go_wp2_with (first
    | ((with_reducible refine gen_world (w1.setCell ⟨g, n, none⟩ (.int .u8 161)) (fun z => Bx z g A1 5 ∧ Below g w z) ?_ ?_); (exact ⟨by have := heap_setCell_same w1 g n A0 5 (.int .u8 161) K1.out.1; rw [hA1.out] at this; exact this, K1.out.2.setCell (p := ⟨g, n, none⟩) (Nat.le_refl _) _⟩); intro y1 Y1; have c1 := Y1.out.1.c n1 v1 hv1.out; have z1 := Y1.out.1.fz n1)
    | ((with_reducible refine gen_world (y1.setCell ⟨g, n1, none⟩ (.int .u8 162)) (fun z => Bx z g A2 5 ∧ Below g w z) ?_ ?_); (exact ⟨by have := heap_setCell_same y1 g n1 A1 5 (.int .u8 162) Y1.out.1; rw [hA2.out] at this; exact this, Y1.out.2.setCell (p := ⟨g, n1, none⟩) (Nat.le_refl _) _⟩); intro y2 Y2; have c2 := Y2.out.1.c n2 v2 hv2.out; have z2 := Y2.out.1.fz n2)
    | ((with_reducible refine gen_world (y2.setCell ⟨g, n2, none⟩ (.int .u8 163)) (fun z => Bx z g A3 5 ∧ Below g w z) ?_ ?_); (exact ⟨by have := heap_setCell_same y2 g n2 A2 5 (.int .u8 163) Y2.out.1; rw [hA3.out] at this; exact this, Y2.out.2.setCell (p := ⟨g, n2, none⟩) (Nat.le_refl _) _⟩); intro y3 Y3))
  go_ret
  exact ⟨rfl, by rw [← e3.out]; exact Y3.out⟩
end Go.Proofs.Ytfkifppadngmdaa

namespace Go.Proofs.Ytfkifppadngmdaa
open Go Go.RowKit Go.Shelf
set_option linter.unusedVariables false
set_option maxHeartbeats 1000000
set_option maxRecDepth 20000

theorem cu1_set {B g : Nat} {y u : World} (h : CuL B (fun q _ => q = g) y u) (hB : B ≤ g) (k : Nat) (v : Value) : CuL B (fun q _ => q = g) y (u.setCell ⟨g, k, none⟩ v) :=
  h.trans ⟨(Below.refl B u).setCell (p := ⟨g, k, none⟩) hB v, fun q j _ hq => World.cell?_of_block (w := u) (a := ⟨q, j, none⟩) (heap_setCell_other u ⟨g, k, none⟩ q v hq), fun q _ hq => heap_setCell_other u ⟨g, k, none⟩ q v (hq 0)⟩
theorem cu1_drew {B : Nat} {F : Nat → Nat → Prop} {y u : World} (h : CuL B F y u) {n : Nat} (hB : B ≤ y.heap.size) : CuL B F y (u.drewN n) := h.trans (CuL.of_below (below_drewN (Below.refl _ _)) (Nat.le_trans hB h.low.size))
theorem mk3_len (l : List UInt8) : (mk3 l).length = l.length + 3 := by simp [mk3]
theorem mk3_lo (l : List UInt8) (k : Nat) (h : k < l.length) : (mk3 l).getD k 0 = l.getD k 0 := by simp [mk3, List.getD, List.getElem?_append_left h]
theorem mk3_hi (l : List UInt8) : (mk3 l).getD l.length 0 = 161 ∧ (mk3 l).getD (l.length + 1) 0 = 162 ∧ (mk3 l).getD (l.length + 2) 0 = 163 := by
  simp [mk3, List.getD]
theorem kept18_any (y : World) (B g cap : Nat) (sp : Option Addr) (l : List UInt8) (hBg : B ≤ g) (hbx : Hid (Bx y g (rowB (mk3 l)) 5)) (hl : Hid (∀ u, CuL B (fun q _ => q = g) y u → LB u sp l)) (hn : l.length ≤ 2147483647) :
    Calls Try.prog 7 #[.slice (some ⟨g, 0, none⟩) l.length (l.length + 3), .slice sp l.length cap] y fun e w' => e = .returned (.bool true) ∧ Hid (CuL B (fun q _ => q = g) y w') := by
  have hgy : Hid (B ≤ g ∧ g < y.heap.size) := ⟨hBg, heap_lt hbx.out⟩
  obtain ⟨n, hn'⟩ : ∃ n, l.length = n := ⟨_, rfl⟩
  have m0 := hbx.out.c n _ (rowB_get (mk3 l) n (by rw [mk3_len, hn']; omega))
  have m1 := hbx.out.c (n + 1) _ (rowB_get (mk3 l) (n + 1) (by rw [mk3_len, hn']; omega))
  have m2 := hbx.out.c (n + 2) _ (rowB_get (mk3 l) (n + 2) (by rw [mk3_len, hn']; omega))
  have hh := mk3_hi l
  rw [hn'] at hh
  rw [hh.1] at m0
  rw [hh.2.1] at m1
  rw [hh.2.2] at m2
  replace m0 : y.cell? ⟨g, n, none⟩ = some (.int .u8 161) := m0
  replace m1 : y.cell? ⟨g, n + 1, none⟩ = some (.int .u8 162) := m1
  replace m2 : y.cell? ⟨g, n + 2, none⟩ = some (.int .u8 163) := m2
  rw [hn']
  have hli : (n : Int) ≤ 2147483647 := by omega
  have hnn : Hid (l.length = n) := hn'
  obtain ⟨n1, hn1⟩ : ∃ x, n + 1 = x := ⟨_, rfl⟩
  obtain ⟨n2, hn2⟩ : ∃ x, n + 2 = x := ⟨_, rfl⟩
  have q1 : (n : Int) + 1 = (n1 : Int) := by omega
  have q2 : (n : Int) + 2 = (n2 : Int) := by omega
  have i0 := fun v => idxB .i64 g 0 (n + 3) (n + 3) n v (by omega)
  have i1 := fun v => idxB .i64 g 0 (n + 3) (n + 3) n1 v (by omega)
  have i2 := fun v => idxB .i64 g 0 (n + 3) (n + 3) n2 v (by omega)
  simp only [Nat.zero_add] at i0 i1 i2
  rw [hn1] at m1
  rw [hn2] at m2
  clear hn hn' hBg hh hn1 hn2
  go_enter Try.func7, Try.ntmps7
  go_wp2
  go_loopw [7, 8] (fun bv kv wz => ∃ (k : Nat) (u : World), u = wz ∧ k ≤ n ∧ bv = .bool true ∧ kv = .int .i64 (k : Int) ∧ Hid (CuL B (fun q _ => q = g) y u ∧ Bx u g (rowB (mk3 l)) 5)) (fun _ kv _ => (n - intOf kv).toNat)
  case atStart => exact ⟨0, y, rfl, by omega, rfl, rfl, ⟨CuL.refl _ _ _, hbx.out⟩⟩
  case round =>
    obtain ⟨k, u, rfl, hk, rfl, rfl, K⟩ := hrel
    clear m0 m1 m2 i0 i1 i2 q1 q2
    by_cases hlt : k < n
    · have hki : (k : Int) < (n : Int) := by omega
      have hlt' : Hid (k < n) := hlt
      have ix := fun v => idxB .i64 g 0 (n + 3) (n + 3) k v (by omega)
      simp only [Nat.zero_add] at ix
      have cK := K.out.2.c k _ (rowB_get (mk3 l) k (by rw [mk3_len, hnn.out]; omega))
      rw [mk3_lo l k (by rw [hnn.out]; exact hlt)] at cK
      unfold byV at cK
      have hlu := hl.out u K.out.1
      obtain ⟨gb, ob, rfl⟩ := lb_some hlu (by have := hnn.out; omega)
      have cB2 := lb_at hlu k (by rw [hnn.out]; exact hlt)
      have ib := fun v => idxB .i64 gb ob n cap k v hlt
      obtain ⟨a, ha⟩ : ∃ a, (l.getD k 0).toNat = a := ⟨_, rfl⟩
      rw [ha] at cK cB2
      have q3 : ((a : Int) == (a : Int)) = true := by simp
      have fin : Hid (∀ q, CuL B (fun q _ => q = g) y (u.drewN q) ∧ Bx (u.drewN q) g (rowB (mk3 l)) 5) := fun q => ⟨cu1_drew K.out.1 (by have := hgy.out; omega), K.out.2⟩
      clear hk hlt hlu ha
      go_wp2
      go_quiet (fail)
      go_wp2
      go_roundw
      case rel => exact ⟨k + 1, _, rfl, hlt'.out, rfl, by simp, by first | exact fin.out _ | exact K⟩
      case measure => have := hlt'.out; simp [intOf]; omega
    · have hke : k = n := by omega
      subst hke
      clear hk hlt
      have K0 : Hid (CuL B (fun q _ => q = g) y u ∧ ∃ cs : Array Value, Bx u g cs 5 ∧ cs.size = k + 3) := ⟨K.out.1, _, K.out.2, by rw [rowB_size, mk3_len, hnn.out]⟩
      clear K
      go_wp2
      go_loopw [9] (fun kv wz => ∃ (i : Nat) (u : World), u = wz ∧ i ≤ k + 3 ∧ kv = .int .i64 (i : Int) ∧ Hid (CuL B (fun q _ => q = g) y u ∧ ∃ cs : Array Value, Bx u g cs 5 ∧ cs.size = k + 3)) (fun kv _ => (k + 3 - intOf kv).toNat)
      case atStart => exact ⟨0, u, rfl, by omega, rfl, K0⟩
      case round =>
        obtain ⟨i, u, rfl, hi, rfl, K⟩ := hrel
        clear K0
        by_cases hlt : i < k + 3
        · have hki : (i : Int) < (k : Int) + 3 := by omega
          have hlt' : Hid (i < k + 3) := hlt
          have ix := fun v => idxB .i64 g 0 (k + 3) (k + 3) i v hlt
          simp only [Nat.zero_add] at ix
          obtain ⟨hC, cs, hb, hsz⟩ := K.out
          obtain ⟨ov, hov⟩ : ∃ ov, cs[i]? = some ov := ⟨_, Array.getElem?_eq_getElem (by omega)⟩
          have cK := hb.c i ov hov
          have fz := hb.fz i
          have fin : Hid (CuL B (fun q _ => q = g) y (u.setCell ⟨g, i, none⟩ (.int .u8 90)) ∧ ∃ cs : Array Value, Bx (u.setCell ⟨g, i, none⟩ (.int .u8 90)) g cs 5 ∧ cs.size = k + 3) := ⟨cu1_set hC hgy.out.1 i _, cs.setIfInBounds i (.int .u8 90), heap_setCell_same u g i cs _ _ hb, by simp [hsz]⟩
          clear hi hlt K hC hb hsz hov
          go_wp2
          go_roundw
          case rel => exact ⟨i + 1, _, rfl, hlt'.out, by simp, fin⟩
          case measure => have := hlt'.out; simp [intOf]; omega
        · have hke : i = k + 3 := by omega
          subst hke
          clear hi hlt
          go_wp2
          go_ret
          exact ⟨rfl, K.out.1⟩
end Go.Proofs.Ytfkifppadngmdaa

namespace Go.Proofs.Ytfkifppadngmdaa
open Go Go.RowKit Go.Shelf
set_option linter.unusedVariables false
set_option maxHeartbeats 1000000
set_option maxRecDepth 20000

def woV (n : Nat) : Value := .int .u16 (n : Int)
def rowW (l : List Nat) : Array Value := (l.map woV).toArray
theorem rowW_get (l : List Nat) (j : Nat) (hj : j < l.length) : (rowW l)[j]? = some (woV (l.getD j 0)) := by
  unfold rowW
  simp [List.getD, hj]
theorem rowW_size (l : List Nat) : (rowW l).size = l.length := by unfold rowW; simp
/-- Words with marked ones behind them. -/
def mk2 (l : List Nat) : List Nat := l ++ [41377, 41634]
theorem mk2_len (l : List Nat) : (mk2 l).length = l.length + 2 := by simp [mk2]
theorem mk2_lo (l : List Nat) (k : Nat) (h : k < l.length) : (mk2 l).getD k 0 = l.getD k 0 := by simp [mk2, List.getD, List.getElem?_append_left h]
theorem mk2_hi (l : List Nat) : (mk2 l).getD l.length 0 = 41377 ∧ (mk2 l).getD (l.length + 1) 0 = 41634 := by
  simp [mk2, List.getD]
theorem two_cells {A : Array Value} {L : List Value} {n : Nat} (hs : A.size = n + 2) (hL : L.length = n) (h : ∀ k, k < n → A[k]? = L[k]?) (a b : Value) :
    (A.setIfInBounds n a).setIfInBounds (n + 1) b = (L ++ [a, b]).toArray := by
  apply Array.ext
  · simp [hs, hL]
  · intro k h1 h2
    apply Option.some.inj
    rw [← Array.getElem?_eq_getElem h1, ← Array.getElem?_eq_getElem h2]
    simp only [Array.getElem?_setIfInBounds, Array.size_setIfInBounds, List.getElem?_toArray]
    have hk : k < n + 2 := by simpa [hs] using h1
    by_cases e1 : k = n + 1
    · subst e1
      simp [hs, hL]
    by_cases e0 : k = n
    · subst e0
      simp [hs, hL]
    · rw [if_neg (by omega), if_neg (by omega), h k (by omega), List.getElem?_append_left (by omega)]
end Go.Proofs.Ytfkifppadngmdaa
