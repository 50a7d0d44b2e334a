/- The statements' own: whether lent bytes came back as they were; then they are written over. -/
import Derived.Test.YtigiebfdaiccdaaG12
namespace Go.Proofs.Ytigiebfdaiccdaa
open Go Go.RowKit Go.Shelf
set_option linter.unusedVariables false
set_option maxHeartbeats 1000000
set_option maxRecDepth 20000

theorem cu1_set {B g : Nat} {y u : World} (h : CuL B (fun q _ => q = g) y u) (hB : B ≤ g) (k : Nat) (v : Value) : CuL B (fun q _ => q = g) y (u.setCell ⟨g, k, none⟩ v) :=
  h.trans ⟨(Below.refl B u).setCell (p := ⟨g, k, none⟩) hB v, fun q j _ hq => World.cell?_of_block (w := u) (a := ⟨q, j, none⟩) (heap_setCell_other u ⟨g, k, none⟩ q v hq), fun q _ hq => heap_setCell_other u ⟨g, k, none⟩ q v (hq 0)⟩
theorem cu1_drew {B : Nat} {F : Nat → Nat → Prop} {y u : World} (h : CuL B F y u) {n : Nat} (hB : B ≤ y.heap.size) : CuL B F y (u.drewN n) := h.trans (CuL.of_below (below_drewN (Below.refl _ _)) (Nat.le_trans hB h.low.size))
theorem mk3_len (l : List UInt8) : (mk3 l).length = l.length + 3 := by simp [mk3]
theorem mk3_lo (l : List UInt8) (k : Nat) (h : k < l.length) : (mk3 l).getD k 0 = l.getD k 0 := by simp [mk3, List.getD, List.getElem?_append_left h]
theorem mk3_hi (l : List UInt8) : (mk3 l).getD l.length 0 = 161 ∧ (mk3 l).getD (l.length + 1) 0 = 162 ∧ (mk3 l).getD (l.length + 2) 0 = 163 := by
  simp [mk3, List.getD]
theorem kept18_any (y : World) (B g cap : Nat) (sp : Option Addr) (l : List UInt8) (hBg : B ≤ g) (hbx : Hid (Bx y g (rowB (mk3 l)) 5)) (hl : Hid (∀ u, CuL B (fun q _ => q = g) y u → LB u sp l)) (hn : l.length ≤ 2147483647) :
    Calls Try.prog 9 #[.slice (some ⟨g, 0, none⟩) l.length (l.length + 3), .slice sp l.length cap] y fun e w' => e = .returned (.bool true) ∧ Hid (CuL B (fun q _ => q = g) y w') := by
  have hgy : Hid (B ≤ g ∧ g < y.heap.size) := ⟨hBg, heap_lt hbx.out⟩
  obtain ⟨n, hn'⟩ : ∃ n, l.length = n := ⟨_, rfl⟩
  have m0 := hbx.out.c n _ (rowB_get (mk3 l) n (by rw [mk3_len, hn']; omega))
  have m1 := hbx.out.c (n + 1) _ (rowB_get (mk3 l) (n + 1) (by rw [mk3_len, hn']; omega))
  have m2 := hbx.out.c (n + 2) _ (rowB_get (mk3 l) (n + 2) (by rw [mk3_len, hn']; omega))
  have hh := mk3_hi l
  rw [hn'] at hh
  rw [hh.1] at m0
  rw [hh.2.1] at m1
  rw [hh.2.2] at m2
  replace m0 : y.cell? ⟨g, n, none⟩ = some (.int .u8 161) := m0
  replace m1 : y.cell? ⟨g, n + 1, none⟩ = some (.int .u8 162) := m1
  replace m2 : y.cell? ⟨g, n + 2, none⟩ = some (.int .u8 163) := m2
  rw [hn']
  have hli : (n : Int) ≤ 2147483647 := by omega
  have hnn : Hid (l.length = n) := hn'
  obtain ⟨n1, hn1⟩ : ∃ x, n + 1 = x := ⟨_, rfl⟩
  obtain ⟨n2, hn2⟩ : ∃ x, n + 2 = x := ⟨_, rfl⟩
  have q1 : (n : Int) + 1 = (n1 : Int) := by omega
  have q2 : (n : Int) + 2 = (n2 : Int) := by omega
  have i0 := fun v => idxB .i64 g 0 (n + 3) (n + 3) n v (by omega)
  have i1 := fun v => idxB .i64 g 0 (n + 3) (n + 3) n1 v (by omega)
  have i2 := fun v => idxB .i64 g 0 (n + 3) (n + 3) n2 v (by omega)
  simp only [Nat.zero_add] at i0 i1 i2
  rw [hn1] at m1
  rw [hn2] at m2
  clear hn hn' hBg hh hn1 hn2
  go_enter Try.func9, Try.ntmps9
  go_wp2
  go_loopw [7, 8] (fun bv kv wz => ∃ (k : Nat) (u : World), u = wz ∧ k ≤ n ∧ bv = .bool true ∧ kv = .int .i64 (k : Int) ∧ Hid (CuL B (fun q _ => q = g) y u ∧ Bx u g (rowB (mk3 l)) 5)) (fun _ kv _ => (n - intOf kv).toNat)
  case atStart => exact ⟨0, y, rfl, by omega, rfl, rfl, ⟨CuL.refl _ _ _, hbx.out⟩⟩
  case round =>
    obtain ⟨k, u, rfl, hk, rfl, rfl, K⟩ := hrel
    clear m0 m1 m2 i0 i1 i2 q1 q2
    by_cases hlt : k < n
    · have hki : (k : Int) < (n : Int) := by omega
      have hlt' : Hid (k < n) := hlt
      have ix := fun v => idxB .i64 g 0 (n + 3) (n + 3) k v (by omega)
      simp only [Nat.zero_add] at ix
      have cK := K.out.2.c k _ (rowB_get (mk3 l) k (by rw [mk3_len, hnn.out]; omega))
      rw [mk3_lo l k (by rw [hnn.out]; exact hlt)] at cK
      unfold byV at cK
      have hlu := hl.out u K.out.1
      obtain ⟨gb, ob, rfl⟩ := lb_some hlu (by have := hnn.out; omega)
      have cB2 := lb_at hlu k (by rw [hnn.out]; exact hlt)
      have ib := fun v => idxB .i64 gb ob n cap k v hlt
      obtain ⟨a, ha⟩ : ∃ a, (l.getD k 0).toNat = a := ⟨_, rfl⟩
      rw [ha] at cK cB2
      have q3 : ((a : Int) == (a : Int)) = true := by simp
      have fin : Hid (∀ q, CuL B (fun q _ => q = g) y (u.drewN q) ∧ Bx (u.drewN q) g (rowB (mk3 l)) 5) := fun q => ⟨cu1_drew K.out.1 (by have := hgy.out; omega), K.out.2⟩
      clear hk hlt hlu ha
      go_wp2
      go_quiet (fail)
      go_wp2
      go_roundw
      case rel => exact ⟨k + 1, _, rfl, hlt'.out, rfl, by simp, by first | exact fin.out _ | exact K⟩
      case measure => have := hlt'.out; simp [intOf]; omega
    · have hke : k = n := by omega
      subst hke
      clear hk hlt
      have K0 : Hid (CuL B (fun q _ => q = g) y u ∧ ∃ cs : Array Value, Bx u g cs 5 ∧ cs.size = k + 3) := ⟨K.out.1, _, K.out.2, by rw [rowB_size, mk3_len, hnn.out]⟩
      clear K
      go_wp2
      go_loopw [9] (fun kv wz => ∃ (i : Nat) (u : World), u = wz ∧ i ≤ k + 3 ∧ kv = .int .i64 (i : Int) ∧ Hid (CuL B (fun q _ => q = g) y u ∧ ∃ cs : Array Value, Bx u g cs 5 ∧ cs.size = k + 3)) (fun kv _ => (k + 3 - intOf kv).toNat)
      case atStart => exact ⟨0, u, rfl, by omega, rfl, K0⟩
      case round =>
        obtain ⟨i, u, rfl, hi, rfl, K⟩ := hrel
        clear K0
        by_cases hlt : i < k + 3
        · have hki : (i : Int) < (k : Int) + 3 := by omega
          have hlt' : Hid (i < k + 3) := hlt
          have ix := fun v => idxB .i64 g 0 (k + 3) (k + 3) i v hlt
          simp only [Nat.zero_add] at ix
          obtain ⟨hC, cs, hb, hsz⟩ := K.out
          obtain ⟨ov, hov⟩ : ∃ ov, cs[i]? = some ov := ⟨_, Array.getElem?_eq_getElem (by omega)⟩
          have cK := hb.c i ov hov
          have fz := hb.fz i
          have fin : Hid (CuL B (fun q _ => q = g) y (u.setCell ⟨g, i, none⟩ (.int .u8 90)) ∧ ∃ cs : Array Value, Bx (u.setCell ⟨g, i, none⟩ (.int .u8 90)) g cs 5 ∧ cs.size = k + 3) := ⟨cu1_set hC hgy.out.1 i _, cs.setIfInBounds i (.int .u8 90), heap_setCell_same u g i cs _ _ hb, by simp [hsz]⟩
          clear hi hlt K hC hb hsz hov
          go_wp2
          go_roundw
          case rel => exact ⟨i + 1, _, rfl, hlt'.out, by simp, fin⟩
          case measure => have := hlt'.out; simp [intOf]; omega
        · have hke : i = k + 3 := by omega
          subst hke
          clear hi hlt
          go_wp2
          go_ret
          exact ⟨rfl, K.out.1⟩
end Go.Proofs.Ytigiebfdaiccdaa
