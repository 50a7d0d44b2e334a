/- The statements' own: bytes lent with marked room behind them, whether they came back as they were, a row written over. -/
import Derived.Test.YtiplellfpagclaaDoorD4
import Derived.Test.YtiplellfpagclaaDoorE3
namespace Go.Proofs.YtiplellfpagclaaDoor
open Go Go.RowKit Go.Shelf
set_option linter.unusedVariables false
set_option maxHeartbeats 1000000
set_option maxRecDepth 20000

/-- Bytes with marked room behind them. -/
def mrk (l : List UInt8) : List UInt8 := l ++ List.replicate 9 90
theorem mrk_len (l : List UInt8) : (mrk l).length = l.length + 9 := by simp [mrk]
theorem mrk_lo (l : List UInt8) (k : Nat) (h : k < l.length) : (mrk l).getD k 0 = l.getD k 0 := by simp [mrk, List.getD, List.getElem?_append_left h]
theorem mrk_hi (l : List UInt8) (k : Nat) (h : l.length ≤ k) (h2 : k < l.length + 9) : (mrk l).getD k 0 = 90 := by
  simp only [mrk, List.getD]
  rw [List.getElem?_append_right h, List.getElem?_replicate, if_pos (by omega)]
  rfl
/-- What lay there ere the block was made stays. -/
theorem lb_old {B g : Nat} {x y u : World} {sp : Option Addr} {l : List UInt8} (h : LB x sp l) (hg : x.heap.size ≤ g) (hb : Below x.heap.size x y) (k : CuL B (fun q _ => q = g) y u) : LB u sp l := fun j a hj => by
  obtain ⟨gb, ob, e, c⟩ := h j a hj
  refine ⟨gb, ob, e, fun i v hv => ?_⟩
  have c' := c i v hv
  have hlt := World.block_lt_of_cell? x _ c'
  have c2 := (hb.cell (p := ⟨gb, ob + j * 1 + i, none⟩) hlt).trans c'
  exact (k.cell gb _ (World.block_lt_of_cell? y _ c2) (show gb ≠ g from fun e => by subst e; exact absurd hlt (by show ¬ gb < x.heap.size; omega))).trans c2
theorem lent_any (w : World) (sp : Option Addr) (cap : Nat) (l : List UInt8) (hl : Hid (LB w sp l)) (hn : l.length ≤ 2147483647) :
    Calls Tryd.prog 6 #[.slice sp l.length cap] w fun e w' => e = .returned (.slice (some ⟨w.heap.size, 0, none⟩) l.length (l.length + 9)) ∧ Hid (Bx w' w.heap.size (rowB (mrk l)) 5 ∧ Below w.heap.size w w') := by
  obtain ⟨n, hn'⟩ : ∃ n, l.length = n := ⟨_, rfl⟩
  obtain ⟨i, hi, e⟩ := Option.map_eq_some_iff.1 infoBy
  injection e with hz0 e2
  injection e2 with hz1 hz2
  have hmk : ∀ v, (Instr.makeSlice 25 (.int .i64 ((n : Int) + 9)) (.int .i64 ((n : Int) + 9))).run Tryd.prog v = .ok (.slice (some ⟨v.heap.size, 0, none⟩) (n + 9) (n + 9)) (v.alloc (.cells (madeCells (#[.int .u8 0] : Array Value) ((n + 9) * 1)) 5)) := fun v => by
    have := run_make (P := Tryd.prog) v 25 5 i _ Tryd.underlying25 hi hz0 .i64 .i64 ((n : Int) + 9) ((n : Int) + 9) (by omega) (Int.le_refl _) (by rw [hz2]; omega) (by omega)
    rw [hz1, show ((n : Int) + 9).toNat = n + 9 by omega] at this
    exact this
  have hms : Hid ((madeCells (#[.int .u8 0] : Array Value) ((n + 9) * 1)).size = n + 9) := by show _ = _; simp [size_madeCells]
  obtain ⟨M, hM⟩ : ∃ M, madeCells (#[.int .u8 0] : Array Value) ((n + 9) * 1) = M := ⟨_, rfl⟩
  rw [hM] at hmk hms
  rw [hn']
  have hli : (n : Int) ≤ 2147483647 := by omega
  have hnn : Hid (l.length = n) := hn'
  obtain ⟨g, hg⟩ : ∃ g, w.heap.size = g := ⟨_, rfl⟩
  have hg' : Hid (w.heap.size = g) := hg
  have hmk' := hmk w
  rw [hg] at hmk'
  rw [hg]
  have hA : Hid ((w.alloc (.cells M 5)).heap[g]? = some (.cells M 5 (0, 0)) ∧ LB (w.alloc (.cells M 5)) sp l ∧ Below g w (w.alloc (.cells M 5))) := ⟨by rw [← hg]; exact alloc_last' w _, hl.out.below (below1 w _), by rw [← hg]; exact below1 w _⟩
  clear hM hn hn' hi hz0 hz1 hz2 hmk hg
  go_enter Tryd.func6, Tryd.ntmps6
  go_wp2_with (refine at_copyL kByte rfl (.tmp 9) (.tmp 10) rfl g (n + 9) (n + 9) sp n cap rfl rfl M hA.out.1 l hnn.out (by omega) hA.out.2.1 ?_ g (Nat.le_refl _) ?_)
  · rw [hms.out]; omega
  intro w1 H1
  have K1 : Hid (Below g w w1 ∧ ∃ cs : Array Value, Bx w1 g cs 5 ∧ cs.size = n + 9 ∧ ∀ k, k < n → cs[k]? = some (byV ((mrk l).getD k 0))) := by
    refine ⟨hA.out.2.2.trans H1.out.2, _, H1.out.1, ?_, fun k hk => ?_⟩
    · rw [List.size_toArray, length_splice _ _ _ (by rw [rowL_len kByte.len, hnn.out, Array.length_toList, hms.out]; omega), Array.length_toList, hms.out]
    · rw [List.getElem?_toArray, spliceL_at _ _ _ (by rw [rowL_len kByte.len, hnn.out, Array.length_toList, hms.out]; omega), if_pos ⟨Nat.zero_le _, by rw [rowL_len kByte.len, hnn.out]; omega⟩, rowB_eq, Nat.sub_zero, List.getElem?_map, mrk_lo l k (by rw [hnn.out]; exact hk)]
      have hk2 : k < l.length := by rw [hnn.out]; exact hk
      simp [List.getD, hk2]
  clear H1 hA hmk' hms
  go_wp2
  go_loopw [4] (fun kv wz => ∃ (k : Nat) (u : World), u = wz ∧ n ≤ k ∧ k ≤ n + 9 ∧ kv = .int .i64 (k : Int) ∧ Hid (Below g w u ∧ ∃ cs : Array Value, Bx u g cs 5 ∧ cs.size = n + 9 ∧ ∀ i, i < k → cs[i]? = some (byV ((mrk l).getD i 0)))) (fun kv _ => (n + 9 - intOf kv).toNat)
  case atStart => exact ⟨n, w1, rfl, Nat.le_refl _, by omega, rfl, K1⟩
  case round =>
    obtain ⟨k, u, rfl, hk0, hk, rfl, K⟩ := hrel
    clear K1
    by_cases hlt : k < n + 9
    · have hki : (k : Int) < (n : Int) + 9 := by omega
      have ix := fun v => idxB .i64 g 0 (n + 9) (n + 9) k v hlt
      simp only [Nat.zero_add] at ix
      obtain ⟨hb, cs, hbx, hsz, hcs⟩ := K.out
      have fz := hbx.fz k
      obtain ⟨ov, hov⟩ : ∃ ov, cs[k]? = some ov := ⟨_, Array.getElem?_eq_getElem (by omega)⟩
      have cK := hbx.c k ov hov
      have fin : Hid (Below g w (u.setCell ⟨g, k, none⟩ (.int .u8 90)) ∧ ∃ cs : Array Value, Bx (u.setCell ⟨g, k, none⟩ (.int .u8 90)) g cs 5 ∧ cs.size = n + 9 ∧ ∀ i, i < k + 1 → cs[i]? = some (byV ((mrk l).getD i 0))) := by
        refine ⟨hb.setCell (p := ⟨g, k, none⟩) (Nat.le_refl _) _, cs.setIfInBounds k (.int .u8 90), heap_setCell_same u g k cs _ _ hbx, by simp [hsz], fun i hi => ?_⟩
        rw [Array.getElem?_setIfInBounds]
        by_cases he : k = i
        · subst he
          rw [if_pos rfl, if_pos (by omega), mrk_hi l k (by rw [hnn.out]; exact hk0) (by rw [hnn.out]; exact hlt)]
          rfl
        · rw [if_neg he]
          exact hcs i (by omega)
      have hlt' : Hid (k < n + 9 ∧ n ≤ k) := ⟨hlt, hk0⟩
      clear hk hk0 hlt K hb hcs hbx hsz hov
      go_wp2
      go_roundw
      case rel => exact ⟨k + 1, _, rfl, by have := hlt'.out; omega, hlt'.out.1, by simp, fin⟩
      case measure => have := hlt'.out; simp [intOf]; omega
    · have hke : k = n + 9 := by omega
      subst hke
      have fin : Hid (Bx u g (rowB (mrk l)) 5 ∧ Below g w u) := by
        obtain ⟨hb, cs, hbx, hsz, hcs⟩ := K.out
        refine ⟨?_, hb⟩
        have e : cs = rowB (mrk l) := by
          apply Array.ext_getElem?
          intro i
          by_cases hi : i < n + 9
          · rw [hcs i hi, rowB_get (mrk l) i (by rw [mrk_len, hnn.out]; exact hi)]
          · rw [Array.getElem?_eq_none (by omega), Array.getElem?_eq_none (by rw [rowB_size, mrk_len, hnn.out]; omega)]
        rw [← e]
        exact hbx
      clear hk hk0 hlt K
      go_wp2
      go_ret
      exact ⟨rfl, fin⟩
theorem cu_set {B g : Nat} {y u : World} (h : CuL B (fun q _ => q = g) y u) (hB : B ≤ g) (k : Nat) (v : Value) : CuL B (fun q _ => q = g) y (u.setCell ⟨g, k, none⟩ v) :=
  h.trans ⟨(Below.refl B u).setCell (p := ⟨g, k, none⟩) hB v, fun q j _ hq => World.cell?_of_block (w := u) (a := ⟨q, j, none⟩) (heap_setCell_other u ⟨g, k, none⟩ q v hq), fun q _ hq => heap_setCell_other u ⟨g, k, none⟩ q v (hq 0)⟩
theorem cu_drew {B : Nat} {F : Nat → Nat → Prop} {y u : World} (h : CuL B F y u) {n : Nat} (hB : B ≤ y.heap.size) : CuL B F y (u.drewN n) := h.trans (CuL.of_below (below_drewN (Below.refl _ _)) (Nat.le_trans hB h.low.size))
theorem back_any (y : World) (B g cap : Nat) (sp : Option Addr) (l : List UInt8) (hBg : B ≤ g) (hbx : Hid (Bx y g (rowB (mrk l)) 5)) (hl : Hid (∀ u, CuL B (fun q _ => q = g) y u → LB u sp l)) (hn : l.length ≤ 2147483647) :
    Calls Tryd.prog 9 #[.slice (some ⟨g, 0, none⟩) l.length (l.length + 9), .slice sp l.length cap] y fun e w' => e = .returned (.bool true) ∧ Hid (CuL B (fun q _ => q = g) y w') := by
  have hgy : Hid (B ≤ g ∧ g < y.heap.size) := ⟨hBg, heap_lt hbx.out⟩
  obtain ⟨n, hn'⟩ : ∃ n, l.length = n := ⟨_, rfl⟩
  have K0 : Hid (CuL B (fun q _ => q = g) y y ∧ ∃ cs : Array Value, Bx y g cs 5 ∧ cs.size = n + 9 ∧ ∀ i, 0 ≤ i → i < n + 9 → cs[i]? = some (byV ((mrk l).getD i 0))) := ⟨CuL.refl _ _ _, _, hbx.out, by rw [rowB_size, mrk_len, hn'], fun i _ hi => rowB_get _ _ (by rw [mrk_len, hn']; exact hi)⟩
  rw [hn']
  have hli : (n : Int) ≤ 2147483647 := by omega
  have hnn : Hid (l.length = n) := hn'
  clear hn hn' hBg hbx
  go_enter Tryd.func9, Tryd.ntmps9
  go_wp2
  go_loopw [6, 7] (fun bv kv wz => ∃ (k : Nat) (u : World), u = wz ∧ k ≤ n + 9 ∧ bv = .bool true ∧ kv = .int .i64 (k : Int) ∧ Hid (CuL B (fun q _ => q = g) y u ∧ ∃ cs : Array Value, Bx u g cs 5 ∧ cs.size = n + 9 ∧ ∀ i, k ≤ i → i < n + 9 → cs[i]? = some (byV ((mrk l).getD i 0)))) (fun _ kv _ => (n + 9 - intOf kv).toNat)
  case atStart => exact ⟨0, y, rfl, by omega, rfl, rfl, K0⟩
  case round =>
    obtain ⟨k, u, rfl, hk, rfl, rfl, K⟩ := hrel
    clear K0
    by_cases hlt : k < n + 9
    · have hki : (k : Int) < (n : Int) + 9 := by omega
      have ix := fun v => idxB .i64 g 0 (n + 9) (n + 9) k v hlt
      simp only [Nat.zero_add] at ix
      obtain ⟨hC, cs, hbx, hsz, hcs⟩ := K.out
      have fin : Hid (∀ q, CuL B (fun q _ => q = g) y ((u.drewN q).setCell ⟨g, k, none⟩ (.int .u8 165)) ∧ ∃ cs : Array Value, Bx ((u.drewN q).setCell ⟨g, k, none⟩ (.int .u8 165)) g cs 5 ∧ cs.size = n + 9 ∧ ∀ i, k + 1 ≤ i → i < n + 9 → cs[i]? = some (byV ((mrk l).getD i 0))) := fun q => by
        refine ⟨cu_set (cu_drew hC (by have := hgy.out; omega)) hgy.out.1 k _, cs.setIfInBounds k (.int .u8 165), heap_setCell_same (u.drewN q) g k cs _ _ hbx, by simp [hsz], fun i hi hi2 => ?_⟩
        rw [Array.getElem?_setIfInBounds, if_neg (by omega)]
        exact hcs i (by omega) hi2
      have fin0 : Hid (CuL B (fun q _ => q = g) y (u.setCell ⟨g, k, none⟩ (.int .u8 165)) ∧ ∃ cs : Array Value, Bx (u.setCell ⟨g, k, none⟩ (.int .u8 165)) g cs 5 ∧ cs.size = n + 9 ∧ ∀ i, k + 1 ≤ i → i < n + 9 → cs[i]? = some (byV ((mrk l).getD i 0))) := by
        refine ⟨cu_set hC hgy.out.1 k _, cs.setIfInBounds k (.int .u8 165), heap_setCell_same u g k cs _ _ hbx, by simp [hsz], fun i hi hi2 => ?_⟩
        rw [Array.getElem?_setIfInBounds, if_neg (by omega)]
        exact hcs i (by omega) hi2
      have cK := hbx.c k _ (hcs k (Nat.le_refl _) hlt)
      have fz := hbx.fz k
      unfold byV at cK
      have hlu := hl.out u hC
      have hlt' : Hid (k < n + 9) := hlt
      by_cases hkn : k < n
      · have hkni : (k : Int) < (n : Int) := by omega
        have q1 : decide ((k : Int) < (n : Int)) = true := by simp; omega
        rw [mrk_lo l k (by rw [hnn.out]; exact hkn)] at cK
        obtain ⟨gb, ob, rfl⟩ := lb_some hlu (by have := hnn.out; omega)
        have cB2 := lb_at hlu k (by rw [hnn.out]; exact hkn)
        have ib := fun v => idxB .i64 gb ob n cap k v hkn
        obtain ⟨a, ha⟩ : ∃ a, (l.getD k 0).toNat = a := ⟨_, rfl⟩
        rw [ha] at cK cB2
        have q2 : ((a : Int) == (a : Int)) = true := by simp
        clear hk hlt K hC hcs hbx hsz hlu hkn ha fin0
        go_wp2
        go_quiet (fail)
        go_wp2
        go_roundw
        case rel => exact ⟨k + 1, _, rfl, hlt'.out, rfl, by simp, fin.out _⟩
        case measure => have := hlt'.out; simp [intOf]; omega
      · have q1 : decide ((k : Int) < (n : Int)) = false := by simp; omega
        have q1n : decide (k < n) = false := by simp; omega
        have q1m : ¬ (k : Int) < (n : Int) := by omega
        rw [mrk_hi l k (by rw [hnn.out]; omega) (by rw [hnn.out]; exact hlt)] at cK
        have q90 : (90 : UInt8).toNat = 90 := rfl
        rw [q90] at cK
        clear hk hlt K hC hcs hbx hsz hlu hkn
        go_wp2
        go_roundw
        case rel => exact ⟨k + 1, _, rfl, hlt'.out, rfl, by simp, by first | exact fin0 | exact fin.out _⟩
        case measure => have := hlt'.out; simp [intOf]; omega
    · have hke : k = n + 9 := by omega
      subst hke
      clear hk hlt
      go_wp2
      go_ret
      exact ⟨rfl, K.out.1⟩
theorem wipe_any (y : World) (B : Nat) (v : Value) (l : List UInt8) (h : Hid (OwnL 5 1 cB B y v l)) :
    Calls Tryd.prog 11 #[v] y fun e w' => e = .returned (.tuple #[]) ∧ Hid (CuL B (fun q _ => v.ownBlock = some q) y w') := by
  rcases h.out.2 with ⟨rfl, h0⟩ | ⟨g, cap, cur, rfl, hBg, hg, hnc, hcm, hcs, _⟩
  · go_enter Tryd.func11, Tryd.ntmps11
    go_wp2
    go_loopw [3] (fun kv wz => ∃ u : World, u = wz ∧ kv = .int .i64 0 ∧ u = y) (fun _ _ => 0)
    case atStart => exact ⟨_, rfl, rfl, rfl⟩
    case round =>
      obtain ⟨u, rfl, rfl, rfl⟩ := hrel
      go_wp2
      go_end0
      exact ⟨rfl, CuL.refl _ _ _⟩
  · have hcap : cap ≤ 9223372036854775807 := hcm
    obtain ⟨n, hn⟩ : ∃ n, l.length = n := ⟨_, rfl⟩
    rw [hn] at hnc ⊢
    have hci : (cap : Int) ≤ 9223372036854775807 := by omega
    have hni : (n : Int) ≤ (cap : Int) := by omega
    have K0 : Hid (CuL B (fun q _ => q = g) y y ∧ ∃ cs : Array Value, Bx y g cs 5 ∧ cs.size = cap) := ⟨CuL.refl _ _ _, cur, hg, by omega⟩
    have hBg' : Hid (B ≤ g) := hBg
    clear hcap hnc hcm hcs hg h hn hBg
    go_enter Tryd.func11, Tryd.ntmps11
    go_wp2
    go_loopw [3] (fun kv wz => ∃ (k : Nat) (u : World), u = wz ∧ k ≤ cap ∧ kv = .int .i64 (k : Int) ∧ Hid (CuL B (fun q _ => q = g) y u ∧ ∃ cs : Array Value, Bx u g cs 5 ∧ cs.size = cap)) (fun kv _ => (cap - intOf kv).toNat)
    case atStart => exact ⟨0, y, rfl, by omega, rfl, K0⟩
    case round =>
      obtain ⟨k, u, rfl, hk, rfl, K⟩ := hrel
      clear K0
      by_cases hlt : k < cap
      · have hki : (k : Int) < (cap : Int) := by omega
        have ix := fun v => idxB .i64 g 0 cap cap k v hlt
        simp only [Nat.zero_add] at ix
        obtain ⟨hC, cs, hbx, hsz⟩ := K.out
        obtain ⟨ov, hov⟩ : ∃ ov, cs[k]? = some ov := ⟨_, Array.getElem?_eq_getElem (by omega)⟩
        have cK := hbx.c k ov hov
        have fz := hbx.fz k
        have fin : Hid (CuL B (fun q _ => q = g) y (u.setCell ⟨g, k, none⟩ (.int .u8 153)) ∧ ∃ cs : Array Value, Bx (u.setCell ⟨g, k, none⟩ (.int .u8 153)) g cs 5 ∧ cs.size = cap) := ⟨cu_set hC hBg'.out k _, cs.setIfInBounds k (.int .u8 153), heap_setCell_same u g k cs _ _ hbx, by simp [hsz]⟩
        have hlt' : Hid (k < cap) := hlt
        clear hk hlt K hC hbx hsz hov
        go_wp2
        go_roundw
        case rel => exact ⟨k + 1, _, rfl, hlt'.out, by simp, fin⟩
        case measure => have := hlt'.out; simp [intOf]; omega
      · have hke : k = cap := by omega
        subst hke
        clear hk hlt
        go_wp2
        go_end0
        exact ⟨rfl, K.out.1.mono fun q j _ hq => by subst hq; rfl⟩
end Go.Proofs.YtiplellfpagclaaDoor
