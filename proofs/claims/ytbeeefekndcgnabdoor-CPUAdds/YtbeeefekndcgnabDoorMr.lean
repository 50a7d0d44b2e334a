/- So many cycles; a memory with a program in it -/
import Derived.Test.YtbeeefekndcgnabDoorMm
import Derived.Test.YtbeeefekndcgnabDoorMc
namespace Go.Proofs.YtbeeefekndcgnabDoor
open Go Go.RowKit
set_option linter.unusedVariables false
set_option maxHeartbeats 1000000
set_option maxRecDepth 20000

theorem Fb.two (w : World) (g : Nat) (Y : Nat → Int) (h : Blk w g 65536 Y) (c : Cp) : Fb w [(w.heap.size, cpC c, 29), (w.heap.size + 1, cpC zeroC, 29)] g Y ((w.alloc (.cells (cpC c) 29)).alloc (.cells (cpC zeroC) 29)) := by
  have h := ((Fb.nil h).new (cpC c) 29).new (cpC zeroC) 29
  simpa using h
theorem lruns (w0 w : World) (tb : Tabs w0) (hb : Below w0.heap.size w0 w) (g : Nat) (hg : w0.heap.size ≤ g) (Y : Nat → Int) (hY : ∀ j, 0 ≤ Y j ∧ Y j < 256) (hm : Blk w g 65536 Y) (c : Cp) (hc : c.wf) (k : Nat) (hk : k ≤ 100000) (s : Cp × (Nat → Int)) (hs : runsM k (c, Y) = s) : Calls Tryd.prog 6 #[.agg (cpC c), .slice (some ⟨g, 0, none⟩) 65536 65536, .int .i64 (k : Int)] w fun e w' => e = .returned (.agg (cpC s.1)) ∧ Hid (Blk w' g 65536 s.2 ∧ Upd g w w') := by
  subst hs
  have hC : Hid (∀ (y : World) (j : Nat), Upd g w y → Blk y g 65536 (runsM j (c, Y)).2 → Calls Tryd.prog 10 #[.agg (cpC (runsM j (c, Y)).1), .slice (some ⟨g, 0, none⟩) 65536 65536, .agg (pnC zeroP)] y fun e w' => e = .returned (.agg (cpC (runsM (j + 1) (c, Y)).1)) ∧ Hid (Blk w' g 65536 (runsM (j + 1) (c, Y)).2 ∧ Upd g y w')) :=
    fun y j u h => lcycle w0 y tb (hb.trans (u.below hb.size hg)) g hg _ (runsM_ok j hc hY).2 h _ (runsM_ok j hc hY).1 zeroP zeroP_wf
  have zz := zeroVC
  have hF : Hid (Fb w [(w.heap.size, cpC c, 29), (w.heap.size + 1, cpC zeroC, 29)] g Y ((w.alloc (.cells (cpC c) 29)).alloc (.cells (cpC zeroC) 29))) := Fb.two w g Y hm c
  clear hc hY hm tb hb hg
  go_enter Tryd.func6, Tryd.ntmps6
  go_wp2
  go_loopw [7] (fun i wz => ∃ (j : Nat) (wx : World), wx = wz ∧ j ≤ k ∧ i = .int .i64 (j : Int) ∧ Hid (Fb w [(w.heap.size, cpC (runsM j (c, Y)).1, 29), (w.heap.size + 1, cpC zeroC, 29)] g (runsM j (c, Y)).2 wx)) (fun i _ => (k - intOf i).toNat)
  case atStart => exact ⟨0, _, rfl, by omega, rfl, hF⟩
  case round =>
    clear hF
    obtain ⟨j, wx, rfl, hj, rfl, K⟩ := hrel
    by_cases hlt : j < k
    · have hCj := hC.out wx j K.out.upd K.out.mem
      have hlt' : ((j : Int) < (k : Int)) := by omega
      obtain ⟨cj, hcj⟩ : ∃ d, (runsM j (c, Y)).1 = d := ⟨_, rfl⟩
      obtain ⟨Yj, hYj⟩ : ∃ d, (runsM j (c, Y)).2 = d := ⟨_, rfl⟩
      obtain ⟨cn, hcn⟩ : ∃ d, (runsM (j + 1) (c, Y)).1 = d := ⟨_, rfl⟩
      obtain ⟨Yn, hYn⟩ : ∃ d, (runsM (j + 1) (c, Y)).2 = d := ⟨_, rfl⟩
      rw [hcj, hcn, hYn] at hCj
      rw [hcj, hYj] at K
      replace hcn : Hid _ := hcn
      replace hYn : Hid _ := hYn
      clear hcj hYj
      go_wp2_with (first
        | (refine at_loadC w.heap.size cj (K.out.get 0 _ _ _ rfl) _ rfl rfl rfl ?_)
        | (refine at_buildP _ [(0, .int .u8 0)] zeroP rfl rfl (by first | (simp [Act.eval]; done) | (go_simp; done)) (by kernel_rfl) _ rfl ?_)
        | (go_at_call 10; refine hCj.mono ?_; rintro e v1 ⟨rfl, hb1⟩; have K1 : Hid (Fb w [(w.heap.size, cpC cj, 29), (w.heap.size + 1, cpC zeroC, 29)] g Yn v1) := K.out.mov hb1.out.1 hb1.out.2)
        | (refine at_storeC w.heap.size cj cn (K1.out.get 0 _ _ _ rfl) _ _ rfl rfl rfl rfl ?_; intro y2 hw2; have K2 : Hid (Fb w [(w.heap.size, cpC cn, 29), (w.heap.size + 1, cpC zeroC, 29)] g Yn y2) := K1.out.put 0 _ _ _ _ rfl hw2.out))
      go_roundw
      case rel => exact ⟨j + 1, _, rfl, by omega, by simp, by rw [hcn.out, hYn.out]; exact K2⟩
      case measure => simp [intOf]; omega
    · have hje : j = k := by omega
      subst hje
      obtain ⟨cj, hcj⟩ : ∃ d, (runsM j (c, Y)).1 = d := ⟨_, rfl⟩
      obtain ⟨Yj, hYj⟩ : ∃ d, (runsM j (c, Y)).2 = d := ⟨_, rfl⟩
      rw [hcj, hYj] at K
      replace hcj : Hid _ := hcj
      replace hYj : Hid _ := hYj
      clear hC
      go_wp2_with (first
        | (refine at_loadC w.heap.size cj (K.out.get 0 _ _ _ rfl) _ rfl rfl rfl ?_)
        | (refine at_storeC (w.heap.size + 1) zeroC cj (K.out.get 1 _ _ _ rfl) _ _ rfl rfl rfl rfl ?_; intro y2 hw2; have K2 : Hid (Fb w [(w.heap.size, cpC cj, 29), (w.heap.size + 1, cpC cj, 29)] g Yj y2) := K.out.put 1 _ _ _ _ rfl hw2.out))
      refine retC Tryd.results6 rfl hw2.out.1 rfl ⟨by rw [hcj.out], by rw [hYj.out]; exact ⟨K2.out.mem, K2.out.upd⟩⟩
/-- Bytes that lie in a row. -/
def Lies (x : World) (sp : Option Addr) (len : Nat) (Y : Nat → Int) : Prop := ∀ j, j < len → ∃ gb ob, sp = some ⟨gb, ob, none⟩ ∧ x.cell? ⟨gb, ob + j, none⟩ = some (.int .u8 (Y j))
theorem Lies.below {B : Nat} {x y : World} {sp : Option Addr} {len : Nat} {Y : Nat → Int} (h : Lies x sp len Y) (hb : Below x.heap.size x y) : Lies y sp len Y := fun j hj => by
  obtain ⟨gb, ob, e, k⟩ := h j hj
  refine ⟨gb, ob, e, ?_⟩
  have hl : gb < x.heap.size := World.block_lt_of_cell? x ⟨gb, ob + j, none⟩ k
  exact (World.cell?_of_block (w := x) (a := ⟨gb, ob + j, none⟩) (hb.block gb hl)).trans k
def laidM (at_ len : Nat) (P : Nat → Int) : Nat → Int := fun j => if at_ ≤ j ∧ j < at_ + len then P (j - at_) else 0
theorem lroom (w : World) (at_ : Nat) (hat : at_ < 65536) (sp : Option Addr) (len cap : Nat) (hlen : len ≤ maxLen) (P : Nat → Int) (hP : Lies w sp len P) : Calls Tryd.prog 5 #[.int .i64 (at_ : Int), .slice sp len cap] w fun e w' => e = .returned (.slice (some ⟨w.heap.size, 0, none⟩) 65536 65536) ∧ Hid (Blk w' w.heap.size 65536 (laidM at_ len P) ∧ Below w.heap.size w w') := by
  have hmk : ∀ v, (Instr.makeSlice 23 (.int .i64 65536) (.int .i64 65536)).run Tryd.prog v = .ok (.slice (some ⟨v.heap.size, 0, none⟩) 65536 65536) (v.alloc (.cells (madeCells #[.int .u8 0] 65536) 5)) := fun v => run_make_row' (P := Tryd.prog) 23 5 (.int .u8 0) 1 Tryd.underlying23 infoB1 rfl .i64 .i64 65536 (by decide) (by decide) v
  have hb0 := made_blk w 65536
  obtain ⟨M, hM⟩ : ∃ M, madeCells #[Value.int .u8 0] 65536 = M := ⟨_, rfl⟩
  rw [hM] at hmk hb0
  have hb0' : Hid (Blk (w.alloc (.cells M 5)) w.heap.size 65536 (laidM at_ 0 P)) := hb0.congr fun j _ => by unfold laidM; rw [if_neg (by omega)]
  have HB0 : Hid (Below w.heap.size w (w.alloc (.cells M 5))) := (Below.refl _ _).alloc (Nat.le_refl _) _
  have bl : (len : Int) ≤ 9223372036854775807 := by unfold maxLen at hlen; omega
  have hP' : Hid (Lies w sp len P) := hP
  clear hM hb0 hP hlen
  go_enter Tryd.func5, Tryd.ntmps5
  go_wp2
  go_loopw [6] (fun i wz => ∃ (k : Nat) (wx : World), wx = wz ∧ k ≤ len ∧ at_ + k ≤ 65536 ∧ i = .int .i64 (k : Int) ∧ Hid (Blk wx w.heap.size 65536 (laidM at_ k P)) ∧ Hid (Below w.heap.size w wx)) (fun i _ => (len - intOf i).toNat)
  case atStart => exact ⟨0, _, rfl, by omega, by omega, rfl, hb0', HB0⟩
  case round =>
    clear hb0' HB0 hmk
    obtain ⟨k, wx, rfl, hk, hk2, rfl, hblk, HX⟩ := hrel
    by_cases hlt : k < len
    · by_cases h2 : at_ + k < 65536
      · obtain ⟨gb, ob, rfl, hcell⟩ := (hP'.out.below (B := 0) HX.out) k hlt
        have c := hblk.out.cell (at_ + k) h2
        have hfz := hblk.out.frozen (at_ + k)
        have ij := fun v => idxS (g := w.heap.size) (off := 0) (len := 65536) (cap := 65536) Tryd.underlying23 (s := 1) (by kernel_rfl) .i64 (at_ + k) v h2
        have ik := fun v => idxS (g := gb) (off := ob) (len := len) (cap := cap) Tryd.underlying23 (s := 1) (by kernel_rfl) .i64 k v hlt
        simp only [Nat.zero_add, Nat.mul_one, Int.natCast_add] at ij ik
        have hset : Hid (Blk (wx.setCell ⟨w.heap.size, at_ + k, none⟩ (.int .u8 (P k))) w.heap.size 65536 (laidM at_ (k + 1) P)) := (hblk.out.set (at_ + k) h2 _).congr fun j _ => by
          unfold laidM
          by_cases e : j = at_ + k
          · subst e; rw [if_pos rfl, if_pos (by omega)]; congr 1; omega
          · rw [if_neg e]
            by_cases h : at_ ≤ j ∧ j < at_ + k
            · rw [if_pos h, if_pos (by omega)]
            · rw [if_neg h, if_neg (by omega)]
        have HX' : Hid (Below w.heap.size w (wx.setCell ⟨w.heap.size, at_ + k, none⟩ (.int .u8 (P k)))) := HX.out.setCell (p := ⟨w.heap.size, at_ + k, none⟩) (Nat.le_refl _) _
        obtain ⟨u, hu⟩ : ∃ u, laidM at_ k P (at_ + k) = u := ⟨_, rfl⟩
        rw [hu] at c
        have q1 : (k : Int) < len := by omega
        have q2 : (at_ : Int) + k < 65536 := by omega
        have q3 : Hid (at_ + k < 65536 ∧ k < len) := ⟨h2, hlt⟩
        clear hu hblk hk hk2 HX hlt h2
        go_wp2
        go_roundw
        case rel => exact ⟨k + 1, _, rfl, by have := q3.out; omega, by have := q3.out; omega, by simp, hset, HX'⟩
        case measure => have := q3.out; simp [intOf]; omega
      · have q1 : (k : Int) < len := by omega
        have q2 : (at_ : Int) + k = 65536 := by omega
        have hfin : Hid (Blk wx w.heap.size 65536 (laidM at_ len P)) := hblk.out.congr fun j hj => by
          unfold laidM
          by_cases h : at_ ≤ j ∧ j < at_ + k
          · rw [if_pos h, if_pos (by omega)]
          · rw [if_neg h, if_neg (by omega)]
        clear hblk hk hk2 hlt h2
        go_wp2
        go_ret
        exact ⟨rfl, hfin.out, HX.out⟩
    · have hke : k = len := by omega
      subst hke
      have q1 : ¬ (k : Int) < k := by omega
      clear hk hk2 hlt
      go_wp2
      go_ret
      exact ⟨rfl, hblk.out, HX.out⟩
theorem lies_lit (w : World) (zs : List Int) : Lies (w.alloc (.cells (zs.map (Value.int .u8)).toArray 5)) (some ⟨w.heap.size, 0, none⟩) zs.length (fun j => zs.getD j 0) := fun j hj => by
  refine ⟨w.heap.size, 0, rfl, ?_⟩
  rw [cell_heap (alloc_last' w _), Nat.zero_add]
  simp [hj]
theorem laid_at (a : Nat) (zs : List Int) (i : Nat) (x : Int) (hi : i < zs.length) (hx : zs.getD i 0 = x) (b : Int) (hb : b = (a : Int) + (i : Int)) : laidM a zs.length (fun j => zs.getD j 0) b.toNat = x := by
  subst hb
  rw [show ((a : Int) + (i : Int)).toNat = a + i by omega]
  unfold laidM
  rw [if_pos (by omega)]
  show zs.getD (a + i - a) 0 = x
  rw [show a + i - a = i by omega]
  exact hx
theorem laid_ok (a : Nat) (zs : List Int) (h : ∀ x ∈ zs, 0 ≤ x ∧ x < 256) (j : Nat) : 0 ≤ laidM a zs.length (fun j => zs.getD j 0) j ∧ laidM a zs.length (fun j => zs.getD j 0) j < 256 := by
  unfold laidM
  split
  · show 0 ≤ zs.getD (j - a) 0 ∧ zs.getD (j - a) 0 < 256
    rw [List.getD_eq_getElem?_getD]
    cases e : zs[j - a]? with
    | none => exact (by decide : (0 : Int) ≤ 0 ∧ (0 : Int) < 256)
    | some x => exact h x (List.mem_of_getElem? e)
  · exact (by decide : (0 : Int) ≤ 0 ∧ (0 : Int) < 256)
theorem lroom_lit (w : World) (at_ : Nat) (hat : at_ < 65536) (zs : List Int) (hl : zs.length ≤ 1000) : Calls Tryd.prog 5 #[.int .i64 (at_ : Int), .slice (some ⟨w.heap.size, 0, none⟩) zs.length zs.length] (w.alloc (.cells (zs.map (Value.int .u8)).toArray 5)) fun e w' => e = .returned (.slice (some ⟨w.heap.size + 1, 0, none⟩) 65536 65536) ∧ Hid (Blk w' (w.heap.size + 1) 65536 (laidM at_ zs.length (fun j => zs.getD j 0)) ∧ Below w.heap.size w w') := by
  have h := lroom (w.alloc (.cells (zs.map (Value.int .u8)).toArray 5)) at_ hat (some ⟨w.heap.size, 0, none⟩) zs.length zs.length (by unfold maxLen; omega) _ (lies_lit w zs)
  have e : (w.alloc (.cells (zs.map (Value.int .u8)).toArray 5)).heap.size = w.heap.size + 1 := by simp
  rw [e] at h
  exact h.mono fun e w' ⟨h1, h2⟩ => ⟨h1, h2.out.1, ((Below.refl _ _).alloc (Nat.le_refl _) _).trans (h2.out.2.mono (by omega))⟩
end Go.Proofs.YtbeeefekndcgnabDoor
