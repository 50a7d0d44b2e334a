/- The program's own: Load. -/
import Derived.Test.YtehnhjdjjalifaaGreatDoorQ13
namespace Go.Proofs.YtehnhjdjjalifaaGreatDoor
open Go Go.RowKit Go.Shelf
set_option linter.unusedVariables false
set_option maxHeartbeats 4000000
set_option maxRecDepth 20000

theorem lies_bx {w : World} {g : Nat} {l : List UInt8} (h : Bx w g (rowL cB l).toArray 5) : LB w (some ⟨g, 0, none⟩) l := fun j a hj => ⟨g, 0, rfl, bxL_range kByte.len h j a hj⟩
theorem MOk.facts {w : World} {l : List UInt8} {M : Array Value} {y : World} (h : MOk w l M y) : M.size = 35 ∧ M.all (·.oneCell') = true := by
  obtain ⟨g, g', rfl, _⟩ := h
  exact ⟨rfl, bCs_one _ _ _ _ _ _ _⟩
theorem MOk.base {w z : World} {l : List UInt8} {M : Array Value} {y : World} (h : MOk z l M y) (hb : w.heap.size ≤ z.heap.size) : MOk w l M y := by
  obtain ⟨g, g', e, a, b, c, d, f⟩ := h
  exact ⟨g, g', e, a, b, Nat.le_trans hb c, Nat.le_trans hb d, f⟩
theorem bdOf_ok (l : List UInt8) : (bdOf l).Ok := by
  refine ⟨by show ((List.range 16).map _).length = 16; simp, fun v hv => ?_, ?_⟩
  · obtain ⟨i, _, rfl⟩ := List.mem_map.1 (show v ∈ (List.range 16).map fun i => numB l (4 + 2 * i) 2 from hv)
    exact num_lt l _ 2
  · exact num_lt l 53 8
theorem MOk.bl {w : World} {l : List UInt8} {M : Array Value} {y : World} (h : MOk w l M y) : BL y M (bdOf l) := by
  obtain ⟨g, g', e, a, b, _⟩ := h
  have h2 : numB l 46 2 < 65536 := num_lt l 46 2
  have h3 := UInt8.toNat_lt (byteB l 48)
  have h4 := UInt8.toNat_lt (byteB l 50)
  refine ⟨⟨_, _, _, _, e, lies_bx a, lies_bx b⟩, bdOf_ok l, ?_, ?_, ?_⟩
  · show _ ≤ ((numB l 46 2 : Nat) : Int) ∧ ((numB l 46 2 : Nat) : Int) ≤ _; omega
  · show _ ≤ (((byteB l 48).toNat : Nat) : Int) ∧ (((byteB l 48).toNat : Nat) : Int) ≤ _; omega
  · show _ ≤ (((byteB l 50).toNat : Nat) : Int) ∧ (((byteB l 50).toNat : Nat) : Int) ≤ _; omega
/-- What Load answers. -/
def LdE (w : World) (l : List UInt8) (e : Ending) (w' : World) : Prop :=
  (formB l = false ∧ e = .returned (.tuple #[.agg zBd, .int .i64 210]) ∧ Hid (Below w.heap.size w w')) ∨
  (formB l = true ∧ sumOk l = false ∧ e = .returned (.tuple #[.agg zBd, .int .i64 211]) ∧ Hid (Below w.heap.size w w')) ∨
  (formB l = true ∧ sumOk l = true ∧ chkB (bdOf l) ≠ 0 ∧ e = .returned (.tuple #[.agg zBd, .int .i64 212]) ∧ Hid (Below w.heap.size w w')) ∨
  (formB l = true ∧ sumOk l = true ∧ chkB (bdOf l) = 0 ∧ ∃ M, e = .returned (.tuple #[.agg M, .int .i64 0]) ∧ Hid (Below w.heap.size w w' ∧ MOk w l M w'))
theorem pload_no (w : World) (sp : Option Addr) (cap : Nat) (l : List UInt8) (hl : Hid (LB w sp l)) (hn : l.length ≤ 4000000000) (hcap : l.length ≤ cap) (hf : wholeB l = false) :
    Calls Tryz.prog 11 #[.slice sp l.length cap] w fun e w' => e = .returned (.tuple #[.agg zBd, .int .i64 210]) ∧ Hid (Below w.heap.size w w') := by
  have hR : Hid (∀ y, Below w.heap.size w y → Calls Tryz.prog 23 #[.slice sp l.length cap] y fun e w' => e = .returned (.tuple #[.agg zBd, .slice none 0 0, .bool false]) ∧ Below y.heap.size y w') := fun y hy => (rrow_any y sp cap l (hl.out.below hy) hn hcap).mono fun e w' h => by
    rcases h with ⟨h, _⟩ | ⟨_, h1, h2⟩
    · rw [hf] at h; cases h
    · exact ⟨h1, h2.out⟩
  obtain ⟨n, hn'⟩ : ∃ n, l.length = n := ⟨_, rfl⟩
  rw [hn'] at hR ⊢
  clear hl hn hcap hf hn'
  go_enter Tryz.func11, Tryz.ntmps11
  go_wp2_with (first
    | ((with_reducible refine gen_world (w.alloc (.cells #[.int .u16 0, .int .u16 0, .int .u16 0, .int .u16 0, .int .u16 0, .int .u16 0, .int .u16 0, .int .u16 0, .int .u16 0, .int .u16 0, .int .u16 0, .int .u16 0, .int .u16 0, .int .u16 0, .int .u16 0, .int .u16 0, .int .u8 0, .bool false, .int .u8 0, .int .u8 0, .int .u8 0, .bool false, .bool false, .int .u8 0, .int .u8 0, .int .u8 0, .int .i64 0, .int .i64 0, .bool false, .int .i64 0, .int .u8 0, .bool false, .slice none 0 0, .slice none 0 0, .int .u64 0] 34)) (Fm w [(w.heap.size, zBd, 34)]) ?_ ?_); exact Fm.one w _ _; intro y0 K0)
    | (go_at_call 23; refine (hR.out y0 K0.out.low).mono ?_; rintro e y1 ⟨rfl, H⟩; have K1 : Hid (Fm w [(w.heap.size, zBd, 34)] y1) := K0.out.below H; clear H)
    | ((with_reducible refine gen_world (y1.alloc (.cells #[.int .u16 0, .int .u16 0, .int .u16 0, .int .u16 0, .int .u16 0, .int .u16 0, .int .u16 0, .int .u16 0, .int .u16 0, .int .u16 0, .int .u16 0, .int .u16 0, .int .u16 0, .int .u16 0, .int .u16 0, .int .u16 0, .int .u8 0, .bool false, .int .u8 0, .int .u8 0, .int .u8 0, .bool false, .bool false, .int .u8 0, .int .u8 0, .int .u8 0, .int .i64 0, .int .i64 0, .bool false, .int .i64 0, .int .u8 0, .bool false, .slice none 0 0, .slice none 0 0, .int .u64 0] 34)) (Fm w [(w.heap.size, zBd, 34), (y1.heap.size, zBd, 34)]) ?_ ?_); exact K1.out.new _ _; intro y2 K2)
    | ((with_reducible refine at_st rtBd y1.heap.size zBd zBd ?_ ?_ ?_ ?_ (.tmp 4) (.tmp 10) ?_ ?_ ?_ ?_ ?_); exact K2.out.bx 1 _ _ _ rfl; rfl; rfl; exact zBd_one; rfl; rfl; rfl; rfl; intro y3 h3; have K3 : Hid (Fm w [(w.heap.size, zBd, 34), (y1.heap.size, zBd, 34)] y3) := K2.out.put 1 _ _ _ _ rfl h3.out; clear h3)
    | ((with_reducible refine at_st rtBd w.heap.size zBd zBd ?_ ?_ ?_ ?_ (.tmp 2) (.tmp 21) ?_ ?_ ?_ ?_ ?_); exact K3.out.bx 0 _ _ _ rfl; rfl; rfl; exact zBd_one; rfl; rfl; rfl; rfl; intro y9 h9; have K9 : Hid (Fm w [(w.heap.size, zBd, 34), (y1.heap.size, zBd, 34)] y9) := K3.out.put 0 _ _ _ _ rfl h9.out; clear h9))
  exact ret_cell2 rtBd rfl rfl rfl (K9.out.bx 0 _ _ _ rfl) rfl rfl ⟨rfl, K9.out.low⟩
theorem pload_len (w : World) (sp : Option Addr) (cap : Nat) (l : List UInt8) (hl : Hid (LB w sp l)) (hn : l.length ≤ 4000000000) (hcap : l.length ≤ cap) (hf : wholeB l = true) (h8 : l.length ≠ 583 + ramN l) :
    Calls Tryz.prog 11 #[.slice sp l.length cap] w fun e w' => e = .returned (.tuple #[.agg zBd, .int .i64 210]) ∧ Hid (Below w.heap.size w w') := by
  have hR : Hid (∀ y, Below w.heap.size w y → Calls Tryz.prog 23 #[.slice sp l.length cap] y fun e w' => ∃ M sp n cap, e = .returned (.tuple #[.agg M, .slice sp n cap, .bool true]) ∧ Hid (Below y.heap.size y w' ∧ LB w' sp (l.drop (575 + ramN l)) ∧ 575 + ramN l + n = l.length ∧ n ≤ cap ∧ MOk y l M w')) := fun y hy => (rrow_any y sp cap l (hl.out.below hy) hn hcap).mono fun e w' h => by
    rcases h with ⟨_, h⟩ | ⟨h, _⟩
    · exact h
    · rw [hf] at h; cases h
  obtain ⟨n, hn'⟩ : ∃ n, l.length = n := ⟨_, rfl⟩
  have h8' : Hid (n ≠ 583 + ramN l ∧ n ≤ 4000000000) := by rw [← hn']; exact ⟨h8, hn⟩
  rw [hn'] at hR ⊢
  clear hl hn hcap hf hn' h8
  go_enter Tryz.func11, Tryz.ntmps11
  go_wp2_with (first
    | ((with_reducible refine gen_world (w.alloc (.cells #[.int .u16 0, .int .u16 0, .int .u16 0, .int .u16 0, .int .u16 0, .int .u16 0, .int .u16 0, .int .u16 0, .int .u16 0, .int .u16 0, .int .u16 0, .int .u16 0, .int .u16 0, .int .u16 0, .int .u16 0, .int .u16 0, .int .u8 0, .bool false, .int .u8 0, .int .u8 0, .int .u8 0, .bool false, .bool false, .int .u8 0, .int .u8 0, .int .u8 0, .int .i64 0, .int .i64 0, .bool false, .int .i64 0, .int .u8 0, .bool false, .slice none 0 0, .slice none 0 0, .int .u64 0] 34)) (Fm w [(w.heap.size, zBd, 34)]) ?_ ?_); exact Fm.one w _ _; intro y0 K0)
    | (go_at_call 23; refine (hR.out y0 K0.out.low).mono ?_; rintro e y1 ⟨M, sp9, n9, cap9, rfl, H⟩; obtain ⟨h575, hcap9, hM9⟩ := H.out.2.2; have hM1 : Hid (M.size = 35 ∧ M.all (·.oneCell') = true) := MOk.facts hM9; have K1 : Hid (Fm w [(w.heap.size, zBd, 34)] y1 ∧ LB y1 sp9 (l.drop (575 + ramN l)) ∧ MOk w l M y1) := ⟨K0.out.below H.out.1, H.out.2.1, hM9.base K0.out.low.size⟩; have q8 : ((n9 : Int) != 8) = true := (by have h1 := h8'.out.1; rw [bne_iff_ne]; omega); have i9 : (n9 : Int) ≤ 4000000000 := (by have h1 := h8'.out.2; omega); clear H hM9 h575 hcap9)
    | ((with_reducible refine gen_world (y1.alloc (.cells #[.int .u16 0, .int .u16 0, .int .u16 0, .int .u16 0, .int .u16 0, .int .u16 0, .int .u16 0, .int .u16 0, .int .u16 0, .int .u16 0, .int .u16 0, .int .u16 0, .int .u16 0, .int .u16 0, .int .u16 0, .int .u16 0, .int .u8 0, .bool false, .int .u8 0, .int .u8 0, .int .u8 0, .bool false, .bool false, .int .u8 0, .int .u8 0, .int .u8 0, .int .i64 0, .int .i64 0, .bool false, .int .i64 0, .int .u8 0, .bool false, .slice none 0 0, .slice none 0 0, .int .u64 0] 34)) (fun z => Fm w [(w.heap.size, zBd, 34), (y1.heap.size, zBd, 34)] z ∧ Below y1.heap.size y1 z) ?_ ?_); exact ⟨K1.out.1.new _ _, below1 y1 _⟩; intro y2 K2)
    | ((with_reducible refine at_st rtBd y1.heap.size zBd M ?_ ?_ ?_ ?_ (.tmp 4) (.tmp 10) ?_ ?_ ?_ ?_ ?_); exact K2.out.1.bx 1 _ _ _ rfl; rfl; exact hM1.out.1; exact hM1.out.2; rfl; rfl; rfl; rfl; intro y3 h3; have K3 : Hid (Fm w [(w.heap.size, zBd, 34), (y1.heap.size, M, 34)] y3 ∧ LB y3 sp9 (l.drop (575 + ramN l)) ∧ MOk w l M y3) := ⟨K2.out.1.put 1 _ _ _ _ rfl h3.out, K1.out.2.1.below (K2.out.2.trans (h3.out.2.1 _ (Nat.le_refl _))), K1.out.2.2.below (K2.out.2.trans (h3.out.2.1 _ (Nat.le_refl _)))⟩; clear h3)
    | (go_at_call 24; refine (wid_q y3).mono ?_; rintro e y3 ⟨rfl, rfl⟩)
    | ((with_reducible refine at_st rtBd w.heap.size zBd zBd ?_ ?_ ?_ ?_ (.tmp 2) (.tmp 21) ?_ ?_ ?_ ?_ ?_); exact K3.out.1.bx 0 _ _ _ rfl; rfl; rfl; exact zBd_one; rfl; rfl; rfl; rfl; intro y9 h9; have K9 : Hid (Fm w [(w.heap.size, zBd, 34), (y1.heap.size, M, 34)] y9) := K3.out.1.put 0 _ _ _ _ rfl h9.out; clear h9))
  exact ret_cell2 rtBd rfl rfl rfl (K9.out.bx 0 _ _ _ rfl) rfl rfl ⟨rfl, K9.out.low⟩
theorem MOk.put {w : World} {l : List UInt8} {M N : Array Value} {y z : World} {b : Nat} (h : MOk w l M y) (hb : Bx y b N 34) (hz : ∀ q, q ≠ b → z.heap[q]? = y.heap[q]?) : MOk w l M z := by
  obtain ⟨g, g', e, a, c, d⟩ := h
  have ty : ∀ q (X : Array Value), Bx y q X 5 → q ≠ b := fun q X hq e => by
    rw [e] at hq
    have := Option.some.inj (hq.symm.trans hb)
    injection this with _ e2
    exact absurd e2 (by decide)
  exact ⟨g, g', e, (hz g (ty g _ a)).trans a, (hz g' (ty g' _ c)).trans c, d⟩
theorem pload_sum (w : World) (tb : Hid (Tbs w)) (sp : Option Addr) (cap : Nat) (l : List UInt8) (hl : Hid (LB w sp l)) (hn : l.length ≤ 4000000000) (hcap : l.length ≤ cap) (hf : wholeB l = true) (h8 : l.length = 583 + ramN l) (hs : sumOk l = false) :
    Calls Tryz.prog 11 #[.slice sp l.length cap] w fun e w' => e = .returned (.tuple #[.agg zBd, .int .i64 211]) ∧ Hid (Below w.heap.size w w') := by
  have hR : Hid (∀ y, Below w.heap.size w y → Calls Tryz.prog 23 #[.slice sp l.length cap] y fun e w' => ∃ M sp n cap, e = .returned (.tuple #[.agg M, .slice sp n cap, .bool true]) ∧ Hid (Below y.heap.size y w' ∧ LB w' sp (l.drop (575 + ramN l)) ∧ 575 + ramN l + n = l.length ∧ n ≤ cap ∧ MOk y l M w')) := fun y hy => (rrow_any y sp cap l (hl.out.below hy) hn hcap).mono fun e w' h => by
    rcases h with ⟨_, h⟩ | ⟨h, _⟩
    · exact h
    · rw [hf] at h; cases h
  obtain ⟨m, hm⟩ : ∃ m, l.length = m + 8 := ⟨l.length - 8, by omega⟩
  obtain ⟨sp1, hsl1, hlb1, _⟩ := slTakeB sp (m + 8) cap m (by omega) (by omega)
  obtain ⟨S1, hS1⟩ : ∃ S, sumB (l.take m) = S := ⟨_, rfl⟩
  obtain ⟨S2, hS2⟩ : ∃ S, getN (l.drop m) = S := ⟨_, rfl⟩
  have hm575 : 575 + ramN l = m := by omega
  have ld8 : Hid ((l.drop m).length = 8) := by show _ = _; rw [List.length_drop]; omega
  have hSum : Hid (∀ y z, Below w.heap.size w y → z.heap = y.heap → Calls Tryz.prog 18 #[.slice sp1 m cap] z fun e w' => e = .returned (.int .u64 (S1 : Int)) ∧ w' = z) := fun y z hy hz => by
    have hb : LB z sp1 (l.take m) := fun j a hj => by
      obtain ⟨g, o, e, h⟩ := hlb1 y l (hl.out.below hy) j a hj
      exact ⟨g, o, e, fun i v hv => by have := h i v hv; unfold World.cell? at this ⊢; rw [hz]; exact this⟩
    have := psum_any z sp1 m cap (l.take m) hb (show (l.take m).length = m by rw [List.length_take, hm]; omega) (by omega)
    rw [hS1] at this
    exact this
  have hRd : Hid (∀ (y z : World) (sp9 : Option Addr) (cap9 : Nat), LB y sp9 (l.drop m) → z.heap = y.heap → Calls Tryz.prog 25 #[.slice sp9 8 cap9] z fun e w' => e = .returned (.int .u64 (S2 : Int)) ∧ w' = z) := fun y z sp9 cap9 hy hz => by
    have := red_q z sp9 cap9 (l.drop m) (fun j a hj => by
      obtain ⟨g, o, e, h⟩ := hy j a hj
      exact ⟨g, o, e, fun i v hv => by have := h i v hv; unfold World.cell? at this ⊢; rw [hz]; exact this⟩) ld8
    rw [hS2] at this
    exact this
  have esum : sumOk l = (S1 == S2) := by
    unfold sumOk numB
    rw [hm, show m + 8 - 8 = m by omega, List.take_of_length_le (l := l.drop m) (by rw [ld8.out]; exact Nat.le_refl _), hS1, hS2]
  rw [esum] at hs
  have qs : ((S2 : Int) != (S1 : Int)) = true := by
    rw [bne_iff_ne]
    intro e
    rw [show S1 = S2 by omega] at hs
    simp at hs
  have hmi : (m : Int) ≤ 4000000000 := by omega
  have wm : ((m : Int) + 8) - 8 = (m : Int) := by omega
  have h575' : Hid (575 + ramN l = m) := hm575
  rw [hm] at hR ⊢
  clear tb hl hn hcap hf h8 hs esum hS1 hS2 hlb1 hm hm575
  go_enter Tryz.func11, Tryz.ntmps11
  go_wp2_with (first
    | ((with_reducible refine gen_world (w.alloc (.cells #[.int .u16 0, .int .u16 0, .int .u16 0, .int .u16 0, .int .u16 0, .int .u16 0, .int .u16 0, .int .u16 0, .int .u16 0, .int .u16 0, .int .u16 0, .int .u16 0, .int .u16 0, .int .u16 0, .int .u16 0, .int .u16 0, .int .u8 0, .bool false, .int .u8 0, .int .u8 0, .int .u8 0, .bool false, .bool false, .int .u8 0, .int .u8 0, .int .u8 0, .int .i64 0, .int .i64 0, .bool false, .int .i64 0, .int .u8 0, .bool false, .slice none 0 0, .slice none 0 0, .int .u64 0] 34)) (Fm w [(w.heap.size, zBd, 34)]) ?_ ?_); exact Fm.one w _ _; intro y0 K0)
    | (go_at_call 23; refine (hR.out y0 K0.out.low).mono ?_; rintro e y1 ⟨M, sp9, n9, cap9, rfl, H⟩; obtain ⟨h575, hcap9, hM9⟩ := H.out.2.2; have hM1 : Hid (M.size = 35 ∧ M.all (·.oneCell') = true) := MOk.facts hM9; have K1 : Hid (Fm w [(w.heap.size, zBd, 34)] y1 ∧ LB y1 sp9 (l.drop (575 + ramN l)) ∧ MOk w l M y1) := ⟨K0.out.below H.out.1, H.out.2.1, hM9.base K0.out.low.size⟩; have e9 : n9 = 8 := (by have h1 := h575'.out; omega); subst e9; have hL9 : Hid (LB y1 sp9 (l.drop m)) := (by rw [← h575'.out]; exact K1.out.2.1); clear H hM9 h575 hcap9)
    | ((with_reducible refine gen_world (y1.alloc (.cells #[.int .u16 0, .int .u16 0, .int .u16 0, .int .u16 0, .int .u16 0, .int .u16 0, .int .u16 0, .int .u16 0, .int .u16 0, .int .u16 0, .int .u16 0, .int .u16 0, .int .u16 0, .int .u16 0, .int .u16 0, .int .u16 0, .int .u8 0, .bool false, .int .u8 0, .int .u8 0, .int .u8 0, .bool false, .bool false, .int .u8 0, .int .u8 0, .int .u8 0, .int .i64 0, .int .i64 0, .bool false, .int .i64 0, .int .u8 0, .bool false, .slice none 0 0, .slice none 0 0, .int .u64 0] 34)) (fun z => Fm w [(w.heap.size, zBd, 34), (y1.heap.size, zBd, 34)] z ∧ Below y1.heap.size y1 z) ?_ ?_); exact ⟨K1.out.1.new _ _, below1 y1 _⟩; intro y2 K2)
    | ((with_reducible refine at_st rtBd y1.heap.size zBd M ?_ ?_ ?_ ?_ (.tmp 4) (.tmp 10) ?_ ?_ ?_ ?_ ?_); exact K2.out.1.bx 1 _ _ _ rfl; rfl; exact hM1.out.1; exact hM1.out.2; rfl; rfl; rfl; rfl; intro y3 h3; have K3 : Hid (Fm w [(w.heap.size, zBd, 34), (y1.heap.size, M, 34)] y3 ∧ LB y3 sp9 (l.drop (575 + ramN l)) ∧ MOk w l M y3) := ⟨K2.out.1.put 1 _ _ _ _ rfl h3.out, K1.out.2.1.below (K2.out.2.trans (h3.out.2.1 _ (Nat.le_refl _))), K1.out.2.2.below (K2.out.2.trans (h3.out.2.1 _ (Nat.le_refl _)))⟩; have hL3 : Hid (LB y3 sp9 (l.drop m)) := hL9.out.below (K2.out.2.trans (h3.out.2.1 _ (Nat.le_refl _))); clear h3)
    | (go_at_call 24; refine (wid_q y3).mono ?_; rintro e y3 ⟨rfl, rfl⟩))
  go_quiet ((first
    | (go_at_call 25; exact Calls.quiet_of_same (hRd.out y3 _ sp9 cap9 hL3.out rfl))
    | (go_at_call 18; exact Calls.quiet_of_same (hSum.out y3 _ K3.out.1.low rfl))))
  rename_i nq
  have K4 : Hid (Fm w [(w.heap.size, zBd, 34), (y1.heap.size, M, 34)] (y3.drewN nq) ∧ MOk w l M (y3.drewN nq)) := ⟨K3.out.1.below (below_drewN (Below.refl _ y3)), K3.out.2.2.below (below_drewN (Below.refl _ y3))⟩
  obtain ⟨y4, hy4⟩ : ∃ z, y3.drewN nq = z := ⟨_, rfl⟩
  rw [hy4] at K4 ⊢
  clear hy4
  go_wp2_with (first
    | ((with_reducible refine at_st rtBd w.heap.size zBd zBd ?_ ?_ ?_ ?_ (.tmp 2) (.tmp 33) ?_ ?_ ?_ ?_ ?_); exact K4.out.1.bx 0 _ _ _ rfl; rfl; rfl; exact zBd_one; rfl; rfl; rfl; rfl; intro y9 h9; have K9 : Hid (Fm w [(w.heap.size, zBd, 34), (y1.heap.size, M, 34)] y9) := K4.out.1.put 0 _ _ _ _ rfl h9.out; clear h9))
  exact ret_cell2 rtBd rfl rfl rfl (K9.out.bx 0 _ _ _ rfl) rfl rfl ⟨rfl, K9.out.low⟩
theorem pload_chk (w : World) (tb : Hid (Tbs w)) (sp : Option Addr) (cap : Nat) (l : List UInt8) (hl : Hid (LB w sp l)) (hn : l.length ≤ 4000000000) (hcap : l.length ≤ cap) (hf : wholeB l = true) (h8 : l.length = 583 + ramN l) (hs : sumOk l = true) (hc : chkB (bdOf l) ≠ 0) :
    Calls Tryz.prog 11 #[.slice sp l.length cap] w fun e w' => e = .returned (.tuple #[.agg zBd, .int .i64 212]) ∧ Hid (Below w.heap.size w w') := by
  have hR : Hid (∀ y, Below w.heap.size w y → Calls Tryz.prog 23 #[.slice sp l.length cap] y fun e w' => ∃ M sp n cap, e = .returned (.tuple #[.agg M, .slice sp n cap, .bool true]) ∧ Hid (Below y.heap.size y w' ∧ LB w' sp (l.drop (575 + ramN l)) ∧ 575 + ramN l + n = l.length ∧ n ≤ cap ∧ MOk y l M w')) := fun y hy => (rrow_any y sp cap l (hl.out.below hy) hn hcap).mono fun e w' h => by
    rcases h with ⟨_, h⟩ | ⟨h, _⟩
    · exact h
    · rw [hf] at h; cases h
  obtain ⟨m, hm⟩ : ∃ m, l.length = m + 8 := ⟨l.length - 8, by omega⟩
  obtain ⟨sp1, hsl1, hlb1, _⟩ := slTakeB sp (m + 8) cap m (by omega) (by omega)
  obtain ⟨S1, hS1⟩ : ∃ S, sumB (l.take m) = S := ⟨_, rfl⟩
  obtain ⟨S2, hS2⟩ : ∃ S, getN (l.drop m) = S := ⟨_, rfl⟩
  have hm575 : 575 + ramN l = m := by omega
  have ld8 : Hid ((l.drop m).length = 8) := by show _ = _; rw [List.length_drop]; omega
  have hSum : Hid (∀ y z, Below w.heap.size w y → z.heap = y.heap → Calls Tryz.prog 18 #[.slice sp1 m cap] z fun e w' => e = .returned (.int .u64 (S1 : Int)) ∧ w' = z) := fun y z hy hz => by
    have hb : LB z sp1 (l.take m) := fun j a hj => by
      obtain ⟨g, o, e, h⟩ := hlb1 y l (hl.out.below hy) j a hj
      exact ⟨g, o, e, fun i v hv => by have := h i v hv; unfold World.cell? at this ⊢; rw [hz]; exact this⟩
    have := psum_any z sp1 m cap (l.take m) hb (show (l.take m).length = m by rw [List.length_take, hm]; omega) (by omega)
    rw [hS1] at this
    exact this
  have hRd : Hid (∀ (y z : World) (sp9 : Option Addr) (cap9 : Nat), LB y sp9 (l.drop m) → z.heap = y.heap → Calls Tryz.prog 25 #[.slice sp9 8 cap9] z fun e w' => e = .returned (.int .u64 (S2 : Int)) ∧ w' = z) := fun y z sp9 cap9 hy hz => by
    have := red_q z sp9 cap9 (l.drop m) (fun j a hj => by
      obtain ⟨g, o, e, h⟩ := hy j a hj
      exact ⟨g, o, e, fun i v hv => by have := h i v hv; unfold World.cell? at this ⊢; rw [hz]; exact this⟩) ld8
    rw [hS2] at this
    exact this
  have esum : sumOk l = (S1 == S2) := by
    unfold sumOk numB
    rw [hm, show m + 8 - 8 = m by omega, List.take_of_length_le (l := l.drop m) (by rw [ld8.out]; exact Nat.le_refl _), hS1, hS2]
  rw [esum] at hs
  have qs : ((S2 : Int) != (S1 : Int)) = false := by
    rw [bne_eq_false_iff_eq]
    rw [beq_iff_eq] at hs
    omega
  obtain ⟨E, hE⟩ : ∃ z, chkB (bdOf l) = z := ⟨_, rfl⟩
  rw [hE] at hc
  have qE : (E != 0) = true := by rw [bne_iff_ne]; exact hc
  have hC : Hid (∀ (y : World) (M : Array Value), Below w.heap.size w y → MOk w l M y → Calls Tryz.prog 15 #[.agg M] y fun e w' => e = .returned (.int .i64 E) ∧ Below y.heap.size y w') := fun y M hy hM => by rw [← hE]; exact bchk_any y (tb.out.below hy) M (bdOf l) hM.bl
  have hmi : (m : Int) ≤ 4000000000 := by omega
  have wm : ((m : Int) + 8) - 8 = (m : Int) := by omega
  have h575' : Hid (575 + ramN l = m) := hm575
  rw [hm] at hR ⊢
  clear tb hl hn hcap hf h8 hs esum hS1 hS2 hlb1 hm hm575 hc hE
  go_enter Tryz.func11, Tryz.ntmps11
  go_wp2_with (first
    | ((with_reducible refine gen_world (w.alloc (.cells #[.int .u16 0, .int .u16 0, .int .u16 0, .int .u16 0, .int .u16 0, .int .u16 0, .int .u16 0, .int .u16 0, .int .u16 0, .int .u16 0, .int .u16 0, .int .u16 0, .int .u16 0, .int .u16 0, .int .u16 0, .int .u16 0, .int .u8 0, .bool false, .int .u8 0, .int .u8 0, .int .u8 0, .bool false, .bool false, .int .u8 0, .int .u8 0, .int .u8 0, .int .i64 0, .int .i64 0, .bool false, .int .i64 0, .int .u8 0, .bool false, .slice none 0 0, .slice none 0 0, .int .u64 0] 34)) (Fm w [(w.heap.size, zBd, 34)]) ?_ ?_); exact Fm.one w _ _; intro y0 K0)
    | (go_at_call 23; refine (hR.out y0 K0.out.low).mono ?_; rintro e y1 ⟨M, sp9, n9, cap9, rfl, H⟩; obtain ⟨h575, hcap9, hM9⟩ := H.out.2.2; have hM1 : Hid (M.size = 35 ∧ M.all (·.oneCell') = true) := MOk.facts hM9; have K1 : Hid (Fm w [(w.heap.size, zBd, 34)] y1 ∧ LB y1 sp9 (l.drop (575 + ramN l)) ∧ MOk w l M y1) := ⟨K0.out.below H.out.1, H.out.2.1, hM9.base K0.out.low.size⟩; have e9 : n9 = 8 := (by have h1 := h575'.out; omega); subst e9; have hL9 : Hid (LB y1 sp9 (l.drop m)) := (by rw [← h575'.out]; exact K1.out.2.1); clear H hM9 h575 hcap9)
    | ((with_reducible refine gen_world (y1.alloc (.cells #[.int .u16 0, .int .u16 0, .int .u16 0, .int .u16 0, .int .u16 0, .int .u16 0, .int .u16 0, .int .u16 0, .int .u16 0, .int .u16 0, .int .u16 0, .int .u16 0, .int .u16 0, .int .u16 0, .int .u16 0, .int .u16 0, .int .u8 0, .bool false, .int .u8 0, .int .u8 0, .int .u8 0, .bool false, .bool false, .int .u8 0, .int .u8 0, .int .u8 0, .int .i64 0, .int .i64 0, .bool false, .int .i64 0, .int .u8 0, .bool false, .slice none 0 0, .slice none 0 0, .int .u64 0] 34)) (fun z => Fm w [(w.heap.size, zBd, 34), (y1.heap.size, zBd, 34)] z ∧ Below y1.heap.size y1 z) ?_ ?_); exact ⟨K1.out.1.new _ _, below1 y1 _⟩; intro y2 K2)
    | ((with_reducible refine at_st rtBd y1.heap.size zBd M ?_ ?_ ?_ ?_ (.tmp 4) (.tmp 10) ?_ ?_ ?_ ?_ ?_); exact K2.out.1.bx 1 _ _ _ rfl; rfl; exact hM1.out.1; exact hM1.out.2; rfl; rfl; rfl; rfl; intro y3 h3; have K3 : Hid (Fm w [(w.heap.size, zBd, 34), (y1.heap.size, M, 34)] y3 ∧ LB y3 sp9 (l.drop (575 + ramN l)) ∧ MOk w l M y3) := ⟨K2.out.1.put 1 _ _ _ _ rfl h3.out, K1.out.2.1.below (K2.out.2.trans (h3.out.2.1 _ (Nat.le_refl _))), K1.out.2.2.below (K2.out.2.trans (h3.out.2.1 _ (Nat.le_refl _)))⟩; have hL3 : Hid (LB y3 sp9 (l.drop m)) := hL9.out.below (K2.out.2.trans (h3.out.2.1 _ (Nat.le_refl _))); clear h3)
    | (go_at_call 24; refine (wid_q y3).mono ?_; rintro e y3 ⟨rfl, rfl⟩))
  go_quiet ((first
    | (go_at_call 25; exact Calls.quiet_of_same (hRd.out y3 _ sp9 cap9 hL3.out rfl))
    | (go_at_call 18; exact Calls.quiet_of_same (hSum.out y3 _ K3.out.1.low rfl))))
  rename_i nq
  have K4 : Hid (Fm w [(w.heap.size, zBd, 34), (y1.heap.size, M, 34)] (y3.drewN nq) ∧ MOk w l M (y3.drewN nq)) := ⟨K3.out.1.below (below_drewN (Below.refl _ y3)), K3.out.2.2.below (below_drewN (Below.refl _ y3))⟩
  obtain ⟨y4, hy4⟩ : ∃ z, y3.drewN nq = z := ⟨_, rfl⟩
  rw [hy4] at K4 ⊢
  clear hy4
  go_wp2_with (first
    | ((with_reducible refine at_load rtBd y1.heap.size M ?_ ?_ (.tmp 4) ?_ ?_ ?_ ?_); exact K4.out.1.bx 1 _ _ _ rfl; exact hM1.out.1; kernel_rfl; rfl; rfl)
    | (go_at_call 15; refine (hC.out y4 M K4.out.1.low K4.out.2).mono ?_; rintro e y5 ⟨rfl, H⟩; have K5 : Hid (Fm w [(w.heap.size, zBd, 34), (y1.heap.size, M, 34)] y5) := K4.out.1.below H; clear H)
    | ((with_reducible refine at_st rtBd w.heap.size zBd zBd ?_ ?_ ?_ ?_ (.tmp 2) (.tmp 37) ?_ ?_ ?_ ?_ ?_); exact K5.out.bx 0 _ _ _ rfl; rfl; rfl; exact zBd_one; rfl; rfl; rfl; rfl; intro y9 h9; have K9 : Hid (Fm w [(w.heap.size, zBd, 34), (y1.heap.size, M, 34)] y9) := K5.out.put 0 _ _ _ _ rfl h9.out; clear h9))
  exact ret_cell2 rtBd rfl rfl rfl (K9.out.bx 0 _ _ _ rfl) rfl rfl ⟨rfl, K9.out.low⟩
theorem pload_ok (w : World) (tb : Hid (Tbs w)) (sp : Option Addr) (cap : Nat) (l : List UInt8) (hl : Hid (LB w sp l)) (hn : l.length ≤ 4000000000) (hcap : l.length ≤ cap) (hf : wholeB l = true) (h8 : l.length = 583 + ramN l) (hs : sumOk l = true) (hc : chkB (bdOf l) = 0) :
    Calls Tryz.prog 11 #[.slice sp l.length cap] w fun e w' => ∃ M, e = .returned (.tuple #[.agg M, .int .i64 0]) ∧ Hid (Below w.heap.size w w' ∧ MOk w l M w') := by
  have hR : Hid (∀ y, Below w.heap.size w y → Calls Tryz.prog 23 #[.slice sp l.length cap] y fun e w' => ∃ M sp n cap, e = .returned (.tuple #[.agg M, .slice sp n cap, .bool true]) ∧ Hid (Below y.heap.size y w' ∧ LB w' sp (l.drop (575 + ramN l)) ∧ 575 + ramN l + n = l.length ∧ n ≤ cap ∧ MOk y l M w')) := fun y hy => (rrow_any y sp cap l (hl.out.below hy) hn hcap).mono fun e w' h => by
    rcases h with ⟨_, h⟩ | ⟨h, _⟩
    · exact h
    · rw [hf] at h; cases h
  obtain ⟨m, hm⟩ : ∃ m, l.length = m + 8 := ⟨l.length - 8, by omega⟩
  obtain ⟨sp1, hsl1, hlb1, _⟩ := slTakeB sp (m + 8) cap m (by omega) (by omega)
  obtain ⟨S1, hS1⟩ : ∃ S, sumB (l.take m) = S := ⟨_, rfl⟩
  obtain ⟨S2, hS2⟩ : ∃ S, getN (l.drop m) = S := ⟨_, rfl⟩
  have hm575 : 575 + ramN l = m := by omega
  have ld8 : Hid ((l.drop m).length = 8) := by show _ = _; rw [List.length_drop]; omega
  have hSum : Hid (∀ y z, Below w.heap.size w y → z.heap = y.heap → Calls Tryz.prog 18 #[.slice sp1 m cap] z fun e w' => e = .returned (.int .u64 (S1 : Int)) ∧ w' = z) := fun y z hy hz => by
    have hb : LB z sp1 (l.take m) := fun j a hj => by
      obtain ⟨g, o, e, h⟩ := hlb1 y l (hl.out.below hy) j a hj
      exact ⟨g, o, e, fun i v hv => by have := h i v hv; unfold World.cell? at this ⊢; rw [hz]; exact this⟩
    have := psum_any z sp1 m cap (l.take m) hb (show (l.take m).length = m by rw [List.length_take, hm]; omega) (by omega)
    rw [hS1] at this
    exact this
  have hRd : Hid (∀ (y z : World) (sp9 : Option Addr) (cap9 : Nat), LB y sp9 (l.drop m) → z.heap = y.heap → Calls Tryz.prog 25 #[.slice sp9 8 cap9] z fun e w' => e = .returned (.int .u64 (S2 : Int)) ∧ w' = z) := fun y z sp9 cap9 hy hz => by
    have := red_q z sp9 cap9 (l.drop m) (fun j a hj => by
      obtain ⟨g, o, e, h⟩ := hy j a hj
      exact ⟨g, o, e, fun i v hv => by have := h i v hv; unfold World.cell? at this ⊢; rw [hz]; exact this⟩) ld8
    rw [hS2] at this
    exact this
  have esum : sumOk l = (S1 == S2) := by
    unfold sumOk numB
    rw [hm, show m + 8 - 8 = m by omega, List.take_of_length_le (l := l.drop m) (by rw [ld8.out]; exact Nat.le_refl _), hS1, hS2]
  rw [esum] at hs
  have qs : ((S2 : Int) != (S1 : Int)) = false := by
    rw [bne_eq_false_iff_eq]
    rw [beq_iff_eq] at hs
    omega
  have hE := hc
  have hC : Hid (∀ (y : World) (M : Array Value), Below w.heap.size w y → MOk w l M y → Calls Tryz.prog 15 #[.agg M] y fun e w' => e = .returned (.int .i64 0) ∧ Below y.heap.size y w') := fun y M hy hM => by rw [← hE]; exact bchk_any y (tb.out.below hy) M (bdOf l) hM.bl
  have hmi : (m : Int) ≤ 4000000000 := by omega
  have wm : ((m : Int) + 8) - 8 = (m : Int) := by omega
  have h575' : Hid (575 + ramN l = m) := hm575
  rw [hm] at hR ⊢
  clear tb hl hn hcap hf h8 hs esum hS1 hS2 hlb1 hm hm575 hc hE
  go_enter Tryz.func11, Tryz.ntmps11
  go_wp2_with (first
    | ((with_reducible refine gen_world (w.alloc (.cells #[.int .u16 0, .int .u16 0, .int .u16 0, .int .u16 0, .int .u16 0, .int .u16 0, .int .u16 0, .int .u16 0, .int .u16 0, .int .u16 0, .int .u16 0, .int .u16 0, .int .u16 0, .int .u16 0, .int .u16 0, .int .u16 0, .int .u8 0, .bool false, .int .u8 0, .int .u8 0, .int .u8 0, .bool false, .bool false, .int .u8 0, .int .u8 0, .int .u8 0, .int .i64 0, .int .i64 0, .bool false, .int .i64 0, .int .u8 0, .bool false, .slice none 0 0, .slice none 0 0, .int .u64 0] 34)) (Fm w [(w.heap.size, zBd, 34)]) ?_ ?_); exact Fm.one w _ _; intro y0 K0)
    | (go_at_call 23; refine (hR.out y0 K0.out.low).mono ?_; rintro e y1 ⟨M, sp9, n9, cap9, rfl, H⟩; obtain ⟨h575, hcap9, hM9⟩ := H.out.2.2; have hM1 : Hid (M.size = 35 ∧ M.all (·.oneCell') = true) := MOk.facts hM9; have K1 : Hid (Fm w [(w.heap.size, zBd, 34)] y1 ∧ LB y1 sp9 (l.drop (575 + ramN l)) ∧ MOk w l M y1) := ⟨K0.out.below H.out.1, H.out.2.1, hM9.base K0.out.low.size⟩; have e9 : n9 = 8 := (by have h1 := h575'.out; omega); subst e9; have hL9 : Hid (LB y1 sp9 (l.drop m)) := (by rw [← h575'.out]; exact K1.out.2.1); clear H hM9 h575 hcap9)
    | ((with_reducible refine gen_world (y1.alloc (.cells #[.int .u16 0, .int .u16 0, .int .u16 0, .int .u16 0, .int .u16 0, .int .u16 0, .int .u16 0, .int .u16 0, .int .u16 0, .int .u16 0, .int .u16 0, .int .u16 0, .int .u16 0, .int .u16 0, .int .u16 0, .int .u16 0, .int .u8 0, .bool false, .int .u8 0, .int .u8 0, .int .u8 0, .bool false, .bool false, .int .u8 0, .int .u8 0, .int .u8 0, .int .i64 0, .int .i64 0, .bool false, .int .i64 0, .int .u8 0, .bool false, .slice none 0 0, .slice none 0 0, .int .u64 0] 34)) (fun z => Fm w [(w.heap.size, zBd, 34), (y1.heap.size, zBd, 34)] z ∧ Below y1.heap.size y1 z) ?_ ?_); exact ⟨K1.out.1.new _ _, below1 y1 _⟩; intro y2 K2)
    | ((with_reducible refine at_st rtBd y1.heap.size zBd M ?_ ?_ ?_ ?_ (.tmp 4) (.tmp 10) ?_ ?_ ?_ ?_ ?_); exact K2.out.1.bx 1 _ _ _ rfl; rfl; exact hM1.out.1; exact hM1.out.2; rfl; rfl; rfl; rfl; intro y3 h3; have K3 : Hid (Fm w [(w.heap.size, zBd, 34), (y1.heap.size, M, 34)] y3 ∧ LB y3 sp9 (l.drop (575 + ramN l)) ∧ MOk w l M y3) := ⟨K2.out.1.put 1 _ _ _ _ rfl h3.out, K1.out.2.1.below (K2.out.2.trans (h3.out.2.1 _ (Nat.le_refl _))), K1.out.2.2.below (K2.out.2.trans (h3.out.2.1 _ (Nat.le_refl _)))⟩; have hL3 : Hid (LB y3 sp9 (l.drop m)) := hL9.out.below (K2.out.2.trans (h3.out.2.1 _ (Nat.le_refl _))); clear h3)
    | (go_at_call 24; refine (wid_q y3).mono ?_; rintro e y3 ⟨rfl, rfl⟩))
  go_quiet ((first
    | (go_at_call 25; exact Calls.quiet_of_same (hRd.out y3 _ sp9 cap9 hL3.out rfl))
    | (go_at_call 18; exact Calls.quiet_of_same (hSum.out y3 _ K3.out.1.low rfl))))
  rename_i nq
  have K4 : Hid (Fm w [(w.heap.size, zBd, 34), (y1.heap.size, M, 34)] (y3.drewN nq) ∧ MOk w l M (y3.drewN nq)) := ⟨K3.out.1.below (below_drewN (Below.refl _ y3)), K3.out.2.2.below (below_drewN (Below.refl _ y3))⟩
  obtain ⟨y4, hy4⟩ : ∃ z, y3.drewN nq = z := ⟨_, rfl⟩
  rw [hy4] at K4 ⊢
  clear hy4
  go_wp2_with (first
    | ((with_reducible refine at_load rtBd y1.heap.size M ?_ ?_ (.tmp 4) ?_ ?_ ?_ ?_); exact K5.out.1.bx 1 _ _ _ rfl; exact hM1.out.1; kernel_rfl; rfl; rfl)
    | ((with_reducible refine at_load rtBd y1.heap.size M ?_ ?_ (.tmp 4) ?_ ?_ ?_ ?_); exact K4.out.1.bx 1 _ _ _ rfl; exact hM1.out.1; kernel_rfl; rfl; rfl)
    | (go_at_call 15; refine (hC.out y4 M K4.out.1.low K4.out.2).mono ?_; rintro e y5 ⟨rfl, H⟩; have K5 : Hid (Fm w [(w.heap.size, zBd, 34), (y1.heap.size, M, 34)] y5 ∧ MOk w l M y5) := ⟨K4.out.1.below H, K4.out.2.below H⟩; clear H)
    | ((with_reducible refine at_st rtBd w.heap.size zBd M ?_ ?_ ?_ ?_ (.tmp 2) (.tmp 38) ?_ ?_ ?_ ?_ ?_); exact K5.out.1.bx 0 _ _ _ rfl; rfl; exact hM1.out.1; exact hM1.out.2; rfl; rfl; rfl; rfl; intro y9 h9; have K9 : Hid (Fm w [(w.heap.size, M, 34), (y1.heap.size, M, 34)] y9 ∧ MOk w l M y9) := ⟨K5.out.1.put 0 _ _ _ _ rfl h9.out, MOk.put K5.out.2 (K5.out.1.bx 0 _ _ _ rfl) h9.out.2.2⟩; clear h9))
  exact ret_cell2 rtBd rfl rfl rfl (K9.out.1.bx 0 _ _ _ rfl) hM1.out.1 rfl ⟨M, rfl, K9.out.1.low, K9.out.2⟩
theorem pload_any (w : World) (tb : Hid (Tbs w)) (sp : Option Addr) (cap : Nat) (l : List UInt8) (hl : Hid (LB w sp l)) (hn : l.length ≤ 4000000000) (hcap : l.length ≤ cap) : Calls Tryz.prog 11 #[.slice sp l.length cap] w (LdE w l) := by
  have hF := formB_whole l
  rcases hw : wholeB l with _ | _
  · have hfF : formB l = false := by
      rcases h : formB l with _ | _
      · rfl
      · rw [(hF.1 h).1] at hw; cases hw
    exact (pload_no w sp cap l hl hn hcap hw).mono fun e w' k => .inl ⟨hfF, k⟩
  · by_cases h8 : l.length = 583 + ramN l
    · have hf := hF.2 ⟨hw, h8⟩
      rcases hs : sumOk l with _ | _
      · exact (pload_sum w tb sp cap l hl hn hcap hw h8 hs).mono fun e w' k => .inr (.inl ⟨hf, hs, k⟩)
      · by_cases hc : chkB (bdOf l) = 0
        · exact (pload_ok w tb sp cap l hl hn hcap hw h8 hs hc).mono fun e w' k => .inr (.inr (.inr ⟨hf, hs, hc, k⟩))
        · exact (pload_chk w tb sp cap l hl hn hcap hw h8 hs hc).mono fun e w' k => .inr (.inr (.inl ⟨hf, hs, hc, k⟩))
    · have hfF : formB l = false := by
        rcases h : formB l with _ | _
        · rfl
        · exact absurd (hF.1 h).2 h8
      exact (pload_len w sp cap l hl hn hcap hw h8).mono fun e w' k => .inl ⟨hfF, k⟩
end Go.Proofs.YtehnhjdjjalifaaGreatDoor
