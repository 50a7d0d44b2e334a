/- The document's own: Load, what it refuses for its form. -/
import Derived.Test.YtehnhjdjjalifaaGreatDoorX8
import Derived.Test.YtehnhjdjjalifaaGreatDoorX7
namespace Go.Proofs.YtehnhjdjjalifaaGreatDoor
open Go Go.RowKit
set_option linter.unusedVariables false
set_option maxHeartbeats 8000000
set_option maxRecDepth 20000

def zBd : Array Value := #[.int .u16 0, .int .u16 0, .int .u16 0, .int .u16 0, .int .u16 0, .int .u16 0, .int .u16 0, .int .u16 0, .int .u16 0, .int .u16 0, .int .u16 0, .int .u16 0, .int .u16 0, .int .u16 0, .int .u16 0, .int .u16 0, .int .u8 0, .bool false, .int .u8 0, .int .u8 0, .int .u8 0, .bool false, .bool false, .int .u8 0, .int .u8 0, .int .u8 0, .int .i64 0, .int .i64 0, .bool false, .int .i64 0, .int .u8 0, .bool false, .slice none 0 0, .slice none 0 0, .int .u64 0]
theorem zBd_one : zBd.all (·.oneCell') = true := by kernel_rfl
theorem ret_cell2 {P : Program} {a : Act} {w : World} {t : TypeId} {n : Nat} {fn : Func} {R' : Ending → World → Prop} {p u : Tmp} {b : Nat} {cs : Array Value} {v : Value} (R : Rt P t n) (hr : fn.results = #[.cell p t, .tmp u]) (hp : a.tmps.getD p undef = .pointer (some ⟨b, 0, none⟩)) (hu : a.tmps.getD u undef = v) (h : Bx w b cs t) (hs : cs.size = n) (hd : a.defers = []) (hR : R' (.returned (.tuple #[.agg cs, v])) w) : bodyPost P fn R' .ret a w := by
  obtain ⟨d, hu9, hd'⟩ := R.u
  refine bodyPost_ret ?_ hd hR
  have hl := run_loadVar_row (P := P) w b t t cs (0, 0) d h hu9 (by cases d <;> first | rfl | exact hd') (by rw [hs]; exact R.i)
  have hp9 : a.tmps[p]?.getD undef = .pointer (some ⟨b, 0, none⟩) := by simpa using hp
  have hu9 : a.tmps[u]?.getD undef = v := by simpa using hu
  simp [results, hr, hp9, hu9, asAddr, hl, Result.andThen]
def flN : Nat → Nat
  | 0 => 37
  | 1 => 41
  | 2 => 42
  | 3 => 49
  | _ => 52
def flC : Array Value := #[.int .i64 37, .int .i64 41, .int .i64 42, .int .i64 49, .int .i64 52]
theorem flC_at (i : Nat) (h : i < 5) : flC[i]? = some (.int .i64 ((flN i : Nat) : Int)) := by
  have : i = 0 ∨ i = 1 ∨ i = 2 ∨ i = 3 ∨ i = 4 := by omega
  rcases this with rfl | rfl | rfl | rfl | rfl <;> rfl
theorem flags_any (w : World) : Calls Tryz.prog 27 #[] w fun e w' => e = .returned (.slice (some ⟨w.heap.size, 0, none⟩) 5 5) ∧ Hid (Bx w' w.heap.size flC 3 ∧ Below w.heap.size w w') := by
  have hA : Hid (Bx (w.alloc (.cells flC 3)) w.heap.size flC 3 ∧ Below w.heap.size w (w.alloc (.cells flC 3))) := ⟨one_bxL _ _ _, below1 w _⟩
  unfold flC at hA ⊢
  go_enter Tryz.func27, Tryz.ntmps27
  go_wp2
  go_ret
  exact ⟨rfl, hA⟩
theorem ramN_lt (l : List UInt8) : ramN l < 65536 := by
  have key : ∀ m : List UInt8, m.length ≤ 2 → getN m < 65536 := fun m hm => by
    match m, hm with
    | [], _ => decide
    | [a], _ => have := UInt8.toNat_lt a; simp [getN]; omega
    | [a, b], _ => have h1 := UInt8.toNat_lt a; have h2 := UInt8.toNat_lt b; simp [getN]; omega
  unfold ramN numB
  exact key _ (by rw [List.length_take]; omega)
theorem rload_form (w : World) (sp : Option Addr) (cap : Nat) (l : List UInt8) (hl : Hid (LB w sp l)) (hn : l.length ≤ 4000000000) (hf : formB l = false) :
    Calls Tryz.prog 12 #[.slice sp l.length cap] w fun e w' => e = .returned (.tuple #[.agg zBd, .int .i64 210]) ∧ Below w.heap.size w w' := by
  obtain ⟨n, hn'⟩ : ∃ n, l.length = n := ⟨_, rfl⟩
  have hnn : Hid (l.length = n) := hn'
  rw [hn'] at hn ⊢
  have ni : (n : Int) ≤ 4000000000 := by omega
  by_cases h63 : n < 63
  · have d63 : decide ((n : Int) < 63) = true := decide_eq_true (by omega)
    clear hf hn hn' h63
    go_enter Tryz.func12, Tryz.ntmps12
    go_wp2_with ((with_reducible refine gen_world (w.alloc (.cells #[.int .u16 0, .int .u16 0, .int .u16 0, .int .u16 0, .int .u16 0, .int .u16 0, .int .u16 0, .int .u16 0, .int .u16 0, .int .u16 0, .int .u16 0, .int .u16 0, .int .u16 0, .int .u16 0, .int .u16 0, .int .u16 0, .int .u8 0, .bool false, .int .u8 0, .int .u8 0, .int .u8 0, .bool false, .bool false, .int .u8 0, .int .u8 0, .int .u8 0, .int .i64 0, .int .i64 0, .bool false, .int .i64 0, .int .u8 0, .bool false, .slice none 0 0, .slice none 0 0, .int .u64 0] 34)) (Fm w [(w.heap.size, zBd, 34)]) ?_ ?_); exact Fm.one w _ _; intro y0 K0; refine stopAt ?_)
    refine Stop.go ?_
    go_wp2_with (first
      | ((with_reducible refine at_st rtBd w.heap.size zBd zBd ?_ ?_ ?_ ?_ (.tmp 2) (.tmp 37) ?_ ?_ ?_ ?_ ?_); exact K0.out.bx 0 _ _ _ rfl; rfl; rfl; exact zBd_one; rfl; rfl; rfl; rfl; intro y9 h9; have K9 : Hid (Fm w [(w.heap.size, zBd, 34)] y9) := K0.out.put 0 _ _ _ _ rfl h9.out; clear h9))
    exact ret_cell2 rtBd rfl rfl rfl (K9.out.bx 0 _ _ _ rfl) rfl rfl ⟨rfl, K9.out.low⟩
  have d63 : decide ((n : Int) < 63) = false := decide_eq_false (by omega)
  obtain ⟨g, o, rfl⟩ := lb_some hl.out (by omega)
  have cell : ∀ y, Below w.heap.size w y → ∀ j, j < n → y.cell? ⟨g, o + j, none⟩ = some (.int .u8 ((l.getD j 0).toNat : Int)) := fun y hy j hj => lb_at (hl.out.below hy) j (by rw [hn']; exact hj)
  have cell' : Hid (∀ y, Below w.heap.size w y → ∀ j, j < n → y.cell? ⟨g, o + j, none⟩ = some (.int .u8 ((l.getD j 0).toNat : Int))) := cell
  have h63' : Hid (63 ≤ n) := by show 63 ≤ n; omega
  have ix0 : ∀ v, (Instr.indexAt 31 (.slice (some ⟨g, o, none⟩) n cap) (.int .i64 0)).run Tryz.prog v = .ok (.pointer (some ⟨g, o, none⟩)) v := fun v => idxB .i64 g o n cap 0 v (by omega)
  have ix1 : ∀ v, (Instr.indexAt 31 (.slice (some ⟨g, o, none⟩) n cap) (.int .i64 1)).run Tryz.prog v = .ok (.pointer (some ⟨g, o + 1, none⟩)) v := fun v => idxB .i64 g o n cap 1 v (by omega)
  have ix2 : ∀ v, (Instr.indexAt 31 (.slice (some ⟨g, o, none⟩) n cap) (.int .i64 2)).run Tryz.prog v = .ok (.pointer (some ⟨g, o + 2, none⟩)) v := fun v => idxB .i64 g o n cap 2 v (by omega)
  have ix3 : ∀ v, (Instr.indexAt 31 (.slice (some ⟨g, o, none⟩) n cap) (.int .i64 3)).run Tryz.prog v = .ok (.pointer (some ⟨g, o + 3, none⟩)) v := fun v => idxB .i64 g o n cap 3 v (by omega)
  obtain ⟨b0, hb0⟩ : ∃ b, (l.getD 0 0).toNat = b := ⟨_, rfl⟩
  obtain ⟨b1, hb1⟩ : ∃ b, (l.getD 1 0).toNat = b := ⟨_, rfl⟩
  obtain ⟨b2, hb2⟩ : ∃ b, (l.getD 2 0).toNat = b := ⟨_, rfl⟩
  obtain ⟨b3, hb3⟩ : ∃ b, (l.getD 3 0).toNat = b := ⟨_, rfl⟩
  have hx : Hid (∀ y, Below w.heap.size w y → y.cell? ⟨g, o, none⟩ = some (.int .u8 (b0 : Int)) ∧ y.cell? ⟨g, o + 1, none⟩ = some (.int .u8 (b1 : Int)) ∧ y.cell? ⟨g, o + 2, none⟩ = some (.int .u8 (b2 : Int)) ∧ y.cell? ⟨g, o + 3, none⟩ = some (.int .u8 (b3 : Int))) := fun y hy => by
    rw [← hb0, ← hb1, ← hb2, ← hb3]
    exact ⟨cell y hy 0 (by omega), cell y hy 1 (by omega), cell y hy 2 (by omega), cell y hy 3 (by omega)⟩
  clear cell h63
  by_cases h0 : b0 = 86
  · have q0 : ((b0 : Int) != 86) = false := by rw [bne_eq_false_iff_eq]; omega
    by_cases h1 : b1 = 83
    · have q1 : ((b1 : Int) != 83) = false := by rw [bne_eq_false_iff_eq]; omega
      by_cases h2 : b2 = 80
      · have q2 : ((b2 : Int) != 80) = false := by rw [bne_eq_false_iff_eq]; omega
        by_cases h3 : b3 = 49
        · have q3 : ((b3 : Int) != 49) = false := by rw [bne_eq_false_iff_eq]; omega
          have hd : l.take 4 = [86, 83, 80, 49] := by
            apply List.ext_getElem?
            intro k
            rw [List.getElem?_take]
            by_cases hk : k < 4
            · rw [if_pos hk, List.getElem?_eq_getElem (by have := h63'.out; omega : k < l.length)]
              have key : ∀ (j c : Nat) (hj : j < l.length), (l.getD j 0).toNat = c → c < 256 → l[j] = UInt8.ofNat c := fun j c hj e hc => by
                rw [List.getD_eq_getElem?_getD, List.getElem?_eq_getElem hj] at e
                simp at e
                apply UInt8.toNat_inj.1
                rw [e, UInt8.toNat_ofNat']
                omega
              have : k = 0 ∨ k = 1 ∨ k = 2 ∨ k = 3 := by omega
              rcases this with rfl | rfl | rfl | rfl
              · rw [key 0 86 _ (by rw [hb0, h0]) (by decide)]; rfl
              · rw [key 1 83 _ (by rw [hb1, h1]) (by decide)]; rfl
              · rw [key 2 80 _ (by rw [hb2, h2]) (by decide)]; rfl
              · rw [key 3 49 _ (by rw [hb3, h3]) (by decide)]; rfl
            · rw [if_neg hk]
              symm
              rw [List.getElem?_eq_none_iff]
              simp
              omega
          obtain ⟨RN, hRN⟩ : ∃ r, ramN l = r := ⟨_, rfl⟩
          have hG : Hid (∀ y, Below w.heap.size w y → Calls Tryz.prog 26 #[.slice (some ⟨g, o, none⟩) n cap, .int .i64 61, .int .i64 2] y fun e w' => e = .returned (.int .u64 (RN : Int)) ∧ Below y.heap.size y w') := fun y hy => by
            have := rget_any y (some ⟨g, o, none⟩) n cap l (hl.out.below hy) hnn (by omega) 61 2 (by decide) (by have := h63'.out; omega)
            rw [← hRN]
            exact this
          have hR6 : RN < 65536 := by rw [← hRN]; exact ramN_lt l
          have iR : (RN : Int) < 65536 := by omega
          have hfl : Hid (l.length = 583 + RN → ∃ i, i < 5 ∧ 1 < (l.getD (flN i) 0).toNat) := fun e => by
            apply Classical.byContradiction
            intro hno
            have hall : ∀ k ∈ [37, 41, 42, 49, 52], Nat.ble (byteB l k).toNat 1 = true := fun k hk => by
              rw [Nat.ble_eq]
              apply Classical.byContradiction
              intro hgt
              simp at hk
              rcases hk with rfl | rfl | rfl | rfl | rfl
              · exact hno ⟨0, by decide, by unfold byteB at hgt; show 1 < (l.getD 37 0).toNat; omega⟩
              · exact hno ⟨1, by decide, by unfold byteB at hgt; show 1 < (l.getD 41 0).toNat; omega⟩
              · exact hno ⟨2, by decide, by unfold byteB at hgt; show 1 < (l.getD 42 0).toNat; omega⟩
              · exact hno ⟨3, by decide, by unfold byteB at hgt; show 1 < (l.getD 49 0).toNat; omega⟩
              · exact hno ⟨4, by decide, by unfold byteB at hgt; show 1 < (l.getD 52 0).toNat; omega⟩
            have : formB l = true := by
              unfold formB
              rw [hd, hRN, e, List.all_eq_true.2 hall]
              simp
              omega
            rw [this] at hf
            cases hf
          have w1 : IntKind.i64.wrap (63 + (RN : Int)) = 63 + (RN : Int) := by rw [IntKind.wrap_i64]; omega
          have w2 : IntKind.i64.wrap (63 + (RN : Int) + 520) = 63 + (RN : Int) + 520 := by rw [IntKind.wrap_i64]; omega
          by_cases hlen : n = 583 + RN
          · have ql : ((n : Int) != 63 + (RN : Int) + 520) = false := by rw [bne_eq_false_iff_eq]; omega
            have hfl2 : Hid (∃ i, i < 5 ∧ 1 < (l.getD (flN i) 0).toNat) := hfl.out (by rw [hn']; exact hlen)
            clear hf hn hn' h0 h1 h2 h3 hb0 hb1 hb2 hb3 hd hRN hR6 hfl hlen
            go_enter Tryz.func12, Tryz.ntmps12
            go_wp2_with (first
              | ((with_reducible refine gen_world (w.alloc (.cells #[.int .u16 0, .int .u16 0, .int .u16 0, .int .u16 0, .int .u16 0, .int .u16 0, .int .u16 0, .int .u16 0, .int .u16 0, .int .u16 0, .int .u16 0, .int .u16 0, .int .u16 0, .int .u16 0, .int .u16 0, .int .u16 0, .int .u8 0, .bool false, .int .u8 0, .int .u8 0, .int .u8 0, .bool false, .bool false, .int .u8 0, .int .u8 0, .int .u8 0, .int .i64 0, .int .i64 0, .bool false, .int .i64 0, .int .u8 0, .bool false, .slice none 0 0, .slice none 0 0, .int .u64 0] 34)) (Fm w [(w.heap.size, zBd, 34)]) ?_ ?_); exact Fm.one w _ _; intro y0 K0; obtain ⟨p0, p1, p2, p3⟩ := hx.out _ K0.out.low)
              | (go_at_call 26; refine (hG.out _ K0.out.low).mono ?_; rintro e y1 ⟨rfl, H1⟩; have K1 : Hid (Fm w [(w.heap.size, zBd, 34)] y1) := K0.out.below H1; clear H1 hG)
              | (go_at_call 27; refine (flags_any y1).mono ?_; rintro e y2 ⟨rfl, H2⟩; have K2 : Hid (Fm w [(w.heap.size, zBd, 34)] y2 ∧ Bx y2 y1.heap.size flC 3) := ⟨K1.out.below H2.out.2, H2.out.1⟩; clear H2))
            generalize y1.heap.size = gf at K2 ⊢
            go_loopw [6] (fun t wz => ∃ (i : Nat), y2 = wz ∧ t = .int .i64 (i : Int) ∧ Hid (i ≤ 5 ∧ ∀ j, j < i → (l.getD (flN j) 0).toNat ≤ 1)) (fun t _ => (5 - intOf t).toNat)
            case atStart => exact ⟨0, rfl, rfl, Nat.zero_le _, fun j hj => absurd hj (Nat.not_lt_zero _)⟩
            case round =>
              obtain ⟨i, rfl, rfl, J⟩ := hrel
              by_cases hlt : i < 5
              · have cf := K2.out.2.c i _ (flC_at i hlt)
                have hfi : flN i < 63 := by
                  have : i = 0 ∨ i = 1 ∨ i = 2 ∨ i = 3 ∨ i = 4 := by omega
                  rcases this with rfl | rfl | rfl | rfl | rfl <;> decide
                have hfn : flN i < n := by have := h63'.out; omega
                have cb := cell'.out _ K2.out.1.low (flN i) hfn
                have jf : ∀ v, (Instr.indexAt 45 (.slice (some ⟨gf, 0, none⟩) 5 5) (.int .i64 (i : Int))).run Tryz.prog v = .ok (.pointer (some ⟨gf, i, none⟩)) v := fun v => by
                  have := idxP (P := Tryz.prog) (g := gf) (off := 0) (len := 5) (cap := 5) Tryz.underlying45 (s := 1) (by kernel_rfl) .i64 i v hlt
                  rw [Nat.mul_one, Nat.zero_add] at this
                  exact this
                have jb := fun v => idxB .i64 g o n cap (flN i) v hfn
                have hii : (i : Int) < 5 := by omega
                have hlt' : Hid (i < 5) := hlt
                by_cases hv : 1 < (l.getD (flN i) 0).toNat
                · have dv : decide ((1 : Int) < ((l.getD (flN i) 0).toNat : Int)) = true := decide_eq_true (by omega)
                  generalize ((l.getD (flN i) 0).toNat : Int) = v at cb dv
                  generalize flN i = fi at cf cb jb hfi hfn
                  clear hlt hv J hfi hfn
                  go_wp2_with (first
                    | ((with_reducible refine at_st rtBd w.heap.size zBd zBd ?_ ?_ ?_ ?_ (.tmp 2) (.tmp 63) ?_ ?_ ?_ ?_ ?_); exact K2.out.1.bx 0 _ _ _ rfl; rfl; rfl; exact zBd_one; rfl; rfl; rfl; rfl; intro y9 h9; have K9 : Hid (Fm w [(w.heap.size, zBd, 34)] y9) := K2.out.1.put 0 _ _ _ _ rfl h9.out; clear h9))
                  exact ret_cell2 rtBd rfl rfl rfl (K9.out.bx 0 _ _ _ rfl) rfl rfl ⟨rfl, K9.out.low⟩
                · have dv : decide ((1 : Int) < ((l.getD (flN i) 0).toNat : Int)) = false := decide_eq_false (by omega)
                  have J9 : Hid (i + 1 ≤ 5 ∧ ∀ j, j < i + 1 → (l.getD (flN j) 0).toNat ≤ 1) := ⟨hlt, fun j hj => by
                    by_cases e : j = i
                    · rw [e]; omega
                    · exact J.out.2 j (by omega)⟩
                  generalize ((l.getD (flN i) 0).toNat : Int) = v at cb dv
                  generalize flN i = fi at cf cb jb hfi hfn
                  clear hlt hv J hfi hfn
                  go_wp2
                  go_roundw
                  case rel => exact ⟨i + 1, by simp, by simp, J9⟩
                  case measure => have := hlt'.out; simp [intOf]; omega
              · exfalso
                obtain ⟨k, hk, hv⟩ := hfl2.out
                have := J.out.2 k (by have := J.out.1; omega)
                omega
          · have ql : ((n : Int) != 63 + (RN : Int) + 520) = true := by rw [bne_iff_ne]; omega
            clear hf hn hn' h0 h1 h2 h3 hb0 hb1 hb2 hb3 hd hRN hR6 hfl hlen
            go_enter Tryz.func12, Tryz.ntmps12
            go_wp2_with (first
              | ((with_reducible refine gen_world (w.alloc (.cells #[.int .u16 0, .int .u16 0, .int .u16 0, .int .u16 0, .int .u16 0, .int .u16 0, .int .u16 0, .int .u16 0, .int .u16 0, .int .u16 0, .int .u16 0, .int .u16 0, .int .u16 0, .int .u16 0, .int .u16 0, .int .u16 0, .int .u8 0, .bool false, .int .u8 0, .int .u8 0, .int .u8 0, .bool false, .bool false, .int .u8 0, .int .u8 0, .int .u8 0, .int .i64 0, .int .i64 0, .bool false, .int .i64 0, .int .u8 0, .bool false, .slice none 0 0, .slice none 0 0, .int .u64 0] 34)) (Fm w [(w.heap.size, zBd, 34)]) ?_ ?_); exact Fm.one w _ _; intro y0 K0; obtain ⟨p0, p1, p2, p3⟩ := hx.out _ K0.out.low)
              | (go_at_call 26; refine (hG.out _ K0.out.low).mono ?_; rintro e y1 ⟨rfl, H1⟩; have K1 : Hid (Fm w [(w.heap.size, zBd, 34)] y1) := K0.out.below H1; clear H1 hG; refine stopAt ?_))
            refine Stop.go ?_
            go_wp2_with (first
              | ((with_reducible refine at_st rtBd w.heap.size zBd zBd ?_ ?_ ?_ ?_ (.tmp 2) (.tmp 47) ?_ ?_ ?_ ?_ ?_); exact K1.out.bx 0 _ _ _ rfl; rfl; rfl; exact zBd_one; rfl; rfl; rfl; rfl; intro y9 h9; have K9 : Hid (Fm w [(w.heap.size, zBd, 34)] y9) := K1.out.put 0 _ _ _ _ rfl h9.out; clear h9))
            exact ret_cell2 rtBd rfl rfl rfl (K9.out.bx 0 _ _ _ rfl) rfl rfl ⟨rfl, K9.out.low⟩
        · have q3 : ((b3 : Int) != 49) = true := by rw [bne_iff_ne]; omega
          clear hf hn hn' h3 h0 h1 h2 hb0 hb1 hb2 hb3
          go_enter Tryz.func12, Tryz.ntmps12
          go_wp2_with ((with_reducible refine gen_world (w.alloc (.cells #[.int .u16 0, .int .u16 0, .int .u16 0, .int .u16 0, .int .u16 0, .int .u16 0, .int .u16 0, .int .u16 0, .int .u16 0, .int .u16 0, .int .u16 0, .int .u16 0, .int .u16 0, .int .u16 0, .int .u16 0, .int .u16 0, .int .u8 0, .bool false, .int .u8 0, .int .u8 0, .int .u8 0, .bool false, .bool false, .int .u8 0, .int .u8 0, .int .u8 0, .int .i64 0, .int .i64 0, .bool false, .int .i64 0, .int .u8 0, .bool false, .slice none 0 0, .slice none 0 0, .int .u64 0] 34)) (Fm w [(w.heap.size, zBd, 34)]) ?_ ?_); exact Fm.one w _ _; intro y0 K0; obtain ⟨p0, p1, p2, p3⟩ := hx.out _ K0.out.low; refine stopAt ?_)
          refine Stop.go ?_
          go_wp2_with (first
            | ((with_reducible refine at_st rtBd w.heap.size zBd zBd ?_ ?_ ?_ ?_ (.tmp 2) (.tmp 37) ?_ ?_ ?_ ?_ ?_); exact K0.out.bx 0 _ _ _ rfl; rfl; rfl; exact zBd_one; rfl; rfl; rfl; rfl; intro y9 h9; have K9 : Hid (Fm w [(w.heap.size, zBd, 34)] y9) := K0.out.put 0 _ _ _ _ rfl h9.out; clear h9))
          exact ret_cell2 rtBd rfl rfl rfl (K9.out.bx 0 _ _ _ rfl) rfl rfl ⟨rfl, K9.out.low⟩
      · have q2 : ((b2 : Int) != 80) = true := by rw [bne_iff_ne]; omega
        clear hf hn hn' h2 h0 h1 hb0 hb1 hb2 hb3
        go_enter Tryz.func12, Tryz.ntmps12
        go_wp2_with ((with_reducible refine gen_world (w.alloc (.cells #[.int .u16 0, .int .u16 0, .int .u16 0, .int .u16 0, .int .u16 0, .int .u16 0, .int .u16 0, .int .u16 0, .int .u16 0, .int .u16 0, .int .u16 0, .int .u16 0, .int .u16 0, .int .u16 0, .int .u16 0, .int .u16 0, .int .u8 0, .bool false, .int .u8 0, .int .u8 0, .int .u8 0, .bool false, .bool false, .int .u8 0, .int .u8 0, .int .u8 0, .int .i64 0, .int .i64 0, .bool false, .int .i64 0, .int .u8 0, .bool false, .slice none 0 0, .slice none 0 0, .int .u64 0] 34)) (Fm w [(w.heap.size, zBd, 34)]) ?_ ?_); exact Fm.one w _ _; intro y0 K0; obtain ⟨p0, p1, p2, p3⟩ := hx.out _ K0.out.low; refine stopAt ?_)
        refine Stop.go ?_
        go_wp2_with (first
          | ((with_reducible refine at_st rtBd w.heap.size zBd zBd ?_ ?_ ?_ ?_ (.tmp 2) (.tmp 37) ?_ ?_ ?_ ?_ ?_); exact K0.out.bx 0 _ _ _ rfl; rfl; rfl; exact zBd_one; rfl; rfl; rfl; rfl; intro y9 h9; have K9 : Hid (Fm w [(w.heap.size, zBd, 34)] y9) := K0.out.put 0 _ _ _ _ rfl h9.out; clear h9))
        exact ret_cell2 rtBd rfl rfl rfl (K9.out.bx 0 _ _ _ rfl) rfl rfl ⟨rfl, K9.out.low⟩
    · have q1 : ((b1 : Int) != 83) = true := by rw [bne_iff_ne]; omega
      clear hf hn hn' h1 h0 hb0 hb1 hb2 hb3
      go_enter Tryz.func12, Tryz.ntmps12
      go_wp2_with ((with_reducible refine gen_world (w.alloc (.cells #[.int .u16 0, .int .u16 0, .int .u16 0, .int .u16 0, .int .u16 0, .int .u16 0, .int .u16 0, .int .u16 0, .int .u16 0, .int .u16 0, .int .u16 0, .int .u16 0, .int .u16 0, .int .u16 0, .int .u16 0, .int .u16 0, .int .u8 0, .bool false, .int .u8 0, .int .u8 0, .int .u8 0, .bool false, .bool false, .int .u8 0, .int .u8 0, .int .u8 0, .int .i64 0, .int .i64 0, .bool false, .int .i64 0, .int .u8 0, .bool false, .slice none 0 0, .slice none 0 0, .int .u64 0] 34)) (Fm w [(w.heap.size, zBd, 34)]) ?_ ?_); exact Fm.one w _ _; intro y0 K0; obtain ⟨p0, p1, p2, p3⟩ := hx.out _ K0.out.low; refine stopAt ?_)
      refine Stop.go ?_
      go_wp2_with (first
        | ((with_reducible refine at_st rtBd w.heap.size zBd zBd ?_ ?_ ?_ ?_ (.tmp 2) (.tmp 37) ?_ ?_ ?_ ?_ ?_); exact K0.out.bx 0 _ _ _ rfl; rfl; rfl; exact zBd_one; rfl; rfl; rfl; rfl; intro y9 h9; have K9 : Hid (Fm w [(w.heap.size, zBd, 34)] y9) := K0.out.put 0 _ _ _ _ rfl h9.out; clear h9))
      exact ret_cell2 rtBd rfl rfl rfl (K9.out.bx 0 _ _ _ rfl) rfl rfl ⟨rfl, K9.out.low⟩
  · have q0 : ((b0 : Int) != 86) = true := by rw [bne_iff_ne]; omega
    clear hf hn hn' h0  hb0 hb1 hb2 hb3
    go_enter Tryz.func12, Tryz.ntmps12
    go_wp2_with ((with_reducible refine gen_world (w.alloc (.cells #[.int .u16 0, .int .u16 0, .int .u16 0, .int .u16 0, .int .u16 0, .int .u16 0, .int .u16 0, .int .u16 0, .int .u16 0, .int .u16 0, .int .u16 0, .int .u16 0, .int .u16 0, .int .u16 0, .int .u16 0, .int .u16 0, .int .u8 0, .bool false, .int .u8 0, .int .u8 0, .int .u8 0, .bool false, .bool false, .int .u8 0, .int .u8 0, .int .u8 0, .int .i64 0, .int .i64 0, .bool false, .int .i64 0, .int .u8 0, .bool false, .slice none 0 0, .slice none 0 0, .int .u64 0] 34)) (Fm w [(w.heap.size, zBd, 34)]) ?_ ?_); exact Fm.one w _ _; intro y0 K0; obtain ⟨p0, p1, p2, p3⟩ := hx.out _ K0.out.low; refine stopAt ?_)
    refine Stop.go ?_
    go_wp2_with (first
      | ((with_reducible refine at_st rtBd w.heap.size zBd zBd ?_ ?_ ?_ ?_ (.tmp 2) (.tmp 37) ?_ ?_ ?_ ?_ ?_); exact K0.out.bx 0 _ _ _ rfl; rfl; rfl; exact zBd_one; rfl; rfl; rfl; rfl; intro y9 h9; have K9 : Hid (Fm w [(w.heap.size, zBd, 34)] y9) := K0.out.put 0 _ _ _ _ rfl h9.out; clear h9))
    exact ret_cell2 rtBd rfl rfl rfl (K9.out.bx 0 _ _ _ rfl) rfl rfl ⟨rfl, K9.out.low⟩
end Go.Proofs.YtehnhjdjjalifaaGreatDoor
