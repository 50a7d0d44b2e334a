/- vesperlaw03.StoreKeeps, walked. -/
import Derived.Test.YthjpghnmnbhaiaaKeep
namespace Go.Proofs.Ythjpghnmnbhaiaa
open Go Go.RowKit
set_option linter.unusedVariables false
set_option maxHeartbeats 1000000
set_option maxRecDepth 20000

/-- A row that can be copied into a place. -/
def SrcW (x : World) (p : Option Addr) (G off : Nat) (q : Option Addr) (R : List Value) : Prop := 0 < R.length → p = some ⟨G, off, none⟩ ∧ ∃ ad, q = some ad ∧ ∀ j v, R[j]? = some v → x.cell? (ad.add j) = some v
theorem Lies.heap {x y : World} {sp : Option Addr} {len : Nat} {Y : Nat → Int} (h : Lies x sp len Y) (e : y.heap = x.heap) : Lies y sp len Y := fun j hj => by
  obtain ⟨gb, ob, h1, h2⟩ := h j hj
  refine ⟨gb, ob, h1, ?_⟩
  unfold World.cell? at h2 ⊢
  rw [e]
  exact h2

theorem read_rom (S : St) (a : Nat) (h1 : 32768 ≤ a) (h2 : a < 33280) : S.read a = S.rom (a - 32768) := by unfold St.read; rw [if_neg (by omega), if_pos h1]
theorem read_out (S : St) (a : Nat) (h1 : 33280 ≤ a) : S.read a = 255 := by unfold St.read; rw [if_pos h1]

theorem keeps_good (w : World) (n : Nat) (h1 : 2048 ≤ n) (h2 : n ≤ 32768) (h3 : n % 2048 = 0) (a : Option Addr) (len cap : Nat) (h : Script w a len cap) :
    Calls Try.prog 6 #[.int .i64 (n : Int), .slice a len cap] w fun e w' => e = .returned (.bool true) ∧ Below w.heap.size w w' := by
  have hv := vast_any w none 0 0 (Nat.zero_le _) a len cap h
  have K : Hid (Below w.heap.size w w) := Below.refl _ _
  have hn : Hid (2048 ≤ n ∧ n ≤ 32768 ∧ n % 2048 = 0) := ⟨h1, h2, h3⟩
  have okS : Hid (St.ok { St.fresh n true with rom := romY }) := St.fresh_ok h1 h2 h3 romY_ok
  have hmk : ∀ v, (Instr.makeSlice 23 (.int .i64 (n : Int)) (.int .i64 (n : Int))).run Try.prog v = .ok (.slice (some ⟨v.heap.size, 0, none⟩) n n) (v.alloc (.cells (madeCells #[.int .u8 0] n) 5)) := fun v => run_make_row' (P := Try.prog) 23 5 (.int .u8 0) 1 Try.underlying23 infoB rfl .i64 .i64 n (by omega) (by omega) v
  have hmb : Hid (∀ v : World, Blk (v.alloc (.cells (madeCells #[.int .u8 0] n) 5)) v.heap.size n (fun _ => 0)) := fun v => made_blk v n
  obtain ⟨M, hM⟩ : ∃ M, madeCells #[Value.int .u8 0] n = M := ⟨_, rfl⟩
  rw [hM] at hmk hmb
  have hS : Hid (Script w a len cap) := h
  clear hM h h1 h2 h3
  go_enter Try.func6, Try.ntmps6
  go_wp2_with (first
    | (go_at_call 9; refine hv.mono ?_; rintro e x ⟨b, rfl, hw, hvb⟩; replace hw := hw.symm; subst hw; have hvb' : Hid _ := hvb; clear hvb)
    | (go_at_call 24; refine (rom_low w _ K).mono ?_; rintro e x ⟨b0, rfl, K0⟩; replace K0 : Hid (Lies x (some ⟨b0, 0, none⟩) 512 romY ∧ Below w.heap.size w x) := ⟨K0.out.1.lies, K0.out.2⟩)
    | (go_at_call 11; refine (new_low w _ 0 n hn.out.1 hn.out.2.1 hn.out.2.2 romY _ _ K0).mono ?_; rintro e x ⟨g, rfl, K1⟩)
    | (go_at_call 8; refine (std_awake w _ g _ K1).mono ?_; rintro e x ⟨rfl, K2⟩))
  · go_ret
    exact ⟨rfl, K.out⟩
  have hbf : b = false := by assumption
  have hM : Hid (len ≤ 2147483647 ∧ Mild w a len) := ⟨by have := (hvb'.out hbf).2.1; omega, (hvb'.out hbf).2.2⟩
  have hl : (len : Int) ≤ 2147483647 := (hvb'.out hbf).2.1
  clear hvb' hv
  have K3 : Hid (Kp w (x.alloc (.cells M 5)) g x.heap.size { St.fresh n true with rom := romY } { St.fresh n true with rom := romY }) := by
    have k := K2.out.below ((Below.refl _ _).alloc (Nat.le_refl _) (.cells M 5))
    exact ⟨k.1, okS.out, hmb.out x, fun _ _ => rfl, k.2.1, k.2.2, K2.out.2.1.size⟩
  obtain ⟨y, hy⟩ : ∃ y, x.alloc (.cells M 5) = y := ⟨_, rfl⟩
  obtain ⟨wb, hwb⟩ : ∃ y, x.heap.size = y := ⟨_, rfl⟩
  rw [hy, hwb] at K3
  rw [hy, hwb]
  obtain ⟨S0, hS0⟩ : ∃ S, Hid (S = ({ St.fresh n true with rom := romY } : St)) := ⟨_, (rfl : _ = _)⟩
  rw [← hS0.out] at K3
  have o0 : Hid (S0.on = true ∧ S0.n = n) := by rw [hS0.out]; exact ⟨rfl, rfl⟩
  clear K0 K1 K2 hmk hmb hy hwb hS0 okS K
  go_loopw [8, 9] (fun o i wz => ∃ (k : Nat) (S : St) (on : Bool) (wx : World), wx = wz ∧ k ≤ len ∧ i = .int .i64 (k : Int) ∧ o = .bool on ∧ Hid (S.on = on ∧ S.n = n) ∧ Hid (Kp w wx g wb S S)) (fun _ i _ => (len - intOf i).toNat)
  case atStart => exact ⟨0, S0, true, _, rfl, by omega, rfl, rfl, o0, K3⟩
  case round =>
    clear K3 o0
    obtain ⟨k, S, on, wx, rfl, hk, rfl, rfl, hSn, HX⟩ := hrel
    by_cases hlt : k < len
    · obtain ⟨ga, off, rfl, hg, hops⟩ := hS.out.2 (by omega)
      obtain ⟨o, ho, hc⟩ := hops k hlt
      obtain ⟨p, hp⟩ : ∃ p, off + k * 7 = p := ⟨_, rfl⟩
      rw [hp] at hc
      have ij : ∀ v, (Instr.indexAt 24 (.slice (some ⟨ga, off, none⟩) len cap) (.int .i64 (k : Int))).run Try.prog v = .ok (.pointer (some ⟨ga, p, none⟩)) v := fun v => by
        have := idxS (g := ga) (off := off) (len := len) (cap := cap) Try.underlying24 (s := 7) (by kernel_rfl) .i64 k v hlt
        rw [hp] at this
        exact this
      have at' : ∀ i v, o.cells[i]? = some v → wx.cell? ⟨ga, p + i, none⟩ = some v := fun i v hv => (HX.out.low.cell (p := ⟨ga, p + i, none⟩) hg).trans (hc i v hv)
      obtain ⟨kk, ot, pa, ad, bb, oo, sp, bl, bc, Y⟩ := o
      have hok : Hid (ActD.ok w ⟨kk, ot, pa, ad, bb, oo, sp, bl, bc, Y⟩) := ho
      have c0 : wx.cell? ⟨ga, p, none⟩ = some (.int .i64 kk) := at' 0 _ rfl
      have c1 : wx.cell? ⟨ga, p + 1, none⟩ = some (.bool ot) := at' 1 _ rfl
      have c2 : wx.cell? ⟨ga, p + 2, none⟩ = some (.int .i64 pa) := at' 2 _ rfl
      have c3 : wx.cell? ⟨ga, p + 3, none⟩ = some (.int .u16 (ad : Int)) := at' 3 _ rfl
      have c4 : wx.cell? ⟨ga, p + 4, none⟩ = some (.int .u8 bb) := at' 4 _ rfl
      have c5 : wx.cell? ⟨ga, p + 5, none⟩ = some (.bool oo) := at' 5 _ rfl
      have c6 : wx.cell? ⟨ga, p + 6, none⟩ = some (.slice sp bl bc) := at' 6 _ rfl
      have hpq : Hid (off + k * 7 = p) := hp
      clear at' hc hops ho hp
      have HY : Hid (Kp w (wx.alloc (.cells #[.int .i64 kk, .bool ot, .int .i64 pa, .int .u16 (ad : Int), .int .u8 bb, .bool oo, .slice sp bl bc] 39)) g wb S S) := HX.out.below ((Below.refl _ _).alloc (Nat.le_refl _) _)
      have hlt' : Hid (∀ k, k = g → k < wx.heap.size) := HX.out.lt
      have hns : Hid (n ≤ 32768) := hn.out.2.1
      have LY : Hid (Row w sp bl Y) := hok.out.row
      have hfin : Hid (k < len) := hlt
      have hkl : (k : Int) < len := by omega
      have hbl : (bl : Int) ≤ 2147483647 := by
        have := hM.out.2 k hlt ga off rfl sp bl bc (by rw [hpq.out]; exact (HX.out.low.cell (p := ⟨ga, p + 6, none⟩) hg).symm.trans c6)
        omega
      clear HX hlt hk
      by_cases k1 : kk = 1
      · subst k1
        by_cases f1 : pa < 0
        · have e1 : layE S.n pa bl = 32 := if_neg (by omega)
          have e2 : S.layd pa bl Y = S := if_neg (by omega)
          have f1' : decide (0 ≤ pa) = false := by simp; omega
          clear f1
          go_wp2_with (go_at_call 25; refine (k_lay w _ g wb S S HY pa hok.out.at1 hok.out.at2 sp bl bc hok.out.len Y (LY.out.at HY.out.low) LY.out.ok).mono ?_; rintro e x1 ⟨rfl, K1⟩; rw [e1]; rw [e2] at K1)
          go_roundw
          case rel => exact ⟨k + 1, S, on, _, rfl, by have := hfin.out; omega, by simp, rfl, hSn, K1.out.1⟩
          case measure => have := hfin.out; simp [intOf]; omega
        have f1' : 0 ≤ pa := by omega
        by_cases f2 : (n : Int) < pa
        · have e1 : layE S.n pa bl = 32 := if_neg (by rw [hSn.out.2]; omega)
          have e2 : S.layd pa bl Y = S := if_neg (by rw [hSn.out.2]; omega)
          have f2' : decide (pa ≤ (n : Int)) = false := by simp; omega
          clear f1 f2
          go_wp2_with (go_at_call 25; refine (k_lay w _ g wb S S HY pa hok.out.at1 hok.out.at2 sp bl bc hok.out.len Y (LY.out.at HY.out.low) LY.out.ok).mono ?_; rintro e x1 ⟨rfl, K1⟩; rw [e1]; rw [e2] at K1)
          go_roundw
          case rel => exact ⟨k + 1, S, on, _, rfl, by have := hfin.out; omega, by simp, rfl, hSn, K1.out.1⟩
          case measure => have := hfin.out; simp [intOf]; omega
        have f2' : pa ≤ (n : Int) := by omega
        by_cases f3 : (n : Int) - pa < bl
        · have e1 : layE S.n pa bl = 32 := if_neg (by rw [hSn.out.2]; omega)
          have e2 : S.layd pa bl Y = S := if_neg (by rw [hSn.out.2]; omega)
          have hn32 : (n : Int) ≤ 32768 := by have := hns.out; omega
          clear f1 f2
          go_wp2_with (go_at_call 25; refine (k_lay w _ g wb S S HY pa hok.out.at1 hok.out.at2 sp bl bc hok.out.len Y (LY.out.at HY.out.low) LY.out.ok).mono ?_; rintro e x1 ⟨rfl, K1⟩; rw [e1]; rw [e2] at K1)
          go_roundw
          case rel => exact ⟨k + 1, S, on, _, rfl, by have := hfin.out; omega, by simp, rfl, hSn, K1.out.1⟩
          case measure => have := hfin.out; simp [intOf]; omega
        · obtain ⟨q, rfl⟩ := Int.eq_ofNat_of_zero_le f1'
          have f3' : (bl : Int) ≤ (n : Int) - q := by omega
          have hq : Hid (q + bl ≤ n) := (by omega : q + bl ≤ n)
          have e1 : layE S.n (q : Int) bl = 0 := if_pos (by rw [hSn.out.2]; omega)
          have e2 : S.layd (q : Int) bl Y = S.lay q bl Y := if_pos (by rw [hSn.out.2]; omega)
          have hn32 : (n : Int) ≤ 32768 := by have := hns.out; omega
          have cut := cutAt wb q n n (by have := hq.out; omega) (Nat.le_refl _)
          clear f1 f2 f3 f1'
          go_wp2_with (go_at_call 25; refine (k_lay w _ g wb S S HY q hok.out.at1 hok.out.at2 sp bl bc hok.out.len Y (LY.out.at HY.out.low) LY.out.ok).mono ?_; rintro e x1 ⟨rfl, K1⟩; rw [e1]; rw [e2] at K1; have d2 : x1.cell? ⟨wx.heap.size, 2, none⟩ = some (.int .i64 (q : Int)) := box_keep hlt'.out K1.out.2 2 _ rfl; have d6 : x1.cell? ⟨wx.heap.size, 6, none⟩ = some (.slice sp bl bc) := box_keep hlt'.out K1.out.2 6 _ rfl)
          obtain ⟨cur, hC1, hC2, hC3⟩ := K1.out.1.want
          have F1 : Hid (∀ x : World, x.heap = x1.heap → x.heap[wb]? = some (.cells cur.toList.toArray 5 (0, 0))) := fun x hx => by rw [hx, Array.toArray_toList]; exact hC1
          have F2 : Hid ((rowOf bl Y).length = Nat.min bl (n - q)) := by rw [rowOf_len]; have := hq.out; show bl = min bl (n - q); omega
          have F3 : Hid (∀ x : World, x.heap = x1.heap → SrcW x (some (cutAd wb q n)) wb q sp (rowOf bl Y)) := fun x hx hp => by
            rw [rowOf_len] at hp
            have hli : Lies x sp bl Y := (LY.out.at K1.out.1.low).heap hx
            obtain ⟨ad', e, hc⟩ := hli.src (Nat.le_refl _) hp
            refine ⟨?_, ad', e, hc⟩
            unfold cutAd
            rw [if_neg (by have := hq.out; omega)]
          have F4 : Hid (q + (rowOf bl Y).length ≤ cur.toList.length) := by
            show q + (rowOf bl Y).length ≤ cur.toList.length
            rw [rowOf_len, Array.length_toList, hC2]
            show q + bl ≤ S.n
            rw [hSn.out.2]
            exact hq.out
          have F5 : Hid (∀ v ∈ rowOf bl Y, v.oneCell' = true) := rowOf_one _ _
          have hC2' : Hid (cur.size = n ∧ ∀ j, j < n → cur[j]? = some (.int .u8 (S.ram j))) := by
            have e : (S.lay q bl Y).n = n := hSn.out.2
            rw [e] at hC2 hC3
            exact ⟨hC2, hC3⟩
          have F6 : Hid (∀ y, y.heap[wb]? = some (.cells (splice cur.toList q (rowOf bl Y)).toArray 5 (0, 0)) → Blk y wb n (S.lay q bl Y).ram) := fun y hy => Blk.lay (x := x1) hC2'.out.1 hC2'.out.2 hy hq.out
          obtain ⟨R, hR⟩ : ∃ R, rowOf bl Y = R := ⟨_, rfl⟩
          rw [hR] at F2 F3 F4 F5 F6
          clear hC1 hC2 hC3 hC2' hR
          go_region_law (refine step_copy_upd rfl (.tmp 82) (.tmp 84) 23 23 rfl 5 Try.underlying23 (by kernel_rfl) (some (cutAd wb q n)) sp (n - q) (n - q) bl bc (by rfl) (by rfl) wb q cur.toList 5 (F1.out x1.drew rfl) R F2.out (F3.out x1.drew rfl) F4.out F5.out ?_
                         intro x2 hw2)
          all_goals
            have fin : Hid (Kp w x2 g wb (S.lay q bl Y) (S.lay q bl Y)) := by
              have u : Upd (· = wb) x1 x2 := ⟨hw2.out.2.os, hw2.out.2.tape, hw2.out.2.output, hw2.out.2.size, hw2.out.2.block⟩
              refine K1.out.1.right ?_ u
              have e : (S.lay q bl Y).n = n := hSn.out.2
              rw [e]
              exact F6.out x2 hw2.out.1
            clear hw2 F1 F2 F3 F4 F5 F6 K1 cut d2 d6
            go_wp2
            go_roundw
            case rel => exact ⟨k + 1, S.lay q bl Y, on, _, rfl, by have := hfin.out; omega, by simp, rfl, hSn, fin⟩
            case measure => have := hfin.out; simp [intOf]; omega
      have b1 : (kk == 1) = false := by simpa using k1
      clear k1
      by_cases k3 : kk = 3
      · subst k3
        have hW : wrap64 (ad : Int) = (ad : Int) := by have : ad < 65536 := hok.out.a; unfold wrap64; omega
        cases on with
        | true =>
          have e2 : S.write ad bb = S := by rw [write_eq, if_neg (by rw [hSn.out.1]; simp)]
          clear b1
          go_wp2_with (go_at_call 31; refine (k_write w _ g wb S S HY ad hok.out.a bb hok.out.b).mono ?_; rintro e x1 ⟨⟨v, rfl⟩, K1⟩; rw [e2] at K1)
          go_roundw
          case rel => exact ⟨k + 1, S, true, _, rfl, by have := hfin.out; omega, by simp, rfl, hSn, K1.out.1⟩
          case measure => have := hfin.out; simp [intOf]; omega
        | false =>
          by_cases q3 : ad < n
          · have e2 : S.write ad bb = { S with ram := fun k => if k = ad then bb else S.ram k } := by rw [write_eq, if_pos ⟨hSn.out.1, by rw [hSn.out.2]; exact q3⟩]
            have q3' : (ad : Int) < n := by omega
            have hq : Hid (ad < n) := q3
            have ij' := fun v => idxS (g := wb) (off := 0) (len := n) (cap := n) Try.underlying23 (s := 1) (by kernel_rfl) .u16 ad v q3
            simp only [Nat.zero_add, Nat.mul_one] at ij'
            clear b1 q3
            go_wp2_with (go_at_call 31; refine (k_write w _ g wb S S HY ad hok.out.a bb hok.out.b).mono ?_; rintro e x1 ⟨⟨v, rfl⟩, K1⟩; rw [e2] at K1; have d3 : x1.cell? ⟨wx.heap.size, 3, none⟩ = some (.int .u16 (ad : Int)) := box_keep hlt'.out K1.out.2 3 _ rfl; have d4 : x1.cell? ⟨wx.heap.size, 4, none⟩ = some (.int .u8 bb) := box_keep hlt'.out K1.out.2 4 _ rfl; obtain ⟨uu, hu⟩ : ∃ uu, x1.cell? ⟨wb, ad, none⟩ = some (.int .u8 uu) := ⟨_, K1.out.1.want.cell ad (by show ad < S.n; rw [hSn.out.2]; exact hq.out)⟩; have fz := K1.out.1.want.frozen ad)
            go_roundw
            case rel => exact ⟨k + 1, { S with ram := fun k => if k = ad then bb else S.ram k }, false, _, rfl, by have := hfin.out; omega, by simp, rfl, hSn, K1.out.1.right (K1.out.1.want.set ad (by show ad < S.n; rw [hSn.out.2]; exact hq.out) bb) (Upd.set _)⟩
            case measure => have := hfin.out; simp [intOf]; omega
          · have e2 : S.write ad bb = S := by rw [write_eq, if_neg (by rw [hSn.out.2]; omega)]
            have q3' : (n : Int) ≤ ad := by omega
            clear b1 q3
            go_wp2_with (go_at_call 31; refine (k_write w _ g wb S S HY ad hok.out.a bb hok.out.b).mono ?_; rintro e x1 ⟨⟨v, rfl⟩, K1⟩; rw [e2] at K1; have d3 : x1.cell? ⟨wx.heap.size, 3, none⟩ = some (.int .u16 (ad : Int)) := box_keep hlt'.out K1.out.2 3 _ rfl)
            go_roundw
            case rel => exact ⟨k + 1, S, false, _, rfl, by have := hfin.out; omega, by simp, rfl, hSn, K1.out.1⟩
            case measure => have := hfin.out; simp [intOf]; omega
      have b3 : (kk == 3) = false := by simpa using k3
      clear k3
      by_cases k4 : kk = 4
      · subst k4
        clear b1 b3
        go_wp2_with (go_at_call 27; refine (k_setLatch w _ g wb S S HY oo).mono ?_; rintro e x1 ⟨⟨v, rfl⟩, K1⟩; have d5 : x1.cell? ⟨wx.heap.size, 5, none⟩ = some (.bool oo) := box_keep hlt'.out K1.out.2 5 _ rfl)
        go_roundw
        case rel => exact ⟨k + 1, S.latch oo, oo, _, rfl, by have := hfin.out; omega, by simp, rfl, ⟨rfl, hSn.out.2⟩, ⟨K1.out.1.sto, K1.out.1.ok, K1.out.1.want, K1.out.1.rom, K1.out.1.low, K1.out.1.lg, K1.out.1.lw⟩⟩
        case measure => have := hfin.out; simp [intOf]; omega
      have b4 : (kk == 4) = false := by simpa using k4
      clear k4
      go_wp2
      go_roundw
      case rel => exact ⟨k + 1, S, on, _, rfl, by have := hfin.out; omega, by simp, rfl, hSn, HY⟩
      case measure => have := hfin.out; simp [intOf]; omega
    · have hke : k = len := by omega
      subst hke
      have hn32 : Hid (n ≤ 32768) := hn.out.2.1
      clear hk hlt
      go_wp2_with (first
        | (go_at_call 18; refine (k_ram w _ g wb S S n hSn.out.2 HX).mono ?_; rintro e x1 ⟨b1, rfl, K1⟩; have K1' : Hid (Blk x1 b1 n S.ram ∧ Blk x1 wb n S.ram ∧ Kp w x1 g wb S S) := ⟨K1.out.1, by have := K1.out.2.want; rw [hSn.out.2] at this; exact this, K1.out.2⟩)
        | (go_at_call_of 17 (Value.slice (some ⟨b1, 0, none⟩) n n); refine (k_same w _ g wb b1 n S S S.ram wb hn32.out K1').mono ?_; rintro e x2 ⟨rfl, K2⟩)
        | (go_at_call 20; refine (k_rom w _ g wb S S K2).mono ?_; rintro e x3 ⟨b2, rfl, K3⟩)
        | (go_at_call 24; refine (k_mk w _ g wb b2 S S K3).mono ?_; rintro e x4 ⟨b3, rfl, K4⟩)
        | (go_at_call_of 17 (Value.slice (some ⟨b2, 0, none⟩) 512 512); refine (k_same w _ g wb b2 512 S S romY b3 (by decide) K4).mono ?_; rintro e x5 ⟨rfl, K5⟩)
        | (go_at_call 22; refine (k_latch w _ g wb S S K5).mono ?_; rintro e x6 ⟨rfl, K6⟩; rw [hSn.out.1])
        | (go_at_call 27; refine (k_setLatch w _ g wb S S K6 false).mono ?_; rintro e x7 ⟨⟨v, rfl⟩, K7⟩))
      have K8 : Hid (Kp w x7 g wb (S.latch false) S) := K7.out.1
      have n32 : (n : Int) ≤ 32768 := by have := hn32.out; omega
      clear K1 K1' K2 K3 K4 K5 K6 K7 HX
      go_loopw [12] (fun i wz => ∃ k q : Nat, k ≤ n ∧ i = .int .i64 (k : Int) ∧ wz = x7.drewN q) (fun i _ => (n - intOf i).toNat)
      case atStart => exact ⟨0, 0, by omega, rfl, rfl⟩
      case round =>
        obtain ⟨j, q, hj, rfl, rfl⟩ := hrel
        by_cases hlt : j < n
        · have hw : x7.cell? ⟨wb, j, none⟩ = some (.int .u8 (S.ram j)) := K8.out.want.cell j (by show j < S.n; rw [hSn.out.2]; exact hlt)
          have hr := fun i => read_any (x7.drewN (q + i)) g (S.latch false) K8.out.ok K8.out.sto.drewN j (by have := hn32.out; omega)
          have er : (S.latch false).read j = S.ram j := by
            have := hn32.out
            have e : j < S.n := by rw [hSn.out.2]; exact hlt
            unfold St.read
            rw [if_neg (by omega), if_neg (by omega)]
            show (if false = true then _ else if j < S.n then S.ram j else 255) = _
            rw [if_neg (by simp), if_pos e]
          rw [er] at hr
          obtain ⟨vv, hvv⟩ : ∃ vv, S.ram j = vv := ⟨_, rfl⟩
          rw [hvv] at hr hw
          have ij := fun v => idxS (g := wb) (off := 0) (len := n) (cap := n) Try.underlying23 (s := 1) (by kernel_rfl) .i64 j v hlt
          simp only [Nat.zero_add, Nat.mul_one] at ij
          have e2 : IntKind.u16.wrap (j : Int) = (j : Int) := by have := hn32.out; rw [IntKind.wrap_u16]; omega
          have hne : (vv != vv) = false := by simp
          have hji : (j : Int) < n := by omega
          have hlt' : Hid (j < n) := hlt
          clear er hvv hlt hj
          go_wp2
          go_quiet ((first | (go_at_call 29; exact quiet2D (hr _))))
          go_wp2
          go_roundw
          case rel => exact ⟨j + 1, _, by have := hlt'.out; omega, by simp, rfl⟩
          case measure => have := hlt'.out; simp [intOf]; omega
        · have hje : j = n := by omega
          subst hje
          have K9 : Hid (Kp w (x7.drewN q) g wb (S.latch false) S) := K8.out.drewN
          have v1 : (S.latch false).read 32768 = 0 := by rw [read_rom _ _ (by decide) (by decide)]; exact (K9.out.rom 0 (by decide)).trans (by decide)
          have v2 : (S.latch false).read 33279 = 9 := by rw [read_rom _ _ (by decide) (by decide)]; exact (K9.out.rom 511 (by decide)).trans (by decide)
          have v3 : (S.latch false).read 33280 = 255 := read_out _ _ (by decide)
          have v4 : (S.latch false).read 65535 = 255 := read_out _ _ (by decide)
          have V : Hid ((S.latch false).read 32768 = 0 ∧ (S.latch false).read 33279 = 9 ∧ (S.latch false).read 33280 = 255 ∧ (S.latch false).read 65535 = 255) := ⟨v1, v2, v3, v4⟩
          clear v1 v2 v3 v4 hj hlt K8
          go_wp2_with (first
            | (go_at_call_of 29 (Value.int IntKind.u16 32768); refine (k_readv w _ g wb _ S K9 32768 (by decide) 0 V.out.1 32768 rfl).mono ?_; rintro e y1 ⟨rfl, L1⟩)
            | (go_at_call_of 29 (Value.int IntKind.u16 33279); refine (k_readv w _ g wb _ S L1 33279 (by decide) 9 V.out.2.1 33279 rfl).mono ?_; rintro e y2 ⟨rfl, L2⟩)
            | (go_at_call_of 29 (Value.int IntKind.u16 33280); refine (k_readv w _ g wb _ S L2 33280 (by decide) 255 V.out.2.2.1 33280 rfl).mono ?_; rintro e y3 ⟨rfl, L3⟩)
            | (go_at_call_of 29 (Value.int IntKind.u16 65535); refine (k_readv w _ g wb _ S L3 65535 (by decide) 255 V.out.2.2.2 65535 rfl).mono ?_; rintro e y4 ⟨rfl, L4⟩))
          go_ret
          exact ⟨rfl, L4.out.low⟩

theorem keeps_bad (w : World) (n : Int) (hn : Hid (¬ (2048 ≤ n ∧ n ≤ 32768 ∧ n.tmod 2048 = 0))) (a : Option Addr) (len cap : Nat) (h : Script w a len cap) :
    Calls Try.prog 6 #[.int .i64 n, .slice a len cap] w fun e w' => e = .returned (.bool true) ∧ Below w.heap.size w w' := by
  have hv := vast_any w none 0 0 (Nat.zero_le _) a len cap h
  have K : Hid (Below w.heap.size w w) := Below.refl _ _
  clear h
  go_enter Try.func6, Try.ntmps6
  go_wp2_with (first
    | (go_at_call 9; refine hv.mono ?_; rintro e x ⟨b, rfl, hw, hvb⟩; replace hw := hw.symm; subst hw; clear hvb)
    | (go_at_call 24; refine (rom_low w _ K).mono ?_; rintro e x ⟨b0, rfl, K0⟩; replace K0 : Hid (Below w.heap.size w x) := K0.out.2)
    | (go_at_call 11; refine (new_size_low w _ n hn.out _ _ _ K0).mono ?_; rintro e x ⟨rfl, K1⟩)
    | (go_at_call 8; refine (awake_low w _ K1).mono ?_; rintro e x ⟨rfl, K2⟩))
  · go_ret
    exact ⟨rfl, K.out⟩
  · go_ret
    exact ⟨rfl, K2.out⟩

theorem keeps_any (w : World) (n : Int) (a : Option Addr) (len cap : Nat) (h : Script w a len cap) :
    Calls Try.prog 6 #[.int .i64 n, .slice a len cap] w fun e w' => e = .returned (.bool true) ∧ Below w.heap.size w w' := by
  by_cases hn : 2048 ≤ n ∧ n ≤ 32768 ∧ n.tmod 2048 = 0
  · obtain ⟨k, rfl⟩ := Int.eq_ofNat_of_zero_le (show 0 ≤ n by omega)
    have h3 : k % 2048 = 0 := by have := hn.2.2; rw [Int.tmod_eq_emod_of_nonneg (by omega)] at this; omega
    exact keeps_good w k (by omega) (by omega) h3 a len cap h
  · exact keeps_bad w n hn a len cap h
end Go.Proofs.Ythjpghnmnbhaiaa
