/- vesperlaw03.StorePlays, walked: every script on a store and its clones. -/
import Derived.Test.YthjpghnmnbhaiaaPlaysW
namespace Go.Proofs.Ythjpghnmnbhaiaa
open Go Go.RowKit
set_option linter.unusedVariables false
set_option maxHeartbeats 2000000
set_option maxRecDepth 20000

def Solo (w : World) (g r m f : Nat) (S : St) : World → Prop := fun y => Two w y g r m f S S
theorem Solo.below {w : World} {g r m f : Nat} {S : St} : ∀ y z, Solo w g r m f S y → Below y.heap.size y z → Solo w g r m f S z := fun y z h hb => Two.below h hb
theorem duo_of {w x y : World} {g r m f g2 r2 m2 f2 : Nat} {S S2 : St} (h0 : Two w x g r m f S S) (h1 : Two w y g r m f S S) (h2 : Two w y g2 r2 m2 f2 S2 S2) (hN : ∀ k, Foot g2 r2 m2 f2 k → x.heap.size ≤ k) : Duo w g r m f S g2 r2 m2 f2 S2 y :=
  ⟨h1, h2, fun k a b => by have := h0.lt k a; have := hN k b; omega⟩
/-- The first gives way to a clone of the second, and the other way round. -/
theorem duo_fst {w x y : World} {g r m f g2 r2 m2 f2 g' r' m' f' : Nat} {S S2 S' : St} (h0 : Duo w g r m f S g2 r2 m2 f2 S2 x) (h1 : Duo w g r m f S g2 r2 m2 f2 S2 y) (h2 : Two w y g' r' m' f' S' S') (hN : ∀ k, Foot g' r' m' f' k → x.heap.size ≤ k) : Duo w g' r' m' f' S' g2 r2 m2 f2 S2 y :=
  ⟨h2, h1.two, fun k a b => by have := h0.two.lt k b; have := hN k a; omega⟩
theorem duo_snd {w x y : World} {g r m f g2 r2 m2 f2 g' r' m' f' : Nat} {S S2 S' : St} (h0 : Duo w g r m f S g2 r2 m2 f2 S2 x) (h1 : Duo w g r m f S g2 r2 m2 f2 S2 y) (h2 : Two w y g' r' m' f' S' S') (hN : ∀ k, Foot g' r' m' f' k → x.heap.size ≤ k) : Duo w g r m f S g' r' m' f' S' y :=
  ⟨h1.one, h2, fun k a b => by have := h0.one.lt k a; have := hN k b; omega⟩
/-- The two stores, and an act's cells in a box of their own. -/
def DB (w : World) (g r m f : Nat) (S : St) (g2 r2 m2 f2 : Nat) (S2 : St) (B : Nat) (C : Array Value) (y : World) : Prop := Duo w g r m f S g2 r2 m2 f2 S2 y ∧ ∀ i v, C[i]? = some v → y.cell? ⟨B, i, none⟩ = some v
theorem DB.below {w : World} {g r m f : Nat} {S : St} {g2 r2 m2 f2 : Nat} {S2 : St} {B : Nat} {C : Array Value} : ∀ y z, DB w g r m f S g2 r2 m2 f2 S2 B C y → Below y.heap.size y z → DB w g r m f S g2 r2 m2 f2 S2 B C z :=
  fun y z h hb => ⟨Duo.below y z h.1 hb, fun i v hv => (hb.cell (World.block_lt_of_cell? y _ (h.2 i v hv))).trans (h.2 i v hv)⟩

theorem plays_good (w : World) (n : Nat) (h1 : 2048 ≤ n) (h2 : n ≤ 32768) (h3 : n % 2048 = 0) (sp : Option Addr) (cap : Nat) (Y : Nat → Int) (hR : Hid (Row w sp 512 Y)) (a : Option Addr) (sl sc : Nat) (h : Script w a sl sc) :
    Calls Try.prog 4 #[.int .i64 (n : Int), .slice sp 512 cap, .slice a sl sc] w fun e w' => e = .returned (.bool true) ∧ Below w.heap.size w w' := by
  have hv := vast_any w sp 512 cap (by unfold maxLen; decide) a sl sc h
  have K : Hid (Below w.heap.size w w) := Below.refl _ _
  have hn : Hid (2048 ≤ n ∧ n ≤ 32768 ∧ n % 2048 = 0) := ⟨h1, h2, h3⟩
  obtain ⟨S, hS⟩ : ∃ S, Hid (S = ({ St.fresh n true with rom := Y } : St)) := ⟨_, (rfl : _ = _)⟩
  have okS : Hid S.ok := by rw [hS.out]; exact St.fresh_ok h1 h2 h3 hR.out.ok
  have nS : Hid (S.n = n) := by rw [hS.out]; rfl
  have hSc : Hid (Script w a sl sc) := h
  clear h h1 h2 h3
  go_enter Try.func4, Try.ntmps4
  go_wp2_with (first
    | (go_at_call 9; refine hv.mono ?_; rintro e x ⟨b, rfl, hw, hvb⟩; replace hw := hw.symm; subst hw; have hvb' : Hid _ := hvb; clear hvb)
    | (go_at_call 10; refine (l_lent w sp 512 cap (by decide) Y hR).mono ?_; rintro e x ⟨bb, rfl, K0⟩; replace K0 : Hid (LB w bb 512 Y x) := K0.out)
    | (go_at_call 11; refine (l_new w n hn.out.1 hn.out.2.1 hn.out.2.2 Y bb _ K0).mono ?_; rintro e x ⟨g, rfl, K1⟩; replace K1 : Hid (LS w bb 512 Y g S x) := (by rw [hS.out]; exact K1))
    | (go_at_call 12; refine (l_rnew w n hn.out.1 hn.out.2.1 hn.out.2.2 sp cap Y hR bb g S okS.out _ K1).mono ?_; rintro e x ⟨r, m, f, rfl, K2⟩; replace K2 : Hid (Blk x bb 514 (lentY 512 Y) ∧ w.heap.size ≤ bb ∧ ¬ Foot g r m f bb ∧ Two w x g r m f S S) := (by have := K2.out; rw [← hS.out] at this; exact this))
    | (go_at_call 13; refine (l_back2 w sp cap Y hR bb g r m f S S _ K2).mono ?_; rintro e x ⟨rfl, K3⟩)
    | (go_at_call 8; refine (awake_two w _ g r m f S S K3).mono ?_; rintro e x4 ⟨rfl, K4⟩)
    | (go_at_call 14; refine (c_clone (Solo w g r m f S) Solo.below (fun _ h => h) x4 K4).mono ?_; rintro e x5 ⟨g2, rfl, K5⟩)
    | (go_at_call 15; refine (c_rclone (Solo w g r m f S) Solo.below (fun _ h => h) x4.heap.size g2 x5 K5 (K4.out.low.size : w.heap.size ≤ x4.heap.size)).mono ?_; rintro e x6 ⟨r2, m2, f2, rfl, K6⟩; have K7 : Hid (Duo w g r m f S g2 r2 m2 f2 S.trim x6) := duo_of K4.out K6.out.2.1 K6.out.1 K6.out.2.2))
  · go_ret
    exact ⟨rfl, K.out⟩
  have hbf : b = false := by assumption
  have hM : Hid (sl ≤ 2147483647 ∧ Mild w a sl) := ⟨by have := (hvb'.out hbf).2.1; omega, (hvb'.out hbf).2.2⟩
  have hl : (sl : Int) ≤ 2147483647 := (hvb'.out hbf).2.1
  clear hvb' hv K0 K1 K2 K3 K4 K5 K6 hS okS nS hR K hn
  go_loopw [8, 10, 13, 14, 15] (fun p1 p2 p3 p4 i wz => ∃ (k g r m f g2 r2 m2 f2 : Nat) (S S2 : St) (wx : World), wx = wz ∧ k ≤ sl ∧ i = .int .i64 (k : Int) ∧ p1 = .pointer (some ⟨g, 0, none⟩) ∧ p2 = .pointer (some ⟨r, 0, none⟩) ∧ p3 = .pointer (some ⟨g2, 0, none⟩) ∧ p4 = .pointer (some ⟨r2, 0, none⟩) ∧ Hid (Duo w g r m f S g2 r2 m2 f2 S2 wx)) (fun _ _ _ _ i _ => (sl - intOf i).toNat)
  case atStart => exact ⟨0, g, r, m, f, g2, r2, m2, f2, S, S.trim, _, rfl, by omega, rfl, rfl, rfl, rfl, rfl, K7⟩
  case round =>
    clear K7
    obtain ⟨k, g, r, m, f, g2, r2, m2, f2, S, S2, wx, rfl, hk, rfl, rfl, rfl, rfl, rfl, HX⟩ := hrel
    by_cases hlt : k < sl
    · obtain ⟨ga, off, rfl, hg, hops⟩ := hSc.out.2 (by omega)
      obtain ⟨o, ho, hc⟩ := hops k hlt
      obtain ⟨p, hp⟩ : ∃ p, off + k * 7 = p := ⟨_, rfl⟩
      rw [hp] at hc
      have ij : ∀ v, (Instr.indexAt 24 (.slice (some ⟨ga, off, none⟩) sl sc) (.int .i64 (k : Int))).run Try.prog v = .ok (.pointer (some ⟨ga, p, none⟩)) v := fun v => by
        have := idxS (g := ga) (off := off) (len := sl) (cap := sc) Try.underlying24 (s := 7) (by kernel_rfl) .i64 k v hlt
        rw [hp] at this
        exact this
      have at' : ∀ i v, o.cells[i]? = some v → wx.cell? ⟨ga, p + i, none⟩ = some v := fun i v hv => (HX.out.one.low.cell (p := ⟨ga, p + i, none⟩) hg).trans (hc i v hv)
      obtain ⟨kk, ot, pa, ad, bb, oo, spp, bl, bc, YY⟩ := o
      have hok : Hid (ActD.ok w ⟨kk, ot, pa, ad, bb, oo, spp, bl, bc, YY⟩) := ho
      have c0 : wx.cell? ⟨ga, p, none⟩ = some (.int .i64 kk) := at' 0 _ rfl
      have c1 : wx.cell? ⟨ga, p + 1, none⟩ = some (.bool ot) := at' 1 _ rfl
      have c2 : wx.cell? ⟨ga, p + 2, none⟩ = some (.int .i64 pa) := at' 2 _ rfl
      have c3 : wx.cell? ⟨ga, p + 3, none⟩ = some (.int .u16 (ad : Int)) := at' 3 _ rfl
      have c4 : wx.cell? ⟨ga, p + 4, none⟩ = some (.int .u8 bb) := at' 4 _ rfl
      have c5 : wx.cell? ⟨ga, p + 5, none⟩ = some (.bool oo) := at' 5 _ rfl
      have c6 : wx.cell? ⟨ga, p + 6, none⟩ = some (.slice spp bl bc) := at' 6 _ rfl
      have hbl : Hid (bl ≤ 2147483647) := hM.out.2 k hlt ga off rfl spp bl bc (by rw [hp]; exact (HX.out.one.low.cell (p := ⟨ga, p + 6, none⟩) hg).symm.trans c6)
      have HY : Hid (DB w g r m f S g2 r2 m2 f2 S2 wx.heap.size #[.int .i64 kk, .bool ot, .int .i64 pa, .int .u16 (ad : Int), .int .u8 bb, .bool oo, .slice spp bl bc] (wx.alloc (.cells #[.int .i64 kk, .bool ot, .int .i64 pa, .int .u16 (ad : Int), .int .u8 bb, .bool oo, .slice spp bl bc] 39))) := ⟨Duo.below _ _ HX.out ((Below.refl _ _).alloc (Nat.le_refl _) _), fun i v hv => (World.cell?_alloc_new ..).trans hv⟩
      have A1 : Hid (∀ (y : World) (g r m f : Nat) (S : St), Two w y g r m f S S → Calls Try.prog 16 #[.pointer (some ⟨g, 0, none⟩), .pointer (some ⟨r, 0, none⟩), .agg #[.int .i64 kk, .bool ot, .int .i64 pa, .int .u16 (ad : Int), .int .u8 bb, .bool oo, .slice spp bl bc]] y fun e z => ActOk w y g r m f e z) := fun y g r m f S h => act_any w y g r m f S ot pa ad bb oo spp bl bc YY kk h hok.out hbl.out
      have hfin : Hid (k < sl) := hlt
      have hkl : (k : Int) < sl := by omega
      clear at' hc hops ho hp HX hlt hk hbl
      by_cases k8 : kk = 8
      · subst k8
        cases ot with
        | true =>
          have hN : Hid (w.heap.size ≤ (wx.alloc (.cells #[.int .i64 8, .bool true, .int .i64 pa, .int .u16 (ad : Int), .int .u8 bb, .bool oo, .slice spp bl bc] 39)).heap.size) := HY.out.1.one.low.size
          go_wp2_with (first
            | (go_at_call 14; refine (c_clone (DB w g r m f S g2 r2 m2 f2 S2 wx.heap.size #[.int .i64 8, .bool true, .int .i64 pa, .int .u16 (ad : Int), .int .u8 bb, .bool oo, .slice spp bl bc]) DB.below (fun _ h => h.1.two) _ HY).mono ?_; rintro e x5 ⟨g', rfl, K5⟩)
            | (go_at_call 15; refine (c_rclone (DB w g r m f S g2 r2 m2 f2 S2 wx.heap.size #[.int .i64 8, .bool true, .int .i64 pa, .int .u16 (ad : Int), .int .u8 bb, .bool oo, .slice spp bl bc]) DB.below (fun _ h => h.1.two) _ g' x5 K5 hN).mono ?_; rintro e x6 ⟨r', m', f', rfl, K6⟩; have K7 : Hid (Duo w g' r' m' f' S2.trim g2 r2 m2 f2 S2 x6) := duo_fst HY.out.1 K6.out.2.1.1 K6.out.1 K6.out.2.2; have d0 := K6.out.2.1.2 0 _ rfl; have d1 := K6.out.2.1.2 1 _ rfl; have d2 := K6.out.2.1.2 2 _ rfl; have d3 := K6.out.2.1.2 3 _ rfl; have d4 := K6.out.2.1.2 4 _ rfl; have d5 := K6.out.2.1.2 5 _ rfl; have d6 := K6.out.2.1.2 6 _ rfl)
            | (go_at_call 16; refine (A1.out _ g2 r2 m2 f2 S2 K7.out.two).mono ?_; rintro e y1 ⟨rfl, S', K1⟩; have K1' : Hid _ := K7.out.second K1; clear K1))
          go_roundw
          case rel => exact ⟨k + 1, g', r', m', f', g2, r2, m2, f2, S2.trim, S', _, rfl, by have := hfin.out; omega, by simp, rfl, rfl, rfl, rfl, K1'⟩
          case measure => have := hfin.out; simp [intOf]; omega
        | false =>
          have hN : Hid (w.heap.size ≤ (wx.alloc (.cells #[.int .i64 8, .bool false, .int .i64 pa, .int .u16 (ad : Int), .int .u8 bb, .bool oo, .slice spp bl bc] 39)).heap.size) := HY.out.1.one.low.size
          go_wp2_with (first
            | (go_at_call 14; refine (c_clone (DB w g r m f S g2 r2 m2 f2 S2 wx.heap.size #[.int .i64 8, .bool false, .int .i64 pa, .int .u16 (ad : Int), .int .u8 bb, .bool oo, .slice spp bl bc]) DB.below (fun _ h => h.1.one) _ HY).mono ?_; rintro e x5 ⟨g', rfl, K5⟩)
            | (go_at_call 15; refine (c_rclone (DB w g r m f S g2 r2 m2 f2 S2 wx.heap.size #[.int .i64 8, .bool false, .int .i64 pa, .int .u16 (ad : Int), .int .u8 bb, .bool oo, .slice spp bl bc]) DB.below (fun _ h => h.1.one) _ g' x5 K5 hN).mono ?_; rintro e x6 ⟨r', m', f', rfl, K6⟩; have K7 : Hid (Duo w g r m f S g' r' m' f' S.trim x6) := duo_snd HY.out.1 K6.out.2.1.1 K6.out.1 K6.out.2.2; have d0 := K6.out.2.1.2 0 _ rfl; have d1 := K6.out.2.1.2 1 _ rfl; have d2 := K6.out.2.1.2 2 _ rfl; have d3 := K6.out.2.1.2 3 _ rfl; have d4 := K6.out.2.1.2 4 _ rfl; have d5 := K6.out.2.1.2 5 _ rfl; have d6 := K6.out.2.1.2 6 _ rfl)
            | (go_at_call 16; refine (A1.out _ g r m f S K7.out.one).mono ?_; rintro e y1 ⟨rfl, S', K1⟩; have K1' : Hid _ := K7.out.first K1; clear K1))
          go_roundw
          case rel => exact ⟨k + 1, g, r, m, f, g', r', m', f', S', S.trim, _, rfl, by have := hfin.out; omega, by simp, rfl, rfl, rfl, rfl, K1'⟩
          case measure => have := hfin.out; simp [intOf]; omega
      · have b8 : (kk == 8) = false := by simpa using k8
        clear k8
        cases ot with
        | true =>
          go_wp2_with (go_at_call 16; refine (A1.out _ g2 r2 m2 f2 S2 HY.out.1.two).mono ?_; rintro e y1 ⟨rfl, S', K1⟩; have K1' : Hid _ := HY.out.1.second K1; clear K1)
          go_roundw
          case rel => exact ⟨k + 1, g, r, m, f, g2, r2, m2, f2, S, S', _, rfl, by have := hfin.out; omega, by simp, rfl, rfl, rfl, rfl, K1'⟩
          case measure => have := hfin.out; simp [intOf]; omega
        | false =>
          go_wp2_with (go_at_call 16; refine (A1.out _ g r m f S HY.out.1.one).mono ?_; rintro e y1 ⟨rfl, S', K1⟩; have K1' : Hid _ := HY.out.1.first K1; clear K1)
          go_roundw
          case rel => exact ⟨k + 1, g, r, m, f, g2, r2, m2, f2, S', S2, _, rfl, by have := hfin.out; omega, by simp, rfl, rfl, rfl, rfl, K1'⟩
          case measure => have := hfin.out; simp [intOf]; omega
    · have hke : sl = k := by omega
      subst hke
      obtain ⟨n1, hn1⟩ : ∃ n1, Hid (S.n = n1) := ⟨_, (rfl : S.n = S.n)⟩
      obtain ⟨n2, hn2⟩ : ∃ n2, Hid (S2.n = n2) := ⟨_, (rfl : S2.n = S2.n)⟩
      obtain ⟨q1, hq1⟩ : ∃ q1, Hid (S.on = q1) := ⟨_, (rfl : S.on = S.on)⟩
      obtain ⟨q2, hq2⟩ : ∃ q2, Hid (S2.on = q2) := ⟨_, (rfl : S2.on = S2.on)⟩
      have m1 : Hid (n1 ≤ 32768) := by rw [← hn1.out]; exact HX.out.one.okS.hi
      have m2' : Hid (n2 ≤ 32768) := by rw [← hn2.out]; exact HX.out.two.okS.hi
      have hne : Hid (g ≠ g2 ∧ r ≠ r2) := ⟨fun e => HX.out.apart g (.inl rfl) (.inl e), fun e => HX.out.apart r (.inr (.inl rfl)) (.inr (.inl e))⟩
      clear hk hlt
      go_wp2_with (first
        | (go_at_call_of 18 (Value.pointer (some ⟨g, 0, none⟩)); refine (d_ram (Duo w g r m f S g2 r2 m2 f2 S2) Duo.below (fun _ h => h.one) n1 hn1.out _ HX).mono ?_; rintro e y1 ⟨b1, rfl, K1⟩)
        | (go_at_call_of 19 (Value.pointer (some ⟨r, 0, none⟩)); refine (d_rram (Duo w g r m f S g2 r2 m2 f2 S2) Duo.below (fun _ h => h.one) n1 hn1.out b1 _ K1).mono ?_; rintro e y2 ⟨b2, rfl, K2⟩)
        | (go_at_call_of 17 (Value.slice (some ⟨b1, 0, none⟩) n1 n1); refine (d_same (Duo w g r m f S g2 r2 m2 f2 S2) Duo.below n1 m1.out S.ram b1 b2 _ K2).mono ?_; rintro e y3 ⟨rfl, K3⟩)
        | (go_at_call_of 20 (Value.pointer (some ⟨g, 0, none⟩)); refine (d_rom (Duo w g r m f S g2 r2 m2 f2 S2) Duo.below (fun _ h => h.one) _ K3).mono ?_; rintro e y4 ⟨b4, rfl, K4⟩)
        | (go_at_call_of 21 (Value.pointer (some ⟨r, 0, none⟩)); refine (d_rrom (Duo w g r m f S g2 r2 m2 f2 S2) Duo.below (fun _ h => h.one) b4 _ K4).mono ?_; rintro e y5 ⟨b5, rfl, K5⟩)
        | (go_at_call_of 17 (Value.slice (some ⟨b4, 0, none⟩) 512 512); refine (d_same (Duo w g r m f S g2 r2 m2 f2 S2) Duo.below 512 (by decide) S.rom b4 b5 _ K5).mono ?_; rintro e y6 ⟨rfl, K6⟩)
        | (go_at_call_of 18 (Value.pointer (some ⟨g2, 0, none⟩)); refine (d_ram (Duo w g r m f S g2 r2 m2 f2 S2) Duo.below (fun _ h => h.two) n2 hn2.out _ K6).mono ?_; rintro e y7 ⟨b7, rfl, K7⟩)
        | (go_at_call_of 19 (Value.pointer (some ⟨r2, 0, none⟩)); refine (d_rram (Duo w g r m f S g2 r2 m2 f2 S2) Duo.below (fun _ h => h.two) n2 hn2.out b7 _ K7).mono ?_; rintro e y8 ⟨b8, rfl, K8⟩)
        | (go_at_call_of 17 (Value.slice (some ⟨b7, 0, none⟩) n2 n2); refine (d_same (Duo w g r m f S g2 r2 m2 f2 S2) Duo.below n2 m2'.out S2.ram b7 b8 _ K8).mono ?_; rintro e y9 ⟨rfl, K9⟩)
        | (go_at_call_of 20 (Value.pointer (some ⟨g2, 0, none⟩)); refine (d_rom (Duo w g r m f S g2 r2 m2 f2 S2) Duo.below (fun _ h => h.two) _ K9).mono ?_; rintro e y10 ⟨b10, rfl, K10⟩)
        | (go_at_call_of 21 (Value.pointer (some ⟨r2, 0, none⟩)); refine (d_rrom (Duo w g r m f S g2 r2 m2 f2 S2) Duo.below (fun _ h => h.two) b10 _ K10).mono ?_; rintro e y11 ⟨b11, rfl, K11⟩)
        | (go_at_call_of 17 (Value.slice (some ⟨b10, 0, none⟩) 512 512); refine (d_same (Duo w g r m f S g2 r2 m2 f2 S2) Duo.below 512 (by decide) S2.rom b10 b11 _ K11).mono ?_; rintro e y12 ⟨rfl, K12⟩)
        | (go_at_call_of 22 (Value.pointer (some ⟨g, 0, none⟩)); refine (d_latch (Duo w g r m f S g2 r2 m2 f2 S2) (fun _ h => h.one) q1 hq1.out _ K12).mono ?_; rintro e y13 ⟨rfl, K13⟩)
        | (go_at_call_of 23 (Value.pointer (some ⟨r, 0, none⟩)); refine (d_rlatch (Duo w g r m f S g2 r2 m2 f2 S2) (fun _ h => h.one) q1 hq1.out _ K13).mono ?_; rintro e y14 ⟨rfl, K14⟩)
        | (go_at_call_of 22 (Value.pointer (some ⟨g2, 0, none⟩)); refine (d_latch (Duo w g r m f S g2 r2 m2 f2 S2) (fun _ h => h.two) q2 hq2.out _ K14).mono ?_; rintro e y15 ⟨rfl, K15⟩)
        | (go_at_call_of 23 (Value.pointer (some ⟨r2, 0, none⟩)); refine (d_rlatch (Duo w g r m f S g2 r2 m2 f2 S2) (fun _ h => h.two) q2 hq2.out _ K15).mono ?_; rintro e y16 ⟨rfl, K16⟩))
      go_ret
      exact ⟨by first | rfl | simp, K16.out.one.low⟩

theorem plays_any (w : World) (n : Int) (sp : Option Addr) (len cap : Nat) (h : len ≤ maxLen ∧ ∃ Y : Nat → Int, Row w sp len Y) (a : Option Addr) (sl sc : Nat) (hS : Script w a sl sc) :
    Calls Try.prog 4 #[.int .i64 n, .slice sp len cap, .slice a sl sc] w fun e w' => e = .returned (.bool true) ∧ Below w.heap.size w w' := by
  obtain ⟨h0, Y, hY⟩ := h
  by_cases hn : 2048 ≤ n ∧ n ≤ 32768 ∧ n.tmod 2048 = 0
  · obtain ⟨k, rfl⟩ := Int.eq_ofNat_of_zero_le (show 0 ≤ n by omega)
    have h3 : k % 2048 = 0 := by have := hn.2.2; rw [Int.tmod_eq_emod_of_nonneg (by omega)] at this; omega
    by_cases h5 : len = 512
    · subst h5
      exact plays_good w k (by omega) (by omega) h3 sp cap Y hY a sl sc hS
    · exact plays_rom w k (by omega) (by omega) h3 sp len cap h0 h5 Y hY a sl sc hS
  · exact plays_bad w n hn sp len cap h0 Y hY a sl sc hS
end Go.Proofs.Ythjpghnmnbhaiaa
