/- The labels' addresses laid into the orders that name them: settle. A line's words as they lie: from what wordsOf hands back to what take is given. What a program's lines are, plain: the lines of a text, taken up one behind the other, and settled. -/
import Derived.Test.YthaijjehplomfaaDoorJ30
namespace Go.Proofs.YthaijjehplomfaaDoor
open Go Go.RowKit
set_option linter.unusedVariables false
set_option maxHeartbeats 1000000
set_option maxRecDepth 20000

def atO (o : Od) (a : Nat) : Od := ⟨o.op, o.x, o.y, o.n, o.b, a⟩
/-- An order's two bytes laid at a place. -/
def layB (bs : List UInt8) (p : Nat) (o : Od) : List UInt8 := (bs.set p (UInt8.ofNat ((encW o).getD 0 / 256))).set (p + 1) (UInt8.ofNat ((encW o).getD 0 % 256))
/-- The uses settled: the bytes, or the line of the first whose label is nowhere. -/
def setP (F : ByteArray → Option Nat) : List Us → List UInt8 → Nat ⊕ List UInt8
  | [], bs => .inr bs
  | u :: us, bs => match F u.lb with
    | none => .inl u.ln
    | some a => setP F us (layB bs u.pl (atO u.o a))
theorem rtU : Rt Tryd.prog 108 9 := ⟨⟨_, Tryd.underlying108, rfl⟩, by kernel_rfl⟩
theorem us9_one (u : Us) : (us9 u).all (·.oneCell') = true := by simp [us9, Value.oneCell']
theorem hi_byte {X : Nat} (h : X ≤ 65535) : Value.int .u8 ((X : Int) / 256) = byV (UInt8.ofNat (X / 256)) := by
  unfold byV
  congr 1
  simp
  omega
theorem lo_byte (X : Nat) : Value.int .u8 ((X : Int) % 256) = byV (UInt8.ofNat (X % 256)) := by
  unfold byV
  congr 1
  simp
theorem us_range {x : World} {b : Nat} {u : Us} (h : Bx x b (us9 u) 108) : x.rangeAt b 2 (o6 u.o).toList := fun j v hv => by
  refine h.c _ _ ?_
  have hj : j < 6 := (List.getElem?_eq_some_iff.1 hv).1
  rcases j with _ | _ | _ | _ | _ | _ | j <;> first | exact hv | omega
def SeE (w : World) (P g : Nat) (vb vu : Value) (bs : List UInt8) (F : ByteArray → Option Nat) (us : List Us) (y : World) (e : Ending) (z : World) : Prop :=
  (∃ bs', e = .returned (.tuple #[.int .i64 0, .bool true]) ∧ setP F us bs = .inr bs' ∧ Pg w P g vb vu bs' F us z ∧ Kp y z) ∨ (∃ n : Nat, e = .returned (.tuple #[.int .i64 (n : Int), .bool false]) ∧ setP F us bs = .inl n ∧ Below w.heap.size w z ∧ Kp y z)
theorem settle_any (w y : World) (P g gb nb capb : Nat) (vu : Value) (bs : List UInt8) (F : ByteArray → Option Nat) (us : List Us) (K : Hid (Pg w P g (.slice (some ⟨gb, 0, none⟩) nb capb) vu bs F us y)) (hnb : Hid (bs.length = nb)) (hnb2 : nb ≤ 100000) (m : Nat) (hm : Hid (us.length = m)) (hm2 : (m : Int) ≤ 100000)
    (hgo : Hid (∀ u ∈ us, OdR u.o ∧ u.pl + 1 < nb)) (hF : Hid (∀ s a, F s = some a → a < 65536)) :
    Calls Tryd.prog 33 #[.pointer (some ⟨P, 0, none⟩)] y (SeE w P g (.slice (some ⟨gb, 0, none⟩) nb capb) vu bs F us y) := by
  obtain ⟨spu, capu, rfl, hlu, hsu, _, _⟩ := K.out.us.open kUs.len
  rw [hm.out] at K ⊢
  have dU := K.out.box.c 2 (.slice spu m capu) rfl
  have hnb2' : Hid (nb ≤ 100000) := hnb2
  have hlu' : Hid (LiesL 9 usC y spu us) := hlu
  have hsu' : Hid (∀ a, spu = some a → a.off = 0 ∧ a.spot = none ∧ w.heap.size ≤ a.block ∧ a.block < y.heap.size) := hsu
  clear hnb2 hlu hsu
  go_enter Tryd.func33, Tryd.ntmps33
  go_wp2
  go_loopw [15] (fun j wz => ∃ (p : Nat) (bs' : List UInt8), p ≤ m ∧ j = .int .i64 (p : Int) ∧ Hid (setP F us bs = setP F (us.drop p) bs') ∧ Hid (bs'.length = nb) ∧ Hid (Pg w P g (.slice (some ⟨gb, 0, none⟩) nb capb) (.slice spu m capu) bs' F us wz) ∧ Hid (Kp y wz)) (fun j _ => (m - intOf j).toNat)
  case atStart => exact ⟨0, bs, by omega, rfl, (rfl : setP F us bs = _), hnb, K, Kp.refl y⟩
  case round =>
    obtain ⟨p, bs', hpm, rfl, hst, hbl, K1, hk⟩ := hrel
    by_cases hlt : p < m
    · obtain ⟨u, hpu⟩ : ∃ u, us[p]? = some u := ⟨_, List.getElem?_eq_getElem (by rw [hm.out]; exact hlt)⟩
      have hdr : us.drop p = u :: us.drop (p + 1) := by
        obtain ⟨h1, h2⟩ := List.getElem?_eq_some_iff.1 hpu
        rw [List.drop_eq_getElem_cons h1, h2]
      obtain ⟨spu2, cap2, e2, hl2, hs2, _, _⟩ := K1.out.us.open kUs.len
      injection e2 with e3 e4 e5
      subst e3
      obtain ⟨gu, ou, rfl, hru0⟩ := hl2 p u hpu
      obtain rfl : ou = 0 := (hs2 _ rfl).1
      have hru : Hid (wr.rangeAt gu (p * 9) (us9 u).toList) := by
        have h := hru0
        rw [Nat.zero_add] at h
        exact h
      have hix : ∀ z, (Instr.indexAt 75 (.slice (some ⟨gu, 0, none⟩) m capu) (.int .i64 (p : Int))).run Tryd.prog z = .ok (.pointer (some ⟨gu, p * 9, none⟩)) z := fun z => by
        have h := idxP (P := Tryd.prog) (t := 75) (e := 108) (s := 9) (g := gu) (off := 0) (len := m) (cap := capu) Tryd.underlying75 (by kernel_rfl) .i64 p z hlt
        rwa [Nat.zero_add] at h
      have hpi : (p : Int) < m := by omega
      have hlt' : Hid (p < m) := hlt
      have hu0 := hgo.out u (List.mem_of_getElem? hpu)
      have hbd : Hid (OdR u.o ∧ u.pl + 1 < nb) := hu0
      have hst2 : Hid (setP F us bs = setP F (u :: us.drop (p + 1)) bs') := by show _ = _; rw [hst.out, hdr]
      rcases hFu : F u.lb with _ | a
      · have hlk : Hid (∀ z, Pg w P g (.slice (some ⟨gb, 0, none⟩) nb capb) (.slice (some ⟨gu, 0, none⟩) m capu) bs' F us z → (Instr.lookup 74 (.map (some g)) (.string u.lb) true).run Tryd.prog z = .ok (.tuple #[.int .u16 0, .bool false]) z) := fun z hz => by
          have h := hz.mp.look (P := Tryd.prog) (mt := 74) (kt := 9) (et := 27) Tryd.underlying74 Tryd.underlying9 u.lb (.int .u16 0) (zeroU16 z)
          rw [hFu] at h
          exact h
        have hno : Hid (setP F us bs = .inl u.ln) := by
          show _ = _
          rw [hst2.out]
          unfold setP
          rw [hFu]
        clear hpu hdr hl2 hs2 hru0 hlt hu0 hFu e4 e5
        go_wp2_with (first
          | ((with_reducible refine at_loadm rtU gu (p * 9) (us9 u) ?_ ?_ (.tmp 17) ?_ ?_ ?_ ?_); exact hru.out; rfl; rfl; rfl; rfl)
          | ((with_reducible refine at_st rtU wr.heap.size (us9 us0) (us9 u) ?_ ?_ ?_ ?_ (.tmp 5) (.tmp 18) ?_ ?_ ?_ ?_ ?_); exact K3.out.bx 0 _ _ _ rfl; rfl; rfl; exact us9_one u; rfl; rfl; rfl; rfl; intro y4 hw4; have K4 : Hid (Fm wr [(wr.heap.size, us9 u, 108)] y4) := K3.out.put 0 _ _ _ _ rfl hw4.out)
          | ((with_reducible refine gen_world (wr.alloc (.cells #[.int .i64 0, .int .i64 0, .int .u8 0, .int .u8 0, .int .u8 0, .int .u8 0, .int .u8 0, .int .u16 0, .string ⟨#[]⟩] 108)) (Fm wr [(wr.heap.size, us9 us0, 108)]) ?_ ?_); exact Fm.one wr _ _; intro y3 K3))
        have K4p : Hid (Pg w P g (.slice (some ⟨gb, 0, none⟩) nb capb) (.slice (some ⟨gu, 0, none⟩) m capu) bs' F us y4) := K1.out.below K4.out.low
        refine wp_region_quiet (C := fun x => Below y4.heap.size y4 x) (by kernel_rfl) (by kernel_rfl) ⟨rfl, rfl, rfl, Nat.le_refl _, fun _ _ => rfl⟩ ?_
        simp only []
        with_reducible refine quiet_one (.pointer (some ⟨P, 0, none⟩)) ?_ ?_ ?_
        · kernel_rfl
        · intro u9 hy
          go_simp
        with_reducible refine quiet_one (.pointer (some ⟨P, 0, none⟩)) ?_ ?_ ?_
        · kernel_rfl
        · intro u9 hy
          go_simp
        with_reducible refine quiet_one (.pointer (some ⟨P, 1, none⟩)) ?_ ?_ ?_
        · kernel_rfl
        · intro u9 hy
          go_simp
        with_reducible refine quiet_one (.map (some g)) ?_ ?_ ?_
        · kernel_rfl
        · intro u9 hy
          have x := (K4p.out.below hy).box.c 1 (.map (some g)) rfl; go_simp
        with_reducible refine quiet_one (.pointer (some ⟨wr.heap.size, 8, none⟩)) ?_ ?_ ?_
        · kernel_rfl
        · intro u9 hy
          go_simp
        with_reducible refine quiet_one (.string u.lb) ?_ ?_ ?_
        · kernel_rfl
        · intro u9 hy
          have x := ((K4.out.below hy).bx 0 _ _ _ rfl).c 8 (.string u.lb) rfl; go_simp
        with_reducible refine quiet_one (.tuple #[.int .u16 0, .bool false]) ?_ ?_ ?_
        · kernel_rfl
        · intro u9 hy
          have x := hlk.out u9 (K4p.out.below hy); go_simp
        with_reducible refine quiet_one (.tuple #[.int .u16 0, .bool false]) ?_ ?_ ?_
        · kernel_rfl
        · intro u9 hy
          go_simp
        with_reducible refine quiet_one (.int .u16 0) ?_ ?_ ?_
        · kernel_rfl
        · intro u9 hy
          go_simp
        with_reducible refine quiet_one (.bool false) ?_ ?_ ?_
        · kernel_rfl
        · intro u9 hy
          go_simp
        with_reducible refine quiet_one (.int .u16 0) ?_ ?_ ?_
        · kernel_rfl
        · intro u9 hy
          go_simp
        with_reducible refine quiet_one (.bool false) ?_ ?_ ?_
        · kernel_rfl
        · intro u9 hy
          go_simp
        refine wpQuiet_nil ?_
        intro y5 hy5
        have hy5' : Hid (Below y4.heap.size y4 y5) := hy5
        clear hy5
        go_simp
        have K5 : Hid (Fm wr [(wr.heap.size, us9 u, 108)] y5) := K4.out.below hy5'.out
        have x0 := (K5.out.bx 0 _ _ _ rfl).c 0 (.int .i64 (u.ln : Int)) rfl
        go_wp2
        go_ret2
        exact .inr ⟨u.ln, rfl, hno.out, K1.out.low.trans (K5.out.low.mono K1.out.low.size), hk.out.trans (Kp.of_below K5.out.low)⟩
      · have hlk : Hid (∀ z, Pg w P g (.slice (some ⟨gb, 0, none⟩) nb capb) (.slice (some ⟨gu, 0, none⟩) m capu) bs' F us z → (Instr.lookup 74 (.map (some g)) (.string u.lb) true).run Tryd.prog z = .ok (.tuple #[.int .u16 (a : Int), .bool true]) z) := fun z hz => by
          have h := hz.mp.look (P := Tryd.prog) (mt := 74) (kt := 9) (et := 27) Tryd.underlying74 Tryd.underlying9 u.lb (.int .u16 0) (zeroU16 z)
          rw [hFu] at h
          exact h
        have ha := hF.out _ _ hFu
        obtain ⟨u2, hu2⟩ : ∃ u2 : Us, Hid (u2 = ⟨u.ln, u.pl, (atO u.o a), u.lb⟩) := ⟨_, rfl⟩
        have hEn := fun z => encode_any z (atO u.o a) ⟨hu0.1.op, hu0.1.x, hu0.1.y, hu0.1.n, hu0.1.b, ha⟩
        obtain ⟨X, hX⟩ : ∃ X, Hid ((encW (atO u.o a)).getD 0 = X) := ⟨_, rfl⟩
        rw [hX.out] at hEn
        generalize (if (encW (atO u.o a)).isSome then (0 : Int) else 160) = er at hEn
        have hX2 : Hid (X ≤ 65535) := by
          show _ ≤ _
          rw [← hX.out]
          rcases hE : encW (atO u.o a) with _ | x
          · exact Nat.zero_le _
          · have := enc_lt hE; show x ≤ _; omega
        have hnx : Hid (setP F us bs = setP F (us.drop (p + 1)) ((bs'.set u.pl (UInt8.ofNat (X / 256))).set (u.pl + 1) (UInt8.ofNat (X % 256)))) := by
          show _ = _
          rw [hst2.out]
          conv => lhs; unfold setP
          rw [hFu]
          show setP F _ (layB bs' u.pl (atO u.o a)) = _
          unfold layB
          rw [hX.out]
        clear hpu hdr hl2 hs2 hru0 hlt hu0 hFu e4 e5 ha
        go_wp2_with (first
          | ((with_reducible refine at_loadm rtU gu (p * 9) (us9 u) ?_ ?_ (.tmp 17) ?_ ?_ ?_ ?_); exact hru.out; rfl; rfl; rfl; rfl)
          | ((with_reducible refine at_st rtU wr.heap.size (us9 us0) (us9 u) ?_ ?_ ?_ ?_ (.tmp 5) (.tmp 18) ?_ ?_ ?_ ?_ ?_); exact K3.out.bx 0 _ _ _ rfl; rfl; rfl; exact us9_one u; rfl; rfl; rfl; rfl; intro y4 hw4; have K4 : Hid (Fm wr [(wr.heap.size, us9 u, 108)] y4) := K3.out.put 0 _ _ _ _ rfl hw4.out)
          | ((with_reducible refine gen_world (wr.alloc (.cells #[.int .i64 0, .int .i64 0, .int .u8 0, .int .u8 0, .int .u8 0, .int .u8 0, .int .u8 0, .int .u16 0, .string ⟨#[]⟩] 108)) (Fm wr [(wr.heap.size, us9 us0, 108)]) ?_ ?_); exact Fm.one wr _ _; intro y3 K3))
        have K4p : Hid (Pg w P g (.slice (some ⟨gb, 0, none⟩) nb capb) (.slice (some ⟨gu, 0, none⟩) m capu) bs' F us y4) := K1.out.below K4.out.low
        refine wp_region_quiet (C := fun x => Below y4.heap.size y4 x) (by kernel_rfl) (by kernel_rfl) ⟨rfl, rfl, rfl, Nat.le_refl _, fun _ _ => rfl⟩ ?_
        simp only []
        with_reducible refine quiet_one (.pointer (some ⟨P, 0, none⟩)) ?_ ?_ ?_
        · kernel_rfl
        · intro u9 hy
          go_simp
        with_reducible refine quiet_one (.pointer (some ⟨P, 0, none⟩)) ?_ ?_ ?_
        · kernel_rfl
        · intro u9 hy
          go_simp
        with_reducible refine quiet_one (.pointer (some ⟨P, 1, none⟩)) ?_ ?_ ?_
        · kernel_rfl
        · intro u9 hy
          go_simp
        with_reducible refine quiet_one (.map (some g)) ?_ ?_ ?_
        · kernel_rfl
        · intro u9 hy
          have x := (K4p.out.below hy).box.c 1 (.map (some g)) rfl; go_simp
        with_reducible refine quiet_one (.pointer (some ⟨wr.heap.size, 8, none⟩)) ?_ ?_ ?_
        · kernel_rfl
        · intro u9 hy
          go_simp
        with_reducible refine quiet_one (.string u.lb) ?_ ?_ ?_
        · kernel_rfl
        · intro u9 hy
          have x := ((K4.out.below hy).bx 0 _ _ _ rfl).c 8 (.string u.lb) rfl; go_simp
        with_reducible refine quiet_one (.tuple #[.int .u16 (a : Int), .bool true]) ?_ ?_ ?_
        · kernel_rfl
        · intro u9 hy
          have x := hlk.out u9 (K4p.out.below hy); go_simp
        with_reducible refine quiet_one (.tuple #[.int .u16 (a : Int), .bool true]) ?_ ?_ ?_
        · kernel_rfl
        · intro u9 hy
          go_simp
        with_reducible refine quiet_one (.int .u16 (a : Int)) ?_ ?_ ?_
        · kernel_rfl
        · intro u9 hy
          go_simp
        with_reducible refine quiet_one (.bool true) ?_ ?_ ?_
        · kernel_rfl
        · intro u9 hy
          go_simp
        with_reducible refine quiet_one (.int .u16 (a : Int)) ?_ ?_ ?_
        · kernel_rfl
        · intro u9 hy
          go_simp
        with_reducible refine quiet_one (.bool true) ?_ ?_ ?_
        · kernel_rfl
        · intro u9 hy
          go_simp
        refine wpQuiet_nil ?_
        intro y5 hy5
        have hy5' : Hid (Below y4.heap.size y4 y5) := hy5
        clear hy5
        go_simp
        have K5 : Hid (Fm wr [(wr.heap.size, us9 u, 108)] y5) := K4.out.below hy5'.out
        have x7 := (K5.out.bx 0 _ _ _ rfl).c 7 (.int .u16 (u.o.a : Int)) rfl
        have f7 := (K5.out.bx 0 _ _ _ rfl).fz 7
        go_wp2_with (first
          | (go_at_call 8; refine (hEn _).mono ?_; rintro e y7 ⟨rfl, hb7⟩; have K7 : Hid (Fm wr [(wr.heap.size, us9 ⟨u.ln, u.pl, (atO u.o a), u.lb⟩, 108)] y7) := K6.out.below hb7)
          | ((with_reducible refine at_loadm rtO wr.heap.size 2 (o6 (atO u.o a)) ?_ ?_ (.tmp 37) ?_ ?_ ?_ ?_); exact us_range (K6.out.bx 0 _ _ _ rfl); rfl; rfl; rfl; rfl)
          | ((with_reducible refine gen_world (y5.setCell ⟨wr.heap.size, 7, none⟩ (.int .u16 (a : Int))) (Fm wr [(wr.heap.size, us9 ⟨u.ln, u.pl, (atO u.o a), u.lb⟩, 108)]) ?_ ?_); exact K5.out.setCell 0 _ _ _ _ rfl 7 _ rfl; intro y6 K6))
        obtain ⟨a1, ha1⟩ : ∃ a1, bs'[u.pl]? = some a1 := ⟨_, List.getElem?_eq_getElem (by have := hbl.out; have := hbd.out.2; omega)⟩
        obtain ⟨a2, ha2⟩ : ∃ a2, bs'[u.pl + 1]? = some a2 := ⟨_, List.getElem?_eq_getElem (by have := hbl.out; have := hbd.out.2; omega)⟩
        refine regS w P g gb nb capb (.slice (some ⟨gu, 0, none⟩) m capu) bs' F us ⟨u.ln, u.pl, atO u.o a, u.lb⟩ wr.heap.size X (UInt8.ofNat (X / 256)) (UInt8.ofNat (X % 256)) hnb2'.out hbd.out.2 a1 a2 ha1 ha2 hX2.out (hi_byte hX2.out) (lo_byte X) (K7.out.bx 0 _ _ _ rfl) _ _ _ _ _ _ _ _ _ _ _ _ _ _ _ _ _ _ _ _ _ _ _ _ _ _ _ _ _ _ _ _ _ _ _ _ _ _ _ _ _ _ _ rfl rfl rfl ?_ ?_ ?_ ?_ ?_ ?_ ?_ ?_ ?_ ?_ ?_ ?_ ?_ ?_ ?_ ?_ ?_ ?_ ?_ ?_ ?_ ?_ ?_ (K1.out.below K7.out.low) ⟨_, _, _, _, _, _, _, _, _, _, _, _, _, _, _, _, _, _, _, rfl⟩ ?_
        · rfl
        · kernel_rfl
        · exact ⟨_, rfl, rfl, rfl, rfl, fun q hq => absurd hq (by simp)⟩
        · exact ⟨_, rfl, rfl, rfl, rfl, List.forall_mem_cons.2 ⟨⟨{ on := 0, ground := .data }, by simp, rfl, rfl⟩, fun q hq => absurd hq (by simp)⟩⟩
        · exact ⟨_, rfl, rfl, rfl, rfl, List.forall_mem_cons.2 ⟨⟨{ on := 1, ground := .data }, by simp, rfl, rfl⟩, fun q hq => absurd hq (by simp)⟩⟩
        · exact ⟨_, rfl, rfl, rfl, rfl, List.forall_mem_cons.2 ⟨⟨{ on := 2, ground := .data }, by simp, rfl, rfl⟩, fun q hq => absurd hq (by simp)⟩⟩
        · exact ⟨_, rfl, rfl, rfl, rfl, fun q hq => absurd hq (by simp)⟩
        · exact ⟨_, rfl, rfl, rfl, rfl, List.forall_mem_cons.2 ⟨⟨{ on := 4, ground := .data }, by simp, rfl, rfl⟩, fun q hq => absurd hq (by simp)⟩⟩
        · exact ⟨_, rfl, rfl, rfl, rfl, fun q hq => absurd hq (by simp)⟩
        · exact ⟨_, rfl, rfl, rfl, rfl, List.forall_mem_cons.2 ⟨⟨{ on := 6, ground := .data }, by simp, rfl, rfl⟩, fun q hq => absurd hq (by simp)⟩⟩
        · exact ⟨_, rfl, rfl, rfl, rfl, List.forall_mem_cons.2 ⟨⟨{ on := 7, ground := .data }, by simp, rfl, rfl⟩, fun q hq => absurd hq (by simp)⟩⟩
        · exact ⟨_, rfl, rfl, rfl, rfl, List.forall_mem_cons.2 ⟨⟨{ on := 8, ground := .data }, by simp, rfl, rfl⟩, fun q hq => absurd hq (by simp)⟩⟩
        · exact ⟨_, rfl, rfl, rfl, rfl, fun q hq => absurd hq (by simp)⟩
        · exact ⟨_, rfl, rfl, rfl, rfl, List.forall_mem_cons.2 ⟨⟨{ on := 10, ground := .data }, by simp, rfl, rfl⟩, fun q hq => absurd hq (by simp)⟩⟩
        · exact ⟨_, rfl, rfl, rfl, rfl, List.forall_mem_cons.2 ⟨⟨{ on := 11, ground := .data }, by simp, rfl, rfl⟩, fun q hq => absurd hq (by simp)⟩⟩
        · exact ⟨_, rfl, rfl, rfl, rfl, fun q hq => absurd hq (by simp)⟩
        · exact ⟨_, rfl, rfl, rfl, rfl, List.forall_mem_cons.2 ⟨⟨{ on := 13, ground := .data }, by simp, rfl, rfl⟩, fun q hq => absurd hq (by simp)⟩⟩
        · exact ⟨_, rfl, rfl, rfl, rfl, fun q hq => absurd hq (by simp)⟩
        · exact ⟨_, rfl, rfl, rfl, rfl, List.forall_mem_cons.2 ⟨⟨{ on := 15, ground := .data }, by simp, rfl, rfl⟩, fun q hq => absurd hq (by simp)⟩⟩
        · exact ⟨_, rfl, rfl, rfl, rfl, List.forall_mem_cons.2 ⟨⟨{ on := 3, ground := .data }, by simp, rfl, rfl⟩, List.forall_mem_cons.2 ⟨⟨{ on := 5, ground := .data }, by simp, rfl, rfl⟩, fun q hq => absurd hq (by simp)⟩⟩⟩
        · exact ⟨_, rfl, rfl, rfl, rfl, List.forall_mem_cons.2 ⟨⟨{ on := 17, ground := .data }, by simp, rfl, rfl⟩, List.forall_mem_cons.2 ⟨⟨{ on := 14, ground := .data }, by simp, rfl, rfl⟩, fun q hq => absurd hq (by simp)⟩⟩⟩
        · exact ⟨_, rfl, rfl, rfl, rfl, List.forall_mem_cons.2 ⟨⟨{ on := 9, ground := .data }, by simp, rfl, rfl⟩, List.forall_mem_cons.2 ⟨⟨{ on := 12, ground := .data }, by simp, rfl, rfl⟩, fun q hq => absurd hq (by simp)⟩⟩⟩
        · exact ⟨_, rfl, rfl, rfl, rfl, List.forall_mem_cons.2 ⟨⟨{ on := 19, ground := .data }, by simp, rfl, rfl⟩, List.forall_mem_cons.2 ⟨⟨{ on := 16, ground := .data }, by simp, rfl, rfl⟩, List.forall_mem_cons.2 ⟨⟨{ on := 18, ground := .chain }, by simp, rfl, rfl⟩, fun q hq => absurd hq (by simp)⟩⟩⟩⟩
        · intro z v42 v43 v44 v45 v46 v47 v48 v49 v50 v51 v52 v53 v54 v55 v56 v57 v58 v59 v60 hp hk2
          dsimp only [actS]
          go_wp2
          go_roundw
          case rel => exact ⟨p + 1, _, by have := hlt'.out; omega, by simp, hnx, by show _ = _; rw [List.length_set, List.length_set]; exact hbl.out, hp, (hk.out.trans (Kp.of_below K7.out.low)).trans hk2.out⟩
          case measure => have := hlt'.out; simp [intOf]; omega
    · have hpe : p = m := by omega
      have hall : Hid (setP F us bs = .inr bs') := by
        show _ = _
        rw [hst.out, hpe, List.drop_eq_nil_of_le (by rw [hm.out]; exact Nat.le_refl _)]
        rfl
      subst hpe
      clear hlt hpm
      go_wp2
      go_ret2
      exact .inl ⟨bs', rfl, hall.out, K1.out, hk.out⟩
end Go.Proofs.YthaijjehplomfaaDoor

namespace Go.Proofs.YthaijjehplomfaaDoor
open Go Go.RowKit
set_option linter.unusedVariables false
set_option maxHeartbeats 1000000

theorem KT.wds {w y : World} {A n c : Nat} {ws : List ByteArray} (h : KT w (.slice (some ⟨A, 0, none⟩) n c) ws y) : WdsAt y A 0 ws := by
  obtain ⟨⟨h1, h2⟩, hb⟩ := h
  rcases h2 with ⟨e, _⟩ | ⟨g, cap, cur, e, hB, hg, hn, hm, hs, ht⟩
  · cases e
  · injection e with e1 e2 e3
    injection e1 with e1
    injection e1 with e1
    subst e1
    refine ⟨cur, hg, fun j s hj => ?_⟩
    have h : (cur.toList.take (ws.length * 1))[j]? = some (.string s) := by rw [ht, List.getElem?_map, hj]; rfl
    rw [List.getElem?_take] at h
    split at h
    · rw [Nat.zero_add, ← Array.getElem?_toList]
      exact h
    · cases h
end Go.Proofs.YthaijjehplomfaaDoor

namespace Go.Proofs.YthaijjehplomfaaDoor
open Go Go.RowKit
set_option linter.unusedVariables false
set_option maxHeartbeats 1000000
set_option maxRecDepth 20000

/-- The lines of a text. -/
def lnsG : List UInt8 → List UInt8 → List (List UInt8)
  | [], cur => if cur = [] then [] else [cur]
  | c :: r, cur => if c = 10 then cur :: lnsG r [] else lnsG r (cur ++ [c])
theorem lns_app (a r : List UInt8) (h : ∀ x ∈ a, x ≠ 10) : ∀ cur, lnsG (a ++ r) cur = lnsG r (cur ++ a) := by
  induction a with
  | nil => intro cur; simp
  | cons c a ih =>
    intro cur
    show lnsG (c :: (a ++ r)) cur = _
    conv => lhs; unfold lnsG
    rw [if_neg (h c (by simp)), ih (fun x hx => h x (by simp [hx])), List.append_assoc]
    rfl
theorem lns_hit (a b : List UInt8) (h : ∀ x ∈ a, x ≠ 10) : lnsG (a ++ 10 :: b) [] = a :: lnsG b [] := by
  rw [lns_app a _ h]
  conv => lhs; unfold lnsG
  rw [if_pos rfl, List.nil_append]
theorem lns_no (a : List UInt8) (h : ∀ x ∈ a, x ≠ 10) (ha : a ≠ []) : lnsG a [] = [a] := by
  have := lns_app a [] h []
  rw [List.append_nil, List.nil_append] at this
  rw [this]
  conv => lhs; unfold lnsG
  rw [if_neg ha]
/-- How many words a line has at most, and how long they are. -/
theorem words_bnd (l : List UInt8) : ∀ cur : List UInt8, (wordsG l cur).length ≤ l.length + min 1 cur.length ∧ ∀ x ∈ wordsG l cur, x.length ≤ cur.length + l.length := by
  have push : ∀ cur : List UInt8, (pushW cur).length ≤ min 1 cur.length ∧ ∀ x ∈ pushW cur, x.length ≤ cur.length := by
    intro cur
    unfold pushW
    split
    · exact ⟨by simp, fun x hx => by simp at hx⟩
    · rename_i h
      have : 1 ≤ cur.length := by
        rcases cur with _ | ⟨c, r⟩
        · exact absurd rfl h
        · simp
      refine ⟨by simp; omega, fun x hx => ?_⟩
      simp at hx
      rw [hx]
      exact Nat.le_refl _
  induction l with
  | nil =>
    intro cur
    have h := push cur
    exact ⟨by show (pushW cur).length ≤ _; simp only [List.length_nil]; omega, fun x hx => by have := h.2 x hx; simp only [List.length_nil]; omega⟩
  | cons c r ih =>
    intro cur
    have h := push cur
    unfold wordsG
    split
    · exact ⟨by simp only [List.length_cons]; omega, fun x hx => by have := h.2 x hx; simp only [List.length_cons]; omega⟩
    · split
      · have i := ih []
        refine ⟨by rw [List.length_append]; have := i.1; simp only [List.length_cons, List.length_nil] at *; omega, fun x hx => ?_⟩
        rcases List.mem_append.1 hx with hx | hx
        · have := h.2 x hx; simp only [List.length_cons]; omega
        · have := i.2 x hx; simp only [List.length_cons, List.length_nil] at *; omega
      · have i := ih (cur ++ [c])
        have e : (cur ++ [c]).length = cur.length + 1 := by simp
        rw [e] at i
        exact ⟨by have := i.1; simp only [List.length_cons]; omega, fun x hx => by have := i.2 x hx; simp only [List.length_cons]; omega⟩
theorem wordsA_len (l : List UInt8) : (wordsA l).length ≤ l.length := by
  have := (words_bnd l []).1
  unfold wordsA
  rw [List.length_map]
  simpa using this
theorem wordsA_sz (l : List UInt8) (x : ByteArray) (hx : x ∈ wordsA l) : x.size ≤ l.length := by
  unfold wordsA at hx
  obtain ⟨y, hy, rfl⟩ := List.mem_map.1 hx
  have := (words_bnd l []).2 y hy
  simp only [List.length_nil, Nat.zero_add] at this
  show y.toArray.size ≤ _
  rw [List.size_toArray]
  exact this
/-- What is so of what lines have told. -/
structure StOk (t : Sta) : Prop where
  us : 2 * t.2.2.length ≤ t.1.length
  go : ∀ u ∈ t.2.2, OdR u.o ∧ u.pl + 1 < t.1.length
  lb : ∀ s a, t.2.1 s = some a → a < 65536
theorem StOk.more {bs d : List UInt8} {F : ByteArray → Option Nat} {us : List Us} (h : StOk (bs, F, us)) : StOk (bs ++ d, F, us) :=
  ⟨by have := h.us; simp only [List.length_append] at *; omega, fun u hu => ⟨(h.go u hu).1, by have := (h.go u hu).2; simp only [List.length_append] at *; omega⟩, h.lb⟩
theorem rdO_R {ws : List (List UInt8)} {o : Od} (h : rdO ws = some o) : OdR o := by
  unfold rdO at h
  split at h
  · cases h
  · split at h
    · cases h
    · split at h
      · rename_i he
        injection h with h
        subst h
        obtain ⟨x, hx⟩ := Option.isSome_iff_exists.1 he
        exact enc_R hx
      · cases h
theorem encB_len (o : Od) : (encB o).length = 2 := rfl
theorem tak_ok {n : Nat} {s : ByteArray} {r : List ByteArray} {t t' : Sta} (h : takP n s r t = some t') (hl : t.1.length ≤ 3232) (k : StOk t) : StOk t' := by
  obtain ⟨bs, F, us⟩ := t
  unfold takP at h
  split at h
  · unfold datP at h
    split at h
    · cases h
    · rcases hd : datW r with _ | d
      · rw [hd] at h; cases h
      · rw [hd] at h
        injection h with h
        subst h
        exact k.more
  · split at h
    · unfold labP at h
      split at h
      · injection h with h
        subst h
        refine ⟨k.us, k.go, fun s a hs => ?_⟩
        simp only [putN] at hs
        split at hs
        · injection hs with hs
          subst hs
          simp only at hl
          omega
        · exact k.lb s a hs
      · cases h
    · split at h
      · unfold useP at h
        rcases ho : rdO (useW s) with _ | o
        · rw [ho] at h; cases h
        · rw [ho] at h
          simp only at h
          split at h
          · injection h with h
            subst h
            refine ⟨?_, fun u hu => ?_, k.lb⟩
            · have := k.us
              simp only [List.length_append, List.length_cons, List.length_nil, encB_len] at *
              omega
            · rcases List.mem_append.1 hu with hu | hu
              · exact ⟨(k.go u hu).1, by have := (k.go u hu).2; simp only [List.length_append, encB_len] at *; omega⟩
              · simp only [List.mem_singleton] at hu
                subst hu
                exact ⟨rdO_R ho, by simp only [List.length_append, encB_len]; omega⟩
          · cases h
      · unfold readP at h
        split at h
        · cases h
        · injection h with h
          subst h
          exact k.more
/-- One line. -/
def stepL (n : Nat) (l : List UInt8) (t : Sta) : (Nat × Nat) ⊕ Sta :=
  match wordsA l with
  | [] => .inr t
  | s :: r => match takP n s r t with
    | none => .inl (161, n)
    | some t' => if 3232 < t'.1.length then .inl (2, n) else .inr t'
/-- Lines, the first one's number told. -/
def linesP : Nat → List (List UInt8) → Sta → (Nat × Nat) ⊕ Sta
  | _, [], t => .inr t
  | n, l :: ls, t => match stepL n l t with
    | .inl e => .inl e
    | .inr t' => linesP (n + 1) ls t'
def endP (t : Sta) : (Nat × Nat) ⊕ List UInt8 := match setP t.2.1 t.2.2 t.1 with
  | .inl n => .inl (160, n)
  | .inr bs => .inr bs
/-- A program's text: the error's number and line, or the bytes. -/
def progP (s : List UInt8) : (Nat × Nat) ⊕ List UInt8 :=
  if 65536 < s.length then .inl (2, 0) else match linesP 1 (lnsG s []) ([], fun _ => none, []) with
  | .inl e => .inl e
  | .inr t => endP t
theorem ok0 : StOk ([], fun _ => none, []) := ⟨by decide, fun u hu => by simp at hu, fun s a h => by cases h⟩
end Go.Proofs.YthaijjehplomfaaDoor
