/- The rows' closures for a yes or no, for bytes, and for what all machines begin with. -/
import Derived.Test.YtehnhjdjjalifaaGreatDoorQ4
namespace Go.Proofs.YtehnhjdjjalifaaGreatDoor
open Go Go.RowKit Go.Shelf
set_option linter.unusedVariables false
set_option maxHeartbeats 2000000
set_option maxRecDepth 20000

theorem nr_b (w : World) (g o n cap : Nat) (x : UInt8) (hx : Hid (w.cell? ⟨g, o, none⟩ = some (.int .u8 (x.toNat : Int)))) (hn0 : Hid (0 < n)) (b bo k : Nat) (caps : Array Value) (hbo : Hid (Bx w bo #[.func (.func k) #[] caps] 80)) (ek : ∀ args w, (callFunc k args).run Tryz.prog w = .ok (.enter k args) w) (R : World → Prop) (hR : Hid (∀ y, R y → y.cell? ⟨g, o, none⟩ = some (.int .u8 (x.toNat : Int)))) (hk : Hid (∀ y, Below w.heap.size w y → Calls Tryz.prog k (#[.pointer (some ⟨b, 0, none⟩), .bool (x == 1)] ++ caps) y fun e w' => e = .returned (.tuple #[]) ∧ R w')) :
    Calls Tryz.prog 101 #[.pointer (some ⟨b, 0, none⟩), .slice (some ⟨g, o, none⟩) n cap, .pointer (some ⟨bo, 0, none⟩)] w fun e w' => e = .returned (.bool (Nat.ble x.toNat 1)) ∧ R w' := by
  have c0 := Bx.c hbo.out 0 _ rfl
  have ix := fun v => idxB .i64 g o n cap 0 v hn0.out
  simp only [Nat.add_zero, Int.cast_ofNat_Int] at ix
  have cx := hx.out
  have e1 : (x == 1) = ((x.toNat : Int) == 1) := by
    by_cases h : x = 1
    · subst h; rfl
    · have : x.toNat ≠ 1 := fun e => h (UInt8.toNat_inj.1 e)
      rw [beq_eq_false_iff_ne.2 h, beq_eq_false_iff_ne.2 (by omega)]
  rw [e1] at hk
  obtain ⟨u, hu⟩ : ∃ z, x.toNat = z := ⟨_, rfl⟩
  rw [hu] at cx hk hR ⊢
  clear hbo hx hu hn0 e1
  by_cases h1 : u = 1
  · subst h1
    go_enter Tryz.func101, Tryz.ntmps101
    go_wp2
    refine region_class_tail 6 (fun y => ∃ n, y = w.drewN n) (by kernel_rfl) (by kernel_rfl) ⟨1, rfl⟩ ?_
    dsimp only [List.take, List.drop]
    repeat (go_big_quiet_step (fail))
    refine wpQuiet_nil ?_
    rintro _ ⟨nq, rfl⟩
    go_wp2_with (go_at_fn k; refine (hk.out _ (below_drewN (Below.refl _ w))).mono ?_; rintro e y1 ⟨rfl, H1⟩; have H1' : Hid (R y1) := H1; have cy := hR.out y1 H1; clear H1)
    go_ret
    exact ⟨rfl, H1'.out⟩
  · have b1 : ((u : Int) == 1) = false := by rw [beq_eq_false_iff_ne]; omega
    rw [b1] at hk
    by_cases h0 : u = 0
    · have b0 : ((u : Int) == 0) = true := by rw [beq_iff_eq]; omega
      have eb : Nat.ble u 1 = true := by subst h0; rfl
      rw [eb]
      clear h1 h0 eb
      go_enter Tryz.func101, Tryz.ntmps101
      go_wp2
      refine region_class_tail 6 (fun y => ∃ n, y = w.drewN n) (by kernel_rfl) (by kernel_rfl) ⟨1, rfl⟩ ?_
      dsimp only [List.take, List.drop]
      repeat (go_big_quiet_step (fail))
      refine wpQuiet_nil ?_
      rintro _ ⟨nq, rfl⟩
      go_wp2_with (go_at_fn k; refine (hk.out _ (below_drewN (Below.refl _ w))).mono ?_; rintro e y1 ⟨rfl, H1⟩; have H1' : Hid (R y1) := H1; have cy := hR.out y1 H1; clear H1)
      go_ret
      exact ⟨rfl, H1'.out⟩
    · have b0 : ((u : Int) == 0) = false := by rw [beq_eq_false_iff_ne]; omega
      have eb : Nat.ble u 1 = false := by
        rcases h : Nat.ble u 1 with _ | _
        · rfl
        · rw [Nat.ble_eq] at h; omega
      rw [eb]
      clear h1 h0 eb
      go_enter Tryz.func101, Tryz.ntmps101
      go_wp2
      refine region_class_tail 6 (fun y => ∃ n, y = w.drewN n) (by kernel_rfl) (by kernel_rfl) ⟨1, rfl⟩ ?_
      dsimp only [List.take, List.drop]
      repeat (go_big_quiet_step (fail))
      refine wpQuiet_nil ?_
      rintro _ ⟨nq, rfl⟩
      go_wp2_with (go_at_fn k; refine (hk.out _ (below_drewN (Below.refl _ w))).mono ?_; rintro e y1 ⟨rfl, H1⟩; have H1' : Hid (R y1) := H1; have cy := hR.out y1 H1; clear H1)
      go_ret
      exact ⟨rfl, H1'.out⟩
theorem nr_l (w : World) (sp : Option Addr) (cap : Nat) (f : List UInt8) (hf : Hid (LB w sp f)) (n : Nat) (hn : Hid (f.length = n)) (hn9 : n ≤ 100000) (b bo k : Nat) (caps : Array Value) (hbo : Hid (Bx w bo #[.func (.func k) #[] caps] 89)) (ek : ∀ args w, (callFunc k args).run Tryz.prog w = .ok (.enter k args) w) (R : World → Prop) (hk : Hid (∀ y g, Below w.heap.size w y → w.heap.size ≤ g → Bx y g (rowL cB f).toArray 5 → Calls Tryz.prog k (#[.pointer (some ⟨b, 0, none⟩), .slice (some ⟨g, 0, none⟩) n n] ++ caps) y fun e w' => e = .returned (.tuple #[]) ∧ R w')) :
    Calls Tryz.prog 110 #[.pointer (some ⟨b, 0, none⟩), .slice sp n cap, .pointer (some ⟨bo, 0, none⟩)] w fun e w' => e = .returned (.bool true) ∧ R w' := by
  obtain ⟨M, hM, hmk⟩ := mk_row kByte n (by omega) (by omega)
  have hli : (n : Int) ≤ 100000 := by omega
  obtain ⟨g, hg⟩ : ∃ g, w.heap.size = g := ⟨_, rfl⟩
  have hmk' := hmk w
  rw [hg] at hmk'
  have hA : Hid ((w.alloc (.cells M 5)).heap[g]? = some (.cells M 5 (0, 0)) ∧ LB (w.alloc (.cells M 5)) sp f ∧ Below g w (w.alloc (.cells M 5))) := ⟨by rw [← hg]; exact alloc_last' w _, hf.out.below (below1 w _), by rw [← hg]; exact below1 w _⟩
  have hM' : Hid (M.size = n) := by show _ = _; omega
  have hgg : Hid (w.heap.size = g) := hg
  clear hn9 hmk hg hM hf
  go_enter Tryz.func110, Tryz.ntmps110
  go_wp2_with (first
    | (refine at_copyF kByte ?_ (.tmp 10) (.tmp 11) ?_ g n sp n cap ?_ ?_ M hA.out.1 f hn.out hA.out.2.1 ?_ ?_; rfl; rfl; rfl; rfl; (rw [hM'.out]; omega); intro w1 H1; have K1 : Hid (Bx w1 g (rowL cB f).toArray 5 ∧ Below w.heap.size w w1) := ⟨H1.out.1, by rw [hgg.out]; exact hA.out.2.2.trans (H1.out.2.1 g (Nat.le_refl _))⟩; clear H1 hA hmk'; have c0 := Bx.c ((K1.out.2.block bo (heap_lt hbo.out)).trans hbo.out) 0 _ rfl)
    | (go_at_fn k; refine (hk.out w1 g K1.out.2 (by rw [hgg.out]; exact Nat.le_refl _) K1.out.1).mono ?_; rintro e y1 ⟨rfl, H1⟩; have H1' : Hid (R y1) := H1; clear H1))
  go_ret
  exact ⟨rfl, H1'.out⟩
theorem sigC : Lib.strCells ⟨#[86, 83, 80, 49]⟩ = rowL cB [86, 83, 80, 49] := by kernel_rfl
theorem own_sig {w : World} {B : Nat} {v : Value} (h : w.ownsRow B 5 1 v (0 + (⟨#[86, 83, 80, 49]⟩ : ByteArray).size) ([] ++ Lib.strCells ⟨#[86, 83, 80, 49]⟩)) : OwnL 5 1 cB B w v [86, 83, 80, 49] := by
  unfold OwnL
  rw [← sigC]
  exact h
theorem below_sig {w w' : World} (h : w.grownBy w' (Value.ownBlock (.slice none 0 0))) : Below w.heap.size w w' := ⟨h.os, h.tape, h.output, h.size, fun k hk => h.block k hk (by simp [Value.ownBlock])⟩
theorem op_w (w : World) (C : Array Value) : Calls Tryz.prog 88 #[.slice none 0 0, .agg C] w fun e w' => ∃ v', e = .returned v' ∧ Hid (KL 5 1 cB w v' [86, 83, 80, 49] w') := by
  have K0 : Hid (Below w.heap.size w (w.alloc (.cells C 34))) := below1 w _
  obtain ⟨i5, hi5, e⟩ := Option.map_eq_some_iff.1 infoBy
  injection e with hz0 e2
  injection e2 with hz1 hz2
  obtain ⟨y0, hy0⟩ : ∃ y, w.alloc (.cells C 34) = y := ⟨_, rfl⟩
  rw [hy0] at K0
  have hN : y0.ownsRow w.heap.size 5 1 (.slice none 0 0) 0 [] := World.ownsRow_nil _ _ _ _
  have hsz : Hid (w.heap.size ≤ y0.heap.size) := K0.out.size
  go_enter Tryz.func88, Tryz.ntmps88
  go_upto_region 1 with (fail)
  clear hy0
  go_wp2_with (at_builtin; refine Lib.wpList_append_own_string _ rfl (.tmp 5) (.const (.string ⟨#[86, 83, 80, 49]⟩)) 31 9 rfl w.heap.size 5 i5 Tryz.underlying31 Tryz.underlying9 hi5 hz0 hz1 hz2 (.slice none 0 0) 0 [] rfl hN ⟨#[86, 83, 80, 49]⟩ rfl ?_ ?_ ?_ ?_; (unfold maxLen; decide); decide; exact hsz.out; intro v3 y3 h3 h4 h5; have K3 : Hid (KL 5 1 cB w v3 [86, 83, 80, 49] y3) := ⟨own_sig h3, K0.out.trans ((below_sig h4).mono K0.out.size)⟩; clear h3 h4 h5)
  go_ret
  exact ⟨v3, rfl, K3⟩
theorem conv20 (w : World) (cap : Nat) : (convert 31 9 (.slice none 0 cap)).run Tryz.prog w = .ok (.string ⟨([] : List UInt8).toArray⟩) w := by kernel_rfl
/-- Bytes that lie in a row, as a string. -/
theorem conv21 {w : World} {sp : Option Addr} {l : List UInt8} (h : LB w sp l) (cap : Nat) : (convert 31 9 (.slice sp l.length cap)).run Tryz.prog w = .ok (.string ⟨l.toArray⟩) w := by
  cases sp with
  | none =>
    have : l = [] := by
      cases l with
      | nil => rfl
      | cons a r => obtain ⟨g, o, e, _⟩ := h 0 a rfl; cases e
    subst this
    exact conv20 w cap
  | some a =>
    refine run_convert_bytes_back (P := Tryz.prog) w 31 9 5 a cap l Tryz.underlying31 Tryz.underlying5 Tryz.underlying9 (fun j hj => ?_)
    obtain ⟨g, o, e, c⟩ := h j _ (List.getElem?_eq_getElem hj)
    cases e
    rw [Addr.add_lit]
    have := c 0 (byV l[j]) rfl
    rwa [Nat.mul_one] at this
theorem op_r (w : World) (sp : Option Addr) (n cap : Nat) (f : List UInt8) (hf : Hid (LB w sp f)) (hn : Hid (f.length = n)) (P0 : Option Addr) : Calls Tryz.prog 89 #[.pointer P0, .slice sp n cap] w fun e w' => e = .returned (.bool (f == [86, 83, 80, 49])) ∧ w' = w := by
  have cv := conv21 hf.out cap
  rw [hn.out] at cv
  obtain ⟨S, hS⟩ : ∃ z : ByteArray, ⟨f.toArray⟩ = z := ⟨_, rfl⟩
  have eS : S.toList = f := by rw [← hS]; exact ByteArray.toList_mk f
  rw [hS] at cv
  clear hS hf hn
  rw [← eS]
  go_enter Tryz.func89, Tryz.ntmps89
  go_wp2
  go_ret
  exact ⟨by rw [eS]; rfl, rfl⟩
end Go.Proofs.YtehnhjdjjalifaaGreatDoor
