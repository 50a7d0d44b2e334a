/- The document's own: a line as an item: an order. -/
import Derived.Test.YthaijjehplomfaaDoorJ34
namespace Go.Proofs.YthaijjehplomfaaDoor
open Go Go.RowKit
set_option linter.unusedVariables false
set_option maxHeartbeats 1000000
set_option maxRecDepth 20000

theorem fill2 (p q : Nat) : Instr.fill (fun i => some (i * 1, 1)) ((Array.range (2 * 1)).map ((Value.int IntKind.u8 0).cells[· % (Value.int IntKind.u8 0).cells.size]!)) [(0, .int .u8 (p : Int)), (1, .int .u8 (q : Int))] = some #[.int .u8 (p : Int), .int .u8 (q : Int)] := by kernel_rfl
theorem at_bs2 {ops : Array Oper} {rest : List Oper} {o : Oper} {a : Act} {w : World} {Q : Exit → Act → World → Prop} (p q : Nat) (x y : Operand) (hgd : o.guard = none) (ho : o.op = .buildSlice 45 2 #[(0, x), (1, y)]) (hx : a.eval x = .int .u8 (p : Int)) (hy : a.eval y = .int .u8 (q : Int))
    (k : wpList Tryd.prog ops Q rest (a.put o.dst (.slice (some ⟨w.heap.size, 0, none⟩) 2 2)) (w.alloc (.cells #[.int .u8 (p : Int), .int .u8 (q : Int)] 5))) : wpList Tryd.prog ops Q (o :: rest) a w := by
  obtain ⟨i, hi, e⟩ := Option.map_eq_some_iff.1 infoU
  injection e with e1 e2
  injection e2 with e2 e3
  refine wpList_buildSlice hgd 45 5 2 #[(0, x), (1, y)] ho #[.int .u8 (p : Int), .int .u8 (q : Int)] i _ Tryd.underlying45 hi e1 (by rw [e2]; decide) (by rw [e2]; decide) ?_ k
  rw [e2]
  have e : (#[(0, x), (1, y)].map fun (i, x) => (i, a.eval x)).toList = [(0, .int .u8 (p : Int)), (1, .int .u8 (q : Int))] := by simp [hx, hy]
  rw [e]
  exact fill2 p q
/-- What is answered of an order's words. -/
def IoE (w : World) (r : Option Od) (e : Ending) (z : World) : Prop := match r with
  | none => e = .returned (.tuple #[.agg (it4 (.slice none 0 0) ⟨#[]⟩ ⟨#[]⟩ 0), .bool false]) ∧ Below w.heap.size w z
  | some o => ∃ A, e = .returned (.tuple #[.agg (it4 (.slice (some ⟨A, 0, none⟩) 2 2) ⟨#[]⟩ ⟨#[]⟩ 0), .bool true]) ∧ w.heap.size ≤ A ∧ Bx z A #[.int .u8 (((encW o).getD 0 / 256 : Nat) : Int), .int .u8 (((encW o).getD 0 % 256 : Nat) : Int)] 5 ∧ Below w.heap.size w z
theorem item_c (w : World) (gs os cap m n : Nat) (ws : List ByteArray) (s0 : ByteArray) (hm : Hid (ws.length = m)) (hm1 : 1 ≤ m) (hm2 : (m : Int) ≤ 4294967290) (hLB : Hid (∀ z, Below w.heap.size w z → LiesL 1 strC z (some ⟨gs, os, none⟩) ws)) (hsz : Hid (∀ s ∈ ws, s.size ≤ 4294967280)) (hs0 : ws[0]? = some s0) (hn : s0.size = n + 1) (hd : ¬ s0 = ⟨#[100, 97, 116, 97]⟩) (h1 : m ≠ 1) (h3 : m ≠ 3) :
    Calls Tryd.prog 53 #[.slice (some ⟨gs, os, none⟩) m cap] w (IoE w (rdO (ws.map (·.data.toList)))) := by
  have hF : Hid (Fm w [(w.heap.size, it0, 111)] (w.alloc (.cells it0 111))) := Fm.one w _ _
  have ix0 : ∀ z, (Instr.indexAt 70 (.slice (some ⟨gs, os, none⟩) m cap) (.int .i64 0)).run Tryd.prog z = .ok (.pointer (some ⟨gs, os, none⟩)) z := fun z => by
    have h := idxW (g := gs) (off := os) (len := m) (cap := cap) 0 z hm1
    rw [Nat.add_zero] at h
    exact h
  have hc : Hid (∀ z, Below w.heap.size w z → z.cell? ⟨gs, os, none⟩ = some (.string s0)) := fun z hz => by
    have h := word_at (hLB.out z hz) 0 s0 hs0
    rw [Nat.add_zero] at h
    exact h
  have hsn : s0.size ≤ 4294967280 := hsz.out s0 (List.mem_of_getElem? hs0)
  have wn : IntKind.i64.wrap ((s0.size : Int) - 1) = (n : Int) := by rw [IntKind.wrap_i64]; omega
  have hns : (n : Int) ≤ s0.size := by omega
  have hn0 : (0 : Int) ≤ n := by omega
  have q0 : (s0.toList == [100, 97, 116, 97]) = false := by rw [str_is]; exact decide_eq_false hd
  have hOf := fun z (hL : LiesL 1 strC z (some ⟨gs, os, none⟩) ws) => ofwords_any z gs os cap m ws hm hm1 hm2 hL hsz
  have hrR : ∀ o, rdO (ws.map (·.data.toList)) = some o → OdR o := fun o h => rdO_odr h
  have hrE : ∀ o, rdO (ws.map (·.data.toList)) = some o → (encW o).isSome = true := fun o h => rdO_enc h
  have hix := last_at s0 n hn
  have e1 : ((m : Int) == 1) = false := by simp; omega
  have e3 : ((m : Int) == 3) = false := by simp; omega
  clear h1 h3
  generalize (s0[n]'(by omega)).toNat = c at hix
  generalize rdO (ws.map (·.data.toList)) = r at hOf hrR hrE ⊢
  obtain ⟨X, hX⟩ : ∃ X, r.getD od0 = X := ⟨_, rfl⟩
  unfold ofE at hOf
  rw [hX] at hOf
  unfold IoE
  rcases r with _ | o
  · simp only [Option.isSome_none] at hOf ⊢
    clear hrR hrE hX hn hs0 hd hsn hm1
    go_enter Tryd.func53, Tryd.ntmps53
    go_wp2_with (first
      | ((with_reducible refine at_st rtI w.heap.size it0 it0 ?_ ?_ ?_ ?_ (.tmp 2) (.tmp 126) ?_ ?_ ?_ ?_ ?_); exact K4.out.bx 0 _ _ _ rfl; rfl; rfl; exact it4_one _ _ _ ⟨#[]⟩ ⟨#[]⟩ 0; rfl; rfl; rfl; rfl; intro y5 hw5; have K5 : Hid (Fm w [(w.heap.size, it0, 111), (y2.heap.size, o6 X, 30)] y5) := K4.out.put 0 _ _ _ _ rfl hw5.out)
      | ((with_reducible refine at_st rtO y2.heap.size (o6 od0) (o6 X) ?_ ?_ ?_ ?_ (.tmp 13) (.tmp 122) ?_ ?_ ?_ ?_ ?_); exact K3.out.bx 1 _ _ _ rfl; rfl; rfl; exact o6_one _; rfl; rfl; rfl; rfl; intro y4 hw4; have K4 : Hid (Fm w [(w.heap.size, it0, 111), (y2.heap.size, o6 X, 30)] y4) := K3.out.put 1 _ _ _ _ rfl hw4.out)
      | ((with_reducible refine gen_world (y2.alloc (.cells #[.int .u8 0, .int .u8 0, .int .u8 0, .int .u8 0, .int .u8 0, .int .u16 0] 30)) (Fm w [(w.heap.size, it0, 111), (y2.heap.size, o6 od0, 30)]) ?_ ?_); exact K2.out.new _ _; intro y3 K3)
      | (go_at_call 30; refine (hOf _ (hLB.out _ K1.out.low)).mono ?_; rintro e y2 ⟨rfl, hb2⟩; have K2 : Hid (Fm w [(w.heap.size, it0, 111)] y2) := K1.out.below hb2; clear hb2)
      | ((with_reducible refine gen_world (w.alloc (.cells it0 111)) (Fm w [(w.heap.size, it0, 111)]) hF.out ?_); intro y1 K1; have cS := hc.out y1 K1.out.low))
    exact ret_two (v := .bool false) rtI rfl rfl rfl (K5.out.bx 0 _ _ _ rfl) rfl rfl ⟨rfl, K5.out.low⟩
  · have hX' : X = o := hX.symm
    subst hX'
    have hEn := fun z => rencode_any z X (hrR X rfl)
    simp only [Option.isSome_some] at hOf ⊢
    obtain ⟨EV, hEV⟩ : ∃ EV : Int, (if (encW X).isSome then (0 : Int) else 160) = EV := ⟨_, rfl⟩
    rw [hEV] at hEn
    have hEW : (encW X).getD 0 < 65536 := by
      obtain ⟨x, hx⟩ := Option.isSome_iff_exists.1 (hrE X rfl)
      rw [hx]
      exact enc_lt hx
    generalize (encW X).getD 0 = EW at hEn hEW ⊢
    obtain ⟨hi, hhi⟩ : ∃ hi, Hid (EW / 256 = hi) := ⟨_, (rfl : EW / 256 = _)⟩
    obtain ⟨lo, hlo⟩ : ∃ lo, Hid (EW % 256 = lo) := ⟨_, (rfl : EW % 256 = _)⟩
    have v1 : ((EW : Int).tdiv 256) = (hi : Int) := by rw [Int.tdiv_eq_ediv_of_nonneg (by omega), ← hhi.out]; omega
    have v2 : ((EW : Int).tmod 256) = (lo : Int) := by rw [Int.tmod_eq_emod_of_nonneg (by omega), ← hlo.out]; omega
    have v3 : IntKind.u16.wrap (hi : Int) = (hi : Int) := by have := hhi.out; rw [IntKind.wrap_u16]; omega
    have v4 : IntKind.u16.wrap (lo : Int) = (lo : Int) := by have := hlo.out; rw [IntKind.wrap_u16]; omega
    have v5 : IntKind.u8.wrap (hi : Int) = (hi : Int) := by have := hhi.out; rw [IntKind.wrap_u8]; omega
    have v6 : IntKind.u8.wrap (lo : Int) = (lo : Int) := by have := hlo.out; rw [IntKind.wrap_u8]; omega
    clear hrR hrE hX hn hs0 hd hsn hm1 hEV hEW
    go_enter Tryd.func53, Tryd.ntmps53
    go_wp2_with (first
      | ((with_reducible refine at_st rtI w.heap.size it0 (it4 (.slice (some ⟨y5.heap.size, 0, none⟩) 2 2) ⟨#[]⟩ ⟨#[]⟩ 0) ?_ ?_ ?_ ?_ (.tmp 2) (.tmp 139) ?_ ?_ ?_ ?_ ?_); exact K6.out.bx 0 _ _ _ rfl; rfl; rfl; exact it4_one _ _ _ _ _ _; rfl; rfl; rfl; rfl; intro y7 hw7; have K7 : Hid (Fm w [(w.heap.size, it4 (.slice (some ⟨y5.heap.size, 0, none⟩) 2 2) ⟨#[]⟩ ⟨#[]⟩ 0, 111), (y2.heap.size, o6 X, 30), (y5.heap.size, #[.int .u8 (hi : Int), .int .u8 (lo : Int)], 5)] y7) := K6.out.put 0 _ _ _ _ rfl hw7.out)
      | ((with_reducible refine at_bs2 hi lo (.tmp 134) (.tmp 137) ?_ ?_ ?_ ?_ ?_); rfl; rfl; rfl; rfl; have K6 : Hid (Fm w [(w.heap.size, it0, 111), (y2.heap.size, o6 X, 30), (y5.heap.size, #[.int .u8 (hi : Int), .int .u8 (lo : Int)], 5)] (y5.alloc (.cells #[.int .u8 (hi : Int), .int .u8 (lo : Int)] 5))) := K5.out.new _ _)
      | (go_at_call 9; refine (hEn _).mono ?_; rintro e y5 ⟨rfl, hb5⟩; have K5 : Hid (Fm w [(w.heap.size, it0, 111), (y2.heap.size, o6 X, 30)] y5) := K4.out.below hb5; clear hb5)
      | ((with_reducible refine at_load rtO y2.heap.size (o6 X) ?_ ?_ (.tmp 13) ?_ ?_ ?_ ?_); exact K4.out.bx 1 _ _ _ rfl; rfl; kernel_rfl; rfl; rfl)
      | ((with_reducible refine at_st rtO y2.heap.size (o6 od0) (o6 X) ?_ ?_ ?_ ?_ (.tmp 13) (.tmp 122) ?_ ?_ ?_ ?_ ?_); exact K3.out.bx 1 _ _ _ rfl; rfl; rfl; exact o6_one _; rfl; rfl; rfl; rfl; intro y4 hw4; have K4 : Hid (Fm w [(w.heap.size, it0, 111), (y2.heap.size, o6 X, 30)] y4) := K3.out.put 1 _ _ _ _ rfl hw4.out)
      | ((with_reducible refine gen_world (y2.alloc (.cells #[.int .u8 0, .int .u8 0, .int .u8 0, .int .u8 0, .int .u8 0, .int .u16 0] 30)) (Fm w [(w.heap.size, it0, 111), (y2.heap.size, o6 od0, 30)]) ?_ ?_); exact K2.out.new _ _; intro y3 K3)
      | (go_at_call 30; refine (hOf _ (hLB.out _ K1.out.low)).mono ?_; rintro e y2 ⟨rfl, hb2⟩; have K2 : Hid (Fm w [(w.heap.size, it0, 111)] y2) := K1.out.below hb2; clear hb2)
      | ((with_reducible refine gen_world (w.alloc (.cells it0 111)) (Fm w [(w.heap.size, it0, 111)]) hF.out ?_); intro y1 K1; have cS := hc.out y1 K1.out.low))
    exact ret_two (v := .bool true) rtI rfl rfl rfl (K7.out.bx 0 _ _ _ rfl) rfl rfl ⟨_, rfl, K5.out.low.size, by rw [hhi.out, hlo.out]; exact K7.out.bx 2 _ _ _ rfl, K7.out.low⟩
theorem item_a (w : World) (gs os cap m n : Nat) (ws : List ByteArray) (s0 : ByteArray) (hm : Hid (ws.length = m)) (hm1 : 1 ≤ m) (hm2 : (m : Int) ≤ 4294967290) (hLB : Hid (∀ z, Below w.heap.size w z → LiesL 1 strC z (some ⟨gs, os, none⟩) ws)) (hsz : Hid (∀ s ∈ ws, s.size ≤ 4294967280)) (hs0 : ws[0]? = some s0) (hn : s0.size = n + 1) (hd : ¬ s0 = ⟨#[100, 97, 116, 97]⟩) (h1 : m = 1) (hc58 : s0[n]'(by omega) ≠ 58) :
    Calls Tryd.prog 53 #[.slice (some ⟨gs, os, none⟩) m cap] w (IoE w (rdO (ws.map (·.data.toList)))) := by
  have hF : Hid (Fm w [(w.heap.size, it0, 111)] (w.alloc (.cells it0 111))) := Fm.one w _ _
  have ix0 : ∀ z, (Instr.indexAt 70 (.slice (some ⟨gs, os, none⟩) m cap) (.int .i64 0)).run Tryd.prog z = .ok (.pointer (some ⟨gs, os, none⟩)) z := fun z => by
    have h := idxW (g := gs) (off := os) (len := m) (cap := cap) 0 z hm1
    rw [Nat.add_zero] at h
    exact h
  have hc : Hid (∀ z, Below w.heap.size w z → z.cell? ⟨gs, os, none⟩ = some (.string s0)) := fun z hz => by
    have h := word_at (hLB.out z hz) 0 s0 hs0
    rw [Nat.add_zero] at h
    exact h
  have hsn : s0.size ≤ 4294967280 := hsz.out s0 (List.mem_of_getElem? hs0)
  have wn : IntKind.i64.wrap ((s0.size : Int) - 1) = (n : Int) := by rw [IntKind.wrap_i64]; omega
  have hns : (n : Int) ≤ s0.size := by omega
  have hn0 : (0 : Int) ≤ n := by omega
  have q0 : (s0.toList == [100, 97, 116, 97]) = false := by rw [str_is]; exact decide_eq_false hd
  have hOf := fun z (hL : LiesL 1 strC z (some ⟨gs, os, none⟩) ws) => ofwords_any z gs os cap m ws hm hm1 hm2 hL hsz
  have hrR : ∀ o, rdO (ws.map (·.data.toList)) = some o → OdR o := fun o h => rdO_odr h
  have hrE : ∀ o, rdO (ws.map (·.data.toList)) = some o → (encW o).isSome = true := fun o h => rdO_enc h
  have hix := last_at s0 n hn
  have e1 : ((m : Int) == 1) = true := by simp; omega
  have e3 : ((m : Int) == 3) = false := by simp; omega
  have hc5 : (s0[n]'(by omega)).toNat ≠ 58 := fun e => hc58 (UInt8.toNat_inj.1 e)
  have e5 : (((s0[n]'(by omega)).toNat : Int) == 58) = false := by simp; omega
  clear h1 hc58 hc5
  generalize (s0[n]'(by omega)).toNat = c at hix e5
  generalize rdO (ws.map (·.data.toList)) = r at hOf hrR hrE ⊢
  obtain ⟨X, hX⟩ : ∃ X, r.getD od0 = X := ⟨_, rfl⟩
  unfold ofE at hOf
  rw [hX] at hOf
  unfold IoE
  rcases r with _ | o
  · simp only [Option.isSome_none] at hOf ⊢
    clear hrR hrE hX hn hs0 hd hsn hm1
    go_enter Tryd.func53, Tryd.ntmps53
    go_wp2_with (first
      | ((with_reducible refine at_st rtI w.heap.size it0 it0 ?_ ?_ ?_ ?_ (.tmp 2) (.tmp 126) ?_ ?_ ?_ ?_ ?_); exact K4.out.bx 0 _ _ _ rfl; rfl; rfl; exact it4_one _ _ _ ⟨#[]⟩ ⟨#[]⟩ 0; rfl; rfl; rfl; rfl; intro y5 hw5; have K5 : Hid (Fm w [(w.heap.size, it0, 111), (y2.heap.size, o6 X, 30)] y5) := K4.out.put 0 _ _ _ _ rfl hw5.out)
      | ((with_reducible refine at_st rtO y2.heap.size (o6 od0) (o6 X) ?_ ?_ ?_ ?_ (.tmp 13) (.tmp 122) ?_ ?_ ?_ ?_ ?_); exact K3.out.bx 1 _ _ _ rfl; rfl; rfl; exact o6_one _; rfl; rfl; rfl; rfl; intro y4 hw4; have K4 : Hid (Fm w [(w.heap.size, it0, 111), (y2.heap.size, o6 X, 30)] y4) := K3.out.put 1 _ _ _ _ rfl hw4.out)
      | ((with_reducible refine gen_world (y2.alloc (.cells #[.int .u8 0, .int .u8 0, .int .u8 0, .int .u8 0, .int .u8 0, .int .u16 0] 30)) (Fm w [(w.heap.size, it0, 111), (y2.heap.size, o6 od0, 30)]) ?_ ?_); exact K2.out.new _ _; intro y3 K3)
      | (go_at_call 30; refine (hOf _ (hLB.out _ K1.out.low)).mono ?_; rintro e y2 ⟨rfl, hb2⟩; have K2 : Hid (Fm w [(w.heap.size, it0, 111)] y2) := K1.out.below hb2; clear hb2)
      | ((with_reducible refine gen_world (w.alloc (.cells it0 111)) (Fm w [(w.heap.size, it0, 111)]) hF.out ?_); intro y1 K1; have cS := hc.out y1 K1.out.low))
    exact ret_two (v := .bool false) rtI rfl rfl rfl (K5.out.bx 0 _ _ _ rfl) rfl rfl ⟨rfl, K5.out.low⟩
  · have hX' : X = o := hX.symm
    subst hX'
    have hEn := fun z => rencode_any z X (hrR X rfl)
    simp only [Option.isSome_some] at hOf ⊢
    obtain ⟨EV, hEV⟩ : ∃ EV : Int, (if (encW X).isSome then (0 : Int) else 160) = EV := ⟨_, rfl⟩
    rw [hEV] at hEn
    have hEW : (encW X).getD 0 < 65536 := by
      obtain ⟨x, hx⟩ := Option.isSome_iff_exists.1 (hrE X rfl)
      rw [hx]
      exact enc_lt hx
    generalize (encW X).getD 0 = EW at hEn hEW ⊢
    obtain ⟨hi, hhi⟩ : ∃ hi, Hid (EW / 256 = hi) := ⟨_, (rfl : EW / 256 = _)⟩
    obtain ⟨lo, hlo⟩ : ∃ lo, Hid (EW % 256 = lo) := ⟨_, (rfl : EW % 256 = _)⟩
    have v1 : ((EW : Int).tdiv 256) = (hi : Int) := by rw [Int.tdiv_eq_ediv_of_nonneg (by omega), ← hhi.out]; omega
    have v2 : ((EW : Int).tmod 256) = (lo : Int) := by rw [Int.tmod_eq_emod_of_nonneg (by omega), ← hlo.out]; omega
    have v3 : IntKind.u16.wrap (hi : Int) = (hi : Int) := by have := hhi.out; rw [IntKind.wrap_u16]; omega
    have v4 : IntKind.u16.wrap (lo : Int) = (lo : Int) := by have := hlo.out; rw [IntKind.wrap_u16]; omega
    have v5 : IntKind.u8.wrap (hi : Int) = (hi : Int) := by have := hhi.out; rw [IntKind.wrap_u8]; omega
    have v6 : IntKind.u8.wrap (lo : Int) = (lo : Int) := by have := hlo.out; rw [IntKind.wrap_u8]; omega
    clear hrR hrE hX hn hs0 hd hsn hm1 hEV hEW
    go_enter Tryd.func53, Tryd.ntmps53
    go_wp2_with (first
      | ((with_reducible refine at_st rtI w.heap.size it0 (it4 (.slice (some ⟨y5.heap.size, 0, none⟩) 2 2) ⟨#[]⟩ ⟨#[]⟩ 0) ?_ ?_ ?_ ?_ (.tmp 2) (.tmp 139) ?_ ?_ ?_ ?_ ?_); exact K6.out.bx 0 _ _ _ rfl; rfl; rfl; exact it4_one _ _ _ _ _ _; rfl; rfl; rfl; rfl; intro y7 hw7; have K7 : Hid (Fm w [(w.heap.size, it4 (.slice (some ⟨y5.heap.size, 0, none⟩) 2 2) ⟨#[]⟩ ⟨#[]⟩ 0, 111), (y2.heap.size, o6 X, 30), (y5.heap.size, #[.int .u8 (hi : Int), .int .u8 (lo : Int)], 5)] y7) := K6.out.put 0 _ _ _ _ rfl hw7.out)
      | ((with_reducible refine at_bs2 hi lo (.tmp 134) (.tmp 137) ?_ ?_ ?_ ?_ ?_); rfl; rfl; rfl; rfl; have K6 : Hid (Fm w [(w.heap.size, it0, 111), (y2.heap.size, o6 X, 30), (y5.heap.size, #[.int .u8 (hi : Int), .int .u8 (lo : Int)], 5)] (y5.alloc (.cells #[.int .u8 (hi : Int), .int .u8 (lo : Int)] 5))) := K5.out.new _ _)
      | (go_at_call 9; refine (hEn _).mono ?_; rintro e y5 ⟨rfl, hb5⟩; have K5 : Hid (Fm w [(w.heap.size, it0, 111), (y2.heap.size, o6 X, 30)] y5) := K4.out.below hb5; clear hb5)
      | ((with_reducible refine at_load rtO y2.heap.size (o6 X) ?_ ?_ (.tmp 13) ?_ ?_ ?_ ?_); exact K4.out.bx 1 _ _ _ rfl; rfl; kernel_rfl; rfl; rfl)
      | ((with_reducible refine at_st rtO y2.heap.size (o6 od0) (o6 X) ?_ ?_ ?_ ?_ (.tmp 13) (.tmp 122) ?_ ?_ ?_ ?_ ?_); exact K3.out.bx 1 _ _ _ rfl; rfl; rfl; exact o6_one _; rfl; rfl; rfl; rfl; intro y4 hw4; have K4 : Hid (Fm w [(w.heap.size, it0, 111), (y2.heap.size, o6 X, 30)] y4) := K3.out.put 1 _ _ _ _ rfl hw4.out)
      | ((with_reducible refine gen_world (y2.alloc (.cells #[.int .u8 0, .int .u8 0, .int .u8 0, .int .u8 0, .int .u8 0, .int .u16 0] 30)) (Fm w [(w.heap.size, it0, 111), (y2.heap.size, o6 od0, 30)]) ?_ ?_); exact K2.out.new _ _; intro y3 K3)
      | (go_at_call 30; refine (hOf _ (hLB.out _ K1.out.low)).mono ?_; rintro e y2 ⟨rfl, hb2⟩; have K2 : Hid (Fm w [(w.heap.size, it0, 111)] y2) := K1.out.below hb2; clear hb2)
      | ((with_reducible refine gen_world (w.alloc (.cells it0 111)) (Fm w [(w.heap.size, it0, 111)]) hF.out ?_); intro y1 K1; have cS := hc.out y1 K1.out.low))
    exact ret_two (v := .bool true) rtI rfl rfl rfl (K7.out.bx 0 _ _ _ rfl) rfl rfl ⟨_, rfl, K5.out.low.size, by rw [hhi.out, hlo.out]; exact K7.out.bx 2 _ _ _ rfl, K7.out.low⟩
theorem item_b (w : World) (gs os cap m n : Nat) (ws : List ByteArray) (s0 : ByteArray) (hm : Hid (ws.length = m)) (hm1 : 1 ≤ m) (hm2 : (m : Int) ≤ 4294967290) (hLB : Hid (∀ z, Below w.heap.size w z → LiesL 1 strC z (some ⟨gs, os, none⟩) ws)) (hsz : Hid (∀ s ∈ ws, s.size ≤ 4294967280)) (hs0 : ws[0]? = some s0) (hn : s0.size = n + 1) (hd : ¬ s0 = ⟨#[100, 97, 116, 97]⟩) (x1 : ByteArray) (h3 : m = 3) (hs1 : ws[1]? = some x1) (ht : ¬ x1 = ⟨#[116, 111]⟩) :
    Calls Tryd.prog 53 #[.slice (some ⟨gs, os, none⟩) m cap] w (IoE w (rdO (ws.map (·.data.toList)))) := by
  have hF : Hid (Fm w [(w.heap.size, it0, 111)] (w.alloc (.cells it0 111))) := Fm.one w _ _
  have ix0 : ∀ z, (Instr.indexAt 70 (.slice (some ⟨gs, os, none⟩) m cap) (.int .i64 0)).run Tryd.prog z = .ok (.pointer (some ⟨gs, os, none⟩)) z := fun z => by
    have h := idxW (g := gs) (off := os) (len := m) (cap := cap) 0 z hm1
    rw [Nat.add_zero] at h
    exact h
  have hc : Hid (∀ z, Below w.heap.size w z → z.cell? ⟨gs, os, none⟩ = some (.string s0)) := fun z hz => by
    have h := word_at (hLB.out z hz) 0 s0 hs0
    rw [Nat.add_zero] at h
    exact h
  have hsn : s0.size ≤ 4294967280 := hsz.out s0 (List.mem_of_getElem? hs0)
  have wn : IntKind.i64.wrap ((s0.size : Int) - 1) = (n : Int) := by rw [IntKind.wrap_i64]; omega
  have hns : (n : Int) ≤ s0.size := by omega
  have hn0 : (0 : Int) ≤ n := by omega
  have q0 : (s0.toList == [100, 97, 116, 97]) = false := by rw [str_is]; exact decide_eq_false hd
  have hOf := fun z (hL : LiesL 1 strC z (some ⟨gs, os, none⟩) ws) => ofwords_any z gs os cap m ws hm hm1 hm2 hL hsz
  have hrR : ∀ o, rdO (ws.map (·.data.toList)) = some o → OdR o := fun o h => rdO_odr h
  have hrE : ∀ o, rdO (ws.map (·.data.toList)) = some o → (encW o).isSome = true := fun o h => rdO_enc h
  have hix := last_at s0 n hn
  have e1 : ((m : Int) == 1) = false := by simp; omega
  have e3 : ((m : Int) == 3) = true := by simp; omega
  have ix1 : ∀ z, (Instr.indexAt 70 (.slice (some ⟨gs, os, none⟩) m cap) (.int .i64 1)).run Tryd.prog z = .ok (.pointer (some ⟨gs, os + 1, none⟩)) z := fun z => idxW (g := gs) (off := os) (len := m) (cap := cap) 1 z (by omega)
  have hc1 : Hid (∀ z, Below w.heap.size w z → z.cell? ⟨gs, os + 1, none⟩ = some (.string x1)) := fun z hz => word_at (hLB.out z hz) 1 x1 hs1
  have q1 : (x1.toList == [116, 111]) = false := by rw [str_is]; exact decide_eq_false ht
  clear h3 hs1 ht
  generalize (s0[n]'(by omega)).toNat = c at hix
  generalize rdO (ws.map (·.data.toList)) = r at hOf hrR hrE ⊢
  obtain ⟨X, hX⟩ : ∃ X, r.getD od0 = X := ⟨_, rfl⟩
  unfold ofE at hOf
  rw [hX] at hOf
  unfold IoE
  rcases r with _ | o
  · simp only [Option.isSome_none] at hOf ⊢
    clear hrR hrE hX hn hs0 hd hsn hm1
    go_enter Tryd.func53, Tryd.ntmps53
    go_wp2_with (first
      | ((with_reducible refine at_st rtI w.heap.size it0 it0 ?_ ?_ ?_ ?_ (.tmp 2) (.tmp 126) ?_ ?_ ?_ ?_ ?_); exact K4.out.bx 0 _ _ _ rfl; rfl; rfl; exact it4_one _ _ _ ⟨#[]⟩ ⟨#[]⟩ 0; rfl; rfl; rfl; rfl; intro y5 hw5; have K5 : Hid (Fm w [(w.heap.size, it0, 111), (y2.heap.size, o6 X, 30)] y5) := K4.out.put 0 _ _ _ _ rfl hw5.out)
      | ((with_reducible refine at_st rtO y2.heap.size (o6 od0) (o6 X) ?_ ?_ ?_ ?_ (.tmp 13) (.tmp 122) ?_ ?_ ?_ ?_ ?_); exact K3.out.bx 1 _ _ _ rfl; rfl; rfl; exact o6_one _; rfl; rfl; rfl; rfl; intro y4 hw4; have K4 : Hid (Fm w [(w.heap.size, it0, 111), (y2.heap.size, o6 X, 30)] y4) := K3.out.put 1 _ _ _ _ rfl hw4.out)
      | ((with_reducible refine gen_world (y2.alloc (.cells #[.int .u8 0, .int .u8 0, .int .u8 0, .int .u8 0, .int .u8 0, .int .u16 0] 30)) (Fm w [(w.heap.size, it0, 111), (y2.heap.size, o6 od0, 30)]) ?_ ?_); exact K2.out.new _ _; intro y3 K3)
      | (go_at_call 30; refine (hOf _ (hLB.out _ K1.out.low)).mono ?_; rintro e y2 ⟨rfl, hb2⟩; have K2 : Hid (Fm w [(w.heap.size, it0, 111)] y2) := K1.out.below hb2; clear hb2)
      | ((with_reducible refine gen_world (w.alloc (.cells it0 111)) (Fm w [(w.heap.size, it0, 111)]) hF.out ?_); intro y1 K1; have cS := hc.out y1 K1.out.low; have cS1 := hc1.out y1 K1.out.low))
    exact ret_two (v := .bool false) rtI rfl rfl rfl (K5.out.bx 0 _ _ _ rfl) rfl rfl ⟨rfl, K5.out.low⟩
  · have hX' : X = o := hX.symm
    subst hX'
    have hEn := fun z => rencode_any z X (hrR X rfl)
    simp only [Option.isSome_some] at hOf ⊢
    obtain ⟨EV, hEV⟩ : ∃ EV : Int, (if (encW X).isSome then (0 : Int) else 160) = EV := ⟨_, rfl⟩
    rw [hEV] at hEn
    have hEW : (encW X).getD 0 < 65536 := by
      obtain ⟨x, hx⟩ := Option.isSome_iff_exists.1 (hrE X rfl)
      rw [hx]
      exact enc_lt hx
    generalize (encW X).getD 0 = EW at hEn hEW ⊢
    obtain ⟨hi, hhi⟩ : ∃ hi, Hid (EW / 256 = hi) := ⟨_, (rfl : EW / 256 = _)⟩
    obtain ⟨lo, hlo⟩ : ∃ lo, Hid (EW % 256 = lo) := ⟨_, (rfl : EW % 256 = _)⟩
    have v1 : ((EW : Int).tdiv 256) = (hi : Int) := by rw [Int.tdiv_eq_ediv_of_nonneg (by omega), ← hhi.out]; omega
    have v2 : ((EW : Int).tmod 256) = (lo : Int) := by rw [Int.tmod_eq_emod_of_nonneg (by omega), ← hlo.out]; omega
    have v3 : IntKind.u16.wrap (hi : Int) = (hi : Int) := by have := hhi.out; rw [IntKind.wrap_u16]; omega
    have v4 : IntKind.u16.wrap (lo : Int) = (lo : Int) := by have := hlo.out; rw [IntKind.wrap_u16]; omega
    have v5 : IntKind.u8.wrap (hi : Int) = (hi : Int) := by have := hhi.out; rw [IntKind.wrap_u8]; omega
    have v6 : IntKind.u8.wrap (lo : Int) = (lo : Int) := by have := hlo.out; rw [IntKind.wrap_u8]; omega
    clear hrR hrE hX hn hs0 hd hsn hm1 hEV hEW
    go_enter Tryd.func53, Tryd.ntmps53
    go_wp2_with (first
      | ((with_reducible refine at_st rtI w.heap.size it0 (it4 (.slice (some ⟨y5.heap.size, 0, none⟩) 2 2) ⟨#[]⟩ ⟨#[]⟩ 0) ?_ ?_ ?_ ?_ (.tmp 2) (.tmp 139) ?_ ?_ ?_ ?_ ?_); exact K6.out.bx 0 _ _ _ rfl; rfl; rfl; exact it4_one _ _ _ _ _ _; rfl; rfl; rfl; rfl; intro y7 hw7; have K7 : Hid (Fm w [(w.heap.size, it4 (.slice (some ⟨y5.heap.size, 0, none⟩) 2 2) ⟨#[]⟩ ⟨#[]⟩ 0, 111), (y2.heap.size, o6 X, 30), (y5.heap.size, #[.int .u8 (hi : Int), .int .u8 (lo : Int)], 5)] y7) := K6.out.put 0 _ _ _ _ rfl hw7.out)
      | ((with_reducible refine at_bs2 hi lo (.tmp 134) (.tmp 137) ?_ ?_ ?_ ?_ ?_); rfl; rfl; rfl; rfl; have K6 : Hid (Fm w [(w.heap.size, it0, 111), (y2.heap.size, o6 X, 30), (y5.heap.size, #[.int .u8 (hi : Int), .int .u8 (lo : Int)], 5)] (y5.alloc (.cells #[.int .u8 (hi : Int), .int .u8 (lo : Int)] 5))) := K5.out.new _ _)
      | (go_at_call 9; refine (hEn _).mono ?_; rintro e y5 ⟨rfl, hb5⟩; have K5 : Hid (Fm w [(w.heap.size, it0, 111), (y2.heap.size, o6 X, 30)] y5) := K4.out.below hb5; clear hb5)
      | ((with_reducible refine at_load rtO y2.heap.size (o6 X) ?_ ?_ (.tmp 13) ?_ ?_ ?_ ?_); exact K4.out.bx 1 _ _ _ rfl; rfl; kernel_rfl; rfl; rfl)
      | ((with_reducible refine at_st rtO y2.heap.size (o6 od0) (o6 X) ?_ ?_ ?_ ?_ (.tmp 13) (.tmp 122) ?_ ?_ ?_ ?_ ?_); exact K3.out.bx 1 _ _ _ rfl; rfl; rfl; exact o6_one _; rfl; rfl; rfl; rfl; intro y4 hw4; have K4 : Hid (Fm w [(w.heap.size, it0, 111), (y2.heap.size, o6 X, 30)] y4) := K3.out.put 1 _ _ _ _ rfl hw4.out)
      | ((with_reducible refine gen_world (y2.alloc (.cells #[.int .u8 0, .int .u8 0, .int .u8 0, .int .u8 0, .int .u8 0, .int .u16 0] 30)) (Fm w [(w.heap.size, it0, 111), (y2.heap.size, o6 od0, 30)]) ?_ ?_); exact K2.out.new _ _; intro y3 K3)
      | (go_at_call 30; refine (hOf _ (hLB.out _ K1.out.low)).mono ?_; rintro e y2 ⟨rfl, hb2⟩; have K2 : Hid (Fm w [(w.heap.size, it0, 111)] y2) := K1.out.below hb2; clear hb2)
      | ((with_reducible refine gen_world (w.alloc (.cells it0 111)) (Fm w [(w.heap.size, it0, 111)]) hF.out ?_); intro y1 K1; have cS := hc.out y1 K1.out.low; have cS1 := hc1.out y1 K1.out.low))
    exact ret_two (v := .bool true) rtI rfl rfl rfl (K7.out.bx 0 _ _ _ rfl) rfl rfl ⟨_, rfl, K5.out.low.size, by rw [hhi.out, hlo.out]; exact K7.out.bx 2 _ _ _ rfl, K7.out.low⟩
end Go.Proofs.YthaijjehplomfaaDoor
