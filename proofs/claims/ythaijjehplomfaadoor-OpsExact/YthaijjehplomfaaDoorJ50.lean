/- The law's step: each call that keeps nothing. The law's step: a program, kept; the step whole. -/
import Derived.Test.YthaijjehplomfaaDoorJ49
import Derived.Test.YthaijjehplomfaaDoorJ14
import Derived.Test.YthaijjehplomfaaDoorJ24
import Derived.Test.YthaijjehplomfaaDoorJ34
import Derived.Test.YthaijjehplomfaaDoorJ48
namespace Go.Proofs.YthaijjehplomfaaDoor
open Go Go.RowKit
set_option linter.unusedVariables false
set_option maxHeartbeats 1000000
set_option maxRecDepth 20000

/-- An ask as it lies in memory. -/
def askA (k : Int) (wd : Nat) (o : Od) (s : ByteArray) : Array Value := #[.int .i64 k, .int .u16 (wd : Int), .int .u8 o.op, .int .u8 o.x, .int .u8 o.y, .int .u8 o.n, .int .u8 o.b, .int .u16 o.a, .string s]
theorem ask_range {x : World} {b : Nat} {k : Int} {wd : Nat} {o : Od} {s : ByteArray} (h : Bx x b (askA k wd o s) 32) : x.rangeAt b 2 (o6 o).toList := fun j v hv => by
  refine h.c (2 + j) v ?_
  match j, hv with
  | 0, hv => exact hv
  | 1, hv => exact hv
  | 2, hv => exact hv
  | 3, hv => exact hv
  | 4, hv => exact hv
  | 5, hv => exact hv
theorem eqS (o : Od) : Eqs Tryd.prog 30 (o6 o) (o6 o) true := by
  have := eqO o o
  rwa [Od.same_iff.2 rfl] at this
theorem step_0 (z : World) (K : Nat) (k : Int) (wd : Nat) (o : Od) (s : ByteArray) (h1 : (k == 1) = false) (h2 : (k == 2) = false) (h3 : (k == 3) = false) (h4 : (k == 4) = false) (h5 : (k == 5) = false) : Calls Tryd.prog 4 #[.pointer (some ⟨K, 0, none⟩), .agg (askA k wd o s)] z fun e z' => e = .returned (.bool true) ∧ Below z.heap.size z z' := by
  go_enter Tryd.func4, Tryd.ntmps4
  go_wp2_with ((with_reducible refine gen_world (z.alloc (.cells (askA k wd o s) 32)) (Fm z [(z.heap.size, askA k wd o s, 32)]) ?_ ?_); exact Fm.one z _ _; intro y1 K1; have k0 := (K1.out.bx 0 _ _ _ rfl).c 0 (.int .i64 k) rfl; have k1 := (K1.out.bx 0 _ _ _ rfl).c 1 (.int .u16 (wd : Int)) rfl; have k8 := (K1.out.bx 0 _ _ _ rfl).c 8 (.string s) rfl)
  go_ret
  exact ⟨rfl, K1.out.low⟩
theorem step_1 (z : World) (K : Nat) (wd : Nat) (hwd : wd < 65536) (o : Od) (s : ByteArray) : Calls Tryd.prog 4 #[.pointer (some ⟨K, 0, none⟩), .agg (askA 1 wd o s)] z fun e z' => e = .returned (.bool true) ∧ Below z.heap.size z z' := by
  have hD1 := fun z => decode_any z wd hwd
  have hD2 := fun z => rdec_any z wd hwd
  generalize decO wd = D at hD1 hD2
  generalize decB wd = bb at hD1 hD2
  have hE : Hid (Eqs Tryd.prog 30 (o6 D) (o6 D) true) := eqS D
  go_enter Tryd.func4, Tryd.ntmps4
  go_wp2_with (first
    | ((with_reducible refine at_eq hE.out (.tmp 44) (.tmp 45) 30 ?_ ?_ ?_ ?_ ?_); kernel_rfl; rfl; rfl; rfl)
    | ((with_reducible refine at_load rtO y5.heap.size (o6 D) ?_ ?_ (.tmp 7) ?_ ?_ ?_ ?_); exact K7.out.bx 2 _ _ _ rfl; rfl; kernel_rfl; rfl; rfl)
    | ((with_reducible refine at_load rtO y2.heap.size (o6 D) ?_ ?_ (.tmp 5) ?_ ?_ ?_ ?_); exact K7.out.bx 1 _ _ _ rfl; rfl; kernel_rfl; rfl; rfl)
    | ((with_reducible refine at_st rtO y5.heap.size (o6 od0) (o6 D) ?_ ?_ ?_ ?_ (.tmp 7) (.tmp 42) ?_ ?_ ?_ ?_ ?_); exact K6.out.bx 2 _ _ _ rfl; rfl; rfl; exact o6_one _; rfl; rfl; rfl; rfl; intro y7 hw; have K7 : Hid (Fm z [(z.heap.size, askA 1 wd o s, 32), (y2.heap.size, o6 D, 30), (y5.heap.size, o6 D, 30)] y7) := K6.out.put 2 _ _ _ _ rfl hw.out)
    | ((with_reducible refine gen_world (y5.alloc (.cells #[.int .u8 0, .int .u8 0, .int .u8 0, .int .u8 0, .int .u8 0, .int .u16 0] 30)) (Fm z [(z.heap.size, askA 1 wd o s, 32), (y2.heap.size, o6 D, 30), (y5.heap.size, o6 od0, 30)]) ?_ ?_); exact K5.out.new _ _; intro y6 K6)
    | (go_at_call 7; refine (hD2 _).mono ?_; rintro e y5 ⟨rfl, hb⟩; have K5 : Hid (Fm z [(z.heap.size, askA 1 wd o s, 32), (y2.heap.size, o6 D, 30)] y5) := K4.out.below hb; clear hb)
    | ((with_reducible refine at_st rtO y2.heap.size (o6 od0) (o6 D) ?_ ?_ ?_ ?_ (.tmp 5) (.tmp 36) ?_ ?_ ?_ ?_ ?_); exact K3.out.bx 1 _ _ _ rfl; rfl; rfl; exact o6_one _; rfl; rfl; rfl; rfl; intro y4 hw; have K4 : Hid (Fm z [(z.heap.size, askA 1 wd o s, 32), (y2.heap.size, o6 D, 30)] y4) := K3.out.put 1 _ _ _ _ rfl hw.out; have j1 := (K4.out.bx 0 _ _ _ rfl).c 1 (.int .u16 (wd : Int)) rfl; have j8 := (K4.out.bx 0 _ _ _ rfl).c 8 (.string s) rfl)
    | ((with_reducible refine gen_world (y2.alloc (.cells #[.int .u8 0, .int .u8 0, .int .u8 0, .int .u8 0, .int .u8 0, .int .u16 0] 30)) (Fm z [(z.heap.size, askA 1 wd o s, 32), (y2.heap.size, o6 od0, 30)]) ?_ ?_); exact K2.out.new _ _; intro y3 K3)
    | (go_at_call 6; refine (hD1 _).mono ?_; rintro e y2 ⟨rfl, hb⟩; have K2 : Hid (Fm z [(z.heap.size, askA 1 wd o s, 32)] y2) := K1.out.below hb; clear hb)
    | ((with_reducible refine gen_world (z.alloc (.cells (askA 1 wd o s) 32)) (Fm z [(z.heap.size, askA 1 wd o s, 32)]) ?_ ?_); exact Fm.one z _ _; intro y1 K1; have k0 := (K1.out.bx 0 _ _ _ rfl).c 0 (.int .i64 1) rfl; have k1 := (K1.out.bx 0 _ _ _ rfl).c 1 (.int .u16 (wd : Int)) rfl; have k8 := (K1.out.bx 0 _ _ _ rfl).c 8 (.string s) rfl))
  go_ret
  exact ⟨rfl, K7.out.low⟩
theorem step_4 (z : World) (K : Nat) (mx : Int) (T : Hid (Tm mx z)) (wd : Nat) (o : Od) (s : ByteArray) (hs : s.size ≤ 4294967280) : Calls Tryd.prog 4 #[.pointer (some ⟨K, 0, none⟩), .agg (askA 4 wd o s)] z fun e z' => e = .returned (.bool true) ∧ Below z.heap.size z z' := by
  have hD1 := fun z (hz : Tm mx z) => parse_any s z mx hz (by omega)
  have hD2 := fun z => rparse_any s z hs
  generalize (parseO s.data.toList).getD od0 = D at hD1 hD2
  generalize (if (parseO s.data.toList).isSome then (0 : Int) else 161) = E at hD1 hD2
  have hE : Hid (Eqs Tryd.prog 30 (o6 D) (o6 D) true) := eqS D
  go_enter Tryd.func4, Tryd.ntmps4
  go_wp2_with (first
    | ((with_reducible refine at_eq hE.out (.tmp 110) (.tmp 111) 30 ?_ ?_ ?_ ?_ ?_); kernel_rfl; rfl; rfl; rfl)
    | ((with_reducible refine at_load rtO y5.heap.size (o6 D) ?_ ?_ (.tmp 19) ?_ ?_ ?_ ?_); exact K7.out.bx 2 _ _ _ rfl; rfl; kernel_rfl; rfl; rfl)
    | ((with_reducible refine at_load rtO y2.heap.size (o6 D) ?_ ?_ (.tmp 17) ?_ ?_ ?_ ?_); exact K7.out.bx 1 _ _ _ rfl; rfl; kernel_rfl; rfl; rfl)
    | ((with_reducible refine at_st rtO y5.heap.size (o6 od0) (o6 D) ?_ ?_ ?_ ?_ (.tmp 19) (.tmp 108) ?_ ?_ ?_ ?_ ?_); exact K6.out.bx 2 _ _ _ rfl; rfl; rfl; exact o6_one _; rfl; rfl; rfl; rfl; intro y7 hw; have K7 : Hid (Fm z [(z.heap.size, askA 4 wd o s, 32), (y2.heap.size, o6 D, 30), (y5.heap.size, o6 D, 30)] y7) := K6.out.put 2 _ _ _ _ rfl hw.out)
    | ((with_reducible refine gen_world (y5.alloc (.cells #[.int .u8 0, .int .u8 0, .int .u8 0, .int .u8 0, .int .u8 0, .int .u16 0] 30)) (Fm z [(z.heap.size, askA 4 wd o s, 32), (y2.heap.size, o6 D, 30), (y5.heap.size, o6 od0, 30)]) ?_ ?_); exact K5.out.new _ _; intro y6 K6)
    | (go_at_call 13; refine (hD2 _).mono ?_; rintro e y5 ⟨rfl, hb⟩; have K5 : Hid (Fm z [(z.heap.size, askA 4 wd o s, 32), (y2.heap.size, o6 D, 30)] y5) := K4.out.below hb; clear hb)
    | ((with_reducible refine at_st rtO y2.heap.size (o6 od0) (o6 D) ?_ ?_ ?_ ?_ (.tmp 17) (.tmp 102) ?_ ?_ ?_ ?_ ?_); exact K3.out.bx 1 _ _ _ rfl; rfl; rfl; exact o6_one _; rfl; rfl; rfl; rfl; intro y4 hw; have K4 : Hid (Fm z [(z.heap.size, askA 4 wd o s, 32), (y2.heap.size, o6 D, 30)] y4) := K3.out.put 1 _ _ _ _ rfl hw.out; have j1 := (K4.out.bx 0 _ _ _ rfl).c 1 (.int .u16 (wd : Int)) rfl; have j8 := (K4.out.bx 0 _ _ _ rfl).c 8 (.string s) rfl)
    | ((with_reducible refine gen_world (y2.alloc (.cells #[.int .u8 0, .int .u8 0, .int .u8 0, .int .u8 0, .int .u8 0, .int .u16 0] 30)) (Fm z [(z.heap.size, askA 4 wd o s, 32), (y2.heap.size, o6 od0, 30)]) ?_ ?_); exact K2.out.new _ _; intro y3 K3)
    | (go_at_call 12; refine (hD1 _ (T.out.below K1.out.low)).mono ?_; rintro e y2 ⟨rfl, hb⟩; have K2 : Hid (Fm z [(z.heap.size, askA 4 wd o s, 32)] y2) := K1.out.below hb; clear hb)
    | ((with_reducible refine gen_world (z.alloc (.cells (askA 4 wd o s) 32)) (Fm z [(z.heap.size, askA 4 wd o s, 32)]) ?_ ?_); exact Fm.one z _ _; intro y1 K1; have k0 := (K1.out.bx 0 _ _ _ rfl).c 0 (.int .i64 4) rfl; have k1 := (K1.out.bx 0 _ _ _ rfl).c 1 (.int .u16 (wd : Int)) rfl; have k8 := (K1.out.bx 0 _ _ _ rfl).c 8 (.string s) rfl))
  go_ret
  exact ⟨rfl, K7.out.low⟩
theorem step_2 (z : World) (K : Nat) (wd : Nat) (o : Od) (ho : OdR o) (s : ByteArray) : Calls Tryd.prog 4 #[.pointer (some ⟨K, 0, none⟩), .agg (askA 2 wd o s)] z fun e z' => e = .returned (.bool true) ∧ Below z.heap.size z z' := by
  have hD1 := fun z => encode_any z o ho
  have hD2 := fun z => rencode_any z o ho
  generalize (((encW o).getD 0 : Nat) : Int) = X at hD1 hD2
  generalize (if (encW o).isSome then (0 : Int) else 160) = E at hD1 hD2
  go_enter Tryd.func4, Tryd.ntmps4
  go_wp2_with (first
    | (go_at_call 9; refine (hD2 _).mono ?_; rintro e y3 ⟨rfl, hb⟩; have K3 : Hid (Fm z [(z.heap.size, askA 2 wd o s, 32)] y3) := K2.out.below hb; clear hb)
    | ((with_reducible refine at_loadm rtO z.heap.size 2 (o6 o) ?_ ?_ (.tmp 61) ?_ ?_ ?_ ?_); exact ask_range (K2.out.bx 0 _ _ _ rfl); rfl; rfl; rfl; rfl)
    | (go_at_call 8; refine (hD1 _).mono ?_; rintro e y2 ⟨rfl, hb⟩; have K2 : Hid (Fm z [(z.heap.size, askA 2 wd o s, 32)] y2) := K1.out.below hb; clear hb)
    | ((with_reducible refine at_loadm rtO z.heap.size 2 (o6 o) ?_ ?_ (.tmp 55) ?_ ?_ ?_ ?_); exact ask_range (K1.out.bx 0 _ _ _ rfl); rfl; rfl; rfl; rfl)
    | ((with_reducible refine gen_world (z.alloc (.cells (askA 2 wd o s) 32)) (Fm z [(z.heap.size, askA 2 wd o s, 32)]) ?_ ?_); exact Fm.one z _ _; intro y1 K1; have k0 := (K1.out.bx 0 _ _ _ rfl).c 0 (.int .i64 2) rfl; have k1 := (K1.out.bx 0 _ _ _ rfl).c 1 (.int .u16 (wd : Int)) rfl; have k8 := (K1.out.bx 0 _ _ _ rfl).c 8 (.string s) rfl))
  go_ret
  exact ⟨rfl, K3.out.low⟩
theorem step_3 (z : World) (K : Nat) (wd : Nat) (o : Od) (ho : OdR o) (s : ByteArray) : Calls Tryd.prog 4 #[.pointer (some ⟨K, 0, none⟩), .agg (askA 3 wd o s)] z fun e z' => e = .returned (.bool true) ∧ Below z.heap.size z z' := by
  have hD1 := fun z => print_any z o ho
  have hD2 := fun z => rprint_any z o ho
  generalize (if (encW o).isSome then (0 : Int) else 160) = E at hD1 hD2
  generalize (if (encW o).isSome then lineB o else ⟨#[]⟩) = S at hD1 hD2
  have hb1 : (S.toList == S.toList) = true := str_eq rfl
  go_enter Tryd.func4, Tryd.ntmps4
  go_wp2_with (first
    | (go_at_call 11; refine (hD2 _).mono ?_; rintro e y3 ⟨rfl, hb⟩; have K3 : Hid (Fm z [(z.heap.size, askA 3 wd o s, 32)] y3) := K2.out.below hb; clear hb)
    | ((with_reducible refine at_loadm rtO z.heap.size 2 (o6 o) ?_ ?_ (.tmp 83) ?_ ?_ ?_ ?_); exact ask_range (K2.out.bx 0 _ _ _ rfl); rfl; rfl; rfl; rfl)
    | (go_at_call 10; refine (hD1 _).mono ?_; rintro e y2 ⟨rfl, hb⟩; have K2 : Hid (Fm z [(z.heap.size, askA 3 wd o s, 32)] y2) := K1.out.below hb; clear hb)
    | ((with_reducible refine at_loadm rtO z.heap.size 2 (o6 o) ?_ ?_ (.tmp 77) ?_ ?_ ?_ ?_); exact ask_range (K1.out.bx 0 _ _ _ rfl); rfl; rfl; rfl; rfl)
    | ((with_reducible refine gen_world (z.alloc (.cells (askA 3 wd o s) 32)) (Fm z [(z.heap.size, askA 3 wd o s, 32)]) ?_ ?_); exact Fm.one z _ _; intro y1 K1; have k0 := (K1.out.bx 0 _ _ _ rfl).c 0 (.int .i64 3) rfl; have k1 := (K1.out.bx 0 _ _ _ rfl).c 1 (.int .u16 (wd : Int)) rfl; have k8 := (K1.out.bx 0 _ _ _ rfl).c 8 (.string s) rfl))
  go_ret
  exact ⟨rfl, K3.out.low⟩
end Go.Proofs.YthaijjehplomfaaDoor

namespace Go.Proofs.YthaijjehplomfaaDoor
open Go Go.RowKit
set_option linter.unusedVariables false
set_option maxHeartbeats 1000000
set_option maxRecDepth 20000

theorem own_lies {w : World} {B n cap : Nat} {sp : Option Addr} {l : List UInt8} (h : OwnL 5 1 cU B w (.slice sp n cap) l) : LiesL 1 cU w sp l := by
  obtain ⟨sp', cap', e, hl, _⟩ := h.open kU.len
  injection e with e1
  subst e1
  exact hl
theorem lines_dok : ∀ (ls : List (List UInt8)) (n : Nat) {t t' : Std}, DOk t → linesD n ls t = .inr t' → DOk t' := by
  intro ls
  induction ls with
  | nil =>
    intro n t t' h k
    injection k with k
    rw [← k]
    exact h
  | cons l ls ih =>
    intro n t t' h k
    rw [linesD_cons] at k
    rcases hs : stepD n l t with e | t1
    · rw [hs] at k; cases k
    · rw [hs] at k
      exact ih (n + 1) (h.step hs) k
theorem setP_len (F : ByteArray → Option Nat) : ∀ (us : List Us) (bs r : List UInt8), setP F us bs = .inr r → r.length = bs.length := by
  intro us
  induction us with
  | nil =>
    intro bs r h
    injection h with h
    rw [h]
  | cons u us ih =>
    intro bs r h
    rcases hF : F u.lb with _ | a
    · rw [setP_none hF] at h; cases h
    · rw [setP_some hF] at h
      rw [ih _ _ h, layB_len]
theorem progD_len {s bs : List UInt8} (h : progD s = .inr bs) : bs.length ≤ 3232 := by
  rw [progD_is] at h
  split at h
  · cases h
  · rcases hl : linesD 1 (lnsG s []) ([], [], []) with e | t
    · rw [hl] at h; cases h
    · rw [hl] at h
      have hok := lines_dok _ _ dok0 hl
      have h' : endD t = .inr bs := h
      unfold endD at h'
      rcases hs : setP (lookN t.2.1) t.2.2 t.1 with n | r
      · rw [hs] at h'; cases h'
      · rw [hs] at h'
        injection h' with h'
        rw [← h', setP_len _ _ _ _ hs]
        exact hok.by'
/-- What is told of a program: bytes, the error, the line. -/
def prX (r : (Nat × Nat) ⊕ List UInt8) : List UInt8 × Nat × Nat := match r with
  | .inl e => ([], e.1, e.2)
  | .inr bs => (bs, 0, 0)
theorem prX_len (s : List UInt8) : (prX (progD s)).1.length ≤ 3232 := by
  rcases h : progD s with e | bs
  · exact Nat.zero_le _
  · exact progD_len h
/-- What both answer of a text. -/
def PxE (z : World) (s : ByteArray) (e : Ending) (z' : World) : Prop := ∃ p c, e = .returned (.tuple #[.slice p (prX (progD (strL s))).1.length c, .int .i64 ((prX (progD (strL s))).2.1 : Int), .int .i64 ((prX (progD (strL s))).2.2 : Int)]) ∧ OwnL 5 1 cU z.heap.size z' (.slice p (prX (progD (strL s))).1.length c) (prX (progD (strL s))).1 ∧ Below z.heap.size z z'
theorem px_code (z : World) (mx : Int) (T : Hid (Tm mx z)) (s : ByteArray) (hs : s.size ≤ 4294967280) : Calls Tryd.prog 14 #[.string s] z (PxE z s) := (program_any z mx T s (by omega)).mono fun e z' h => by
  unfold PxE
  rcases h with ⟨er, n, h1, rfl, h2⟩ | ⟨bs, v, h1, rfl, h2, h3⟩
  · rw [prog_rel] at h1
    rw [h1]
    exact ⟨none, 0, rfl, OwnL.nil _ _, h2⟩
  · rw [prog_rel] at h1
    rw [h1]
    obtain ⟨sp, c, e1, _⟩ := h2.open kU.len
    subst e1
    exact ⟨sp, c, rfl, h2, h3⟩
theorem px_doc (z : World) (s : ByteArray) (hs : s.size ≤ 4294967280) : Calls Tryd.prog 15 #[.string s] z (PxE z s) := (rprogram_any z s hs).mono fun e z' h => by
  unfold PxE
  obtain ⟨hb, h⟩ := h
  rcases hp : progD (strL s) with er | bs
  · rw [hp] at h
    simp only at h
    subst h
    exact ⟨none, 0, rfl, OwnL.nil _ _, hb⟩
  · rw [hp] at h
    obtain ⟨v, rfl, h2⟩ := h
    obtain ⟨sp, c, e1, _⟩ := h2.open kU.len
    subst e1
    exact ⟨sp, c, rfl, h2, hb⟩
theorem fillT (p : Option Addr) (n c : Nat) : Instr.fill (fun i => some (i * 1, 1)) ((Array.range (1 * 1)).map ((Value.slice none 0 0).cells[· % (Value.slice none 0 0).cells.size]!)) [(0, .slice p n c)] = some #[.slice p n c] := by kernel_rfl
theorem at_bsT1 {ops : Array Oper} {rest : List Oper} {o : Oper} {a : Act} {w : World} {Q : Exit → Act → World → Prop} (p : Option Addr) (n c : Nat) (x : Operand) (hgd : o.guard = none) (ho : o.op = .buildSlice 24 1 #[(0, x)]) (hx : a.eval x = .slice p n c)
    (k : wpList Tryd.prog ops Q rest (a.put o.dst (.slice (some ⟨w.heap.size, 0, none⟩) 1 1)) (w.alloc (.cells #[.slice p n c] 45))) : wpList Tryd.prog ops Q (o :: rest) a w := by
  obtain ⟨i, hi, e⟩ := Option.map_eq_some_iff.1 infoBs
  injection e with e1 e2
  injection e2 with e2 e3
  refine wpList_buildSlice hgd 24 45 1 #[(0, x)] ho #[.slice p n c] i _ Tryd.underlying24 hi e1 (by rw [e2]; decide) (by rw [e2]; decide) ?_ k
  rw [e2]
  have e : (#[(0, x)].map fun (i, x) => (i, a.eval x)).toList = [(0, .slice p n c)] := by simp [hx]
  rw [e]
  exact fillT p n c
/-- The book with one row more on either side. -/
def Kep (w : World) (K : Nat) (T W : List Rw6) (bs : List UInt8) (z : World) : Prop := ∃ (vT vW : Value) (a b : Sl6), Bk6 w K vT vW ((T ++ [(a, bs)]).map (·.1)) ((W ++ [(b, bs)]).map (·.1)) 0 (T ++ [(a, bs)]) (W ++ [(b, bs)]) z
theorem step_5 (w z : World) (K : Nat) (sT sW : Option Addr) (cT cW : Nat) (T W : List Rw6) (mx : Int) (hT : Hid (Tm mx z)) (wd : Nat) (o : Od) (s : ByteArray) (hs : s.size ≤ 4294967280) (hn : Hid (T.length ≤ 4000000000)) (hW : Hid (W.length ≤ 4000000000)) (h : Hid (Bk6 w K (.slice sT T.length cT) (.slice sW W.length cW) (T.map (·.1)) (W.map (·.1)) 0 T W z)) :
    Calls Tryd.prog 4 #[.pointer (some ⟨K, 0, none⟩), .agg (askA 5 wd o s)] z fun e z' => e = .returned (.bool true) ∧ Kep w K T W (prX (progD (strL s))).1 z' := by
  have hP1 := fun z (hz : Hid (Tm mx z)) => px_code z mx hz s hs
  have hP2 := fun z => px_doc z s hs
  have hlen := prX_len (strL s)
  unfold PxE at hP1 hP2
  obtain ⟨⟨bs, er, n⟩, hpx⟩ : ∃ x, prX (progD (strL s)) = x := ⟨_, rfl⟩
  rw [hpx] at hP1 hP2 hlen ⊢
  simp only at hP1 hP2 hlen ⊢
  obtain ⟨m, hm⟩ : ∃ m, Hid (bs.length = m) := ⟨_, (rfl : bs.length = _)⟩
  rw [hm.out] at hP1 hP2 hlen
  have hmi : (m : Int) ≤ 4000000000 := by omega
  clear hpx hlen hs
  go_enter Tryd.func4, Tryd.ntmps4
  go_wp2_with (first
    | (refine at_bsT1 q m d (.tmp 152) rfl rfl rfl ?_)
    | (refine at_appL kT1 rfl (.tmp 151) (.tmp 153) rfl w.heap.size (.slice sW W.length cW) (W.map (·.1)) rfl K8.out.1.oW y7.heap.size (q, m, d) rfl K8.out.2 (by simp only [List.length_map]; have := hW.out; omega) K8.out.1.low.size ?_; intro vW' y9 AA; obtain ⟨s3, c3, e3, _⟩ := AA.out.own.open kT1.len; simp only [List.length_append, List.length_map, List.length_cons, List.length_nil, Nat.zero_add] at e3; have hset := K8.out.1.appW AA.out; have u9 := hset.1.c 1 (.slice sW W.length cW) rfl; have f9 := hset.1.fz 1; have hs9 : Hid _ := hset.2; subst e3; clear hset AA)
    | ((with_reducible refine gen_world (y7.alloc (.cells #[.slice q m d] 45)) (fun v => Bk6 w K (.slice s2 (T.length + 1) c2) (.slice sW W.length cW) (T.map (·.1) ++ [(p, m, c)]) (W.map (·.1)) 0 (T ++ [((p, m, c), bs)]) (W ++ [((q, m, d), bs)]) v ∧ Bx v y7.heap.size #[.slice q m d] 45) ?_ ?_); (exact ⟨R7.out.keep (below1 _ _), alloc_last' _ _⟩); intro y8 K8; have u8 := K8.out.1.box.c 1 (.slice sW W.length cW) rfl)
    | ((with_reducible refine gen_world (y6.setCell ⟨K, 0, none⟩ (.slice s2 (T.length + 1) c2)) (Bk6 w K (.slice s2 (T.length + 1) c2) (.slice sW W.length cW) (T.map (·.1) ++ [(p, m, c)]) (W.map (·.1)) 0 (T ++ [((p, m, c), bs)]) (W ++ [((q, m, d), bs)])) ?_ ?_); (exact hs6.out); intro y7 R7; have u7 := R7.out.box.c 1 (.slice sW W.length cW) rfl)
    | (refine at_appL kT1 rfl (.tmp 141) (.tmp 143) rfl w.heap.size (.slice sT T.length cT) (T.map (·.1)) rfl K5.out.1.oT y4.heap.size (p, m, c) rfl K5.out.2 (by simp only [List.length_map]; have := hn.out; omega) K5.out.1.low.size ?_; intro vT' y6 AA; obtain ⟨s2, c2, e2, _⟩ := AA.out.own.open kT1.len; simp only [List.length_append, List.length_map, List.length_cons, List.length_nil, Nat.zero_add] at e2; have hset := K5.out.1.appT AA.out; have u6 := hset.1.c 0 (.slice sT T.length cT) rfl; have f6 := hset.1.fz 0; have hs6 : Hid _ := hset.2; subst e2; clear hset AA)
    | ((with_reducible refine gen_world (y4.alloc (.cells #[.slice p m c] 45)) (fun v => Bk6 w K (.slice sT T.length cT) (.slice sW W.length cW) (T.map (·.1)) (W.map (·.1)) 0 (T ++ [((p, m, c), bs)]) (W ++ [((q, m, d), bs)]) v ∧ Bx v y4.heap.size #[.slice p m c] 45) ?_ ?_); (exact ⟨R4.out.keep (below1 _ _), alloc_last' _ _⟩); intro y5 K5; have u5 := K5.out.1.box.c 0 (.slice sT T.length cT) rfl)
    | (refine at_bsT1 p m c (.tmp 142) rfl rfl rfl ?_)
    | (go_at_call 16; refine (same16_true y3 p q c d m bs hm hmi L1 L2).mono ?_; rintro e y4 ⟨rfl, hb⟩; have R4 : Hid (Bk6 w K (.slice sT T.length cT) (.slice sW W.length cW) (T.map (·.1)) (W.map (·.1)) 0 (T ++ [((p, m, c), bs)]) (W ++ [((q, m, d), bs)]) y4) := R3.out.keep hb; have u4 := R4.out.box.c 0 (.slice sT T.length cT) rfl; clear hb)
    | (go_at_call 15; refine (hP2 _).mono ?_; rintro e y3 ⟨q, d, rfl, o2, b2⟩; have R3 : Hid (Bk6 w K (.slice sT T.length cT) (.slice sW W.length cW) (T.map (·.1)) (W.map (·.1)) 0 (T ++ [((p, m, c), bs)]) (W ++ [((q, m, d), bs)]) y3) := (h.out.keep K1.out.low).rows (a := ((p, m, c), bs)) (b := ((q, m, d), bs)) hb1.out ho1.out b2 o2; have L1 : Hid (LiesL 1 cU y3 p bs) := own_lies (ho1.out.below b2); have L2 : Hid (LiesL 1 cU y3 q bs) := own_lies o2; clear o2 b2)
    | (go_at_call 14; refine (hP1 _ (hT.out.below K1.out.low)).mono ?_; rintro e y2 ⟨p, c, rfl, o1, b1⟩; have K2 : Hid (Fm z [(z.heap.size, askA 5 wd o s, 32)] y2) := K1.out.below b1; have j8 := (K2.out.bx 0 _ _ _ rfl).c 8 (.string s) rfl; have hb1 : Hid (Below y1.heap.size y1 y2) := b1; have ho1 : Hid (OwnL 5 1 cU y1.heap.size y2 (.slice p m c) bs) := o1; clear o1 b1)
    | ((with_reducible refine gen_world (z.alloc (.cells (askA 5 wd o s) 32)) (Fm z [(z.heap.size, askA 5 wd o s, 32)]) ?_ ?_); exact Fm.one z _ _; intro y1 K1; have k0 := (K1.out.bx 0 _ _ _ rfl).c 0 (.int .i64 5) rfl; have k8 := (K1.out.bx 0 _ _ _ rfl).c 8 (.string s) rfl))
  go_ret
  refine ⟨rfl, .slice s2 (T.length + 1) c2, .slice s3 (W.length + 1) c3, (p, m, c), (q, m, d), ?_⟩
  rw [List.map_append, List.map_append]
  exact hs9.out
end Go.Proofs.YthaijjehplomfaaDoor
