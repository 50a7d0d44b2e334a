/- A line taken up: take. -/
import Derived.Test.YthaijjehplomfaaDoorJ19
import Derived.Test.YthaijjehplomfaaDoorJ28
namespace Go.Proofs.YthaijjehplomfaaDoor
open Go Go.RowKit
set_option linter.unusedVariables false
set_option maxHeartbeats 1000000
set_option maxRecDepth 20000

theorem str_is (x : ByteArray) (l : List UInt8) : (x.toList == l) = decide (x = ⟨l.toArray⟩) := by
  rw [toList_eq]
  rcases h : x.data.toList == l with _ | _
  · rw [beq_eq_false_iff_ne] at h
    exact (decide_eq_false fun e => h (by rw [e])).symm
  · rw [beq_iff_eq] at h
    exact (decide_eq_true (by cases x; simp_all [← h])).symm
/-- What the lines so far have told: bytes, labels, uses. -/
abbrev Sta : Type := List UInt8 × (ByteArray → Option Nat) × List Us
def encB (o : Od) : List UInt8 := [UInt8.ofNat ((encW o).getD 0 / 256), UInt8.ofNat ((encW o).getD 0 % 256)]
def nameB (s : ByteArray) : ByteArray := ⟨(Lib.trimSuffix s.data.toList [58]).toArray⟩
def readP (ws : List ByteArray) (t : Sta) : Option Sta := match rdO (ws.map (·.data.toList)) with
  | none => none
  | some o => some (t.1 ++ encB o, t.2)
def useP (ln : Nat) (s b : ByteArray) (t : Sta) : Option Sta := match rdO (useW s) with
  | none => none
  | some o => if isNm b = true then some (t.1 ++ encB o, t.2.1, t.2.2 ++ [⟨ln, t.1.length, o, b⟩]) else none
def labP (s : ByteArray) (r : List ByteArray) (t : Sta) : Option Sta :=
  if r.length = 0 ∧ t.2.1 (nameB s) = none ∧ isNm (nameB s) = true then some (t.1, putN t.2.1 (nameB s) (512 + t.1.length), t.2.2) else none
def datP (r : List ByteArray) (t : Sta) : Option Sta := if r.length = 0 then none else (datW r).map fun d => (t.1 ++ d, t.2)
/-- A line's words taken up. -/
def takP (ln : Nat) (s : ByteArray) (r : List ByteArray) (t : Sta) : Option Sta :=
  if s = ⟨#[100, 97, 116, 97]⟩ then datP r t
  else if Lib.hasSuffix s.data.toList [58] = true then labP s r t
  else if r.length = 2 ∧ r.headD ⟨#[]⟩ = ⟨#[116, 111]⟩ then useP ln s (r.getD 1 ⟨#[]⟩) t
  else readP (s :: r) t
def TkE (w : World) (P g : Nat) (y : World) (o : Option Sta) (e : Ending) (z : World) : Prop :=
  (∃ t vb vu, e = .returned (.bool true) ∧ o = some t ∧ Pg w P g vb vu t.1 t.2.1 t.2.2 z ∧ Kp y z) ∨ (e = .returned (.bool false) ∧ o = none ∧ Below w.heap.size w z ∧ Kp y z)
theorem cutS (s : ByteArray) (hs : s.size ≤ maxLen) (w : World) : Calls Tryd.prog 47 #[.string s, .string ⟨#[58]⟩] w fun e w' => e = .returned (.tuple #[.string (nameB s), .bool (Lib.hasSuffix s.data.toList [58])]) ∧ w' = w :=
  Tryd.strings_CutSuffix s ⟨#[58]⟩ w (by unfold maxLen at hs; omega)
theorem slWk (g o n cap k : Nat) (h : k ≤ n) (hc : n ≤ cap) : ∃ o1, (∀ v, (Instr.sliceAt 70 (.slice (some ⟨g, o, none⟩) n cap) (some (.int .i64 (k : Int))) none none).run Tryd.prog v = .ok (.slice (some ⟨g, o1, none⟩) (n - k) (cap - k)) v) ∧ (k < n → o1 = o + k) := by
  refine ⟨if cap = k then o else o + k, fun v => ?_, fun h => ?_⟩
  · have hu : Tryd.prog.underlying 70 = some (.slice (Tryd.prog.elem 70)) := by kernel_rfl
    rw [run_sliceAt_slice v _ _ _ _ _ hu, run_slice_l v _ _ _ _ hu .i64 (k : Int) (by omega) (by omega)]
    have hz : ∀ v, (sizeOf (Tryd.prog.elem 70)).run Tryd.prog v = .ok 1 v := fun v => by kernel_rfl
    rw [hz]
    simp only [Result.andThen_ok, sliced, Int.toNat_natCast]
    split
    · rfl
    · simp [Addr.add_lit]
  · rw [if_neg (by omega)]
theorem slW (g o n cap : Nat) (h : 1 ≤ n) (hc : n ≤ cap) : ∃ o1, (∀ v, (Instr.sliceAt 70 (.slice (some ⟨g, o, none⟩) n cap) (some (.int .i64 1)) none none).run Tryd.prog v = .ok (.slice (some ⟨g, o1, none⟩) (n - 1) (cap - 1)) v) ∧ (1 < n → o1 = o + 1) := slWk g o n cap 1 h hc
theorem at_sl {ops : Array Oper} {rest : List Oper} {o : Oper} {a : Act} {w : World} {Q : Exit → Act → World → Prop} (t : TypeId) (x lo : Operand) (X L v : Value) (hg : Region.wanted o (yielded ops a.tmps) = true) (ho : o.op = .slice t x (some lo) none none) (hx : a.eval x = X) (hl : a.eval lo = L)
    (h : ∀ w, (Instr.sliceAt t X (some L) none none).run Tryd.prog w = .ok v w) (k : wpList Tryd.prog ops Q rest (a.put o.dst v) w) : wpList Tryd.prog ops Q (o :: rest) a w := by
  refine at_op v hg ?_ k
  unfold execOp
  simp only [ho, hx, hl, Option.map_some, Option.map_none, Sem.run_bind, h, Result.andThen_ok, Sem.run_pure]
theorem WdsAt_tail {y : World} {gw ow o1 : Nat} {s : ByteArray} {r : List ByteArray} (h : WdsAt y gw ow (s :: r)) (ho : 1 < r.length + 1 → o1 = ow + 1) : WdsAt y gw o1 r := by
  obtain ⟨cs, hx, hc⟩ := h
  exact ⟨cs, hx, fun j x hj => by
    have hl := (List.getElem?_eq_some_iff.1 hj).1
    rw [ho (by omega), Nat.add_assoc, Nat.add_comm 1 j]
    exact hc (j + 1) x hj⟩
section
variable (w y : World) (P g : Nat) (vb vu : Value) (bs : List UInt8) (F : ByteArray → Option Nat) (us : List Us) (K : Hid (Pg w P g vb vu bs F us y)) (hbs : bs.length ≤ 3232) (hus : us.length ≤ 100000) (ln : Nat) (gw ow m cap : Nat) (hmc : m ≤ cap) (hm2 : (m : Int) ≤ 65536)
  (s : ByteArray) (r : List ByteArray) (hr : Hid (r.length + 1 = m)) (hW : Hid (WdsAt y gw ow (s :: r))) (hsz : Hid (∀ x ∈ s :: r, x.size ≤ maxLen))
include K hbs hr hW hsz hmc hm2

theorem take_lab (hd : ¬ s = ⟨#[100, 97, 116, 97]⟩) (hl : Lib.hasSuffix s.data.toList [58] = true) :
    Calls Tryd.prog 32 #[.pointer (some ⟨P, 0, none⟩), .int .i64 (ln : Int), .slice (some ⟨gw, ow, none⟩) m cap] y (TkE w P g y (labP s r (bs, F, us))) := by
  have q0 : (s.toList == [100, 97, 116, 97]) = false := by rw [str_is]; exact decide_eq_false hd
  have hC := fun z => cutS s (hsz.out s (by simp)) z
  simp only [hl] at hC
  have c0 : y.cell? ⟨gw, ow, none⟩ = some (.string s) := hW.out.cell 0 s rfl
  have i0 : ∀ z, (Instr.indexAt 70 (.slice (some ⟨gw, ow, none⟩) m cap) (.int .i64 0)).run Tryd.prog z = .ok (.pointer (some ⟨gw, ow, none⟩)) z := fun z => idxW 0 z (by have := hr.out; omega)
  by_cases h0 : m = 1
  · have hL := label_any w y P g vb vu bs F us K hbs (nameB s)
    have fin : Hid (∀ e z, TlE w P g vb vu bs F us y (nameB s) e z → ∃ b, e = .returned (.bool b) ∧ TkE w P g y (labP s r (bs, F, us)) e z) := fun e z h => by
      rcases h with ⟨rfl, h1, h2, h3, h4⟩ | ⟨rfl, h1, h2, h3⟩
      · exact ⟨_, rfl, .inl ⟨_, vb, vu, rfl, if_pos ⟨by have := hr.out; omega, h1, h2⟩, h3, h4⟩⟩
      · exact ⟨_, rfl, .inr ⟨rfl, if_neg fun h => by rcases h1 with h1 | h1; (have h9 : F (nameB s) = none := h.2.1; rw [h9] at h1; cases h1); (rw [h.2.2] at h1; cases h1), h2, h3⟩⟩
    subst h0
    clear hd hl hbs hmc hm2
    generalize TkE w P g y (labP s r (bs, F, us)) = T at fin ⊢
    go_enter Tryd.func32, Tryd.ntmps32
    go_wp2_with (first
      | (go_at_call 47; refine (hC _).mono ?_; rintro e yc ⟨rfl, rfl⟩)
      | (go_at_call 48; refine hL.mono ?_; intro e z he; obtain ⟨b, rfl, hfin⟩ := fin.out e z he; have hfin' : Hid (T (.returned (.bool b)) z) := hfin))
    exact hfin'.out
  · have hq : ((m : Int) == 1) = false := by rw [beq_eq_false_iff_ne]; omega
    have fin : Hid (TkE w P g y (labP s r (bs, F, us)) (.returned (.bool false)) y) := .inr ⟨rfl, if_neg fun h => h0 (by have := hr.out; have := h.1; omega), K.out.low, Kp.refl _⟩
    clear hd hl hbs hmc h0
    generalize TkE w P g y (labP s r (bs, F, us)) = T at fin ⊢
    go_enter Tryd.func32, Tryd.ntmps32
    go_wp2_with (go_at_call 47; refine (hC _).mono ?_; rintro e yc ⟨rfl, rfl⟩)
    exact fin.out
theorem take_dat (hd : s = ⟨#[100, 97, 116, 97]⟩) :
    Calls Tryd.prog 32 #[.pointer (some ⟨P, 0, none⟩), .int .i64 (ln : Int), .slice (some ⟨gw, ow, none⟩) m cap] y (TkE w P g y (datP r (bs, F, us))) := by
  have q0 : (s.toList == [100, 97, 116, 97]) = true := by rw [str_is]; exact decide_eq_true hd
  have c0 : y.cell? ⟨gw, ow, none⟩ = some (.string s) := hW.out.cell 0 s rfl
  have i0 : ∀ z, (Instr.indexAt 70 (.slice (some ⟨gw, ow, none⟩) m cap) (.int .i64 0)).run Tryd.prog z = .ok (.pointer (some ⟨gw, ow, none⟩)) z := fun z => idxW 0 z (by have := hr.out; omega)
  obtain ⟨o1, hsl, ho1⟩ := slW gw ow m cap (by have := hr.out; omega) hmc
  obtain ⟨k, hk⟩ : ∃ k, m - 1 = k := ⟨_, rfl⟩
  rw [hk] at hsl
  generalize cap - 1 = c at hsl
  have hD := data_any w y P g vb vu bs F us K hbs gw o1 c k r (by have := hr.out; show _ = _; omega) (by omega) (WdsAt_tail hW.out fun h => ho1 (by rw [← hr.out]; exact h)) (fun x hx => hsz.out x (by simp [hx]))
  have fin : Hid (∀ e z, TdE w P g vu bs F us y r e z → ∃ b, e = .returned (.bool b) ∧ TkE w P g y (datP r (bs, F, us)) e z) := fun e z h => by
    rcases h with ⟨vb', d, rfl, h1, h2, h3, h4⟩ | ⟨rfl, h1, h2, h3⟩
    · exact ⟨_, rfl, .inl ⟨(bs ++ d, F, us), vb', vu, rfl, by unfold datP; rw [if_neg (fun h => h2 (List.length_eq_zero_iff.1 h)), h1]; rfl, h3, h4⟩⟩
    · refine ⟨_, rfl, .inr ⟨rfl, ?_, h2, h3⟩⟩
      unfold datP
      rcases h1 with h1 | h1
      · rw [h1]; split <;> rfl
      · rw [if_pos (by rw [h1]; rfl)]
  clear hbs hd hk ho1 hmc hm2
  generalize TkE w P g y (datP r (bs, F, us)) = T at fin ⊢
  go_enter Tryd.func32, Tryd.ntmps32
  go_wp2_with (first
    | ((with_reducible refine at_sl 70 (.tmp 16) (.const (.int .i64 1)) (.slice (some ⟨gw, ow, none⟩) m cap) (.int .i64 1) (.slice (some ⟨gw, o1, none⟩) k c) ?_ ?_ ?_ ?_ hsl ?_); rfl; rfl; rfl; rfl)
    | (go_at_call 46; refine hD.mono ?_; intro e z he; obtain ⟨b, rfl, hfin⟩ := fin.out e z he; have hfin' : Hid (T (.returned (.bool b)) z) := hfin))
  exact hfin'.out
omit hmc in
theorem take_read_core (hd : ¬ s = ⟨#[100, 97, 116, 97]⟩) (hl : ¬ Lib.hasSuffix s.data.toList [58] = true) (hu : ¬ (r.length = 2 ∧ r.headD ⟨#[]⟩ = ⟨#[116, 111]⟩)) :
    Calls Tryd.prog 32 #[.pointer (some ⟨P, 0, none⟩), .int .i64 (ln : Int), .slice (some ⟨gw, ow, none⟩) m cap] y (TkE w P g y (readP (s :: r) (bs, F, us))) := by
  have q0 : (s.toList == [100, 97, 116, 97]) = false := by rw [str_is]; exact decide_eq_false hd
  have hC := fun z => cutS s (hsz.out s (by simp)) z
  rw [Bool.not_eq_true] at hl
  simp only [hl] at hC
  have c0 : y.cell? ⟨gw, ow, none⟩ = some (.string s) := hW.out.cell 0 s rfl
  have i0 : ∀ z, (Instr.indexAt 70 (.slice (some ⟨gw, ow, none⟩) m cap) (.int .i64 0)).run Tryd.prog z = .ok (.pointer (some ⟨gw, ow, none⟩)) z := fun z => idxW 0 z (by have := hr.out; omega)
  have hR0 : Calls Tryd.prog 27 #[.slice (some ⟨gw, ow, none⟩) m cap] y (RdE y ((s :: r).map (·.data.toList))) := read_any y gw ow cap (s :: r) m hr.out (by have := hr.out; omega) (by omega) hW.out.lies hsz
  obtain ⟨b3, hb3⟩ : ∃ b, Hid ((((m : Int) == 3)) = b) := ⟨_, (rfl : ((m : Int) == 3) = ((m : Int) == 3))⟩
  have hc3 : b3 = true → ∃ x1, Hid (y.cell? ⟨gw, ow + 1, none⟩ = some (.string x1)) ∧ Hid ((x1.toList == [116, 111]) = false) ∧ m = 3 := fun e => by
    have hm3 : m = 3 := by have := hb3.out; rw [e, beq_iff_eq] at this; omega
    obtain ⟨x1, x2, rfl⟩ : ∃ x1 x2, r = [x1, x2] := by
      match r, hr with
      | [x1, x2], _ => exact ⟨x1, x2, rfl⟩
      | [], h => have := h.out; simp at this; omega
      | [_], h => have := h.out; simp at this; omega
      | _ :: _ :: _ :: _, h => have := h.out; simp at this; omega
    refine ⟨x1, hW.out.cell 1 x1 rfl, ?_, hm3⟩
    show _ = _
    rw [str_is]
    exact decide_eq_false fun h => hu ⟨rfl, h⟩
  rcases hr' : rdO ((s :: r).map (·.data.toList)) with _ | o
  · have hR : Calls Tryd.prog 27 #[.slice (some ⟨gw, ow, none⟩) m cap] y fun e w' => ∃ X, e = .returned (.tuple #[.agg (o6 X), .bool false]) ∧ Below y.heap.size y w' := hR0.mono fun e w' h => by
      obtain ⟨hb, ⟨o, ho, _⟩ | ⟨_, X, he⟩⟩ := h
      · rw [hr'] at ho; cases ho
      · exact ⟨X, he, hb⟩
    have fin : Hid (∀ z, Below y.heap.size y z → TkE w P g y (readP (s :: r) (bs, F, us)) (.returned (.bool false)) z) := fun z hb => .inr ⟨rfl, by unfold readP; rw [hr'], K.out.low.trans (hb.mono K.out.low.size), Kp.of_below hb⟩
    clear hR0 hr' hbs hd hl hu hm2
    generalize TkE w P g y (readP (s :: r) (bs, F, us)) = T at fin ⊢
    rcases b3 with _ | _
    · have hb3' := hb3.out
      clear hc3
      go_enter Tryd.func32, Tryd.ntmps32
      go_wp2_with (first
        | (go_at_call 47; refine (hC _).mono ?_; rintro e yc ⟨rfl, hz⟩; replace hz := hz.symm; subst hz)
        | ((with_reducible refine at_st rtO y2.heap.size (o6 od0) (o6 X) ?_ ?_ ?_ ?_ (.tmp 9) (.tmp 56) ?_ ?_ ?_ ?_ ?_); exact K3.out.bx 0 _ _ _ rfl; rfl; rfl; exact o6_one _; rfl; rfl; rfl; rfl; intro y4 hw4; have K4 : Hid (Fm y [(y2.heap.size, o6 X, 30)] y4) := K3.out.put 0 _ _ _ _ rfl hw4.out)
        | ((with_reducible refine gen_world (y2.alloc (.cells #[.int .u8 0, .int .u8 0, .int .u8 0, .int .u8 0, .int .u8 0, .int .u16 0] 30)) (Fm y [(y2.heap.size, o6 od0, 30)]) ?_ ?_); exact K2.out.new _ _; intro y3 K3)
        | (go_at_call 27; refine hR.mono ?_; rintro e y2 ⟨X, rfl, hb2⟩; have K2 : Hid (Fm y [] y2) := (Fm.nil y).below hb2))
      exact fin.out _ K4.out.low
    · obtain ⟨x1, c1, q1, rfl⟩ := hc3 rfl
      have c1 := c1.out
      have q1 := q1.out
      have i1 : ∀ z, (Instr.indexAt 70 (.slice (some ⟨gw, ow, none⟩) 3 cap) (.int .i64 1)).run Tryd.prog z = .ok (.pointer (some ⟨gw, ow + 1, none⟩)) z := fun z => idxW 1 z (by omega)
      go_enter Tryd.func32, Tryd.ntmps32
      go_wp2_with (first
        | (go_at_call 47; refine (hC _).mono ?_; rintro e yc ⟨rfl, hz⟩; replace hz := hz.symm; subst hz)
        | ((with_reducible refine at_st rtO y2.heap.size (o6 od0) (o6 X) ?_ ?_ ?_ ?_ (.tmp 9) (.tmp 56) ?_ ?_ ?_ ?_ ?_); exact K3.out.bx 0 _ _ _ rfl; rfl; rfl; exact o6_one _; rfl; rfl; rfl; rfl; intro y4 hw4; have K4 : Hid (Fm y [(y2.heap.size, o6 X, 30)] y4) := K3.out.put 0 _ _ _ _ rfl hw4.out)
        | ((with_reducible refine gen_world (y2.alloc (.cells #[.int .u8 0, .int .u8 0, .int .u8 0, .int .u8 0, .int .u8 0, .int .u16 0] 30)) (Fm y [(y2.heap.size, o6 od0, 30)]) ?_ ?_); exact K2.out.new _ _; intro y3 K3)
        | (go_at_call 27; refine hR.mono ?_; rintro e y2 ⟨X, rfl, hb2⟩; have K2 : Hid (Fm y [] y2) := (Fm.nil y).below hb2))
      exact fin.out _ K4.out.low
  · have hR : Calls Tryd.prog 27 #[.slice (some ⟨gw, ow, none⟩) m cap] y fun e w' => e = .returned (.tuple #[.agg (o6 o), .bool true]) ∧ Below y.heap.size y w' := hR0.mono fun e w' h => by
      obtain ⟨hb, ⟨o', ho, he⟩ | ⟨ho, _⟩⟩ := h
      · rw [hr'] at ho; injection ho with ho; subst ho; exact ⟨he, hb⟩
      · rw [hr'] at ho; cases ho
    obtain ⟨X, hX⟩ := rd_enc hr'
    have hAd : Hid (∀ z, Below y.heap.size y z → Calls Tryd.prog 50 #[.pointer (some ⟨P, 0, none⟩), .agg (o6 o)] z fun e x => (∃ v, e = .returned v) ∧ TkE w P g y (readP (s :: r) (bs, F, us)) (.returned (.bool true)) x) := fun z hb => (add_any w z P g vb vu bs F us (K.out.below hb) (by omega) o X hX).mono fun e x h => by
      obtain ⟨h1, vb', h2, h3⟩ := h
      exact ⟨h1, .inl ⟨(bs ++ encB o, F, us), vb', vu, rfl, by unfold readP; rw [hr'], by unfold encB; rw [hX]; exact h2, (Kp.of_below hb).trans h3⟩⟩
    clear hR0 hr' hbs hd hl hu hm2 hX
    generalize TkE w P g y (readP (s :: r) (bs, F, us)) = T at hAd ⊢
    rcases b3 with _ | _
    · have hb3' := hb3.out
      clear hc3
      go_enter Tryd.func32, Tryd.ntmps32
      go_wp2_with (first
        | (go_at_call 47; refine (hC _).mono ?_; rintro e yc ⟨rfl, hz⟩; replace hz := hz.symm; subst hz)
        | (go_at_call 50; refine (hAd.out _ K4.out.low).mono ?_; rintro e y5 ⟨⟨v, rfl⟩, hT⟩; have hT' : Hid (T (.returned (.bool true)) y5) := hT)
        | ((with_reducible refine at_load rtO y2.heap.size (o6 o) ?_ ?_ (.tmp 9) ?_ ?_ ?_ ?_); exact K4.out.bx 0 _ _ _ rfl; rfl; rfl; rfl; rfl)
        | ((with_reducible refine at_st rtO y2.heap.size (o6 od0) (o6 o) ?_ ?_ ?_ ?_ (.tmp 9) (.tmp 56) ?_ ?_ ?_ ?_ ?_); exact K3.out.bx 0 _ _ _ rfl; rfl; rfl; exact o6_one _; rfl; rfl; rfl; rfl; intro y4 hw4; have K4 : Hid (Fm y [(y2.heap.size, o6 o, 30)] y4) := K3.out.put 0 _ _ _ _ rfl hw4.out)
        | ((with_reducible refine gen_world (y2.alloc (.cells #[.int .u8 0, .int .u8 0, .int .u8 0, .int .u8 0, .int .u8 0, .int .u16 0] 30)) (Fm y [(y2.heap.size, o6 od0, 30)]) ?_ ?_); exact K2.out.new _ _; intro y3 K3)
        | (go_at_call 27; refine hR.mono ?_; rintro e y2 ⟨rfl, hb2⟩; have K2 : Hid (Fm y [] y2) := (Fm.nil y).below hb2))
      exact hT'.out
    · obtain ⟨x1, c1, q1, rfl⟩ := hc3 rfl
      have c1 := c1.out
      have q1 := q1.out
      have i1 : ∀ z, (Instr.indexAt 70 (.slice (some ⟨gw, ow, none⟩) 3 cap) (.int .i64 1)).run Tryd.prog z = .ok (.pointer (some ⟨gw, ow + 1, none⟩)) z := fun z => idxW 1 z (by omega)
      go_enter Tryd.func32, Tryd.ntmps32
      go_wp2_with (first
        | (go_at_call 47; refine (hC _).mono ?_; rintro e yc ⟨rfl, hz⟩; replace hz := hz.symm; subst hz)
        | (go_at_call 50; refine (hAd.out _ K4.out.low).mono ?_; rintro e y5 ⟨⟨v, rfl⟩, hT⟩; have hT' : Hid (T (.returned (.bool true)) y5) := hT)
        | ((with_reducible refine at_load rtO y2.heap.size (o6 o) ?_ ?_ (.tmp 9) ?_ ?_ ?_ ?_); exact K4.out.bx 0 _ _ _ rfl; rfl; rfl; rfl; rfl)
        | ((with_reducible refine at_st rtO y2.heap.size (o6 od0) (o6 o) ?_ ?_ ?_ ?_ (.tmp 9) (.tmp 56) ?_ ?_ ?_ ?_ ?_); exact K3.out.bx 0 _ _ _ rfl; rfl; rfl; exact o6_one _; rfl; rfl; rfl; rfl; intro y4 hw4; have K4 : Hid (Fm y [(y2.heap.size, o6 o, 30)] y4) := K3.out.put 0 _ _ _ _ rfl hw4.out)
        | ((with_reducible refine gen_world (y2.alloc (.cells #[.int .u8 0, .int .u8 0, .int .u8 0, .int .u8 0, .int .u8 0, .int .u16 0] 30)) (Fm y [(y2.heap.size, o6 od0, 30)]) ?_ ?_); exact K2.out.new _ _; intro y3 K3)
        | (go_at_call 27; refine hR.mono ?_; rintro e y2 ⟨rfl, hb2⟩; have K2 : Hid (Fm y [] y2) := (Fm.nil y).below hb2))
      exact hT'.out
end
theorem use_any3 (w y : World) (P g : Nat) (vb vu : Value) (bs : List UInt8) (F : ByteArray → Option Nat) (us : List Us) (K : Hid (Pg w P g vb vu bs F us y)) (hbs : bs.length ≤ 3232) (hus : us.length ≤ 100000) (ln : Nat) (gw ow cap : Nat) (s x1 x2 : ByteArray) (hW : Hid (WdsAt y gw ow [s, x1, x2])) (hsz : Hid (∀ x ∈ [s, x1, x2], x.size ≤ maxLen)) (hd : ¬ s = ⟨#[100, 97, 116, 97]⟩) (hl : ¬ Lib.hasSuffix s.data.toList [58] = true) (hu : x1 = ⟨#[116, 111]⟩) :
    Calls Tryd.prog 32 #[.pointer (some ⟨P, 0, none⟩), .int .i64 (ln : Int), .slice (some ⟨gw, ow, none⟩) 3 cap] y (TkE w P g y (useP ln s x2 (bs, F, us))) := by
  have q0 : (s.toList == [100, 97, 116, 97]) = false := by rw [str_is]; exact decide_eq_false hd
  have q1 : (x1.toList == [116, 111]) = true := by rw [str_is]; exact decide_eq_true hu
  have hC := fun z => cutS s (hsz.out s (by simp)) z
  rw [Bool.not_eq_true] at hl
  simp only [hl] at hC
  have c0 : y.cell? ⟨gw, ow, none⟩ = some (.string s) := hW.out.cell 0 s rfl
  have c1 : y.cell? ⟨gw, ow + 1, none⟩ = some (.string x1) := hW.out.cell 1 x1 rfl
  have i0 : ∀ z, (Instr.indexAt 70 (.slice (some ⟨gw, ow, none⟩) 3 cap) (.int .i64 0)).run Tryd.prog z = .ok (.pointer (some ⟨gw, ow, none⟩)) z := fun z => idxW 0 z (by omega)
  have i1 : ∀ z, (Instr.indexAt 70 (.slice (some ⟨gw, ow, none⟩) 3 cap) (.int .i64 1)).run Tryd.prog z = .ok (.pointer (some ⟨gw, ow + 1, none⟩)) z := fun z => idxW 1 z (by omega)
  have i2 : ∀ z, (Instr.indexAt 70 (.slice (some ⟨gw, ow, none⟩) 3 cap) (.int .i64 2)).run Tryd.prog z = .ok (.pointer (some ⟨gw, ow + 2, none⟩)) z := fun z => idxW 2 z (by omega)
  have hU : Hid (∀ z, Below y.heap.size y z → Calls Tryd.prog 49 #[.pointer (some ⟨P, 0, none⟩), .int .i64 (ln : Int), .string s, .string x2] z fun e x => ∃ b, e = .returned (.bool b) ∧ TkE w P g y (useP ln s x2 (bs, F, us)) e x) := fun z hb => (use_any w z P g vb vu bs F us (K.out.below hb) (by omega) hus ln s x2 (hsz.out s (by simp))).mono fun e x h => by
    rcases h with ⟨o, X, vb', vu', rfl, h1, h2, h3, h4, h5⟩ | ⟨rfl, h1, h2, h3⟩
    · exact ⟨_, rfl, .inl ⟨(bs ++ encB o, F, us ++ [⟨ln, bs.length, o, x2⟩]), vb', vu', rfl, by unfold useP; rw [h1]; exact if_pos h3, by unfold encB; rw [h2]; exact h4, (Kp.of_below hb).trans h5⟩⟩
    · refine ⟨_, rfl, .inr ⟨rfl, ?_, h2, (Kp.of_below hb).trans h3⟩⟩
      unfold useP
      rcases h1 with h1 | h1
      · rw [h1]
      · rcases rdO (useW s) with _ | o
        · rfl
        · exact if_neg (by rw [h1]; simp)
  clear hbs hus hd hl hu
  generalize TkE w P g y (useP ln s x2 (bs, F, us)) = T at hU ⊢
  go_enter Tryd.func32, Tryd.ntmps32
  go_wp2_with (go_at_call 47; refine (hC _).mono ?_; rintro e yc ⟨rfl, hz⟩; replace hz := hz.symm; subst hz)
  refine region_class_tail 8 (fun x => Below y.heap.size y x) (by kernel_rfl) (by kernel_rfl) ⟨rfl, rfl, rfl, Nat.le_refl _, fun _ _ => rfl⟩ ?_
  simp only [List.take_succ_cons, List.take_zero, List.drop_succ_cons, List.drop_zero]
  with_reducible refine quiet_one (.pointer (some ⟨P, 0, none⟩)) ?_ ?_ ?_
  · kernel_rfl
  · intro u hy
    go_simp
  with_reducible refine quiet_one (.int .i64 (ln : Int)) ?_ ?_ ?_
  · kernel_rfl
  · intro u hy
    go_simp
  with_reducible refine quiet_one (.slice (some ⟨gw, ow, none⟩) 3 cap) ?_ ?_ ?_
  · kernel_rfl
  · intro u hy
    go_simp
  with_reducible refine quiet_one (.pointer (some ⟨gw, ow, none⟩)) ?_ ?_ ?_
  · kernel_rfl
  · intro u hy
    go_simp
  with_reducible refine quiet_one (.string s) ?_ ?_ ?_
  · kernel_rfl
  · intro u hy
    have x := (hW.out.kp (Kp.of_below hy)).cell 0 s rfl; rw [Nat.add_zero] at x; go_simp
  with_reducible refine quiet_one (.slice (some ⟨gw, ow, none⟩) 3 cap) ?_ ?_ ?_
  · kernel_rfl
  · intro u hy
    go_simp
  with_reducible refine quiet_one (.pointer (some ⟨gw, ow + 2, none⟩)) ?_ ?_ ?_
  · kernel_rfl
  · intro u hy
    go_simp
  with_reducible refine quiet_one (.string x2) ?_ ?_ ?_
  · kernel_rfl
  · intro u hy
    have x := (hW.out.kp (Kp.of_below hy)).cell 2 x2 rfl; go_simp
  refine wpQuiet_nil ?_
  intro z0 K0
  have hb0 : Hid (Below y.heap.size y z0) := K0
  clear K0
  go_simp
  go_wp2_with (go_at_call 49; refine (hU.out _ hb0.out).mono ?_; rintro e z ⟨b, rfl, hT⟩; have hT' : Hid (T (.returned (.bool b)) z) := hT)
  exact hT'.out
/-- A line taken up. -/
theorem take_any (w y : World) (P g : Nat) (vb vu : Value) (bs : List UInt8) (F : ByteArray → Option Nat) (us : List Us) (K : Hid (Pg w P g vb vu bs F us y)) (hbs : bs.length ≤ 3232) (hus : us.length ≤ 100000) (ln : Nat) (gw ow m cap : Nat) (hmc : m ≤ cap) (hm2 : (m : Int) ≤ 65536)
    (s : ByteArray) (r : List ByteArray) (hr : Hid (r.length + 1 = m)) (hW : Hid (WdsAt y gw ow (s :: r))) (hsz : Hid (∀ x ∈ s :: r, x.size ≤ maxLen)) :
    Calls Tryd.prog 32 #[.pointer (some ⟨P, 0, none⟩), .int .i64 (ln : Int), .slice (some ⟨gw, ow, none⟩) m cap] y (TkE w P g y (takP ln s r (bs, F, us))) := by
  unfold takP
  by_cases hd : s = ⟨#[100, 97, 116, 97]⟩
  · rw [if_pos hd]
    exact take_dat w y P g vb vu bs F us K hbs ln gw ow m cap hmc hm2 s r hr hW hsz hd
  rw [if_neg hd]
  by_cases hl : Lib.hasSuffix s.data.toList [58] = true
  · rw [if_pos hl]
    exact take_lab w y P g vb vu bs F us K hbs ln gw ow m cap hmc hm2 s r hr hW hsz hd hl
  rw [if_neg hl]
  by_cases hu : r.length = 2 ∧ r.headD ⟨#[]⟩ = ⟨#[116, 111]⟩
  · rw [if_pos hu]
    match r, hr, hW, hsz, hu with
    | [x1, x2], hr, hW, hsz, hu =>
      obtain rfl : 3 = m := hr.out
      exact use_any3 w y P g vb vu bs F us K hbs hus ln gw ow cap s x1 x2 hW hsz hd hl hu.2
    | [], _, _, _, hu => exact absurd hu.1 (by decide)
    | [_], _, _, _, hu => exact absurd hu.1 (by simp)
    | _ :: _ :: _ :: _, _, _, _, hu => exact absurd hu.1 (by simp)
  · rw [if_neg hu]
    exact take_read_core w y P g vb vu bs F us K hbs ln gw ow m cap hm2 s r hr hW hsz hd hl hu
end Go.Proofs.YthaijjehplomfaaDoor
