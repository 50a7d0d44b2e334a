/- The document's own: the regions of Program in which an order's two bytes are put. -/
import Derived.Test.YthaijjehplomfaaDoorJ44
namespace Go.Proofs.YthaijjehplomfaaDoor
open Go Go.RowKit
set_option linter.unusedVariables false
set_option maxHeartbeats 1000000
set_option maxRecDepth 20000

section
variable {a : Act} {o : Oper} {y : World} {x z : Operand}
theorem ex_ix {T : TypeId} {v i r : Value} (h : (Instr.indexAt T v i).run Tryd.prog y = .ok r y) (ho : o.op = .indexAddr T x z) (hx : a.eval x = v) (hz : a.eval z = i) : (execOp a.eval o).run Tryd.prog y = .ok (.value r) y := by
  unfold execOp
  simp only [ho, hx, hz]
  simp [h, go_sem]
theorem agI1 (w : World) : (isAgg 3).run Tryd.prog w = .ok false w := by go_simp
theorem stB (w : World) : (sizeOf 5).run Tryd.prog w = .ok 1 w := by go_simp
theorem ex_stB {p : Addr} {n : Int} {u : Value} (ho : o.op = .store 5 x z) (hx : a.eval x = .pointer (some p)) (hz : a.eval z = .int .u8 n) (hc : y.cell? p = some u) (hf : y.frozen? p = false) : (execOp a.eval o).run Tryd.prog y = .ok .skip (y.setCell p (.int .u8 n)) := by
  have h := stB y
  unfold execOp
  simp only [ho, hx, hz]
  simp [Instr.storeAt, storeVar, h, hc, hf, go_sem]
theorem ex_quo {j X : Nat} (ho : o.op = .binOp .quo 27 (.tmp j) (.const (.int .u16 256)) 27) (hx : a.eval (.tmp j) = .int .u16 (X : Int)) (hX : X < 65536) : (execOp a.eval o).run Tryd.prog y = .ok (.value (.int .u16 ((X : Int) / 256))) y := by
  simp only [Act.eval, Array.getD_eq_getD_getElem?] at hx
  unfold execOp
  simp only [ho]
  have e : IntKind.u16.wrap ((X : Int) / 256) = (X : Int) / 256 := by rw [IntKind.wrap_u16]; omega
  have e2 : Int.tdiv (X : Int) 256 = (X : Int) / 256 := Int.tdiv_eq_ediv_of_nonneg (by omega)
  go_simp
theorem ex_rem {j X : Nat} (ho : o.op = .binOp .rem 27 (.tmp j) (.const (.int .u16 256)) 27) (hx : a.eval (.tmp j) = .int .u16 (X : Int)) (hX : X < 65536) : (execOp a.eval o).run Tryd.prog y = .ok (.value (.int .u16 ((X : Int) % 256))) y := by
  simp only [Act.eval, Array.getD_eq_getD_getElem?] at hx
  unfold execOp
  simp only [ho]
  have e : IntKind.u16.wrap ((X : Int) % 256) = (X : Int) % 256 := by rw [IntKind.wrap_u16]; omega
  have e2 : Int.tmod (X : Int) 256 = (X : Int) % 256 := Int.tmod_eq_emod_of_nonneg (by omega)
  go_simp
theorem ex_conv {j : Nat} {Y : Int} (h0 : 0 ≤ Y) (h1 : Y < 256) (ho : o.op = .convert 27 5 (.tmp j)) (hx : a.eval (.tmp j) = .int .u16 Y) : (execOp a.eval o).run Tryd.prog y = .ok (.value (.int .u8 Y)) y := by
  simp only [Act.eval, Array.getD_eq_getD_getElem?] at hx
  unfold execOp
  simp only [ho]
  have e : IntKind.u8.wrap Y = Y := by rw [IntKind.wrap_u8]; omega
  go_simp
theorem ex_add1 {j q : Nat} (hq : q ≤ 1000000) (ho : o.op = .binOp .add 3 (.tmp j) (.const (.int .i64 1)) 3) (hx : a.eval (.tmp j) = .int .i64 (q : Int)) : (execOp a.eval o).run Tryd.prog y = .ok (.value (.int .i64 ((q + 1 : Nat) : Int))) y := by
  simp only [Act.eval, Array.getD_eq_getD_getElem?] at hx
  unfold execOp
  simp only [ho]
  have e : IntKind.i64.wrap ((q : Int) + 1) = ((q + 1 : Nat) : Int) := by rw [IntKind.wrap_i64]; omega
  go_simp
end
/-- What lies at a place of a row. -/
theorem Qp.row {w : World} {P : Nat} {v : Nat → Value} {vs : Nat → List Value} {y : World} (h : Qp w P v vs y) (k : Nat) (hk : k < 7) (j : Nat) (x : Value) (hj : (vs k)[j]? = some x) : ∃ g c, v k = .slice (some ⟨g, 0, none⟩) (vs k).length c ∧ y.cell? ⟨g, j, none⟩ = some x := by
  obtain ⟨sp, c, e, hl, hp, _⟩ := OwnL.open (c := one1) (fun _ => rfl) (h.own k hk)
  obtain ⟨g, o, e1, h1⟩ := hl j x hj
  have hp := hp _ e1
  have h2 := h1 0 x rfl
  have ho : o = 0 := hp.1
  subst ho
  subst e1
  rw [Nat.mul_one, Nat.zero_add, Nat.add_zero] at h2
  exact ⟨g, c, e, h2⟩
theorem idxU (g len cap k : Nat) (h : k < len) (v : World) : (Instr.indexAt 45 (.slice (some ⟨g, 0, none⟩) len cap) (.int .i64 (k : Int))).run Tryd.prog v = .ok (.pointer (some ⟨g, k, none⟩)) v := by
  have := idxP (P := Tryd.prog) (g := g) (off := 0) (len := len) (cap := cap) Tryd.underlying45 (s := 1) (by kernel_rfl) .i64 k v h
  rw [Nat.mul_one, Nat.zero_add] at this
  exact this
theorem idxI0 (g len cap k : Nat) (h : k < len) (v : World) : (Instr.indexAt 85 (.slice (some ⟨g, 0, none⟩) len cap) (.int .i64 (k : Int))).run Tryd.prog v = .ok (.pointer (some ⟨g, k, none⟩)) v := by
  have := idxI g 0 len cap k h v
  rw [Nat.zero_add] at this
  exact this
theorem Qp.drew {w : World} {P : Nat} {v : Nat → Value} {vs : Nat → List Value} {y : World} (h : Qp w P v vs y) : Qp w P v vs y.drew := h.keep ⟨rfl, rfl, rfl, Nat.le_refl _, fun _ _ => rfl⟩
def VK (P g5 j q X : Nat) (v0 v5 : Value) : Nat → Option Value
  | 0 => some (.pointer (some ⟨P, 0, none⟩))
  | 1 => some (.pointer (some ⟨P, 0, none⟩))
  | 2 => some (.pointer (some ⟨P, 0, none⟩))
  | 3 => some (v0)
  | 4 => some (.pointer (some ⟨P, 0, none⟩))
  | 5 => some (.pointer (some ⟨P, 0, none⟩))
  | 6 => some (.pointer (some ⟨P, 5, none⟩))
  | 7 => some (v5)
  | 8 => some (.int .i64 (j : Int))
  | 9 => some (.pointer (some ⟨g5, j, none⟩))
  | 11 => some (.int .u16 (X : Int))
  | 12 => some (.int .u16 ((X : Int) / 256))
  | 13 => some (.int .u8 ((X : Int) / 256))
  | _ => none
theorem ltK {i : Nat} (h : i < 15) : i = 0 ∨ i = 1 ∨ i = 2 ∨ i = 3 ∨ i = 4 ∨ i = 5 ∨ i = 6 ∨ i = 7 ∨ i = 8 ∨ i = 9 ∨ i = 10 ∨ i = 11 ∨ i = 12 ∨ i = 13 ∨ i = 14 := by omega
def EK (i : Nat) : Bool := Nat.beq i 3 || Nat.beq i 7
theorem regK {ops : Array Oper} {Q : Exit → Act → World → Prop} {id : Nat} {A : Act} {y0 : World} (w : World) (P : Nat) (v : Nat → Value) (t : Std) (gb nb cb g5 n5 c5 j q X : Nat) (a0 : UInt8) (hv0 : v 0 = .slice (some ⟨gb, 0, none⟩) nb cb) (hv5 : v 5 = .slice (some ⟨g5, 0, none⟩) n5 c5) (hj : j < n5) (hq : q < nb) (hnb : nb ≤ 100000) (hX : X < 65536) (hpl : (vsD t 5)[j]? = some (.int .i64 (q : Int))) (ha : t.1[q]? = some a0)
    (b0 : Nat) (hA : b0 + 15 ≤ A.tmps.size) (h12 : 12 < b0) (e5 : A.eval (.tmp 5) = .pointer (some ⟨P, 0, none⟩)) (e10 : A.eval (.tmp 10) = .int .i64 (j : Int)) (e12 : A.eval (.tmp 12) = .int .u16 (X : Int)) (hsz : ops.size = 16) (hup : upB .any ops = true)
    (o0 : OpB ops 0 (some b0) (.move (.tmp 5)) [])
    (o1 : OpB ops 1 (some (b0 + 1)) (.nilCheck (.tmp b0)) [0])
    (o2 : OpB ops 2 (some (b0 + 2)) (.fieldAddr 88 (.tmp (b0 + 1)) 0) [1])
    (o3 : OpB ops 3 (some (b0 + 3)) (.load 45 (.tmp (b0 + 2))) [2])
    (o4 : OpB ops 4 (some (b0 + 4)) (.move (.tmp 5)) [])
    (o5 : OpB ops 5 (some (b0 + 5)) (.nilCheck (.tmp (b0 + 4))) [4])
    (o6 : OpB ops 6 (some (b0 + 6)) (.fieldAddr 88 (.tmp (b0 + 5)) 5) [5])
    (o7 : OpB ops 7 (some (b0 + 7)) (.load 85 (.tmp (b0 + 6))) [6])
    (o8 : OpB ops 8 (some (b0 + 8)) (.move (.tmp 10)) [])
    (o9 : OpB ops 9 (some (b0 + 9)) (.indexAddr 85 (.tmp (b0 + 7)) (.tmp (b0 + 8))) [7, 8])
    (o10 : OpB ops 10 (some (b0 + 10)) (.load 3 (.tmp (b0 + 9))) [9])
    (o11 : OpB ops 11 (some (b0 + 11)) (.move (.tmp 12)) [])
    (o12 : OpB ops 12 (some (b0 + 12)) (.binOp .quo 27 (.tmp (b0 + 11)) (.const (.int .u16 256)) 27) [11])
    (o13 : OpB ops 13 (some (b0 + 13)) (.convert 27 5 (.tmp (b0 + 12))) [12])
    (o14 : OpB ops 14 (some (b0 + 14)) (.indexAddr 45 (.tmp (b0 + 3)) (.tmp (b0 + 10))) [3, 10])
    (o15 : OpB ops 15 none (.store 5 (.tmp (b0 + 14)) (.tmp (b0 + 13))) [14, 13])
    (a3 : ancB ops 16 14 3 = true)
    (a7 : ancB ops 16 14 7 = true)
    (aB : ancB ops 16 14 10 = true) (aC : ancB ops 16 15 14 = true) (h : Qp w P v (vsD t) y0) (fin : ∀ (vals : List Value) (z : World), vals.length = 15 → Hid (Qp w P v (vsD (t.1.set q (UInt8.ofNat (X / 256)), t.2)) z) → Q .normal (puts A b0 vals) z) : (Code.region id ops true).wp Tryd.prog Q A y0 := by
  refine region_app (b := b0) (n := 15) (iB := 10) (iC := 14) (V := VK P g5 j q X (.slice (some ⟨gb, 0, none⟩) nb cb) (.slice (some ⟨g5, 0, none⟩) n5 c5)) (E := EK) (P0 := fun y => Qp w P v (vsD t) y) (P1 := fun v' y => v' = .int .i64 (q : Int) ∧ Qp w P v (vsD t) y) (P2 := fun v' y => v' = .pointer (some ⟨gb, q, none⟩) ∧ Qp w P v (vsD t) y) (P3 := fun z => Qp w P v (vsD (t.1.set q (UInt8.ofNat (X / 256)), t.2)) z) (by kernel_rfl) hup hA ?_ h.drew (fun vals z hv hz => fin vals z hv hz)
  have q5 : ∀ {a : Act}, FrR b0 15 A a → a.eval (.tmp 5) = .pointer (some ⟨P, 0, none⟩) := fun hf' => (hf'.ev 5 (.inl (by omega))).trans e5
  have q10 : ∀ {a : Act}, FrR b0 15 A a → a.eval (.tmp 10) = .int .i64 (j : Int) := fun hf' => (hf'.ev 10 (.inl (by omega))).trans e10
  have q12 : ∀ {a : Act}, FrR b0 15 A a → a.eval (.tmp 12) = .int .u16 (X : Int) := fun hf' => (hf'.ev 12 (.inl (by omega))).trans e12
  have hcell : ∀ {y : World}, Qp w P v (vsD t) y → y.cell? ⟨g5, j, none⟩ = some (.int .i64 (q : Int)) := fun hh => by
    obtain ⟨g', c', e', h'⟩ := hh.row 5 (by decide) j _ hpl
    rw [hv5] at e'
    injection e' with e'
    injection e' with e'
    injection e' with e'
    rw [e']
    exact h'
  refine ⟨hsz, by decide, by decide, by decide, rfl, rfl, ?_, ?_, ?_, ⟨_, aB⟩, ⟨_, aC⟩, ?_, ?_, ?_, ?_⟩
  · intro i u hu
    match i, hu with
    | 0, _ => exact (by decide)
    | 1, _ => exact (by decide)
    | 2, _ => exact (by decide)
    | 3, _ => exact (by decide)
    | 4, _ => exact (by decide)
    | 5, _ => exact (by decide)
    | 6, _ => exact (by decide)
    | 7, _ => exact (by decide)
    | 8, _ => exact (by decide)
    | 9, _ => exact (by decide)
    | 11, _ => exact (by decide)
    | 12, _ => exact (by decide)
    | 13, _ => exact (by decide)
  · intro i hi h1 h2
    rcases ltK hi with rfl | rfl | rfl | rfl | rfl | rfl | rfl | rfl | rfl | rfl | rfl | rfl | rfl | rfl | rfl
    · rfl
    · rfl
    · rfl
    · rfl
    · rfl
    · rfl
    · rfl
    · rfl
    · rfl
    · rfl
    · exact absurd rfl h1
    · rfl
    · rfl
    · rfl
    · exact absurd rfl h2
  · intro i hi
    unfold EK at hi
    simp only [Bool.or_eq_true] at hi
    rcases hi with hi | hi
    · have : i = 3 := Nat.eq_of_beq_eq_true hi
      subst this
      exact ⟨_, a3⟩
    · have : i = 7 := Nat.eq_of_beq_eq_true hi
      subst this
      exact ⟨_, a7⟩
  · intro i u hu
    match i, hu with
    | 0, hu =>
      obtain ⟨o, ho, hg, hd, hp, hw⟩ := o0
      injection hu with hu
      subst hu
      refine ⟨o, ho, hg, hd, fun a y hf' hn he => ?_⟩
      exact ex_move hp (q5 hf')
    | 1, hu =>
      obtain ⟨o, ho, hg, hd, hp, hw⟩ := o1
      injection hu with hu
      subst hu
      simp only [List.all_cons, List.all_nil, Bool.and_true] at hw
      refine ⟨o, ho, hg, hd, fun a y hf' hn he => ?_⟩
      exact ex_nil hp (hn 0 _ rfl hw)
    | 2, hu =>
      obtain ⟨o, ho, hg, hd, hp, hw⟩ := o2
      injection hu with hu
      subst hu
      simp only [List.all_cons, List.all_nil, Bool.and_true] at hw
      refine ⟨o, ho, hg, hd, fun a y hf' hn he => ?_⟩
      exact ex_fldP P 0 (by decide) hp (hn 1 _ rfl hw)
    | 3, hu =>
      obtain ⟨o, ho, hg, hd, hp, hw⟩ := o3
      injection hu with hu
      subst hu
      simp only [List.all_cons, List.all_nil, Bool.and_true] at hw
      refine ⟨o, ho, hg, hd, fun a y hf' hn he => ?_⟩
      exact ex_ld agU8 hp (hn 2 _ rfl hw) (hv0 ▸ bx_row ((show Qp w P v (vsD t) y from by rcases he rfl with hq' | ⟨_, hq'⟩; exact hq'; exact hq'.2)).box 0 (by decide))
    | 4, hu =>
      obtain ⟨o, ho, hg, hd, hp, hw⟩ := o4
      injection hu with hu
      subst hu
      refine ⟨o, ho, hg, hd, fun a y hf' hn he => ?_⟩
      exact ex_move hp (q5 hf')
    | 5, hu =>
      obtain ⟨o, ho, hg, hd, hp, hw⟩ := o5
      injection hu with hu
      subst hu
      simp only [List.all_cons, List.all_nil, Bool.and_true] at hw
      refine ⟨o, ho, hg, hd, fun a y hf' hn he => ?_⟩
      exact ex_nil hp (hn 4 _ rfl hw)
    | 6, hu =>
      obtain ⟨o, ho, hg, hd, hp, hw⟩ := o6
      injection hu with hu
      subst hu
      simp only [List.all_cons, List.all_nil, Bool.and_true] at hw
      refine ⟨o, ho, hg, hd, fun a y hf' hn he => ?_⟩
      exact ex_fldP P 5 (by decide) hp (hn 5 _ rfl hw)
    | 7, hu =>
      obtain ⟨o, ho, hg, hd, hp, hw⟩ := o7
      injection hu with hu
      subst hu
      simp only [List.all_cons, List.all_nil, Bool.and_true] at hw
      refine ⟨o, ho, hg, hd, fun a y hf' hn he => ?_⟩
      exact ex_ld agI8 hp (hn 6 _ rfl hw) (hv5 ▸ bx_row ((show Qp w P v (vsD t) y from by rcases he rfl with hq' | ⟨_, hq'⟩; exact hq'; exact hq'.2)).box 5 (by decide))
    | 8, hu =>
      obtain ⟨o, ho, hg, hd, hp, hw⟩ := o8
      injection hu with hu
      subst hu
      refine ⟨o, ho, hg, hd, fun a y hf' hn he => ?_⟩
      exact ex_move hp (q10 hf')
    | 9, hu =>
      obtain ⟨o, ho, hg, hd, hp, hw⟩ := o9
      injection hu with hu
      subst hu
      simp only [List.all_cons, List.all_nil, Bool.and_true, Bool.and_eq_true] at hw
      refine ⟨o, ho, hg, hd, fun a y hf' hn he => ?_⟩
      exact ex_ix (idxI0 _ _ _ _ hj _) hp (hn 7 _ rfl hw.1) (hn 8 _ rfl hw.2)
    | 11, hu =>
      obtain ⟨o, ho, hg, hd, hp, hw⟩ := o11
      injection hu with hu
      subst hu
      refine ⟨o, ho, hg, hd, fun a y hf' hn he => ?_⟩
      exact ex_move hp (q12 hf')
    | 12, hu =>
      obtain ⟨o, ho, hg, hd, hp, hw⟩ := o12
      injection hu with hu
      subst hu
      simp only [List.all_cons, List.all_nil, Bool.and_true] at hw
      refine ⟨o, ho, hg, hd, fun a y hf' hn he => ?_⟩
      exact ex_quo hp (hn 11 _ rfl hw) hX
    | 13, hu =>
      obtain ⟨o, ho, hg, hd, hp, hw⟩ := o13
      injection hu with hu
      subst hu
      simp only [List.all_cons, List.all_nil, Bool.and_true] at hw
      refine ⟨o, ho, hg, hd, fun a y hf' hn he => ?_⟩
      exact ex_conv (by omega) (by omega) hp (hn 12 _ rfl hw)
  · obtain ⟨o, ho, hg, hd, hp, hw⟩ := o10
    simp only [List.all_cons, List.all_nil, Bool.and_true] at hw
    refine ⟨o, ho, fun a y K' hf' hn h0 k' => ?_⟩
    refine wpOp_val (.int .i64 (q : Int)) ho hg (ex_ld agI1 hp (hn 9 _ rfl hw) (hcell h0)) ?_
    rw [hd]
    exact k' _ _ ⟨rfl, h0⟩
  · obtain ⟨o, ho, hg, hd, hp, hw⟩ := o14
    simp only [List.all_cons, List.all_nil, Bool.and_true, Bool.and_eq_true] at hw
    refine ⟨o, ho, fun a y K' hf' hn h1 k' => ?_⟩
    refine wpOp_val (.pointer (some ⟨gb, q, none⟩)) ho hg (ex_ix (idxU _ _ _ _ hq _) hp (hn 3 _ rfl hw.1) h1.1) ?_
    rw [hd]
    exact k' _ _ ⟨rfl, h1.2⟩
  · obtain ⟨o, ho, hg, hd, hp, hw⟩ := o15
    simp only [List.all_cons, List.all_nil, Bool.and_true, Bool.and_eq_true] at hw
    refine ⟨o, ho, fun a y K' hf' hn h2 k' => ?_⟩
    obtain ⟨p1, p2, p3⟩ := h2.2.put0 hv0 q a0 (UInt8.ofNat (X / 256)) ha
    refine wpOp_skip ho hg (ex_stB hp h2.1 (hn 13 _ rfl hw.2) p2 p3) ?_
    rw [hd]
    refine k' _ ?_
    rw [hi_byte (by omega)]
    exact p1
def VL (P g5 j q X : Nat) (v0 v5 : Value) : Nat → Option Value
  | 0 => some (.pointer (some ⟨P, 0, none⟩))
  | 1 => some (.pointer (some ⟨P, 0, none⟩))
  | 2 => some (.pointer (some ⟨P, 0, none⟩))
  | 3 => some (v0)
  | 4 => some (.pointer (some ⟨P, 0, none⟩))
  | 5 => some (.pointer (some ⟨P, 0, none⟩))
  | 6 => some (.pointer (some ⟨P, 5, none⟩))
  | 7 => some (v5)
  | 8 => some (.int .i64 (j : Int))
  | 9 => some (.pointer (some ⟨g5, j, none⟩))
  | 10 => some (.int .i64 (q : Int))
  | 12 => some (.int .u16 (X : Int))
  | 13 => some (.int .u16 ((X : Int) % 256))
  | 14 => some (.int .u8 ((X : Int) % 256))
  | _ => none
theorem ltL {i : Nat} (h : i < 16) : i = 0 ∨ i = 1 ∨ i = 2 ∨ i = 3 ∨ i = 4 ∨ i = 5 ∨ i = 6 ∨ i = 7 ∨ i = 8 ∨ i = 9 ∨ i = 10 ∨ i = 11 ∨ i = 12 ∨ i = 13 ∨ i = 14 ∨ i = 15 := by omega
def EL (i : Nat) : Bool := Nat.beq i 3 || Nat.beq i 7 || Nat.beq i 10
theorem regL {ops : Array Oper} {Q : Exit → Act → World → Prop} {id : Nat} {A : Act} {y0 : World} (w : World) (P : Nat) (v : Nat → Value) (t : Std) (gb nb cb g5 n5 c5 j q X : Nat) (a0 : UInt8) (hv0 : v 0 = .slice (some ⟨gb, 0, none⟩) nb cb) (hv5 : v 5 = .slice (some ⟨g5, 0, none⟩) n5 c5) (hj : j < n5) (hq : (q + 1) < nb) (hnb : nb ≤ 100000) (hX : X < 65536) (hpl : (vsD t 5)[j]? = some (.int .i64 (q : Int))) (ha : t.1[(q + 1)]? = some a0)
    (b0 : Nat) (hA : b0 + 16 ≤ A.tmps.size) (h12 : 12 < b0) (e5 : A.eval (.tmp 5) = .pointer (some ⟨P, 0, none⟩)) (e10 : A.eval (.tmp 10) = .int .i64 (j : Int)) (e12 : A.eval (.tmp 12) = .int .u16 (X : Int)) (hsz : ops.size = 17) (hup : upB .any ops = true)
    (o0 : OpB ops 0 (some b0) (.move (.tmp 5)) [])
    (o1 : OpB ops 1 (some (b0 + 1)) (.nilCheck (.tmp b0)) [0])
    (o2 : OpB ops 2 (some (b0 + 2)) (.fieldAddr 88 (.tmp (b0 + 1)) 0) [1])
    (o3 : OpB ops 3 (some (b0 + 3)) (.load 45 (.tmp (b0 + 2))) [2])
    (o4 : OpB ops 4 (some (b0 + 4)) (.move (.tmp 5)) [])
    (o5 : OpB ops 5 (some (b0 + 5)) (.nilCheck (.tmp (b0 + 4))) [4])
    (o6 : OpB ops 6 (some (b0 + 6)) (.fieldAddr 88 (.tmp (b0 + 5)) 5) [5])
    (o7 : OpB ops 7 (some (b0 + 7)) (.load 85 (.tmp (b0 + 6))) [6])
    (o8 : OpB ops 8 (some (b0 + 8)) (.move (.tmp 10)) [])
    (o9 : OpB ops 9 (some (b0 + 9)) (.indexAddr 85 (.tmp (b0 + 7)) (.tmp (b0 + 8))) [7, 8])
    (o10 : OpB ops 10 (some (b0 + 10)) (.load 3 (.tmp (b0 + 9))) [9])
    (o11 : OpB ops 11 (some (b0 + 11)) (.binOp .add 3 (.tmp (b0 + 10)) (.const (.int .i64 1)) 3) [10])
    (o12 : OpB ops 12 (some (b0 + 12)) (.move (.tmp 12)) [])
    (o13 : OpB ops 13 (some (b0 + 13)) (.binOp .rem 27 (.tmp (b0 + 12)) (.const (.int .u16 256)) 27) [12])
    (o14 : OpB ops 14 (some (b0 + 14)) (.convert 27 5 (.tmp (b0 + 13))) [13])
    (o15 : OpB ops 15 (some (b0 + 15)) (.indexAddr 45 (.tmp (b0 + 3)) (.tmp (b0 + 11))) [3, 11])
    (o16 : OpB ops 16 none (.store 5 (.tmp (b0 + 15)) (.tmp (b0 + 14))) [15, 14])
    (a3 : ancB ops 17 15 3 = true)
    (a7 : ancB ops 17 15 7 = true)
    (a10 : ancB ops 17 15 10 = true)
    (aB : ancB ops 17 15 11 = true) (aC : ancB ops 17 16 15 = true) (h : Qp w P v (vsD t) y0) (fin : ∀ (vals : List Value) (z : World), vals.length = 16 → Hid (Qp w P v (vsD (t.1.set (q + 1) (UInt8.ofNat (X % 256)), t.2)) z) → Q .normal (puts A b0 vals) z) : (Code.region id ops true).wp Tryd.prog Q A y0 := by
  refine region_app (b := b0) (n := 16) (iB := 11) (iC := 15) (V := VL P g5 j q X (.slice (some ⟨gb, 0, none⟩) nb cb) (.slice (some ⟨g5, 0, none⟩) n5 c5)) (E := EL) (P0 := fun y => Qp w P v (vsD t) y) (P1 := fun v' y => v' = .int .i64 ((q + 1 : Nat) : Int) ∧ Qp w P v (vsD t) y) (P2 := fun v' y => v' = .pointer (some ⟨gb, (q + 1), none⟩) ∧ Qp w P v (vsD t) y) (P3 := fun z => Qp w P v (vsD (t.1.set (q + 1) (UInt8.ofNat (X % 256)), t.2)) z) (by kernel_rfl) hup hA ?_ h.drew (fun vals z hv hz => fin vals z hv hz)
  have q5 : ∀ {a : Act}, FrR b0 16 A a → a.eval (.tmp 5) = .pointer (some ⟨P, 0, none⟩) := fun hf' => (hf'.ev 5 (.inl (by omega))).trans e5
  have q10 : ∀ {a : Act}, FrR b0 16 A a → a.eval (.tmp 10) = .int .i64 (j : Int) := fun hf' => (hf'.ev 10 (.inl (by omega))).trans e10
  have q12 : ∀ {a : Act}, FrR b0 16 A a → a.eval (.tmp 12) = .int .u16 (X : Int) := fun hf' => (hf'.ev 12 (.inl (by omega))).trans e12
  have hcell : ∀ {y : World}, Qp w P v (vsD t) y → y.cell? ⟨g5, j, none⟩ = some (.int .i64 (q : Int)) := fun hh => by
    obtain ⟨g', c', e', h'⟩ := hh.row 5 (by decide) j _ hpl
    rw [hv5] at e'
    injection e' with e'
    injection e' with e'
    injection e' with e'
    rw [e']
    exact h'
  refine ⟨hsz, by decide, by decide, by decide, rfl, rfl, ?_, ?_, ?_, ⟨_, aB⟩, ⟨_, aC⟩, ?_, ?_, ?_, ?_⟩
  · intro i u hu
    match i, hu with
    | 0, _ => exact (by decide)
    | 1, _ => exact (by decide)
    | 2, _ => exact (by decide)
    | 3, _ => exact (by decide)
    | 4, _ => exact (by decide)
    | 5, _ => exact (by decide)
    | 6, _ => exact (by decide)
    | 7, _ => exact (by decide)
    | 8, _ => exact (by decide)
    | 9, _ => exact (by decide)
    | 10, _ => exact (by decide)
    | 12, _ => exact (by decide)
    | 13, _ => exact (by decide)
    | 14, _ => exact (by decide)
  · intro i hi h1 h2
    rcases ltL hi with rfl | rfl | rfl | rfl | rfl | rfl | rfl | rfl | rfl | rfl | rfl | rfl | rfl | rfl | rfl | rfl
    · rfl
    · rfl
    · rfl
    · rfl
    · rfl
    · rfl
    · rfl
    · rfl
    · rfl
    · rfl
    · rfl
    · exact absurd rfl h1
    · rfl
    · rfl
    · rfl
    · exact absurd rfl h2
  · intro i hi
    unfold EL at hi
    simp only [Bool.or_eq_true] at hi
    rcases hi with (hi | hi) | hi
    · have : i = 3 := Nat.eq_of_beq_eq_true hi
      subst this
      exact ⟨_, a3⟩
    · have : i = 7 := Nat.eq_of_beq_eq_true hi
      subst this
      exact ⟨_, a7⟩
    · have : i = 10 := Nat.eq_of_beq_eq_true hi
      subst this
      exact ⟨_, a10⟩
  · intro i u hu
    match i, hu with
    | 0, hu =>
      obtain ⟨o, ho, hg, hd, hp, hw⟩ := o0
      injection hu with hu
      subst hu
      refine ⟨o, ho, hg, hd, fun a y hf' hn he => ?_⟩
      exact ex_move hp (q5 hf')
    | 1, hu =>
      obtain ⟨o, ho, hg, hd, hp, hw⟩ := o1
      injection hu with hu
      subst hu
      simp only [List.all_cons, List.all_nil, Bool.and_true] at hw
      refine ⟨o, ho, hg, hd, fun a y hf' hn he => ?_⟩
      exact ex_nil hp (hn 0 _ rfl hw)
    | 2, hu =>
      obtain ⟨o, ho, hg, hd, hp, hw⟩ := o2
      injection hu with hu
      subst hu
      simp only [List.all_cons, List.all_nil, Bool.and_true] at hw
      refine ⟨o, ho, hg, hd, fun a y hf' hn he => ?_⟩
      exact ex_fldP P 0 (by decide) hp (hn 1 _ rfl hw)
    | 3, hu =>
      obtain ⟨o, ho, hg, hd, hp, hw⟩ := o3
      injection hu with hu
      subst hu
      simp only [List.all_cons, List.all_nil, Bool.and_true] at hw
      refine ⟨o, ho, hg, hd, fun a y hf' hn he => ?_⟩
      exact ex_ld agU8 hp (hn 2 _ rfl hw) (hv0 ▸ bx_row ((show Qp w P v (vsD t) y from by rcases he rfl with hq' | ⟨_, hq'⟩; exact hq'; exact hq'.2)).box 0 (by decide))
    | 4, hu =>
      obtain ⟨o, ho, hg, hd, hp, hw⟩ := o4
      injection hu with hu
      subst hu
      refine ⟨o, ho, hg, hd, fun a y hf' hn he => ?_⟩
      exact ex_move hp (q5 hf')
    | 5, hu =>
      obtain ⟨o, ho, hg, hd, hp, hw⟩ := o5
      injection hu with hu
      subst hu
      simp only [List.all_cons, List.all_nil, Bool.and_true] at hw
      refine ⟨o, ho, hg, hd, fun a y hf' hn he => ?_⟩
      exact ex_nil hp (hn 4 _ rfl hw)
    | 6, hu =>
      obtain ⟨o, ho, hg, hd, hp, hw⟩ := o6
      injection hu with hu
      subst hu
      simp only [List.all_cons, List.all_nil, Bool.and_true] at hw
      refine ⟨o, ho, hg, hd, fun a y hf' hn he => ?_⟩
      exact ex_fldP P 5 (by decide) hp (hn 5 _ rfl hw)
    | 7, hu =>
      obtain ⟨o, ho, hg, hd, hp, hw⟩ := o7
      injection hu with hu
      subst hu
      simp only [List.all_cons, List.all_nil, Bool.and_true] at hw
      refine ⟨o, ho, hg, hd, fun a y hf' hn he => ?_⟩
      exact ex_ld agI8 hp (hn 6 _ rfl hw) (hv5 ▸ bx_row ((show Qp w P v (vsD t) y from by rcases he rfl with hq' | ⟨_, hq'⟩; exact hq'; exact hq'.2)).box 5 (by decide))
    | 8, hu =>
      obtain ⟨o, ho, hg, hd, hp, hw⟩ := o8
      injection hu with hu
      subst hu
      refine ⟨o, ho, hg, hd, fun a y hf' hn he => ?_⟩
      exact ex_move hp (q10 hf')
    | 9, hu =>
      obtain ⟨o, ho, hg, hd, hp, hw⟩ := o9
      injection hu with hu
      subst hu
      simp only [List.all_cons, List.all_nil, Bool.and_true, Bool.and_eq_true] at hw
      refine ⟨o, ho, hg, hd, fun a y hf' hn he => ?_⟩
      exact ex_ix (idxI0 _ _ _ _ hj _) hp (hn 7 _ rfl hw.1) (hn 8 _ rfl hw.2)
    | 10, hu =>
      obtain ⟨o, ho, hg, hd, hp, hw⟩ := o10
      injection hu with hu
      subst hu
      simp only [List.all_cons, List.all_nil, Bool.and_true] at hw
      refine ⟨o, ho, hg, hd, fun a y hf' hn he => ?_⟩
      exact ex_ld agI1 hp (hn 9 _ rfl hw) (hcell (show Qp w P v (vsD t) y from by rcases he rfl with hq' | ⟨_, hq'⟩; exact hq'; exact hq'.2))
    | 12, hu =>
      obtain ⟨o, ho, hg, hd, hp, hw⟩ := o12
      injection hu with hu
      subst hu
      refine ⟨o, ho, hg, hd, fun a y hf' hn he => ?_⟩
      exact ex_move hp (q12 hf')
    | 13, hu =>
      obtain ⟨o, ho, hg, hd, hp, hw⟩ := o13
      injection hu with hu
      subst hu
      simp only [List.all_cons, List.all_nil, Bool.and_true] at hw
      refine ⟨o, ho, hg, hd, fun a y hf' hn he => ?_⟩
      exact ex_rem hp (hn 12 _ rfl hw) hX
    | 14, hu =>
      obtain ⟨o, ho, hg, hd, hp, hw⟩ := o14
      injection hu with hu
      subst hu
      simp only [List.all_cons, List.all_nil, Bool.and_true] at hw
      refine ⟨o, ho, hg, hd, fun a y hf' hn he => ?_⟩
      exact ex_conv (by omega) (by omega) hp (hn 13 _ rfl hw)
  · obtain ⟨o, ho, hg, hd, hp, hw⟩ := o11
    simp only [List.all_cons, List.all_nil, Bool.and_true] at hw
    refine ⟨o, ho, fun a y K' hf' hn h0 k' => ?_⟩
    refine wpOp_val (.int .i64 ((q + 1 : Nat) : Int)) ho hg (ex_add1 (by omega) hp (hn 10 _ rfl hw)) ?_
    rw [hd]
    exact k' _ _ ⟨rfl, h0⟩
  · obtain ⟨o, ho, hg, hd, hp, hw⟩ := o15
    simp only [List.all_cons, List.all_nil, Bool.and_true, Bool.and_eq_true] at hw
    refine ⟨o, ho, fun a y K' hf' hn h1 k' => ?_⟩
    refine wpOp_val (.pointer (some ⟨gb, (q + 1), none⟩)) ho hg (ex_ix (idxU _ _ _ _ hq _) hp (hn 3 _ rfl hw.1) h1.1) ?_
    rw [hd]
    exact k' _ _ ⟨rfl, h1.2⟩
  · obtain ⟨o, ho, hg, hd, hp, hw⟩ := o16
    simp only [List.all_cons, List.all_nil, Bool.and_true, Bool.and_eq_true] at hw
    refine ⟨o, ho, fun a y K' hf' hn h2 k' => ?_⟩
    obtain ⟨p1, p2, p3⟩ := h2.2.put0 hv0 (q + 1) a0 (UInt8.ofNat (X % 256)) ha
    refine wpOp_skip ho hg (ex_stB hp h2.1 (hn 14 _ rfl hw.2) p2 p3) ?_
    rw [hd]
    refine k' _ ?_
    rw [lo_byte X]
    exact p1
end Go.Proofs.YthaijjehplomfaaDoor
