/- Rows cut from the front; whether bytes are whole instructions. Whether bytes are whole instructions: the program's look and the document's. -/
import Derived.Test.YthbdpceobnkflaaDoorJ9
import Derived.Test.YthbdpceobnkflaaDoorJ2
import Derived.Test.YthbdpceobnkflaaDoorJ3
import Derived.Test.YthbdpceobnkflaaDoorJ5
namespace Go.Proofs.YthbdpceobnkflaaDoor
open Go Go.RowKit
set_option linter.unusedVariables false
set_option maxHeartbeats 1000000
set_option maxRecDepth 20000

theorem slB (g o n cap k : Nat) (h : k ≤ n) (hc : n ≤ cap) : ∃ sp1, (∀ v, (Instr.sliceAt 33 (.slice (some ⟨g, o, none⟩) n cap) (some (.int .i64 (k : Int))) none none).run Tryd.prog v = .ok (.slice sp1 (n - k) (cap - k)) v) ∧ (k < n → sp1 = some ⟨g, o + k, none⟩) := by
  refine ⟨if cap = k then some ⟨g, o, none⟩ else (some (⟨g, o, none⟩ : Addr)).map (·.add (k * 1)), fun v => ?_, fun h => ?_⟩
  · have hu : Tryd.prog.underlying 33 = some (.slice (Tryd.prog.elem 33)) := by kernel_rfl
    rw [run_sliceAt_slice v _ _ _ _ _ hu, run_slice_l v _ _ _ _ hu .i64 (k : Int) (by omega) (by omega)]
    have hz : ∀ v, (sizeOf (Tryd.prog.elem 33)).run Tryd.prog v = .ok 1 v := fun v => by kernel_rfl
    rw [hz]
    simp only [Result.andThen_ok, sliced, Int.toNat_natCast]
  · rw [if_neg (by omega)]
    simp [Addr.add_lit]
theorem slM (g o n cap k : Nat) (h : k ≤ n) (hc : n ≤ cap) : ∃ sp1, (∀ v, (Instr.sliceAt 26 (.slice (some ⟨g, o, none⟩) n cap) (some (.int .i64 (k : Int))) none none).run Tryd.prog v = .ok (.slice sp1 (n - k) (cap - k)) v) ∧ (k < n → sp1 = some ⟨g, o + k * 3, none⟩) := by
  refine ⟨if cap = k then some ⟨g, o, none⟩ else (some (⟨g, o, none⟩ : Addr)).map (·.add (k * 3)), fun v => ?_, fun h => ?_⟩
  · have hu : Tryd.prog.underlying 26 = some (.slice (Tryd.prog.elem 26)) := by kernel_rfl
    rw [run_sliceAt_slice v _ _ _ _ _ hu, run_slice_l v _ _ _ _ hu .i64 (k : Int) (by omega) (by omega)]
    have hz : ∀ v, (sizeOf (Tryd.prog.elem 26)).run Tryd.prog v = .ok 3 v := fun v => by kernel_rfl
    rw [hz]
    simp only [Result.andThen_ok, sliced, Int.toNat_natCast]
  · rw [if_neg (by omega)]
    simp [Addr.add_lit]
theorem at_sl {ops : Array Oper} {rest : List Oper} {o : Oper} {a : Act} {w : World} {Q : Exit → Act → World → Prop} (t : TypeId) (x lo : Operand) (X L v : Value) (hg : Region.wanted o (yielded ops a.tmps) = true) (ho : o.op = .slice t x (some lo) none none) (hx : a.eval x = X) (hl : a.eval lo = L)
    (h : ∀ w, (Instr.sliceAt t X (some L) none none).run Tryd.prog w = .ok v w) (k : wpList Tryd.prog ops Q rest (a.put o.dst v) w) : wpList Tryd.prog ops Q (o :: rest) a w := by
  refine at_op v hg ?_ k
  unfold execOp
  simp only [ho, hx, hl, Option.map_some, Option.map_none, Sem.run_bind, h, Result.andThen_ok, Sem.run_pure]
/-- How many bytes an instruction has. -/
def insL (x : UInt8) : Nat := lay (fm x.toNat * 3)
theorem ins_all : ∀ n : Nat, n < 256 → 1 ≤ fm n ∧ fm n ≤ 6 ∧ (lay (fm n * 3) = 1 ∨ lay (fm n * 3) = 2 ∨ lay (fm n * 3) = 3) := by decide +kernel
theorem ins_form : ∀ n : Nat, n < 256 → (lay (fm n * 3) = 1 ∧ (fm n = 1 ∨ fm n = 2 ∨ fm n = 3)) ∨ (lay (fm n * 3) = 2 ∧ (fm n = 4 ∨ fm n = 5)) ∨ (lay (fm n * 3) = 3 ∧ fm n = 6) := by decide +kernel
theorem insL_le (x : UInt8) : 1 ≤ insL x ∧ insL x ≤ 3 := by
  have := (ins_all x.toNat (UInt8.toNat_lt x)).2.2
  unfold insL
  omega
def wholeF : Nat → List UInt8 → Bool
  | _, [] => true
  | 0, _ :: _ => false
  | k + 1, x :: r => if (x :: r).length < insL x then false else wholeF k ((x :: r).drop (insL x))
def wholeB (l : List UInt8) : Bool := wholeF l.length l
theorem wholeF_more : ∀ (k : Nat) (l : List UInt8), l.length ≤ k → wholeF k l = wholeF l.length l := by
  intro k
  induction k using Nat.strongRecOn with
  | ind k ih =>
    intro l hl
    rcases l with _ | ⟨x, r⟩
    · cases k <;> rfl
    · rcases k with _ | k
      · simp at hl
      · show (if (x :: r).length < insL x then false else wholeF k ((x :: r).drop (insL x))) = (if (x :: r).length < insL x then false else wholeF r.length ((x :: r).drop (insL x)))
        have h1 := (insL_le x).1
        have hd : ((x :: r).drop (insL x)).length ≤ r.length := by rw [List.length_drop, List.length_cons]; omega
        simp only [List.length_cons] at hl
        by_cases hs : (x :: r).length < insL x
        · rw [if_pos hs, if_pos hs]
        · rw [if_neg hs, if_neg hs]
          rcases Nat.lt_or_ge r.length k with h2 | h2
          · rw [ih k (by omega) _ (by omega), ih r.length (by omega) _ hd]
          · have : k = r.length := by omega
            rw [this]
theorem wholeB_cons (x : UInt8) (r : List UInt8) : wholeB (x :: r) = if (x :: r).length < insL x then false else wholeB ((x :: r).drop (insL x)) := by
  show (if (x :: r).length < insL x then false else wholeF r.length ((x :: r).drop (insL x))) = _
  have h1 := (insL_le x).1
  by_cases hs : (x :: r).length < insL x
  · rw [if_pos hs, if_pos hs]
  · rw [if_neg hs, if_neg hs]
    unfold wholeB
    exact wholeF_more _ _ (by rw [List.length_drop, List.length_cons]; omega)
def decN (l : List UInt8) (x : UInt8) : Int := if l.length < insL x then 0 else (insL x : Int)
def decE (l : List UInt8) (x : UInt8) : Int := if l.length < insL x then 22 else 0
theorem lb_cell {w : World} {g o : Nat} {l : List UInt8} (h : LB8 w (some ⟨g, o, none⟩) l) (j : Nat) (b : UInt8) (hj : l[j]? = some b) : w.cell? ⟨g, o + j, none⟩ = some (.int .u8 (b.toNat : Int)) := by
  obtain ⟨g', o', e, c⟩ := h j b hj
  cases e
  exact c
theorem pdec_any (w : World) (T : Hid (Tabs w)) (g o cap : Nat) (x : UInt8) (r : List UInt8) (h : Hid (LB8 w (some ⟨g, o, none⟩) (x :: r))) :
    Calls Tryd.prog 64 #[.slice (some ⟨g, o, none⟩) (x :: r).length cap] w fun e w' => ∃ (X : ByteArray) (A : Int), e = .returned (.tuple #[.agg #[.string X, .int .i64 A], .int .i64 (decN (x :: r) x), .int .i64 (decE (x :: r) x)]) ∧ Below w.heap.size w w' := by
  have hx := UInt8.toNat_lt x
  have c0 := lb_cell h.out 0 x rfl
  rw [Nat.add_zero] at c0
  have hg := World.block_lt_of_cell? w _ c0
  obtain ⟨f1, f6, fL⟩ := ins_all x.toNat hx
  by_cases hs : (x :: r).length < insL x
  · refine (dec_short w T.out g o _ cap x.toNat hx c0 hg (nm x.toNat) (fm x.toNat) (lay (fm x.toNat * 3)) (cyc x.toNat) (held x.toNat (fm x.toNat)) rfl rfl rfl rfl rfl (by simp) hs f6).mono ?_
    rintro e w' ⟨rfl, hb⟩
    exact ⟨⟨#[]⟩, 0, by unfold decN decE; rw [if_pos hs, if_pos hs]; rfl, hb⟩
  · have hn : ∀ n : Nat, insL x = n → decN (x :: r) x = (n : Int) ∧ decE (x :: r) x = 0 := fun n e => by unfold decN decE; rw [if_neg hs, if_neg hs, e]; exact ⟨rfl, rfl⟩
    have hlen : insL x ≤ (x :: r).length := by omega
    have e0 : insL x = lay (fm x.toNat * 3) := rfl
    rcases fL with e | e | e
    · obtain ⟨k1, k2⟩ := hn 1 e
      rw [k1, k2]
      refine (dec_1 w T.out g o _ cap x.toNat hx c0 hg (nm x.toNat) (fm x.toNat) (cyc x.toNat) (held x.toNat (fm x.toNat)) rfl rfl e rfl rfl (by simp) f6).mono ?_
      rintro e w' ⟨rfl, hb⟩
      exact ⟨_, _, rfl, hb⟩
    · obtain ⟨k1, k2⟩ := hn 2 e
      rw [k1, k2]
      rw [e0, e] at hlen
      obtain ⟨p, hp⟩ : ∃ p, (x :: r)[1]? = some p := ⟨_, List.getElem?_eq_getElem (by omega)⟩
      refine (dec_2 w T.out g o _ cap x.toNat hx c0 hg p.toNat (UInt8.toNat_lt p) (lb_cell h.out 1 p hp) (nm x.toNat) (fm x.toNat) (cyc x.toNat) (held x.toNat (fm x.toNat)) rfl rfl e rfl rfl hlen f6).mono ?_
      rintro e w' ⟨rfl, hb⟩
      exact ⟨_, _, rfl, hb⟩
    · obtain ⟨k1, k2⟩ := hn 3 e
      rw [k1, k2]
      rw [e0, e] at hlen
      obtain ⟨p, hp⟩ : ∃ p, (x :: r)[1]? = some p := ⟨_, List.getElem?_eq_getElem (by omega)⟩
      obtain ⟨q, hq⟩ : ∃ q, (x :: r)[2]? = some q := ⟨_, List.getElem?_eq_getElem (by omega)⟩
      refine (dec_3 w T.out g o _ cap x.toNat hx c0 hg p.toNat q.toNat (UInt8.toNat_lt p) (UInt8.toNat_lt q) (lb_cell h.out 1 p hp) (lb_cell h.out 2 q hq) (nm x.toNat) (fm x.toNat) (cyc x.toNat) (held x.toNat (fm x.toNat)) rfl rfl e rfl rfl hlen f6).mono ?_
      rintro e w' ⟨rfl, hb⟩
      exact ⟨_, _, rfl, hb⟩
end Go.Proofs.YthbdpceobnkflaaDoor

namespace Go.Proofs.YthbdpceobnkflaaDoor
open Go Go.RowKit
set_option linter.unusedVariables false
set_option maxHeartbeats 1000000
set_option maxRecDepth 20000

def in2 (X : ByteArray) (A : Int) : Array Value := #[.string X, .int .i64 A]
theorem rtIn : Rt Tryd.prog 87 2 := ⟨⟨_, Tryd.underlying87, rfl⟩, by kernel_rfl⟩
theorem oneIn (X : ByteArray) (A : Int) : (in2 X A).all (·.oneCell') = true := by simp [in2, Value.oneCell']
def lenOf : Value → Nat
  | .slice _ n _ => n
  | _ => 0
theorem LB8.drop {w : World} {g o : Nat} {l : List UInt8} (h : LB8 w (some ⟨g, o, none⟩) l) (k : Nat) (sp : Option Addr) (hs : k < l.length → sp = some ⟨g, o + k, none⟩) : LB8 w sp (l.drop k) := fun j b hj => by
  rw [List.getElem?_drop] at hj
  have hl := (List.getElem?_eq_some_iff.1 hj).1
  exact ⟨g, o + k, hs (by omega), by rw [Nat.add_assoc]; exact lb_cell h (k + j) b hj⟩
theorem LB8.take {w : World} {sp : Option Addr} {l : List UInt8} (h : LB8 w sp l) (k : Nat) : LB8 w sp (l.take k) := fun j b hj => by
  rw [List.getElem?_take] at hj
  split at hj
  · exact h j b hj
  · cases hj
theorem whole_any (w : World) (T : Hid (Tabs w)) (sp : Option Addr) (cap : Nat) (l : List UInt8) (h : Hid (LB8 w sp l)) (hc : l.length ≤ cap) (hn : l.length ≤ 2147483647) :
    Calls Tryd.prog 53 #[.slice sp l.length cap] w fun e w' => e = .returned (.bool (wholeB l)) ∧ Below w.heap.size w w' := by
  obtain ⟨R, hR⟩ : ∃ R, wholeB l = R := ⟨_, rfl⟩
  have H0 : Hid (LB8 w sp l ∧ l.length ≤ cap ∧ l.length ≤ 2147483647 ∧ wholeB l = R) := ⟨h.out, hc, hn, hR⟩
  have hD : Hid (∀ v g o cap x r, Below w.heap.size w v → LB8 v (some ⟨g, o, none⟩) (x :: r) → Calls Tryd.prog 64 #[.slice (some ⟨g, o, none⟩) (x :: r).length cap] v fun e w' => ∃ (X : ByteArray) (A : Int), e = .returned (.tuple #[.agg (in2 X A), .int .i64 (decN (x :: r) x), .int .i64 (decE (x :: r) x)]) ∧ Below v.heap.size v w') := fun v g o cap x r hv hl => pdec_any v (T.out.below hv) g o cap x r hl
  rw [hR]
  clear hc hn h hR
  go_enter Tryd.func53, Tryd.ntmps53
  go_wp2
  go_loopw [0] (fun b wz => ∃ (p : Option Addr) (c : Nat) (m : List UInt8) (y : World), y = wz ∧ b = .slice p m.length c ∧ Hid (LB8 y p m ∧ m.length ≤ c ∧ m.length ≤ 2147483647 ∧ wholeB m = R) ∧ Hid (Below w.heap.size w y)) (fun b _ => lenOf b)
  case atStart => exact ⟨sp, cap, l, w, rfl, rfl, H0, Below.refl _ _⟩
  case round =>
    obtain ⟨p, c, m, y, rfl, rfl, J, K⟩ := hrel
    rcases m with _ | ⟨x, r⟩
    · have fin : Hid (R = true) := J.out.2.2.2.symm
      go_wp2
      go_ret
      rw [fin.out]
      exact ⟨rfl, K.out⟩
    · obtain ⟨g, o, rfl, _⟩ := J.out.1 0 x rfl
      have hcall := hD.out y g o c x r K.out J.out.1
      have hw := wholeB_cons x r
      rw [J.out.2.2.2] at hw
      obtain ⟨n, hnl⟩ : ∃ n, (x :: r).length = n := ⟨_, rfl⟩
      have n0 : (0 : Int) < n := by simp at hnl; omega
      have ni : (n : Int) ≤ 2147483647 := by have := J.out.2.2.1; omega
      have hil := insL_le x
      rw [hnl] at hcall hw ⊢
      by_cases hs : n < insL x
      · have e1 : decN (x :: r) x = 0 := by unfold decN; rw [hnl, if_pos hs]
        have e2 : decE (x :: r) x = 22 := by unfold decE; rw [hnl, if_pos hs]
        rw [e1, e2] at hcall
        have fin : Hid (R = false) := by rw [if_pos hs] at hw; exact hw
        replace hnl : Hid _ := hnl
        clear hs e1 e2 hw hil
        go_wp2_with (first
          | (go_at_call 64; refine hcall.mono ?_; rintro e y1 ⟨X, A, rfl, H1⟩; have K1 : Hid (Below w.heap.size w y1) := of_below K.out H1; clear H1)
          | ((with_reducible refine gen_world (y1.alloc (.cells #[.string ⟨#[]⟩, .int .i64 0] 87)) (fun u => Bx u y1.heap.size (in2 ⟨#[]⟩ 0) 87 ∧ Below w.heap.size w u) ?_ ?_); exact ⟨one_bxL _ _ _, of_below K1.out (below1 _ _)⟩; intro y2 K2)
          | ((with_reducible refine at_st rtIn y1.heap.size (in2 ⟨#[]⟩ 0) (in2 X A) ?_ ?_ ?_ ?_ (.tmp 3) (.tmp 12) ?_ ?_ ?_ ?_ ?_); exact K2.out.1; rfl; rfl; exact oneIn _ _; rfl; rfl; rfl; rfl; intro y3 hw3; have K3 : Hid (Below w.heap.size w y3) := K2.out.2.trans (hw3.out.2.1 _ K1.out.size); clear hw3))
        go_ret
        rw [fin.out]
        exact ⟨rfl, K3.out⟩
      · have e1 : decN (x :: r) x = (insL x : Int) := by unfold decN; rw [hnl, if_neg hs]
        have e2 : decE (x :: r) x = 0 := by unfold decE; rw [hnl, if_neg hs]
        rw [e1, e2] at hcall
        rw [if_neg hs] at hw
        obtain ⟨k, hk⟩ : ∃ k, insL x = k := ⟨_, rfl⟩
        rw [hk] at hcall hw hil hs
        obtain ⟨sp1, hsl, hs1⟩ := slB g o n c k (by omega) (by have := J.out.2.1; omega)
        have J2 : Hid (∀ u, Below y.heap.size y u → LB8 u sp1 ((x :: r).drop k) ∧ ((x :: r).drop k).length ≤ c - k ∧ ((x :: r).drop k).length ≤ 2147483647 ∧ wholeB ((x :: r).drop k) = R) := fun u hu => by
          have h1 := J.out.2.1
          have h2 := J.out.2.2.1
          refine ⟨(J.out.1.below hu).drop k sp1 (fun h => hs1 (by omega)), by rw [List.length_drop]; omega, by rw [List.length_drop]; omega, hw.symm⟩
        have hdl : Hid (((x :: r).drop k).length = n - k) := by show _ = _; rw [List.length_drop, hnl]
        have hkn : Hid (1 ≤ k ∧ k ≤ n) := ⟨hil.1, by omega⟩
        replace hnl : Hid _ := hnl
        clear hs e1 e2 hw hil hk hs1
        go_wp2_with (first
          | (go_at_call 64; refine hcall.mono ?_; rintro e y1 ⟨X, A, rfl, H1⟩; have K1 : Hid (Below y.heap.size y y1) := H1; clear H1)
          | ((with_reducible refine gen_world (y1.alloc (.cells #[.string ⟨#[]⟩, .int .i64 0] 87)) (fun u => Bx u y1.heap.size (in2 ⟨#[]⟩ 0) 87 ∧ Below y.heap.size y u) ?_ ?_); exact ⟨one_bxL _ _ _, of_below K1.out (below1 _ _)⟩; intro y2 K2)
          | ((with_reducible refine at_st rtIn y1.heap.size (in2 ⟨#[]⟩ 0) (in2 X A) ?_ ?_ ?_ ?_ (.tmp 3) (.tmp 12) ?_ ?_ ?_ ?_ ?_); exact K2.out.1; rfl; rfl; exact oneIn _ _; rfl; rfl; rfl; rfl; intro y3 hw3; have K3 : Hid (Below y.heap.size y y3) := K2.out.2.trans (hw3.out.2.1 _ K1.out.size); clear hw3)
          | ((with_reducible refine at_sl 33 (.tmp 17) (.tmp 18) (.slice (some ⟨g, o, none⟩) n c) (.int .i64 (k : Int)) (.slice sp1 (n - k) (c - k)) ?_ ?_ ?_ ?_ hsl ?_); kernel_rfl; rfl; rfl; rfl))
        go_roundw
        case rel => exact ⟨sp1, c - k, (x :: r).drop k, y3, rfl, by rw [hdl.out], J2.out y3 K3.out, of_below K.out K3.out⟩
        case measure => have := hkn.out; simp [lenOf]; omega
end Go.Proofs.YthbdpceobnkflaaDoor
