/- The words that a record's line is made of: the program's. -/
import Derived.Test.YtoajmicdphffnabDoorGa
import Derived.Test.YtoajmicdphffnabDoorXp
import Derived.Test.YtoajmicdphffnabDoorKr
namespace Go.Proofs.YtoajmicdphffnabDoor
open Go Go.RowKit
set_option linter.unusedVariables false
set_option maxHeartbeats 2000000
set_option maxRecDepth 20000

/-- The table of the modes' words. -/
def moC : Array Value := #[.string ⟨#[]⟩, .string ⟨#[112, 97, 117, 115, 101]⟩, .string ⟨#[114, 101, 115, 101, 116]⟩, .string ⟨#[108, 111, 97, 100]⟩]
def Tp (w : World) : Prop := ∀ (i : Nat) (v : Value), moC[i]? = some v → w.cell? ⟨0, i, none⟩ = some v
theorem Tp.below {w y : World} (h : Tp w) (hb : Below w.heap.size w y) : Tp y := fun i v hv => by
  have := h i v hv
  exact (hb.cell (p := ⟨0, i, none⟩) (World.block_lt_of_cell? w _ this)).trans this
theorem Tp.low {w y : World} {B : Nat} (h : Tp w) (hb : Below w.heap.size w y) : Tp y := h.below hb
theorem Bx.keep {w y : World} {b t : Nat} {cs : Array Value} (h : Bx w b cs t) (hb : Below w.heap.size w y) : Bx y b cs t := (hb.block b (heap_lt h)).trans h
def moS (m : Int) : ByteArray := if m = 1 then ⟨#[112, 97, 117, 115, 101]⟩ else if m = 2 then ⟨#[114, 101, 115, 101, 116]⟩ else if m = 3 then ⟨#[108, 111, 97, 100]⟩ else ⟨#[]⟩
/-- The word at each of the eight places; empty where none stands. -/
def sayW (r : Rc) : Nat → ByteArray
  | 0 => ⟨#[115]⟩ ++ hexOf r.co 1
  | 1 => hexOf r.ad 4
  | 2 => hexOf r.da 2
  | 3 => if r.re then ⟨#[114]⟩ else ⟨#[]⟩
  | 4 => if r.wr then ⟨#[119]⟩ else ⟨#[]⟩
  | 5 => if r.po = 0 then ⟨#[]⟩ else ⟨#[110]⟩ ++ hexOf r.po 1
  | 6 => if r.q then ⟨#[113]⟩ else ⟨#[]⟩
  | _ => moS r.mo
theorem say0 (w : World) (r : Rc) (g : Rr r) (hm : r.co ≤ 3) : Calls Tryd.prog 31 #[.agg (rcC r)] w fun e w' => e = .returned (.string (⟨#[115]⟩ ++ hexOf r.co 1)) ∧ Below w.heap.size w w' := by
  have hF : Hid (Fm w [(w.heap.size, rcC r, 45)] (w.alloc (.cells (rcC r) 45))) := Fm.one w _ _
  have l0 := g.c0
  have l1 := g.c1
  obtain ⟨x, hx⟩ : ∃ x, r.co = x := ⟨_, rfl⟩
  rw [hx] at l0 l1
  try rw [hx]
  have hH := fun z => hex_any x 1 z (by omega)
  rw [hx] at hm
  have hz : (hexOf x 1).size = 1 := (hexOf_small x 1 l0 (by omega) (by decide)).2
  obtain ⟨st, hst⟩ : ∃ st, hexOf x 1 = st := ⟨_, rfl⟩
  simp only [hst] at hH
  rw [hst] at hz ⊢
  replace hx : Hid _ := hx
  clear hm hst
  go_enter Tryd.func31, Tryd.ntmps31
  go_wp2_with (first
    | ((with_reducible refine gen_world (w.alloc (.cells (rcC r) 45)) (Fm w [(w.heap.size, rcC r, 45)]) hF.out ?_); intro y K; have d0 := (K.out.bx 0 _ _ _ rfl).c 0 _ (rcC_co r); rw [hx.out] at d0)
    | (go_at_call 32; refine (hH y).mono ?_; rintro e y2 ⟨rfl, h2⟩; replace h2 : Hid _ := h2))
  go_ret
  exact ⟨by first | rfl | simp, K.out.low.trans (h2.out.mono K.out.low.size)⟩
theorem say1 (w : World) (r : Rc) (g : Rr r) : Calls Tryd.prog 35 #[.agg (rcC r)] w fun e w' => e = .returned (.string (hexOf r.ad 4)) ∧ Below w.heap.size w w' := by
  have hF : Hid (Fm w [(w.heap.size, rcC r, 45)] (w.alloc (.cells (rcC r) 45))) := Fm.one w _ _
  have l0 := g.a0
  have l1 := g.a1
  obtain ⟨x, hx⟩ : ∃ x, r.ad = x := ⟨_, rfl⟩
  rw [hx] at l0 l1
  try rw [hx]
  have hH := fun z => hex_any x 4 z (by omega)
  replace hx : Hid _ := hx
  go_enter Tryd.func35, Tryd.ntmps35
  go_wp2_with (first
    | ((with_reducible refine gen_world (w.alloc (.cells (rcC r) 45)) (Fm w [(w.heap.size, rcC r, 45)]) hF.out ?_); intro y K; have d0 := (K.out.bx 0 _ _ _ rfl).c 1 _ (rcC_ad r); rw [hx.out] at d0)
    | (go_at_call 32; refine (hH y).mono ?_; rintro e y2 ⟨rfl, h2⟩; replace h2 : Hid _ := h2))
  go_ret
  exact ⟨by first | rfl | simp, K.out.low.trans (h2.out.mono K.out.low.size)⟩
theorem say2 (w : World) (r : Rc) (g : Rr r) : Calls Tryd.prog 38 #[.agg (rcC r)] w fun e w' => e = .returned (.string (hexOf r.da 2)) ∧ Below w.heap.size w w' := by
  have hF : Hid (Fm w [(w.heap.size, rcC r, 45)] (w.alloc (.cells (rcC r) 45))) := Fm.one w _ _
  have l0 := g.d0
  have l1 := g.d1
  obtain ⟨x, hx⟩ : ∃ x, r.da = x := ⟨_, rfl⟩
  rw [hx] at l0 l1
  try rw [hx]
  have hH := fun z => hex_any x 2 z (by omega)
  replace hx : Hid _ := hx
  go_enter Tryd.func38, Tryd.ntmps38
  go_wp2_with (first
    | ((with_reducible refine gen_world (w.alloc (.cells (rcC r) 45)) (Fm w [(w.heap.size, rcC r, 45)]) hF.out ?_); intro y K; have d0 := (K.out.bx 0 _ _ _ rfl).c 2 _ (rcC_da r); rw [hx.out] at d0)
    | (go_at_call 32; refine (hH y).mono ?_; rintro e y2 ⟨rfl, h2⟩; replace h2 : Hid _ := h2))
  go_ret
  exact ⟨by first | rfl | simp, K.out.low.trans (h2.out.mono K.out.low.size)⟩
theorem say5 (w : World) (r : Rc) (g : Rr r) (hm : r.po ≤ 7) : Calls Tryd.prog 43 #[.agg (rcC r)] w fun e w' => e = .returned (.string (if r.po = 0 then ⟨#[]⟩ else ⟨#[110]⟩ ++ hexOf r.po 1)) ∧ Below w.heap.size w w' := by
  have hF : Hid (Fm w [(w.heap.size, rcC r, 45)] (w.alloc (.cells (rcC r) 45))) := Fm.one w _ _
  have l1 := g.p1
  have l0 := g.p0
  obtain ⟨x, hx⟩ : ∃ x, r.po = x := ⟨_, rfl⟩
  rw [hx] at l0 l1 hm ⊢
  have hH := fun z => hex_any x 1 z (by omega)
  have hz : (hexOf x 1).size = 1 := (hexOf_small x 1 l0 (by omega) (by decide)).2
  obtain ⟨st, hst⟩ : ∃ st, hexOf x 1 = st := ⟨_, rfl⟩
  simp only [hst] at hH
  rw [hst] at hz ⊢
  replace hx : Hid _ := hx
  clear hm hst
  by_cases h0 : x = 0
  · have q : (x == 0) = true := by simpa using h0
    rw [if_pos h0]
    clear h0 hH
    go_enter Tryd.func43, Tryd.ntmps43
    go_wp2_with ((with_reducible refine gen_world (w.alloc (.cells (rcC r) 45)) (Fm w [(w.heap.size, rcC r, 45)]) hF.out ?_); intro y K; have d0 := (K.out.bx 0 _ _ _ rfl).c 5 _ (rcC_po r); rw [hx.out] at d0)
    go_ret
    exact ⟨rfl, K.out.low⟩
  · have q : (x == 0) = false := by simpa using h0
    rw [if_neg h0]
    clear h0
    go_enter Tryd.func43, Tryd.ntmps43
    go_wp2_with (first
      | ((with_reducible refine gen_world (w.alloc (.cells (rcC r) 45)) (Fm w [(w.heap.size, rcC r, 45)]) hF.out ?_); intro y K; have d0 := (K.out.bx 0 _ _ _ rfl).c 5 _ (rcC_po r); rw [hx.out] at d0)
      | (go_at_call 32; refine (hH y).mono ?_; rintro e y2 ⟨rfl, h2⟩; replace h2 : Hid _ := h2))
    go_ret
    exact ⟨by first | rfl | simp, K.out.low.trans (h2.out.mono K.out.low.size)⟩
theorem idxMo (j : Nat) (h : j < 4) (w : World) : (Instr.indexAt 78 (.pointer (some ⟨0, 0, none⟩)) (.int .u8 (j : Int))).run Tryd.prog w = .ok (.pointer (some ⟨0, j, none⟩)) w := by
  have := idx (P := Tryd.prog) (g := 0) (off := 0) (N := 4) (s := 1) Tryd.underlying78 (by kernel_rfl) .u8 j w h
  rw [Nat.zero_add, Nat.mul_one] at this
  exact this
theorem say7 (w : World) (r : Rc) (g : Rr r) (hm : r.mo ≤ 3) (tb : Hid (Tp w)) : Calls Tryd.prog 46 #[.agg (rcC r)] w fun e w' => e = .returned (.string (moS r.mo)) ∧ Below w.heap.size w w' := by
  have hF : Hid (Fm w [(w.heap.size, rcC r, 45)] (w.alloc (.cells (rcC r) 45))) := Fm.one w _ _
  have l0 := g.m0
  obtain ⟨j, hj⟩ : ∃ j : Nat, r.mo = (j : Int) := ⟨r.mo.toNat, by omega⟩
  have hj4 : j < 4 := by omega
  have hi := fun v => idxMo j hj4 v
  obtain ⟨st, hst, hmo⟩ : ∃ st, moC[j]? = some (.string st) ∧ moS r.mo = st := by
    rw [hj]
    rcases (show j = 0 ∨ j = 1 ∨ j = 2 ∨ j = 3 by omega) with h | h | h | h <;> subst h <;> exact ⟨_, rfl, rfl⟩
  rw [hmo]
  replace hj : Hid _ := hj
  replace hst : Hid _ := hst
  clear hmo hm l0 g
  go_enter Tryd.func46, Tryd.ntmps46
  go_wp2_with ((with_reducible refine gen_world (w.alloc (.cells (rcC r) 45)) (Fm w [(w.heap.size, rcC r, 45)]) hF.out ?_); intro y K; have d0 := (K.out.bx 0 _ _ _ rfl).c 7 _ (rcC_mo r); rw [hj.out] at d0; have e0 := tb.out.below K.out.low j _ hst.out)
  go_ret
  exact ⟨rfl, K.out.low⟩
theorem say3p (w : World) (b : Nat) : Calls Tryd.prog 41 #[.pointer (some ⟨b, 0, none⟩)] w fun e w' => e = .returned (.pointer (some ⟨b, 3, none⟩)) ∧ w' = w := by
  go_enter Tryd.func41, Tryd.ntmps41
  go_wp2
  go_ret
  exact ⟨rfl, rfl⟩
theorem say3 (w : World) (r : Rc) (pf ps : Nat) (st : ByteArray) (hf : Hid (Bx w pf #[.func (.func 41) #[] #[]] 77)) (hs : Hid (Bx w ps #[.string st] 9)) : Calls Tryd.prog 58 #[.agg (rcC r), .pointer (some ⟨pf, 0, none⟩), .pointer (some ⟨ps, 0, none⟩)] w fun e w' => e = .returned (.string (if r.re then st else ⟨#[]⟩)) ∧ Below w.heap.size w w' := by
  have hF : Hid (Fm w [(w.heap.size, rcC r, 45)] (w.alloc (.cells (rcC r) 45))) := Fm.one w _ _
  obtain ⟨b, hb⟩ : ∃ x, r.re = x := ⟨_, rfl⟩
  rw [hb]
  replace hb : Hid _ := hb
  cases b
  all_goals
    go_enter Tryd.func58, Tryd.ntmps58
    go_wp2_with (first
      | ((with_reducible refine gen_world (w.alloc (.cells (rcC r) 45)) (Fm w [(w.heap.size, rcC r, 45)]) hF.out ?_); intro y K; have d0 := (K.out.bx 0 _ _ _ rfl).c 3 _ (rcC_re r); rw [hb.out] at d0; have f0 := (hf.out.keep K.out.low).c 0 _ rfl; have s0 := (hs.out.keep K.out.low).c 0 _ rfl)
      | (go_at_call 41; refine (say3p y w.heap.size).mono ?_; rintro e y2 ⟨rfl, h2⟩; replace h2 := h2.symm; subst h2))
    go_ret
    exact ⟨by first | rfl | simp, K.out.low⟩
theorem say4p (w : World) (b : Nat) : Calls Tryd.prog 42 #[.pointer (some ⟨b, 0, none⟩)] w fun e w' => e = .returned (.pointer (some ⟨b, 4, none⟩)) ∧ w' = w := by
  go_enter Tryd.func42, Tryd.ntmps42
  go_wp2
  go_ret
  exact ⟨rfl, rfl⟩
theorem say4 (w : World) (r : Rc) (pf ps : Nat) (st : ByteArray) (hf : Hid (Bx w pf #[.func (.func 42) #[] #[]] 77)) (hs : Hid (Bx w ps #[.string st] 9)) : Calls Tryd.prog 58 #[.agg (rcC r), .pointer (some ⟨pf, 0, none⟩), .pointer (some ⟨ps, 0, none⟩)] w fun e w' => e = .returned (.string (if r.wr then st else ⟨#[]⟩)) ∧ Below w.heap.size w w' := by
  have hF : Hid (Fm w [(w.heap.size, rcC r, 45)] (w.alloc (.cells (rcC r) 45))) := Fm.one w _ _
  obtain ⟨b, hb⟩ : ∃ x, r.wr = x := ⟨_, rfl⟩
  rw [hb]
  replace hb : Hid _ := hb
  cases b
  all_goals
    go_enter Tryd.func58, Tryd.ntmps58
    go_wp2_with (first
      | ((with_reducible refine gen_world (w.alloc (.cells (rcC r) 45)) (Fm w [(w.heap.size, rcC r, 45)]) hF.out ?_); intro y K; have d0 := (K.out.bx 0 _ _ _ rfl).c 4 _ (rcC_wr r); rw [hb.out] at d0; have f0 := (hf.out.keep K.out.low).c 0 _ rfl; have s0 := (hs.out.keep K.out.low).c 0 _ rfl)
      | (go_at_call 42; refine (say4p y w.heap.size).mono ?_; rintro e y2 ⟨rfl, h2⟩; replace h2 := h2.symm; subst h2))
    go_ret
    exact ⟨by first | rfl | simp, K.out.low⟩
theorem say6p (w : World) (b : Nat) : Calls Tryd.prog 45 #[.pointer (some ⟨b, 0, none⟩)] w fun e w' => e = .returned (.pointer (some ⟨b, 6, none⟩)) ∧ w' = w := by
  go_enter Tryd.func45, Tryd.ntmps45
  go_wp2
  go_ret
  exact ⟨rfl, rfl⟩
theorem say6 (w : World) (r : Rc) (pf ps : Nat) (st : ByteArray) (hf : Hid (Bx w pf #[.func (.func 45) #[] #[]] 77)) (hs : Hid (Bx w ps #[.string st] 9)) : Calls Tryd.prog 58 #[.agg (rcC r), .pointer (some ⟨pf, 0, none⟩), .pointer (some ⟨ps, 0, none⟩)] w fun e w' => e = .returned (.string (if r.q then st else ⟨#[]⟩)) ∧ Below w.heap.size w w' := by
  have hF : Hid (Fm w [(w.heap.size, rcC r, 45)] (w.alloc (.cells (rcC r) 45))) := Fm.one w _ _
  obtain ⟨b, hb⟩ : ∃ x, r.q = x := ⟨_, rfl⟩
  rw [hb]
  replace hb : Hid _ := hb
  cases b
  all_goals
    go_enter Tryd.func58, Tryd.ntmps58
    go_wp2_with (first
      | ((with_reducible refine gen_world (w.alloc (.cells (rcC r) 45)) (Fm w [(w.heap.size, rcC r, 45)]) hF.out ?_); intro y K; have d0 := (K.out.bx 0 _ _ _ rfl).c 6 _ (rcC_q r); rw [hb.out] at d0; have f0 := (hf.out.keep K.out.low).c 0 _ rfl; have s0 := (hs.out.keep K.out.low).c 0 _ rfl)
      | (go_at_call 45; refine (say6p y w.heap.size).mono ?_; rintro e y2 ⟨rfl, h2⟩; replace h2 := h2.symm; subst h2))
    go_ret
    exact ⟨by first | rfl | simp, K.out.low⟩
end Go.Proofs.YtoajmicdphffnabDoor
