/- The words of a record's line, each laid into the record: the program's. -/
import Derived.Test.YtoajmicdphffnaaDoorHb
import Derived.Test.YtoajmicdphffnaaDoorGk
import Derived.Test.YtoajmicdphffnaaDoorNum
namespace Go.Proofs.YtoajmicdphffnaaDoor
open Go Go.RowKit
set_option linter.unusedVariables false
set_option maxHeartbeats 1000000
set_option maxRecDepth 20000

/-- A record's box is written; all else that was there stays. -/
structure Tk (w : World) (b : Nat) (r : Rc) (y : World) : Prop where
  bx : Bx y b (rcC r) 45
  low : ∀ B, B ≤ b → Below B w y
  oth : ∀ q, q ≠ b → q < w.heap.size → y.heap[q]? = w.heap[q]?
theorem Tk.set {w : World} {b i : Nat} {r r' : Rc} {v : Value} (h : Bx w b (rcC r) 45) (e : (rcC r).setIfInBounds i v = rcC r') : Tk w b r' (w.setCell ⟨b, i, none⟩ v) := by
  refine ⟨?_, fun B hB => (Below.refl B w).setCell (p := ⟨b, i, none⟩) hB v, fun q hq _ => heap_setCell_other w ⟨b, i, none⟩ q v hq⟩
  have := heap_setCell_same w b i (rcC r) 45 v h
  rw [e] at this
  exact this
theorem Tk.after {w y z : World} {b : Nat} {r : Rc} (hb : b < w.heap.size) (h : Below w.heap.size w y) (k : Tk y b r z) : Tk w b r z :=
  ⟨k.bx, fun B hB => (h.mono (by omega)).trans (k.low B hB), fun q hq hl => (k.oth q hq (Nat.lt_of_lt_of_le hl h.size)).trans (h.block q hl)⟩
theorem str_two (x : ByteArray) (h0 : 0 < x.size) (h1 : 1 < x.size) (hz : x.size = 2) : strL x = [x[0]'h0, x[1]'h1] := by
  apply List.ext_getElem?
  intro i
  rcases Nat.lt_or_ge i 2 with h | h
  · rcases (show i = 0 ∨ i = 1 by omega) with e | e <;> subst e
    · rw [strL_get x 0 h0]; rfl
    · rw [strL_get x 1 h1]; rfl
  · rw [List.getElem?_eq_none (by rw [strL_len]; omega), List.getElem?_eq_none (by simpa using h)]
theorem dig_any (w : World) (x : ByteArray) (s : UInt8) (S lo hi : Int) (hS : (s.toNat : Int) = S) (hx : x.size ≤ 9223372036854775807) (hl : 0 ≤ lo) (hh : hi ≤ 7) :
    Calls Tryd.prog 53 #[.string x, .int .u8 S, .int .u8 lo, .int .u8 hi] w fun e w' => e = .returned (.tuple #[.int .u8 ((digL (strL x) s lo hi).getD 0), .bool (digL (strL x) s lo hi).isSome]) ∧ w' = w := by
  have xi : (x.size : Int) ≤ 9223372036854775807 := by omega
  by_cases hz : x.size = 2
  · have h0 : 0 < x.size := by omega
    have h1 : 1 < x.size := by omega
    have hsx : (x.size : Int) = 2 := by omega
    obtain ⟨A, hA⟩ : ∃ A, ((x[0]'h0).toNat : Int) = A := ⟨_, rfl⟩
    obtain ⟨D, hD⟩ : ∃ D, (((x[1]'h1).toNat : Int) - 48) % 256 = D := ⟨_, rfl⟩
    have hg : digL (strL x) s lo hi = if A = S ∧ lo ≤ D ∧ D ≤ hi then some D else none := by
      rw [str_two x h0 h1 hz, digL_two, hD]
      have e : (x[0]'h0 = s) ↔ (A = S) := by
        rw [← hA, ← hS]
        constructor
        · intro e; rw [e]
        · intro e; exact UInt8.toNat_inj.1 (by omega)
      simp only [e]
    rw [hg]
    clear hg hz hx hS
    by_cases a : A = S
    · have q1 : (A == S) = true := by simpa using a
      by_cases b : lo ≤ D
      · have q2 : decide (D < lo) = false := by simpa using b
        by_cases c : D ≤ hi
        · have q3 : decide (hi < D) = false := by simpa using c
          rw [if_pos ⟨a, b, c⟩]
          clear a b c hl hh
          go_enter Tryd.func53, Tryd.ntmps53
          go_wp2
          go_ret2
          exact ⟨by rw [← hD]; rfl, rfl⟩
        · have q3 : decide (hi < D) = true := by simpa using c
          rw [if_neg (fun h => c h.2.2)]
          clear a b c hl hh
          go_enter Tryd.func53, Tryd.ntmps53
          go_wp2
          go_ret2
          exact ⟨rfl, rfl⟩
      · have q2 : decide (D < lo) = true := by simpa using b
        rw [if_neg (fun h => b h.2.1)]
        clear a b hl hh
        go_enter Tryd.func53, Tryd.ntmps53
        go_wp2
        go_ret2
        exact ⟨rfl, rfl⟩
    · have q1 : (A == S) = false := by simpa using a
      rw [if_neg (fun h => a h.1)]
      clear a hl hh
      go_enter Tryd.func53, Tryd.ntmps53
      go_wp2
      go_ret2
      exact ⟨rfl, rfl⟩
  · have hg : digL (strL x) s lo hi = none := by
      unfold digL
      split
      · rename_i a b e
        have := congrArg List.length e
        rw [strL_len] at this
        simp at this
        omega
      · rfl
    have q : ((x.size : Int) == 2) = false := by simp; omega
    rw [hg]
    clear hg hz hx hS hl hh
    go_enter Tryd.func53, Tryd.ntmps53
    go_wp2
    go_ret2
    exact ⟨rfl, rfl⟩
theorem numt_any (w : World) (x : ByteArray) (D : Nat) (hx : x.size ≤ 1000000) :
    Calls Tryd.prog 56 #[.string x, .int .i64 (D : Int)] w fun e w' => e = .returned (.tuple #[.int .i64 (numV x), .bool (numL (strL x) D)]) ∧ Hid (Below w.heap.size w w') := by
  have hN := fun z => number_any x z (by unfold maxLen; omega)
  have xi : (x.size : Int) ≤ 1000000 := by omega
  have hg : numL (strL x) D = ((numOf x).isSome && decide ((x.size : Int) = (D : Int))) := by
    unfold numL
    rw [strL_mk, strL_len]
    congr 1
    rw [decide_eq_decide]
    omega
  have hE : numE x = if (numOf x).isSome then 0 else 1 := rfl
  rw [hg]
  obtain ⟨V, hV⟩ : ∃ V, numV x = V := ⟨_, rfl⟩
  obtain ⟨o, ho⟩ : ∃ o, (numOf x).isSome = o := ⟨_, rfl⟩
  rw [ho] at hE ⊢
  rw [hV]
  simp only [hE, hV] at hN
  clear hg hE hV ho hx
  obtain ⟨d, hd⟩ : ∃ d, decide ((x.size : Int) = (D : Int)) = d := ⟨_, rfl⟩
  rw [hd]
  have q : ((x.size : Int) == (D : Int)) = d := by rw [← hd]; rfl
  clear hd
  cases o
  · simp only [Bool.false_eq_true, if_false] at hN
    go_enter Tryd.func56, Tryd.ntmps56
    go_wp2_with (go_at_call 80; refine (hN w).mono ?_; rintro e y ⟨rfl, hb⟩; replace hb : Hid _ := hb)
    go_ret2
    exact ⟨by first | rfl | simp, hb⟩
  · simp only [if_true] at hN
    go_enter Tryd.func56, Tryd.ntmps56
    go_wp2_with (go_at_call 80; refine (hN w).mono ?_; rintro e y ⟨rfl, hb⟩; replace hb : Hid _ := hb)
    go_ret2
    exact ⟨by first | rfl | simp, hb⟩
theorem take0 (w : World) (b : Nat) (r : Rc) (x : ByteArray) (hx : x.size ≤ 1000000) (hb : Hid (Bx w b (rcC r) 45)) :
    Calls Tryd.prog 52 #[.pointer (some ⟨b, 0, none⟩), .string x] w fun e w' => e = .returned (.bool (tkB 0 (strL x))) ∧ Hid (Tk w b (tkR 0 (strL x) r) w') := by
  have hD := fun z => dig_any z x 115 115 0 3 rfl (by omega) (by decide) (by decide)
  have fin : ∀ d, Hid (Tk w b { r with co := d } (w.setCell ⟨b, 0, none⟩ (.int .u8 d))) := fun d => Tk.set hb.out rfl
  have d0 := hb.out.c 0 _ (rcC_co r)
  have f0 := hb.out.fz 0
  unfold tkB tkR
  obtain ⟨g, hg⟩ : ∃ g, digL (strL x) 115 0 3 = g := ⟨_, rfl⟩
  simp only [hg] at hD
  simp only [hg]
  replace fin : Hid _ := fin (g.getD 0)
  obtain ⟨V, hV⟩ : ∃ V, g.getD 0 = V := ⟨_, rfl⟩
  obtain ⟨o, ho⟩ : ∃ o, g.isSome = o := ⟨_, rfl⟩
  simp only [hV, ho] at hD fin ⊢
  clear hg hV ho
  go_enter Tryd.func52, Tryd.ntmps52
  go_wp2_with (go_at_call 53; refine (hD w).mono ?_; rintro e y ⟨rfl, hy⟩; replace hy := hy.symm; subst hy)
  go_ret
  exact ⟨rfl, fin.out⟩
theorem take5 (w : World) (b : Nat) (r : Rc) (x : ByteArray) (hx : x.size ≤ 1000000) (hb : Hid (Bx w b (rcC r) 45)) :
    Calls Tryd.prog 63 #[.pointer (some ⟨b, 0, none⟩), .string x] w fun e w' => e = .returned (.bool (tkB 5 (strL x))) ∧ Hid (Tk w b (tkR 5 (strL x) r) w') := by
  have hD := fun z => dig_any z x 110 110 1 7 rfl (by omega) (by decide) (by decide)
  have fin : ∀ d, Hid (Tk w b { r with po := d } (w.setCell ⟨b, 5, none⟩ (.int .u8 d))) := fun d => Tk.set hb.out rfl
  have d0 := hb.out.c 5 _ (rcC_po r)
  have f0 := hb.out.fz 5
  unfold tkB tkR
  obtain ⟨g, hg⟩ : ∃ g, digL (strL x) 110 1 7 = g := ⟨_, rfl⟩
  simp only [hg] at hD
  simp only [hg]
  replace fin : Hid _ := fin (g.getD 0)
  obtain ⟨V, hV⟩ : ∃ V, g.getD 0 = V := ⟨_, rfl⟩
  obtain ⟨o, ho⟩ : ∃ o, g.isSome = o := ⟨_, rfl⟩
  simp only [hV, ho] at hD fin ⊢
  clear hg hV ho
  go_enter Tryd.func63, Tryd.ntmps63
  go_wp2_with (go_at_call 53; refine (hD w).mono ?_; rintro e y ⟨rfl, hy⟩; replace hy := hy.symm; subst hy)
  go_ret
  exact ⟨rfl, fin.out⟩
theorem take1 (w : World) (b : Nat) (r : Rc) (x : ByteArray) (hx : x.size ≤ 1000000) (hb : Hid (Bx w b (rcC r) 45)) :
    Calls Tryd.prog 55 #[.pointer (some ⟨b, 0, none⟩), .string x] w fun e w' => e = .returned (.bool (tkB 1 (strL x))) ∧ Hid (Tk w b (tkR 1 (strL x) r) w') := by
  have hD : ∀ z, _ := fun z => numt_any z x 4 hx
  have fin : ∀ (d : Int) (y : World), Below w.heap.size w y → Hid (Tk w b { r with ad := d } (y.setCell ⟨b, 1, none⟩ (.int .u16 d))) := fun d y hy => Tk.after (heap_lt hb.out) hy (Tk.set (hb.out.keep hy) rfl)
  have key : ∀ y, Below w.heap.size w y → Hid (Bx y b (rcC r) 45) := fun y hy => hb.out.keep hy
  unfold tkB tkR
  simp only [strL_mk]
  obtain ⟨V, hV⟩ : ∃ V, numV x = V := ⟨_, rfl⟩
  obtain ⟨o, ho⟩ : ∃ o, numL (strL x) 4 = o := ⟨_, rfl⟩
  simp only [hV, ho] at hD ⊢
  have hw : IntKind.u16.wrap V = V % 65536 := by rw [IntKind.wrap_u16]
  clear hV ho
  obtain ⟨U, hU⟩ : ∃ U, V % 65536 = U := ⟨_, rfl⟩
  rw [hU] at hw ⊢
  replace fin := fin U
  replace fin : Hid _ := fin
  replace key : Hid _ := key
  go_enter Tryd.func55, Tryd.ntmps55
  go_wp2_with (go_at_call 56; refine (hD w).mono ?_; rintro e y ⟨rfl, hy⟩; have d0 := (key.out y hy.out).out.c 1 _ (rcC_ad r); have f0 := (key.out y hy.out).out.fz 1)
  go_ret
  exact ⟨rfl, (fin.out y hy.out).out⟩
theorem take2 (w : World) (b : Nat) (r : Rc) (x : ByteArray) (hx : x.size ≤ 1000000) (hb : Hid (Bx w b (rcC r) 45)) :
    Calls Tryd.prog 58 #[.pointer (some ⟨b, 0, none⟩), .string x] w fun e w' => e = .returned (.bool (tkB 2 (strL x))) ∧ Hid (Tk w b (tkR 2 (strL x) r) w') := by
  have hD : ∀ z, _ := fun z => numt_any z x 2 hx
  have fin : ∀ (d : Int) (y : World), Below w.heap.size w y → Hid (Tk w b { r with da := d } (y.setCell ⟨b, 2, none⟩ (.int .u8 d))) := fun d y hy => Tk.after (heap_lt hb.out) hy (Tk.set (hb.out.keep hy) rfl)
  have key : ∀ y, Below w.heap.size w y → Hid (Bx y b (rcC r) 45) := fun y hy => hb.out.keep hy
  unfold tkB tkR
  simp only [strL_mk]
  obtain ⟨V, hV⟩ : ∃ V, numV x = V := ⟨_, rfl⟩
  obtain ⟨o, ho⟩ : ∃ o, numL (strL x) 2 = o := ⟨_, rfl⟩
  simp only [hV, ho] at hD ⊢
  have hw : IntKind.u8.wrap V = V % 256 := by rw [IntKind.wrap_u8]
  clear hV ho
  obtain ⟨U, hU⟩ : ∃ U, V % 256 = U := ⟨_, rfl⟩
  rw [hU] at hw ⊢
  replace fin := fin U
  replace fin : Hid _ := fin
  replace key : Hid _ := key
  go_enter Tryd.func58, Tryd.ntmps58
  go_wp2_with (go_at_call 56; refine (hD w).mono ?_; rintro e y ⟨rfl, hy⟩; have d0 := (key.out y hy.out).out.c 2 _ (rcC_da r); have f0 := (key.out y hy.out).out.fz 2)
  go_ret
  exact ⟨rfl, (fin.out y hy.out).out⟩
end Go.Proofs.YtoajmicdphffnaaDoor
