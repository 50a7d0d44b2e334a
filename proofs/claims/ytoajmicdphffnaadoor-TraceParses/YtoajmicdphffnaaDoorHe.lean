/- The words of a record's line, each laid into the record: the program's. The words that stand where a field is true, and the modes': the program's. A line read as a record: the program's. -/
import Derived.Test.YtoajmicdphffnaaDoorHb
import Derived.Test.YtoajmicdphffnaaDoorGk
import Derived.Test.YtoajmicdphffnaaDoorNum
import Derived.Test.YtoajmicdphffnaaDoorGm
import Derived.Deep.RegionHeld
import Derived.Test.YtoajmicdphffnaaDoorGi
namespace Go.Proofs.YtoajmicdphffnaaDoor
open Go Go.RowKit
set_option linter.unusedVariables false
set_option maxHeartbeats 1000000
set_option maxRecDepth 20000

/-- A record's box is written; all else that was there stays. -/
structure Tk (w : World) (b : Nat) (r : Rc) (y : World) : Prop where
  bx : Bx y b (rcC r) 45
  low : ∀ B, B ≤ b → Below B w y
  oth : ∀ q, q ≠ b → q < w.heap.size → y.heap[q]? = w.heap[q]?
theorem Tk.set {w : World} {b i : Nat} {r r' : Rc} {v : Value} (h : Bx w b (rcC r) 45) (e : (rcC r).setIfInBounds i v = rcC r') : Tk w b r' (w.setCell ⟨b, i, none⟩ v) := by
  refine ⟨?_, fun B hB => (Below.refl B w).setCell (p := ⟨b, i, none⟩) hB v, fun q hq _ => heap_setCell_other w ⟨b, i, none⟩ q v hq⟩
  have := heap_setCell_same w b i (rcC r) 45 v h
  rw [e] at this
  exact this
theorem Tk.after {w y z : World} {b : Nat} {r : Rc} (hb : b < w.heap.size) (h : Below w.heap.size w y) (k : Tk y b r z) : Tk w b r z :=
  ⟨k.bx, fun B hB => (h.mono (by omega)).trans (k.low B hB), fun q hq hl => (k.oth q hq (Nat.lt_of_lt_of_le hl h.size)).trans (h.block q hl)⟩
theorem str_two (x : ByteArray) (h0 : 0 < x.size) (h1 : 1 < x.size) (hz : x.size = 2) : strL x = [x[0]'h0, x[1]'h1] := by
  apply List.ext_getElem?
  intro i
  rcases Nat.lt_or_ge i 2 with h | h
  · rcases (show i = 0 ∨ i = 1 by omega) with e | e <;> subst e
    · rw [strL_get x 0 h0]; rfl
    · rw [strL_get x 1 h1]; rfl
  · rw [List.getElem?_eq_none (by rw [strL_len]; omega), List.getElem?_eq_none (by simpa using h)]
theorem dig_any (w : World) (x : ByteArray) (s : UInt8) (S lo hi : Int) (hS : (s.toNat : Int) = S) (hx : x.size ≤ 9223372036854775807) (hl : 0 ≤ lo) (hh : hi ≤ 7) :
    Calls Tryd.prog 53 #[.string x, .int .u8 S, .int .u8 lo, .int .u8 hi] w fun e w' => e = .returned (.tuple #[.int .u8 ((digL (strL x) s lo hi).getD 0), .bool (digL (strL x) s lo hi).isSome]) ∧ w' = w := by
  have xi : (x.size : Int) ≤ 9223372036854775807 := by omega
  by_cases hz : x.size = 2
  · have h0 : 0 < x.size := by omega
    have h1 : 1 < x.size := by omega
    have hsx : (x.size : Int) = 2 := by omega
    obtain ⟨A, hA⟩ : ∃ A, ((x[0]'h0).toNat : Int) = A := ⟨_, rfl⟩
    obtain ⟨D, hD⟩ : ∃ D, (((x[1]'h1).toNat : Int) - 48) % 256 = D := ⟨_, rfl⟩
    have hg : digL (strL x) s lo hi = if A = S ∧ lo ≤ D ∧ D ≤ hi then some D else none := by
      rw [str_two x h0 h1 hz, digL_two, hD]
      have e : (x[0]'h0 = s) ↔ (A = S) := by
        rw [← hA, ← hS]
        constructor
        · intro e; rw [e]
        · intro e; exact UInt8.toNat_inj.1 (by omega)
      simp only [e]
    rw [hg]
    clear hg hz hx hS
    by_cases a : A = S
    · have q1 : (A == S) = true := by simpa using a
      by_cases b : lo ≤ D
      · have q2 : decide (D < lo) = false := by simpa using b
        by_cases c : D ≤ hi
        · have q3 : decide (hi < D) = false := by simpa using c
          rw [if_pos ⟨a, b, c⟩]
          clear a b c hl hh
          go_enter Tryd.func53, Tryd.ntmps53
          go_wp2
          go_ret2
          exact ⟨by rw [← hD]; rfl, rfl⟩
        · have q3 : decide (hi < D) = true := by simpa using c
          rw [if_neg (fun h => c h.2.2)]
          clear a b c hl hh
          go_enter Tryd.func53, Tryd.ntmps53
          go_wp2
          go_ret2
          exact ⟨rfl, rfl⟩
      · have q2 : decide (D < lo) = true := by simpa using b
        rw [if_neg (fun h => b h.2.1)]
        clear a b hl hh
        go_enter Tryd.func53, Tryd.ntmps53
        go_wp2
        go_ret2
        exact ⟨rfl, rfl⟩
    · have q1 : (A == S) = false := by simpa using a
      rw [if_neg (fun h => a h.1)]
      clear a hl hh
      go_enter Tryd.func53, Tryd.ntmps53
      go_wp2
      go_ret2
      exact ⟨rfl, rfl⟩
  · have hg : digL (strL x) s lo hi = none := by
      unfold digL
      split
      · rename_i a b e
        have := congrArg List.length e
        rw [strL_len] at this
        simp at this
        omega
      · rfl
    have q : ((x.size : Int) == 2) = false := by simp; omega
    rw [hg]
    clear hg hz hx hS hl hh
    go_enter Tryd.func53, Tryd.ntmps53
    go_wp2
    go_ret2
    exact ⟨rfl, rfl⟩
theorem numt_any (w : World) (x : ByteArray) (D : Nat) (hx : x.size ≤ 1000000) :
    Calls Tryd.prog 56 #[.string x, .int .i64 (D : Int)] w fun e w' => e = .returned (.tuple #[.int .i64 (numV x), .bool (numL (strL x) D)]) ∧ Hid (Below w.heap.size w w') := by
  have hN := fun z => number_any x z (by unfold maxLen; omega)
  have xi : (x.size : Int) ≤ 1000000 := by omega
  have hg : numL (strL x) D = ((numOf x).isSome && decide ((x.size : Int) = (D : Int))) := by
    unfold numL
    rw [strL_mk, strL_len]
    congr 1
    rw [decide_eq_decide]
    omega
  have hE : numE x = if (numOf x).isSome then 0 else 1 := rfl
  rw [hg]
  obtain ⟨V, hV⟩ : ∃ V, numV x = V := ⟨_, rfl⟩
  obtain ⟨o, ho⟩ : ∃ o, (numOf x).isSome = o := ⟨_, rfl⟩
  rw [ho] at hE ⊢
  rw [hV]
  simp only [hE, hV] at hN
  clear hg hE hV ho hx
  obtain ⟨d, hd⟩ : ∃ d, decide ((x.size : Int) = (D : Int)) = d := ⟨_, rfl⟩
  rw [hd]
  have q : ((x.size : Int) == (D : Int)) = d := by rw [← hd]; rfl
  clear hd
  cases o
  · simp only [Bool.false_eq_true, if_false] at hN
    go_enter Tryd.func56, Tryd.ntmps56
    go_wp2_with (go_at_call 80; refine (hN w).mono ?_; rintro e y ⟨rfl, hb⟩; replace hb : Hid _ := hb)
    go_ret2
    exact ⟨by first | rfl | simp, hb⟩
  · simp only [if_true] at hN
    go_enter Tryd.func56, Tryd.ntmps56
    go_wp2_with (go_at_call 80; refine (hN w).mono ?_; rintro e y ⟨rfl, hb⟩; replace hb : Hid _ := hb)
    go_ret2
    exact ⟨by first | rfl | simp, hb⟩
theorem take0 (w : World) (b : Nat) (r : Rc) (x : ByteArray) (hx : x.size ≤ 1000000) (hb : Hid (Bx w b (rcC r) 45)) :
    Calls Tryd.prog 52 #[.pointer (some ⟨b, 0, none⟩), .string x] w fun e w' => e = .returned (.bool (tkB 0 (strL x))) ∧ Hid (Tk w b (tkR 0 (strL x) r) w') := by
  have hD := fun z => dig_any z x 115 115 0 3 rfl (by omega) (by decide) (by decide)
  have fin : ∀ d, Hid (Tk w b { r with co := d } (w.setCell ⟨b, 0, none⟩ (.int .u8 d))) := fun d => Tk.set hb.out rfl
  have d0 := hb.out.c 0 _ (rcC_co r)
  have f0 := hb.out.fz 0
  unfold tkB tkR
  obtain ⟨g, hg⟩ : ∃ g, digL (strL x) 115 0 3 = g := ⟨_, rfl⟩
  simp only [hg] at hD
  simp only [hg]
  replace fin : Hid _ := fin (g.getD 0)
  obtain ⟨V, hV⟩ : ∃ V, g.getD 0 = V := ⟨_, rfl⟩
  obtain ⟨o, ho⟩ : ∃ o, g.isSome = o := ⟨_, rfl⟩
  simp only [hV, ho] at hD fin ⊢
  clear hg hV ho
  go_enter Tryd.func52, Tryd.ntmps52
  go_wp2_with (go_at_call 53; refine (hD w).mono ?_; rintro e y ⟨rfl, hy⟩; replace hy := hy.symm; subst hy)
  go_ret
  exact ⟨rfl, fin.out⟩
theorem take5 (w : World) (b : Nat) (r : Rc) (x : ByteArray) (hx : x.size ≤ 1000000) (hb : Hid (Bx w b (rcC r) 45)) :
    Calls Tryd.prog 63 #[.pointer (some ⟨b, 0, none⟩), .string x] w fun e w' => e = .returned (.bool (tkB 5 (strL x))) ∧ Hid (Tk w b (tkR 5 (strL x) r) w') := by
  have hD := fun z => dig_any z x 110 110 1 7 rfl (by omega) (by decide) (by decide)
  have fin : ∀ d, Hid (Tk w b { r with po := d } (w.setCell ⟨b, 5, none⟩ (.int .u8 d))) := fun d => Tk.set hb.out rfl
  have d0 := hb.out.c 5 _ (rcC_po r)
  have f0 := hb.out.fz 5
  unfold tkB tkR
  obtain ⟨g, hg⟩ : ∃ g, digL (strL x) 110 1 7 = g := ⟨_, rfl⟩
  simp only [hg] at hD
  simp only [hg]
  replace fin : Hid _ := fin (g.getD 0)
  obtain ⟨V, hV⟩ : ∃ V, g.getD 0 = V := ⟨_, rfl⟩
  obtain ⟨o, ho⟩ : ∃ o, g.isSome = o := ⟨_, rfl⟩
  simp only [hV, ho] at hD fin ⊢
  clear hg hV ho
  go_enter Tryd.func63, Tryd.ntmps63
  go_wp2_with (go_at_call 53; refine (hD w).mono ?_; rintro e y ⟨rfl, hy⟩; replace hy := hy.symm; subst hy)
  go_ret
  exact ⟨rfl, fin.out⟩
theorem take1 (w : World) (b : Nat) (r : Rc) (x : ByteArray) (hx : x.size ≤ 1000000) (hb : Hid (Bx w b (rcC r) 45)) :
    Calls Tryd.prog 55 #[.pointer (some ⟨b, 0, none⟩), .string x] w fun e w' => e = .returned (.bool (tkB 1 (strL x))) ∧ Hid (Tk w b (tkR 1 (strL x) r) w') := by
  have hD : ∀ z, _ := fun z => numt_any z x 4 hx
  have fin : ∀ (d : Int) (y : World), Below w.heap.size w y → Hid (Tk w b { r with ad := d } (y.setCell ⟨b, 1, none⟩ (.int .u16 d))) := fun d y hy => Tk.after (heap_lt hb.out) hy (Tk.set (hb.out.keep hy) rfl)
  have key : ∀ y, Below w.heap.size w y → Hid (Bx y b (rcC r) 45) := fun y hy => hb.out.keep hy
  unfold tkB tkR
  simp only [strL_mk]
  obtain ⟨V, hV⟩ : ∃ V, numV x = V := ⟨_, rfl⟩
  obtain ⟨o, ho⟩ : ∃ o, numL (strL x) 4 = o := ⟨_, rfl⟩
  simp only [hV, ho] at hD ⊢
  have hw : IntKind.u16.wrap V = V % 65536 := by rw [IntKind.wrap_u16]
  clear hV ho
  obtain ⟨U, hU⟩ : ∃ U, V % 65536 = U := ⟨_, rfl⟩
  rw [hU] at hw ⊢
  replace fin := fin U
  replace fin : Hid _ := fin
  replace key : Hid _ := key
  go_enter Tryd.func55, Tryd.ntmps55
  go_wp2_with (go_at_call 56; refine (hD w).mono ?_; rintro e y ⟨rfl, hy⟩; have d0 := (key.out y hy.out).out.c 1 _ (rcC_ad r); have f0 := (key.out y hy.out).out.fz 1)
  go_ret
  exact ⟨rfl, (fin.out y hy.out).out⟩
theorem take2 (w : World) (b : Nat) (r : Rc) (x : ByteArray) (hx : x.size ≤ 1000000) (hb : Hid (Bx w b (rcC r) 45)) :
    Calls Tryd.prog 58 #[.pointer (some ⟨b, 0, none⟩), .string x] w fun e w' => e = .returned (.bool (tkB 2 (strL x))) ∧ Hid (Tk w b (tkR 2 (strL x) r) w') := by
  have hD : ∀ z, _ := fun z => numt_any z x 2 hx
  have fin : ∀ (d : Int) (y : World), Below w.heap.size w y → Hid (Tk w b { r with da := d } (y.setCell ⟨b, 2, none⟩ (.int .u8 d))) := fun d y hy => Tk.after (heap_lt hb.out) hy (Tk.set (hb.out.keep hy) rfl)
  have key : ∀ y, Below w.heap.size w y → Hid (Bx y b (rcC r) 45) := fun y hy => hb.out.keep hy
  unfold tkB tkR
  simp only [strL_mk]
  obtain ⟨V, hV⟩ : ∃ V, numV x = V := ⟨_, rfl⟩
  obtain ⟨o, ho⟩ : ∃ o, numL (strL x) 2 = o := ⟨_, rfl⟩
  simp only [hV, ho] at hD ⊢
  have hw : IntKind.u8.wrap V = V % 256 := by rw [IntKind.wrap_u8]
  clear hV ho
  obtain ⟨U, hU⟩ : ∃ U, V % 256 = U := ⟨_, rfl⟩
  rw [hU] at hw ⊢
  replace fin := fin U
  replace fin : Hid _ := fin
  replace key : Hid _ := key
  go_enter Tryd.func58, Tryd.ntmps58
  go_wp2_with (go_at_call 56; refine (hD w).mono ?_; rintro e y ⟨rfl, hy⟩; have d0 := (key.out y hy.out).out.c 2 _ (rcC_da r); have f0 := (key.out y hy.out).out.fz 2)
  go_ret
  exact ⟨rfl, (fin.out y hy.out).out⟩
end Go.Proofs.YtoajmicdphffnaaDoor

namespace Go.Proofs.YtoajmicdphffnaaDoor
open Go Go.RowKit
set_option linter.unusedVariables false
set_option maxHeartbeats 2000000
set_option maxRecDepth 20000

theorem Bx.diff {w : World} {b c t u : Nat} {cs ds : Array Value} (h : Bx w b cs t) (k : Bx w c ds u) (ht : t ≠ u) : b ≠ c := fun e => by
  subst e
  unfold Bx at h k
  rw [h] at k
  injection k with k
  injection k with _ k2 _
  exact ht k2
theorem str_eq (x : ByteArray) (l : List UInt8) : (x.toList == l) = decide (strL x = l) := by
  rw [toL, Bool.eq_iff_iff]
  simp
theorem take3 (w : World) (b : Nat) (r : Rc) (x : ByteArray) (pf ps : Nat) (hf : Hid (Bx w pf #[.func (.func 60) #[] #[]] 89)) (hs : Hid (Bx w ps #[.string ⟨#[114]⟩] 9)) (hb : Hid (Bx w b (rcC r) 45)) :
    Calls Tryd.prog 82 #[.pointer (some ⟨b, 0, none⟩), .string x, .pointer (some ⟨ps, 0, none⟩), .pointer (some ⟨pf, 0, none⟩)] w fun e w' => e = .returned (.bool (tkB 3 (strL x))) ∧ Hid (Tk w b (tkR 3 (strL x) r) w') := by
  have n1 : Hid (pf ≠ b) := Bx.diff hf.out hb.out (by decide)
  have n2 : Hid (ps ≠ b) := Bx.diff hs.out hb.out (by decide)
  unfold tkB tkR
  try dsimp only
  have hq : (x.toList == [114]) = decide (strL x = wR) := str_eq x [114]
  obtain ⟨B, hB⟩ : ∃ B, decide (strL x = wR) = B := ⟨_, rfl⟩
  rw [hB] at hq ⊢
  clear hB
  have fin : Hid (∀ z, Below w.heap.size w z → Tk w b { r with re := B } (z.setCell ⟨b, 3, none⟩ (.bool B))) := fun z hz => Tk.after (heap_lt hb.out) hz (Tk.set (hb.out.keep hz) rfl)
  have b0 : Hid (Bx w.drew b (rcC r) 45) := hb.out
  have KK : Hid (Below w.heap.size w w.drew) := below_drew (Below.refl _ _)
  go_enter Tryd.func82, Tryd.ntmps82
  go_wp2
  refine wp_region_held_drew (S := fun z => Bx z pf #[.func (.func 60) #[] #[]] 89 ∧ Bx z ps #[.string ⟨#[114]⟩] 9) (by kernel_rfl) ⟨hf.out, hs.out⟩ (fun hH => ?_)
  generalize w.drew = z0 at hH KK b0 ⊢
  refine wpAnyH_take (i := 0) (v := .func (.func 60) #[] #[]) rfl (by kernel_rfl) (by kernel_rfl) (by kernel_rfl) (fun _ _ _ h => h) (.inl ⟨by kernel_rfl, fun u hu => by have c := hu.1.c 0 _ rfl; go_simp⟩) hH ?_
  try simp only [Act.put, List.setIfInBounds_toArray]
  refine wpAnyH_take (i := 1) (v := .pointer (some ⟨b, 0, none⟩)) rfl (by kernel_rfl) (by kernel_rfl) (by kernel_rfl) (fun _ _ _ h => h) (.inl ⟨by kernel_rfl, fun u hu => by go_simp⟩) hH ?_
  try simp only [Act.put]
  refine wpAnyH_take (i := 3) (v := .string x) rfl (by kernel_rfl) (by kernel_rfl) (by kernel_rfl) (fun _ _ _ h => h) (.inl ⟨by kernel_rfl, fun u hu => by go_simp⟩) hH ?_
  try simp only [Act.put]
  refine wpAnyH_take (i := 4) (v := .string ⟨#[114]⟩) rfl (by kernel_rfl) (by kernel_rfl) (by kernel_rfl) (fun _ _ _ h => h) (.inl ⟨by kernel_rfl, fun u hu => by have c := hu.2.c 0 _ rfl; go_simp⟩) hH ?_
  try simp only [Act.put]
  refine wpAnyH_take (i := 5) (v := .bool B) rfl (by kernel_rfl) (by kernel_rfl) (by kernel_rfl) (fun _ _ _ h => h) (.inl ⟨by kernel_rfl, fun u hu => by go_simp⟩) hH ?_
  try simp only [Act.put]
  refine wpAnyH_ready (rs := [2]) (by kernel_rfl) (by simp) (AllReadyH.cons rfl (fun K hK => ?_) AllReadyH.nil)
  rw [if_pos (by rfl)]
  go_wp2_with (go_at_call 60; refine (say3p z0 b).mono ?_; rintro e u ⟨rfl, hu⟩; replace hu := hu.symm; subst hu)
  refine hK.out _ _ hH (fun hH => ?_)
  clear hK K
  try simp only [Act.put, List.setIfInBounds_toArray, List.set_cons_zero, List.set_cons_succ]
  refine wpAnyH_take (i := 6) (v := .pointer (some ⟨b, 3, none⟩)) rfl (by kernel_rfl) (by kernel_rfl) (by kernel_rfl) (fun _ _ _ h => h) (.inl ⟨by kernel_rfl, fun u hu => by go_simp⟩) hH ?_
  try simp only [Act.put]
  refine wpAnyH_ready (rs := [7]) (by kernel_rfl) (by simp) (AllReadyH.cons rfl (fun K hK => ?_) AllReadyH.nil)
  rw [if_pos (by rfl)]
  have c0 := b0.out.c 3 _ (rcC_re r)
  have f0 := b0.out.fz 3
  go_wp2
  have H2 : Bx (z0.setCell ⟨b, 3, none⟩ (.bool B)) pf #[.func (.func 60) #[] #[]] 89 ∧ Bx (z0.setCell ⟨b, 3, none⟩ (.bool B)) ps #[.string ⟨#[114]⟩] 9 := ⟨(heap_setCell_other z0 ⟨b, 3, none⟩ pf _ n1.out).trans hH.1, (heap_setCell_other z0 ⟨b, 3, none⟩ ps _ n2.out).trans hH.2⟩
  refine hK.out _ _ H2 (fun hH => ?_)
  clear hK K
  try simp only [Act.put, List.setIfInBounds_toArray, List.set_cons_zero, List.set_cons_succ]
  refine wpAnyH_done (by kernel_rfl) ?_ _
  have FN := fin.out z0 KK.out
  clear c0 f0 fin
  generalize z0.setCell ⟨b, 3, none⟩ (.bool B) = z1 at hH FN ⊢
  replace FN : Hid _ := FN
  have e0 := hH.2.c 0 _ rfl
  go_wp2
  go_ret
  exact ⟨rfl, FN⟩
theorem take4 (w : World) (b : Nat) (r : Rc) (x : ByteArray) (pf ps : Nat) (hf : Hid (Bx w pf #[.func (.func 61) #[] #[]] 89)) (hs : Hid (Bx w ps #[.string ⟨#[119]⟩] 9)) (hb : Hid (Bx w b (rcC r) 45)) :
    Calls Tryd.prog 82 #[.pointer (some ⟨b, 0, none⟩), .string x, .pointer (some ⟨ps, 0, none⟩), .pointer (some ⟨pf, 0, none⟩)] w fun e w' => e = .returned (.bool (tkB 4 (strL x))) ∧ Hid (Tk w b (tkR 4 (strL x) r) w') := by
  have n1 : Hid (pf ≠ b) := Bx.diff hf.out hb.out (by decide)
  have n2 : Hid (ps ≠ b) := Bx.diff hs.out hb.out (by decide)
  unfold tkB tkR
  try dsimp only
  have hq : (x.toList == [119]) = decide (strL x = wW) := str_eq x [119]
  obtain ⟨B, hB⟩ : ∃ B, decide (strL x = wW) = B := ⟨_, rfl⟩
  rw [hB] at hq ⊢
  clear hB
  have fin : Hid (∀ z, Below w.heap.size w z → Tk w b { r with wr := B } (z.setCell ⟨b, 4, none⟩ (.bool B))) := fun z hz => Tk.after (heap_lt hb.out) hz (Tk.set (hb.out.keep hz) rfl)
  have b0 : Hid (Bx w.drew b (rcC r) 45) := hb.out
  have KK : Hid (Below w.heap.size w w.drew) := below_drew (Below.refl _ _)
  go_enter Tryd.func82, Tryd.ntmps82
  go_wp2
  refine wp_region_held_drew (S := fun z => Bx z pf #[.func (.func 61) #[] #[]] 89 ∧ Bx z ps #[.string ⟨#[119]⟩] 9) (by kernel_rfl) ⟨hf.out, hs.out⟩ (fun hH => ?_)
  generalize w.drew = z0 at hH KK b0 ⊢
  refine wpAnyH_take (i := 0) (v := .func (.func 61) #[] #[]) rfl (by kernel_rfl) (by kernel_rfl) (by kernel_rfl) (fun _ _ _ h => h) (.inl ⟨by kernel_rfl, fun u hu => by have c := hu.1.c 0 _ rfl; go_simp⟩) hH ?_
  try simp only [Act.put, List.setIfInBounds_toArray]
  refine wpAnyH_take (i := 1) (v := .pointer (some ⟨b, 0, none⟩)) rfl (by kernel_rfl) (by kernel_rfl) (by kernel_rfl) (fun _ _ _ h => h) (.inl ⟨by kernel_rfl, fun u hu => by go_simp⟩) hH ?_
  try simp only [Act.put]
  refine wpAnyH_take (i := 3) (v := .string x) rfl (by kernel_rfl) (by kernel_rfl) (by kernel_rfl) (fun _ _ _ h => h) (.inl ⟨by kernel_rfl, fun u hu => by go_simp⟩) hH ?_
  try simp only [Act.put]
  refine wpAnyH_take (i := 4) (v := .string ⟨#[119]⟩) rfl (by kernel_rfl) (by kernel_rfl) (by kernel_rfl) (fun _ _ _ h => h) (.inl ⟨by kernel_rfl, fun u hu => by have c := hu.2.c 0 _ rfl; go_simp⟩) hH ?_
  try simp only [Act.put]
  refine wpAnyH_take (i := 5) (v := .bool B) rfl (by kernel_rfl) (by kernel_rfl) (by kernel_rfl) (fun _ _ _ h => h) (.inl ⟨by kernel_rfl, fun u hu => by go_simp⟩) hH ?_
  try simp only [Act.put]
  refine wpAnyH_ready (rs := [2]) (by kernel_rfl) (by simp) (AllReadyH.cons rfl (fun K hK => ?_) AllReadyH.nil)
  rw [if_pos (by rfl)]
  go_wp2_with (go_at_call 61; refine (say4p z0 b).mono ?_; rintro e u ⟨rfl, hu⟩; replace hu := hu.symm; subst hu)
  refine hK.out _ _ hH (fun hH => ?_)
  clear hK K
  try simp only [Act.put, List.setIfInBounds_toArray, List.set_cons_zero, List.set_cons_succ]
  refine wpAnyH_take (i := 6) (v := .pointer (some ⟨b, 4, none⟩)) rfl (by kernel_rfl) (by kernel_rfl) (by kernel_rfl) (fun _ _ _ h => h) (.inl ⟨by kernel_rfl, fun u hu => by go_simp⟩) hH ?_
  try simp only [Act.put]
  refine wpAnyH_ready (rs := [7]) (by kernel_rfl) (by simp) (AllReadyH.cons rfl (fun K hK => ?_) AllReadyH.nil)
  rw [if_pos (by rfl)]
  have c0 := b0.out.c 4 _ (rcC_wr r)
  have f0 := b0.out.fz 4
  go_wp2
  have H2 : Bx (z0.setCell ⟨b, 4, none⟩ (.bool B)) pf #[.func (.func 61) #[] #[]] 89 ∧ Bx (z0.setCell ⟨b, 4, none⟩ (.bool B)) ps #[.string ⟨#[119]⟩] 9 := ⟨(heap_setCell_other z0 ⟨b, 4, none⟩ pf _ n1.out).trans hH.1, (heap_setCell_other z0 ⟨b, 4, none⟩ ps _ n2.out).trans hH.2⟩
  refine hK.out _ _ H2 (fun hH => ?_)
  clear hK K
  try simp only [Act.put, List.setIfInBounds_toArray, List.set_cons_zero, List.set_cons_succ]
  refine wpAnyH_done (by kernel_rfl) ?_ _
  have FN := fin.out z0 KK.out
  clear c0 f0 fin
  generalize z0.setCell ⟨b, 4, none⟩ (.bool B) = z1 at hH FN ⊢
  replace FN : Hid _ := FN
  have e0 := hH.2.c 0 _ rfl
  go_wp2
  go_ret
  exact ⟨rfl, FN⟩
theorem take6 (w : World) (b : Nat) (r : Rc) (x : ByteArray) (pf ps : Nat) (hf : Hid (Bx w pf #[.func (.func 64) #[] #[]] 89)) (hs : Hid (Bx w ps #[.string ⟨#[113]⟩] 9)) (hb : Hid (Bx w b (rcC r) 45)) :
    Calls Tryd.prog 82 #[.pointer (some ⟨b, 0, none⟩), .string x, .pointer (some ⟨ps, 0, none⟩), .pointer (some ⟨pf, 0, none⟩)] w fun e w' => e = .returned (.bool (tkB 6 (strL x))) ∧ Hid (Tk w b (tkR 6 (strL x) r) w') := by
  have n1 : Hid (pf ≠ b) := Bx.diff hf.out hb.out (by decide)
  have n2 : Hid (ps ≠ b) := Bx.diff hs.out hb.out (by decide)
  unfold tkB tkR
  try dsimp only
  have hq : (x.toList == [113]) = decide (strL x = wQ) := str_eq x [113]
  obtain ⟨B, hB⟩ : ∃ B, decide (strL x = wQ) = B := ⟨_, rfl⟩
  rw [hB] at hq ⊢
  clear hB
  have fin : Hid (∀ z, Below w.heap.size w z → Tk w b { r with q := B } (z.setCell ⟨b, 6, none⟩ (.bool B))) := fun z hz => Tk.after (heap_lt hb.out) hz (Tk.set (hb.out.keep hz) rfl)
  have b0 : Hid (Bx w.drew b (rcC r) 45) := hb.out
  have KK : Hid (Below w.heap.size w w.drew) := below_drew (Below.refl _ _)
  go_enter Tryd.func82, Tryd.ntmps82
  go_wp2
  refine wp_region_held_drew (S := fun z => Bx z pf #[.func (.func 64) #[] #[]] 89 ∧ Bx z ps #[.string ⟨#[113]⟩] 9) (by kernel_rfl) ⟨hf.out, hs.out⟩ (fun hH => ?_)
  generalize w.drew = z0 at hH KK b0 ⊢
  refine wpAnyH_take (i := 0) (v := .func (.func 64) #[] #[]) rfl (by kernel_rfl) (by kernel_rfl) (by kernel_rfl) (fun _ _ _ h => h) (.inl ⟨by kernel_rfl, fun u hu => by have c := hu.1.c 0 _ rfl; go_simp⟩) hH ?_
  try simp only [Act.put, List.setIfInBounds_toArray]
  refine wpAnyH_take (i := 1) (v := .pointer (some ⟨b, 0, none⟩)) rfl (by kernel_rfl) (by kernel_rfl) (by kernel_rfl) (fun _ _ _ h => h) (.inl ⟨by kernel_rfl, fun u hu => by go_simp⟩) hH ?_
  try simp only [Act.put]
  refine wpAnyH_take (i := 3) (v := .string x) rfl (by kernel_rfl) (by kernel_rfl) (by kernel_rfl) (fun _ _ _ h => h) (.inl ⟨by kernel_rfl, fun u hu => by go_simp⟩) hH ?_
  try simp only [Act.put]
  refine wpAnyH_take (i := 4) (v := .string ⟨#[113]⟩) rfl (by kernel_rfl) (by kernel_rfl) (by kernel_rfl) (fun _ _ _ h => h) (.inl ⟨by kernel_rfl, fun u hu => by have c := hu.2.c 0 _ rfl; go_simp⟩) hH ?_
  try simp only [Act.put]
  refine wpAnyH_take (i := 5) (v := .bool B) rfl (by kernel_rfl) (by kernel_rfl) (by kernel_rfl) (fun _ _ _ h => h) (.inl ⟨by kernel_rfl, fun u hu => by go_simp⟩) hH ?_
  try simp only [Act.put]
  refine wpAnyH_ready (rs := [2]) (by kernel_rfl) (by simp) (AllReadyH.cons rfl (fun K hK => ?_) AllReadyH.nil)
  rw [if_pos (by rfl)]
  go_wp2_with (go_at_call 64; refine (say6p z0 b).mono ?_; rintro e u ⟨rfl, hu⟩; replace hu := hu.symm; subst hu)
  refine hK.out _ _ hH (fun hH => ?_)
  clear hK K
  try simp only [Act.put, List.setIfInBounds_toArray, List.set_cons_zero, List.set_cons_succ]
  refine wpAnyH_take (i := 6) (v := .pointer (some ⟨b, 6, none⟩)) rfl (by kernel_rfl) (by kernel_rfl) (by kernel_rfl) (fun _ _ _ h => h) (.inl ⟨by kernel_rfl, fun u hu => by go_simp⟩) hH ?_
  try simp only [Act.put]
  refine wpAnyH_ready (rs := [7]) (by kernel_rfl) (by simp) (AllReadyH.cons rfl (fun K hK => ?_) AllReadyH.nil)
  rw [if_pos (by rfl)]
  have c0 := b0.out.c 6 _ (rcC_q r)
  have f0 := b0.out.fz 6
  go_wp2
  have H2 : Bx (z0.setCell ⟨b, 6, none⟩ (.bool B)) pf #[.func (.func 64) #[] #[]] 89 ∧ Bx (z0.setCell ⟨b, 6, none⟩ (.bool B)) ps #[.string ⟨#[113]⟩] 9 := ⟨(heap_setCell_other z0 ⟨b, 6, none⟩ pf _ n1.out).trans hH.1, (heap_setCell_other z0 ⟨b, 6, none⟩ ps _ n2.out).trans hH.2⟩
  refine hK.out _ _ H2 (fun hH => ?_)
  clear hK K
  try simp only [Act.put, List.setIfInBounds_toArray, List.set_cons_zero, List.set_cons_succ]
  refine wpAnyH_done (by kernel_rfl) ?_ _
  have FN := fin.out z0 KK.out
  clear c0 f0 fin
  generalize z0.setCell ⟨b, 6, none⟩ (.bool B) = z1 at hH FN ⊢
  replace FN : Hid _ := FN
  have e0 := hH.2.c 0 _ rfl
  go_wp2
  go_ret
  exact ⟨rfl, FN⟩
theorem rtMo : Rt Tryd.prog 90 4 := ⟨⟨_, Tryd.underlying90, rfl⟩, by kernel_rfl⟩
theorem Tp.range {w : World} (tb : Tp w) : w.rangeAt 0 0 moC.toList := fun i v hv => by
  rw [Nat.zero_add]
  exact tb i v (by simpa using hv)
theorem take7 (w : World) (tb : Hid (Tp w)) (b : Nat) (r : Rc) (x : ByteArray) (hb : Hid (Bx w b (rcC r) 45)) :
    Calls Tryd.prog 66 #[.pointer (some ⟨b, 0, none⟩), .string x] w fun e w' => e = .returned (.bool (tkB 7 (strL x))) ∧ Hid (Tk w b (tkR 7 (strL x) r) w') := by
  have d0 := hb.out.c 7 _ (rcC_mo r)
  have f0 := hb.out.fz 7
  have hR : Hid (w.rangeAt 0 0 moC.toList) := tb.out.range
  have F1 : Hid (Tk w b { r with mo := 1 } (w.setCell ⟨b, 7, none⟩ (.int .u8 1))) := Tk.set hb.out rfl
  have F2 : Hid (Tk w b { r with mo := 2 } (w.setCell ⟨b, 7, none⟩ (.int .u8 2))) := Tk.set hb.out rfl
  have F3 : Hid (Tk w b { r with mo := 3 } (w.setCell ⟨b, 7, none⟩ (.int .u8 3))) := Tk.set hb.out rfl
  have F0 : Hid (Tk w b r w) := ⟨hb.out, fun B _ => Below.refl B w, fun _ _ _ => rfl⟩
  have h1 : ([112, 97, 117, 115, 101] == x.toList) = decide (strL x = wPause) := by rw [Bool.beq_comm]; exact str_eq x _
  have h2 : ([114, 101, 115, 101, 116] == x.toList) = decide (strL x = wReset) := by rw [Bool.beq_comm]; exact str_eq x _
  have h3 : ([108, 111, 97, 100] == x.toList) = decide (strL x = wLoad) := by rw [Bool.beq_comm]; exact str_eq x _
  unfold tkB tkR
  try dsimp only
  obtain ⟨TB, hTB⟩ : ∃ z, (decide (strL x = wPause) || decide (strL x = wReset) || decide (strL x = wLoad)) = z := ⟨_, rfl⟩
  obtain ⟨M, hM⟩ : ∃ z, (if strL x = wPause then (1 : Int) else if strL x = wReset then 2 else if strL x = wLoad then 3 else r.mo) = z := ⟨_, rfl⟩
  rw [hTB, hM]
  replace hTB : Hid _ := hTB
  replace hM : Hid _ := hM
  go_enter Tryd.func66, Tryd.ntmps66
  go_wp2_with ((with_reducible refine at_loadm rtMo 0 0 moC ?_ ?_ (.global 0) ?_ ?_ ?_ ?_); exact hR.out; rfl; kernel_rfl; rfl; rfl)
  have x0 : ∀ z : World, (Instr.index 90 (.agg moC) (.int .i64 0)).run Tryd.prog z = .ok (.string ⟨#[]⟩) z := fun z => by kernel_rfl
  have x1 : ∀ z : World, (Instr.index 90 (.agg moC) (.int .i64 1)).run Tryd.prog z = .ok (.string ⟨#[112, 97, 117, 115, 101]⟩) z := fun z => by kernel_rfl
  have x2 : ∀ z : World, (Instr.index 90 (.agg moC) (.int .i64 2)).run Tryd.prog z = .ok (.string ⟨#[114, 101, 115, 101, 116]⟩) z := fun z => by kernel_rfl
  have x3 : ∀ z : World, (Instr.index 90 (.agg moC) (.int .i64 3)).run Tryd.prog z = .ok (.string ⟨#[108, 111, 97, 100]⟩) z := fun z => by kernel_rfl
  go_loopw [8] (fun t wz => ∃ (j : Nat), wz = w ∧ t = .int .i64 (j : Int) ∧ Hid (j ≤ 4 ∧ (1 < j → strL x ≠ wPause) ∧ (2 < j → strL x ≠ wReset) ∧ (3 < j → strL x ≠ wLoad))) (fun t _ => (4 - intOf t).toNat)
  case atStart => exact ⟨0, rfl, rfl, by omega, fun h => by omega, fun h => by omega, fun h => by omega⟩
  case round =>
    obtain ⟨j, hw, rfl, J⟩ := hrel
    subst hw
    rcases (show j = 0 ∨ j = 1 ∨ j = 2 ∨ j = 3 ∨ j = 4 by have := J.out.1; omega) with e | e | e | e | e <;> subst e
    · clear h1 h2 h3 x1 x2 x3
      go_wp2
      go_roundw
      case rel => exact ⟨1, by trivial, by trivial, by omega, fun h => by omega, fun h => by omega, fun h => by omega⟩
      case measure => decide
    · clear x0 h2 h3 x2 x3
      by_cases hc : strL x = wPause
      · have q : decide (strL x = wPause) = true := by simpa using hc
        rw [q] at h1
        clear q
        replace hc : Hid _ := hc
        go_wp2
        go_ret
        refine ⟨?_, ?_⟩
        · rw [← hTB.out, hc.out]; rfl
        · rw [← hM.out, hc.out]
          exact F1.out
      · have q : decide (strL x = wPause) = false := by simpa using hc
        rw [q] at h1
        clear q
        replace hc : Hid (strL x ≠ wPause) := hc
        go_wp2
        go_roundw
        case rel => exact ⟨2, by trivial, by trivial, by omega, fun _ => hc.out, fun h => by omega, fun h => by omega⟩
        case measure => decide
    · clear x0 h1 h3 x1 x3
      by_cases hc : strL x = wReset
      · have q : decide (strL x = wReset) = true := by simpa using hc
        rw [q] at h2
        clear q
        replace hc : Hid _ := hc
        go_wp2
        go_ret
        refine ⟨?_, ?_⟩
        · rw [← hTB.out, hc.out]; rfl
        · rw [← hM.out, hc.out]
          exact F2.out
      · have q : decide (strL x = wReset) = false := by simpa using hc
        rw [q] at h2
        clear q
        replace hc : Hid (strL x ≠ wReset) := hc
        go_wp2
        go_roundw
        case rel => exact ⟨3, by trivial, by trivial, by omega, fun _ => J.out.2.1 (by omega), fun _ => hc.out, fun h => by omega⟩
        case measure => decide
    · clear x0 h1 h2 x1 x2
      by_cases hc : strL x = wLoad
      · have q : decide (strL x = wLoad) = true := by simpa using hc
        rw [q] at h3
        clear q
        replace hc : Hid _ := hc
        go_wp2
        go_ret
        refine ⟨?_, ?_⟩
        · rw [← hTB.out, hc.out]; rfl
        · rw [← hM.out, hc.out]
          exact F3.out
      · have q : decide (strL x = wLoad) = false := by simpa using hc
        rw [q] at h3
        clear q
        replace hc : Hid (strL x ≠ wLoad) := hc
        go_wp2
        go_roundw
        case rel => exact ⟨4, by trivial, by trivial, by omega, fun _ => J.out.2.1 (by omega), fun _ => J.out.2.2.1 (by omega), fun _ => hc.out⟩
        case measure => decide
    · clear h1 h2 h3 x0 x1 x2 x3
      have m1 : Hid (strL x ≠ wPause) := J.out.2.1 (by omega)
      have m2 : Hid (strL x ≠ wReset) := J.out.2.2.1 (by omega)
      have m3 : Hid (strL x ≠ wLoad) := J.out.2.2.2 (by omega)
      go_wp2
      go_ret
      refine ⟨?_, ?_⟩
      · rw [← hTB.out, decide_eq_false m1.out, decide_eq_false m2.out, decide_eq_false m3.out]; rfl
      · rw [← hM.out, if_neg m1.out, if_neg m2.out, if_neg m3.out]
        exact F0.out
end Go.Proofs.YtoajmicdphffnaaDoor

namespace Go.Proofs.YtoajmicdphffnaaDoor
open Go Go.RowKit
set_option linter.unusedVariables false
set_option maxHeartbeats 4000000
set_option maxRecDepth 20000

theorem take_row (w : World) (tb : Tp w) (g p1 f1 p2 f2 p3 f3 : Nat) (hR : RwA w g p1 f1 p2 f2 p3 f3) (j : Nat) (hj : j < 8) :
    ∃ S k cap, rowC p1 f1 p2 f2 p3 f3 j = #[.bool (decide (j < 3)), S, .func (.func k) #[] cap] ∧ (rowC p1 f1 p2 f2 p3 f3 j).all (·.oneCell') = true ∧ (∀ b x z, (callFunc k (#[.pointer (some ⟨b, 0, none⟩), .string x] ++ cap)).run Tryd.prog z = .ok (.enter k (#[.pointer (some ⟨b, 0, none⟩), .string x] ++ cap)) z) ∧ ∀ y b r x, Below w.heap.size w y → Bx y b (rcC r) 45 → x.size ≤ 1000000 → Calls Tryd.prog k (#[.pointer (some ⟨b, 0, none⟩), .string x] ++ cap) y fun e w' => e = .returned (.bool (tkB j (strL x))) ∧ Hid (Tk y b (tkR j (strL x) r) w') := by
  rcases (show j = 0 ∨ j = 1 ∨ j = 2 ∨ j = 3 ∨ j = 4 ∨ j = 5 ∨ j = 6 ∨ j = 7 by omega) with e | e | e | e | e | e | e | e <;> subst e
  · exact ⟨_, _, _, rfl, by simp [rowC, Value.oneCell'], fun b x z => by kernel_rfl, fun y b r x hy hb hx => take0 y b r x hx hb⟩
  · exact ⟨_, _, _, rfl, by simp [rowC, Value.oneCell'], fun b x z => by kernel_rfl, fun y b r x hy hb hx => take1 y b r x hx hb⟩
  · exact ⟨_, _, _, rfl, by simp [rowC, Value.oneCell'], fun b x z => by kernel_rfl, fun y b r x hy hb hx => take2 y b r x hx hb⟩
  · exact ⟨_, _, _, rfl, by simp [rowC, Value.oneCell'], fun b x z => by kernel_rfl, fun y b r x hy hb hx => take3 y b r x f1 p1 (hR.g1.keep hy) (hR.s1.keep hy) hb⟩
  · exact ⟨_, _, _, rfl, by simp [rowC, Value.oneCell'], fun b x z => by kernel_rfl, fun y b r x hy hb hx => take4 y b r x f2 p2 (hR.g2.keep hy) (hR.s2.keep hy) hb⟩
  · exact ⟨_, _, _, rfl, by simp [rowC, Value.oneCell'], fun b x z => by kernel_rfl, fun y b r x hy hb hx => take5 y b r x hx hb⟩
  · exact ⟨_, _, _, rfl, by simp [rowC, Value.oneCell'], fun b x z => by kernel_rfl, fun y b r x hy hb hx => take6 y b r x f3 p3 (hR.g3.keep hy) (hR.s3.keep hy) hb⟩
  · exact ⟨_, _, _, rfl, by simp [rowC, Value.oneCell'], fun b x z => by kernel_rfl, fun y b r x hy hb hx => take7 y (tb.below hy) b r x hb⟩
/-- A box of a frame is written, memory may grow. -/
theorem Fm.tk {w : World} {l : List (Nat × Array Value × TypeId)} {y z : World} {r r' : Rc} (h : Fm w l y) (i b : Nat) (hi : l[i]? = some (b, rcC r, 45)) (k : Tk y b r' z) : Fm w (l.set i (b, rcC r', 45)) z := by
  have key : ∀ (j b' : Nat) (c1 : Array Value) (t1 : TypeId), (l.set i (b, rcC r', 45))[j]? = some (b', c1, t1) → (j = i ∧ b' = b ∧ c1 = rcC r' ∧ t1 = 45) ∨ (j ≠ i ∧ l[j]? = some (b', c1, t1)) := by
    intro j b' c1 t1 e
    by_cases hj : i = j
    · subst hj
      rw [List.getElem?_set] at e
      have hl : i < l.length := (List.getElem?_eq_some_iff.1 hi).1
      simp [hl] at e
      exact .inl ⟨rfl, e.1.symm, e.2.1.symm, e.2.2.symm⟩
    · rw [List.getElem?_set_ne hj] at e; exact .inr ⟨fun x => hj x.symm, e⟩
  refine ⟨fun j b' c1 t1 e => ?_, fun j b' c1 t1 e => ?_, fun j j' b' c1 c2 t1 t2 e1 e2 => ?_, h.low.trans (k.low _ (h.ge i b _ _ hi))⟩
  · rcases key j b' c1 t1 e with ⟨_, rfl, rfl, rfl⟩ | ⟨hj, e'⟩
    · exact k.bx
    · exact (k.oth b' (fun x => hj (h.ne j i b c1 _ t1 _ (x ▸ e') hi)) (heap_lt (h.get j b' c1 t1 e'))).trans (h.get j b' c1 t1 e')
  · rcases key j b' c1 t1 e with ⟨_, rfl, rfl, rfl⟩ | ⟨_, e'⟩
    · exact h.ge i b' _ _ hi
    · exact h.ge j b' c1 t1 e'
  · rcases key j b' c1 t1 e1 with ⟨rfl, rfl, _⟩ | ⟨hj, e1'⟩ <;> rcases key j' b' c2 t2 e2 with ⟨rfl, hb2, _⟩ | ⟨hj', e2'⟩
    · rfl
    · exact h.ne j j' b' _ c2 _ t2 hi e2'
    · subst hb2; exact h.ne j j' b' c1 _ t1 _ e1' hi
    · exact h.ne j j' b' c1 c2 t1 t2 e1' e2'
theorem slW (g o m : Nat) : ∃ sp1, (∀ v, (Instr.sliceAt 65 (.slice (some ⟨g, o, none⟩) (m + 1) (m + 1)) (some (.int .i64 1)) none none).run Tryd.prog v = .ok (.slice sp1 m m) v) ∧ (0 < m → sp1 = some ⟨g, o + 1, none⟩) := by
  refine ⟨if m + 1 = 1 then some ⟨g, o, none⟩ else (some (⟨g, o, none⟩ : Addr)).map (·.add (1 * 1)), fun v => ?_, fun h => ?_⟩
  · have hu : Tryd.prog.underlying 65 = some (.slice (Tryd.prog.elem 65)) := by kernel_rfl
    rw [run_sliceAt_slice v _ _ _ _ _ hu, run_slice_l v _ _ _ _ hu .i64 (1 : Int) (by omega) (by omega)]
    have hz : ∀ v, (sizeOf (Tryd.prog.elem 65)).run Tryd.prog v = .ok 1 v := fun v => by kernel_rfl
    rw [hz]
    simp only [Result.andThen_ok, sliced]
    rfl
  · rw [if_neg (by omega)]
    simp [Addr.add_lit]
theorem split_len2 (l : List UInt8) : (splitW l).length ≤ l.length + 1 ∧ ∀ v ∈ splitW l, v.length ≤ l.length := by
  induction l with
  | nil => exact ⟨by simp [splitW], fun v hv => by simp [splitW] at hv; subst hv; simp⟩
  | cons b l ih =>
    rw [splitW_cons]
    by_cases hb : b = 32
    · rw [if_pos hb]
      refine ⟨by have := ih.1; simp; omega, fun v hv => ?_⟩
      rcases List.mem_cons.1 hv with e | e
      · subst e; simp
      · have := ih.2 v e; simp; omega
    · rw [if_neg hb]
      cases hsp : splitW l with
      | nil => exact absurd hsp (splitW_ne l)
      | cons a r =>
        rw [hsp] at ih
        refine ⟨by have := ih.1; simp at this ⊢; omega, fun v hv => ?_⟩
        rcases List.mem_cons.1 hv with e | e
        · subst e
          have := ih.2 a (by simp)
          simp
          omega
        · have := ih.2 v (by simp [e])
          simp
          omega
def endT : Option Rc → Ending
  | some r => .returned (.agg (rcC r))
  | none => .panicked [{ v := pv, recovered := false }]
def frL (b4 b5 b6 : Nat) (r : Rc) (ws : List ByteArray) : List (Nat × Array Value × TypeId) := [(b4, rcC zR, 45), (b5, rcC r, 45), (b6, (ws.map Value.string).toArray, 9)]
theorem row_cell {y : World} {b : Nat} {ws : List ByteArray} (h : Bx y b (ws.map Value.string).toArray 9) (k : Nat) (x : ByteArray) (hk : ws[k]? = some x) : y.cell? ⟨b, k, none⟩ = some (.string x) := h.c k _ (by simp [hk])
theorem rd_one {j n : Nat} {r : Rc} {l : List (List UInt8)} {RD : Option (Rc × List (List UInt8))} (hj : j < 8) (h : rdR (8 - j) j r l = RD) : RD = match stR j r l with | none => none | some (r', ws') => rdR (8 - (j + 1)) (j + 1) r' ws' := by
  rw [← h, show 8 - j = (8 - (j + 1)) + 1 by omega, rdR_succ]
  cases stR j r l <;> rfl
theorem readline_any (w : World) (tb : Hid (Tp w)) (tq : Hid (Tq w)) (g p1 f1 p2 f2 p3 f3 : Nat) (hR : Hid (RwA w g p1 f1 p2 f2 p3 f3)) (line : ByteArray) (hs : line.size ≤ 100000) :
    Calls Tryd.prog 38 #[.slice (some ⟨g, 0, none⟩) 8 8, .string line] w fun e w' => e = endT (recOf (strL line)) ∧ Hid (Below w.heap.size w w') := by
  have hF2 : Hid (Fm w [(w.heap.size, rcC zR, 45), (w.heap.size + 1, rcC zR, 45)] ((w.alloc (.cells (rcC zR) 45)).alloc (.cells (rcC zR) 45))) := Fm.two w _ _ _ _
  have htk : Hid _ := fun j hj => take_row w tb.out g p1 f1 p2 f2 p3 f3 hR.out j hj
  have hsp : Hid (∀ y, Below w.heap.size w y → Calls Tryd.prog 72 #[.string line, .string ⟨#[32]⟩] y fun e w' => ∃ ws : List ByteArray, e = .returned (.slice (some ⟨y.heap.size, 0, none⟩) ws.length ws.length) ∧ w' = y.alloc (.cells (ws.map Value.string).toArray 9) ∧ ws.map strL = splitW (strL line)) := fun y hy => split_any y (tq.out.below hy) line (by omega)
  have zz := zeroV84
  have zr := zeroV_R
  obtain ⟨EE, hEE⟩ : ∃ x, recOf (strL line) = x := ⟨_, rfl⟩
  rw [hEE]
  replace hEE : Hid _ := hEE
  have hs' : Hid (line.size ≤ 100000) := hs
  clear hs
  go_enter Tryd.func38, Tryd.ntmps38
  go_wp2_with (go_at_call 72; refine (hsp.out _ hF2.out.low).mono ?_; rintro e y ⟨ws, rfl, rfl, hws⟩; replace hws : Hid _ := hws; refine stopAt ?_)
  refine Stop.go ?_
  have hF3 : Hid (Fm w [(w.heap.size, rcC zR, 45), (w.heap.size + 1, rcC zR, 45), (w.heap.size + 1 + 1, (ws.map Value.string).toArray, 9)] (((w.alloc (.cells (rcC zR) 45)).alloc (.cells (rcC zR) 45)).alloc (.cells (ws.map Value.string).toArray 9))) := Fm.three w _ _ _ _ _ _
  obtain ⟨n, hn⟩ : ∃ n, ws.length = n := ⟨_, rfl⟩
  have hws2 : Hid (n ≤ 100001 ∧ ∀ v ∈ ws, v.size ≤ 1000000) := by
    have h1 := split_len2 (strL line)
    rw [← hws.out, List.length_map, strL_len, hn] at h1
    have h2 := hs'.out
    refine ⟨by omega, fun v hv => ?_⟩
    have h3 := h1.2 (strL v) (List.mem_map_of_mem hv)
    rw [strL_len] at h3
    omega
  have hn' : Hid (ws.length = n) := hn
  have ni : (n : Int) ≤ 100001 := by have := hws2.out.1; omega
  obtain ⟨RD, hRD⟩ : ∃ x, rdR 8 0 zRc (ws.map strL) = x := ⟨_, rfl⟩
  have hEnd : Hid (EE = endL RD) := by
    show _ = _
    rw [← hEE.out, ← read_is, ← hws.out, ← hRD]
    rfl
  replace hRD : Hid _ := hRD
  obtain ⟨b6, q6⟩ : ∃ b, w.heap.size + 1 + 1 = b := ⟨_, rfl⟩
  obtain ⟨b5, q5⟩ : ∃ b, w.heap.size + 1 = b := ⟨_, rfl⟩
  obtain ⟨b4, q4⟩ : ∃ b, w.heap.size = b := ⟨_, rfl⟩
  rw [q6, q5] at hF3 ⊢
  have K0 : Hid (Fm w (frL b4 b5 b6 zR ws) (((w.alloc (.cells (rcC zR) 45)).alloc (.cells (rcC zR) 45)).alloc (.cells (ws.map Value.string).toArray 9))) := by rw [← q4]; exact hF3
  rw [q4, hn]
  generalize (((w.alloc (.cells (rcC zR) 45)).alloc (.cells (rcC zR) 45)).alloc (.cells (ws.map Value.string).toArray 9)) = y0 at K0 ⊢
  clear hF3 hF2 hsp q4 q5 q6 hn
  go_wp2
  go_loopw [6, 13] (fun s t wz => ∃ (j k m : Nat) (r : Rc) (sp : Option Addr) (y : World), y = wz ∧ s = .slice sp m m ∧ t = .int .i64 (j : Int) ∧ Hid (j ≤ 8 ∧ k + m = n ∧ (0 < m → sp = some ⟨b6, k, none⟩) ∧ rdR (8 - j) j r ((ws.drop k).map strL) = RD) ∧ Hid (Fm w (frL b4 b5 b6 r ws) y)) (fun _ t _ => (8 - intOf t).toNat)
  case atStart => exact ⟨0, 0, n, zR, _, y0, rfl, rfl, rfl, ⟨by omega, by omega, fun _ => rfl, hRD.out⟩, K0⟩
  case round =>
    obtain ⟨j, k, m, r, sp, y, rfl, rfl, rfl, J, K⟩ := hrel
    by_cases hlt : j < 8
    · obtain ⟨S, kf, cp, hrow, hone, hent, hcall⟩ := htk.out j hlt
      have hrg := row_range p1 f1 p2 f2 p3 f3 (hR.out.tab.keep K.out.low) j hlt
      rw [hrow] at hrg hone
      rw [Nat.zero_add] at hrg
      have ij := fun v => idxP (g := g) (off := 0) (len := 8) (cap := 8) Tryd.underlying50 (s := 3) (by kernel_rfl) .i64 j v hlt
      have hji : (j : Int) < 8 := by omega
      have hlt' : Hid (j < 8) := hlt
      have hone' := rd_one (n := n) hlt J.out.2.2.2
      replace hone' : Hid _ := hone'
      obtain ⟨al, hal⟩ : ∃ b, decide (j < 3) = b := ⟨_, rfl⟩
      rw [hal] at hrg hone
      replace hal : Hid _ := hal
      replace hrg : Hid _ := hrg
      replace hone : Hid _ := hone
      clear hlt hrow
      by_cases hm : m = 0
      · subst hm
        have hd : Hid ((ws.drop k).map strL = []) := by
          show _ = _
          rw [List.drop_eq_nil_of_le (by rw [hn'.out]; have := J.out.2.1; omega)]
          rfl
        clear hent hcall
        cases al
        · have J2 : Hid (rdR (8 - (j + 1)) (j + 1) r ((ws.drop k).map strL) = RD) := by
            have h1 := hone'.out
            rw [hd.out, stR_nil, if_neg (of_decide_eq_false hal.out)] at h1
            show _ = _
            rw [hd.out, h1]
          go_wp2_with (first
            | ((with_reducible refine at_loadm rt84 g (j * 3) #[.bool false, S, .func (.func kf) #[] cp] ?_ ?_ (.tmp 15) ?_ ?_ ?_ ?_); exact hrg.out; rfl; kernel_rfl; rfl; rfl)
            | ((with_reducible refine gen_world (y.alloc (.cells #[.bool false, Value.nilFunc, Value.nilFunc] 84)) (Fm w (frL b4 b5 b6 r ws ++ [(y.heap.size, #[.bool false, Value.nilFunc, Value.nilFunc], 84)])) ?_ ?_); exact K.out.new _ _; intro y1 K1)
            | ((with_reducible refine at_st rt84 y.heap.size #[.bool false, Value.nilFunc, Value.nilFunc] #[.bool false, S, .func (.func kf) #[] cp] ?_ ?_ ?_ ?_ (.tmp 8) (.tmp 16) ?_ ?_ ?_ ?_ ?_); exact K1.out.bx 3 _ _ _ rfl; rfl; rfl; exact hone.out; rfl; rfl; rfl; rfl; intro y2 hw2; have K2 : Hid (Fm w (frL b4 b5 b6 r ws ++ [(y.heap.size, #[.bool false, S, .func (.func kf) #[] cp], 84)]) y2) := K1.out.put 3 _ _ _ _ rfl hw2.out; refine stopAt ?_))
          refine Stop.go ?_
          obtain ⟨b8, q8⟩ : ∃ b, y.heap.size = b := ⟨_, rfl⟩
          rw [q8] at K2 ⊢
          clear q8 ij K1 hw2
          go_wp2
          refine region_class_tail 9 (Fm w (frL b4 b5 b6 r ws ++ [(b8, #[.bool false, S, .func (.func kf) #[] cp], 84)])) (by kernel_rfl) (by kernel_rfl) (K2.out.below (below_drew (Below.refl _ _))) ?_
          simp only [List.take_succ_cons, List.take_zero, List.drop_succ_cons, List.drop_zero]
          with_reducible refine quiet_one (.slice sp 0 0) ?_ ?_ ?_
          · kernel_rfl
          · intro u hy
            go_simp
          with_reducible refine quiet_one (.int .i64 0) ?_ ?_ ?_
          · kernel_rfl
          · intro u hy
            go_simp
          with_reducible refine quiet_one (.bool false) ?_ ?_ ?_
          · kernel_rfl
          · intro u hy
            go_simp
          with_reducible refine quiet_one (.bool false) ?_ ?_ ?_
          · kernel_rfl
          · intro u hy
            go_simp
          with_reducible refine quiet_skip ?_ ?_
          · kernel_rfl
          with_reducible refine quiet_skip ?_ ?_
          · kernel_rfl
          with_reducible refine quiet_skip ?_ ?_
          · kernel_rfl
          with_reducible refine quiet_skip ?_ ?_
          · kernel_rfl
          with_reducible refine quiet_skip ?_ ?_
          · kernel_rfl
          refine wpQuiet_nil ?_
          intro z0 U0
          replace U0 : Hid _ := U0
          go_simp
          have a3 := (U0.out.bx 3 _ _ _ rfl).c 0 _ rfl
          go_wp2_with (go_at_call 37; refine (need_ok z0).mono ?_; rintro e z4 ⟨rfl, hz4⟩; replace hz4 := hz4.symm; subst hz4)
          go_roundw
          case rel => exact ⟨j + 1, k, 0, r, sp, _, rfl, rfl, by simp, ⟨hlt'.out, J.out.2.1, fun h => by omega, J2.out⟩, U0.out.pre⟩
          case measure => have := hlt'.out; simp [intOf]; omega
        · have fin : Hid (EE = none) := by
            have h1 := hone'.out
            rw [hd.out, stR_nil, if_pos (of_decide_eq_true hal.out)] at h1
            show _ = _
            rw [hEnd.out, h1]
            rfl
          go_wp2_with (first
            | ((with_reducible refine at_loadm rt84 g (j * 3) #[.bool true, S, .func (.func kf) #[] cp] ?_ ?_ (.tmp 15) ?_ ?_ ?_ ?_); exact hrg.out; rfl; kernel_rfl; rfl; rfl)
            | ((with_reducible refine gen_world (y.alloc (.cells #[.bool false, Value.nilFunc, Value.nilFunc] 84)) (Fm w (frL b4 b5 b6 r ws ++ [(y.heap.size, #[.bool false, Value.nilFunc, Value.nilFunc], 84)])) ?_ ?_); exact K.out.new _ _; intro y1 K1)
            | ((with_reducible refine at_st rt84 y.heap.size #[.bool false, Value.nilFunc, Value.nilFunc] #[.bool true, S, .func (.func kf) #[] cp] ?_ ?_ ?_ ?_ (.tmp 8) (.tmp 16) ?_ ?_ ?_ ?_ ?_); exact K1.out.bx 3 _ _ _ rfl; rfl; rfl; exact hone.out; rfl; rfl; rfl; rfl; intro y2 hw2; have K2 : Hid (Fm w (frL b4 b5 b6 r ws ++ [(y.heap.size, #[.bool true, S, .func (.func kf) #[] cp], 84)]) y2) := K1.out.put 3 _ _ _ _ rfl hw2.out; refine stopAt ?_))
          refine Stop.go ?_
          obtain ⟨b8, q8⟩ : ∃ b, y.heap.size = b := ⟨_, rfl⟩
          rw [q8] at K2 ⊢
          clear q8 ij K1 hw2
          go_wp2
          refine region_class_tail 9 (Fm w (frL b4 b5 b6 r ws ++ [(b8, #[.bool true, S, .func (.func kf) #[] cp], 84)])) (by kernel_rfl) (by kernel_rfl) (K2.out.below (below_drew (Below.refl _ _))) ?_
          simp only [List.take_succ_cons, List.take_zero, List.drop_succ_cons, List.drop_zero]
          with_reducible refine quiet_one (.slice sp 0 0) ?_ ?_ ?_
          · kernel_rfl
          · intro u hy
            go_simp
          with_reducible refine quiet_one (.int .i64 0) ?_ ?_ ?_
          · kernel_rfl
          · intro u hy
            go_simp
          with_reducible refine quiet_one (.bool false) ?_ ?_ ?_
          · kernel_rfl
          · intro u hy
            go_simp
          with_reducible refine quiet_one (.bool false) ?_ ?_ ?_
          · kernel_rfl
          · intro u hy
            go_simp
          with_reducible refine quiet_skip ?_ ?_
          · kernel_rfl
          with_reducible refine quiet_skip ?_ ?_
          · kernel_rfl
          with_reducible refine quiet_skip ?_ ?_
          · kernel_rfl
          with_reducible refine quiet_skip ?_ ?_
          · kernel_rfl
          with_reducible refine quiet_skip ?_ ?_
          · kernel_rfl
          refine wpQuiet_nil ?_
          intro z0 U0
          replace U0 : Hid _ := U0
          go_simp
          have a3 := (U0.out.bx 3 _ _ _ rfl).c 0 _ rfl
          go_wp2_with (go_at_call 37; refine (need_no z0).mono ?_; rintro e z4 ⟨rfl, hz4⟩; replace hz4 := hz4.symm; subst hz4)
          exact ⟨rfl, by rw [fin.out]; rfl, U0.out.low⟩
      · obtain ⟨M, hM⟩ : ∃ M, m = M := ⟨_, rfl⟩
        subst hM
        obtain ⟨M, hM⟩ : ∃ M, m = M := ⟨_, rfl⟩
        obtain ⟨m', hm'⟩ : ∃ m', m = m' + 1 := ⟨m - 1, by omega⟩
        have hkn : k < n := by have := J.out.2.1; omega
        obtain ⟨x, hx, hdrop⟩ := at_list hn'.out hkn
        have hsp : sp = some ⟨b6, k, none⟩ := J.out.2.2.1 (by omega)
        subst hsp
        have hxz : x.size ≤ 1000000 := hws2.out.2 x (List.mem_of_getElem? hx)
        obtain ⟨sp1, hsl, hsl2⟩ := slW b6 k m'
        rw [← hm', hM] at hsl
        have M0 : 0 < (M : Int) := by omega
        have M1 : 0 < M := by omega
        have Mi : (M : Int) ≤ 100001 := by have := hws2.out.1; have := J.out.2.1; omega
        have hMm : Hid (M = m' + 1 ∧ k + M = n) := ⟨by omega, by have := J.out.2.1; omega⟩
        have i0 : ∀ v, (Instr.indexAt 65 (.slice (some ⟨b6, k, none⟩) M M) (.int .i64 0)).run Tryd.prog v = .ok (.pointer (some ⟨b6, k, none⟩)) v := fun v => by
          have := idxP (g := b6) (off := k) (len := M) (cap := M) Tryd.underlying65 (s := 1) (by kernel_rfl) .i64 0 v (by omega)
          rw [Nat.zero_mul, Nat.add_zero] at this
          exact this
        have hst : Hid (RD = match (if tkB j (strL x) then some (tkR j (strL x) r, (ws.drop (k + 1)).map strL) else if j < 3 then none else some (tkR j (strL x) r, strL x :: (ws.drop (k + 1)).map strL)) with | none => none | some (r', ws') => rdR (8 - (j + 1)) (j + 1) r' ws') := by
          have h1 := hone'.out
          rw [hdrop, List.map_cons, stR_cons] at h1
          exact h1
        have hdr : Hid ((ws.drop k).map strL = strL x :: (ws.drop (k + 1)).map strL) := by show _ = _; rw [hdrop]; rfl
        have hcall : Hid _ := fun y hy hb => hcall y b5 r x hy hb hxz
        replace hent := fun z => hent b5 x z
        obtain ⟨TB, hTB⟩ : ∃ b, tkB j (strL x) = b := ⟨_, rfl⟩
        obtain ⟨TR, hTR⟩ : ∃ b, tkR j (strL x) r = b := ⟨_, rfl⟩
        simp only [hTB, hTR] at hcall hst
        rw [hM]
        replace hx : Hid _ := hx
        replace hsl : Hid _ := hsl
        replace hsl2 : Hid _ := hsl2
        clear hm hM hm' hkn hdrop hxz hTB hTR hone'
        cases TB
        · cases al
          · have J2 : Hid (rdR (8 - (j + 1)) (j + 1) TR ((ws.drop k).map strL) = RD) := by
              have h1 := hst.out
              rw [if_neg (by decide), if_neg (of_decide_eq_false hal.out)] at h1
              show _ = _
              rw [hdr.out, h1]
            go_wp2_with (first
              | ((with_reducible refine at_loadm rt84 g (j * 3) #[.bool false, S, .func (.func kf) #[] cp] ?_ ?_ (.tmp 15) ?_ ?_ ?_ ?_); exact hrg.out; rfl; kernel_rfl; rfl; rfl)
              | ((with_reducible refine gen_world (y.alloc (.cells #[.bool false, Value.nilFunc, Value.nilFunc] 84)) (Fm w (frL b4 b5 b6 r ws ++ [(y.heap.size, #[.bool false, Value.nilFunc, Value.nilFunc], 84)])) ?_ ?_); exact K.out.new _ _; intro y1 K1)
              | ((with_reducible refine at_st rt84 y.heap.size #[.bool false, Value.nilFunc, Value.nilFunc] #[.bool false, S, .func (.func kf) #[] cp] ?_ ?_ ?_ ?_ (.tmp 8) (.tmp 16) ?_ ?_ ?_ ?_ ?_); exact K1.out.bx 3 _ _ _ rfl; rfl; rfl; exact hone.out; rfl; rfl; rfl; rfl; intro y2 hw2; have K2 : Hid (Fm w (frL b4 b5 b6 r ws ++ [(y.heap.size, #[.bool false, S, .func (.func kf) #[] cp], 84)]) y2) := K1.out.put 3 _ _ _ _ rfl hw2.out; refine stopAt ?_))
            refine Stop.go ?_
            obtain ⟨b8, q8⟩ : ∃ b, y.heap.size = b := ⟨_, rfl⟩
            rw [q8] at K2 ⊢
            clear q8 ij K1 hw2
            go_wp2
            refine region_class_tail 9 (Fm w (frL b4 b5 b6 r ws ++ [(b8, #[.bool false, S, .func (.func kf) #[] cp], 84)])) (by kernel_rfl) (by kernel_rfl) (K2.out.below (below_drew (Below.refl _ _))) ?_
            simp only [List.take_succ_cons, List.take_zero, List.drop_succ_cons, List.drop_zero]
            with_reducible refine quiet_one (.slice (some ⟨b6, k, none⟩) M M) ?_ ?_ ?_
            · kernel_rfl
            · intro u hy
              go_simp
            with_reducible refine quiet_one (.int .i64 (M : Int)) ?_ ?_ ?_
            · kernel_rfl
            · intro u hy
              go_simp
            with_reducible refine quiet_one (.bool true) ?_ ?_ ?_
            · kernel_rfl
            · intro u hy
              go_simp
            with_reducible refine quiet_one (.bool true) ?_ ?_ ?_
            · kernel_rfl
            · intro u hy
              go_simp
            with_reducible refine quiet_one (.pointer (some ⟨b8, 2, none⟩)) ?_ ?_ ?_
            · kernel_rfl
            · intro u hy
              go_simp
            with_reducible refine quiet_one (.func (.func kf) #[] cp) ?_ ?_ ?_
            · kernel_rfl
            · intro u hy
              have c := (hy.bx 3 _ _ _ rfl).c 2 _ rfl
              go_simp
            with_reducible refine quiet_one (.slice (some ⟨b6, k, none⟩) M M) ?_ ?_ ?_
            · kernel_rfl
            · intro u hy
              go_simp
            with_reducible refine quiet_one (.pointer (some ⟨b6, k, none⟩)) ?_ ?_ ?_
            · kernel_rfl
            · intro u hy
              go_simp
            with_reducible refine quiet_one (.string x) ?_ ?_ ?_
            · kernel_rfl
            · intro u hy
              have c := row_cell (hy.bx 2 _ _ _ rfl) k x hx.out
              go_simp
            refine wpQuiet_nil ?_
            intro z0 U0
            replace U0 : Hid _ := U0
            go_simp
            go_wp2_with (first
              | ((with_reducible show Calls Tryd.prog kf _ _ _); refine (hcall.out z0 U0.out.low (U0.out.bx 1 _ _ _ rfl)).mono ?_; rintro e z3 ⟨rfl, H3⟩; have K3 : Hid (Fm w (frL b4 b5 b6 TR ws ++ [(b8, #[.bool false, S, .func (.func kf) #[] cp], 84)]) z3) := U0.out.tk 1 b5 rfl H3.out; have a3 := (K3.out.bx 3 _ _ _ rfl).c 0 _ rfl)
              | (go_at_call 37; refine (need_ok z3).mono ?_; rintro e z4 ⟨rfl, hz4⟩; replace hz4 := hz4.symm; subst hz4))
            go_roundw
            case rel => exact ⟨j + 1, k, M, TR, _, _, rfl, rfl, by simp, ⟨hlt'.out, hMm.out.2, fun _ => rfl, J2.out⟩, K3.out.pre⟩
            case measure => have := hlt'.out; simp [intOf]; omega
          · have fin : Hid (EE = none) := by
              have h1 := hst.out
              rw [if_neg (by decide), if_pos (of_decide_eq_true hal.out)] at h1
              show _ = _
              rw [hEnd.out, h1]
              rfl
            go_wp2_with (first
              | ((with_reducible refine at_loadm rt84 g (j * 3) #[.bool true, S, .func (.func kf) #[] cp] ?_ ?_ (.tmp 15) ?_ ?_ ?_ ?_); exact hrg.out; rfl; kernel_rfl; rfl; rfl)
              | ((with_reducible refine gen_world (y.alloc (.cells #[.bool false, Value.nilFunc, Value.nilFunc] 84)) (Fm w (frL b4 b5 b6 r ws ++ [(y.heap.size, #[.bool false, Value.nilFunc, Value.nilFunc], 84)])) ?_ ?_); exact K.out.new _ _; intro y1 K1)
              | ((with_reducible refine at_st rt84 y.heap.size #[.bool false, Value.nilFunc, Value.nilFunc] #[.bool true, S, .func (.func kf) #[] cp] ?_ ?_ ?_ ?_ (.tmp 8) (.tmp 16) ?_ ?_ ?_ ?_ ?_); exact K1.out.bx 3 _ _ _ rfl; rfl; rfl; exact hone.out; rfl; rfl; rfl; rfl; intro y2 hw2; have K2 : Hid (Fm w (frL b4 b5 b6 r ws ++ [(y.heap.size, #[.bool true, S, .func (.func kf) #[] cp], 84)]) y2) := K1.out.put 3 _ _ _ _ rfl hw2.out; refine stopAt ?_))
            refine Stop.go ?_
            obtain ⟨b8, q8⟩ : ∃ b, y.heap.size = b := ⟨_, rfl⟩
            rw [q8] at K2 ⊢
            clear q8 ij K1 hw2
            go_wp2
            refine region_class_tail 9 (Fm w (frL b4 b5 b6 r ws ++ [(b8, #[.bool true, S, .func (.func kf) #[] cp], 84)])) (by kernel_rfl) (by kernel_rfl) (K2.out.below (below_drew (Below.refl _ _))) ?_
            simp only [List.take_succ_cons, List.take_zero, List.drop_succ_cons, List.drop_zero]
            with_reducible refine quiet_one (.slice (some ⟨b6, k, none⟩) M M) ?_ ?_ ?_
            · kernel_rfl
            · intro u hy
              go_simp
            with_reducible refine quiet_one (.int .i64 (M : Int)) ?_ ?_ ?_
            · kernel_rfl
            · intro u hy
              go_simp
            with_reducible refine quiet_one (.bool true) ?_ ?_ ?_
            · kernel_rfl
            · intro u hy
              go_simp
            with_reducible refine quiet_one (.bool true) ?_ ?_ ?_
            · kernel_rfl
            · intro u hy
              go_simp
            with_reducible refine quiet_one (.pointer (some ⟨b8, 2, none⟩)) ?_ ?_ ?_
            · kernel_rfl
            · intro u hy
              go_simp
            with_reducible refine quiet_one (.func (.func kf) #[] cp) ?_ ?_ ?_
            · kernel_rfl
            · intro u hy
              have c := (hy.bx 3 _ _ _ rfl).c 2 _ rfl
              go_simp
            with_reducible refine quiet_one (.slice (some ⟨b6, k, none⟩) M M) ?_ ?_ ?_
            · kernel_rfl
            · intro u hy
              go_simp
            with_reducible refine quiet_one (.pointer (some ⟨b6, k, none⟩)) ?_ ?_ ?_
            · kernel_rfl
            · intro u hy
              go_simp
            with_reducible refine quiet_one (.string x) ?_ ?_ ?_
            · kernel_rfl
            · intro u hy
              have c := row_cell (hy.bx 2 _ _ _ rfl) k x hx.out
              go_simp
            refine wpQuiet_nil ?_
            intro z0 U0
            replace U0 : Hid _ := U0
            go_simp
            go_wp2_with (first
              | ((with_reducible show Calls Tryd.prog kf _ _ _); refine (hcall.out z0 U0.out.low (U0.out.bx 1 _ _ _ rfl)).mono ?_; rintro e z3 ⟨rfl, H3⟩; have K3 : Hid (Fm w (frL b4 b5 b6 TR ws ++ [(b8, #[.bool true, S, .func (.func kf) #[] cp], 84)]) z3) := U0.out.tk 1 b5 rfl H3.out; have a3 := (K3.out.bx 3 _ _ _ rfl).c 0 _ rfl)
              | (go_at_call 37; refine (need_no z3).mono ?_; rintro e z4 ⟨rfl, hz4⟩; replace hz4 := hz4.symm; subst hz4))
            exact ⟨rfl, by rw [fin.out]; rfl, K3.out.low⟩
        · have J2 : Hid (rdR (8 - (j + 1)) (j + 1) TR ((ws.drop (k + 1)).map strL) = RD) := by
            have h1 := hst.out
            rw [if_pos rfl] at h1
            exact h1.symm
          go_wp2_with (first
            | ((with_reducible refine at_loadm rt84 g (j * 3) #[.bool al, S, .func (.func kf) #[] cp] ?_ ?_ (.tmp 15) ?_ ?_ ?_ ?_); exact hrg.out; rfl; kernel_rfl; rfl; rfl)
            | ((with_reducible refine gen_world (y.alloc (.cells #[.bool false, Value.nilFunc, Value.nilFunc] 84)) (Fm w (frL b4 b5 b6 r ws ++ [(y.heap.size, #[.bool false, Value.nilFunc, Value.nilFunc], 84)])) ?_ ?_); exact K.out.new _ _; intro y1 K1)
            | ((with_reducible refine at_st rt84 y.heap.size #[.bool false, Value.nilFunc, Value.nilFunc] #[.bool al, S, .func (.func kf) #[] cp] ?_ ?_ ?_ ?_ (.tmp 8) (.tmp 16) ?_ ?_ ?_ ?_ ?_); exact K1.out.bx 3 _ _ _ rfl; rfl; rfl; exact hone.out; rfl; rfl; rfl; rfl; intro y2 hw2; have K2 : Hid (Fm w (frL b4 b5 b6 r ws ++ [(y.heap.size, #[.bool al, S, .func (.func kf) #[] cp], 84)]) y2) := K1.out.put 3 _ _ _ _ rfl hw2.out; refine stopAt ?_))
          refine Stop.go ?_
          obtain ⟨b8, q8⟩ : ∃ b, y.heap.size = b := ⟨_, rfl⟩
          rw [q8] at K2 ⊢
          clear q8 ij K1 hw2
          go_wp2
          refine region_class_tail 9 (Fm w (frL b4 b5 b6 r ws ++ [(b8, #[.bool al, S, .func (.func kf) #[] cp], 84)])) (by kernel_rfl) (by kernel_rfl) (K2.out.below (below_drew (Below.refl _ _))) ?_
          simp only [List.take_succ_cons, List.take_zero, List.drop_succ_cons, List.drop_zero]
          with_reducible refine quiet_one (.slice (some ⟨b6, k, none⟩) M M) ?_ ?_ ?_
          · kernel_rfl
          · intro u hy
            go_simp
          with_reducible refine quiet_one (.int .i64 (M : Int)) ?_ ?_ ?_
          · kernel_rfl
          · intro u hy
            go_simp
          with_reducible refine quiet_one (.bool true) ?_ ?_ ?_
          · kernel_rfl
          · intro u hy
            go_simp
          with_reducible refine quiet_one (.bool true) ?_ ?_ ?_
          · kernel_rfl
          · intro u hy
            go_simp
          with_reducible refine quiet_one (.pointer (some ⟨b8, 2, none⟩)) ?_ ?_ ?_
          · kernel_rfl
          · intro u hy
            go_simp
          with_reducible refine quiet_one (.func (.func kf) #[] cp) ?_ ?_ ?_
          · kernel_rfl
          · intro u hy
            have c := (hy.bx 3 _ _ _ rfl).c 2 _ rfl
            go_simp
          with_reducible refine quiet_one (.slice (some ⟨b6, k, none⟩) M M) ?_ ?_ ?_
          · kernel_rfl
          · intro u hy
            go_simp
          with_reducible refine quiet_one (.pointer (some ⟨b6, k, none⟩)) ?_ ?_ ?_
          · kernel_rfl
          · intro u hy
            go_simp
          with_reducible refine quiet_one (.string x) ?_ ?_ ?_
          · kernel_rfl
          · intro u hy
            have c := row_cell (hy.bx 2 _ _ _ rfl) k x hx.out
            go_simp
          refine wpQuiet_nil ?_
          intro z0 U0
          replace U0 : Hid _ := U0
          go_simp
          go_wp2_with (first
            | ((with_reducible refine at_sl 65 (.tmp 28) (.const (.int .i64 1)) (.slice (some ⟨b6, k, none⟩) M M) (.int .i64 1) (.slice sp1 m' m') ?_ ?_ ?_ ?_ ?_ ?_); kernel_rfl; rfl; rfl; rfl; exact hsl.out)
            | ((with_reducible show Calls Tryd.prog kf _ _ _); refine (hcall.out z0 U0.out.low (U0.out.bx 1 _ _ _ rfl)).mono ?_; rintro e z3 ⟨rfl, H3⟩; have K3 : Hid (Fm w (frL b4 b5 b6 TR ws ++ [(b8, #[.bool al, S, .func (.func kf) #[] cp], 84)]) z3) := U0.out.tk 1 b5 rfl H3.out; have a3 := (K3.out.bx 3 _ _ _ rfl).c 0 _ rfl))
          go_roundw
          case rel => exact ⟨j + 1, k + 1, m', TR, sp1, _, rfl, rfl, by simp, ⟨hlt'.out, by have := hMm.out; omega, hsl2.out, J2.out⟩, K3.out.pre⟩
          case measure => have := hlt'.out; simp [intOf]; omega
    · have hje : j = 8 := by have := J.out.1; omega
      subst hje
      have hmi : (m : Int) ≤ 100001 := by have := hws2.out.1; have := J.out.2.1; omega
      have hfin : Hid (EE = endL (some (r, (ws.drop k).map strL))) := by
        show _ = _
        rw [hEnd.out, ← J.out.2.2.2]
        rfl
      have hM := fun v => may_any v r
      clear hlt htk
      by_cases hm : m = 0
      · subst hm
        have hd : (ws.drop k).map strL = [] := by
          rw [List.drop_eq_nil_of_le (by rw [hn'.out]; have := J.out.2.1; omega)]
          rfl
        have hfin2 : Hid (EE = if mayR r then some r else none) := by
          have := hfin.out
          rw [hd] at this
          exact this
        obtain ⟨mb, hmb⟩ : ∃ b, mayR r = b := ⟨_, rfl⟩
        rw [hmb] at hfin2
        simp only [hmb] at hM
        clear hd hmb
        cases mb
        · go_wp2_with (first
            | (go_at_call 37; refine (need_ok y).mono ?_; rintro e z4 ⟨rfl, hz4⟩; replace hz4 := hz4.symm; subst hz4)
            | ((with_reducible refine at_load rtR b5 (rcC r) ?_ ?_ (.tmp 5) ?_ ?_ ?_ ?_); exact K.out.bx 1 _ _ _ rfl; rfl; kernel_rfl; rfl; rfl)
            | (go_at_call 49; refine (hM y).mono ?_; rintro e z5 ⟨rfl, h5⟩; have K5 : Hid (Fm w (frL b4 b5 b6 r ws) z5) := K.out.below h5; clear h5)
            | (go_at_call 37; refine (need_no z5).mono ?_; rintro e z6 ⟨rfl, hz6⟩; replace hz6 := hz6.symm; subst hz6))
          exact ⟨rfl, by rw [hfin2.out]; rfl, K5.out.low⟩
        · go_wp2_with (first
            | (go_at_call 37; refine (need_ok y).mono ?_; rintro e z4 ⟨rfl, hz4⟩; replace hz4 := hz4.symm; subst hz4; refine stopAt ?_)
            | ((with_reducible refine at_load rtR b5 (rcC r) ?_ ?_ (.tmp 5) ?_ ?_ ?_ ?_); exact K.out.bx 1 _ _ _ rfl; rfl; kernel_rfl; rfl; rfl))
          refine Stop.go ?_
          go_wp2_with (first
            | ((with_reducible refine at_load rtR b5 (rcC r) ?_ ?_ (.tmp 5) ?_ ?_ ?_ ?_); exact K.out.bx 1 _ _ _ rfl; rfl; kernel_rfl; rfl; rfl)
            | (go_at_call 49; refine (hM y).mono ?_; rintro e z5 ⟨rfl, h5⟩; have K5 : Hid (Fm w (frL b4 b5 b6 r ws) z5) := K.out.below h5; clear h5)
            | (go_at_call 37; refine (need_ok z5).mono ?_; rintro e z6 ⟨rfl, hz6⟩; replace hz6 := hz6.symm; subst hz6)
            | ((with_reducible refine at_load rtR b5 (rcC r) ?_ ?_ (.tmp 5) ?_ ?_ ?_ ?_); exact K5.out.bx 1 _ _ _ rfl; rfl; kernel_rfl; rfl; rfl)
            | ((with_reducible refine at_st rtR b4 (rcC zR) (rcC r) ?_ ?_ ?_ ?_ (.tmp 4) (.tmp 42) ?_ ?_ ?_ ?_ ?_); exact K5.out.bx 0 _ _ _ rfl; rfl; rfl; exact rcC_one _; rfl; rfl; rfl; rfl; intro z7 hw7; have K7 : Hid (Fm w [(b4, rcC r, 45), (b5, rcC r, 45), (b6, (ws.map Value.string).toArray, 9)] z7) := K5.out.put 0 _ _ _ _ rfl hw7.out))
          exact ret_row rtR rfl rfl (K7.out.bx 0 _ _ _ rfl) rfl rfl ⟨by rw [hfin2.out]; rfl, K7.out.low⟩
      · have q : ((m : Int) == 0) = false := by simp; omega
        have hfin2 : Hid (EE = none) := by
          have h1 := hfin.out
          obtain ⟨x, hx, hdrop⟩ := at_list hn'.out (show k < n by have := J.out.2.1; omega)
          rw [hdrop] at h1
          exact h1
        clear hm
        go_wp2_with (go_at_call 37; refine (need_no y).mono ?_; rintro e z4 ⟨rfl, hz4⟩; replace hz4 := hz4.symm; subst hz4)
        exact ⟨rfl, by rw [hfin2.out]; rfl, K.out.low⟩
end Go.Proofs.YtoajmicdphffnaaDoor
