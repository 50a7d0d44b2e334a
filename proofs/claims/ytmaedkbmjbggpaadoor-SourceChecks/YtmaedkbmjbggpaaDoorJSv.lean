/- Two items, two lists of items held against each other; the statements' own source. -/
import Derived.Test.YtmaedkbmjbggpaaDoorJNr
import Derived.Test.YtmaedkbmjbggpaaDoorJSz
namespace Go.Proofs.YtmaedkbmjbggpaaDoor
open Go Go.RowKit
set_option linter.unusedVariables false
set_option maxHeartbeats 3000000
set_option maxRecDepth 20000

theorem conv_nil (w : World) (cap : Nat) : (convert 37 9 (.slice none 0 cap)).run Tryd.prog w = .ok (.string ⟨#[]⟩) w := by kernel_rfl
theorem LB8.conv {w : World} {sp : Option Addr} {l : List UInt8} (h : LB8 w sp l) (cap : Nat) : (convert 37 9 (.slice sp l.length cap)).run Tryd.prog w = .ok (.string ⟨l.toArray⟩) w := by
  have key : ∀ a : Addr, (∀ j (hj : j < l.length), w.cell? (a.add j) = some (.int .u8 (l[j].toNat : Int))) → (convert 37 9 (.slice (some a) l.length cap)).run Tryd.prog w = .ok (.string ⟨l.toArray⟩) w := fun a hc =>
    run_convert_bytes_back (P := Tryd.prog) w 37 9 5 a cap l Tryd.underlying37 Tryd.underlying5 Tryd.underlying9 (fun j hj => hc j hj)
  rcases sp with _ | a
  · have hl : l = [] := by
      rcases l with _ | ⟨b, r⟩
      · rfl
      · obtain ⟨g, o, e, _⟩ := h 0 b rfl
        cases e
    subst hl
    exact conv_nil w cap
  · refine key a fun j hj => ?_
    obtain ⟨g, o, e, c⟩ := h j l[j] (List.getElem?_eq_getElem hj)
    cases e
    rw [Addr.add_lit]
    exact c
theorem same_one (w : World) (k : Int) (n : ByteArray) (a : Int) (l : ByteArray) (p : Int) (sp1 sp2 : Option Addr) (m cap1 cap2 : Nat) (b : List UInt8) (hm : Hid (b.length = m)) (h1 : Hid (LB8 w sp1 b)) (h2 : Hid (LB8 w sp2 b)) :
    Calls Tryd.prog 22 #[.agg (i6 ⟨k, n, a, l, p, sp1, m, cap1⟩), .agg (i6 ⟨k, n, a, l, p, sp2, m, cap2⟩)] w fun e w' => e = .returned (.bool true) ∧ Below w.heap.size w w' := by
  have hB : Hid (Fm w [(w.heap.size, i6 ⟨k, n, a, l, p, sp1, m, cap1⟩, 39), (w.heap.size + 1, i6 ⟨k, n, a, l, p, sp2, m, cap2⟩, 39)] ((w.alloc (.cells (i6 ⟨k, n, a, l, p, sp1, m, cap1⟩) 39)).alloc (.cells (i6 ⟨k, n, a, l, p, sp2, m, cap2⟩) 39))) := Fm.two w _ _ _ _
  have q1 := str_eq (rfl : n = n)
  have q2 := str_eq (rfl : l = l)
  have q3 := str_eq (rfl : (⟨b.toArray⟩ : ByteArray) = ⟨b.toArray⟩)
  go_enter Tryd.func22, Tryd.ntmps22
  go_wp2_with ((with_reducible refine gen_world ((w.alloc (.cells (i6 ⟨k, n, a, l, p, sp1, m, cap1⟩) 39)).alloc (.cells (i6 ⟨k, n, a, l, p, sp2, m, cap2⟩) 39)) (Fm w [(w.heap.size, i6 ⟨k, n, a, l, p, sp1, m, cap1⟩, 39), (w.heap.size + 1, i6 ⟨k, n, a, l, p, sp2, m, cap2⟩, 39)]) hB.out ?_); intro y K1; have d0 := (K1.out.bx 0 _ _ _ rfl).c 0 (.int .u8 k) rfl; have g0 := (K1.out.bx 1 _ _ _ rfl).c 0 (.int .u8 k) rfl; have d1 := (K1.out.bx 0 _ _ _ rfl).c 1 (.string n) rfl; have g1 := (K1.out.bx 1 _ _ _ rfl).c 1 (.string n) rfl; have d2 := (K1.out.bx 0 _ _ _ rfl).c 2 (.int .i64 a) rfl; have g2 := (K1.out.bx 1 _ _ _ rfl).c 2 (.int .i64 a) rfl; have d3 := (K1.out.bx 0 _ _ _ rfl).c 3 (.string l) rfl; have g3 := (K1.out.bx 1 _ _ _ rfl).c 3 (.string l) rfl; have d4 := (K1.out.bx 0 _ _ _ rfl).c 4 (.int .u8 p) rfl; have g4 := (K1.out.bx 1 _ _ _ rfl).c 4 (.int .u8 p) rfl; have d5 := (K1.out.bx 0 _ _ _ rfl).c 5 (.slice sp1 m cap1) rfl; have g5 := (K1.out.bx 1 _ _ _ rfl).c 5 (.slice sp2 m cap2) rfl; have v1 := (h1.out.below K1.out.low).conv cap1; have v2 := (h2.out.below K1.out.low).conv cap2; rw [hm.out] at v1 v2)
  go_ret
  exact ⟨rfl, K1.out.low⟩
/-- Items whose bytes lie where they say. -/
def GoodL (w : World) (X : List Itm) : Prop := ∀ x ∈ X, LB8 w x.1.sp x.2 ∧ x.2.length = x.1.m
theorem GoodL.below {w y : World} {X : List Itm} (h : GoodL w X) (hb : Below w.heap.size w y) : GoodL y X := fun x hx => ⟨(h x hx).1.below hb, (h x hx).2⟩
theorem same_true (w : World) (x y : Itm) (hx : LB8 w x.1.sp x.2 ∧ x.2.length = x.1.m) (hy : LB8 w y.1.sp y.2 ∧ y.2.length = y.1.m) (e : pu x = pu y) : Calls Tryd.prog 22 #[.agg (i6 x.1), .agg (i6 y.1)] w fun e w' => e = .returned (.bool true) ∧ Below w.heap.size w w' := by
  obtain ⟨⟨k, n, a, l, p, sp1, m1, cap1⟩, b⟩ := x
  obtain ⟨⟨k', n', a', l', p', sp2, m2, cap2⟩, b'⟩ := y
  unfold pu at e
  injection e with e1 e2 e3 e4 e5 e6
  simp only at e1 e2 e3 e4 e5 e6 hx hy
  subst e1 e2 e3 e4 e5 e6
  obtain ⟨h1, rfl⟩ := hx
  obtain ⟨h2, e⟩ := hy
  subst e
  exact same_one w k n a l p sp1 sp2 b.length cap1 cap2 b rfl h1 h2
theorem sameItems_true (w : World) (pa pb : Option Addr) (ca cb : Nat) (X Y : List Itm) (ha : Hid (LI w pa (X.map (·.1)))) (hb : Hid (LI w pb (Y.map (·.1)))) (gX : Hid (GoodL w X)) (gY : Hid (GoodL w Y)) (he : Hid (X.map pu = Y.map pu)) (hn : X.length ≤ 4294967296) :
    Calls Tryd.prog 17 #[.slice pa X.length ca, .slice pb Y.length cb] w fun e w' => e = .returned (.bool true) ∧ Hid (Below w.heap.size w w') := by
  have hl : X.length = Y.length := by have := congrArg List.length he.out; simpa using this
  obtain ⟨n, hn'⟩ : ∃ n, X.length = n := ⟨_, rfl⟩
  have ni : (n : Int) ≤ 4294967296 := by omega
  have hnn : Hid (X.length = n ∧ Y.length = n) := ⟨hn', by omega⟩
  rw [← hl, hn']
  clear hn hn' hl
  go_enter Tryd.func17, Tryd.ntmps17
  go_wp2
  go_loopw [5] (fun i wz => ∃ (j : Nat) (y : World), y = wz ∧ i = .int .i64 (j : Int) ∧ Hid (j ≤ n) ∧ Hid (Below w.heap.size w y)) (fun i _ => (n - intOf i).toNat)
  case atStart => exact ⟨0, w, rfl, rfl, Nat.zero_le _, Below.refl _ _⟩
  case round =>
    obtain ⟨j, z, rfl, rfl, J, U⟩ := hrel
    by_cases hlt : j < n
    · obtain ⟨x, hx⟩ : ∃ x, X[j]? = some x := ⟨_, List.getElem?_eq_getElem (by rw [hnn.out.1]; exact hlt)⟩
      obtain ⟨y, hy⟩ : ∃ y, Y[j]? = some y := ⟨_, List.getElem?_eq_getElem (by rw [hnn.out.2]; exact hlt)⟩
      obtain ⟨ga, oa, rfl, ra⟩ := ha.out j x.1 (by rw [List.getElem?_map, hx]; rfl)
      obtain ⟨gb, ob, rfl, rb⟩ := hb.out j y.1 (by rw [List.getElem?_map, hy]; rfl)
      have R1 : Hid (w.rangeAt ga (oa + j * 6) (i6 x.1).toList) := ra
      have R2 : Hid (w.rangeAt gb (ob + j * 6) (i6 y.1).toList) := rb
      have hxy : pu x = pu y := by
        have h := congrArg (fun l : List Pu => l[j]?) he.out
        simp only [List.getElem?_map, hx, hy] at h
        simpa using h
      have hS : Hid (∀ v, Below w.heap.size w v → Calls Tryd.prog 22 #[.agg (i6 x.1), .agg (i6 y.1)] v fun e w' => e = .returned (.bool true) ∧ Below v.heap.size v w') := fun v hv => same_true v x y ((gX.out.below hv) x (List.mem_of_getElem? hx)) ((gY.out.below hv) y (List.mem_of_getElem? hy)) hxy
      have i1 := fun w => idxP (g := ga) (off := oa) (len := n) (cap := ca) Tryd.underlying22 (s := 6) (by kernel_rfl) .i64 j w hlt
      have i2 := fun w => idxP (g := gb) (off := ob) (len := n) (cap := cb) Tryd.underlying22 (s := 6) (by kernel_rfl) .i64 j w hlt
      have hji : (j : Int) < n := by omega
      have hlt' : Hid (j < n) := hlt
      clear hlt hx hy hxy ra rb
      go_wp2
      refine region_class_tail 8 (Below w.heap.size w) (by kernel_rfl) (by kernel_rfl) (U.out.trans (below_drew (Below.refl _ _))) ?_
      simp only [List.take_succ_cons, List.take_zero, List.drop_succ_cons, List.drop_zero]
      with_reducible refine quiet_one (.slice (some ⟨ga, oa, none⟩) n ca) ?_ ?_ ?_
      · kernel_rfl
      · intro u hy
        go_simp
      with_reducible refine quiet_one (.int .i64 (j : Int)) ?_ ?_ ?_
      · kernel_rfl
      · intro u hy
        go_simp
      with_reducible refine quiet_one (.pointer (some ⟨ga, oa + j * 6, none⟩)) ?_ ?_ ?_
      · kernel_rfl
      · intro u hy
        go_simp
      with_reducible refine quiet_one (.agg (i6 x.1)) ?_ ?_ ?_
      · kernel_rfl
      · intro u hy
        generalize hA : Act.put _ _ _ = A
        have e1 : A.eval (.tmp 20) = .pointer (some ⟨ga, oa + j * 6, none⟩) := by rw [← hA]; go_simp
        clear hA
        exact q_loadm (C := Below w.heap.size w) rt6 ga (oa + j * 6) (i6 x.1) (fun _ h => range_keep R1.out h) rfl (.tmp 20) rfl e1 u hy
      with_reducible refine quiet_one (.slice (some ⟨gb, ob, none⟩) n cb) ?_ ?_ ?_
      · kernel_rfl
      · intro u hy
        go_simp
      with_reducible refine quiet_one (.int .i64 (j : Int)) ?_ ?_ ?_
      · kernel_rfl
      · intro u hy
        go_simp
      with_reducible refine quiet_one (.pointer (some ⟨gb, ob + j * 6, none⟩)) ?_ ?_ ?_
      · kernel_rfl
      · intro u hy
        go_simp
      with_reducible refine quiet_one (.agg (i6 y.1)) ?_ ?_ ?_
      · kernel_rfl
      · intro u hy
        generalize hA : Act.put _ _ _ = A
        have e1 : A.eval (.tmp 24) = .pointer (some ⟨gb, ob + j * 6, none⟩) := by rw [← hA]; go_simp
        clear hA
        exact q_loadm (C := Below w.heap.size w) rt6 gb (ob + j * 6) (i6 y.1) (fun _ h => range_keep R2.out h) rfl (.tmp 24) rfl e1 u hy
      intro z1 hz1
      replace hz1 : Hid _ := hz1
      go_wp2_with (go_at_call 22; refine (hS.out z1 hz1.out).mono ?_; rintro e z2 ⟨rfl, H2⟩; have U2 : Hid (Below w.heap.size w z2) := hz1.out.trans (H2.mono hz1.out.size); clear H2)
      go_roundw
      case rel => exact ⟨j + 1, _, rfl, by simp, hlt'.out, U2⟩
      case measure => have := hlt'.out; simp [intOf]; omega
    · have hje : j = n := by have := J.out; omega
      subst hje
      clear hlt
      go_wp2
      go_ret
      exact ⟨rfl, U⟩

/-- The statements' own source. -/
def fadeB : ByteArray := ⟨#[102, 97, 100, 101]⟩
def taleR (b : Nat) : List Ri := [⟨4, ⟨#[]⟩, 512, ⟨#[]⟩, 0, none, 0, 0⟩, ⟨1, fadeB, 0, ⟨#[]⟩, 0, none, 0, 0⟩, ⟨2, ⟨#[76, 68, 73]⟩, 0, fadeB, 2, none, 0, 0⟩, ⟨2, ⟨#[66, 82]⟩, 171, ⟨#[]⟩, 0, none, 0, 0⟩, ⟨2, ⟨#[76, 66, 82]⟩, 0, fadeB, 1, none, 0, 0⟩, ⟨3, ⟨#[]⟩, 0, ⟨#[]⟩, 0, some ⟨b, 0, none⟩, 2, 2⟩, ⟨5, ⟨#[]⟩, 0, fadeB, 0, none, 0, 0⟩]
def taleB : List (List UInt8) := [[], [], [], [], [], [1, 254], []]
def taleX (b : Nat) : List Itm := (taleR b).zip taleB
def taleP : List Pu := [⟨4, ⟨#[]⟩, 512, ⟨#[]⟩, 0, []⟩, ⟨1, fadeB, 0, ⟨#[]⟩, 0, []⟩, ⟨2, ⟨#[76, 68, 73]⟩, 0, fadeB, 2, []⟩, ⟨2, ⟨#[66, 82]⟩, 171, ⟨#[]⟩, 0, []⟩, ⟨2, ⟨#[76, 66, 82]⟩, 0, fadeB, 1, []⟩, ⟨3, ⟨#[]⟩, 0, ⟨#[]⟩, 0, [1, 254]⟩, ⟨5, ⟨#[]⟩, 0, fadeB, 0, []⟩]
def taleT : ByteArray := ⟨#[32, 97, 116, 32, 48, 50, 48, 48, 10, 102, 97, 100, 101, 58, 10, 32, 76, 68, 73, 32, 104, 105, 103, 104, 32, 102, 97, 100, 101, 10, 32, 66, 82, 32, 97, 98, 10, 32, 76, 66, 82, 32, 116, 111, 32, 102, 97, 100, 101, 10, 32, 100, 97, 116, 97, 32, 48, 49, 32, 102, 101, 10, 32, 97, 100, 100, 114, 101, 115, 115, 32, 102, 97, 100, 101, 10]⟩
def wrongT : ByteArray := ⟨#[32, 78, 79, 80, 10, 78, 79, 80, 10]⟩
theorem tale_pu (b : Nat) : (taleX b).map pu = taleP := rfl
theorem tale_fst (b : Nat) : (taleX b).map (·.1) = taleR b := rfl
theorem tale_may : taleP.all mayP = true := by decide +kernel
theorem tale_text : printP taleP = strL taleT := by decide +kernel
theorem wrong_src : srcE wrongT = 131 ∧ srcN wrongT = 2 := by decide +kernel
theorem tale_src : srcE taleT = 0 ∧ srcN taleT = 0 ∧ srcL taleT = taleP := by
  have h := print_back (L := taleP) (fun q hq => List.all_eq_true.1 tale_may q hq) (by decide) (by rw [tale_text]; decide +kernel)
  rw [tale_text, mkB_strL] at h
  exact h
theorem tale_print (b : Nat) : printIE (taleX b) = 0 ∧ printIB (taleX b) = taleT := by
  have hm : ∀ x ∈ taleX b, x.2.length = x.1.m ∧ mayI x.1 = true := by
    have hall : ∀ x ∈ taleX b, x.2.length = x.1.m := by
      intro x hx
      simp [taleX, taleR, taleB] at hx
      rcases hx with rfl | rfl | rfl | rfl | rfl | rfl | rfl <;> rfl
    intro x hx
    refine ⟨hall x hx, ?_⟩
    rw [mayI_pu x (hall x hx)]
    exact List.all_eq_true.1 tale_may _ (by rw [← tale_pu b]; exact List.mem_map_of_mem hx)
  have hp : printL (taleX b) = strL taleT := by
    rw [← tale_text, ← tale_pu b]
    unfold printL printP
    rw [List.flatMap_map]
    congr 1
  have hc : checkE ((taleX b).map (·.1)) = 0 := by
    unfold checkE
    rw [if_neg (by rw [tale_fst]; show ¬ 4096 < 7; decide), if_neg]
    rw [badI_none]
    · simp
    · intro i hi
      rw [List.getElem_map]
      exact (hm _ (List.getElem_mem _)).2
  have hE : printIE (taleX b) = 0 := by
    unfold printIE
    rw [if_neg (by simpa using hc), hp, if_neg (by decide +kernel)]
  refine ⟨hE, ?_⟩
  unfold printIB
  rw [hE, if_pos rfl, hp]
  exact strL_mk taleT
theorem tale_any (w : World) : Calls Tryd.prog 19 #[] w fun e w' => e = .returned (.tuple #[.slice (some ⟨w.heap.size + 1, 0, none⟩) 7 7, .string taleT]) ∧ w' = (w.alloc (.cells #[.int .u8 1, .int .u8 254] 5)).alloc (.cells (rowL c6 (taleR w.heap.size)).toArray 39) := by
  go_enter Tryd.func19, Tryd.ntmps19
  go_wp2
  go_ret2
  exact ⟨rfl, rfl⟩
theorem row_lies {α : Type} {s t : Nat} {c : α → List Value} (hc : ∀ x, (c x).length = s) {y : World} {b : Nat} {l : List α} (h : Bx y b (rowL c l).toArray t) : LiesL s c y (some ⟨b, 0, none⟩) l := fun j a hj => ⟨b, 0, rfl, fun i v hv => by
  have hi : i < s := by have := (List.getElem?_eq_some_iff.1 hv).1; rw [hc] at this; exact this
  rw [Nat.zero_add]
  refine h.c (j * s + i) v ?_
  rw [List.getElem?_toArray, rowL_at hc l j i a hj hi]
  exact hv⟩
/-- Bytes that are owned lie where they say. -/
theorem own_lb {y : World} {B : Nat} {sp : Option Addr} {m cap : Nat} {b : List UInt8} (h : y.ownsRow B 5 1 (.slice sp m cap) b.length (b.map byV)) : LB8 y sp b ∧ b.length = m := by
  rcases h.2 with ⟨h0, hn⟩ | ⟨g, c, cur, hv, hB, hg, hr⟩
  · injection h0 with e1 e2 e3
    subst e1 e2
    have hb : b = [] := List.eq_nil_of_length_eq_zero hn
    subst hb
    exact ⟨fun j x hj => by simp at hj, rfl⟩
  · injection hv with e1 e2 e3
    subst e1
    refine ⟨fun j x hj => ⟨g, 0, rfl, ?_⟩, e2.symm⟩
    have := World.ownsRow.cells (g := g) h rfl j (byV x) (by simp [hj])
    rw [Addr.add_lit] at this
    exact this
theorem Pq.good {w y : World} {va : Value} {X : List Itm} {bs : List (Nat × Array Value × TypeId)} (h : Pq w va X bs y) : GoodL y X := fun x hx => by
  obtain ⟨i, hi, rfl⟩ := List.getElem_of_mem hx
  exact own_lb (h.byt i _ (List.getElem?_eq_getElem hi))
theorem Pq.lies {w y : World} {va : Value} {X : List Itm} {bs : List (Nat × Array Value × TypeId)} (h : Pq w va X bs y) : ∃ sp cap, va = .slice sp X.length cap ∧ LI y sp (X.map (·.1)) := by
  obtain ⟨sp, cap, e, hl, _⟩ := OwnL.open kItem.len h.own
  rw [List.length_map] at e
  exact ⟨sp, cap, e, hl⟩
theorem awake_any (w : World) (T : Hid (Tw w)) : Calls Tryd.prog 6 #[] w fun e w' => e = .returned (.bool true) ∧ Hid (Below w.heap.size w w') := by
  have hT := tale_any w
  obtain ⟨w1, hw1⟩ : ∃ w1, (w.alloc (.cells #[.int .u8 1, .int .u8 254] 5)).alloc (.cells (rowL c6 (taleR w.heap.size)).toArray 39) = w1 := ⟨_, rfl⟩
  have F1 : Fm w [(w.heap.size, #[.int .u8 1, .int .u8 254], 5), (w.heap.size + 1, (rowL c6 (taleR w.heap.size)).toArray, 39)] w1 := by rw [← hw1]; exact Fm.two w _ _ _ _
  rw [hw1] at hT
  have hLI : Hid (LI w1 (some ⟨w.heap.size + 1, 0, none⟩) ((taleX w.heap.size).map (·.1))) := by rw [tale_fst]; exact row_lies kItem.len (F1.bx 1 _ _ _ rfl)
  have hG : Hid (GoodL w1 (taleX w.heap.size)) := by
    intro x hx
    simp [taleX, taleR, taleB] at hx
    rcases hx with rfl | rfl | rfl | rfl | rfl | rfl | rfl
    case inr.inr.inr.inr.inr.inl =>
      refine ⟨fun j b hj => ⟨w.heap.size, 0, rfl, ?_⟩, rfl⟩
      rw [Nat.zero_add]
      refine (F1.bx 0 _ _ _ rfl).c j (byV b) ?_
      match j, hj with
      | 0, hj => simp at hj; subst hj; rfl
      | 1, hj => simp at hj; subst hj; rfl
      | j + 2, hj => simp at hj
    all_goals exact ⟨fun j b hj => by simp at hj, rfl⟩
  have hG2 : Hid (∀ x ∈ taleX w.heap.size, Good w1 x) := fun x hx => ⟨(hG.out x hx).1, (hG.out x hx).2, by
    simp [taleX, taleR, taleB] at hx
    rcases hx with rfl | rfl | rfl | rfl | rfl | rfl | rfl <;> simp⟩
  have hP := pprint_any w1 (some ⟨w.heap.size + 1, 0, none⟩) 7 (taleR w.heap.size) (taleX w.heap.size) (tale_fst w.heap.size).symm hLI (show 7 ≤ 9223372036854775807 by decide) hG2 (T.out.below F1.low)
  rw [(tale_print w.heap.size).1, (tale_print w.heap.size).2, show (taleR w.heap.size).length = 7 from rfl] at hP
  have hL1 : Hid (Below w.heap.size w w1) := F1.low
  have hp1 : Hid (∀ v, Below w.heap.size w v → Calls Tryd.prog 15 #[.string taleT] v fun e w' => ∃ va X, e = .returned (.tuple #[va, .int .i64 0, .int .i64 0]) ∧ Hid (Pq v va X [] w' ∧ X.map pu = taleP)) := fun v hv => by
    refine (pparse_any v (T.out.below hv) taleT (by decide +kernel)).mono ?_
    rintro e w' ⟨va, X, rfl, H⟩
    obtain ⟨e1, e2, e3⟩ := tale_src
    rw [e1, e2]
    rw [e3] at H
    exact ⟨va, X, rfl, H⟩
  have hp2 : Hid (∀ v, Below w.heap.size w v → Calls Tryd.prog 15 #[.string ⟨#[32, 78, 79, 80, 10, 78, 79, 80, 10]⟩] v fun e w' => ∃ va, e = .returned (.tuple #[va, .int .i64 131, .int .i64 2]) ∧ Hid (Below v.heap.size v w')) := fun v hv => by
    refine (pparse_any v (T.out.below hv) wrongT (by decide +kernel)).mono ?_
    rintro e w' ⟨va, X, rfl, H⟩
    rw [wrong_src.1, wrong_src.2]
    exact ⟨va, rfl, H.out.1.fm.low⟩
  obtain ⟨b, hb⟩ : ∃ b, w.heap.size = b := ⟨_, rfl⟩
  obtain ⟨TT, hTT⟩ : ∃ t, taleT = t := ⟨_, rfl⟩
  have q := str_eq (rfl : TT = TT)
  rw [hTT] at hT hP hp1
  clear hw1 F1 hb hTT
  go_enter Tryd.func6, Tryd.ntmps6
  go_wp2_with (first
    | (go_at_call 17; refine (sameItems_true y4 (some ⟨w.heap.size + 1, 0, none⟩) sp3 7 cap3 (taleX w.heap.size) X (hLI.out.below L4.out.1) (hl3.out.below L4.out.2) (hG.out.below L4.out.1) (g3.out.below L4.out.2) e3.out (show 7 ≤ 4294967296 by decide)).mono ?_; rintro e y5 ⟨rfl, H5⟩)
    | (go_at_call 15; refine (hp2.out y3 L3.out.2).mono ?_; rintro e y4 ⟨va4, rfl, H4⟩; have L4 : Hid (Below w1.heap.size w1 y4 ∧ Below y3.heap.size y3 y4) := ⟨L3.out.1.trans (H4.out.mono L3.out.1.size), H4.out⟩)
    | (go_at_call 15; refine (hp1.out y2 L2.out).mono ?_; rintro e y3 ⟨va3, X, rfl, H3⟩; obtain ⟨sp3, cap3, rfl, hl3⟩ := H3.out.1.lies; replace hl3 : Hid (LI y3 sp3 (X.map (·.1))) := hl3; have g3 : Hid (GoodL y3 X) := H3.out.1.good; have e3 : Hid ((taleX w.heap.size).map pu = X.map pu) := (by show _ = _; rw [tale_pu]; exact H3.out.2.symm); have L3 : Hid (Below w1.heap.size w1 y3 ∧ Below w.heap.size w y3) := ⟨H2.out.trans (H3.out.1.fm.low.mono H2.out.size), L2.out.trans (H3.out.1.fm.low.mono L2.out.size)⟩)
    | (go_at_call 13; refine hP.mono ?_; rintro e y2 ⟨rfl, H2⟩; have L2 : Hid (Below w.heap.size w y2) := hL1.out.trans (H2.out.mono hL1.out.size))
    | (go_at_call 19; refine hT.mono ?_; rintro e w1 ⟨rfl, rfl⟩))
  go_ret
  exact ⟨rfl, L3.out.2.trans ((L4.out.2.trans (H5.out.mono L4.out.2.size)).mono L3.out.2.size)⟩
end Go.Proofs.YtmaedkbmjbggpaaDoor
/- Items that were lent are as they were, and what is behind them. -/
namespace Go.Proofs.YtmaedkbmjbggpaaDoor
open Go Go.RowKit
set_option linter.unusedVariables false
set_option maxHeartbeats 1000000
set_option maxRecDepth 20000

theorem Lt0.good {g : Nat} {X : List Itm} {R : List Ri} {y : World} (h : Lt0 g X R y) : GoodL y X := fun x hx => by
  obtain ⟨i, hi⟩ := List.getElem?_of_mem hx
  obtain ⟨h1, h2, h3, h4⟩ := h.by_ i x hi
  refine ⟨fun j b hj => ⟨g + 1 + i, 0, h1, ?_⟩, h3⟩
  have := bxL_range kU.len h4 j b (by rw [List.getElem?_append_left (List.getElem?_eq_some_iff.1 hj).1]; exact hj) 0 (byV b) rfl
  simpa using this
theorem Lt0.byte {g : Nat} {X : List Itm} {R : List Ri} {y : World} (h : Lt0 g X R y) (i : Nat) (x : Itm) (hx : X[i]? = some x) (k : Nat) (b : UInt8) (hk : (x.2 ++ [162, 161])[k]? = some b) : y.cell? ⟨g + 1 + i, k, none⟩ = some (byV b) ∧ y.frozen? ⟨g + 1 + i, k, none⟩ = false := by
  obtain ⟨h1, h2, h3, h4⟩ := h.by_ i x hx
  refine ⟨?_, frozen_heap h4 _⟩
  have := bxL_range kU.len h4 k b hk 0 (byV b) rfl
  simpa using this
theorem Lt0.cell {g : Nat} {X : List Itm} {R : List Ri} {y : World} (h : Lt0 g X R y) (i : Nat) (r : Ri) (hr : (X.map (·.1) ++ R)[i]? = some r) (k : Nat) (u : Value) (hk : (c6 r)[k]? = some u) : y.cell? ⟨g, i * 6 + k, none⟩ = some u ∧ y.frozen? ⟨g, i * 6 + k, none⟩ = false := by
  refine ⟨?_, frozen_heap h.bx _⟩
  have := bxL_range kIt.len h.bx i r hr k u hk
  rw [Nat.zero_add] at this
  exact this
theorem kept_any (v : World) (g : Nat) (X : List Itm) (sp : Option Addr) (cap : Nat) (L : List Itm) (hT : Hid (Lt0 g X [m77, m78] v)) (hl : Hid (LI v sp (L.map (·.1)) ∧ GoodL v L)) (he : Hid (X.map pu = L.map pu)) (hn : L.length ≤ 8388608) (hm : Hid (∀ x ∈ L, x.1.m ≤ 134217728)) :
    Calls Tryd.prog 11 #[.slice (some ⟨g, 0, none⟩) X.length (X.length + 2), .slice sp L.length cap] v fun e w' => e = .returned (.bool true) ∧ Hid (Below v.heap.size v w') := by
  have hxl : X.length = L.length := by have := congrArg List.length he.out; simpa using this
  obtain ⟨n, hn'⟩ : ∃ n, L.length = n := ⟨_, rfl⟩
  have hnn : Hid (L.length = n ∧ X.length = n) := ⟨hn', by omega⟩
  rw [hxl]
  rw [hn'] at hn ⊢
  have ni : (n : Int) ≤ 8388608 := by omega
  have hml : Hid ((X.map (·.1)).length = n) := by show _ = _; rw [List.length_map]; exact hnn.out.2
  have q0 := (hT.out.cell n m77 (by rw [List.getElem?_append_right (by rw [hml.out]; exact Nat.le_refl _), hml.out, Nat.sub_self]; rfl) 0 (.int .u8 77) rfl).1
  have q5 := (hT.out.cell n m77 (by rw [List.getElem?_append_right (by rw [hml.out]; exact Nat.le_refl _), hml.out, Nat.sub_self]; rfl) 5 (.slice none 0 0) rfl).1
  have q1 := (hT.out.cell (n + 1) m78 (by rw [List.getElem?_append_right (by rw [hml.out]; omega), hml.out, show n + 1 - n = 1 by omega]; rfl) 0 (.int .u8 78) rfl).1
  rw [Nat.add_zero] at q0 q1
  have i0 : Hid (∀ (j : Nat), j < n + 2 → ∀ w, (Instr.indexAt 22 (.slice (some ⟨g, 0, none⟩) (n + 2) (n + 2)) (.int .i64 (j : Int))).run Tryd.prog w = .ok (.pointer (some ⟨g, j * 6, none⟩)) w) := fun j hj w => by
    have := idxP (P := Tryd.prog) (g := g) (off := 0) (len := n + 2) (cap := n + 2) Tryd.underlying22 (s := 6) (by kernel_rfl) .i64 j w hj
    rw [Nat.zero_add] at this
    exact this
  have ia := i0.out n (by omega)
  have ib := i0.out (n + 1) (by omega)
  rw [show ((n + 1 : Nat) : Int) = (n : Int) + 1 by omega] at ib
  clear hn hn' hxl
  go_enter Tryd.func11, Tryd.ntmps11
  go_wp2
  go_loopw [7, 8] (fun o t wz => ∃ (j : Nat) (z : World), z = wz ∧ o = .bool true ∧ t = .int .i64 (j : Int) ∧ Hid (j ≤ n) ∧ Hid (Below v.heap.size v z)) (fun _ t _ => (n - intOf t).toNat)
  case atStart => exact ⟨0, v, rfl, rfl, rfl, Nat.zero_le _, Below.refl _ _⟩
  case round =>
    obtain ⟨j, z, rfl, rfl, rfl, J, U⟩ := hrel
    clear q0 q1 q5 ia ib
    by_cases hlt : j < n
    · obtain ⟨x, hx⟩ : ∃ x, X[j]? = some x := ⟨_, List.getElem?_eq_getElem (by rw [hnn.out.2]; exact hlt)⟩
      obtain ⟨y, hy⟩ : ∃ y, L[j]? = some y := ⟨_, List.getElem?_eq_getElem (by rw [hnn.out.1]; exact hlt)⟩
      have hxr : (X.map (·.1) ++ [m77, m78])[j]? = some x.1 := by rw [List.getElem?_append_left (by rw [hml.out]; exact hlt), List.getElem?_map, hx]; rfl
      obtain ⟨gb, ob, rfl, rb⟩ := hl.out.1 j y.1 (by rw [List.getElem?_map, hy]; rfl)
      have hxy : pu x = pu y := by
        have h := congrArg (fun l : List Pu => l[j]?) he.out
        simp only [List.getElem?_map, hx, hy] at h
        simpa using h
      obtain ⟨x1, x2, x3, x4⟩ := hT.out.by_ j x hx
      have y3 := (hl.out.2 y (List.mem_of_getElem? hy)).2
      have hb : x.2 = y.2 := congrArg Pu.b hxy
      have hmm : x.1.m = y.1.m := by rw [← x3, ← y3, hb]
      have hmy := hm.out y (List.mem_of_getElem? hy)
      have R1 : Hid (v.rangeAt g (j * 6) (i6 x.1).toList) := fun k u hu => (hT.out.cell j x.1 hxr k u hu).1
      have R2 : Hid (v.rangeAt gb (ob + j * 6) (i6 y.1).toList) := rb
      have hS : Hid (∀ u, Below v.heap.size v u → Calls Tryd.prog 22 #[.agg (i6 x.1), .agg (i6 y.1)] u fun e w' => e = .returned (.bool true) ∧ Below u.heap.size u w') := fun u hu => same_true u x y ((hT.out.good.below hu) x (List.mem_of_getElem? hx)) ((hl.out.2.below hu) y (List.mem_of_getElem? hy)) hxy
      have hC : Hid (∀ u, Below v.heap.size v u → u.cell? ⟨g, j * 6 + 5, none⟩ = some (.slice (some ⟨g + 1 + j, 0, none⟩) y.1.m (y.1.m + 2)) ∧ u.cell? ⟨gb, ob + j * 6 + 5, none⟩ = some (.slice y.1.sp y.1.m y.1.cap) ∧ u.cell? ⟨g + 1 + j, y.1.m + 1, none⟩ = some (.int .u8 161) ∧ u.cell? ⟨g + 1 + j, y.1.m, none⟩ = some (.int .u8 162)) := fun u hu => by
        have hTu := hT.out.below hu
        have k1 := (hTu.cell j x.1 hxr 5 (.slice x.1.sp x.1.m x.1.cap) rfl).1
        rw [x1, x2, hmm] at k1
        refine ⟨k1, range_keep rb hu 5 _ rfl, ?_, ?_⟩
        · exact (hTu.byte j x hx (y.1.m + 1) 161 (by rw [List.getElem?_append_right (by omega), show y.1.m + 1 - x.2.length = 1 by omega]; rfl)).1
        · exact (hTu.byte j x hx y.1.m 162 (by rw [List.getElem?_append_right (by omega), show y.1.m - x.2.length = 0 by omega]; rfl)).1
      have ij := i0.out j (by omega)
      have i2 := fun w => idxP (P := Tryd.prog) (g := gb) (off := ob) (len := n) (cap := cap) Tryd.underlying22 (s := 6) (by kernel_rfl) .i64 j w hlt
      obtain ⟨m, hm'⟩ : ∃ m, y.1.m = m := ⟨_, rfl⟩
      rw [hm'] at hC hmy
      have mi : (m : Int) ≤ 134217728 := by omega
      have ix : ∀ (q : Nat), q < m + 2 → ∀ w, (Instr.indexAt 37 (.slice (some ⟨g + 1 + j, 0, none⟩) (m + 2) (m + 2)) (.int .i64 (q : Int))).run Tryd.prog w = .ok (.pointer (some ⟨g + 1 + j, q, none⟩)) w := fun q hq w => by
        have := idxP (P := Tryd.prog) (g := g + 1 + j) (off := 0) (len := m + 2) (cap := m + 2) Tryd.underlying37 (s := 1) (by kernel_rfl) .i64 q w hq
        rw [Nat.zero_add, Nat.mul_one] at this
        exact this
      have ix0 := ix m (by omega)
      have ix1 := ix (m + 1) (by omega)
      rw [show ((m + 1 : Nat) : Int) = (m : Int) + 1 by omega] at ix1
      have hji : (j : Int) < n := by omega
      have hlt' : Hid (j < n) := hlt
      clear hlt hx hy hxy rb hxr x1 x2 x3 x4 y3 hb hmm hmy ix
      go_wp2
      refine region_class_tail 8 (Below v.heap.size v) (by kernel_rfl) (by kernel_rfl) (U.out.trans (below_drew (Below.refl _ _))) ?_
      simp only [List.take_succ_cons, List.take_zero, List.drop_succ_cons, List.drop_zero]
      with_reducible refine quiet_one (.slice (some ⟨g, 0, none⟩) (n + 2) (n + 2)) ?_ ?_ ?_
      · kernel_rfl
      · intro u hy
        go_simp
      with_reducible refine quiet_one (.int .i64 (j : Int)) ?_ ?_ ?_
      · kernel_rfl
      · intro u hy
        go_simp
      with_reducible refine quiet_one (.pointer (some ⟨g, j * 6, none⟩)) ?_ ?_ ?_
      · kernel_rfl
      · intro u hy
        go_simp
      with_reducible refine quiet_one (.agg (i6 x.1)) ?_ ?_ ?_
      · kernel_rfl
      · intro u hy
        generalize hA : Act.put _ _ _ = A
        have e1 : A.eval (.tmp 49) = .pointer (some ⟨g, j * 6, none⟩) := by rw [← hA]; go_simp
        clear hA
        exact q_loadm (C := Below v.heap.size v) rt6 g (j * 6) (i6 x.1) (fun _ h => range_keep R1.out h) rfl (.tmp 49) rfl e1 u hy
      with_reducible refine quiet_one (.slice (some ⟨gb, ob, none⟩) n cap) ?_ ?_ ?_
      · kernel_rfl
      · intro u hy
        go_simp
      with_reducible refine quiet_one (.int .i64 (j : Int)) ?_ ?_ ?_
      · kernel_rfl
      · intro u hy
        go_simp
      with_reducible refine quiet_one (.pointer (some ⟨gb, ob + j * 6, none⟩)) ?_ ?_ ?_
      · kernel_rfl
      · intro u hy
        go_simp
      with_reducible refine quiet_one (.agg (i6 y.1)) ?_ ?_ ?_
      · kernel_rfl
      · intro u hy
        generalize hA : Act.put _ _ _ = A
        have e1 : A.eval (.tmp 53) = .pointer (some ⟨gb, ob + j * 6, none⟩) := by rw [← hA]; go_simp
        clear hA
        exact q_loadm (C := Below v.heap.size v) rt6 gb (ob + j * 6) (i6 y.1) (fun _ h => range_keep R2.out h) rfl (.tmp 53) rfl e1 u hy
      intro z1 hz1
      replace hz1 : Hid _ := hz1
      go_wp2_with (go_at_call 22; refine (hS.out z1 hz1.out).mono ?_; rintro e z2 ⟨rfl, H2⟩; have U2 : Hid (Below v.heap.size v z2) := hz1.out.trans (H2.mono hz1.out.size); clear H2; obtain ⟨d1, d2, d3, d4⟩ := hC.out z2 U2.out)
      go_roundw
      case rel => exact ⟨j + 1, _, rfl, by first | rfl | simp, by simp, hlt'.out, U2⟩
      case measure => have := hlt'.out; simp [intOf]; omega
    · have hje : j = n := by have := J.out; omega
      subst hje
      clear hlt
      go_wp2
      go_ret
      exact ⟨rfl, U⟩
end Go.Proofs.YtmaedkbmjbggpaaDoor
/- Items that were lent and are written into by their owner. -/
namespace Go.Proofs.YtmaedkbmjbggpaaDoor
open Go Go.RowKit
set_option linter.unusedVariables false
set_option maxHeartbeats 1000000
set_option maxRecDepth 20000

theorem Lt0.setByte {g : Nat} {Y : List Itm} {R : List Ri} {z : World} (h : Lt0 g Y R z) (i : Nat) (y : Itm) (hy : Y[i]? = some y) (k : Nat) (hk : k < y.2.length) (b : UInt8) : Lt0 g (Y.set i (y.1, y.2.set k b)) R (z.setCell ⟨g + 1 + i, k, none⟩ (byV b)) := by
  have hil := (List.getElem?_eq_some_iff.1 hy).1
  have e : (Y.set i (y.1, y.2.set k b)).map (·.1) = Y.map (·.1) := by
    rw [List.map_set]
    apply List.ext_getElem?
    intro q
    rw [List.getElem?_set]
    split
    · rename_i hq
      subst hq
      simp [hil]
      rw [List.getElem?_eq_some_iff] at hy
      obtain ⟨_, hy⟩ := hy
      rw [hy]
    · rfl
  refine ⟨?_, fun q x hx => ?_⟩
  · rw [e]
    exact (heap_setCell_other z ⟨g + 1 + i, k, none⟩ g _ (by show g ≠ g + 1 + i; omega)).trans h.bx
  · rw [List.getElem?_set] at hx
    split at hx
    · rename_i hq
      subst hq
      cases hx
      obtain ⟨h1, h2, h3, h4⟩ := h.by_ i y hy
      refine ⟨h1, h2, by rw [List.length_set]; exact h3, ?_⟩
      have := (BxL.setOne (t := 5) kU.len h4 k 0 ((y.2 ++ [162, 161])[k]'(by simp; omega)) b (byV b) (List.getElem?_eq_getElem _) (by decide) rfl).1
      rw [Nat.mul_one, Nat.add_zero, List.set_append_left _ _ hk] at this
      exact this
    · rename_i hq
      obtain ⟨h1, h2, h3, h4⟩ := h.by_ q x hx
      exact ⟨h1, h2, h3, (heap_setCell_other z ⟨g + 1 + i, k, none⟩ _ _ (by show g + 1 + q ≠ g + 1 + i; omega)).trans h4⟩
theorem Lt0.setLab {g : Nat} {Y : List Itm} {R : List Ri} {z : World} (h : Lt0 g Y R z) (i : Nat) (y : Itm) (hy : Y[i]? = some y) (t : ByteArray) : Lt0 g (Y.set i ({ y.1 with l := t }, y.2)) R (z.setCell ⟨g, i * 6 + 3, none⟩ (.string t)) := by
  have hil := (List.getElem?_eq_some_iff.1 hy).1
  have hr : (Y.map (·.1) ++ R)[i]? = some y.1 := by rw [List.getElem?_append_left (by simpa using hil), List.getElem?_map, hy]; rfl
  refine ⟨?_, fun q x hx => ?_⟩
  · have := (BxL.setOne kIt.len h.bx i 3 y.1 { y.1 with l := t } (.string t) hr (by decide) rfl).1
    rw [List.set_append_left _ _ (by simpa using hil)] at this
    rw [List.map_set]
    exact this
  · rw [List.getElem?_set] at hx
    split at hx
    · rename_i hq
      subst hq
      cases hx
      obtain ⟨h1, h2, h3, h4⟩ := h.by_ i y hy
      exact ⟨h1, h2, h3, (heap_setCell_other z ⟨g, i * 6 + 3, none⟩ _ _ (by show g + 1 + i ≠ g; omega)).trans h4⟩
    · obtain ⟨h1, h2, h3, h4⟩ := h.by_ q x hx
      exact ⟨h1, h2, h3, (heap_setCell_other z ⟨g, i * 6 + 3, none⟩ _ _ (by show g + 1 + q ≠ g; omega)).trans h4⟩
/-- Where writing has come to. -/
structure Tn (w : World) (g n : Nat) (R : List Ri) (Y : List Itm) (z : World) : Prop where
  lt : Lt0 g Y R z
  len : Y.length = n
  low : Below w.heap.size w z
  a : ∀ x ∈ Y, x.1.a ≤ 9223372036854775807
  m : ∀ x ∈ Y, x.1.m ≤ 134217728
theorem Tn.byte {w : World} {g n : Nat} {R : List Ri} {Y : List Itm} {z : World} (h : Tn w g n R Y z) (hg : w.heap.size ≤ g) (i : Nat) (y : Itm) (hy : Y[i]? = some y) (k : Nat) (hk : k < y.2.length) (b : UInt8) : Tn w g n R (Y.set i (y.1, y.2.set k b)) (z.setCell ⟨g + 1 + i, k, none⟩ (byV b)) := by
  refine ⟨h.lt.setByte i y hy k hk b, by rw [List.length_set]; exact h.len, h.low.trans ((Below.refl _ _).setCell (p := ⟨g + 1 + i, k, none⟩) (by show w.heap.size ≤ g + 1 + i; omega) _), fun x hx => ?_, fun x hx => ?_⟩
  · rcases List.mem_or_eq_of_mem_set hx with h1 | rfl
    · exact h.a x h1
    · exact h.a y (List.mem_of_getElem? hy)
  · rcases List.mem_or_eq_of_mem_set hx with h1 | rfl
    · exact h.m x h1
    · exact h.m y (List.mem_of_getElem? hy)
theorem Tn.lab {w : World} {g n : Nat} {R : List Ri} {Y : List Itm} {z : World} (h : Tn w g n R Y z) (hg : w.heap.size ≤ g) (i : Nat) (y : Itm) (hy : Y[i]? = some y) (t : ByteArray) : Tn w g n R (Y.set i ({ y.1 with l := t }, y.2)) (z.setCell ⟨g, i * 6 + 3, none⟩ (.string t)) := by
  refine ⟨h.lt.setLab i y hy t, by rw [List.length_set]; exact h.len, h.low.trans ((Below.refl _ _).setCell (p := ⟨g, i * 6 + 3, none⟩) hg _), fun x hx => ?_, fun x hx => ?_⟩
  · rcases List.mem_or_eq_of_mem_set hx with h1 | rfl
    · exact h.a x h1
    · exact h.a y (List.mem_of_getElem? hy)
  · rcases List.mem_or_eq_of_mem_set hx with h1 | rfl
    · exact h.m x h1
    · exact h.m y (List.mem_of_getElem? hy)
theorem xorU (b : UInt8) : ∃ b' : UInt8, bits .xor .u8 (b.toNat : Int) 255 = (b'.toNat : Int) := by
  have h : ∀ n : Nat, n < 256 → 0 ≤ bits .xor .u8 (n : Int) 255 ∧ bits .xor .u8 (n : Int) 255 < 256 := by decide +kernel
  obtain ⟨h1, h2⟩ := h b.toNat (UInt8.toNat_lt b)
  refine ⟨UInt8.ofNat (bits .xor .u8 (b.toNat : Int) 255).toNat, ?_⟩
  have e : (UInt8.ofNat (bits .xor .u8 (b.toNat : Int) 255).toNat).toNat = (bits .xor .u8 (b.toNat : Int) 255).toNat := by
    rw [UInt8.toNat_ofNat']
    exact Nat.mod_eq_of_lt (by omega)
  rw [e]
  omega
theorem turns_any (w v : World) (g : Nat) (R : List Ri) (X : List Itm) (hg : Hid (w.heap.size ≤ g)) (hT : Hid (Tn w g X.length R X v)) (hR : Hid (R.length = 2)) (hn : X.length ≤ 8388608) :
    Calls Tryd.prog 12 #[.slice (some ⟨g, 0, none⟩) X.length (X.length + 2)] v fun e w' => e = .returned (.tuple #[]) ∧ Hid (∃ Y : List Itm, Tn w g X.length R Y w') := by
  obtain ⟨n, hn'⟩ : ∃ n, X.length = n := ⟨_, rfl⟩
  rw [hn'] at hT hn ⊢
  have ni : (n : Int) ≤ 8388608 := by omega
  have i0 : Hid (∀ (j : Nat), j < n → ∀ w, (Instr.indexAt 22 (.slice (some ⟨g, 0, none⟩) n (n + 2)) (.int .i64 (j : Int))).run Tryd.prog w = .ok (.pointer (some ⟨g, j * 6, none⟩)) w) := fun j hj w => by
    have := idxP (P := Tryd.prog) (g := g) (off := 0) (len := n) (cap := n + 2) Tryd.underlying22 (s := 6) (by kernel_rfl) .i64 j w hj
    rw [Nat.zero_add] at this
    exact this
  clear hn hn'
  go_enter Tryd.func12, Tryd.ntmps12
  go_wp2
  go_loopw [2] (fun t wz => ∃ (j : Nat) (Y : List Itm) (z : World), z = wz ∧ t = .int .i64 (j : Int) ∧ Hid (j ≤ n) ∧ Hid (Tn w g n R Y z)) (fun t _ => (n - intOf t).toNat)
  case atStart => exact ⟨0, X, _, rfl, rfl, Nat.zero_le _, hT⟩
  case round =>
    obtain ⟨j, Y, z, rfl, rfl, J, K⟩ := hrel
    clear hT
    by_cases hlt : j < n
    · have ij := i0.out j hlt
      have hji : (j : Int) < n := by omega
      have hlt' : Hid (j < n) := hlt
      obtain ⟨y0, hy0⟩ : ∃ y, Y[j]? = some y := ⟨_, List.getElem?_eq_getElem (by rw [K.out.len]; exact hlt)⟩
      obtain ⟨m, hm⟩ : ∃ m, y0.1.m = m := ⟨_, rfl⟩
      have mi : (m : Int) ≤ 134217728 := by have := K.out.m y0 (List.mem_of_getElem? hy0); omega
      have H0 : Hid (∃ y, Y[j]? = some y ∧ y.1.m = m) := ⟨y0, hy0, hm⟩
      have hC : Hid (∀ Y u, Tn w g n R Y u → (∃ y, Y[j]? = some y ∧ y.1.m = m) → u.cell? ⟨g, j * 6 + 5, none⟩ = some (.slice (some ⟨g + 1 + j, 0, none⟩) m (m + 2))) := fun Y u hu ⟨y, h1, h2⟩ => by
        obtain ⟨x1, x2, x3, x4⟩ := hu.lt.by_ j y h1
        have hr : (Y.map (·.1) ++ R)[j]? = some y.1 := by rw [List.getElem?_append_left (by rw [List.length_map, hu.len]; exact hlt), List.getElem?_map, h1]; rfl
        have := (hu.lt.cell j y.1 hr 5 (.slice y.1.sp y.1.m y.1.cap) rfl).1
        rw [x1, x2, h2] at this
        exact this
      have hD : Hid (∀ Y u, Tn w g n R Y u → (∃ y, Y[j]? = some y ∧ y.1.m = m) → ∃ lb, u.cell? ⟨g, j * 6 + 3, none⟩ = some (.string lb) ∧ u.frozen? ⟨g, j * 6 + 3, none⟩ = false ∧ ∀ t, ∃ Y', Tn w g n R Y' (u.setCell ⟨g, j * 6 + 3, none⟩ (.string t))) := fun Y u hu ⟨y, h1, h2⟩ => by
        have hr : (Y.map (·.1) ++ R)[j]? = some y.1 := by rw [List.getElem?_append_left (by rw [List.length_map, hu.len]; exact hlt), List.getElem?_map, h1]; rfl
        obtain ⟨a1, a2⟩ := hu.lt.cell j y.1 hr 3 (.string y.1.l) rfl
        exact ⟨y.1.l, a1, a2, fun t => ⟨_, hu.lab hg.out j y h1 t⟩⟩
      have hE : Hid (∀ Y u k, k < m → Tn w g n R Y u → (∃ y, Y[j]? = some y ∧ y.1.m = m) → ∃ b : UInt8, u.cell? ⟨g + 1 + j, k, none⟩ = some (.int .u8 (b.toNat : Int)) ∧ u.frozen? ⟨g + 1 + j, k, none⟩ = false ∧ ∃ Y', (∃ y, Y'[j]? = some y ∧ y.1.m = m) ∧ Tn w g n R Y' (u.setCell ⟨g + 1 + j, k, none⟩ (.int .u8 (bits .xor .u8 (b.toNat : Int) 255)))) := fun Y u k hk hu ⟨y, h1, h2⟩ => by
        obtain ⟨x1, x2, x3, x4⟩ := hu.lt.by_ j y h1
        have hk2 : k < y.2.length := by omega
        have hk3 : (y.2 ++ [162, 161])[k]? = some y.2[k] := by rw [List.getElem?_append_left hk2]; exact List.getElem?_eq_getElem hk2
        obtain ⟨a1, a2⟩ := hu.lt.byte j y h1 k _ hk3
        obtain ⟨b', hb'⟩ := xorU y.2[k]
        refine ⟨y.2[k], a1, a2, Y.set j (y.1, y.2.set k b'), ⟨(y.1, y.2.set k b'), ?_, h2⟩, ?_⟩
        · rw [List.getElem?_set_self (by rw [hu.len]; exact hlt)]
        · rw [hb']
          exact hu.byte hg.out j y h1 k hk2 b'
      have ixb : Hid (∀ (q : Nat), q < m → ∀ w, (Instr.indexAt 37 (.slice (some ⟨g + 1 + j, 0, none⟩) m (m + 2)) (.int .i64 (q : Int))).run Tryd.prog w = .ok (.pointer (some ⟨g + 1 + j, q, none⟩)) w) := fun q hq w => by
        have := idxP (P := Tryd.prog) (g := g + 1 + j) (off := 0) (len := m) (cap := m + 2) Tryd.underlying37 (s := 1) (by kernel_rfl) .i64 q w hq
        rw [Nat.zero_add, Nat.mul_one] at this
        exact this
      clear hlt hy0 hm i0 J
      go_wp2
      go_loopw [3] (fun t wz => ∃ (k : Nat) (Y : List Itm) (z : World), z = wz ∧ t = .int .i64 (k : Int) ∧ Hid (k ≤ m ∧ ∃ y, Y[j]? = some y ∧ y.1.m = m) ∧ Hid (Tn w g n R Y z)) (fun t _ => (m - intOf t).toNat)
      case atStart => exact ⟨0, Y, _, rfl, rfl, ⟨Nat.zero_le _, H0.out⟩, K⟩
      case round =>
        obtain ⟨k, Y, z, rfl, rfl, J, K⟩ := hrel
        have d5 := hC.out Y z K.out J.out.2
        by_cases hk : k < m
        · obtain ⟨b, e1, e2, Y', e3, e4⟩ := hE.out Y z k hk K.out J.out.2
          have ik := ixb.out k hk
          have hki : (k : Int) < m := by omega
          have hk' : Hid (k < m) := hk
          have b0 : (b.toNat : Int) < 256 := by have := b.toNat_lt; omega
          replace e3 : Hid _ := e3
          replace e4 : Hid _ := e4
          clear hk
          go_wp2_with ((with_reducible refine gen_world (z.setCell ⟨g + 1 + j, k, none⟩ (.int .u8 (bits .xor .u8 (b.toNat : Int) 255))) (Tn w g n R Y') e4.out ?_); intro y1 K1)
          go_roundw
          case rel => exact ⟨k + 1, Y', _, rfl, by simp, ⟨hk'.out, e3.out⟩, K1⟩
          case measure => have := hk'.out; simp [intOf]; omega
        · have hke : k = m := by have := J.out.1; omega
          subst hke
          obtain ⟨lb, e1, e2, e3⟩ := hD.out Y z K.out J.out.2
          replace e3 : Hid _ := e3
          clear hk
          by_cases hlb : lb.toList.isEmpty = true
          · have hq : (lb.toList != []) = false := by rw [List.isEmpty_iff] at hlb; rw [hlb]; rfl
            go_wp2
            go_roundw
            case rel => exact ⟨j + 1, Y, _, rfl, by simp, hlt'.out, K⟩
            case measure => have := hlt'.out; simp [intOf]; omega
          · have hlb' : lb.toList.isEmpty = false := by simpa using hlb
            obtain ⟨Y', e4⟩ := e3.out ⟨#[116, 117, 114, 110, 101, 100]⟩
            replace e4 : Hid _ := e4
            clear hlb
            go_wp2_with ((with_reducible refine gen_world (z.setCell ⟨g, j * 6 + 3, none⟩ (.string ⟨#[116, 117, 114, 110, 101, 100]⟩)) (Tn w g n R Y') e4.out ?_); intro y1 K1)
            go_roundw
            case rel => exact ⟨j + 1, Y', _, rfl, by simp, hlt'.out, K1⟩
            case measure => have := hlt'.out; simp [intOf]; omega
    · have hje : j = n := by have := J.out; omega
      subst hje
      clear hlt
      go_wp2
      go_end0
      exact ⟨rfl, Y, K.out⟩
end Go.Proofs.YtmaedkbmjbggpaaDoor
/- What is printed of items and read again: the pure part. -/
namespace Go.Proofs.YtmaedkbmjbggpaaDoor
open Go Go.RowKit
set_option linter.unusedVariables false
set_option maxHeartbeats 1000000
set_option maxRecDepth 20000

/-- The lengths that items say are their bytes'. -/
def Lens (X : List Itm) : Prop := ∀ x ∈ X, x.2.length = x.1.m
theorem GoodL.lens {w : World} {X : List Itm} (h : GoodL w X) : Lens X := fun x hx => (h x hx).2
theorem printL_pu : ∀ (X : List Itm), Lens X → printL X = printP (X.map pu)
  | [], _ => rfl
  | x :: X, h => by
    show strL (lineI x.1 x.2) ++ [10] ++ printL X = strL (lineP (pu x)) ++ [10] ++ printP (X.map pu)
    rw [lineI_pu x (h x (by simp)), printL_pu X (fun y hy => h y (by simp [hy]))]
def allP (Q : List Pu) : Bool := Q.all mayP
theorem may_all {X : List Itm} (h : Lens X) : (∀ r ∈ X.map (·.1), mayI r = true) ↔ allP (X.map pu) = true := by
  unfold allP
  rw [List.all_eq_true]
  constructor
  · intro k q hq
    obtain ⟨x, hx, rfl⟩ := List.mem_map.1 hq
    rw [← mayI_pu x (h x hx)]
    exact k _ (List.mem_map_of_mem hx)
  · intro k r hr
    obtain ⟨x, hx, rfl⟩ := List.mem_map.1 hr
    rw [mayI_pu x (h x hx)]
    exact k _ (List.mem_map_of_mem hx)
theorem ie_ok {X : List Itm} (h : Lens X) (e : printIE X = 0) : allP (X.map pu) = true ∧ X.length ≤ 4096 ∧ (printP (X.map pu)).length ≤ 65536 ∧ printIB X = mkB (printP (X.map pu)) := by
  have e' := e
  unfold printIE at e
  split at e
  · rename_i hc
    exact absurd e hc
  · rename_i hc
    split at e
    · cases e
    · rename_i hl
      have hc0 : checkE (X.map (·.1)) = 0 := Decidable.not_not.1 hc
      obtain ⟨k1, k2⟩ := checkE_ok hc0
      rw [List.length_map] at k1
      rw [printL_pu X h] at hl
      refine ⟨(may_all h).1 k2, k1, by omega, ?_⟩
      unfold printIB
      rw [if_pos e', printL_pu X h]
      rfl
theorem ib_no {X : List Itm} (e : ¬ printIE X = 0) : printIB X = ⟨#[]⟩ := by unfold printIB; rw [if_neg e]
/-- What is printed is read as it was. -/
theorem back_one {X : List Itm} (h : Lens X) (e : printIE X = 0) : srcE (printIB X) = 0 ∧ srcN (printIB X) = 0 ∧ srcL (printIB X) = X.map pu := by
  obtain ⟨k1, k2, k3, k4⟩ := ie_ok h e
  rw [k4]
  exact print_back (fun q hq => List.all_eq_true.1 k1 q hq) (by rw [List.length_map]; exact k2) k3
theorem check_good {l : List Ri} (h : ∀ r ∈ l, mayI r = true) (hn : l.length ≤ 4096) : checkE l = 0 := by
  unfold checkE
  have e : badI l = none := by
    unfold badI
    rw [List.findIdx?_eq_none_iff]
    intro r hr
    rw [h r hr]
    rfl
  rw [if_neg (by omega), e]
  rfl
theorem lay_small (i : Nat) : lay i ≤ 65535 := by
  have h : ∀ x ∈ layL, x ≤ 65535 := by decide
  unfold lay
  rw [List.getD_eq_getElem?_getD]
  rcases hx : layL[i]? with _ | x
  · exact Nat.zero_le _
  · exact h x (List.mem_of_getElem? hx)
/-- A number that an item may hold is small. -/
theorem may_small {q : Pu} (h : mayP q = true) : q.a ≤ 9223372036854775807 := by
  rcases may_cases h with ⟨_, _, e, _⟩ | ⟨_, _, n, _, ⟨_, _, hm⟩ | ⟨_, _, e, _⟩⟩ | ⟨_, _, e, _⟩ | ⟨_, _, _, _, _, _, e⟩ | ⟨_, _, _, e, _⟩
  · omega
  · have hb : (lay (fm n * 3 + 2) : Nat) ≤ 65535 := lay_small _
    have := hm.2
    omega
  · omega
  · omega
  · omega
  · omega
theorem ie_pu {X : List Itm} (h : Lens X) (hm : allP (X.map pu) = true) (hn : X.length ≤ 4096) : printIE X = if 65536 < (printP (X.map pu)).length then 2 else 0 := by
  unfold printIE
  rw [check_good ((may_all h).2 hm) (by rw [List.length_map]; exact hn), printL_pu X h]
  simp
end Go.Proofs.YtmaedkbmjbggpaaDoor
/- What is printed of items is read as these; what a text says, printed and read, is the same: the statement's walk. -/
namespace Go.Proofs.YtmaedkbmjbggpaaDoor
open Go Go.RowKit
set_option linter.unusedVariables false
set_option maxHeartbeats 3000000
set_option maxRecDepth 20000

/-- A list of items that came out, or came in. -/
structure Lv (y : World) (sp : Option Addr) (X : List Itm) : Prop where
  l : LI y sp (X.map (·.1))
  g : GoodL y X
  a : ∀ x ∈ X, x.1.a ≤ 9223372036854775807
theorem Lv.below {y z : World} {sp : Option Addr} {X : List Itm} (h : Lv y sp X) (hb : Below y.heap.size y z) : Lv z sp X := ⟨h.l.below hb, h.g.below hb, h.a⟩
theorem lv_print (y : World) (sp : Option Addr) (cap : Nat) (X : List Itm) (h : Hid (Lv y sp X)) (hn : X.length ≤ 9223372036854775807) (T : Hid (Tw y)) : Calls Tryd.prog 13 #[.slice sp X.length cap] y fun e w' => e = .returned (.tuple #[.string (printIB X), .int .i64 (printIE X)]) ∧ Hid (Below y.heap.size y w') := by
  have hX : Hid (X.map (fun x : Itm => x.1) = X.map (·.1)) := rfl
  have hP := pprint_any y sp cap (X.map fun x : Itm => x.1) X hX h.out.l (by rw [List.length_map]; exact hn) (fun x hx => ⟨(h.out.g x hx).1, (h.out.g x hx).2, h.out.a x hx⟩) T
  rw [List.length_map] at hP
  exact hP
theorem lv_parse (y : World) (t : ByteArray) (ht : t.size ≤ 9223372036854775807) (T : Hid (Tw y)) : Calls Tryd.prog 15 #[.string t] y fun e w' => ∃ sp cap X, e = .returned (.tuple #[.slice sp (X : List Itm).length cap, .int .i64 (srcE t), .int .i64 (srcN t)]) ∧ Hid (Below y.heap.size y w' ∧ Lv w' sp X ∧ X.map pu = srcL t ∧ X.length ≤ 4096) := by
  refine (pparse_any y T t ht).mono ?_
  rintro e w' ⟨v, X, rfl, H⟩
  obtain ⟨sp, cap, rfl, hl⟩ := H.out.1.lies
  have hm := srcL_may t
  rw [← H.out.2] at hm
  refine ⟨sp, cap, X, rfl, H.out.1.fm.low, ⟨hl, H.out.1.good, fun x hx => may_small (q := pu x) (hm.1 _ (List.mem_map_of_mem hx))⟩, H.out.2, ?_⟩
  have := hm.2
  rw [List.length_map] at this
  exact this
theorem lv_same (y : World) (pa pb : Option Addr) (ca cb : Nat) (X Y : List Itm) (h1 : Hid (Lv y pa X)) (h2 : Hid (Lv y pb Y)) (he : Hid (X.map pu = Y.map pu)) (hn : X.length ≤ 4096) : Calls Tryd.prog 17 #[.slice pa X.length ca, .slice pb Y.length cb] y fun e w' => e = .returned (.bool true) ∧ Hid (Below y.heap.size y w') := sameItems_true y pa pb ca cb X Y h1.out.l h2.out.l h1.out.g h2.out.g he (by omega)
theorem ib_size (X : List Itm) (h : Lens X) : (printIB X).size ≤ 9223372036854775807 := by
  by_cases e : printIE X = 0
  · obtain ⟨_, _, k3, k4⟩ := ie_ok h e
    rw [k4]
    have : (mkB (printP (X.map pu))).size = (printP (X.map pu)).length := by rw [← strL_len, strL_mkB]
    omega
  · rw [ib_no e]
    decide
def pE (t : ByteArray) : Int := if 65536 < (printP (srcL t)).length then 2 else 0
def pB (t : ByteArray) : ByteArray := if pE t = 0 then mkB (printP (srcL t)) else ⟨#[]⟩
/-- What is printed of items that a text says. -/
theorem txt_print (t : ByteArray) (X : List Itm) (h : Lens X) (hX : X.map pu = srcL t) : printIE X = pE t ∧ printIB X = pB t := by
  have hm := srcL_may t
  rw [← hX] at hm
  rw [List.length_map] at hm
  have e := ie_pu h (List.all_eq_true.2 hm.1) hm.2
  have e1 : printIE X = pE t := by rw [e, hX]; rfl
  refine ⟨e1, ?_⟩
  unfold pB
  split
  · rename_i h0
    rw [h0] at e1
    rw [(ie_ok h e1).2.2.2, hX]
  · rename_i h0
    exact ib_no (by rw [e1]; exact h0)
theorem txt_cases (t : ByteArray) : (pE t = 2 ∧ pB t = ⟨#[]⟩) ∨ (pE t = 0 ∧ (pB t).size ≤ 9223372036854775807 ∧ srcE (pB t) = 0 ∧ srcL (pB t) = srcL t) := by
  have hm := srcL_may t
  by_cases h : 65536 < (printP (srcL t)).length
  · have e : pE t = 2 := by unfold pE; rw [if_pos h]
    exact .inl ⟨e, by unfold pB; rw [e]; rfl⟩
  · have e : pE t = 0 := by unfold pE; rw [if_neg h]
    have e2 : pB t = mkB (printP (srcL t)) := by unfold pB; rw [e]; rfl
    have hs : (mkB (printP (srcL t))).size = (printP (srcL t)).length := by rw [← strL_len, strL_mkB]
    obtain ⟨k1, k2, k3⟩ := print_back hm.1 hm.2 (by omega)
    exact .inr ⟨e, by rw [e2]; omega, by rw [e2]; exact k1, by rw [e2]; exact k3⟩
theorem txt_none {t : ByteArray} (h : ¬ srcE t = 0) : srcL t = [] := by unfold srcL; rw [if_neg h]
theorem of_below {w y z : World} (h : Below w.heap.size w y) (k : Below y.heap.size y z) : Below w.heap.size w z := h.trans (k.mono h.size)
end Go.Proofs.YtmaedkbmjbggpaaDoor
/- Items of few bytes in all: the statement's own sum. -/
namespace Go.Proofs.YtmaedkbmjbggpaaDoor
open Go Go.RowKit
set_option linter.unusedVariables false
set_option maxHeartbeats 3000000
set_option maxRecDepth 20000

def oneV (r : Ri) : Nat := 16 + r.m + r.n.size + r.l.size
def sumV (L : List Ri) : Nat := (L.map oneV).sum
theorem sumV_snoc (L : List Ri) (r : Ri) : sumV (L ++ [r]) = sumV L + oneV r := by simp [sumV]
theorem sumV_app (a b : List Ri) : sumV (a ++ b) = sumV a + sumV b := by simp [sumV]
theorem sumV_take (L : List Ri) (j : Nat) : sumV (L.take j) ≤ sumV L := by
  have h := sumV_app (L.take j) (L.drop j)
  rw [List.take_append_drop] at h
  omega
/-- Items of which no part is longer than an address space. -/
def Near (l : List Ri) : Prop := ∀ r ∈ l, r.m ≤ 140737488351232 ∧ r.n.size ≤ 140737488351232 ∧ r.l.size ≤ 140737488351232
theorem vast_any (w : World) (sp : Option Addr) (cap : Nat) (l : List Ri) (hl : Hid (LI w sp l)) (hs : Hid (Near l)) (hn : l.length ≤ 140737488351232) :
    Calls Tryd.prog 7 #[.slice sp l.length cap] w fun e w' => ∃ b, e = .returned (.bool b) ∧ Hid (Below w.heap.size w w' ∧ (b = false → sumV l ≤ 134217728)) := by
  obtain ⟨n, hn'⟩ : ∃ n, l.length = n := ⟨_, rfl⟩
  have hnn : Hid (l.length = n) := hn'
  rw [hn'] at hn ⊢
  have ni : (n : Int) ≤ 140737488351232 := by omega
  clear hn hn'
  go_enter Tryd.func7, Tryd.ntmps7
  go_wp2
  go_loopw [3, 4] (fun u t wz => ∃ (j : Nat) (z : World), z = wz ∧ u = .int .i64 (sumV (l.take j) : Int) ∧ t = .int .i64 (j : Int) ∧ Hid (j ≤ n ∧ sumV (l.take j) ≤ 134217728) ∧ Hid (Below w.heap.size w z)) (fun _ t _ => (n - intOf t).toNat)
  case atStart => exact ⟨0, w, rfl, rfl, rfl, ⟨Nat.zero_le _, Nat.zero_le _⟩, Below.refl _ _⟩
  case round =>
    obtain ⟨j, z, rfl, rfl, rfl, J, U⟩ := hrel
    by_cases hlt : j < n
    · have hjl : j < l.length := by rw [hnn.out]; exact hlt
      obtain ⟨r, hr⟩ : ∃ r, l[j]? = some r := ⟨_, List.getElem?_eq_getElem hjl⟩
      obtain ⟨g, o, rfl, hc⟩ := hl.out j r hr
      have cell : ∀ (i : Nat) v, (c6 r)[i]? = some v → z.cell? ⟨g, o + j * 6 + i, none⟩ = some v := fun i v hv => by
        have c := hc i v hv
        exact (U.out.cell (p := ⟨g, o + j * 6 + i, none⟩) (World.block_lt_of_cell? w _ c)).trans c
      have c1 := cell 1 (.string r.n) rfl
      have c3 := cell 3 (.string r.l) rfl
      have c5 := cell 5 (.slice r.sp r.m r.cap) rfl
      have htake : l.take (j + 1) = l.take j ++ [r] := by rw [List.take_add_one, hr]; rfl
      have hsum : sumV (l.take (j + 1)) = sumV (l.take j) + oneV r := by rw [htake, sumV_snoc]
      have hb := J.out.2
      obtain ⟨n1, n2, n3⟩ := hs.out r (List.mem_of_getElem? hr)
      obtain ⟨S, hS⟩ : ∃ S, sumV (l.take j) = S := ⟨_, rfl⟩
      rw [hS] at hsum hb ⊢
      have b0 : (S : Int) ≤ 134217728 := by omega
      have b1 : (r.m : Int) ≤ 140737488351232 := by omega
      have b2 : (r.n.size : Int) ≤ 140737488351232 := by omega
      have b3 : (r.l.size : Int) ≤ 140737488351232 := by omega
      have hst : Hid ((sumV (l.take (j + 1)) : Int) = (S : Int) + 16 + (r.m : Int) + (r.n.size : Int) + (r.l.size : Int)) := by show _ = _; rw [hsum]; unfold oneV; omega
      have hji : (j : Int) < n := by omega
      have hj' : Hid (j < n) := hlt
      have ix := fun w => idxP (g := g) (off := o) (len := n) (cap := cap) Tryd.underlying22 (s := 6) (by kernel_rfl) .i64 j w hlt
      by_cases hg : (134217728 : Int) < (S : Int) + 16 + (r.m : Int) + (r.n.size : Int) + (r.l.size : Int)
      · clear cell hc hr htake hsum hb hS hjl hlt n1 n2 n3
        go_wp2
        go_quiet (fail)
        go_wp2
        go_ret
        exact ⟨true, rfl, below_drewN U.out, fun h => by cases h⟩
      · have hq : Hid (sumV (l.take (j + 1)) ≤ 134217728) := by have := hst.out; show _ ≤ _; omega
        clear cell hc hr htake hsum hb hS hjl hlt n1 n2 n3
        go_wp2
        go_quiet (fail)
        go_wp2
        go_roundw
        case rel => exact ⟨j + 1, _, rfl, by rw [hst.out], by simp, ⟨hj'.out, hq.out⟩, below_drewN U.out⟩
        case measure => have := hj'.out; simp [intOf]; omega
    · have hje : j = n := by have := J.out.1; omega
      have fin : Hid (sumV l ≤ 134217728) := by
        have h := J.out.2
        rw [List.take_of_length_le (by rw [hnn.out]; omega)] at h
        exact h
      subst hje
      clear hlt
      go_wp2
      go_ret
      exact ⟨false, rfl, U.out, fun _ => fin.out⟩
end Go.Proofs.YtmaedkbmjbggpaaDoor
