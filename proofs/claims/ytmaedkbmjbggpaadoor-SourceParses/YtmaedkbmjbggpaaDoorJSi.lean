/- Two items, two lists of items held against each other; the statements' own source. -/
import Derived.Test.YtmaedkbmjbggpaaDoorJNr
import Derived.Test.YtmaedkbmjbggpaaDoorJSg
namespace Go.Proofs.YtmaedkbmjbggpaaDoor
open Go Go.RowKit
set_option linter.unusedVariables false
set_option maxHeartbeats 3000000
set_option maxRecDepth 20000

theorem conv_nil (w : World) (cap : Nat) : (convert 37 9 (.slice none 0 cap)).run Tryd.prog w = .ok (.string ⟨#[]⟩) w := by kernel_rfl
theorem LB8.conv {w : World} {sp : Option Addr} {l : List UInt8} (h : LB8 w sp l) (cap : Nat) : (convert 37 9 (.slice sp l.length cap)).run Tryd.prog w = .ok (.string ⟨l.toArray⟩) w := by
  have key : ∀ a : Addr, (∀ j (hj : j < l.length), w.cell? (a.add j) = some (.int .u8 (l[j].toNat : Int))) → (convert 37 9 (.slice (some a) l.length cap)).run Tryd.prog w = .ok (.string ⟨l.toArray⟩) w := fun a hc =>
    run_convert_bytes_back (P := Tryd.prog) w 37 9 5 a cap l Tryd.underlying37 Tryd.underlying5 Tryd.underlying9 (fun j hj => hc j hj)
  rcases sp with _ | a
  · have hl : l = [] := by
      rcases l with _ | ⟨b, r⟩
      · rfl
      · obtain ⟨g, o, e, _⟩ := h 0 b rfl
        cases e
    subst hl
    exact conv_nil w cap
  · refine key a fun j hj => ?_
    obtain ⟨g, o, e, c⟩ := h j l[j] (List.getElem?_eq_getElem hj)
    cases e
    rw [Addr.add_lit]
    exact c
theorem same_one (w : World) (k : Int) (n : ByteArray) (a : Int) (l : ByteArray) (p : Int) (sp1 sp2 : Option Addr) (m cap1 cap2 : Nat) (b : List UInt8) (hm : Hid (b.length = m)) (h1 : Hid (LB8 w sp1 b)) (h2 : Hid (LB8 w sp2 b)) :
    Calls Tryd.prog 22 #[.agg (i6 ⟨k, n, a, l, p, sp1, m, cap1⟩), .agg (i6 ⟨k, n, a, l, p, sp2, m, cap2⟩)] w fun e w' => e = .returned (.bool true) ∧ Below w.heap.size w w' := by
  have hB : Hid (Fm w [(w.heap.size, i6 ⟨k, n, a, l, p, sp1, m, cap1⟩, 39), (w.heap.size + 1, i6 ⟨k, n, a, l, p, sp2, m, cap2⟩, 39)] ((w.alloc (.cells (i6 ⟨k, n, a, l, p, sp1, m, cap1⟩) 39)).alloc (.cells (i6 ⟨k, n, a, l, p, sp2, m, cap2⟩) 39))) := Fm.two w _ _ _ _
  have q1 := str_eq (rfl : n = n)
  have q2 := str_eq (rfl : l = l)
  have q3 := str_eq (rfl : (⟨b.toArray⟩ : ByteArray) = ⟨b.toArray⟩)
  go_enter Tryd.func22, Tryd.ntmps22
  go_wp2_with ((with_reducible refine gen_world ((w.alloc (.cells (i6 ⟨k, n, a, l, p, sp1, m, cap1⟩) 39)).alloc (.cells (i6 ⟨k, n, a, l, p, sp2, m, cap2⟩) 39)) (Fm w [(w.heap.size, i6 ⟨k, n, a, l, p, sp1, m, cap1⟩, 39), (w.heap.size + 1, i6 ⟨k, n, a, l, p, sp2, m, cap2⟩, 39)]) hB.out ?_); intro y K1; have d0 := (K1.out.bx 0 _ _ _ rfl).c 0 (.int .u8 k) rfl; have g0 := (K1.out.bx 1 _ _ _ rfl).c 0 (.int .u8 k) rfl; have d1 := (K1.out.bx 0 _ _ _ rfl).c 1 (.string n) rfl; have g1 := (K1.out.bx 1 _ _ _ rfl).c 1 (.string n) rfl; have d2 := (K1.out.bx 0 _ _ _ rfl).c 2 (.int .i64 a) rfl; have g2 := (K1.out.bx 1 _ _ _ rfl).c 2 (.int .i64 a) rfl; have d3 := (K1.out.bx 0 _ _ _ rfl).c 3 (.string l) rfl; have g3 := (K1.out.bx 1 _ _ _ rfl).c 3 (.string l) rfl; have d4 := (K1.out.bx 0 _ _ _ rfl).c 4 (.int .u8 p) rfl; have g4 := (K1.out.bx 1 _ _ _ rfl).c 4 (.int .u8 p) rfl; have d5 := (K1.out.bx 0 _ _ _ rfl).c 5 (.slice sp1 m cap1) rfl; have g5 := (K1.out.bx 1 _ _ _ rfl).c 5 (.slice sp2 m cap2) rfl; have v1 := (h1.out.below K1.out.low).conv cap1; have v2 := (h2.out.below K1.out.low).conv cap2; rw [hm.out] at v1 v2)
  go_ret
  exact ⟨rfl, K1.out.low⟩
/-- Items whose bytes lie where they say. -/
def GoodL (w : World) (X : List Itm) : Prop := ∀ x ∈ X, LB8 w x.1.sp x.2 ∧ x.2.length = x.1.m
theorem GoodL.below {w y : World} {X : List Itm} (h : GoodL w X) (hb : Below w.heap.size w y) : GoodL y X := fun x hx => ⟨(h x hx).1.below hb, (h x hx).2⟩
theorem same_true (w : World) (x y : Itm) (hx : LB8 w x.1.sp x.2 ∧ x.2.length = x.1.m) (hy : LB8 w y.1.sp y.2 ∧ y.2.length = y.1.m) (e : pu x = pu y) : Calls Tryd.prog 22 #[.agg (i6 x.1), .agg (i6 y.1)] w fun e w' => e = .returned (.bool true) ∧ Below w.heap.size w w' := by
  obtain ⟨⟨k, n, a, l, p, sp1, m1, cap1⟩, b⟩ := x
  obtain ⟨⟨k', n', a', l', p', sp2, m2, cap2⟩, b'⟩ := y
  unfold pu at e
  injection e with e1 e2 e3 e4 e5 e6
  simp only at e1 e2 e3 e4 e5 e6 hx hy
  subst e1 e2 e3 e4 e5 e6
  obtain ⟨h1, rfl⟩ := hx
  obtain ⟨h2, e⟩ := hy
  subst e
  exact same_one w k n a l p sp1 sp2 b.length cap1 cap2 b rfl h1 h2
theorem sameItems_true (w : World) (pa pb : Option Addr) (ca cb : Nat) (X Y : List Itm) (ha : Hid (LI w pa (X.map (·.1)))) (hb : Hid (LI w pb (Y.map (·.1)))) (gX : Hid (GoodL w X)) (gY : Hid (GoodL w Y)) (he : Hid (X.map pu = Y.map pu)) (hn : X.length ≤ 4294967296) :
    Calls Tryd.prog 17 #[.slice pa X.length ca, .slice pb Y.length cb] w fun e w' => e = .returned (.bool true) ∧ Hid (Below w.heap.size w w') := by
  have hl : X.length = Y.length := by have := congrArg List.length he.out; simpa using this
  obtain ⟨n, hn'⟩ : ∃ n, X.length = n := ⟨_, rfl⟩
  have ni : (n : Int) ≤ 4294967296 := by omega
  have hnn : Hid (X.length = n ∧ Y.length = n) := ⟨hn', by omega⟩
  rw [← hl, hn']
  clear hn hn' hl
  go_enter Tryd.func17, Tryd.ntmps17
  go_wp2
  go_loopw [5] (fun i wz => ∃ (j : Nat) (y : World), y = wz ∧ i = .int .i64 (j : Int) ∧ Hid (j ≤ n) ∧ Hid (Below w.heap.size w y)) (fun i _ => (n - intOf i).toNat)
  case atStart => exact ⟨0, w, rfl, rfl, Nat.zero_le _, Below.refl _ _⟩
  case round =>
    obtain ⟨j, z, rfl, rfl, J, U⟩ := hrel
    by_cases hlt : j < n
    · obtain ⟨x, hx⟩ : ∃ x, X[j]? = some x := ⟨_, List.getElem?_eq_getElem (by rw [hnn.out.1]; exact hlt)⟩
      obtain ⟨y, hy⟩ : ∃ y, Y[j]? = some y := ⟨_, List.getElem?_eq_getElem (by rw [hnn.out.2]; exact hlt)⟩
      obtain ⟨ga, oa, rfl, ra⟩ := ha.out j x.1 (by rw [List.getElem?_map, hx]; rfl)
      obtain ⟨gb, ob, rfl, rb⟩ := hb.out j y.1 (by rw [List.getElem?_map, hy]; rfl)
      have R1 : Hid (w.rangeAt ga (oa + j * 6) (i6 x.1).toList) := ra
      have R2 : Hid (w.rangeAt gb (ob + j * 6) (i6 y.1).toList) := rb
      have hxy : pu x = pu y := by
        have h := congrArg (fun l : List Pu => l[j]?) he.out
        simp only [List.getElem?_map, hx, hy] at h
        simpa using h
      have hS : Hid (∀ v, Below w.heap.size w v → Calls Tryd.prog 22 #[.agg (i6 x.1), .agg (i6 y.1)] v fun e w' => e = .returned (.bool true) ∧ Below v.heap.size v w') := fun v hv => same_true v x y ((gX.out.below hv) x (List.mem_of_getElem? hx)) ((gY.out.below hv) y (List.mem_of_getElem? hy)) hxy
      have i1 := fun w => idxP (g := ga) (off := oa) (len := n) (cap := ca) Tryd.underlying22 (s := 6) (by kernel_rfl) .i64 j w hlt
      have i2 := fun w => idxP (g := gb) (off := ob) (len := n) (cap := cb) Tryd.underlying22 (s := 6) (by kernel_rfl) .i64 j w hlt
      have hji : (j : Int) < n := by omega
      have hlt' : Hid (j < n) := hlt
      clear hlt hx hy hxy ra rb
      go_wp2
      refine region_class_tail 8 (Below w.heap.size w) (by kernel_rfl) (by kernel_rfl) (U.out.trans (below_drew (Below.refl _ _))) ?_
      simp only [List.take_succ_cons, List.take_zero, List.drop_succ_cons, List.drop_zero]
      with_reducible refine quiet_one (.slice (some ⟨ga, oa, none⟩) n ca) ?_ ?_ ?_
      · kernel_rfl
      · intro u hy
        go_simp
      with_reducible refine quiet_one (.int .i64 (j : Int)) ?_ ?_ ?_
      · kernel_rfl
      · intro u hy
        go_simp
      with_reducible refine quiet_one (.pointer (some ⟨ga, oa + j * 6, none⟩)) ?_ ?_ ?_
      · kernel_rfl
      · intro u hy
        go_simp
      with_reducible refine quiet_one (.agg (i6 x.1)) ?_ ?_ ?_
      · kernel_rfl
      · intro u hy
        generalize hA : Act.put _ _ _ = A
        have e1 : A.eval (.tmp 20) = .pointer (some ⟨ga, oa + j * 6, none⟩) := by rw [← hA]; go_simp
        clear hA
        exact q_loadm (C := Below w.heap.size w) rt6 ga (oa + j * 6) (i6 x.1) (fun _ h => range_keep R1.out h) rfl (.tmp 20) rfl e1 u hy
      with_reducible refine quiet_one (.slice (some ⟨gb, ob, none⟩) n cb) ?_ ?_ ?_
      · kernel_rfl
      · intro u hy
        go_simp
      with_reducible refine quiet_one (.int .i64 (j : Int)) ?_ ?_ ?_
      · kernel_rfl
      · intro u hy
        go_simp
      with_reducible refine quiet_one (.pointer (some ⟨gb, ob + j * 6, none⟩)) ?_ ?_ ?_
      · kernel_rfl
      · intro u hy
        go_simp
      with_reducible refine quiet_one (.agg (i6 y.1)) ?_ ?_ ?_
      · kernel_rfl
      · intro u hy
        generalize hA : Act.put _ _ _ = A
        have e1 : A.eval (.tmp 24) = .pointer (some ⟨gb, ob + j * 6, none⟩) := by rw [← hA]; go_simp
        clear hA
        exact q_loadm (C := Below w.heap.size w) rt6 gb (ob + j * 6) (i6 y.1) (fun _ h => range_keep R2.out h) rfl (.tmp 24) rfl e1 u hy
      intro z1 hz1
      replace hz1 : Hid _ := hz1
      go_wp2_with (go_at_call 22; refine (hS.out z1 hz1.out).mono ?_; rintro e z2 ⟨rfl, H2⟩; have U2 : Hid (Below w.heap.size w z2) := hz1.out.trans (H2.mono hz1.out.size); clear H2)
      go_roundw
      case rel => exact ⟨j + 1, _, rfl, by simp, hlt'.out, U2⟩
      case measure => have := hlt'.out; simp [intOf]; omega
    · have hje : j = n := by have := J.out; omega
      subst hje
      clear hlt
      go_wp2
      go_ret
      exact ⟨rfl, U⟩

/-- The statements' own source. -/
def fadeB : ByteArray := ⟨#[102, 97, 100, 101]⟩
def taleR (b : Nat) : List Ri := [⟨4, ⟨#[]⟩, 512, ⟨#[]⟩, 0, none, 0, 0⟩, ⟨1, fadeB, 0, ⟨#[]⟩, 0, none, 0, 0⟩, ⟨2, ⟨#[76, 68, 73]⟩, 0, fadeB, 2, none, 0, 0⟩, ⟨2, ⟨#[66, 82]⟩, 171, ⟨#[]⟩, 0, none, 0, 0⟩, ⟨2, ⟨#[76, 66, 82]⟩, 0, fadeB, 1, none, 0, 0⟩, ⟨3, ⟨#[]⟩, 0, ⟨#[]⟩, 0, some ⟨b, 0, none⟩, 2, 2⟩, ⟨5, ⟨#[]⟩, 0, fadeB, 0, none, 0, 0⟩]
def taleB : List (List UInt8) := [[], [], [], [], [], [1, 254], []]
def taleX (b : Nat) : List Itm := (taleR b).zip taleB
def taleP : List Pu := [⟨4, ⟨#[]⟩, 512, ⟨#[]⟩, 0, []⟩, ⟨1, fadeB, 0, ⟨#[]⟩, 0, []⟩, ⟨2, ⟨#[76, 68, 73]⟩, 0, fadeB, 2, []⟩, ⟨2, ⟨#[66, 82]⟩, 171, ⟨#[]⟩, 0, []⟩, ⟨2, ⟨#[76, 66, 82]⟩, 0, fadeB, 1, []⟩, ⟨3, ⟨#[]⟩, 0, ⟨#[]⟩, 0, [1, 254]⟩, ⟨5, ⟨#[]⟩, 0, fadeB, 0, []⟩]
def taleT : ByteArray := ⟨#[32, 97, 116, 32, 48, 50, 48, 48, 10, 102, 97, 100, 101, 58, 10, 32, 76, 68, 73, 32, 104, 105, 103, 104, 32, 102, 97, 100, 101, 10, 32, 66, 82, 32, 97, 98, 10, 32, 76, 66, 82, 32, 116, 111, 32, 102, 97, 100, 101, 10, 32, 100, 97, 116, 97, 32, 48, 49, 32, 102, 101, 10, 32, 97, 100, 100, 114, 101, 115, 115, 32, 102, 97, 100, 101, 10]⟩
def wrongT : ByteArray := ⟨#[32, 78, 79, 80, 10, 78, 79, 80, 10]⟩
theorem tale_pu (b : Nat) : (taleX b).map pu = taleP := rfl
theorem tale_fst (b : Nat) : (taleX b).map (·.1) = taleR b := rfl
theorem tale_may : taleP.all mayP = true := by decide +kernel
theorem tale_text : printP taleP = strL taleT := by decide +kernel
theorem wrong_src : srcE wrongT = 131 ∧ srcN wrongT = 2 := by decide +kernel
theorem tale_src : srcE taleT = 0 ∧ srcN taleT = 0 ∧ srcL taleT = taleP := by
  have h := print_back (L := taleP) (fun q hq => List.all_eq_true.1 tale_may q hq) (by decide) (by rw [tale_text]; decide +kernel)
  rw [tale_text, mkB_strL] at h
  exact h
theorem tale_print (b : Nat) : printIE (taleX b) = 0 ∧ printIB (taleX b) = taleT := by
  have hm : ∀ x ∈ taleX b, x.2.length = x.1.m ∧ mayI x.1 = true := by
    have hall : ∀ x ∈ taleX b, x.2.length = x.1.m := by
      intro x hx
      simp [taleX, taleR, taleB] at hx
      rcases hx with rfl | rfl | rfl | rfl | rfl | rfl | rfl <;> rfl
    intro x hx
    refine ⟨hall x hx, ?_⟩
    rw [mayI_pu x (hall x hx)]
    exact List.all_eq_true.1 tale_may _ (by rw [← tale_pu b]; exact List.mem_map_of_mem hx)
  have hp : printL (taleX b) = strL taleT := by
    rw [← tale_text, ← tale_pu b]
    unfold printL printP
    rw [List.flatMap_map]
    congr 1
  have hc : checkE ((taleX b).map (·.1)) = 0 := by
    unfold checkE
    rw [if_neg (by rw [tale_fst]; show ¬ 4096 < 7; decide), if_neg]
    rw [badI_none]
    · simp
    · intro i hi
      rw [List.getElem_map]
      exact (hm _ (List.getElem_mem _)).2
  have hE : printIE (taleX b) = 0 := by
    unfold printIE
    rw [if_neg (by simpa using hc), hp, if_neg (by decide +kernel)]
  refine ⟨hE, ?_⟩
  unfold printIB
  rw [hE, if_pos rfl, hp]
  exact strL_mk taleT
theorem tale_any (w : World) : Calls Tryd.prog 19 #[] w fun e w' => e = .returned (.tuple #[.slice (some ⟨w.heap.size + 1, 0, none⟩) 7 7, .string taleT]) ∧ w' = (w.alloc (.cells #[.int .u8 1, .int .u8 254] 5)).alloc (.cells (rowL c6 (taleR w.heap.size)).toArray 39) := by
  go_enter Tryd.func19, Tryd.ntmps19
  go_wp2
  go_ret2
  exact ⟨rfl, rfl⟩
theorem row_lies {α : Type} {s t : Nat} {c : α → List Value} (hc : ∀ x, (c x).length = s) {y : World} {b : Nat} {l : List α} (h : Bx y b (rowL c l).toArray t) : LiesL s c y (some ⟨b, 0, none⟩) l := fun j a hj => ⟨b, 0, rfl, fun i v hv => by
  have hi : i < s := by have := (List.getElem?_eq_some_iff.1 hv).1; rw [hc] at this; exact this
  rw [Nat.zero_add]
  refine h.c (j * s + i) v ?_
  rw [List.getElem?_toArray, rowL_at hc l j i a hj hi]
  exact hv⟩
/-- Bytes that are owned lie where they say. -/
theorem own_lb {y : World} {B : Nat} {sp : Option Addr} {m cap : Nat} {b : List UInt8} (h : y.ownsRow B 5 1 (.slice sp m cap) b.length (b.map byV)) : LB8 y sp b ∧ b.length = m := by
  rcases h.2 with ⟨h0, hn⟩ | ⟨g, c, cur, hv, hB, hg, hr⟩
  · injection h0 with e1 e2 e3
    subst e1 e2
    have hb : b = [] := List.eq_nil_of_length_eq_zero hn
    subst hb
    exact ⟨fun j x hj => by simp at hj, rfl⟩
  · injection hv with e1 e2 e3
    subst e1
    refine ⟨fun j x hj => ⟨g, 0, rfl, ?_⟩, e2.symm⟩
    have := World.ownsRow.cells (g := g) h rfl j (byV x) (by simp [hj])
    rw [Addr.add_lit] at this
    exact this
theorem Pq.good {w y : World} {va : Value} {X : List Itm} {bs : List (Nat × Array Value × TypeId)} (h : Pq w va X bs y) : GoodL y X := fun x hx => by
  obtain ⟨i, hi, rfl⟩ := List.getElem_of_mem hx
  exact own_lb (h.byt i _ (List.getElem?_eq_getElem hi))
theorem Pq.lies {w y : World} {va : Value} {X : List Itm} {bs : List (Nat × Array Value × TypeId)} (h : Pq w va X bs y) : ∃ sp cap, va = .slice sp X.length cap ∧ LI y sp (X.map (·.1)) := by
  obtain ⟨sp, cap, e, hl, _⟩ := OwnL.open kItem.len h.own
  rw [List.length_map] at e
  exact ⟨sp, cap, e, hl⟩
theorem awake_any (w : World) (T : Hid (Tw w)) : Calls Tryd.prog 6 #[] w fun e w' => e = .returned (.bool true) ∧ Hid (Below w.heap.size w w') := by
  have hT := tale_any w
  obtain ⟨w1, hw1⟩ : ∃ w1, (w.alloc (.cells #[.int .u8 1, .int .u8 254] 5)).alloc (.cells (rowL c6 (taleR w.heap.size)).toArray 39) = w1 := ⟨_, rfl⟩
  have F1 : Fm w [(w.heap.size, #[.int .u8 1, .int .u8 254], 5), (w.heap.size + 1, (rowL c6 (taleR w.heap.size)).toArray, 39)] w1 := by rw [← hw1]; exact Fm.two w _ _ _ _
  rw [hw1] at hT
  have hLI : Hid (LI w1 (some ⟨w.heap.size + 1, 0, none⟩) ((taleX w.heap.size).map (·.1))) := by rw [tale_fst]; exact row_lies kItem.len (F1.bx 1 _ _ _ rfl)
  have hG : Hid (GoodL w1 (taleX w.heap.size)) := by
    intro x hx
    simp [taleX, taleR, taleB] at hx
    rcases hx with rfl | rfl | rfl | rfl | rfl | rfl | rfl
    case inr.inr.inr.inr.inr.inl =>
      refine ⟨fun j b hj => ⟨w.heap.size, 0, rfl, ?_⟩, rfl⟩
      rw [Nat.zero_add]
      refine (F1.bx 0 _ _ _ rfl).c j (byV b) ?_
      match j, hj with
      | 0, hj => simp at hj; subst hj; rfl
      | 1, hj => simp at hj; subst hj; rfl
      | j + 2, hj => simp at hj
    all_goals exact ⟨fun j b hj => by simp at hj, rfl⟩
  have hG2 : Hid (∀ x ∈ taleX w.heap.size, Good w1 x) := fun x hx => ⟨(hG.out x hx).1, (hG.out x hx).2, by
    simp [taleX, taleR, taleB] at hx
    rcases hx with rfl | rfl | rfl | rfl | rfl | rfl | rfl <;> simp⟩
  have hP := pprint_any w1 (some ⟨w.heap.size + 1, 0, none⟩) 7 (taleR w.heap.size) (taleX w.heap.size) (tale_fst w.heap.size).symm hLI (show 7 ≤ 9223372036854775807 by decide) hG2 (T.out.below F1.low)
  rw [(tale_print w.heap.size).1, (tale_print w.heap.size).2, show (taleR w.heap.size).length = 7 from rfl] at hP
  have hL1 : Hid (Below w.heap.size w w1) := F1.low
  have hp1 : Hid (∀ v, Below w.heap.size w v → Calls Tryd.prog 15 #[.string taleT] v fun e w' => ∃ va X, e = .returned (.tuple #[va, .int .i64 0, .int .i64 0]) ∧ Hid (Pq v va X [] w' ∧ X.map pu = taleP)) := fun v hv => by
    refine (pparse_any v (T.out.below hv) taleT (by decide +kernel)).mono ?_
    rintro e w' ⟨va, X, rfl, H⟩
    obtain ⟨e1, e2, e3⟩ := tale_src
    rw [e1, e2]
    rw [e3] at H
    exact ⟨va, X, rfl, H⟩
  have hp2 : Hid (∀ v, Below w.heap.size w v → Calls Tryd.prog 15 #[.string ⟨#[32, 78, 79, 80, 10, 78, 79, 80, 10]⟩] v fun e w' => ∃ va, e = .returned (.tuple #[va, .int .i64 131, .int .i64 2]) ∧ Hid (Below v.heap.size v w')) := fun v hv => by
    refine (pparse_any v (T.out.below hv) wrongT (by decide +kernel)).mono ?_
    rintro e w' ⟨va, X, rfl, H⟩
    rw [wrong_src.1, wrong_src.2]
    exact ⟨va, rfl, H.out.1.fm.low⟩
  obtain ⟨b, hb⟩ : ∃ b, w.heap.size = b := ⟨_, rfl⟩
  obtain ⟨TT, hTT⟩ : ∃ t, taleT = t := ⟨_, rfl⟩
  have q := str_eq (rfl : TT = TT)
  rw [hTT] at hT hP hp1
  clear hw1 F1 hb hTT
  go_enter Tryd.func6, Tryd.ntmps6
  go_wp2_with (first
    | (go_at_call 17; refine (sameItems_true y4 (some ⟨w.heap.size + 1, 0, none⟩) sp3 7 cap3 (taleX w.heap.size) X (hLI.out.below L4.out.1) (hl3.out.below L4.out.2) (hG.out.below L4.out.1) (g3.out.below L4.out.2) e3.out (show 7 ≤ 4294967296 by decide)).mono ?_; rintro e y5 ⟨rfl, H5⟩)
    | (go_at_call 15; refine (hp2.out y3 L3.out.2).mono ?_; rintro e y4 ⟨va4, rfl, H4⟩; have L4 : Hid (Below w1.heap.size w1 y4 ∧ Below y3.heap.size y3 y4) := ⟨L3.out.1.trans (H4.out.mono L3.out.1.size), H4.out⟩)
    | (go_at_call 15; refine (hp1.out y2 L2.out).mono ?_; rintro e y3 ⟨va3, X, rfl, H3⟩; obtain ⟨sp3, cap3, rfl, hl3⟩ := H3.out.1.lies; replace hl3 : Hid (LI y3 sp3 (X.map (·.1))) := hl3; have g3 : Hid (GoodL y3 X) := H3.out.1.good; have e3 : Hid ((taleX w.heap.size).map pu = X.map pu) := (by show _ = _; rw [tale_pu]; exact H3.out.2.symm); have L3 : Hid (Below w1.heap.size w1 y3 ∧ Below w.heap.size w y3) := ⟨H2.out.trans (H3.out.1.fm.low.mono H2.out.size), L2.out.trans (H3.out.1.fm.low.mono L2.out.size)⟩)
    | (go_at_call 13; refine hP.mono ?_; rintro e y2 ⟨rfl, H2⟩; have L2 : Hid (Below w.heap.size w y2) := hL1.out.trans (H2.out.mono hL1.out.size))
    | (go_at_call 19; refine hT.mono ?_; rintro e w1 ⟨rfl, rfl⟩))
  go_ret
  exact ⟨rfl, L3.out.2.trans ((L4.out.2.trans (H5.out.mono L4.out.2.size)).mono L3.out.2.size)⟩
end Go.Proofs.YtmaedkbmjbggpaaDoor
/- What is printed of items and read again: the pure part. -/
namespace Go.Proofs.YtmaedkbmjbggpaaDoor
open Go Go.RowKit
set_option linter.unusedVariables false
set_option maxHeartbeats 1000000
set_option maxRecDepth 20000

/-- The lengths that items say are their bytes'. -/
def Lens (X : List Itm) : Prop := ∀ x ∈ X, x.2.length = x.1.m
theorem GoodL.lens {w : World} {X : List Itm} (h : GoodL w X) : Lens X := fun x hx => (h x hx).2
theorem printL_pu : ∀ (X : List Itm), Lens X → printL X = printP (X.map pu)
  | [], _ => rfl
  | x :: X, h => by
    show strL (lineI x.1 x.2) ++ [10] ++ printL X = strL (lineP (pu x)) ++ [10] ++ printP (X.map pu)
    rw [lineI_pu x (h x (by simp)), printL_pu X (fun y hy => h y (by simp [hy]))]
def allP (Q : List Pu) : Bool := Q.all mayP
theorem may_all {X : List Itm} (h : Lens X) : (∀ r ∈ X.map (·.1), mayI r = true) ↔ allP (X.map pu) = true := by
  unfold allP
  rw [List.all_eq_true]
  constructor
  · intro k q hq
    obtain ⟨x, hx, rfl⟩ := List.mem_map.1 hq
    rw [← mayI_pu x (h x hx)]
    exact k _ (List.mem_map_of_mem hx)
  · intro k r hr
    obtain ⟨x, hx, rfl⟩ := List.mem_map.1 hr
    rw [mayI_pu x (h x hx)]
    exact k _ (List.mem_map_of_mem hx)
theorem ie_ok {X : List Itm} (h : Lens X) (e : printIE X = 0) : allP (X.map pu) = true ∧ X.length ≤ 4096 ∧ (printP (X.map pu)).length ≤ 65536 ∧ printIB X = mkB (printP (X.map pu)) := by
  have e' := e
  unfold printIE at e
  split at e
  · rename_i hc
    exact absurd e hc
  · rename_i hc
    split at e
    · cases e
    · rename_i hl
      have hc0 : checkE (X.map (·.1)) = 0 := Decidable.not_not.1 hc
      obtain ⟨k1, k2⟩ := checkE_ok hc0
      rw [List.length_map] at k1
      rw [printL_pu X h] at hl
      refine ⟨(may_all h).1 k2, k1, by omega, ?_⟩
      unfold printIB
      rw [if_pos e', printL_pu X h]
      rfl
theorem ib_no {X : List Itm} (e : ¬ printIE X = 0) : printIB X = ⟨#[]⟩ := by unfold printIB; rw [if_neg e]
/-- What is printed is read as it was. -/
theorem back_one {X : List Itm} (h : Lens X) (e : printIE X = 0) : srcE (printIB X) = 0 ∧ srcN (printIB X) = 0 ∧ srcL (printIB X) = X.map pu := by
  obtain ⟨k1, k2, k3, k4⟩ := ie_ok h e
  rw [k4]
  exact print_back (fun q hq => List.all_eq_true.1 k1 q hq) (by rw [List.length_map]; exact k2) k3
theorem check_good {l : List Ri} (h : ∀ r ∈ l, mayI r = true) (hn : l.length ≤ 4096) : checkE l = 0 := by
  unfold checkE
  have e : badI l = none := by
    unfold badI
    rw [List.findIdx?_eq_none_iff]
    intro r hr
    rw [h r hr]
    rfl
  rw [if_neg (by omega), e]
  rfl
theorem lay_small (i : Nat) : lay i ≤ 65535 := by
  have h : ∀ x ∈ layL, x ≤ 65535 := by decide
  unfold lay
  rw [List.getD_eq_getElem?_getD]
  rcases hx : layL[i]? with _ | x
  · exact Nat.zero_le _
  · exact h x (List.mem_of_getElem? hx)
/-- A number that an item may hold is small. -/
theorem may_small {q : Pu} (h : mayP q = true) : q.a ≤ 9223372036854775807 := by
  rcases may_cases h with ⟨_, _, e, _⟩ | ⟨_, _, n, _, ⟨_, _, hm⟩ | ⟨_, _, e, _⟩⟩ | ⟨_, _, e, _⟩ | ⟨_, _, _, _, _, _, e⟩ | ⟨_, _, _, e, _⟩
  · omega
  · have hb : (lay (fm n * 3 + 2) : Nat) ≤ 65535 := lay_small _
    have := hm.2
    omega
  · omega
  · omega
  · omega
  · omega
theorem ie_pu {X : List Itm} (h : Lens X) (hm : allP (X.map pu) = true) (hn : X.length ≤ 4096) : printIE X = if 65536 < (printP (X.map pu)).length then 2 else 0 := by
  unfold printIE
  rw [check_good ((may_all h).2 hm) (by rw [List.length_map]; exact hn), printL_pu X h]
  simp
end Go.Proofs.YtmaedkbmjbggpaaDoor
/- What is printed of items is read as these; what a text says, printed and read, is the same: the statement's walk. -/
namespace Go.Proofs.YtmaedkbmjbggpaaDoor
open Go Go.RowKit
set_option linter.unusedVariables false
set_option maxHeartbeats 3000000
set_option maxRecDepth 20000

/-- A list of items that came out, or came in. -/
structure Lv (y : World) (sp : Option Addr) (X : List Itm) : Prop where
  l : LI y sp (X.map (·.1))
  g : GoodL y X
  a : ∀ x ∈ X, x.1.a ≤ 9223372036854775807
theorem Lv.below {y z : World} {sp : Option Addr} {X : List Itm} (h : Lv y sp X) (hb : Below y.heap.size y z) : Lv z sp X := ⟨h.l.below hb, h.g.below hb, h.a⟩
theorem lv_print (y : World) (sp : Option Addr) (cap : Nat) (X : List Itm) (h : Hid (Lv y sp X)) (hn : X.length ≤ 9223372036854775807) (T : Hid (Tw y)) : Calls Tryd.prog 13 #[.slice sp X.length cap] y fun e w' => e = .returned (.tuple #[.string (printIB X), .int .i64 (printIE X)]) ∧ Hid (Below y.heap.size y w') := by
  have hX : Hid (X.map (fun x : Itm => x.1) = X.map (·.1)) := rfl
  have hP := pprint_any y sp cap (X.map fun x : Itm => x.1) X hX h.out.l (by rw [List.length_map]; exact hn) (fun x hx => ⟨(h.out.g x hx).1, (h.out.g x hx).2, h.out.a x hx⟩) T
  rw [List.length_map] at hP
  exact hP
theorem lv_parse (y : World) (t : ByteArray) (ht : t.size ≤ 9223372036854775807) (T : Hid (Tw y)) : Calls Tryd.prog 15 #[.string t] y fun e w' => ∃ sp cap X, e = .returned (.tuple #[.slice sp (X : List Itm).length cap, .int .i64 (srcE t), .int .i64 (srcN t)]) ∧ Hid (Below y.heap.size y w' ∧ Lv w' sp X ∧ X.map pu = srcL t ∧ X.length ≤ 4096) := by
  refine (pparse_any y T t ht).mono ?_
  rintro e w' ⟨v, X, rfl, H⟩
  obtain ⟨sp, cap, rfl, hl⟩ := H.out.1.lies
  have hm := srcL_may t
  rw [← H.out.2] at hm
  refine ⟨sp, cap, X, rfl, H.out.1.fm.low, ⟨hl, H.out.1.good, fun x hx => may_small (q := pu x) (hm.1 _ (List.mem_map_of_mem hx))⟩, H.out.2, ?_⟩
  have := hm.2
  rw [List.length_map] at this
  exact this
theorem lv_same (y : World) (pa pb : Option Addr) (ca cb : Nat) (X Y : List Itm) (h1 : Hid (Lv y pa X)) (h2 : Hid (Lv y pb Y)) (he : Hid (X.map pu = Y.map pu)) (hn : X.length ≤ 4096) : Calls Tryd.prog 17 #[.slice pa X.length ca, .slice pb Y.length cb] y fun e w' => e = .returned (.bool true) ∧ Hid (Below y.heap.size y w') := sameItems_true y pa pb ca cb X Y h1.out.l h2.out.l h1.out.g h2.out.g he (by omega)
theorem ib_size (X : List Itm) (h : Lens X) : (printIB X).size ≤ 9223372036854775807 := by
  by_cases e : printIE X = 0
  · obtain ⟨_, _, k3, k4⟩ := ie_ok h e
    rw [k4]
    have : (mkB (printP (X.map pu))).size = (printP (X.map pu)).length := by rw [← strL_len, strL_mkB]
    omega
  · rw [ib_no e]
    decide
def pE (t : ByteArray) : Int := if 65536 < (printP (srcL t)).length then 2 else 0
def pB (t : ByteArray) : ByteArray := if pE t = 0 then mkB (printP (srcL t)) else ⟨#[]⟩
/-- What is printed of items that a text says. -/
theorem txt_print (t : ByteArray) (X : List Itm) (h : Lens X) (hX : X.map pu = srcL t) : printIE X = pE t ∧ printIB X = pB t := by
  have hm := srcL_may t
  rw [← hX] at hm
  rw [List.length_map] at hm
  have e := ie_pu h (List.all_eq_true.2 hm.1) hm.2
  have e1 : printIE X = pE t := by rw [e, hX]; rfl
  refine ⟨e1, ?_⟩
  unfold pB
  split
  · rename_i h0
    rw [h0] at e1
    rw [(ie_ok h e1).2.2.2, hX]
  · rename_i h0
    exact ib_no (by rw [e1]; exact h0)
theorem txt_cases (t : ByteArray) : (pE t = 2 ∧ pB t = ⟨#[]⟩) ∨ (pE t = 0 ∧ (pB t).size ≤ 9223372036854775807 ∧ srcE (pB t) = 0 ∧ srcL (pB t) = srcL t) := by
  have hm := srcL_may t
  by_cases h : 65536 < (printP (srcL t)).length
  · have e : pE t = 2 := by unfold pE; rw [if_pos h]
    exact .inl ⟨e, by unfold pB; rw [e]; rfl⟩
  · have e : pE t = 0 := by unfold pE; rw [if_neg h]
    have e2 : pB t = mkB (printP (srcL t)) := by unfold pB; rw [e]; rfl
    have hs : (mkB (printP (srcL t))).size = (printP (srcL t)).length := by rw [← strL_len, strL_mkB]
    obtain ⟨k1, k2, k3⟩ := print_back hm.1 hm.2 (by omega)
    exact .inr ⟨e, by rw [e2]; omega, by rw [e2]; exact k1, by rw [e2]; exact k3⟩
theorem txt_none {t : ByteArray} (h : ¬ srcE t = 0) : srcL t = [] := by unfold srcL; rw [if_neg h]
theorem of_below {w y z : World} (h : Below w.heap.size w y) (k : Below y.heap.size y z) : Below w.heap.size w z := h.trans (k.mono h.size)
end Go.Proofs.YtmaedkbmjbggpaaDoor
/- The document's reading of a source's text. -/
namespace Go.Proofs.YtmaedkbmjbggpaaDoor
open Go Go.RowKit
set_option linter.unusedVariables false
set_option maxHeartbeats 3000000
set_option maxRecDepth 20000

/-- Items that the document read so far: the list is owned, their bytes lie elsewhere. -/
structure Pz (w : World) (va : Value) (X : List Itm) (y : World) : Prop where
  own : OwnL 39 6 c6 w.heap.size y va (X.map (·.1))
  low : Below w.heap.size w y
  good : GoodL y X
  ap : ∀ x ∈ X, ∀ a, x.1.sp = some a → a.block < y.heap.size ∧ va.ownBlock ≠ some a.block
theorem Pz.nil (w : World) : Pz w (.slice none 0 0) [] w := ⟨OwnL.nil _ _, Below.refl _ _, (fun x h => by cases h), (fun x h => by cases h)⟩
theorem Pz.below {w y z : World} {va : Value} {X : List Itm} (h : Pz w va X y) (hb : Below y.heap.size y z) : Pz w va X z :=
  ⟨h.own.below hb, h.low.trans (hb.mono h.low.size), h.good.below hb, fun x hx a ha => ⟨Nat.lt_of_lt_of_le (h.ap x hx a ha).1 hb.size, (h.ap x hx a ha).2⟩⟩
theorem Pz.app {w y z : World} {va va' : Value} {X : List Itm} (h : Pz w va X y) (x : Itm) (hl : LB8 y x.1.sp x.2) (hm : x.2.length = x.1.m) (ha : ∀ a, x.1.sp = some a → a.block < y.heap.size ∧ va.ownBlock ≠ some a.block) (o : Obj) (H : App1L 39 6 c6 w.heap.size va (X.map (·.1)) x.1 va' (y.alloc o) z) : Pz w va' (X ++ [x]) z := by
  have key : ∀ a : Addr, a.block < y.heap.size → va.ownBlock ≠ some a.block → z.heap[a.block]? = y.heap[a.block]? := fun a h1 h2 => by
    have k := H.cu.blk a.block (by simp; omega) (fun j hj => h2 hj.1)
    exact k.trans ((below1 y o).block _ h1)
  have new : ∀ a : Addr, a.block < y.heap.size → va.ownBlock ≠ some a.block → a.block < z.heap.size ∧ va'.ownBlock ≠ some a.block := fun a h1 h2 => by
    refine ⟨?_, fun e => ?_⟩
    · have k1 := H.cu.low.size
      simp at k1
      omega
    · rcases H.new _ e with k | k
      · exact h2 k
      · simp at k; omega
  have ho := H.own
  rw [← List.map_singleton (f := fun x : Itm => x.1), ← List.map_append] at ho
  refine ⟨ho, (h.low.trans ((below1 y o).mono h.low.size)).trans H.cu.low, fun x' hx' => ?_, fun x' hx' a e => ?_⟩
  · rcases List.mem_append.1 hx' with h1 | h1
    · exact ⟨(h.good x' h1).1.keepB fun a e => key a (h.ap x' h1 a e).1 (h.ap x' h1 a e).2, (h.good x' h1).2⟩
    · simp at h1
      subst h1
      exact ⟨hl.keepB fun a e => key a (ha a e).1 (ha a e).2, hm⟩
  · rcases List.mem_append.1 hx' with h1 | h1
    · exact new a (h.ap x' h1 a e).1 (h.ap x' h1 a e).2
    · simp at h1
      subst h1
      exact new a (ha a e).1 (ha a e).2
theorem wordsG_szs (l : List UInt8) : ∀ (cur : List UInt8), ∀ x ∈ wordsG l cur, 0 < x.length ∧ x.length ≤ cur.length + l.length := by
  induction l with
  | nil =>
    intro cur x hx
    show _ ∧ _
    unfold wordsG pushW at hx
    split at hx
    · cases hx
    · rename_i h0
      simp at hx
      subst hx
      exact ⟨List.length_pos_iff.2 h0, by simp⟩
  | cons c r ih =>
    intro cur x hx
    unfold wordsG at hx
    have push : ∀ x ∈ pushW cur, 0 < x.length ∧ x.length ≤ cur.length := fun x hx => by
      unfold pushW at hx
      split at hx
      · cases hx
      · rename_i h0
        simp at hx
        subst hx
        exact ⟨List.length_pos_iff.2 h0, Nat.le_refl _⟩
    split at hx
    · have := push x hx
      simp; omega
    · split at hx
      · rcases List.mem_append.1 hx with h1 | h1
        · have := push x h1; simp; omega
        · have := ih [] x h1
          simp at this
          simp; omega
      · have := ih _ x hx
        simp at this
        simp; omega
theorem words_sz {s : ByteArray} {ws : List ByteArray} (h : ws.map strL = wordsG (strL s) []) : ∀ x ∈ ws, 0 < x.size ∧ x.size ≤ s.size := fun x hx => by
  have := wordsG_szs (strL s) [] (strL x) (by rw [← h]; exact List.mem_map_of_mem hx)
  rw [strL_len, strL_len] at this
  simpa using this
theorem pu_ri (q : Pu) (sp : Option Addr) (cap : Nat) : pu (q.ri sp cap, q.b) = q := by cases q; rfl
theorem lineO_none {l : List UInt8} (h : wordsA l = []) : lineO l = some [] := by unfold lineO; rw [if_pos h]
theorem lineO_item {l : List UInt8} (h : wordsA l ≠ []) : lineO l = match itemO (frontL l) (wordsA l) with
    | none => none
    | some q => some [q] := by
  unfold lineO
  rw [if_neg h]
  cases itemO (frontL l) (wordsA l) <;> rfl
/-- Where the lines have come to. -/
structure Lz (t : ByteArray) (i q L : Nat) (ls : List (List UInt8)) (X : List Itm) : Prop where
  le : q ≤ i + 1
  num : L = ls.length + 1
  at_ : i ≤ t.size → q ≤ i ∧ Lat (strL t) ls ((strL t).drop i) (((strL t).drop q).take (i - q))
  fin : i = t.size + 1 → Lat (strL t) ls [] []
  items : X.map pu = itemsO ls
  len : X.length ≤ i
theorem cut_line (t : ByteArray) {q i : Nat} (h1 : q ≤ i) (h2 : i ≤ t.size) : strL (t.extract q i) = ((strL t).drop q).take (i - q) := strL_extract t q i h1 h2

theorem dparse_any (w : World) (t : ByteArray) (ht : t.size ≤ 9223372036854775807) :
    Calls Tryd.prog 16 #[.string t] w fun e w' => ∃ sp cap X, e = .returned (.tuple #[.slice sp (X : List Itm).length cap, .int .i64 (srcE t), .int .i64 (srcN t)]) ∧ Hid (Below w.heap.size w w' ∧ Lv w' sp X ∧ X.map pu = srcL t ∧ X.length ≤ 4096) := by
  have ti : (t.size : Int) ≤ 9223372036854775807 := by omega
  by_cases hbig : 65536 < t.size
  · obtain ⟨e1, e2, e3⟩ := src_long hbig
    rw [e1, e2, e3]
    have q : decide ((65536 : Int) < t.size) = true := by simp; omega
    clear hbig e1 e2 e3 ht
    go_enter Tryd.func16, Tryd.ntmps16
    go_wp2
    go_ret3
    exact ⟨none, 0, [], rfl, Below.refl _ _, ⟨fun j a h => by simp at h, (fun x h => by cases h), (fun x h => by cases h)⟩, rfl, Nat.zero_le _⟩
  have q : decide ((65536 : Int) < t.size) = false := by simp; omega
  have hsm : Hid (¬ 65536 < t.size) := hbig
  have t6 : (t.size : Int) ≤ 65536 := by omega
  obtain ⟨EE, hEE⟩ : ∃ x, srcE t = x := ⟨_, rfl⟩
  obtain ⟨NN, hNN⟩ : ∃ x, srcN t = x := ⟨_, rfl⟩
  obtain ⟨LL, hLL⟩ : ∃ x, srcL t = x := ⟨_, rfl⟩
  have hSrc : Hid (srcE t = EE ∧ srcN t = NN ∧ srcL t = LL) := ⟨hEE, hNN, hLL⟩
  rw [hEE, hNN, hLL]
  have hmay : Hid (∀ x ∈ LL, mayP x = true) := by rw [← hLL]; exact (srcL_may t).1
  have hbad : Hid (∀ i, badO (linesG (strL t) []) 1 = some i → EE = 131 ∧ NN = (i : Int) ∧ LL = []) := fun i h => by
    have k := src_bad hsm.out h
    rw [hEE, hNN, hLL] at k
    exact k
  have hdone : Hid (∀ ls, Lat (strL t) ls [] [] → NN = 0 ∧ (4096 < (itemsO ls).length → EE = 2 ∧ LL = []) ∧ (¬ 4096 < (itemsO ls).length → EE = 0 ∧ LL = itemsO ls)) := fun ls h => by
    have k := src_done hsm.out h
    rw [hEE, hNN, hLL] at k
    exact k
  clear hEE hNN hLL hbig ht
  go_enter Tryd.func16, Tryd.ntmps16
  go_wp2
  go_loopw [5, 6, 7, 8] (fun o l b i wz => ∃ (k q L : Nat) (va : Value) (ls : List (List UInt8)) (X : List Itm) (y : World), y = wz ∧ va = o ∧ l = .int .i64 (L : Int) ∧ b = .int .i64 (q : Int) ∧ i = .int .i64 (k : Int) ∧ Hid (k ≤ t.size + 1 ∧ L ≤ k + 1 ∧ Lz t k q L ls X) ∧ Hid (Pz w va X y)) (fun _ _ _ i _ => (t.size + 1 - intOf i).toNat)
  case atStart => exact ⟨0, 0, 1, _, [], [], w, rfl, rfl, rfl, rfl, rfl, ⟨by omega, by omega, ⟨by omega, rfl, fun _ => ⟨by omega, by simpa using Lat.start (strL t)⟩, fun e => by omega, rfl, by simp⟩⟩, Pz.nil w⟩
  case round =>
    obtain ⟨k, q, L, va, ls, X, y, rfl, rfl, rfl, rfl, rfl, J, K⟩ := hrel
    by_cases hend : k ≤ t.size
    · obtain ⟨hqk, hLat⟩ := J.out.2.2.at_ hend
      have hki : (k : Int) ≤ t.size := by omega
      have hqi : (q : Int) ≤ k := by omega
      have Li : (L : Int) ≤ 65538 := by have := J.out.2.1; omega
      by_cases hlt : k < t.size
      · have hkl : (k : Int) < t.size := by omega
        have hget := strL_get t k hlt
        have hdr : (strL t).drop k = (t[k]'hlt) :: (strL t).drop (k + 1) := drop_at hget
        rw [hdr] at hLat
        by_cases b10 : t[k]'hlt = 10
        · have e1 : (((t[k]'hlt).toNat : Int) != 10) = false := by rw [b10]; decide
          rw [b10] at hLat
          have hke : ((k : Int) == t.size) = false := by rw [beq_eq_false_iff_ne]; omega
          have hgood : Hid (∀ x Y, lineO (strL (t.extract q k)) = some x → Y.map pu = X.map pu ++ x → Y.length ≤ k + 1 → Lz t (k + 1) (k + 1) (L + 1) (ls ++ [strL (t.extract q k)]) Y) := fun x Y hx hY hYl => by
            rw [cut_line t hqk hend] at hx ⊢
            refine ⟨by omega, by rw [J.out.2.2.num]; simp, fun _ => ⟨Nat.le_refl _, ?_⟩, fun e => by omega, ?_, hYl⟩
            · rw [Nat.sub_self, List.take_zero]
              exact hLat.line hx
            · rw [hY, J.out.2.2.items, itemsO_app, itemsO_one, hx]
              rfl
          have hbd : Hid (lineO (strL (t.extract q k)) = none → EE = 131 ∧ NN = (L : Int) ∧ LL = []) := fun hx => by
            rw [cut_line t hqk hend] at hx
            have := hbad.out _ (hLat.bad hx)
            rw [J.out.2.2.num]
            exact this
          have hsz : (t.extract q k).size ≤ 65536 := by rw [← strL_len, cut_line t hqk hend]; rw [List.length_take, List.length_drop, strL_len]; omega
          obtain ⟨s, hs⟩ : ∃ s, t.extract q k = s := ⟨_, rfl⟩
          rw [hs] at hgood hbd hsz
          have hex : Hid (t.extract q k = s) := hs
          have hW := rwordsI_any y s (by omega)
          have hkt' : Hid (k ≤ t.size ∧ L ≤ k + 1 ∧ X.length ≤ k) := ⟨hend, J.out.2.1, J.out.2.2.len⟩
          replace hLat : Hid _ := hLat
          replace hdr : Hid _ := hdr
          replace hget : Hid _ := hget
          replace b10 : Hid _ := b10
          clear hend hqk hs J
          go_wp2_with (go_at_call 33; rw [hex.out]; refine hW.mono ?_; rintro e y1 ⟨v1, ws, rfl, H1⟩; obtain ⟨sp, cap, rfl, hlt1⟩ := H1.out.1.open; have hws : Hid (ws.map strL = wordsG (strL s) [] ∧ ws.length ≤ s.size + 1) := H1.out.2; have low1 : Hid (Below y.heap.size y y1 ∧ LiesT y1 sp ws) := ⟨H1.out.1.2, hlt1⟩; clear H1 hlt1; refine stopAt ?_)
          refine Stop.go ?_
          have K1 : Hid (Pz w va X y1) := K.out.below low1.out.1
          have hwA : Hid (ws = wordsA (strL s)) := wordsA_of hws.out.1
          by_cases hw0 : ws = []
          · have hl : Hid (lineO (strL s) = some []) := lineO_none (by rw [← hwA.out]; exact hw0)
            have J2 : Hid (k + 1 ≤ t.size + 1 ∧ L + 1 ≤ k + 1 + 1 ∧ Lz t (k + 1) (k + 1) (L + 1) (ls ++ [strL s]) X) := ⟨by have := hkt'.out; omega, by have := hkt'.out; omega, hgood.out [] X hl.out (by simp) (by have := hkt'.out; omega)⟩
            subst hw0
            go_wp2
            go_roundw
            case rel => exact ⟨k + 1, k + 1, L + 1, va, _, X, _, rfl, rfl, by simp, by simp, by simp, J2, K1⟩
            case measure => have := hkt'.out; simp [intOf]; omega
          · have hwl : 0 < ws.length := List.length_pos_iff.2 hw0
            have hss : 0 < s.size := by
              rcases hws0 : ws with _ | ⟨x, r⟩
              · exact absurd hws0 hw0
              · have := words_sz hws.out.1 x (by rw [hws0]; exact List.mem_cons_self ..)
                omega
            have wsi : (ws.length : Int) ≤ 65537 := by have := hws.out.2; omega
            have wgt : (0 : Int) < ws.length := by omega
            have s0i : (0 : Int) < s.size := by omega
            have hR : Hid (∀ F, frontL (strL s) = F → Calls Tryd.prog 34 #[.slice sp ws.length cap, .bool F] y1 (RrE y1 (itemO (frontL (strL s)) ws))) := fun F hF => by
              rw [hF]
              exact dread_any y1 sp cap ws F low1.out.2 hwl (by omega) (fun x hx => ⟨(words_sz hws.out.1 x hx).1, by have := (words_sz hws.out.1 x hx).2; omega⟩)
            have hlo : Hid (lineO (strL s) = match itemO (frontL (strL s)) ws with | none => none | some q => some [q]) := by
              show _ = _
              rw [lineO_item (by rw [← hwA.out]; exact hw0), ← hwA.out]
            have hfr : frontL (strL s) = decide (s[0]'hss ≠ 32 ∧ s[0]'hss ≠ 9) := by
              have hg := strL_get s 0 hss
              rcases hd : strL s with _ | ⟨c, r⟩
              · rw [hd] at hg; simp at hg
              · rw [hd] at hg
                simp at hg
                subst hg
                rfl
            have hcase : ((((s[0]'hss).toNat : Int) != 32) = false ∧ frontL (strL s) = false) ∨ ((((s[0]'hss).toNat : Int) != 32) = true ∧ (((s[0]'hss).toNat : Int) != 9) = false ∧ frontL (strL s) = false) ∨ ((((s[0]'hss).toNat : Int) != 32) = true ∧ (((s[0]'hss).toNat : Int) != 9) = true ∧ frontL (strL s) = true) := by
              have ne : ∀ c : UInt8, s[0]'hss ≠ c → (((s[0]'hss).toNat : Int) != (c.toNat : Int)) = true := fun c h => by
                rw [bne_iff_ne]
                intro e
                exact h (UInt8.toNat_inj.1 (by omega))
              rw [hfr]
              by_cases c1 : s[0]'hss = 32
              · exact .inl ⟨by rw [c1]; decide, decide_eq_false (fun h => h.1 c1)⟩
              · by_cases c2 : s[0]'hss = 9
                · exact .inr (.inl ⟨ne 32 c1, by rw [c2]; decide, decide_eq_false (fun h => h.2 c2)⟩)
                · exact .inr (.inr ⟨ne 32 c1, ne 9 c2, decide_eq_true ⟨c1, c2⟩⟩)
            have hapart : Hid (∀ r q, Rb y1 r q y1 → True) := fun _ _ _ => trivial
            obtain ⟨n, hnl⟩ : ∃ n, ws.length = n := ⟨_, rfl⟩
            rw [hnl] at wsi wgt hR ⊢
            obtain ⟨o, ho⟩ : ∃ o, itemO (frontL (strL s)) ws = o := ⟨_, rfl⟩
            rw [ho] at hR hlo
            clear hfr ho hwl hw0 hnl hapart
            rcases o with _ | it
            · have fin : Hid (EE = 131 ∧ NN = (L : Int) ∧ LL = []) := hbd.out hlo.out
              rcases hcase with ⟨f1, f3⟩ | ⟨f1, f2, f3⟩ | ⟨f1, f2, f3⟩
              all_goals
                have hcall := hR.out _ f3
                replace f3 : Hid _ := f3
                go_wp2_with (first
                  | (go_at_call 34; refine hcall.mono ?_; rintro e y2 ⟨r, rfl, H2⟩; have K2 : Hid (Below w.heap.size w y2) := K1.out.low.trans (H2.out.1.mono K1.out.low.size); clear H2)
                  | ((with_reducible refine gen_world (y2.alloc (.cells #[.int .u8 0, .string ⟨#[]⟩, .int .i64 0, .string ⟨#[]⟩, .int .u8 0, .slice none 0 0] 39)) (fun u => Bx u y2.heap.size (i6 z6) 39 ∧ Below w.heap.size w u) ?_ ?_); exact ⟨one_bxL _ _ _, K2.out.trans ((below1 _ _).mono K2.out.size)⟩; intro y3 K3)
                  | ((with_reducible refine at_st rt6 y2.heap.size (i6 z6) (i6 r) ?_ ?_ ?_ ?_ (.tmp 12) (.tmp 65) ?_ ?_ ?_ ?_ ?_); exact K3.out.1; rfl; rfl; exact i6_one _; rfl; rfl; rfl; rfl; intro y4 hw4; have K4 : Hid (Below w.heap.size w y4) := K3.out.2.trans (hw4.out.2.1 _ K2.out.size); clear hw4))
                go_ret3
                rw [fin.out.1, fin.out.2.1, fin.out.2.2]
                exact ⟨none, 0, [], rfl, K4.out, ⟨fun j a h => by simp at h, (fun x h => by cases h), (fun x h => by cases h)⟩, rfl, Nat.zero_le _⟩
            · rcases hcase with ⟨f1, f3⟩ | ⟨f1, f2, f3⟩ | ⟨f1, f2, f3⟩
              all_goals
                have hcall := hR.out _ f3
                replace f3 : Hid _ := f3
                go_wp2_with (first
                  | (go_at_call 34; refine hcall.mono ?_; rintro e y2 ⟨r, rfl, H2⟩; have K2 : Hid (Pz w va X y2 ∧ Rb y1 r it y2 ∧ y1.heap.size ≤ y2.heap.size) := ⟨K1.out.below H2.out.1, H2.out.2 it rfl, H2.out.1.size⟩; clear H2)
                  | ((with_reducible refine gen_world (y2.alloc (.cells #[.int .u8 0, .string ⟨#[]⟩, .int .i64 0, .string ⟨#[]⟩, .int .u8 0, .slice none 0 0] 39)) (fun u => Bx u y2.heap.size (i6 z6) 39 ∧ Below y2.heap.size y2 u) ?_ ?_); exact ⟨one_bxL _ _ _, below1 _ _⟩; intro y3 K3)
                  | ((with_reducible refine at_st rt6 y2.heap.size (i6 z6) (i6 r) ?_ ?_ ?_ ?_ (.tmp 12) (.tmp 65) ?_ ?_ ?_ ?_ ?_); exact K3.out.1; rfl; rfl; exact i6_one _; rfl; rfl; rfl; rfl; intro y4 hw4; have K4 : Hid (Bx y4 y2.heap.size (i6 r) 39 ∧ Below y2.heap.size y2 y4) := ⟨hw4.out.1, K3.out.2.trans (hw4.out.2.1 _ (Nat.le_refl _))⟩; clear hw4)
                  | ((with_reducible refine at_load rt6 y2.heap.size (i6 r) ?_ ?_ (.tmp 12) ?_ ?_ ?_ ?_); exact K4.out.1; rfl; rfl; rfl; rfl)
                  | ((with_reducible refine at_bsI r (.tmp 71) ?_ ?_ ?_ ?_); rfl; rfl; rfl)
                  | (at_builtin; refine at_appL kItem rfl (.tmp 70) (.tmp 72) rfl w.heap.size va (X.map (·.1)) rfl (((K2.out.1.below K4.out.2).own).alloc _) y4.heap.size r rfl (one_bxL _ _ _) ?_ ?_ ?_; (rw [List.length_map]; have := hkt'.out; omega); (have := (K2.out.1.below K4.out.2).low.size; simp; omega); intro va' y12 H12; have K12 : Hid (Pz w va' (X ++ [(r, it.b)]) y12) := (K2.out.1.below K4.out.2).app (r, it.b) (K2.out.2.1.l.below K4.out.2) (by have e := K2.out.2.1.e; show it.b.length = r.m; rw [e]; rfl) (fun a ha => by
                      have h1 := K2.out.2.1.b a ha
                      have h2 := K4.out.2.size
                      refine ⟨by omega, fun e => ?_⟩
                      have h3 := (K1.out.own.lt a.block e).2
                      omega) _ H12.out; clear H12))
                have J2 : Hid (k + 1 ≤ t.size + 1 ∧ L + 1 ≤ k + 1 + 1 ∧ Lz t (k + 1) (k + 1) (L + 1) (ls ++ [strL s]) (X ++ [(r, it.b)])) := ⟨by have := hkt'.out; omega, by have := hkt'.out; omega, hgood.out [it] _ hlo.out (by
                  have e := K2.out.2.1.e
                  rw [List.map_append, List.map_singleton, show pu (r, it.b) = it from by rw [e]; exact pu_ri it _ _]) (by have := hkt'.out; simp; omega)⟩
                go_roundw
                case rel => exact ⟨k + 1, k + 1, L + 1, va', _, _, _, rfl, rfl, by simp, by simp, by simp, J2, K12⟩
                case measure => have := hkt'.out; simp [intOf]; omega
        · have e1 : (((t[k]'hlt).toNat : Int) != 10) = true := by
            rw [bne_iff_ne]
            intro e
            exact b10 (UInt8.toNat_inj.1 (by show (t[k]'hlt).toNat = 10; omega))
          have J2 : Hid (k + 1 ≤ t.size + 1 ∧ L ≤ k + 1 + 1 ∧ Lz t (k + 1) q L ls X) := by
            refine ⟨by omega, by have := J.out.2.1; omega, ⟨by omega, J.out.2.2.num, fun _ => ⟨by omega, ?_⟩, fun e => by omega, J.out.2.2.items, by have := J.out.2.2.len; omega⟩⟩
            have := hLat.more b10
            rw [← take_end hqk hget] at this
            exact this
          replace hget : Hid _ := hget
          replace hLat : Hid _ := hLat
          replace hdr : Hid _ := hdr
          replace b10 : Hid _ := b10
          have hend' : Hid (k ≤ t.size) := hend
          clear hend hqk
          go_wp2
          go_roundw
          case rel => exact ⟨k + 1, q, L, va, ls, X, _, rfl, rfl, rfl, rfl, by simp, J2, K⟩
          case measure => have := hend'.out; simp [intOf]; omega
      · have hke : k = t.size := by omega
        have hdr : (strL t).drop k = [] := List.drop_eq_nil_of_le (by rw [strL_len]; omega)
        rw [hdr] at hLat
        have hkn : decide ((k : Int) < t.size) = false := by simp; omega
        have hkn2 : ¬ (k : Int) < t.size := by omega
        have hkt : ((k : Int) == t.size) = true := by rw [beq_iff_eq]; omega
        by_cases hqe : q = k
        · have hq2 : ((q : Int) == k) = true := by rw [beq_iff_eq]; omega
          have J2 : Hid (k + 1 ≤ t.size + 1 ∧ L ≤ k + 1 + 1 ∧ Lz t (k + 1) q L ls X) := by
            refine ⟨by omega, by have := J.out.2.1; omega, ⟨by omega, J.out.2.2.num, fun h => by omega, fun e => ?_, J.out.2.2.items, by have := J.out.2.2.len; omega⟩⟩
            rw [hqe, Nat.sub_self, List.take_zero] at hLat
            exact hLat
          replace hLat : Hid _ := hLat
          replace hdr : Hid _ := hdr
          have hend' : Hid (k ≤ t.size) := hend
          clear hend hqk hlt hke hqe
          go_wp2
          go_roundw
          case rel => exact ⟨k + 1, q, L, va, ls, X, _, rfl, rfl, rfl, rfl, by simp, J2, K⟩
          case measure => have := hend'.out; simp [intOf]; omega
        · have hq2 : ((q : Int) == k) = false := by rw [beq_eq_false_iff_ne]; omega
          have hcn : ((strL t).drop q).take (k - q) ≠ [] := by
            intro e
            have := congrArg List.length e
            rw [List.length_take, List.length_drop, strL_len] at this
            simp at this
            omega
          have hgood : Hid (∀ x Y, lineO (strL (t.extract q k)) = some x → Y.map pu = X.map pu ++ x → Y.length ≤ k + 1 → Lz t (k + 1) (k + 1) (L + 1) (ls ++ [strL (t.extract q k)]) Y) := fun x Y hx hY hYl => by
            rw [cut_line t hqk hend] at hx ⊢
            refine ⟨by omega, by rw [J.out.2.2.num]; simp, fun h => by omega, fun _ => hLat.last hcn hx, ?_, hYl⟩
            rw [hY, J.out.2.2.items, itemsO_app, itemsO_one, hx]
            rfl
          have hbd : Hid (lineO (strL (t.extract q k)) = none → EE = 131 ∧ NN = (L : Int) ∧ LL = []) := fun hx => by
            rw [cut_line t hqk hend] at hx
            have := hbad.out _ (hLat.badLast hcn hx)
            rw [J.out.2.2.num]
            exact this
          clear hke hqe hcn
          have hsz : (t.extract q k).size ≤ 65536 := by rw [← strL_len, cut_line t hqk hend]; rw [List.length_take, List.length_drop, strL_len]; omega
          obtain ⟨s, hs⟩ : ∃ s, t.extract q k = s := ⟨_, rfl⟩
          rw [hs] at hgood hbd hsz
          have hex : Hid (t.extract q k = s) := hs
          have hW := rwordsI_any y s (by omega)
          have hkt' : Hid (k ≤ t.size ∧ L ≤ k + 1 ∧ X.length ≤ k) := ⟨hend, J.out.2.1, J.out.2.2.len⟩
          replace hLat : Hid _ := hLat
          replace hdr : Hid _ := hdr
          clear hend hqk hlt hs J
          go_wp2_with (go_at_call 33; rw [hex.out]; refine hW.mono ?_; rintro e y1 ⟨v1, ws, rfl, H1⟩; obtain ⟨sp, cap, rfl, hlt1⟩ := H1.out.1.open; have hws : Hid (ws.map strL = wordsG (strL s) [] ∧ ws.length ≤ s.size + 1) := H1.out.2; have low1 : Hid (Below y.heap.size y y1 ∧ LiesT y1 sp ws) := ⟨H1.out.1.2, hlt1⟩; clear H1 hlt1; refine stopAt ?_)
          refine Stop.go ?_
          have K1 : Hid (Pz w va X y1) := K.out.below low1.out.1
          have hwA : Hid (ws = wordsA (strL s)) := wordsA_of hws.out.1
          by_cases hw0 : ws = []
          · have hl : Hid (lineO (strL s) = some []) := lineO_none (by rw [← hwA.out]; exact hw0)
            have J2 : Hid (k + 1 ≤ t.size + 1 ∧ L + 1 ≤ k + 1 + 1 ∧ Lz t (k + 1) (k + 1) (L + 1) (ls ++ [strL s]) X) := ⟨by have := hkt'.out; omega, by have := hkt'.out; omega, hgood.out [] X hl.out (by simp) (by have := hkt'.out; omega)⟩
            subst hw0
            go_wp2
            go_roundw
            case rel => exact ⟨k + 1, k + 1, L + 1, va, _, X, _, rfl, rfl, by simp, by simp, by simp, J2, K1⟩
            case measure => have := hkt'.out; simp [intOf]; omega
          · have hwl : 0 < ws.length := List.length_pos_iff.2 hw0
            have hss : 0 < s.size := by
              rcases hws0 : ws with _ | ⟨x, r⟩
              · exact absurd hws0 hw0
              · have := words_sz hws.out.1 x (by rw [hws0]; exact List.mem_cons_self ..)
                omega
            have wsi : (ws.length : Int) ≤ 65537 := by have := hws.out.2; omega
            have wgt : (0 : Int) < ws.length := by omega
            have s0i : (0 : Int) < s.size := by omega
            have hR : Hid (∀ F, frontL (strL s) = F → Calls Tryd.prog 34 #[.slice sp ws.length cap, .bool F] y1 (RrE y1 (itemO (frontL (strL s)) ws))) := fun F hF => by
              rw [hF]
              exact dread_any y1 sp cap ws F low1.out.2 hwl (by omega) (fun x hx => ⟨(words_sz hws.out.1 x hx).1, by have := (words_sz hws.out.1 x hx).2; omega⟩)
            have hlo : Hid (lineO (strL s) = match itemO (frontL (strL s)) ws with | none => none | some q => some [q]) := by
              show _ = _
              rw [lineO_item (by rw [← hwA.out]; exact hw0), ← hwA.out]
            have hfr : frontL (strL s) = decide (s[0]'hss ≠ 32 ∧ s[0]'hss ≠ 9) := by
              have hg := strL_get s 0 hss
              rcases hd : strL s with _ | ⟨c, r⟩
              · rw [hd] at hg; simp at hg
              · rw [hd] at hg
                simp at hg
                subst hg
                rfl
            have hcase : ((((s[0]'hss).toNat : Int) != 32) = false ∧ frontL (strL s) = false) ∨ ((((s[0]'hss).toNat : Int) != 32) = true ∧ (((s[0]'hss).toNat : Int) != 9) = false ∧ frontL (strL s) = false) ∨ ((((s[0]'hss).toNat : Int) != 32) = true ∧ (((s[0]'hss).toNat : Int) != 9) = true ∧ frontL (strL s) = true) := by
              have ne : ∀ c : UInt8, s[0]'hss ≠ c → (((s[0]'hss).toNat : Int) != (c.toNat : Int)) = true := fun c h => by
                rw [bne_iff_ne]
                intro e
                exact h (UInt8.toNat_inj.1 (by omega))
              rw [hfr]
              by_cases c1 : s[0]'hss = 32
              · exact .inl ⟨by rw [c1]; decide, decide_eq_false (fun h => h.1 c1)⟩
              · by_cases c2 : s[0]'hss = 9
                · exact .inr (.inl ⟨ne 32 c1, by rw [c2]; decide, decide_eq_false (fun h => h.2 c2)⟩)
                · exact .inr (.inr ⟨ne 32 c1, ne 9 c2, decide_eq_true ⟨c1, c2⟩⟩)
            have hapart : Hid (∀ r q, Rb y1 r q y1 → True) := fun _ _ _ => trivial
            obtain ⟨n, hnl⟩ : ∃ n, ws.length = n := ⟨_, rfl⟩
            rw [hnl] at wsi wgt hR ⊢
            obtain ⟨o, ho⟩ : ∃ o, itemO (frontL (strL s)) ws = o := ⟨_, rfl⟩
            rw [ho] at hR hlo
            clear hfr ho hwl hw0 hnl hapart
            rcases o with _ | it
            · have fin : Hid (EE = 131 ∧ NN = (L : Int) ∧ LL = []) := hbd.out hlo.out
              rcases hcase with ⟨f1, f3⟩ | ⟨f1, f2, f3⟩ | ⟨f1, f2, f3⟩
              all_goals
                have hcall := hR.out _ f3
                replace f3 : Hid _ := f3
                go_wp2_with (first
                  | (go_at_call 34; refine hcall.mono ?_; rintro e y2 ⟨r, rfl, H2⟩; have K2 : Hid (Below w.heap.size w y2) := K1.out.low.trans (H2.out.1.mono K1.out.low.size); clear H2)
                  | ((with_reducible refine gen_world (y2.alloc (.cells #[.int .u8 0, .string ⟨#[]⟩, .int .i64 0, .string ⟨#[]⟩, .int .u8 0, .slice none 0 0] 39)) (fun u => Bx u y2.heap.size (i6 z6) 39 ∧ Below w.heap.size w u) ?_ ?_); exact ⟨one_bxL _ _ _, K2.out.trans ((below1 _ _).mono K2.out.size)⟩; intro y3 K3)
                  | ((with_reducible refine at_st rt6 y2.heap.size (i6 z6) (i6 r) ?_ ?_ ?_ ?_ (.tmp 12) (.tmp 65) ?_ ?_ ?_ ?_ ?_); exact K3.out.1; rfl; rfl; exact i6_one _; rfl; rfl; rfl; rfl; intro y4 hw4; have K4 : Hid (Below w.heap.size w y4) := K3.out.2.trans (hw4.out.2.1 _ K2.out.size); clear hw4))
                go_ret3
                rw [fin.out.1, fin.out.2.1, fin.out.2.2]
                exact ⟨none, 0, [], rfl, K4.out, ⟨fun j a h => by simp at h, (fun x h => by cases h), (fun x h => by cases h)⟩, rfl, Nat.zero_le _⟩
            · rcases hcase with ⟨f1, f3⟩ | ⟨f1, f2, f3⟩ | ⟨f1, f2, f3⟩
              all_goals
                have hcall := hR.out _ f3
                replace f3 : Hid _ := f3
                go_wp2_with (first
                  | (go_at_call 34; refine hcall.mono ?_; rintro e y2 ⟨r, rfl, H2⟩; have K2 : Hid (Pz w va X y2 ∧ Rb y1 r it y2 ∧ y1.heap.size ≤ y2.heap.size) := ⟨K1.out.below H2.out.1, H2.out.2 it rfl, H2.out.1.size⟩; clear H2)
                  | ((with_reducible refine gen_world (y2.alloc (.cells #[.int .u8 0, .string ⟨#[]⟩, .int .i64 0, .string ⟨#[]⟩, .int .u8 0, .slice none 0 0] 39)) (fun u => Bx u y2.heap.size (i6 z6) 39 ∧ Below y2.heap.size y2 u) ?_ ?_); exact ⟨one_bxL _ _ _, below1 _ _⟩; intro y3 K3)
                  | ((with_reducible refine at_st rt6 y2.heap.size (i6 z6) (i6 r) ?_ ?_ ?_ ?_ (.tmp 12) (.tmp 65) ?_ ?_ ?_ ?_ ?_); exact K3.out.1; rfl; rfl; exact i6_one _; rfl; rfl; rfl; rfl; intro y4 hw4; have K4 : Hid (Bx y4 y2.heap.size (i6 r) 39 ∧ Below y2.heap.size y2 y4) := ⟨hw4.out.1, K3.out.2.trans (hw4.out.2.1 _ (Nat.le_refl _))⟩; clear hw4)
                  | ((with_reducible refine at_load rt6 y2.heap.size (i6 r) ?_ ?_ (.tmp 12) ?_ ?_ ?_ ?_); exact K4.out.1; rfl; rfl; rfl; rfl)
                  | ((with_reducible refine at_bsI r (.tmp 71) ?_ ?_ ?_ ?_); rfl; rfl; rfl)
                  | (at_builtin; refine at_appL kItem rfl (.tmp 70) (.tmp 72) rfl w.heap.size va (X.map (·.1)) rfl (((K2.out.1.below K4.out.2).own).alloc _) y4.heap.size r rfl (one_bxL _ _ _) ?_ ?_ ?_; (rw [List.length_map]; have := hkt'.out; omega); (have := (K2.out.1.below K4.out.2).low.size; simp; omega); intro va' y12 H12; have K12 : Hid (Pz w va' (X ++ [(r, it.b)]) y12) := (K2.out.1.below K4.out.2).app (r, it.b) (K2.out.2.1.l.below K4.out.2) (by have e := K2.out.2.1.e; show it.b.length = r.m; rw [e]; rfl) (fun a ha => by
                      have h1 := K2.out.2.1.b a ha
                      have h2 := K4.out.2.size
                      refine ⟨by omega, fun e => ?_⟩
                      have h3 := (K1.out.own.lt a.block e).2
                      omega) _ H12.out; clear H12))
                have J2 : Hid (k + 1 ≤ t.size + 1 ∧ L + 1 ≤ k + 1 + 1 ∧ Lz t (k + 1) (k + 1) (L + 1) (ls ++ [strL s]) (X ++ [(r, it.b)])) := ⟨by have := hkt'.out; omega, by have := hkt'.out; omega, hgood.out [it] _ hlo.out (by
                  have e := K2.out.2.1.e
                  rw [List.map_append, List.map_singleton, show pu (r, it.b) = it from by rw [e]; exact pu_ri it _ _]) (by have := hkt'.out; simp; omega)⟩
                go_roundw
                case rel => exact ⟨k + 1, k + 1, L + 1, va', _, _, _, rfl, rfl, by simp, by simp, by simp, J2, K12⟩
                case measure => have := hkt'.out; simp [intOf]; omega
    · have hke : k = t.size + 1 := by have := J.out.1; omega
      have hkn : decide ((k : Int) ≤ t.size) = false := by simp; omega
      have hkn2 : ¬ (k : Int) ≤ t.size := by omega
      obtain ⟨d1, d2, d3⟩ := hdone.out ls (J.out.2.2.fin hke)
      have hil : (itemsO ls).length = X.length := by rw [← J.out.2.2.items, List.length_map]
      rw [hil] at d2 d3
      have hit : Hid (X.map pu = itemsO ls) := J.out.2.2.items
      have hxl := J.out.2.2.len
      obtain ⟨sp, cap, e, hl, _⟩ := K.out.own.open kItem.len
      rw [List.length_map] at e
      subst e
      obtain ⟨m, hm⟩ : ∃ m, X.length = m := ⟨_, rfl⟩
      have hmm : Hid (X.length = m) := hm
      rw [hm] at d2 d3 hxl ⊢
      have mi : (m : Int) ≤ 65537 := by have := J.out.1; omega
      replace hl : Hid _ := hl
      by_cases h4 : 4096 < m
      · obtain ⟨a1, a2⟩ := d2 h4
        have q4 : (4096 : Int) < m := by omega
        have fin : Hid (EE = 2 ∧ NN = 0 ∧ LL = []) := ⟨a1, d1, a2⟩
        clear h4 d1 d2 d3 a1 a2 hend hke hil hxl hm
        go_wp2
        go_ret3
        rw [fin.out.1, fin.out.2.1, fin.out.2.2]
        exact ⟨none, 0, [], rfl, K.out.low, ⟨fun j a h => by simp at h, (fun x h => by cases h), (fun x h => by cases h)⟩, rfl, Nat.zero_le _⟩
      · obtain ⟨a1, a2⟩ := d3 h4
        have q4 : ¬ (4096 : Int) < m := by omega
        have fin : Hid (EE = 0 ∧ NN = 0 ∧ LL = itemsO ls ∧ m ≤ 4096) := ⟨a1, d1, a2, by omega⟩
        clear h4 d1 d2 d3 a1 a2 hend hke hil hxl hm
        go_wp2
        go_ret3
        rw [fin.out.1, fin.out.2.1]
        refine ⟨sp, cap, X, (by rw [hmm.out]; rfl), K.out.low, ⟨hl.out, K.out.good, fun x hx => may_small (q := pu x) (hmay.out _ ?_)⟩, by rw [fin.out.2.2.1]; exact hit.out, by rw [hmm.out]; exact fin.out.2.2.2⟩
        rw [fin.out.2.2.1, ← hit.out]
        exact List.mem_map_of_mem hx
end Go.Proofs.YtmaedkbmjbggpaaDoor
