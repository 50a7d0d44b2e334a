/- The five rows of fields, made in whatever order. -/
import Derived.Test.YthaijjehplomfaaDoorJ4
namespace Go.Proofs.YthaijjehplomfaaDoor
open Go Go.RowKit
set_option linter.unusedVariables false
set_option maxHeartbeats 1000000
set_option maxRecDepth 20000

theorem reg6 {ops : Array Oper} {Q : Exit → Act → World → Prop} {id : Nat} {w : World} {a : Act} {y0 : World} {b0 b1 b2 b3 b4 : Nat} (hsz : ops.size = 19) (hu : upB .any ops = true)
    (o0 : LdAt ops 0 16 5)
    (o1 : BsAt ops 1 17 1 #[(0, .tmp 16)] [0])
    (o2 : LdAt ops 2 18 1)
    (o3 : BsAt ops 3 19 1 #[(0, .tmp 18)] [2])
    (o4 : LdAt ops 4 20 1)
    (o5 : LdAt ops 5 21 2)
    (o6 : BsAt ops 6 22 2 #[(0, .tmp 20), (1, .tmp 21)] [4, 5])
    (o7 : LdAt ops 7 23 1)
    (o8 : LdAt ops 8 24 4)
    (o9 : BsAt ops 9 25 2 #[(0, .tmp 23), (1, .tmp 24)] [7, 8])
    (o10 : LdAt ops 10 26 1)
    (o11 : LdAt ops 11 27 2)
    (o12 : LdAt ops 12 28 3)
    (o13 : BsAt ops 13 29 3 #[(0, .tmp 26), (1, .tmp 27), (2, .tmp 28)] [10, 11, 12])
    (o14 : AsAt ops 14 6 17 1)
    (o15 : AsAt ops 15 7 19 3)
    (o16 : AsAt ops 16 8 22 6)
    (o17 : AsAt ops 17 9 25 9)
    (o18 : AsAt ops 18 10 29 13)
    (hF : Fm w [(b0, (fdC 0).toArray, 59), (b1, (fdC 1).toArray, 59), (b2, (fdC 2).toArray, 59), (b3, (fdC 3).toArray, 59), (b4, (fdC 4).toArray, 59)] y0) (ha : a = act6 b0 b1 b2 b3 b4 undef undef undef undef undef undef undef undef undef undef undef undef undef undef undef undef undef undef undef)
    (fin : ∀ (y : World) (v6 v7 v8 v9 v10 v16 v17 v18 v19 v20 v21 v22 v23 v24 v25 v26 v27 v28 v29 : Value), Hid (Fm w [(b0, (fdC 0).toArray, 59), (b1, (fdC 1).toArray, 59), (b2, (fdC 2).toArray, 59), (b3, (fdC 3).toArray, 59), (b4, (fdC 4).toArray, 59)] y) → Hid (Sl y [4] v6) → Hid (Sl y [0] v7) → Hid (Sl y [0, 1] v8) → Hid (Sl y [0, 3] v9) → Hid (Sl y [0, 1, 2] v10) → Q .normal (act6 b0 b1 b2 b3 b4 v6 v7 v8 v9 v10 v16 v17 v18 v19 v20 v21 v22 v23 v24 v25 v26 v27 v28 v29) y) : (Code.region id ops true).wp Tryd.prog Q a y0 := by
  refine region_inv (I6 w b0 b1 b2 b3 b4) (by kernel_rfl) hu (fun s a y h => by rw [h.1, hsz]) ?_ ?_ ?_
  · rw [hsz]
    refine ⟨rfl, hF.below ⟨rfl, rfl, rfl, Nat.le_refl _, fun _ _ => rfl⟩, undef, undef, undef, undef, undef, undef, undef, undef, undef, undef, undef, undef, undef, undef, undef, undef, undef, undef, undef, ha, fun h => absurd h (by decide), fun h => absurd h (by decide), fun h => absurd h (by decide), fun h => absurd h (by decide), fun h => absurd h (by decide), fun h => absurd h (by decide), fun h => absurd h (by decide), fun h => absurd h (by decide), fun h => absurd h (by decide), fun h => absurd h (by decide), fun h => absurd h (by decide), fun h => absurd h (by decide), fun h => absurd h (by decide), fun h => absurd h (by decide), fun h => absurd h (by decide), fun h => absurd h (by decide), fun h => absurd h (by decide), fun h => absurd h (by decide), fun h => absurd h (by decide)⟩
  · intro s a y i o hI hoi haf
    have hi : i < 19 := by rw [← hsz]; exact (Array.getElem?_eq_some_iff.1 hoi).1
    obtain ⟨hs, hK, v6, v7, v8, v9, v10, v16, v17, v18, v19, v20, v21, v22, v23, v24, v25, v26, v27, v28, v29, rfl, c0, c1, c2, c3, c4, c5, c6, c7, c8, c9, c10, c11, c12, c13, c14, c15, c16, c17, c18⟩ := hI
    have hset : ∀ j, (s.setIfInBounds i true).getD j false = if j = i then true else s.getD j false := fun j => getD_set s i j (by omega)
    have hsz' : (s.setIfInBounds i true).size = 19 := by simpa using hs
    rcases lt19 hi with rfl | rfl | rfl | rfl | rfl | rfl | rfl | rfl | rfl | rfl | rfl | rfl | rfl | rfl | rfl | rfl | rfl | rfl | rfl
    · obtain ⟨o', ho', og, od, oo⟩ := o0
      rw [ho'] at hoi
      injection hoi with hoi
      subst hoi
      refine wpOp_of ho' (by unfold Region.wanted; rw [og]) ?_
      refine wp_ld rtF b4 (fdC 4).toArray (hK.bx 4 _ _ _ rfl) rfl (.tmp 5) oo (ev5 ..) ?_
      rw [od, put16]
      exact ⟨hsz', hK, v6, v7, v8, v9, v10, .agg (fdC 4).toArray, v17, v18, v19, v20, v21, v22, v23, v24, v25, v26, v27, v28, v29, rfl, fun _ => rfl, fun h => (c1 (by rw [hset] at h; simpa using h)), fun h => c2 (by rw [hset] at h; simpa using h), fun h => (c3 (by rw [hset] at h; simpa using h)), fun h => c4 (by rw [hset] at h; simpa using h), fun h => c5 (by rw [hset] at h; simpa using h), fun h => (c6 (by rw [hset] at h; simpa using h)), fun h => c7 (by rw [hset] at h; simpa using h), fun h => c8 (by rw [hset] at h; simpa using h), fun h => (c9 (by rw [hset] at h; simpa using h)), fun h => c10 (by rw [hset] at h; simpa using h), fun h => c11 (by rw [hset] at h; simpa using h), fun h => c12 (by rw [hset] at h; simpa using h), fun h => (c13 (by rw [hset] at h; simpa using h)), fun h => (c14 (by rw [hset] at h; simpa using h)), fun h => (c15 (by rw [hset] at h; simpa using h)), fun h => (c16 (by rw [hset] at h; simpa using h)), fun h => (c17 (by rw [hset] at h; simpa using h)), fun h => (c18 (by rw [hset] at h; simpa using h))⟩
    · obtain ⟨o', ho', og, od, oo, oe⟩ := o1
      rw [ho'] at hoi
      injection hoi with hoi
      subst hoi
      refine wpOp_of ho' (by unfold Region.wanted; rw [og]) ?_
      obtain ⟨e0, m0, b0, n0⟩ := oe 0 (by simp)
      have x0 := c0 (by have := haf e0 m0 b0; rwa [n0] at this)
      refine bs0 oo ((ev16 ..).trans x0) fun y' hb hsl => ?_
      rw [od, put17]
      exact ⟨hsz', hK.below hb, v6, v7, v8, v9, v10, v16, .slice (some ⟨y.heap.size, 0, none⟩) 1 1, v18, v19, v20, v21, v22, v23, v24, v25, v26, v27, v28, v29, rfl, fun h => c0 (by rw [hset] at h; simpa using h), fun _ => hsl, fun h => c2 (by rw [hset] at h; simpa using h), fun h => Sl.below (c3 (by rw [hset] at h; simpa using h)) hb, fun h => c4 (by rw [hset] at h; simpa using h), fun h => c5 (by rw [hset] at h; simpa using h), fun h => Sl.below (c6 (by rw [hset] at h; simpa using h)) hb, fun h => c7 (by rw [hset] at h; simpa using h), fun h => c8 (by rw [hset] at h; simpa using h), fun h => Sl.below (c9 (by rw [hset] at h; simpa using h)) hb, fun h => c10 (by rw [hset] at h; simpa using h), fun h => c11 (by rw [hset] at h; simpa using h), fun h => c12 (by rw [hset] at h; simpa using h), fun h => Sl.below (c13 (by rw [hset] at h; simpa using h)) hb, fun h => Sl.below (c14 (by rw [hset] at h; simpa using h)) hb, fun h => Sl.below (c15 (by rw [hset] at h; simpa using h)) hb, fun h => Sl.below (c16 (by rw [hset] at h; simpa using h)) hb, fun h => Sl.below (c17 (by rw [hset] at h; simpa using h)) hb, fun h => Sl.below (c18 (by rw [hset] at h; simpa using h)) hb⟩
    · obtain ⟨o', ho', og, od, oo⟩ := o2
      rw [ho'] at hoi
      injection hoi with hoi
      subst hoi
      refine wpOp_of ho' (by unfold Region.wanted; rw [og]) ?_
      refine wp_ld rtF b0 (fdC 0).toArray (hK.bx 0 _ _ _ rfl) rfl (.tmp 1) oo (ev1 ..) ?_
      rw [od, put18]
      exact ⟨hsz', hK, v6, v7, v8, v9, v10, v16, v17, .agg (fdC 0).toArray, v19, v20, v21, v22, v23, v24, v25, v26, v27, v28, v29, rfl, fun h => c0 (by rw [hset] at h; simpa using h), fun h => (c1 (by rw [hset] at h; simpa using h)), fun _ => rfl, fun h => (c3 (by rw [hset] at h; simpa using h)), fun h => c4 (by rw [hset] at h; simpa using h), fun h => c5 (by rw [hset] at h; simpa using h), fun h => (c6 (by rw [hset] at h; simpa using h)), fun h => c7 (by rw [hset] at h; simpa using h), fun h => c8 (by rw [hset] at h; simpa using h), fun h => (c9 (by rw [hset] at h; simpa using h)), fun h => c10 (by rw [hset] at h; simpa using h), fun h => c11 (by rw [hset] at h; simpa using h), fun h => c12 (by rw [hset] at h; simpa using h), fun h => (c13 (by rw [hset] at h; simpa using h)), fun h => (c14 (by rw [hset] at h; simpa using h)), fun h => (c15 (by rw [hset] at h; simpa using h)), fun h => (c16 (by rw [hset] at h; simpa using h)), fun h => (c17 (by rw [hset] at h; simpa using h)), fun h => (c18 (by rw [hset] at h; simpa using h))⟩
    · obtain ⟨o', ho', og, od, oo, oe⟩ := o3
      rw [ho'] at hoi
      injection hoi with hoi
      subst hoi
      refine wpOp_of ho' (by unfold Region.wanted; rw [og]) ?_
      obtain ⟨e2, m2, b2, n2⟩ := oe 2 (by simp)
      have x2 := c2 (by have := haf e2 m2 b2; rwa [n2] at this)
      refine bs1 oo ((ev18 ..).trans x2) fun y' hb hsl => ?_
      rw [od, put19]
      exact ⟨hsz', hK.below hb, v6, v7, v8, v9, v10, v16, v17, v18, .slice (some ⟨y.heap.size, 0, none⟩) 1 1, v20, v21, v22, v23, v24, v25, v26, v27, v28, v29, rfl, fun h => c0 (by rw [hset] at h; simpa using h), fun h => Sl.below (c1 (by rw [hset] at h; simpa using h)) hb, fun h => c2 (by rw [hset] at h; simpa using h), fun _ => hsl, fun h => c4 (by rw [hset] at h; simpa using h), fun h => c5 (by rw [hset] at h; simpa using h), fun h => Sl.below (c6 (by rw [hset] at h; simpa using h)) hb, fun h => c7 (by rw [hset] at h; simpa using h), fun h => c8 (by rw [hset] at h; simpa using h), fun h => Sl.below (c9 (by rw [hset] at h; simpa using h)) hb, fun h => c10 (by rw [hset] at h; simpa using h), fun h => c11 (by rw [hset] at h; simpa using h), fun h => c12 (by rw [hset] at h; simpa using h), fun h => Sl.below (c13 (by rw [hset] at h; simpa using h)) hb, fun h => Sl.below (c14 (by rw [hset] at h; simpa using h)) hb, fun h => Sl.below (c15 (by rw [hset] at h; simpa using h)) hb, fun h => Sl.below (c16 (by rw [hset] at h; simpa using h)) hb, fun h => Sl.below (c17 (by rw [hset] at h; simpa using h)) hb, fun h => Sl.below (c18 (by rw [hset] at h; simpa using h)) hb⟩
    · obtain ⟨o', ho', og, od, oo⟩ := o4
      rw [ho'] at hoi
      injection hoi with hoi
      subst hoi
      refine wpOp_of ho' (by unfold Region.wanted; rw [og]) ?_
      refine wp_ld rtF b0 (fdC 0).toArray (hK.bx 0 _ _ _ rfl) rfl (.tmp 1) oo (ev1 ..) ?_
      rw [od, put20]
      exact ⟨hsz', hK, v6, v7, v8, v9, v10, v16, v17, v18, v19, .agg (fdC 0).toArray, v21, v22, v23, v24, v25, v26, v27, v28, v29, rfl, fun h => c0 (by rw [hset] at h; simpa using h), fun h => (c1 (by rw [hset] at h; simpa using h)), fun h => c2 (by rw [hset] at h; simpa using h), fun h => (c3 (by rw [hset] at h; simpa using h)), fun _ => rfl, fun h => c5 (by rw [hset] at h; simpa using h), fun h => (c6 (by rw [hset] at h; simpa using h)), fun h => c7 (by rw [hset] at h; simpa using h), fun h => c8 (by rw [hset] at h; simpa using h), fun h => (c9 (by rw [hset] at h; simpa using h)), fun h => c10 (by rw [hset] at h; simpa using h), fun h => c11 (by rw [hset] at h; simpa using h), fun h => c12 (by rw [hset] at h; simpa using h), fun h => (c13 (by rw [hset] at h; simpa using h)), fun h => (c14 (by rw [hset] at h; simpa using h)), fun h => (c15 (by rw [hset] at h; simpa using h)), fun h => (c16 (by rw [hset] at h; simpa using h)), fun h => (c17 (by rw [hset] at h; simpa using h)), fun h => (c18 (by rw [hset] at h; simpa using h))⟩
    · obtain ⟨o', ho', og, od, oo⟩ := o5
      rw [ho'] at hoi
      injection hoi with hoi
      subst hoi
      refine wpOp_of ho' (by unfold Region.wanted; rw [og]) ?_
      refine wp_ld rtF b1 (fdC 1).toArray (hK.bx 1 _ _ _ rfl) rfl (.tmp 2) oo (ev2 ..) ?_
      rw [od, put21]
      exact ⟨hsz', hK, v6, v7, v8, v9, v10, v16, v17, v18, v19, v20, .agg (fdC 1).toArray, v22, v23, v24, v25, v26, v27, v28, v29, rfl, fun h => c0 (by rw [hset] at h; simpa using h), fun h => (c1 (by rw [hset] at h; simpa using h)), fun h => c2 (by rw [hset] at h; simpa using h), fun h => (c3 (by rw [hset] at h; simpa using h)), fun h => c4 (by rw [hset] at h; simpa using h), fun _ => rfl, fun h => (c6 (by rw [hset] at h; simpa using h)), fun h => c7 (by rw [hset] at h; simpa using h), fun h => c8 (by rw [hset] at h; simpa using h), fun h => (c9 (by rw [hset] at h; simpa using h)), fun h => c10 (by rw [hset] at h; simpa using h), fun h => c11 (by rw [hset] at h; simpa using h), fun h => c12 (by rw [hset] at h; simpa using h), fun h => (c13 (by rw [hset] at h; simpa using h)), fun h => (c14 (by rw [hset] at h; simpa using h)), fun h => (c15 (by rw [hset] at h; simpa using h)), fun h => (c16 (by rw [hset] at h; simpa using h)), fun h => (c17 (by rw [hset] at h; simpa using h)), fun h => (c18 (by rw [hset] at h; simpa using h))⟩
    · obtain ⟨o', ho', og, od, oo, oe⟩ := o6
      rw [ho'] at hoi
      injection hoi with hoi
      subst hoi
      refine wpOp_of ho' (by unfold Region.wanted; rw [og]) ?_
      obtain ⟨e4, m4, b4, n4⟩ := oe 4 (by simp)
      obtain ⟨e5, m5, b5, n5⟩ := oe 5 (by simp)
      have x4 := c4 (by have := haf e4 m4 b4; rwa [n4] at this)
      have x5 := c5 (by have := haf e5 m5 b5; rwa [n5] at this)
      refine bs2 oo ((ev20 ..).trans x4) ((ev21 ..).trans x5) fun y' hb hsl => ?_
      rw [od, put22]
      exact ⟨hsz', hK.below hb, v6, v7, v8, v9, v10, v16, v17, v18, v19, v20, v21, .slice (some ⟨y.heap.size, 0, none⟩) 2 2, v23, v24, v25, v26, v27, v28, v29, rfl, fun h => c0 (by rw [hset] at h; simpa using h), fun h => Sl.below (c1 (by rw [hset] at h; simpa using h)) hb, fun h => c2 (by rw [hset] at h; simpa using h), fun h => Sl.below (c3 (by rw [hset] at h; simpa using h)) hb, fun h => c4 (by rw [hset] at h; simpa using h), fun h => c5 (by rw [hset] at h; simpa using h), fun _ => hsl, fun h => c7 (by rw [hset] at h; simpa using h), fun h => c8 (by rw [hset] at h; simpa using h), fun h => Sl.below (c9 (by rw [hset] at h; simpa using h)) hb, fun h => c10 (by rw [hset] at h; simpa using h), fun h => c11 (by rw [hset] at h; simpa using h), fun h => c12 (by rw [hset] at h; simpa using h), fun h => Sl.below (c13 (by rw [hset] at h; simpa using h)) hb, fun h => Sl.below (c14 (by rw [hset] at h; simpa using h)) hb, fun h => Sl.below (c15 (by rw [hset] at h; simpa using h)) hb, fun h => Sl.below (c16 (by rw [hset] at h; simpa using h)) hb, fun h => Sl.below (c17 (by rw [hset] at h; simpa using h)) hb, fun h => Sl.below (c18 (by rw [hset] at h; simpa using h)) hb⟩
    · obtain ⟨o', ho', og, od, oo⟩ := o7
      rw [ho'] at hoi
      injection hoi with hoi
      subst hoi
      refine wpOp_of ho' (by unfold Region.wanted; rw [og]) ?_
      refine wp_ld rtF b0 (fdC 0).toArray (hK.bx 0 _ _ _ rfl) rfl (.tmp 1) oo (ev1 ..) ?_
      rw [od, put23]
      exact ⟨hsz', hK, v6, v7, v8, v9, v10, v16, v17, v18, v19, v20, v21, v22, .agg (fdC 0).toArray, v24, v25, v26, v27, v28, v29, rfl, fun h => c0 (by rw [hset] at h; simpa using h), fun h => (c1 (by rw [hset] at h; simpa using h)), fun h => c2 (by rw [hset] at h; simpa using h), fun h => (c3 (by rw [hset] at h; simpa using h)), fun h => c4 (by rw [hset] at h; simpa using h), fun h => c5 (by rw [hset] at h; simpa using h), fun h => (c6 (by rw [hset] at h; simpa using h)), fun _ => rfl, fun h => c8 (by rw [hset] at h; simpa using h), fun h => (c9 (by rw [hset] at h; simpa using h)), fun h => c10 (by rw [hset] at h; simpa using h), fun h => c11 (by rw [hset] at h; simpa using h), fun h => c12 (by rw [hset] at h; simpa using h), fun h => (c13 (by rw [hset] at h; simpa using h)), fun h => (c14 (by rw [hset] at h; simpa using h)), fun h => (c15 (by rw [hset] at h; simpa using h)), fun h => (c16 (by rw [hset] at h; simpa using h)), fun h => (c17 (by rw [hset] at h; simpa using h)), fun h => (c18 (by rw [hset] at h; simpa using h))⟩
    · obtain ⟨o', ho', og, od, oo⟩ := o8
      rw [ho'] at hoi
      injection hoi with hoi
      subst hoi
      refine wpOp_of ho' (by unfold Region.wanted; rw [og]) ?_
      refine wp_ld rtF b3 (fdC 3).toArray (hK.bx 3 _ _ _ rfl) rfl (.tmp 4) oo (ev4 ..) ?_
      rw [od, put24]
      exact ⟨hsz', hK, v6, v7, v8, v9, v10, v16, v17, v18, v19, v20, v21, v22, v23, .agg (fdC 3).toArray, v25, v26, v27, v28, v29, rfl, fun h => c0 (by rw [hset] at h; simpa using h), fun h => (c1 (by rw [hset] at h; simpa using h)), fun h => c2 (by rw [hset] at h; simpa using h), fun h => (c3 (by rw [hset] at h; simpa using h)), fun h => c4 (by rw [hset] at h; simpa using h), fun h => c5 (by rw [hset] at h; simpa using h), fun h => (c6 (by rw [hset] at h; simpa using h)), fun h => c7 (by rw [hset] at h; simpa using h), fun _ => rfl, fun h => (c9 (by rw [hset] at h; simpa using h)), fun h => c10 (by rw [hset] at h; simpa using h), fun h => c11 (by rw [hset] at h; simpa using h), fun h => c12 (by rw [hset] at h; simpa using h), fun h => (c13 (by rw [hset] at h; simpa using h)), fun h => (c14 (by rw [hset] at h; simpa using h)), fun h => (c15 (by rw [hset] at h; simpa using h)), fun h => (c16 (by rw [hset] at h; simpa using h)), fun h => (c17 (by rw [hset] at h; simpa using h)), fun h => (c18 (by rw [hset] at h; simpa using h))⟩
    · obtain ⟨o', ho', og, od, oo, oe⟩ := o9
      rw [ho'] at hoi
      injection hoi with hoi
      subst hoi
      refine wpOp_of ho' (by unfold Region.wanted; rw [og]) ?_
      obtain ⟨e7, m7, b7, n7⟩ := oe 7 (by simp)
      obtain ⟨e8, m8, b8, n8⟩ := oe 8 (by simp)
      have x7 := c7 (by have := haf e7 m7 b7; rwa [n7] at this)
      have x8 := c8 (by have := haf e8 m8 b8; rwa [n8] at this)
      refine bs3 oo ((ev23 ..).trans x7) ((ev24 ..).trans x8) fun y' hb hsl => ?_
      rw [od, put25]
      exact ⟨hsz', hK.below hb, v6, v7, v8, v9, v10, v16, v17, v18, v19, v20, v21, v22, v23, v24, .slice (some ⟨y.heap.size, 0, none⟩) 2 2, v26, v27, v28, v29, rfl, fun h => c0 (by rw [hset] at h; simpa using h), fun h => Sl.below (c1 (by rw [hset] at h; simpa using h)) hb, fun h => c2 (by rw [hset] at h; simpa using h), fun h => Sl.below (c3 (by rw [hset] at h; simpa using h)) hb, fun h => c4 (by rw [hset] at h; simpa using h), fun h => c5 (by rw [hset] at h; simpa using h), fun h => Sl.below (c6 (by rw [hset] at h; simpa using h)) hb, fun h => c7 (by rw [hset] at h; simpa using h), fun h => c8 (by rw [hset] at h; simpa using h), fun _ => hsl, fun h => c10 (by rw [hset] at h; simpa using h), fun h => c11 (by rw [hset] at h; simpa using h), fun h => c12 (by rw [hset] at h; simpa using h), fun h => Sl.below (c13 (by rw [hset] at h; simpa using h)) hb, fun h => Sl.below (c14 (by rw [hset] at h; simpa using h)) hb, fun h => Sl.below (c15 (by rw [hset] at h; simpa using h)) hb, fun h => Sl.below (c16 (by rw [hset] at h; simpa using h)) hb, fun h => Sl.below (c17 (by rw [hset] at h; simpa using h)) hb, fun h => Sl.below (c18 (by rw [hset] at h; simpa using h)) hb⟩
    · obtain ⟨o', ho', og, od, oo⟩ := o10
      rw [ho'] at hoi
      injection hoi with hoi
      subst hoi
      refine wpOp_of ho' (by unfold Region.wanted; rw [og]) ?_
      refine wp_ld rtF b0 (fdC 0).toArray (hK.bx 0 _ _ _ rfl) rfl (.tmp 1) oo (ev1 ..) ?_
      rw [od, put26]
      exact ⟨hsz', hK, v6, v7, v8, v9, v10, v16, v17, v18, v19, v20, v21, v22, v23, v24, v25, .agg (fdC 0).toArray, v27, v28, v29, rfl, fun h => c0 (by rw [hset] at h; simpa using h), fun h => (c1 (by rw [hset] at h; simpa using h)), fun h => c2 (by rw [hset] at h; simpa using h), fun h => (c3 (by rw [hset] at h; simpa using h)), fun h => c4 (by rw [hset] at h; simpa using h), fun h => c5 (by rw [hset] at h; simpa using h), fun h => (c6 (by rw [hset] at h; simpa using h)), fun h => c7 (by rw [hset] at h; simpa using h), fun h => c8 (by rw [hset] at h; simpa using h), fun h => (c9 (by rw [hset] at h; simpa using h)), fun _ => rfl, fun h => c11 (by rw [hset] at h; simpa using h), fun h => c12 (by rw [hset] at h; simpa using h), fun h => (c13 (by rw [hset] at h; simpa using h)), fun h => (c14 (by rw [hset] at h; simpa using h)), fun h => (c15 (by rw [hset] at h; simpa using h)), fun h => (c16 (by rw [hset] at h; simpa using h)), fun h => (c17 (by rw [hset] at h; simpa using h)), fun h => (c18 (by rw [hset] at h; simpa using h))⟩
    · obtain ⟨o', ho', og, od, oo⟩ := o11
      rw [ho'] at hoi
      injection hoi with hoi
      subst hoi
      refine wpOp_of ho' (by unfold Region.wanted; rw [og]) ?_
      refine wp_ld rtF b1 (fdC 1).toArray (hK.bx 1 _ _ _ rfl) rfl (.tmp 2) oo (ev2 ..) ?_
      rw [od, put27]
      exact ⟨hsz', hK, v6, v7, v8, v9, v10, v16, v17, v18, v19, v20, v21, v22, v23, v24, v25, v26, .agg (fdC 1).toArray, v28, v29, rfl, fun h => c0 (by rw [hset] at h; simpa using h), fun h => (c1 (by rw [hset] at h; simpa using h)), fun h => c2 (by rw [hset] at h; simpa using h), fun h => (c3 (by rw [hset] at h; simpa using h)), fun h => c4 (by rw [hset] at h; simpa using h), fun h => c5 (by rw [hset] at h; simpa using h), fun h => (c6 (by rw [hset] at h; simpa using h)), fun h => c7 (by rw [hset] at h; simpa using h), fun h => c8 (by rw [hset] at h; simpa using h), fun h => (c9 (by rw [hset] at h; simpa using h)), fun h => c10 (by rw [hset] at h; simpa using h), fun _ => rfl, fun h => c12 (by rw [hset] at h; simpa using h), fun h => (c13 (by rw [hset] at h; simpa using h)), fun h => (c14 (by rw [hset] at h; simpa using h)), fun h => (c15 (by rw [hset] at h; simpa using h)), fun h => (c16 (by rw [hset] at h; simpa using h)), fun h => (c17 (by rw [hset] at h; simpa using h)), fun h => (c18 (by rw [hset] at h; simpa using h))⟩
    · obtain ⟨o', ho', og, od, oo⟩ := o12
      rw [ho'] at hoi
      injection hoi with hoi
      subst hoi
      refine wpOp_of ho' (by unfold Region.wanted; rw [og]) ?_
      refine wp_ld rtF b2 (fdC 2).toArray (hK.bx 2 _ _ _ rfl) rfl (.tmp 3) oo (ev3 ..) ?_
      rw [od, put28]
      exact ⟨hsz', hK, v6, v7, v8, v9, v10, v16, v17, v18, v19, v20, v21, v22, v23, v24, v25, v26, v27, .agg (fdC 2).toArray, v29, rfl, fun h => c0 (by rw [hset] at h; simpa using h), fun h => (c1 (by rw [hset] at h; simpa using h)), fun h => c2 (by rw [hset] at h; simpa using h), fun h => (c3 (by rw [hset] at h; simpa using h)), fun h => c4 (by rw [hset] at h; simpa using h), fun h => c5 (by rw [hset] at h; simpa using h), fun h => (c6 (by rw [hset] at h; simpa using h)), fun h => c7 (by rw [hset] at h; simpa using h), fun h => c8 (by rw [hset] at h; simpa using h), fun h => (c9 (by rw [hset] at h; simpa using h)), fun h => c10 (by rw [hset] at h; simpa using h), fun h => c11 (by rw [hset] at h; simpa using h), fun _ => rfl, fun h => (c13 (by rw [hset] at h; simpa using h)), fun h => (c14 (by rw [hset] at h; simpa using h)), fun h => (c15 (by rw [hset] at h; simpa using h)), fun h => (c16 (by rw [hset] at h; simpa using h)), fun h => (c17 (by rw [hset] at h; simpa using h)), fun h => (c18 (by rw [hset] at h; simpa using h))⟩
    · obtain ⟨o', ho', og, od, oo, oe⟩ := o13
      rw [ho'] at hoi
      injection hoi with hoi
      subst hoi
      refine wpOp_of ho' (by unfold Region.wanted; rw [og]) ?_
      obtain ⟨e10, m10, b10, n10⟩ := oe 10 (by simp)
      obtain ⟨e11, m11, b11, n11⟩ := oe 11 (by simp)
      obtain ⟨e12, m12, b12, n12⟩ := oe 12 (by simp)
      have x10 := c10 (by have := haf e10 m10 b10; rwa [n10] at this)
      have x11 := c11 (by have := haf e11 m11 b11; rwa [n11] at this)
      have x12 := c12 (by have := haf e12 m12 b12; rwa [n12] at this)
      refine bs4 oo ((ev26 ..).trans x10) ((ev27 ..).trans x11) ((ev28 ..).trans x12) fun y' hb hsl => ?_
      rw [od, put29]
      exact ⟨hsz', hK.below hb, v6, v7, v8, v9, v10, v16, v17, v18, v19, v20, v21, v22, v23, v24, v25, v26, v27, v28, .slice (some ⟨y.heap.size, 0, none⟩) 3 3, rfl, fun h => c0 (by rw [hset] at h; simpa using h), fun h => Sl.below (c1 (by rw [hset] at h; simpa using h)) hb, fun h => c2 (by rw [hset] at h; simpa using h), fun h => Sl.below (c3 (by rw [hset] at h; simpa using h)) hb, fun h => c4 (by rw [hset] at h; simpa using h), fun h => c5 (by rw [hset] at h; simpa using h), fun h => Sl.below (c6 (by rw [hset] at h; simpa using h)) hb, fun h => c7 (by rw [hset] at h; simpa using h), fun h => c8 (by rw [hset] at h; simpa using h), fun h => Sl.below (c9 (by rw [hset] at h; simpa using h)) hb, fun h => c10 (by rw [hset] at h; simpa using h), fun h => c11 (by rw [hset] at h; simpa using h), fun h => c12 (by rw [hset] at h; simpa using h), fun _ => hsl, fun h => Sl.below (c14 (by rw [hset] at h; simpa using h)) hb, fun h => Sl.below (c15 (by rw [hset] at h; simpa using h)) hb, fun h => Sl.below (c16 (by rw [hset] at h; simpa using h)) hb, fun h => Sl.below (c17 (by rw [hset] at h; simpa using h)) hb, fun h => Sl.below (c18 (by rw [hset] at h; simpa using h)) hb⟩
    · obtain ⟨o', ho', og, od, oo, oe⟩ := o14
      rw [ho'] at hoi
      injection hoi with hoi
      subst hoi
      refine wpOp_of ho' (by unfold Region.wanted; rw [og]) ?_
      obtain ⟨e1, m1, b1, n1⟩ := oe
      have x1 := c1 (by have := haf e1 m1 b1; rwa [n1] at this)
      refine wp_as (.tmp 17) v17 oo (ev17 ..) ?_
      rw [od, put6]
      exact ⟨hsz', hK, v17, v7, v8, v9, v10, v16, v17, v18, v19, v20, v21, v22, v23, v24, v25, v26, v27, v28, v29, rfl, fun h => c0 (by rw [hset] at h; simpa using h), fun h => (c1 (by rw [hset] at h; simpa using h)), fun h => c2 (by rw [hset] at h; simpa using h), fun h => (c3 (by rw [hset] at h; simpa using h)), fun h => c4 (by rw [hset] at h; simpa using h), fun h => c5 (by rw [hset] at h; simpa using h), fun h => (c6 (by rw [hset] at h; simpa using h)), fun h => c7 (by rw [hset] at h; simpa using h), fun h => c8 (by rw [hset] at h; simpa using h), fun h => (c9 (by rw [hset] at h; simpa using h)), fun h => c10 (by rw [hset] at h; simpa using h), fun h => c11 (by rw [hset] at h; simpa using h), fun h => c12 (by rw [hset] at h; simpa using h), fun h => (c13 (by rw [hset] at h; simpa using h)), fun _ => x1, fun h => (c15 (by rw [hset] at h; simpa using h)), fun h => (c16 (by rw [hset] at h; simpa using h)), fun h => (c17 (by rw [hset] at h; simpa using h)), fun h => (c18 (by rw [hset] at h; simpa using h))⟩
    · obtain ⟨o', ho', og, od, oo, oe⟩ := o15
      rw [ho'] at hoi
      injection hoi with hoi
      subst hoi
      refine wpOp_of ho' (by unfold Region.wanted; rw [og]) ?_
      obtain ⟨e3, m3, b3, n3⟩ := oe
      have x3 := c3 (by have := haf e3 m3 b3; rwa [n3] at this)
      refine wp_as (.tmp 19) v19 oo (ev19 ..) ?_
      rw [od, put7]
      exact ⟨hsz', hK, v6, v19, v8, v9, v10, v16, v17, v18, v19, v20, v21, v22, v23, v24, v25, v26, v27, v28, v29, rfl, fun h => c0 (by rw [hset] at h; simpa using h), fun h => (c1 (by rw [hset] at h; simpa using h)), fun h => c2 (by rw [hset] at h; simpa using h), fun h => (c3 (by rw [hset] at h; simpa using h)), fun h => c4 (by rw [hset] at h; simpa using h), fun h => c5 (by rw [hset] at h; simpa using h), fun h => (c6 (by rw [hset] at h; simpa using h)), fun h => c7 (by rw [hset] at h; simpa using h), fun h => c8 (by rw [hset] at h; simpa using h), fun h => (c9 (by rw [hset] at h; simpa using h)), fun h => c10 (by rw [hset] at h; simpa using h), fun h => c11 (by rw [hset] at h; simpa using h), fun h => c12 (by rw [hset] at h; simpa using h), fun h => (c13 (by rw [hset] at h; simpa using h)), fun h => (c14 (by rw [hset] at h; simpa using h)), fun _ => x3, fun h => (c16 (by rw [hset] at h; simpa using h)), fun h => (c17 (by rw [hset] at h; simpa using h)), fun h => (c18 (by rw [hset] at h; simpa using h))⟩
    · obtain ⟨o', ho', og, od, oo, oe⟩ := o16
      rw [ho'] at hoi
      injection hoi with hoi
      subst hoi
      refine wpOp_of ho' (by unfold Region.wanted; rw [og]) ?_
      obtain ⟨e6, m6, b6, n6⟩ := oe
      have x6 := c6 (by have := haf e6 m6 b6; rwa [n6] at this)
      refine wp_as (.tmp 22) v22 oo (ev22 ..) ?_
      rw [od, put8]
      exact ⟨hsz', hK, v6, v7, v22, v9, v10, v16, v17, v18, v19, v20, v21, v22, v23, v24, v25, v26, v27, v28, v29, rfl, fun h => c0 (by rw [hset] at h; simpa using h), fun h => (c1 (by rw [hset] at h; simpa using h)), fun h => c2 (by rw [hset] at h; simpa using h), fun h => (c3 (by rw [hset] at h; simpa using h)), fun h => c4 (by rw [hset] at h; simpa using h), fun h => c5 (by rw [hset] at h; simpa using h), fun h => (c6 (by rw [hset] at h; simpa using h)), fun h => c7 (by rw [hset] at h; simpa using h), fun h => c8 (by rw [hset] at h; simpa using h), fun h => (c9 (by rw [hset] at h; simpa using h)), fun h => c10 (by rw [hset] at h; simpa using h), fun h => c11 (by rw [hset] at h; simpa using h), fun h => c12 (by rw [hset] at h; simpa using h), fun h => (c13 (by rw [hset] at h; simpa using h)), fun h => (c14 (by rw [hset] at h; simpa using h)), fun h => (c15 (by rw [hset] at h; simpa using h)), fun _ => x6, fun h => (c17 (by rw [hset] at h; simpa using h)), fun h => (c18 (by rw [hset] at h; simpa using h))⟩
    · obtain ⟨o', ho', og, od, oo, oe⟩ := o17
      rw [ho'] at hoi
      injection hoi with hoi
      subst hoi
      refine wpOp_of ho' (by unfold Region.wanted; rw [og]) ?_
      obtain ⟨e9, m9, b9, n9⟩ := oe
      have x9 := c9 (by have := haf e9 m9 b9; rwa [n9] at this)
      refine wp_as (.tmp 25) v25 oo (ev25 ..) ?_
      rw [od, put9]
      exact ⟨hsz', hK, v6, v7, v8, v25, v10, v16, v17, v18, v19, v20, v21, v22, v23, v24, v25, v26, v27, v28, v29, rfl, fun h => c0 (by rw [hset] at h; simpa using h), fun h => (c1 (by rw [hset] at h; simpa using h)), fun h => c2 (by rw [hset] at h; simpa using h), fun h => (c3 (by rw [hset] at h; simpa using h)), fun h => c4 (by rw [hset] at h; simpa using h), fun h => c5 (by rw [hset] at h; simpa using h), fun h => (c6 (by rw [hset] at h; simpa using h)), fun h => c7 (by rw [hset] at h; simpa using h), fun h => c8 (by rw [hset] at h; simpa using h), fun h => (c9 (by rw [hset] at h; simpa using h)), fun h => c10 (by rw [hset] at h; simpa using h), fun h => c11 (by rw [hset] at h; simpa using h), fun h => c12 (by rw [hset] at h; simpa using h), fun h => (c13 (by rw [hset] at h; simpa using h)), fun h => (c14 (by rw [hset] at h; simpa using h)), fun h => (c15 (by rw [hset] at h; simpa using h)), fun h => (c16 (by rw [hset] at h; simpa using h)), fun _ => x9, fun h => (c18 (by rw [hset] at h; simpa using h))⟩
    · obtain ⟨o', ho', og, od, oo, oe⟩ := o18
      rw [ho'] at hoi
      injection hoi with hoi
      subst hoi
      refine wpOp_of ho' (by unfold Region.wanted; rw [og]) ?_
      obtain ⟨e13, m13, b13, n13⟩ := oe
      have x13 := c13 (by have := haf e13 m13 b13; rwa [n13] at this)
      refine wp_as (.tmp 29) v29 oo (ev29 ..) ?_
      rw [od, put10]
      exact ⟨hsz', hK, v6, v7, v8, v9, v29, v16, v17, v18, v19, v20, v21, v22, v23, v24, v25, v26, v27, v28, v29, rfl, fun h => c0 (by rw [hset] at h; simpa using h), fun h => (c1 (by rw [hset] at h; simpa using h)), fun h => c2 (by rw [hset] at h; simpa using h), fun h => (c3 (by rw [hset] at h; simpa using h)), fun h => c4 (by rw [hset] at h; simpa using h), fun h => c5 (by rw [hset] at h; simpa using h), fun h => (c6 (by rw [hset] at h; simpa using h)), fun h => c7 (by rw [hset] at h; simpa using h), fun h => c8 (by rw [hset] at h; simpa using h), fun h => (c9 (by rw [hset] at h; simpa using h)), fun h => c10 (by rw [hset] at h; simpa using h), fun h => c11 (by rw [hset] at h; simpa using h), fun h => c12 (by rw [hset] at h; simpa using h), fun h => (c13 (by rw [hset] at h; simpa using h)), fun h => (c14 (by rw [hset] at h; simpa using h)), fun h => (c15 (by rw [hset] at h; simpa using h)), fun h => (c16 (by rw [hset] at h; simpa using h)), fun h => (c17 (by rw [hset] at h; simpa using h)), fun _ => x13⟩
  · intro s a y hI hall
    obtain ⟨hs, hK, v6, v7, v8, v9, v10, v16, v17, v18, v19, v20, v21, v22, v23, v24, v25, v26, v27, v28, v29, rfl, c0, c1, c2, c3, c4, c5, c6, c7, c8, c9, c10, c11, c12, c13, c14, c15, c16, c17, c18⟩ := hI
    exact fin y v6 v7 v8 v9 v10 v16 v17 v18 v19 v20 v21 v22 v23 v24 v25 v26 v27 v28 v29 hK (c14 (hall 14 (by omega))) (c15 (hall 15 (by omega))) (c16 (hall 16 (by omega))) (c17 (hall 17 (by omega))) (c18 (hall 18 (by omega)))
end Go.Proofs.YthaijjehplomfaaDoor
