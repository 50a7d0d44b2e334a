/- ScriptParses' walk. -/
import Derived.Test.YthpahpfnpapoiabDoorZe
import Derived.Test.YthpahpfnpapoiabDoorXz
import Derived.Test.YthpahpfnpapoiabDoorXw
namespace Go.Proofs.YthpahpfnpapoiabDoor
open Go Go.RowKit
set_option linter.unusedVariables false
set_option maxHeartbeats 1000000
set_option maxRecDepth 20000

theorem parse_go_len (ls : List (List UInt8)) : ∀ (i : Nat) (n : Int) (out : List Sn), (parseGo ls i n out).1.length ≤ out.length + ls.length := by
  induction ls with
  | nil => intro i n out; simp [parseGo]
  | cons a ls ih =>
    intro i n out
    simp only [parseGo]
    split
    · simp
    · split
      · simp
      · refine Nat.le_trans (ih _ _ _) ?_
        simp
        omega
theorem parse_len (t : List UInt8) : (parseS t).1.length ≤ 1000000 := by
  have h := parse_go_len (linesL t).1 0 0 []
  unfold parseS
  split
  · simp
  · split
    · simp
    · rename_i h2
      have h3 : (linesL t).1.length ≤ manyL t := by unfold manyL; omega
      have h4 : (parseGo (linesL t).1 0 0 []).1.length ≤ 1000000 := by simp at h; omega
      split
      · exact h4
      · split
        · exact h4
        · simp
theorem parses_walk (w : World) (tb : Hid (Tp w)) (text : ByteArray) (hs : text.size ≤ 9223372036854775807) : Calls Tryd.prog 3 #[.string text] w fun e w' => e = .returned (.bool true) ∧ Below w.heap.size w w' := by
  have hP := fun v ht => parse_any v ht text hs
  have hR := fun v ht => rparse_any v ht text hs
  have hl := parse_len (strL text)
  obtain ⟨X, hX⟩ : ∃ x, parseS (strL text) = x := ⟨_, rfl⟩
  rw [hX] at hP hR hl
  obtain ⟨x, e, a⟩ := X
  dsimp only at hP hR hl
  have hW := awake_any
  clear hX hs
  go_enter Tryd.func3, Tryd.ntmps3
  go_wp2_with (first
    | (go_at_call 6; refine (hP w tb).mono ?_; rintro e1 y1 ⟨v1, rfl, H1⟩; refine stopAt ?_))
  refine Stop.go ?_
  have T1 : Hid (Tp y1) := tb.out.below H1.out.fm.low
  go_wp2_with (first
    | (go_at_call 6; refine (hP y1 T1).mono ?_; rintro e1 y2 ⟨v2, rfl, H2⟩; refine stopAt ?_))
  refine Stop.go ?_
  have T2 : Hid (Tp y2) := T1.out.below H2.out.fm.low
  go_wp2_with (first
    | (go_at_call 7; refine (hR y2 T2).mono ?_; rintro e1 y3 ⟨v3, rfl, H3⟩; refine stopAt ?_))
  refine Stop.go ?_
  have b1 : Hid (Below w.heap.size w y1) := H1.out.fm.low
  have b2 : Hid (Below w.heap.size w y2) := b1.out.trans (H2.out.fm.low.mono b1.out.size)
  have b3 : Hid (Below w.heap.size w y3) := b2.out.trans (H3.out.fm.low.mono b2.out.size)
  have F : Hid (Fam w.heap.size y3 [v1, v2] [x, x]) := (((fam_nil w.heap.size w).add (Nat.le_refl _) b1.out H1.out.oa).add b1.out.size H2.out.fm.low H2.out.oa).below H3.out.fm.low
  obtain ⟨s1, c1, rfl, _⟩ := OwnS.open H1.out.oa
  obtain ⟨s2, c2, rfl, _⟩ := OwnS.open H2.out.oa
  obtain ⟨s3, c3, rfl, L3, _⟩ := OwnS.open H3.out.oa
  have L3' : Hid (LiesS y3 s3 x) := L3
  clear L3 H1 H2 H3 hP hR
  obtain ⟨n, hn⟩ : ∃ n, x.length = n := ⟨_, rfl⟩
  have hn' : Hid (x.length = n) := hn
  rw [hn] at F hl ⊢
  clear hn
  have hO : Hid (∀ (y5 : World) (gl gw : Nat), Below y3.heap.size y3 y5 → w.heap.size ≤ y5.heap.size → Bx y5 gl #[.slice s1 n c1, .slice s2 n c2] 22 → Bx y5 gw #[.slice s3 n c3, .slice s3 n c3] 22 → Calls Tryd.prog 8 #[.slice (some ⟨gl, 0, none⟩) 2 2, .slice (some ⟨gw, 0, none⟩) 2 2] y5 fun e w' => e = .returned (.bool true) ∧ Below w.heap.size y5 w') := fun y5 gl gw hb hs k1 k2 => by
    refine own_any y5 w.heap.size gl gw 2 [.slice s1 n c1, .slice s2 n c2] [.slice s3 n c3, .slice s3 n c3] [x, x] hs k1 k2 ⟨rfl, rfl, by decide⟩ (F.out.below hb) ?_ ?_
    · intro j u t e1 e2
      have L5 := L3'.out.below hb
      have hh := hn'.out
      rcases j with _ | _ | j <;> simp at e1 e2 <;> subst e1 <;> subst e2 <;> exact ⟨s3, c3, by rw [hh], L5⟩
    · intro j t e2
      have hh := hn'.out
      rcases j with _ | _ | j <;> simp at e2 <;> subst e2 <;> omega
  go_wp2_with (first
    | ((with_reducible refine gen_world (y3.alloc (.cells #[.slice s1 n c1, .slice s2 n c2] 22)) (Fm y3 [(y3.heap.size, #[.slice s1 n c1, .slice s2 n c2], 22)]) ?_ ?_); exact Fm.one y3 _ _; intro y4 K4)
    | ((with_reducible refine gen_world (y4.alloc (.cells #[.slice s3 n c3, .slice s3 n c3] 22)) (Fm y3 [(y3.heap.size, #[.slice s1 n c1, .slice s2 n c2], 22), (y4.heap.size, #[.slice s3 n c3, .slice s3 n c3], 22)]) ?_ ?_); exact K4.out.new _ _; intro y5 K5; have B5 : Hid (Below w.heap.size w y5) := b3.out.trans (K5.out.low.mono b3.out.size))
    | (go_at_call 8; refine (hO.out y5 y3.heap.size y4.heap.size K5.out.low B5.out.size (K5.out.bx 0 _ _ _ rfl) (K5.out.bx 1 _ _ _ rfl)).mono ?_; rintro e6 y6 ⟨rfl, H6⟩; have B6 : Hid (Below w.heap.size w y6) := B5.out.trans H6; clear H6)
    | (go_at_call 9; refine (hW _ (tb.out.below B6.out)).mono ?_; rintro e7 y7 ⟨rfl, H7⟩; have B7 : Hid (Below w.heap.size w y7) := B6.out.trans (H7.mono B6.out.size); clear H7))
  go_ret
  exact ⟨rfl, B7.out⟩
end Go.Proofs.YthpahpfnpapoiabDoor
