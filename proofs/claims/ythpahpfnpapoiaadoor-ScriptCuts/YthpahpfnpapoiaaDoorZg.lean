/- ScriptCuts' walk. -/
import Derived.Test.YthpahpfnpapoiaaDoorXg
import Derived.Test.YthpahpfnpapoiaaDoorZc
import Derived.Test.YthpahpfnpapoiaaDoorXi
import Derived.Test.YthpahpfnpapoiaaDoorXj
import Derived.Test.YthpahpfnpapoiaaDoorZe
import Derived.Test.YthpahpfnpapoiaaDoorXz
namespace Go.Proofs.YthpahpfnpapoiaaDoor
open Go Go.RowKit
set_option linter.unusedVariables false
set_option maxHeartbeats 1000000
set_option maxRecDepth 20000

theorem cuts_walk (w : World) (tb : Hid (Tp w)) (sp : Option Addr) (cap : Nat) (l : List Sn) (hl : Hid (LiesS w sp l)) (hn : l.length ≤ 9223372036854775807) (hk : Hid (∀ s ∈ l, Rg s.a)) (n0 : Int) (hn0 : -9223372036854775808 ≤ n0 ∧ n0 ≤ 9223372036854775807) :
    Calls Tryd.prog 6 #[.slice sp l.length cap, .int .i64 n0] w fun e w' => e = .returned (.bool true) ∧ Below w.heap.size w w' := by
  obtain ⟨n, hn'⟩ : ∃ n, l.length = n := ⟨_, rfl⟩
  have ni : (n : Int) ≤ 9223372036854775807 := by omega
  by_cases hbig : 2147483647 < n
  · rw [hn']
    have q : decide ((2147483647 : Int) < n) = true := by simp; omega
    clear hbig hn hn'
    go_enter Tryd.func6, Tryd.ntmps6
    go_wp2
    go_ret
    exact ⟨rfl, Below.refl _ _⟩
  have q : decide ((2147483647 : Int) < n) = false := by simp; omega
  have hn2 : l.length ≤ 2147483647 := by omega
  have hL := lent_any w sp cap l hl hn2
  have hBk : Hid (∀ y, LntS w w.heap.size l y → Calls Tryd.prog 13 #[.slice (some ⟨w.heap.size, 0, none⟩) n (n + 1), .slice sp n cap] y fun e w' => e = .returned (.bool true) ∧ Cu w.heap.size (fun q _ => q = w.heap.size) y w') := fun y h => by
    have := back_any w y w.heap.size sp cap l (Nat.le_refl _) h (hl.out.below h.low) hn2
    rw [hn'] at this
    exact this
  have hW := awake_any
  have hP : Hid (∀ y, LntS w w.heap.size l y → Calls Tryd.prog 21 #[.slice (some ⟨w.heap.size, 0, none⟩) n (n + 1), .int .i64 n0] y fun e w' => ∃ va vb, e = .returned (.tuple #[va, vb, .int .i64 (cutE l n0)]) ∧ Hid (Ct y va vb (outA l n0) (outB l n0) [] w')) := fun y h => by
    have := cut_any y (some ⟨w.heap.size, 0, none⟩) (n + 1) l n0 h.lies hn2
    rw [hn'] at this
    exact this
  have hQ : Hid (∀ y, Below w.heap.size w y → Calls Tryd.prog 21 #[.slice sp n cap, .int .i64 n0] y fun e w' => ∃ va vb, e = .returned (.tuple #[va, vb, .int .i64 (cutE l n0)]) ∧ Hid (Ct y va vb (outA l n0) (outB l n0) [] w')) := fun y h => by
    have := cut_any y sp cap l n0 (hl.out.below h) hn2
    rw [hn'] at this
    exact this
  have hR : Hid (∀ y, Below w.heap.size w y → Calls Tryd.prog 22 #[.slice sp n cap, .int .i64 n0] y fun e w' => ∃ va vb, e = .returned (.tuple #[va, vb, .int .i64 (cutE l n0)]) ∧ Hid (Ct y va vb (outA l n0) (outB l n0) [] w')) := fun y h => by
    have := rcut_any y sp cap l n0 (hl.out.below h) hn
    rw [hn'] at this
    exact this
  rw [hn'] at hL ⊢
  have hx := out_len l n0
  obtain ⟨E, hE⟩ : ∃ x, cutE l n0 = x := ⟨_, rfl⟩
  obtain ⟨xa, hXa⟩ : ∃ x, outA l n0 = x := ⟨_, rfl⟩
  obtain ⟨xb, hXb⟩ : ∃ x, outB l n0 = x := ⟨_, rfl⟩
  rw [hE, hXa, hXb] at hP hQ hR
  rw [hXa, hXb] at hx
  clear hE hXa hXb hbig hn hn' hn2 ni
  go_enter Tryd.func6, Tryd.ntmps6
  go_wp2_with (first
    | (go_at_call 10; refine hL.mono ?_; rintro e1 y1 ⟨rfl, H1⟩; refine stopAt ?_))
  refine Stop.go ?_
  go_wp2_with (first
    | (go_at_call 21; refine (hP.out y1 H1.out).mono ?_; rintro e2 y2 ⟨va2, vb2, rfl, H2⟩; refine stopAt ?_))
  refine Stop.go ?_
  have L2 : Hid (LntS w w.heap.size l y2) := H1.out.below H2.out.fm.low
  have F2 : Hid (Fam y1.heap.size y2 [va2, vb2] [xa, xb]) := H2.out.fam2
  have g1 : Hid (w.heap.size < y1.heap.size) := heap_lt H1.out.bx
  obtain ⟨s1, c1, rfl, _⟩ := OwnS.open H2.out.oa
  obtain ⟨s2, c2, rfl, _⟩ := OwnS.open H2.out.ob
  clear H2 H1
  go_wp2_with (first
    | (go_at_call 13; refine (hBk.out y2 L2.out).mono ?_; rintro e3 y3 ⟨rfl, H3⟩; have B3 : Hid (Below w.heap.size w y3) := L2.out.low.trans H3.low; have F3 : Hid (Fam w.heap.size y3 [.slice s1 xa.length c1, .slice s2 xb.length c2] [xa, xb]) := (F2.out.cu H3 g1.out).weak (Nat.le_of_lt g1.out); clear H3)
    | (go_at_call 21; refine (hQ.out y3 B3.out).mono ?_; rintro e4 y4 ⟨va4, vb4, rfl, H4⟩; refine stopAt ?_))
  refine Stop.go ?_
  have B4 : Hid (Below w.heap.size w y4) := B3.out.trans (H4.out.fm.low.mono B3.out.size)
  have F4 : Hid (Fam w.heap.size y4 [.slice s1 xa.length c1, .slice s2 xb.length c2, va4, vb4] [xa, xb, xa, xb]) := F3.out.join B3.out.size H4.out.fm.low H4.out.fam2
  obtain ⟨s3, c3, rfl, _⟩ := OwnS.open H4.out.oa
  obtain ⟨s4, c4, rfl, _⟩ := OwnS.open H4.out.ob
  clear H4
  go_wp2_with (first
    | (go_at_call 22; refine (hR.out y4 B4.out).mono ?_; rintro e5 y5 ⟨va5, vb5, rfl, H5⟩; refine stopAt ?_))
  refine Stop.go ?_
  have B5 : Hid (Below w.heap.size w y5) := B4.out.trans (H5.out.fm.low.mono B4.out.size)
  have F5 : Hid (Fam w.heap.size y5 [.slice s1 xa.length c1, .slice s2 xb.length c2, .slice s3 xa.length c3, .slice s4 xb.length c4] [xa, xb, xa, xb]) := F4.out.below H5.out.fm.low
  obtain ⟨s5, c5, rfl, L5, _⟩ := OwnS.open H5.out.oa
  obtain ⟨s6, c6, rfl, L6, _⟩ := OwnS.open H5.out.ob
  have L5' : Hid (LiesS y5 s5 xa ∧ LiesS y5 s6 xb) := ⟨L5, L6⟩
  clear H5 L5 L6
  obtain ⟨ka, hka⟩ : ∃ k, xa.length = k := ⟨_, rfl⟩
  obtain ⟨kb, hkb⟩ : ∃ k, xb.length = k := ⟨_, rfl⟩
  have hk' : Hid (xa.length = ka ∧ xb.length = kb) := ⟨hka, hkb⟩
  rw [hka, hkb] at F5 hx ⊢
  clear hka hkb F4 F3 F2
  have hO : Hid (∀ (y6 : World) (gl gw : Nat), Below y5.heap.size y5 y6 → w.heap.size ≤ y6.heap.size → Bx y6 gl #[.slice s1 ka c1, .slice s2 kb c2, .slice s3 ka c3, .slice s4 kb c4] 23 → Bx y6 gw #[.slice s5 ka c5, .slice s6 kb c6, .slice s5 ka c5, .slice s6 kb c6] 23 → Calls Tryd.prog 23 #[.slice (some ⟨gl, 0, none⟩) 4 4, .slice (some ⟨gw, 0, none⟩) 4 4] y6 fun e w' => e = .returned (.bool true) ∧ Below w.heap.size y6 w') := fun y6 gl gw hb hs k1 k2 => by
    refine own_any y6 w.heap.size gl gw 4 [.slice s1 ka c1, .slice s2 kb c2, .slice s3 ka c3, .slice s4 kb c4] [.slice s5 ka c5, .slice s6 kb c6, .slice s5 ka c5, .slice s6 kb c6] [xa, xb, xa, xb] hs k1 k2 ⟨rfl, rfl, by decide⟩ (F5.out.below hb) ?_ ?_
    · intro j u t e1 e2
      have L6 := L5'.out.1.below hb
      have L7 := L5'.out.2.below hb
      have hh := hk'.out
      rcases j with _ | _ | _ | _ | j <;> simp at e1 e2 <;> subst e1 <;> subst e2
      · exact ⟨s5, c5, by rw [hh.1], L6⟩
      · exact ⟨s6, c6, by rw [hh.2], L7⟩
      · exact ⟨s5, c5, by rw [hh.1], L6⟩
      · exact ⟨s6, c6, by rw [hh.2], L7⟩
    · intro j t e2
      have hh := hk'.out
      rcases j with _ | _ | _ | _ | j <;> simp at e2 <;> subst e2 <;> omega
  go_wp2_with (first
    | ((with_reducible refine gen_world (y5.alloc (.cells #[.slice s1 ka c1, .slice s2 kb c2, .slice s3 ka c3, .slice s4 kb c4] 23)) (Fm y5 [(y5.heap.size, #[.slice s1 ka c1, .slice s2 kb c2, .slice s3 ka c3, .slice s4 kb c4], 23)]) ?_ ?_); exact Fm.one y5 _ _; intro y6 K6)
    | ((with_reducible refine gen_world (y6.alloc (.cells #[.slice s5 ka c5, .slice s6 kb c6, .slice s5 ka c5, .slice s6 kb c6] 23)) (Fm y5 [(y5.heap.size, #[.slice s1 ka c1, .slice s2 kb c2, .slice s3 ka c3, .slice s4 kb c4], 23), (y6.heap.size, #[.slice s5 ka c5, .slice s6 kb c6, .slice s5 ka c5, .slice s6 kb c6], 23)]) ?_ ?_); exact K6.out.new _ _; intro y7 K7; have B7 : Hid (Below w.heap.size w y7) := B5.out.trans (K7.out.low.mono B5.out.size))
    | (go_at_call 23; refine (hO.out y7 y5.heap.size y6.heap.size K7.out.low B7.out.size (K7.out.bx 0 _ _ _ rfl) (K7.out.bx 1 _ _ _ rfl)).mono ?_; rintro e8 y8 ⟨rfl, H8⟩; have B8 : Hid (Below w.heap.size w y8) := B7.out.trans H8; clear H8)
    | (go_at_call 9; refine (hW _ (tb.out.below B8.out)).mono ?_; rintro e9 y9 ⟨rfl, H9⟩; have B9 : Hid (Below w.heap.size w y9) := B8.out.trans (H9.mono B8.out.size); clear H9))
  go_ret
  exact ⟨rfl, B9.out⟩
end Go.Proofs.YthpahpfnpapoiaaDoor
