/- Labels that may be: the document's look. -/
import Derived.Test.YtkpfhnogpcigaaaDoorRJFb
import Derived.Test.YtkpfhnogpcigaaaDoorRJIa
import Derived.Test.YtkpfhnogpcigaaaDoorRJEg
import Derived.Test.YtkpfhnogpcigaaaDoorRJEb8
import Derived.Deep.MidRow
import Derived.BigQuiet
namespace Go.Proofs.YtkpfhnogpcigaaaDoorR
open Go Go.RowKit
set_option linter.unusedVariables false
set_option maxHeartbeats 3000000
set_option maxRecDepth 20000

theorem rlabels_any (w : World) (sp : Option Addr) (cap : Nat) (l : List La) (hl : Hid (LiesL 2 cLa w sp l)) (hi : Hid (∀ x ∈ l, inI x.a)) (hn : l.length ≤ 2147483647) :
    Calls Tryd.prog 33 #[.slice sp l.length cap] w fun e w' => e = .returned (.bool (labG [] l)) ∧ Hid (Below w.heap.size w w') := by
  obtain ⟨R, hR⟩ : ∃ R, labG [] l = R := ⟨_, rfl⟩
  have hR' : Hid (labG [] l = R) := hR
  obtain ⟨n, hn'⟩ : ∃ n, l.length = n := ⟨_, rfl⟩
  have hnn : Hid (l.length = n) := hn'
  rw [hR]
  rw [hn'] at hn ⊢
  have ni : (n : Int) ≤ 2147483647 := by omega
  clear hn hn' hR
  go_enter Tryd.func33, Tryd.ntmps33
  go_wp2
  go_loopw [3] (fun t wz => ∃ (i : Nat) (y : World), y = wz ∧ t = .int .i64 (i : Int) ∧ Hid (i ≤ n ∧ labG (l.take i) (l.drop i) = R) ∧ Hid (Below w.heap.size w y)) (fun t _ => (n - intOf t).toNat)
  case atStart => exact ⟨0, _, rfl, rfl, ⟨Nat.zero_le _, hR'.out⟩, Below.refl _ _⟩
  case round =>
    obtain ⟨i, y, rfl, rfl, J, K⟩ := hrel
    by_cases hlt : i < n
    · obtain ⟨x, hx⟩ : ∃ x, l[i]? = some x := ⟨_, List.getElem?_eq_getElem (by rw [hnn.out]; exact hlt)⟩
      have hxi := hi.out x (List.mem_of_getElem? hx)
      obtain ⟨g, o, rfl, hc⟩ := hl.out i x hx
      have hrx : Hid (∀ u, Below w.heap.size w u → u.rangeAt g (o + i * 2) (kl x).toList) := fun u hu => range_keep hc hu
      have c0 : y.cell? ⟨g, o + i * 2, none⟩ = some (.string x.n) := by
        have := hrx.out y K.out 0 (.string x.n) rfl
        rwa [Nat.add_zero] at this
      have c1 : y.cell? ⟨g, o + i * 2 + 1, none⟩ = some (.int .i64 x.a) := hrx.out y K.out 1 _ rfl
      have hd : l.drop i = x :: l.drop (i + 1) := by
        obtain ⟨h1, e⟩ := List.getElem?_eq_some_iff.1 hx
        rw [List.drop_eq_getElem_cons h1, e]
      have ht : l.take (i + 1) = l.take i ++ [x] := by rw [List.take_add_one, hx]; rfl
      have hO : Hid (R = (lok (l.take i) x && labG (l.take (i + 1)) (l.drop (i + 1)))) := by
        have h1 := J.out.2
        rw [hd] at h1
        show _ = _
        rw [← h1, ht]
        rfl
      have ij := fun w => idxP (P := Tryd.prog) (g := g) (off := o) (len := n) (cap := cap) Tryd.underlying24 (s := 2) (by kernel_rfl) .i64 i w hlt
      have hii : (i : Int) < n := by omega
      have hlt' : Hid (i < n) := hlt
      have hNm : Hid (∀ v, Calls Tryd.prog 45 #[.string x.n] v fun e w' => e = .returned (.bool (isNm x.n)) ∧ w' = v) := fun v => risname_any x.n v
      obtain ⟨nb, hnb⟩ : ∃ b, isNm x.n = b := ⟨_, rfl⟩
      rw [hnb] at hNm
      by_cases hq : nb = false ∨ x.a < 0 ∨ 65535 < x.a
      · have fin : Hid (R = false) := by
          show _ = _
          rw [hO.out]
          have : lok (l.take i) x = false := by
            unfold lok
            rw [hnb]
            rcases hq with h | h | h
            · rw [h]; rfl
            · rw [decide_eq_false (fun e => by omega)]; simp
            · rw [decide_eq_false (fun e => by omega)]; simp
          rw [this]
          rfl
        have q : nb = false ∨ (nb = true ∧ x.a < 0) ∨ (nb = true ∧ ¬ x.a < 0 ∧ 65536 ≤ x.a) := by
          cases nb
          · exact .inl rfl
          · rcases hq with h | h | h
            · cases h
            · exact .inr (.inl ⟨rfl, h⟩)
            · exact .inr (.inr ⟨rfl, by omega, by omega⟩)
        clear hq hlt hx hc hd ht hO hnb
        rcases q with rfl | ⟨rfl, q2⟩ | ⟨rfl, q2, q3⟩
        all_goals
          go_wp2_with (go_at_call 45; refine (hNm.out _).mono ?_; rintro e y3 ⟨rfl, hy3⟩; replace hy3 := hy3.symm; subst hy3)
          go_ret
          rw [fin.out]
          exact ⟨rfl, K.out⟩
      · have hnt : nb = true := by cases nb <;> simp_all
        subst hnt
        have q2 : 0 ≤ x.a := by omega
        have q3 : x.a ≤ 65535 := by omega
        have q4 : ¬ 65536 ≤ x.a := by omega
        have q5 : decide (x.a < 0) = false := decide_eq_false (by omega)
        have q6 : decide (65536 ≤ x.a) = false := decide_eq_false (by omega)
        have hlo : lok (l.take i) x = ((match (l.take i).getLast? with | none => true | some p => befL p x) && !(l.take i).any (fun p => decide (p.n = x.n))) := by
          unfold lok
          rw [hnb, decide_eq_true ⟨q2, q3⟩]
          rfl
        by_cases hi0 : i = 0
        · have hi0i : ¬ (0 : Int) < (i : Int) := by omega
          have hO2 : Hid (R = (!(l.take i).any (fun p => decide (p.n = x.n)) && labG (l.take (i + 1)) (l.drop (i + 1)))) := by
            show _ = _
            rw [hO.out, hlo, hi0]
            rfl
          clear hlt hx hc hd ht hO hlo hi0 hq hnb hxi
          go_wp2_with (go_at_call 45; refine (hNm.out _).mono ?_; rintro e y3 ⟨rfl, hy3⟩; replace hy3 := hy3.symm; subst hy3)
          refine region_class_tail 14 (Below w.heap.size w) (by kernel_rfl) (by kernel_rfl) (K.out.trans (below_drew (Below.refl _ _))) ?_
          simp only [List.take_succ_cons, List.take_zero, List.drop_succ_cons, List.drop_zero]
          with_reducible refine quiet_one (.int .i64 (i : Int)) ?_ ?_ ?_
          · kernel_rfl
          · intro u hy
            go_simp
            all_goals (first | omega | (rw [IntKind.wrap_i64]; omega))
          with_reducible refine quiet_one (.bool false) ?_ ?_ ?_
          · kernel_rfl
          · intro u hy
            go_simp
            all_goals (first | omega | (rw [IntKind.wrap_i64]; omega))
          with_reducible refine quiet_one (.bool false) ?_ ?_ ?_
          · kernel_rfl
          · intro u hy
            go_simp
            all_goals (first | omega | (rw [IntKind.wrap_i64]; omega))
          with_reducible refine quiet_skip ?_ ?_
          · kernel_rfl
          with_reducible refine quiet_skip ?_ ?_
          · kernel_rfl
          with_reducible refine quiet_skip ?_ ?_
          · kernel_rfl
          with_reducible refine quiet_skip ?_ ?_
          · kernel_rfl
          with_reducible refine quiet_skip ?_ ?_
          · kernel_rfl
          with_reducible refine quiet_skip ?_ ?_
          · kernel_rfl
          with_reducible refine quiet_skip ?_ ?_
          · kernel_rfl
          with_reducible refine quiet_skip ?_ ?_
          · kernel_rfl
          with_reducible refine quiet_skip ?_ ?_
          · kernel_rfl
          with_reducible refine quiet_skip ?_ ?_
          · kernel_rfl
          with_reducible refine quiet_skip ?_ ?_
          · kernel_rfl
          refine wpQuiet_nil ?_
          intro z0 Z0
          replace Z0 : Hid _ := Z0
          go_simp
          go_wp2
          go_loopw [4] (fun t wz => ∃ (k : Nat) (z : World), z = wz ∧ t = .int .i64 (k : Int) ∧ Hid (k ≤ i ∧ (l.take k).any (fun p => decide (p.n = x.n)) = false) ∧ Hid (Below w.heap.size w z)) (fun t _ => (i - intOf t).toNat)
          case atStart => exact ⟨0, _, rfl, rfl, ⟨Nat.zero_le _, rfl⟩, Z0⟩
          case round =>
            obtain ⟨k, z, rfl, rfl, J2, Z⟩ := hrel
            by_cases hk : k < i
            · obtain ⟨p2, hp2⟩ : ∃ p, l[k]? = some p := ⟨_, List.getElem?_eq_getElem (by rw [hnn.out]; have := hlt'.out; omega)⟩
              have hc2 : z.cell? ⟨g, o + k * 2, none⟩ = some (.string p2.n) := by
                obtain ⟨g3, o3, e3, hc3⟩ := hl.out k p2 hp2
                cases e3
                have := range_keep hc3 Z.out 0 (.string p2.n) rfl
                rwa [Nat.add_zero] at this
              have hcx : z.cell? ⟨g, o + i * 2, none⟩ = some (.string x.n) := by
                have := hrx.out z Z.out 0 (.string x.n) rfl
                rwa [Nat.add_zero] at this
              have ik := fun w => idxP (P := Tryd.prog) (g := g) (off := o) (len := n) (cap := cap) Tryd.underlying24 (s := 2) (by kernel_rfl) .i64 k w (by have := hlt'.out; omega)
              have hki : (k : Int) < i := by omega
              have hk' : Hid (k < i) := hk
              have ht2 : Hid (l.take (k + 1) = l.take k ++ [p2]) := by show _ = _; rw [List.take_add_one, hp2]; rfl
              by_cases he : p2.n = x.n
              · have qe : (p2.n.toList == x.n.toList) = true := str_eq he
                have fin : Hid (R = false) := by
                  show _ = _
                  rw [hO2.out]
                  have : (l.take i).any (fun p => decide (p.n = x.n)) = true := by
                    refine List.any_eq_true.2 ⟨p2, ?_, by simp [he]⟩
                    exact List.mem_of_getElem? (i := k) (by rw [List.getElem?_take, if_pos hk]; exact hp2)
                  rw [this]
                  simp
                replace he : Hid _ := he
                clear hk hp2
                go_wp2
                go_quiet (fail)
                go_wp2
                go_ret
                rw [fin.out]
                exact ⟨rfl, below_drewN Z.out⟩
              · have qe : (p2.n.toList == x.n.toList) = false := str_ne he
                have J3 : Hid (k + 1 ≤ i ∧ (l.take (k + 1)).any (fun p => decide (p.n = x.n)) = false) := ⟨hk, by rw [ht2.out, List.any_append, J2.out.2]; simp [he]⟩
                replace he : Hid _ := he
                clear hk hp2
                go_wp2
                go_quiet (fail)
                go_wp2
                go_roundw
                case rel => exact ⟨k + 1, _, rfl, by simp, J3, below_drewN Z.out⟩
                case measure => have := hk'.out; simp [intOf]; omega
            · have hke : k = i := by have := J2.out.1; omega
              subst hke
              have J4 : Hid (k + 1 ≤ n ∧ labG (l.take (k + 1)) (l.drop (k + 1)) = R) := ⟨hlt'.out, by rw [hO2.out, J2.out.2]; simp⟩
              clear hk
              go_wp2
              go_roundw
              case rel => exact ⟨k + 1, _, rfl, by simp, J4, Z⟩
              case measure => have := hlt'.out; simp [intOf]; omega
        · obtain ⟨j, hij⟩ : ∃ j, i = j + 1 := ⟨i - 1, by omega⟩
          obtain ⟨p, hp⟩ : ∃ p, l[j]? = some p := ⟨_, List.getElem?_eq_getElem (by rw [hnn.out]; omega)⟩
          have hlast : (l.take i).getLast? = some p := by rw [hij, List.take_add_one, hp]; simp
          have hpi := hi.out p (List.mem_of_getElem? hp)
          have hrp : Hid (∀ u, Below w.heap.size w u → u.rangeAt g (o + j * 2) (kl p).toList) := fun u hu => by
            obtain ⟨g3, o3, e3, hc3⟩ := hl.out j p hp
            cases e3
            exact range_keep hc3 hu
          have ip : ∀ w, (Instr.indexAt 24 (.slice (some ⟨g, o, none⟩) n cap) (.int .i64 ((i : Int) - 1))).run Tryd.prog w = .ok (.pointer (some ⟨g, o + j * 2, none⟩)) w := fun w => by
            have := idxP (P := Tryd.prog) (g := g) (off := o) (len := n) (cap := cap) Tryd.underlying24 (s := 2) (by kernel_rfl) .i64 j w (by omega)
            rw [show (j : Int) = (i : Int) - 1 by omega] at this
            exact this
          have hi1 : (0 : Int) < (i : Int) := by omega
          have hBf : Hid (∀ v, Calls Tryd.prog 46 #[.agg (kl p), .agg (kl x)] v fun e w' => e = .returned (.bool (befL p x)) ∧ Below v.heap.size v w') := fun v => rbefore_any v p x hpi hxi
          rw [hlast] at hlo
          obtain ⟨bf, hbf⟩ : ∃ q, befL p x = q := ⟨_, rfl⟩
          simp only [hbf] at hlo
          rw [hbf] at hBf
          cases bf
          · have fin : Hid (R = false) := by
              show _ = _
              rw [hO.out, hlo]
              simp
            clear hlt hx hc hd ht hO hlo hlast hij hp hpi hi0 hq hbf hnb hxi
            go_wp2_with (go_at_call 45; refine (hNm.out _).mono ?_; rintro e y3 ⟨rfl, hy3⟩; replace hy3 := hy3.symm; subst hy3)
            refine region_class_tail 14 (Below w.heap.size w) (by kernel_rfl) (by kernel_rfl) (K.out.trans (below_drew (Below.refl _ _))) ?_
            simp only [List.take_succ_cons, List.take_zero, List.drop_succ_cons, List.drop_zero]
            with_reducible refine quiet_one (.int .i64 (i : Int)) ?_ ?_ ?_
            · kernel_rfl
            · intro u hy
              go_simp
              all_goals (first | omega | (rw [IntKind.wrap_i64]; omega))
            with_reducible refine quiet_one (.bool true) ?_ ?_ ?_
            · kernel_rfl
            · intro u hy
              go_simp
              all_goals (first | omega | (rw [IntKind.wrap_i64]; omega))
            with_reducible refine quiet_one (.bool true) ?_ ?_ ?_
            · kernel_rfl
            · intro u hy
              go_simp
              all_goals (first | omega | (rw [IntKind.wrap_i64]; omega))
            with_reducible refine quiet_one (.slice (some ⟨g, o, none⟩) n cap) ?_ ?_ ?_
            · kernel_rfl
            · intro u hy
              go_simp
              all_goals (first | omega | (rw [IntKind.wrap_i64]; omega))
            with_reducible refine quiet_one (.int .i64 (i : Int)) ?_ ?_ ?_
            · kernel_rfl
            · intro u hy
              go_simp
              all_goals (first | omega | (rw [IntKind.wrap_i64]; omega))
            with_reducible refine quiet_one (.int .i64 ((i : Int) - 1)) ?_ ?_ ?_
            · kernel_rfl
            · intro u hy
              go_simp
              all_goals (first | omega | (rw [IntKind.wrap_i64]; omega))
            with_reducible refine quiet_one (.pointer (some ⟨g, o + j * 2, none⟩)) ?_ ?_ ?_
            · kernel_rfl
            · intro u hy
              go_simp
              all_goals (first | omega | (rw [IntKind.wrap_i64]; omega))
            with_reducible refine quiet_one (.agg (kl p)) ?_ ?_ ?_
            · kernel_rfl
            · intro u hy
              generalize hA : Act.put _ _ _ = A
              have e1 : A.eval (.tmp 40) = .pointer (some ⟨g, o + j * 2, none⟩) := by rw [← hA]; go_simp
              clear hA
              exact q_loadm (C := Below w.heap.size w) rtLa g (o + j * 2) (kl p) (fun _ h => hrp.out _ h) rfl (.tmp 40) rfl e1 u hy
            with_reducible refine quiet_one (.slice (some ⟨g, o, none⟩) n cap) ?_ ?_ ?_
            · kernel_rfl
            · intro u hy
              go_simp
              all_goals (first | omega | (rw [IntKind.wrap_i64]; omega))
            with_reducible refine quiet_one (.int .i64 (i : Int)) ?_ ?_ ?_
            · kernel_rfl
            · intro u hy
              go_simp
              all_goals (first | omega | (rw [IntKind.wrap_i64]; omega))
            with_reducible refine quiet_one (.pointer (some ⟨g, o + i * 2, none⟩)) ?_ ?_ ?_
            · kernel_rfl
            · intro u hy
              go_simp
              all_goals (first | omega | (rw [IntKind.wrap_i64]; omega))
            with_reducible refine quiet_one (.agg (kl x)) ?_ ?_ ?_
            · kernel_rfl
            · intro u hy
              generalize hA : Act.put _ _ _ = A
              have e1 : A.eval (.tmp 44) = .pointer (some ⟨g, o + i * 2, none⟩) := by rw [← hA]; go_simp
              clear hA
              exact q_loadm (C := Below w.heap.size w) rtLa g (o + i * 2) (kl x) (fun _ h => hrx.out _ h) rfl (.tmp 44) rfl e1 u hy
            with_reducible refine quiet_one (.bool false) ?_ ?_ ?_
            · kernel_rfl
            · intro u hy
              have d := (hBf.out u).mono fun e w' (h : _ ∧ _) => And.intro h.1 (of_below hy h.2)
              go_simp
              all_goals exact d
            with_reducible refine quiet_one (.bool true) ?_ ?_ ?_
            · kernel_rfl
            · intro u hy
              go_simp
              all_goals (first | omega | (rw [IntKind.wrap_i64]; omega))
            refine wpQuiet_nil ?_
            intro z0 Z0
            replace Z0 : Hid _ := Z0
            go_simp
            go_wp2
            go_ret
            rw [fin.out]
            exact ⟨rfl, Z0.out⟩
          · have hO2 : Hid (R = (!(l.take i).any (fun p => decide (p.n = x.n)) && labG (l.take (i + 1)) (l.drop (i + 1)))) := by
              show _ = _
              rw [hO.out, hlo]
              simp
            clear hlt hx hc hd ht hO hlo hlast hij hp hpi hi0 hq hbf hnb hxi
            go_wp2_with (go_at_call 45; refine (hNm.out _).mono ?_; rintro e y3 ⟨rfl, hy3⟩; replace hy3 := hy3.symm; subst hy3)
            refine region_class_tail 14 (Below w.heap.size w) (by kernel_rfl) (by kernel_rfl) (K.out.trans (below_drew (Below.refl _ _))) ?_
            simp only [List.take_succ_cons, List.take_zero, List.drop_succ_cons, List.drop_zero]
            with_reducible refine quiet_one (.int .i64 (i : Int)) ?_ ?_ ?_
            · kernel_rfl
            · intro u hy
              go_simp
              all_goals (first | omega | (rw [IntKind.wrap_i64]; omega))
            with_reducible refine quiet_one (.bool true) ?_ ?_ ?_
            · kernel_rfl
            · intro u hy
              go_simp
              all_goals (first | omega | (rw [IntKind.wrap_i64]; omega))
            with_reducible refine quiet_one (.bool true) ?_ ?_ ?_
            · kernel_rfl
            · intro u hy
              go_simp
              all_goals (first | omega | (rw [IntKind.wrap_i64]; omega))
            with_reducible refine quiet_one (.slice (some ⟨g, o, none⟩) n cap) ?_ ?_ ?_
            · kernel_rfl
            · intro u hy
              go_simp
              all_goals (first | omega | (rw [IntKind.wrap_i64]; omega))
            with_reducible refine quiet_one (.int .i64 (i : Int)) ?_ ?_ ?_
            · kernel_rfl
            · intro u hy
              go_simp
              all_goals (first | omega | (rw [IntKind.wrap_i64]; omega))
            with_reducible refine quiet_one (.int .i64 ((i : Int) - 1)) ?_ ?_ ?_
            · kernel_rfl
            · intro u hy
              go_simp
              all_goals (first | omega | (rw [IntKind.wrap_i64]; omega))
            with_reducible refine quiet_one (.pointer (some ⟨g, o + j * 2, none⟩)) ?_ ?_ ?_
            · kernel_rfl
            · intro u hy
              go_simp
              all_goals (first | omega | (rw [IntKind.wrap_i64]; omega))
            with_reducible refine quiet_one (.agg (kl p)) ?_ ?_ ?_
            · kernel_rfl
            · intro u hy
              generalize hA : Act.put _ _ _ = A
              have e1 : A.eval (.tmp 40) = .pointer (some ⟨g, o + j * 2, none⟩) := by rw [← hA]; go_simp
              clear hA
              exact q_loadm (C := Below w.heap.size w) rtLa g (o + j * 2) (kl p) (fun _ h => hrp.out _ h) rfl (.tmp 40) rfl e1 u hy
            with_reducible refine quiet_one (.slice (some ⟨g, o, none⟩) n cap) ?_ ?_ ?_
            · kernel_rfl
            · intro u hy
              go_simp
              all_goals (first | omega | (rw [IntKind.wrap_i64]; omega))
            with_reducible refine quiet_one (.int .i64 (i : Int)) ?_ ?_ ?_
            · kernel_rfl
            · intro u hy
              go_simp
              all_goals (first | omega | (rw [IntKind.wrap_i64]; omega))
            with_reducible refine quiet_one (.pointer (some ⟨g, o + i * 2, none⟩)) ?_ ?_ ?_
            · kernel_rfl
            · intro u hy
              go_simp
              all_goals (first | omega | (rw [IntKind.wrap_i64]; omega))
            with_reducible refine quiet_one (.agg (kl x)) ?_ ?_ ?_
            · kernel_rfl
            · intro u hy
              generalize hA : Act.put _ _ _ = A
              have e1 : A.eval (.tmp 44) = .pointer (some ⟨g, o + i * 2, none⟩) := by rw [← hA]; go_simp
              clear hA
              exact q_loadm (C := Below w.heap.size w) rtLa g (o + i * 2) (kl x) (fun _ h => hrx.out _ h) rfl (.tmp 44) rfl e1 u hy
            with_reducible refine quiet_one (.bool true) ?_ ?_ ?_
            · kernel_rfl
            · intro u hy
              have d := (hBf.out u).mono fun e w' (h : _ ∧ _) => And.intro h.1 (of_below hy h.2)
              go_simp
              all_goals exact d
            with_reducible refine quiet_one (.bool false) ?_ ?_ ?_
            · kernel_rfl
            · intro u hy
              go_simp
              all_goals (first | omega | (rw [IntKind.wrap_i64]; omega))
            refine wpQuiet_nil ?_
            intro z0 Z0
            replace Z0 : Hid _ := Z0
            go_simp
            go_wp2
            go_loopw [4] (fun t wz => ∃ (k : Nat) (z : World), z = wz ∧ t = .int .i64 (k : Int) ∧ Hid (k ≤ i ∧ (l.take k).any (fun p => decide (p.n = x.n)) = false) ∧ Hid (Below w.heap.size w z)) (fun t _ => (i - intOf t).toNat)
            case atStart => exact ⟨0, _, rfl, rfl, ⟨Nat.zero_le _, rfl⟩, Z0⟩
            case round =>
              obtain ⟨k, z, rfl, rfl, J2, Z⟩ := hrel
              by_cases hk : k < i
              · obtain ⟨p2, hp2⟩ : ∃ p, l[k]? = some p := ⟨_, List.getElem?_eq_getElem (by rw [hnn.out]; have := hlt'.out; omega)⟩
                have hc2 : z.cell? ⟨g, o + k * 2, none⟩ = some (.string p2.n) := by
                  obtain ⟨g3, o3, e3, hc3⟩ := hl.out k p2 hp2
                  cases e3
                  have := range_keep hc3 Z.out 0 (.string p2.n) rfl
                  rwa [Nat.add_zero] at this
                have hcx : z.cell? ⟨g, o + i * 2, none⟩ = some (.string x.n) := by
                  have := hrx.out z Z.out 0 (.string x.n) rfl
                  rwa [Nat.add_zero] at this
                have ik := fun w => idxP (P := Tryd.prog) (g := g) (off := o) (len := n) (cap := cap) Tryd.underlying24 (s := 2) (by kernel_rfl) .i64 k w (by have := hlt'.out; omega)
                have hki : (k : Int) < i := by omega
                have hk' : Hid (k < i) := hk
                have ht2 : Hid (l.take (k + 1) = l.take k ++ [p2]) := by show _ = _; rw [List.take_add_one, hp2]; rfl
                by_cases he : p2.n = x.n
                · have qe : (p2.n.toList == x.n.toList) = true := str_eq he
                  have fin : Hid (R = false) := by
                    show _ = _
                    rw [hO2.out]
                    have : (l.take i).any (fun p => decide (p.n = x.n)) = true := by
                      refine List.any_eq_true.2 ⟨p2, ?_, by simp [he]⟩
                      exact List.mem_of_getElem? (i := k) (by rw [List.getElem?_take, if_pos hk]; exact hp2)
                    rw [this]
                    simp
                  replace he : Hid _ := he
                  clear hk hp2
                  go_wp2
                  go_quiet (fail)
                  go_wp2
                  go_ret
                  rw [fin.out]
                  exact ⟨rfl, below_drewN Z.out⟩
                · have qe : (p2.n.toList == x.n.toList) = false := str_ne he
                  have J3 : Hid (k + 1 ≤ i ∧ (l.take (k + 1)).any (fun p => decide (p.n = x.n)) = false) := ⟨hk, by rw [ht2.out, List.any_append, J2.out.2]; simp [he]⟩
                  replace he : Hid _ := he
                  clear hk hp2
                  go_wp2
                  go_quiet (fail)
                  go_wp2
                  go_roundw
                  case rel => exact ⟨k + 1, _, rfl, by simp, J3, below_drewN Z.out⟩
                  case measure => have := hk'.out; simp [intOf]; omega
              · have hke : k = i := by have := J2.out.1; omega
                subst hke
                have J4 : Hid (k + 1 ≤ n ∧ labG (l.take (k + 1)) (l.drop (k + 1)) = R) := ⟨hlt'.out, by rw [hO2.out, J2.out.2]; simp⟩
                clear hk
                go_wp2
                go_roundw
                case rel => exact ⟨k + 1, _, rfl, by simp, J4, Z⟩
                case measure => have := hlt'.out; simp [intOf]; omega
    · have hie : i = n := by have := J.out.1; omega
      subst hie
      have fin : Hid (R = true) := by
        have h1 := J.out.2
        rw [List.drop_eq_nil_of_le (by rw [hnn.out]; exact Nat.le_refl _)] at h1
        exact h1.symm
      clear hlt
      go_wp2
      go_ret
      rw [fin.out]
      exact ⟨rfl, K.out⟩
end Go.Proofs.YtkpfhnogpcigaaaDoorR
/- Objects that may be, and their labels: the program's answers and the document's. -/
namespace Go.Proofs.YtkpfhnogpcigaaaDoorR
open Go Go.RowKit
set_option linter.unusedVariables false
set_option maxHeartbeats 3000000
set_option maxRecDepth 20000

theorem blk_bounds : ∀ (l : List Bk) (p : Int), 0 ≤ p → blkOk p l = true → ∀ b ∈ l, 0 ≤ b.a ∧ b.a ≤ 65536 ∧ 1 ≤ b.m ∧ b.m ≤ 65536 := by
  intro l
  induction l with
  | nil => intro p _ _ b hb; cases hb
  | cons x r ih =>
    intro p hp h b hb
    unfold blkOk at h
    rw [Bool.and_eq_true, decide_eq_true_eq] at h
    obtain ⟨⟨h1, h2, h3⟩, h4⟩ := h
    rcases List.mem_cons.1 hb with rfl | hb
    · exact ⟨by omega, by omega, by omega, by omega⟩
    · exact ih _ (by omega) h4 b hb
def okO (ob : Oo) : Bool := blkOk 0 (ob.B.map (·.1)) && (mrk (plB ob.B) ob.M && labG [] ob.L)
/-- What Check answers. -/
def chkO (ob : Oo) : Int := if okO ob then 0 else 1
/-- An object whose lists have their room. -/
structure Lco (w : World) (ob : Oo) : Prop where
  lo : Lo w ob
  cb : ∀ x ∈ ob.B, x.1.m ≤ x.1.cap
  cm : ob.M.length ≤ ob.mc
theorem Lco.below {w y : World} {ob : Oo} (h : Lco w ob) (hb : Below w.heap.size w y) : Lco y ob := ⟨h.lo.below hb, h.cb, h.cm⟩
theorem ocheck_any (w : World) (T : Hid (Tabs w)) (ob : Oo) (h : Hid (Lco w ob)) : Calls Tryd.prog 9 #[.agg (oC ob)] w fun e w' => e = .returned (.int .i64 (chkO ob)) ∧ Hid (Below w.heap.size w w') := by
  have K0 : Hid (Fm w [(w.heap.size, oC ob, 26)] (w.alloc (.cells (oC ob) 26))) := Fm.one w _ _
  have hd : Hid (∀ y, Fm w [(w.heap.size, oC ob, 26)] y → y.cell? ⟨w.heap.size, 0, none⟩ = some (.slice ob.bp ob.B.length ob.bc) ∧ y.cell? ⟨w.heap.size, 1, none⟩ = some (.slice ob.mp ob.M.length ob.mc) ∧ y.cell? ⟨w.heap.size, 2, none⟩ = some (.slice ob.lp ob.L.length ob.lc)) := fun y hy => ⟨(hy.bx 0 _ _ _ rfl).c 0 _ rfl, (hy.bx 0 _ _ _ rfl).c 1 _ rfl, (hy.bx 0 _ _ _ rfl).c 2 _ rfl⟩
  obtain ⟨e0, e1, e2⟩ := hd.out _ K0.out
  have hB : Hid (∀ v, Below w.heap.size w v → Calls Tryd.prog 27 #[.slice ob.bp ob.B.length ob.bc] v fun e w' => e = .returned (.bool (blkOk 0 (ob.B.map (·.1)))) ∧ Hid (Below v.heap.size v w')) := fun v hv => by
    have k := blocks_any v ob.bp ob.bc (ob.B.map fun x : Bb => x.1) (h.out.lo.below hv).b (fun b hb => by obtain ⟨x, hx, rfl⟩ := List.mem_map.1 hb; exact h.out.lo.ib x hx) (by rw [List.length_map]; exact h.out.lo.n.1)
    rw [List.length_map] at k
    exact k
  have hM : Hid (blkOk 0 (ob.B.map (·.1)) = true → ∀ v, Below w.heap.size w v → Calls Tryd.prog 28 #[.slice ob.bp ob.B.length ob.bc, .slice ob.mp ob.M.length ob.mc] v fun e w' => e = .returned (.bool (mrk (plB ob.B) ob.M)) ∧ Hid (Below v.heap.size v w')) := fun hb v hv => by
    have hl := h.out.lo.below hv
    refine marks_any v (T.out.below hv) ob.bp ob.bc ob.B ob.mp ob.mc ob.M hl.b (fun x hx => ?_) hl.m hl.im h.out.cm hl.n.1 hl.n.2.1
    obtain ⟨b1, b2, b3, b4⟩ := blk_bounds _ 0 (by decide) hb x.1 (List.mem_map_of_mem hx)
    exact ⟨(hl.g x hx).1, (hl.g x hx).2, h.out.cb x hx, b1, b2, b3, b4⟩
  have hL : Hid (∀ v, Below w.heap.size w v → Calls Tryd.prog 29 #[.slice ob.lp ob.L.length ob.lc] v fun e w' => e = .returned (.bool (labG [] ob.L)) ∧ Hid (Below v.heap.size v w')) := fun v hv => labels_any v (T.out.below hv) ob.lp ob.lc ob.L (h.out.lo.below hv).l (fun x hx => (h.out.lo.il x hx).1) h.out.lo.n.2.2
  obtain ⟨b1, hb1⟩ : ∃ b, blkOk 0 (ob.B.map fun x : Bb => x.1) = b := ⟨_, rfl⟩
  obtain ⟨b2, hb2⟩ : ∃ b, mrk (plB ob.B) ob.M = b := ⟨_, rfl⟩
  obtain ⟨b3, hb3⟩ : ∃ b, labG [] ob.L = b := ⟨_, rfl⟩
  have hR : Hid (chkO ob = if (b1 && (b2 && b3)) then 0 else 1) := by show _ = _; unfold chkO okO; rw [hb1, hb2, hb3]
  rw [hb1] at hB hM
  rw [hb2] at hM
  rw [hb3] at hL
  clear hb1 hb2 hb3
  cases b1
  · have fin : Hid (chkO ob = 1) := hR.out
    go_enter Tryd.func9, Tryd.ntmps9
    go_wp2_with (go_at_call 27; refine (hB.out _ K0.out.low).mono ?_; rintro e y1 ⟨rfl, H1⟩; have K1 : Hid (Fm w [(w.heap.size, oC ob, 26)] y1) := K0.out.below H1.out; clear H1)
    go_ret
    rw [fin.out]
    exact ⟨rfl, K1.out.low⟩
  · have hM2 : Hid (∀ v, Below w.heap.size w v → Calls Tryd.prog 28 #[.slice ob.bp ob.B.length ob.bc, .slice ob.mp ob.M.length ob.mc] v fun e w' => e = .returned (.bool b2) ∧ Hid (Below v.heap.size v w')) := hM.out rfl
    clear hM
    cases b2
    · have fin : Hid (chkO ob = 1) := hR.out
      go_enter Tryd.func9, Tryd.ntmps9
      go_wp2_with (first
        | (go_at_call 27; refine (hB.out _ K0.out.low).mono ?_; rintro e y1 ⟨rfl, H1⟩; have K1 : Hid (Fm w [(w.heap.size, oC ob, 26)] y1) := K0.out.below H1.out; clear H1 e0 e1 e2; obtain ⟨e0, e1, e2⟩ := hd.out _ K1.out)
        | (go_at_call 28; refine (hM2.out _ K1.out.low).mono ?_; rintro e y2 ⟨rfl, H2⟩; have K2 : Hid (Fm w [(w.heap.size, oC ob, 26)] y2) := K1.out.below H2.out; clear H2))
      go_ret
      rw [fin.out]
      exact ⟨rfl, K2.out.low⟩
    · cases b3
      all_goals
        go_enter Tryd.func9, Tryd.ntmps9
        go_wp2_with (first
          | (go_at_call 27; refine (hB.out _ K0.out.low).mono ?_; rintro e y1 ⟨rfl, H1⟩; have K1 : Hid (Fm w [(w.heap.size, oC ob, 26)] y1) := K0.out.below H1.out; clear H1 e0 e1 e2; obtain ⟨e0, e1, e2⟩ := hd.out _ K1.out)
          | (go_at_call 28; refine (hM2.out _ K1.out.low).mono ?_; rintro e y2 ⟨rfl, H2⟩; have K2 : Hid (Fm w [(w.heap.size, oC ob, 26)] y2) := K1.out.below H2.out; clear H2 e0 e1 e2; obtain ⟨e0, e1, e2⟩ := hd.out _ K2.out)
          | (go_at_call 29; refine (hL.out _ K2.out.low).mono ?_; rintro e y3 ⟨rfl, H3⟩; have K3 : Hid (Fm w [(w.heap.size, oC ob, 26)] y3) := K2.out.below H3.out; clear H3))
        go_ret
        rw [hR.out]
        exact ⟨rfl, K3.out.low⟩
theorem rocheck_any (w : World) (ob : Oo) (h : Hid (Lco w ob)) : Calls Tryd.prog 14 #[.agg (oC ob)] w fun e w' => e = .returned (.int .i64 (chkO ob)) ∧ Hid (Below w.heap.size w w') := by
  have K0 : Hid (Fm w [(w.heap.size, oC ob, 26)] (w.alloc (.cells (oC ob) 26))) := Fm.one w _ _
  have hd : Hid (∀ y, Fm w [(w.heap.size, oC ob, 26)] y → y.cell? ⟨w.heap.size, 2, none⟩ = some (.slice ob.lp ob.L.length ob.lc)) := fun y hy => (hy.bx 0 _ _ _ rfl).c 2 _ rfl
  have hB : Hid (∀ v, Below w.heap.size w v → Calls Tryd.prog 31 #[.agg (oC ob)] v fun e w' => e = .returned (.bool (blkOk 0 (ob.B.map (·.1)))) ∧ Hid (Below v.heap.size v w')) := fun v hv => rblocks_any v ob (h.out.lo.below hv)
  have hM : Hid (blkOk 0 (ob.B.map (·.1)) = true → ∀ v, Below w.heap.size w v → Calls Tryd.prog 32 #[.agg (oC ob)] v fun e w' => e = .returned (.bool (mrk (plB ob.B) ob.M)) ∧ Hid (Below v.heap.size v w')) := fun hb v hv => by
    refine rmarks_any v ob (h.out.lo.below hv) (fun x hx => ?_)
    obtain ⟨b1, b2, b3, b4⟩ := blk_bounds _ 0 (by decide) hb x.1 (List.mem_map_of_mem hx)
    exact ⟨h.out.cb x hx, b1, b2, b3, b4⟩
  have hL : Hid (∀ v, Below w.heap.size w v → Calls Tryd.prog 33 #[.slice ob.lp ob.L.length ob.lc] v fun e w' => e = .returned (.bool (labG [] ob.L)) ∧ Hid (Below v.heap.size v w')) := fun v hv => rlabels_any v ob.lp ob.lc ob.L (h.out.lo.below hv).l (fun x hx => (h.out.lo.il x hx).1) h.out.lo.n.2.2
  obtain ⟨b1, hb1⟩ : ∃ b, blkOk 0 (ob.B.map fun x : Bb => x.1) = b := ⟨_, rfl⟩
  obtain ⟨b2, hb2⟩ : ∃ b, mrk (plB ob.B) ob.M = b := ⟨_, rfl⟩
  obtain ⟨b3, hb3⟩ : ∃ b, labG [] ob.L = b := ⟨_, rfl⟩
  have hR : Hid (chkO ob = if (b1 && (b2 && b3)) then 0 else 1) := by show _ = _; unfold chkO okO; rw [hb1, hb2, hb3]
  rw [hb1] at hB hM
  rw [hb2] at hM
  rw [hb3] at hL
  clear hb1 hb2 hb3
  cases b1
  · have fin : Hid (chkO ob = 1) := hR.out
    go_enter Tryd.func14, Tryd.ntmps14
    go_wp2_with (first
      | ((with_reducible refine at_load rtO w.heap.size (oC ob) ?_ ?_ (.tmp 1) ?_ ?_ ?_ ?_); exact K0.out.bx 0 _ _ _ rfl; rfl; rfl; rfl; rfl)
      | (go_at_call 31; refine (hB.out _ K0.out.low).mono ?_; rintro e y1 ⟨rfl, H1⟩; have K1 : Hid (Fm w [(w.heap.size, oC ob, 26)] y1) := K0.out.below H1.out; clear H1))
    go_ret
    rw [fin.out]
    exact ⟨rfl, K1.out.low⟩
  · have hM2 : Hid (∀ v, Below w.heap.size w v → Calls Tryd.prog 32 #[.agg (oC ob)] v fun e w' => e = .returned (.bool b2) ∧ Hid (Below v.heap.size v w')) := hM.out rfl
    clear hM
    cases b2
    · have fin : Hid (chkO ob = 1) := hR.out
      go_enter Tryd.func14, Tryd.ntmps14
      go_wp2_with (first
        | ((with_reducible refine at_load rtO w.heap.size (oC ob) ?_ ?_ (.tmp 1) ?_ ?_ ?_ ?_); (first | exact K1.out.bx 0 _ _ _ rfl | exact K0.out.bx 0 _ _ _ rfl); rfl; (first | rfl | kernel_rfl); rfl; rfl)
        | (go_at_call 31; refine (hB.out _ K0.out.low).mono ?_; rintro e y1 ⟨rfl, H1⟩; have K1 : Hid (Fm w [(w.heap.size, oC ob, 26)] y1) := K0.out.below H1.out; clear H1)
        | (go_at_call 32; refine (hM2.out _ K1.out.low).mono ?_; rintro e y2 ⟨rfl, H2⟩; have K2 : Hid (Fm w [(w.heap.size, oC ob, 26)] y2) := K1.out.below H2.out; clear H2))
      go_ret
      rw [fin.out]
      exact ⟨rfl, K2.out.low⟩
    · cases b3
      all_goals
        go_enter Tryd.func14, Tryd.ntmps14
        go_wp2_with (first
          | ((with_reducible refine at_load rtO w.heap.size (oC ob) ?_ ?_ (.tmp 1) ?_ ?_ ?_ ?_); (first | exact K1.out.bx 0 _ _ _ rfl | exact K0.out.bx 0 _ _ _ rfl); rfl; (first | rfl | kernel_rfl); rfl; rfl)
          | (go_at_call 31; refine (hB.out _ K0.out.low).mono ?_; rintro e y1 ⟨rfl, H1⟩; have K1 : Hid (Fm w [(w.heap.size, oC ob, 26)] y1) := K0.out.below H1.out; clear H1)
          | (go_at_call 32; refine (hM2.out _ K1.out.low).mono ?_; rintro e y2 ⟨rfl, H2⟩; have K2 : Hid (Fm w [(w.heap.size, oC ob, 26)] y2) := K1.out.below H2.out; clear H2; have e2 := hd.out _ K2.out)
          | (go_at_call 33; refine (hL.out _ K2.out.low).mono ?_; rintro e y3 ⟨rfl, H3⟩; have K3 : Hid (Fm w [(w.heap.size, oC ob, 26)] y3) := K2.out.below H3.out; clear H3))
        go_ret
        rw [hR.out]
        exact ⟨rfl, K3.out.low⟩
end Go.Proofs.YtkpfhnogpcigaaaDoorR
/- An object's bytes, by plain mathematics; the document's answer. -/
namespace Go.Proofs.YtkpfhnogpcigaaaDoorR
open Go Go.RowKit
set_option linter.unusedVariables false
set_option maxHeartbeats 3000000
set_option maxRecDepth 20000

/-- Bytes laid over others: from fr on there is out, from a on there is bs. -/
def ovr (fr : Int) (out : List UInt8) (a : Int) (bs : List UInt8) : List UInt8 := (List.range out.length).map fun (k : Nat) => if a ≤ fr + k then (bs[(fr + k - a).toNat]?).getD (out.getD k 0) else out.getD k 0
def ovrAll (fr : Int) : List UInt8 → List (Int × List UInt8) → List UInt8
  | out, [] => out
  | out, b :: r => ovrAll fr (ovr fr out b.1 b.2) r
theorem ovr_len (fr : Int) (out : List UInt8) (a : Int) (bs : List UInt8) : (ovr fr out a bs).length = out.length := by unfold ovr; simp
theorem ovr_at (fr : Int) (out : List UInt8) (a : Int) (bs : List UInt8) (k : Nat) (h : k < out.length) : (ovr fr out a bs)[k]? = some (if a ≤ fr + k then (bs[(fr + k - a).toNat]?).getD (out.getD k 0) else out.getD k 0) := by
  unfold ovr
  rw [List.getElem?_map, List.getElem?_range h]
  rfl
theorem ovr_nil (fr : Int) (out : List UInt8) (a : Int) : ovr fr out a [] = out := by
  apply List.ext_getElem?
  intro k
  by_cases h : k < out.length
  · rw [ovr_at _ _ _ _ _ h]
    have : out[k]? = some (out.getD k 0) := by rw [List.getD_eq_getElem?_getD, List.getElem?_eq_getElem h]; rfl
    rw [this]
    split <;> simp
  · rw [List.getElem?_eq_none (by rw [ovr_len]; omega), List.getElem?_eq_none (by omega)]
theorem ovr_step (fr : Int) (out : List UInt8) (a : Int) (bs : List UInt8) (k : Nat) (b : UInt8) (hb : bs[k]? = some b) : ovr fr out a (bs.take (k + 1)) = if fr ≤ a + k ∧ a + k < fr + out.length then (ovr fr out a (bs.take k)).set (a + k - fr).toNat b else ovr fr out a (bs.take k) := by
  have hk := (List.getElem?_eq_some_iff.1 hb).1
  apply List.ext_getElem?
  intro j
  by_cases h : j < out.length
  · rw [ovr_at _ _ _ _ _ h]
    have ht : ∀ q : Nat, q ≠ k → (bs.take (k + 1))[q]? = (bs.take k)[q]? := fun q hq => by
      rw [List.getElem?_take, List.getElem?_take]
      by_cases h1 : q < k
      · rw [if_pos (by omega), if_pos h1]
      · rw [if_neg (by omega), if_neg h1]
    have htk : (bs.take (k + 1))[k]? = some b := by rw [List.getElem?_take, if_pos (by omega)]; exact hb
    have htk0 : (bs.take k)[k]? = none := by rw [List.getElem?_take, if_neg (by omega)]
    by_cases hj : fr + (j : Int) = a + k
    · have h1 : a ≤ fr + (j : Int) := by omega
      have h2 : (fr + (j : Int) - a).toNat = k := by omega
      rw [if_pos h1, h2, htk, if_pos ⟨by omega, by omega⟩, show (a + k - fr).toNat = j by omega, List.getElem?_set_self (by rw [ovr_len]; exact h)]
      rfl
    · have key : (if a ≤ fr + (j : Int) then ((bs.take (k + 1))[(fr + (j : Int) - a).toNat]?).getD (out.getD j 0) else out.getD j 0) = (if a ≤ fr + (j : Int) then ((bs.take k)[(fr + (j : Int) - a).toNat]?).getD (out.getD j 0) else out.getD j 0) := by
        by_cases h1 : a ≤ fr + (j : Int)
        · rw [if_pos h1, if_pos h1, ht _ (by omega)]
        · rw [if_neg h1, if_neg h1]
      rw [key, ← ovr_at fr out a (bs.take k) j h]
      split
      · rw [List.getElem?_set_ne (by omega)]
      · rfl
  · rw [List.getElem?_eq_none (by rw [ovr_len]; omega)]
    symm
    apply List.getElem?_eq_none
    split
    · rw [List.length_set, ovr_len]; omega
    · rw [ovr_len]; omega
theorem ovrAll_len : ∀ (B : List (Int × List UInt8)) (fr : Int) (out : List UInt8), (ovrAll fr out B).length = out.length := by
  intro B
  induction B with
  | nil => intro fr out; rfl
  | cons b r ih => intro fr out; show (ovrAll fr (ovr fr out b.1 b.2) r).length = _; rw [ih, ovr_len]
def bytE (ob : Oo) (fr to : Int) : Int := if chkO ob ≠ 0 then chkO ob else if fr < 0 ∨ to < fr ∨ 65536 < to then 1 else 0
def bytL (ob : Oo) (fr to : Int) : List UInt8 := if bytE ob fr to = 0 then ovrAll fr (List.replicate (to - fr).toNat 0) (plB ob.B) else []
theorem bytL_no {ob : Oo} {fr to : Int} (h : bytE ob fr to ≠ 0) : bytL ob fr to = [] := by unfold bytL; rw [if_neg h]
/-- What Bytes leaves: bytes in a block of their own, or none. -/
def ByE (w : World) (l : List UInt8) (E : Int) (e : Ending) (w' : World) : Prop := ∃ p c, e = .returned (.tuple #[.slice p l.length c, .int .i64 E]) ∧ Hid (Below w.heap.size w w' ∧ ((p = none ∧ c = 0 ∧ l = []) ∨ ∃ g, p = some ⟨g, 0, none⟩ ∧ w.heap.size ≤ g ∧ c = l.length ∧ Bx w' g (rU l) 5))
theorem chk01 (ob : Oo) : chkO ob = 0 ∨ chkO ob = 1 := by unfold chkO; split <;> simp
theorem hmkB (D : Nat) (L : Int) (hL : L = (D : Int)) (hD : D ≤ 65536) (y : World) : (Instr.makeSlice 33 (.int .i64 L) (.int .i64 L)).run Tryd.prog y = .ok (.slice (some ⟨y.heap.size, 0, none⟩) D D) (y.alloc (.cells (rU (List.replicate D 0)) 5)) := by
  subst hL
  obtain ⟨ib, hib, hb0, hb1, hb2⟩ := info_parts infoB
  have := run_make (P := Tryd.prog) y 33 5 ib _ Tryd.underlying33 hib hb0 .i64 .i64 (D : Int) (D : Int) (by omega) (Int.le_refl _) (by rw [hb2]; omega) (by omega)
  rw [hb1, Int.toNat_natCast] at this
  rw [← made_u8]
  exact this
theorem robytes_any (w : World) (ob : Oo) (h : Hid (Lco w ob)) (fr to : Int) (hf : inI fr) (ht : inI to) : Calls Tryd.prog 11 #[.agg (oC ob), .int .i64 fr, .int .i64 to] w (ByE w (bytL ob fr to) (bytE ob fr to)) := by
  have K0 : Hid (Fm w [(w.heap.size, oC ob, 26)] (w.alloc (.cells (oC ob) 26))) := Fm.one w _ _
  have hC := rocheck_any _ ob (h.out.below K0.out.low)
  obtain ⟨f0, f1⟩ := hf
  obtain ⟨t0, t1⟩ := ht
  rcases chk01 ob with hc | hc
  · rw [hc] at hC
    by_cases hq : fr < 0 ∨ to < fr ∨ 65536 < to
    · have hE : bytE ob fr to = 1 := by unfold bytE; rw [if_neg (by rw [hc]; simp), if_pos hq]
      rw [hE, bytL_no (by rw [hE]; decide)]
      have q : (fr < 0) ∨ (¬ fr < 0 ∧ to < fr) ∨ (¬ fr < 0 ∧ ¬ to < fr ∧ 65536 < to) := by omega
      clear hE hq
      rcases q with q1 | ⟨q1, q2⟩ | ⟨q1, q2, q3⟩
      all_goals
        go_enter Tryd.func11, Tryd.ntmps11
        go_wp2_with (first
          | ((with_reducible refine at_load rtO w.heap.size (oC ob) ?_ ?_ (.tmp 3) ?_ ?_ ?_ ?_); exact K0.out.bx 0 _ _ _ rfl; rfl; rfl; rfl; rfl)
          | (go_at_call 14; refine hC.mono ?_; rintro e y1 ⟨rfl, H1⟩; have K1 : Hid (Fm w [(w.heap.size, oC ob, 26)] y1) := K0.out.below H1.out; clear H1))
        go_ret2
        exact ⟨none, 0, rfl, K1.out.low, .inl ⟨rfl, rfl, rfl⟩⟩
    · have hE : bytE ob fr to = 0 := by unfold bytE; rw [if_neg (by rw [hc]; simp), if_neg hq]
      have hLe : bytL ob fr to = ovrAll fr (List.replicate (to - fr).toNat 0) (plB ob.B) := by unfold bytL; rw [if_pos hE]
      rw [hE, hLe]
      obtain ⟨D, hD⟩ : ∃ D, (to - fr).toNat = D := ⟨_, rfl⟩
      rw [hD]
      obtain ⟨R, hR⟩ : ∃ R, ovrAll fr (List.replicate D 0) (plB ob.B) = R := ⟨_, rfl⟩
      have hR' : Hid (ovrAll fr (List.replicate D 0) (plB ob.B) = R ∧ R.length = D) := ⟨hR, by rw [← hR, ovrAll_len, List.length_replicate]⟩
      rw [hR]
      have q1 : ¬ fr < 0 := by omega
      have q2 : ¬ to < fr := by omega
      have q3 : ¬ 65536 < to := by omega
      have hDi : Hid (to - fr = (D : Int) ∧ D ≤ 65536) := ⟨by omega, by omega⟩
      have wD : IntKind.i64.wrap (to - fr) = to - fr := by rw [IntKind.wrap_i64]; omega
      have hok : blkOk 0 (ob.B.map (·.1)) = true := by
        unfold chkO okO at hc
        rcases hb : blkOk 0 (ob.B.map fun x : Bb => x.1) with _ | _
        · rw [hb] at hc; simp at hc
        · rfl
      have hbd : Hid (∀ x ∈ ob.B, 0 ≤ x.1.a ∧ x.1.a ≤ 65536 ∧ 1 ≤ x.1.m ∧ x.1.m ≤ 65536) := fun x hx => blk_bounds _ 0 (by decide) hok x.1 (List.mem_map_of_mem hx)
      obtain ⟨n, hn'⟩ : ∃ n, ob.B.length = n := ⟨_, rfl⟩
      have hnn : Hid (ob.B.length = n) := hn'
      have ni : (n : Int) ≤ 2147483647 := by have := h.out.lo.n; omega
      obtain ⟨bp, hbp⟩ : ∃ q, ob.bp = q := ⟨_, rfl⟩
      obtain ⟨bc, hbc⟩ : ∃ q, ob.bc = q := ⟨_, rfl⟩
      have hd0 : Hid (∀ (y : World) l, Fm w ((w.heap.size, oC ob, 26) :: l) y → y.cell? ⟨w.heap.size, 0, none⟩ = some (.slice bp n bc)) := fun y l hy => by
        have h1 := (hy.bx 0 _ _ _ rfl).c 0 (.slice ob.bp ob.B.length ob.bc) rfl
        rw [hbp, hbc, hn'] at h1
        exact h1
      have hLb : Hid (LiesL 2 cK w bp (ob.B.map (·.1)) ∧ ∀ x ∈ ob.B, LB8 w x.1.sp x.2 ∧ x.2.length = x.1.m) := ⟨by rw [← hbp]; exact h.out.lo.b, h.out.lo.g⟩
      clear hE hLe hD hR hq hok hn' hbp hbc
      go_enter Tryd.func11, Tryd.ntmps11
      go_wp2_with (first
        | ((with_reducible refine at_load rtO w.heap.size (oC ob) ?_ ?_ (.tmp 3) ?_ ?_ ?_ ?_); exact K0.out.bx 0 _ _ _ rfl; rfl; rfl; rfl; rfl)
        | (go_at_call 14; refine hC.mono ?_; rintro e y1 ⟨rfl, H1⟩; have K1 : Hid (Fm w [(w.heap.size, oC ob, 26)] y1) := K0.out.below H1.out; clear H1; have hmk := hmkB D (to - fr) hDi.out.1 hDi.out.2 y1))
      obtain ⟨g, hg⟩ : ∃ g, y1.heap.size = g := ⟨_, rfl⟩
      have K2 : Hid (Fm w [(w.heap.size, oC ob, 26), (g, rU (List.replicate D 0), 5)] (y1.alloc (.cells (rU (List.replicate D 0)) 5))) := by rw [← hg]; exact K1.out.new _ _
      have hgw : Hid (w.heap.size ≤ g) := by rw [← hg]; exact K1.out.low.size
      rw [hg]
      go_loopw [9] (fun t wz => ∃ (i : Nat) (out : List UInt8) (y : World), y = wz ∧ t = .int .i64 (i : Int) ∧ Hid (i ≤ n ∧ out.length = D ∧ ovrAll fr out ((plB ob.B).drop i) = R) ∧ Hid (Fm w [(w.heap.size, oC ob, 26), (g, rU out, 5)] y)) (fun t _ => (n - intOf t).toNat)
      case atStart => exact ⟨0, _, _, rfl, rfl, ⟨Nat.zero_le _, List.length_replicate .., hR'.out.1⟩, K2⟩
      case round =>
        obtain ⟨i, out, y, rfl, rfl, J, K⟩ := hrel
        clear hmk hg
        have c0 := hd0.out y _ K.out
        by_cases hlt : i < n
        · obtain ⟨x, hx⟩ : ∃ x, ob.B[i]? = some x := ⟨_, List.getElem?_eq_getElem (by rw [hnn.out]; exact hlt)⟩
          have hxm := List.mem_of_getElem? hx
          obtain ⟨gb, o, rfl, hcx⟩ := hLb.out.1 i x.1 (by rw [List.getElem?_map, hx]; rfl)
          obtain ⟨g1, g2, g3, g4⟩ := hbd.out x hxm
          obtain ⟨lx, lxm⟩ := hLb.out.2 x hxm
          have hd : (plB ob.B).drop i = (x.1.a, x.2) :: (plB ob.B).drop (i + 1) := by
            have h : (plB ob.B)[i]? = some (x.1.a, x.2) := by rw [List.getElem?_map, hx]; rfl
            obtain ⟨h1, e⟩ := List.getElem?_eq_some_iff.1 h
            rw [List.drop_eq_getElem_cons h1, e]
          have hO : Hid (ovrAll fr (ovr fr out x.1.a x.2) ((plB ob.B).drop (i + 1)) = R) := by
            have h1 := J.out.2.2
            rw [hd] at h1
            exact h1
          obtain ⟨a0, ha0⟩ : ∃ q, x.1.a = q := ⟨_, rfl⟩
          obtain ⟨L, hLm⟩ : ∃ q, x.1.m = q := ⟨_, rfl⟩
          obtain ⟨xs, hxs⟩ : ∃ q, x.1.sp = q := ⟨_, rfl⟩
          obtain ⟨xc, hxc⟩ : ∃ q, x.1.cap = q := ⟨_, rfl⟩
          obtain ⟨bs, hbs⟩ : ∃ q, x.2 = q := ⟨_, rfl⟩
          have hcb : Hid (∀ u, Below w.heap.size w u → u.cell? ⟨gb, o + i * 2, none⟩ = some (.int .i64 a0) ∧ u.cell? ⟨gb, o + i * 2 + 1, none⟩ = some (.slice xs L xc)) := fun u hu => by
            have k1 := range_keep hcx hu 0 (.int .i64 x.1.a) rfl
            have k2 := range_keep hcx hu 1 (.slice x.1.sp x.1.m x.1.cap) rfl
            rw [Nat.add_zero, ha0] at k1
            rw [hxs, hLm, hxc] at k2
            exact ⟨k1, k2⟩
          have hlx : Hid (∀ u, Below w.heap.size w u → LB8 u xs bs) := fun u hu => by rw [← hxs, ← hbs]; exact lx.below hu
          rw [ha0, hbs] at hO
          rw [ha0] at g1 g2
          rw [hLm] at g3 g4 lxm
          rw [hbs] at lxm
          have hbl : Hid (bs.length = L) := lxm
          have Li : (L : Int) ≤ 65536 := by omega
          have ij := fun w => idxP (P := Tryd.prog) (g := gb) (off := o) (len := n) (cap := bc) Tryd.underlying22 (s := 2) (by kernel_rfl) .i64 i w hlt
          have hii : (i : Int) < n := by omega
          have hlt' : Hid (i < n) := hlt
          have hol : Hid (out.length = D) := J.out.2.1
          clear hlt hx hxm hcx lx lxm hd ha0 hLm hxs hxc hbs g3 g4 J
          go_wp2
          go_loopw [10] (fun t wz => ∃ (k : Nat) (u : World), u = wz ∧ t = .int .i64 (k : Int) ∧ Hid (k ≤ L) ∧ Hid (Fm w [(w.heap.size, oC ob, 26), (g, rU (ovr fr out a0 (bs.take k)), 5)] u)) (fun t _ => (L - intOf t).toNat)
          case atStart => exact ⟨0, _, rfl, rfl, Nat.zero_le _, by rw [List.take_zero, ovr_nil]; exact K⟩
          case round =>
            obtain ⟨k, y, rfl, rfl, J, K⟩ := hrel
            clear c0
            have c0 := hd0.out y _ K.out
            obtain ⟨e0, e1⟩ := hcb.out y K.out.low
            by_cases hk : k < L
            · obtain ⟨b, hb⟩ : ∃ b, bs[k]? = some b := ⟨_, List.getElem?_eq_getElem (by rw [hbl.out]; exact hk)⟩
              obtain ⟨g9, o9, rfl, cb⟩ := hlx.out y K.out.low k b hb
              have cb' : y.cell? ⟨g9, o9 + k, none⟩ = some (.int .u8 (b.toNat : Int)) := cb
              have ik : ∀ w, (Instr.indexAt 33 (.slice (some ⟨g9, o9, none⟩) L xc) (.int .i64 (k : Int))).run Tryd.prog w = .ok (.pointer (some ⟨g9, o9 + k, none⟩)) w := fun w => by
                have := idxP (P := Tryd.prog) (g := g9) (off := o9) (len := L) (cap := xc) Tryd.underlying33 (s := 1) (by kernel_rfl) .i64 k w hk
                rw [Nat.mul_one] at this
                exact this
              have hst := ovr_step fr out a0 bs k b hb
              rw [hol.out] at hst
              have wk : IntKind.i64.wrap (a0 + k) = a0 + k := by rw [IntKind.wrap_i64]; omega
              have hki : (k : Int) < L := by omega
              have hk' : Hid (k < L) := hk
              by_cases hin : fr ≤ a0 + (k : Int) ∧ a0 + (k : Int) < to
              · rw [if_pos ⟨hin.1, by have := hDi.out.1; omega⟩] at hst
                obtain ⟨i1, i2⟩ := hin
                obtain ⟨z, hz⟩ : ∃ z : Nat, a0 + (k : Int) - fr = (z : Int) := ⟨(a0 + (k : Int) - fr).toNat, by omega⟩
                have wz9 : IntKind.i64.wrap (a0 + k - fr) = a0 + k - fr := by rw [IntKind.wrap_i64]; omega
                have hzD : z < D := by have := hDi.out.1; omega
                rw [hz, Int.toNat_natCast] at hst
                have iz : ∀ w, (Instr.indexAt 33 (.slice (some ⟨g, 0, none⟩) D D) (.int .i64 (a0 + (k : Int) - fr))).run Tryd.prog w = .ok (.pointer (some ⟨g, z, none⟩)) w := fun w => by
                  have := idxP (P := Tryd.prog) (g := g) (off := 0) (len := D) (cap := D) Tryd.underlying33 (s := 1) (by kernel_rfl) .i64 z w hzD
                  rw [Nat.zero_add, Nat.mul_one, ← hz] at this
                  exact this
                have bx := K.out.bx 1 _ _ _ rfl
                have zc : ∃ c, y.cell? ⟨g, z, none⟩ = some c := by
                  have hl9 : z < (rU (ovr fr out a0 (bs.take k))).size := by unfold rU; simp [ovr_len, hol.out]; exact hzD
                  exact ⟨_, bx.c z _ (Array.getElem?_eq_getElem hl9)⟩
                obtain ⟨c9, zc⟩ := zc
                have zf := bx.fz z
                have K9 : Hid (Fm w [(w.heap.size, oC ob, 26), (g, rU (ovr fr out a0 (bs.take (k + 1))), 5)] (y.setCell ⟨g, z, none⟩ (.int .u8 (b.toNat : Int)))) := by
                  have := K.out.setCell 1 g _ (rU (ovr fr out a0 (bs.take (k + 1)))) 5 rfl z (byV b) (by rw [rU_set, hst])
                  exact this
                clear hst hb hk hz hzD bx cb
                go_wp2
                go_roundw
                case rel => exact ⟨k + 1, _, rfl, by simp, hk'.out, K9⟩
                case measure => have := hk'.out; simp [intOf]; omega
              · rw [if_neg (fun e => hin ⟨e.1, by have := hDi.out.1; omega⟩)] at hst
                have K9 : Hid (Fm w [(w.heap.size, oC ob, 26), (g, rU (ovr fr out a0 (bs.take (k + 1))), 5)] y) := by rw [hst]; exact K.out
                have q : ¬ fr ≤ a0 + (k : Int) ∨ (fr ≤ a0 + (k : Int) ∧ ¬ a0 + (k : Int) < to) := by omega
                clear hst hb hk hin cb
                rcases q with i1 | ⟨i1, i2⟩
                all_goals
                  go_wp2
                  go_roundw
                  case rel => exact ⟨k + 1, _, rfl, by simp, hk'.out, K9⟩
                  case measure => have := hk'.out; simp [intOf]; omega
            · have hke : k = L := by have := J.out; omega
              subst hke
              have K9 : Hid (Fm w [(w.heap.size, oC ob, 26), (g, rU (ovr fr out a0 bs), 5)] y) := by
                have := K.out
                rw [List.take_of_length_le (by rw [hbl.out]; exact Nat.le_refl _)] at this
                exact this
              have J9 : Hid (i + 1 ≤ n ∧ (ovr fr out a0 bs).length = D ∧ ovrAll fr (ovr fr out a0 bs) ((plB ob.B).drop (i + 1)) = R) := ⟨hlt'.out, by rw [ovr_len]; exact hol.out, hO.out⟩
              clear hk
              go_wp2
              go_roundw
              case rel => exact ⟨i + 1, _, _, rfl, by simp, J9, K9⟩
              case measure => have := hlt'.out; simp [intOf]; omega
        · have hie : i = n := by have := J.out.1; omega
          subst hie
          have fin : Hid (out = R) := by
            have h1 := J.out.2.2
            rw [List.drop_eq_nil_of_le (by rw [List.length_map, hnn.out]; exact Nat.le_refl _)] at h1
            exact h1
          clear hlt
          go_wp2
          go_ret2
          refine ⟨some ⟨g, 0, none⟩, D, (by rw [hR'.out.2]; rfl), K.out.low, .inr ⟨g, rfl, hgw.out, hR'.out.2.symm, ?_⟩⟩
          have := K.out.bx 1 _ _ _ rfl
          rw [fin.out] at this
          exact this
  · rw [hc] at hC
    have hE : bytE ob fr to = 1 := by unfold bytE; rw [if_pos (by rw [hc]; simp), hc]
    rw [hE, bytL_no (by rw [hE]; decide)]
    clear hE
    go_enter Tryd.func11, Tryd.ntmps11
    go_wp2_with (first
      | ((with_reducible refine at_load rtO w.heap.size (oC ob) ?_ ?_ (.tmp 3) ?_ ?_ ?_ ?_); exact K0.out.bx 0 _ _ _ rfl; rfl; rfl; rfl; rfl)
      | (go_at_call 14; refine hC.mono ?_; rintro e y1 ⟨rfl, H1⟩; have K1 : Hid (Fm w [(w.heap.size, oC ob, 26)] y1) := K0.out.below H1.out; clear H1))
    go_ret2
    exact ⟨none, 0, rfl, K1.out.low, .inl ⟨rfl, rfl, rfl⟩⟩
end Go.Proofs.YtkpfhnogpcigaaaDoorR
/- An object's bytes: the program's answer. -/
namespace Go.Proofs.YtkpfhnogpcigaaaDoorR
open Go Go.RowKit
set_option linter.unusedVariables false
set_option maxHeartbeats 3000000
set_option maxRecDepth 20000

theorem run_copyO (w : World) (ty : TypeId) (g od dLen dCap : Nat) (ad : Addr) (sLen sCap : Nat) (cur : Array Value) (cs : List Value)
    (hg : w.heap[g]? = some (.cells cur 5 (0, 0))) (hn : cs.length = sLen) (hle : sLen ≤ dLen)
    (hsrc : ∀ j v, cs[j]? = some v → w.cell? (ad.add j) = some v) (hfit : od + cs.length ≤ cur.size) (h1 : ∀ v ∈ cs, v.oneCell' = true) :
    (Builtin.copy_ #[33, 33] ty #[.slice (some ⟨g, od, none⟩) dLen dCap, .slice (some ad) sLen sCap]).run Tryd.prog w = .ok (goInt sLen) (w.setRow g (splice cur.toList od cs).toArray) := by
  obtain ⟨i, z, hi, hz0, hz1, hz2, hz3⟩ := kU.i
  have hl := run_loadCells_list (P := Tryd.prog) w ad cs hsrc
  have hst := run_storeCells_at Tryd.prog g od 5 cs 0 cur w hg (by simpa using hfit) h1
  rw [hn] at hl
  have hm : Nat.min sLen dLen = sLen := Nat.min_eq_left hle
  simp [Builtin.copy_, run_underlying kU.u, Builtin.lenOf, Builtin.firstCells, sizeOf, typeInfo, hi, hz1, hm, hl, hst, splice]
theorem at_copyO {ops : Array Oper} {rest : List Oper} {o : Oper} {a : Act} {w : World} {Q : Exit → Act → World → Prop} (hgd : o.guard = none) (d e : Operand)
    (ho : o.op = .call { callee := .builtin .copy, args := #[d, e], argTypes := #[33, 33] })
    (g od dLen dCap gb ob sLen sCap : Nat) (hd : a.eval d = .slice (some ⟨g, od, none⟩) dLen dCap) (hs : a.eval e = .slice (some ⟨gb, ob, none⟩) sLen sCap)
    (out : List UInt8) (hg : Bx w g (rU out) 5) (l : List UInt8) (hlen : l.length = sLen) (hle : sLen ≤ dLen) (hl : LB8 w (some ⟨gb, ob, none⟩) l) (hfit : od + sLen ≤ out.length)
    (h : ∀ w', Hid (Bx w' g (rU (splice out od l)) 5 ∧ (∀ B, B ≤ g → Below B w w') ∧ ∀ q, q ≠ g → w'.heap[q]? = w.heap[q]?) → wpList Tryd.prog ops Q rest (a.put o.dst (goInt sLen)) w') : wpList Tryd.prog ops Q (o :: rest) a w := by
  refine wpList_plain hgd fun K' hK => ?_
  have hsrc : ∀ j v, (l.map byV)[j]? = some v → w.cell? ((⟨gb, ob, none⟩ : Addr).add j) = some v := fun j v hv => by
    rw [List.getElem?_map] at hv
    rcases hj : l[j]? with _ | b
    · rw [hj] at hv; cases hv
    · rw [hj] at hv
      cases hv
      rw [Addr.add_lit]
      exact lb_cell hl j b hj
  have hrun := run_copyO w o.type g od dLen dCap ⟨gb, ob, none⟩ sLen sCap (rU out) (l.map byV) hg (by rw [List.length_map, hlen]) hle hsrc (by unfold rU; simp; omega) (fun v hv => by obtain ⟨b, _, rfl⟩ := List.mem_map.1 hv; rfl)
  have e1 : (splice (rU out).toList od (l.map byV)).toArray = rU (splice out od l) := by
    unfold rU splice
    simp
  rw [e1] at hrun
  unfold Oper.wp
  simp [execOp, ho, resolve, invoke, builtin, hd, hs, hrun, Result.andThen]
  exact hK _ _ (h _ ⟨setRow_heap w g _ _ _ _ hg, fun B hB => below_setRow (Below.refl _ _) hB _, fun q hq => setRow_other w g q _ hq⟩)
theorem ovr_seg (fr : Int) (out : List UInt8) (a : Int) (bs : List UInt8) (F E : Int) (hF : F = if fr < a then a else fr) (hE : E = if fr + out.length < a + bs.length then fr + (out.length : Int) else a + bs.length) : ovr fr out a bs = if F < E then splice out (F - fr).toNat ((bs.drop (F - a).toNat).take (E - F).toNat) else out := by
  have hF1 : fr ≤ F ∧ a ≤ F ∧ (F = fr ∨ F = a) := by rw [hF]; split <;> omega
  have hE1 : E ≤ fr + out.length ∧ E ≤ a + bs.length ∧ (E = fr + out.length ∨ E = a + bs.length) := by rw [hE]; split <;> omega
  clear hF hE
  have hcl : F < E → ((bs.drop (F - a).toNat).take (E - F).toNat).length = (E - F).toNat := fun hlt => by rw [List.length_take, List.length_drop]; omega
  apply List.ext_getElem?
  intro k
  by_cases h : k < out.length
  · have ho : out[k]? = some (out.getD k 0) := by rw [List.getD_eq_getElem?_getD, List.getElem?_eq_getElem h]; rfl
    rw [ovr_at _ _ _ _ _ h]
    by_cases hin : F ≤ fr + (k : Int) ∧ fr + (k : Int) < E
    · have hlt : F < E := by omega
      have ha : a ≤ fr + (k : Int) := by omega
      have hk : (F - fr).toNat ≤ k ∧ k < (F - fr).toNat + (E - F).toNat := by omega
      have hk2 : k - (F - fr).toNat < (E - F).toNat := by omega
      have hi : (fr + (k : Int) - a).toNat < bs.length := by omega
      have hx : (F - a).toNat + (k - (F - fr).toNat) = (fr + (k : Int) - a).toNat := by omega
      rw [if_pos hlt, spliceL_at _ _ _ (by rw [hcl hlt]; omega), hcl hlt, if_pos hk, if_pos ha, List.getElem?_take, if_pos hk2, List.getElem?_drop, hx, List.getElem?_eq_getElem hi]
      rfl
    · have hr : (if F < E then splice out (F - fr).toNat ((bs.drop (F - a).toNat).take (E - F).toNat) else out)[k]? = out[k]? := by
        by_cases hlt : F < E
        · have hk : ¬ ((F - fr).toNat ≤ k ∧ k < (F - fr).toNat + (E - F).toNat) := by omega
          rw [if_pos hlt, spliceL_at _ _ _ (by rw [hcl hlt]; omega), hcl hlt, if_neg hk]
        · rw [if_neg hlt]
      rw [hr, ho]
      by_cases h1 : a ≤ fr + (k : Int)
      · rw [if_pos h1, List.getElem?_eq_none (by omega)]
        rfl
      · rw [if_neg h1]
  · rw [List.getElem?_eq_none (by rw [ovr_len]; omega)]
    symm
    apply List.getElem?_eq_none
    by_cases hlt : F < E
    · rw [if_pos hlt, length_splice _ _ _ (by rw [hcl hlt]; omega)]
      omega
    · rw [if_neg hlt]
      omega
theorem obytes_any (w : World) (T : Hid (Tabs w)) (ob : Oo) (h : Hid (Lco w ob)) (fr to : Int) (hf : inI fr) (ht : inI to) : Calls Tryd.prog 10 #[.agg (oC ob), .int .i64 fr, .int .i64 to] w (ByE w (bytL ob fr to) (bytE ob fr to)) := by
  have K0 : Hid (Fm w [(w.heap.size, oC ob, 26)] (w.alloc (.cells (oC ob) 26))) := Fm.one w _ _
  have hC := ocheck_any _ (T.out.below K0.out.low) ob (h.out.below K0.out.low)
  obtain ⟨f0, f1⟩ := hf
  obtain ⟨t0, t1⟩ := ht
  rcases chk01 ob with hc | hc
  · rw [hc] at hC
    by_cases hq : fr < 0 ∨ to < fr ∨ 65536 < to
    · have hE : bytE ob fr to = 1 := by unfold bytE; rw [if_neg (by rw [hc]; simp), if_pos hq]
      rw [hE, bytL_no (by rw [hE]; decide)]
      have q : (fr < 0) ∨ (¬ fr < 0 ∧ to < fr) ∨ (¬ fr < 0 ∧ ¬ to < fr ∧ 65536 < to) := by omega
      clear hE hq
      rcases q with q1 | ⟨q1, q2⟩ | ⟨q1, q2, q3⟩
      all_goals
        go_enter Tryd.func10, Tryd.ntmps10
        go_wp2_with (first
          | ((with_reducible refine at_load rtO w.heap.size (oC ob) ?_ ?_ (.tmp 3) ?_ ?_ ?_ ?_); exact K0.out.bx 0 _ _ _ rfl; rfl; rfl; rfl; rfl)
          | (go_at_call 9; refine hC.mono ?_; rintro e y1 ⟨rfl, H1⟩; have K1 : Hid (Fm w [(w.heap.size, oC ob, 26)] y1) := K0.out.below H1.out; clear H1))
        go_ret2
        exact ⟨none, 0, rfl, K1.out.low, .inl ⟨rfl, rfl, rfl⟩⟩
    · have hE : bytE ob fr to = 0 := by unfold bytE; rw [if_neg (by rw [hc]; simp), if_neg hq]
      have hLe : bytL ob fr to = ovrAll fr (List.replicate (to - fr).toNat 0) (plB ob.B) := by unfold bytL; rw [if_pos hE]
      rw [hE, hLe]
      obtain ⟨D, hD⟩ : ∃ D, (to - fr).toNat = D := ⟨_, rfl⟩
      rw [hD]
      obtain ⟨R, hR⟩ : ∃ R, ovrAll fr (List.replicate D 0) (plB ob.B) = R := ⟨_, rfl⟩
      have hR' : Hid (ovrAll fr (List.replicate D 0) (plB ob.B) = R ∧ R.length = D) := ⟨hR, by rw [← hR, ovrAll_len, List.length_replicate]⟩
      rw [hR]
      have q1 : ¬ fr < 0 := by omega
      have q2 : ¬ to < fr := by omega
      have q3 : ¬ 65536 < to := by omega
      have hDi : Hid (to - fr = (D : Int) ∧ D ≤ 65536) := ⟨by omega, by omega⟩
      have wD : IntKind.i64.wrap (to - fr) = to - fr := by rw [IntKind.wrap_i64]; omega
      have hok : blkOk 0 (ob.B.map (·.1)) = true := by
        unfold chkO okO at hc
        rcases hb : blkOk 0 (ob.B.map fun x : Bb => x.1) with _ | _
        · rw [hb] at hc; simp at hc
        · rfl
      have hbd : Hid (∀ x ∈ ob.B, 0 ≤ x.1.a ∧ x.1.a ≤ 65536 ∧ 1 ≤ x.1.m ∧ x.1.m ≤ 65536) := fun x hx => blk_bounds _ 0 (by decide) hok x.1 (List.mem_map_of_mem hx)
      obtain ⟨n, hn'⟩ : ∃ n, ob.B.length = n := ⟨_, rfl⟩
      have hnn : Hid (ob.B.length = n) := hn'
      have ni : (n : Int) ≤ 2147483647 := by have := h.out.lo.n; omega
      obtain ⟨bp, hbp⟩ : ∃ q, ob.bp = q := ⟨_, rfl⟩
      obtain ⟨bc, hbc⟩ : ∃ q, ob.bc = q := ⟨_, rfl⟩
      have hd0 : Hid (∀ (y : World) l, Fm w ((w.heap.size, oC ob, 26) :: l) y → y.cell? ⟨w.heap.size, 0, none⟩ = some (.slice bp n bc)) := fun y l hy => by
        have h1 := (hy.bx 0 _ _ _ rfl).c 0 (.slice ob.bp ob.B.length ob.bc) rfl
        rw [hbp, hbc, hn'] at h1
        exact h1
      have hLb : Hid (LiesL 2 cK w bp (ob.B.map (·.1)) ∧ ∀ x ∈ ob.B, LB8 w x.1.sp x.2 ∧ x.2.length = x.1.m ∧ x.1.m ≤ x.1.cap) := ⟨by rw [← hbp]; exact h.out.lo.b, fun x hx => ⟨(h.out.lo.g x hx).1, (h.out.lo.g x hx).2, h.out.cb x hx⟩⟩
      clear hE hLe hD hR hq hok hn' hbp hbc
      go_enter Tryd.func10, Tryd.ntmps10
      go_wp2_with (first
        | ((with_reducible refine at_load rtO w.heap.size (oC ob) ?_ ?_ (.tmp 3) ?_ ?_ ?_ ?_); exact K0.out.bx 0 _ _ _ rfl; rfl; rfl; rfl; rfl)
        | (go_at_call 9; refine hC.mono ?_; rintro e y1 ⟨rfl, H1⟩; have K1 : Hid (Fm w [(w.heap.size, oC ob, 26)] y1) := K0.out.below H1.out; clear H1; have hmk := hmkB D (to - fr) hDi.out.1 hDi.out.2 y1; have K2 : Hid (Fm w [(w.heap.size, oC ob, 26), (y1.heap.size, rU (List.replicate D 0), 5)] (y1.alloc (.cells (rU (List.replicate D 0)) 5))) := K1.out.new _ _; have c0 := hd0.out _ _ K2.out))
      obtain ⟨g, hg⟩ : ∃ g, y1.heap.size = g := ⟨_, rfl⟩
      have hgw : Hid (w.heap.size ≤ g) := by rw [← hg]; exact K1.out.low.size
      rw [hg] at K2 ⊢
      go_loopw [37] (fun t wz => ∃ (i : Nat) (out : List UInt8) (y : World), y = wz ∧ t = .int .i64 (i : Int) ∧ Hid (i ≤ n ∧ out.length = D ∧ ovrAll fr out ((plB ob.B).drop i) = R) ∧ Hid (Fm w [(w.heap.size, oC ob, 26), (g, rU out, 5)] y)) (fun t _ => (n - intOf t).toNat)
      case atStart => exact ⟨0, _, _, rfl, rfl, ⟨Nat.zero_le _, List.length_replicate .., hR'.out.1⟩, K2⟩
      case round =>
        obtain ⟨i, out, y, rfl, rfl, J, K⟩ := hrel
        clear hmk hg c0
        by_cases hlt : i < n
        · obtain ⟨x, hx⟩ : ∃ x, ob.B[i]? = some x := ⟨_, List.getElem?_eq_getElem (by rw [hnn.out]; exact hlt)⟩
          have hxm := List.mem_of_getElem? hx
          obtain ⟨gb, o, rfl, hcx⟩ := hLb.out.1 i x.1 (by rw [List.getElem?_map, hx]; rfl)
          obtain ⟨g1, g2, g3, g4⟩ := hbd.out x hxm
          obtain ⟨lx, lxm, lxc⟩ := hLb.out.2 x hxm
          have hd : (plB ob.B).drop i = (x.1.a, x.2) :: (plB ob.B).drop (i + 1) := by
            have h : (plB ob.B)[i]? = some (x.1.a, x.2) := by rw [List.getElem?_map, hx]; rfl
            obtain ⟨h1, e⟩ := List.getElem?_eq_some_iff.1 h
            rw [List.drop_eq_getElem_cons h1, e]
          have hO : Hid (ovrAll fr (ovr fr out x.1.a x.2) ((plB ob.B).drop (i + 1)) = R) := by
            have h1 := J.out.2.2
            rw [hd] at h1
            exact h1
          obtain ⟨b, hb⟩ : ∃ q, x.1 = q := ⟨_, rfl⟩
          obtain ⟨bs, hbs⟩ : ∃ q, x.2 = q := ⟨_, rfl⟩
          rw [hb, hbs] at hO
          rw [hb] at g1 g2 g3 g4 lxm lxc hcx lx
          rw [hbs] at lxm lx
          have hc' : Hid (y.rangeAt gb (o + i * 2) (k2 b).toList) := range_keep hcx K.out.low
          have hlx : Hid (∀ u, Below w.heap.size w u → LB8 u b.sp bs) := fun u hu => lx.below hu
          have hol : Hid (out.length = D) := J.out.2.1
          have Li : (b.m : Int) ≤ 65536 := by omega
          have hBc : Hid (∀ v, Calls Tryd.prog 30 #[.agg (k2 b)] v fun e w' => e = .returned (.int .i64 (b.a + b.m)) ∧ Below v.heap.size v w') := fun v => behind_any v b ⟨g1, g2⟩ g4
          obtain ⟨F, hF⟩ : ∃ F, (if fr < b.a then b.a else fr) = F := ⟨_, rfl⟩
          obtain ⟨E, hE⟩ : ∃ E, (if to < b.a + b.m then to else b.a + b.m) = E := ⟨_, rfl⟩
          have hF1 : fr ≤ F ∧ b.a ≤ F ∧ (F = fr ∨ F = b.a) := by rw [← hF]; split <;> omega
          have hE1 : E ≤ to ∧ E ≤ b.a + b.m ∧ (E = to ∨ E = b.a + b.m) := by rw [← hE]; split <;> omega
          have hseg := ovr_seg fr out b.a bs F E hF.symm (by rw [← hE, hol.out, lxm]; have := hDi.out.1; rw [show fr + (D : Int) = to by omega])
          have ij := fun w => idxP (P := Tryd.prog) (g := gb) (off := o) (len := n) (cap := bc) Tryd.underlying22 (s := 2) (by kernel_rfl) .i64 i w hlt
          have hii : (i : Int) < n := by omega
          have hlt' : Hid (i < n) := hlt
          have F2 : F ≤ 65536 := by omega
          have J9 : Hid (i + 1 ≤ n ∧ (ovr fr out b.a bs).length = D ∧ ovrAll fr (ovr fr out b.a bs) ((plB ob.B).drop (i + 1)) = R) := ⟨hlt, by rw [ovr_len]; exact hol.out, hO.out⟩
          by_cases hFE : F < E
          · rw [if_pos hFE] at hseg
            obtain ⟨d, hd9⟩ : ∃ d : Nat, F - fr = (d : Int) := ⟨(F - fr).toNat, by omega⟩
            obtain ⟨l9, hl9⟩ : ∃ d : Nat, F - b.a = (d : Int) := ⟨(F - b.a).toNat, by omega⟩
            obtain ⟨h9, hh9⟩ : ∃ d : Nat, E - b.a = (d : Int) := ⟨(E - b.a).toNat, by omega⟩
            have hdD : d < D := by have := hDi.out.1; omega
            obtain ⟨sp1, hsl1, hs1⟩ := slB g 0 D D d (by omega) (Nat.le_refl _)
            have hs1' := hs1 hdD
            rw [Nat.zero_add] at hs1'
            subst hs1'
            obtain ⟨x0, hx0⟩ : ∃ x, bs[0]? = some x := ⟨_, List.getElem?_eq_getElem (by omega)⟩
            obtain ⟨gs, os, hsp, _⟩ := lx 0 x0 hx0
            obtain ⟨sp2, hsl2, hs2⟩ := slB2 gs os b.m b.cap l9 h9 (l9 : Int) (h9 : Int) rfl rfl (by omega) (by omega) lxc
            have hs2' := hs2 (by omega)
            subst hs2'
            rw [← hsp] at hsl2
            rw [show (F - fr).toNat = d by omega, show (F - b.a).toNat = l9 by omega, show (E - F).toNat = h9 - l9 by omega] at hseg
            have hsg : Hid (ovr fr out b.a bs = splice out d ((bs.drop l9).take (h9 - l9))) := hseg
            have hlz : Hid (∀ u, Below w.heap.size w u → LB8 u (some ⟨gs, os + l9, none⟩) ((bs.drop l9).take (h9 - l9))) := fun u hu => by
              have k := hlx.out u hu
              rw [hsp] at k
              exact (k.drop l9 _ (fun _ => rfl)).take _
            have hcl : Hid (((bs.drop l9).take (h9 - l9)).length = h9 - l9) := by show _ = _; rw [List.length_take, List.length_drop]; omega
            have hft : Hid (h9 - l9 ≤ D - d ∧ d + (h9 - l9) ≤ out.length) := ⟨by have := hDi.out.1; omega, by have := hDi.out.1; have := hol.out; omega⟩
            have di : Hid ((d : Int) = F - fr) := hd9.symm
            have li : Hid ((l9 : Int) = F - b.a) := hl9.symm
            have hi9 : Hid ((h9 : Int) = E - b.a) := hh9.symm
            clear hlt hx hxm hcx lx lxm lxc hd hO hseg hs1 hs2 hx0 hdD hd9 hl9 hh9 hb hbs J hsp
            go_wp2_with (first
            | ((with_reducible refine at_loadm rtK gb (o + i * 2) (k2 b) ?_ ?_ (.tmp 39) ?_ ?_ ?_ ?_); exact hc'.out; rfl; kernel_rfl; rfl; rfl)
            | ((with_reducible refine gen_world (y.alloc (.cells #[.int .i64 0, .slice none 0 0] 42)) (Fm w [(w.heap.size, oC ob, 26), (g, rU out, 5), (y.heap.size, k2 zK, 42)]) ?_ ?_); exact K.out.new _ _; intro y1 K1)
            | ((with_reducible refine at_st rtK y.heap.size (k2 zK) (k2 b) ?_ ?_ ?_ ?_ (.tmp 11) (.tmp 40) ?_ ?_ ?_ ?_ ?_); exact K1.out.bx 2 _ _ _ rfl; rfl; rfl; exact oneK _; rfl; rfl; rfl; rfl; intro y2 hw2; have K2 : Hid (Fm w [(w.heap.size, oC ob, 26), (g, rU out, 5), (y.heap.size, k2 b, 42)] y2) := K1.out.put 2 _ _ _ _ rfl hw2.out; clear hw2))
            refine region_class_tail 9 (Fm w [(w.heap.size, oC ob, 26), (g, rU out, 5), (y.heap.size, k2 b, 42)]) (by kernel_rfl) (by kernel_rfl) (K2.out.below (below_drew (Below.refl _ _))) ?_
            simp only [List.take_succ_cons, List.take_zero, List.drop_succ_cons, List.drop_zero]
            with_reducible refine quiet_one (.int .i64 fr) ?_ ?_ ?_
            · kernel_rfl
            · intro u hy
              go_simp
              all_goals (first | omega | (rw [IntKind.wrap_i64]; omega) | (split <;> omega))
            with_reducible refine quiet_one (.pointer (some ⟨y.heap.size, 0, none⟩)) ?_ ?_ ?_
            · kernel_rfl
            · intro u hy
              go_simp
              all_goals (first | omega | (rw [IntKind.wrap_i64]; omega) | (split <;> omega))
            with_reducible refine quiet_one (.int .i64 b.a) ?_ ?_ ?_
            · kernel_rfl
            · intro u hy
              have t := (hy.bx 2 _ _ _ rfl).c 0 (.int .i64 b.a) rfl
              go_simp
            with_reducible refine quiet_one (.int .i64 F) ?_ ?_ ?_
            · kernel_rfl
            · intro u hy
              go_simp
              all_goals (first | omega | (rw [IntKind.wrap_i64]; omega) | (split <;> omega))
            with_reducible refine quiet_one (.int .i64 to) ?_ ?_ ?_
            · kernel_rfl
            · intro u hy
              go_simp
              all_goals (first | omega | (rw [IntKind.wrap_i64]; omega) | (split <;> omega))
            with_reducible refine quiet_one (.agg (k2 b)) ?_ ?_ ?_
            · kernel_rfl
            · intro u hy
              generalize hA : Act.put _ _ _ = A
              have e1 : A.eval (.tmp 11) = .pointer (some ⟨y.heap.size, 0, none⟩) := by rw [← hA]; go_simp
              clear hA
              exact q_load (C := Fm w [(w.heap.size, oC ob, 26), (g, rU out, 5), (y.heap.size, k2 b, 42)]) rtK y.heap.size (k2 b) (fun _ h => h.bx 2 _ _ _ rfl) rfl (.tmp 11) rfl e1 u hy
            with_reducible refine quiet_one (.int .i64 (b.a + b.m)) ?_ ?_ ?_
            · kernel_rfl
            · intro u hy
              have d := (hBc.out u).mono fun e w' (h : _ ∧ _) => And.intro h.1 (hy.below h.2)
              go_simp
              all_goals exact d
            with_reducible refine quiet_one (.int .i64 E) ?_ ?_ ?_
            · kernel_rfl
            · intro u hy
              go_simp
              all_goals (first | omega | (rw [IntKind.wrap_i64]; omega) | (split <;> omega))
            with_reducible refine quiet_one (.int .i64 F) ?_ ?_ ?_
            · kernel_rfl
            · intro u hy
              go_simp
              all_goals (first | omega | (rw [IntKind.wrap_i64]; omega) | (split <;> omega))
            refine wpQuiet_nil ?_
            intro z0 Z0
            replace Z0 : Hid _ := Z0
            go_simp
            go_wp2
            refine region_class_tail 16 (Fm w [(w.heap.size, oC ob, 26), (g, rU out, 5), (y.heap.size, k2 b, 42)]) (by kernel_rfl) (by kernel_rfl) (Z0.out.below (below_drew (Below.refl _ _))) ?_
            simp only [List.take_succ_cons, List.take_zero, List.drop_succ_cons, List.drop_zero]
            with_reducible refine quiet_one (.slice (some ⟨g, 0, none⟩) D D) ?_ ?_ ?_
            · kernel_rfl
            · intro u hy
              go_simp
              all_goals (first | omega | (rw [IntKind.wrap_i64]; omega) | (split <;> omega))
            with_reducible refine quiet_one (.int .i64 F) ?_ ?_ ?_
            · kernel_rfl
            · intro u hy
              go_simp
              all_goals (first | omega | (rw [IntKind.wrap_i64]; omega) | (split <;> omega))
            with_reducible refine quiet_one (.int .i64 fr) ?_ ?_ ?_
            · kernel_rfl
            · intro u hy
              go_simp
              all_goals (first | omega | (rw [IntKind.wrap_i64]; omega) | (split <;> omega))
            with_reducible refine quiet_one (.int .i64 (d : Int)) ?_ ?_ ?_
            · kernel_rfl
            · intro u hy
              go_simp
              all_goals (have := di.out; first | omega | (rw [IntKind.wrap_i64]; omega))
            with_reducible refine quiet_one (.slice (some ⟨g, d, none⟩) (D - d) (D - d)) ?_ ?_ ?_
            · kernel_rfl
            · intro u hy
              go_simp
              all_goals (first | omega | (rw [IntKind.wrap_i64]; omega) | (split <;> omega))
            with_reducible refine quiet_one (.pointer (some ⟨y.heap.size, 1, none⟩)) ?_ ?_ ?_
            · kernel_rfl
            · intro u hy
              go_simp
              all_goals (first | omega | (rw [IntKind.wrap_i64]; omega) | (split <;> omega))
            with_reducible refine quiet_one (.slice b.sp b.m b.cap) ?_ ?_ ?_
            · kernel_rfl
            · intro u hy
              have t := (hy.bx 2 _ _ _ rfl).c 1 (.slice b.sp b.m b.cap) rfl
              go_simp
            with_reducible refine quiet_one (.int .i64 F) ?_ ?_ ?_
            · kernel_rfl
            · intro u hy
              go_simp
              all_goals (first | omega | (rw [IntKind.wrap_i64]; omega) | (split <;> omega))
            with_reducible refine quiet_one (.pointer (some ⟨y.heap.size, 0, none⟩)) ?_ ?_ ?_
            · kernel_rfl
            · intro u hy
              go_simp
              all_goals (first | omega | (rw [IntKind.wrap_i64]; omega) | (split <;> omega))
            with_reducible refine quiet_one (.int .i64 b.a) ?_ ?_ ?_
            · kernel_rfl
            · intro u hy
              have t := (hy.bx 2 _ _ _ rfl).c 0 (.int .i64 b.a) rfl
              go_simp
            with_reducible refine quiet_one (.int .i64 (l9 : Int)) ?_ ?_ ?_
            · kernel_rfl
            · intro u hy
              go_simp
              all_goals (have := li.out; first | omega | (rw [IntKind.wrap_i64]; omega))
            with_reducible refine quiet_one (.int .i64 E) ?_ ?_ ?_
            · kernel_rfl
            · intro u hy
              go_simp
              all_goals (first | omega | (rw [IntKind.wrap_i64]; omega) | (split <;> omega))
            with_reducible refine quiet_one (.pointer (some ⟨y.heap.size, 0, none⟩)) ?_ ?_ ?_
            · kernel_rfl
            · intro u hy
              go_simp
              all_goals (first | omega | (rw [IntKind.wrap_i64]; omega) | (split <;> omega))
            with_reducible refine quiet_one (.int .i64 b.a) ?_ ?_ ?_
            · kernel_rfl
            · intro u hy
              have t := (hy.bx 2 _ _ _ rfl).c 0 (.int .i64 b.a) rfl
              go_simp
            with_reducible refine quiet_one (.int .i64 (h9 : Int)) ?_ ?_ ?_
            · kernel_rfl
            · intro u hy
              go_simp
              all_goals (have := hi9.out; first | omega | (rw [IntKind.wrap_i64]; omega))
            with_reducible refine quiet_one (.slice (some ⟨gs, os + l9, none⟩) (h9 - l9) (b.cap - l9)) ?_ ?_ ?_
            · kernel_rfl
            · intro u hy
              go_simp
              all_goals (first | omega | (rw [IntKind.wrap_i64]; omega) | (split <;> omega))
            refine wpQuiet_nil ?_
            intro z1 Z1
            replace Z1 : Hid _ := Z1
            go_simp
            go_wp2_with (refine at_copyO rfl (.tmp 56) (.tmp 67) rfl g d (D - d) (D - d) gs (os + l9) (h9 - l9) (b.cap - l9) rfl rfl out (Z1.out.bx 1 _ _ _ rfl) ((bs.drop l9).take (h9 - l9)) hcl.out hft.out.1 (hlz.out z1 Z1.out.low) hft.out.2 ?_; intro z2 H2; have Z2 : Hid (Fm w [(w.heap.size, oC ob, 26), (g, rU (ovr fr out b.a bs), 5)] z2) := (by
              have k := Z1.out.put 1 g _ (rU (ovr fr out b.a bs)) 5 rfl (by rw [hsg.out]; exact H2.out)
              exact Fm.pre (l := [(w.heap.size, oC ob, 26), (g, rU (ovr fr out b.a bs), 5)]) (l' := [(y.heap.size, k2 b, 42)]) k); clear H2)
            go_roundw
            case rel => exact ⟨i + 1, _, _, rfl, by simp, J9, Z2⟩
            case measure => have := hlt'.out; simp [intOf]; omega
          · rw [if_neg hFE] at hseg
            have hsg : Hid (ovr fr out b.a bs = out) := hseg
            clear hlt hx hxm hcx lx lxm lxc hd hO hseg hb hbs J
            go_wp2_with (first
            | ((with_reducible refine at_loadm rtK gb (o + i * 2) (k2 b) ?_ ?_ (.tmp 39) ?_ ?_ ?_ ?_); exact hc'.out; rfl; kernel_rfl; rfl; rfl)
            | ((with_reducible refine gen_world (y.alloc (.cells #[.int .i64 0, .slice none 0 0] 42)) (Fm w [(w.heap.size, oC ob, 26), (g, rU out, 5), (y.heap.size, k2 zK, 42)]) ?_ ?_); exact K.out.new _ _; intro y1 K1)
            | ((with_reducible refine at_st rtK y.heap.size (k2 zK) (k2 b) ?_ ?_ ?_ ?_ (.tmp 11) (.tmp 40) ?_ ?_ ?_ ?_ ?_); exact K1.out.bx 2 _ _ _ rfl; rfl; rfl; exact oneK _; rfl; rfl; rfl; rfl; intro y2 hw2; have K2 : Hid (Fm w [(w.heap.size, oC ob, 26), (g, rU out, 5), (y.heap.size, k2 b, 42)] y2) := K1.out.put 2 _ _ _ _ rfl hw2.out; clear hw2))
            refine region_class_tail 9 (Fm w [(w.heap.size, oC ob, 26), (g, rU out, 5), (y.heap.size, k2 b, 42)]) (by kernel_rfl) (by kernel_rfl) (K2.out.below (below_drew (Below.refl _ _))) ?_
            simp only [List.take_succ_cons, List.take_zero, List.drop_succ_cons, List.drop_zero]
            with_reducible refine quiet_one (.int .i64 fr) ?_ ?_ ?_
            · kernel_rfl
            · intro u hy
              go_simp
              all_goals (first | omega | (rw [IntKind.wrap_i64]; omega) | (split <;> omega))
            with_reducible refine quiet_one (.pointer (some ⟨y.heap.size, 0, none⟩)) ?_ ?_ ?_
            · kernel_rfl
            · intro u hy
              go_simp
              all_goals (first | omega | (rw [IntKind.wrap_i64]; omega) | (split <;> omega))
            with_reducible refine quiet_one (.int .i64 b.a) ?_ ?_ ?_
            · kernel_rfl
            · intro u hy
              have t := (hy.bx 2 _ _ _ rfl).c 0 (.int .i64 b.a) rfl
              go_simp
            with_reducible refine quiet_one (.int .i64 F) ?_ ?_ ?_
            · kernel_rfl
            · intro u hy
              go_simp
              all_goals (first | omega | (rw [IntKind.wrap_i64]; omega) | (split <;> omega))
            with_reducible refine quiet_one (.int .i64 to) ?_ ?_ ?_
            · kernel_rfl
            · intro u hy
              go_simp
              all_goals (first | omega | (rw [IntKind.wrap_i64]; omega) | (split <;> omega))
            with_reducible refine quiet_one (.agg (k2 b)) ?_ ?_ ?_
            · kernel_rfl
            · intro u hy
              generalize hA : Act.put _ _ _ = A
              have e1 : A.eval (.tmp 11) = .pointer (some ⟨y.heap.size, 0, none⟩) := by rw [← hA]; go_simp
              clear hA
              exact q_load (C := Fm w [(w.heap.size, oC ob, 26), (g, rU out, 5), (y.heap.size, k2 b, 42)]) rtK y.heap.size (k2 b) (fun _ h => h.bx 2 _ _ _ rfl) rfl (.tmp 11) rfl e1 u hy
            with_reducible refine quiet_one (.int .i64 (b.a + b.m)) ?_ ?_ ?_
            · kernel_rfl
            · intro u hy
              have d := (hBc.out u).mono fun e w' (h : _ ∧ _) => And.intro h.1 (hy.below h.2)
              go_simp
              all_goals exact d
            with_reducible refine quiet_one (.int .i64 E) ?_ ?_ ?_
            · kernel_rfl
            · intro u hy
              go_simp
              all_goals (first | omega | (rw [IntKind.wrap_i64]; omega) | (split <;> omega))
            with_reducible refine quiet_one (.int .i64 F) ?_ ?_ ?_
            · kernel_rfl
            · intro u hy
              go_simp
              all_goals (first | omega | (rw [IntKind.wrap_i64]; omega) | (split <;> omega))
            refine wpQuiet_nil ?_
            intro z0 Z0
            replace Z0 : Hid _ := Z0
            go_simp
            have Z9 : Hid (Fm w [(w.heap.size, oC ob, 26), (g, rU (ovr fr out b.a bs), 5)] z0) := by
              have k : Fm w [(w.heap.size, oC ob, 26), (g, rU out, 5)] z0 := Fm.pre (l := [(w.heap.size, oC ob, 26), (g, rU out, 5)]) (l' := [(y.heap.size, k2 b, 42)]) Z0.out
              rw [hsg.out]
              exact k
            go_wp2
            go_roundw
            case rel => exact ⟨i + 1, _, _, rfl, by simp, J9, Z9⟩
            case measure => have := hlt'.out; simp [intOf]; omega
        · have hie : i = n := by have := J.out.1; omega
          subst hie
          have fin : Hid (out = R) := by
            have h1 := J.out.2.2
            rw [List.drop_eq_nil_of_le (by rw [List.length_map, hnn.out]; exact Nat.le_refl _)] at h1
            exact h1
          clear hlt
          go_wp2
          go_ret2
          refine ⟨some ⟨g, 0, none⟩, D, (by rw [hR'.out.2]; rfl), K.out.low, .inr ⟨g, rfl, hgw.out, hR'.out.2.symm, ?_⟩⟩
          have := K.out.bx 1 _ _ _ rfl
          rw [fin.out] at this
          exact this
  · rw [hc] at hC
    have hE : bytE ob fr to = 1 := by unfold bytE; rw [if_pos (by rw [hc]; simp), hc]
    rw [hE, bytL_no (by rw [hE]; decide)]
    clear hE
    go_enter Tryd.func10, Tryd.ntmps10
    go_wp2_with (first
      | ((with_reducible refine at_load rtO w.heap.size (oC ob) ?_ ?_ (.tmp 3) ?_ ?_ ?_ ?_); exact K0.out.bx 0 _ _ _ rfl; rfl; rfl; rfl; rfl)
      | (go_at_call 9; refine hC.mono ?_; rintro e y1 ⟨rfl, H1⟩; have K1 : Hid (Fm w [(w.heap.size, oC ob, 26)] y1) := K0.out.below H1.out; clear H1))
    go_ret2
    exact ⟨none, 0, rfl, K1.out.low, .inl ⟨rfl, rfl, rfl⟩⟩
end Go.Proofs.YtkpfhnogpcigaaaDoorR
/- The statements' own: bytes that are the same, and the room behind them. -/
namespace Go.Proofs.YtkpfhnogpcigaaaDoorR
open Go Go.RowKit
set_option linter.unusedVariables false
set_option maxHeartbeats 3000000
set_option maxRecDepth 20000

theorem idxU8 (g o n cap k : Nat) (h : k < n) (w : World) : (Instr.indexAt 33 (.slice (some ⟨g, o, none⟩) n cap) (.int .i64 (k : Int))).run Tryd.prog w = .ok (.pointer (some ⟨g, o + k, none⟩)) w := by
  have := idxP (P := Tryd.prog) (g := g) (off := o) (len := n) (cap := cap) Tryd.underlying33 (s := 1) (by kernel_rfl) .i64 k w h
  rw [Nat.mul_one] at this
  exact this
theorem sameO_true (w : World) (pa pb : Option Addr) (ca cb : Nat) (l : List UInt8) (ha : Hid (LB8 w pa l)) (hb : Hid (LB8 w pb l)) (hn : l.length ≤ 2147483647) :
    Calls Tryd.prog 15 #[.slice pa l.length ca, .slice pb l.length cb] w fun e w' => e = .returned (.bool true) ∧ Hid (Below w.heap.size w w') := by
  obtain ⟨n, hn'⟩ : ∃ n, l.length = n := ⟨_, rfl⟩
  have hnn : Hid (l.length = n) := hn'
  rw [hn'] at hn ⊢
  have ni : (n : Int) ≤ 2147483647 := by omega
  clear hn hn'
  go_enter Tryd.func15, Tryd.ntmps15
  go_wp2
  go_loopw [5] (fun t wz => ∃ (i : Nat), t = .int .i64 (i : Int) ∧ Hid (i ≤ n) ∧ Hid (Below w.heap.size w wz)) (fun t _ => (n - intOf t).toNat)
  case atStart => exact ⟨0, rfl, Nat.zero_le _, Below.refl _ _⟩
  case round =>
    obtain ⟨i, rfl, J, U⟩ := hrel
    by_cases hlt : i < n
    · obtain ⟨b, hbb⟩ : ∃ b, l[i]? = some b := ⟨_, List.getElem?_eq_getElem (by rw [hnn.out]; exact hlt)⟩
      obtain ⟨g1, o1, rfl, c1⟩ := (ha.out.below U.out) i b hbb
      obtain ⟨g2, o2, rfl, c2⟩ := (hb.out.below U.out) i b hbb
      obtain ⟨v, hv⟩ : ∃ v, byV b = v := ⟨_, rfl⟩
      have e1 := fun w => idxU8 g1 o1 n ca i hlt w
      have e2 := fun w => idxU8 g2 o2 n cb i hlt w
      have c1' : _ = some (Value.int .u8 (b.toNat : Int)) := c1
      have c2' : _ = some (Value.int .u8 (b.toNat : Int)) := c2
      have hii : (i : Int) < n := by omega
      have hlt' : Hid (i < n) := hlt
      clear hlt hbb c1 c2 hv
      go_wp2
      go_quiet (fail)
      go_wp2
      go_roundw
      case rel => exact ⟨i + 1, by simp, hlt'.out, U.out.trans (below_drewN (Below.refl _ _))⟩
      case measure => have := hlt'.out; simp [intOf]; omega
    · have hie : i = n := by have := J.out; omega
      subst hie
      clear hlt
      go_wp2
      go_ret
      exact ⟨rfl, U⟩
theorem slHi (g o n cap : Nat) (h : Nat) (hc : h ≤ cap) (v : World) : (Instr.sliceAt 33 (.slice (some ⟨g, o, none⟩) n cap) none (some (.int .i64 (h : Int))) none).run Tryd.prog v = .ok (.slice (some ⟨g, o, none⟩) h cap) v := by
  have hu : Tryd.prog.underlying 33 = some (.slice (Tryd.prog.elem 33)) := by kernel_rfl
  rw [run_sliceAt_slice v _ _ _ _ _ hu, run_slice_h v _ _ _ _ hu .i64 (h : Int) (by omega) (by omega)]
  have hz : ∀ v, (sizeOf (Tryd.prog.elem 33)).run Tryd.prog v = .ok 1 v := fun v => by kernel_rfl
  rw [hz]
  simp [Result.andThen_ok, sliced, Addr.add_lit]
theorem roomy_true (w : World) (g o n cap : Nat) (l : List UInt8) (hl : Hid (LB8 w (some ⟨g, o, none⟩) (l ++ List.replicate 5 90))) (hn : l.length ≤ 2147483647) (hc : l.length + 5 ≤ cap) :
    Calls Tryd.prog 17 #[.slice (some ⟨g, o, none⟩) n cap, .int .i64 (l.length : Int)] w fun e w' => e = .returned (.bool true) ∧ Hid (Below w.heap.size w w') := by
  obtain ⟨m, hm'⟩ : ∃ m, l.length = m := ⟨_, rfl⟩
  have hmm : Hid (l.length = m) := hm'
  rw [hm'] at hn hc ⊢
  have ni : (m : Int) ≤ 2147483647 := by omega
  have hs := fun v => slHi g o n cap (m + 5) hc v
  rw [show ((m + 5 : Nat) : Int) = (m : Int) + 5 by omega] at hs
  clear hn hm'
  go_enter Tryd.func17, Tryd.ntmps17
  go_wp2
  go_loopw [6] (fun t wz => ∃ (i : Nat), t = .int .i64 ((m : Int) + i) ∧ Hid (i ≤ 5) ∧ Hid (Below w.heap.size w wz)) (fun t _ => ((m : Int) + 5 - intOf t).toNat)
  case atStart => exact ⟨0, by simp, Nat.zero_le _, Below.refl _ _⟩
  case round =>
    obtain ⟨i, rfl, J, U⟩ := hrel
    by_cases hlt : i < 5
    · obtain ⟨g1, o1, he, c1⟩ := (hl.out.below U.out) (m + i) 90 (by rw [List.getElem?_append_right (by rw [hmm.out]; omega), hmm.out, Nat.add_sub_cancel_left, List.getElem?_replicate, if_pos hlt])
      cases he
      have e1 : ∀ w, (Instr.indexAt 33 (.slice (some ⟨g, o, none⟩) (m + 5) cap) (.int .i64 ((m : Int) + i))).run Tryd.prog w = .ok (.pointer (some ⟨g, o + (m + i), none⟩)) w := fun w => by
        have := idxU8 g o (m + 5) cap (m + i) (by omega) w
        rw [show ((m + i : Nat) : Int) = (m : Int) + i by omega] at this
        exact this
      have c1' : _ = some (Value.int .u8 90) := c1
      have hii : (i : Int) < 5 := by omega
      have hlt' : Hid (i < 5) := hlt
      have wi : IntKind.i64.wrap ((m : Int) + i + 1) = (m : Int) + i + 1 := by rw [IntKind.wrap_i64]; omega
      clear hlt c1
      go_wp2
      go_roundw
      case rel => exact ⟨i + 1, by simp; omega, hlt'.out, U⟩
      case measure => have := hlt'.out; simp [intOf]; omega
    · have hie : i = 5 := by have := J.out; omega
      subst hie
      clear hlt
      go_wp2
      go_ret
      exact ⟨rfl, U⟩
end Go.Proofs.YtkpfhnogpcigaaaDoorR
/- The statements' own: bytes with room behind them. -/
namespace Go.Proofs.YtkpfhnogpcigaaaDoorR
open Go Go.RowKit
set_option linter.unusedVariables false
set_option maxHeartbeats 3000000
set_option maxRecDepth 20000

theorem hmkV (D : Nat) (hD : D ≤ 2147483652) (y : World) : (Instr.makeSlice 33 (.int .i64 (D : Int)) (.int .i64 (D : Int))).run Tryd.prog y = .ok (.slice (some ⟨y.heap.size, 0, none⟩) D D) (y.alloc (.cells (rU (List.replicate D 0)) 5)) := by
  obtain ⟨ib, hib, hb0, hb1, hb2⟩ := info_parts infoB
  have := run_make (P := Tryd.prog) y 33 5 ib _ Tryd.underlying33 hib hb0 .i64 .i64 (D : Int) (D : Int) (by omega) (Int.le_refl _) (by rw [hb2]; omega) (by omega)
  rw [hb1, Int.toNat_natCast] at this
  rw [← made_u8]
  exact this
theorem at_copy0 {ops : Array Oper} {rest : List Oper} {o : Oper} {a : Act} {w : World} {Q : Exit → Act → World → Prop} (hgd : o.guard = none) (d e : Operand)
    (ho : o.op = .call { callee := .builtin .copy, args := #[d, e], argTypes := #[33, 33] })
    (g od dLen dCap : Nat) (sp : Option Addr) (sCap : Nat) (hd : a.eval d = .slice (some ⟨g, od, none⟩) dLen dCap) (hs : a.eval e = .slice sp 0 sCap)
    (h : wpList Tryd.prog ops Q rest (a.put o.dst (goInt 0)) w) : wpList Tryd.prog ops Q (o :: rest) a w := by
  refine wpList_plain hgd fun K' hK => ?_
  obtain ⟨i, z, hi, hz0, hz1, hz2, hz3⟩ := kU.i
  have hm : Nat.min 0 dLen = 0 := Nat.zero_min _
  have hrun : (Builtin.copy_ #[33, 33] o.type #[.slice (some ⟨g, od, none⟩) dLen dCap, .slice sp 0 sCap]).run Tryd.prog w = .ok (goInt 0) w := by
    cases sp <;> simp [Builtin.copy_, run_underlying kU.u, Builtin.lenOf, Builtin.firstCells, sizeOf, typeInfo, hi, loadCells, loadCellsFrom, storeCells]
  unfold Oper.wp
  simp [execOp, ho, resolve, invoke, builtin, hd, hs, hrun, Result.andThen]
  exact hK _ _ h
theorem at_copyA {ops : Array Oper} {rest : List Oper} {o : Oper} {a : Act} {w : World} {Q : Exit → Act → World → Prop} (hgd : o.guard = none) (d e : Operand)
    (ho : o.op = .call { callee := .builtin .copy, args := #[d, e], argTypes := #[33, 33] })
    (g od dLen dCap : Nat) (sp : Option Addr) (sLen sCap : Nat) (hd : a.eval d = .slice (some ⟨g, od, none⟩) dLen dCap) (hs : a.eval e = .slice sp sLen sCap)
    (out : List UInt8) (hg : Bx w g (rU out) 5) (l : List UInt8) (hlen : l.length = sLen) (hle : sLen ≤ dLen) (hl : LB8 w sp l) (hfit : od + sLen ≤ out.length)
    (h : ∀ w', Hid (Bx w' g (rU (splice out od l)) 5 ∧ (∀ B, B ≤ g → Below B w w') ∧ ∀ q, q ≠ g → w'.heap[q]? = w.heap[q]?) → wpList Tryd.prog ops Q rest (a.put o.dst (goInt sLen)) w') : wpList Tryd.prog ops Q (o :: rest) a w := by
  rcases l with _ | ⟨x, r⟩
  · have h0 : sLen = 0 := hlen.symm
    subst h0
    refine at_copy0 hgd d e ho g od dLen dCap sp sCap hd hs (h w ⟨?_, fun B _ => Below.refl _ _, fun _ _ => rfl⟩)
    have : splice out od ([] : List UInt8) = out := by unfold splice; simp
    rw [this]
    exact hg
  · obtain ⟨gb, ob, rfl, _⟩ := hl 0 x rfl
    exact at_copyO hgd d e ho g od dLen dCap gb ob sLen sCap hd hs out hg (x :: r) hlen hle hl hfit h
/-- Bytes, k of the mark behind them, and nought up to five. -/
def tl5 (l : List UInt8) (k : Nat) : List UInt8 := l ++ (List.replicate k 90 ++ List.replicate (5 - k) 0)
theorem tl5_set (l : List UInt8) (k : Nat) (h : k < 5) : (tl5 l k).set (l.length + k) 90 = tl5 l (k + 1) := by
  unfold tl5
  rw [List.set_append_right _ _ (by omega), Nat.add_sub_cancel_left]
  have : k = 0 ∨ k = 1 ∨ k = 2 ∨ k = 3 ∨ k = 4 := by omega
  rcases this with rfl | rfl | rfl | rfl | rfl <;> rfl
theorem tl5_len (l : List UInt8) (k : Nat) (h : k ≤ 5) : (tl5 l k).length = l.length + 5 := by unfold tl5; simp; omega
theorem tl5_copy (l : List UInt8) : splice (List.replicate (l.length + 5) (0 : UInt8)) 0 l = tl5 l 0 := by
  unfold splice tl5
  simp
theorem room_any (w : World) (sp : Option Addr) (cap : Nat) (l : List UInt8) (hl : Hid (LB8 w sp l)) (hn : l.length ≤ 2147483647) :
    Calls Tryd.prog 26 #[.slice sp l.length cap] w fun e w' => e = .returned (.slice (some ⟨w.heap.size, 0, none⟩) l.length (l.length + 5)) ∧ Hid (Fm w [(w.heap.size, rU (l ++ List.replicate 5 90), 5)] w') := by
  obtain ⟨n, hn'⟩ : ∃ n, l.length = n := ⟨_, rfl⟩
  have hnn : Hid (l.length = n) := hn'
  rw [hn'] at hn ⊢
  have ni : (n : Int) ≤ 2147483647 := by omega
  have hmk := hmkV (n + 5) (by omega) w
  rw [show ((n + 5 : Nat) : Int) = (n : Int) + 5 by omega] at hmk
  obtain ⟨g, hg⟩ : ∃ g, w.heap.size = g := ⟨_, rfl⟩
  have K0 : Hid (Fm w [(g, rU (List.replicate (n + 5) 0), 5)] (w.alloc (.cells (rU (List.replicate (n + 5) 0)) 5))) := by rw [← hg]; exact Fm.one w _ _
  rw [hg] at hmk ⊢
  have hs := fun v => slHi g 0 (n + 5) (n + 5) n (by omega) v
  have K1 : Hid (∀ y2, Bx y2 g (rU (splice (List.replicate (n + 5) 0) 0 l)) 5 ∧ (∀ B, B ≤ g → Below B (w.alloc (.cells (rU (List.replicate (n + 5) 0)) 5)) y2) ∧ (∀ q, q ≠ g → y2.heap[q]? = (w.alloc (.cells (rU (List.replicate (n + 5) 0)) 5)).heap[q]?) → Fm w [(g, rU (tl5 l 0), 5)] y2) := fun y2 hy => by
    have e := tl5_copy l
    rw [hnn.out] at e
    rw [e] at hy
    exact K0.out.put 0 g _ _ _ rfl hy
  have hlb : Hid (LB8 (w.alloc (.cells (rU (List.replicate (n + 5) 0)) 5)) sp l) := hl.out.below K0.out.low
  have hfit : Hid (0 + n ≤ (List.replicate (n + 5) (0 : UInt8)).length) := by show _ ≤ _; rw [List.length_replicate]; omega
  have hn5 : n ≤ n + 5 := by omega
  clear hn hn'
  go_enter Tryd.func26, Tryd.ntmps26
  go_wp2_with (refine at_copyA rfl (.tmp 9) (.tmp 10) rfl g 0 (n + 5) (n + 5) sp n cap rfl rfl (List.replicate (n + 5) 0) (K0.out.bx 0 _ _ _ rfl) l hnn.out hn5 hlb.out hfit.out ?_; intro y2 H2; have K2 : Hid (Fm w [(g, rU (tl5 l 0), 5)] y2) := K1.out y2 H2.out; clear H2)
  go_loopw [4] (fun t wz => ∃ (i : Nat) (y : World), y = wz ∧ t = .int .i64 ((n : Int) + i) ∧ Hid (i ≤ 5) ∧ Hid (Fm w [(g, rU (tl5 l i), 5)] y)) (fun t _ => ((n : Int) + 5 - intOf t).toNat)
  case atStart => exact ⟨0, _, rfl, by simp, Nat.zero_le _, K2⟩
  case round =>
    clear K2 hmk
    obtain ⟨i, y, rfl, rfl, J, K⟩ := hrel
    by_cases hlt : i < 5
    · have e1 : ∀ w, (Instr.indexAt 33 (.slice (some ⟨g, 0, none⟩) (n + 5) (n + 5)) (.int .i64 ((n : Int) + i))).run Tryd.prog w = .ok (.pointer (some ⟨g, n + i, none⟩)) w := fun w => by
        have := idxU8 g 0 (n + 5) (n + 5) (n + i) (by omega) w
        rw [show ((n + i : Nat) : Int) = (n : Int) + i by omega, Nat.zero_add] at this
        exact this
      have bx := K.out.bx 0 _ _ _ rfl
      obtain ⟨c9, zc⟩ : ∃ c, y.cell? ⟨g, n + i, none⟩ = some c := by
        have hl9 : n + i < (rU (tl5 l i)).size := by unfold rU; simp; rw [tl5_len _ _ J.out, hnn.out]; omega
        exact ⟨_, bx.c (n + i) _ (Array.getElem?_eq_getElem hl9)⟩
      have zf := bx.fz (n + i)
      have K9 : Hid (Fm w [(g, rU (tl5 l (i + 1)), 5)] (y.setCell ⟨g, n + i, none⟩ (.int .u8 90))) := by
        have e := tl5_set l i hlt
        rw [hnn.out] at e
        have := K.out.setCell 0 g _ (rU (tl5 l (i + 1))) 5 rfl (n + i) (byV 90) (by rw [rU_set, e])
        exact this
      have hii : (i : Int) < 5 := by omega
      have hlt' : Hid (i < 5) := hlt
      have wi : IntKind.i64.wrap ((n : Int) + i + 1) = (n : Int) + i + 1 := by rw [IntKind.wrap_i64]; omega
      clear hlt bx
      go_wp2
      go_roundw
      case rel => exact ⟨i + 1, _, rfl, by simp; omega, hlt'.out, K9⟩
      case measure => have := hlt'.out; simp [intOf]; omega
    · have hie : i = 5 := by have := J.out; omega
      subst hie
      clear hlt
      go_wp2
      go_ret
      exact ⟨rfl, K⟩
end Go.Proofs.YtkpfhnogpcigaaaDoorR
