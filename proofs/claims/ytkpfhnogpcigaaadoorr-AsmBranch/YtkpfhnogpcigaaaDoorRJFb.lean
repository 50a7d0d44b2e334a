/- Labels that may be: by plain mathematics, and the program's look. -/
import Derived.Test.YtkpfhnogpcigaaaDoorRJFo
import Derived.Test.YtkpfhnogpcigaaaDoorRJNg
import Derived.Test.YtkpfhnogpcigaaaDoorRJEb8
namespace Go.Proofs.YtkpfhnogpcigaaaDoorR
open Go Go.RowKit
set_option linter.unusedVariables false
set_option maxHeartbeats 3000000
set_option maxRecDepth 20000

theorem mapUL : Tryd.prog.underlying 83 = some (.map 9 3) := by kernel_rfl
theorem strUL : Tryd.prog.underlying 9 = some .string := by kernel_rfl
def labR (n : ByteArray) : Ri := ⟨1, n, 0, ⟨#[]⟩, 0, none, 0, 0⟩
theorem mayI_lab (n : ByteArray) : mayI (labR n) = isNm n := by
  unfold mayI labR
  simp
  intro _
  rfl
theorem built_lab (n : ByteArray) : Tryd.prog.built 49 [(0, .int .u8 1), (1, .string n)] = some (i6 (labR n)) := by kernel_rfl
theorem isName_any (w : World) (T : Hid (Tabs w)) (n : ByteArray) : Calls Tryd.prog 42 #[.string n] w fun e w' => e = .returned (.bool (isNm n)) ∧ Below w.heap.size w w' := by
  have hS := psize_any w (labR n) T
  have hE : sizeE (labR n) = if isNm n then 0 else 130 := by unfold sizeE; rw [mayI_lab]
  rw [hE] at hS
  have hb : Hid (Tryd.prog.built 49 [(0, .int .u8 1), (1, .string n)] = some (i6 (labR n))) := built_lab n
  obtain ⟨A, hA⟩ : ∃ A, sizeI (labR n) = A := ⟨_, rfl⟩
  rw [hA] at hS
  obtain ⟨b, hb'⟩ : ∃ b, isNm n = b := ⟨_, rfl⟩
  rw [hb'] at hS ⊢
  clear hE hA hb'
  cases b
  all_goals
    simp only [if_true, Bool.false_eq_true, if_false] at hS
    go_enter Tryd.func42, Tryd.ntmps42
    go_wp2_with (first
      | ((with_reducible refine at_bu #[(0, .const (.int .u8 1)), (1, .tmp 6)] [(0, .int .u8 1), (1, .string n)] (i6 (labR n)) ?_ ?_ ?_ hb.out ?_); kernel_rfl; rfl; rfl)
      | (go_at_call 56; refine hS.mono ?_; rintro e y1 ⟨rfl, H1⟩))
    go_ret
    exact ⟨rfl, H1⟩
/-- May a label stand behind others? -/
def lok (pre : List La) (l : La) : Bool := isNm l.n && (decide (0 ≤ l.a ∧ l.a ≤ 65535) && ((match pre.getLast? with | none => true | some p => befL p l) && !pre.any (fun p => decide (p.n = l.n))))
def labG : List La → List La → Bool
  | _, [] => true
  | pre, l :: r => lok pre l && labG (pre ++ [l]) r
theorem ord_neg (p l : La) : (0 < ordL p l) ↔ (befL p l = false ∧ ¬ (p.a = l.a ∧ p.n = l.n)) := by
  unfold ordL befL cmpI cmpS
  by_cases h1 : p.a < l.a
  · simp [h1]
  · by_cases h2 : l.a < p.a
    · have : ¬ p.a = l.a := by omega
      simp [h1, h2, this]
    · have h3 : p.a = l.a := by omega
      by_cases h4 : sLt p.n l.n = true
      · simp [h3, h4]
      · by_cases h5 : p.n = l.n
        · simp [h3, h5]
          rw [h5] at h4
          simp [h4]
        · simp [h3, h4, h5]
theorem lok_ord {pre : List La} {p l : La} (hp : pre.getLast? = some p) : lok pre l = (isNm l.n && (decide (0 ≤ l.a ∧ l.a ≤ 65535) && (decide (¬ 0 < ordL p l) && !pre.any (fun p => decide (p.n = l.n))))) := by
  unfold lok
  rw [hp]
  have hm : p ∈ pre := List.mem_of_getLast? hp
  by_cases hn : pre.any (fun p => decide (p.n = l.n)) = true
  · rw [hn]
    simp
  · have hne : ¬ p.n = l.n := fun e => hn (List.any_eq_true.2 ⟨p, hm, by simp [e]⟩)
    have : decide (¬ 0 < ordL p l) = befL p l := by
      rcases hb : befL p l with _ | _
      · rw [decide_eq_false]
        rw [Classical.not_not]
        exact (ord_neg p l).2 ⟨hb, fun e => hne e.2⟩
      · rw [decide_eq_true]
        intro h
        have := ((ord_neg p l).1 h).1
        rw [hb] at this
        cases this
    rw [this]
theorem labels_any (w : World) (T : Hid (Tabs w)) (sp : Option Addr) (cap : Nat) (l : List La) (hl : Hid (LiesL 2 cLa w sp l)) (hi : Hid (∀ x ∈ l, inI x.a)) (hn : l.length ≤ 2147483647) :
    Calls Tryd.prog 29 #[.slice sp l.length cap] w fun e w' => e = .returned (.bool (labG [] l)) ∧ Hid (Below w.heap.size w w') := by
  obtain ⟨R, hR⟩ : ∃ R, labG [] l = R := ⟨_, rfl⟩
  have hR' : Hid (labG [] l = R) := hR
  obtain ⟨n, hn'⟩ : ∃ n, l.length = n := ⟨_, rfl⟩
  have hnn : Hid (l.length = n) := hn'
  rw [hR]
  rw [hn'] at hn ⊢
  have ni : (n : Int) ≤ 2147483647 := by omega
  have n0 : (0 : Int) ≤ n := by omega
  have hmm : ∀ v : World, (Instr.makeMap 83 (some (.int .i64 (n : Int)))).run Tryd.prog v = .ok (.map (some v.heap.size)) (v.alloc (.map #[] 0)) := fun v => by
    have : ¬ (n : Int) < 0 := by omega
    first | rfl | (simp [Instr.makeMap, asInt, asIntOf, IntKind.wrap_i64]; try omega)
  have hM0 : Hid (MapF (w.alloc (.map #[] 0)) w.heap.size (fun _ => none) ∧ Below w.heap.size w (w.alloc (.map #[] 0))) := ⟨MapF.new w, below1 w _⟩
  have hNa : Hid (∀ v s, Below w.heap.size w v → Calls Tryd.prog 42 #[.string s] v fun e w' => e = .returned (.bool (isNm s)) ∧ Below v.heap.size v w') := fun v s hv => isName_any v (T.out.below hv) s
  obtain ⟨G, hG⟩ : ∃ G, w.heap.size = G := ⟨_, rfl⟩
  have hG' : Hid (w.heap.size = G) := hG
  have hmm' := hmm w
  rw [hG] at hM0 hmm'
  clear hn hn' hR hmm hG
  go_enter Tryd.func29, Tryd.ntmps29
  go_wp2
  go_loopw [13] (fun t wz => ∃ (i : Nat) (F : ByteArray → Option Value) (y : World), y = wz ∧ t = .int .i64 (i : Int) ∧ Hid (i ≤ n ∧ labG (l.take i) (l.drop i) = R ∧ ∀ s, (F s).isSome = (l.take i).any (fun p => decide (p.n = s))) ∧ Hid (Below w.heap.size w y ∧ MapF y G F)) (fun t _ => (n - intOf t).toNat)
  case atStart => exact ⟨0, fun _ => none, _, rfl, rfl, ⟨Nat.zero_le _, hR'.out, fun s => rfl⟩, by rw [hG'.out]; exact hM0.out.2, hM0.out.1⟩
  case round =>
    obtain ⟨i, F, y, rfl, rfl, J, K⟩ := hrel
    clear hmm' hM0
    by_cases hlt : i < n
    · obtain ⟨x, hx⟩ : ∃ x, l[i]? = some x := ⟨_, List.getElem?_eq_getElem (by rw [hnn.out]; exact hlt)⟩
      have hxi := hi.out x (List.mem_of_getElem? hx)
      obtain ⟨g, o, rfl, hc⟩ := hl.out i x hx
      have hc' : Hid (y.rangeAt g (o + i * 2) (kl x).toList) := range_keep hc K.out.1
      have hd : l.drop i = x :: l.drop (i + 1) := by
        obtain ⟨h1, e⟩ := List.getElem?_eq_some_iff.1 hx
        rw [List.drop_eq_getElem_cons h1, e]
      have ht : l.take (i + 1) = l.take i ++ [x] := by rw [List.take_add_one, hx]; rfl
      have hO : Hid (R = (lok (l.take i) x && labG (l.take (i + 1)) (l.drop (i + 1)))) := by
        have h1 := J.out.2.1
        rw [hd] at h1
        show _ = _
        rw [← h1, ht]
        rfl
      have ij := fun w => idxP (P := Tryd.prog) (g := g) (off := o) (len := n) (cap := cap) Tryd.underlying24 (s := 2) (by kernel_rfl) .i64 i w hlt
      have hii : (i : Int) < n := by omega
      have hlt' : Hid (i < n) := hlt
      have hNm : Hid (∀ v, Below w.heap.size w v → Calls Tryd.prog 42 #[.string x.n] v fun e w' => e = .returned (.bool (isNm x.n)) ∧ Below v.heap.size v w') := fun v hv => hNa.out v x.n hv
      obtain ⟨xa0, xa1⟩ := hxi
      obtain ⟨nb, hnb⟩ : ∃ b, isNm x.n = b := ⟨_, rfl⟩
      rw [hnb] at hNm
      have hlk : Hid (∀ u, MapF u G F → (Instr.lookup 83 (.map (some G)) (.string x.n) true).run Tryd.prog u = .ok (.tuple #[(F x.n).getD (.int .i64 0), .bool (F x.n).isSome]) u) := fun u hu => hu.look mapUL strUL x.n (.int .i64 0) (by kernel_rfl)
      have hFs : Hid ((F x.n).isSome = (l.take i).any (fun p => decide (p.n = x.n))) := J.out.2.2 x.n
      have hGl : Hid (G < y.heap.size) := K.out.2.lt
      by_cases hq : nb = false ∨ x.a < 0 ∨ 65535 < x.a
      · have fin : Hid (R = false) := by
          show _ = _
          rw [hO.out]
          have : lok (l.take i) x = false := by
            unfold lok
            rw [hnb]
            rcases hq with h | h | h
            · rw [h]; rfl
            · rw [decide_eq_false (fun e => by omega)]; simp
            · rw [decide_eq_false (fun e => by omega)]; simp
          rw [this]
          rfl
        have q : nb = false ∨ (nb = true ∧ x.a < 0) ∨ (nb = true ∧ ¬ x.a < 0 ∧ 65535 < x.a) := by
          cases nb
          · exact .inl rfl
          · rcases hq with h | h | h
            · cases h
            · exact .inr (.inl ⟨rfl, h⟩)
            · exact .inr (.inr ⟨rfl, by omega, h⟩)
        clear hq hlt hx hc hd ht hO hnb
        rcases q with rfl | ⟨rfl, q2⟩ | ⟨rfl, q2, q3⟩
        all_goals
          go_wp2_with (first
          | ((with_reducible refine at_loadm rtLa g (o + i * 2) (kl x) ?_ ?_ (.tmp 16) ?_ ?_ ?_ ?_); exact hc'.out; rfl; kernel_rfl; rfl; rfl)
          | ((with_reducible refine gen_world (y.alloc (.cells #[.string ⟨#[]⟩, .int .i64 0] 61)) (Fm y [(y.heap.size, kl zL, 61)]) ?_ ?_); exact Fm.one y _ _; intro y1 K1)
          | ((with_reducible refine at_st rtLa y.heap.size (kl zL) (kl x) ?_ ?_ ?_ ?_ (.tmp 5) (.tmp 17) ?_ ?_ ?_ ?_ ?_); exact K1.out.bx 0 _ _ _ rfl; rfl; rfl; exact oneLa _; rfl; rfl; rfl; rfl; intro y2 hw2; have K2 : Hid (Fm y [(y.heap.size, kl x, 61)] y2) := K1.out.put 0 _ _ _ _ rfl hw2.out; clear hw2; have d0 := (K2.out.bx 0 _ _ _ rfl).c 0 (.string x.n) rfl)
          | (go_at_call 42; refine (hNm.out y2 (of_below K.out.1 K2.out.low)).mono ?_; rintro e y3 ⟨rfl, H3⟩; have K3 : Hid (Fm y [(y.heap.size, kl x, 61)] y3) := K2.out.below H3; clear H3 d0; have d0 := (K3.out.bx 0 _ _ _ rfl).c 0 (.string x.n) rfl; have d1 := (K3.out.bx 0 _ _ _ rfl).c 1 (.int .i64 x.a) rfl))
          go_ret
          rw [fin.out]
          exact ⟨rfl, of_below K.out.1 K3.out.low⟩
      · have hnt : nb = true := by cases nb <;> simp_all
        subst hnt
        have q2 : ¬ x.a < 0 := by omega
        have q3 : ¬ 65535 < x.a := by omega
        have hlo : lok (l.take i) x = ((match (l.take i).getLast? with | none => true | some p => befL p x) && !(l.take i).any (fun p => decide (p.n = x.n))) := by
          unfold lok
          rw [hnb, decide_eq_true ⟨by omega, by omega⟩]
          simp
        have hts : Hid (l.take (i + 1) = l.take i ++ [x]) := ht
        by_cases hi0 : i = 0
        · have hi0i : ¬ (0 : Int) < (i : Int) := by omega
          have hO2 : Hid (R = (!(l.take i).any (fun p => decide (p.n = x.n)) && labG (l.take (i + 1)) (l.drop (i + 1)))) := by
            show _ = _
            rw [hO.out, hlo, hi0]
            rfl
          clear hlt hx hc hd ht hO hlo hi0 hq
          go_wp2_with (first
          | ((with_reducible refine at_loadm rtLa g (o + i * 2) (kl x) ?_ ?_ (.tmp 16) ?_ ?_ ?_ ?_); exact hc'.out; rfl; kernel_rfl; rfl; rfl)
          | ((with_reducible refine gen_world (y.alloc (.cells #[.string ⟨#[]⟩, .int .i64 0] 61)) (Fm y [(y.heap.size, kl zL, 61)]) ?_ ?_); exact Fm.one y _ _; intro y1 K1)
          | ((with_reducible refine at_st rtLa y.heap.size (kl zL) (kl x) ?_ ?_ ?_ ?_ (.tmp 5) (.tmp 17) ?_ ?_ ?_ ?_ ?_); exact K1.out.bx 0 _ _ _ rfl; rfl; rfl; exact oneLa _; rfl; rfl; rfl; rfl; intro y2 hw2; have K2 : Hid (Fm y [(y.heap.size, kl x, 61)] y2) := K1.out.put 0 _ _ _ _ rfl hw2.out; clear hw2; have d0 := (K2.out.bx 0 _ _ _ rfl).c 0 (.string x.n) rfl)
          | (go_at_call 42; refine (hNm.out y2 (of_below K.out.1 K2.out.low)).mono ?_; rintro e y3 ⟨rfl, H3⟩; have K3 : Hid (Fm y [(y.heap.size, kl x, 61)] y3) := K2.out.below H3; clear H3 d0; have d0 := (K3.out.bx 0 _ _ _ rfl).c 0 (.string x.n) rfl; have d1 := (K3.out.bx 0 _ _ _ rfl).c 1 (.int .i64 x.a) rfl))
          refine region_class_tail 11 (Fm y [(y.heap.size, kl x, 61)]) (by kernel_rfl) (by kernel_rfl) (K3.out.below (below_drew (Below.refl _ _))) ?_
          simp only [List.take_succ_cons, List.take_zero, List.drop_succ_cons, List.drop_zero]
          with_reducible refine quiet_one (.int .i64 (i : Int)) ?_ ?_ ?_
          · kernel_rfl
          · intro u hy
            go_simp
            all_goals (first | omega | (rw [IntKind.wrap_i64]; omega))
          with_reducible refine quiet_one (.bool false) ?_ ?_ ?_
          · kernel_rfl
          · intro u hy
            go_simp
            all_goals (first | omega | (rw [IntKind.wrap_i64]; omega))
          with_reducible refine quiet_one (.bool false) ?_ ?_ ?_
          · kernel_rfl
          · intro u hy
            go_simp
            all_goals (first | omega | (rw [IntKind.wrap_i64]; omega))
          with_reducible refine quiet_skip ?_ ?_
          · kernel_rfl
          with_reducible refine quiet_skip ?_ ?_
          · kernel_rfl
          with_reducible refine quiet_skip ?_ ?_
          · kernel_rfl
          with_reducible refine quiet_skip ?_ ?_
          · kernel_rfl
          with_reducible refine quiet_skip ?_ ?_
          · kernel_rfl
          with_reducible refine quiet_skip ?_ ?_
          · kernel_rfl
          with_reducible refine quiet_skip ?_ ?_
          · kernel_rfl
          with_reducible refine quiet_skip ?_ ?_
          · kernel_rfl
          refine wpQuiet_nil ?_
          intro z0 Z0
          replace Z0 : Hid _ := Z0
          go_simp
          have M0 : Hid (MapF z0 G F) := K.out.2.keep (Z0.out.low.block G hGl.out)
          have t0 := (Z0.out.bx 0 _ _ _ rfl).c 0 (.string x.n) rfl
          have t1 := (Z0.out.bx 0 _ _ _ rfl).c 1 (.int .i64 x.a) rfl
          have lk := hlk.out z0 M0.out
          by_cases htw : (F x.n).isSome = true
          · have fin : Hid (R = false) := by
              have h1 := hFs.out
              rw [htw] at h1
              show _ = _
              rw [hO2.out, ← h1]
              simp
            obtain ⟨fv, hfv⟩ : ∃ v, (F x.n).getD (.int .i64 0) = v := ⟨_, rfl⟩
            rw [htw, hfv] at lk
            clear htw hfv
            go_wp2
            go_ret
            rw [fin.out]
            exact ⟨rfl, of_below K.out.1 Z0.out.low⟩
          · have htf : (F x.n).isSome = false := by simpa using htw
            have hFn : F x.n = none := by
              rcases e : F x.n with _ | v
              · rfl
              · rw [e] at htf; cases htf
            have J2 : Hid (i + 1 ≤ n ∧ labG (l.take (i + 1)) (l.drop (i + 1)) = R ∧ ∀ s, ((putF F x.n (.int .i64 x.a)) s).isSome = (l.take (i + 1)).any (fun p => decide (p.n = s))) := by
              refine ⟨hlt'.out, ?_, fun s => ?_⟩
              · have h1 := hFs.out
                rw [htf] at h1
                rw [hO2.out, ← h1]
                simp
              · rw [hts.out, List.any_append]
                unfold putF
                by_cases e : s = x.n
                · rw [if_pos e]
                  simp [e]
                · rw [if_neg e, J.out.2.2 s]
                  have : ¬ x.n = s := fun h => e h.symm
                  simp [this]
            rw [htf, hFn] at lk
            clear htw htf
            go_wp2_with (refine at_put ?_ (.tmp 52) (.tmp 54) (.tmp 56) (.inl rfl) mapUL strUL G F x.n (.int .i64 x.a) M0.out rfl rfl rfl ?_; rfl; intro z1 H1; have Z1 : Hid (Below w.heap.size w z1 ∧ MapF z1 G (putF F x.n (.int .i64 x.a))) := ⟨(of_below K.out.1 Z0.out.low).trans (H1.out.2.2 _ (by rw [hG'.out]; exact Nat.le_refl _)), H1.out.1⟩; clear H1)
            go_roundw
            case rel => exact ⟨i + 1, _, z1, rfl, by simp, J2, Z1⟩
            case measure => have := hlt'.out; simp [intOf]; omega
        · obtain ⟨j, hij⟩ : ∃ j, i = j + 1 := ⟨i - 1, by omega⟩
          obtain ⟨p, hp⟩ : ∃ p, l[j]? = some p := ⟨_, List.getElem?_eq_getElem (by rw [hnn.out]; omega)⟩
          have hlast : (l.take i).getLast? = some p := by rw [hij, List.take_add_one, hp]; simp
          have hpi := hi.out p (List.mem_of_getElem? hp)
          have hrp : Hid (∀ u, Below w.heap.size w u → u.rangeAt g (o + j * 2) (kl p).toList) := fun u hu => by
            obtain ⟨g3, o3, e3, hc3⟩ := hl.out j p hp
            cases e3
            exact range_keep hc3 hu
          have ip : ∀ w, (Instr.indexAt 24 (.slice (some ⟨g, o, none⟩) n cap) (.int .i64 ((i : Int) - 1))).run Tryd.prog w = .ok (.pointer (some ⟨g, o + j * 2, none⟩)) w := fun w => by
            have := idxP (P := Tryd.prog) (g := g) (off := o) (len := n) (cap := cap) Tryd.underlying24 (s := 2) (by kernel_rfl) .i64 j w (by omega)
            rw [show (j : Int) = (i : Int) - 1 by omega] at this
            exact this
          have hi1 : (0 : Int) < (i : Int) := by omega
          have hOr : Hid (∀ v, Calls Tryd.prog 43 #[.agg (kl p), .agg (kl x)] v fun e w' => e = .returned (.int .i64 (ordL p x)) ∧ Below v.heap.size v w') := fun v => order_any v p x hpi ⟨xa0, xa1⟩
          have hlo2 := lok_ord (l := x) hlast
          rw [hnb, decide_eq_true (show 0 ≤ x.a ∧ x.a ≤ 65535 by omega), Bool.true_and, Bool.true_and] at hlo2
          obtain ⟨q, hq9⟩ : ∃ q, ordL p x = q := ⟨_, rfl⟩
          rw [hq9] at hOr hlo2
          by_cases hpos : 0 < q
          · have fin : Hid (R = false) := by
              show _ = _
              rw [hO.out, hlo2, decide_eq_false (fun h => h hpos)]
              simp
            clear hlt hx hc hd ht hO hlo hlo2 hlast hij hp hpi hi0 hq hq9
            go_wp2_with (first
            | ((with_reducible refine at_loadm rtLa g (o + i * 2) (kl x) ?_ ?_ (.tmp 16) ?_ ?_ ?_ ?_); exact hc'.out; rfl; kernel_rfl; rfl; rfl)
            | ((with_reducible refine gen_world (y.alloc (.cells #[.string ⟨#[]⟩, .int .i64 0] 61)) (Fm y [(y.heap.size, kl zL, 61)]) ?_ ?_); exact Fm.one y _ _; intro y1 K1)
            | ((with_reducible refine at_st rtLa y.heap.size (kl zL) (kl x) ?_ ?_ ?_ ?_ (.tmp 5) (.tmp 17) ?_ ?_ ?_ ?_ ?_); exact K1.out.bx 0 _ _ _ rfl; rfl; rfl; exact oneLa _; rfl; rfl; rfl; rfl; intro y2 hw2; have K2 : Hid (Fm y [(y.heap.size, kl x, 61)] y2) := K1.out.put 0 _ _ _ _ rfl hw2.out; clear hw2; have d0 := (K2.out.bx 0 _ _ _ rfl).c 0 (.string x.n) rfl)
            | (go_at_call 42; refine (hNm.out y2 (of_below K.out.1 K2.out.low)).mono ?_; rintro e y3 ⟨rfl, H3⟩; have K3 : Hid (Fm y [(y.heap.size, kl x, 61)] y3) := K2.out.below H3; clear H3 d0; have d0 := (K3.out.bx 0 _ _ _ rfl).c 0 (.string x.n) rfl; have d1 := (K3.out.bx 0 _ _ _ rfl).c 1 (.int .i64 x.a) rfl))
            refine region_class_tail 11 (Fm y [(y.heap.size, kl x, 61)]) (by kernel_rfl) (by kernel_rfl) (K3.out.below (below_drew (Below.refl _ _))) ?_
            simp only [List.take_succ_cons, List.take_zero, List.drop_succ_cons, List.drop_zero]
            with_reducible refine quiet_one (.int .i64 (i : Int)) ?_ ?_ ?_
            · kernel_rfl
            · intro u hy
              go_simp
              all_goals (first | omega | (rw [IntKind.wrap_i64]; omega))
            with_reducible refine quiet_one (.bool true) ?_ ?_ ?_
            · kernel_rfl
            · intro u hy
              go_simp
              all_goals (first | omega | (rw [IntKind.wrap_i64]; omega))
            with_reducible refine quiet_one (.bool true) ?_ ?_ ?_
            · kernel_rfl
            · intro u hy
              go_simp
              all_goals (first | omega | (rw [IntKind.wrap_i64]; omega))
            with_reducible refine quiet_one (.slice (some ⟨g, o, none⟩) n cap) ?_ ?_ ?_
            · kernel_rfl
            · intro u hy
              go_simp
              all_goals (first | omega | (rw [IntKind.wrap_i64]; omega))
            with_reducible refine quiet_one (.int .i64 (i : Int)) ?_ ?_ ?_
            · kernel_rfl
            · intro u hy
              go_simp
              all_goals (first | omega | (rw [IntKind.wrap_i64]; omega))
            with_reducible refine quiet_one (.int .i64 ((i : Int) - 1)) ?_ ?_ ?_
            · kernel_rfl
            · intro u hy
              go_simp
              all_goals (first | omega | (rw [IntKind.wrap_i64]; omega))
            with_reducible refine quiet_one (.pointer (some ⟨g, o + j * 2, none⟩)) ?_ ?_ ?_
            · kernel_rfl
            · intro u hy
              go_simp
              all_goals (first | omega | (rw [IntKind.wrap_i64]; omega))
            with_reducible refine quiet_one (.agg (kl p)) ?_ ?_ ?_
            · kernel_rfl
            · intro u hy
              generalize hA : Act.put _ _ _ = A
              have e1 : A.eval (.tmp 38) = .pointer (some ⟨g, o + j * 2, none⟩) := by rw [← hA]; go_simp
              clear hA
              exact q_loadm (C := Fm y [(y.heap.size, kl x, 61)]) rtLa g (o + j * 2) (kl p) (fun _ h => hrp.out _ (of_below K.out.1 h.low)) rfl (.tmp 38) rfl e1 u hy
            with_reducible refine quiet_one (.agg (kl x)) ?_ ?_ ?_
            · kernel_rfl
            · intro u hy
              generalize hA : Act.put _ _ _ = A
              have e1 : A.eval (.tmp 5) = .pointer (some ⟨y.heap.size, 0, none⟩) := by rw [← hA]; go_simp
              clear hA
              exact q_load (C := Fm y [(y.heap.size, kl x, 61)]) rtLa y.heap.size (kl x) (fun _ h => h.bx 0 _ _ _ rfl) rfl (.tmp 5) rfl e1 u hy
            with_reducible refine quiet_one (.int .i64 q) ?_ ?_ ?_
            · kernel_rfl
            · intro u hy
              have d := (hOr.out u).mono fun e w' (h : _ ∧ _) => And.intro h.1 (hy.below h.2)
              go_simp
              all_goals exact d
            with_reducible refine quiet_one (.bool true) ?_ ?_ ?_
            · kernel_rfl
            · intro u hy
              go_simp
              all_goals (first | omega | (rw [IntKind.wrap_i64]; omega))
            refine wpQuiet_nil ?_
            intro z0 Z0
            replace Z0 : Hid _ := Z0
            go_simp
            go_wp2
            go_ret
            rw [fin.out]
            exact ⟨rfl, of_below K.out.1 Z0.out.low⟩
          · have hO2 : Hid (R = (!(l.take i).any (fun p => decide (p.n = x.n)) && labG (l.take (i + 1)) (l.drop (i + 1)))) := by
              show _ = _
              rw [hO.out, hlo2, decide_eq_true hpos]
              simp
            have hposI : Hid (q ≤ 0) := by show q ≤ 0; omega
            have q2b : 0 ≤ x.a := by omega
            have q3b : x.a ≤ 65535 := by omega
            clear hpos xa0 xa1 hnb
            clear hlt hx hc hd ht hO hlo hlo2 hlast hij hp hpi hi0 hq hq9
            go_wp2_with (first
            | ((with_reducible refine at_loadm rtLa g (o + i * 2) (kl x) ?_ ?_ (.tmp 16) ?_ ?_ ?_ ?_); exact hc'.out; rfl; kernel_rfl; rfl; rfl)
            | ((with_reducible refine gen_world (y.alloc (.cells #[.string ⟨#[]⟩, .int .i64 0] 61)) (Fm y [(y.heap.size, kl zL, 61)]) ?_ ?_); exact Fm.one y _ _; intro y1 K1)
            | ((with_reducible refine at_st rtLa y.heap.size (kl zL) (kl x) ?_ ?_ ?_ ?_ (.tmp 5) (.tmp 17) ?_ ?_ ?_ ?_ ?_); exact K1.out.bx 0 _ _ _ rfl; rfl; rfl; exact oneLa _; rfl; rfl; rfl; rfl; intro y2 hw2; have K2 : Hid (Fm y [(y.heap.size, kl x, 61)] y2) := K1.out.put 0 _ _ _ _ rfl hw2.out; clear hw2; have d0 := (K2.out.bx 0 _ _ _ rfl).c 0 (.string x.n) rfl)
            | (go_at_call 42; refine (hNm.out y2 (of_below K.out.1 K2.out.low)).mono ?_; rintro e y3 ⟨rfl, H3⟩; have K3 : Hid (Fm y [(y.heap.size, kl x, 61)] y3) := K2.out.below H3; clear H3 d0; have d0 := (K3.out.bx 0 _ _ _ rfl).c 0 (.string x.n) rfl; have d1 := (K3.out.bx 0 _ _ _ rfl).c 1 (.int .i64 x.a) rfl))
            refine region_class_tail 11 (Fm y [(y.heap.size, kl x, 61)]) (by kernel_rfl) (by kernel_rfl) (K3.out.below (below_drew (Below.refl _ _))) ?_
            simp only [List.take_succ_cons, List.take_zero, List.drop_succ_cons, List.drop_zero]
            with_reducible refine quiet_one (.int .i64 (i : Int)) ?_ ?_ ?_
            · kernel_rfl
            · intro u hy
              go_simp
              all_goals (first | omega | (rw [IntKind.wrap_i64]; omega))
            with_reducible refine quiet_one (.bool true) ?_ ?_ ?_
            · kernel_rfl
            · intro u hy
              go_simp
              all_goals (first | omega | (rw [IntKind.wrap_i64]; omega))
            with_reducible refine quiet_one (.bool true) ?_ ?_ ?_
            · kernel_rfl
            · intro u hy
              go_simp
              all_goals (first | omega | (rw [IntKind.wrap_i64]; omega))
            with_reducible refine quiet_one (.slice (some ⟨g, o, none⟩) n cap) ?_ ?_ ?_
            · kernel_rfl
            · intro u hy
              go_simp
              all_goals (first | omega | (rw [IntKind.wrap_i64]; omega))
            with_reducible refine quiet_one (.int .i64 (i : Int)) ?_ ?_ ?_
            · kernel_rfl
            · intro u hy
              go_simp
              all_goals (first | omega | (rw [IntKind.wrap_i64]; omega))
            with_reducible refine quiet_one (.int .i64 ((i : Int) - 1)) ?_ ?_ ?_
            · kernel_rfl
            · intro u hy
              go_simp
              all_goals (first | omega | (rw [IntKind.wrap_i64]; omega))
            with_reducible refine quiet_one (.pointer (some ⟨g, o + j * 2, none⟩)) ?_ ?_ ?_
            · kernel_rfl
            · intro u hy
              go_simp
              all_goals (first | omega | (rw [IntKind.wrap_i64]; omega))
            with_reducible refine quiet_one (.agg (kl p)) ?_ ?_ ?_
            · kernel_rfl
            · intro u hy
              generalize hA : Act.put _ _ _ = A
              have e1 : A.eval (.tmp 38) = .pointer (some ⟨g, o + j * 2, none⟩) := by rw [← hA]; go_simp
              clear hA
              exact q_loadm (C := Fm y [(y.heap.size, kl x, 61)]) rtLa g (o + j * 2) (kl p) (fun _ h => hrp.out _ (of_below K.out.1 h.low)) rfl (.tmp 38) rfl e1 u hy
            with_reducible refine quiet_one (.agg (kl x)) ?_ ?_ ?_
            · kernel_rfl
            · intro u hy
              generalize hA : Act.put _ _ _ = A
              have e1 : A.eval (.tmp 5) = .pointer (some ⟨y.heap.size, 0, none⟩) := by rw [← hA]; go_simp
              clear hA
              exact q_load (C := Fm y [(y.heap.size, kl x, 61)]) rtLa y.heap.size (kl x) (fun _ h => h.bx 0 _ _ _ rfl) rfl (.tmp 5) rfl e1 u hy
            with_reducible refine quiet_one (.int .i64 q) ?_ ?_ ?_
            · kernel_rfl
            · intro u hy
              have d := (hOr.out u).mono fun e w' (h : _ ∧ _) => And.intro h.1 (hy.below h.2)
              go_simp
              all_goals exact d
            with_reducible refine quiet_one (.bool false) ?_ ?_ ?_
            · kernel_rfl
            · intro u hy
              have hp9 := hposI.out
              go_simp
              all_goals (first | omega | (rw [IntKind.wrap_i64]; omega))
            refine wpQuiet_nil ?_
            intro z0 Z0
            replace Z0 : Hid _ := Z0
            go_simp
            have M0 : Hid (MapF z0 G F) := K.out.2.keep (Z0.out.low.block G hGl.out)
            have t0 := (Z0.out.bx 0 _ _ _ rfl).c 0 (.string x.n) rfl
            have t1 := (Z0.out.bx 0 _ _ _ rfl).c 1 (.int .i64 x.a) rfl
            have lk := hlk.out z0 M0.out
            by_cases htw : (F x.n).isSome = true
            · have fin : Hid (R = false) := by
                have h1 := hFs.out
                rw [htw] at h1
                show _ = _
                rw [hO2.out, ← h1]
                simp
              obtain ⟨fv, hfv⟩ : ∃ v, (F x.n).getD (.int .i64 0) = v := ⟨_, rfl⟩
              rw [htw, hfv] at lk
              clear htw hfv
              go_wp2
              go_ret
              rw [fin.out]
              exact ⟨rfl, of_below K.out.1 Z0.out.low⟩
            · have htf : (F x.n).isSome = false := by simpa using htw
              have hFn : F x.n = none := by
                rcases e : F x.n with _ | v
                · rfl
                · rw [e] at htf; cases htf
              have J2 : Hid (i + 1 ≤ n ∧ labG (l.take (i + 1)) (l.drop (i + 1)) = R ∧ ∀ s, ((putF F x.n (.int .i64 x.a)) s).isSome = (l.take (i + 1)).any (fun p => decide (p.n = s))) := by
                refine ⟨hlt'.out, ?_, fun s => ?_⟩
                · have h1 := hFs.out
                  rw [htf] at h1
                  rw [hO2.out, ← h1]
                  simp
                · rw [hts.out, List.any_append]
                  unfold putF
                  by_cases e : s = x.n
                  · rw [if_pos e]
                    simp [e]
                  · rw [if_neg e, J.out.2.2 s]
                    have : ¬ x.n = s := fun h => e h.symm
                    simp [this]
              rw [htf, hFn] at lk
              clear htw htf
              go_wp2_with (refine at_put ?_ (.tmp 52) (.tmp 54) (.tmp 56) (.inl rfl) mapUL strUL G F x.n (.int .i64 x.a) M0.out rfl rfl rfl ?_; rfl; intro z1 H1; have Z1 : Hid (Below w.heap.size w z1 ∧ MapF z1 G (putF F x.n (.int .i64 x.a))) := ⟨(of_below K.out.1 Z0.out.low).trans (H1.out.2.2 _ (by rw [hG'.out]; exact Nat.le_refl _)), H1.out.1⟩; clear H1)
              go_roundw
              case rel => exact ⟨i + 1, _, z1, rfl, by simp, J2, Z1⟩
              case measure => have := hlt'.out; simp [intOf]; omega

    · have hie : i = n := by have := J.out.1; omega
      subst hie
      have fin : Hid (R = true) := by
        have h1 := J.out.2.1
        rw [List.drop_eq_nil_of_le (by rw [hnn.out]; exact Nat.le_refl _)] at h1
        exact h1.symm
      clear hlt
      go_wp2
      go_ret
      rw [fin.out]
      exact ⟨rfl, K.out.1⟩
end Go.Proofs.YtkpfhnogpcigaaaDoorR
/- The labels' map: entry by entry, in the order in which they came. -/
namespace Go.Proofs.YtkpfhnogpcigaaaDoorR
open Go Go.RowKit Go.MapKept
set_option linter.unusedVariables false
set_option maxHeartbeats 1000000
set_option maxRecDepth 20000

def mapN (N : List (ByteArray × Nat)) : ByteArray → Option Value := fun t => (lookN N t).map fun (a : Nat) => Value.int .i64 (a : Int)
def enN (x : ByteArray × Nat) (i : Nat) : MapEntry := { key := .string x.1, val := .int .i64 (x.2 : Int), born := i }
def esOf (N : List (ByteArray × Nat)) : List MapEntry := N.reverse.zipIdx.map fun x => enN x.1 x.2
theorem esOf_cons (x : ByteArray × Nat) (N : List (ByteArray × Nat)) : esOf (x :: N) = esOf N ++ [enN x N.length] := by
  unfold esOf
  rw [List.reverse_cons, List.zipIdx_append, List.map_append]
  simp
theorem esOf_len (N : List (ByteArray × Nat)) : (esOf N).length = N.length := by unfold esOf; simp
theorem esOf_at (N : List (ByteArray × Nat)) (i : Nat) (e : MapEntry) (h : (esOf N)[i]? = some e) : ∃ x, N.reverse[i]? = some x ∧ e = enN x i := by
  unfold esOf at h
  rw [List.getElem?_map, List.getElem?_zipIdx] at h
  rcases hx : N.reverse[i]? with _ | x
  · rw [hx] at h; simp at h
  · rw [hx] at h
    simp at h
    exact ⟨x, rfl, h.symm⟩
/-- A block is the map of these labels. -/
def MapE (w : World) (g : Nat) (N : List (ByteArray × Nat)) : Prop := w.heap[g]? = some (.map (esOf N).toArray N.length) ∧ (N.map (·.1)).Nodup
theorem MapE.keep {w y : World} {g : Nat} {N : List (ByteArray × Nat)} (h : MapE w g N) (hk : y.heap[g]? = w.heap[g]?) : MapE y g N := ⟨hk.trans h.1, h.2⟩
theorem MapE.lt {w : World} {g : Nat} {N : List (ByteArray × Nat)} (h : MapE w g N) : g < w.heap.size := heap_lt h.1
theorem MapE.block {w : World} {g : Nat} {N : List (ByteArray × Nat)} (h : MapE w g N) : ∃ es clock, w.heap[g]? = some (.map es clock) := ⟨_, _, h.1⟩
theorem look_mem {N : List (ByteArray × Nat)} (hn : (N.map (·.1)).Nodup) {x : ByteArray × Nat} (hx : x ∈ N) : lookN N x.1 = some x.2 := by
  induction N with
  | nil => cases hx
  | cons y r ih =>
    rw [List.map_cons, List.nodup_cons] at hn
    unfold lookN
    rcases List.mem_cons.1 hx with rfl | hx
    · rw [if_pos rfl]
    · rw [if_neg fun e => hn.1 (by rw [← e]; exact List.mem_map_of_mem hx)]
      exact ih hn.2 hx
theorem mem_look {N : List (ByteArray × Nat)} {s : ByteArray} {a : Nat} (h : lookN N s = some a) : (s, a) ∈ N := by
  induction N with
  | nil => simp [lookN] at h
  | cons y r ih =>
    unfold lookN at h
    split at h
    · rename_i e
      simp at h
      subst h e
      simp
    · exact List.mem_cons_of_mem _ (ih h)
theorem look_none : ∀ {N : List (ByteArray × Nat)} {s : ByteArray}, lookN N s = none → s ∉ N.map (·.1)
  | [], s, _ => by simp
  | y :: r, s, h => by
    unfold lookN at h
    split at h
    · cases h
    · rename_i e
      rw [List.map_cons, List.mem_cons]
      intro hm
      rcases hm with hm | hm
      · exact e hm
      · exact look_none h hm
theorem MapE.toF {w : World} {g : Nat} {N : List (ByteArray × Nat)} (h : MapE w g N) : MapF w g (mapN N) := by
  refine ⟨_, _, h.1, fun i e he => ?_, fun s v hs => ?_, fun i j e e' he he' hk => ?_⟩
  · rw [List.getElem?_toArray] at he
    obtain ⟨x, hx, rfl⟩ := esOf_at N i e he
    have hm : x ∈ N := List.mem_reverse.1 (List.mem_of_getElem? hx)
    exact ⟨x.1, rfl, by unfold mapN; rw [look_mem h.2 hm]; rfl⟩
  · unfold mapN at hs
    rcases hl : lookN N s with _ | a
    · rw [hl] at hs; cases hs
    · have hm := List.mem_reverse.2 (mem_look hl)
      obtain ⟨i, hi, ei⟩ := List.getElem_of_mem hm
      refine ⟨i, enN (s, a) i, ?_, rfl⟩
      rw [List.getElem?_toArray]
      unfold esOf
      rw [List.getElem?_map, List.getElem?_zipIdx, List.getElem?_eq_getElem hi, ei]
      simp
  · rw [List.getElem?_toArray] at he he'
    obtain ⟨x, hx, rfl⟩ := esOf_at N i e he
    obtain ⟨x', hx', rfl⟩ := esOf_at N j e' he'
    simp [enN] at hk
    have hnr : (N.reverse.map (·.1)).Nodup := by
      rw [List.map_reverse]
      unfold List.Nodup
      rw [List.pairwise_reverse]
      exact h.2.imp fun h => h.symm
    have h1 : (N.reverse.map (·.1))[i]? = some x.1 := by rw [List.getElem?_map, hx]; rfl
    have h2 : (N.reverse.map (·.1))[j]? = some x.1 := by rw [List.getElem?_map, hx', hk]; rfl
    obtain ⟨a1, b1⟩ := List.getElem?_eq_some_iff.1 h1
    obtain ⟨a2, b2⟩ := List.getElem?_eq_some_iff.1 h2
    exact (List.getElem_inj hnr).1 (b1.trans b2.symm)
theorem MapE.put {w : World} {g : Nat} {N : List (ByteArray × Nat)} (h : MapE w g N) (s : ByteArray) (a : Nat) (hl : lookN N s = none) :
    ∃ w', (Instr.mapUpdate 83 (.map (some g)) (.string s) (.int .i64 (a : Int))).run Tryd.prog w = .ok () w' ∧ MapE w' g ((s, a) :: N) ∧ (∀ q, q ≠ g → w'.heap[q]? = w.heap[q]?) ∧ ∀ B, B ≤ g → Below B w w' := by
  have hks : ∀ x ∈ (esOf N), IsKey .string x.key := fun x hx => by
    obtain ⟨i, hi, e⟩ := List.getElem_of_mem hx
    obtain ⟨y, _, rfl⟩ := esOf_at N i x (by rw [List.getElem?_eq_getElem hi, e])
    trivial
  have hb := h.1
  rcases findNow_spec (d := .string) (k := .string s) trivial (esOf N) 0 hks with ⟨f1, f2⟩ | ⟨j, e0, f1, f2, f3⟩
  · refine ⟨{ w with heap := w.heap.setIfInBounds g (.map ((esOf N).toArray.push { key := .string s, val := .int .i64 (a : Int), born := N.length }) (N.length + 1)) }, ?_, ⟨?_, ?_⟩, (heap_set hb).2, fun B hB => ⟨rfl, rfl, rfl, by simp, fun q hq => by simp [show g ≠ q by omega]⟩⟩
    · simp [Instr.mapUpdate, run_underlying mapUL, MapKept.run_getObj_map hb, MapKept.run_checkKey strUL (keyS s), MapKept.run_findKey strUL f1, MapKept.run_setObj_map _ hb, Result.andThen]
    · refine (heap_set hb).1.trans ?_
      rw [esOf_cons, List.push_toArray]
      rfl
    · rw [List.map_cons, List.nodup_cons]
      exact ⟨look_none hl, h.2⟩
  · exfalso
    obtain ⟨y, hy, rfl⟩ := esOf_at N j e0 f2
    simp [enN] at f3
    have hm : y ∈ N := List.mem_reverse.1 (List.mem_of_getElem? hy)
    have := look_mem h.2 hm
    rw [f3, hl] at this
    cases this
theorem at_putE {ops : Array Oper} {rest : List Oper} {o : Oper} {a : Act} {w : World} {Q : Exit → Act → World → Prop} (hg : o.guard = none) (m x v : Operand) (ho : o.op = .mapUpdate 83 m x v ∨ o.op = .insert 83 m x v)
    (g : Nat) (N : List (ByteArray × Nat)) (s : ByteArray) (u : Nat) (hF : MapE w g N) (hl : lookN N s = none) (em : a.eval m = .map (some g)) (ex : a.eval x = .string s) (ev : a.eval v = .int .i64 (u : Int))
    (k : ∀ w', Hid (MapE w' g ((s, u) :: N) ∧ (∀ q, q ≠ g → w'.heap[q]? = w.heap[q]?) ∧ ∀ B, B ≤ g → Below B w w') → wpList Tryd.prog ops Q rest (a.put o.dst undef) w') : wpList Tryd.prog ops Q (o :: rest) a w := by
  refine wpList_plain hg fun K' hK' => ?_
  obtain ⟨w', hrun, r1⟩ := hF.put s u hl
  unfold Oper.wp
  rcases ho with ho | ho
  · simp [execOp, ho, em, ex, ev, hrun, Result.andThen]
    exact hK' _ _ (k w' r1)
  · simp [execOp, ho, em, ex, ev, hrun, Result.andThen]
    exact hK' _ _ (k w' r1)
end Go.Proofs.YtkpfhnogpcigaaaDoorR
/- The sheet that a source is laid on, as it lies in memory; addresses that are claimed. -/
namespace Go.Proofs.YtkpfhnogpcigaaaDoorR
open Go Go.RowKit
set_option linter.unusedVariables false
set_option maxHeartbeats 3000000
set_option maxRecDepth 20000

/-- The sheet's blocks: itself, what lies at each address, the bytes, the labels. -/
structure Nu where
  s : Nat
  u : Nat
  b : Nat
  m : Nat
/-- A piece as it lies in the list of those that were laid. -/
structure Lp where
  t : TypeId
  v : Value
  a : Nat
def lpA (x : Lp) : Array Value := #[.iface x.t x.v, .int .i64 (x.a : Int)]
def cLp (x : Lp) : List Value := (lpA x).toList
def sC (q : Nu) (p : Nat) (vl : Value) : Array Value := #[.int .i64 (p : Int), vl, .slice (some ⟨q.u, 0, none⟩) 65536 65536, .slice (some ⟨q.b, 0, none⟩) 65536 65536, .map (some q.m)]
structure Sht (B : Nat) (q : Nu) (s : Sh) (M : List UInt8) (vl : Value) (l : List Lp) (y : World) : Prop where
  ok : s.Ok
  bx : Bx y q.s (sC q s.p vl) 85
  u : Bx y q.u (rU s.U) 135
  b : Bx y q.b (rU M) 5
  m : MapE y q.m s.N
  o : OwnL 87 2 cLp B y vl l
  lo : B ≤ q.s ∧ B ≤ q.u ∧ B ≤ q.b ∧ B ≤ q.m
/-- All that is below stays, and all rows of bytes. -/
structure Kx (B : Nat) (y z : World) : Prop where
  low : Below B y z
  by8 : ∀ g cs, Bx y g cs 5 → Bx z g cs 5
theorem Kx.refl (B : Nat) (y : World) : Kx B y y := ⟨Below.refl _ _, fun _ _ h => h⟩
theorem Kx.trans {B : Nat} {x y z : World} (h : Kx B x y) (k : Kx B y z) : Kx B x z := ⟨h.low.trans k.low, fun g cs e => k.by8 g cs (h.by8 g cs e)⟩
theorem Bx.below {y z : World} {g : Nat} {cs : Array Value} {t : TypeId} (h : Bx y g cs t) (k : Below y.heap.size y z) : Bx z g cs t := (k.block g (heap_lt h)).trans h
theorem Kx.of_below {B : Nat} {y z : World} (k : Below y.heap.size y z) (hB : B ≤ y.heap.size) : Kx B y z := ⟨k.mono hB, fun g cs h => h.below k⟩
theorem Sht.below {B : Nat} {q : Nu} {s : Sh} {M : List UInt8} {vl : Value} {l : List Lp} {y z : World} (h : Sht B q s M vl l y) (k : Below y.heap.size y z) : Sht B q s M vl l z :=
  ⟨h.ok, h.bx.below k, h.u.below k, h.b.below k, h.m.keep (k.block _ h.m.lt), h.o.below k, h.lo⟩
theorem Sht.Ble {B : Nat} {q : Nu} {s : Sh} {M : List UInt8} {vl : Value} {l : List Lp} {y : World} (h : Sht B q s M vl l y) : B ≤ y.heap.size := Nat.le_of_lt (Nat.lt_of_le_of_lt h.lo.1 (heap_lt h.bx))
section
variable {y z : World} {b : Nat} {cs : Array Value} {t : TypeId}
theorem bx_other {g : Nat} {cs' : Array Value} {t' : TypeId} (hb : Bx y b cs t) (hne : t ≠ t') (hg : ∀ q, q ≠ b → z.heap[q]? = y.heap[q]?) (h : Bx y g cs' t') : Bx z g cs' t' := by
  refine (hg g fun e => hne ?_).trans h
  subst e
  have := hb.symm.trans h
  simp at this
  exact this.2
theorem map_other {g : Nat} {F : List (ByteArray × Nat)} (hb : Bx y b cs t) (hg : ∀ q, q ≠ b → z.heap[q]? = y.heap[q]?) (h : MapE y g F) : MapE z g F := by
  refine h.keep (hg g fun e => ?_)
  subst e
  obtain ⟨es, ck, hm⟩ := h.block
  have := hb.symm.trans hm
  simp at this
theorem own_other {α : Type} {t' : TypeId} {s' : Nat} {c' : α → List Value} {B : Nat} {v : Value} {l' : List α} (hb : Bx y b cs t) (hne : t ≠ t') (hg : ∀ q, q ≠ b → z.heap[q]? = y.heap[q]?) (h : OwnL t' s' c' B y v l') : OwnL t' s' c' B z v l' := h.keepB fun g e => by
  obtain ⟨c9, h9⟩ := h.ty g e
  have := bx_other hb hne hg h9
  exact this.trans h9.symm
end
/-- Addresses: what lies there is written over. -/
theorem rU_get (l : List UInt8) (j : Nat) (b : UInt8) (h : l[j]? = some b) : (rU l)[j]? = some (byV b) := by unfold rU; simp [h]
theorem rU_size (l : List UInt8) : (rU l).size = l.length := by unfold rU; simp
theorem splice_rep (U : List UInt8) (p k : Nat) (u : UInt8) (h : p + k < U.length) : (splice U p (List.replicate k u)).set (p + k) u = splice U p (List.replicate (k + 1) u) := by
  apply List.ext_getElem?
  intro j
  rw [List.getElem?_set, length_splice _ _ _ (by rw [List.length_replicate]; omega), spliceL_at _ _ _ (by rw [List.length_replicate]; omega), spliceL_at _ _ _ (by rw [List.length_replicate]; omega), List.length_replicate, List.length_replicate]
  by_cases h1 : p + k = j
  · subst h1
    rw [if_pos rfl, if_pos h, if_pos ⟨by omega, by omega⟩, List.getElem?_replicate, if_pos (by omega)]
  · rw [if_neg h1]
    by_cases h2 : p ≤ j ∧ j < p + k
    · rw [if_pos h2, if_pos ⟨h2.1, by omega⟩, List.getElem?_replicate, List.getElem?_replicate, if_pos (by omega), if_pos (by omega)]
    · rw [if_neg h2, if_neg (by omega)]
theorem splice_nil (U : List UInt8) (p : Nat) : splice U p [] = U := by simp [splice]
theorem slU (g p e n : Nat) (hn : p + n = e) (h : e ≤ 65536) : ∃ sp1 cp, (∀ v, (Instr.sliceAt 82 (.slice (some ⟨g, 0, none⟩) 65536 65536) (some (.int .i64 (p : Int))) (some (.int .i64 (e : Int))) none).run Tryd.prog v = .ok (.slice sp1 n cp) v) ∧ (0 < n → sp1 = some ⟨g, p, none⟩) := by
  subst hn
  refine ⟨if 65536 = p then some ⟨g, 0, none⟩ else (some (⟨g, 0, none⟩ : Addr)).map (·.add (p * 1)), 65536 - p, fun v => ?_, fun h => ?_⟩
  · have hu : Tryd.prog.underlying 82 = some (.slice (Tryd.prog.elem 82)) := by kernel_rfl
    rw [run_sliceAt_slice v _ _ _ _ _ hu, run_slice_lh v _ _ _ _ hu .i64 .i64 (p : Int) ((p + n : Nat) : Int) (by omega) (by omega) (by omega)]
    have hz : ∀ v, (sizeOf (Tryd.prog.elem 82)).run Tryd.prog v = .ok 1 v := fun v => by kernel_rfl
    rw [hz]
    simp only [Result.andThen_ok, sliced, Int.toNat_natCast, Nat.add_sub_cancel_left]
  · rw [if_neg (by omega)]
    simp [Addr.add_lit]
theorem claim_any (B : Nat) (q : Nu) (s : Sh) (M : List UInt8) (vl : Value) (l : List Lp) (y : World) (h : Hid (Sht B q s M vl l y)) (n : Nat) (hn : n ≤ 65536) (u : UInt8) :
    Calls Tryd.prog 125 #[.pointer (some ⟨q.s, 0, none⟩), .int .i64 (n : Int), byV u] y fun e z => e = .returned (.int .i64 (clE s n)) ∧ Hid (Kx B y z ∧ (clE s n = 0 → Sht B q (clS s n u) M vl l z)) := by
  have hU8' : Hid (byV u = .int .u8 (u.toNat : Int)) := (rfl : byV u = .int .u8 (u.toNat : Int))
  rw [hU8'.out]
  obtain ⟨p, hp⟩ : ∃ p, s.p = p := ⟨_, rfl⟩
  have hp' : Hid (s.p = p) := hp
  have hp6 : p ≤ 65536 := by rw [← hp]; exact h.out.ok.p
  have c0 : y.cell? ⟨q.s, 0, none⟩ = some (.int .i64 (p : Int)) := by rw [← hp]; exact h.out.bx.c 0 _ rfl
  have c2 : y.cell? ⟨q.s, 2, none⟩ = some (.slice (some ⟨q.u, 0, none⟩) 65536 65536) := h.out.bx.c 2 _ rfl
  obtain ⟨R, hR⟩ : ∃ R, clE s n = R := ⟨_, rfl⟩
  have hR' : Hid (clE s n = R) := hR
  rw [hR]
  have w1 : IntKind.i64.wrap ((p : Int) + n) = (p : Int) + n := by rw [IntKind.wrap_i64]; omega
  have hself : Hid (Kx B y y) := Kx.refl B y
  by_cases hbig : 65536 < p + n
  · have hi : (65536 : Int) < (p : Int) + n := by omega
    have e0 : Hid (R = 143) := by show R = 143; rw [← hR]; unfold clE; rw [hp, if_pos hbig]
    clear hbig hR hp hn hp6
    go_enter Tryd.func125, Tryd.ntmps125
    go_wp2
    go_ret
    exact ⟨by rw [e0.out]; rfl, hself.out, fun e => by have := e0.out; omega⟩
  · have hi : ¬ (65536 : Int) < (p : Int) + n := by omega
    obtain ⟨sp1, cp, hs, hsp⟩ := slU q.u p (p + n) n rfl (by omega)
    rw [show ((p + n : Nat) : Int) = (p : Int) + n by omega] at hs
    have hsp' : Hid (0 < n → sp1 = some ⟨q.u, p, none⟩) := hsp
    have hU : Hid (s.U.length = 65536) := h.out.ok.u
    have hfit : Hid (p + n ≤ 65536) := by show _ ≤ _; omega
    have hnI : (n : Int) ≤ 65536 := by omega
    clear hR hp hn hp6 hbig hsp
    go_enter Tryd.func125, Tryd.ntmps125
    go_wp2
    go_quiet (fail)
    go_wp2
    go_loopw [32] (fun t wz => ∃ (i : Nat) (x : World), x = wz ∧ t = .int .i64 (i : Int) ∧ Hid (i ≤ n ∧ ((s.U.drop p).take i).any (fun u => decide (u ≠ 0)) = false) ∧ Hid (Below y.heap.size y x)) (fun t _ => (n - intOf t).toNat)
    case atStart => exact ⟨0, _, rfl, rfl, ⟨Nat.zero_le _, by simp⟩, below_drewN (Below.refl _ _)⟩
    case round =>
      obtain ⟨i, wz, rfl, rfl, J, W⟩ := hrel
      have h1 : Hid (Sht B q s M vl l wz) := h.out.below W.out
      have hk1 : Hid (Kx B y wz) := Kx.of_below W.out h.out.Ble
      clear c0 c2
      by_cases hlt : i < n
      · have e9 := hsp'.out (by omega)
        obtain ⟨x, hx⟩ : ∃ x, s.U[p + i]? = some x := ⟨_, List.getElem?_eq_getElem (by rw [hU.out]; have := hfit.out; omega)⟩
        have ij := fun w => idxP (P := Tryd.prog) (g := q.u) (off := p) (len := n) (cap := cp) Tryd.underlying82 (s := 1) (by kernel_rfl) .i64 i w hlt
        rw [← e9, Nat.mul_one] at ij
        have cx : wz.cell? ⟨q.u, p + i, none⟩ = some (.int .u8 (x.toNat : Int)) := h1.out.u.c _ _ (rU_get _ _ _ hx)
        have hstep : Hid (((s.U.drop p).take (i + 1)).any (fun u => decide (u ≠ 0)) = decide (x ≠ 0)) := by
          show _ = _
          have hg : (s.U.drop p)[i]? = some x := by rw [List.getElem?_drop]; exact hx
          rw [List.take_add_one, hg, List.any_append, J.out.2]
          simp
        have hii : (i : Int) < n := by omega
        have hlt' : Hid (i < n) := hlt
        have wi : IntKind.i64.wrap ((i : Int) + 1) = (i : Int) + 1 := by rw [IntKind.wrap_i64]; omega
        clear hlt e9
        by_cases hx0 : x = 0
        · have hxi : ((x.toNat : Int) != 0) = false := by subst hx0; rfl
          have J9 : Hid (i + 1 ≤ n ∧ ((s.U.drop p).take (i + 1)).any (fun u => decide (u ≠ 0)) = false) := ⟨hlt'.out, by rw [hstep.out, decide_eq_false (by simp [hx0])]⟩
          clear hx0
          go_wp2
          go_roundw
          case rel => exact ⟨i + 1, _, rfl, by simp, J9, W⟩
          case measure => have := hlt'.out; simp [intOf]; omega
        · have hxi : ((x.toNat : Int) != 0) = true := by
            rw [bne_iff_ne]
            intro e
            exact hx0 (UInt8.toNat_inj.1 (by have : (0 : UInt8).toNat = 0 := rfl; omega))
          have e0 : Hid (R = 144) := by
            show R = 144
            rw [← hR'.out]
            unfold clE
            rw [hp'.out, if_neg (by have := hfit.out; omega), if_pos]
            have h9 : ((s.U.drop p).take (i + 1)).any (fun u => decide (u ≠ 0)) = true := by rw [hstep.out]; exact decide_eq_true hx0
            obtain ⟨v, hv, hv0⟩ := List.any_eq_true.1 h9
            refine List.any_eq_true.2 ⟨v, ?_, hv0⟩
            have hsub : (s.U.drop p).take (i + 1) = ((s.U.drop p).take n).take (i + 1) := by rw [List.take_take, Nat.min_eq_left (by have := hlt'.out; omega)]
            rw [hsub] at hv
            exact List.mem_of_mem_take hv
          clear hx0
          go_wp2
          go_ret
          exact ⟨by rw [e0.out]; rfl, hk1.out, fun e => by have := e0.out; omega⟩
      · have hie : i = n := by have := J.out.1; omega
        subst hie
        have e0 : Hid (R = 0) := by
          show R = 0
          rw [← hR'.out]
          unfold clE
          rw [hp'.out, if_neg (by have := hfit.out; omega), J.out.2]
          rfl
        clear hlt
        go_wp2
        go_loopw [41] (fun t wv => ∃ (k : Nat) (z : World), z = wv ∧ t = .int .i64 (k : Int) ∧ Hid (k ≤ i ∧ Bx z q.u (rU (splice s.U p (List.replicate k u))) 135 ∧ (∀ g, g ≠ q.u → z.heap[g]? = wz.heap[g]?) ∧ Below q.u wz z)) (fun t _ => (i - intOf t).toNat)
        case atStart => exact ⟨0, _, rfl, rfl, Nat.zero_le _, by rw [List.replicate_zero, splice_nil]; exact h1.out.u, fun g _ => rfl, Below.refl _ _⟩
        case round =>
          obtain ⟨k, z, rfl, rfl, Z⟩ := hrel
          have hqs : Hid (q.s ≠ q.u) := fun e => by
            have h9 := h1.out.bx
            rw [e] at h9
            have := h9.symm.trans h1.out.u
            simp at this
          by_cases hlt : k < i
          · have e9 := hsp'.out (by omega)
            have ij := fun w => idxP (P := Tryd.prog) (g := q.u) (off := p) (len := i) (cap := cp) Tryd.underlying82 (s := 1) (by kernel_rfl) .i64 k w hlt
            rw [← e9, Nat.mul_one] at ij
            have hsz : p + k < (rU (splice s.U p (List.replicate k u))).size := by rw [rU_size, length_splice _ _ _ (by rw [List.length_replicate, hU.out]; have := hfit.out; omega), hU.out]; have := hfit.out; omega
            obtain ⟨c9, zc⟩ : ∃ c, z.cell? ⟨q.u, p + k, none⟩ = some c := ⟨_, Z.out.2.1.c (p + k) _ (Array.getElem?_eq_getElem hsz)⟩
            have zf := Z.out.2.1.fz (p + k)
            have K9 : Hid (k + 1 ≤ i ∧ Bx (z.setCell ⟨q.u, p + k, none⟩ (byV u)) q.u (rU (splice s.U p (List.replicate (k + 1) u))) 135 ∧ (∀ g, g ≠ q.u → (z.setCell ⟨q.u, p + k, none⟩ (byV u)).heap[g]? = wz.heap[g]?) ∧ Below q.u wz (z.setCell ⟨q.u, p + k, none⟩ (byV u))) := by
              refine ⟨hlt, ?_, fun g hg => (heap_setCell_other z ⟨q.u, p + k, none⟩ g _ hg).trans (Z.out.2.2.1 g hg), Z.out.2.2.2.setCell (p := ⟨q.u, p + k, none⟩) (Nat.le_refl _) _⟩
              have := heap_setCell_same z q.u (p + k) _ _ (byV u) Z.out.2.1
              rw [rU_set, splice_rep _ _ _ _ (by rw [hU.out]; have := hfit.out; omega)] at this
              exact this
            have hki : (k : Int) < i := by omega
            have hlt' : Hid (k < i) := hlt
            have wi : IntKind.i64.wrap ((k : Int) + 1) = (k : Int) + 1 := by rw [IntKind.wrap_i64]; omega
            rw [hU8'.out] at K9
            clear hlt e9 hsz
            go_wp2
            go_roundw
            case rel => exact ⟨k + 1, _, rfl, by simp, K9⟩
            case measure => have := hlt'.out; simp [intOf]; omega
          · have hke : k = i := by have := Z.out.1; omega
            subst hke
            have zb : Bx z q.s (sC q s.p vl) 85 := (Z.out.2.2.1 _ hqs.out).trans h1.out.bx
            have zc := zb.c 0 _ rfl
            have zf := zb.fz 0
            have K9 : Hid (Kx B wz (z.setCell ⟨q.s, 0, none⟩ (.int .i64 ((p : Int) + k))) ∧ Sht B q (clS s k u) M vl l (z.setCell ⟨q.s, 0, none⟩ (.int .i64 ((p : Int) + k)))) := by
              have g1 : ∀ g, g ≠ q.s → (z.setCell ⟨q.s, 0, none⟩ (.int .i64 ((p : Int) + k))).heap[g]? = z.heap[g]? := fun g hg => heap_setCell_other z ⟨q.s, 0, none⟩ g _ hg
              have hu9 : ∀ {g : Nat} {cs : Array Value} {t : TypeId}, 135 ≠ t → 85 ≠ t → Bx wz g cs t → Bx (z.setCell ⟨q.s, 0, none⟩ (.int .i64 ((p : Int) + k))) g cs t := fun n1 n2 hb => bx_other zb n2 g1 (bx_other h1.out.u n1 Z.out.2.2.1 hb)
              have hb0 : Below B wz (z.setCell ⟨q.s, 0, none⟩ (.int .i64 ((p : Int) + k))) := (Z.out.2.2.2.mono h1.out.lo.2.1).setCell (p := ⟨q.s, 0, none⟩) h1.out.lo.1 _
              have hok : (clS s k u).Ok := h1.out.ok.cl u (by rw [hR'.out]; exact e0.out)
              refine ⟨⟨hb0, fun g cs hb => hu9 (by decide) (by decide) hb⟩, hok, ?_, ?_, hu9 (by decide) (by decide) h1.out.b, map_other zb g1 (map_other h1.out.u Z.out.2.2.1 h1.out.m), own_other zb (by decide) g1 (own_other h1.out.u (by decide) Z.out.2.2.1 h1.out.o), h1.out.lo⟩
              · have := heap_setCell_same z q.s 0 _ _ (.int .i64 ((p : Int) + k)) zb
                refine this.trans ?_
                simp [sC, clS, hp'.out]
              · refine (g1 _ (fun e => hqs.out e.symm)).trans ?_
                have := Z.out.2.1
                show _ = some (Obj.cells (rU (splice s.U s.p (List.replicate k u))) 135 (0, 0))
                rw [hp'.out]
                exact this
            clear hlt zb
            go_wp2
            go_ret
            exact ⟨by rw [e0.out]; rfl, hk1.out.trans K9.out.1, fun _ => K9.out.2⟩
end Go.Proofs.YtkpfhnogpcigaaaDoorR
