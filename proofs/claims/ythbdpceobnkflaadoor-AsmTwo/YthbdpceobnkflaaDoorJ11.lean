/- Labels that may be: by plain mathematics, and the program's look. -/
import Derived.Test.YthbdpceobnkflaaDoorJ9
import Derived.Test.YthbdpceobnkflaaDoorJ10
namespace Go.Proofs.YthbdpceobnkflaaDoor
open Go Go.RowKit
set_option linter.unusedVariables false
set_option maxHeartbeats 3000000
set_option maxRecDepth 20000

theorem mapUL : Tryd.prog.underlying 68 = some (.map 9 3) := by kernel_rfl
theorem strUL : Tryd.prog.underlying 9 = some .string := by kernel_rfl
def labR (n : ByteArray) : Ri := ⟨1, n, 0, ⟨#[]⟩, 0, none, 0, 0⟩
theorem mayI_lab (n : ByteArray) : mayI (labR n) = isNm n := by
  unfold mayI labR
  simp
  intro _
  rfl
theorem built_lab (n : ByteArray) : Tryd.prog.built 40 [(0, .int .u8 1), (1, .string n)] = some (i6 (labR n)) := by kernel_rfl
theorem isName_any (w : World) (T : Hid (Tabs w)) (n : ByteArray) : Calls Tryd.prog 39 #[.string n] w fun e w' => e = .returned (.bool (isNm n)) ∧ Below w.heap.size w w' := by
  have hS := psize_any w (labR n) T
  have hE : sizeE (labR n) = if isNm n then 0 else 130 := by unfold sizeE; rw [mayI_lab]
  rw [hE] at hS
  have hb : Hid (Tryd.prog.built 40 [(0, .int .u8 1), (1, .string n)] = some (i6 (labR n))) := built_lab n
  obtain ⟨A, hA⟩ : ∃ A, sizeI (labR n) = A := ⟨_, rfl⟩
  rw [hA] at hS
  obtain ⟨b, hb'⟩ : ∃ b, isNm n = b := ⟨_, rfl⟩
  rw [hb'] at hS ⊢
  clear hE hA hb'
  cases b
  all_goals
    simp only [if_true, Bool.false_eq_true, if_false] at hS
    go_enter Tryd.func39, Tryd.ntmps39
    go_wp2_with (first
      | ((with_reducible refine at_bu #[(0, .const (.int .u8 1)), (1, .tmp 6)] [(0, .int .u8 1), (1, .string n)] (i6 (labR n)) ?_ ?_ ?_ hb.out ?_); kernel_rfl; rfl; rfl)
      | (go_at_call 54; refine hS.mono ?_; rintro e y1 ⟨rfl, H1⟩))
    go_ret
    exact ⟨rfl, H1⟩
/-- May a label stand behind others? -/
def lok (pre : List La) (l : La) : Bool := isNm l.n && (decide (0 ≤ l.a ∧ l.a ≤ 65535) && ((match pre.getLast? with | none => true | some p => befL p l) && !pre.any (fun p => decide (p.n = l.n))))
def labG : List La → List La → Bool
  | _, [] => true
  | pre, l :: r => lok pre l && labG (pre ++ [l]) r
theorem ord_neg (p l : La) : (0 < ordL p l) ↔ (befL p l = false ∧ ¬ (p.a = l.a ∧ p.n = l.n)) := by
  unfold ordL befL cmpI cmpS
  by_cases h1 : p.a < l.a
  · simp [h1]
  · by_cases h2 : l.a < p.a
    · have : ¬ p.a = l.a := by omega
      simp [h1, h2, this]
    · have h3 : p.a = l.a := by omega
      by_cases h4 : sLt p.n l.n = true
      · simp [h3, h4]
      · by_cases h5 : p.n = l.n
        · simp [h3, h5]
          rw [h5] at h4
          simp [h4]
        · simp [h3, h4, h5]
theorem lok_ord {pre : List La} {p l : La} (hp : pre.getLast? = some p) : lok pre l = (isNm l.n && (decide (0 ≤ l.a ∧ l.a ≤ 65535) && (decide (¬ 0 < ordL p l) && !pre.any (fun p => decide (p.n = l.n))))) := by
  unfold lok
  rw [hp]
  have hm : p ∈ pre := List.mem_of_getLast? hp
  by_cases hn : pre.any (fun p => decide (p.n = l.n)) = true
  · rw [hn]
    simp
  · have hne : ¬ p.n = l.n := fun e => hn (List.any_eq_true.2 ⟨p, hm, by simp [e]⟩)
    have : decide (¬ 0 < ordL p l) = befL p l := by
      rcases hb : befL p l with _ | _
      · rw [decide_eq_false]
        rw [Classical.not_not]
        exact (ord_neg p l).2 ⟨hb, fun e => hne e.2⟩
      · rw [decide_eq_true]
        intro h
        have := ((ord_neg p l).1 h).1
        rw [hb] at this
        cases this
    rw [this]
theorem labels_any (w : World) (T : Hid (Tabs w)) (sp : Option Addr) (cap : Nat) (l : List La) (hl : Hid (LiesL 2 cLa w sp l)) (hi : Hid (∀ x ∈ l, inI x.a)) (hn : l.length ≤ 2147483647) :
    Calls Tryd.prog 29 #[.slice sp l.length cap] w fun e w' => e = .returned (.bool (labG [] l)) ∧ Hid (Below w.heap.size w w') := by
  obtain ⟨R, hR⟩ : ∃ R, labG [] l = R := ⟨_, rfl⟩
  have hR' : Hid (labG [] l = R) := hR
  obtain ⟨n, hn'⟩ : ∃ n, l.length = n := ⟨_, rfl⟩
  have hnn : Hid (l.length = n) := hn'
  rw [hR]
  rw [hn'] at hn ⊢
  have ni : (n : Int) ≤ 2147483647 := by omega
  have n0 : (0 : Int) ≤ n := by omega
  have hmm : ∀ v : World, (Instr.makeMap 68 (some (.int .i64 (n : Int)))).run Tryd.prog v = .ok (.map (some v.heap.size)) (v.alloc (.map #[] 0)) := fun v => by
    have : ¬ (n : Int) < 0 := by omega
    first | rfl | (simp [Instr.makeMap, asInt, asIntOf, IntKind.wrap_i64]; try omega)
  have hM0 : Hid (MapF (w.alloc (.map #[] 0)) w.heap.size (fun _ => none) ∧ Below w.heap.size w (w.alloc (.map #[] 0))) := ⟨MapF.new w, below1 w _⟩
  have hNa : Hid (∀ v s, Below w.heap.size w v → Calls Tryd.prog 39 #[.string s] v fun e w' => e = .returned (.bool (isNm s)) ∧ Below v.heap.size v w') := fun v s hv => isName_any v (T.out.below hv) s
  obtain ⟨G, hG⟩ : ∃ G, w.heap.size = G := ⟨_, rfl⟩
  have hG' : Hid (w.heap.size = G) := hG
  have hmm' := hmm w
  rw [hG] at hM0 hmm'
  clear hn hn' hR hmm hG
  go_enter Tryd.func29, Tryd.ntmps29
  go_wp2
  go_loopw [13] (fun t wz => ∃ (i : Nat) (F : ByteArray → Option Value) (y : World), y = wz ∧ t = .int .i64 (i : Int) ∧ Hid (i ≤ n ∧ labG (l.take i) (l.drop i) = R ∧ ∀ s, (F s).isSome = (l.take i).any (fun p => decide (p.n = s))) ∧ Hid (Below w.heap.size w y ∧ MapF y G F)) (fun t _ => (n - intOf t).toNat)
  case atStart => exact ⟨0, fun _ => none, _, rfl, rfl, ⟨Nat.zero_le _, hR'.out, fun s => rfl⟩, by rw [hG'.out]; exact hM0.out.2, hM0.out.1⟩
  case round =>
    obtain ⟨i, F, y, rfl, rfl, J, K⟩ := hrel
    clear hmm' hM0
    by_cases hlt : i < n
    · obtain ⟨x, hx⟩ : ∃ x, l[i]? = some x := ⟨_, List.getElem?_eq_getElem (by rw [hnn.out]; exact hlt)⟩
      have hxi := hi.out x (List.mem_of_getElem? hx)
      obtain ⟨g, o, rfl, hc⟩ := hl.out i x hx
      have hc' : Hid (y.rangeAt g (o + i * 2) (kl x).toList) := range_keep hc K.out.1
      have hd : l.drop i = x :: l.drop (i + 1) := by
        obtain ⟨h1, e⟩ := List.getElem?_eq_some_iff.1 hx
        rw [List.drop_eq_getElem_cons h1, e]
      have ht : l.take (i + 1) = l.take i ++ [x] := by rw [List.take_add_one, hx]; rfl
      have hO : Hid (R = (lok (l.take i) x && labG (l.take (i + 1)) (l.drop (i + 1)))) := by
        have h1 := J.out.2.1
        rw [hd] at h1
        show _ = _
        rw [← h1, ht]
        rfl
      have ij := fun w => idxP (P := Tryd.prog) (g := g) (off := o) (len := n) (cap := cap) Tryd.underlying27 (s := 2) (by kernel_rfl) .i64 i w hlt
      have hii : (i : Int) < n := by omega
      have hlt' : Hid (i < n) := hlt
      have hNm : Hid (∀ v, Below w.heap.size w v → Calls Tryd.prog 39 #[.string x.n] v fun e w' => e = .returned (.bool (isNm x.n)) ∧ Below v.heap.size v w') := fun v hv => hNa.out v x.n hv
      obtain ⟨xa0, xa1⟩ := hxi
      obtain ⟨nb, hnb⟩ : ∃ b, isNm x.n = b := ⟨_, rfl⟩
      rw [hnb] at hNm
      have hlk : Hid (∀ u, MapF u G F → (Instr.lookup 68 (.map (some G)) (.string x.n) true).run Tryd.prog u = .ok (.tuple #[(F x.n).getD (.int .i64 0), .bool (F x.n).isSome]) u) := fun u hu => hu.look mapUL strUL x.n (.int .i64 0) (by kernel_rfl)
      have hFs : Hid ((F x.n).isSome = (l.take i).any (fun p => decide (p.n = x.n))) := J.out.2.2 x.n
      have hGl : Hid (G < y.heap.size) := K.out.2.lt
      by_cases hq : nb = false ∨ x.a < 0 ∨ 65535 < x.a
      · have fin : Hid (R = false) := by
          show _ = _
          rw [hO.out]
          have : lok (l.take i) x = false := by
            unfold lok
            rw [hnb]
            rcases hq with h | h | h
            · rw [h]; rfl
            · rw [decide_eq_false (fun e => by omega)]; simp
            · rw [decide_eq_false (fun e => by omega)]; simp
          rw [this]
          rfl
        have q : nb = false ∨ (nb = true ∧ x.a < 0) ∨ (nb = true ∧ ¬ x.a < 0 ∧ 65535 < x.a) := by
          cases nb
          · exact .inl rfl
          · rcases hq with h | h | h
            · cases h
            · exact .inr (.inl ⟨rfl, h⟩)
            · exact .inr (.inr ⟨rfl, by omega, h⟩)
        clear hq hlt hx hc hd ht hO hnb
        rcases q with rfl | ⟨rfl, q2⟩ | ⟨rfl, q2, q3⟩
        all_goals
          go_wp2_with (first
          | ((with_reducible refine at_loadm rtLa g (o + i * 2) (kl x) ?_ ?_ (.tmp 16) ?_ ?_ ?_ ?_); exact hc'.out; rfl; kernel_rfl; rfl; rfl)
          | ((with_reducible refine gen_world (y.alloc (.cells #[.string ⟨#[]⟩, .int .i64 0] 52)) (Fm y [(y.heap.size, kl zL, 52)]) ?_ ?_); exact Fm.one y _ _; intro y1 K1)
          | ((with_reducible refine at_st rtLa y.heap.size (kl zL) (kl x) ?_ ?_ ?_ ?_ (.tmp 5) (.tmp 17) ?_ ?_ ?_ ?_ ?_); exact K1.out.bx 0 _ _ _ rfl; rfl; rfl; exact oneLa _; rfl; rfl; rfl; rfl; intro y2 hw2; have K2 : Hid (Fm y [(y.heap.size, kl x, 52)] y2) := K1.out.put 0 _ _ _ _ rfl hw2.out; clear hw2; have d0 := (K2.out.bx 0 _ _ _ rfl).c 0 (.string x.n) rfl)
          | (go_at_call 39; refine (hNm.out y2 (of_below K.out.1 K2.out.low)).mono ?_; rintro e y3 ⟨rfl, H3⟩; have K3 : Hid (Fm y [(y.heap.size, kl x, 52)] y3) := K2.out.below H3; clear H3 d0; have d0 := (K3.out.bx 0 _ _ _ rfl).c 0 (.string x.n) rfl; have d1 := (K3.out.bx 0 _ _ _ rfl).c 1 (.int .i64 x.a) rfl))
          go_ret
          rw [fin.out]
          exact ⟨rfl, of_below K.out.1 K3.out.low⟩
      · have hnt : nb = true := by cases nb <;> simp_all
        subst hnt
        have q2 : ¬ x.a < 0 := by omega
        have q3 : ¬ 65535 < x.a := by omega
        have hlo : lok (l.take i) x = ((match (l.take i).getLast? with | none => true | some p => befL p x) && !(l.take i).any (fun p => decide (p.n = x.n))) := by
          unfold lok
          rw [hnb, decide_eq_true ⟨by omega, by omega⟩]
          simp
        have hts : Hid (l.take (i + 1) = l.take i ++ [x]) := ht
        by_cases hi0 : i = 0
        · have hi0i : ¬ (0 : Int) < (i : Int) := by omega
          have hO2 : Hid (R = (!(l.take i).any (fun p => decide (p.n = x.n)) && labG (l.take (i + 1)) (l.drop (i + 1)))) := by
            show _ = _
            rw [hO.out, hlo, hi0]
            rfl
          clear hlt hx hc hd ht hO hlo hi0 hq
          go_wp2_with (first
          | ((with_reducible refine at_loadm rtLa g (o + i * 2) (kl x) ?_ ?_ (.tmp 16) ?_ ?_ ?_ ?_); exact hc'.out; rfl; kernel_rfl; rfl; rfl)
          | ((with_reducible refine gen_world (y.alloc (.cells #[.string ⟨#[]⟩, .int .i64 0] 52)) (Fm y [(y.heap.size, kl zL, 52)]) ?_ ?_); exact Fm.one y _ _; intro y1 K1)
          | ((with_reducible refine at_st rtLa y.heap.size (kl zL) (kl x) ?_ ?_ ?_ ?_ (.tmp 5) (.tmp 17) ?_ ?_ ?_ ?_ ?_); exact K1.out.bx 0 _ _ _ rfl; rfl; rfl; exact oneLa _; rfl; rfl; rfl; rfl; intro y2 hw2; have K2 : Hid (Fm y [(y.heap.size, kl x, 52)] y2) := K1.out.put 0 _ _ _ _ rfl hw2.out; clear hw2; have d0 := (K2.out.bx 0 _ _ _ rfl).c 0 (.string x.n) rfl)
          | (go_at_call 39; refine (hNm.out y2 (of_below K.out.1 K2.out.low)).mono ?_; rintro e y3 ⟨rfl, H3⟩; have K3 : Hid (Fm y [(y.heap.size, kl x, 52)] y3) := K2.out.below H3; clear H3 d0; have d0 := (K3.out.bx 0 _ _ _ rfl).c 0 (.string x.n) rfl; have d1 := (K3.out.bx 0 _ _ _ rfl).c 1 (.int .i64 x.a) rfl))
          refine region_class_tail 11 (Fm y [(y.heap.size, kl x, 52)]) (by kernel_rfl) (by kernel_rfl) (K3.out.below (below_drew (Below.refl _ _))) ?_
          simp only [List.take_succ_cons, List.take_zero, List.drop_succ_cons, List.drop_zero]
          with_reducible refine quiet_one (.int .i64 (i : Int)) ?_ ?_ ?_
          · kernel_rfl
          · intro u hy
            go_simp
            all_goals (first | omega | (rw [IntKind.wrap_i64]; omega))
          with_reducible refine quiet_one (.bool false) ?_ ?_ ?_
          · kernel_rfl
          · intro u hy
            go_simp
            all_goals (first | omega | (rw [IntKind.wrap_i64]; omega))
          with_reducible refine quiet_one (.bool false) ?_ ?_ ?_
          · kernel_rfl
          · intro u hy
            go_simp
            all_goals (first | omega | (rw [IntKind.wrap_i64]; omega))
          with_reducible refine quiet_skip ?_ ?_
          · kernel_rfl
          with_reducible refine quiet_skip ?_ ?_
          · kernel_rfl
          with_reducible refine quiet_skip ?_ ?_
          · kernel_rfl
          with_reducible refine quiet_skip ?_ ?_
          · kernel_rfl
          with_reducible refine quiet_skip ?_ ?_
          · kernel_rfl
          with_reducible refine quiet_skip ?_ ?_
          · kernel_rfl
          with_reducible refine quiet_skip ?_ ?_
          · kernel_rfl
          with_reducible refine quiet_skip ?_ ?_
          · kernel_rfl
          refine wpQuiet_nil ?_
          intro z0 Z0
          replace Z0 : Hid _ := Z0
          go_simp
          have M0 : Hid (MapF z0 G F) := K.out.2.keep (Z0.out.low.block G hGl.out)
          have t0 := (Z0.out.bx 0 _ _ _ rfl).c 0 (.string x.n) rfl
          have t1 := (Z0.out.bx 0 _ _ _ rfl).c 1 (.int .i64 x.a) rfl
          have lk := hlk.out z0 M0.out
          by_cases htw : (F x.n).isSome = true
          · have fin : Hid (R = false) := by
              have h1 := hFs.out
              rw [htw] at h1
              show _ = _
              rw [hO2.out, ← h1]
              simp
            obtain ⟨fv, hfv⟩ : ∃ v, (F x.n).getD (.int .i64 0) = v := ⟨_, rfl⟩
            rw [htw, hfv] at lk
            clear htw hfv
            go_wp2
            go_ret
            rw [fin.out]
            exact ⟨rfl, of_below K.out.1 Z0.out.low⟩
          · have htf : (F x.n).isSome = false := by simpa using htw
            have hFn : F x.n = none := by
              rcases e : F x.n with _ | v
              · rfl
              · rw [e] at htf; cases htf
            have J2 : Hid (i + 1 ≤ n ∧ labG (l.take (i + 1)) (l.drop (i + 1)) = R ∧ ∀ s, ((putF F x.n (.int .i64 x.a)) s).isSome = (l.take (i + 1)).any (fun p => decide (p.n = s))) := by
              refine ⟨hlt'.out, ?_, fun s => ?_⟩
              · have h1 := hFs.out
                rw [htf] at h1
                rw [hO2.out, ← h1]
                simp
              · rw [hts.out, List.any_append]
                unfold putF
                by_cases e : s = x.n
                · rw [if_pos e]
                  simp [e]
                · rw [if_neg e, J.out.2.2 s]
                  have : ¬ x.n = s := fun h => e h.symm
                  simp [this]
            rw [htf, hFn] at lk
            clear htw htf
            go_wp2_with (refine at_put ?_ (.tmp 52) (.tmp 54) (.tmp 56) (.inl rfl) mapUL strUL G F x.n (.int .i64 x.a) M0.out rfl rfl rfl ?_; rfl; intro z1 H1; have Z1 : Hid (Below w.heap.size w z1 ∧ MapF z1 G (putF F x.n (.int .i64 x.a))) := ⟨(of_below K.out.1 Z0.out.low).trans (H1.out.2.2 _ (by rw [hG'.out]; exact Nat.le_refl _)), H1.out.1⟩; clear H1)
            go_roundw
            case rel => exact ⟨i + 1, _, z1, rfl, by simp, J2, Z1⟩
            case measure => have := hlt'.out; simp [intOf]; omega
        · obtain ⟨j, hij⟩ : ∃ j, i = j + 1 := ⟨i - 1, by omega⟩
          obtain ⟨p, hp⟩ : ∃ p, l[j]? = some p := ⟨_, List.getElem?_eq_getElem (by rw [hnn.out]; omega)⟩
          have hlast : (l.take i).getLast? = some p := by rw [hij, List.take_add_one, hp]; simp
          have hpi := hi.out p (List.mem_of_getElem? hp)
          have hrp : Hid (∀ u, Below w.heap.size w u → u.rangeAt g (o + j * 2) (kl p).toList) := fun u hu => by
            obtain ⟨g3, o3, e3, hc3⟩ := hl.out j p hp
            cases e3
            exact range_keep hc3 hu
          have ip : ∀ w, (Instr.indexAt 27 (.slice (some ⟨g, o, none⟩) n cap) (.int .i64 ((i : Int) - 1))).run Tryd.prog w = .ok (.pointer (some ⟨g, o + j * 2, none⟩)) w := fun w => by
            have := idxP (P := Tryd.prog) (g := g) (off := o) (len := n) (cap := cap) Tryd.underlying27 (s := 2) (by kernel_rfl) .i64 j w (by omega)
            rw [show (j : Int) = (i : Int) - 1 by omega] at this
            exact this
          have hi1 : (0 : Int) < (i : Int) := by omega
          have hOr : Hid (∀ v, Calls Tryd.prog 40 #[.agg (kl p), .agg (kl x)] v fun e w' => e = .returned (.int .i64 (ordL p x)) ∧ Below v.heap.size v w') := fun v => order_any v p x hpi ⟨xa0, xa1⟩
          have hlo2 := lok_ord (l := x) hlast
          rw [hnb, decide_eq_true (show 0 ≤ x.a ∧ x.a ≤ 65535 by omega), Bool.true_and, Bool.true_and] at hlo2
          obtain ⟨q, hq9⟩ : ∃ q, ordL p x = q := ⟨_, rfl⟩
          rw [hq9] at hOr hlo2
          by_cases hpos : 0 < q
          · have fin : Hid (R = false) := by
              show _ = _
              rw [hO.out, hlo2, decide_eq_false (fun h => h hpos)]
              simp
            clear hlt hx hc hd ht hO hlo hlo2 hlast hij hp hpi hi0 hq hq9
            go_wp2_with (first
            | ((with_reducible refine at_loadm rtLa g (o + i * 2) (kl x) ?_ ?_ (.tmp 16) ?_ ?_ ?_ ?_); exact hc'.out; rfl; kernel_rfl; rfl; rfl)
            | ((with_reducible refine gen_world (y.alloc (.cells #[.string ⟨#[]⟩, .int .i64 0] 52)) (Fm y [(y.heap.size, kl zL, 52)]) ?_ ?_); exact Fm.one y _ _; intro y1 K1)
            | ((with_reducible refine at_st rtLa y.heap.size (kl zL) (kl x) ?_ ?_ ?_ ?_ (.tmp 5) (.tmp 17) ?_ ?_ ?_ ?_ ?_); exact K1.out.bx 0 _ _ _ rfl; rfl; rfl; exact oneLa _; rfl; rfl; rfl; rfl; intro y2 hw2; have K2 : Hid (Fm y [(y.heap.size, kl x, 52)] y2) := K1.out.put 0 _ _ _ _ rfl hw2.out; clear hw2; have d0 := (K2.out.bx 0 _ _ _ rfl).c 0 (.string x.n) rfl)
            | (go_at_call 39; refine (hNm.out y2 (of_below K.out.1 K2.out.low)).mono ?_; rintro e y3 ⟨rfl, H3⟩; have K3 : Hid (Fm y [(y.heap.size, kl x, 52)] y3) := K2.out.below H3; clear H3 d0; have d0 := (K3.out.bx 0 _ _ _ rfl).c 0 (.string x.n) rfl; have d1 := (K3.out.bx 0 _ _ _ rfl).c 1 (.int .i64 x.a) rfl))
            refine region_class_tail 11 (Fm y [(y.heap.size, kl x, 52)]) (by kernel_rfl) (by kernel_rfl) (K3.out.below (below_drew (Below.refl _ _))) ?_
            simp only [List.take_succ_cons, List.take_zero, List.drop_succ_cons, List.drop_zero]
            with_reducible refine quiet_one (.int .i64 (i : Int)) ?_ ?_ ?_
            · kernel_rfl
            · intro u hy
              go_simp
              all_goals (first | omega | (rw [IntKind.wrap_i64]; omega))
            with_reducible refine quiet_one (.bool true) ?_ ?_ ?_
            · kernel_rfl
            · intro u hy
              go_simp
              all_goals (first | omega | (rw [IntKind.wrap_i64]; omega))
            with_reducible refine quiet_one (.bool true) ?_ ?_ ?_
            · kernel_rfl
            · intro u hy
              go_simp
              all_goals (first | omega | (rw [IntKind.wrap_i64]; omega))
            with_reducible refine quiet_one (.slice (some ⟨g, o, none⟩) n cap) ?_ ?_ ?_
            · kernel_rfl
            · intro u hy
              go_simp
              all_goals (first | omega | (rw [IntKind.wrap_i64]; omega))
            with_reducible refine quiet_one (.int .i64 (i : Int)) ?_ ?_ ?_
            · kernel_rfl
            · intro u hy
              go_simp
              all_goals (first | omega | (rw [IntKind.wrap_i64]; omega))
            with_reducible refine quiet_one (.int .i64 ((i : Int) - 1)) ?_ ?_ ?_
            · kernel_rfl
            · intro u hy
              go_simp
              all_goals (first | omega | (rw [IntKind.wrap_i64]; omega))
            with_reducible refine quiet_one (.pointer (some ⟨g, o + j * 2, none⟩)) ?_ ?_ ?_
            · kernel_rfl
            · intro u hy
              go_simp
              all_goals (first | omega | (rw [IntKind.wrap_i64]; omega))
            with_reducible refine quiet_one (.agg (kl p)) ?_ ?_ ?_
            · kernel_rfl
            · intro u hy
              generalize hA : Act.put _ _ _ = A
              have e1 : A.eval (.tmp 38) = .pointer (some ⟨g, o + j * 2, none⟩) := by rw [← hA]; go_simp
              clear hA
              exact q_loadm (C := Fm y [(y.heap.size, kl x, 52)]) rtLa g (o + j * 2) (kl p) (fun _ h => hrp.out _ (of_below K.out.1 h.low)) rfl (.tmp 38) rfl e1 u hy
            with_reducible refine quiet_one (.agg (kl x)) ?_ ?_ ?_
            · kernel_rfl
            · intro u hy
              generalize hA : Act.put _ _ _ = A
              have e1 : A.eval (.tmp 5) = .pointer (some ⟨y.heap.size, 0, none⟩) := by rw [← hA]; go_simp
              clear hA
              exact q_load (C := Fm y [(y.heap.size, kl x, 52)]) rtLa y.heap.size (kl x) (fun _ h => h.bx 0 _ _ _ rfl) rfl (.tmp 5) rfl e1 u hy
            with_reducible refine quiet_one (.int .i64 q) ?_ ?_ ?_
            · kernel_rfl
            · intro u hy
              have d := (hOr.out u).mono fun e w' (h : _ ∧ _) => And.intro h.1 (hy.below h.2)
              go_simp
              all_goals exact d
            with_reducible refine quiet_one (.bool true) ?_ ?_ ?_
            · kernel_rfl
            · intro u hy
              go_simp
              all_goals (first | omega | (rw [IntKind.wrap_i64]; omega))
            refine wpQuiet_nil ?_
            intro z0 Z0
            replace Z0 : Hid _ := Z0
            go_simp
            go_wp2
            go_ret
            rw [fin.out]
            exact ⟨rfl, of_below K.out.1 Z0.out.low⟩
          · have hO2 : Hid (R = (!(l.take i).any (fun p => decide (p.n = x.n)) && labG (l.take (i + 1)) (l.drop (i + 1)))) := by
              show _ = _
              rw [hO.out, hlo2, decide_eq_true hpos]
              simp
            have hposI : Hid (q ≤ 0) := by show q ≤ 0; omega
            have q2b : 0 ≤ x.a := by omega
            have q3b : x.a ≤ 65535 := by omega
            clear hpos xa0 xa1 hnb
            clear hlt hx hc hd ht hO hlo hlo2 hlast hij hp hpi hi0 hq hq9
            go_wp2_with (first
            | ((with_reducible refine at_loadm rtLa g (o + i * 2) (kl x) ?_ ?_ (.tmp 16) ?_ ?_ ?_ ?_); exact hc'.out; rfl; kernel_rfl; rfl; rfl)
            | ((with_reducible refine gen_world (y.alloc (.cells #[.string ⟨#[]⟩, .int .i64 0] 52)) (Fm y [(y.heap.size, kl zL, 52)]) ?_ ?_); exact Fm.one y _ _; intro y1 K1)
            | ((with_reducible refine at_st rtLa y.heap.size (kl zL) (kl x) ?_ ?_ ?_ ?_ (.tmp 5) (.tmp 17) ?_ ?_ ?_ ?_ ?_); exact K1.out.bx 0 _ _ _ rfl; rfl; rfl; exact oneLa _; rfl; rfl; rfl; rfl; intro y2 hw2; have K2 : Hid (Fm y [(y.heap.size, kl x, 52)] y2) := K1.out.put 0 _ _ _ _ rfl hw2.out; clear hw2; have d0 := (K2.out.bx 0 _ _ _ rfl).c 0 (.string x.n) rfl)
            | (go_at_call 39; refine (hNm.out y2 (of_below K.out.1 K2.out.low)).mono ?_; rintro e y3 ⟨rfl, H3⟩; have K3 : Hid (Fm y [(y.heap.size, kl x, 52)] y3) := K2.out.below H3; clear H3 d0; have d0 := (K3.out.bx 0 _ _ _ rfl).c 0 (.string x.n) rfl; have d1 := (K3.out.bx 0 _ _ _ rfl).c 1 (.int .i64 x.a) rfl))
            refine region_class_tail 11 (Fm y [(y.heap.size, kl x, 52)]) (by kernel_rfl) (by kernel_rfl) (K3.out.below (below_drew (Below.refl _ _))) ?_
            simp only [List.take_succ_cons, List.take_zero, List.drop_succ_cons, List.drop_zero]
            with_reducible refine quiet_one (.int .i64 (i : Int)) ?_ ?_ ?_
            · kernel_rfl
            · intro u hy
              go_simp
              all_goals (first | omega | (rw [IntKind.wrap_i64]; omega))
            with_reducible refine quiet_one (.bool true) ?_ ?_ ?_
            · kernel_rfl
            · intro u hy
              go_simp
              all_goals (first | omega | (rw [IntKind.wrap_i64]; omega))
            with_reducible refine quiet_one (.bool true) ?_ ?_ ?_
            · kernel_rfl
            · intro u hy
              go_simp
              all_goals (first | omega | (rw [IntKind.wrap_i64]; omega))
            with_reducible refine quiet_one (.slice (some ⟨g, o, none⟩) n cap) ?_ ?_ ?_
            · kernel_rfl
            · intro u hy
              go_simp
              all_goals (first | omega | (rw [IntKind.wrap_i64]; omega))
            with_reducible refine quiet_one (.int .i64 (i : Int)) ?_ ?_ ?_
            · kernel_rfl
            · intro u hy
              go_simp
              all_goals (first | omega | (rw [IntKind.wrap_i64]; omega))
            with_reducible refine quiet_one (.int .i64 ((i : Int) - 1)) ?_ ?_ ?_
            · kernel_rfl
            · intro u hy
              go_simp
              all_goals (first | omega | (rw [IntKind.wrap_i64]; omega))
            with_reducible refine quiet_one (.pointer (some ⟨g, o + j * 2, none⟩)) ?_ ?_ ?_
            · kernel_rfl
            · intro u hy
              go_simp
              all_goals (first | omega | (rw [IntKind.wrap_i64]; omega))
            with_reducible refine quiet_one (.agg (kl p)) ?_ ?_ ?_
            · kernel_rfl
            · intro u hy
              generalize hA : Act.put _ _ _ = A
              have e1 : A.eval (.tmp 38) = .pointer (some ⟨g, o + j * 2, none⟩) := by rw [← hA]; go_simp
              clear hA
              exact q_loadm (C := Fm y [(y.heap.size, kl x, 52)]) rtLa g (o + j * 2) (kl p) (fun _ h => hrp.out _ (of_below K.out.1 h.low)) rfl (.tmp 38) rfl e1 u hy
            with_reducible refine quiet_one (.agg (kl x)) ?_ ?_ ?_
            · kernel_rfl
            · intro u hy
              generalize hA : Act.put _ _ _ = A
              have e1 : A.eval (.tmp 5) = .pointer (some ⟨y.heap.size, 0, none⟩) := by rw [← hA]; go_simp
              clear hA
              exact q_load (C := Fm y [(y.heap.size, kl x, 52)]) rtLa y.heap.size (kl x) (fun _ h => h.bx 0 _ _ _ rfl) rfl (.tmp 5) rfl e1 u hy
            with_reducible refine quiet_one (.int .i64 q) ?_ ?_ ?_
            · kernel_rfl
            · intro u hy
              have d := (hOr.out u).mono fun e w' (h : _ ∧ _) => And.intro h.1 (hy.below h.2)
              go_simp
              all_goals exact d
            with_reducible refine quiet_one (.bool false) ?_ ?_ ?_
            · kernel_rfl
            · intro u hy
              have hp9 := hposI.out
              go_simp
              all_goals (first | omega | (rw [IntKind.wrap_i64]; omega))
            refine wpQuiet_nil ?_
            intro z0 Z0
            replace Z0 : Hid _ := Z0
            go_simp
            have M0 : Hid (MapF z0 G F) := K.out.2.keep (Z0.out.low.block G hGl.out)
            have t0 := (Z0.out.bx 0 _ _ _ rfl).c 0 (.string x.n) rfl
            have t1 := (Z0.out.bx 0 _ _ _ rfl).c 1 (.int .i64 x.a) rfl
            have lk := hlk.out z0 M0.out
            by_cases htw : (F x.n).isSome = true
            · have fin : Hid (R = false) := by
                have h1 := hFs.out
                rw [htw] at h1
                show _ = _
                rw [hO2.out, ← h1]
                simp
              obtain ⟨fv, hfv⟩ : ∃ v, (F x.n).getD (.int .i64 0) = v := ⟨_, rfl⟩
              rw [htw, hfv] at lk
              clear htw hfv
              go_wp2
              go_ret
              rw [fin.out]
              exact ⟨rfl, of_below K.out.1 Z0.out.low⟩
            · have htf : (F x.n).isSome = false := by simpa using htw
              have hFn : F x.n = none := by
                rcases e : F x.n with _ | v
                · rfl
                · rw [e] at htf; cases htf
              have J2 : Hid (i + 1 ≤ n ∧ labG (l.take (i + 1)) (l.drop (i + 1)) = R ∧ ∀ s, ((putF F x.n (.int .i64 x.a)) s).isSome = (l.take (i + 1)).any (fun p => decide (p.n = s))) := by
                refine ⟨hlt'.out, ?_, fun s => ?_⟩
                · have h1 := hFs.out
                  rw [htf] at h1
                  rw [hO2.out, ← h1]
                  simp
                · rw [hts.out, List.any_append]
                  unfold putF
                  by_cases e : s = x.n
                  · rw [if_pos e]
                    simp [e]
                  · rw [if_neg e, J.out.2.2 s]
                    have : ¬ x.n = s := fun h => e h.symm
                    simp [this]
              rw [htf, hFn] at lk
              clear htw htf
              go_wp2_with (refine at_put ?_ (.tmp 52) (.tmp 54) (.tmp 56) (.inl rfl) mapUL strUL G F x.n (.int .i64 x.a) M0.out rfl rfl rfl ?_; rfl; intro z1 H1; have Z1 : Hid (Below w.heap.size w z1 ∧ MapF z1 G (putF F x.n (.int .i64 x.a))) := ⟨(of_below K.out.1 Z0.out.low).trans (H1.out.2.2 _ (by rw [hG'.out]; exact Nat.le_refl _)), H1.out.1⟩; clear H1)
              go_roundw
              case rel => exact ⟨i + 1, _, z1, rfl, by simp, J2, Z1⟩
              case measure => have := hlt'.out; simp [intOf]; omega

    · have hie : i = n := by have := J.out.1; omega
      subst hie
      have fin : Hid (R = true) := by
        have h1 := J.out.2.1
        rw [List.drop_eq_nil_of_le (by rw [hnn.out]; exact Nat.le_refl _)] at h1
        exact h1.symm
      clear hlt
      go_wp2
      go_ret
      rw [fin.out]
      exact ⟨rfl, K.out.1⟩
end Go.Proofs.YthbdpceobnkflaaDoor
