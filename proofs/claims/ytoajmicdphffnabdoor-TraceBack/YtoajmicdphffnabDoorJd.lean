/- There and back: the walk. -/
import Derived.Test.YtoajmicdphffnabDoorJa
import Derived.Test.YtoajmicdphffnabDoorKv
import Derived.Test.YtoajmicdphffnabDoorHf
import Derived.Test.YtoajmicdphffnabDoorKe
import Derived.Deep.DeepCutAuto
namespace Go.Proofs.YtoajmicdphffnabDoor
open Go Go.RowKit
set_option linter.unusedVariables false
set_option maxHeartbeats 4000000
set_option maxRecDepth 20000

theorem KB.lies {y v z} {l : List UInt8} (h : KB y v l z) : ∃ sp cap, v = .slice sp l.length cap ∧ LiesB z sp l ∧ l.length ≤ cap := by
  rcases h.1.2 with ⟨h0, hn⟩ | ⟨g, cap, cur, hv, _, hg, hle, _⟩
  · refine ⟨none, 0, by rw [h0, hn], fun j b hj => ?_, by omega⟩
    have := (List.getElem?_eq_some_iff.1 hj).1
    omega
  · refine ⟨_, cap, hv, fun j b hj => ⟨g, 0, rfl, ?_⟩, hle⟩
    have := World.ownsRow.cells (g := g) h.1 (by rw [hv]; rfl) j (byV b) (by simp [hj])
    rwa [Addr.add_lit] at this
theorem strL_of (l : List UInt8) : strL ⟨l.toArray⟩ = l := by simp [strL]
theorem fact_print (l : List Rc) (hk : AllG l) (h : printE l = 0) : (printB l).size ≤ 65536 ∧ parseR (strL (printB l)) = (l, 0, 0) ∧ checkR l = 0 := by
  have e : printB l = ⟨(printR l).toArray⟩ := by unfold printB; rw [if_pos h]
  have hc : checkR l = 0 := by
    by_cases hc : checkR l = 0
    · exact hc
    · unfold printE at h; rw [if_pos hc] at h; exact absurd h hc
  have hs : (printR l).length ≤ 65536 := by
    unfold printE at h
    rw [if_neg (by simpa using hc)] at h
    split at h
    · cases h
    · omega
  rw [e, strL_of]
  exact ⟨by show (printR l).toArray.size ≤ 65536; simpa using hs, parse_print l hk hc hs, hc⟩
theorem fact_text (text : ByteArray) (x : List Rc) (a : Int) (h : parseR (strL text) = (x, 0, a)) : a = 0 ∧ AllG x ∧ printB x = text ∧ printE x = 0 ∧ x.length ≤ 65536 := by
  obtain ⟨h0, hg, hc, hp, hz, hl⟩ := print_parse _ _ _ h
  have e0 : printE x = 0 := by unfold printE; rw [if_neg (by simpa using hc), if_neg (by rw [hp]; omega)]
  refine ⟨h0, hg, ?_, e0, hl⟩
  unfold printB
  rw [if_pos e0, hp, strL_mk]
theorem back_walk (w : World) (tb : Hid (Tp w)) (tq : Hid (Tq w)) (sp : Option Addr) (cap : Nat) (l : List Rc) (hl : Hid (LiesR w sp l)) (hn : l.length ≤ maxLen) (hk : Hid (AllG l)) (text : ByteArray) (hs : text.size ≤ maxLen) (sb : Option Addr) (capb : Nat) (b : List UInt8) (hb : Hid (LiesB w sb b)) (hnb : b.length ≤ maxLen) (hcb : b.length ≤ capb) :
    Calls Tryd.prog 3 #[.slice sp l.length cap, .string text, .slice sb b.length capb] w fun e w' => e = .returned (.bool true) ∧ Below w.heap.size w w' := by
  have hn : l.length ≤ 9223372036854775807 := by unfold maxLen at hn; omega
  have hs : text.size ≤ 9223372036854775807 := by unfold maxLen at hs; omega
  have hnb : b.length ≤ 9223372036854775807 := by unfold maxLen at hnb; omega
  obtain ⟨n, hn'⟩ : ∃ n, l.length = n := ⟨_, rfl⟩
  obtain ⟨m, hm'⟩ : ∃ n, b.length = n := ⟨_, rfl⟩
  have ni : (n : Int) ≤ 9223372036854775807 := by omega
  have mi : (m : Int) ≤ 9223372036854775807 := by omega
  by_cases hbig : 2147483647 < n
  · have q : decide ((2147483647 : Int) < n) = true := by simp; omega
    rw [hn', hm']
    clear hbig hn hn' hm'
    go_enter Tryd.func3, Tryd.ntmps3
    go_wp2
    go_ret
    exact ⟨rfl, Below.refl _ _⟩
  have q : decide ((2147483647 : Int) < n) = false := by simp; omega
  by_cases hbig2 : 2147483647 < m
  · have q2 : decide ((2147483647 : Int) < m) = true := by simp; omega
    rw [hn', hm']
    clear hbig hbig2 hn hn' hm'
    go_enter Tryd.func3, Tryd.ntmps3
    go_wp2
    go_ret
    exact ⟨rfl, Below.refl _ _⟩
  have q2 : decide ((2147483647 : Int) < m) = false := by simp; omega
  have m2 : (m : Int) ≤ 2147483647 := by omega
  have hP := pprint_any w tb sp cap l hl hn hk
  have hK : Hid (∀ y, Below w.heap.size w y → Calls Tryd.prog 5 #[.slice sp n cap] y fun e w' => ∃ v, e = .returned (.tuple #[v, .int .i64 (checkR l)]) ∧ Hid (KB y v (packB l) w')) := fun y h => by
    have := ppack_any y sp cap l (hl.out.below h) hn hk
    rw [hn'] at this
    exact this
  have hQ : Hid (printE l = 0 → ∀ v, Tp v → Tq v → Calls Tryd.prog 6 #[.string (printB l)] v fun e w' => ∃ u, e = .returned (.tuple #[u, .int .i64 0, .int .i64 0]) ∧ Hid (Ct v u (.slice none 0 0) l [] [] w')) := fun h v h1 h2 => by
    obtain ⟨f1, f2, _⟩ := fact_print l hk.out h
    have := pparse_any v h1 h2 (printB l) (by omega)
    rw [f2] at this
    exact this
  have hEF : Hid (printE l = 0 → checkR l = 0) := fun h => (fact_print l hk.out h).2.2
  have hU : Hid (checkR l = 0 → ∀ v p c, LiesB v p (packB l) → (packB l).length ≤ c → Calls Tryd.prog 8 #[.slice p (packB l).length c] v fun e w' => ∃ u, e = .returned (.tuple #[u, .int .i64 0, .int .i64 0]) ∧ Hid (Ct v u (.slice none 0 0) l [] [] w')) := fun h v p c hp hpc => by
    have e : unpackR (packB l) = (l, 0, 0) := by unfold packB; rw [if_pos h]; exact unpack_pack l hk.out h
    have hlen : (packB l).length ≤ 4611686018427387904 := by
      have key : ∀ (l : List Rc) (n : Int), (packGo l n).length ≤ 5 * l.length := by
        intro l
        induction l with
        | nil => intro n; simp [packGo]
        | cons r l ih =>
          intro n
          have := ih ((r.ad + 1) % 65536)
          have h5 : (bytesR r n).length ≤ 5 := by unfold bytesR; split <;> simp
          simp only [packGo, List.length_append, List.length_cons]
          omega
      have h1 := (check_ok h).1
      have h2 := key l 0
      unfold packB packR
      rw [if_pos h]
      simp only [List.length_append, begP, List.length_cons, List.length_nil]
      omega
    have := punpack_any v p c (packB l) hp hlen hpc
    rw [e] at this
    exact this
  have hSame : Hid (∀ v p c, LiesR v p l → Below w.heap.size w v → Calls Tryd.prog 7 #[.slice p n c, .slice sp n cap] v fun e w' => e = .returned (.bool true) ∧ Below v.heap.size v w') := fun v p c h1 h2 => by
    have := same_eq v p sp c cap l h1 (hl.out.below h2) hn
    rw [hn'] at this
    exact this
  have hT := fun v (h1 : Tp v) (h2 : Tq v) => pparse_any v h1 h2 text hs
  have hB := fun v (h : Below w.heap.size w v) => punpack_any v sb capb b (hb.out.below h) (by omega) hcb
  have factT := fun x a => fact_text text x a
  have factU := pack_unpack b
  have factV := unpack_bad b
  have hsame2 : Hid (∀ v p c, LiesB v p b → Below w.heap.size w v → Calls Tryd.prog 9 #[.slice p m c, .slice sb m capb] v fun e w' => e = .returned (.bool true) ∧ w' = v) := fun v p c h1 h2 => by
    have := sameB_any v p sb c capb b b h1 (hb.out.below h2)
    rw [hm', beq_self_eq_true] at this
    exact this
  rw [hn'] at hP ⊢
  simp only [hm'] at hB ⊢
  generalize printB l = PB at hP hQ
  generalize printE l = PE at hP hQ hEF
  generalize checkR l = PF at hK hU hEF
  obtain ⟨PL, hPL⟩ : ∃ x, packB l = x := ⟨_, rfl⟩
  rw [hPL] at hK hU
  generalize hX : parseR (strL text) = X at hT factT
  obtain ⟨x, te, ta⟩ := X
  generalize hY : unpackR b = Y at hB factU factV
  obtain ⟨z, ue, ua⟩ := Y
  dsimp only at hT hB
  have hnn : Hid (l.length = n ∧ b.length = m) := ⟨hn', hm'⟩
  replace hT : Hid _ := hT
  replace hB : Hid _ := hB
  replace factT : Hid (te = 0 → ta = 0 ∧ AllG x ∧ printB x = text ∧ printE x = 0 ∧ x.length ≤ 65536) := fun h => factT x ta (by rw [h])
  replace factU : Hid (ue = 0 → ua = 0 ∧ AllG z ∧ checkR z = 0 ∧ packR z = b ∧ z.length ≤ 4194304) := fun h => factU z ua (by rw [h])
  replace factV : Hid (ue ≠ 0 → z = [] ∧ 0 ≤ ua ∧ ua ≤ b.length) := fun h => factV z ue ua rfl h
  clear hbig hbig2 hn hn' hm' hX hY hPL hs hnb hcb
  go_enter Tryd.func3, Tryd.ntmps3
  go_upto_if 46 with (first
    | (go_at_call 4; refine hP.mono ?_; rintro e y1 ⟨rfl, H1⟩)
    | (go_at_call 5; refine (hK.out y1 H1.out).mono ?_; rintro e y2 ⟨v2, rfl, H2⟩; have K2 : Hid (Below w.heap.size w y2) := H1.out.trans (H2.out.2.mono H1.out.size); obtain ⟨p2, c2, rfl, l2, hc2⟩ := H2.out.lies; replace l2 : Hid (LiesB y2 p2 PL) := l2; replace hc2 : Hid (PL.length ≤ c2) := hc2))
  go_cut [6] (fun t wz => ∃ y, y = wz ∧ t = .bool false ∧ Hid (Below y2.heap.size y2 y))
  case first =>
    by_cases hE : PE = 0
    · subst hE
      have hF := hEF.out rfl
      subst hF
      have hq := hQ.out rfl y2 (tb.out.below K2.out) (tq.out.below K2.out)
      go_wp2_with (first
        | (go_at_call 6; refine hq.mono ?_; rintro e y3 ⟨v3, rfl, H3⟩; obtain ⟨p3, c3, rfl, l3, _⟩ := H3.out.oa.open; rw [hnn.out.1]; replace l3 : Hid _ := l3)
        | (go_at_call 7; refine (hSame.out y3 p3 c3 l3.out (K2.out.trans (H3.out.fm.low.mono K2.out.size))).mono ?_; rintro e y4 ⟨rfl, h4⟩; have K4 : Hid (Below y2.heap.size y2 y4) := H3.out.fm.low.trans (h4.mono H3.out.fm.low.size); clear h4))
      go_meet
      exact ⟨_, rfl, rfl, K4⟩
    · have qE : (PE == 0) = false := by simpa using hE
      clear hE
      go_wp2
      go_meet
      exact ⟨_, rfl, rfl, Below.refl _ _⟩
  case rest =>
    obtain ⟨y5, rfl, rfl, K5⟩ := hcut
    have K5w : Hid (Below w.heap.size w y5) := K2.out.trans (K5.out.mono K2.out.size)
    go_upto_if 66 with (fail)
    go_cut [6] (fun t wz => ∃ y, y = wz ∧ t = .bool false ∧ Hid (Below y5.heap.size y5 y))
    case first =>
      by_cases hF : PF = 0
      · subst hF
        have hu := hU.out rfl y5 p2 c2 (l2.out.below K5.out) hc2.out
        go_wp2_with (first
          | (go_at_call 8; refine hu.mono ?_; rintro e y3 ⟨v3, rfl, H3⟩; obtain ⟨p3, c3, rfl, l3, _⟩ := H3.out.oa.open; rw [hnn.out.1]; replace l3 : Hid _ := l3)
          | (go_at_call 7; refine (hSame.out y3 p3 c3 l3.out (K5w.out.trans (H3.out.fm.low.mono K5w.out.size))).mono ?_; rintro e y4 ⟨rfl, h4⟩; have K4 : Hid (Below y5.heap.size y5 y4) := H3.out.fm.low.trans (h4.mono H3.out.fm.low.size); clear h4))
        go_meet
        exact ⟨_, rfl, rfl, K4⟩
      · have qF : (PF == 0) = false := by simpa using hF
        clear hF
        go_wp2
        go_meet
        exact ⟨_, rfl, rfl, Below.refl _ _⟩
    case rest =>
      obtain ⟨y6, rfl, rfl, K6⟩ := hcut
      have K6w : Hid (Below w.heap.size w y6) := K5w.out.trans (K6.out.mono K5w.out.size)
      go_upto_if 88 with (go_at_call 6; refine (hT.out y6 (tb.out.below K6w.out) (tq.out.below K6w.out)).mono ?_; rintro e y8 ⟨v8, rfl, H8⟩; have K8w : Hid (Below w.heap.size w y8) := K6w.out.trans (H8.out.fm.low.mono K6w.out.size); obtain ⟨p8, c8, rfl, l8, _⟩ := H8.out.oa.open; replace l8 : Hid _ := l8)
      go_cut [6] (fun t wz => ∃ y, y = wz ∧ t = .bool false ∧ Hid (Below y8.heap.size y8 y))
      case first =>
        by_cases hT0 : te = 0
        · subst hT0
          obtain ⟨rfl, hg, e1, e2, hx⟩ := factT.out rfl
          have hp := pprint_any y8 (tb.out.below K8w.out) p8 c8 x l8.out (by omega) hg
          rw [e1, e2] at hp
          have qt : (text.toList != text.toList) = false := by simp
          clear hg e1 e2 hx
          go_wp2_with (go_at_call 4; refine hp.mono ?_; rintro e y9 ⟨rfl, H9⟩)
          go_meet
          exact ⟨_, rfl, rfl, H9⟩
        · have qT : (te == 0) = false := by simpa using hT0
          clear hT0
          go_wp2
          go_meet
          exact ⟨_, rfl, rfl, Below.refl _ _⟩
      case rest =>
        obtain ⟨yA, rfl, rfl, KA⟩ := hcut
        have KAw : Hid (Below w.heap.size w yA) := K8w.out.trans (KA.out.mono K8w.out.size)
        go_upto_if 112 with (go_at_call 8; refine (hB.out yA KAw.out).mono ?_; rintro e yB ⟨vB, rfl, HB⟩; have KBw : Hid (Below w.heap.size w yB) := KAw.out.trans (HB.out.fm.low.mono KAw.out.size); obtain ⟨pB, cB, rfl, lB, _⟩ := HB.out.oa.open; replace lB : Hid _ := lB)
        by_cases hU0 : ue = 0
        · subst hU0
          obtain ⟨rfl, hg, e1, e2, hx⟩ := factU.out rfl
          have hp := ppack_any yB pB cB z lB.out (by omega) hg
          have e3 : packB z = b := by unfold packB; rw [if_pos e1, e2]
          rw [e1, e3] at hp
          generalize z.length = zl at hp ⊢
          clear hg e1 e2 hx e3
          go_wp2_with (first
            | (go_at_call 5; refine hp.mono ?_; rintro e yC ⟨vC, rfl, HC⟩; have KCw : Hid (Below w.heap.size w yC) := KBw.out.trans (HC.out.2.mono KBw.out.size); obtain ⟨pC, cC, rfl, lC, _⟩ := HC.out.lies; rw [hnn.out.2]; replace lC : Hid _ := lC)
            | (go_at_call 9; refine (hsame2.out yC pC cC lC.out KCw.out).mono ?_; rintro e yD ⟨rfl, hD⟩; replace hD := hD.symm; subst hD)
            | (go_at_call 10; refine (awake_any yC (tb.out.below KCw.out)).mono ?_; rintro e z7 ⟨rfl, h7⟩; replace h7 : Hid _ := h7))
          go_ret
          exact ⟨by first | rfl | simp, KCw.out.trans (h7.out.mono KCw.out.size)⟩
        · have qU : (ue == 0) = false := by simpa using hU0
          obtain ⟨rfl, ua0, ua1⟩ := factV.out hU0
          rw [hnn.out.2] at ua1
          simp only [List.length_nil]
          clear hU0
          go_wp2_with (go_at_call 10; refine (awake_any yB (tb.out.below KBw.out)).mono ?_; rintro e z7 ⟨rfl, h7⟩; replace h7 : Hid _ := h7)
          go_ret
          exact ⟨by first | rfl | simp, KBw.out.trans (h7.out.mono KBw.out.size)⟩
end Go.Proofs.YtoajmicdphffnabDoor
