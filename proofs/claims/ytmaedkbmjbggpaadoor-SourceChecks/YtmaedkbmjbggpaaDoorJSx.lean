/- Items checked and printed, lent and written into: the statements' walks, over what is known of lending. -/
import Derived.Test.YtmaedkbmjbggpaaDoorJSv
namespace Go.Proofs.YtmaedkbmjbggpaaDoor
open Go Go.RowKit
set_option linter.unusedVariables false
set_option maxHeartbeats 3000000
set_option maxRecDepth 20000

theorem may_same {X L : List Itm} (hX : Lens X) (hL : Lens L) (e : X.map pu = L.map pu) : (X.map (·.1)).map mayI = (L.map (·.1)).map mayI := by
  have h : ∀ Z : List Itm, Lens Z → (Z.map (·.1)).map mayI = (Z.map pu).map mayP := fun Z hZ => by
    rw [List.map_map, List.map_map]
    exact List.map_congr_left fun x hx => mayI_pu x (hZ x hx)
  rw [h X hX, h L hL, e]
theorem bad_map (l : List Ri) : badI l = (l.map mayI).findIdx? (fun b => !b) := by
  unfold badI
  rw [List.findIdx?_map]
  rfl
theorem check_same {X L : List Itm} (hX : Lens X) (hL : Lens L) (e : X.map pu = L.map pu) : checkE (X.map (·.1)) = checkE (L.map (·.1)) ∧ checkN (X.map (·.1)) = checkN (L.map (·.1)) := by
  have hl : (X.map (·.1)).length = (L.map (·.1)).length := by have := congrArg List.length e; simpa using this
  have hb : badI (X.map (·.1)) = badI (L.map (·.1)) := by rw [bad_map, bad_map, may_same hX hL e]
  unfold checkE checkN
  rw [hl, hb]
  exact ⟨rfl, rfl⟩
theorem print_same {X L : List Itm} (hX : Lens X) (hL : Lens L) (e : X.map pu = L.map pu) : printIE X = printIE L ∧ printIB X = printIB L := by
  have h1 : printIE X = printIE L := by
    unfold printIE
    rw [(check_same hX hL e).1, printL_pu X hX, printL_pu L hL, e]
  refine ⟨h1, ?_⟩
  unfold printIB
  rw [h1, printL_pu X hX, printL_pu L hL, e]
theorem lv_check (y : World) (sp : Option Addr) (cap : Nat) (X : List Itm) (h : Hid (Lv y sp X)) (hn : X.length ≤ 9223372036854775807) (T : Hid (Tw y)) : Calls Tryd.prog 9 #[.slice sp X.length cap] y fun e w' => e = .returned (.tuple #[.int .i64 (checkE (X.map (·.1))), .int .i64 (checkN (X.map (·.1)))]) ∧ Hid (Below y.heap.size y w') := by
  have hP := pcheck_any y sp cap (X.map fun x : Itm => x.1) h.out.l (by rw [List.length_map]; exact hn) T.out.t
  rw [List.length_map] at hP
  exact hP
theorem lv_rcheck (y : World) (sp : Option Addr) (cap : Nat) (X : List Itm) (h : Hid (Lv y sp X)) (hn : X.length ≤ 9223372036854775807) : Calls Tryd.prog 10 #[.slice sp X.length cap] y fun e w' => e = .returned (.tuple #[.int .i64 (checkE (X.map (·.1))), .int .i64 (checkN (X.map (·.1)))]) ∧ Hid (Below y.heap.size y w') := by
  have hP := rcheckI_any y sp cap (X.map fun x : Itm => x.1) h.out.l (by rw [List.length_map]; exact hn)
  rw [List.length_map] at hP
  exact hP
theorem lv_rprint (y : World) (sp : Option Addr) (cap : Nat) (X : List Itm) (h : Hid (Lv y sp X)) (hn : X.length ≤ 9223372036854775807) : Calls Tryd.prog 14 #[.slice sp X.length cap] y fun e w' => e = .returned (.tuple #[.string (printIB X), .int .i64 (printIE X)]) ∧ Hid (Below y.heap.size y w') := by
  have hX : Hid (X.map (fun x : Itm => x.1) = X.map (·.1)) := rfl
  have hP := rprintI_any y sp cap (X.map fun x : Itm => x.1) X hX h.out.l (by rw [List.length_map]; exact hn) (fun x hx => ⟨(h.out.g x hx).1, (h.out.g x hx).2, h.out.a x hx⟩)
  rw [List.length_map] at hP
  exact hP
/-- What is asked of lending: LT g X y: in y the items X are lent, from block g on. -/
structure Lends (w : World) (sp : Option Addr) (cap : Nat) (L : List Itm) (LT : Nat → List Itm → World → Prop) : Prop where
  le : ∀ v, Below w.heap.size w v → Calls Tryd.prog 8 #[.slice sp L.length cap] v fun e w' => ∃ (X : List Itm) (g : Nat), e = .returned (.slice (some ⟨g, 0, none⟩) X.length (X.length + 2)) ∧ Hid (Below v.heap.size v w' ∧ Lv w' (some ⟨g, 0, none⟩) X ∧ X.map pu = L.map pu ∧ LT g X w')
  lt : ∀ g X y z, LT g X y → Below y.heap.size y z → LT g X z
  ke : ∀ v g X, Below w.heap.size w v → LT g X v → Calls Tryd.prog 11 #[.slice (some ⟨g, 0, none⟩) X.length (X.length + 2), .slice sp L.length cap] v fun e w' => e = .returned (.bool true) ∧ Hid (Below v.heap.size v w')
  tu : ∀ v g X, Below w.heap.size w v → LT g X v → Calls Tryd.prog 12 #[.slice (some ⟨g, 0, none⟩) X.length (X.length + 2)] v fun e w' => e = .returned (.tuple #[]) ∧ Hid (Below w.heap.size w w' ∧ ∃ Y : List Itm, Y.length = X.length ∧ Lv w' (some ⟨g, 0, none⟩) Y)
theorem checks_walk (w : World) (T : Hid (Tw w)) (sp : Option Addr) (cap : Nat) (L : List Itm) (hL : Hid (Lv w sp L)) (hN : Hid (Near (L.map (·.1)))) (hn : L.length ≤ 140737488351232) (LT : Nat → List Itm → World → Prop) (hT : Hid (sumV (L.map (·.1)) ≤ 134217728 → Lends w sp cap L LT)) :
    Calls Tryd.prog 3 #[.slice sp L.length cap] w fun e w' => e = .returned (.bool true) ∧ Below w.heap.size w w' := by
  have hA : Hid (∀ v, Below w.heap.size w v → Calls Tryd.prog 6 #[] v fun e w' => e = .returned (.bool true) ∧ Hid (Below v.heap.size v w')) := fun v hv => awake_any v (T.out.below hv)
  have hV : Hid (∀ v, Below w.heap.size w v → Calls Tryd.prog 7 #[.slice sp L.length cap] v fun e w' => ∃ b, e = .returned (.bool b) ∧ Hid (Below v.heap.size v w' ∧ (b = false → Lends w sp cap L LT))) := fun v hv => by
    have h := vast_any v sp cap (L.map fun x : Itm => x.1) (hL.out.below hv).l hN (by rw [List.length_map]; exact hn)
    rw [List.length_map] at h
    exact h.mono fun e w' ⟨b, h1, h2⟩ => ⟨b, h1, h2.out.1, fun hb => hT.out (h2.out.2 hb)⟩
  have hR : Hid (∀ v, Below w.heap.size w v → Calls Tryd.prog 10 #[.slice sp L.length cap] v fun e w' => e = .returned (.tuple #[.int .i64 (checkE (L.map (·.1))), .int .i64 (checkN (L.map (·.1)))]) ∧ Hid (Below v.heap.size v w')) := fun v hv => lv_rcheck v sp cap L (hL.out.below hv) (by omega)
  have hP : Hid (∀ v p c X, Below w.heap.size w v → Lv v p X → X.map pu = L.map pu → Calls Tryd.prog 9 #[.slice p (X : List Itm).length c] v fun e w' => e = .returned (.tuple #[.int .i64 (checkE (L.map (·.1))), .int .i64 (checkN (L.map (·.1)))]) ∧ Hid (Below v.heap.size v w')) := fun v p c X hv hX e => by
    have hl : X.length = L.length := by have := congrArg List.length e; simpa using this
    have h := lv_check v p c X hX (by omega) (T.out.below hv)
    obtain ⟨e1, e2⟩ := check_same hX.g.lens hL.out.g.lens e
    rw [e1, e2] at h
    exact h
  have hP2 : Hid (∀ v p c X, Below w.heap.size w v → Lv v p X → X.length ≤ 140737488351232 → Calls Tryd.prog 9 #[.slice p (X : List Itm).length c] v fun e w' => e = .returned (.tuple #[.int .i64 (checkE (X.map (·.1))), .int .i64 (checkN (X.map (·.1)))]) ∧ Hid (Below v.heap.size v w')) := fun v p c X hv hX e => lv_check v p c X hX (by omega) (T.out.below hv)
  have hR2 : Hid (∀ v p c X, Below w.heap.size w v → Lv v p X → X.length ≤ 140737488351232 → Calls Tryd.prog 10 #[.slice p (X : List Itm).length c] v fun e w' => e = .returned (.tuple #[.int .i64 (checkE (X.map (·.1))), .int .i64 (checkN (X.map (·.1)))]) ∧ Hid (Below v.heap.size v w')) := fun v p c X hv hX e => lv_rcheck v p c X hX (by omega)
  have hn' : Hid (L.length ≤ 140737488351232) := hn
  generalize checkE (L.map (·.1)) = E at hR hP
  generalize checkN (L.map (·.1)) = M at hR hP
  go_enter Tryd.func3, Tryd.ntmps3
  go_wp2_with (first
    | (go_at_call 6; refine (hA.out w (Below.refl _ _)).mono ?_; rintro e y1 ⟨rfl, h1⟩; have K1 : Hid (Below w.heap.size w y1) := h1; clear h1 hA)
    | (go_at_call 7; refine (hV.out y1 K1.out).mono ?_; rintro e y2 ⟨b, rfl, h2⟩; have K2 : Hid (Below w.heap.size w y2) := of_below K1.out h2.out.1; have Q2 : Hid (b = false → Lends w sp cap L LT) := h2.out.2; clear h2 hV))
  · go_ret
    exact ⟨rfl, K2.out⟩
  · have Le : Hid (Lends w sp cap L LT) := Q2.out (by first | assumption | (simp_all))
    clear Q2 hT
    go_wp2_with (first
      | (go_at_call 8; refine (Le.out.le y2 K2.out).mono ?_; rintro e y3 ⟨X, g, rfl, h3⟩; have K3 : Hid (Below w.heap.size w y3) := of_below K2.out h3.out.1; have V3 : Hid (Lv y3 (some ⟨g, 0, none⟩) X ∧ X.map pu = L.map pu ∧ LT g X y3) := h3.out.2; clear h3 K2)
      | (go_at_call 9; refine (hP.out y3 _ _ X K3.out V3.out.1 V3.out.2.1).mono ?_; rintro e y4 ⟨rfl, h4⟩; have K4 : Hid (Below w.heap.size w y4) := of_below K3.out h4.out; have V4 : Hid (Lv y4 (some ⟨g, 0, none⟩) X ∧ X.map pu = L.map pu ∧ LT g X y4) := ⟨V3.out.1.below h4.out, V3.out.2.1, Le.out.lt _ _ _ _ V3.out.2.2 h4.out⟩; clear h4 hP V3)
      | (go_at_call 10; refine (hR.out y4 K4.out).mono ?_; rintro e y5 ⟨rfl, h5⟩; have K5 : Hid (Below w.heap.size w y5) := of_below K4.out h5.out; have V5 : Hid (Lv y5 (some ⟨g, 0, none⟩) X ∧ X.map pu = L.map pu ∧ LT g X y5) := ⟨V4.out.1.below h5.out, V4.out.2.1, Le.out.lt _ _ _ _ V4.out.2.2 h5.out⟩; clear h5 hR V4)
      | (go_at_call 11; refine (Le.out.ke y5 g X K5.out V5.out.2.2).mono ?_; rintro e y6 ⟨rfl, h6⟩; have K6 : Hid (Below w.heap.size w y6) := of_below K5.out h6.out; have V6 : Hid (LT g X y6 ∧ X.length ≤ 140737488351232) := ⟨Le.out.lt _ _ _ _ V5.out.2.2 h6.out, (by have h7 := congrArg List.length V5.out.2.1; have h8 := hn'.out; simp at h7; omega)⟩; clear h6 V5)
      | (go_at_call 12; refine (Le.out.tu y6 g X K6.out V6.out.1).mono ?_; rintro e y7 ⟨rfl, h7⟩; obtain ⟨Y, hY, hYv⟩ := h7.out.2; have K7 : Hid (Below w.heap.size w y7) := h7.out.1; have V7 : Hid (Lv y7 (some ⟨g, 0, none⟩) Y ∧ Y.length ≤ 140737488351232) := ⟨hYv, (by have h8 := V6.out.2; omega)⟩; rw [← hY]; clear h7 hYv V6 hY)
      | (go_at_call 9; refine (hP2.out y7 _ _ Y K7.out V7.out.1 V7.out.2).mono ?_; rintro e y8 ⟨rfl, h8⟩; have K8 : Hid (Below w.heap.size w y8) := of_below K7.out h8.out; have V8 : Hid (Lv y8 (some ⟨g, 0, none⟩) Y ∧ Y.length ≤ 140737488351232) := ⟨V7.out.1.below h8.out, V7.out.2⟩; clear h8 hP2 V7)
      | (go_at_call 10; refine (hR2.out y8 _ _ Y K8.out V8.out.1 V8.out.2).mono ?_; rintro e y9 ⟨rfl, h9⟩; have K9 : Hid (Below w.heap.size w y9) := of_below K8.out h9.out; clear h9 hR2 V8))
    go_ret
    exact ⟨rfl, K9.out⟩
theorem prints_walk (w : World) (T : Hid (Tw w)) (sp : Option Addr) (cap : Nat) (L : List Itm) (hL : Hid (Lv w sp L)) (hN : Hid (Near (L.map (·.1)))) (hn : L.length ≤ 140737488351232) (LT : Nat → List Itm → World → Prop) (hT : Hid (sumV (L.map (·.1)) ≤ 134217728 → Lends w sp cap L LT)) :
    Calls Tryd.prog 4 #[.slice sp L.length cap] w fun e w' => e = .returned (.bool true) ∧ Below w.heap.size w w' := by
  have hA : Hid (∀ v, Below w.heap.size w v → Calls Tryd.prog 6 #[] v fun e w' => e = .returned (.bool true) ∧ Hid (Below v.heap.size v w')) := fun v hv => awake_any v (T.out.below hv)
  have hV : Hid (∀ v, Below w.heap.size w v → Calls Tryd.prog 7 #[.slice sp L.length cap] v fun e w' => ∃ b, e = .returned (.bool b) ∧ Hid (Below v.heap.size v w' ∧ (b = false → Lends w sp cap L LT))) := fun v hv => by
    have h := vast_any v sp cap (L.map fun x : Itm => x.1) (hL.out.below hv).l hN (by rw [List.length_map]; exact hn)
    rw [List.length_map] at h
    exact h.mono fun e w' ⟨b, h1, h2⟩ => ⟨b, h1, h2.out.1, fun hb => hT.out (h2.out.2 hb)⟩
  have hR : Hid (∀ v, Below w.heap.size w v → Calls Tryd.prog 14 #[.slice sp L.length cap] v fun e w' => e = .returned (.tuple #[.string (printIB L), .int .i64 (printIE L)]) ∧ Hid (Below v.heap.size v w')) := fun v hv => lv_rprint v sp cap L (hL.out.below hv) (by omega)
  have hP : Hid (∀ v p c X, Below w.heap.size w v → Lv v p X → X.map pu = L.map pu → Calls Tryd.prog 13 #[.slice p (X : List Itm).length c] v fun e w' => e = .returned (.tuple #[.string (printIB L), .int .i64 (printIE L)]) ∧ Hid (Below v.heap.size v w')) := fun v p c X hv hX e => by
    have hl : X.length = L.length := by have := congrArg List.length e; simpa using this
    have h := lv_print v p c X hX (by omega) (T.out.below hv)
    obtain ⟨e1, e2⟩ := print_same hX.g.lens hL.out.g.lens e
    rw [e1, e2] at h
    exact h
  have hP2 : Hid (∀ v p c X, Below w.heap.size w v → Lv v p X → X.length ≤ 140737488351232 → Calls Tryd.prog 13 #[.slice p (X : List Itm).length c] v fun e w' => e = .returned (.tuple #[.string (printIB X), .int .i64 (printIE X)]) ∧ Hid (Below v.heap.size v w')) := fun v p c X hv hX e => lv_print v p c X hX (by omega) (T.out.below hv)
  have hR2 : Hid (∀ v p c X, Below w.heap.size w v → Lv v p X → X.length ≤ 140737488351232 → Calls Tryd.prog 14 #[.slice p (X : List Itm).length c] v fun e w' => e = .returned (.tuple #[.string (printIB X), .int .i64 (printIE X)]) ∧ Hid (Below v.heap.size v w')) := fun v p c X hv hX e => lv_rprint v p c X hX (by omega)
  have hn' : Hid (L.length ≤ 140737488351232) := hn
  generalize printIE L = E at hR hP
  generalize printIB L = S at hR hP
  have qS := str_eq (rfl : S = S)
  go_enter Tryd.func4, Tryd.ntmps4
  go_wp2_with (first
    | (go_at_call 6; refine (hA.out w (Below.refl _ _)).mono ?_; rintro e y1 ⟨rfl, h1⟩; have K1 : Hid (Below w.heap.size w y1) := h1; clear h1 hA)
    | (go_at_call 7; refine (hV.out y1 K1.out).mono ?_; rintro e y2 ⟨b, rfl, h2⟩; have K2 : Hid (Below w.heap.size w y2) := of_below K1.out h2.out.1; have Q2 : Hid (b = false → Lends w sp cap L LT) := h2.out.2; clear h2 hV))
  · go_ret
    exact ⟨rfl, K2.out⟩
  · have Le : Hid (Lends w sp cap L LT) := Q2.out (by first | assumption | (simp_all))
    clear Q2 hT
    go_wp2_with (first
      | (go_at_call 8; refine (Le.out.le y2 K2.out).mono ?_; rintro e y3 ⟨X, g, rfl, h3⟩; have K3 : Hid (Below w.heap.size w y3) := of_below K2.out h3.out.1; have V3 : Hid (Lv y3 (some ⟨g, 0, none⟩) X ∧ X.map pu = L.map pu ∧ LT g X y3) := h3.out.2; clear h3 K2)
      | (go_at_call 13; refine (hP.out y3 _ _ X K3.out V3.out.1 V3.out.2.1).mono ?_; rintro e y4 ⟨rfl, h4⟩; have K4 : Hid (Below w.heap.size w y4) := of_below K3.out h4.out; have V4 : Hid (Lv y4 (some ⟨g, 0, none⟩) X ∧ X.map pu = L.map pu ∧ LT g X y4) := ⟨V3.out.1.below h4.out, V3.out.2.1, Le.out.lt _ _ _ _ V3.out.2.2 h4.out⟩; clear h4 hP V3)
      | (go_at_call 14; refine (hR.out y4 K4.out).mono ?_; rintro e y5 ⟨rfl, h5⟩; have K5 : Hid (Below w.heap.size w y5) := of_below K4.out h5.out; have V5 : Hid (Lv y5 (some ⟨g, 0, none⟩) X ∧ X.map pu = L.map pu ∧ LT g X y5) := ⟨V4.out.1.below h5.out, V4.out.2.1, Le.out.lt _ _ _ _ V4.out.2.2 h5.out⟩; clear h5 hR V4)
      | (go_at_call 11; refine (Le.out.ke y5 g X K5.out V5.out.2.2).mono ?_; rintro e y6 ⟨rfl, h6⟩; have K6 : Hid (Below w.heap.size w y6) := of_below K5.out h6.out; have V6 : Hid (LT g X y6 ∧ X.length ≤ 140737488351232) := ⟨Le.out.lt _ _ _ _ V5.out.2.2 h6.out, (by have h7 := congrArg List.length V5.out.2.1; have h8 := hn'.out; simp at h7; omega)⟩; clear h6 V5)
      | (go_at_call 12; refine (Le.out.tu y6 g X K6.out V6.out.1).mono ?_; rintro e y7 ⟨rfl, h7⟩; obtain ⟨Y, hY, hYv⟩ := h7.out.2; have K7 : Hid (Below w.heap.size w y7) := h7.out.1; have V7 : Hid (Lv y7 (some ⟨g, 0, none⟩) Y ∧ Y.length ≤ 140737488351232) := ⟨hYv, (by have h8 := V6.out.2; omega)⟩; rw [← hY]; clear h7 hYv V6 hY)
      | (go_at_call 13; refine (hP2.out y7 _ _ Y K7.out V7.out.1 V7.out.2).mono ?_; rintro e y8 ⟨rfl, h8⟩; have K8 : Hid (Below w.heap.size w y8) := of_below K7.out h8.out; have V8 : Hid (Lv y8 (some ⟨g, 0, none⟩) Y ∧ Y.length ≤ 140737488351232) := ⟨V7.out.1.below h8.out, V7.out.2⟩; clear h8 hP2 V7)
      | (go_at_call 14; refine (hR2.out y8 _ _ Y K8.out V8.out.1 V8.out.2).mono ?_; rintro e y9 ⟨rfl, h9⟩; have K9 : Hid (Below w.heap.size w y9) := of_below K8.out h9.out; clear h9 hR2 V8))
    go_ret
    exact ⟨rfl, K9.out⟩
end Go.Proofs.YtmaedkbmjbggpaaDoor
