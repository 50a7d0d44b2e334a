/- Any text read twice, another one between: the statement's walk. -/
import Derived.Test.YtmaedkbmjbggpaaDoorJSj3
namespace Go.Proofs.YtmaedkbmjbggpaaDoor
open Go Go.RowKit
set_option linter.unusedVariables false
set_option maxHeartbeats 3000000
set_option maxRecDepth 20000

theorem own_empty (B : Nat) (w : World) (h : B ≤ w.heap.size) : OwnL 39 6 c6 B (w.alloc (.cells #[] 39)) (.slice (some ⟨w.heap.size, 0, none⟩) 0 0) [] := World.ownsRow_lit w #[] 0 h (by unfold maxLen; omega) rfl
theorem parses_walk (w : World) (T : Hid (Tw w)) (text other : ByteArray) (ht : text.size ≤ 9223372036854775807) (ho : other.size ≤ 9223372036854775807) :
    Calls Tryd.prog 5 #[.string text, .string other] w fun e w' => e = .returned (.bool true) ∧ Below w.heap.size w w' := by
  have hA : Hid (Calls Tryd.prog 6 #[] w fun e w' => e = .returned (.bool true) ∧ Hid (Below w.heap.size w w')) := awake_any w T
  have hP : ∀ t, t.size ≤ 9223372036854775807 → Hid (∀ v, Below w.heap.size w v → Calls Tryd.prog 15 #[.string t] v fun e w' => ∃ sp cap X, e = .returned (.tuple #[.slice sp (X : List Itm).length cap, .int .i64 (srcE t), .int .i64 (srcN t)]) ∧ Hid (Pq v (.slice sp X.length cap) X [] w' ∧ X.map pu = srcL t)) := fun t ht v hv => by
    refine (pparse_any v (T.out.below hv) t ht).mono ?_
    rintro e w' ⟨va, X, rfl, H⟩
    obtain ⟨sp, cap, rfl, hl⟩ := H.out.1.lies
    exact ⟨sp, cap, X, rfl, H⟩
  have hP1 := hP text ht
  have hP2 := hP other ho
  have hP3 := hP text ht
  have hD1 : Hid (∀ v, Calls Tryd.prog 16 #[.string text] v fun e w' => ∃ sp cap X, e = .returned (.tuple #[.slice sp (X : List Itm).length cap, .int .i64 (srcE text), .int .i64 (srcN text)]) ∧ Hid (Below v.heap.size v w' ∧ Lv w' sp X ∧ X.map pu = srcL text ∧ X.length ≤ 4096)) := fun v => dparse_any v text ht
  have hD2 : Hid (∀ v, Calls Tryd.prog 16 #[.string other] v fun e w' => ∃ sp cap X, e = .returned (.tuple #[.slice sp (X : List Itm).length cap, .int .i64 (srcE other), .int .i64 (srcN other)]) ∧ Hid (Below v.heap.size v w' ∧ Lv w' sp X ∧ X.map pu = srcL other ∧ X.length ≤ 4096)) := fun v => dparse_any v other ho
  have hM1 : Hid ((∀ q ∈ srcL text, mayP q = true) ∧ (srcL text).length ≤ 4096) := srcL_may text
  have hM2 : Hid ((∀ q ∈ srcL other, mayP q = true) ∧ (srcL other).length ≤ 4096) := srcL_may other
  obtain ⟨E, hE⟩ : ∃ x, srcE text = x := ⟨_, rfl⟩
  obtain ⟨N, hN⟩ : ∃ x, srcN text = x := ⟨_, rfl⟩
  obtain ⟨F, hF⟩ : ∃ x, srcE other = x := ⟨_, rfl⟩
  obtain ⟨M, hM⟩ : ∃ x, srcN other = x := ⟨_, rfl⟩
  obtain ⟨S, hS⟩ : ∃ x, srcL text = x := ⟨_, rfl⟩
  obtain ⟨R, hR⟩ : ∃ x, srcL other = x := ⟨_, rfl⟩
  rw [hE, hN, hS] at hP1 hP3 hD1
  rw [hF, hM, hR] at hP2 hD2
  rw [hS] at hM1
  rw [hR] at hM2
  have qE : (E != E) = false := by simp
  have qN : (N != N) = false := by simp
  have qF : (F != F) = false := by simp
  have qM : (M != M) = false := by simp
  clear hE hN hF hM hS hR hP ht ho
  go_enter Tryd.func5, Tryd.ntmps5
  go_wp2_with (first
    | (go_at_call 6; refine hA.out.mono ?_; rintro e y1 ⟨rfl, L1⟩; clear hA)
    | (go_at_call 15; refine (hP1.out y1 L1.out).mono ?_; rintro e y2 ⟨pa, ca, XA, rfl, A⟩; clear hP1)
    | (go_at_call 15; refine (hP2.out y2 (of_below L1.out A.out.1.fm.low)).mono ?_; rintro e y3 ⟨pb, cb, XB, rfl, Bq⟩; clear hP2)
    | (go_at_call 15; refine (hP3.out y3 (of_below (of_below L1.out A.out.1.fm.low) Bq.out.1.fm.low)).mono ?_; rintro e y4 ⟨pc, cc, XC, rfl, C⟩; clear hP3)
    | (go_at_call 16; refine (hD1.out y4).mono ?_; rintro e y5 ⟨px, cx, XX, rfl, X5⟩; clear hD1)
    | (go_at_call 16; refine (hD2.out y5).mono ?_; rintro e y6 ⟨py, cy, XY, rfl, Y6⟩; clear hD2; refine stopAt ?_))
  refine Stop.go ?_
  have lA : Hid (XA.length = XX.length ∧ XA.length ≤ 4096) := by
    have h1 := congrArg List.length A.out.2
    have h2 := congrArg List.length X5.out.2.2.1
    rw [List.length_map] at h1 h2
    have := X5.out.2.2.2
    exact ⟨by omega, by omega⟩
  have lB : Hid (XB.length ≤ 4096) := by
    have h1 := congrArg List.length Bq.out.2
    rw [List.length_map] at h1
    have := hM2.out.2
    show _ ≤ _
    omega
  have lC : Hid (XC.length ≤ 4096) := by
    have h1 := congrArg List.length C.out.2
    rw [List.length_map] at h1
    have := hM1.out.2
    show _ ≤ _
    omega
  have lvp : ∀ {x y z : World} {v : Value} {Z : List Itm} {sp : Option Addr} {cap : Nat} {W : List Pu}, Pq x (.slice sp Z.length cap) Z [] y → Z.map pu = W → (∀ q ∈ W, mayP q = true) → Below y.heap.size y z → Lv z sp Z := fun {x y z v Z sp cap W} P e hm hb => by
    obtain ⟨sp', cap', e1, hl⟩ := P.lies
    injection e1 with e1 _ _
    subst e1
    exact Lv.below ⟨hl, P.good, fun q hq => may_small (q := pu q) (hm _ (by rw [← e]; exact List.mem_map_of_mem hq))⟩ hb
  have b26 : Hid (Below y2.heap.size y2 y6 ∧ Below y3.heap.size y3 y6 ∧ Below y4.heap.size y4 y6 ∧ Below y5.heap.size y5 y6) := by
    have k5 := Y6.out.1
    have k4 := of_below X5.out.1 k5
    have k3 := of_below C.out.1.fm.low k4
    exact ⟨of_below Bq.out.1.fm.low k3, k3, k4, k5⟩
  have V6 : Hid (Lv y6 pa XA ∧ Lv y6 pb XB ∧ Lv y6 pc XC ∧ Lv y6 px XX ∧ Lv y6 py XY) := ⟨lvp (v := .slice pa XA.length ca) A.out.1 A.out.2 hM1.out.1 b26.out.1, lvp (v := .slice pb XB.length cb) Bq.out.1 Bq.out.2 hM2.out.1 b26.out.2.1, lvp (v := .slice pc XC.length cc) C.out.1 C.out.2 hM1.out.1 b26.out.2.2.1, X5.out.2.1.below b26.out.2.2.2, Y6.out.2.1⟩
  have hS1 : Hid (∀ v, Below y6.heap.size y6 v → Calls Tryd.prog 17 #[.slice pa XA.length ca, .slice px XX.length cx] v fun e w' => e = .returned (.bool true) ∧ Hid (Below v.heap.size v w')) := fun v hv => lv_same v pa px ca cx XA XX (V6.out.1.below hv) (V6.out.2.2.2.1.below hv) (by show _ = _; rw [A.out.2, X5.out.2.2.1]) lA.out.2
  have hS2 : Hid (∀ v, Below y6.heap.size y6 v → Calls Tryd.prog 17 #[.slice pb XB.length cb, .slice py XY.length cy] v fun e w' => e = .returned (.bool true) ∧ Hid (Below v.heap.size v w')) := fun v hv => lv_same v pb py cb cy XB XY (V6.out.2.1.below hv) (V6.out.2.2.2.2.below hv) (by show _ = _; rw [Bq.out.2, Y6.out.2.2.1]) lB.out
  have hS3 : Hid (∀ v, Below y6.heap.size y6 v → Calls Tryd.prog 17 #[.slice pc XC.length cc, .slice px XX.length cx] v fun e w' => e = .returned (.bool true) ∧ Hid (Below v.heap.size v w')) := fun v hv => lv_same v pc px cc cx XC XX (V6.out.2.2.1.below hv) (V6.out.2.2.2.1.below hv) (by show _ = _; rw [C.out.2, X5.out.2.2.1]) lC.out
  go_wp2_with (first
    | (go_at_call 17; refine (hS1.out y6 (Below.refl _ _)).mono ?_; rintro e y7 ⟨rfl, L7⟩; clear hS1)
    | (go_at_call 17; refine (hS2.out y7 L7.out).mono ?_; rintro e y8 ⟨rfl, L8⟩; clear hS2)
    | (go_at_call 17; refine (hS3.out y8 (of_below L7.out L8.out)).mono ?_; rintro e y9 ⟨rfl, L9⟩; clear hS3; refine stopAt ?_))
  refine Stop.go ?_
  have b9 : Hid (Below y6.heap.size y6 y9) := of_below (of_below L7.out L8.out) L9.out
  have V9 : Hid (Lv y9 pa XA ∧ Lv y9 pb XB ∧ Lv y9 pc XC) := ⟨V6.out.1.below b9.out, V6.out.2.1.below b9.out, V6.out.2.2.1.below b9.out⟩
  have b29 : Hid (Below y2.heap.size y2 y9 ∧ Below y3.heap.size y3 y9 ∧ Below y4.heap.size y4 y9) := ⟨of_below b26.out.1 b9.out, of_below b26.out.2.1 b9.out, of_below b26.out.2.2.1 b9.out⟩
  have O0 : Hid (OwnL 39 6 c6 y9.heap.size (y9.alloc (.cells #[] 39)) (.slice (some ⟨y9.heap.size, 0, none⟩) 0 0) [] ∧ Below y9.heap.size y9 (y9.alloc (.cells #[] 39))) := ⟨own_empty _ _ (Nat.le_refl _), below1 _ _⟩
  obtain ⟨nA, hnA⟩ : ∃ n, XA.length = n := ⟨_, rfl⟩
  obtain ⟨nB, hnB⟩ : ∃ n, XB.length = n := ⟨_, rfl⟩
  obtain ⟨nC, hnC⟩ : ∃ n, XC.length = n := ⟨_, rfl⟩
  have hnX : XX.length = nA := by have := lA.out.1; omega
  have hns : Hid (XA.length = nA ∧ XB.length = nB ∧ XC.length = nC ∧ nA ≤ 4096 ∧ nB ≤ 4096 ∧ nC ≤ 4096) := ⟨hnA, hnB, hnC, by have := lA.out.2; omega, by have := lB.out; omega, by have := lC.out; omega⟩
  have ai : (nA : Int) ≤ 4096 := by have := hns.out; omega
  have ci : (nC : Int) ≤ 4096 := by have := hns.out; omega
  rw [hnA, hnB, hnC, hnX]
  clear hnA hnB hnC hnX
  go_wp2_with (first
    | (at_builtin; refine at_appA kItem rfl (.tmp 112) (.tmp 113) rfl y9.heap.size (.slice (some ⟨y9.heap.size, 0, none⟩) 0 0) [] rfl O0.out.1 pa nA ca (XA.map (·.1)) ?_ rfl (V9.out.1.below O0.out.2).l ?_ ?_ ?_; (rw [List.length_map]; exact hns.out.1); (have := hns.out; simp; omega); (simp); intro v1 u1 H1; have P1 : Hid (OwnL 39 6 c6 y9.heap.size u1 v1 ([] ++ XA.map (·.1)) ∧ Below y9.heap.size y9 u1) := ⟨H1.out.own, O0.out.2.trans H1.out.cu.low⟩; clear H1 O0)
    | (at_builtin; refine at_appA kItem rfl (.tmp 114) (.tmp 115) rfl y9.heap.size v1 ([] ++ XA.map (·.1)) rfl P1.out.1 pb nB cb (XB.map (·.1)) ?_ rfl (V9.out.2.1.below P1.out.2).l ?_ ?_ ?_; (rw [List.length_map]; exact hns.out.2.1); (have := hns.out; simp; omega); (exact P1.out.2.size); intro v2 u2 H2; have P2 : Hid (OwnL 39 6 c6 y9.heap.size u2 v2 ([] ++ XA.map (·.1) ++ XB.map (·.1)) ∧ Below y9.heap.size y9 u2) := ⟨H2.out.own, P1.out.2.trans H2.out.cu.low⟩; clear H2)
    | (at_builtin; refine at_appA kItem rfl (.tmp 116) (.tmp 117) rfl y9.heap.size v2 ([] ++ XA.map (·.1) ++ XB.map (·.1)) rfl P2.out.1 pc nC cc (XC.map (·.1)) ?_ rfl (V9.out.2.2.below P2.out.2).l ?_ ?_ ?_; (rw [List.length_map]; exact hns.out.2.2.1); (have := hns.out; simp; omega); (exact P2.out.2.size); intro v3 u3 H3; have P3 : Hid (OwnL 39 6 c6 y9.heap.size u3 v3 ([] ++ XA.map (·.1) ++ XB.map (·.1) ++ XC.map (·.1)) ∧ Below y9.heap.size y9 u3) := ⟨H3.out.own, P2.out.2.trans H3.out.cu.low⟩; clear H3; refine stopAt ?_))
  refine Stop.go ?_
  have sW : Hid (w.heap.size ≤ y9.heap.size) := by
    have h1 := L1.out.size
    have h2 := A.out.1.fm.low.size
    have h3 := b29.out.1.size
    show _ ≤ _
    omega
  have P4 : Hid (OwnL 39 6 c6 w.heap.size u3 v3 ((XA ++ XB ++ XC).map (·.1))) := by
    have h := P3.out.1.weak sW.out
    show OwnL _ _ _ _ _ _ _
    simpa using h
  obtain ⟨sp3, cap3, e3, _⟩ := P4.out.open kItem.len
  subst e3
  have hbnd : Hid (∀ r ∈ (XA ++ XB ++ XC).map (·.1), r.m ≤ 256) := fun r hr => by
    obtain ⟨x, hx, rfl⟩ := List.mem_map.1 hr
    have key : ∀ (Z : List Itm) (W : List Pu), Lens Z → Z.map pu = W → (∀ q ∈ W, mayP q = true) → x ∈ Z → x.1.m ≤ 256 := fun Z W hl e hm hx => by
      have h1 := hm (pu x) (by rw [← e]; exact List.mem_map_of_mem hx)
      have h2 := hl x hx
      rcases may_cases h1 with c | c | c | c | c
      · have : x.2 = [] := c.2.2.2.2.2
        rw [this] at h2; simp at h2; omega
      · have : x.2 = [] := c.2.1
        rw [this] at h2; simp at h2; omega
      · have : x.2.length ≤ 256 := c.2.2.2.2.2.2
        omega
      · have : x.2 = [] := by first | exact c.2.2.2.2.2 | exact c.2.2.2.2.1 | (obtain ⟨_, _, _, _, _, h⟩ := c; first | exact h | exact h.2)
        rw [this] at h2; simp at h2; omega
      · have : x.2 = [] := by first | exact c.2.2.2.2.2 | exact c.2.2.2.2.1 | (obtain ⟨_, _, _, _, _, h⟩ := c; first | exact h | exact h.2)
        rw [this] at h2; simp at h2; omega
    rcases List.mem_append.1 hx with h | h
    · rcases List.mem_append.1 h with h | h
      · exact key XA S V9.out.1.g.lens A.out.2 hM1.out.1 h
      · exact key XB R V9.out.2.1.g.lens Bq.out.2 hM2.out.1 h
    · exact key XC S V9.out.2.2.g.lens C.out.2 hM1.out.1 h
  have hOw : Hid (Ow w.heap.size (.slice sp3 ((XA ++ XB ++ XC).map (·.1)).length cap3) ((XA ++ XB ++ XC).map (·.1)) ((XA ++ XB ++ XC).map (·.2)) u3) := ow_three (y9 := y9) A.out.1 Bq.out.1 C.out.1 L1.out (of_below b29.out.2.1 P3.out.2) (of_below b29.out.1 P3.out.2) (of_below b29.out.2.2 P3.out.2) V9.out.1.g.lens V9.out.2.1.g.lens V9.out.2.2.g.lens P4.out
  have hOn : Hid (Calls Tryd.prog 18 #[.slice sp3 ((XA ++ XB ++ XC).map (·.1)).length cap3] u3 fun e z => e = .returned (.bool true) ∧ Hid (KeepT w.heap.size u3 z)) := owned_any u3 w.heap.size (Nat.le_trans sW.out P3.out.2.size) sp3 cap3 _ _ hOw (by have := hns.out; simp; omega) hbnd
  obtain ⟨n3, hn3⟩ : ∃ n, ((XA ++ XB ++ XC).map (fun x : Itm => x.1)).length = n := ⟨_, rfl⟩
  rw [hn3] at hOn ⊢
  have n3i : (n3 : Int) ≤ 12288 := by
    have h9 := hns.out
    rw [List.length_map, List.length_append, List.length_append] at hn3
    omega
  clear hn3
  have rA3 : Hid (OwnL 39 6 c6 y1.heap.size u3 (.slice pa XA.length ca) (XA.map (·.1))) := A.out.1.own.below (of_below b29.out.1 P3.out.2)
  have rC3 : Hid (OwnL 39 6 c6 y3.heap.size u3 (.slice pc XC.length cc) (XC.map (·.1))) := C.out.1.own.below (of_below b29.out.2.2 P3.out.2)
  have aLt : Hid (∀ g, pa = some ⟨g, 0, none⟩ → y1.heap.size ≤ g ∧ g < y2.heap.size) := fun g hg => by
    have := A.out.1.own.lt g (by rw [hg]; rfl)
    exact this
  have s23 : Hid (y1.heap.size ≤ y2.heap.size ∧ y2.heap.size ≤ y3.heap.size ∧ w.heap.size ≤ y1.heap.size ∧ Below w.heap.size w u3 ∧ y3.heap.size ≤ u3.heap.size) := by
    have k1 := A.out.1.fm.low
    have k2 := Bq.out.1.fm.low
    refine ⟨k1.size, k2.size, L1.out.size, of_below (of_below (of_below L1.out k1) b29.out.1) P3.out.2, ?_⟩
    have h1 := b29.out.2.1.size
    have h2 := P3.out.2.size
    omega
  have kC : Hid (∀ (j : Nat) (r : Ri), (XC.map (·.1))[j]? = some r → (r.k == 55) = false) := fun j r hj => by
    rw [List.getElem?_map] at hj
    rcases hq : XC[j]? with _ | q
    · rw [hq] at hj; cases hj
    · rw [hq] at hj
      cases hj
      have h1 := hM1.out.1 (pu q) (by rw [← C.out.2]; exact List.mem_map_of_mem (List.mem_of_getElem? hq))
      rw [beq_eq_false_iff_ne]
      exact may_kind h1
  have lR : Hid ((XA.map (·.1)).length = nA ∧ (XC.map (·.1)).length = nC) := ⟨by rw [List.length_map]; exact hns.out.1, by rw [List.length_map]; exact hns.out.2.2.1⟩
  obtain ⟨RA, hRA⟩ : ∃ r, XA.map (fun x : Itm => x.1) = r := ⟨_, rfl⟩
  obtain ⟨RC, hRC⟩ : ∃ r, XC.map (fun x : Itm => x.1) = r := ⟨_, rfl⟩
  rw [hRA] at rA3 lR
  rw [hRC] at rC3 kC lR
  rw [hns.out.1] at rA3
  rw [hns.out.2.2.1] at rC3
  clear hRA hRC V6 V9 b26 b29 b9 A Bq C X5 Y6 P1 P2 P3 P4 hOw hbnd lA lB lC hM1 hM2 L7 L8 L9 lvp T
  go_wp2_with (go_at_call 18; refine hOn.out.mono ?_; rintro e z1 ⟨rfl, K1⟩; have rA1 : Hid (OwnL 39 6 c6 y1.heap.size z1 (.slice pa nA ca) RA ∧ OwnL 39 6 c6 y3.heap.size z1 (.slice pc nC cc) RC ∧ Below w.heap.size w z1 ∧ y3.heap.size ≤ z1.heap.size) := ⟨K1.out.own rA3.out, K1.out.own rC3.out, s23.out.2.2.2.1.trans K1.out.1, Nat.le_trans s23.out.2.2.2.2 K1.out.1.size⟩; clear K1 hOn)
  go_loopw [26] (fun t wz => ∃ (j : Nat) (RA' : List Ri) (z : World), z = wz ∧ t = .int .i64 (j : Int) ∧ Hid (j ≤ nA ∧ RA'.length = nA) ∧ Hid (OwnL 39 6 c6 y1.heap.size z (.slice pa nA ca) RA' ∧ OwnL 39 6 c6 y3.heap.size z (.slice pc nC cc) RC ∧ Below w.heap.size w z ∧ y3.heap.size ≤ z.heap.size)) (fun t _ => (nA - intOf t).toNat)
  case atStart => exact ⟨0, RA, _, rfl, rfl, ⟨Nat.zero_le _, lR.out.1⟩, rA1⟩
  case round =>
    obtain ⟨j, RA', z, rfl, rfl, J, K⟩ := hrel
    clear rA1
    by_cases hlt : j < nA
    · obtain ⟨g, hg⟩ : ∃ g, pa = some ⟨g, 0, none⟩ := by
        obtain ⟨sp', cap', e, hl, h0, _⟩ := K.out.1.open kItem.len
        injection e with e1 _ _
        subst e1
        obtain ⟨g, o, e, _⟩ := hl j _ (List.getElem?_eq_getElem (by rw [J.out.2]; exact hlt))
        have := (h0 _ e).1
        subst this
        exact ⟨g, e⟩
      subst hg
      obtain ⟨k1, k2, k3⟩ := OwnL.set kItem.len K.out.1 j (by rw [J.out.2]; exact hlt) m55
      have hth : Hid (z.there g (j * 6) (i6 m55).size) := k2
      have ij : ∀ w, (Instr.indexAt 22 (.slice (some ⟨g, 0, none⟩) nA ca) (.int .i64 (j : Int))).run Tryd.prog w = .ok (.pointer (some ⟨g, j * 6, none⟩)) w := fun w => by
        have := idxP (P := Tryd.prog) (g := g) (off := 0) (len := nA) (cap := ca) Tryd.underlying22 (s := 6) (by kernel_rfl) .i64 j w hlt
        rw [Nat.zero_add] at this
        exact this
      have K2 : Hid (OwnL 39 6 c6 y1.heap.size (z.setCells g (j * 6) (i6 m55).toList) (.slice (some ⟨g, 0, none⟩) nA ca) (RA'.set j m55) ∧ OwnL 39 6 c6 y3.heap.size (z.setCells g (j * 6) (i6 m55).toList) (.slice pc nC cc) RC ∧ Below w.heap.size w (z.setCells g (j * 6) (i6 m55).toList) ∧ y3.heap.size ≤ (z.setCells g (j * 6) (i6 m55).toList).heap.size) := by
        have h1 := aLt.out g rfl
        have h2 := s23.out
        refine ⟨k1, K.out.2.1.keepB fun q hq => setCellsL_other g q (fun e => ?_) _ _ _, K.out.2.2.1.trans (setCellsL_below _ g (by omega) _ _ _), by rw [setCells_size]; exact K.out.2.2.2⟩
        have := (K.out.2.1.lt q hq).1
        omega
      have J2 : Hid (j + 1 ≤ nA ∧ (RA'.set j m55).length = nA) := ⟨hlt, by rw [List.length_set]; exact J.out.2⟩
      have hji : (j : Int) < nA := by omega
      have hlt' : Hid (j < nA) := hlt
      have hb55 : Hid (Tryd.prog.built 39 [(0, .int .u8 55)] = some (i6 m55)) := built55
      clear hlt k1 k2 k3 K J
      go_wp2_with (first
        | ((with_reducible refine at_bu #[(0, .const (.int .u8 55))] [(0, .int .u8 55)] (i6 m55) ?_ ?_ ?_ hb55.out ?_); kernel_rfl; rfl; kernel_rfl)
        | ((with_reducible refine wpList_store_mid ?_ 39 (.tmp 132) (.tmp 131) ?_ g (j * 6) (i6 m55) ?_ ?_ hth.out (rt6s _) (one6 _) ?_); rfl; rfl; rfl; rfl))
      go_roundw
      case rel => exact ⟨j + 1, _, _, rfl, by simp, J2, K2⟩
      case measure => have := hlt'.out; simp [intOf]; omega
    · have hje : j = nA := by have := J.out.1; omega
      subst hje
      have hl : Hid (RA'.length = j) := J.out.2
      have hb55 : Hid (Tryd.prog.built 39 [(0, .int .u8 55)] = some (i6 m55)) := built55
      have K9 : Hid (∀ (v' : Value) (u : World), AppNL 39 6 c6 y1.heap.size (.slice pa j ca) RA' [m55, m55] v' (z.alloc (.cells (rowL c6 [m55, m55]).toArray 39)) u → OwnL 39 6 c6 y3.heap.size u (.slice pc nC cc) RC ∧ Below w.heap.size w u ∧ ∃ p c, v' = .slice p (j + 2) c) := fun v' u H => by
        have h2 := s23.out
        have ho := K.out.2.1.alloc (.cells (rowL c6 [m55, m55]).toArray 39)
        refine ⟨ho.keepB fun q hq => H.cu.blk q (ho.lt q hq).2 (fun i hi => ?_), (K.out.2.2.1.trans ((below1 z _).mono K.out.2.2.1.size)).trans (H.cu.low.mono h2.2.2.1), ?_⟩
        · have h5 := (ho.lt q hq).1
          rcases hpa : pa with _ | a
          · rw [hpa] at hi; simp [Value.ownBlock] at hi
          · obtain ⟨sp', cap', e, _, h0, _⟩ := K.out.1.open kItem.len
            injection e with e1 _ _
            subst e1
            have ha := h0 a hpa
            have he : a = ⟨a.block, 0, none⟩ := by obtain ⟨x1, x2, x3⟩ := a; simp at ha; obtain ⟨rfl, rfl, _⟩ := ha; rfl
            rw [hpa, he] at hi
            have e9 : a.block = q := by simpa [Value.ownBlock] using hi.1
            have h6 := aLt.out a.block (by rw [hpa]; exact congrArg some he)
            omega
        · obtain ⟨p, c, e, _⟩ := H.own.open kItem.len
          rw [List.length_append, hl.out] at e
          exact ⟨p, c, e⟩
      clear hlt
      go_wp2_with (first
        | ((with_reducible refine at_bu #[(0, .const (.int .u8 55))] [(0, .int .u8 55)] (i6 m55) ?_ ?_ ?_ hb55.out ?_); kernel_rfl; rfl; kernel_rfl)
        | ((with_reducible refine at_bs55 (.tmp 134) (.tmp 135) ?_ ?_ ?_ ?_ ?_); rfl; rfl; rfl; rfl)
        | (at_builtin; refine at_appNL kItem rfl (.tmp 133) (.tmp 136) rfl y1.heap.size (.slice pa j ca) RA' rfl (K.out.1.alloc _) z.heap.size 0 2 2 [m55, m55] rfl rfl (lies_new kItem.len _ _ _) (by decide) ?_ ?_ ?_; (have := hl.out; have := hns.out; omega); (have h1 := s23.out; have h2 := K.out.2.2.2; simp; omega); intro va' u H; obtain ⟨c1, c2, p9, c9, rfl⟩ := K9.out va' u H.out; have C9 : Hid (OwnL 39 6 c6 y3.heap.size u (.slice pc nC cc) RC ∧ Below w.heap.size w u) := ⟨c1, c2⟩; clear H c1 c2))
      go_loopw [27] (fun t wz => ∃ (q : Nat), u = wz ∧ t = .int .i64 (q : Int) ∧ Hid (q ≤ nC)) (fun t _ => (nC - intOf t).toNat)
      case atStart => exact ⟨0, by first | rfl | trivial, rfl, Nat.zero_le _⟩
      case round =>
        obtain ⟨q, rfl, rfl, J⟩ := hrel
        by_cases hq : q < nC
        · obtain ⟨r, hr⟩ : ∃ r, RC[q]? = some r := ⟨_, List.getElem?_eq_getElem (by rw [lR.out.2]; exact hq)⟩
          obtain ⟨g, hgp, hcell⟩ : ∃ g, pc = some ⟨g, 0, none⟩ ∧ u.cell? ⟨g, q * 6, none⟩ = some (.int .u8 r.k) := by
            obtain ⟨sp', cap', e, hl, h0, _⟩ := C9.out.1.open kItem.len
            injection e with e1 _ _
            subst e1
            obtain ⟨g, o, e, hc⟩ := hl q r hr
            have := (h0 _ e).1
            subst this
            have h9 := hc 0 (.int .u8 r.k) rfl
            rw [Nat.zero_add, Nat.add_zero] at h9
            exact ⟨g, e, h9⟩
          subst hgp
          have ij : ∀ w, (Instr.indexAt 22 (.slice (some ⟨g, 0, none⟩) nC cc) (.int .i64 (q : Int))).run Tryd.prog w = .ok (.pointer (some ⟨g, q * 6, none⟩)) w := fun w => by
            have := idxP (P := Tryd.prog) (g := g) (off := 0) (len := nC) (cap := cc) Tryd.underlying22 (s := 6) (by kernel_rfl) .i64 q w hq
            rw [Nat.zero_add] at this
            exact this
          have hk := kC.out q r hr
          have hqi : (q : Int) < nC := by omega
          have hq' : Hid (q < nC) := hq
          clear hq hr
          go_wp2
          go_roundw
          case rel => exact ⟨q + 1, by first | rfl | trivial, by simp, hq'.out⟩
          case measure => have := hq'.out; simp [intOf]; omega
        · have hqe : q = nC := by have := J.out; omega
          subst hqe
          have qq : (((j : Int) + 2) == ((j : Int) + 2)) = true := by simp
          clear hq
          go_wp2
          go_ret
          exact ⟨by first | rfl | simp, C9.out.2⟩
end Go.Proofs.YtmaedkbmjbggpaaDoor
