/- Blanks, tabs, remarks and empty lines in a printed source change nothing: the statement's walk. -/
import Derived.Test.YtfdjifgmlgpjgabDoorJSq
import Derived.Test.YtfdjifgmlgpjgabDoorJSs
namespace Go.Proofs.YtfdjifgmlgpjgabDoor
open Go Go.RowKit
set_option linter.unusedVariables false
set_option maxHeartbeats 3000000
set_option maxRecDepth 20000

theorem fR_len (R : List Rm) (k : Nat) (t : Bool) (m : List UInt8) (h : fR R k = some (t, m)) : m.length ≤ 40 := by
  unfold fR at h
  split at h
  · cases h
  · split at h
    · injection h with h
      injection h with h1 h2
      subst h2
      exact plain_len _
    · cases h
theorem tab_len (t : Bool) : (tabL t).length ≤ 1 := by cases t <;> decide
theorem spG_len (R : List Rm) : ∀ (l : List UInt8) (k : Nat), (spG (fR R) l k).length ≤ 48 * l.length
  | [], _ => Nat.le_refl _
  | c :: l, k => by
    have i1 := spG_len R l (k + 1)
    have i2 := spG_len R l k
    unfold spG
    split
    · rcases h : fR R k with _ | ⟨t, m⟩
      · simp [spB]; omega
      · have := tab_len t
        simp [spB]; omega
    · split
      · rcases h : fR R k with _ | ⟨t, m⟩
        · simp [spN]; omega
        · have h1 := tab_len t
          have h2 := fR_len R k t m h
          simp [spN]; omega
      · simp; omega
/-- What a printed source with more room in it says. -/
theorem room_text {L : List Itm} (h : Lens L) (e : printIE L = 0) (R : List Rm) : (printIB L).size ≤ 65536 ∧ (⟨(spG (fR R) (strL (printIB L)) 0).toArray⟩ : ByteArray).size ≤ 9223372036854775807 ∧ ((⟨(spG (fR R) (strL (printIB L)) 0).toArray⟩ : ByteArray).size ≤ 65536 → srcE ⟨(spG (fR R) (strL (printIB L)) 0).toArray⟩ = 0 ∧ srcL ⟨(spG (fR R) (strL (printIB L)) 0).toArray⟩ = L.map pu) := by
  obtain ⟨k1, k2, k3, k4⟩ := ie_ok h e
  have hsz : (mkB (printP (L.map pu))).size = (printP (L.map pu)).length := by rw [← strL_len, strL_mkB]
  have hs2 : (⟨(spG (fR R) (printP (L.map pu)) 0).toArray⟩ : ByteArray).size = (spG (fR R) (printP (L.map pu)) 0).length := by simp [ByteArray.size]
  have hl := spG_len R (printP (L.map pu)) 0
  rw [k4, strL_mkB]
  refine ⟨by omega, by omega, fun hs => ?_⟩
  exact room_back (fR_ok R) (fun q hq => List.all_eq_true.1 k1 q hq) (by rw [List.length_map]; exact k2) (by omega)
theorem room_no (w : World) (T : Hid (Tw w)) (sp : Option Addr) (cap : Nat) (L : List Itm) (hL : Hid (Lv w sp L)) (hn : L.length ≤ 9223372036854775807) (sr : Option Addr) (cr : Nat) (R : List Rm) (hR : Hid (LiesL 3 cR w sr R)) (hm : R.length ≤ 9223372036854775807) (hin : Hid (∀ r ∈ R, (-9223372036854775808 ≤ r.a ∧ r.a ≤ 9223372036854775807) ∧ r.s.size ≤ 9223372036854775807)) (hE : ¬ printIE L = 0) : Calls Tryd.prog 3 #[.slice sp L.length cap, .slice sr R.length cr] w fun e w' => e = .returned (.bool true) ∧ Below w.heap.size w w' := by
  have hA : Hid (∀ v, Below w.heap.size w v → Calls Tryd.prog 4 #[] v fun e w' => e = .returned (.bool true) ∧ Hid (Below v.heap.size v w')) := fun v hv => awake_any v (T.out.below hv)
  have hP : Hid (∀ v, Below w.heap.size w v → Calls Tryd.prog 5 #[.slice sp L.length cap] v fun e w' => e = .returned (.tuple #[.string (printIB L), .int .i64 (printIE L)]) ∧ Hid (Below v.heap.size v w')) := fun v hv => lv_print v sp cap L (hL.out.below hv) hn (T.out.below hv)
  rw [ib_no hE] at hP
  have qE : (printIE L == 0) = false := by rw [beq_eq_false_iff_ne]; exact hE
  have qE2 : (printIE L != 0) = true := by rw [bne_iff_ne]; exact hE
  generalize printIE L = E at hP qE qE2
  clear hE
  go_enter Tryd.func3, Tryd.ntmps3
  go_wp2_with (first
    | (go_at_call 4; refine (hA.out w (Below.refl _ _)).mono ?_; rintro e y1 ⟨rfl, h1⟩; have K1 : Hid (Below w.heap.size w y1) := h1; clear h1 hA)
    | (go_at_call 5; refine (hP.out y1 K1.out).mono ?_; rintro e y2 ⟨rfl, h2⟩; have K2 : Hid (Below w.heap.size w y2) := of_below K1.out h2.out; clear h2 hP))
  go_ret
  exact ⟨rfl, K2.out⟩
theorem room_long (w : World) (T : Hid (Tw w)) (sp : Option Addr) (cap : Nat) (L : List Itm) (hL : Hid (Lv w sp L)) (hn : L.length ≤ 9223372036854775807) (sr : Option Addr) (cr : Nat) (R : List Rm) (hR : Hid (LiesL 3 cR w sr R)) (hm : R.length ≤ 9223372036854775807) (hin : Hid (∀ r ∈ R, (-9223372036854775808 ≤ r.a ∧ r.a ≤ 9223372036854775807) ∧ r.s.size ≤ 9223372036854775807)) (hE : printIE L = 0) (hz : 65536 < (⟨(spG (fR R) (strL (printIB L)) 0).toArray⟩ : ByteArray).size) : Calls Tryd.prog 3 #[.slice sp L.length cap, .slice sr R.length cr] w fun e w' => e = .returned (.bool true) ∧ Below w.heap.size w w' := by
  have hA : Hid (∀ v, Below w.heap.size w v → Calls Tryd.prog 4 #[] v fun e w' => e = .returned (.bool true) ∧ Hid (Below v.heap.size v w')) := fun v hv => awake_any v (T.out.below hv)
  have hP : Hid (∀ v, Below w.heap.size w v → Calls Tryd.prog 5 #[.slice sp L.length cap] v fun e w' => e = .returned (.tuple #[.string (printIB L), .int .i64 (printIE L)]) ∧ Hid (Below v.heap.size v w')) := fun v hv => lv_print v sp cap L (hL.out.below hv) hn (T.out.below hv)
  obtain ⟨z1, z2, z3⟩ := room_text hL.out.g.lens hE R
  have hS : Hid (∀ v, Below w.heap.size w v → Calls Tryd.prog 6 #[.string (printIB L), .slice sr R.length cr] v fun e w' => e = .returned (.string ⟨(spG (fR R) (strL (printIB L)) 0).toArray⟩) ∧ Hid (Below v.heap.size v w')) := fun v hv => spaced_any v (printIB L) z1 sr cr R (hR.out.below hv) hm hin
  have hT : Hid (∀ v, Below w.heap.size w v → Calls Tryd.prog 7 #[.string ⟨(spG (fR R) (strL (printIB L)) 0).toArray⟩] v fun e w' => ∃ sp cap X, e = .returned (.tuple #[.slice sp (X : List Itm).length cap, .int .i64 (srcE ⟨(spG (fR R) (strL (printIB L)) 0).toArray⟩), .int .i64 (srcN ⟨(spG (fR R) (strL (printIB L)) 0).toArray⟩)]) ∧ Hid (Below v.heap.size v w' ∧ Lv w' sp X ∧ X.map pu = srcL ⟨(spG (fR R) (strL (printIB L)) 0).toArray⟩ ∧ X.length ≤ 4096)) := fun v hv => lv_parse v ⟨(spG (fR R) (strL (printIB L)) 0).toArray⟩ z2 (T.out.below hv)
  rw [hE] at hP
  have hL4 : L.length ≤ 4096 := (ie_ok hL.out.g.lens hE).2.1
  obtain ⟨e1, e2, e3⟩ := src_long hz
  rw [e1, e2, e3] at hT
  have zi : (65536 : Int) < ((⟨(spG (fR R) (strL (printIB L)) 0).toArray⟩ : ByteArray).size : Int) := by omega
  clear e1 e2 e3 hz z3 hE hL4 z1
  generalize (⟨(spG (fR R) (strL (printIB L)) 0).toArray⟩ : ByteArray) = U at hS hT zi z2
  generalize printIB L = S at hP hS
  have zj : (U.size : Int) ≤ 9223372036854775807 := by omega
  clear z2
  go_enter Tryd.func3, Tryd.ntmps3
  go_wp2_with (first
    | (go_at_call 4; refine (hA.out w (Below.refl _ _)).mono ?_; rintro e y1 ⟨rfl, h1⟩; have K1 : Hid (Below w.heap.size w y1) := h1; clear h1 hA)
    | (go_at_call 5; refine (hP.out y1 K1.out).mono ?_; rintro e y2 ⟨rfl, h2⟩; have K2 : Hid (Below w.heap.size w y2) := of_below K1.out h2.out; clear h2 hP)
    | (go_at_call 6; refine (hS.out y2 K2.out).mono ?_; rintro e y3 ⟨rfl, h3⟩; have K3 : Hid (Below w.heap.size w y3) := of_below K2.out h3.out; clear h3 hS)
    | (go_at_call 7; refine (hT.out y3 K3.out).mono ?_; rintro e y5 ⟨s5, c5, X5, rfl, h5⟩; have K5 : Hid (Below w.heap.size w y5) := of_below K3.out h5.out.1; obtain rfl : X5 = [] := List.map_eq_nil_iff.1 h5.out.2.2.1; clear h5 hT))
  go_ret
  exact ⟨rfl, K5.out⟩
theorem room_ok (w : World) (T : Hid (Tw w)) (sp : Option Addr) (cap : Nat) (L : List Itm) (hL : Hid (Lv w sp L)) (hn : L.length ≤ 9223372036854775807) (sr : Option Addr) (cr : Nat) (R : List Rm) (hR : Hid (LiesL 3 cR w sr R)) (hm : R.length ≤ 9223372036854775807) (hin : Hid (∀ r ∈ R, (-9223372036854775808 ≤ r.a ∧ r.a ≤ 9223372036854775807) ∧ r.s.size ≤ 9223372036854775807)) (hE : printIE L = 0) (hz : ¬ 65536 < (⟨(spG (fR R) (strL (printIB L)) 0).toArray⟩ : ByteArray).size) : Calls Tryd.prog 3 #[.slice sp L.length cap, .slice sr R.length cr] w fun e w' => e = .returned (.bool true) ∧ Below w.heap.size w w' := by
  have hA : Hid (∀ v, Below w.heap.size w v → Calls Tryd.prog 4 #[] v fun e w' => e = .returned (.bool true) ∧ Hid (Below v.heap.size v w')) := fun v hv => awake_any v (T.out.below hv)
  have hP : Hid (∀ v, Below w.heap.size w v → Calls Tryd.prog 5 #[.slice sp L.length cap] v fun e w' => e = .returned (.tuple #[.string (printIB L), .int .i64 (printIE L)]) ∧ Hid (Below v.heap.size v w')) := fun v hv => lv_print v sp cap L (hL.out.below hv) hn (T.out.below hv)
  obtain ⟨z1, z2, z3⟩ := room_text hL.out.g.lens hE R
  have hS : Hid (∀ v, Below w.heap.size w v → Calls Tryd.prog 6 #[.string (printIB L), .slice sr R.length cr] v fun e w' => e = .returned (.string ⟨(spG (fR R) (strL (printIB L)) 0).toArray⟩) ∧ Hid (Below v.heap.size v w')) := fun v hv => spaced_any v (printIB L) z1 sr cr R (hR.out.below hv) hm hin
  have hT : Hid (∀ v, Below w.heap.size w v → Calls Tryd.prog 7 #[.string ⟨(spG (fR R) (strL (printIB L)) 0).toArray⟩] v fun e w' => ∃ sp cap X, e = .returned (.tuple #[.slice sp (X : List Itm).length cap, .int .i64 (srcE ⟨(spG (fR R) (strL (printIB L)) 0).toArray⟩), .int .i64 (srcN ⟨(spG (fR R) (strL (printIB L)) 0).toArray⟩)]) ∧ Hid (Below v.heap.size v w' ∧ Lv w' sp X ∧ X.map pu = srcL ⟨(spG (fR R) (strL (printIB L)) 0).toArray⟩ ∧ X.length ≤ 4096)) := fun v hv => lv_parse v ⟨(spG (fR R) (strL (printIB L)) 0).toArray⟩ z2 (T.out.below hv)
  rw [hE] at hP
  have hL4 : L.length ≤ 4096 := (ie_ok hL.out.g.lens hE).2.1
  obtain ⟨e1, e2⟩ := z3 (by omega)
  rw [e1, e2] at hT
  have zi : ((⟨(spG (fR R) (strL (printIB L)) 0).toArray⟩ : ByteArray).size : Int) ≤ 65536 := by omega
  have hQ : Hid (∀ v pb cb X, Below w.heap.size w v → Lv v pb X → X.map pu = L.map pu → Calls Tryd.prog 8 #[.slice sp L.length cap, .slice pb X.length cb] v fun e w' => e = .returned (.bool true) ∧ Hid (Below v.heap.size v w')) := fun v pb cb X hv h1 h2 => lv_same v sp pb cap cb L X (hL.out.below hv) h1 h2.symm hL4
  generalize srcN (⟨(spG (fR R) (strL (printIB L)) 0).toArray⟩ : ByteArray) = M at hT
  clear e1 e2 hz z3 hE hL4 z1 z2
  generalize (⟨(spG (fR R) (strL (printIB L)) 0).toArray⟩ : ByteArray) = U at hS hT zi
  generalize printIB L = S at hP hS
  go_enter Tryd.func3, Tryd.ntmps3
  go_wp2_with (first
    | (go_at_call 4; refine (hA.out w (Below.refl _ _)).mono ?_; rintro e y1 ⟨rfl, h1⟩; have K1 : Hid (Below w.heap.size w y1) := h1; clear h1 hA)
    | (go_at_call 5; refine (hP.out y1 K1.out).mono ?_; rintro e y2 ⟨rfl, h2⟩; have K2 : Hid (Below w.heap.size w y2) := of_below K1.out h2.out; clear h2 hP)
    | (go_at_call 6; refine (hS.out y2 K2.out).mono ?_; rintro e y3 ⟨rfl, h3⟩; have K3 : Hid (Below w.heap.size w y3) := of_below K2.out h3.out; clear h3 hS)
    | (go_at_call 7; refine (hT.out y3 K3.out).mono ?_; rintro e y5 ⟨s5, c5, X5, rfl, h5⟩; have K5 : Hid (Below w.heap.size w y5) := of_below K3.out h5.out.1; have V5 : Hid (Lv y5 s5 X5 ∧ X5.map pu = L.map pu) := ⟨h5.out.2.1, h5.out.2.2.1⟩; clear h5 hT)
    | (go_at_call 8; refine (hQ.out y5 s5 c5 X5 K5.out V5.out.1 V5.out.2).mono ?_; rintro e y6 ⟨rfl, h6⟩; have K6 : Hid (Below w.heap.size w y6) := of_below K5.out h6.out; clear h6 hQ))
  go_ret
  exact ⟨rfl, K6.out⟩
theorem room_walk (w : World) (T : Hid (Tw w)) (sp : Option Addr) (cap : Nat) (L : List Itm) (hL : Hid (Lv w sp L)) (hn : L.length ≤ 9223372036854775807) (sr : Option Addr) (cr : Nat) (R : List Rm) (hR : Hid (LiesL 3 cR w sr R)) (hm : R.length ≤ 9223372036854775807) (hin : Hid (∀ r ∈ R, (-9223372036854775808 ≤ r.a ∧ r.a ≤ 9223372036854775807) ∧ r.s.size ≤ 9223372036854775807)) : Calls Tryd.prog 3 #[.slice sp L.length cap, .slice sr R.length cr] w fun e w' => e = .returned (.bool true) ∧ Below w.heap.size w w' := by
  by_cases hE : printIE L = 0
  · by_cases hz : 65536 < (⟨(spG (fR R) (strL (printIB L)) 0).toArray⟩ : ByteArray).size
    · exact room_long w T sp cap L hL hn sr cr R hR hm hin hE hz
    · exact room_ok w T sp cap L hL hn sr cr R hR hm hin hE hz
  · exact room_no w T sp cap L hL hn sr cr R hR hm hin hE
end Go.Proofs.YtfdjifgmlgpjgabDoor
