/- vesperlaw02.CodeOps, walked: of all 256 ops Info, Bus, Find, Decode and Encode hang together. -/
import Derived.Test.YtbllnjifmcodbaaDoorHolds
import Derived.Test.YtbllnjifmcodbaaDoorRow
import Derived.Test.YtbllnjifmcodbaaDoorBus
namespace Go.Proofs.YtbllnjifmcodbaaDoor
open Go.RowKit
set_option linter.unusedVariables false
set_option maxHeartbeats 6000000
set_option maxRecDepth 20000

def inp : List UInt8 := [73, 78, 80]
def portOf (n : Nat) : Nat := if n / 16 = 6 then n % 8 else 0
/-- An op's class: which of seven ways through the law it takes. -/
def cl (n : Nat) : Nat := if n / 16 = 12 then 0 else if portOf n = 0 then (if useW (ku n) then 4 else if useO (ku n) then 3 else if useR (ku n) then 1 else 2) else if useR (ku n) then 5 else 6
theorem cl_le (n : Nat) (h : n < 256) : cl n ≤ 6 ∧ nmB n ≠ [] := by revert n; decide +kernel
theorem cl0 (n : Nat) (h : n < 256) : cl n = 0 → cyc n = 3 ∧ n / 16 = 12 ∧ useR (ku n) = true ∧ useW (ku n) = false ∧ useO (ku n) = false ∧ portOf n = 0 ∧ fm n ≠ 3 := by revert n; decide +kernel
theorem cl1 (n : Nat) (h : n < 256) : cl n = 1 → cyc n = 2 ∧ n / 16 ≠ 12 ∧ useR (ku n) = true ∧ useW (ku n) = false ∧ useO (ku n) = false ∧ portOf n = 0 ∧ fm n ≠ 3 := by revert n; decide +kernel
theorem cl2 (n : Nat) (h : n < 256) : cl n = 2 → cyc n = 2 ∧ n / 16 ≠ 12 ∧ useR (ku n) = false ∧ useW (ku n) = false ∧ useO (ku n) = false ∧ portOf n = 0 ∧ fm n ≠ 3 := by revert n; decide +kernel
theorem cl3 (n : Nat) (h : n < 256) : cl n = 3 → cyc n = 2 ∧ n / 16 ≠ 12 ∧ useR (ku n) = false ∧ useW (ku n) = false ∧ useO (ku n) = true ∧ portOf n = 0 ∧ fm n ≠ 3 := by revert n; decide +kernel
theorem cl4 (n : Nat) (h : n < 256) : cl n = 4 → cyc n = 2 ∧ n / 16 ≠ 12 ∧ useR (ku n) = false ∧ useW (ku n) = true ∧ useO (ku n) = true ∧ portOf n = 0 ∧ fm n ≠ 3 := by revert n; decide +kernel
theorem cl4' (n : Nat) (h : n < 256) : cl n = 4 → nmB n ≠ inp := by revert n; decide +kernel
theorem cl5 (n : Nat) (h : n < 256) : cl n = 5 → cyc n = 2 ∧ n / 16 ≠ 12 ∧ useR (ku n) = true ∧ useW (ku n) = false ∧ useO (ku n) = false ∧ fm n = 3 := by revert n; decide +kernel
theorem cl6 (n : Nat) (h : n < 256) : cl n = 6 → cyc n = 2 ∧ n / 16 ≠ 12 ∧ useR (ku n) = false ∧ useW (ku n) = true ∧ useO (ku n) = false ∧ fm n = 3 ∧ nmB n = inp := by revert n; decide +kernel
theorem cl56 (n : Nat) (h : n < 256) : 5 ≤ cl n → 1 ≤ portOf n ∧ portOf n ≤ 7 ∧ argOf n 18 52 = portOf n := by revert n; decide +kernel

theorem nm_list (n : Nat) : (nm n).toList = nmB n := by rw [toList_eq, nm_eq]

/-- One round, of one op, whatever its values are. -/
theorem ops_calls (n : Nat) (h : n < 256) (X : ByteArray) (F L c un P : Nat) (r wr' o : Bool) (A : Int) (v0 v1' v2' v3' v4' : Value) (hX : nm n = X) (hF : fm n = F) (hL : by1 n = L) (hc : cyc n = c) (hun : useN (ku n) = un) (hP : portOf n = P) (hr : useR (ku n) = r) (hw : useW (ku n) = wr') (ho : useO (ku n) = o) (hA : argOf n 18 52 = A)
    (hsec : busV n true = .agg #[v0, v1', v2', v3', v4']) :
    (∀ v, Tabs v → Calls Tryd.prog 8 #[.int .u8 n] v fun e v' => e = .returned (.agg #[.string X, .int .u8 F, .int .i64 L, .int .i64 c]) ∧ Below v.heap.size v v') ∧
    (∀ v, Tabs v → TabsU v → Calls Tryd.prog 9 #[.int .u8 n, .bool false] v fun e v' => e = .returned (.agg #[.int .u8 un, .bool r, .bool wr', .bool o, .int .u8 P]) ∧ Below v.heap.size v v') ∧
    (∀ v, Tabs v → TabsU v → Calls Tryd.prog 9 #[.int .u8 n, .bool true] v fun e v' => e = .returned (.agg #[v0, v1', v2', v3', v4']) ∧ Below v.heap.size v v') ∧
    (∀ v, Tabs v → Calls Tryd.prog 10 #[.string X] v fun e v' => e = .returned (.tuple #[.agg #[.string X, .int .u8 F, .int .i64 L, .int .i64 c], .bool true]) ∧ Below v.heap.size v v') ∧
    (∀ v g, Tabs v → Holds v g #[.int .u8 n, .int .u8 18, .int .u8 52, .int .u8 86] → Calls Tryd.prog 11 #[.slice (some ⟨g, 0, none⟩) 4 4] v fun e v' => e = .returned (.tuple #[.agg #[.string X, .int .i64 A], .int .i64 L, .int .i64 0]) ∧ Below v.heap.size v v') ∧
    (∀ v, Tabs v → Calls Tryd.prog 12 #[.agg #[.string X, .int .i64 A]] v fun e v' => ∃ b, v.heap.size ≤ b ∧ e = .returned (.tuple #[.slice (some ⟨b, 0, none⟩) L L, .int .i64 0]) ∧ v'.cell? ⟨b, 0, none⟩ = some (.int .u8 n) ∧ Below v.heap.size v v') := by
  have hb := bs_ok n h
  have hL13 := by1_eq n h
  have hL1 : 1 ≤ by1 n := by rw [hL13]; split; omega; split <;> omega
  have hL3 : by1 n ≤ 3 := by rw [hL13]; split; omega; split <;> omega
  subst hX hF hL hc hun hP hr hw ho hA
  refine ⟨fun v T => info_any n v T h, fun v T U => ?_, fun v T U => ?_, fun v T => ?_, fun v g T H => ?_, fun v T => ?_⟩
  · have := bus_any n false v T U h
    unfold busV at this
    rw [if_neg (by simp)] at this
    exact this
  · have := bus_any n true v T U h
    rw [hsec] at this
    exact this
  · have e : nm (bs n) = nm n := by rw [nm_eq, nm_eq, hb.2.2.1]
    exact find_some (nm n) (bs n) (opOf_nm n h) (nm n) (fm n) (by1 n) (cyc n) e hb.2.1 (show lay (fm (bs n) * 3) = by1 n by rw [hb.2.1]; rfl) hb.2.2.2 v T
  · exact dec_row v T g 0 4 4 n 18 52 h (by decide) (by decide) (H 0 (by simp)) (fun _ => H 1 (by simp)) (fun _ => H 2 (by simp)) (by omega)
  · refine (enc_rowB n 18 52 h (by decide) (by decide) v T).mono ?_
    rintro e v' ⟨b, h1, h2, h3, h4⟩
    exact ⟨b, h1, h2, h3 0 (by omega), h4⟩

theorem codeOps_walk (w : World) (T : Tabs w) (U : TabsU w) :
    Calls Tryd.prog 3 #[] w fun e w' => e = .returned (.bool true) ∧ Below w.heap.size w w' := by
  go_enter Tryd.func3, Tryd.ntmps3
  go_wp2
  go_loopw [1] (fun i wr => ∃ n : Nat, n ≤ 256 ∧ i = .int .i64 (n : Int) ∧ Below w.heap.size w wr) (fun i _ => (256 - intOf i).toNat)
  case atStart => exact ⟨0, by omega, rfl, Below.refl _ _⟩
  case round =>
    rename_i wr
    obtain ⟨n, hn, rfl, HB⟩ := hrel
    by_cases hlt : n < 256
    · obtain ⟨hcl, hne⟩ := cl_le n hlt
      have Tr := T.below HB
      have Ur := U.below HB
      obtain ⟨X, hX⟩ : ∃ X, nm n = X := ⟨_, rfl⟩
      obtain ⟨F, hF⟩ : ∃ X, fm n = X := ⟨_, rfl⟩
      obtain ⟨L, hL⟩ : ∃ X, by1 n = X := ⟨_, rfl⟩
      obtain ⟨un, hun⟩ : ∃ X, useN (ku n) = X := ⟨_, rfl⟩
      obtain ⟨A, hA⟩ : ∃ X, argOf n 18 52 = X := ⟨_, rfl⟩
      obtain ⟨P, hP⟩ : ∃ X, portOf n = X := ⟨_, rfl⟩
      have hXl := nm_list n
      rw [hX] at hXl
      have hL13 : 1 ≤ L ∧ L ≤ 3 := by
        have := by1_eq n hlt
        rw [hL] at this
        split at this
        · omega
        · split at this <;> omega
      obtain ⟨hL1, hL3⟩ := hL13
      have hx0 : (X.toList == []) = false := by rw [hXl]; simpa using hne
      rcases (show cl n = 0 ∨ cl n = 1 ∨ cl n = 2 ∨ cl n = 3 ∨ cl n = 4 ∨ cl n = 5 ∨ cl n = 6 by omega) with hcl | hcl | hcl | hcl | hcl | hcl | hcl
      · obtain ⟨hc, h12, hr, hw, ho, hp, hf3⟩ := cl0 n hlt hcl
        rw [hP] at hp
        rw [hF] at hf3
        subst hp
        have hsec : busV n true = .agg #[.int .u8 un, .bool true, .bool false, .bool false, .int .u8 (0 : Nat)] := by
          unfold busV
          rw [if_neg (by simp [h12]), hun, hr, hw, ho]
          show Value.agg #[.int .u8 un, .bool true, .bool false, .bool false, .int .u8 (portOf n : Nat)] = _
          rw [hP]
        obtain ⟨q1, q2, q3, q4, q5, q6⟩ := ops_calls n hlt X F L 3 un 0 true false false A _ _ _ _ _ hX hF hL hc hun hP hr hw ho hA hsec
        simp only [Int.cast_ofNat_Int] at q1 q2 q3 q4
        clear hX hF hL hc hun hP hr hw ho hA hsec h12 hne hXl
        go_wp2_with (first
          | (go_at_call 8; refine (q1 _ Tr).mono ?_; rintro e v1 ⟨rfl, hb1⟩; have T1 : Tabs (v1.alloc (.cells #[.string X, .int .u8 F, .int .i64 L, .int .i64 3] 24)) := (Tr.below hb1).below ((Below.refl _ _).alloc (Nat.le_refl _) _); have U1 : TabsU (v1.alloc (.cells #[.string X, .int .u8 F, .int .i64 L, .int .i64 3] 24)) := (Ur.below hb1).below ((Below.refl _ _).alloc (Nat.le_refl _) _))
          | (go_at_call_of 9 (Value.bool false); refine (q2 _ T1 U1).mono ?_; rintro e v2 ⟨rfl, hb2⟩; have G1 := holds_new hb2; have T2 : Tabs (v2.alloc (.cells #[.int .u8 un, .bool true, .bool false, .bool false, .int .u8 0] 28)) := (T1.below hb2).below ((Below.refl _ _).alloc (Nat.le_refl _) _); have U2 : TabsU (v2.alloc (.cells #[.int .u8 un, .bool true, .bool false, .bool false, .int .u8 0] 28)) := (U1.below hb2).below ((Below.refl _ _).alloc (Nat.le_refl _) _); replace hb2 := hb1.trans ((below_own hb2).mono hb1.size))
          | (go_at_call_of 9 (Value.bool true); refine (q3 _ T2 U2).mono ?_; rintro e v3 ⟨rfl, hb3⟩; have G2 := holds_new hb3; replace G1 := G1.mono (below_own hb3); have T3 : Tabs (v3.alloc (.cells #[.int .u8 un, .bool true, .bool false, .bool false, .int .u8 0] 28)) := (T2.below hb3).below ((Below.refl _ _).alloc (Nat.le_refl _) _); have e0 : v3.cell? ⟨v1.heap.size, 0, none⟩ = some (.string X) := G1 0 (by simp); have s1 := own_size e0; replace hb3 := hb2.trans ((below_own hb3).mono hb2.size))
          | (go_at_call 10; refine (q4 _ T3).mono ?_; rintro e v4 ⟨rfl, hb4⟩; have G3 := holds_new hb4; replace G1 := G1.mono (below_own hb4); replace G2 := G2.mono (below_own hb4); have T4 : Tabs ((v4.alloc (.cells #[.string X, .int .u8 F, .int .i64 L, .int .i64 3] 24)).alloc (.cells #[.int .u8 n, .int .u8 18, .int .u8 52, .int .u8 86] 5)) := (((T3.below hb4).below ((Below.refl _ _).alloc (Nat.le_refl _) _))).below ((Below.refl _ _).alloc (Nat.le_refl _) _); replace hb4 := hb3.trans ((below_own hb4).mono hb3.size); clear e0 s1)
          | (go_at_call 11; refine (q5 _ _ T4 (holds_alloc2 _ _ _ _)).mono ?_; rintro e v5 ⟨rfl, hb5⟩; have G4 : Holds v5 v4.heap.size #[.string X, .int .u8 F, .int .i64 L, .int .i64 3] := holds_new (below_own hb5); replace hb5 := below_own (below_own hb5); replace G1 := G1.mono hb5; replace G2 := G2.mono hb5; replace G3 := G3.mono hb5; have T5 : Tabs (v5.alloc (.cells #[.string X, .int .i64 A] 33)) := (Tr.below (hb4.trans (hb5.mono hb4.size))).below ((Below.refl _ _).alloc (Nat.le_refl _) _); replace hb5 := hb4.trans (hb5.mono hb4.size); have a0 : v5.cell? ⟨v1.heap.size, 0, none⟩ = some (.string X) := G1 0 (by simp); have a1 : v5.cell? ⟨v1.heap.size, 1, none⟩ = some (.int .u8 F) := G1 1 (by simp); have a2 : v5.cell? ⟨v1.heap.size, 2, none⟩ = some (.int .i64 L) := G1 2 (by simp); have a3 : v5.cell? ⟨v1.heap.size, 3, none⟩ = some (.int .i64 3) := G1 3 (by simp); have b0 : v5.cell? ⟨v2.heap.size, 0, none⟩ = some (.int .u8 un) := G2 0 (by simp); have b1 : v5.cell? ⟨v2.heap.size, 1, none⟩ = some (.bool true) := G2 1 (by simp); have b2 : v5.cell? ⟨v2.heap.size, 2, none⟩ = some (.bool false) := G2 2 (by simp); have b3 : v5.cell? ⟨v2.heap.size, 3, none⟩ = some (.bool false) := G2 3 (by simp); have b4 : v5.cell? ⟨v2.heap.size, 4, none⟩ = some (.int .u8 0) := G2 4 (by simp); have d0 : v5.cell? ⟨v3.heap.size, 0, none⟩ = some (.int .u8 un) := G3 0 (by simp); have d1 : v5.cell? ⟨v3.heap.size, 1, none⟩ = some (.bool true) := G3 1 (by simp); have d2 : v5.cell? ⟨v3.heap.size, 2, none⟩ = some (.bool false) := G3 2 (by simp); have d3 : v5.cell? ⟨v3.heap.size, 3, none⟩ = some (.bool false) := G3 3 (by simp); have d4 : v5.cell? ⟨v3.heap.size, 4, none⟩ = some (.int .u8 0) := G3 4 (by simp); have c0 : v5.cell? ⟨v4.heap.size, 0, none⟩ = some (.string X) := G4 0 (by simp); have c1 : v5.cell? ⟨v4.heap.size, 1, none⟩ = some (.int .u8 F) := G4 1 (by simp); have c2 : v5.cell? ⟨v4.heap.size, 2, none⟩ = some (.int .i64 L) := G4 2 (by simp); have c3 : v5.cell? ⟨v4.heap.size, 3, none⟩ = some (.int .i64 3) := G4 3 (by simp); have s1 := own_size a0; have s2 := own_size b0; have s3 := own_size d0; have s4 := own_size c0)
          | (go_at_call 12; refine (q6 _ T5).mono ?_; rintro e v6 ⟨b, hbb, rfl, hb0, hb6⟩; replace G1 := G1.mono (below_own hb6); have a2' : v6.cell? ⟨v1.heap.size, 2, none⟩ = some (.int .i64 L) := G1 2 (by simp); replace hb6 := hb5.trans ((below_own hb6).mono hb5.size); have ib : ∀ w, (Instr.indexAt 37 (.slice (some ⟨b, 0, none⟩) L L) (.int .i64 0)).run Tryd.prog w = .ok (.pointer (some ⟨b, 0, none⟩)) w := fun w => idxS (g := b) (off := 0) Tryd.underlying37 (s := 1) (by kernel_rfl) .i64 0 w (by omega)))
        go_roundw
        case rel => exact ⟨n + 1, by omega, by simp, HB.trans (hb6.mono HB.size)⟩
        case measure => simp [intOf]; omega
      · obtain ⟨hc, h12, hr, hw, ho, hp, hf3⟩ := cl1 n hlt hcl
        rw [hP] at hp
        rw [hF] at hf3
        subst hp
        have hsec : busV n true = .agg #[.int .u8 0, .bool false, .bool false, .bool false, .int .u8 0] := by
          unfold busV
          rw [if_pos ⟨rfl, h12⟩]
          rfl
        obtain ⟨q1, q2, q3, q4, q5, q6⟩ := ops_calls n hlt X F L 2 un 0 true false false A _ _ _ _ _ hX hF hL hc hun hP hr hw ho hA hsec
        simp only [Int.cast_ofNat_Int] at q1 q2 q3 q4
        clear hX hF hL hc hun hP hr hw ho hA hsec h12 hne hXl
        go_wp2_with (first
          | (go_at_call 8; refine (q1 _ Tr).mono ?_; rintro e v1 ⟨rfl, hb1⟩; have T1 : Tabs (v1.alloc (.cells #[.string X, .int .u8 F, .int .i64 L, .int .i64 2] 24)) := (Tr.below hb1).below ((Below.refl _ _).alloc (Nat.le_refl _) _); have U1 : TabsU (v1.alloc (.cells #[.string X, .int .u8 F, .int .i64 L, .int .i64 2] 24)) := (Ur.below hb1).below ((Below.refl _ _).alloc (Nat.le_refl _) _))
          | (go_at_call_of 9 (Value.bool false); refine (q2 _ T1 U1).mono ?_; rintro e v2 ⟨rfl, hb2⟩; have G1 := holds_new hb2; have T2 : Tabs (v2.alloc (.cells #[.int .u8 un, .bool true, .bool false, .bool false, .int .u8 0] 28)) := (T1.below hb2).below ((Below.refl _ _).alloc (Nat.le_refl _) _); have U2 : TabsU (v2.alloc (.cells #[.int .u8 un, .bool true, .bool false, .bool false, .int .u8 0] 28)) := (U1.below hb2).below ((Below.refl _ _).alloc (Nat.le_refl _) _); replace hb2 := hb1.trans ((below_own hb2).mono hb1.size))
          | (go_at_call_of 9 (Value.bool true); refine (q3 _ T2 U2).mono ?_; rintro e v3 ⟨rfl, hb3⟩; have G2 := holds_new hb3; replace G1 := G1.mono (below_own hb3); have T3 : Tabs (v3.alloc (.cells #[.int .u8 0, .bool false, .bool false, .bool false, .int .u8 0] 28)) := (T2.below hb3).below ((Below.refl _ _).alloc (Nat.le_refl _) _); have e0 : v3.cell? ⟨v1.heap.size, 0, none⟩ = some (.string X) := G1 0 (by simp); have s1 := own_size e0; replace hb3 := hb2.trans ((below_own hb3).mono hb2.size))
          | (go_at_call 10; refine (q4 _ T3).mono ?_; rintro e v4 ⟨rfl, hb4⟩; have G3 := holds_new hb4; replace G1 := G1.mono (below_own hb4); replace G2 := G2.mono (below_own hb4); have T4 : Tabs ((v4.alloc (.cells #[.string X, .int .u8 F, .int .i64 L, .int .i64 2] 24)).alloc (.cells #[.int .u8 n, .int .u8 18, .int .u8 52, .int .u8 86] 5)) := (((T3.below hb4).below ((Below.refl _ _).alloc (Nat.le_refl _) _))).below ((Below.refl _ _).alloc (Nat.le_refl _) _); replace hb4 := hb3.trans ((below_own hb4).mono hb3.size); clear e0 s1)
          | (go_at_call 11; refine (q5 _ _ T4 (holds_alloc2 _ _ _ _)).mono ?_; rintro e v5 ⟨rfl, hb5⟩; have G4 : Holds v5 v4.heap.size #[.string X, .int .u8 F, .int .i64 L, .int .i64 2] := holds_new (below_own hb5); replace hb5 := below_own (below_own hb5); replace G1 := G1.mono hb5; replace G2 := G2.mono hb5; replace G3 := G3.mono hb5; have T5 : Tabs (v5.alloc (.cells #[.string X, .int .i64 A] 33)) := (Tr.below (hb4.trans (hb5.mono hb4.size))).below ((Below.refl _ _).alloc (Nat.le_refl _) _); replace hb5 := hb4.trans (hb5.mono hb4.size); have a0 : v5.cell? ⟨v1.heap.size, 0, none⟩ = some (.string X) := G1 0 (by simp); have a1 : v5.cell? ⟨v1.heap.size, 1, none⟩ = some (.int .u8 F) := G1 1 (by simp); have a2 : v5.cell? ⟨v1.heap.size, 2, none⟩ = some (.int .i64 L) := G1 2 (by simp); have a3 : v5.cell? ⟨v1.heap.size, 3, none⟩ = some (.int .i64 2) := G1 3 (by simp); have b0 : v5.cell? ⟨v2.heap.size, 0, none⟩ = some (.int .u8 un) := G2 0 (by simp); have b1 : v5.cell? ⟨v2.heap.size, 1, none⟩ = some (.bool true) := G2 1 (by simp); have b2 : v5.cell? ⟨v2.heap.size, 2, none⟩ = some (.bool false) := G2 2 (by simp); have b3 : v5.cell? ⟨v2.heap.size, 3, none⟩ = some (.bool false) := G2 3 (by simp); have b4 : v5.cell? ⟨v2.heap.size, 4, none⟩ = some (.int .u8 0) := G2 4 (by simp); have d0 : v5.cell? ⟨v3.heap.size, 0, none⟩ = some (.int .u8 0) := G3 0 (by simp); have d1 : v5.cell? ⟨v3.heap.size, 1, none⟩ = some (.bool false) := G3 1 (by simp); have d2 : v5.cell? ⟨v3.heap.size, 2, none⟩ = some (.bool false) := G3 2 (by simp); have d3 : v5.cell? ⟨v3.heap.size, 3, none⟩ = some (.bool false) := G3 3 (by simp); have d4 : v5.cell? ⟨v3.heap.size, 4, none⟩ = some (.int .u8 0) := G3 4 (by simp); have c0 : v5.cell? ⟨v4.heap.size, 0, none⟩ = some (.string X) := G4 0 (by simp); have c1 : v5.cell? ⟨v4.heap.size, 1, none⟩ = some (.int .u8 F) := G4 1 (by simp); have c2 : v5.cell? ⟨v4.heap.size, 2, none⟩ = some (.int .i64 L) := G4 2 (by simp); have c3 : v5.cell? ⟨v4.heap.size, 3, none⟩ = some (.int .i64 2) := G4 3 (by simp); have s1 := own_size a0; have s2 := own_size b0; have s3 := own_size d0; have s4 := own_size c0)
          | (go_at_call 12; refine (q6 _ T5).mono ?_; rintro e v6 ⟨b, hbb, rfl, hb0, hb6⟩; replace G1 := G1.mono (below_own hb6); have a2' : v6.cell? ⟨v1.heap.size, 2, none⟩ = some (.int .i64 L) := G1 2 (by simp); replace hb6 := hb5.trans ((below_own hb6).mono hb5.size); have ib : ∀ w, (Instr.indexAt 37 (.slice (some ⟨b, 0, none⟩) L L) (.int .i64 0)).run Tryd.prog w = .ok (.pointer (some ⟨b, 0, none⟩)) w := fun w => idxS (g := b) (off := 0) Tryd.underlying37 (s := 1) (by kernel_rfl) .i64 0 w (by omega)))
        go_roundw
        case rel => exact ⟨n + 1, by omega, by simp, HB.trans (hb6.mono HB.size)⟩
        case measure => simp [intOf]; omega
      · obtain ⟨hc, h12, hr, hw, ho, hp, hf3⟩ := cl2 n hlt hcl
        rw [hP] at hp
        rw [hF] at hf3
        subst hp
        have hsec : busV n true = .agg #[.int .u8 0, .bool false, .bool false, .bool false, .int .u8 0] := by
          unfold busV
          rw [if_pos ⟨rfl, h12⟩]
          rfl
        obtain ⟨q1, q2, q3, q4, q5, q6⟩ := ops_calls n hlt X F L 2 un 0 false false false A _ _ _ _ _ hX hF hL hc hun hP hr hw ho hA hsec
        simp only [Int.cast_ofNat_Int] at q1 q2 q3 q4
        clear hX hF hL hc hun hP hr hw ho hA hsec h12 hne hXl
        go_wp2_with (first
          | (go_at_call 8; refine (q1 _ Tr).mono ?_; rintro e v1 ⟨rfl, hb1⟩; have T1 : Tabs (v1.alloc (.cells #[.string X, .int .u8 F, .int .i64 L, .int .i64 2] 24)) := (Tr.below hb1).below ((Below.refl _ _).alloc (Nat.le_refl _) _); have U1 : TabsU (v1.alloc (.cells #[.string X, .int .u8 F, .int .i64 L, .int .i64 2] 24)) := (Ur.below hb1).below ((Below.refl _ _).alloc (Nat.le_refl _) _))
          | (go_at_call_of 9 (Value.bool false); refine (q2 _ T1 U1).mono ?_; rintro e v2 ⟨rfl, hb2⟩; have G1 := holds_new hb2; have T2 : Tabs (v2.alloc (.cells #[.int .u8 un, .bool false, .bool false, .bool false, .int .u8 0] 28)) := (T1.below hb2).below ((Below.refl _ _).alloc (Nat.le_refl _) _); have U2 : TabsU (v2.alloc (.cells #[.int .u8 un, .bool false, .bool false, .bool false, .int .u8 0] 28)) := (U1.below hb2).below ((Below.refl _ _).alloc (Nat.le_refl _) _); replace hb2 := hb1.trans ((below_own hb2).mono hb1.size))
          | (go_at_call_of 9 (Value.bool true); refine (q3 _ T2 U2).mono ?_; rintro e v3 ⟨rfl, hb3⟩; have G2 := holds_new hb3; replace G1 := G1.mono (below_own hb3); have T3 : Tabs (v3.alloc (.cells #[.int .u8 0, .bool false, .bool false, .bool false, .int .u8 0] 28)) := (T2.below hb3).below ((Below.refl _ _).alloc (Nat.le_refl _) _); have e0 : v3.cell? ⟨v1.heap.size, 0, none⟩ = some (.string X) := G1 0 (by simp); have s1 := own_size e0; replace hb3 := hb2.trans ((below_own hb3).mono hb2.size))
          | (go_at_call 10; refine (q4 _ T3).mono ?_; rintro e v4 ⟨rfl, hb4⟩; have G3 := holds_new hb4; replace G1 := G1.mono (below_own hb4); replace G2 := G2.mono (below_own hb4); have T4 : Tabs ((v4.alloc (.cells #[.string X, .int .u8 F, .int .i64 L, .int .i64 2] 24)).alloc (.cells #[.int .u8 n, .int .u8 18, .int .u8 52, .int .u8 86] 5)) := (((T3.below hb4).below ((Below.refl _ _).alloc (Nat.le_refl _) _))).below ((Below.refl _ _).alloc (Nat.le_refl _) _); replace hb4 := hb3.trans ((below_own hb4).mono hb3.size); clear e0 s1)
          | (go_at_call 11; refine (q5 _ _ T4 (holds_alloc2 _ _ _ _)).mono ?_; rintro e v5 ⟨rfl, hb5⟩; have G4 : Holds v5 v4.heap.size #[.string X, .int .u8 F, .int .i64 L, .int .i64 2] := holds_new (below_own hb5); replace hb5 := below_own (below_own hb5); replace G1 := G1.mono hb5; replace G2 := G2.mono hb5; replace G3 := G3.mono hb5; have T5 : Tabs (v5.alloc (.cells #[.string X, .int .i64 A] 33)) := (Tr.below (hb4.trans (hb5.mono hb4.size))).below ((Below.refl _ _).alloc (Nat.le_refl _) _); replace hb5 := hb4.trans (hb5.mono hb4.size); have a0 : v5.cell? ⟨v1.heap.size, 0, none⟩ = some (.string X) := G1 0 (by simp); have a1 : v5.cell? ⟨v1.heap.size, 1, none⟩ = some (.int .u8 F) := G1 1 (by simp); have a2 : v5.cell? ⟨v1.heap.size, 2, none⟩ = some (.int .i64 L) := G1 2 (by simp); have a3 : v5.cell? ⟨v1.heap.size, 3, none⟩ = some (.int .i64 2) := G1 3 (by simp); have b0 : v5.cell? ⟨v2.heap.size, 0, none⟩ = some (.int .u8 un) := G2 0 (by simp); have b1 : v5.cell? ⟨v2.heap.size, 1, none⟩ = some (.bool false) := G2 1 (by simp); have b2 : v5.cell? ⟨v2.heap.size, 2, none⟩ = some (.bool false) := G2 2 (by simp); have b3 : v5.cell? ⟨v2.heap.size, 3, none⟩ = some (.bool false) := G2 3 (by simp); have b4 : v5.cell? ⟨v2.heap.size, 4, none⟩ = some (.int .u8 0) := G2 4 (by simp); have d0 : v5.cell? ⟨v3.heap.size, 0, none⟩ = some (.int .u8 0) := G3 0 (by simp); have d1 : v5.cell? ⟨v3.heap.size, 1, none⟩ = some (.bool false) := G3 1 (by simp); have d2 : v5.cell? ⟨v3.heap.size, 2, none⟩ = some (.bool false) := G3 2 (by simp); have d3 : v5.cell? ⟨v3.heap.size, 3, none⟩ = some (.bool false) := G3 3 (by simp); have d4 : v5.cell? ⟨v3.heap.size, 4, none⟩ = some (.int .u8 0) := G3 4 (by simp); have c0 : v5.cell? ⟨v4.heap.size, 0, none⟩ = some (.string X) := G4 0 (by simp); have c1 : v5.cell? ⟨v4.heap.size, 1, none⟩ = some (.int .u8 F) := G4 1 (by simp); have c2 : v5.cell? ⟨v4.heap.size, 2, none⟩ = some (.int .i64 L) := G4 2 (by simp); have c3 : v5.cell? ⟨v4.heap.size, 3, none⟩ = some (.int .i64 2) := G4 3 (by simp); have s1 := own_size a0; have s2 := own_size b0; have s3 := own_size d0; have s4 := own_size c0)
          | (go_at_call 12; refine (q6 _ T5).mono ?_; rintro e v6 ⟨b, hbb, rfl, hb0, hb6⟩; replace G1 := G1.mono (below_own hb6); have a2' : v6.cell? ⟨v1.heap.size, 2, none⟩ = some (.int .i64 L) := G1 2 (by simp); replace hb6 := hb5.trans ((below_own hb6).mono hb5.size); have ib : ∀ w, (Instr.indexAt 37 (.slice (some ⟨b, 0, none⟩) L L) (.int .i64 0)).run Tryd.prog w = .ok (.pointer (some ⟨b, 0, none⟩)) w := fun w => idxS (g := b) (off := 0) Tryd.underlying37 (s := 1) (by kernel_rfl) .i64 0 w (by omega)))
        go_roundw
        case rel => exact ⟨n + 1, by omega, by simp, HB.trans (hb6.mono HB.size)⟩
        case measure => simp [intOf]; omega
      · obtain ⟨hc, h12, hr, hw, ho, hp, hf3⟩ := cl3 n hlt hcl
        rw [hP] at hp
        rw [hF] at hf3
        subst hp
        have hsec : busV n true = .agg #[.int .u8 0, .bool false, .bool false, .bool false, .int .u8 0] := by
          unfold busV
          rw [if_pos ⟨rfl, h12⟩]
          rfl
        obtain ⟨q1, q2, q3, q4, q5, q6⟩ := ops_calls n hlt X F L 2 un 0 false false true A _ _ _ _ _ hX hF hL hc hun hP hr hw ho hA hsec
        simp only [Int.cast_ofNat_Int] at q1 q2 q3 q4
        clear hX hF hL hc hun hP hr hw ho hA hsec h12 hne hXl
        go_wp2_with (first
          | (go_at_call 8; refine (q1 _ Tr).mono ?_; rintro e v1 ⟨rfl, hb1⟩; have T1 : Tabs (v1.alloc (.cells #[.string X, .int .u8 F, .int .i64 L, .int .i64 2] 24)) := (Tr.below hb1).below ((Below.refl _ _).alloc (Nat.le_refl _) _); have U1 : TabsU (v1.alloc (.cells #[.string X, .int .u8 F, .int .i64 L, .int .i64 2] 24)) := (Ur.below hb1).below ((Below.refl _ _).alloc (Nat.le_refl _) _))
          | (go_at_call_of 9 (Value.bool false); refine (q2 _ T1 U1).mono ?_; rintro e v2 ⟨rfl, hb2⟩; have G1 := holds_new hb2; have T2 : Tabs (v2.alloc (.cells #[.int .u8 un, .bool false, .bool false, .bool true, .int .u8 0] 28)) := (T1.below hb2).below ((Below.refl _ _).alloc (Nat.le_refl _) _); have U2 : TabsU (v2.alloc (.cells #[.int .u8 un, .bool false, .bool false, .bool true, .int .u8 0] 28)) := (U1.below hb2).below ((Below.refl _ _).alloc (Nat.le_refl _) _); replace hb2 := hb1.trans ((below_own hb2).mono hb1.size))
          | (go_at_call_of 9 (Value.bool true); refine (q3 _ T2 U2).mono ?_; rintro e v3 ⟨rfl, hb3⟩; have G2 := holds_new hb3; replace G1 := G1.mono (below_own hb3); have T3 : Tabs (v3.alloc (.cells #[.int .u8 0, .bool false, .bool false, .bool false, .int .u8 0] 28)) := (T2.below hb3).below ((Below.refl _ _).alloc (Nat.le_refl _) _); have e0 : v3.cell? ⟨v1.heap.size, 0, none⟩ = some (.string X) := G1 0 (by simp); have s1 := own_size e0; replace hb3 := hb2.trans ((below_own hb3).mono hb2.size))
          | (go_at_call 10; refine (q4 _ T3).mono ?_; rintro e v4 ⟨rfl, hb4⟩; have G3 := holds_new hb4; replace G1 := G1.mono (below_own hb4); replace G2 := G2.mono (below_own hb4); have T4 : Tabs ((v4.alloc (.cells #[.string X, .int .u8 F, .int .i64 L, .int .i64 2] 24)).alloc (.cells #[.int .u8 n, .int .u8 18, .int .u8 52, .int .u8 86] 5)) := (((T3.below hb4).below ((Below.refl _ _).alloc (Nat.le_refl _) _))).below ((Below.refl _ _).alloc (Nat.le_refl _) _); replace hb4 := hb3.trans ((below_own hb4).mono hb3.size); clear e0 s1)
          | (go_at_call 11; refine (q5 _ _ T4 (holds_alloc2 _ _ _ _)).mono ?_; rintro e v5 ⟨rfl, hb5⟩; have G4 : Holds v5 v4.heap.size #[.string X, .int .u8 F, .int .i64 L, .int .i64 2] := holds_new (below_own hb5); replace hb5 := below_own (below_own hb5); replace G1 := G1.mono hb5; replace G2 := G2.mono hb5; replace G3 := G3.mono hb5; have T5 : Tabs (v5.alloc (.cells #[.string X, .int .i64 A] 33)) := (Tr.below (hb4.trans (hb5.mono hb4.size))).below ((Below.refl _ _).alloc (Nat.le_refl _) _); replace hb5 := hb4.trans (hb5.mono hb4.size); have a0 : v5.cell? ⟨v1.heap.size, 0, none⟩ = some (.string X) := G1 0 (by simp); have a1 : v5.cell? ⟨v1.heap.size, 1, none⟩ = some (.int .u8 F) := G1 1 (by simp); have a2 : v5.cell? ⟨v1.heap.size, 2, none⟩ = some (.int .i64 L) := G1 2 (by simp); have a3 : v5.cell? ⟨v1.heap.size, 3, none⟩ = some (.int .i64 2) := G1 3 (by simp); have b0 : v5.cell? ⟨v2.heap.size, 0, none⟩ = some (.int .u8 un) := G2 0 (by simp); have b1 : v5.cell? ⟨v2.heap.size, 1, none⟩ = some (.bool false) := G2 1 (by simp); have b2 : v5.cell? ⟨v2.heap.size, 2, none⟩ = some (.bool false) := G2 2 (by simp); have b3 : v5.cell? ⟨v2.heap.size, 3, none⟩ = some (.bool true) := G2 3 (by simp); have b4 : v5.cell? ⟨v2.heap.size, 4, none⟩ = some (.int .u8 0) := G2 4 (by simp); have d0 : v5.cell? ⟨v3.heap.size, 0, none⟩ = some (.int .u8 0) := G3 0 (by simp); have d1 : v5.cell? ⟨v3.heap.size, 1, none⟩ = some (.bool false) := G3 1 (by simp); have d2 : v5.cell? ⟨v3.heap.size, 2, none⟩ = some (.bool false) := G3 2 (by simp); have d3 : v5.cell? ⟨v3.heap.size, 3, none⟩ = some (.bool false) := G3 3 (by simp); have d4 : v5.cell? ⟨v3.heap.size, 4, none⟩ = some (.int .u8 0) := G3 4 (by simp); have c0 : v5.cell? ⟨v4.heap.size, 0, none⟩ = some (.string X) := G4 0 (by simp); have c1 : v5.cell? ⟨v4.heap.size, 1, none⟩ = some (.int .u8 F) := G4 1 (by simp); have c2 : v5.cell? ⟨v4.heap.size, 2, none⟩ = some (.int .i64 L) := G4 2 (by simp); have c3 : v5.cell? ⟨v4.heap.size, 3, none⟩ = some (.int .i64 2) := G4 3 (by simp); have s1 := own_size a0; have s2 := own_size b0; have s3 := own_size d0; have s4 := own_size c0)
          | (go_at_call 12; refine (q6 _ T5).mono ?_; rintro e v6 ⟨b, hbb, rfl, hb0, hb6⟩; replace G1 := G1.mono (below_own hb6); have a2' : v6.cell? ⟨v1.heap.size, 2, none⟩ = some (.int .i64 L) := G1 2 (by simp); replace hb6 := hb5.trans ((below_own hb6).mono hb5.size); have ib : ∀ w, (Instr.indexAt 37 (.slice (some ⟨b, 0, none⟩) L L) (.int .i64 0)).run Tryd.prog w = .ok (.pointer (some ⟨b, 0, none⟩)) w := fun w => idxS (g := b) (off := 0) Tryd.underlying37 (s := 1) (by kernel_rfl) .i64 0 w (by omega)))
        go_roundw
        case rel => exact ⟨n + 1, by omega, by simp, HB.trans (hb6.mono HB.size)⟩
        case measure => simp [intOf]; omega
      · obtain ⟨hc, h12, hr, hw, ho, hp, hf3⟩ := cl4 n hlt hcl
        rw [hP] at hp
        rw [hF] at hf3
        subst hp
        have hsec : busV n true = .agg #[.int .u8 0, .bool false, .bool false, .bool false, .int .u8 0] := by
          unfold busV
          rw [if_pos ⟨rfl, h12⟩]
          rfl
        have hq1 : (X.toList == [73, 78, 80]) = false := by rw [hXl]; have := cl4' n hlt hcl; simpa [inp] using this
        have hq2 : (X.toList == (⟨#[73, 78, 80]⟩ : ByteArray).toList) = false := by rw [toList_eq ⟨#[73, 78, 80]⟩]; exact hq1
        obtain ⟨q1, q2, q3, q4, q5, q6⟩ := ops_calls n hlt X F L 2 un 0 false true true A _ _ _ _ _ hX hF hL hc hun hP hr hw ho hA hsec
        simp only [Int.cast_ofNat_Int] at q1 q2 q3 q4
        clear hX hF hL hc hun hP hr hw ho hA hsec h12 hne hXl
        go_wp2_with (first
          | (go_at_call 8; refine (q1 _ Tr).mono ?_; rintro e v1 ⟨rfl, hb1⟩; have T1 : Tabs (v1.alloc (.cells #[.string X, .int .u8 F, .int .i64 L, .int .i64 2] 24)) := (Tr.below hb1).below ((Below.refl _ _).alloc (Nat.le_refl _) _); have U1 : TabsU (v1.alloc (.cells #[.string X, .int .u8 F, .int .i64 L, .int .i64 2] 24)) := (Ur.below hb1).below ((Below.refl _ _).alloc (Nat.le_refl _) _))
          | (go_at_call_of 9 (Value.bool false); refine (q2 _ T1 U1).mono ?_; rintro e v2 ⟨rfl, hb2⟩; have G1 := holds_new hb2; have T2 : Tabs (v2.alloc (.cells #[.int .u8 un, .bool false, .bool true, .bool true, .int .u8 0] 28)) := (T1.below hb2).below ((Below.refl _ _).alloc (Nat.le_refl _) _); have U2 : TabsU (v2.alloc (.cells #[.int .u8 un, .bool false, .bool true, .bool true, .int .u8 0] 28)) := (U1.below hb2).below ((Below.refl _ _).alloc (Nat.le_refl _) _); replace hb2 := hb1.trans ((below_own hb2).mono hb1.size))
          | (go_at_call_of 9 (Value.bool true); refine (q3 _ T2 U2).mono ?_; rintro e v3 ⟨rfl, hb3⟩; have G2 := holds_new hb3; replace G1 := G1.mono (below_own hb3); have T3 : Tabs (v3.alloc (.cells #[.int .u8 0, .bool false, .bool false, .bool false, .int .u8 0] 28)) := (T2.below hb3).below ((Below.refl _ _).alloc (Nat.le_refl _) _); have e0 : v3.cell? ⟨v1.heap.size, 0, none⟩ = some (.string X) := G1 0 (by simp); have s1 := own_size e0; replace hb3 := hb2.trans ((below_own hb3).mono hb2.size))
          | (go_at_call 10; refine (q4 _ T3).mono ?_; rintro e v4 ⟨rfl, hb4⟩; have G3 := holds_new hb4; replace G1 := G1.mono (below_own hb4); replace G2 := G2.mono (below_own hb4); have T4 : Tabs ((v4.alloc (.cells #[.string X, .int .u8 F, .int .i64 L, .int .i64 2] 24)).alloc (.cells #[.int .u8 n, .int .u8 18, .int .u8 52, .int .u8 86] 5)) := (((T3.below hb4).below ((Below.refl _ _).alloc (Nat.le_refl _) _))).below ((Below.refl _ _).alloc (Nat.le_refl _) _); replace hb4 := hb3.trans ((below_own hb4).mono hb3.size); clear e0 s1)
          | (go_at_call 11; refine (q5 _ _ T4 (holds_alloc2 _ _ _ _)).mono ?_; rintro e v5 ⟨rfl, hb5⟩; have G4 : Holds v5 v4.heap.size #[.string X, .int .u8 F, .int .i64 L, .int .i64 2] := holds_new (below_own hb5); replace hb5 := below_own (below_own hb5); replace G1 := G1.mono hb5; replace G2 := G2.mono hb5; replace G3 := G3.mono hb5; have T5 : Tabs (v5.alloc (.cells #[.string X, .int .i64 A] 33)) := (Tr.below (hb4.trans (hb5.mono hb4.size))).below ((Below.refl _ _).alloc (Nat.le_refl _) _); replace hb5 := hb4.trans (hb5.mono hb4.size); have a0 : v5.cell? ⟨v1.heap.size, 0, none⟩ = some (.string X) := G1 0 (by simp); have a1 : v5.cell? ⟨v1.heap.size, 1, none⟩ = some (.int .u8 F) := G1 1 (by simp); have a2 : v5.cell? ⟨v1.heap.size, 2, none⟩ = some (.int .i64 L) := G1 2 (by simp); have a3 : v5.cell? ⟨v1.heap.size, 3, none⟩ = some (.int .i64 2) := G1 3 (by simp); have b0 : v5.cell? ⟨v2.heap.size, 0, none⟩ = some (.int .u8 un) := G2 0 (by simp); have b1 : v5.cell? ⟨v2.heap.size, 1, none⟩ = some (.bool false) := G2 1 (by simp); have b2 : v5.cell? ⟨v2.heap.size, 2, none⟩ = some (.bool true) := G2 2 (by simp); have b3 : v5.cell? ⟨v2.heap.size, 3, none⟩ = some (.bool true) := G2 3 (by simp); have b4 : v5.cell? ⟨v2.heap.size, 4, none⟩ = some (.int .u8 0) := G2 4 (by simp); have d0 : v5.cell? ⟨v3.heap.size, 0, none⟩ = some (.int .u8 0) := G3 0 (by simp); have d1 : v5.cell? ⟨v3.heap.size, 1, none⟩ = some (.bool false) := G3 1 (by simp); have d2 : v5.cell? ⟨v3.heap.size, 2, none⟩ = some (.bool false) := G3 2 (by simp); have d3 : v5.cell? ⟨v3.heap.size, 3, none⟩ = some (.bool false) := G3 3 (by simp); have d4 : v5.cell? ⟨v3.heap.size, 4, none⟩ = some (.int .u8 0) := G3 4 (by simp); have c0 : v5.cell? ⟨v4.heap.size, 0, none⟩ = some (.string X) := G4 0 (by simp); have c1 : v5.cell? ⟨v4.heap.size, 1, none⟩ = some (.int .u8 F) := G4 1 (by simp); have c2 : v5.cell? ⟨v4.heap.size, 2, none⟩ = some (.int .i64 L) := G4 2 (by simp); have c3 : v5.cell? ⟨v4.heap.size, 3, none⟩ = some (.int .i64 2) := G4 3 (by simp); have s1 := own_size a0; have s2 := own_size b0; have s3 := own_size d0; have s4 := own_size c0)
          | (go_at_call 12; refine (q6 _ T5).mono ?_; rintro e v6 ⟨b, hbb, rfl, hb0, hb6⟩; replace G1 := G1.mono (below_own hb6); have a2' : v6.cell? ⟨v1.heap.size, 2, none⟩ = some (.int .i64 L) := G1 2 (by simp); replace hb6 := hb5.trans ((below_own hb6).mono hb5.size); have ib : ∀ w, (Instr.indexAt 37 (.slice (some ⟨b, 0, none⟩) L L) (.int .i64 0)).run Tryd.prog w = .ok (.pointer (some ⟨b, 0, none⟩)) w := fun w => idxS (g := b) (off := 0) Tryd.underlying37 (s := 1) (by kernel_rfl) .i64 0 w (by omega)))
        go_roundw
        case rel => exact ⟨n + 1, by omega, by simp, HB.trans (hb6.mono HB.size)⟩
        case measure => simp [intOf]; omega
      · obtain ⟨hc, h12, hr, hw, ho, hf3⟩ := cl5 n hlt hcl
        obtain ⟨hp1, hp7, hpa⟩ := cl56 n hlt (by omega)
        rw [hP] at hp1 hp7 hpa
        rw [hF] at hf3
        rw [hA] at hpa
        subst hf3
        subst hpa
        have hsec : busV n true = .agg #[.int .u8 0, .bool false, .bool false, .bool false, .int .u8 0] := by
          unfold busV
          rw [if_pos ⟨rfl, h12⟩]
          rfl
        have hP0 : ((P : Int) != 0) = true := by simp; omega
        obtain ⟨q1, q2, q3, q4, q5, q6⟩ := ops_calls n hlt X 3 L 2 un P true false false P _ _ _ _ _ hX hF hL hc hun hP hr hw ho hA hsec
        simp only [Int.cast_ofNat_Int] at q1 q2 q3 q4
        clear hX hF hL hc hun hP hr hw ho hA hsec h12 hne hXl
        go_wp2_with (first
          | (go_at_call 8; refine (q1 _ Tr).mono ?_; rintro e v1 ⟨rfl, hb1⟩; have T1 : Tabs (v1.alloc (.cells #[.string X, .int .u8 3, .int .i64 L, .int .i64 2] 24)) := (Tr.below hb1).below ((Below.refl _ _).alloc (Nat.le_refl _) _); have U1 : TabsU (v1.alloc (.cells #[.string X, .int .u8 3, .int .i64 L, .int .i64 2] 24)) := (Ur.below hb1).below ((Below.refl _ _).alloc (Nat.le_refl _) _))
          | (go_at_call_of 9 (Value.bool false); refine (q2 _ T1 U1).mono ?_; rintro e v2 ⟨rfl, hb2⟩; have G1 := holds_new hb2; have T2 : Tabs (v2.alloc (.cells #[.int .u8 un, .bool true, .bool false, .bool false, .int .u8 P] 28)) := (T1.below hb2).below ((Below.refl _ _).alloc (Nat.le_refl _) _); have U2 : TabsU (v2.alloc (.cells #[.int .u8 un, .bool true, .bool false, .bool false, .int .u8 P] 28)) := (U1.below hb2).below ((Below.refl _ _).alloc (Nat.le_refl _) _); replace hb2 := hb1.trans ((below_own hb2).mono hb1.size))
          | (go_at_call_of 9 (Value.bool true); refine (q3 _ T2 U2).mono ?_; rintro e v3 ⟨rfl, hb3⟩; have G2 := holds_new hb3; replace G1 := G1.mono (below_own hb3); have T3 : Tabs (v3.alloc (.cells #[.int .u8 0, .bool false, .bool false, .bool false, .int .u8 0] 28)) := (T2.below hb3).below ((Below.refl _ _).alloc (Nat.le_refl _) _); have e0 : v3.cell? ⟨v1.heap.size, 0, none⟩ = some (.string X) := G1 0 (by simp); have s1 := own_size e0; replace hb3 := hb2.trans ((below_own hb3).mono hb2.size))
          | (go_at_call 10; refine (q4 _ T3).mono ?_; rintro e v4 ⟨rfl, hb4⟩; have G3 := holds_new hb4; replace G1 := G1.mono (below_own hb4); replace G2 := G2.mono (below_own hb4); have T4 : Tabs ((v4.alloc (.cells #[.string X, .int .u8 3, .int .i64 L, .int .i64 2] 24)).alloc (.cells #[.int .u8 n, .int .u8 18, .int .u8 52, .int .u8 86] 5)) := (((T3.below hb4).below ((Below.refl _ _).alloc (Nat.le_refl _) _))).below ((Below.refl _ _).alloc (Nat.le_refl _) _); replace hb4 := hb3.trans ((below_own hb4).mono hb3.size); clear e0 s1)
          | (go_at_call 11; refine (q5 _ _ T4 (holds_alloc2 _ _ _ _)).mono ?_; rintro e v5 ⟨rfl, hb5⟩; have G4 : Holds v5 v4.heap.size #[.string X, .int .u8 3, .int .i64 L, .int .i64 2] := holds_new (below_own hb5); replace hb5 := below_own (below_own hb5); replace G1 := G1.mono hb5; replace G2 := G2.mono hb5; replace G3 := G3.mono hb5; have T5 : Tabs (v5.alloc (.cells #[.string X, .int .i64 P] 33)) := (Tr.below (hb4.trans (hb5.mono hb4.size))).below ((Below.refl _ _).alloc (Nat.le_refl _) _); replace hb5 := hb4.trans (hb5.mono hb4.size); have a0 : v5.cell? ⟨v1.heap.size, 0, none⟩ = some (.string X) := G1 0 (by simp); have a1 : v5.cell? ⟨v1.heap.size, 1, none⟩ = some (.int .u8 3) := G1 1 (by simp); have a2 : v5.cell? ⟨v1.heap.size, 2, none⟩ = some (.int .i64 L) := G1 2 (by simp); have a3 : v5.cell? ⟨v1.heap.size, 3, none⟩ = some (.int .i64 2) := G1 3 (by simp); have b0 : v5.cell? ⟨v2.heap.size, 0, none⟩ = some (.int .u8 un) := G2 0 (by simp); have b1 : v5.cell? ⟨v2.heap.size, 1, none⟩ = some (.bool true) := G2 1 (by simp); have b2 : v5.cell? ⟨v2.heap.size, 2, none⟩ = some (.bool false) := G2 2 (by simp); have b3 : v5.cell? ⟨v2.heap.size, 3, none⟩ = some (.bool false) := G2 3 (by simp); have b4 : v5.cell? ⟨v2.heap.size, 4, none⟩ = some (.int .u8 P) := G2 4 (by simp); have d0 : v5.cell? ⟨v3.heap.size, 0, none⟩ = some (.int .u8 0) := G3 0 (by simp); have d1 : v5.cell? ⟨v3.heap.size, 1, none⟩ = some (.bool false) := G3 1 (by simp); have d2 : v5.cell? ⟨v3.heap.size, 2, none⟩ = some (.bool false) := G3 2 (by simp); have d3 : v5.cell? ⟨v3.heap.size, 3, none⟩ = some (.bool false) := G3 3 (by simp); have d4 : v5.cell? ⟨v3.heap.size, 4, none⟩ = some (.int .u8 0) := G3 4 (by simp); have c0 : v5.cell? ⟨v4.heap.size, 0, none⟩ = some (.string X) := G4 0 (by simp); have c1 : v5.cell? ⟨v4.heap.size, 1, none⟩ = some (.int .u8 3) := G4 1 (by simp); have c2 : v5.cell? ⟨v4.heap.size, 2, none⟩ = some (.int .i64 L) := G4 2 (by simp); have c3 : v5.cell? ⟨v4.heap.size, 3, none⟩ = some (.int .i64 2) := G4 3 (by simp); have s1 := own_size a0; have s2 := own_size b0; have s3 := own_size d0; have s4 := own_size c0)
          | (go_at_call 12; refine (q6 _ T5).mono ?_; rintro e v6 ⟨b, hbb, rfl, hb0, hb6⟩; replace G1 := G1.mono (below_own hb6); have a2' : v6.cell? ⟨v1.heap.size, 2, none⟩ = some (.int .i64 L) := G1 2 (by simp); replace hb6 := hb5.trans ((below_own hb6).mono hb5.size); have ib : ∀ w, (Instr.indexAt 37 (.slice (some ⟨b, 0, none⟩) L L) (.int .i64 0)).run Tryd.prog w = .ok (.pointer (some ⟨b, 0, none⟩)) w := fun w => idxS (g := b) (off := 0) Tryd.underlying37 (s := 1) (by kernel_rfl) .i64 0 w (by omega)))
        go_roundw
        case rel => exact ⟨n + 1, by omega, by simp, HB.trans (hb6.mono HB.size)⟩
        case measure => simp [intOf]; omega
      · obtain ⟨hc, h12, hr, hw, ho, hf3, hinp⟩ := cl6 n hlt hcl
        obtain ⟨hp1, hp7, hpa⟩ := cl56 n hlt (by omega)
        rw [hP] at hp1 hp7 hpa
        rw [hF] at hf3
        rw [hA] at hpa
        subst hf3
        subst hpa
        have hsec : busV n true = .agg #[.int .u8 0, .bool false, .bool false, .bool false, .int .u8 0] := by
          unfold busV
          rw [if_pos ⟨rfl, h12⟩]
          rfl
        have hP0 : ((P : Int) != 0) = true := by simp; omega
        have hq1 : (X.toList == [73, 78, 80]) = true := by rw [hXl, hinp]; rfl
        have hq2 : (X.toList == (⟨#[73, 78, 80]⟩ : ByteArray).toList) = true := by rw [toList_eq ⟨#[73, 78, 80]⟩]; exact hq1
        obtain ⟨q1, q2, q3, q4, q5, q6⟩ := ops_calls n hlt X 3 L 2 un P false true false P _ _ _ _ _ hX hF hL hc hun hP hr hw ho hA hsec
        simp only [Int.cast_ofNat_Int] at q1 q2 q3 q4
        clear hX hF hL hc hun hP hr hw ho hA hsec h12 hne hXl
        go_wp2_with (first
          | (go_at_call 8; refine (q1 _ Tr).mono ?_; rintro e v1 ⟨rfl, hb1⟩; have T1 : Tabs (v1.alloc (.cells #[.string X, .int .u8 3, .int .i64 L, .int .i64 2] 24)) := (Tr.below hb1).below ((Below.refl _ _).alloc (Nat.le_refl _) _); have U1 : TabsU (v1.alloc (.cells #[.string X, .int .u8 3, .int .i64 L, .int .i64 2] 24)) := (Ur.below hb1).below ((Below.refl _ _).alloc (Nat.le_refl _) _))
          | (go_at_call_of 9 (Value.bool false); refine (q2 _ T1 U1).mono ?_; rintro e v2 ⟨rfl, hb2⟩; have G1 := holds_new hb2; have T2 : Tabs (v2.alloc (.cells #[.int .u8 un, .bool false, .bool true, .bool false, .int .u8 P] 28)) := (T1.below hb2).below ((Below.refl _ _).alloc (Nat.le_refl _) _); have U2 : TabsU (v2.alloc (.cells #[.int .u8 un, .bool false, .bool true, .bool false, .int .u8 P] 28)) := (U1.below hb2).below ((Below.refl _ _).alloc (Nat.le_refl _) _); replace hb2 := hb1.trans ((below_own hb2).mono hb1.size))
          | (go_at_call_of 9 (Value.bool true); refine (q3 _ T2 U2).mono ?_; rintro e v3 ⟨rfl, hb3⟩; have G2 := holds_new hb3; replace G1 := G1.mono (below_own hb3); have T3 : Tabs (v3.alloc (.cells #[.int .u8 0, .bool false, .bool false, .bool false, .int .u8 0] 28)) := (T2.below hb3).below ((Below.refl _ _).alloc (Nat.le_refl _) _); have e0 : v3.cell? ⟨v1.heap.size, 0, none⟩ = some (.string X) := G1 0 (by simp); have s1 := own_size e0; replace hb3 := hb2.trans ((below_own hb3).mono hb2.size))
          | (go_at_call 10; refine (q4 _ T3).mono ?_; rintro e v4 ⟨rfl, hb4⟩; have G3 := holds_new hb4; replace G1 := G1.mono (below_own hb4); replace G2 := G2.mono (below_own hb4); have T4 : Tabs ((v4.alloc (.cells #[.string X, .int .u8 3, .int .i64 L, .int .i64 2] 24)).alloc (.cells #[.int .u8 n, .int .u8 18, .int .u8 52, .int .u8 86] 5)) := (((T3.below hb4).below ((Below.refl _ _).alloc (Nat.le_refl _) _))).below ((Below.refl _ _).alloc (Nat.le_refl _) _); replace hb4 := hb3.trans ((below_own hb4).mono hb3.size); clear e0 s1)
          | (go_at_call 11; refine (q5 _ _ T4 (holds_alloc2 _ _ _ _)).mono ?_; rintro e v5 ⟨rfl, hb5⟩; have G4 : Holds v5 v4.heap.size #[.string X, .int .u8 3, .int .i64 L, .int .i64 2] := holds_new (below_own hb5); replace hb5 := below_own (below_own hb5); replace G1 := G1.mono hb5; replace G2 := G2.mono hb5; replace G3 := G3.mono hb5; have T5 : Tabs (v5.alloc (.cells #[.string X, .int .i64 P] 33)) := (Tr.below (hb4.trans (hb5.mono hb4.size))).below ((Below.refl _ _).alloc (Nat.le_refl _) _); replace hb5 := hb4.trans (hb5.mono hb4.size); have a0 : v5.cell? ⟨v1.heap.size, 0, none⟩ = some (.string X) := G1 0 (by simp); have a1 : v5.cell? ⟨v1.heap.size, 1, none⟩ = some (.int .u8 3) := G1 1 (by simp); have a2 : v5.cell? ⟨v1.heap.size, 2, none⟩ = some (.int .i64 L) := G1 2 (by simp); have a3 : v5.cell? ⟨v1.heap.size, 3, none⟩ = some (.int .i64 2) := G1 3 (by simp); have b0 : v5.cell? ⟨v2.heap.size, 0, none⟩ = some (.int .u8 un) := G2 0 (by simp); have b1 : v5.cell? ⟨v2.heap.size, 1, none⟩ = some (.bool false) := G2 1 (by simp); have b2 : v5.cell? ⟨v2.heap.size, 2, none⟩ = some (.bool true) := G2 2 (by simp); have b3 : v5.cell? ⟨v2.heap.size, 3, none⟩ = some (.bool false) := G2 3 (by simp); have b4 : v5.cell? ⟨v2.heap.size, 4, none⟩ = some (.int .u8 P) := G2 4 (by simp); have d0 : v5.cell? ⟨v3.heap.size, 0, none⟩ = some (.int .u8 0) := G3 0 (by simp); have d1 : v5.cell? ⟨v3.heap.size, 1, none⟩ = some (.bool false) := G3 1 (by simp); have d2 : v5.cell? ⟨v3.heap.size, 2, none⟩ = some (.bool false) := G3 2 (by simp); have d3 : v5.cell? ⟨v3.heap.size, 3, none⟩ = some (.bool false) := G3 3 (by simp); have d4 : v5.cell? ⟨v3.heap.size, 4, none⟩ = some (.int .u8 0) := G3 4 (by simp); have c0 : v5.cell? ⟨v4.heap.size, 0, none⟩ = some (.string X) := G4 0 (by simp); have c1 : v5.cell? ⟨v4.heap.size, 1, none⟩ = some (.int .u8 3) := G4 1 (by simp); have c2 : v5.cell? ⟨v4.heap.size, 2, none⟩ = some (.int .i64 L) := G4 2 (by simp); have c3 : v5.cell? ⟨v4.heap.size, 3, none⟩ = some (.int .i64 2) := G4 3 (by simp); have s1 := own_size a0; have s2 := own_size b0; have s3 := own_size d0; have s4 := own_size c0)
          | (go_at_call 12; refine (q6 _ T5).mono ?_; rintro e v6 ⟨b, hbb, rfl, hb0, hb6⟩; replace G1 := G1.mono (below_own hb6); have a2' : v6.cell? ⟨v1.heap.size, 2, none⟩ = some (.int .i64 L) := G1 2 (by simp); replace hb6 := hb5.trans ((below_own hb6).mono hb5.size); have ib : ∀ w, (Instr.indexAt 37 (.slice (some ⟨b, 0, none⟩) L L) (.int .i64 0)).run Tryd.prog w = .ok (.pointer (some ⟨b, 0, none⟩)) w := fun w => idxS (g := b) (off := 0) Tryd.underlying37 (s := 1) (by kernel_rfl) .i64 0 w (by omega)))
        go_roundw
        case rel => exact ⟨n + 1, by omega, by simp, HB.trans (hb6.mono HB.size)⟩
        case measure => simp [intOf]; omega
    · have hn' : n = 256 := by omega
      subst hn'
      go_wp2
      go_ret
      exact ⟨rfl, HB⟩
end Go.Proofs.YtbllnjifmcodbaaDoor
