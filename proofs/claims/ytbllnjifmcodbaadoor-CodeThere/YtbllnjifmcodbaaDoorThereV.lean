/- vesperlaw02.CodeThere, walked where the instruction can be encoded. -/
import Derived.Test.YtbllnjifmcodbaaDoorThereW
namespace Go.Proofs.YtbllnjifmcodbaaDoor
open Go.RowKit
set_option linter.unusedVariables false
set_option maxHeartbeats 2000000
set_option maxRecDepth 20000

theorem app_made (v : World) (o : Obj) : ((v.alloc o).alloc (.cells #[] 5)).ownsRow (v.heap.size + 1) 5 1 (.slice (some ⟨v.heap.size + 1, 0, none⟩) 0 0) 0 [] := by
  have h := World.ownsRow_made (e := 5) (size := 1) (base := v.heap.size + 1) (v.alloc o) #[] 0 (by simp) (Nat.zero_le _) rfl
  rw [show (v.alloc o).heap.size = v.heap.size + 1 by simp] at h
  exact h
theorem app_one {v w1 : World} {o : Obj} (h : ((v.alloc o).alloc (.cells #[] 5)).grownBy w1 (Value.slice (some ⟨v.heap.size + 1, 0, none⟩) 0 0).ownBlock) : Below (v.heap.size + 1) (v.alloc o) w1 := by
  refine Below.grown (w := (v.alloc o).alloc (.cells #[] 5)) ((Below.refl _ _).alloc (by simp) _) h (by simp) ?_
  intro k hk
  simp [Value.ownBlock] at hk
  omega
theorem app_two {v w1 w2 : World} {o : Obj} {l : Value} {n : Nat} {xs : List Value} (h : Below (v.heap.size + 1) (v.alloc o) w1) (hown : w1.ownsRow (v.heap.size + 1) 5 1 l n xs) (hg : w1.grownBy w2 l.ownBlock) : Below (v.heap.size + 1) (v.alloc o) w2 := by
  refine Below.grown h hg ?_ fun k hk => (hown.lt k hk).1
  have := h.size
  simpa using this
theorem app_all {v w2 : World} {o : Obj} (h : Below (v.heap.size + 1) (v.alloc o) w2) : Below (v.alloc o).heap.size (v.alloc o) w2 := by
  rw [show (v.alloc o).heap.size = v.heap.size + 1 by simp]
  exact h
theorem keepAt {v v' : World} {p : Addr} {u : Value} (hb : Below v.heap.size v v') (hc : v.cell? p = some u) : v'.cell? p = some u := (hb.cell (World.block_lt_of_cell? v p hc)).trans hc
theorem app_open {w2 : World} {base n : Nat} {l : Value} {xs : List Value} (h : w2.ownsRow base 5 1 l n xs) (hn : 0 < n) : ∃ g cap, l = .slice (some ⟨g, 0, none⟩) n cap ∧ ∀ j u, xs[j]? = some u → w2.cell? ⟨g, j, none⟩ = some u := by
  have h' := h
  rcases h.2 with ⟨_, h0⟩ | ⟨g, cap, cur, rfl, _⟩
  · omega
  · refine ⟨g, cap, rfl, fun j u hu => ?_⟩
    have := h'.cells (g := g) rfl j u hu
    rw [show (⟨g, 0, none⟩ : Addr).add j = ⟨g, j, none⟩ from by unfold Addr.add; split <;> simp_all] at this
    exact this

theorem app_left {w2 : World} {g : Nat} {R Z : List Value} (h : ∀ j u, (R ++ Z)[j]? = some u → w2.cell? ⟨g, j, none⟩ = some u) : ∀ j u, R[j]? = some u → w2.cell? ⟨g, j, none⟩ = some u := fun j u hu => by
  refine h j u ?_
  have hj : j < R.length := by
    rcases Nat.lt_or_ge j R.length with h | h
    · exact h
    · rw [List.getElem?_eq_none h] at hu; cases hu
  rw [List.getElem?_append_left hj]
  exact hu
theorem holds_at (v : World) (cs : Array Value) (t : TypeId) : Holds (v.alloc (.cells cs t)) v.heap.size cs := fun j _ => World.cell?_alloc_new ..

theorem there_some (S t : ByteArray) (A : Int) (x : Addr) (len cap : Nat) (w : World) (T : Tabs w) (h : len + S.size ≤ 2147483647) (Z R : List Value) (hZ : Z.length = len) (hZc : Hid (∀ j u, Z[j]? = some u → w.cell? (x.add j) = some u)) (hZ1 : Hid (∀ u ∈ Z, u.oneCell' = true))
    (F L c : Nat) (hL1 : 1 ≤ L) (hL3 : L ≤ 3) (hR : R.length = L) (hR1 : Hid (∀ u ∈ R, u.oneCell' = true))
    (hE : ∀ v, Tabs v → Calls Tryd.prog 12 #[.agg #[.string S, .int .i64 A]] v fun e v' => ∃ b, v.heap.size ≤ b ∧ e = .returned (.tuple #[.slice (some ⟨b, 0, none⟩) L L, .int .i64 0]) ∧ (∀ j u, R[j]? = some u → v'.cell? ((⟨b, 0, none⟩ : Addr).add j) = some u) ∧ Below v.heap.size v v')
    (hP : ∀ v, Tabs v → Calls Tryd.prog 17 #[.agg #[.string S, .int .i64 A]] v fun e v' => e = .returned (.tuple #[.string t, .int .i64 0]) ∧ Below v.heap.size v v')
    (hF : ∀ v, Tabs v → Calls Tryd.prog 10 #[.string S] v fun e v' => e = .returned (.tuple #[.agg #[.string S, .int .u8 F, .int .i64 L, .int .i64 c], .bool true]) ∧ Below v.heap.size v v')
    (hQ : ∀ v, Tabs v → Calls Tryd.prog 18 #[.string t] v fun e v' => e = .returned (.tuple #[.agg #[.string S, .int .i64 A], .int .i64 0]) ∧ Below v.heap.size v v')
    (hD : ∀ v g m k, Tabs v → L ≤ m → (∀ j u, R[j]? = some u → v.cell? ⟨g, j, none⟩ = some u) → Calls Tryd.prog 11 #[.slice (some ⟨g, 0, none⟩) m k] v fun e v' => e = .returned (.tuple #[.agg #[.string S, .int .i64 A], .int .i64 L, .int .i64 0]) ∧ Below v.heap.size v v') :
    Calls Tryd.prog 6 #[.agg #[.string S, .int .i64 A], .slice (some x) len cap] w fun e w' => e = .returned (.bool true) ∧ Below w.heap.size w w' := by
  have T0 := tabs_alloc T (.cells #[.string S, .int .i64 A] 33)
  obtain ⟨i0, hi, hz0, hz1, hz2⟩ := info_parts info5
  go_enter Tryd.func6, Tryd.ntmps6
  go_wp2_with (first
    | (go_at_call 16; refine (awake_any _ T0).mono ?_; rintro e v1 ⟨rfl, hb1⟩; have T1 := T0.below hb1; have G := holds_new hb1; have a0 : v1.cell? ⟨w.heap.size, 0, none⟩ = some (.string S) := G 0 (by simp); have a1 : v1.cell? ⟨w.heap.size, 1, none⟩ = some (.int .i64 A) := G 1 (by simp); replace hb1 := below_own hb1)
    | (go_at_call 12; refine (hE _ T1).mono ?_; rintro e v2 ⟨b, hbb, rfl, hbc, hb2⟩; have T2 := T1.below hb2; replace G := G.mono hb2; clear a0 a1; have a0 : v2.cell? ⟨w.heap.size, 0, none⟩ = some (.string S) := G 0 (by simp); have a1 : v2.cell? ⟨w.heap.size, 1, none⟩ = some (.int .i64 A) := G 1 (by simp); replace hb2 := hb1.trans (hb2.mono hb1.size))
    | (go_at_call 17; refine (hP _ T2).mono ?_; rintro e v3 ⟨rfl, hb3⟩; have T3 := T2.below hb3; have k3 := hb3; replace G := G.mono hb3; clear a0 a1; have a0 : v3.cell? ⟨w.heap.size, 0, none⟩ = some (.string S) := G 0 (by simp); replace hb3 := hb2.trans (hb3.mono hb2.size))
    | (go_at_call 10; refine (hF _ T3).mono ?_; rintro e v4 ⟨rfl, hb4⟩; have T4 := T3.below hb4; have kk : Below v2.heap.size v2 ((v4.alloc (.cells #[.string S, .int .u8 F, .int .i64 L, .int .i64 c] 24)).alloc (.cells #[] 5)) := ((k3.trans (hb4.mono k3.size)).alloc (Nat.le_trans k3.size hb4.size) _).alloc (Nat.le_trans (Nat.le_trans k3.size hb4.size) (by simp)) _; have hbc' := fun j u hu => keepAt kk (hbc j u hu); replace G := G.mono hb4; clear a0 hbc kk; replace hb4 := hb3.trans (hb4.mono hb3.size); have hown0 := app_made v4 (.cells #[.string S, .int .u8 F, .int .i64 L, .int .i64 c] 24); have sz4 : v4.heap.size + 1 ≤ ((v4.alloc (.cells #[.string S, .int .u8 F, .int .i64 L, .int .i64 c] 24)).alloc (.cells #[] 5)).heap.size := by simp)
    | (at_builtin; refine wpList_append_own _ rfl (.tmp 88) (.tmp 89) 37 rfl (v4.heap.size + 1) 5 i0 (.int .u8 0) 1 1 Tryd.underlying37 hi hz0 hz1 hz2 rfl (by decide) _ 0 [] rfl hown0 ⟨b, 0, none⟩ L L R rfl (by omega) hbc' hR1.out (by unfold maxLen; omega) (by omega) sz4 ?_; intro l1 w1 hown1 hgrow1 hnil1; simp only [Nat.zero_add, List.nil_append] at hown1; have B1 := app_one hgrow1; have BW1 : Below w.heap.size w w1 := (hb4.alloc hb4.size _).trans ((app_all B1).mono (Nat.le_trans hb4.size (by simp))); have hZc' := fun j u hu => keepAt BW1 (hZc.out j u hu); have sz5 : v4.heap.size + 1 ≤ w1.heap.size := (by have := (app_all B1).size; simpa using this); clear hown0 hgrow1 hnil1 hbc')
    | (at_builtin; refine wpList_append_own _ rfl (.tmp 90) (.tmp 91) 37 rfl (v4.heap.size + 1) 5 i0 (.int .u8 0) 1 1 Tryd.underlying37 hi hz0 hz1 hz2 rfl (by decide) _ L R rfl hown1 x len cap Z rfl (by omega) hZc' hZ1.out (by unfold maxLen; omega) (by omega) sz5 ?_; intro l2 w2 hown2 hgrow2 hnil2; have B2 := app_two B1 hown1 hgrow2; have BW2 : Below w.heap.size w w2 := (hb4.alloc hb4.size _).trans ((app_all B2).mono (Nat.le_trans hb4.size (by simp))); obtain ⟨g2, cap2, rfl, hcl⟩ := app_open hown2 (by omega); clear hown1 hown2 hgrow2 hnil2 hZc' B1 BW1 sz5)
    | (go_at_call 11; refine (hD w2 g2 (L + len) cap2 (T.below BW2) (by omega) (app_left hcl)).mono ?_; rintro e v6 ⟨rfl, hb6⟩; have G6 := ((G.mono ((Below.refl v4.heap.size v4).alloc (Nat.le_refl _) _)).mono (app_all B2)).mono hb6; have I6 := ((holds_at v4 #[.string S, .int .u8 F, .int .i64 L, .int .i64 c] 24).mono (app_all B2)).mono hb6; have BW6 := BW2.trans (hb6.mono BW2.size); have T6 := tabs_alloc (T.below BW6) (.cells #[.string S, .int .i64 A] 33))
    | (go_at_call 18; refine (hQ _ T6).mono ?_; rintro e v7 ⟨rfl, hb7⟩; have X7 := holds_new hb7; have G7 := G6.mono (below_own hb7); have I7 := I6.mono (below_own hb7); have BW7 := BW6.trans ((below_own hb7).mono BW6.size); have x0 : v7.cell? ⟨v6.heap.size, 0, none⟩ = some (.string S) := X7 0 (by simp); have x1 : v7.cell? ⟨v6.heap.size, 1, none⟩ = some (.int .i64 A) := X7 1 (by simp); have y0 : v7.cell? ⟨w.heap.size, 0, none⟩ = some (.string S) := G7 0 (by simp); have y1 : v7.cell? ⟨w.heap.size, 1, none⟩ = some (.int .i64 A) := G7 1 (by simp); have y2 : v7.cell? ⟨v4.heap.size, 2, none⟩ = some (.int .i64 L) := I7 2 (by simp); have s1 := own_size x0; have s2 := own_size y0; have s3 := own_size y2))
  go_ret
  exact ⟨rfl, BW7.alloc BW7.size _⟩
theorem there_nil (S t : ByteArray) (A : Int) (w : World) (T : Tabs w) (h : S.size ≤ 2147483647) (R : List Value)
    (F L c : Nat) (hL1 : 1 ≤ L) (hL3 : L ≤ 3) (hR : R.length = L) (hR1 : Hid (∀ u ∈ R, u.oneCell' = true))
    (hE : ∀ v, Tabs v → Calls Tryd.prog 12 #[.agg #[.string S, .int .i64 A]] v fun e v' => ∃ b, v.heap.size ≤ b ∧ e = .returned (.tuple #[.slice (some ⟨b, 0, none⟩) L L, .int .i64 0]) ∧ (∀ j u, R[j]? = some u → v'.cell? ((⟨b, 0, none⟩ : Addr).add j) = some u) ∧ Below v.heap.size v v')
    (hP : ∀ v, Tabs v → Calls Tryd.prog 17 #[.agg #[.string S, .int .i64 A]] v fun e v' => e = .returned (.tuple #[.string t, .int .i64 0]) ∧ Below v.heap.size v v')
    (hF : ∀ v, Tabs v → Calls Tryd.prog 10 #[.string S] v fun e v' => e = .returned (.tuple #[.agg #[.string S, .int .u8 F, .int .i64 L, .int .i64 c], .bool true]) ∧ Below v.heap.size v v')
    (hQ : ∀ v, Tabs v → Calls Tryd.prog 18 #[.string t] v fun e v' => e = .returned (.tuple #[.agg #[.string S, .int .i64 A], .int .i64 0]) ∧ Below v.heap.size v v')
    (hD : ∀ v g m k, Tabs v → L ≤ m → (∀ j u, R[j]? = some u → v.cell? ⟨g, j, none⟩ = some u) → Calls Tryd.prog 11 #[.slice (some ⟨g, 0, none⟩) m k] v fun e v' => e = .returned (.tuple #[.agg #[.string S, .int .i64 A], .int .i64 L, .int .i64 0]) ∧ Below v.heap.size v v') :
    Calls Tryd.prog 6 #[.agg #[.string S, .int .i64 A], (.slice none 0 0)] w fun e w' => e = .returned (.bool true) ∧ Below w.heap.size w w' := by
  have T0 := tabs_alloc T (.cells #[.string S, .int .i64 A] 33)
  obtain ⟨i0, hi, hz0, hz1, hz2⟩ := info_parts info5
  go_enter Tryd.func6, Tryd.ntmps6
  go_wp2_with (first
    | (go_at_call 16; refine (awake_any _ T0).mono ?_; rintro e v1 ⟨rfl, hb1⟩; have T1 := T0.below hb1; have G := holds_new hb1; have a0 : v1.cell? ⟨w.heap.size, 0, none⟩ = some (.string S) := G 0 (by simp); have a1 : v1.cell? ⟨w.heap.size, 1, none⟩ = some (.int .i64 A) := G 1 (by simp); replace hb1 := below_own hb1)
    | (go_at_call 12; refine (hE _ T1).mono ?_; rintro e v2 ⟨b, hbb, rfl, hbc, hb2⟩; have T2 := T1.below hb2; replace G := G.mono hb2; clear a0 a1; have a0 : v2.cell? ⟨w.heap.size, 0, none⟩ = some (.string S) := G 0 (by simp); have a1 : v2.cell? ⟨w.heap.size, 1, none⟩ = some (.int .i64 A) := G 1 (by simp); replace hb2 := hb1.trans (hb2.mono hb1.size))
    | (go_at_call 17; refine (hP _ T2).mono ?_; rintro e v3 ⟨rfl, hb3⟩; have T3 := T2.below hb3; have k3 := hb3; replace G := G.mono hb3; clear a0 a1; have a0 : v3.cell? ⟨w.heap.size, 0, none⟩ = some (.string S) := G 0 (by simp); replace hb3 := hb2.trans (hb3.mono hb2.size))
    | (go_at_call 10; refine (hF _ T3).mono ?_; rintro e v4 ⟨rfl, hb4⟩; have T4 := T3.below hb4; have kk : Below v2.heap.size v2 ((v4.alloc (.cells #[.string S, .int .u8 F, .int .i64 L, .int .i64 c] 24)).alloc (.cells #[] 5)) := ((k3.trans (hb4.mono k3.size)).alloc (Nat.le_trans k3.size hb4.size) _).alloc (Nat.le_trans (Nat.le_trans k3.size hb4.size) (by simp)) _; have hbc' := fun j u hu => keepAt kk (hbc j u hu); replace G := G.mono hb4; clear a0 hbc kk; replace hb4 := hb3.trans (hb4.mono hb3.size); have hown0 := app_made v4 (.cells #[.string S, .int .u8 F, .int .i64 L, .int .i64 c] 24); have sz4 : v4.heap.size + 1 ≤ ((v4.alloc (.cells #[.string S, .int .u8 F, .int .i64 L, .int .i64 c] 24)).alloc (.cells #[] 5)).heap.size := by simp)
    | (at_builtin; refine wpList_append_own _ rfl (.tmp 88) (.tmp 89) 37 rfl (v4.heap.size + 1) 5 i0 (.int .u8 0) 1 1 Tryd.underlying37 hi hz0 hz1 hz2 rfl (by decide) _ 0 [] rfl hown0 ⟨b, 0, none⟩ L L R rfl (by omega) hbc' hR1.out (by unfold maxLen; omega) (by omega) sz4 ?_; intro l1 w1 hown1 hgrow1 hnil1; simp only [Nat.zero_add, List.nil_append] at hown1; have B1 := app_one hgrow1; have BW1 : Below w.heap.size w w1 := (hb4.alloc hb4.size _).trans ((app_all B1).mono (Nat.le_trans hb4.size (by simp))); have sz5 : v4.heap.size + 1 ≤ w1.heap.size := (by have := (app_all B1).size; simpa using this); clear hown0 hgrow1 hnil1 hbc')
    | (at_builtin; refine wpList_append_own_none rfl (.tmp 90) (.tmp 91) 37 rfl (v4.heap.size + 1) 5 i0 1 Tryd.underlying37 hi _ L R rfl hown1 rfl ?_; obtain ⟨g2, cap2, rfl, hcl⟩ := app_open hown1 (by omega); clear hown1)
    | (go_at_call 11; refine (hD w1 g2 L cap2 (T.below BW1) (by omega) hcl).mono ?_; rintro e v6 ⟨rfl, hb6⟩; have G6 := ((G.mono ((Below.refl v4.heap.size v4).alloc (Nat.le_refl _) _)).mono (app_all B1)).mono hb6; have I6 := ((holds_at v4 #[.string S, .int .u8 F, .int .i64 L, .int .i64 c] 24).mono (app_all B1)).mono hb6; have BW6 := BW1.trans (hb6.mono BW1.size); have T6 := tabs_alloc (T.below BW6) (.cells #[.string S, .int .i64 A] 33))
    | (go_at_call 18; refine (hQ _ T6).mono ?_; rintro e v7 ⟨rfl, hb7⟩; have X7 := holds_new hb7; have G7 := G6.mono (below_own hb7); have I7 := I6.mono (below_own hb7); have BW7 := BW6.trans ((below_own hb7).mono BW6.size); have x0 : v7.cell? ⟨v6.heap.size, 0, none⟩ = some (.string S) := X7 0 (by simp); have x1 : v7.cell? ⟨v6.heap.size, 1, none⟩ = some (.int .i64 A) := X7 1 (by simp); have y0 : v7.cell? ⟨w.heap.size, 0, none⟩ = some (.string S) := G7 0 (by simp); have y1 : v7.cell? ⟨w.heap.size, 1, none⟩ = some (.int .i64 A) := G7 1 (by simp); have y2 : v7.cell? ⟨v4.heap.size, 2, none⟩ = some (.int .i64 L) := I7 2 (by simp); have s1 := own_size x0; have s2 := own_size y0; have s3 := own_size y2))
  go_ret
  exact ⟨rfl, BW7.alloc BW7.size _⟩

/-- The law, whole. -/
theorem there_any (S : ByteArray) (A : Int) (hS : S.size ≤ maxLen) (a : Option Addr) (len cap : Nat) (z : List Int) (w : World) (T : Tabs w) (w0 : IsRow .u8 w a len cap z) :
    Calls Tryd.prog 6 #[.agg #[.string S, .int .i64 A], .slice a len cap] w fun e w' => e = .returned (.bool true) ∧ Below w.heap.size w w' := by
  by_cases b1 : 2147483647 < len
  · exact there_big1 S A a len cap w b1
  by_cases b2 : 2147483647 < S.size
  · exact there_big2 S A a len cap w b1 b2 hS
  by_cases b3 : 2147483647 < len + S.size
  · exact there_big3 S A a len cap w b1 b2 b3
  rcases ho : opOf S with _ | n
  · exact there_none S A a len cap w T (by omega) ho
  obtain ⟨hn, hnS⟩ := opOf_lt ho
  by_cases hm : may n A
  case neg => exact there_bad S A a len cap w T (by omega) n ho hm _ _ _ hnS (show fm n = fm n from rfl) (show lay (fm n * 3) = lay (fm n * 3) from rfl) (show cyc n = cyc n from rfl)
  have hL13 : 1 ≤ by1 n ∧ by1 n ≤ 3 := by
    have := by1_eq n hn
    split at this
    · omega
    · split at this <;> omega
  have hR : ((encB n A).map (Value.int .u8)).length = by1 n := by rw [List.length_map, encB_len n hn]
  have hR1 : ∀ u ∈ (encB n A).map (Value.int .u8), u.oneCell' = true := fun u hu => by
    obtain ⟨y, _, rfl⟩ := List.mem_map.1 hu
    rfl
  have hE : ∀ v, Tabs v → Calls Tryd.prog 12 #[.agg #[.string S, .int .i64 A]] v fun e v' => ∃ b, v.heap.size ≤ b ∧ e = .returned (.tuple #[.slice (some ⟨b, 0, none⟩) (by1 n) (by1 n), .int .i64 0]) ∧ (∀ j u, ((encB n A).map (Value.int .u8))[j]? = some u → v'.cell? ((⟨b, 0, none⟩ : Addr).add j) = some u) ∧ Below v.heap.size v v' := fun v Tv => by
    refine (enc_good S A n ho hm v Tv).mono ?_
    rintro e v' ⟨b, h1, h2, h3, h4⟩
    rw [encB_len n hn] at h2
    refine ⟨b, h1, h2, fun j u hu => ?_, h4⟩
    rw [show (⟨b, 0, none⟩ : Addr).add j = ⟨b, j, none⟩ from by unfold Addr.add; split <;> simp_all]
    unfold World.cell?
    simp only [h3]
    simpa using hu
  have hP : ∀ v, Tabs v → Calls Tryd.prog 17 #[.agg #[.string S, .int .i64 A]] v fun e v' => e = .returned (.tuple #[.string (textOf n A), .int .i64 0]) ∧ Below v.heap.size v v' := fun v Tv => by
    have := print_any S A v Tv
    unfold printS printE at this
    rw [ho] at this
    simp only [(mayB_iff n A).2 hm, if_true] at this
    exact this
  have hF := fun v Tv => find_some S n ho S _ _ _ hnS (show fm n = fm n from rfl) (show lay (fm n * 3) = by1 n from rfl) (show cyc n = cyc n from rfl) v Tv
  have hts : (textOf n A).size ≤ maxLen := by
    have h1 := nm_size n hn
    have h2 := hexOf_size A (digs n : Nat)
    unfold textOf maxLen
    split
    · omega
    · rw [ByteArray.size_append, ByteArray.size_append]
      have : (ByteArray.mk #[32]).size = 1 := rfl
      omega
  have hQ : ∀ v, Tabs v → Calls Tryd.prog 18 #[.string (textOf n A)] v fun e v' => e = .returned (.tuple #[.agg #[.string S, .int .i64 A], .int .i64 0]) ∧ Below v.heap.size v v' := fun v Tv => by
    have h := parse_any (textOf n A) hts v Tv
    have ht := parse_text S n A ho hm
    rw [ht.1, ht.2.1, ht.2.2] at h
    exact h
  have hD := fun v g m k Tv hm' hc => dec_there S n A ho hm v Tv g m k hm' hc
  rcases w0 with ⟨rfl, rfl, rfl, _⟩ | ⟨x, rfl, h1, h2, h3, h4, h5⟩
  · exact there_nil S (textOf n A) A w T (by omega) _ _ _ _ hL13.1 hL13.2 hR hR1 hE hP hF hQ hD
  · refine there_some S (textOf n A) A x len cap w T (by omega) ((z.take len).map (Value.int .u8)) _ ?_ ?_ ?_ _ _ _ hL13.1 hL13.2 hR hR1 hE hP hF hQ hD
    · simp; omega
    · intro j u hu
      have hj : j < len ∧ j < z.length := by
        rcases Nat.lt_or_ge j ((z.take len).map (Value.int .u8)).length with h | h
        · simp at h; omega
        · rw [List.getElem?_eq_none h] at hu; cases hu
      rw [h4 j hj.2]
      rw [List.getElem?_map, List.getElem?_take, if_pos hj.1, List.getElem?_eq_getElem hj.2] at hu
      simp at hu
      rw [← hu]
      simp [List.getD, hj.2]
    · intro u hu
      obtain ⟨y, _, rfl⟩ := List.mem_map.1 hu
      rfl
end Go.Proofs.YtbllnjifmcodbaaDoor
