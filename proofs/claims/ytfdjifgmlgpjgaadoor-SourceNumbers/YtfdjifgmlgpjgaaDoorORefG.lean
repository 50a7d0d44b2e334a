/- The document's answer: Encode, Decode and Print, whole. -/
import Derived.Test.YtfdjifgmlgpjgaaDoorORefF
namespace Go.Proofs.YtfdjifgmlgpjgaaDoor
open Go.RowKit
set_option linter.unusedVariables false
set_option maxHeartbeats 1000000
set_option maxRecDepth 20000

theorem mayB_no {n : Nat} {A : Int} (h : ¬ may n A) : mayB n A = false := by
  rcases e : mayB n A with _ | _
  · rfl
  · exact absurd ((mayB_iff n A).1 e) h
theorem renc_badA (S : ByteArray) (A : Int) (n : Nat) (ho : opOf S = some n) (h : ¬ may n A) (w : World) :
    Calls Tryd.prog 84 #[.agg #[.string S, .int .i64 A]] w fun e w' => e = .returned (.tuple #[.slice none 0 0, .int .i64 21]) ∧ Below w.heap.size w w' := by
  obtain ⟨hn, _⟩ := opOf_lt ho
  have hM := fun v => rmay_any n A v hn (opOf_bs ho)
  rw [mayB_no h] at hM
  exact renc_bad S A n ho (by omega) hM w
theorem renc_good (S : ByteArray) (A : Int) (n : Nat) (ho : opOf S = some n) (hm : may n A) (w : World) :
    Calls Tryd.prog 84 #[.agg #[.string S, .int .i64 A]] w (Coded w (encB n A)) := by
  obtain ⟨hn, _⟩ := opOf_lt ho
  have hbs := opOf_bs ho
  have hM := fun v => rmay_any n A v hn hbs
  rw [(mayB_iff n A).2 hm] at hM
  have hF := fun v => rform_any n v hn
  have hf := fm_le n hn
  have hh := held_first n hn hbs
  have hz := held_lt n (fm n)
  unfold may at hm
  have l1 : lay (1 * 3 + 2) = 0 := by decide
  have l2 : lay (2 * 3 + 2) = 15 := by decide
  have l3 : lay (3 * 3 + 2) = 7 := by decide
  have l4 : lay (4 * 3 + 2) = 255 := by decide
  have l5 : lay (5 * 3 + 2) = 255 := by decide
  have l6 : lay (6 * 3 + 2) = 65535 := by decide
  have hd : fm n = 1 ∨ fm n = 2 ∨ fm n = 3 ∨ fm n = 4 ∨ fm n = 5 ∨ fm n = 6 := by omega
  unfold encB Coded
  rcases hd with e | e | e | e | e | e
  all_goals rw [e] at hF hm hz ⊢
  · exact renc_ok1 S A n ho (by omega) hM hF (by omega) (by omega) w
  · have hc : held n 2 = n % 16 := hz.2.2.1 rfl
    refine (renc_ok2 S A n ho (by omega) hM hF (by omega) (by omega) (by omega) w).mono ?_
    rintro e' w' ⟨b, h1, h2, h3, h4⟩
    refine ⟨b, h1, h2, ?_, h4⟩
    rw [h3]
    have : (n : Int) / 16 * 16 + A = (n : Int) + (A - (held n 2 : Nat)) := by omega
    rw [this]
    rfl
  · have hc : held n 3 = 1 := hh.2 e
    have hc' : held n 3 = n % 8 := hz.2.2.2.1 rfl
    refine (renc_ok3 S A n ho (by omega) hM hF (by omega) (by omega) (by omega) (by omega) w).mono ?_
    rintro e' w' ⟨b, h1, h2, h3, h4⟩
    refine ⟨b, h1, h2, ?_, h4⟩
    rw [h3]
    have : (n : Int) - 1 + A = (n : Int) + (A - (held n 3 : Nat)) := by omega
    rw [this]
    rfl
  · exact renc_ok4 S A n ho (by omega) hM hF (by omega) (by omega) w
  · exact renc_ok5 S A n ho (by omega) hM hF (by omega) (by omega) w
  · exact renc_ok6 S A n ho (by omega) hM hF (by omega) (by omega) w

theorem rprint_none (S : ByteArray) (A : Int) (ho : Hid (opOf S = none)) (w : World) :
    Calls Tryd.prog 56 #[.agg #[.string S, .int .i64 A]] w fun e w' => e = .returned (.tuple #[.string ⟨#[]⟩, .int .i64 20]) ∧ Below w.heap.size w w' := by
  go_enter Tryd.func56, Tryd.ntmps56
  go_wp2_with (go_at_call 84; refine (renc_none S A ho _).mono ?_; rintro e v1 ⟨rfl, hb1⟩; replace hb1 := below_own hb1)
  go_ret2
  exact ⟨rfl, hb1⟩
theorem rprint_bad (S : ByteArray) (A : Int) (n : Nat) (ho : Hid (opOf S = some n)) (hm : Hid (¬ may n A)) (w : World) :
    Calls Tryd.prog 56 #[.agg #[.string S, .int .i64 A]] w fun e w' => e = .returned (.tuple #[.string ⟨#[]⟩, .int .i64 21]) ∧ Below w.heap.size w w' := by
  go_enter Tryd.func56, Tryd.ntmps56
  go_wp2_with (go_at_call 84; refine (renc_badA S A n ho.out hm.out _).mono ?_; rintro e v1 ⟨rfl, hb1⟩; replace hb1 := below_own hb1)
  go_ret2
  exact ⟨rfl, hb1⟩
theorem rprint_bare (S : ByteArray) (A : Int) (n : Nat) (ho : Hid (opOf S = some n)) (hm : Hid (may n A)) (hn : (n : Int) < 256) (hF : ∀ v, Calls Tryd.prog 77 #[.int .u8 n] v fun e v' => e = .returned (.int .u8 1) ∧ v' = v) (w : World) :
    Calls Tryd.prog 56 #[.agg #[.string S, .int .i64 A]] w fun e w' => e = .returned (.tuple #[.string S, .int .i64 0]) ∧ Below w.heap.size w w' := by
  obtain ⟨k, hk⟩ : ∃ k, Hid ((encB n A).length = k) := ⟨_, (rfl : (encB n A).length = (encB n A).length)⟩
  have hE := fun v => renc_good S A n ho.out hm.out v
  unfold Coded at hE
  rw [hk.out] at hE
  have hW : ∀ v, Calls Tryd.prog 85 #[.int .u8 1] v fun e v' => e = .returned (.int .i64 0) ∧ v' = v := fun v => rwide_any 1 v (by decide) (by decide)
  go_enter Tryd.func56, Tryd.ntmps56
  go_wp2_with (first
    | (go_at_call 84; refine (hE _).mono ?_; rintro e v1 ⟨b, hbb, rfl, hbc, hb1⟩; have G := holds_new hb1; have a0 : v1.cell? ⟨w.heap.size, 0, none⟩ = some (.string S) := G 0 (by simp); replace hb1 := below_own hb1)
    | (go_at_call 49; refine (rfirst_any S _ ho _).mono ?_; unfold firstI; rintro e v2 ⟨rfl, hb2⟩; replace G := G.mono hb2; clear a0; have a0 : v2.cell? ⟨w.heap.size, 0, none⟩ = some (.string S) := G 0 (by simp); replace hb2 := hb1.trans (hb2.mono hb1.size))
    | (go_at_call 77; refine (hF _).mono ?_; rintro e v ⟨rfl, rfl⟩)
    | (go_at_call 85; refine (hW _).mono ?_; rintro e v ⟨rfl, rfl⟩))
  go_ret2
  exact ⟨rfl, hb2⟩
theorem rprint_reg (S : ByteArray) (a : Nat) (n : Nat) (ho : Hid (opOf S = some n)) (hm : Hid (may n a)) (hn : (n : Int) < 256) (F D : Nat) (hF : ∀ v, Calls Tryd.prog 77 #[.int .u8 n] v fun e v' => e = .returned (.int .u8 F) ∧ v' = v) (hW : ∀ v, Calls Tryd.prog 85 #[.int .u8 F] v fun e v' => e = .returned (.int .i64 D) ∧ v' = v) (hS4 : S.size ≤ 4) (hD : 1 ≤ D) (hD8 : D ≤ 8) (ha : a ≤ 65535) (w : World) :
    Calls Tryd.prog 56 #[.agg #[.string S, .int .i64 a]] w fun e w' => e = .returned (.tuple #[.string (S ++ ⟨#[32]⟩ ++ hexS D a), .int .i64 0]) ∧ Below w.heap.size w w' := by
  obtain ⟨k, hk⟩ : ∃ k, Hid ((encB n a).length = k) := ⟨_, (rfl : (encB n a).length = (encB n a).length)⟩
  have hE := fun v => renc_good S a n ho.out hm.out v
  unfold Coded at hE
  rw [hk.out] at hE
  have b1 : (ByteArray.mk #[32]).size = 1 := rfl
  have b2 : (hexS D a).size = D := by show (hexL D a).toArray.size = _; simp [hexL_len]
  have b3 : (S ++ ByteArray.mk #[32]).size = S.size + 1 := by rw [ByteArray.size_append, b1]
  have cat1 := fun w => cat_run Tryd.prog S ⟨#[32]⟩ w (by omega)
  have cat2 := fun w => cat_run Tryd.prog (S ++ ⟨#[32]⟩) (hexS D a) w (by omega)
  clear b1 b2 b3
  have hG : ∀ v, Calls Tryd.prog 86 #[.int .i64 a, .int .i64 D] v fun e v' => e = .returned (.string (hexS D a)) ∧ Below v.heap.size v v' := fun v => rdigits_any a D v hD hD8 (by omega)
  go_enter Tryd.func56, Tryd.ntmps56
  go_wp2_with (first
    | (go_at_call 84; refine (hE _).mono ?_; rintro e v1 ⟨b, hbb, rfl, hbc, hb1⟩; have G := holds_new hb1; have a0 : v1.cell? ⟨w.heap.size, 0, none⟩ = some (.string S) := G 0 (by simp); replace hb1 := below_own hb1)
    | (go_at_call 49; refine (rfirst_any S _ ho _).mono ?_; unfold firstI; rintro e v2 ⟨rfl, hb2⟩; replace G := G.mono hb2; clear a0; have a0 : v2.cell? ⟨w.heap.size, 0, none⟩ = some (.string S) := G 0 (by simp); have a1 : v2.cell? ⟨w.heap.size, 1, none⟩ = some (.int .i64 a) := G 1 (by simp); have sz := own_size a0; replace hb2 := hb1.trans (hb2.mono hb1.size))
    | (go_at_call 77; refine (hF _).mono ?_; rintro e v ⟨rfl, rfl⟩)
    | (go_at_call 85; refine (hW _).mono ?_; rintro e v ⟨rfl, rfl⟩))
  rename_i v2
  go_region_with (go_at_call 86; refine (hG _).mono ?_; rintro e v3 ⟨rfl, hb3⟩; have x0 := (hb3.cell (p := ⟨w.heap.size, 0, none⟩) sz).trans a0)
  all_goals go_wp2
  all_goals go_ret2
  all_goals refine ⟨rfl, Below.trans (B := w.heap.size) ?_ (hb3.mono (Nat.le_of_lt sz))⟩
  all_goals repeat (first | exact hb2 | refine Below.drew ?_ | refine below_drewN ?_)
end Go.Proofs.YtfdjifgmlgpjgaaDoor
