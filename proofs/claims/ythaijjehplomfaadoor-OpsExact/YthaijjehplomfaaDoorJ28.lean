/- An order that names a label taken up: takeUse. -/
import Derived.Test.YthaijjehplomfaaDoorJ27
namespace Go.Proofs.YthaijjehplomfaaDoor
open Go Go.RowKit
set_option linter.unusedVariables false
set_option maxHeartbeats 1000000
set_option maxRecDepth 20000

theorem rd_enc {ws : List (List UInt8)} {o : Od} (h : rdO ws = some o) : ∃ X, encW o = some X := by
  unfold rdO at h
  split at h
  · cases h
  · split at h
    · cases h
    · split at h
      · rename_i hs
        injection h with h
        subst h
        exact Option.isSome_iff_exists.1 hs
      · cases h
/-- The words by which an order with a label is read. -/
def useW (first : ByteArray) : List (List UInt8) := [first.data.toList, [50, 48, 48]]
def TuE (w : World) (P g : Nat) (bs : List UInt8) (F : ByteArray → Option Nat) (us : List Us) (y : World) (ln : Nat) (first lb : ByteArray) (e : Ending) (z : World) : Prop :=
  (∃ o X vb' vu', e = .returned (.bool true) ∧ rdO (useW first) = some o ∧ encW o = some X ∧ isNm lb = true ∧ Pg w P g vb' vu' (bs ++ [UInt8.ofNat (X / 256), UInt8.ofNat (X % 256)]) F (us ++ [⟨ln, bs.length, o, lb⟩]) z ∧ Kp y z) ∨ (e = .returned (.bool false) ∧ (rdO (useW first) = none ∨ isNm lb = false) ∧ Below w.heap.size w z ∧ Kp y z)
theorem use_any (w y : World) (P g : Nat) (vb vu : Value) (bs : List UInt8) (F : ByteArray → Option Nat) (us : List Us) (K : Hid (Pg w P g vb vu bs F us y)) (hbs : bs.length ≤ 100000) (hus : us.length ≤ 100000) (ln : Nat) (first lb : ByteArray) (hf : first.size ≤ maxLen) :
    Calls Tryd.prog 49 #[.pointer (some ⟨P, 0, none⟩), .int .i64 (ln : Int), .string first, .string lb] y (TuE w P g bs F us y ln first lb) := by
  have hR0 : ∀ z, Fm y [(y.heap.size, #[.string first, .string ⟨#[50, 48, 48]⟩], 9)] z → Calls Tryd.prog 27 #[.slice (some ⟨y.heap.size, 0, none⟩) 2 2] z (RdE z (useW first)) := fun z hz => by
    refine read_any z y.heap.size 0 2 [first, ⟨#[50, 48, 48]⟩] 2 (rfl : List.length _ = _) (by decide) (by decide) ?_ ?_
    · have hx := hz.bx 0 _ _ _ rfl
      exact WdsAt.lies ⟨_, hx, fun j s hj => by
        match j, hj with
        | 0, hj => simp at hj; subst hj; rfl
        | 1, hj => simp at hj; subst hj; rfl⟩
    · intro s hs
      simp at hs
      rcases hs with rfl | rfl
      · exact hf
      · decide
  have hI := fun z => pisname_any lb z
  have hF : Hid (Fm y [(y.heap.size, #[.string first, .string ⟨#[50, 48, 48]⟩], 9)] (y.alloc (.cells #[.string first, .string ⟨#[50, 48, 48]⟩] 9))) := Fm.one y _ _
  rcases hr : rdO (useW first) with _ | o
  · have hR : ∀ z, Fm y [(y.heap.size, #[.string first, .string ⟨#[50, 48, 48]⟩], 9)] z → Calls Tryd.prog 27 #[.slice (some ⟨y.heap.size, 0, none⟩) 2 2] z fun e w' => ∃ X, e = .returned (.tuple #[.agg (o6 X), .bool false]) ∧ Below z.heap.size z w' := fun z hz => (hR0 z hz).mono fun e w' h => by
      obtain ⟨hb, ⟨o, ho, _⟩ | ⟨_, X, he⟩⟩ := h
      · rw [hr] at ho; cases ho
      · exact ⟨X, he, hb⟩
    have fin : Hid (∀ z, Below y.heap.size y z → TuE w P g bs F us y ln first lb (.returned (.bool false)) z) := fun z hb => .inr ⟨rfl, .inl hr, K.out.low.trans (hb.mono K.out.low.size), Kp.of_below hb⟩
    clear hR0 hr hbs hus hf
    generalize TuE w P g bs F us y ln first lb = T at fin ⊢
    go_enter Tryd.func49, Tryd.ntmps49
    go_wp2_with (first
    | ((with_reducible refine at_st rtO y2.heap.size (o6 od0) (o6 X) ?_ ?_ ?_ ?_ (.tmp 9) (.tmp 15) ?_ ?_ ?_ ?_ ?_); exact K3.out.bx 1 _ _ _ rfl; rfl; rfl; exact o6_one _; rfl; rfl; rfl; rfl; intro y4 hw4; have K4 : Hid (Fm y [(y.heap.size, #[.string first, .string ⟨#[50, 48, 48]⟩], 9), (y2.heap.size, o6 X, 30)] y4) := K3.out.put 1 _ _ _ _ rfl hw4.out)
    | ((with_reducible refine gen_world (y2.alloc (.cells #[.int .u8 0, .int .u8 0, .int .u8 0, .int .u8 0, .int .u8 0, .int .u16 0] 30)) (Fm y [(y.heap.size, #[.string first, .string ⟨#[50, 48, 48]⟩], 9), (y2.heap.size, o6 od0, 30)]) ?_ ?_); exact K2.out.new _ _; intro y3 K3)
    | (go_at_call 74; refine (hI _).mono ?_; rintro e z ⟨rfl, rfl⟩)
    | (go_at_call 27; refine (hR _ K1.out).mono ?_; rintro e y2 ⟨X, rfl, hb2⟩; have K2 : Hid (Fm y [(y.heap.size, #[.string first, .string ⟨#[50, 48, 48]⟩], 9)] y2) := K1.out.below hb2)
    | ((with_reducible refine gen_world (y.alloc (.cells #[.string first, .string ⟨#[50, 48, 48]⟩] 9)) (Fm y [(y.heap.size, #[.string first, .string ⟨#[50, 48, 48]⟩], 9)]) hF.out ?_); intro y1 K1))
    exact fin.out _ K4.out.low
  · have hR : ∀ z, Fm y [(y.heap.size, #[.string first, .string ⟨#[50, 48, 48]⟩], 9)] z → Calls Tryd.prog 27 #[.slice (some ⟨y.heap.size, 0, none⟩) 2 2] z fun e w' => e = .returned (.tuple #[.agg (o6 o), .bool true]) ∧ Below z.heap.size z w' := fun z hz => (hR0 z hz).mono fun e w' h => by
      obtain ⟨hb, ⟨o', ho, he⟩ | ⟨ho, _⟩⟩ := h
      · rw [hr] at ho; injection ho with ho; subst ho; exact ⟨he, hb⟩
      · rw [hr] at ho; cases ho
    rcases hn : isNm lb with _ | _
    · rw [hn] at hI
      have fin : Hid (∀ z, Below y.heap.size y z → TuE w P g bs F us y ln first lb (.returned (.bool false)) z) := fun z hb => .inr ⟨rfl, .inr hn, K.out.low.trans (hb.mono K.out.low.size), Kp.of_below hb⟩
      clear hR0 hr hbs hus hf
      generalize TuE w P g bs F us y ln first lb = T at fin ⊢
      go_enter Tryd.func49, Tryd.ntmps49
      go_wp2_with (first
    | ((with_reducible refine at_st rtO y2.heap.size (o6 od0) (o6 o) ?_ ?_ ?_ ?_ (.tmp 9) (.tmp 15) ?_ ?_ ?_ ?_ ?_); exact K3.out.bx 1 _ _ _ rfl; rfl; rfl; exact o6_one _; rfl; rfl; rfl; rfl; intro y4 hw4; have K4 : Hid (Fm y [(y.heap.size, #[.string first, .string ⟨#[50, 48, 48]⟩], 9), (y2.heap.size, o6 o, 30)] y4) := K3.out.put 1 _ _ _ _ rfl hw4.out)
    | ((with_reducible refine gen_world (y2.alloc (.cells #[.int .u8 0, .int .u8 0, .int .u8 0, .int .u8 0, .int .u8 0, .int .u16 0] 30)) (Fm y [(y.heap.size, #[.string first, .string ⟨#[50, 48, 48]⟩], 9), (y2.heap.size, o6 od0, 30)]) ?_ ?_); exact K2.out.new _ _; intro y3 K3)
    | (go_at_call 74; refine (hI _).mono ?_; rintro e z ⟨rfl, rfl⟩)
    | (go_at_call 27; refine (hR _ K1.out).mono ?_; rintro e y2 ⟨rfl, hb2⟩; have K2 : Hid (Fm y [(y.heap.size, #[.string first, .string ⟨#[50, 48, 48]⟩], 9)] y2) := K1.out.below hb2)
    | ((with_reducible refine gen_world (y.alloc (.cells #[.string first, .string ⟨#[50, 48, 48]⟩] 9)) (Fm y [(y.heap.size, #[.string first, .string ⟨#[50, 48, 48]⟩], 9)]) hF.out ?_); intro y1 K1))
      exact fin.out _ K4.out.low
    rw [hn] at hI
    obtain ⟨X, hX⟩ := rd_enc hr
    obtain ⟨spb, capb, hvb, _, _, _, _⟩ := K.out.bs.open kU.len
    obtain ⟨nb, hnb⟩ : ∃ n, Hid (bs.length = n) := ⟨_, (rfl : bs.length = _)⟩
    rw [hnb.out] at hvb
    subst hvb
    obtain ⟨spu, capu, hvu, _, _, _, _⟩ := K.out.us.open kUs.len
    obtain ⟨nu, hnu⟩ : ∃ n, Hid (us.length = n) := ⟨_, (rfl : us.length = _)⟩
    rw [hnu.out] at hvu
    subst hvu
    have hAd : Hid (∀ (z : World) (vb' vu' : Value) (us' : List Us), Pg w P g vb' vu' bs F us' z → Calls Tryd.prog 50 #[.pointer (some ⟨P, 0, none⟩), .agg (o6 o)] z fun e x => (∃ v, e = .returned v) ∧ ∃ vb'', Pg w P g vb'' vu' (bs ++ [UInt8.ofNat (X / 256), UInt8.ofNat (X % 256)]) F us' x ∧ Kp z x) := fun z vb' vu' us' h => add_any w z P g vb' vu' bs F us' h hbs o X hX
    have hus' : Hid (us.length ≤ 100000) := hus
    have fin : Hid (∀ z vb' vu', Pg w P g vb' vu' (bs ++ [UInt8.ofNat (X / 256), UInt8.ofNat (X % 256)]) F (us ++ [⟨ln, nb, o, lb⟩]) z → Kp y z → TuE w P g bs F us y ln first lb (.returned (.bool true)) z) := fun z vb' vu' h1 h2 => .inl ⟨o, X, vb', vu', rfl, hr, hX, hn, by rw [hnb.out]; exact h1, h2⟩
    clear hR0 hr hbs hus hf hX
    generalize TuE w P g bs F us y ln first lb = T at fin ⊢
    go_enter Tryd.func49, Tryd.ntmps49
    go_wp2_with (first
    | ((with_reducible refine at_st rtO y2.heap.size (o6 od0) (o6 o) ?_ ?_ ?_ ?_ (.tmp 9) (.tmp 15) ?_ ?_ ?_ ?_ ?_); exact K3.out.bx 1 _ _ _ rfl; rfl; rfl; exact o6_one _; rfl; rfl; rfl; rfl; intro y4 hw4; have K4 : Hid (Fm y [(y.heap.size, #[.string first, .string ⟨#[50, 48, 48]⟩], 9), (y2.heap.size, o6 o, 30)] y4) := K3.out.put 1 _ _ _ _ rfl hw4.out)
    | ((with_reducible refine gen_world (y2.alloc (.cells #[.int .u8 0, .int .u8 0, .int .u8 0, .int .u8 0, .int .u8 0, .int .u16 0] 30)) (Fm y [(y.heap.size, #[.string first, .string ⟨#[50, 48, 48]⟩], 9), (y2.heap.size, o6 od0, 30)]) ?_ ?_); exact K2.out.new _ _; intro y3 K3)
    | (go_at_call 74; refine (hI _).mono ?_; rintro e z ⟨rfl, rfl⟩)
    | (go_at_call 27; refine (hR _ K1.out).mono ?_; rintro e y2 ⟨rfl, hb2⟩; have K2 : Hid (Fm y [(y.heap.size, #[.string first, .string ⟨#[50, 48, 48]⟩], 9)] y2) := K1.out.below hb2)
    | ((with_reducible refine gen_world (y.alloc (.cells #[.string first, .string ⟨#[50, 48, 48]⟩] 9)) (Fm y [(y.heap.size, #[.string first, .string ⟨#[50, 48, 48]⟩], 9)]) hF.out ?_); intro y1 K1))
    refine regU w P g spb nb capb spu nu capu bs F us ⟨ln, nb, o, lb⟩ rfl hus'.out y2.heap.size (K4.out.bx 1 _ _ _ rfl) (.pointer (some ⟨P, 0, none⟩)) (.int .i64 (ln : Int)) (.string first) (.string lb) undef undef undef undef (.bool false) (.pointer (some ⟨y2.heap.size, 0, none⟩)) (.bool true) (.tuple #[.agg (o6 o), .bool true]) (.string first) (.slice (some ⟨y.heap.size, 0, none⟩) 2 2) (.tuple #[.agg (o6 o), .bool true]) (.agg (o6 o)) (.bool true) (.bool true) (.bool false) (.bool false) (.string lb) (.bool true) (.bool false) (.bool false) rfl rfl rfl rfl ?_ ?_ ?_ ?_ ?_ ?_ ?_ ?_ ?_ ?_ ?_ ?_ ?_ ?_ ?_ ?_ ?_ ?_ ?_ ?_ ?_ (K.out.below K4.out.low) ?_ ?_
    · rfl
    · kernel_rfl
    · exact ⟨_, rfl, rfl, rfl, rfl, fun q hq => absurd hq (by simp)⟩
    · exact ⟨_, rfl, rfl, rfl, rfl, fun q hq => absurd hq (by simp)⟩
    · exact ⟨_, rfl, rfl, rfl, rfl, List.forall_mem_cons.2 ⟨⟨{ on := 1, ground := .data }, by simp, rfl, rfl⟩, fun q hq => absurd hq (by simp)⟩⟩
    · exact ⟨_, rfl, rfl, rfl, rfl, List.forall_mem_cons.2 ⟨⟨{ on := 2, ground := .data }, by simp, rfl, rfl⟩, fun q hq => absurd hq (by simp)⟩⟩
    · exact ⟨_, rfl, rfl, rfl, rfl, List.forall_mem_cons.2 ⟨⟨{ on := 3, ground := .data }, by simp, rfl, rfl⟩, fun q hq => absurd hq (by simp)⟩⟩
    · exact ⟨_, rfl, rfl, rfl, rfl, fun q hq => absurd hq (by simp)⟩
    · exact ⟨_, rfl, rfl, rfl, rfl, fun q hq => absurd hq (by simp)⟩
    · exact ⟨_, rfl, rfl, rfl, rfl, List.forall_mem_cons.2 ⟨⟨{ on := 6, ground := .data }, by simp, rfl, rfl⟩, fun q hq => absurd hq (by simp)⟩⟩
    · exact ⟨_, rfl, rfl, rfl, rfl, List.forall_mem_cons.2 ⟨⟨{ on := 7, ground := .data }, by simp, rfl, rfl⟩, fun q hq => absurd hq (by simp)⟩⟩
    · exact ⟨_, rfl, rfl, rfl, rfl, List.forall_mem_cons.2 ⟨⟨{ on := 8, ground := .data }, by simp, rfl, rfl⟩, fun q hq => absurd hq (by simp)⟩⟩
    · exact ⟨_, rfl, rfl, rfl, rfl, List.forall_mem_cons.2 ⟨⟨{ on := 9, ground := .data }, by simp, rfl, rfl⟩, fun q hq => absurd hq (by simp)⟩⟩
    · exact ⟨_, rfl, rfl, rfl, rfl, fun q hq => absurd hq (by simp)⟩
    · exact ⟨_, rfl, rfl, rfl, rfl, fun q hq => absurd hq (by simp)⟩
    · exact ⟨_, rfl, rfl, rfl, rfl, List.forall_mem_cons.2 ⟨⟨{ on := 5, ground := .data }, by simp, rfl, rfl⟩, List.forall_mem_cons.2 ⟨⟨{ on := 10, ground := .data }, by simp, rfl, rfl⟩, List.forall_mem_cons.2 ⟨⟨{ on := 11, ground := .data }, by simp, rfl, rfl⟩, List.forall_mem_cons.2 ⟨⟨{ on := 12, ground := .data }, by simp, rfl, rfl⟩, fun q hq => absurd hq (by simp)⟩⟩⟩⟩⟩
    · exact ⟨_, rfl, rfl, rfl, rfl, List.forall_mem_cons.2 ⟨⟨{ on := 13, ground := .data }, by simp, rfl, rfl⟩, fun q hq => absurd hq (by simp)⟩⟩
    · exact ⟨_, rfl, rfl, rfl, rfl, List.forall_mem_cons.2 ⟨⟨{ on := 4, ground := .data }, by simp, rfl, rfl⟩, List.forall_mem_cons.2 ⟨⟨{ on := 14, ground := .data }, by simp, rfl, rfl⟩, fun q hq => absurd hq (by simp)⟩⟩⟩
    · exact ⟨_, rfl, rfl, rfl, rfl, List.forall_mem_cons.2 ⟨⟨{ on := 0, ground := .data }, by simp, rfl, rfl⟩, List.forall_mem_cons.2 ⟨⟨{ on := 15, ground := .phase }, by simp, rfl, rfl⟩, fun q hq => absurd hq (by simp)⟩⟩⟩
    · exact ⟨_, rfl, rfl, rfl, rfl, List.forall_mem_cons.2 ⟨⟨{ on := 16, ground := .data }, by simp, rfl, rfl⟩, List.forall_mem_cons.2 ⟨⟨{ on := 15, ground := .phase }, by simp, rfl, rfl⟩, fun q hq => absurd hq (by simp)⟩⟩⟩
    · exact ⟨_, rfl, rfl, rfl, rfl, List.forall_mem_cons.2 ⟨⟨{ on := 17, ground := .data }, by simp, rfl, rfl⟩, List.forall_mem_cons.2 ⟨⟨{ on := 15, ground := .data }, by simp, rfl, rfl⟩, fun q hq => absurd hq (by simp)⟩⟩⟩
    · kernel_rfl
    · intro z vu' v24 v25 v26 v27 v28 v29 v30 v31 v32 v33 v34 v35 v36 v37 v38 v39 v40 v41 hp hk
      have hq : Hid (Bx z y2.heap.size (o6 o) 30) := hk.out.ty _ _ _ (K4.out.bx 1 _ _ _ rfl) (by decide) (by decide) (by decide)
      dsimp only [actU]
      go_wp2_with (first
        | (go_at_call 50; refine (hAd.out _ _ _ _ hp.out).mono ?_; rintro e z2 ⟨⟨v, rfl⟩, vb'', hp2, hk2⟩; have hp3 : Hid (Pg w P g vb'' vu' (bs ++ [UInt8.ofNat (X / 256), UInt8.ofNat (X % 256)]) F (us ++ [⟨ln, nb, o, lb⟩]) z2) := hp2; have hk3 : Hid (Kp z z2) := hk2)
        | ((with_reducible refine at_load rtO y2.heap.size (o6 o) hq.out ?_ (.tmp 9) ?_ ?_ ?_ ?_); rfl; rfl; rfl; rfl))
      exact fin.out _ _ _ hp3.out (((Kp.of_below K4.out.low).trans hk.out).trans hk3.out)
end Go.Proofs.YthaijjehplomfaaDoor
