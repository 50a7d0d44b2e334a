/- vesperlaw02.awake and vesperlaw02.CodeLines, walked. -/
import Derived.Test.YtbllnjifmcodbaaDoorBack
namespace Go.Proofs.YtbllnjifmcodbaaDoor
open Go.RowKit
set_option linter.unusedVariables false
set_option maxHeartbeats 1000000
set_option maxRecDepth 20000

def lbr : ByteArray := ⟨#[76, 66, 82]⟩
def glo : ByteArray := ⟨#[71, 76, 79]⟩
def glof : ByteArray := ⟨#[71, 76, 79, 32, 102]⟩
theorem lbr_eq : lbr = nm 192 := by rw [nm_eq]; exact congrArg ByteArray.mk (by decide +kernel)
theorem glo_eq : glo = nm 128 := by rw [nm_eq]; exact congrArg ByteArray.mk (by decide +kernel)
theorem glof_eq : glof = textOf 128 15 := by decide +kernel
theorem lbr_op : opOf lbr = some 192 := by rw [lbr_eq, opOf_nm 192 (by decide)]; exact congrArg some (by decide +kernel)
theorem glo_op : opOf glo = some 128 := by rw [glo_eq, opOf_nm 128 (by decide)]; exact congrArg some (by decide +kernel)
theorem may_lbr : may 192 33094 := (mayB_iff _ _).1 (by decide +kernel)
theorem may_glo : may 128 15 := (mayB_iff _ _).1 (by decide +kernel)
theorem len_lbr : (encB 192 33094).length = 3 := by decide +kernel

theorem awake_enc (w : World) (T : Tabs w) : Calls Tryd.prog 12 #[.agg #[.string ⟨#[76, 66, 82]⟩, .int .i64 33094]] w fun e w' => ∃ b, w.heap.size ≤ b ∧ e = .returned (.tuple #[.slice (some ⟨b, 0, none⟩) 3 3, .int .i64 0]) ∧ Below w.heap.size w w' := by
  refine (enc_good lbr 33094 192 lbr_op may_lbr w T).mono ?_
  rintro e w' ⟨b, h1, h2, h3, h4⟩
  rw [len_lbr] at h2
  exact ⟨b, h1, h2, h4⟩
theorem awake_parse (w : World) (T : Tabs w) : Calls Tryd.prog 18 #[.string ⟨#[71, 76, 79, 32, 102]⟩] w fun e w' => e = .returned (.tuple #[.agg #[.string ⟨#[71, 76, 79]⟩, .int .i64 15], .int .i64 0]) ∧ Below w.heap.size w w' := by
  have h := parse_any glof (by decide) w T
  have ht := parse_text glo 128 15 glo_op may_glo
  rw [← glof_eq] at ht
  rw [ht.1, ht.2.1, ht.2.2] at h
  exact h

theorem awake_any (w : World) (T : Tabs w) : Calls Tryd.prog 16 #[] w fun e w' => e = .returned (.bool true) ∧ Below w.heap.size w w' := by
  go_enter Tryd.func16, Tryd.ntmps16
  go_wp2_with (first
    | (go_at_call 12; refine (awake_enc _ T).mono ?_; rintro e v1 ⟨b, hbb, rfl, hb1⟩; have T1 := T.below hb1)
    | (go_at_call 18; refine (awake_parse _ T1).mono ?_; rintro e v2 ⟨rfl, hb2⟩; replace hb2 := hb1.trans (hb2.mono hb1.size)))
  go_ret
  exact ⟨rfl, hb2.alloc hb2.size _⟩

theorem lines_big (s : ByteArray) (w : World) (h : 2147483647 < s.size) (hs : s.size ≤ maxLen) : Calls Tryd.prog 7 #[.string s] w fun e w' => e = .returned (.bool true) ∧ Below w.heap.size w w' := by
  unfold maxLen at hs
  go_enter Tryd.func7, Tryd.ntmps7
  go_wp2
  go_ret
  exact ⟨rfl, Below.refl _ _⟩

theorem lines_ok (s X : ByteArray) (A : Int) (w : World) (T : Tabs w) (h : s.size ≤ 2147483647)
    (hp : ∀ v, Tabs v → Calls Tryd.prog 18 #[.string s] v fun e v' => e = .returned (.tuple #[.agg #[.string X, .int .i64 A], .int .i64 0]) ∧ Below v.heap.size v v')
    (hq : ∀ v, Tabs v → Calls Tryd.prog 17 #[.agg #[.string X, .int .i64 A]] v fun e v' => e = .returned (.tuple #[.string s, .int .i64 0]) ∧ Below v.heap.size v v') :
    Calls Tryd.prog 7 #[.string s] w fun e w' => e = .returned (.bool true) ∧ Below w.heap.size w w' := by
  go_enter Tryd.func7, Tryd.ntmps7
  go_wp2_with (first
    | (go_at_call 16; refine (awake_any _ T).mono ?_; rintro e v1 ⟨rfl, hb1⟩; have T1 := T.below hb1)
    | (go_at_call 18; refine (hp _ T1).mono ?_; rintro e v2 ⟨rfl, hb2⟩; have T2 := (T1.below hb2).below ((Below.refl _ _).alloc (Nat.le_refl _) (.cells #[.string X, .int .i64 A] 33)); replace hb2 := hb1.trans (hb2.mono hb1.size))
    | (go_at_call 17; refine (hq _ T2).mono ?_; rintro e v3 ⟨rfl, hb3⟩; replace hb3 := hb2.trans ((below_own hb3).mono hb2.size)))
  go_ret
  exact ⟨rfl, hb3⟩
theorem lines_no (s : ByteArray) (E : Int) (w : World) (T : Tabs w) (h : s.size ≤ 2147483647) (hE : E = 20 ∨ E = 21)
    (hp : ∀ v, Tabs v → Calls Tryd.prog 18 #[.string s] v fun e v' => e = .returned (.tuple #[.agg #[.string ⟨#[]⟩, .int .i64 0], .int .i64 E]) ∧ Below v.heap.size v v') :
    Calls Tryd.prog 7 #[.string s] w fun e w' => e = .returned (.bool true) ∧ Below w.heap.size w w' := by
  rcases hE with rfl | rfl
  all_goals
    go_enter Tryd.func7, Tryd.ntmps7
    go_wp2_with (first
      | (go_at_call 16; refine (awake_any _ T).mono ?_; rintro e v1 ⟨rfl, hb1⟩; have T1 := T.below hb1)
      | (go_at_call 18; refine (hp _ T1).mono ?_; rintro e v2 ⟨rfl, hb2⟩; replace hb2 := hb1.trans (hb2.mono hb1.size)))
    go_ret
    exact ⟨rfl, hb2.alloc hb2.size _⟩

/-- The law, whole. -/
theorem lines_any (s : ByteArray) (hs : s.size ≤ maxLen) (w : World) (T : Tabs w) : Calls Tryd.prog 7 #[.string s] w fun e w' => e = .returned (.bool true) ∧ Below w.heap.size w w' := by
  by_cases hb : 2147483647 < s.size
  · exact lines_big s w hb hs
  · have hp := fun v Tv => parse_any s hs v Tv
    unfold retI at hp
    rcases parse_says s with ⟨h1, h2, h3⟩ | ⟨h1, h2, h3⟩
    · refine lines_ok s (parseN s) (parseA s) w T (by omega) (fun v Tv => ?_) (fun v Tv => ?_)
      · have := hp v Tv
        rw [h1] at this
        exact this
      · have := print_any (parseN s) (parseA s) v Tv
        rw [h2, h3] at this
        exact this
    · refine lines_no s (parseE s) w T (by omega) h3 (fun v Tv => ?_)
      have := hp v Tv
      rw [h1, h2] at this
      exact this
end Go.Proofs.YtbllnjifmcodbaaDoor
