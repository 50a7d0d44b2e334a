/- vesperlaw01.BitsDo returns true for every sum, and what is none, of any D, byte and DF: Do answers as the document does; no condition. -/
import Derived.Test.YtcljbfembnbeiaaRows
import Derived.WalkKit
import Derived.ProofKit
import Derived.OpenShut
import Derived.Lib.SmallJoins
import Derived.Test.YtcljbfembnbeiaaEnd
import Derived.Test.YtcljbfembnbeiaaWake
import Derived.Test.YtcljbfembnbeiaaRefDo
namespace Go.Proofs.Ytcljbfembnbeiaa.bitsDo
open Go.ChangeShapes Go.WideShapes Go.ChangeAt Go.RowKit Go.Joins

theorem cells25 : Try.prog.cellsOf 25 = 4 := by kernel_rfl

set_option maxHeartbeats 400000 in
theorem walk (s d b : Int) (df : Bool) (ws : (Lit.int .u8 s).wf = true) (wd : (Lit.int .u8 d).wf = true) (wb : (Lit.int .u8 b).wf = true) (w : World) :
    Calls Try.prog 4 #[.agg #[.int .u8 s, .int .u8 d, .int .u8 b, .bool df]] w fun e w' => e = .returned (.bool true) ∧ Below w.heap.size w w' := by
  obtain ⟨s0, s1⟩ := bounds_u8 ws
  obtain ⟨d0, d1⟩ := bounds_u8 wd
  obtain ⟨b0, b1⟩ := bounds_u8 wb
  go_enter Try.func4, Try.ntmps4
  go_wp2_with fail
  refine (do_any _ _ _ _ s0 s1 d0 d1 b0 b1 _).mono ?_
  rintro e v1 ⟨rfl, hb1⟩
  have hc : ∀ o, v1.cell? ⟨w.heap.size, o, none⟩ = (w.alloc (.cells #[.int .u8 s, .int .u8 d, .int .u8 b, .bool df] 25)).cell? ⟨w.heap.size, o, none⟩ := fun o => hb1.cell (p := ⟨w.heap.size, o, none⟩) (by simp)
  go_wp2_with (first | (go_at_call 9; refine (awake_any _).mono ?_; rintro e v3 ⟨rfl, hb3⟩) | (go_at_call 11; refine (rdo_any _ _ _ _ s0 d0 d1 b0 b1 _).mono ?_; rintro e v2 ⟨rfl, rfl⟩))
  go_ret
  have hz : w.heap.size ≤ (w.alloc (.cells #[.int .u8 s, .int .u8 d, .int .u8 b, .bool df] 25)).heap.size := by simp
  exact ⟨rfl, (((Below.refl _ _).alloc (Nat.le_refl _) _).trans (hb1.mono hz)).trans (hb3.mono (Nat.le_trans hz hb1.size))⟩

set_option maxRecDepth 100000 in
theorem lifted (os : Os) (started : os.Started) (H : Type) (enc : TypeId × Value → H) :
    ReturnsInHanded {} Try.checked os 4 .any (Rows.bitsDoSpec.pre6 enc Try.prog Try.f4 Rows.bitsDoRow.domain false) (Rows.bitsDoSpec.post enc Try.prog Try.f4 false true false false) := by
  refine returnsInHanded_of_change (C := Try.checked) own started (by kernel_rfl) Try.func4
    (ChangeSpec.witness6 (enc := enc) (C := Try.checked) false ⟨#[], #[.agg #[.int .u8 0, .int .u8 0, .int .u8 0, .bool false]], []⟩ 8 (by kernel_rfl) (by kernel_rfl) (by kernel_rfl) (by kernel_rfl)) ?_
  intro W base args ds gs before hval0 hW _ _
  have hval : ∀ (j : Nat) t v, Try.f4.params[j]? = some t → args[j]? = some v → Value.okWide Try.prog W .any base t v := hval0
  have hW' := hW
  obtain ⟨p, q, hA0, hV, rfl, _, _⟩ := hW
  have hA : DataW.TrodAll enc Try.prog W 0 (fun _ => true) true Try.f4.params.toList args.toList ds p := hA0
  rw [Try.params4] at hA hval
  obtain ⟨v0, d0, rfl, rfl, h0⟩ := trodAll_one hA
  obtain ⟨rfl, rfl⟩ := trodVars_none hV
  obtain ⟨c0, c1, c2, c3, y0, y1, y2, y3, m, rfl, rfl, rfl, hy0, hy1, hy2, hy3⟩ := open_agg4 Try.underlying25 (by kernel_rfl) cells25 (hval 0 25 v0 rfl rfl) h0
  obtain ⟨a0, e0, rfl, w0⟩ := DataW.trod_int Try.underlying23 hy0
  obtain ⟨a1, e1, rfl, w1⟩ := DataW.trod_int Try.underlying5 hy1
  obtain ⟨a2, e2, rfl, w2⟩ := DataW.trod_int Try.underlying5 hy2
  obtain ⟨a3, e3, rfl⟩ := DataW.trod_bool Try.underlying4 hy3
  simp at e0 e1 e2 e3
  subst e0 e1 e2 e3
  clear hA0 hval0
  simp only [List.append_nil] at hW'
  have structReads : ∀ (W' : World) (sp : Nat → Bool), DataW.Trod enc Try.prog W' 0 sp true 25 (.agg #[.int .u8 a0, .int .u8 a1, .int .u8 a2, .bool a3]) (.agg [.lit (.int .u8 a0), .lit (.int .u8 a1), .lit (.int .u8 a2), .lit (.bool a3)]) [] := fun W' sp =>
    shut_agg4 (y0 := (.lit (.int .u8 a0), [])) (y1 := (.lit (.int .u8 a1), [])) (y2 := (.lit (.int .u8 a2), [])) (y3 := (.lit (.bool a3), [])) Try.underlying25 (by kernel_rfl) cells25
      ⟨1, by simp [DataW.trod, Try.underlying23, w0]⟩ ⟨1, by simp [DataW.trod, Try.underlying5, w1]⟩ ⟨1, by simp [DataW.trod, Try.underlying5, w2]⟩ ⟨1, by simp [DataW.trod, Try.underlying4]⟩
  refine (walk a0 a1 a2 a3 w0 w1 w2 W).mono fun e W' ⟨he, hg⟩ => ?_
  subst he
  exact ⟨_, rfl, post_of_below (pa := []) (pv := []) hW' (fun _ _ _ => trodAll_mk1 (shut_bool Try.underlying4 _)) (fun sp _ => trodAll_mk1 (structReads _ sp)) (fun _ _ => rfl) hg⟩

theorem over : Rows.bitsDoRow.holds Try.pinned (OpenSpec.ofChange Rows.bitsDoSpec) :=
  OpenClaim.holds_of_wide 4 Try.f4 rfl rfl rfl rfl rfl rfl rfl ⟨rfl, rfl, rfl, rfl, rfl⟩ rfl rfl rfl rfl rfl (by kernel_rfl) Try.func4 (by kernel_rfl)
    (of_decide_eq_true (by kernel_rfl)) (by unfold Func.isWrapper; first | (rw [if_pos (by decide +kernel)]; kernel_rfl) | (rw [if_neg (by decide +kernel)]; exact ⟨rfl, rfl⟩))
    (fun os started H enc _ => lifted os started H enc)

theorem proved : Rows.BitsDoSaid :=
  over
#print axioms proved
end Go.Proofs.Ytcljbfembnbeiaa.bitsDo
