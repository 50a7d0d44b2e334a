/- The law's own step, at every operation. -/
import Derived.Test.YtbllnjifmcodbaaDoorStepC
import Derived.Test.YtbllnjifmcodbaaDoorStepD
import Derived.Test.YtbllnjifmcodbaaDoorStepE
import Derived.Test.YtbllnjifmcodbaaDoorThere
import Derived.Test.YtbllnjifmcodbaaDoorBus
namespace Go.Proofs.YtbllnjifmcodbaaDoor
open Go.RowKit
set_option linter.unusedVariables false

theorem step_dec_any (w : World) (T : Tabs w) (kb : Nat) (n : Nat) (ag : Bool) (S : ByteArray) (A : Int) (L : ByteArray) (sp : Option Addr) (len cap : Nat) (hlen : len ≤ 2147483647) (Y : Nat → Int) (hY : Lies w sp len Y) (hYb : ∀ j, j < len → 0 ≤ Y j ∧ Y j < 256) :
    Calls Tryd.prog 13 #[.pointer (some ⟨kb, 0, none⟩), opV 5 n ag S A L sp len cap] w fun e w' => e = .returned (.bool true) ∧ Below w.heap.size w w' := by
  have lent : ∀ {v : World} {g : Nat}, LentAt v g len (rowZ len Y) → ∀ j, j < len → v.cell? ⟨g, j, none⟩ = some (.int .u8 (Y j)) := fun {v g} h j hj => by
    obtain ⟨cur, h1, _, h3, _⟩ := h
    rw [cell_heap h1, h3 j hj, rowZ_at len Y j hj]
  rcases Nat.eq_zero_or_pos len with rfl | hp
  · exact step_dec w kb n ag S A L sp 0 cap hlen Y hY _ _ _ _ (fun v g _ _ => dec_nil v _ _) (fun v _ => rdec_nil v _ _)
  · obtain ⟨gb, ob, hsp, h0⟩ := hY 0 hp
    have hb0 := hYb 0 hp
    obtain ⟨y0, hy0⟩ : ∃ y : Nat, Y 0 = (y : Int) := ⟨(Y 0).toNat, by omega⟩
    have hy : y0 < 256 := by omega
    have lies : ∀ {v : World}, Below w.heap.size w v → ∀ j, j < len → v.cell? ⟨gb, ob + j, none⟩ = some (.int .u8 (Y j)) := fun {v} hv j hj => by
      obtain ⟨gb', ob', h1, h2⟩ := (hY.below hv) j hj
      rw [hsp] at h1
      simp at h1
      obtain ⟨rfl, rfl⟩ := h1
      exact h2
    subst hsp
    by_cases hs : len < by1 y0
    · refine step_dec w kb n ag S A L _ len cap hlen Y hY _ _ _ _ (fun v g hv hL => dec_less v (T.below hv) g 0 len _ y0 hy ?_ hp hs) (fun v hv => rdec_less v gb ob len cap y0 hy ?_ hp hs)
      · rw [← hy0]; exact lent hL 0 hp
      · rw [← hy0]; exact lies hv 0 hp
    · have b2 : by1 y0 ≤ len := by omega
      have hy1 := by1_eq y0 hy
      obtain ⟨p, hp1, hp2⟩ : ∃ p : Nat, p < 256 ∧ (1 < len → Y 1 = (p : Int)) := by
        by_cases h : 1 < len
        · have := hYb 1 h; exact ⟨(Y 1).toNat, by omega, fun _ => by omega⟩
        · exact ⟨0, by omega, fun h' => absurd h' h⟩
      obtain ⟨q, hq1, hq2⟩ : ∃ p : Nat, p < 256 ∧ (2 < len → Y 2 = (p : Int)) := by
        by_cases h : 2 < len
        · have := hYb 2 h; exact ⟨(Y 2).toNat, by omega, fun _ => by omega⟩
        · exact ⟨0, by omega, fun h' => absurd h' h⟩
      refine step_dec w kb n ag S A L _ len cap hlen Y hY _ _ _ _ (fun v g hv hL => dec_row v (T.below hv) g 0 len _ y0 p q hy hp1 hq1 ?_ (fun h2 => ?_) (fun h3 => ?_) b2) (fun v hv => rdec_row v gb ob len cap y0 p q hy hp1 hq1 ?_ (fun h2 => ?_) (fun h3 => ?_) b2)
      · rw [← hy0]; exact lent hL 0 hp
      · rw [← hp2 (by omega)]; exact lent hL 1 (by omega)
      · rw [← hq2 (by omega)]; exact lent hL 2 (by omega)
      · rw [← hy0]; exact lies hv 0 hp
      · rw [← hp2 (by omega)]; exact lies hv 1 (by omega)
      · rw [← hq2 (by omega)]; exact lies hv 2 (by omega)

theorem by1_13 (n : Nat) (h : n < 256) : 1 ≤ by1 n ∧ by1 n ≤ 3 := by revert n; decide +kernel
theorem kept_of {w : World} {B kb : Nat} {es : List En} {T V : Value} {f : FuncId} {args : Array Value} (hb : Bk w B kb es T V) (hBs : B ≤ w.heap.size) (h : Calls Tryd.prog f args w fun e w' => e = .returned (.bool true) ∧ Below w.heap.size w w') :
    Calls Tryd.prog f args w fun e w' => e = .returned (.bool true) ∧ Kept w B kb es w' :=
  h.mono fun _ _ ⟨he, h2⟩ => ⟨he, es, T, V, hb.below h2, by omega, h2.mono hBs⟩

theorem step_any (w : World) (Tb : Tabs w) (U : TabsU w) (B kb : Nat) (es : List En) (T V : Value) (hb : Bk w B kb es T V) (hB : B ≤ kb) (hBs : B ≤ w.heap.size) (hes : es.length ≤ 2147483647)
    (k : Int) (n : Nat) (hn : n < 256) (ag : Bool) (S : ByteArray) (A : Int) (L : ByteArray) (hL : L.size ≤ 2147483647) (sp : Option Addr) (len cap : Nat) (hlen : len ≤ 2147483647) (Y : Nat → Int) (hY : Lies w sp len Y) (hYb : ∀ j, j < len → 0 ≤ Y j ∧ Y j < 256) :
    Calls Tryd.prog 13 #[.pointer (some ⟨kb, 0, none⟩), opV k n ag S A L sp len cap] w fun e w' => e = .returned (.bool true) ∧ Kept w B kb es w' := by
  by_cases h1 : k = 1
  · subst h1; exact kept_of hb hBs (step_info w Tb kb n hn ag S A L sp len cap)
  by_cases h2 : k = 2
  · subst h2
    refine kept_of hb hBs ?_
    rcases ho : opOf L with _ | m
    · exact step_find w kb n ag S A L sp len cap _ _ _ _ _ (fun v hv => find_none L ho v (Tb.below hv)) (fun v => rfind_none L ho v)
    · exact step_find w kb n ag S A L sp len cap _ _ _ _ _ (fun v hv => find_some L m ho _ _ _ _ (show nm m = nm m from rfl) (show fm m = fm m from rfl) (show lay (fm m * 3) = lay (fm m * 3) from rfl) (show cyc m = cyc m from rfl) v (Tb.below hv)) (fun v => rfind_some L m ho _ _ _ _ (fun v => rinfo_any m v (opOf_lt ho).1) v)
  by_cases h3 : k = 3
  · subst h3; exact kept_of hb hBs (step_bus w Tb U kb n hn ag S A L sp len cap)
  by_cases h4 : k = 4
  · subst h4
    rcases ho : opOf S with _ | m
    · exact step_enc_bad w B kb es T V hb hB hBs hes n ag S A L sp len cap 20 (fun v hv => enc_name S A ho v (Tb.below hv)) (fun v => renc_none S A ho v)
    · by_cases hm : may m A
      · have hmlt := (opOf_lt ho).1
        have hy := by1_13 m hmlt
        exact step_enc_good w B kb es T V hb hB hBs hes n ag S A L sp len cap (encB m A) (by1 m) (encB_len m hmlt A) hy.1 hy.2 (fun v hv => enc_good S A m ho hm v (Tb.below hv)) (fun v => renc_good S A m ho hm v)
      · exact step_enc_bad w B kb es T V hb hB hBs hes n ag S A L sp len cap 21 (fun v hv => enc_bad S A m ho hm v (Tb.below hv)) (fun v => renc_badA S A m ho hm v)
  by_cases h5 : k = 5
  · subst h5; exact kept_of hb hBs (step_dec_any w Tb kb n ag S A L sp len cap hlen Y hY hYb)
  by_cases h6 : k = 6
  · subst h6; exact kept_of hb hBs (step_print w kb n ag S A L sp len cap _ _ (fun v hv => print_any S A v (Tb.below hv)) (fun v => rprint_any S A v))
  by_cases h7 : k = 7
  · subst h7; exact kept_of hb hBs (step_parse w kb n ag S A L sp len cap _ _ _ (fun v hv => parse_any L (by unfold maxLen; omega) v (Tb.below hv)) (fun v => rparse_any L hL v))
  exact kept_of hb hBs (step_none w kb k n ag S A L sp len cap h1 h2 h3 h4 h5 h6 h7)
end Go.Proofs.YtbllnjifmcodbaaDoor
