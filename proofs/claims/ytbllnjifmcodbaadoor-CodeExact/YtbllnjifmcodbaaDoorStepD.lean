/- The law's own step: Encode. -/
import Derived.Test.YtbllnjifmcodbaaDoorStepA
namespace Go.Proofs.YtbllnjifmcodbaaDoor
open Go.RowKit
set_option linter.unusedVariables false
set_option maxHeartbeats 2000000
set_option maxRecDepth 20000

theorem Bk.lo {w : World} {B kb : Nat} {es : List En} {T V : Value} (h : Bk w B kb es T V) : ∀ (j : Nat) (e : En), es[j]? = some e → ∀ b, e.tv.ownBlock = some b → b < w.heap.size := fun j e he b hb => by
  rcases (h.ok j e he).1.2 with ⟨h1, _⟩ | ⟨b', h1, _, h3⟩
  · rw [h1] at hb; cases hb
  · rw [h1] at hb
    simp [Value.ownBlock] at hb
    subst hb
    exact (Array.getElem?_eq_some_iff.1 h3).1
def Kept (w : World) (B kb : Nat) (es : List En) (w' : World) : Prop := ∃ es' T' V', Bk w' B kb es' T' V' ∧ es'.length ≤ es.length + 1 ∧ Below B w w'

theorem step_enc_bad (w : World) (B kb : Nat) (es : List En) (T V : Value) (hb : Hid (Bk w B kb es T V)) (hB : B ≤ kb) (hBs : B ≤ w.heap.size) (hes : Hid (es.length ≤ 2147483647)) (n : Nat) (ag : Bool) (S : ByteArray) (A : Int) (L : ByteArray) (sp : Option Addr) (len cap : Nat) (er : Int)
    (cA : ∀ v, Below w.heap.size w v → Calls Tryd.prog 12 #[.agg #[.string S, .int .i64 A]] v fun e v' => e = .returned (.tuple #[.slice none 0 0, .int .i64 er]) ∧ Below v.heap.size v v')
    (cB : ∀ v, Calls Tryd.prog 27 #[.agg #[.string S, .int .i64 A]] v fun e v' => e = .returned (.tuple #[.slice none 0 0, .int .i64 er]) ∧ Below v.heap.size v v') :
    Calls Tryd.prog 13 #[.pointer (some ⟨kb, 0, none⟩), opV 4 n ag S A L sp len cap] w fun e w' => e = .returned (.bool true) ∧ Kept w B kb es w' := by
  have HB : Below w.heap.size w (w.alloc (opC 4 n ag S A L sp len cap)) := (Below.refl _ _).alloc (Nat.le_refl _) _
  unfold opV
  go_enter Tryd.func13, Tryd.ntmps13
  go_wp2_with (first
    | (go_at_call 12; refine (cA _ HB).mono ?_; rintro e v1 ⟨rfl, P1⟩; have c3 : v1.cell? ⟨w.heap.size, 3, none⟩ = some (.string S) := own_cell P1 3; have c4 : v1.cell? ⟨w.heap.size, 4, none⟩ = some (.int .i64 A) := own_cell P1 4; replace P1 := below_own P1)
    | (go_at_call 27; refine (cB _).mono ?_; rintro e v2 ⟨rfl, P2⟩; replace P2 := P1.trans (P2.mono P1.size); have hk := keep_nil v2 B kb v2.heap.size es T V (hb.out.below P2) hB (Nat.le_trans hBs P2.size) hes ⟨Nat.le_refl _, (hb.out.below P2).lo⟩)
    | (go_at_call 28; refine hk.mono ?_; rintro e v3 ⟨rfl, HF⟩; have HF' : Hid _ := HF; clear HF))
  go_ret
  obtain ⟨wv, T', V', h1, h2⟩ := HF'.out
  exact ⟨by first | rfl | simp, _, T', V', h1, by simp, (P2.mono hBs).trans h2⟩

theorem step_enc_good (w : World) (B kb : Nat) (es : List En) (T V : Value) (hb : Hid (Bk w B kb es T V)) (hB : B ≤ kb) (hBs : B ≤ w.heap.size) (hes : Hid (es.length ≤ 2147483647)) (n : Nat) (ag : Bool) (S : ByteArray) (A : Int) (L : ByteArray) (sp : Option Addr) (len cap : Nat) (l : List Int) (m : Nat) (hl : Hid (l.length = m)) (h1 : 1 ≤ m) (h3 : m ≤ 3)
    (cA : ∀ v, Below w.heap.size w v → Calls Tryd.prog 12 #[.agg #[.string S, .int .i64 A]] v (Coded v l))
    (cB : ∀ v, Calls Tryd.prog 27 #[.agg #[.string S, .int .i64 A]] v (Coded v l)) :
    Calls Tryd.prog 13 #[.pointer (some ⟨kb, 0, none⟩), opV 4 n ag S A L sp len cap] w fun e w' => e = .returned (.bool true) ∧ Kept w B kb es w' := by
  have HB : Below w.heap.size w (w.alloc (opC 4 n ag S A L sp len cap)) := (Below.refl _ _).alloc (Nat.le_refl _) _
  unfold Coded at cA cB
  rw [hl.out] at cA cB
  unfold opV
  go_enter Tryd.func13, Tryd.ntmps13
  go_wp2_with (first
    | (go_at_call 12; refine (cA _ HB).mono ?_; rintro e v1 ⟨tb, htb, rfl, ht, P1⟩; have c3 : v1.cell? ⟨w.heap.size, 3, none⟩ = some (.string S) := own_cell P1 3; have c4 : v1.cell? ⟨w.heap.size, 4, none⟩ = some (.int .i64 A) := own_cell P1 4; replace P1 := below_own P1; have ht' : Hid (v1.heap[tb]? = some (.cells (l.map (Value.int .u8)).toArray 5)) := ht; clear ht; have htb' : w.heap.size ≤ tb := (by simp at htb; omega); clear htb)
    | (go_at_call 27; refine (cB _).mono ?_; rintro e v2 ⟨wb, hwb, rfl, hw, P2⟩; have ht2 : Hid (v2.heap[tb]? = some (.cells (l.map (Value.int .u8)).toArray 5)) := (P2.block tb (Array.getElem?_eq_some_iff.1 ht'.out).1).trans ht'.out; have hw' : Hid (v2.heap[wb]? = some (.cells (l.map (Value.int .u8)).toArray 5)) := hw; replace P2 := P1.trans (P2.mono P1.size); have hk := keep_row v2 B kb w.heap.size tb wb m es T V l (hb.out.below P2) hl h1 h3 ht2 hw' hB (Nat.le_trans hBs P2.size) (Nat.le_trans hBs htb') hes ⟨P2.size, htb', hb.out.lo⟩; clear hw)
    | (go_at_call 28; refine hk.mono ?_; rintro e v3 ⟨rfl, HF⟩; have HF' : Hid _ := HF; clear HF))
  go_ret
  obtain ⟨wv, T', V', h1, h2⟩ := HF'.out
  exact ⟨by first | rfl | simp, _, T', V', h1, by simp, (P2.mono hBs).trans h2⟩
end Go.Proofs.YtbllnjifmcodbaaDoor
