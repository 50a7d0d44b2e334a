/- A trace as text: the program's. -/
import Derived.Test.YtoajmicdphffnaaDoorGr
import Derived.Test.YtoajmicdphffnaaDoorGd
import Derived.Test.YtoajmicdphffnaaDoorRv
namespace Go.Proofs.YtoajmicdphffnaaDoor
open Go Go.RowKit
set_option linter.unusedVariables false
set_option maxHeartbeats 4000000
set_option maxRecDepth 20000

theorem catchS (p q : Nat) (v x : Value) (older : List PanicEntry) (w : World) (hp : Bx w p #[v] 9) (hq : Bx w q #[x] 25) (hne : q ≠ p) :
    CallsD Tryd.prog 25 #[.pointer (some ⟨p, 0, none⟩), .pointer (some ⟨q, 0, none⟩)] (.panicking ({ v := pv, recovered := false } :: older)) w fun e' u' w' =>
      e' = .returned (.tuple #[]) ∧ u' = .panicking ({ v := pv, recovered := true } :: older) ∧ w' = (w.setCell ⟨p, 0, none⟩ (.string ⟨#[]⟩)).setCell ⟨q, 0, none⟩ (.int .i64 1) := by
  have hp0 := hp.c 0 _ rfl
  have fp := hp.fz 0
  have hq0 : (w.setCell ⟨p, 0, none⟩ (.string ⟨#[]⟩)).cell? ⟨q, 0, none⟩ = some x := (World.cell?_of_block (w := w) (a := ⟨q, 0, none⟩) (heap_setCell_other w ⟨p, 0, none⟩ q _ hne)).trans (hq.c 0 _ rfl)
  have fq : (w.setCell ⟨p, 0, none⟩ (.string ⟨#[]⟩)).frozen? ⟨q, 0, none⟩ = false := (World.frozen?_of_block (w := w) (a := ⟨q, 0, none⟩) (heap_setCell_other w ⟨p, 0, none⟩ q _ hne)).trans (hq.fz 0)
  clear hp hq hne
  refine callsD_of_wpS Tryd.func25 rfl fun c₀ cs hu => ?_
  rw [show (#[.pointer (some ⟨p, 0, none⟩), .pointer (some ⟨q, 0, none⟩)] ++ Array.replicate (Tryd.f25.ntmps - (#[.pointer (some ⟨p, 0, none⟩), .pointer (some ⟨q, 0, none⟩)] : Array Value).size) undef : Array Value) = #[.pointer (some ⟨p, 0, none⟩), .pointer (some ⟨q, 0, none⟩), undef, undef] from by rw [Tryd.ntmps25]; rfl]
  refine wpS_rec (v := pv) (cs' := { c₀ with mode := .panicking ({ v := pv, recovered := true } :: older) } :: cs) rfl (by kernel_rfl) (by rfl) (.inl (by simp [recoverD, hu, pv])) ?_
  unfold pv
  go_simp
  go_wp2
  exact ⟨rfl, _, rfl, .tuple #[], by simp [results, Tryd.results25], rfl, rfl, rfl⟩
theorem restS (p q : Nat) (w : World) :
    CallsD Tryd.prog 25 #[.pointer (some ⟨p, 0, none⟩), .pointer (some ⟨q, 0, none⟩)] .returning w fun e' u' w' => e' = .returned (.tuple #[]) ∧ u' = .returning ∧ w' = w := by
  refine callsD_of_wpS Tryd.func25 rfl fun c₀ cs hu => ?_
  rw [show (#[.pointer (some ⟨p, 0, none⟩), .pointer (some ⟨q, 0, none⟩)] ++ Array.replicate (Tryd.f25.ntmps - (#[.pointer (some ⟨p, 0, none⟩), .pointer (some ⟨q, 0, none⟩)] : Array Value).size) undef : Array Value) = #[.pointer (some ⟨p, 0, none⟩), .pointer (some ⟨q, 0, none⟩), undef, undef] from by rw [Tryd.ntmps25]; rfl]
  refine wpS_rec (v := .nilIface) (cs' := c₀ :: cs) rfl (by kernel_rfl) (by rfl) (.inr ⟨by simp [recoverD, hu], rfl, rfl⟩) ?_
  go_simp
  go_wp2
  refine ⟨rfl, .returning, ?_, .tuple #[], by simp [results, Tryd.results25], rfl, rfl, rfl⟩
  cases c₀
  simp_all
theorem copy_keep (B b : Nat) (bs : List Value) (w : World) (h : Lib.IsBuilder 49 5 B b bs w) :
    Calls Tryd.prog 67 #[.pointer (some ⟨b, 0, none⟩)] w fun e w' => e = .returned (.tuple #[]) ∧ (Lib.BuilderAt 49 5 B b (.pointer (some ⟨b, 0, none⟩)) bs w' ∧ Below B w w') ∧ (∀ q cs t, t ≠ 49 → t ≠ 5 → Bx w q cs t → Bx w' q cs t) := by
  rcases h with h | h
  · refine (copy_fresh b w h.cell0 h.shape h.frozen0).mono ?_
    rintro e w' ⟨rfl, rfl⟩
    refine ⟨rfl, ⟨h.used _, (Below.refl B w).setCell (p := ⟨b, 0, none⟩) h.1 _⟩, fun q cs t ht _ hx => ?_⟩
    obtain ⟨_, v, hbk, _⟩ := h
    exact hx.setO _ fun e => by
      subst e
      unfold Bx at hx
      rw [hbk] at hx
      injection hx with hx
      injection hx with _ h2 _
      exact ht h2.symm
  · refine (copy_used b w h.cell0).mono ?_
    rintro e w' ⟨rfl, rfl⟩
    exact ⟨rfl, ⟨h, Below.refl B _⟩, fun q cs t _ _ hx => hx⟩
theorem write_keep (B b : Nat) (bs : List Value) (s : ByteArray) (w : World) (h : Lib.IsBuilder 49 5 B b bs w) (hlen : bs.length + s.size ≤ 140737488355328) (hBw : B ≤ w.heap.size) :
    Calls Tryd.prog 28 #[.pointer (some ⟨b, 0, none⟩), .string s] w fun e w' => e = .returned (.tuple #[.int .i64 s.size, .nilIface]) ∧ (Lib.BuilderAt 49 5 B b (.pointer (some ⟨b, 0, none⟩)) (bs ++ Lib.strCells s) w' ∧ Below B w w') ∧ (∀ q cs t, t ≠ 49 → t ≠ 5 → Bx w q cs t → Bx w' q cs t) := by
  obtain ⟨i0, hi, hz0, hz1, hz2⟩ := info_parts infoBy
  go_enter Tryd.func28, Tryd.ntmps28
  go_wp2_with (go_at_call 67; refine (copy_keep B b bs _ h).mono ?_)
  rintro e w1 ⟨rfl, ⟨h1, hb1⟩, hk1⟩
  obtain ⟨hB, v, hbk, hown, hne⟩ := h1
  have c0 : w1.cell? ⟨b, 0, none⟩ = some (.pointer (some ⟨b, 0, none⟩)) := by rw [Lib.cell_of_heap hbk]; rfl
  have c1 : w1.cell? ⟨b, 1, none⟩ = some v := by rw [Lib.cell_of_heap hbk]; rfl
  go_wp2_with (at_builtin; refine Lib.wpList_append_own_string _ rfl _ _ 34 9 rfl B 5 i0 Tryd.underlying34 Tryd.underlying9 hi hz0 hz1 hz2 _ _ _ rfl hown s rfl ?c3 ?c4 ?c5 ?_)
  case c3 => unfold maxLen; omega
  case c4 => omega
  case c5 => have := hb1.size; omega
  intro v' w2 hown' hgrow _
  have hlt : b < w1.heap.size := by
    rcases Nat.lt_or_ge b w1.heap.size with h' | h'
    · exact h'
    · simp [Array.getElem?_eq_none h'] at hbk
  have hb2 : w2.heap[b]? = some (.cells #[.pointer (some ⟨b, 0, none⟩), v] 49 (0, 0)) := by
    rw [hgrow.block b hlt (fun e => hne e.symm)]
    exact hbk
  have d0 : w2.cell? ⟨b, 0, none⟩ = some (.pointer (some ⟨b, 0, none⟩)) := by rw [Lib.cell_of_heap hb2]; rfl
  have d1 : w2.cell? ⟨b, 1, none⟩ = some v := by rw [Lib.cell_of_heap hb2]; rfl
  have f1 : w2.frozen? ⟨b, 1, none⟩ = false := Lib.frozen_of_heap hb2 1
  obtain ⟨ao, n', cap, rfl⟩ : ∃ ao n' cap, v' = .slice ao n' cap := by
    rcases hown'.2 with ⟨hv, _⟩ | ⟨g, cap, cur, hv, _⟩
    · exact ⟨_, _, _, hv⟩
    · exact ⟨_, _, _, hv⟩
  go_wp2
  go_ret2
  refine ⟨rfl, ⟨?_, ?_⟩, fun q cs t ht hu hx => ?_⟩
  · exact Lib.BuilderAt.put (T := 49) (e := 5) hB hb2 (bs' := bs ++ Lib.strCells s) (by simpa [Lib.strCells_length] using hown') (by decide)
  · exact (hb1.grown hgrow (by have := hb1.size; omega) (fun k hk => (hown.lt k hk).1)).setCell (p := ⟨b, 1, none⟩) hB _
  · have hx1 := hk1 q cs t ht hu hx
    have hqb : q ≠ b := fun e => by
      subst e
      unfold Bx at hx1
      rw [hbk] at hx1
      injection hx1 with hx1
      injection hx1 with _ h2 _
      exact ht h2.symm
    have hqv : some q ≠ v.ownBlock := fun e => by
      rcases hown.2 with ⟨h0, _⟩ | ⟨g, cap, cur, hv, _, hg, _⟩
      · rw [h0] at e; cases e
      · rw [hv] at e
        have : q = g := by simpa [Value.ownBlock] using e
        subst this
        unfold Bx at hx1
        rw [hx1] at hg
        injection hg with hg
        injection hg with _ h2 _
        exact hu h2
    exact (heap_setCell_other w2 ⟨b, 1, none⟩ q _ hqb).trans ((hgrow.block q (heap_lt hx1) hqv).trans hx1)
/-- A builder and the rows beside it. -/
structure PP (x : World) (g p1 f1 p2 f2 p3 f3 : Nat) (B : List UInt8) (y : World) : Prop where
  bd : Bd x B y
  ra : RwA y g p1 f1 p2 f2 p3 f3
theorem PP.below {x y z : World} {g p1 f1 p2 f2 p3 f3 : Nat} {B : List UInt8} (h : PP x g p1 f1 p2 f2 p3 f3 B y) (hb : Below y.heap.size y z) : PP x g p1 f1 p2 f2 p3 f3 B z := ⟨h.bd.below hb, h.ra.below hb⟩
theorem PP.write {x y z : World} {g p1 f1 p2 f2 p3 f3 : Nat} {B : List UInt8} {st : ByteArray} (h : PP x g p1 f1 p2 f2 p3 f3 B y) (k : (Lib.BuilderAt 49 5 x.heap.size x.heap.size (.pointer (some ⟨x.heap.size, 0, none⟩)) (Lib.byteCells B ++ Lib.strCells st) z ∧ Below x.heap.size y z) ∧ (∀ q cs t, t ≠ 49 → t ≠ 5 → Bx y q cs t → Bx z q cs t)) : PP x g p1 f1 p2 f2 p3 f3 (B ++ strL st) z :=
  ⟨⟨by rw [← cells_app]; exact .inr k.1.1, h.bd.low.trans k.1.2⟩, ⟨k.2 _ _ _ (by decide) (by decide) h.ra.tab, k.2 _ _ _ (by decide) (by decide) h.ra.s1, k.2 _ _ _ (by decide) (by decide) h.ra.g1, k.2 _ _ _ (by decide) (by decide) h.ra.s2, k.2 _ _ _ (by decide) (by decide) h.ra.g2, k.2 _ _ _ (by decide) (by decide) h.ra.s3, k.2 _ _ _ (by decide) (by decide) h.ra.g3⟩⟩
end Go.Proofs.YtoajmicdphffnaaDoor
