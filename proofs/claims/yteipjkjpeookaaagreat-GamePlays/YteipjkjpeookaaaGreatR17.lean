/- The document's own: do, whole. -/
import Derived.Test.YteipjkjpeookaaaGreatR2
import Derived.Test.YteipjkjpeookaaaGreatR3
import Derived.Test.YteipjkjpeookaaaGreatR5
import Derived.Test.YteipjkjpeookaaaGreatR7
import Derived.Test.YteipjkjpeookaaaGreatJ35
import Derived.Test.YteipjkjpeookaaaGreatR10
import Derived.Test.YteipjkjpeookaaaGreatR13
import Derived.Test.YteipjkjpeookaaaGreatJ41
namespace Go.Proofs.YteipjkjpeookaaaGreat
open Go Go.RowKit Go.Shelf
set_option linter.unusedVariables false
set_option maxHeartbeats 1000000
set_option maxRecDepth 100000

theorem op31 {k : Nat} (h : 2 ≤ k ∧ k ≤ 31) : k = 2 ∨ k = 3 ∨ k = 4 ∨ k = 5 ∨ k = 6 ∨ k = 7 ∨ k = 8 ∨ k = 9 ∨ k = 10 ∨ k = 11 ∨ k = 12 ∨ k = 13 ∨ k = 14 ∨ k = 15 ∨ k = 16 ∨ k = 17 ∨ k = 18 ∨ k = 19 ∨ k = 20 ∨ k = 21 ∨ k = 22 ∨ k = 23 ∨ k = 24 ∨ k = 25 ∨ k = 26 ∨ k = 27 ∨ k = 28 ∨ k = 29 ∨ k = 30 ∨ k = 31 := by omega
theorem rdo_any (w : World) (B : Nat) (C D : Array Value) (g : Gm) (f : Fo) (d : Fd) (hG : Hid (GO B w C g)) (hB : Hid (B ≤ w.heap.size)) (hf : Hid (FL w D f)) (hd : Hid d.Ok) (o : Od) (ho : o.x < 16 ∧ o.y < 16 ∧ o.n < 16 ∧ o.b < 256 ∧ o.a < 65536) (hop : 2 ≤ o.op ∧ o.op ≤ 31) (hm3 : g.me.length = 3232) (hpg : g.pg.length = 256) (hst : g.st.length ≤ 12) (hfb : f.by_.length ≤ 4000000000) (hky : d.ky ≤ 15) :
    Calls Tryz.prog 31 #[.agg C, .agg (o6 o), .agg D, .agg (dCs d)] w (RdE B w (doG g o f d)) := by
  obtain ⟨k, x, y, n, b, a⟩ := o
  obtain ⟨hx, hy, hn, hb, ha⟩ := ho
  rcases op31 hop with rfl | rfl | rfl | rfl | rfl | rfl | rfl | rfl | rfl | rfl | rfl | rfl | rfl | rfl | rfl | rfl | rfl | rfl | rfl | rfl | rfl | rfl | rfl | rfl | rfl | rfl | rfl | rfl | rfl | rfl
  · exact rdo_clear w B C D g f d hG hB hf hd x y n b a hx hy hb ha
  · by_cases hs : g.st.length = 0
    · exact rdo_retno w B C D g f d hG hB hf hd x y n b a hx hy hb ha hs
    · exact rdo_ret w B C D g f d hG hB hf hd x y n b a hx hy hb ha (by omega) hst
  · exact rdo_jump w B C D g f d hG hB hf hd x y n b a hx hy hb ha
  · by_cases hs : g.st.length = 12
    · exact rdo_deep w B C D g f d hG hB hf hd x y n b a hx hy hb ha hs
    · exact rdo_call w B C D g f d hG hB hf hd x y n b a hx hy hb ha hst hs
  · exact rdo_skipis w B C D g f d hG hB hf hd x y n b a hx hy hb ha
  · exact rdo_skipnot w B C D g f d hG hB hf hd x y n b a hx hy hb ha
  · exact rdo_skipsame w B C D g f d hG hB hf hd x y n b a hx hy hb ha
  · exact rdo_set w B C D g f d hG hB hf hd x y n b a hx hy hb ha
  · exact rdo_add w B C D g f d hG hB hf hd x y n b a hx hy hb ha
  · exact rdo_move w B C D g f d hG hB hf hd x y n b a hx hy hb ha
  · exact rdo_or w B C D g f d hG hB hf hd x y n b a hx hy hb ha
  · exact rdo_and w B C D g f d hG hB hf hd x y n b a hx hy hb ha
  · exact rdo_plus w B C D g f d hG hB hf hd x y n b a hx hy hb ha
  · exact rdo_minus w B C D g f d hG hB hf hd x y n b a hx hy hb ha
  · exact rdo_skipother w B C D g f d hG hB hf hd x y n b a hx hy hb ha
  · exact rdo_point w B C D g f d hG hB hf hd x y n b a hx hy hb ha
  · exact rdo_jumpby w B C D g f d hG hB hf hd x y n b a hx hy hb ha
  · exact rdo_random w B C D g f d hG hB hf hd x y n b a hx hy hb ha
  · exact rdo_draw w B C D g f d hG hB hf hd x y n b a hx hy hb ha hn hm3 hpg hfb
  · exact rdo_skipdown w B C D g f d hG hB hf hd x y n b a hx hy hb ha
  · exact rdo_skipup w B C D g f d hG hB hf hd x y n b a hx hy hb ha
  · exact rdo_oth w B C D g f d hG hB hf hd 23 x y n b a hx hy hb ha (by decide) (fun u h1 h2 => rothers_timer u B C D g f d h1 (Nat.le_trans hB.out h2.size) (hf.out.below h2) hd x y n b a hx hy hb ha)
  · refine rdo_oth w B C D g f d hG hB hf hd 24 x y n b a hx hy hb ha (by decide) (fun u h1 h2 => ?_)
    by_cases hk : d.ky < 0
    · exact rothers_wait u B C D g f d h1 (Nat.le_trans hB.out h2.size) (hf.out.below h2) hd x y n b a hx hy hb ha hk
    · exact rothers_key u B C D g f d h1 (Nat.le_trans hB.out h2.size) (hf.out.below h2) hd x y n b a hx hy hb ha hk hky
  · exact rdo_oth w B C D g f d hG hB hf hd 25 x y n b a hx hy hb ha (by decide) (fun u h1 h2 => rothers_delay u B C D g f d h1 (Nat.le_trans hB.out h2.size) (hf.out.below h2) hd x y n b a hx hy hb ha)
  · exact rdo_oth w B C D g f d hG hB hf hd 26 x y n b a hx hy hb ha (by decide) (fun u h1 h2 => rothers_sound u B C D g f d h1 (Nat.le_trans hB.out h2.size) (hf.out.below h2) hd x y n b a hx hy hb ha)
  · exact rdo_oth w B C D g f d hG hB hf hd 27 x y n b a hx hy hb ha (by decide) (fun u h1 h2 => rothers_on u B C D g f d h1 (Nat.le_trans hB.out h2.size) (hf.out.below h2) hd x y n b a hx hy hb ha)
  · exact rdo_oth w B C D g f d hG hB hf hd 28 x y n b a hx hy hb ha (by decide) (fun u h1 h2 => rothers_digit u B C D g f d h1 (Nat.le_trans hB.out h2.size) (hf.out.below h2) hd x y n b a hx hy hb ha)
  · refine rdo_oth w B C D g f d hG hB hf hd 29 x y n b a hx hy hb ha (by decide) (fun u h1 h2 => ?_)
    rcases hft : fitG g.i 3 with _ | _
    · exact rothers_threeno u B C D g f d h1 (Nat.le_trans hB.out h2.size) (hf.out.below h2) hd x y n b a hx hy hb ha hm3 hft
    · exact rothers_three u B C D g f d h1 (Nat.le_trans hB.out h2.size) (hf.out.below h2) hd x y n b a hx hy hb ha hm3 hft
  · refine rdo_oth w B C D g f d hG hB hf hd 30 x y n b a hx hy hb ha (by decide) (fun u h1 h2 => ?_)
    rcases hft : fitG g.i (x + 1) with _ | _
    · exact rothers_storeno u B C D g f d h1 (Nat.le_trans hB.out h2.size) (hf.out.below h2) hd x y n b a hx hy hb ha hm3 hft
    · exact rothers_store u B C D g f d h1 (Nat.le_trans hB.out h2.size) (hf.out.below h2) hd x y n b a hx hy hb ha hm3 hft
  · refine rdo_oth w B C D g f d hG hB hf hd 31 x y n b a hx hy hb ha (by decide) (fun u h1 h2 => ?_)
    rcases hrd : readG g f g.i (x + 1) with _ | l
    · exact rothers_fillno u B C D g f d h1 (Nat.le_trans hB.out h2.size) (hf.out.below h2) hd x y n b a hx hy hb ha hm3 hfb hrd
    · exact rothers_fill u B C D g f d h1 (Nat.le_trans hB.out h2.size) (hf.out.below h2) hd x y n b a hx hy hb ha hm3 hfb l hrd
end Go.Proofs.YteipjkjpeookaaaGreat
