/- The document's example. -/
import Derived.Test.YtbiifkcphaljeaaTc
import Derived.Test.YtbiifkcphaljeaaTx
namespace Go.Proofs.Ytbiifkcphaljeaa
open Go Go.RowKit
set_option linter.unusedVariables false
set_option maxHeartbeats 2000000
set_option maxRecDepth 20000

def exQ : List Bool := [false, false, true, true, true, false, true]
def exR (k : Nat) : List Rc := (List.range k).map fun (i : Nat) => ({ zR with q := exQ.getD i false, da := (i : Int) } : Rc)
theorem exR_succ (k : Nat) : exR (k + 1) = exR k ++ [({ zR with q := exQ.getD k false, da := (k : Int) } : Rc)] := by unfold exR; rw [List.range_succ, List.map_append]; rfl
theorem exR_len (k : Nat) : (exR k).length = k := by simp [exR]
theorem builtQ (b : Bool) (x : Int) : Try.prog.built 41 [(6, .bool b), (2, .int .u8 x)] = some (rcC { zR with q := b, da := x }) := by kernel_rfl
theorem idxQ (g n cap k : Nat) (h : k < n) (v : World) : (Instr.indexAt 48 (.slice (some ⟨g, 0, none⟩) n cap) (.int .i64 (k : Int))).run Try.prog v = .ok (.pointer (some ⟨g, k, none⟩)) v := by
  have := idxP (g := g) (off := 0) (len := n) (cap := cap) Try.underlying48 (s := 1) (by kernel_rfl) .i64 k v h
  rw [Nat.zero_add, Nat.mul_one] at this
  exact this
structure RecE (w : World) (v : Value) (k : Nat) (y : World) : Prop where
  own : OwnR w.heap.size y v (exR k)
  low : Below w.heap.size w y
theorem records_any (w : World) (g : Nat) (hg : Hid (Bx w g (exQ.map Value.bool).toArray 4)) :
    Calls Try.prog 20 #[.slice (some ⟨g, 0, none⟩) 7 7] w fun e w' => ∃ v, e = .returned v ∧ Hid (RecE w v 7 w') := by
  have hbq : Hid _ := builtQ
  go_enter Try.func20, Try.ntmps20
  go_wp2
  go_loopw [3, 4] (fun o i wz => ∃ (j : Nat) (v : Value) (y : World), y = wz ∧ v = o ∧ i = .int .i64 (j : Int) ∧ Hid (j ≤ 7) ∧ Hid (RecE w v j y)) (fun _ i _ => (7 - intOf i).toNat)
  case atStart => exact ⟨0, _, w, rfl, rfl, rfl, (show 0 ≤ 7 by omega), ⟨OwnR.nil _ _, Below.refl _ _⟩⟩
  case round =>
    obtain ⟨j, v, y, rfl, rfl, rfl, J, K⟩ := hrel
    by_cases hlt : j < 7
    · obtain ⟨b, hb⟩ : ∃ b, exQ.getD j false = b := ⟨_, rfl⟩
      have hcell : y.cell? ⟨g, j, none⟩ = some (.bool b) := by
        have h1 := hg.out.c j (.bool b) (by
          have : exQ[j]? = some b := by rw [← hb, List.getD_eq_getElem?_getD, List.getElem?_eq_getElem (show j < exQ.length from hlt)]; rfl
          simp [this])
        exact (K.out.low.cell (p := ⟨g, j, none⟩) (World.block_lt_of_cell? w _ h1)).trans h1
      have ij := fun u => idxQ g 7 7 j hlt u
      have hji : (j : Int) < 7 := by omega
      have hw : (j : Int) % 256 = j := by omega
      have hlt' : Hid (j < 7) := hlt
      have hex : Hid (exR (j + 1) = exR j ++ [{ zR with q := b, da := (j : Int) }]) := by show _ = _; rw [exR_succ, hb]
      have hol : Hid ((exR j).length ≤ 7) := by rw [exR_len]; show _ ≤ _; omega
      obtain ⟨rr, hrr⟩ : ∃ r : Rc, ({ zR with q := b, da := (j : Int) } : Rc) = r := ⟨_, rfl⟩
      have hbr : Hid (Try.prog.built 41 [(6, .bool b), (2, .int .u8 (j : Int))] = some (rcC rr)) := by rw [← hrr]; exact hbq.out b j
      rw [hrr] at hex
      obtain ⟨O, hO⟩ : ∃ O, exR j = O := ⟨_, rfl⟩
      have K0 : Hid (OwnR w.heap.size y v O ∧ Below w.heap.size w y) := by rw [← hO]; exact ⟨K.out.own, K.out.low⟩
      rw [hO] at hex hol
      clear hlt hb hrr hO
      go_wp2_with (first
        | ((with_reducible refine at_bu #[(6, .tmp 15), (2, .tmp 17)] [(6, .bool b), (2, .int .u8 (j : Int))] (rcC rr) ?_ ?_ ?_ hbr.out ?_); kernel_rfl; rfl; (simp only [List.map_toArray, List.map_cons, List.map_nil]; rfl))
        | ((with_reducible refine at_bsR rr (.tmp 18) ?_ ?_ ?_ ?_); rfl; rfl; rfl)
        | (at_builtin; refine at_app rfl (.tmp 11) (.tmp 19) rfl w.heap.size v O rfl (K0.out.1.alloc _) y.heap.size rr rfl (one_bx _ _ _) ?_ ?_ ?_; (have := hol.out; omega); (have := K0.out.2.size; simp; omega); intro v' y2 A; have K2 : Hid (RecE w v' (j + 1) y2) := ⟨(by rw [hex.out]; exact A.out.own), (K0.out.2.alloc K0.out.2.size _).trans A.out.cu.low⟩; clear A))
      go_roundw
      case rel => exact ⟨j + 1, _, _, rfl, rfl, by simp, hlt'.out, K2⟩
      case measure => have := hlt'.out; simp [intOf]; omega
    · have hje : j = 7 := by have := J.out; omega
      subst hje
      clear hlt
      go_wp2
      go_ret
      exact ⟨_, rfl, K⟩
theorem exL : levels ((exR 7).map (·.q)) = [2, 3, 1, 1] := by kernel_rfl
theorem exB : bepL [2, 3, 1, 1] = [(2, 5), (6, 7)] := by kernel_rfl
theorem exW : wavL [2, 3, 1, 1] = [(3, 1), (1, 0)] := by kernel_rfl
theorem awake_any (w : World) : Calls Try.prog 11 #[] w fun e w' => e = .returned (.bool true) ∧ Below w.heap.size w w' := by
  have hRec : Hid (∀ y : World, Calls Try.prog 20 #[.slice (some ⟨y.heap.size, 0, none⟩) 7 7] (y.alloc (.cells #[.bool false, .bool false, .bool true, .bool true, .bool true, .bool false, .bool true] 4)) fun e w' => ∃ p c, e = .returned (.slice p 7 c) ∧ Hid (LiesR w' p (exR 7) ∧ Below y.heap.size y w')) := fun y => by
    refine (records_any (y.alloc (.cells #[.bool false, .bool false, .bool true, .bool true, .bool true, .bool false, .bool true] 4)) y.heap.size (one_bx _ _ _)).mono ?_
    rintro e w' ⟨v, rfl, H⟩
    obtain ⟨p, c, rfl, L, _⟩ := H.out.own.open
    rw [exR_len]
    exact ⟨p, c, rfl, L, (below1 _ _).trans (H.out.low.mono (by simp))⟩
  have hB : Hid (∀ (y : World) (p : Option Addr) (c : Nat), LiesR y p (exR 7) → Calls Try.prog 8 #[.slice p 7 c] y fun e w' => ∃ q d, e = .returned (.slice q 2 d) ∧ Hid (L2 w' q [(2, 5), (6, 7)] ∧ Below y.heap.size y w')) := fun y p c h => by
    have := pbeep_any y p c (exR 7) h (by rw [exR_len]; omega)
    rw [exR_len, exL, exB] at this
    refine this.mono ?_
    rintro e w' ⟨v, rfl, H⟩
    obtain ⟨q, d, rfl, L, _⟩ := H.out.own.open kBeep.len
    exact ⟨q, d, rfl, L, H.out.low⟩
  have hW : Hid (∀ (y : World) (p : Option Addr) (c : Nat), LiesR y p (exR 7) → Calls Try.prog 12 #[.slice p 7 c] y fun e w' => ∃ q d, e = .returned (.slice q 2 d) ∧ Hid (L2 w' q [(3, 1), (1, 0)] ∧ Below y.heap.size y w')) := fun y p c h => by
    have := pwav_any y p c (exR 7) h (by rw [exR_len]; omega)
    rw [exR_len, exL, exW] at this
    refine this.mono ?_
    rintro e w' ⟨v, rfl, H⟩
    obtain ⟨q, d, rfl, L, _⟩ := H.out.own.open kWave.len
    exact ⟨q, d, rfl, L, H.out.low⟩
  have hV : Hid (∀ (y : World) (p : Option Addr) (c : Nat), LiesR y p (exR 7) → Calls Try.prog 15 #[.slice p 7 c] y fun e w' => ∃ q d, e = .returned (.slice q 4 d) ∧ Hid (LI w' q [2, 3, 1, 1] ∧ Below y.heap.size y w')) := fun y p c h => by
    have := plev_any y p c (exR 7) h (by rw [exR_len]; omega)
    rw [exR_len, exL] at this
    refine this.mono ?_
    rintro e w' ⟨v, rfl, H⟩
    obtain ⟨q, d, rfl, L, _⟩ := H.out.own.open kInt.len
    exact ⟨q, d, rfl, L, H.out.low⟩
  have b25 : Hid _ := builtBe 2 5
  have b1 : Hid _ := builtWa1 1
  have e1 : Hid _ := eqBe (2, 5) (2, 5)
  have e2 : Hid _ := eqWa (1, 0) (1, 0)
  go_enter Try.func11, Try.ntmps11
  go_wp2_with (first
    | (go_at_call 20; refine (hRec.out w).mono ?_; rintro e y1 ⟨p, c, rfl, H1⟩)
    | (go_at_call 8; refine (hB.out y1 p c H1.out.1).mono ?_; rintro e y2 ⟨qb, db, rfl, H2⟩; have K2 : Hid (Below w.heap.size w y2) := H1.out.2.trans (H2.out.2.mono H1.out.2.size))
    | (go_at_call 12; refine (hW.out y2 p c (H1.out.1.below H2.out.2)).mono ?_; rintro e y3 ⟨qw, dw, rfl, H3⟩; have K3 : Hid (Below w.heap.size w y3) := K2.out.trans (H3.out.2.mono K2.out.size))
    | (go_at_call 15; refine (hV.out y3 p c ((H1.out.1.below H2.out.2).below H3.out.2)).mono ?_; rintro e y4 ⟨qv, dv, rfl, H4⟩; have K4 : Hid (Below w.heap.size w y4) := K3.out.trans (H4.out.2.mono K3.out.size); refine stopAt ?_))
  refine Stop.go ?_
  obtain ⟨g1, o1, rfl, r1, _, _⟩ := l2_at ((H2.out.1.below H3.out.2).below H4.out.2) 0 (2, 5) rfl
  obtain ⟨g2, o2, rfl, r2, _, _⟩ := l2_at (H3.out.1.below H4.out.2) 1 (1, 0) rfl
  obtain ⟨g3, o3, rfl, r3⟩ := li_at H4.out.1 0 2 rfl
  obtain ⟨g4, o4, e4, r4⟩ := li_at H4.out.1 1 3 rfl
  cases e4
  have i1 : ∀ u, (Instr.indexAt 23 (.slice (some ⟨g1, o1, none⟩) 2 db) (.int .i64 0)).run Try.prog u = .ok (.pointer (some ⟨g1, o1, none⟩)) u := fun u => by
    have := idxP (g := g1) (off := o1) (len := 2) (cap := db) Try.underlying23 (s := 2) (by kernel_rfl) .i64 0 u (by decide)
    rwa [Nat.zero_mul, Nat.add_zero] at this
  have i2 : ∀ u, (Instr.indexAt 30 (.slice (some ⟨g2, o2, none⟩) 2 dw) (.int .i64 1)).run Try.prog u = .ok (.pointer (some ⟨g2, o2 + 2, none⟩)) u := fun u => idxP (g := g2) (off := o2) (len := 2) (cap := dw) Try.underlying30 (s := 2) (by kernel_rfl) .i64 1 u (by decide)
  have i3 : ∀ u, (Instr.indexAt 35 (.slice (some ⟨g3, o3, none⟩) 4 dv) (.int .i64 0)).run Try.prog u = .ok (.pointer (some ⟨g3, o3, none⟩)) u := fun u => idxI g3 o3 4 dv 0 (by decide) u
  have i4 : ∀ u, (Instr.indexAt 35 (.slice (some ⟨g3, o3, none⟩) 4 dv) (.int .i64 1)).run Try.prog u = .ok (.pointer (some ⟨g3, o3 + 1, none⟩)) u := fun u => idxI g3 o3 4 dv 1 (by decide) u
  rw [Nat.zero_mul, Nat.add_zero] at r1
  rw [Nat.one_mul] at r2
  rw [Nat.add_zero] at r3
  replace r1 : Hid (y4.rangeAt g1 o1 (c2 (2, 5)).toArray.toList) := r1
  replace r2 : Hid (y4.rangeAt g2 (o2 + 2) (c2 (1, 0)).toArray.toList) := r2
  go_wp2_with (first
    | ((with_reducible refine at_loadm rtBe g1 o1 (c2 (2, 5)).toArray ?_ ?_ (.tmp 18) ?_ ?_ ?_ ?_); exact r1.out; rfl; kernel_rfl; rfl; rfl)
    | ((with_reducible refine at_bu #[(0, .const (.int .i64 2)), (1, .const (.int .i64 5))] [(0, .int .i64 2), (1, .int .i64 5)] (c2 (2, 5)).toArray ?_ ?_ ?_ b25.out ?_); kernel_rfl; rfl; kernel_rfl)
    | ((with_reducible refine at_eq e1.out (.tmp 19) (.tmp 20) 27 ?_ ?_ ?_ ?_ ?_); kernel_rfl; rfl; rfl; rfl)
    | ((with_reducible refine at_loadm rtWa g2 (o2 + 2) (c2 (1, 0)).toArray ?_ ?_ (.tmp 30) ?_ ?_ ?_ ?_); exact r2.out; rfl; kernel_rfl; rfl; rfl)
    | ((with_reducible refine at_bu #[(0, .const (.int .i64 1))] [(0, .int .i64 1)] (c2 (1, 0)).toArray ?_ ?_ ?_ b1.out ?_); kernel_rfl; rfl; kernel_rfl)
    | ((with_reducible refine at_eq e2.out (.tmp 31) (.tmp 32) 34 ?_ ?_ ?_ ?_ ?_); kernel_rfl; rfl; rfl; rfl))
  go_ret
  exact ⟨by first | rfl | simp, K4.out⟩
end Go.Proofs.Ytbiifkcphaljeaa
