/- A page's text: the program's own. -/
import Derived.Test.YtiplellfpagclaaDoorD4
import Derived.Test.YtiplellfpagclaaDoorSh
import Derived.Lib.Builder
import Derived.Lib.SmallJoins
import Derived.Lib.AppendStr
import Derived.Laws.Externs
namespace Go.Proofs.YtiplellfpagclaaDoor
open Go Go.RowKit Go.Shelf
set_option linter.unusedVariables false
set_option maxHeartbeats 1000000
set_option maxRecDepth 20000

theorem sizeBu : (Tryd.prog.info? 50).map (·.size) = some 2 := by kernel_rfl
theorem copy_used (b : Nat) (w : World) (h0 : w.cell? ⟨b, 0, none⟩ = some (.pointer (some ⟨b, 0, none⟩))) :
    Calls Tryd.prog 27 #[.pointer (some ⟨b, 0, none⟩)] w fun e w' => e = .returned (.tuple #[]) ∧ w' = w := by
  obtain ⟨j, hj, _⟩ := Option.map_eq_some_iff.1 sizeBu
  have hne := Lib.run_neq_ptr_same (P := Tryd.prog) w ⟨b, 0, none⟩ Tryd.underlying48 hj
  go_enter Tryd.func27, Tryd.ntmps27
  go_wp2
  go_end0
  exact ⟨rfl, by first | rfl | trivial⟩
theorem copy_fresh (b : Nat) (w : World) (h0 : w.cell? ⟨b, 0, none⟩ = some (.pointer none)) (hsh : w.shape? b = some (50, 2)) (hfz : w.frozen? ⟨b, 0, none⟩ = false) :
    Calls Tryd.prog 27 #[.pointer (some ⟨b, 0, none⟩)] w fun e w' => e = .returned (.tuple #[]) ∧ w' = w.setCell ⟨b, 0, none⟩ (.pointer (some ⟨b, 0, none⟩)) := by
  obtain ⟨j, hj, hjs⟩ := Option.map_eq_some_iff.1 sizeBu
  have h1 := Lib.run_to_unsafe (P := Tryd.prog) w ⟨b, 0, none⟩ Tryd.underlying48 Tryd.underlying56 hj (by rw [hjs]; decide) hsh (Nat.zero_lt_succ 1)
  have h2 := Lib.run_from_unsafe (P := Tryd.prog) w ⟨b, 0, none⟩ Tryd.underlying56 Tryd.underlying48 hj hsh (by kernel_rfl)
  go_enter Tryd.func27, Tryd.ntmps27
  go_wp2
  rw [run_callFunc_extern Tryd.func28 (by kernel_rfl) (by kernel_rfl) (by kernel_rfl) (e := Extern.AbiNoEscape.same) (by kernel_rfl)]
  rw [Lib.run_noEscape]
  simp only [Result.andThen]
  rw [Oper.upon_value]
  go_wp2
  go_end0
  exact ⟨rfl, rfl⟩
theorem copy_any (B b : Nat) (bs : List Value) (w : World) (h : Lib.IsBuilder 50 5 B b bs w) :
    Calls Tryd.prog 27 #[.pointer (some ⟨b, 0, none⟩)] w fun e w' => e = .returned (.tuple #[]) ∧ (Lib.BuilderAt 50 5 B b (.pointer (some ⟨b, 0, none⟩)) bs w' ∧ Below B w w') := by
  rcases h with h | h
  · refine (copy_fresh b w h.cell0 h.shape h.frozen0).mono ?_
    rintro e w' ⟨rfl, rfl⟩
    exact ⟨rfl, h.used _, (Below.refl B w).setCell (p := ⟨b, 0, none⟩) h.1 _⟩
  · refine (copy_used b w h.cell0).mono ?_
    rintro e w' ⟨rfl, rfl⟩
    exact ⟨rfl, h, Below.refl B _⟩
theorem wbyte_any (B b : Nat) (bs : List Value) (c : Int) (w : World) (h : Lib.IsBuilder 50 5 B b bs w) (hlen : bs.length ≤ 100000000) (hBw : B ≤ w.heap.size) :
    Calls Tryd.prog 24 #[.pointer (some ⟨b, 0, none⟩), .int .u8 c] w fun e w' => e = .returned .nilIface ∧ (Lib.IsBuilder 50 5 B b (bs ++ [.int .u8 c]) w' ∧ Below B w w') := by
  obtain ⟨i0, hi, e⟩ := Option.map_eq_some_iff.1 infoBy
  injection e with hz0 e2
  injection e2 with hz1 hz2
  go_enter Tryd.func24, Tryd.ntmps24
  go_wp2_with (go_at_call 27; refine (copy_any B b bs _ h).mono ?_)
  rintro e w1 ⟨rfl, h1, hb1⟩
  obtain ⟨hB, v, hbk, hown, hne⟩ := h1
  have c0 : w1.cell? ⟨b, 0, none⟩ = some (.pointer (some ⟨b, 0, none⟩)) := by rw [Lib.cell_of_heap hbk]; rfl
  have c1 : w1.cell? ⟨b, 1, none⟩ = some v := by rw [Lib.cell_of_heap hbk]; rfl
  go_wp2_with (at_builtin; refine wpList_append_own _ rfl _ _ 25 rfl B 5 i0 (.int .u8 0) 1 1 Tryd.underlying25 hi hz0 hz1 hz2 rfl (by decide) _ _ _ rfl (hown.alloc _) ⟨w1.heap.size, 0, none⟩ 1 1 [.int .u8 c] rfl rfl ?c1 ?c2 ?c3 ?c4 ?c5 ?_)
  case c1 =>
    intro j u hj
    match j, hj with
    | 0, hj => simp at hj; subst hj; simp [Addr.add]
  case c2 => intro u hu; simp at hu; subst hu; rfl
  case c3 => unfold maxLen; omega
  case c4 => omega
  case c5 => have := hb1.size; simp; omega
  intro v' w2 hown' hgrow _
  have hlt : b < w1.heap.size := by
    rcases Nat.lt_or_ge b w1.heap.size with h' | h'
    · exact h'
    · simp [Array.getElem?_eq_none h'] at hbk
  have hb2 : w2.heap[b]? = some (.cells #[.pointer (some ⟨b, 0, none⟩), v] 50 (0, 0)) := by
    rw [hgrow.block b (by simp; omega) (fun e => hne e.symm), Lib.alloc_old w1 _ b hlt]
    exact hbk
  have d0 : w2.cell? ⟨b, 0, none⟩ = some (.pointer (some ⟨b, 0, none⟩)) := by rw [Lib.cell_of_heap hb2]; rfl
  have d1 : w2.cell? ⟨b, 1, none⟩ = some v := by rw [Lib.cell_of_heap hb2]; rfl
  have f1 : w2.frozen? ⟨b, 1, none⟩ = false := Lib.frozen_of_heap hb2 1
  obtain ⟨g, cap, rfl⟩ : ∃ g cap, v' = .slice (some ⟨g, 0, none⟩) (bs.length + 1) cap := by
    rcases hown'.2 with ⟨_, h0⟩ | ⟨g, cap, cur, hv, _⟩
    · omega
    · exact ⟨g, cap, hv⟩
  go_wp2
  go_ret
  refine ⟨rfl, .inr ?_, ?_⟩
  · exact Lib.BuilderAt.put (T := 50) (e := 5) hB hb2 (bs' := bs ++ [.int .u8 c]) (by simpa using hown') (by decide)
  · exact ((hb1.alloc (by have := hb1.size; omega) _).grown hgrow (by have := hb1.size; simp; omega) (fun k hk => (hown.lt k hk).1)).setCell (p := ⟨b, 1, none⟩) hB _
/-- What stands while a page's text is written. -/
structure Sw (w : World) (sv : Value) (t : List UInt8) (y : World) : Prop where
  box : Bx y w.heap.size #[sv] 25
  bu : Lib.IsBuilder 50 5 (w.heap.size + 1) (w.heap.size + 1) (Lib.byteCells t) y
  low : Below w.heap.size w y
  sz : w.heap.size + 1 ≤ y.heap.size
theorem Sw.add {w y z : World} {sv : Value} {t : List UInt8} (h : Sw w sv t y) (c : UInt8) (k : Lib.IsBuilder 50 5 (w.heap.size + 1) (w.heap.size + 1) (Lib.byteCells t ++ [.int .u8 (c.toNat : Int)]) z) (hb : Below (w.heap.size + 1) y z) : Sw w sv (t ++ [c]) z := by
  refine ⟨(hb.block _ (by omega)).trans h.box, ?_, h.low.trans (hb.mono (by omega)), Nat.le_trans h.sz hb.size⟩
  have e : Lib.byteCells (t ++ [c]) = Lib.byteCells t ++ [.int .u8 (c.toNat : Int)] := by simp [Lib.byteCells]
  rw [e]
  exact k
theorem sw_byte {w y : World} {sv : Value} {t : List UInt8} (h : Hid (Sw w sv t y)) (hl : t.length ≤ 100000) (c : UInt8) :
    Calls Tryd.prog 24 #[.pointer (some ⟨w.heap.size + 1, 0, none⟩), .int .u8 (c.toNat : Int)] y fun e z => e = .returned .nilIface ∧ Hid (Sw w sv (t ++ [c]) z) := by
  refine (wbyte_any _ _ _ _ y h.out.bu (by rw [Lib.byteCells_length]; omega) h.out.sz).mono ?_
  rintro e z ⟨rfl, h1, h2⟩
  exact ⟨rfl, h.out.add c h1 h2⟩
theorem show1_any (w y : World) (cap i j : Nat) (sp : Option Addr) (p : List UInt8) (hp : p.length = 256) (hi : i < 64) (hj : j < 32) (hl : Hid (LB w sp p)) (K : Hid (Sw w (.slice sp 256 cap) (showS p (64 * j + i)) y)) :
    Calls Tryd.prog 23 #[.int .i64 (i : Int), .int .i64 (j : Int), .pointer (some ⟨w.heap.size, 0, none⟩), .pointer (some ⟨w.heap.size + 1, 0, none⟩)] y fun e z => e = .returned (.tuple #[]) ∧ Sw w (.slice sp 256 cap) (showS p (64 * j + i + 1)) z := by
  obtain ⟨g, o, rfl⟩ := lb_some hl.out (by omega)
  have hlen : (showS p (64 * j + i)).length ≤ 10000 := by rw [show_len]; omega
  have hnext : showS p (64 * j + i + 1) = showS p (64 * j + i) ++ signS p (64 * j + i) :: (if (64 * j + i) % 64 = 63 then [10] else []) := rfl
  obtain ⟨T, hT⟩ : ∃ T, showS p (64 * j + i) = T := ⟨_, rfl⟩
  rw [hT] at hlen hnext K
  rw [hnext]
  obtain ⟨N, hN⟩ : ∃ N, 64 * j + i = N := ⟨_, rfl⟩
  have hdot := fun w => dot_any w i j hi hj
  rw [hN] at hdot ⊢
  have cA := lb_at (hl.out.below K.out.low) (N / 8) (by omega)
  obtain ⟨a8, h8⟩ : ∃ a, N / 8 = a := ⟨_, rfl⟩
  obtain ⟨k8, hk8⟩ : ∃ a, N % 8 = a := ⟨_, rfl⟩
  have eb : bitP p N = (p.getD a8 0 &&& mk k8 != 0) := by unfold bitP; rw [h8, hk8]
  rw [h8] at cA
  rw [h8, hk8] at hdot
  have hab : a8 < 256 := by omega
  obtain ⟨A, hA⟩ : ∃ A, p.getD a8 0 = A := ⟨_, rfl⟩
  obtain ⟨M, hM⟩ : ∃ A, mk k8 = A := ⟨_, rfl⟩
  rw [hA] at cA eb
  rw [hM] at hdot eb
  have qa := and8 A M
  have qz := nzero8 (A &&& M)
  rw [← eb] at qz
  obtain ⟨z, hz⟩ : ∃ z, (A &&& M).toNat = z := ⟨_, rfl⟩
  obtain ⟨a, ha⟩ : ∃ a, A.toNat = a := ⟨_, rfl⟩
  obtain ⟨m, hm⟩ : ∃ m, M.toNat = m := ⟨_, rfl⟩
  rw [hz] at qa qz
  rw [ha, hm] at qa
  rw [ha] at cA
  rw [hm] at hdot
  have ix := fun v => idxB .i64 g o 256 cap a8 v hab
  have cP := K.out.box.c 0 (.slice (some ⟨g, o, none⟩) 256 cap) rfl
  have q63 : ((i : Int) == 63) = decide (N % 64 = 63) := by
    have : N % 64 = i := by omega
    rw [this]
    by_cases h : i = 63
    · subst h; rfl
    · rw [beq_eq_false_iff_ne.2 (by omega), decide_eq_false h]
  have hw1 := fun (y : World) (h : Hid (Sw w (.slice (some ⟨g, o, none⟩) 256 cap) T y)) => sw_byte h (by omega) 35
  have hw2 := fun (y : World) (h : Hid (Sw w (.slice (some ⟨g, o, none⟩) 256 cap) T y)) => sw_byte h (by omega) 46
  have hw3 := fun (y : World) (c : UInt8) (h : Hid (Sw w (.slice (some ⟨g, o, none⟩) 256 cap) (T ++ [c]) y)) => sw_byte h (by simp; omega) 10
  have hi2 : (i : Int) < 64 := by omega
  have hj2 : (j : Int) < 32 := by omega
  clear hlen hnext hT hl hp hk8 h8 eb hA hM hz ha hm hj hi
  unfold signS
  by_cases h2 : N % 64 = 63
  · rw [if_pos h2]
    rw [decide_eq_true h2] at q63
    clear h2 hN
    cases hb : bitP p N
    · rw [hb] at qz
      clear hb hw1
      go_enter Tryd.func23, Tryd.ntmps23
      go_wp2_with (first
        | (go_at_call 24; refine (hw3 y2 46 K2).mono ?_; rintro e y3 ⟨rfl, K3⟩; clear hw3)
        | (go_at_call 24; refine (hw2 y K).mono ?_; rintro e y2 ⟨rfl, K2⟩; clear hw2)
        | (go_at_call 20; refine (hdot _).mono ?_; rintro e y ⟨rfl, rfl⟩))
      go_end0
      refine ⟨rfl, ?_⟩
      have := K3.out
      rw [List.append_assoc] at this
      exact this
    · rw [hb] at qz
      clear hb hw2
      go_enter Tryd.func23, Tryd.ntmps23
      go_wp2_with (first
        | (go_at_call 24; refine (hw3 y2 35 K2).mono ?_; rintro e y3 ⟨rfl, K3⟩; clear hw3)
        | (go_at_call 24; refine (hw1 y K).mono ?_; rintro e y2 ⟨rfl, K2⟩; clear hw1)
        | (go_at_call 20; refine (hdot _).mono ?_; rintro e y ⟨rfl, rfl⟩))
      go_end0
      refine ⟨rfl, ?_⟩
      have := K3.out
      rw [List.append_assoc] at this
      exact this
  · rw [if_neg h2]
    rw [decide_eq_false h2] at q63
    clear h2 hN hw3
    cases hb : bitP p N
    · rw [hb] at qz
      clear hb hw1
      go_enter Tryd.func23, Tryd.ntmps23
      go_wp2_with (first
        | (go_at_call 24; refine (hw2 y K).mono ?_; rintro e y2 ⟨rfl, K2⟩; clear hw2)
        | (go_at_call 20; refine (hdot _).mono ?_; rintro e y ⟨rfl, rfl⟩))
      go_end0
      exact ⟨rfl, K2.out⟩
    · rw [hb] at qz
      clear hb hw2
      go_enter Tryd.func23, Tryd.ntmps23
      go_wp2_with (first
        | (go_at_call 24; refine (hw1 y K).mono ?_; rintro e y2 ⟨rfl, K2⟩; clear hw1)
        | (go_at_call 20; refine (hdot _).mono ?_; rintro e y ⟨rfl, rfl⟩))
      go_end0
      exact ⟨rfl, K2.out⟩
end Go.Proofs.YtiplellfpagclaaDoor
