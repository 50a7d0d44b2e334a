/- What gives up, a word in memory of its own, numbers and parts, plain instructions: the program's. -/
import Derived.Test.YtmaedkbmjbggpaaDoorJNf
import Derived.Test.YtmaedkbmjbggpaaDoorJIq
import Derived.WalkSmall
namespace Go.Proofs.YtmaedkbmjbggpaaDoor
open Go Go.RowKit
set_option linter.unusedVariables false
set_option maxHeartbeats 3000000
set_option maxRecDepth 20000

def pv : Value := .iface 9 (.string ⟨#[116, 104, 105, 115, 32, 105, 115, 32, 110, 111, 32, 105, 116, 101, 109]⟩)
theorem need_ok (w : World) : Calls Tryd.prog 55 #[.bool true] w fun e w' => e = .returned (.tuple #[]) ∧ w' = w := by
  go_enter Tryd.func55, Tryd.ntmps55
  go_wp2
  go_end0
  exact ⟨rfl, rfl⟩
theorem need_no (w : World) : Calls Tryd.prog 55 #[.bool false] w fun e w' => e = .panicked [{ v := pv, recovered := false }] ∧ w' = w := by
  go_enter Tryd.func55, Tryd.ntmps55
  go_wp2
  exact ⟨rfl, rfl, rfl⟩
theorem clone_any (s : ByteArray) (w : World) (hs : s.size ≤ 1000000) : Calls Tryd.prog 93 #[.string s] w fun e w' => e = .returned (.string s) ∧ Below w.heap.size w w' := by
  have hC := fun v => Tryd.stringslite_Clone s v (by omega)
  clear hs
  go_enter Tryd.func93, Tryd.ntmps93
  go_wp2_with (go_at_call 106; refine (hC _).mono ?_; rintro e y ⟨rfl, H⟩)
  go_ret
  exact ⟨rfl, H⟩
theorem apart_any (s : ByteArray) (w : World) (hs : s.size ≤ 1000000) : Calls Tryd.prog 78 #[.string s] w fun e w' => e = .returned (.string s) ∧ Below w.heap.size w w' := by
  have hC := fun v => clone_any s v hs
  clear hs
  go_enter Tryd.func78, Tryd.ntmps78
  go_wp2_with (go_at_call 93; refine (hC _).mono ?_; rintro e y ⟨rfl, H⟩)
  go_ret
  exact ⟨rfl, H⟩
theorem rnum_ok (x : ByteArray) (D : Nat) (w : World) (hx : x.size ≤ 1000000) (h : numE x = 0 ∧ x.size = D) : Calls Tryd.prog 77 #[.string x, .int .i64 (D : Int)] w fun e w' => e = .returned (.int .i64 (numV x)) ∧ Below w.heap.size w w' := by
  have hN := fun v => number_any x v (by unfold maxLen; omega)
  have h1 : (numE x == 0) = true := by rw [beq_iff_eq]; exact h.1
  have h2 : ((x.size : Int) == (D : Int)) = true := by rw [beq_iff_eq]; omega
  generalize numE x = E at hN h1
  generalize numV x = V at hN
  clear h hx
  go_enter Tryd.func77, Tryd.ntmps77
  go_wp2_with (first
    | (go_at_call 92; refine (hN _).mono ?_; rintro e y ⟨rfl, hB⟩)
    | (go_at_call 55; refine (need_ok _).mono ?_; rintro e y2 ⟨rfl, rfl⟩))
  go_ret
  exact ⟨rfl, hB⟩
theorem rnum_no (x : ByteArray) (D : Nat) (w : World) (hx : x.size ≤ 1000000) (h : ¬ (numE x = 0 ∧ x.size = D)) : Calls Tryd.prog 77 #[.string x, .int .i64 (D : Int)] w fun e w' => e = .panicked [{ v := pv, recovered := false }] ∧ Below w.heap.size w w' := by
  have hN := fun v => number_any x v (by unfold maxLen; omega)
  by_cases h0 : numE x = 0
  · have h1 : (numE x == 0) = true := by rw [beq_iff_eq]; exact h0
    have h2 : ((x.size : Int) == (D : Int)) = false := by rw [beq_eq_false_iff_ne]; exact fun e => h ⟨h0, by omega⟩
    generalize numE x = E at hN h1
    generalize numV x = V at hN
    clear h hx h0
    go_enter Tryd.func77, Tryd.ntmps77
    go_wp2_with (first
      | (go_at_call 92; refine (hN _).mono ?_; rintro e y ⟨rfl, hB⟩)
      | (go_at_call 55; refine (need_no _).mono ?_; rintro e y2 ⟨rfl, rfl⟩))
    exact ⟨rfl, rfl, hB⟩
  · have h1 : (numE x == 0) = false := by rw [beq_eq_false_iff_ne]; exact h0
    generalize numE x = E at hN h1
    generalize numV x = V at hN
    clear h hx h0
    go_enter Tryd.func77, Tryd.ntmps77
    go_wp2_with (first
      | (go_at_call 92; refine (hN _).mono ?_; rintro e y ⟨rfl, hB⟩)
      | (go_at_call 55; refine (need_no _).mono ?_; rintro e y2 ⟨rfl, rfl⟩))
    exact ⟨rfl, rfl, hB⟩
theorem rtW : Rt Tryd.prog 96 4 := ⟨⟨_, Tryd.underlying96, rfl⟩, by kernel_rfl⟩
/-- Which of four words it is, if any; 4: none. -/
def whichW (a0 a1 a2 a3 x : ByteArray) : Nat := if a0 = x then 0 else if a1 = x then 1 else if a2 = x then 2 else if a3 = x then 3 else 4
theorem part_gen (w : World) (a0 a1 a2 a3 x : ByteArray) (hr : Hid (w.rangeAt 0 0 (#[.string a0, .string a1, .string a2, .string a3] : Array Value).toList)) :
    Calls Tryd.prog 80 #[.string x] w fun e w' => e = (if whichW a0 a1 a2 a3 x = 4 then .panicked [{ v := pv, recovered := false }] else .returned (.int .u8 (whichW a0 a1 a2 a3 x : Nat))) ∧ w' = w := by
  obtain ⟨R, hR⟩ : ∃ R : Ending, Hid (R = if whichW a0 a1 a2 a3 x = 4 then .panicked [{ v := pv, recovered := false }] else .returned (.int .u8 (whichW a0 a1 a2 a3 x : Nat))) := ⟨_, (rfl : _ = _)⟩
  rw [← hR.out]
  have i0 : ∀ v, (Instr.index 96 (.agg #[.string a0, .string a1, .string a2, .string a3]) (.int .i64 0)).run Tryd.prog v = .ok (.string a0) v := fun v => by kernel_rfl
  have i1 : ∀ v, (Instr.index 96 (.agg #[.string a0, .string a1, .string a2, .string a3]) (.int .i64 1)).run Tryd.prog v = .ok (.string a1) v := fun v => by kernel_rfl
  have i2 : ∀ v, (Instr.index 96 (.agg #[.string a0, .string a1, .string a2, .string a3]) (.int .i64 2)).run Tryd.prog v = .ok (.string a2) v := fun v => by kernel_rfl
  have i3 : ∀ v, (Instr.index 96 (.agg #[.string a0, .string a1, .string a2, .string a3]) (.int .i64 3)).run Tryd.prog v = .ok (.string a3) v := fun v => by kernel_rfl
  go_enter Tryd.func80, Tryd.ntmps80
  go_wp2_with ((with_reducible refine at_loadm rtW 0 0 #[.string a0, .string a1, .string a2, .string a3] ?_ ?_ (.global 0) ?_ ?_ ?_ ?_); exact hr.out; rfl; rfl; rfl; rfl)
  go_loopw [6] (fun i wz => ∃ j : Nat, j ≤ 4 ∧ i = .int .i64 (j : Int) ∧ Hid ((0 < j → a0 ≠ x) ∧ (1 < j → a1 ≠ x) ∧ (2 < j → a2 ≠ x) ∧ (3 < j → a3 ≠ x)) ∧ wz = w) (fun i _ => (4 - intOf i).toNat)
  case atStart => exact ⟨0, by omega, rfl, ⟨fun h => absurd h (by omega), fun h => absurd h (by omega), fun h => absurd h (by omega), fun h => absurd h (by omega)⟩, rfl⟩
  case round =>
    obtain ⟨j, hj, rfl, J, rfl⟩ := hrel
    rcases (show j = 0 ∨ j = 1 ∨ j = 2 ∨ j = 3 ∨ j = 4 by omega) with rfl | rfl | rfl | rfl | rfl
    · by_cases e0 : a0 = x
      · have q := str_eq e0
        have fin : Hid (R = .returned (.int .u8 0)) := by show _ = _; rw [hR.out]; unfold whichW; rw [if_pos e0]; rfl
        clear e0
        go_wp2
        go_ret
        exact ⟨fin.out.symm, rfl⟩
      · have q := str_ne e0
        have J2 : Hid ((0 < 1 → a0 ≠ x) ∧ (1 < 1 → a1 ≠ x) ∧ (2 < 1 → a2 ≠ x) ∧ (3 < 1 → a3 ≠ x)) := ⟨fun _ => e0, fun h => absurd h (by omega), fun h => absurd h (by omega), fun h => absurd h (by omega)⟩
        clear e0
        go_wp2
        go_roundw
        case rel => exact ⟨1, by omega, rfl, J2, by first | trivial | rfl⟩
        case measure => simp [intOf]
    · by_cases e1 : a1 = x
      · have q := str_eq e1
        have fin : Hid (R = .returned (.int .u8 1)) := by show _ = _; rw [hR.out]; unfold whichW; rw [if_neg (J.out.1 (by omega)), if_pos e1]; rfl
        clear e1
        go_wp2
        go_ret
        exact ⟨fin.out.symm, rfl⟩
      · have q := str_ne e1
        have J2 : Hid ((0 < 2 → a0 ≠ x) ∧ (1 < 2 → a1 ≠ x) ∧ (2 < 2 → a2 ≠ x) ∧ (3 < 2 → a3 ≠ x)) := ⟨fun _ => J.out.1 (by omega), fun _ => e1, fun h => absurd h (by omega), fun h => absurd h (by omega)⟩
        clear e1
        go_wp2
        go_roundw
        case rel => exact ⟨2, by omega, rfl, J2, by first | trivial | rfl⟩
        case measure => simp [intOf]
    · by_cases e2 : a2 = x
      · have q := str_eq e2
        have fin : Hid (R = .returned (.int .u8 2)) := by show _ = _; rw [hR.out]; unfold whichW; rw [if_neg (J.out.1 (by omega)), if_neg (J.out.2.1 (by omega)), if_pos e2]; rfl
        clear e2
        go_wp2
        go_ret
        exact ⟨fin.out.symm, rfl⟩
      · have q := str_ne e2
        have J2 : Hid ((0 < 3 → a0 ≠ x) ∧ (1 < 3 → a1 ≠ x) ∧ (2 < 3 → a2 ≠ x) ∧ (3 < 3 → a3 ≠ x)) := ⟨fun _ => J.out.1 (by omega), fun _ => J.out.2.1 (by omega), fun _ => e2, fun h => absurd h (by omega)⟩
        clear e2
        go_wp2
        go_roundw
        case rel => exact ⟨3, by omega, rfl, J2, by first | trivial | rfl⟩
        case measure => simp [intOf]
    · by_cases e3 : a3 = x
      · have q := str_eq e3
        have fin : Hid (R = .returned (.int .u8 3)) := by show _ = _; rw [hR.out]; unfold whichW; rw [if_neg (J.out.1 (by omega)), if_neg (J.out.2.1 (by omega)), if_neg (J.out.2.2.1 (by omega)), if_pos e3]; rfl
        clear e3
        go_wp2
        go_ret
        exact ⟨fin.out.symm, rfl⟩
      · have q := str_ne e3
        have J2 : Hid ((0 < 4 → a0 ≠ x) ∧ (1 < 4 → a1 ≠ x) ∧ (2 < 4 → a2 ≠ x) ∧ (3 < 4 → a3 ≠ x)) := ⟨fun _ => J.out.1 (by omega), fun _ => J.out.2.1 (by omega), fun _ => J.out.2.2.1 (by omega), fun _ => e3⟩
        clear e3
        go_wp2
        go_roundw
        case rel => exact ⟨4, by omega, rfl, J2, by first | trivial | rfl⟩
        case measure => simp [intOf]
    · have fin : Hid (R = .panicked [{ v := pv, recovered := false }]) := by show _ = _; rw [hR.out]; unfold whichW; rw [if_neg (J.out.1 (by omega)), if_neg (J.out.2.1 (by omega)), if_neg (J.out.2.2.1 (by omega)), if_neg (J.out.2.2.2 (by omega))]; rfl
      go_wp2
      exact ⟨rfl, fin.out.symm, rfl⟩
/-- Which part a word names. -/
theorem part_any (w : World) (x : ByteArray) (hx : 0 < x.size) (T : Hid (Tw w)) : Calls Tryd.prog 80 #[.string x] w fun e w' => e = (if partO x = 0 then .panicked [{ v := pv, recovered := false }] else .returned (.int .u8 (partO x))) ∧ w' = w := by
  have hr : Hid (w.rangeAt 0 0 (#[.string ⟨#[]⟩, .string wTo, .string wHigh, .string wLow] : Array Value).toList) := fun j v hv => by rw [Nat.zero_add]; exact T.out.p j v hv
  refine (part_gen w ⟨#[]⟩ wTo wHigh wLow x hr).mono ?_
  rintro e w' ⟨rfl, rfl⟩
  refine ⟨?_, rfl⟩
  have h0 : (⟨#[]⟩ : ByteArray) ≠ x := fun e => by rw [← e] at hx; exact absurd hx (by decide)
  have hp : partO x = if wTo = x then 1 else if wHigh = x then 2 else if wLow = x then 3 else 0 := by
    unfold partO
    simp only [eq_comm (a := x)]
  rw [hp]
  unfold whichW
  rw [if_neg h0]
  by_cases h1 : wTo = x
  · simp only [if_pos h1]; rfl
  by_cases h2 : wHigh = x
  · simp only [if_neg h1, if_pos h2]; rfl
  by_cases h3 : wLow = x
  · simp only [if_neg h1, if_neg h2, if_pos h3]; rfl
  simp only [if_neg h1, if_neg h2, if_neg h3]
  rfl
end Go.Proofs.YtmaedkbmjbggpaaDoor
/- What a line's words say: the program's readers of one kind each. -/
namespace Go.Proofs.YtmaedkbmjbggpaaDoor
open Go Go.RowKit
set_option linter.unusedVariables false
set_option maxHeartbeats 3000000
set_option maxRecDepth 20000

/-- Words that lie in a row, from some place on. -/
def WL (x : World) (sp : Option Addr) (ws : List ByteArray) : Prop := ∀ j s, ws[j]? = some s → ∃ g o, sp = some ⟨g, o, none⟩ ∧ x.cell? ⟨g, o + j, none⟩ = some (.string s)
theorem WL.below {x y : World} {sp : Option Addr} {ws : List ByteArray} (h : WL x sp ws) (hb : Below x.heap.size x y) : WL y sp ws := fun j s hj => by
  obtain ⟨g, o, e, c⟩ := h j s hj
  exact ⟨g, o, e, (hb.cell (p := ⟨g, o + j, none⟩) (World.block_lt_of_cell? x _ c)).trans c⟩
theorem WL.at {x : World} {sp : Option Addr} {ws : List ByteArray} (h : WL x sp ws) {j : Nat} {s : ByteArray} (hj : ws[j]? = some s) (n cap : Nat) (hn : j < n) :
    ∃ g o, sp = some ⟨g, o, none⟩ ∧ x.cell? ⟨g, o + j, none⟩ = some (.string s) ∧ ∀ v, (Instr.indexAt 59 (.slice (some ⟨g, o, none⟩) n cap) (.int .i64 (j : Int))).run Tryd.prog v = .ok (.pointer (some ⟨g, o + j, none⟩)) v := by
  obtain ⟨g, o, e, c⟩ := h j s hj
  refine ⟨g, o, e, c, fun v => ?_⟩
  have := idxP (g := g) (off := o) (len := n) (cap := cap) Tryd.underlying59 (s := 1) (by kernel_rfl) .i64 j v hn
  rw [Nat.mul_one] at this
  exact this
/-- What a reader leaves: an item whose bytes are its own, or it gave up. -/
def RdE (w : World) : Option Pu → Ending → World → Prop
  | none, e, w' => e = .panicked [{ v := pv, recovered := false }] ∧ Below w.heap.size w w'
  | some q, e, w' => ∃ sp cap, e = .returned (.agg (i6 (q.ri sp cap))) ∧ w'.ownsRow w.heap.size 5 1 (.slice sp q.b.length cap) q.b.length (q.b.map byV) ∧ Below w.heap.size w w'
theorem RdE.plain {w w' : World} {q : Pu} (hb : q.b = []) (h : Below w.heap.size w w') : RdE w (some q) (.returned (.agg (i6 (q.ri none 0)))) w' := by
  obtain ⟨k, n, a, l, p, b⟩ := q
  simp only at hb
  subst hb
  exact ⟨none, 0, rfl, World.ownsRow_nil w' w.heap.size _ 1, h⟩
theorem built_ord (N : ByteArray) (A : Int) : Tryd.prog.built 39 [(0, .int .u8 2), (1, .string N), (2, .int .i64 A)] = some (i6 (ordR N ⟨#[]⟩ A 0)) := by kernel_rfl
theorem built_part (N L : ByteArray) (P : Int) : Tryd.prog.built 39 [(0, .int .u8 2), (1, .string N), (3, .string L), (4, .int .u8 P)] = some (i6 (ordR N L 0 P)) := by kernel_rfl
def addrR (L : ByteArray) : Ri := ⟨5, ⟨#[]⟩, 0, L, 0, none, 0, 0⟩
theorem built_addr (L : ByteArray) : Tryd.prog.built 39 [(0, .int .u8 5), (3, .string L)] = some (i6 (addrR L)) := by kernel_rfl
def atR (A : Int) : Ri := ⟨4, ⟨#[]⟩, A, ⟨#[]⟩, 0, none, 0, 0⟩
theorem built_at (A : Int) : Tryd.prog.built 39 [(0, .int .u8 4), (2, .int .i64 A)] = some (i6 (atR A)) := by kernel_rfl
def datR (sp : Option Addr) (m cap : Nat) : Ri := ⟨3, ⟨#[]⟩, 0, ⟨#[]⟩, 0, sp, m, cap⟩
theorem built_dat (sp : Option Addr) (m cap : Nat) : Tryd.prog.built 39 [(0, .int .u8 3), (5, .slice sp m cap)] = some (i6 (datR sp m cap)) := by kernel_rfl

def plainO (s : ByteArray) : Option Pu := if parseE s = 0 then some ⟨2, parseN s, parseA s, ⟨#[]⟩, 0, []⟩ else none
theorem rplain_ok (w : World) (s : ByteArray) (hs : s.size ≤ 3000000) (hw : parseE s = 0) (T : Hid (Tw w)) : Calls Tryd.prog 79 #[.string s] w (RdE w (plainO s)) := by
  have K1 : Hid (Fm w [(w.heap.size, i6 z0, 39)] (w.alloc (.cells #[.int .u8 0, .string ⟨#[]⟩, .int .i64 0, .string ⟨#[]⟩, .int .u8 0, .slice none 0 0] 39))) := Fm.one w _ _
  have hP := fun v T => parse_any s (by unfold maxLen; omega) v T
  obtain ⟨E, hE⟩ : ∃ e, parseE s = e := ⟨_, rfl⟩
  obtain ⟨N, hN⟩ : ∃ e, parseN s = e := ⟨_, rfl⟩
  obtain ⟨A, hA⟩ : ∃ e, parseA s = e := ⟨_, rfl⟩
  unfold plainO
  rw [hE] at hw ⊢
  simp only [hE, hN, hA, retI] at hP ⊢
  clear hE hN hA hs
  rw [if_pos hw]
  have qe : (E == 0) = true := by rw [beq_iff_eq]; exact hw
  replace hw : Hid _ := hw
  go_enter Tryd.func79, Tryd.ntmps79
  go_wp2_with (first
    | (go_at_call 94; refine (hP _ (T.out.t.below K1.out.low)).mono ?_; rintro e y2 ⟨rfl, h2⟩; have K4 : Hid (Fm w [(w.heap.size, i6 z0, 39), (y2.heap.size, #[.string N, .int .i64 A], 71)] (y2.alloc (.cells #[.string N, .int .i64 A] 71))) := (K1.out.below h2).new _ _; clear h2; have g0 := (K4.out.bx 1 _ _ _ rfl).c 0 (.string N) rfl; have g1 := (K4.out.bx 1 _ _ _ rfl).c 1 (.int .i64 A) rfl)
    | (go_at_call 55; refine (need_ok _).mono ?_; rintro e yn ⟨rfl, rfl⟩)
    | ((with_reducible refine at_bu #[(0, .const (.int .u8 2)), (1, .tmp 14), (2, .tmp 16)] [(0, .int .u8 2), (1, .string N), (2, .int .i64 A)] (i6 (ordR N ⟨#[]⟩ A 0)) ?_ ?_ ?_ (built_ord N A) ?_); kernel_rfl; rfl; rfl)
    | ((with_reducible refine at_st rt6 w.heap.size (i6 z0) (i6 (ordR N ⟨#[]⟩ A 0)) ?_ ?_ ?_ ?_ (.tmp 2) (.tmp 17) ?_ ?_ ?_ ?_ ?_); exact K4.out.bx 0 _ _ _ rfl; rfl; rfl; exact one6 _; rfl; rfl; rfl; rfl; intro ys hws; have K5 : Hid (Fm w ((w.heap.size, i6 (ordR N ⟨#[]⟩ A 0), 39) :: [(y2.heap.size, #[.string N, .int .i64 A], 71)]) ys) := K4.out.put 0 _ _ _ _ rfl hws.out; clear hws))
  exact ret_row rt6 rfl rfl (K5.out.bx 0 _ _ _ rfl) rfl rfl (RdE.plain (q := ⟨2, N, A, ⟨#[]⟩, 0, []⟩) rfl K5.out.low)
theorem rplain_no (w : World) (s : ByteArray) (hs : s.size ≤ 3000000) (hw : ¬ parseE s = 0) (T : Hid (Tw w)) : Calls Tryd.prog 79 #[.string s] w (RdE w (plainO s)) := by
  have K1 : Hid (Fm w [(w.heap.size, i6 z0, 39)] (w.alloc (.cells #[.int .u8 0, .string ⟨#[]⟩, .int .i64 0, .string ⟨#[]⟩, .int .u8 0, .slice none 0 0] 39))) := Fm.one w _ _
  have hP := fun v T => parse_any s (by unfold maxLen; omega) v T
  obtain ⟨E, hE⟩ : ∃ e, parseE s = e := ⟨_, rfl⟩
  obtain ⟨N, hN⟩ : ∃ e, parseN s = e := ⟨_, rfl⟩
  obtain ⟨A, hA⟩ : ∃ e, parseA s = e := ⟨_, rfl⟩
  unfold plainO
  rw [hE] at hw ⊢
  simp only [hE, hN, hA, retI] at hP ⊢
  clear hE hN hA hs
  rw [if_neg hw]
  have qe : (E == 0) = false := by rw [beq_eq_false_iff_ne]; exact hw
  replace hw : Hid _ := hw
  go_enter Tryd.func79, Tryd.ntmps79
  go_wp2_with (first
    | (go_at_call 94; refine (hP _ (T.out.t.below K1.out.low)).mono ?_; rintro e y2 ⟨rfl, h2⟩; have K4 : Hid (Fm w [(w.heap.size, i6 z0, 39), (y2.heap.size, #[.string N, .int .i64 A], 71)] (y2.alloc (.cells #[.string N, .int .i64 A] 71))) := (K1.out.below h2).new _ _; clear h2; have g0 := (K4.out.bx 1 _ _ _ rfl).c 0 (.string N) rfl; have g1 := (K4.out.bx 1 _ _ _ rfl).c 1 (.int .i64 A) rfl)
    | (go_at_call 55; refine (need_no _).mono ?_; rintro e yn ⟨rfl, rfl⟩))
  exact ⟨rfl, rfl, K4.out.low⟩
theorem rplain_any (w : World) (s : ByteArray) (hs : s.size ≤ 3000000) (T : Hid (Tw w)) : Calls Tryd.prog 79 #[.string s] w (RdE w (plainO s)) := by
  by_cases hw : parseE s = 0
  · exact rplain_ok w s hs hw T
  · exact rplain_no w s hs hw T

/-- An instruction's words behind the first one, as they are read. -/
def codeO (x0 : ByteArray) : List ByteArray → Option Pu
  | [] => plainO x0
  | [x1] => plainO (x0 ++ ⟨#[32]⟩ ++ x1)
  | [x1, x2] => if partO x1 = 0 then none else some ⟨2, x0, 0, x2, partO x1, []⟩
  | _ => none
theorem codeO_0 (x0 : ByteArray) : codeO x0 [] = plainO x0 := rfl
theorem codeO_1 (x0 x1 : ByteArray) : codeO x0 [x1] = plainO (x0 ++ ⟨#[32]⟩ ++ x1) := rfl
theorem codeO_2 (x0 x1 x2 : ByteArray) : codeO x0 [x1, x2] = if partO x1 = 0 then none else some ⟨2, x0, 0, x2, partO x1, []⟩ := rfl
theorem codeO_3 (x0 x1 x2 x3 : ByteArray) (r : List ByteArray) : codeO x0 (x1 :: x2 :: x3 :: r) = none := rfl
theorem plainO_b {s : ByteArray} {q : Pu} (h : plainO s = some q) : q.b = [] := by
  unfold plainO at h
  split at h
  · injection h with h; subst h; rfl
  · cases h

/-- Bytes that a callee made lie above; a store into the box turns none of them. -/
theorem own_box {w y z : World} {cs : Array Value} {t : TypeId} {v : Value} {n : Nat} {xs : List Value} (hb : Below w.heap.size w (w.alloc (.cells cs t))) (h : y.ownsRow (w.alloc (.cells cs t)).heap.size 5 1 v n xs) (hk : ∀ g, g ≠ w.heap.size → z.heap[g]? = y.heap[g]?) : z.ownsRow w.heap.size 5 1 v n xs := by
  refine ⟨h.1, ?_⟩
  rcases h.2 with h0 | ⟨g, cap, cur, hv, hB, hg, hr⟩
  · exact .inl h0
  · have h1 : (w.alloc (.cells cs t)).heap.size = w.heap.size + 1 := by simp
    exact .inr ⟨g, cap, cur, hv, by omega, (hk g (by omega)).trans hg, hr⟩
theorem rcode0_ok (w : World) (x0 : ByteArray) (sp : Option Addr) (cap : Nat) (T : Hid (Tw w)) (hsz : x0.size ≤ 3000000) (q : Pu) (hq : plainO (x0) = some q) : Calls Tryd.prog 51 #[.string x0, .slice sp 0 cap] w (RdE w (some q)) := by
  have K1 : Hid (Fm w [(w.heap.size, i6 z0, 39)] (w.alloc (.cells #[.int .u8 0, .string ⟨#[]⟩, .int .i64 0, .string ⟨#[]⟩, .int .u8 0, .slice none 0 0] 39))) := Fm.one w _ _
  have hP := fun v T => rplain_any v (x0) hsz T
  simp only [hq] at hP
  clear hsz hq
  go_enter Tryd.func51, Tryd.ntmps51
  go_wp2_with (first
    | (go_at_call 79; refine (hP _ (T.out.below K1.out.low)).mono ?_; rintro e y2 ⟨sp2, cap2, rfl, H1, H2⟩; have K2 : Hid (Fm w [(w.heap.size, i6 z0, 39)] y2) := K1.out.below H2; replace H1 : Hid _ := H1; clear H2)
    | ((with_reducible refine at_st rt6 w.heap.size (i6 z0) (i6 (q.ri sp2 cap2)) ?_ ?_ ?_ ?_ (.tmp 4) (.tmp 10) ?_ ?_ ?_ ?_ ?_); exact K2.out.bx 0 _ _ _ rfl; rfl; rfl; exact one6 _; rfl; rfl; rfl; rfl; intro ys hws; have K5 : Hid (Fm w [(w.heap.size, i6 (q.ri sp2 cap2), 39)] ys ∧ ∀ q, q ≠ w.heap.size → ys.heap[q]? = y2.heap[q]?) := ⟨K2.out.put 0 _ _ _ _ rfl hws.out, hws.out.2.2⟩; clear hws))
  exact ret_row rt6 rfl rfl (K5.out.1.bx 0 _ _ _ rfl) rfl rfl ⟨_, _, rfl, own_box K1.out.low H1.out (fun g hg => K5.out.2 g hg), K5.out.1.low⟩
theorem rcode0_no (w : World) (x0 : ByteArray) (sp : Option Addr) (cap : Nat) (T : Hid (Tw w)) (hsz : x0.size ≤ 3000000) (hq : plainO (x0) = none) : Calls Tryd.prog 51 #[.string x0, .slice sp 0 cap] w (RdE w (none)) := by
  have K1 : Hid (Fm w [(w.heap.size, i6 z0, 39)] (w.alloc (.cells #[.int .u8 0, .string ⟨#[]⟩, .int .i64 0, .string ⟨#[]⟩, .int .u8 0, .slice none 0 0] 39))) := Fm.one w _ _
  have hP := fun v T => rplain_any v (x0) hsz T
  simp only [hq] at hP
  clear hsz hq
  go_enter Tryd.func51, Tryd.ntmps51
  go_wp2_with (first
    | (go_at_call 79; refine (hP _ (T.out.below K1.out.low)).mono ?_; rintro e y2 ⟨rfl, H2⟩; have K2 : Hid (Below w.heap.size w y2) := (K1.out.below H2).low; clear H2))
  exact ⟨rfl, rfl, K2.out⟩
theorem rcode1_ok (w : World) (x0 : ByteArray) (x1 : ByteArray) (sp : Option Addr) (cap : Nat) (T : Hid (Tw w)) (hx : x0.size ≤ 1000000 ∧ x1.size ≤ 1000000) (h0 : Hid (WL w sp [x1])) (q : Pu) (hq : plainO (x0 ++ ⟨#[32]⟩ ++ x1) = some q) : Calls Tryd.prog 51 #[.string x0, .slice sp 1 cap] w (RdE w (some q)) := by
  have K1 : Hid (Fm w [(w.heap.size, i6 z0, 39)] (w.alloc (.cells #[.int .u8 0, .string ⟨#[]⟩, .int .i64 0, .string ⟨#[]⟩, .int .u8 0, .slice none 0 0] 39))) := Fm.one w _ _
  have hsz : (x0 ++ ⟨#[32]⟩ ++ x1).size ≤ 3000000 := by have e : (⟨#[32]⟩ : ByteArray).size = 1 := rfl; rw [ByteArray.size_append, ByteArray.size_append]; omega
  obtain ⟨g, o, rfl, c0, i0⟩ := h0.out.at (j := 0) rfl 1 cap (by omega)
  rw [Nat.add_zero] at c0 i0
  have lg := World.block_lt_of_cell? w _ c0
  have s0 : (x0.size : Int) ≤ 1000000 := by omega
  have s1 : (x1.size : Int) ≤ 1000000 := by omega
  have hP := fun v T => rplain_any v (x0 ++ ⟨#[32]⟩ ++ x1) hsz T
  simp only [hq] at hP
  clear hsz hq
  go_enter Tryd.func51, Tryd.ntmps51
  go_wp2_with (first
    | (go_at_call 79; refine (hP _ (T.out.below K1.out.low)).mono ?_; rintro e y2 ⟨sp2, cap2, rfl, H1, H2⟩; have K2 : Hid (Fm w [(w.heap.size, i6 z0, 39)] y2) := K1.out.below H2; replace H1 : Hid _ := H1; clear H2)
    | ((with_reducible refine at_st rt6 w.heap.size (i6 z0) (i6 (q.ri sp2 cap2)) ?_ ?_ ?_ ?_ (.tmp 4) (.tmp 19) ?_ ?_ ?_ ?_ ?_); exact K2.out.bx 0 _ _ _ rfl; rfl; rfl; exact one6 _; rfl; rfl; rfl; rfl; intro ys hws; have K5 : Hid (Fm w [(w.heap.size, i6 (q.ri sp2 cap2), 39)] ys ∧ ∀ q, q ≠ w.heap.size → ys.heap[q]? = y2.heap[q]?) := ⟨K2.out.put 0 _ _ _ _ rfl hws.out, hws.out.2.2⟩; clear hws))
  exact ret_row rt6 rfl rfl (K5.out.1.bx 0 _ _ _ rfl) rfl rfl ⟨_, _, rfl, own_box K1.out.low H1.out (fun g hg => K5.out.2 g hg), K5.out.1.low⟩
theorem rcode1_no (w : World) (x0 : ByteArray) (x1 : ByteArray) (sp : Option Addr) (cap : Nat) (T : Hid (Tw w)) (hx : x0.size ≤ 1000000 ∧ x1.size ≤ 1000000) (h0 : Hid (WL w sp [x1])) (hq : plainO (x0 ++ ⟨#[32]⟩ ++ x1) = none) : Calls Tryd.prog 51 #[.string x0, .slice sp 1 cap] w (RdE w (none)) := by
  have K1 : Hid (Fm w [(w.heap.size, i6 z0, 39)] (w.alloc (.cells #[.int .u8 0, .string ⟨#[]⟩, .int .i64 0, .string ⟨#[]⟩, .int .u8 0, .slice none 0 0] 39))) := Fm.one w _ _
  have hsz : (x0 ++ ⟨#[32]⟩ ++ x1).size ≤ 3000000 := by have e : (⟨#[32]⟩ : ByteArray).size = 1 := rfl; rw [ByteArray.size_append, ByteArray.size_append]; omega
  obtain ⟨g, o, rfl, c0, i0⟩ := h0.out.at (j := 0) rfl 1 cap (by omega)
  rw [Nat.add_zero] at c0 i0
  have lg := World.block_lt_of_cell? w _ c0
  have s0 : (x0.size : Int) ≤ 1000000 := by omega
  have s1 : (x1.size : Int) ≤ 1000000 := by omega
  have hP := fun v T => rplain_any v (x0 ++ ⟨#[32]⟩ ++ x1) hsz T
  simp only [hq] at hP
  clear hsz hq
  go_enter Tryd.func51, Tryd.ntmps51
  go_wp2_with (first
    | (go_at_call 79; refine (hP _ (T.out.below K1.out.low)).mono ?_; rintro e y2 ⟨rfl, H2⟩; have K2 : Hid (Below w.heap.size w y2) := (K1.out.below H2).low; clear H2))
  exact ⟨rfl, rfl, K2.out⟩
theorem op_bu {t : TypeId} {o : Oper} {a : Act} {w : World} {K : Act → World → Prop} {Q : Exit → Act → World → Prop} (parts : Array (Nat × Operand)) (l : List (Nat × Value)) (cs : Array Value) (ho : o.op = .build t parts) (hl : (parts.map fun (i, x) => (i, a.eval x)).toList = l) (hb : Tryd.prog.built t l = some cs)
    (k : K (a.put o.dst (.agg cs)) w) : o.wp Tryd.prog a w K Q := by
  have hr := run_build (P := Tryd.prog) w t (parts.map fun (i, x) => (i, a.eval x)) cs (by rw [hl]; exact hb)
  unfold Oper.wp execOp
  simp only [ho, Sem.run_bind, hr, Result.andThen_ok, Sem.run_pure]
  exact k
theorem rcode2_no (w : World) (x0 x1 x2 : ByteArray) (sp : Option Addr) (cap : Nat) (T : Hid (Tw w)) (hx : 0 < x1.size ∧ x2.size ≤ 1000000) (h0 : Hid (WL w sp [x1, x2])) (hp : partO x1 = 0) : Calls Tryd.prog 51 #[.string x0, .slice sp 2 cap] w (RdE w none) := by
  have hP := fun v T => part_any v x1 hx.1 T
  simp only [if_pos hp] at hP
  clear hp
  have K1 : Hid (Fm w [(w.heap.size, i6 z0, 39)] (w.alloc (.cells #[.int .u8 0, .string ⟨#[]⟩, .int .i64 0, .string ⟨#[]⟩, .int .u8 0, .slice none 0 0] 39))) := Fm.one w _ _
  obtain ⟨g, o, rfl, c0, i0⟩ := h0.out.at (j := 0) rfl 2 cap (by omega)
  obtain ⟨g', o', eg, c1, i1⟩ := h0.out.at (j := 1) rfl 2 cap (by omega)
  cases eg
  rw [Nat.add_zero] at c0 i0
  have i1' : ∀ v, (Instr.indexAt 59 (.slice (some ⟨g, o, none⟩) 2 cap) (.int .i64 1)).run Tryd.prog v = .ok (.pointer (some ⟨g, o + 1, none⟩)) v := i1
  have i0' : ∀ v, (Instr.indexAt 59 (.slice (some ⟨g, o, none⟩) 2 cap) (.int .i64 0)).run Tryd.prog v = .ok (.pointer (some ⟨g, o, none⟩)) v := i0
  have hS0 : Hid ((fun z => (∃ cs, Fm w [(w.heap.size, cs, 39)] z) ∧ z.cell? ⟨g, o + 1, none⟩ = some (.string x2) ∧ z.cell? ⟨g, o, none⟩ = some (.string x1)) (w.alloc (.cells #[.int .u8 0, .string ⟨#[]⟩, .int .i64 0, .string ⟨#[]⟩, .int .u8 0, .slice none 0 0] 39)).drew) := ⟨⟨_, K1.out.below (below_drew (Below.refl _ _))⟩, (below_drew K1.out.low).cell (p := ⟨g, o + 1, none⟩) (World.block_lt_of_cell? w _ c1) |>.trans c1, (below_drew K1.out.low).cell (p := ⟨g, o, none⟩) (World.block_lt_of_cell? w _ c0) |>.trans c0⟩
  have hkeep : Hid (∀ y z : World, (fun z => (∃ cs, Fm w [(w.heap.size, cs, 39)] z) ∧ z.cell? ⟨g, o + 1, none⟩ = some (.string x2) ∧ z.cell? ⟨g, o, none⟩ = some (.string x1)) y → Below y.heap.size y z → (fun z => (∃ cs, Fm w [(w.heap.size, cs, 39)] z) ∧ z.cell? ⟨g, o + 1, none⟩ = some (.string x2) ∧ z.cell? ⟨g, o, none⟩ = some (.string x1)) z) := fun y z h hb => ⟨⟨_, h.1.choose_spec.below hb⟩, (hb.cell (p := ⟨g, o + 1, none⟩) (World.block_lt_of_cell? y _ h.2.1)).trans h.2.1, (hb.cell (p := ⟨g, o, none⟩) (World.block_lt_of_cell? y _ h.2.2)).trans h.2.2⟩
  have hA := fun v => apart_any x2 v hx.2
  replace c0 : Hid _ := c0
  replace c1 : Hid _ := c1
  clear i0 i1
  go_enter Tryd.func51, Tryd.ntmps51
  go_wp2_with (go_at_call 55; refine (need_ok _).mono ?_; rintro e yn ⟨rfl, rfl⟩)
  have F1 : Hid (Fm w [(w.heap.size, i6 z0, 39)] (w.alloc (.cells #[.int .u8 0, .string ⟨#[]⟩, .int .i64 0, .string ⟨#[]⟩, .int .u8 0, .slice none 0 0] 39)).drew) := K1.out.below (below_drew (Below.refl _ _))
  refine wp_region_held_drew (S := fun z => (∃ cs, Fm w [(w.heap.size, cs, 39)] z) ∧ z.cell? ⟨g, o + 1, none⟩ = some (.string x2) ∧ z.cell? ⟨g, o, none⟩ = some (.string x1)) (by kernel_rfl) hS0.out (fun hH => ?_)
  generalize (w.alloc (.cells #[.int .u8 0, .string ⟨#[]⟩, .int .i64 0, .string ⟨#[]⟩, .int .u8 0, .slice none 0 0] 39)).drew = z1 at hS0 hH F1 ⊢
  refine wpAnyH_take (i := 0) (v := .string x0) rfl (by kernel_rfl) (by kernel_rfl) (by kernel_rfl) (fun _ _ _ h => h) (.inl ⟨by kernel_rfl, fun u hu => by go_simp⟩) hH ?_
  try simp only [Act.put, List.setIfInBounds_toArray]
  refine wpAnyH_take (i := 1) (v := .slice (some ⟨g, o, none⟩) 2 cap) rfl (by kernel_rfl) (by kernel_rfl) (by kernel_rfl) (fun _ _ _ h => h) (.inl ⟨by kernel_rfl, fun u hu => by go_simp⟩) hH ?_
  try simp only [Act.put]
  refine wpAnyH_take (i := 2) (v := .pointer (some ⟨g, o + 1, none⟩)) rfl (by kernel_rfl) (by kernel_rfl) (by kernel_rfl) (fun _ _ _ h => h) (.inl ⟨by kernel_rfl, fun u hu => by have d := i1' u; go_simp⟩) hH ?_
  try simp only [Act.put]
  refine wpAnyH_take (i := 3) (v := .string x2) rfl (by kernel_rfl) (by kernel_rfl) (by kernel_rfl) (fun _ _ _ h => h) (.inl ⟨by kernel_rfl, fun u hu => by have d := hu.2.1; go_simp⟩) hH ?_
  try simp only [Act.put]
  refine wpAnyH_take (i := 5) (v := .slice (some ⟨g, o, none⟩) 2 cap) rfl (by kernel_rfl) (by kernel_rfl) (by kernel_rfl) (fun _ _ _ h => h) (.inl ⟨by kernel_rfl, fun u hu => by go_simp⟩) hH ?_
  try simp only [Act.put]
  refine wpAnyH_take (i := 6) (v := .pointer (some ⟨g, o, none⟩)) rfl (by kernel_rfl) (by kernel_rfl) (by kernel_rfl) (fun _ _ _ h => h) (.inl ⟨by kernel_rfl, fun u hu => by have d := i0' u; go_simp⟩) hH ?_
  try simp only [Act.put]
  refine wpAnyH_take (i := 7) (v := .string x1) rfl (by kernel_rfl) (by kernel_rfl) (by kernel_rfl) (fun _ _ _ h => h) (.inl ⟨by kernel_rfl, fun u hu => by have d := hu.2.2; go_simp⟩) hH ?_
  try simp only [Act.put]
  refine wpAnyH_ready (rs := [4]) (by kernel_rfl) (by simp) (AllReadyH.cons rfl (fun K hK => ?_) AllReadyH.nil)
  rw [if_pos (by rfl)]
  go_wp2_with (go_at_call 78; refine (hA z1).mono ?_; rintro e y2 ⟨rfl, H2⟩; have S2 : Hid ((fun z => (∃ cs, Fm w [(w.heap.size, cs, 39)] z) ∧ z.cell? ⟨g, o + 1, none⟩ = some (.string x2) ∧ z.cell? ⟨g, o, none⟩ = some (.string x1)) y2) := hkeep.out z1 y2 hS0.out H2; have F2 : Hid (Fm w [(w.heap.size, i6 z0, 39)] y2) := F1.out.below H2; clear H2; refine stopAt ?_)
  refine Stop.go ?_
  refine hK.out _ _ S2.out (fun _ => ?_)
  clear hK K
  try simp only [Act.put, List.setIfInBounds_toArray, List.set_cons_zero, List.set_cons_succ]
  refine wpAnyH_ready (rs := [8]) (by kernel_rfl) (by simp) (AllReadyH.cons rfl (fun K hK => ?_) AllReadyH.nil)
  rw [if_pos (by rfl)]
  go_wp2_with (go_at_call 80; refine (hP y2 (T.out.below F2.out.low)).mono ?_; rintro e y3 ⟨rfl, rfl⟩)
  exact ⟨rfl, rfl, F2.out.low⟩
theorem rcode2_ok (w : World) (x0 x1 x2 : ByteArray) (sp : Option Addr) (cap : Nat) (T : Hid (Tw w)) (hx : 0 < x1.size ∧ x2.size ≤ 1000000) (h0 : Hid (WL w sp [x1, x2])) (hp : ¬ partO x1 = 0) : Calls Tryd.prog 51 #[.string x0, .slice sp 2 cap] w (RdE w (some ⟨2, x0, 0, x2, partO x1, []⟩)) := by
  have hP := fun v T => part_any v x1 hx.1 T
  simp only [if_neg hp] at hP
  clear hp
  generalize partO x1 = PP at hP
  have K1 : Hid (Fm w [(w.heap.size, i6 z0, 39)] (w.alloc (.cells #[.int .u8 0, .string ⟨#[]⟩, .int .i64 0, .string ⟨#[]⟩, .int .u8 0, .slice none 0 0] 39))) := Fm.one w _ _
  obtain ⟨g, o, rfl, c0, i0⟩ := h0.out.at (j := 0) rfl 2 cap (by omega)
  obtain ⟨g', o', eg, c1, i1⟩ := h0.out.at (j := 1) rfl 2 cap (by omega)
  cases eg
  rw [Nat.add_zero] at c0 i0
  have i1' : ∀ v, (Instr.indexAt 59 (.slice (some ⟨g, o, none⟩) 2 cap) (.int .i64 1)).run Tryd.prog v = .ok (.pointer (some ⟨g, o + 1, none⟩)) v := i1
  have i0' : ∀ v, (Instr.indexAt 59 (.slice (some ⟨g, o, none⟩) 2 cap) (.int .i64 0)).run Tryd.prog v = .ok (.pointer (some ⟨g, o, none⟩)) v := i0
  have hS0 : Hid ((fun z => (∃ cs, Fm w [(w.heap.size, cs, 39)] z) ∧ z.cell? ⟨g, o + 1, none⟩ = some (.string x2) ∧ z.cell? ⟨g, o, none⟩ = some (.string x1)) (w.alloc (.cells #[.int .u8 0, .string ⟨#[]⟩, .int .i64 0, .string ⟨#[]⟩, .int .u8 0, .slice none 0 0] 39)).drew) := ⟨⟨_, K1.out.below (below_drew (Below.refl _ _))⟩, (below_drew K1.out.low).cell (p := ⟨g, o + 1, none⟩) (World.block_lt_of_cell? w _ c1) |>.trans c1, (below_drew K1.out.low).cell (p := ⟨g, o, none⟩) (World.block_lt_of_cell? w _ c0) |>.trans c0⟩
  have hkeep : Hid (∀ y z : World, (fun z => (∃ cs, Fm w [(w.heap.size, cs, 39)] z) ∧ z.cell? ⟨g, o + 1, none⟩ = some (.string x2) ∧ z.cell? ⟨g, o, none⟩ = some (.string x1)) y → Below y.heap.size y z → (fun z => (∃ cs, Fm w [(w.heap.size, cs, 39)] z) ∧ z.cell? ⟨g, o + 1, none⟩ = some (.string x2) ∧ z.cell? ⟨g, o, none⟩ = some (.string x1)) z) := fun y z h hb => ⟨⟨_, h.1.choose_spec.below hb⟩, (hb.cell (p := ⟨g, o + 1, none⟩) (World.block_lt_of_cell? y _ h.2.1)).trans h.2.1, (hb.cell (p := ⟨g, o, none⟩) (World.block_lt_of_cell? y _ h.2.2)).trans h.2.2⟩
  have hA := fun v => apart_any x2 v hx.2
  replace c0 : Hid _ := c0
  replace c1 : Hid _ := c1
  clear i0 i1
  go_enter Tryd.func51, Tryd.ntmps51
  go_wp2_with (go_at_call 55; refine (need_ok _).mono ?_; rintro e yn ⟨rfl, rfl⟩)
  have F1 : Hid (Fm w [(w.heap.size, i6 z0, 39)] (w.alloc (.cells #[.int .u8 0, .string ⟨#[]⟩, .int .i64 0, .string ⟨#[]⟩, .int .u8 0, .slice none 0 0] 39)).drew) := K1.out.below (below_drew (Below.refl _ _))
  refine wp_region_held_drew (S := fun z => (∃ cs, Fm w [(w.heap.size, cs, 39)] z) ∧ z.cell? ⟨g, o + 1, none⟩ = some (.string x2) ∧ z.cell? ⟨g, o, none⟩ = some (.string x1)) (by kernel_rfl) hS0.out (fun hH => ?_)
  generalize (w.alloc (.cells #[.int .u8 0, .string ⟨#[]⟩, .int .i64 0, .string ⟨#[]⟩, .int .u8 0, .slice none 0 0] 39)).drew = z1 at hS0 hH F1 ⊢
  refine wpAnyH_take (i := 0) (v := .string x0) rfl (by kernel_rfl) (by kernel_rfl) (by kernel_rfl) (fun _ _ _ h => h) (.inl ⟨by kernel_rfl, fun u hu => by go_simp⟩) hH ?_
  try simp only [Act.put, List.setIfInBounds_toArray]
  refine wpAnyH_take (i := 1) (v := .slice (some ⟨g, o, none⟩) 2 cap) rfl (by kernel_rfl) (by kernel_rfl) (by kernel_rfl) (fun _ _ _ h => h) (.inl ⟨by kernel_rfl, fun u hu => by go_simp⟩) hH ?_
  try simp only [Act.put]
  refine wpAnyH_take (i := 2) (v := .pointer (some ⟨g, o + 1, none⟩)) rfl (by kernel_rfl) (by kernel_rfl) (by kernel_rfl) (fun _ _ _ h => h) (.inl ⟨by kernel_rfl, fun u hu => by have d := i1' u; go_simp⟩) hH ?_
  try simp only [Act.put]
  refine wpAnyH_take (i := 3) (v := .string x2) rfl (by kernel_rfl) (by kernel_rfl) (by kernel_rfl) (fun _ _ _ h => h) (.inl ⟨by kernel_rfl, fun u hu => by have d := hu.2.1; go_simp⟩) hH ?_
  try simp only [Act.put]
  refine wpAnyH_take (i := 5) (v := .slice (some ⟨g, o, none⟩) 2 cap) rfl (by kernel_rfl) (by kernel_rfl) (by kernel_rfl) (fun _ _ _ h => h) (.inl ⟨by kernel_rfl, fun u hu => by go_simp⟩) hH ?_
  try simp only [Act.put]
  refine wpAnyH_take (i := 6) (v := .pointer (some ⟨g, o, none⟩)) rfl (by kernel_rfl) (by kernel_rfl) (by kernel_rfl) (fun _ _ _ h => h) (.inl ⟨by kernel_rfl, fun u hu => by have d := i0' u; go_simp⟩) hH ?_
  try simp only [Act.put]
  refine wpAnyH_take (i := 7) (v := .string x1) rfl (by kernel_rfl) (by kernel_rfl) (by kernel_rfl) (fun _ _ _ h => h) (.inl ⟨by kernel_rfl, fun u hu => by have d := hu.2.2; go_simp⟩) hH ?_
  try simp only [Act.put]
  refine wpAnyH_ready (rs := [4]) (by kernel_rfl) (by simp) (AllReadyH.cons rfl (fun K hK => ?_) AllReadyH.nil)
  rw [if_pos (by rfl)]
  go_wp2_with (go_at_call 78; refine (hA z1).mono ?_; rintro e y2 ⟨rfl, H2⟩; have S2 : Hid ((fun z => (∃ cs, Fm w [(w.heap.size, cs, 39)] z) ∧ z.cell? ⟨g, o + 1, none⟩ = some (.string x2) ∧ z.cell? ⟨g, o, none⟩ = some (.string x1)) y2) := hkeep.out z1 y2 hS0.out H2; have F2 : Hid (Fm w [(w.heap.size, i6 z0, 39)] y2) := F1.out.below H2; clear H2; refine stopAt ?_)
  refine Stop.go ?_
  refine hK.out _ _ S2.out (fun _ => ?_)
  clear hK K
  try simp only [Act.put, List.setIfInBounds_toArray, List.set_cons_zero, List.set_cons_succ]
  refine wpAnyH_ready (rs := [8]) (by kernel_rfl) (by simp) (AllReadyH.cons rfl (fun K hK => ?_) AllReadyH.nil)
  rw [if_pos (by rfl)]
  go_wp2_with (go_at_call 80; refine (hP y2 (T.out.below F2.out.low)).mono ?_; rintro e y3 ⟨rfl, rfl⟩; refine stopAt ?_)
  refine Stop.go ?_
  refine hK.out _ _ S2.out (fun _ => ?_)
  clear hK K
  try simp only [Act.put, List.setIfInBounds_toArray, List.set_cons_zero, List.set_cons_succ]
  refine wpAnyH_ready (rs := [9]) (by kernel_rfl) (by simp) (AllReadyH.cons rfl (fun K hK => ?_) AllReadyH.nil)
  rw [if_pos (by rfl)]
  refine op_bu (o := ⟨some 33, _, _, _, _, _⟩) #[(0, .const (.int .u8 2)), (1, .tmp 24), (3, .tmp 28), (4, .tmp 32)] [(0, .int .u8 2), (1, .string x0), (3, .string x2), (4, .int .u8 PP)] (i6 (ordR x0 x2 0 PP)) rfl (by kernel_rfl) (built_part x0 x2 PP) ?_
  refine hK.out _ _ S2.out (fun _ => ?_)
  clear hK K
  try simp only [Act.put, List.setIfInBounds_toArray, List.set_cons_zero, List.set_cons_succ]
  refine wpAnyH_ready (rs := [10]) (by kernel_rfl) (by simp) (AllReadyH.cons rfl (fun K hK => ?_) AllReadyH.nil)
  rw [if_pos (by rfl)]
  refine wp_st (o := ⟨none, _, _, _, _, _⟩) rt6 w.heap.size (i6 z0) (i6 (ordR x0 x2 0 PP)) (F2.out.bx 0 _ _ _ rfl) rfl rfl (one6 _) (.tmp 4) (.tmp 33) rfl rfl rfl (fun ys hws => ?_)
  have K5 : Hid (Fm w [(w.heap.size, i6 (ordR x0 x2 0 PP), 39)] ys) := F2.out.put 0 _ _ _ _ rfl hws.out
  refine hK.out _ _ ⟨⟨_, K5.out⟩, K5.out.low.cell (p := ⟨g, o + 1, none⟩) (World.block_lt_of_cell? w _ c1.out) |>.trans c1.out, K5.out.low.cell (p := ⟨g, o, none⟩) (World.block_lt_of_cell? w _ c0.out) |>.trans c0.out⟩ (fun _ => ?_)
  clear hK K
  try simp only [Act.put]
  refine wpAnyH_done (by kernel_rfl) ?_ _
  go_wp2
  exact ret_row rt6 rfl rfl (K5.out.bx 0 _ _ _ rfl) rfl rfl (RdE.plain (q := ⟨2, x0, 0, x2, PP, []⟩) rfl K5.out.low)
theorem rcode_many (w : World) (x0 : ByteArray) (sp : Option Addr) (n cap : Nat) (hn : 2 < n) (hn2 : n ≤ 1000001) : Calls Tryd.prog 51 #[.string x0, .slice sp n cap] w (RdE w none) := by
  have K1 : Hid (Fm w [(w.heap.size, i6 z0, 39)] (w.alloc (.cells #[.int .u8 0, .string ⟨#[]⟩, .int .i64 0, .string ⟨#[]⟩, .int .u8 0, .slice none 0 0] 39))) := Fm.one w _ _
  have q0 : ((n : Int) == 0) = false := by rw [beq_eq_false_iff_ne]; omega
  have q1 : ((n : Int) == 1) = false := by rw [beq_eq_false_iff_ne]; omega
  have q2 : ((n : Int) == 2) = false := by rw [beq_eq_false_iff_ne]; omega
  clear hn hn2
  go_enter Tryd.func51, Tryd.ntmps51
  go_wp2_with (go_at_call 55; refine (need_no _).mono ?_; rintro e yn ⟨rfl, rfl⟩)
  exact ⟨rfl, rfl, K1.out.low⟩
theorem rcodeP_any (w : World) (x0 : ByteArray) (r : List ByteArray) (sp : Option Addr) (cap : Nat) (T : Hid (Tw w)) (h0 : Hid (WL w sp r)) (hx : x0.size ≤ 1000000) (hr : ∀ x ∈ r, 0 < x.size ∧ x.size ≤ 1000000) (hn : r.length ≤ 1000001) : Calls Tryd.prog 51 #[.string x0, .slice sp r.length cap] w (RdE w (codeO x0 r)) := by
  rcases r with _ | ⟨x1, _ | ⟨x2, _ | ⟨x3, r⟩⟩⟩
  · rw [codeO_0]
    rcases hq : plainO x0 with _ | q
    · exact rcode0_no w x0 sp cap T (by omega) hq
    · exact rcode0_ok w x0 sp cap T (by omega) q hq
  · rw [codeO_1]
    have h1 := hr x1 (by simp)
    have key : ∀ ot, plainO (x0 ++ ⟨#[32]⟩ ++ x1) = ot → Calls Tryd.prog 51 #[.string x0, .slice sp 1 cap] w (RdE w ot) := fun ot hq => by
      rcases ot with _ | q
      · exact rcode1_no w x0 x1 sp cap T ⟨hx, h1.2⟩ h0 hq
      · exact rcode1_ok w x0 x1 sp cap T ⟨hx, h1.2⟩ h0 q hq
    exact key _ rfl
  · rw [codeO_2]
    have h1 := hr x1 (by simp)
    have h2 := hr x2 (by simp)
    by_cases hp : partO x1 = 0
    · rw [if_pos hp]
      exact rcode2_no w x0 x1 x2 sp cap T ⟨h1.1, h2.2⟩ h0 hp
    · rw [if_neg hp]
      exact rcode2_ok w x0 x1 x2 sp cap T ⟨h1.1, h2.2⟩ h0 hp
  · rw [codeO_3]
    exact rcode_many w x0 sp _ cap (by simp) hn
end Go.Proofs.YtmaedkbmjbggpaaDoor
