/- The words of a source's line, without its remark. -/
import Derived.Test.YtmaedkbmjbggpaaDoorJIh
namespace Go.Proofs.YtmaedkbmjbggpaaDoor
open Go Go.RowKit
set_option linter.unusedVariables false
set_option maxHeartbeats 3000000
set_option maxRecDepth 20000

def pushW (cur : List UInt8) : List (List UInt8) := if cur = [] then [] else [cur]
/-- The words of a line: ends at a remark. -/
def wordsG : List UInt8 → List UInt8 → List (List UInt8)
  | [], cur => pushW cur
  | c :: r, cur => if c = 59 then pushW cur else if c = 32 ∨ c = 9 then pushW cur ++ wordsG r [] else wordsG r (cur ++ [c])
/-- Where the reading of words has come to. -/
def Wat (l : List UInt8) (n p q : Nat) (O : List ByteArray) : Prop := q ≤ p ∧ p ≤ n + 1 ∧ (p ≤ n → wordsG l [] = O.map strL ++ wordsG (l.drop p) ((l.drop q).take (p - q))) ∧ (p = n + 1 → wordsG l [] = O.map strL)
theorem take_end {l : List UInt8} {p q : Nat} {c : UInt8} (h : q ≤ p) (hc : l[p]? = some c) : (l.drop q).take (p + 1 - q) = (l.drop q).take (p - q) ++ [c] := by
  rw [show p + 1 - q = (p - q) + 1 by omega, List.take_add_one, List.getElem?_drop, show q + (p - q) = p by omega, hc]
  rfl
theorem drop_at {l : List UInt8} {p : Nat} {c : UInt8} (hc : l[p]? = some c) : l.drop p = c :: l.drop (p + 1) := by
  have hl := (List.getElem?_eq_some_iff.1 hc)
  rw [List.drop_eq_getElem_cons hl.1, hl.2]
theorem Wat.more {l : List UInt8} {n p q : Nat} {O : List ByteArray} (h : Wat l n p q O) (hp : p < n) {c : UInt8} (hc : l[p]? = some c) (h1 : c ≠ 59) (h2 : c ≠ 32) (h3 : c ≠ 9) : Wat l n (p + 1) q O := by
  refine ⟨by have := h.1; omega, by omega, fun _ => ?_, fun e => by omega⟩
  rw [h.2.2.1 (by omega), drop_at hc, take_end h.1 hc]
  conv => lhs; unfold wordsG
  rw [if_neg h1, if_neg (by simp [h2, h3])]
theorem push_some {l : List UInt8} {q p : Nat} (h : q < p) (hp : p ≤ l.length) : pushW ((l.drop q).take (p - q)) = [(l.drop q).take (p - q)] := by
  unfold pushW
  rw [if_neg]
  intro e
  have := congrArg List.length e
  rw [List.length_take, List.length_drop, List.length_nil] at this
  omega
theorem push_none (l : List UInt8) (q : Nat) : pushW ((l.drop q).take (q - q)) = [] := by
  unfold pushW
  rw [Nat.sub_self, List.take_zero, if_pos rfl]
/-- The word that ends here, if there is one. -/
def endW (s : ByteArray) (q p : Nat) (O : List ByteArray) : List ByteArray := if q < p then O ++ [s.extract q p] else O
theorem endW_map (s : ByteArray) (q p : Nat) (O : List ByteArray) (h : q ≤ p) (hp : p ≤ s.size) : (endW s q p O).map strL = O.map strL ++ pushW (((strL s).drop q).take (p - q)) := by
  unfold endW
  split
  · rename_i hl
    rw [push_some hl (by rw [strL_len]; exact hp), List.map_append]
    simp [strL_extract s q p h hp]
  · have : q = p := by omega
    subst this
    rw [push_none, List.append_nil]
theorem Wat.cut {s : ByteArray} {p q : Nat} {O : List ByteArray} (h : Wat (strL s) s.size p q O) (hp : p < s.size) {c : UInt8} (hc : (strL s)[p]? = some c) (h1 : c ≠ 59) (h2 : c = 32 ∨ c = 9) : Wat (strL s) s.size (p + 1) (p + 1) (endW s q p O) := by
  refine ⟨Nat.le_refl _, by omega, fun _ => ?_, fun e => by omega⟩
  rw [h.2.2.1 (by omega), drop_at hc, endW_map s q p O h.1 (by omega), Nat.sub_self, List.take_zero]
  conv => lhs; unfold wordsG
  rw [if_neg h1, if_pos h2, List.append_assoc]
theorem Wat.mark {s : ByteArray} {p q : Nat} {O : List ByteArray} (h : Wat (strL s) s.size p q O) (hp : p < s.size) (hc : (strL s)[p]? = some 59) : (endW s q p O).map strL = wordsG (strL s) [] := by
  rw [h.2.2.1 (by omega), drop_at hc, endW_map s q p O h.1 (by omega)]
  conv => rhs; unfold wordsG
  rw [if_pos rfl]
theorem Wat.last {s : ByteArray} {q : Nat} {O : List ByteArray} (h : Wat (strL s) s.size s.size q O) : Wat (strL s) s.size (s.size + 1) (s.size + 1) (endW s q s.size O) := by
  refine ⟨Nat.le_refl _, Nat.le_refl _, fun e => by omega, fun _ => ?_⟩
  rw [h.2.2.1 (Nat.le_refl _), List.drop_eq_nil_of_le (by rw [strL_len]; exact Nat.le_refl _), endW_map s q s.size O h.1 (Nat.le_refl _)]
  rfl

theorem rwordsI_any (w : World) (s : ByteArray) (hs : s.size ≤ 1000000) : Calls Tryd.prog 33 #[.string s] w fun e w' => ∃ v ws, e = .returned v ∧ Hid (KT w v ws w' ∧ ws.map strL = wordsG (strL s) [] ∧ ws.length ≤ s.size + 1) := by
  have si : (s.size : Int) ≤ 1000000 := by omega
  have hs' : Hid (s.size ≤ 1000000) := hs
  obtain ⟨i9, hi9, hz0, hz1, hz2⟩ := info_parts infoT
  clear hs
  go_enter Tryd.func33, Tryd.ntmps33
  go_wp2
  go_loopw [3, 4, 5] (fun v f i wz => ∃ (p q : Nat) (u : Value) (O : List ByteArray) (y : World), y = wz ∧ u = v ∧ f = .int .i64 (q : Int) ∧ i = .int .i64 (p : Int) ∧ Hid (Wat (strL s) s.size p q O) ∧ Hid (KT w u O y ∧ O.length ≤ p)) (fun _ _ i _ => (s.size + 1 - intOf i).toNat)
  case atStart => exact ⟨0, 0, _, [], w, rfl, rfl, rfl, rfl, ⟨by omega, by omega, fun _ => by simp, fun e => by omega⟩, ⟨⟨World.ownsRow_nil _ _ _ 1, Below.refl _ _⟩, by simp⟩⟩
  case round =>
    obtain ⟨p, q, u, O, y, rfl, rfl, rfl, rfl, J, K⟩ := hrel
    by_cases hlt : p < s.size
    · have hpi : (p : Int) < s.size := by omega
      have hpe : ((p : Int) == s.size) = false := by rw [beq_eq_false_iff_ne]; omega
      have hple : (p : Int) ≤ s.size := by omega
      have hqi : (q : Int) ≤ p := by have := J.out.1; omega
      have hlt' : Hid (p < s.size) := hlt
      have hget := strL_get s p hlt
      by_cases b59 : s[p]'hlt = 59
      · rw [b59] at hget
        have fin := J.out.mark hlt hget
        have e1 : (((s[p]'hlt).toNat : Int) == 32) = false := by rw [b59]; decide
        have e2 : (((s[p]'hlt).toNat : Int) == 9) = false := by rw [b59]; decide
        have e3 : (((s[p]'hlt).toNat : Int) == 59) = true := by rw [b59]; decide
        replace hget : Hid _ := hget
        replace b59 : Hid _ := b59
        by_cases hqp : q < p
        · have fq : decide (q < p) = true := by simp; omega
          have fin2 : Hid ((O ++ [s.extract q p]).map strL = wordsG (strL s) []) := by
            show _ = _
            rw [← fin]
            unfold endW
            rw [if_pos hqp]
          clear fin
          go_wp2_with (at_builtin; refine wpList_append_own _ rfl (.tmp 37) (.tmp 42) 59 rfl w.heap.size 9 i9 (.string ⟨#[]⟩) 1 16 Tryd.underlying59 hi9 hz0 hz1 hz2 rfl (by decide) u O.length (O.map .string) rfl (K.out.1.1.alloc _) ⟨y.heap.size, 0, none⟩ 1 1 [.string (s.extract q p)] rfl rfl (one_str y _) (by simp [Value.oneCell']) ?_ ?_ ?_ ?_; (have := K.out.2; have := hs'.out; have := J.out.2.1; unfold maxLen; omega); (have := K.out.2; have := hs'.out; have := J.out.2.1; omega); (have := K.out.1.2.size; simp; omega); intro v' w' ho hg _; have K2 : Hid (KT w v' (O ++ [s.extract q p]) w' ∧ (O ++ [s.extract q p]).length ≤ p + 1) := ⟨K.out.1.add ho hg, by have := K.out.2; simp; omega⟩; clear ho hg)
          go_ret
          exact ⟨_, _, rfl, K2.out.1, fin2.out, by have := K2.out.2; have := hlt'.out; omega⟩
        · have fq : decide (q < p) = false := by simp; omega
          have fin2 : Hid (O.map strL = wordsG (strL s) []) := by
            show _ = _
            rw [← fin]
            unfold endW
            rw [if_neg hqp]
          clear fin
          go_wp2
          go_ret
          exact ⟨_, _, rfl, K.out.1, fin2.out, by have := K.out.2; have := hlt'.out; omega⟩
      · have e3 : (((s[p]'hlt).toNat : Int) == 59) = false := by
          rw [beq_eq_false_iff_ne]
          intro e
          exact b59 (UInt8.toNat_inj.1 (by show (s[p]'hlt).toNat = 59; omega))
        by_cases bs : s[p]'hlt = 32 ∨ s[p]'hlt = 9
        · have J2 := J.out.cut hlt hget b59 bs
          have e12 : (((s[p]'hlt).toNat : Int) == 32) = true ∨ (((s[p]'hlt).toNat : Int) == 32) = false ∧ (((s[p]'hlt).toNat : Int) == 9) = true := by
            rcases bs with h | h
            · exact .inl (by rw [h]; decide)
            · exact .inr ⟨by rw [h]; decide, by rw [h]; decide⟩
          replace hget : Hid _ := hget
          replace b59 : Hid _ := b59
          replace bs : Hid _ := bs
          by_cases hqp : q < p
          · have fq : decide (q < p) = true := by simp; omega
            have J3 : Hid (Wat (strL s) s.size (p + 1) (p + 1) (O ++ [s.extract q p])) := by
              unfold endW at J2
              rw [if_pos hqp] at J2
              exact J2
            clear J2
            rcases e12 with e1 | ⟨e1, e2⟩
            all_goals
              go_wp2_with (at_builtin; refine wpList_append_own _ rfl (.tmp 37) (.tmp 42) 59 rfl w.heap.size 9 i9 (.string ⟨#[]⟩) 1 16 Tryd.underlying59 hi9 hz0 hz1 hz2 rfl (by decide) u O.length (O.map .string) rfl (K.out.1.1.alloc _) ⟨y.heap.size, 0, none⟩ 1 1 [.string (s.extract q p)] rfl rfl (one_str y _) (by simp [Value.oneCell']) ?_ ?_ ?_ ?_; (have := K.out.2; have := hs'.out; have := J.out.2.1; unfold maxLen; omega); (have := K.out.2; have := hs'.out; have := J.out.2.1; omega); (have := K.out.1.2.size; simp; omega); intro v' w' ho hg _; have K2 : Hid (KT w v' (O ++ [s.extract q p]) w' ∧ (O ++ [s.extract q p]).length ≤ p + 1) := ⟨K.out.1.add ho hg, by have := K.out.2; simp; omega⟩; clear ho hg)
              go_roundw
              case rel => exact ⟨p + 1, p + 1, _, _, _, rfl, rfl, by simp, by simp, J3, K2⟩
              case measure => have := hlt'.out; simp [intOf]; omega
          · have fq : decide (q < p) = false := by simp; omega
            have J3 : Hid (Wat (strL s) s.size (p + 1) (p + 1) O) := by
              unfold endW at J2
              rw [if_neg hqp] at J2
              exact J2
            clear J2
            rcases e12 with e1 | ⟨e1, e2⟩
            all_goals
              go_wp2
              go_roundw
              case rel => exact ⟨p + 1, p + 1, _, _, _, rfl, rfl, by simp, by simp, J3, ⟨K.out.1, by have := K.out.2; omega⟩⟩
              case measure => have := hlt'.out; simp [intOf]; omega
        · have b32 : s[p]'hlt ≠ 32 := fun h => bs (.inl h)
          have b9 : s[p]'hlt ≠ 9 := fun h => bs (.inr h)
          have J2 : Hid (Wat (strL s) s.size (p + 1) q O) := J.out.more hlt hget b59 b32 b9
          have e1 : (((s[p]'hlt).toNat : Int) == 32) = false := by
            rw [beq_eq_false_iff_ne]
            intro e
            exact b32 (UInt8.toNat_inj.1 (by show (s[p]'hlt).toNat = 32; omega))
          have e2 : (((s[p]'hlt).toNat : Int) == 9) = false := by
            rw [beq_eq_false_iff_ne]
            intro e
            exact b9 (UInt8.toNat_inj.1 (by show (s[p]'hlt).toNat = 9; omega))
          replace hget : Hid _ := hget
          replace b59 : Hid _ := b59
          replace bs : Hid _ := bs
          clear b32 b9
          go_wp2
          go_roundw
          case rel => exact ⟨p + 1, q, _, O, _, rfl, rfl, rfl, by simp, J2, ⟨K.out.1, by have := K.out.2; omega⟩⟩
          case measure => have := hlt'.out; simp [intOf]; omega
    · by_cases hpe : p = s.size
      · have J2 : Wat (strL s) s.size (p + 1) (p + 1) (endW s q p O) := by have h := J.out; rw [hpe] at h ⊢; exact h.last
        have hpi : ((p : Int) == s.size) = true := by rw [beq_iff_eq]; omega
        have hpl : decide (p ≤ s.size) = true := by simp; omega
        have hpn : decide (p < s.size) = false := by simp; omega
        have hpm : ¬ p < s.size := by omega
        have hpk : p ≤ s.size := by omega
        have hple : (p : Int) ≤ s.size := by omega
        have hqi : (q : Int) ≤ p := by have := J.out.1; omega
        have hpe' : Hid (p = s.size) := hpe
        clear hlt hpe
        by_cases hqp : q < p
        · have fq : decide (q < p) = true := by simp; omega
          have J3 : Hid (Wat (strL s) s.size (p + 1) (p + 1) (O ++ [s.extract q p])) := by
            unfold endW at J2
            rw [if_pos hqp] at J2
            exact J2
          clear J2
          go_wp2_with (at_builtin; refine wpList_append_own _ rfl (.tmp 37) (.tmp 42) 59 rfl w.heap.size 9 i9 (.string ⟨#[]⟩) 1 16 Tryd.underlying59 hi9 hz0 hz1 hz2 rfl (by decide) u O.length (O.map .string) rfl (K.out.1.1.alloc _) ⟨y.heap.size, 0, none⟩ 1 1 [.string (s.extract q p)] rfl rfl (one_str y _) (by simp [Value.oneCell']) ?_ ?_ ?_ ?_; (have := K.out.2; have := hs'.out; have := J.out.2.1; unfold maxLen; omega); (have := K.out.2; have := hs'.out; have := J.out.2.1; omega); (have := K.out.1.2.size; simp; omega); intro v' w' ho hg _; have K2 : Hid (KT w v' (O ++ [s.extract q p]) w' ∧ (O ++ [s.extract q p]).length ≤ p + 1) := ⟨K.out.1.add ho hg, by have := K.out.2; simp; omega⟩; clear ho hg)
          go_roundw
          case rel => exact ⟨p + 1, p + 1, _, _, _, rfl, rfl, by simp, by simp, J3, K2⟩
          case measure => have := hpe'.out; simp [intOf]; omega
        · have fq : decide (q < p) = false := by simp; omega
          have J3 : Hid (Wat (strL s) s.size (p + 1) (p + 1) O) := by
            unfold endW at J2
            rw [if_neg hqp] at J2
            exact J2
          clear J2
          go_wp2
          go_roundw
          case rel => exact ⟨p + 1, p + 1, _, _, _, rfl, rfl, by simp, by simp, J3, ⟨K.out.1, by have := K.out.2; omega⟩⟩
          case measure => have := hpe'.out; simp [intOf]; omega
      · have hpx : p = s.size + 1 := by have := J.out.2.1; omega
        have fin : Hid (O.map strL = wordsG (strL s) []) := (J.out.2.2.2 hpx).symm
        have hpl : ¬ p ≤ s.size := by omega
        have hpx' : Hid (p = s.size + 1) := hpx
        clear hlt hpe hpx
        go_wp2
        go_ret
        exact ⟨_, _, rfl, K.out.1, fin.out, by have := K.out.2; have := hpx'.out; omega⟩
end Go.Proofs.YtmaedkbmjbggpaaDoor
/- A line's label, by the document. -/
namespace Go.Proofs.YtmaedkbmjbggpaaDoor
open Go Go.RowKit
set_option linter.unusedVariables false
set_option maxHeartbeats 3000000
set_option maxRecDepth 20000

def z6 : Ri := ⟨0, ⟨#[]⟩, 0, ⟨#[]⟩, 0, none, 0, 0⟩
theorem i6_one (r : Ri) : (i6 r).all (·.oneCell') = true := by simp [i6, Value.oneCell']
theorem built0 : Tryd.prog.built 39 [] = some (i6 z6) := by kernel_rfl
def labR (n : ByteArray) : Ri := ⟨1, n, 0, ⟨#[]⟩, 0, none, 0, 0⟩
theorem built_lab (n : ByteArray) : Tryd.prog.built 39 [(0, .int .u8 1), (1, .string n)] = some (i6 (labR n)) := by kernel_rfl
theorem mayI_lab (n : ByteArray) : mayI (labR n) = isNm n := by
  unfold mayI labR
  simp
  intro _
  rfl
/-- What a label's line says, by its first word. -/
def labOk (x : ByteArray) : Bool := decide ((strL x).getLast? = some 58) && isNm (x.extract 0 (x.size - 1))

theorem rlabel_more (w : World) (sp : Option Addr) (n cap : Nat) (x : ByteArray) (hx : Hid (0 < x.size)) (h0 : Hid (∃ g, sp = some ⟨g, 0, none⟩ ∧ w.cell? ⟨g, 0, none⟩ = some (.string x))) (hn : 1 < n) (hn2 : n ≤ 1000001) : Calls Tryd.prog 57 #[.slice sp n cap] w fun e w' => e = .returned (.tuple #[.agg (i6 z6), .bool false]) ∧ Below w.heap.size w w' := by
  have K1 : Hid (Fm w [(w.heap.size, i6 z6, 39)] (w.alloc (.cells #[.int .u8 0, .string ⟨#[]⟩, .int .i64 0, .string ⟨#[]⟩, .int .u8 0, .slice none 0 0] 39))) := Fm.one w _ _
  obtain ⟨g, rfl, hc⟩ := h0.out
  have ij := fun v => idxT g n cap 0 (by omega) v
  have ni : (1 : Int) < n := by omega
  have q1 : ((n : Int) != 1) = true := by rw [bne_iff_ne]; omega
  have c0 : (w.alloc (.cells #[.int .u8 0, .string ⟨#[]⟩, .int .i64 0, .string ⟨#[]⟩, .int .u8 0, .slice none 0 0] 39)).cell? ⟨g, 0, none⟩ = some (.string x) := (K1.out.low.cell (p := ⟨g, 0, none⟩) (World.block_lt_of_cell? w _ hc)).trans hc
  replace hc : Hid _ := hc
  clear hn hn2
  go_enter Tryd.func57, Tryd.ntmps57
  go_wp2_with (first
    | ((with_reducible refine at_bu #[] [] (i6 z6) ?_ ?_ ?_ built0 ?_); kernel_rfl; rfl; rfl)
    | ((with_reducible refine at_st rt6 w.heap.size (i6 z6) (i6 z6) ?_ ?_ ?_ ?_ (.tmp 2) (.tmp 21) ?_ ?_ ?_ ?_ ?_); exact K1.out.bx 0 _ _ _ rfl; rfl; rfl; exact i6_one _; rfl; rfl; rfl; rfl; intro y2 hw2; have K2 : Hid (Fm w [(w.heap.size, i6 z6, 39)] y2) := K1.out.put 0 _ _ _ _ rfl hw2.out))
  exact ret_row2 rt6 rfl rfl rfl (K2.out.bx 0 _ _ _ rfl) rfl rfl ⟨rfl, K2.out.low⟩
theorem rlabel_one (w : World) (sp : Option Addr) (cap : Nat) (x : ByteArray) (hx : 0 < x.size) (hx2 : x.size ≤ 1000000) (h0 : Hid (∃ g, sp = some ⟨g, 0, none⟩ ∧ w.cell? ⟨g, 0, none⟩ = some (.string x))) (hl : x[x.size - 1]'(by omega) ≠ 58) : Calls Tryd.prog 57 #[.slice sp 1 cap] w fun e w' => e = .returned (.tuple #[.agg (i6 z6), .bool false]) ∧ Below w.heap.size w w' := by
  have K1 : Hid (Fm w [(w.heap.size, i6 z6, 39)] (w.alloc (.cells #[.int .u8 0, .string ⟨#[]⟩, .int .i64 0, .string ⟨#[]⟩, .int .u8 0, .slice none 0 0] 39))) := Fm.one w _ _
  obtain ⟨g, rfl, hc⟩ := h0.out
  have ij := fun v => idxT g 1 cap 0 (by omega) v
  have c0 : (w.alloc (.cells #[.int .u8 0, .string ⟨#[]⟩, .int .i64 0, .string ⟨#[]⟩, .int .u8 0, .slice none 0 0] 39)).cell? ⟨g, 0, none⟩ = some (.string x) := (K1.out.low.cell (p := ⟨g, 0, none⟩) (World.block_lt_of_cell? w _ hc)).trans hc
  replace hc : Hid _ := hc
  have x1 : (1 : Int) ≤ x.size := by omega
  have x2 : (x.size : Int) ≤ 1000000 := by omega
  have x3 : ((x.size : Int) - 1).toNat = x.size - 1 := by omega
  have x4 : (x.size : Int) - 1 < x.size := by omega
  have x5 : 0 ≤ (x.size : Int) - 1 := by omega
  have l1 : (((x[x.size - 1]'(by omega)).toNat : Int) != 58) = true := by
    rw [bne_iff_ne]
    intro e
    exact hl (UInt8.toNat_inj.1 (by show (x[x.size - 1]'(by omega)).toNat = 58; omega))
  go_enter Tryd.func57, Tryd.ntmps57
  go_wp2_with (first
    | ((with_reducible refine at_bu #[] [] (i6 z6) ?_ ?_ ?_ built0 ?_); kernel_rfl; rfl; rfl)
    | ((with_reducible refine at_st rt6 w.heap.size (i6 z6) (i6 z6) ?_ ?_ ?_ ?_ (.tmp 2) (.tmp 21) ?_ ?_ ?_ ?_ ?_); exact K1.out.bx 0 _ _ _ rfl; rfl; rfl; exact i6_one _; rfl; rfl; rfl; rfl; intro y2 hw2; have K2 : Hid (Fm w [(w.heap.size, i6 z6, 39)] y2) := K1.out.put 0 _ _ _ _ rfl hw2.out))
  exact ret_row2 rt6 rfl rfl rfl (K2.out.bx 0 _ _ _ rfl) rfl rfl ⟨rfl, K2.out.low⟩
theorem rlabel_yes (w : World) (sp : Option Addr) (cap : Nat) (x : ByteArray) (hx : 0 < x.size) (hx2 : x.size ≤ 1000000) (h0 : Hid (∃ g, sp = some ⟨g, 0, none⟩ ∧ w.cell? ⟨g, 0, none⟩ = some (.string x))) (hl : x[x.size - 1]'(by omega) = 58) : Calls Tryd.prog 57 #[.slice sp 1 cap] w fun e w' => e = .returned (.tuple #[.agg (i6 (labR (x.extract 0 (x.size - 1)))), .bool (isNm (x.extract 0 (x.size - 1)))]) ∧ Below w.heap.size w w' := by
  have K1 : Hid (Fm w [(w.heap.size, i6 z6, 39)] (w.alloc (.cells #[.int .u8 0, .string ⟨#[]⟩, .int .i64 0, .string ⟨#[]⟩, .int .u8 0, .slice none 0 0] 39))) := Fm.one w _ _
  have K3 : Hid (Fm w [(w.heap.size, i6 z6, 39), (w.heap.size + 1, i6 (labR (x.extract 0 (x.size - 1))), 39)] ((w.alloc (.cells #[.int .u8 0, .string ⟨#[]⟩, .int .i64 0, .string ⟨#[]⟩, .int .u8 0, .slice none 0 0] 39)).alloc (.cells #[.int .u8 1, .string (x.extract 0 (x.size - 1)), .int .i64 0, .string ⟨#[]⟩, .int .u8 0, .slice none 0 0] 39))) := Fm.two w _ _ _ _
  have hM := fun v => rmayI_any v (labR (x.extract 0 (x.size - 1)))
  simp only [mayI_lab] at hM
  obtain ⟨g, rfl, hc⟩ := h0.out
  have ij := fun v => idxT g 1 cap 0 (by omega) v
  have c0 : (w.alloc (.cells #[.int .u8 0, .string ⟨#[]⟩, .int .i64 0, .string ⟨#[]⟩, .int .u8 0, .slice none 0 0] 39)).cell? ⟨g, 0, none⟩ = some (.string x) := (K1.out.low.cell (p := ⟨g, 0, none⟩) (World.block_lt_of_cell? w _ hc)).trans hc
  replace hc : Hid _ := hc
  have x1 : (1 : Int) ≤ x.size := by omega
  have x2 : (x.size : Int) ≤ 1000000 := by omega
  have x3 : ((x.size : Int) - 1).toNat = x.size - 1 := by omega
  have x4 : (x.size : Int) - 1 < x.size := by omega
  have x5 : 0 ≤ (x.size : Int) - 1 := by omega
  have x6 : (x.size : Int) - 1 ≤ x.size := by omega
  have l1 : (((x[x.size - 1]'(by omega)).toNat : Int) != 58) = false := by
    rw [bne_eq_false_iff_eq, hl]
    rfl
  replace hl : Hid _ := hl
  go_enter Tryd.func57, Tryd.ntmps57
  go_wp2_with (first
    | ((with_reducible refine at_load rt6 (w.heap.size + 1) (i6 (labR (x.extract 0 (x.size - 1)))) ?_ ?_ (.tmp 5) ?_ ?_ ?_ ?_); (first | exact K3.out.bx 1 _ _ _ rfl | exact K4.out.bx 1 _ _ _ rfl); rfl; rfl; rfl; rfl)
    | (go_at_call 21; refine (hM _).mono ?_; rintro e y2 ⟨rfl, h2⟩; have K4 : Hid (Fm w [(w.heap.size, i6 z6, 39), (w.heap.size + 1, i6 (labR (x.extract 0 (x.size - 1))), 39)] y2) := K3.out.below h2; clear h2)
    | ((with_reducible refine at_st rt6 w.heap.size (i6 z6) (i6 (labR (x.extract 0 (x.size - 1)))) ?_ ?_ ?_ ?_ (.tmp 2) (.tmp 30) ?_ ?_ ?_ ?_ ?_); exact K4.out.bx 0 _ _ _ rfl; rfl; rfl; exact i6_one _; rfl; rfl; rfl; rfl; intro y5 hw5; have K5 : Hid (Fm w [(w.heap.size, i6 (labR (x.extract 0 (x.size - 1))), 39), (w.heap.size + 1, i6 (labR (x.extract 0 (x.size - 1))), 39)] y5) := K4.out.put 0 _ _ _ _ rfl hw5.out))
  exact ret_row2 rt6 rfl rfl rfl (K5.out.bx 0 _ _ _ rfl) rfl rfl ⟨rfl, K5.out.low⟩
end Go.Proofs.YtmaedkbmjbggpaaDoor
/- An instruction's line of three words, by the document. -/
namespace Go.Proofs.YtmaedkbmjbggpaaDoor
open Go Go.RowKit
set_option linter.unusedVariables false
set_option maxHeartbeats 3000000
set_option maxRecDepth 20000

def ordR (n l : ByteArray) (a p : Int) : Ri := ⟨2, n, a, l, p, none, 0, 0⟩
theorem rord_to (w : World) (sp : Option Addr) (cap : Nat) (x0 x1 x2 : ByteArray) (h0 : Hid (∃ g, sp = some ⟨g, 0, none⟩ ∧ w.cell? ⟨g, 0, none⟩ = some (.string x0) ∧ w.cell? ⟨g, 1, none⟩ = some (.string x1) ∧ w.cell? ⟨g, 2, none⟩ = some (.string x2))) (hw : x1 = ⟨#[116, 111]⟩) : Calls Tryd.prog 60 #[.slice sp 3 cap] w fun e w' => e = .returned (.tuple #[.agg (i6 (ordR x0 x2 0 1)), .bool (mayI (ordR x0 x2 0 1))]) ∧ Below w.heap.size w w' := by
  have K3 : Hid (Fm w [(w.heap.size, i6 z6, 39), (w.heap.size + 1, i6 (ordR x0 x2 0 1), 39)] ((w.alloc (.cells #[.int .u8 0, .string ⟨#[]⟩, .int .i64 0, .string ⟨#[]⟩, .int .u8 0, .slice none 0 0] 39)).alloc (.cells #[.int .u8 2, .string x0, .int .i64 0, .string x2, .int .u8 1, .slice none 0 0] 39))) := Fm.two w _ _ _ _
  have hM := fun v => rmayI_any v (ordR x0 x2 0 1)
  generalize mayI (ordR x0 x2 0 1) = ok at hM
  obtain ⟨g, rfl, hc0, hc1, hc2⟩ := h0.out
  have i0 := fun v => idxT g 3 cap 0 (by omega) v
  have i1 := fun v => idxT g 3 cap 1 (by omega) v
  have i2 := fun v => idxT g 3 cap 2 (by omega) v
  have lg := World.block_lt_of_cell? w _ hc0
  have q1 : (x1.toList == [116, 111]) = true := by rw [str_is]; exact decide_eq_true hw
  go_enter Tryd.func60, Tryd.ntmps60
  go_wp2_with (first
    | ((with_reducible refine at_load rt6 (w.heap.size + 1) (i6 (ordR x0 x2 0 1)) ?_ ?_ (.tmp 4) ?_ ?_ ?_ ?_); (first | exact K3.out.bx 1 _ _ _ rfl | exact K4.out.bx 1 _ _ _ rfl); rfl; rfl; rfl; rfl)
    | (go_at_call 21; refine (hM _).mono ?_; rintro e y2 ⟨rfl, h2⟩; have K4 : Hid (Fm w [(w.heap.size, i6 z6, 39), (w.heap.size + 1, i6 (ordR x0 x2 0 1), 39)] y2) := K3.out.below h2; clear h2)
    | ((with_reducible refine at_st rt6 w.heap.size (i6 z6) (i6 (ordR x0 x2 0 1)) ?_ ?_ ?_ ?_ (.tmp 2) (.tmp 35) ?_ ?_ ?_ ?_ ?_); exact K4.out.bx 0 _ _ _ rfl; rfl; rfl; exact i6_one _; rfl; rfl; rfl; rfl; intro y5 hw5; have K5 : Hid (Fm w [(w.heap.size, i6 (ordR x0 x2 0 1), 39), (w.heap.size + 1, i6 (ordR x0 x2 0 1), 39)] y5) := K4.out.put 0 _ _ _ _ rfl hw5.out))
  exact ret_row2 rt6 rfl rfl rfl (K5.out.bx 0 _ _ _ rfl) rfl rfl ⟨rfl, K5.out.low⟩
theorem rord_high (w : World) (sp : Option Addr) (cap : Nat) (x0 x1 x2 : ByteArray) (h0 : Hid (∃ g, sp = some ⟨g, 0, none⟩ ∧ w.cell? ⟨g, 0, none⟩ = some (.string x0) ∧ w.cell? ⟨g, 1, none⟩ = some (.string x1) ∧ w.cell? ⟨g, 2, none⟩ = some (.string x2))) (hw : x1 = ⟨#[104, 105, 103, 104]⟩) : Calls Tryd.prog 60 #[.slice sp 3 cap] w fun e w' => e = .returned (.tuple #[.agg (i6 (ordR x0 x2 0 2)), .bool (mayI (ordR x0 x2 0 2))]) ∧ Below w.heap.size w w' := by
  have K3 : Hid (Fm w [(w.heap.size, i6 z6, 39), (w.heap.size + 1, i6 (ordR x0 x2 0 2), 39)] ((w.alloc (.cells #[.int .u8 0, .string ⟨#[]⟩, .int .i64 0, .string ⟨#[]⟩, .int .u8 0, .slice none 0 0] 39)).alloc (.cells #[.int .u8 2, .string x0, .int .i64 0, .string x2, .int .u8 2, .slice none 0 0] 39))) := Fm.two w _ _ _ _
  have hM := fun v => rmayI_any v (ordR x0 x2 0 2)
  generalize mayI (ordR x0 x2 0 2) = ok at hM
  obtain ⟨g, rfl, hc0, hc1, hc2⟩ := h0.out
  have i0 := fun v => idxT g 3 cap 0 (by omega) v
  have i1 := fun v => idxT g 3 cap 1 (by omega) v
  have i2 := fun v => idxT g 3 cap 2 (by omega) v
  have lg := World.block_lt_of_cell? w _ hc0
  have q1 : (x1.toList == [116, 111]) = false := by rw [str_is]; exact decide_eq_false (by rw [hw]; decide)
  have q2 : (x1.toList == [104, 105, 103, 104]) = true := by rw [str_is]; exact decide_eq_true hw
  go_enter Tryd.func60, Tryd.ntmps60
  go_wp2_with (first
    | ((with_reducible refine at_load rt6 (w.heap.size + 1) (i6 (ordR x0 x2 0 2)) ?_ ?_ (.tmp 4) ?_ ?_ ?_ ?_); (first | exact K3.out.bx 1 _ _ _ rfl | exact K4.out.bx 1 _ _ _ rfl); rfl; rfl; rfl; rfl)
    | (go_at_call 21; refine (hM _).mono ?_; rintro e y2 ⟨rfl, h2⟩; have K4 : Hid (Fm w [(w.heap.size, i6 z6, 39), (w.heap.size + 1, i6 (ordR x0 x2 0 2), 39)] y2) := K3.out.below h2; clear h2)
    | ((with_reducible refine at_st rt6 w.heap.size (i6 z6) (i6 (ordR x0 x2 0 2)) ?_ ?_ ?_ ?_ (.tmp 2) (.tmp 35) ?_ ?_ ?_ ?_ ?_); exact K4.out.bx 0 _ _ _ rfl; rfl; rfl; exact i6_one _; rfl; rfl; rfl; rfl; intro y5 hw5; have K5 : Hid (Fm w [(w.heap.size, i6 (ordR x0 x2 0 2), 39), (w.heap.size + 1, i6 (ordR x0 x2 0 2), 39)] y5) := K4.out.put 0 _ _ _ _ rfl hw5.out))
  exact ret_row2 rt6 rfl rfl rfl (K5.out.bx 0 _ _ _ rfl) rfl rfl ⟨rfl, K5.out.low⟩
theorem rord_low (w : World) (sp : Option Addr) (cap : Nat) (x0 x1 x2 : ByteArray) (h0 : Hid (∃ g, sp = some ⟨g, 0, none⟩ ∧ w.cell? ⟨g, 0, none⟩ = some (.string x0) ∧ w.cell? ⟨g, 1, none⟩ = some (.string x1) ∧ w.cell? ⟨g, 2, none⟩ = some (.string x2))) (hw : x1 = ⟨#[108, 111, 119]⟩) : Calls Tryd.prog 60 #[.slice sp 3 cap] w fun e w' => e = .returned (.tuple #[.agg (i6 (ordR x0 x2 0 3)), .bool (mayI (ordR x0 x2 0 3))]) ∧ Below w.heap.size w w' := by
  have K3 : Hid (Fm w [(w.heap.size, i6 z6, 39), (w.heap.size + 1, i6 (ordR x0 x2 0 3), 39)] ((w.alloc (.cells #[.int .u8 0, .string ⟨#[]⟩, .int .i64 0, .string ⟨#[]⟩, .int .u8 0, .slice none 0 0] 39)).alloc (.cells #[.int .u8 2, .string x0, .int .i64 0, .string x2, .int .u8 3, .slice none 0 0] 39))) := Fm.two w _ _ _ _
  have hM := fun v => rmayI_any v (ordR x0 x2 0 3)
  generalize mayI (ordR x0 x2 0 3) = ok at hM
  obtain ⟨g, rfl, hc0, hc1, hc2⟩ := h0.out
  have i0 := fun v => idxT g 3 cap 0 (by omega) v
  have i1 := fun v => idxT g 3 cap 1 (by omega) v
  have i2 := fun v => idxT g 3 cap 2 (by omega) v
  have lg := World.block_lt_of_cell? w _ hc0
  have q1 : (x1.toList == [116, 111]) = false := by rw [str_is]; exact decide_eq_false (by rw [hw]; decide)
  have q2 : (x1.toList == [104, 105, 103, 104]) = false := by rw [str_is]; exact decide_eq_false (by rw [hw]; decide)
  have q3 : (x1.toList == [108, 111, 119]) = true := by rw [str_is]; exact decide_eq_true hw
  go_enter Tryd.func60, Tryd.ntmps60
  go_wp2_with (first
    | ((with_reducible refine at_load rt6 (w.heap.size + 1) (i6 (ordR x0 x2 0 3)) ?_ ?_ (.tmp 4) ?_ ?_ ?_ ?_); (first | exact K3.out.bx 1 _ _ _ rfl | exact K4.out.bx 1 _ _ _ rfl); rfl; rfl; rfl; rfl)
    | (go_at_call 21; refine (hM _).mono ?_; rintro e y2 ⟨rfl, h2⟩; have K4 : Hid (Fm w [(w.heap.size, i6 z6, 39), (w.heap.size + 1, i6 (ordR x0 x2 0 3), 39)] y2) := K3.out.below h2; clear h2)
    | ((with_reducible refine at_st rt6 w.heap.size (i6 z6) (i6 (ordR x0 x2 0 3)) ?_ ?_ ?_ ?_ (.tmp 2) (.tmp 35) ?_ ?_ ?_ ?_ ?_); exact K4.out.bx 0 _ _ _ rfl; rfl; rfl; exact i6_one _; rfl; rfl; rfl; rfl; intro y5 hw5; have K5 : Hid (Fm w [(w.heap.size, i6 (ordR x0 x2 0 3), 39), (w.heap.size + 1, i6 (ordR x0 x2 0 3), 39)] y5) := K4.out.put 0 _ _ _ _ rfl hw5.out))
  exact ret_row2 rt6 rfl rfl rfl (K5.out.bx 0 _ _ _ rfl) rfl rfl ⟨rfl, K5.out.low⟩
theorem rord_other (w : World) (sp : Option Addr) (cap : Nat) (x0 x1 : ByteArray) (h0 : Hid (∃ g, sp = some ⟨g, 0, none⟩ ∧ w.cell? ⟨g, 0, none⟩ = some (.string x0) ∧ w.cell? ⟨g, 1, none⟩ = some (.string x1))) (hw : ¬ x1 = ⟨#[116, 111]⟩ ∧ ¬ x1 = ⟨#[104, 105, 103, 104]⟩ ∧ ¬ x1 = ⟨#[108, 111, 119]⟩) : Calls Tryd.prog 60 #[.slice sp 3 cap] w fun e w' => e = .returned (.tuple #[.agg (i6 z6), .bool false]) ∧ Below w.heap.size w w' := by
  have K3 : Hid (Fm w [(w.heap.size, i6 z6, 39), (w.heap.size + 1, i6 (ordR x0 ⟨#[]⟩ 0 0), 39)] ((w.alloc (.cells #[.int .u8 0, .string ⟨#[]⟩, .int .i64 0, .string ⟨#[]⟩, .int .u8 0, .slice none 0 0] 39)).alloc (.cells #[.int .u8 2, .string x0, .int .i64 0, .string ⟨#[]⟩, .int .u8 0, .slice none 0 0] 39))) := Fm.two w _ _ _ _
  obtain ⟨g, rfl, hc0, hc1⟩ := h0.out
  have i0 := fun v => idxT g 3 cap 0 (by omega) v
  have i1 := fun v => idxT g 3 cap 1 (by omega) v
  have lg := World.block_lt_of_cell? w _ hc0
  have q1 : (x1.toList == [116, 111]) = false := by rw [str_is]; exact decide_eq_false hw.1
  have q2 : (x1.toList == [104, 105, 103, 104]) = false := by rw [str_is]; exact decide_eq_false hw.2.1
  have q3 : (x1.toList == [108, 111, 119]) = false := by rw [str_is]; exact decide_eq_false hw.2.2
  replace hw : Hid _ := hw
  go_enter Tryd.func60, Tryd.ntmps60
  go_wp2_with (first
    | ((with_reducible refine at_st rt6 w.heap.size (i6 z6) (i6 z6) ?_ ?_ ?_ ?_ (.tmp 2) (.tmp 19) ?_ ?_ ?_ ?_ ?_); exact K3.out.bx 0 _ _ _ rfl; rfl; rfl; exact i6_one _; rfl; rfl; rfl; rfl; intro y5 hw5; have K5 : Hid (Fm w [(w.heap.size, i6 z6, 39), (w.heap.size + 1, i6 (ordR x0 ⟨#[]⟩ 0 0), 39)] y5) := K3.out.put 0 _ _ _ _ rfl hw5.out))
  exact ret_row2 rt6 rfl rfl rfl (K5.out.bx 0 _ _ _ rfl) rfl rfl ⟨rfl, K5.out.low⟩
theorem rord_many (w : World) (sp : Option Addr) (n cap : Nat) (x0 : ByteArray) (h0 : Hid (∃ g, sp = some ⟨g, 0, none⟩ ∧ w.cell? ⟨g, 0, none⟩ = some (.string x0))) (hn : 3 < n) (hn2 : n ≤ 1000001) : Calls Tryd.prog 60 #[.slice sp n cap] w fun e w' => e = .returned (.tuple #[.agg (i6 z6), .bool false]) ∧ Below w.heap.size w w' := by
  have K3 : Hid (Fm w [(w.heap.size, i6 z6, 39), (w.heap.size + 1, i6 (ordR x0 ⟨#[]⟩ 0 0), 39)] ((w.alloc (.cells #[.int .u8 0, .string ⟨#[]⟩, .int .i64 0, .string ⟨#[]⟩, .int .u8 0, .slice none 0 0] 39)).alloc (.cells #[.int .u8 2, .string x0, .int .i64 0, .string ⟨#[]⟩, .int .u8 0, .slice none 0 0] 39))) := Fm.two w _ _ _ _
  obtain ⟨g, rfl, hc0⟩ := h0.out
  have i0 := fun v => idxT g n cap 0 (by omega) v
  have lg := World.block_lt_of_cell? w _ hc0
  have q1 : ((n : Int) == 3) = false := by rw [beq_eq_false_iff_ne]; omega
  have q2 : (2 : Int) < n := by omega
  go_enter Tryd.func60, Tryd.ntmps60
  go_wp2_with (first
    | ((with_reducible refine at_st rt6 w.heap.size (i6 z6) (i6 z6) ?_ ?_ ?_ ?_ (.tmp 2) (.tmp 40) ?_ ?_ ?_ ?_ ?_); exact K3.out.bx 0 _ _ _ rfl; rfl; rfl; exact i6_one _; rfl; rfl; rfl; rfl; intro y5 hw5; have K5 : Hid (Fm w [(w.heap.size, i6 z6, 39), (w.heap.size + 1, i6 (ordR x0 ⟨#[]⟩ 0 0), 39)] y5) := K3.out.put 0 _ _ _ _ rfl hw5.out))
  exact ret_row2 rt6 rfl rfl rfl (K5.out.bx 0 _ _ _ rfl) rfl rfl ⟨rfl, K5.out.low⟩
end Go.Proofs.YtmaedkbmjbggpaaDoor
/- An instruction's line of one word or two, by the document. -/
namespace Go.Proofs.YtmaedkbmjbggpaaDoor
open Go Go.RowKit
set_option linter.unusedVariables false
set_option maxHeartbeats 3000000
set_option maxRecDepth 20000

theorem rord1_no (w : World) (sp : Option Addr) (cap : Nat) (x0 : ByteArray) (h0 : Hid (∃ g, sp = some ⟨g, 0, none⟩ ∧ w.cell? ⟨g, 0, none⟩ = some (.string x0))) (hs : x0.size ≤ 1000000) (hw : ¬ parseE x0 = 0) : Calls Tryd.prog 60 #[.slice sp 1 cap] w fun e w' => e = .returned (.tuple #[.agg (i6 z6), .bool false]) ∧ Below w.heap.size w w' := by
  have K3 : Hid (Fm w [(w.heap.size, i6 z6, 39), (w.heap.size + 1, i6 (ordR x0 ⟨#[]⟩ 0 0), 39)] ((w.alloc (.cells #[.int .u8 0, .string ⟨#[]⟩, .int .i64 0, .string ⟨#[]⟩, .int .u8 0, .slice none 0 0] 39)).alloc (.cells #[.int .u8 2, .string x0, .int .i64 0, .string ⟨#[]⟩, .int .u8 0, .slice none 0 0] 39))) := Fm.two w _ _ _ _
  have hP := fun v => rparse_any x0 (by omega) v
  obtain ⟨E, hE⟩ : ∃ e, parseE x0 = e := ⟨_, rfl⟩
  obtain ⟨N, hN⟩ : ∃ e, parseN x0 = e := ⟨_, rfl⟩
  obtain ⟨A, hA⟩ : ∃ e, parseA x0 = e := ⟨_, rfl⟩
  rw [hE] at hw
  simp only [hE, hN, hA, retI] at hP ⊢
  clear hE hN hA
  have qe : (E != 0) = true := by rw [bne_iff_ne]; exact hw
  obtain ⟨g, rfl, hc0⟩ := h0.out
  have i0 := fun v => idxT g 1 cap 0 (by omega) v
  have lg := World.block_lt_of_cell? w _ hc0
  clear hs
  replace hw : Hid _ := hw
  go_enter Tryd.func60, Tryd.ntmps60
  go_wp2_with (first
    | (go_at_call 83; refine (hP _).mono ?_; rintro e y2 ⟨rfl, h2⟩; have K4 : Hid (Fm w [(w.heap.size, i6 z6, 39), (w.heap.size + 1, i6 (ordR x0 ⟨#[]⟩ 0 0), 39), (y2.heap.size, #[.string N, .int .i64 A], 71)] (y2.alloc (.cells #[.string N, .int .i64 A] 71))) := (K3.out.below h2).new _ _; clear h2)
    | ((with_reducible refine at_st rt6 w.heap.size (i6 z6) (i6 z6) ?_ ?_ ?_ ?_ (.tmp 2) (.tmp 60) ?_ ?_ ?_ ?_ ?_); exact K4.out.bx 0 _ _ _ rfl; rfl; rfl; exact i6_one _; rfl; rfl; rfl; rfl; intro y5 hw5; have K5 : Hid (Fm w [(w.heap.size, i6 z6, 39), (w.heap.size + 1, i6 (ordR x0 ⟨#[]⟩ 0 0), 39), (y2.heap.size, #[.string N, .int .i64 A], 71)] y5) := K4.out.put 0 _ _ _ _ rfl hw5.out))
  exact ret_row2 rt6 rfl rfl rfl (K5.out.bx 0 _ _ _ rfl) rfl rfl ⟨rfl, K5.out.low⟩
theorem rord1_yes (w : World) (sp : Option Addr) (cap : Nat) (x0 : ByteArray) (h0 : Hid (∃ g, sp = some ⟨g, 0, none⟩ ∧ w.cell? ⟨g, 0, none⟩ = some (.string x0))) (hs : x0.size ≤ 1000000) (hw : parseE x0 = 0) : Calls Tryd.prog 60 #[.slice sp 1 cap] w fun e w' => e = .returned (.tuple #[.agg (i6 (ordR x0 ⟨#[]⟩ (parseA x0) 0)), .bool true]) ∧ Below w.heap.size w w' := by
  have K3 : Hid (Fm w [(w.heap.size, i6 z6, 39), (w.heap.size + 1, i6 (ordR x0 ⟨#[]⟩ 0 0), 39)] ((w.alloc (.cells #[.int .u8 0, .string ⟨#[]⟩, .int .i64 0, .string ⟨#[]⟩, .int .u8 0, .slice none 0 0] 39)).alloc (.cells #[.int .u8 2, .string x0, .int .i64 0, .string ⟨#[]⟩, .int .u8 0, .slice none 0 0] 39))) := Fm.two w _ _ _ _
  have hP := fun v => rparse_any x0 (by omega) v
  obtain ⟨E, hE⟩ : ∃ e, parseE x0 = e := ⟨_, rfl⟩
  obtain ⟨N, hN⟩ : ∃ e, parseN x0 = e := ⟨_, rfl⟩
  obtain ⟨A, hA⟩ : ∃ e, parseA x0 = e := ⟨_, rfl⟩
  rw [hE] at hw
  simp only [hE, hN, hA, retI] at hP ⊢
  clear hE hN hA
  have qe : (E != 0) = false := by rw [bne_eq_false_iff_eq]; exact hw
  obtain ⟨g, rfl, hc0⟩ := h0.out
  have i0 := fun v => idxT g 1 cap 0 (by omega) v
  have lg := World.block_lt_of_cell? w _ hc0
  clear hs
  replace hw : Hid _ := hw
  go_enter Tryd.func60, Tryd.ntmps60
  go_wp2_with (first
    | (go_at_call 83; refine (hP _).mono ?_; rintro e y2 ⟨rfl, h2⟩; have K4 : Hid (Fm w [(w.heap.size, i6 z6, 39), (w.heap.size + 1, i6 (ordR x0 ⟨#[]⟩ 0 0), 39), (y2.heap.size, #[.string N, .int .i64 A], 71)] (y2.alloc (.cells #[.string N, .int .i64 A] 71))) := (K3.out.below h2).new _ _; clear h2; have g1 := (K4.out.bx 2 _ _ _ rfl).c 1 (.int .i64 A) rfl; have z1 := (K4.out.bx 1 _ _ _ rfl).fz 2; have z2 := (K4.out.bx 1 _ _ _ rfl).c 2 (.int .i64 0) rfl; have K6 : Hid (Fm w [(w.heap.size, i6 z6, 39), (w.heap.size + 1, i6 (ordR x0 ⟨#[]⟩ A 0), 39), (y2.heap.size, #[.string N, .int .i64 A], 71)] ((y2.alloc (.cells #[.string N, .int .i64 A] 71)).setCell ⟨w.heap.size + 1, 2, none⟩ (.int .i64 A))) := K4.out.setCell 1 _ _ _ _ rfl 2 _ rfl)
    | ((with_reducible refine at_load rt6 (w.heap.size + 1) (i6 (ordR x0 ⟨#[]⟩ A 0)) ?_ ?_ (.tmp 4) ?_ ?_ ?_ ?_); exact K6.out.bx 1 _ _ _ rfl; rfl; rfl; rfl; rfl)
    | ((with_reducible refine at_st rt6 w.heap.size (i6 z6) (i6 (ordR x0 ⟨#[]⟩ A 0)) ?_ ?_ ?_ ?_ (.tmp 2) (.tmp 64) ?_ ?_ ?_ ?_ ?_); exact K6.out.bx 0 _ _ _ rfl; rfl; rfl; exact i6_one _; rfl; rfl; rfl; rfl; intro y5 hw5; have K5 : Hid (Fm w [(w.heap.size, i6 (ordR x0 ⟨#[]⟩ A 0), 39), (w.heap.size + 1, i6 (ordR x0 ⟨#[]⟩ A 0), 39), (y2.heap.size, #[.string N, .int .i64 A], 71)] y5) := K6.out.put 0 _ _ _ _ rfl hw5.out))
  exact ret_row2 rt6 rfl rfl rfl (K5.out.bx 0 _ _ _ rfl) rfl rfl ⟨rfl, K5.out.low⟩
theorem rord2_no (w : World) (sp : Option Addr) (cap : Nat) (x0 x1 : ByteArray) (h0 : Hid (∃ g, sp = some ⟨g, 0, none⟩ ∧ w.cell? ⟨g, 0, none⟩ = some (.string x0) ∧ w.cell? ⟨g, 1, none⟩ = some (.string x1))) (hs : x0.size ≤ 1000000 ∧ x1.size ≤ 1000000) (hw : ¬ parseE (x0 ++ ⟨#[32]⟩ ++ x1) = 0) : Calls Tryd.prog 60 #[.slice sp 2 cap] w fun e w' => e = .returned (.tuple #[.agg (i6 z6), .bool false]) ∧ Below w.heap.size w w' := by
  have K3 : Hid (Fm w [(w.heap.size, i6 z6, 39), (w.heap.size + 1, i6 (ordR x0 ⟨#[]⟩ 0 0), 39)] ((w.alloc (.cells #[.int .u8 0, .string ⟨#[]⟩, .int .i64 0, .string ⟨#[]⟩, .int .u8 0, .slice none 0 0] 39)).alloc (.cells #[.int .u8 2, .string x0, .int .i64 0, .string ⟨#[]⟩, .int .u8 0, .slice none 0 0] 39))) := Fm.two w _ _ _ _
  have hP := fun v => rparse_any (x0 ++ ⟨#[32]⟩ ++ x1) (by have e : (⟨#[32]⟩ : ByteArray).size = 1 := rfl; rw [ByteArray.size_append, ByteArray.size_append]; omega) v
  obtain ⟨E, hE⟩ : ∃ e, parseE (x0 ++ ⟨#[32]⟩ ++ x1) = e := ⟨_, rfl⟩
  obtain ⟨N, hN⟩ : ∃ e, parseN (x0 ++ ⟨#[32]⟩ ++ x1) = e := ⟨_, rfl⟩
  obtain ⟨A, hA⟩ : ∃ e, parseA (x0 ++ ⟨#[32]⟩ ++ x1) = e := ⟨_, rfl⟩
  rw [hE] at hw
  simp only [hE, hN, hA, retI] at hP ⊢
  clear hE hN hA
  have qe : (E != 0) = true := by rw [bne_iff_ne]; exact hw
  obtain ⟨g, rfl, hc0, hc1⟩ := h0.out
  have i0 := fun v => idxT g 2 cap 0 (by omega) v
  have i1 := fun v => idxT g 2 cap 1 (by omega) v
  have s0 : (x0.size : Int) ≤ 1000000 := by omega
  have s1 : (x1.size : Int) ≤ 1000000 := by omega
  have lg := World.block_lt_of_cell? w _ hc0
  clear hs
  replace hw : Hid _ := hw
  go_enter Tryd.func60, Tryd.ntmps60
  go_wp2_with (first
    | (go_at_call 83; refine (hP _).mono ?_; rintro e y2 ⟨rfl, h2⟩; have K4 : Hid (Fm w [(w.heap.size, i6 z6, 39), (w.heap.size + 1, i6 (ordR x0 ⟨#[]⟩ 0 0), 39), (y2.heap.size, #[.string N, .int .i64 A], 71)] (y2.alloc (.cells #[.string N, .int .i64 A] 71))) := (K3.out.below h2).new _ _; clear h2)
    | ((with_reducible refine at_st rt6 w.heap.size (i6 z6) (i6 z6) ?_ ?_ ?_ ?_ (.tmp 2) (.tmp 60) ?_ ?_ ?_ ?_ ?_); exact K4.out.bx 0 _ _ _ rfl; rfl; rfl; exact i6_one _; rfl; rfl; rfl; rfl; intro y5 hw5; have K5 : Hid (Fm w [(w.heap.size, i6 z6, 39), (w.heap.size + 1, i6 (ordR x0 ⟨#[]⟩ 0 0), 39), (y2.heap.size, #[.string N, .int .i64 A], 71)] y5) := K4.out.put 0 _ _ _ _ rfl hw5.out))
  exact ret_row2 rt6 rfl rfl rfl (K5.out.bx 0 _ _ _ rfl) rfl rfl ⟨rfl, K5.out.low⟩
theorem rord2_yes (w : World) (sp : Option Addr) (cap : Nat) (x0 x1 : ByteArray) (h0 : Hid (∃ g, sp = some ⟨g, 0, none⟩ ∧ w.cell? ⟨g, 0, none⟩ = some (.string x0) ∧ w.cell? ⟨g, 1, none⟩ = some (.string x1))) (hs : x0.size ≤ 1000000 ∧ x1.size ≤ 1000000) (hw : parseE (x0 ++ ⟨#[32]⟩ ++ x1) = 0) : Calls Tryd.prog 60 #[.slice sp 2 cap] w fun e w' => e = .returned (.tuple #[.agg (i6 (ordR x0 ⟨#[]⟩ (parseA (x0 ++ ⟨#[32]⟩ ++ x1)) 0)), .bool true]) ∧ Below w.heap.size w w' := by
  have K3 : Hid (Fm w [(w.heap.size, i6 z6, 39), (w.heap.size + 1, i6 (ordR x0 ⟨#[]⟩ 0 0), 39)] ((w.alloc (.cells #[.int .u8 0, .string ⟨#[]⟩, .int .i64 0, .string ⟨#[]⟩, .int .u8 0, .slice none 0 0] 39)).alloc (.cells #[.int .u8 2, .string x0, .int .i64 0, .string ⟨#[]⟩, .int .u8 0, .slice none 0 0] 39))) := Fm.two w _ _ _ _
  have hP := fun v => rparse_any (x0 ++ ⟨#[32]⟩ ++ x1) (by have e : (⟨#[32]⟩ : ByteArray).size = 1 := rfl; rw [ByteArray.size_append, ByteArray.size_append]; omega) v
  obtain ⟨E, hE⟩ : ∃ e, parseE (x0 ++ ⟨#[32]⟩ ++ x1) = e := ⟨_, rfl⟩
  obtain ⟨N, hN⟩ : ∃ e, parseN (x0 ++ ⟨#[32]⟩ ++ x1) = e := ⟨_, rfl⟩
  obtain ⟨A, hA⟩ : ∃ e, parseA (x0 ++ ⟨#[32]⟩ ++ x1) = e := ⟨_, rfl⟩
  rw [hE] at hw
  simp only [hE, hN, hA, retI] at hP ⊢
  clear hE hN hA
  have qe : (E != 0) = false := by rw [bne_eq_false_iff_eq]; exact hw
  obtain ⟨g, rfl, hc0, hc1⟩ := h0.out
  have i0 := fun v => idxT g 2 cap 0 (by omega) v
  have i1 := fun v => idxT g 2 cap 1 (by omega) v
  have s0 : (x0.size : Int) ≤ 1000000 := by omega
  have s1 : (x1.size : Int) ≤ 1000000 := by omega
  have lg := World.block_lt_of_cell? w _ hc0
  clear hs
  replace hw : Hid _ := hw
  go_enter Tryd.func60, Tryd.ntmps60
  go_wp2_with (first
    | (go_at_call 83; refine (hP _).mono ?_; rintro e y2 ⟨rfl, h2⟩; have K4 : Hid (Fm w [(w.heap.size, i6 z6, 39), (w.heap.size + 1, i6 (ordR x0 ⟨#[]⟩ 0 0), 39), (y2.heap.size, #[.string N, .int .i64 A], 71)] (y2.alloc (.cells #[.string N, .int .i64 A] 71))) := (K3.out.below h2).new _ _; clear h2; have g1 := (K4.out.bx 2 _ _ _ rfl).c 1 (.int .i64 A) rfl; have z1 := (K4.out.bx 1 _ _ _ rfl).fz 2; have z2 := (K4.out.bx 1 _ _ _ rfl).c 2 (.int .i64 0) rfl; have K6 : Hid (Fm w [(w.heap.size, i6 z6, 39), (w.heap.size + 1, i6 (ordR x0 ⟨#[]⟩ A 0), 39), (y2.heap.size, #[.string N, .int .i64 A], 71)] ((y2.alloc (.cells #[.string N, .int .i64 A] 71)).setCell ⟨w.heap.size + 1, 2, none⟩ (.int .i64 A))) := K4.out.setCell 1 _ _ _ _ rfl 2 _ rfl)
    | ((with_reducible refine at_load rt6 (w.heap.size + 1) (i6 (ordR x0 ⟨#[]⟩ A 0)) ?_ ?_ (.tmp 4) ?_ ?_ ?_ ?_); exact K6.out.bx 1 _ _ _ rfl; rfl; rfl; rfl; rfl)
    | ((with_reducible refine at_st rt6 w.heap.size (i6 z6) (i6 (ordR x0 ⟨#[]⟩ A 0)) ?_ ?_ ?_ ?_ (.tmp 2) (.tmp 64) ?_ ?_ ?_ ?_ ?_); exact K6.out.bx 0 _ _ _ rfl; rfl; rfl; exact i6_one _; rfl; rfl; rfl; rfl; intro y5 hw5; have K5 : Hid (Fm w [(w.heap.size, i6 (ordR x0 ⟨#[]⟩ A 0), 39), (w.heap.size + 1, i6 (ordR x0 ⟨#[]⟩ A 0), 39), (y2.heap.size, #[.string N, .int .i64 A], 71)] y5) := K6.out.put 0 _ _ _ _ rfl hw5.out))
  exact ret_row2 rt6 rfl rfl rfl (K5.out.bx 0 _ _ _ rfl) rfl rfl ⟨rfl, K5.out.low⟩
end Go.Proofs.YtmaedkbmjbggpaaDoor
/- A source's text read line by line, by plain mathematics. -/
namespace Go.Proofs.YtmaedkbmjbggpaaDoor
open Go Go.RowKit
set_option linter.unusedVariables false
set_option maxHeartbeats 1000000
set_option maxRecDepth 20000

/-- An item itself. -/
structure Pu where
  k : Int
  n : ByteArray
  a : Int
  l : ByteArray
  p : Int
  b : List UInt8
def Pu.ri (q : Pu) (sp : Option Addr) (cap : Nat) : Ri := ⟨q.k, q.n, q.a, q.l, q.p, sp, q.b.length, cap⟩
def pu (x : Itm) : Pu := ⟨x.1.k, x.1.n, x.1.a, x.1.l, x.1.p, x.2⟩
def mayP (q : Pu) : Bool := mayI (q.ri none 0)
def lineP (q : Pu) : ByteArray := lineI (q.ri none 0) q.b
def E0 : ByteArray := ⟨#[]⟩
theorem mayI_ri (q : Pu) (sp : Option Addr) (cap : Nat) : mayI (q.ri sp cap) = mayP q := rfl
theorem mayI_pu (x : Itm) (h : x.2.length = x.1.m) : mayI x.1 = mayP (pu x) := by
  obtain ⟨⟨k, n, a, l, p, sp, m, cap⟩, b⟩ := x
  simp only at h
  subst h
  rfl
theorem lineI_pu (x : Itm) (h : x.2.length = x.1.m) : lineI x.1 x.2 = lineP (pu x) := by
  obtain ⟨⟨k, n, a, l, p, sp, m, cap⟩, b⟩ := x
  simp only at h
  subst h
  rfl

/-- What two digits say. -/
def byteO (x : ByteArray) : Option UInt8 := if x.size = 2 ∧ numE x = 0 then some (UInt8.ofNat (numV x).toNat) else none
def dataO : List ByteArray → Option (List UInt8)
  | [] => some []
  | x :: r => match byteO x with
    | none => none
    | some b => match dataO r with
      | none => none
      | some l => some (b :: l)
def wTo : ByteArray := ⟨#[116, 111]⟩
def wHigh : ByteArray := ⟨#[104, 105, 103, 104]⟩
def wLow : ByteArray := ⟨#[108, 111, 119]⟩
def wData : ByteArray := ⟨#[100, 97, 116, 97]⟩
def wAt : ByteArray := ⟨#[97, 116]⟩
def wAddr : ByteArray := ⟨#[97, 100, 100, 114, 101, 115, 115]⟩
def partO (x : ByteArray) : Int := if x = wTo then 1 else if x = wHigh then 2 else if x = wLow then 3 else 0
/-- An instruction's words behind the first one. -/
def ordO (x0 : ByteArray) : List ByteArray → Option Pu
  | [] => if parseE x0 = 0 then some ⟨2, x0, parseA x0, E0, 0, []⟩ else none
  | [x1] => if parseE (x0 ++ ⟨#[32]⟩ ++ x1) = 0 then some ⟨2, x0, parseA (x0 ++ ⟨#[32]⟩ ++ x1), E0, 0, []⟩ else none
  | [x1, x2] => if partO x1 ≠ 0 ∧ mayP ⟨2, x0, 0, x2, partO x1, []⟩ = true then some ⟨2, x0, 0, x2, partO x1, []⟩ else none
  | _ => none
def dataP (r : List ByteArray) : Option Pu := match dataO r with
  | none => none
  | some l => if 1 ≤ l.length ∧ l.length ≤ 256 then some ⟨3, E0, 0, E0, 0, l⟩ else none
def atP : List ByteArray → Option Pu
  | [x] => if x.size = 4 ∧ numE x = 0 then some ⟨4, E0, numV x, E0, 0, []⟩ else none
  | _ => none
def addrP : List ByteArray → Option Pu
  | [x] => if isNm x = true then some ⟨5, E0, 0, x, 0, []⟩ else none
  | _ => none
def labP (x0 : ByteArray) (r : List ByteArray) : Option Pu := if r = [] ∧ labOk x0 = true then some ⟨1, x0.extract 0 (x0.size - 1), 0, E0, 0, []⟩ else none
/-- The item of a line's words. -/
def itemO (front : Bool) : List ByteArray → Option Pu
  | [] => none
  | x0 :: r => if front = true then labP x0 r else if x0 = wData then dataP r else if x0 = wAt then atP r else if x0 = wAddr then addrP r else ordO x0 r
theorem itemO_cons (front : Bool) (x0 : ByteArray) (r : List ByteArray) : itemO front (x0 :: r) = if front = true then labP x0 r else if x0 = wData then dataP r else if x0 = wAt then atP r else if x0 = wAddr then addrP r else ordO x0 r := rfl
theorem ordO_0 (x0 : ByteArray) : ordO x0 [] = if parseE x0 = 0 then some ⟨2, x0, parseA x0, E0, 0, []⟩ else none := rfl
theorem ordO_1 (x0 x1 : ByteArray) : ordO x0 [x1] = if parseE (x0 ++ ⟨#[32]⟩ ++ x1) = 0 then some ⟨2, x0, parseA (x0 ++ ⟨#[32]⟩ ++ x1), E0, 0, []⟩ else none := rfl
theorem ordO_2 (x0 x1 x2 : ByteArray) : ordO x0 [x1, x2] = if partO x1 ≠ 0 ∧ mayP ⟨2, x0, 0, x2, partO x1, []⟩ = true then some ⟨2, x0, 0, x2, partO x1, []⟩ else none := rfl
theorem ordO_3 (x0 x1 x2 x3 : ByteArray) (r : List ByteArray) : ordO x0 (x1 :: x2 :: x3 :: r) = none := rfl
theorem atP_1 (x : ByteArray) : atP [x] = if x.size = 4 ∧ numE x = 0 then some ⟨4, E0, numV x, E0, 0, []⟩ else none := rfl
theorem addrP_1 (x : ByteArray) : addrP [x] = if isNm x = true then some ⟨5, E0, 0, x, 0, []⟩ else none := rfl
def mkB (l : List UInt8) : ByteArray := ⟨l.toArray⟩
theorem strL_mkB (l : List UInt8) : strL (mkB l) = l := by simp [strL, mkB]
theorem mkB_strL (s : ByteArray) : mkB (strL s) = s := strL_mk s
def wordsA (l : List UInt8) : List ByteArray := (wordsG l []).map mkB
theorem wordsA_of {l : List UInt8} {ws : List ByteArray} (h : ws.map strL = wordsG l []) : ws = wordsA l := by
  unfold wordsA
  rw [← h, List.map_map]
  conv => lhs; rw [← List.map_id ws]
  apply List.map_congr_left
  intro x _
  exact (mkB_strL x).symm
def frontL : List UInt8 → Bool
  | [] => true
  | c :: _ => decide (c ≠ 32 ∧ c ≠ 9)
/-- What a line says. -/
def lineO (l : List UInt8) : Option (List Pu) := if wordsA l = [] then some [] else match itemO (frontL l) (wordsA l) with
  | none => none
  | some q => some [q]
def linesG : List UInt8 → List UInt8 → List (List UInt8)
  | [], cur => pushW cur
  | c :: r, cur => if c = 10 then cur :: linesG r [] else linesG r (cur ++ [c])
/-- The first line that is none. -/
def badO : List (List UInt8) → Nat → Option Nat
  | [], _ => none
  | l :: r, i => match lineO l with
    | none => some i
    | some _ => badO r (i + 1)
def itemsO (ls : List (List UInt8)) : List Pu := ls.flatMap fun l => (lineO l).getD []
def srcLs (t : ByteArray) : List (List UInt8) := linesG (strL t) []
def srcE (t : ByteArray) : Int := if 65536 < t.size then 2 else match badO (srcLs t) 1 with
  | some _ => 131
  | none => if 4096 < (itemsO (srcLs t)).length then 2 else 0
def srcN (t : ByteArray) : Int := if 65536 < t.size then 0 else match badO (srcLs t) 1 with
  | some i => (i : Int)
  | none => 0
def srcL (t : ByteArray) : List Pu := if srcE t = 0 then itemsO (srcLs t) else []

theorem badO_app (a b : List (List UInt8)) : ∀ i, badO a i = none → badO (a ++ b) i = badO b (i + a.length) := by
  induction a with
  | nil => intro i _; rfl
  | cons l r ih =>
    intro i h
    unfold badO at h
    rcases e : lineO l with _ | x
    · rw [e] at h; cases h
    · rw [e] at h
      show badO (l :: (r ++ b)) i = _
      conv => lhs; unfold badO
      rw [e]
      show badO (r ++ b) (i + 1) = _
      rw [ih (i + 1) h, List.length_cons, show i + 1 + r.length = i + (r.length + 1) by omega]
theorem badO_one (l : List UInt8) (b : List (List UInt8)) (i : Nat) : badO (l :: b) i = match lineO l with
    | none => some i
    | some _ => badO b (i + 1) := rfl
theorem badO_snoc {a : List (List UInt8)} {l : List UInt8} {x : List Pu} {i : Nat} (h : badO a i = none) (hl : lineO l = some x) : badO (a ++ [l]) i = none := by
  rw [badO_app a [l] i h, badO_one, hl]
  rfl
theorem itemsO_app (a b : List (List UInt8)) : itemsO (a ++ b) = itemsO a ++ itemsO b := by simp [itemsO]
theorem itemsO_one (l : List UInt8) : itemsO [l] = (lineO l).getD [] := by simp [itemsO]

/-- Where the reading of lines has come to: the lines done, what is left, the line that is begun. -/
structure Lat (t : List UInt8) (ls : List (List UInt8)) (r cur : List UInt8) : Prop where
  eq : linesG t [] = ls ++ linesG r cur
  good : badO ls 1 = none
theorem Lat.start (t : List UInt8) : Lat t [] t [] := ⟨by simp, rfl⟩
theorem Lat.more {t : List UInt8} {ls : List (List UInt8)} {r cur : List UInt8} {c : UInt8} (h : Lat t ls (c :: r) cur) (hc : c ≠ 10) : Lat t ls r (cur ++ [c]) := by
  refine ⟨?_, h.good⟩
  rw [h.eq]
  conv => lhs; unfold linesG
  rw [if_neg hc]
theorem Lat.line {t : List UInt8} {ls : List (List UInt8)} {r cur : List UInt8} {x : List Pu} (h : Lat t ls (10 :: r) cur) (hl : lineO cur = some x) : Lat t (ls ++ [cur]) r [] := by
  refine ⟨?_, badO_snoc h.good hl⟩
  rw [h.eq]
  conv => lhs; unfold linesG
  rw [if_pos rfl, List.append_assoc]
  rfl
theorem Lat.last {t : List UInt8} {ls : List (List UInt8)} {cur : List UInt8} {x : List Pu} (h : Lat t ls [] cur) (h0 : cur ≠ []) (hl : lineO cur = some x) : Lat t (ls ++ [cur]) [] [] := by
  refine ⟨?_, badO_snoc h.good hl⟩
  rw [h.eq]
  show ls ++ pushW cur = ls ++ [cur] ++ pushW []
  unfold pushW
  rw [if_neg h0, if_pos rfl, List.append_nil]
theorem Lat.bad {t : List UInt8} {ls : List (List UInt8)} {r cur : List UInt8} (h : Lat t ls (10 :: r) cur) (hl : lineO cur = none) : badO (linesG t []) 1 = some (ls.length + 1) := by
  rw [h.eq]
  conv => lhs; unfold linesG
  rw [if_pos rfl, badO_app _ _ _ h.good, badO_one, hl, Nat.add_comm]
theorem Lat.badLast {t : List UInt8} {ls : List (List UInt8)} {cur : List UInt8} (h : Lat t ls [] cur) (h0 : cur ≠ []) (hl : lineO cur = none) : badO (linesG t []) 1 = some (ls.length + 1) := by
  rw [h.eq]
  show badO (ls ++ pushW cur) 1 = _
  unfold pushW
  rw [if_neg h0, badO_app _ _ _ h.good, badO_one, hl, Nat.add_comm]
theorem Lat.done {t : List UInt8} {ls : List (List UInt8)} (h : Lat t ls [] []) : linesG t [] = ls ∧ badO (linesG t []) 1 = none := by
  have e : linesG t [] = ls := by
    rw [h.eq]
    show ls ++ pushW [] = ls
    unfold pushW
    rw [if_pos rfl, List.append_nil]
  exact ⟨e, by rw [e]; exact h.good⟩
theorem src_long {t : ByteArray} (h : 65536 < t.size) : srcE t = 2 ∧ srcN t = 0 ∧ srcL t = [] := by
  have e : srcE t = 2 := by unfold srcE; rw [if_pos h]
  exact ⟨e, by unfold srcN; rw [if_pos h], by unfold srcL; rw [e]; rfl⟩
theorem src_bad {t : ByteArray} {i : Nat} (h : ¬ 65536 < t.size) (hb : badO (linesG (strL t) []) 1 = some i) : srcE t = 131 ∧ srcN t = (i : Int) ∧ srcL t = [] := by
  have e : srcE t = 131 := by unfold srcE srcLs; rw [if_neg h, hb]
  exact ⟨e, by unfold srcN srcLs; rw [if_neg h, hb], by unfold srcL; rw [e]; rfl⟩
theorem src_done {t : ByteArray} {ls : List (List UInt8)} (h : ¬ 65536 < t.size) (hL : Lat (strL t) ls [] []) : srcN t = 0 ∧ (4096 < (itemsO ls).length → srcE t = 2 ∧ srcL t = []) ∧ (¬ 4096 < (itemsO ls).length → srcE t = 0 ∧ srcL t = itemsO ls) := by
  obtain ⟨e, hb⟩ := hL.done
  refine ⟨by unfold srcN srcLs; rw [if_neg h, hb], fun h4 => ?_, fun h4 => ?_⟩
  · have e2 : srcE t = 2 := by unfold srcE srcLs; rw [if_neg h, hb, e]; exact if_pos h4
    exact ⟨e2, by unfold srcL; rw [e2]; rfl⟩
  · have e2 : srcE t = 0 := by unfold srcE srcLs; rw [if_neg h, hb, e]; exact if_neg h4
    exact ⟨e2, by unfold srcL srcLs; rw [e2, if_pos rfl, e]⟩
end Go.Proofs.YtmaedkbmjbggpaaDoor
