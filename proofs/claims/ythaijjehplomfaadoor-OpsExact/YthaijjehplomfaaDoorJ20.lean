/- The document's own: a line's words. -/
import Derived.Test.YthaijjehplomfaaDoorJ16
import Derived.Test.YthaijjehplomfaaDoorJ19
namespace Go.Proofs.YthaijjehplomfaaDoor
open Go Go.RowKit
set_option linter.unusedVariables false
set_option maxHeartbeats 1000000
set_option maxRecDepth 20000

theorem infoT : (Tryd.prog.info? 9).map (fun i => (i.zero, i.size, i.bytes)) = some (some (.string ⟨#[]⟩), 1, 16) := by kernel_rfl
theorem one_str (x : World) (s : ByteArray) : ∀ (j : Nat) (u : Value), [Value.string s][j]? = some u → (x.alloc (.cells #[.string s] 9)).cell? ((⟨x.heap.size, 0, none⟩ : Addr).add j) = some u := fun j u hu => by
  cases j with
  | zero => simp at hu; subst hu; unfold World.cell? World.alloc Addr.add; simp
  | succ j => simp at hu
theorem KT.add {w y w' : World} {v v' : Value} {O : List ByteArray} {x : ByteArray} {o : Obj} (h : KT w v O y) (ho : w'.ownsRow w.heap.size 9 1 v' (O.length + 1) (O.map .string ++ [.string x])) (hg : (y.alloc o).grownBy w' v.ownBlock) : KT w v' (O ++ [x]) w' := by
  refine ⟨by rw [List.length_append, List.map_append]; exact ho, Below.grown (h.2.alloc h.2.size o) hg (by have := h.2.size; simp; omega) (fun q hq => ((h.1.alloc o).lt q hq).1)⟩
/-- Where the reading of words has come to. -/
def Wat (l : List UInt8) (n p q : Nat) (O : List ByteArray) : Prop := q ≤ p ∧ p ≤ n + 1 ∧ (p ≤ n → wordsG l [] = O.map strL ++ wordsG (l.drop p) ((l.drop q).take (p - q))) ∧ (p = n + 1 → wordsG l [] = O.map strL)
theorem take_end {l : List UInt8} {p q : Nat} {c : UInt8} (h : q ≤ p) (hc : l[p]? = some c) : (l.drop q).take (p + 1 - q) = (l.drop q).take (p - q) ++ [c] := by
  rw [show p + 1 - q = (p - q) + 1 by omega, List.take_add_one, List.getElem?_drop, show q + (p - q) = p by omega, hc]
  rfl
theorem Wat.more {l : List UInt8} {n p q : Nat} {O : List ByteArray} (h : Wat l n p q O) (hp : p < n) {c : UInt8} (hc : l[p]? = some c) (h1 : c ≠ 59) (h2 : c ≠ 32) : Wat l n (p + 1) q O := by
  refine ⟨by have := h.1; omega, by omega, fun _ => ?_, fun e => by omega⟩
  rw [h.2.2.1 (by omega), drop_at hc, take_end h.1 hc]
  conv => lhs; unfold wordsG
  rw [if_neg h1, if_neg h2]
theorem push_some {l : List UInt8} {q p : Nat} (h : q < p) (hp : p ≤ l.length) : pushW ((l.drop q).take (p - q)) = [(l.drop q).take (p - q)] := by
  unfold pushW
  rw [if_neg]
  intro e
  have := congrArg List.length e
  rw [List.length_take, List.length_drop, List.length_nil] at this
  omega
theorem push_none (l : List UInt8) (q : Nat) : pushW ((l.drop q).take (q - q)) = [] := by
  unfold pushW
  rw [Nat.sub_self, List.take_zero, if_pos rfl]
/-- The word that ends here, if there is one. -/
def endW (s : ByteArray) (q p : Nat) (O : List ByteArray) : List ByteArray := if q < p then O ++ [s.extract q p] else O
theorem endW_map (s : ByteArray) (q p : Nat) (O : List ByteArray) (h : q ≤ p) (hp : p ≤ s.size) : (endW s q p O).map strL = O.map strL ++ pushW (((strL s).drop q).take (p - q)) := by
  unfold endW
  split
  · rename_i hl
    rw [push_some hl (by rw [strL_len]; exact hp), List.map_append]
    simp [strL_extract s q p h hp]
  · have : q = p := by omega
    subst this
    rw [push_none, List.append_nil]
theorem Wat.cut {s : ByteArray} {p q : Nat} {O : List ByteArray} (h : Wat (strL s) s.size p q O) (hp : p < s.size) {c : UInt8} (hc : (strL s)[p]? = some c) (h1 : c ≠ 59) (h2 : c = 32) : Wat (strL s) s.size (p + 1) (p + 1) (endW s q p O) := by
  refine ⟨Nat.le_refl _, by omega, fun _ => ?_, fun e => by omega⟩
  rw [h.2.2.1 (by omega), drop_at hc, endW_map s q p O h.1 (by omega), Nat.sub_self, List.take_zero]
  conv => lhs; unfold wordsG
  rw [if_neg h1, if_pos h2, List.append_assoc]
theorem Wat.mark {s : ByteArray} {p q : Nat} {O : List ByteArray} (h : Wat (strL s) s.size p q O) (hp : p < s.size) (hc : (strL s)[p]? = some 59) : (endW s q p O).map strL = wordsG (strL s) [] := by
  rw [h.2.2.1 (by omega), drop_at hc, endW_map s q p O h.1 (by omega)]
  conv => rhs; unfold wordsG
  rw [if_pos rfl]
theorem Wat.last {s : ByteArray} {q : Nat} {O : List ByteArray} (h : Wat (strL s) s.size s.size q O) : Wat (strL s) s.size (s.size + 1) (s.size + 1) (endW s q s.size O) := by
  refine ⟨Nat.le_refl _, Nat.le_refl _, fun e => by omega, fun _ => ?_⟩
  rw [h.2.2.1 (Nat.le_refl _), List.drop_eq_nil_of_le (by rw [strL_len]; exact Nat.le_refl _), endW_map s q s.size O h.1 (Nat.le_refl _)]
  rfl

theorem rwords16_any (w : World) (s : ByteArray) (hs : s.size ≤ 4294967280) : Calls Tryd.prog 29 #[.string s] w fun e w' => ∃ v ws, e = .returned v ∧ Hid (KT w v ws w' ∧ ws.map strL = wordsG (strL s) [] ∧ ws.length ≤ s.size + 1) := by
  have si : (s.size : Int) ≤ 4294967280 := by omega
  have hs' : Hid (s.size ≤ 4294967280) := hs
  obtain ⟨i9, hi9, hz0, hz1, hz2⟩ := info_parts infoT
  clear hs
  go_enter Tryd.func29, Tryd.ntmps29
  go_wp2
  go_loopw [3, 4, 5] (fun v f i wz => ∃ (p q : Nat) (u : Value) (O : List ByteArray) (y : World), y = wz ∧ u = v ∧ f = .int .i64 (q : Int) ∧ i = .int .i64 (p : Int) ∧ Hid (Wat (strL s) s.size p q O) ∧ Hid (KT w u O y ∧ O.length ≤ p)) (fun _ _ i _ => (s.size + 1 - intOf i).toNat)
  case atStart => exact ⟨0, 0, _, [], w, rfl, rfl, rfl, rfl, ⟨by omega, by omega, fun _ => by simp, fun e => by omega⟩, ⟨⟨World.ownsRow_nil _ _ _ 1, Below.refl _ _⟩, by simp⟩⟩
  case round =>
    obtain ⟨p, q, u, O, y, rfl, rfl, rfl, rfl, J, K⟩ := hrel
    by_cases hlt : p < s.size
    · have hpi : (p : Int) < s.size := by omega
      have hpe : ((p : Int) == s.size) = false := by rw [beq_eq_false_iff_ne]; omega
      have hple : (p : Int) ≤ s.size := by omega
      have hqi : (q : Int) ≤ p := by have := J.out.1; omega
      have hlt' : Hid (p < s.size) := hlt
      have hget := strL_get s p hlt
      by_cases b59 : s[p]'hlt = 59
      · rw [b59] at hget
        have fin := J.out.mark hlt hget
        have e1 : (((s[p]'hlt).toNat : Int) == 32) = false := by rw [b59]; decide
        have e3 : (((s[p]'hlt).toNat : Int) == 59) = true := by rw [b59]; decide
        replace hget : Hid _ := hget
        replace b59 : Hid _ := b59
        by_cases hqp : q < p
        · have fq : decide (q < p) = true := by simp; omega
          have fin2 : Hid ((O ++ [s.extract q p]).map strL = wordsG (strL s) []) := by
            show _ = _
            rw [← fin]
            unfold endW
            rw [if_pos hqp]
          clear fin
          go_wp2_with (at_builtin; refine wpList_append_own _ rfl (.tmp 31) (.tmp 36) 70 rfl w.heap.size 9 i9 (.string ⟨#[]⟩) 1 16 Tryd.underlying70 hi9 hz0 hz1 hz2 rfl (by decide) u O.length (O.map .string) rfl (K.out.1.1.alloc _) ⟨y.heap.size, 0, none⟩ 1 1 [.string (s.extract q p)] rfl rfl (one_str y _) (by simp [Value.oneCell']) ?_ ?_ ?_ ?_; (have := K.out.2; have := hs'.out; have := J.out.2.1; unfold maxLen; omega); (have := K.out.2; have := hs'.out; have := J.out.2.1; omega); (have := K.out.1.2.size; simp; omega); intro v' w' ho hg _; have K2 : Hid (KT w v' (O ++ [s.extract q p]) w' ∧ (O ++ [s.extract q p]).length ≤ p + 1) := ⟨K.out.1.add ho hg, by have := K.out.2; simp; omega⟩; clear ho hg)
          go_ret
          exact ⟨_, _, rfl, K2.out.1, fin2.out, by have := K2.out.2; have := hlt'.out; omega⟩
        · have fq : decide (q < p) = false := by simp; omega
          have fin2 : Hid (O.map strL = wordsG (strL s) []) := by
            show _ = _
            rw [← fin]
            unfold endW
            rw [if_neg hqp]
          clear fin
          go_wp2
          go_ret
          exact ⟨_, _, rfl, K.out.1, fin2.out, by have := K.out.2; have := hlt'.out; omega⟩
      · have e3 : (((s[p]'hlt).toNat : Int) == 59) = false := by
          rw [beq_eq_false_iff_ne]
          intro e
          exact b59 (UInt8.toNat_inj.1 (by show (s[p]'hlt).toNat = 59; omega))
        by_cases bs : s[p]'hlt = 32
        · have J2 := J.out.cut hlt hget b59 bs
          have e1 : (((s[p]'hlt).toNat : Int) == 32) = true := by rw [bs]; decide
          replace hget : Hid _ := hget
          replace b59 : Hid _ := b59
          replace bs : Hid _ := bs
          by_cases hqp : q < p
          · have fq : decide (q < p) = true := by simp; omega
            have J3 : Hid (Wat (strL s) s.size (p + 1) (p + 1) (O ++ [s.extract q p])) := by
              unfold endW at J2
              rw [if_pos hqp] at J2
              exact J2
            clear J2
            all_goals
              go_wp2_with (at_builtin; refine wpList_append_own _ rfl (.tmp 31) (.tmp 36) 70 rfl w.heap.size 9 i9 (.string ⟨#[]⟩) 1 16 Tryd.underlying70 hi9 hz0 hz1 hz2 rfl (by decide) u O.length (O.map .string) rfl (K.out.1.1.alloc _) ⟨y.heap.size, 0, none⟩ 1 1 [.string (s.extract q p)] rfl rfl (one_str y _) (by simp [Value.oneCell']) ?_ ?_ ?_ ?_; (have := K.out.2; have := hs'.out; have := J.out.2.1; unfold maxLen; omega); (have := K.out.2; have := hs'.out; have := J.out.2.1; omega); (have := K.out.1.2.size; simp; omega); intro v' w' ho hg _; have K2 : Hid (KT w v' (O ++ [s.extract q p]) w' ∧ (O ++ [s.extract q p]).length ≤ p + 1) := ⟨K.out.1.add ho hg, by have := K.out.2; simp; omega⟩; clear ho hg)
              go_roundw
              case rel => exact ⟨p + 1, p + 1, _, _, _, rfl, rfl, by simp, by simp, J3, K2⟩
              case measure => have := hlt'.out; simp [intOf]; omega
          · have fq : decide (q < p) = false := by simp; omega
            have J3 : Hid (Wat (strL s) s.size (p + 1) (p + 1) O) := by
              unfold endW at J2
              rw [if_neg hqp] at J2
              exact J2
            clear J2
            all_goals
              go_wp2
              go_roundw
              case rel => exact ⟨p + 1, p + 1, _, _, _, rfl, rfl, by simp, by simp, J3, ⟨K.out.1, by have := K.out.2; omega⟩⟩
              case measure => have := hlt'.out; simp [intOf]; omega
        · have b32 : s[p]'hlt ≠ 32 := bs
          have J2 : Hid (Wat (strL s) s.size (p + 1) q O) := J.out.more hlt hget b59 b32
          have e1 : (((s[p]'hlt).toNat : Int) == 32) = false := by
            rw [beq_eq_false_iff_ne]
            intro e
            exact b32 (UInt8.toNat_inj.1 (by show (s[p]'hlt).toNat = 32; omega))
          replace hget : Hid _ := hget
          replace b59 : Hid _ := b59
          replace bs : Hid _ := bs
          clear b32
          go_wp2
          go_roundw
          case rel => exact ⟨p + 1, q, _, O, _, rfl, rfl, rfl, by simp, J2, ⟨K.out.1, by have := K.out.2; omega⟩⟩
          case measure => have := hlt'.out; simp [intOf]; omega
    · by_cases hpe : p = s.size
      · have J2 : Wat (strL s) s.size (p + 1) (p + 1) (endW s q p O) := by have h := J.out; rw [hpe] at h ⊢; exact h.last
        have hpi : ((p : Int) == s.size) = true := by rw [beq_iff_eq]; omega
        have hpl : decide (p ≤ s.size) = true := by simp; omega
        have hpn : decide (p < s.size) = false := by simp; omega
        have hpm : ¬ p < s.size := by omega
        have hpk : p ≤ s.size := by omega
        have hple : (p : Int) ≤ s.size := by omega
        have hqi : (q : Int) ≤ p := by have := J.out.1; omega
        have hpe' : Hid (p = s.size) := hpe
        clear hlt hpe
        by_cases hqp : q < p
        · have fq : decide (q < p) = true := by simp; omega
          have J3 : Hid (Wat (strL s) s.size (p + 1) (p + 1) (O ++ [s.extract q p])) := by
            unfold endW at J2
            rw [if_pos hqp] at J2
            exact J2
          clear J2
          go_wp2_with (at_builtin; refine wpList_append_own _ rfl (.tmp 31) (.tmp 36) 70 rfl w.heap.size 9 i9 (.string ⟨#[]⟩) 1 16 Tryd.underlying70 hi9 hz0 hz1 hz2 rfl (by decide) u O.length (O.map .string) rfl (K.out.1.1.alloc _) ⟨y.heap.size, 0, none⟩ 1 1 [.string (s.extract q p)] rfl rfl (one_str y _) (by simp [Value.oneCell']) ?_ ?_ ?_ ?_; (have := K.out.2; have := hs'.out; have := J.out.2.1; unfold maxLen; omega); (have := K.out.2; have := hs'.out; have := J.out.2.1; omega); (have := K.out.1.2.size; simp; omega); intro v' w' ho hg _; have K2 : Hid (KT w v' (O ++ [s.extract q p]) w' ∧ (O ++ [s.extract q p]).length ≤ p + 1) := ⟨K.out.1.add ho hg, by have := K.out.2; simp; omega⟩; clear ho hg)
          go_roundw
          case rel => exact ⟨p + 1, p + 1, _, _, _, rfl, rfl, by simp, by simp, J3, K2⟩
          case measure => have := hpe'.out; simp [intOf]; omega
        · have fq : decide (q < p) = false := by simp; omega
          have J3 : Hid (Wat (strL s) s.size (p + 1) (p + 1) O) := by
            unfold endW at J2
            rw [if_neg hqp] at J2
            exact J2
          clear J2
          go_wp2
          go_roundw
          case rel => exact ⟨p + 1, p + 1, _, _, _, rfl, rfl, by simp, by simp, J3, ⟨K.out.1, by have := K.out.2; omega⟩⟩
          case measure => have := hpe'.out; simp [intOf]; omega
      · have hpx : p = s.size + 1 := by have := J.out.2.1; omega
        have fin : Hid (O.map strL = wordsG (strL s) []) := (J.out.2.2.2 hpx).symm
        have hpl : ¬ p ≤ s.size := by omega
        have hpx' : Hid (p = s.size + 1) := hpx
        clear hlt hpe hpx
        go_wp2
        go_ret
        exact ⟨_, _, rfl, K.out.1, fin.out, by have := K.out.2; have := hpx'.out; omega⟩
end Go.Proofs.YthaijjehplomfaaDoor
