/- Words and lines of a text, by the document. -/
import Derived.Test.YtoajmicdphffnaaDoorKr
namespace Go.Proofs.YtoajmicdphffnaaDoor
open Go Go.RowKit
set_option linter.unusedVariables false
set_option maxHeartbeats 3000000
set_option maxRecDepth 20000

theorem rwords_any_cut (l : List UInt8) (n q p : Nat) (O : List ByteArray) (hp : l[p]? = some 32) (J : q ≤ p ∧ p ≤ n ∧ (∀ b ∈ (l.drop q).take (p - q), b ≠ 32) ∧ splitW l = O.map strL ++ splitW (l.drop q)) (x : ByteArray) (hx : strL x = (l.drop q).take (p - q)) : splitW l = (O ++ [x]).map strL ++ splitW (l.drop (p + 1)) := by
  rw [J.2.2.2, cut_at J.1 hp, splitW_word _ _ J.2.2.1 (.inr ⟨_, rfl⟩), List.map_append, List.append_assoc]
  simp [hx]
theorem rwords_any (w : World) (s : ByteArray) (hs : s.size ≤ 1000000) : Calls Tryd.prog 73 #[.string s] w fun e w' => ∃ v ws, e = .returned v ∧ Hid (KT w v ws w' ∧ ws.map strL = splitW (strL s)) := by
  have si : (s.size : Int) ≤ 1000000 := by omega
  have hs' : Hid (s.size ≤ 1000000) := hs
  obtain ⟨i9, hi9, hz0, hz1, hz2⟩ := info_parts infoT
  clear hs
  go_enter Tryd.func73, Tryd.ntmps73
  go_wp2
  go_loopw [3, 4, 5] (fun v f i wz => ∃ (p q : Nat) (u : Value) (O : List ByteArray) (y : World), y = wz ∧ u = v ∧ f = .int .i64 (q : Int) ∧ i = .int .i64 (p : Int) ∧ Hid (q ≤ p ∧ p ≤ s.size ∧ (∀ b ∈ ((strL s).drop q).take (p - q), b ≠ 32) ∧ splitW (strL s) = O.map strL ++ splitW ((strL s).drop q)) ∧ Hid (KT w u O y ∧ O.length ≤ p)) (fun _ _ i _ => (s.size - intOf i).toNat)
  case atStart => exact ⟨0, 0, _, [], w, rfl, rfl, rfl, rfl, ⟨by omega, by omega, fun b hb => by simp at hb, by simp⟩, ⟨⟨World.ownsRow_nil _ _ _ 1, Below.refl _ _⟩, by simp⟩⟩
  case round =>
    obtain ⟨p, q, u, O, y, rfl, rfl, rfl, rfl, J, K⟩ := hrel
    by_cases hlt : p < s.size
    · have hpi : (p : Int) < s.size := by omega
      have hqi : (q : Int) ≤ p := by have := J.out.1; omega
      have hlt' : Hid (p < s.size) := hlt
      have hget := strL_get s p hlt
      by_cases hb : s[p]'hlt = 32
      · have hq : (((s[p]'hlt).toNat : Int) == 32) = true := by rw [hb]; decide
        have fin : Hid (splitW (strL s) = (O ++ [s.extract q p]).map strL ++ splitW ((strL s).drop (p + 1))) := rwords_any_cut (strL s) _ q p O (by rw [hget, hb]) J.out _ (strL_extract s q p J.out.1 (by omega))
        replace hget : Hid _ := hget
        replace hb : Hid _ := hb
        go_wp2_with (at_builtin; refine wpList_append_own _ rfl (.tmp 16) (.tmp 21) 65 rfl w.heap.size 9 i9 (.string ⟨#[]⟩) 1 16 Tryd.underlying65 hi9 hz0 hz1 hz2 rfl (by decide) u O.length (O.map .string) rfl (K.out.1.1.alloc _) ⟨y.heap.size, 0, none⟩ 1 1 [.string (s.extract q p)] rfl rfl (one_str y _) (by simp [Value.oneCell']) ?a2 ?a3 ?a4 ?_)
        case a2 => have := K.out.2; have := hs'.out; unfold maxLen; omega
        case a3 => have := K.out.2; have := hs'.out; omega
        case a4 => have := K.out.1.2.size; simp; omega
        intro v' w' ho hg _
        have K2 : Hid (KT w v' (O ++ [s.extract q p]) w' ∧ (O ++ [s.extract q p]).length ≤ p + 1) := ⟨K.out.1.add ho hg, by have := K.out.2; simp; omega⟩
        clear ho hg
        go_wp2
        go_roundw
        case rel => exact ⟨p + 1, p + 1, _, _, _, rfl, rfl, by simp, by simp, ⟨by omega, by have := hlt'.out; omega, fun b hb => by simp at hb, fin.out⟩, K2⟩
        case measure => have := hlt'.out; simp [intOf]; omega
      · have hq : (((s[p]'hlt).toNat : Int) == 32) = false := by
          rw [beq_eq_false_iff_ne]
          intro e
          exact hb (UInt8.toNat_inj.1 (by show (s[p]'hlt).toNat = 32; omega))
        have fin : Hid (∀ b ∈ ((strL s).drop q).take (p + 1 - q), b ≠ 32) := fun b hm => by
          have h1 := J.out.1
          rw [show p + 1 - q = (p - q) + 1 by omega, List.take_add_one] at hm
          rcases List.mem_append.1 hm with h | h
          · exact J.out.2.2.1 b h
          · rw [List.getElem?_drop, show q + (p - q) = p by omega, hget] at h
            simp at h
            rw [h]
            exact hb
        replace hget : Hid _ := hget
        replace hb : Hid _ := hb
        go_wp2
        go_roundw
        case rel => exact ⟨p + 1, q, _, O, _, rfl, rfl, rfl, by simp, ⟨by have := J.out.1; omega, by have := hlt'.out; omega, fin.out, J.out.2.2.2⟩, ⟨K.out.1, by have := K.out.2; omega⟩⟩
        case measure => have := hlt'.out; simp [intOf]; omega
    · have hpe : p = s.size := by have := J.out.2.1; omega
      subst hpe
      have hqi : (q : Int) ≤ s.size := by have := J.out.1; omega
      clear hlt
      have fin : Hid ((O ++ [s.extract q s.size]).map strL = splitW (strL s)) := by
        obtain ⟨j1, j2, j3, j4⟩ := J.out
        have e := strL_extract s q s.size j1 (Nat.le_refl _)
        rw [List.take_of_length_le (by rw [List.length_drop, strL_len]; omega)] at e j3
        show _ = _
        rw [j4, List.map_append]
        congr 1
        have := splitW_word ((strL s).drop q) [] j3 (.inl rfl)
        rw [List.append_nil] at this
        rw [this]
        simp [e]
      go_wp2_with (at_builtin; refine wpList_append_own _ rfl (.tmp 25) (.tmp 29) 65 rfl w.heap.size 9 i9 (.string ⟨#[]⟩) 1 16 Tryd.underlying65 hi9 hz0 hz1 hz2 rfl (by decide) u O.length (O.map .string) rfl (K.out.1.1.alloc _) ⟨y.heap.size, 0, none⟩ 1 1 [.string (s.extract q s.size)] rfl rfl (one_str y _) (by simp [Value.oneCell']) ?a2 ?a3 ?a4 ?_)
      case a2 => have := K.out.2; have := hs'.out; unfold maxLen; omega
      case a3 => have := K.out.2; have := hs'.out; omega
      case a4 => have := K.out.1.2.size; simp; omega
      intro v' w' ho hg _
      have K2 : Hid (KT w v' (O ++ [s.extract q s.size]) w') := K.out.1.add ho hg
      clear ho hg
      go_wp2
      go_ret
      exact ⟨_, _, rfl, K2.out, fin.out⟩
theorem lines_cut (l : List UInt8) (n q p : Nat) (O : List ByteArray) (hp : l[p]? = some 10) (J : q ≤ p ∧ p ≤ n ∧ (∀ b ∈ (l.drop q).take (p - q), b ≠ 10) ∧ linesL l = (O.map strL ++ (linesL (l.drop q)).1, (linesL (l.drop q)).2)) (x : ByteArray) (hx : strL x = (l.drop q).take (p - q)) : linesL l = ((O ++ [x]).map strL ++ (linesL (l.drop (p + 1))).1, (linesL (l.drop (p + 1))).2) := by
  rw [J.2.2.2, cut_at J.1 hp, lines_word _ _ J.2.2.1, List.map_append, List.append_assoc]
  simp [hx]
theorem lines_none (l : List UInt8) (h : ∀ b ∈ l, b ≠ 10) : linesL l = ([], l) := by
  induction l with
  | nil => rfl
  | cons b l ih => rw [linesL_cons, if_neg (h b (by simp)), ih (fun c hc => h c (by simp [hc]))]
theorem rlines_any (w : World) (s : ByteArray) (hs : s.size ≤ 1000000) : Calls Tryd.prog 39 #[.string s] w fun e w' => ∃ v ls rest, e = .returned (.tuple #[v, .string rest]) ∧ Hid (KT w v ls w' ∧ linesL (strL s) = (ls.map strL, strL rest) ∧ rest.size ≤ s.size) := by
  have si : (s.size : Int) ≤ 1000000 := by omega
  have hs' : Hid (s.size ≤ 1000000) := hs
  obtain ⟨i9, hi9, hz0, hz1, hz2⟩ := info_parts infoT
  clear hs
  go_enter Tryd.func39, Tryd.ntmps39
  go_wp2
  go_loopw [4, 5, 6] (fun v f i wz => ∃ (p q : Nat) (u : Value) (O : List ByteArray) (y : World), y = wz ∧ u = v ∧ f = .int .i64 (q : Int) ∧ i = .int .i64 (p : Int) ∧ Hid (q ≤ p ∧ p ≤ s.size ∧ (∀ b ∈ ((strL s).drop q).take (p - q), b ≠ 10) ∧ linesL (strL s) = (O.map strL ++ (linesL ((strL s).drop q)).1, (linesL ((strL s).drop q)).2)) ∧ Hid (KT w u O y ∧ O.length ≤ p)) (fun _ _ i _ => (s.size - intOf i).toNat)
  case atStart => exact ⟨0, 0, _, [], w, rfl, rfl, rfl, rfl, ⟨by omega, by omega, fun b hb => by simp at hb, by simp⟩, ⟨⟨World.ownsRow_nil _ _ _ 1, Below.refl _ _⟩, by simp⟩⟩
  case round =>
    obtain ⟨p, q, u, O, y, rfl, rfl, rfl, rfl, J, K⟩ := hrel
    by_cases hlt : p < s.size
    · have hpi : (p : Int) < s.size := by omega
      have hqi : (q : Int) ≤ p := by have := J.out.1; omega
      have hlt' : Hid (p < s.size) := hlt
      have hget := strL_get s p hlt
      by_cases hb : s[p]'hlt = 10
      · have hq : (((s[p]'hlt).toNat : Int) == 10) = true := by rw [hb]; decide
        have fin : Hid (linesL (strL s) = ((O ++ [s.extract q p]).map strL ++ (linesL ((strL s).drop (p + 1))).1, (linesL ((strL s).drop (p + 1))).2)) := lines_cut (strL s) _ q p O (by rw [hget, hb]) J.out _ (strL_extract s q p J.out.1 (by omega))
        replace hget : Hid _ := hget
        replace hb : Hid _ := hb
        go_wp2_with (at_builtin; refine wpList_append_own _ rfl (.tmp 17) (.tmp 22) 65 rfl w.heap.size 9 i9 (.string ⟨#[]⟩) 1 16 Tryd.underlying65 hi9 hz0 hz1 hz2 rfl (by decide) u O.length (O.map .string) rfl (K.out.1.1.alloc _) ⟨y.heap.size, 0, none⟩ 1 1 [.string (s.extract q p)] rfl rfl (one_str y _) (by simp [Value.oneCell']) ?a2 ?a3 ?a4 ?_)
        case a2 => have := K.out.2; have := hs'.out; unfold maxLen; omega
        case a3 => have := K.out.2; have := hs'.out; omega
        case a4 => have := K.out.1.2.size; simp; omega
        intro v' w' ho hg _
        have K2 : Hid (KT w v' (O ++ [s.extract q p]) w' ∧ (O ++ [s.extract q p]).length ≤ p + 1) := ⟨K.out.1.add ho hg, by have := K.out.2; simp; omega⟩
        clear ho hg
        go_wp2
        go_roundw
        case rel => exact ⟨p + 1, p + 1, _, _, _, rfl, rfl, by simp, by simp, ⟨by omega, by have := hlt'.out; omega, fun b hb => by simp at hb, fin.out⟩, K2⟩
        case measure => have := hlt'.out; simp [intOf]; omega
      · have hq : (((s[p]'hlt).toNat : Int) == 10) = false := by
          rw [beq_eq_false_iff_ne]
          intro e
          exact hb (UInt8.toNat_inj.1 (by show (s[p]'hlt).toNat = 10; omega))
        have fin : Hid (∀ b ∈ ((strL s).drop q).take (p + 1 - q), b ≠ 10) := fun b hm => by
          have h1 := J.out.1
          rw [show p + 1 - q = (p - q) + 1 by omega, List.take_add_one] at hm
          rcases List.mem_append.1 hm with h | h
          · exact J.out.2.2.1 b h
          · rw [List.getElem?_drop, show q + (p - q) = p by omega, hget] at h
            simp at h
            rw [h]
            exact hb
        replace hget : Hid _ := hget
        replace hb : Hid _ := hb
        go_wp2
        go_roundw
        case rel => exact ⟨p + 1, q, _, O, _, rfl, rfl, rfl, by simp, ⟨by have := J.out.1; omega, by have := hlt'.out; omega, fin.out, J.out.2.2.2⟩, ⟨K.out.1, by have := K.out.2; omega⟩⟩
        case measure => have := hlt'.out; simp [intOf]; omega
    · have hpe : p = s.size := by have := J.out.2.1; omega
      subst hpe
      have hqi : (q : Int) ≤ s.size := by have := J.out.1; omega
      clear hlt
      have fin : Hid (linesL (strL s) = (O.map strL, strL (s.extract q s.size)) ∧ (s.extract q s.size).size ≤ s.size) := by
        obtain ⟨j1, j2, j3, j4⟩ := J.out
        have e := strL_extract s q s.size j1 (Nat.le_refl _)
        rw [List.take_of_length_le (by rw [List.length_drop, strL_len]; omega)] at e j3
        refine ⟨?_, by rw [ByteArray.size_extract]; omega⟩
        rw [j4, lines_none _ j3, e]
        simp
      go_wp2
      go_quiet (fail)
      go_wp2
      go_ret2
      exact ⟨_, _, _, rfl, ⟨K.out.1.1, below_drewN K.out.1.2⟩, fin.out⟩
end Go.Proofs.YtoajmicdphffnaaDoor
