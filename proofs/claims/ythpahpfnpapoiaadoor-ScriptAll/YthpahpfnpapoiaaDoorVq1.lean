/- The lines of a text, as a function to range over: the program's. -/
import Derived.Test.YthpahpfnpapoiaaDoorVq0
namespace Go.Proofs.YthpahpfnpapoiaaDoor
open Go Go.RowKit Go.Shelf
set_option linter.unusedVariables false
set_option maxHeartbeats 2000000
set_option maxRecDepth 100000
attribute [local go_sem] Oper.semAt_some

/-- A line of a text, and which it is. -/
abbrev Ln (t : List UInt8) : Type := { p : Nat × ByteArray // (allL t)[p.1]? = some (strL p.2) }
def encLn (t : List UInt8) (x : Ln t) : Array Value := #[.int .i64 ((x.1.1 : Int) + 1), .string x.1.2]
/-- The first so many lines, in order. -/
def Up (t : List UInt8) (k : Nat) (pre : List (Ln t)) : Prop := pre.length = k ∧ ∀ (j : Nat) (x : Ln t), pre[j]? = some x → x.1.1 = j
theorem Up.nil (t : List UInt8) : Up t 0 [] := ⟨rfl, fun j x h => by simp at h⟩
theorem Up.snoc {t : List UInt8} {k : Nat} {pre : List (Ln t)} (h : Up t k pre) (x : Ln t) (hx : x.1.1 = k) : Up t (k + 1) (pre ++ [x]) := by
  refine ⟨by rw [List.length_append, h.1]; rfl, fun j y hy => ?_⟩
  rcases Nat.lt_or_ge j pre.length with hj | hj
  · rw [List.getElem?_append_left hj] at hy
    exact h.2 j y hy
  · rw [List.getElem?_append_right hj] at hy
    have hl := (List.getElem?_eq_some_iff.1 hy).1
    have e : j = pre.length := by simp at hl; omega
    subst e
    simp at hy
    rw [← hy, hx, h.1]
def sizeV : Value → Nat
  | .string s => s.size
  | _ => 0
theorem head_drop {α : Type} {l r : List α} {k : Nat} {x : α} (h : l.drop k = x :: r) : l[k]? = some x ∧ l.drop (k + 1) = r ∧ k < l.length := by
  have hk : k < l.length := by
    rcases Nat.lt_or_ge k l.length with h1 | h1
    · exact h1
    · rw [List.drop_eq_nil_of_le h1] at h; cases h
  rw [List.drop_eq_getElem_cons hk] at h
  cases h
  exact ⟨List.getElem?_eq_getElem hk, rfl, hk⟩

theorem lines1_in (n : Nat) (hn : 1 ≤ n) (l Bt : Nat) (text : ByteArray) (hs : text.size ≤ 65536) (J Jx : List (Ln (strL text)) → World → Prop)
    (hY : ∀ pre x W, J pre W → pre.length < (allL (strL text)).length → YieldAt Fence.wide (n - 1) Tryd.prog l (encLn (strL text) x) W fun e W' =>
      (e = .returned (.bool true) ∧ J (pre ++ [x]) W' ∧ True) ∨ (e = .returned (.bool false) ∧ Jx (pre ++ [x]) W'))
    (W : World) (hBt : W.cell? ⟨Bt, 0, none⟩ = some (.string text)) (h0 : J [] W) :
    CallsIn Fence.wide n Tryd.prog 50 #[.func (.yield l) #[] #[], .pointer (some ⟨Bt, 0, none⟩)] W fun e W' => (∃ v, e = .returned v) ∧
      ((∃ ys, Up (strL text) (allL (strL text)).length ys ∧ J ys W') ∨ (∃ pre, (∃ k, k ≤ (allL (strL text)).length ∧ Up (strL text) k pre) ∧ Jx pre W')) := by
  obtain ⟨t, ht⟩ : ∃ t, strL text = t := ⟨_, rfl⟩
  have ht' : Hid (strL text = t) := ht
  subst ht
  obtain ⟨m, hm⟩ : ∃ m, (allL (strL text)).length = m := ⟨_, rfl⟩
  rw [hm] at hY ⊢
  have hm : Hid ((allL (strL text)).length = m) := hm
  have hm2 : Hid (m ≤ 65536) := by
    have h1 := allL_count (strL text)
    rw [hm.out, strL_len] at h1
    show m ≤ 65536
    omega
  refine callsIn_of_wp Tryd.func50 rfl trivial ?_ rfl
  simp only [Tryd.ntmps50, List.size_toArray, List.length_cons, List.length_nil, Nat.reduceAdd, Nat.reduceSub, Array.replicate_succ, Array.replicate_zero, List.push_toArray, List.append_toArray, List.nil_append, List.cons_append]
  gi_wp2
  gi_loopw [3, 4] (fun r c wr => ∃ (k : Nat) (rest : ByteArray) (pre : List (Ln (strL text))), r = .string rest ∧ c = .int .i64 ((k : Int) + 1) ∧ k ≤ 65536 ∧ Hid (k ≤ m ∧ Up (strL text) k pre ∧ (allL (strL text)).drop k = allL (strL rest) ∧ rest.size ≤ 65536) ∧ J pre wr) (fun r _ _ => sizeV r)
  case atStart => exact ⟨0, text, [], rfl, rfl, by decide, ⟨Nat.zero_le _, Up.nil _, rfl, hs⟩, h0⟩
  case round =>
    obtain ⟨k, rest, pre, rfl, rfl, k1, H, hJ⟩ := hrel
    obtain ⟨k2, U, hd, hr⟩ := H.out
    have rl := toL rest
    by_cases he : strL rest = []
    · have q : (rest.toList == []) = true := by rw [rl, he]; rfl
      rw [he, allL_nil, List.drop_eq_nil_iff, hm.out] at hd
      obtain rfl : k = m := by omega
      clear rl
      gi_wp2
      go_end0
      exact ⟨⟨_, rfl⟩, .inl ⟨pre, U, hJ⟩⟩
    · have q : (rest.toList == []) = false := by rw [rl, beq_eq_false_iff_ne]; exact he
      have hI := fun y => callsIn_wide (n := n - 1) |>.2 (index_any rest y)
      have hg := Lib.indexByte_ge (strL rest) 10
      clear rl
      by_cases hi : Lib.indexByte (strL rest) 10 = -1
      · have r0 : 0 < rest.size := by rw [← strL_len]; exact List.length_pos_iff.2 he
        rw [allL_last _ hi he] at hd
        obtain ⟨d1, d2, d3⟩ := head_drop hd
        rw [hi] at hI
        have hx : (allL (strL text))[k]? = some (strL rest) := d1
        obtain ⟨fn, tmps, assign, body, hy, hR⟩ := hY pre ⟨(k, rest), hx⟩ wr hJ (by rw [U.1, ← hm.out]; exact d3)
        dsimp only [encLn] at hy
        gi_wp2_with (refine ⟨trivial, ?_⟩; gi_at_call 51; refine (hI _).mono ?_; rintro e z ⟨rfl, hz⟩; replace hz := hz.symm; subst hz)
        refine hR.mono ?_
        have hU := U.snoc ⟨(k, rest), hx⟩ rfl
        have hk : k + 1 ≤ m := by rw [← hm.out]; exact d3
        rintro e W3 (⟨rfl, hJ3, _⟩ | ⟨rfl, hJx3⟩)
        · gi_wp2
          go_roundw
          case rel => exact ⟨k + 1, _, _, rfl, by simp, by have := hm2.out; omega, ⟨hk, hU, by rw [d2]; rfl, by decide⟩, hJ3⟩
          case measure =>
            exact r0
        · gi_wp2
          refine bodyPost_ret (results_none rfl _ _ _) rfl ?_
          exact ⟨⟨_, rfl⟩, .inr ⟨_, ⟨k + 1, hk, hU⟩, hJx3⟩⟩
      · obtain ⟨i, hj⟩ : ∃ i : Nat, Lib.indexByte (strL rest) 10 = i := ⟨(Lib.indexByte (strL rest) 10).toNat, by omega⟩
        obtain ⟨i1, i2, i3⟩ := index_some _ _ hj
        rw [strL_len] at i1
        rw [allL_cons _ i hj] at hd
        obtain ⟨d1, d2, d3⟩ := head_drop hd
        rw [hj] at hI
        have hx : (allL (strL text))[k]? = some (strL (rest.extract 0 (i + 1))) := by rw [d1, strL_extract rest 0 (i + 1) (by omega) (by omega)]; rfl
        obtain ⟨fn, tmps, assign, body, hy, hR⟩ := hY pre ⟨(k, rest.extract 0 (i + 1)), hx⟩ wr hJ (by rw [U.1, ← hm.out]; exact d3)
        dsimp only [encLn] at hy
        gi_wp2_with (refine ⟨trivial, ?_⟩; gi_at_call 51; refine (hI _).mono ?_; rintro e z ⟨rfl, hz⟩; replace hz := hz.symm; subst hz)
        refine hR.mono ?_
        have hU := U.snoc ⟨(k, rest.extract 0 (i + 1)), hx⟩ rfl
        have hk : k + 1 ≤ m := by rw [← hm.out]; exact d3
        rintro e W3 (⟨rfl, hJ3, _⟩ | ⟨rfl, hJx3⟩)
        · gi_wp2
          go_roundw
          case rel => exact ⟨k + 1, rest.extract (i + 1) rest.size, _, by first | rfl | simp, by simp, by have := hm2.out; omega, ⟨hk, hU, by rw [d2, strL_extract rest (i + 1) rest.size (by omega) (Nat.le_refl _), List.take_of_length_le (by rw [List.length_drop, strL_len]; exact Nat.le_refl _)], by rw [← strL_len, strL_extract rest (i + 1) rest.size (by omega) (Nat.le_refl _), List.length_take, List.length_drop, strL_len]; omega⟩, hJ3⟩
          case measure =>
            have h9 : (rest.extract (i + 1) rest.size).size < rest.size := by rw [← strL_len, strL_extract rest (i + 1) rest.size (by omega) (Nat.le_refl _), List.length_take, List.length_drop, strL_len]; omega
            first | exact h9 | (simp [sizeV]; omega)
        · gi_wp2
          refine bodyPost_ret (results_none rfl _ _ _) rfl ?_
          exact ⟨⟨_, rfl⟩, .inr ⟨_, ⟨k + 1, hk, hU⟩, hJx3⟩⟩
theorem lines_stops (n : Nat) (hn : 1 ≤ n) (Bt : Nat) (text : ByteArray) (hs : text.size ≤ 65536) (w : World) (hB : Bt < w.heap.size) (hc : w.cell? ⟨Bt, 0, none⟩ = some (.string text)) :
    SeqStopsK Fence.wide n Tryd.prog 50 #[.pointer (some ⟨Bt, 0, none⟩)] (encLn (strL text)) (fun _ _ => True) (fun ys => Up (strL text) (allL (strL text)).length ys) (fun pre => ∃ k, k ≤ (allL (strL text)).length ∧ Up (strL text) k pre) (allL (strL text)).length w := fun l J Jx W hW _ _ hY h0 =>
  lines1_in n hn l Bt text hs J Jx hY W ((hW.cell (p := ⟨Bt, 0, none⟩) hB).trans hc) h0
theorem lines_any (w : World) (text : ByteArray) : Calls Tryd.prog 43 #[.string text] w fun e w' => e = .returned (.func (.func 50) #[] #[.pointer (some ⟨w.heap.size, 0, none⟩)]) ∧ w' = w.alloc (.cells #[.string text] 9) := by
  go_enter Tryd.func43, Tryd.ntmps43
  go_wp2
  go_ret
  exact ⟨rfl, rfl⟩
end Go.Proofs.YthpahpfnpapoiaaDoor
