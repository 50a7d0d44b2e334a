/- A text read line by line; what the program calls of Go's library for it. -/
import Derived.Test.YtoajmicdphffnaaDoorHa
import Derived.Test.YtoajmicdphffnaaDoorKr
import Derived.Test.YtoajmicdphffnaaDoorSh
import Derived.Lib.SmallJoins
namespace Go.Proofs.YtoajmicdphffnaaDoor
open Go Go.RowKit Go.Shelf
set_option linter.unusedVariables false
set_option maxHeartbeats 1000000
set_option maxRecDepth 20000

/-- What is read of a text from a line on, behind what was read. -/
def pst (t : List UInt8) (i : Nat) (out : List Rc) : List Rc × Int × Int :=
  if (parseGo (linesL t).1 i out).2.1 ≠ 0 then parseGo (linesL t).1 i out else if (linesL t).2 = [] then parseGo (linesL t).1 i out else ([], 90, (i : Int) + (linesL t).1.length + 1)
theorem parse_pst (t : List UInt8) (h : t.length ≤ 65536) : parseR t = pst t 0 [] := by
  unfold parseR pst
  rw [if_neg (by omega)]
  simp
theorem pst_nil (i : Nat) (out : List Rc) : pst [] i out = (out, 0, 0) := rfl
theorem lines_open (t : List UInt8) (h : ∀ b ∈ t, b ≠ 10) : linesL t = ([], t) := by
  induction t with
  | nil => rfl
  | cons b t ih => rw [linesL_cons, if_neg (h b (by simp)), ih (fun x hx => h x (by simp [hx]))]
theorem pst_open (t : List UInt8) (i : Nat) (out : List Rc) (h : ∀ b ∈ t, b ≠ 10) (hn : t ≠ []) : pst t i out = ([], 90, (i : Int) + 1) := by
  unfold pst
  rw [lines_open t h]
  simp [parseGo, hn]
theorem pst_line (w t : List UInt8) (i : Nat) (out : List Rc) (h : ∀ b ∈ w, b ≠ 10) : pst (w ++ 10 :: t) i out = match recOf w with | none => ([], 90, (i : Int) + 1) | some r => pst t (i + 1) (out ++ [r]) := by
  unfold pst
  rw [lines_word w t h]
  cases hr : recOf w with
  | none => simp [parseGo, hr]
  | some r =>
    have e : parseGo (w :: (linesL t).1) i out = parseGo (linesL t).1 (i + 1) (out ++ [r]) := by simp only [parseGo, hr]
    simp only [e, List.length_cons]
    split
    · rfl
    · split
      · rfl
      · congr 2
        push_cast
        omega
theorem idx10 (l : List UInt8) : (Lib.index l [10] = -1 ∧ ∀ b ∈ l, b ≠ 10) ∨ ∃ a b, l = a ++ 10 :: b ∧ (∀ x ∈ a, x ≠ 10) ∧ Lib.index l [10] = (a.length : Int) := by
  induction l with
  | nil => exact .inl ⟨rfl, fun b hb => by simp at hb⟩
  | cons c l ih =>
    by_cases hc : c = 10
    · subst hc
      exact .inr ⟨[], l, rfl, fun x hx => by simp at hx, by unfold Lib.index; rw [if_pos (by simp [List.isPrefixOf])]; rfl⟩
    · have hp : ¬ (([10] : List UInt8).isPrefixOf (c :: l)) = true := by simp [List.isPrefixOf]; exact fun e => hc e.symm
      have hi : Lib.index (c :: l) [10] = if Lib.index l [10] == -1 then -1 else Lib.index l [10] + 1 := by
        conv => lhs; unfold Lib.index
        rw [if_neg hp]
      rcases ih with ⟨h1, h2⟩ | ⟨a, b, h1, h2, h3⟩
      · refine .inl ⟨by rw [hi, h1]; rfl, fun x hx => ?_⟩
        rcases List.mem_cons.1 hx with e | e
        · rw [e]; exact hc
        · exact h2 x e
      · refine .inr ⟨c :: a, b, by rw [h1]; rfl, fun x hx => ?_, ?_⟩
        · rcases List.mem_cons.1 hx with e | e
          · rw [e]; exact hc
          · exact h2 x e
        · rw [hi, h3, if_neg (by simp)]
          simp
theorem cut10 (l : List UInt8) : ((∀ b ∈ l, b ≠ 10) ∧ Lib.cut l [10] = (l, [], false)) ∨ ∃ a b, l = a ++ 10 :: b ∧ (∀ x ∈ a, x ≠ 10) ∧ Lib.cut l [10] = (a, b, true) := by
  rcases idx10 l with ⟨h1, h2⟩ | ⟨a, b, h1, h2, h3⟩
  · exact .inl ⟨h2, by unfold Lib.cut; rw [h1, if_neg (by decide)]⟩
  · refine .inr ⟨a, b, h1, h2, ?_⟩
    unfold Lib.cut
    rw [h3, if_pos (by omega), Int.toNat_natCast, h1]
    simp
/-- The variable that Go's library looks at stands. -/
def Tq (w : World) : Prop := ∃ m, w.cell? ⟨1, 0, none⟩ = some (.int .i64 m)
theorem Tq.below {w y : World} (h : Tq w) (hb : Below w.heap.size w y) : Tq y := by
  obtain ⟨m, hm⟩ := h
  exact ⟨m, (hb.cell (p := ⟨1, 0, none⟩) (World.block_lt_of_cell? w _ hm)).trans hm⟩
/-- strings.Cut at a line feed. -/
theorem cutl_any (w : World) (tb : Tq w) (s : ByteArray) (hs : s.size ≤ 1000000) :
    Calls Tryd.prog 36 #[.string s, .string ⟨#[10]⟩] w fun e w' => ∃ a b f, e = .returned (.tuple #[.string a, .string b, .bool f]) ∧ Hid ((f = false ∧ a = s ∧ (∀ x ∈ strL s, x ≠ 10)) ∨ (f = true ∧ strL s = strL a ++ 10 :: strL b ∧ (∀ x ∈ strL a, x ≠ 10) ∧ a.size + b.size + 1 = s.size)) ∧ Hid (Below w.heap.size w w') := by
  obtain ⟨m, hm⟩ := tb
  refine (Tryd.strings_Cut s ⟨#[10]⟩ m w (by omega) hm).mono ?_
  rintro e w' ⟨rfl, n, rfl⟩
  refine ⟨_, _, _, rfl, ?_, ⟨rfl, rfl, rfl, Nat.le_refl _, fun _ _ => rfl⟩⟩
  rcases cut10 (strL s) with ⟨h1, h2⟩ | ⟨a, b, h1, h2, h3⟩
  · rw [show Lib.cut s.data.toList (ByteArray.mk #[10]).data.toList = _ from h2]
    exact .inl ⟨rfl, strL_mk s, h1⟩
  · rw [show Lib.cut s.data.toList (ByteArray.mk #[10]).data.toList = _ from h3]
    refine .inr ⟨rfl, by simpa [strL] using h1, by simpa [strL] using h2, ?_⟩
    have := congrArg List.length h1
    rw [strL_len] at this
    rw [this]
    show a.length + b.length + 1 = _
    simp
    omega
theorem split_lib (l : List UInt8) : Lib.splitK [32] 0 (Lib.count l [32]) l = splitW l := by
  have hne : ([32] : List UInt8) ≠ [] := by simp
  induction l with
  | nil => rfl
  | cons b l ih =>
    rw [splitW_cons]
    by_cases hb : b = 32
    · rw [if_pos hb]
      subst hb
      have hi : Lib.index (32 :: l) [32] = (0 : Nat) := by unfold Lib.index; rw [if_pos (by simp [List.isPrefixOf])]; rfl
      rw [Lib.count_hit hne hi, Nat.add_comm]
      unfold Lib.splitK
      rw [hi, if_neg (by decide)]
      show [] :: Lib.splitK [32] 0 (Lib.count l [32]) l = _
      rw [ih]
    · rw [if_neg hb]
      have hp : ¬ (([32] : List UInt8).isPrefixOf (b :: l)) = true := by simp [List.isPrefixOf]; exact fun e => hb e.symm
      have hi : Lib.index (b :: l) [32] = if Lib.index l [32] == -1 then -1 else Lib.index l [32] + 1 := by conv => lhs; unfold Lib.index
                                                                                                            rw [if_neg hp]
      by_cases hm : Lib.index l [32] = -1
      · rw [if_pos (beq_iff_eq.2 hm)] at hi
        rw [Lib.count_miss hm] at ih
        rw [Lib.count_miss hi, ← ih]
        rfl
      · rw [if_neg (fun e => hm (beq_iff_eq.1 e))] at hi
        have hg := Lib.index_ge l [32]
        obtain ⟨i, hj⟩ : ∃ i : Nat, Lib.index l [32] = i := ⟨(Lib.index l [32]).toNat, by omega⟩
        rw [hj] at hi
        have hi' : Lib.index (b :: l) [32] = ((i + 1 : Nat) : Int) := by rw [hi]; rfl
        rw [Lib.count_hit hne hj, Nat.add_comm] at ih
        rw [Lib.count_hit hne hi', Nat.add_comm]
        unfold Lib.splitK at ih ⊢
        rw [hj, if_neg (by simp)] at ih
        rw [hi', if_neg (by simp; omega), ← ih]
        rfl
theorem split_bytes (s : ByteArray) : (Lib.splitB ⟨#[32]⟩ 0 (Lib.countB s ⟨#[32]⟩) s).map (·.data.toList) = splitW s.data.toList := by
  rw [Lib.splitB_data]
  exact split_lib s.data.toList
theorem split_any (w : World) (tb : Tq w) (s : ByteArray) (hs : s.size ≤ 1000000) :
    Calls Tryd.prog 72 #[.string s, .string ⟨#[32]⟩] w fun e w' => ∃ ws : List ByteArray, e = .returned (.slice (some ⟨w.heap.size, 0, none⟩) ws.length ws.length) ∧ w' = w.alloc (.cells (ws.map Value.string).toArray 9) ∧ ws.map strL = splitW (strL s) := by
  obtain ⟨m, hm⟩ := tb
  refine (Tryd.strings_Split s ⟨#[32]⟩ m w (by omega) hm (by decide)).mono ?_
  rintro e w' ⟨rfl, rfl⟩
  have hd := split_bytes s
  have hl : (Lib.splitB ⟨#[32]⟩ 0 (Lib.countB s ⟨#[32]⟩) s).length = Lib.countB s ⟨#[32]⟩ + 1 := by
    have h1 := congrArg List.length hd
    rw [List.length_map] at h1
    rw [h1]
    have key : ∀ l : List UInt8, (splitW l).length = Lib.count l [32] + 1 := by
      intro l
      have hne : ([32] : List UInt8) ≠ [] := by simp
      rw [← split_lib l]
      have gen : ∀ (f : Nat) (l : List UInt8), l.length < f → (Lib.splitK [32] 0 (Lib.count l [32]) l).length = Lib.count l [32] + 1 := by
        intro f
        induction f with
        | zero => intro l h; omega
        | succ f ih =>
          intro l h
          by_cases hm : Lib.index l [32] = -1
          · rw [Lib.count_miss hm]; rfl
          · have hg := Lib.index_ge l [32]
            obtain ⟨i, hj⟩ : ∃ i : Nat, Lib.index l [32] = i := ⟨(Lib.index l [32]).toNat, by omega⟩
            have hr := Lib.index_room l [32] (by omega)
            rw [Lib.count_hit hne hj, Nat.add_comm 1]
            unfold Lib.splitK
            rw [if_neg (by rw [hj]; simp), hj, Int.toNat_natCast, List.length_cons, ih _ (by rw [List.length_drop]; simp at hr ⊢; omega)]
      exact gen _ l (Nat.lt_succ_self _)
    exact key _
  exact ⟨Lib.splitB ⟨#[32]⟩ 0 (Lib.countB s ⟨#[32]⟩) s, by rw [hl], rfl, hd⟩
end Go.Proofs.YtoajmicdphffnaaDoor
