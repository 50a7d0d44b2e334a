/- A script as text, and back. -/
import Derived.Test.YthpahpfnpapoiaaDoorXo
import Derived.Test.YthpahpfnpapoiaaDoorXd
namespace Go.Proofs.YthpahpfnpapoiaaDoor
open Go Go.RowKit
set_option linter.unusedVariables false
set_option maxHeartbeats 400000

/-- A byte of a word: no blank, no line feed. -/
def plainB (b : UInt8) : Prop := b ≠ 32 ∧ b ≠ 10
theorem plain_big (b : UInt8) (h : 48 ≤ b.toNat) : plainB b := by
  refine ⟨fun e => ?_, fun e => ?_⟩ <;> subst e <;> exact absurd h (by decide)
def plainW (ws : List (List UInt8)) : Prop := ∀ w ∈ ws, ∀ b ∈ w, plainB b
theorem plainW.app {a b : List (List UInt8)} (h : plainW a) (k : plainW b) : plainW (a ++ b) := fun w hw => by
  rcases List.mem_append.1 hw with h1 | h1
  · exact h w h1
  · exact k w h1
theorem plain_if (p : Prop) [Decidable p] (l : List (List UInt8)) (h : plainW l) : plainW (if p then l else []) := by
  split
  · exact h
  · intro w hw; simp at hw
theorem word_big (w : List UInt8) (h : ∀ b ∈ w, 48 ≤ b.toNat) : plainW [w] := fun v hv b hb => by
  have e := List.mem_singleton.1 hv
  subst e
  exact plain_big b (h b hb)
theorem rest_plain (a : At) : plainW (restW a) := by
  unfold restW
  have hx : ∀ D N, plainW [hexL D N] := fun D N => word_big _ fun b hb => (hex_byte D N b hb).1
  have two : ∀ u v : List UInt8, plainW [u] → plainW [v] → plainW [u, v] := fun u v h1 h2 => plainW.app (a := [u]) h1 h2
  refine (plain_if _ _ (two _ _ (word_big _ (by decide)) (hx _ _))).app ((plain_if _ _ (word_big _ (by decide))).app ((plain_if _ _ (word_big _ (by decide))).app ((plain_if _ _ (word_big _ (by decide))).app ((plain_if _ _ (word_big _ (by decide))).app ((plain_if _ _ (word_big _ (by decide))).app ((plain_if _ _ (word_big _ (by decide))).app ((plain_if _ _ (word_big _ (by decide))).app (plain_if _ _ (two _ _ (word_big _ (by decide)) (hx _ _))))))))))
theorem joinT_if (p : Prop) [Decidable p] (l : List (List UInt8)) (n : Nat) (h : (joinT l).length ≤ n) : (joinT (if p then l else [])).length ≤ n := by
  split
  · exact h
  · simp [joinT]
theorem rest_len (a : At) : (joinT (restW a)).length ≤ 49 := by
  unfold restW
  simp only [joinT_app, List.length_append]
  have h1 := joinT_if (a.Ke ≠ 0) [wKeys, hexL 4 a.Ke.toNat] 10 (by simp [joinT, hexL_len, wKeys])
  have h2 := joinT_if (a.Ta = true) [wTape] 5 (by decide)
  have h3 := joinT_if (a.Fl = true) [wFlag] 5 (by decide)
  have h4 := joinT_if (a.DI = true) [wIn] 3 (by decide)
  have h5 := joinT_if (a.DO = true) [wOut] 4 (by decide)
  have h6 := joinT_if (a.In = true) [wInt] 4 (by decide)
  have h7 := joinT_if (a.Cl = true) [wClear] 6 (by decide)
  have h8 := joinT_if (a.Wa = true) [wWait] 5 (by decide)
  have h9 := joinT_if (a.Bu ≠ 0) [wBus, hexL 2 a.Bu.toNat] 7 (by simp [joinT, hexL_len, wBus])
  omega
theorem span_line {s : Sn} (g : Good s) : spanOf (lineL s) = some s ∧ (lineL s).length ≤ 56 ∧ ∀ b ∈ lineL s, b ≠ 10 := by
  obtain ⟨d1, d2, d3⟩ := itoa_dec s.c g.c0 g.c1
  have hr := rest_plain s.a
  have hl := rest_len s.a
  have hs : splitW (lineL s) = Lib.itoa s.c :: restW s.a := split_join (restW s.a) _ (fun b hb => (plain_big b (d3 b hb).1).1) (fun w hw b hb => (hr w hw b hb).1)
  have hread : readS (splitW (lineL s)) = s := by
    rw [hs]
    show (⟨decS (Lib.itoa s.c), readGo (restW s.a) zA⟩ : Sn) = s
    rw [d1, read_rest s.a g.k0 g.k1 g.b0 g.b1]
  have hlen : (lineL s).length ≤ 56 := by unfold lineL; rw [List.length_append]; omega
  refine ⟨?_, hlen, ?_⟩
  · unfold spanOf
    rw [if_neg (by omega), hread, if_pos]
    have := g.c0
    have := g.c1
    simp [spanB]
    omega
  · intro b hb
    unfold lineL at hb
    rcases List.mem_append.1 hb with h | h
    · exact (plain_big b (d3 b h).1).2
    · have key : ∀ ws : List (List UInt8), plainW ws → ∀ b ∈ joinT ws, b ≠ 10 := by
        intro ws
        induction ws with
        | nil => intro _ b hb; simp [joinT] at hb
        | cons w ws ih =>
          intro hw b hb
          simp only [joinT, List.mem_cons, List.mem_append] at hb
          rcases hb with h | h | h
          · subst h; decide
          · exact (hw w (by simp) b h).2
          · exact ih (fun v hv => hw v (by simp [hv])) b h
      exact key _ hr b h
theorem hexV_range (r : List (List UInt8)) : 0 ≤ hexV r ∧ hexV r ≤ 65535 := by
  unfold hexV
  split
  · exact ⟨Int.le_refl _, by decide⟩
  · split
    · rename_i n hn
      split
      · rename_i h
        refine ⟨?_, h⟩
        unfold numOf at hn
        split at hn
        · exact (numGo_le _ 0 n (Int.le_refl _) hn).1
        · cases hn
      · exact ⟨Int.le_refl _, by decide⟩
    · exact ⟨Int.le_refl _, by decide⟩
theorem read_range (ws : List (List UInt8)) : ∀ a : At, (0 ≤ a.Ke ∧ a.Ke ≤ 65535 ∧ 0 ≤ a.Bu ∧ a.Bu ≤ 255) → (0 ≤ (readGo ws a).Ke ∧ (readGo ws a).Ke ≤ 65535 ∧ 0 ≤ (readGo ws a).Bu ∧ (readGo ws a).Bu ≤ 255) := by
  induction ws with
  | nil => intro a h; exact h
  | cons w ws ih =>
    intro a h
    refine ih _ ?_
    have hx := hexV_range ws
    unfold stepW
    (repeat' split) <;> (try dsimp only) <;> omega
theorem span_some {line : List UInt8} {s : Sn} (h : spanOf line = some s) : lineL s = line ∧ Good s := by
  unfold spanOf at h
  split at h
  · cases h
  · split at h
    · rename_i h1 h2
      have e : readS (splitW line) = s := Option.some.inj h
      rw [e] at h2
      simp [spanB] at h2
      refine ⟨h2.2, ?_⟩
      obtain ⟨w, r, hs, _⟩ := join_split line
      rw [hs] at e
      have hr := read_range r zA (by decide)
      have ea : s.a = readGo r zA := by rw [← e]; rfl
      rw [← ea] at hr
      exact ⟨h2.1.1, h2.1.2, hr.1, hr.2.1, hr.2.2.1, hr.2.2.2⟩
    · cases h
/-- A text's lines, and what stands behind the last line feed. -/
def linesL : List UInt8 → List (List UInt8) × List UInt8
  | [] => ([], [])
  | b :: l => if b = 10 then ([] :: (linesL l).1, (linesL l).2) else match linesL l with | (w :: r, t) => ((b :: w) :: r, t) | ([], t) => ([], b :: t)
theorem linesL_cons (b : UInt8) (l : List UInt8) : linesL (b :: l) = if b = 10 then ([] :: (linesL l).1, (linesL l).2) else match linesL l with | (w :: r, t) => ((b :: w) :: r, t) | ([], t) => ([], b :: t) := rfl
theorem lines_word (w : List UInt8) : ∀ l, (∀ b ∈ w, b ≠ 10) → linesL (w ++ 10 :: l) = (w :: (linesL l).1, (linesL l).2) := by
  induction w with
  | nil => intro l _; rw [List.nil_append, linesL_cons, if_pos rfl]
  | cons b w ih =>
    intro l hw
    rw [List.cons_append, linesL_cons, if_neg (hw b (by simp)), ih l (fun c hc => hw c (by simp [hc]))]
def unlines : List (List UInt8) → List UInt8
  | [] => []
  | w :: r => w ++ 10 :: unlines r
theorem lines_un (l : List UInt8) : unlines (linesL l).1 ++ (linesL l).2 = l := by
  induction l with
  | nil => rfl
  | cons b l ih =>
    rw [linesL_cons]
    by_cases hb : b = 10
    · rw [if_pos hb]
      subst hb
      simp only [unlines, List.nil_append, List.cons_append, ih]
    · rw [if_neg hb]
      rcases hx : linesL l with ⟨ws, t⟩
      rw [hx] at ih
      cases ws with
      | nil => simp only [unlines, List.nil_append] at ih ⊢; rw [ih]
      | cons w r => simp only [unlines, List.cons_append] at ih ⊢; rw [ih]
def printL : List Sn → List UInt8
  | [] => []
  | s :: l => lineL s ++ 10 :: printL l
theorem printL_app (a b : List Sn) : printL (a ++ b) = printL a ++ printL b := by
  induction a with
  | nil => rfl
  | cons s a ih => simp only [List.cons_append, printL, ih, List.append_assoc]
/-- Lines read one by one. -/
def parseGo : List (List UInt8) → Nat → Int → List Sn → List Sn × Int × Int
  | [], i, n, out => (out, 0, 0)
  | x :: r, i, n, out => match spanOf x with
    | none => ([], 71, (i : Int) + 1)
    | some s => if 4194304 < n + s.c then ([], 70, (i : Int) + 1) else parseGo r (i + 1) (n + s.c) (out ++ [s])
def manyL (t : List UInt8) : Nat := (linesL t).1.length + (if (linesL t).2 = [] then 0 else 1)
def parseS (t : List UInt8) : List Sn × Int × Int :=
  if 65536 < t.length then ([], 2, 0) else if 4096 < manyL t then ([], 2, 0)
  else if (parseGo (linesL t).1 0 0 []).2.1 ≠ 0 then parseGo (linesL t).1 0 0 [] else if (linesL t).2 = [] then parseGo (linesL t).1 0 0 [] else ([], 71, (manyL t : Int))
def AllG (l : List Sn) : Prop := ∀ s ∈ l, Good s
theorem lines_print (l : List Sn) (h : AllG l) : linesL (printL l) = (l.map lineL, []) := by
  induction l with
  | nil => rfl
  | cons s l ih =>
    simp only [printL]
    rw [lines_word _ _ (span_line (h s (by simp))).2.2, ih (fun t ht => h t (by simp [ht]))]
    rfl
theorem parse_go (l : List Sn) : ∀ (i : Nat) (n : Int) (out : List Sn), AllG l → n + sumC l ≤ 4194304 → parseGo (l.map lineL) i n out = (out ++ l, 0, 0) := by
  induction l with
  | nil => intro i n out _ _; simp [parseGo]
  | cons s l ih =>
    intro i n out h hs
    simp only [sumC] at hs
    have hp : 0 ≤ sumC l := by
      have : ∀ l : List Sn, AllG l → 0 ≤ sumC l := by
        intro l
        induction l with
        | nil => intro _; exact Int.le_refl _
        | cons t l ih => intro h; have := ih (fun x hx => h x (by simp [hx])); have := (h t (by simp)).c0; simp only [sumC]; omega
      exact this l (fun t ht => h t (by simp [ht]))
    simp only [List.map_cons, parseGo, (span_line (h s (by simp))).1]
    rw [if_neg (by omega), ih _ _ _ (fun t ht => h t (by simp [ht])) (by omega), List.append_assoc]
    rfl
/-- What is printed is read as it was. -/
theorem parse_print (l : List Sn) (h : AllG l) (hc : checkS l = 0) (hl : (printL l).length ≤ 65536) : parseS (printL l) = (l, 0, 0) := by
  obtain ⟨k1, k2, k3⟩ := check_ok hc
  have e := lines_print l h
  have g := parse_go l 0 0 [] h (by omega)
  unfold parseS manyL
  rw [if_neg (by omega), e, if_neg (by simp; omega), g]
  simp
theorem parse_back (ls : List (List UInt8)) : ∀ (i : Nat) (n : Int) (out m : List Sn) (a : Int), n ≤ 4194304 → parseGo ls i n out = (m, 0, a) → a = 0 ∧ ∃ x, m = out ++ x ∧ AllG x ∧ printL x = unlines ls ∧ x.length = ls.length ∧ n + sumC x ≤ 4194304 := by
  induction ls with
  | nil =>
    intro i n out m a hn h
    simp only [parseGo] at h
    cases h
    exact ⟨rfl, [], by simp, fun s hs => by simp at hs, rfl, rfl, by simp only [sumC]; omega⟩
  | cons w ls ih =>
    intro i n out m a hn h
    simp only [parseGo] at h
    split at h
    · cases h
    · rename_i s hs
      split at h
      · cases h
      · obtain ⟨h0, x, e1, e2, e3, e4, e5⟩ := ih _ _ _ _ _ (by omega) h
        obtain ⟨l1, l2⟩ := span_some hs
        refine ⟨h0, s :: x, by rw [e1]; simp, fun t ht => ?_, by simp only [printL, unlines, l1, e3], by simp [e4], by simp only [sumC]; omega⟩
        rcases List.mem_cons.1 ht with rfl | ht
        · exact l2
        · exact e2 t ht
/-- What is read is printed as it was. -/
theorem print_parse (t : List UInt8) (m : List Sn) (a : Int) (h : parseS t = (m, 0, a)) : a = 0 ∧ AllG m ∧ checkS m = 0 ∧ printL m = t ∧ t.length ≤ 65536 := by
  unfold parseS at h
  split at h
  · cases h
  · rename_i h1
    split at h
    · cases h
    · rename_i h2
      split at h
      · rename_i h3
        rw [h] at h3
        exact absurd rfl h3
      · split at h
        · rename_i h4
          obtain ⟨h0, x, e1, e2, e3, e4, e5⟩ := parse_back _ _ _ _ _ _ (by decide) h
          rw [List.nil_append] at e1
          subst e1
          have hun := lines_un t
          rw [h4, List.append_nil] at hun
          refine ⟨h0, e2, ?_, by rw [e3, hun], by omega⟩
          have hin : inB m = true := by
            have : ∀ l : List Sn, AllG l → inB l = true := by
              intro l
              induction l with
              | nil => intro _; rfl
              | cons s l ih => intro h; have g := h s (by simp); simp [inB, ih (fun t ht => h t (by simp [ht])), g.c0, g.c1]
            exact this m e2
          unfold checkS
          unfold manyL at h2
          rw [h4] at h2
          rw [if_neg (by simp at h2; omega), if_pos ⟨hin, by omega⟩]
        · cases h
theorem parse_bad (t : List UInt8) (m : List Sn) (e a : Int) (h : parseS t = (m, e, a)) (he : e ≠ 0) : m = [] ∧ 0 ≤ a := by
  have key : ∀ (ls : List (List UInt8)) (i : Nat) (n : Int) (out m : List Sn) (e a : Int), parseGo ls i n out = (m, e, a) → e ≠ 0 → m = [] ∧ 0 ≤ a := by
    intro ls
    induction ls with
    | nil => intro i n out m e a h he; simp only [parseGo] at h; cases h; exact absurd rfl he
    | cons w ls ih =>
      intro i n out m e a h he
      simp only [parseGo] at h
      split at h
      · cases h; exact ⟨rfl, by omega⟩
      · split at h
        · cases h; exact ⟨rfl, by omega⟩
        · exact ih _ _ _ _ _ _ h he
  unfold parseS at h
  split at h
  · cases h; exact ⟨rfl, Int.le_refl _⟩
  · split at h
    · cases h; exact ⟨rfl, Int.le_refl _⟩
    · split at h
      · exact key _ _ _ _ _ _ _ h he
      · split at h
        · exact key _ _ _ _ _ _ _ h he
        · cases h; exact ⟨rfl, by omega⟩
end Go.Proofs.YthpahpfnpapoiaaDoor
