/- A line's words read part by part, as the program does it: the same spans as the document's. -/
import Derived.Test.YthpahpfnpapoiaaDoorXq
import Derived.Lib.AtoiAll
import Derived.Lib.Split
namespace Go.Proofs.YthpahpfnpapoiaaDoor
open Go Go.RowKit
set_option linter.unusedVariables false
set_option maxHeartbeats 400000

/-- The parts: a word, and how many digits stand behind it. -/
def partsL : List (List UInt8 × Nat) := [(wKeys, 4), (wTape, 0), (wFlag, 0), (wIn, 0), (wOut, 0), (wInt, 0), (wClear, 0), (wWait, 0), (wBus, 2)]
def pieceW (p : List UInt8 × Nat) (v : Int) : List (List UInt8) := if v = 0 then [] else if p.2 = 0 then [p.1] else [p.1, hexL p.2 v.toNat]
def piecesW : List (List UInt8 × Nat) → List Int → List (List UInt8)
  | p :: ps, v :: vs => pieceW p v ++ piecesW ps vs
  | [], _ => []
  | _ :: _, [] => []
/-- What so many digits are worth; 0: there are none. -/
def numD (D : Nat) (r : List (List UInt8)) : Int := match r with
  | [] => 0
  | x :: _ => if x.length = D then numV ⟨x.toArray⟩ else 0
def scanW : List (List UInt8 × Nat) → List (List UInt8) → Option (List Int)
  | [], ws => if ws = [] then some [] else none
  | _ :: ps, [] => (scanW ps []).map (0 :: ·)
  | p :: ps, x :: r => if x ≠ p.1 then (scanW ps (x :: r)).map (0 :: ·) else if p.2 = 0 then (scanW ps r).map (1 :: ·) else if numD p.2 r = 0 then none else (scanW ps (r.drop 1)).map (numD p.2 r :: ·)
def OkV : List (List UInt8 × Nat) → List Int → Prop
  | [], [] => True
  | p :: ps, v :: vs => (0 ≤ v ∧ v < (if p.2 = 0 then 2 else 16 ^ p.2)) ∧ OkV ps vs
  | [], _ :: _ => False
  | _ :: _, [] => False
theorem numD_some {D : Nat} (hD : 1 ≤ D ∧ D ≤ 8) {r : List (List UInt8)} (h : numD D r ≠ 0) : ∃ r', r = hexL D (numD D r).toNat :: r' ∧ 0 ≤ numD D r ∧ numD D r < 16 ^ D := by
  cases r with
  | nil => exact absurd rfl h
  | cons x r =>
    unfold numD at h ⊢
    dsimp only at h ⊢
    by_cases hl : x.length = D
    · rw [if_pos hl] at h ⊢
      have hs : (ByteArray.mk x.toArray).size = D := by show x.toArray.size = D; simp [hl]
      unfold numV numOf at h ⊢
      rw [if_pos (by rw [hs]; exact hD)] at h ⊢
      cases hg : numGo (ByteArray.mk x.toArray).data.toList 0 with
      | none => rw [hg] at h; exact absurd rfl h
      | some v =>
        have hg' : numGo x 0 = some v := hg
        have h1 := hexL_numGo x v hg'
        have h2 := numGo_le x 0 v (Int.le_refl _) hg'
        rw [hl] at h1 h2
        exact ⟨r, by simp only [Option.getD_some]; rw [h1], h2.1, by simpa using h2.2⟩
    · rw [if_neg hl] at h
      exact absurd rfl h
theorem numD_hex (D N : Nat) (hD : 1 ≤ D ∧ D ≤ 8) (hN : N < 16 ^ D) (r : List (List UInt8)) : numD D (hexL D N :: r) = (N : Int) := by
  unfold numD
  dsimp only
  rw [if_pos (hexL_len D N)]
  have hs : (ByteArray.mk (hexL D N).toArray).size = D := by show (hexL D N).toArray.size = D; simp [hexL_len]
  unfold numV numOf
  rw [if_pos (by rw [hs]; exact hD)]
  have hg : numGo (ByteArray.mk (hexL D N).toArray).data.toList 0 = some (N : Int) := numGo_hexL D N hN
  rw [hg]
  rfl
theorem scan_some : ∀ (ps : List (List UInt8 × Nat)), (∀ p ∈ ps, p.2 ≤ 8) → ∀ ws vs, scanW ps ws = some vs → ws = piecesW ps vs ∧ OkV ps vs
  | [], _, ws, vs, h => by
    unfold scanW at h
    split at h
    · rename_i e
      cases h
      exact ⟨e, trivial⟩
    · cases h
  | p :: ps, hd, [], vs, h => by
    unfold scanW at h
    obtain ⟨us, hu, e⟩ := Option.map_eq_some_iff.1 h
    subst e
    have ih := scan_some ps (fun q hq => hd q (by simp [hq])) [] us hu
    refine ⟨?_, ⟨Int.le_refl _, ?_⟩, ih.2⟩
    · unfold piecesW pieceW
      rw [if_pos rfl]
      exact ih.1
    · split
      · decide
      · exact Int.pow_pos (by decide)
  | p :: ps, hd, x :: r, vs, h => by
    unfold scanW at h
    have hp : p.2 ≤ 8 := hd p (by simp)
    split at h
    · obtain ⟨us, hu, e⟩ := Option.map_eq_some_iff.1 h
      subst e
      have ih := scan_some ps (fun q hq => hd q (by simp [hq])) _ us hu
      refine ⟨?_, ⟨Int.le_refl _, ?_⟩, ih.2⟩
      · unfold piecesW pieceW
        rw [if_pos rfl]
        exact ih.1
      · split
        · decide
        · exact Int.pow_pos (by decide)
    · rename_i hx
      have hx : x = p.1 := Decidable.not_not.1 hx
      split at h
      · rename_i h0
        obtain ⟨us, hu, e⟩ := Option.map_eq_some_iff.1 h
        subst e
        have ih := scan_some ps (fun q hq => hd q (by simp [hq])) _ us hu
        refine ⟨?_, ⟨by decide, by rw [if_pos h0]; decide⟩, ih.2⟩
        unfold piecesW pieceW
        rw [if_neg (by decide), if_pos h0, ih.1, hx]
        rfl
      · rename_i h0
        split at h
        · cases h
        · rename_i hv
          obtain ⟨us, hu, e⟩ := Option.map_eq_some_iff.1 h
          subst e
          have ih := scan_some ps (fun q hq => hd q (by simp [hq])) _ us hu
          obtain ⟨r', e1, e2, e3⟩ := numD_some (D := p.2) ⟨by omega, hp⟩ hv
          refine ⟨?_, ⟨e2, by rw [if_neg h0]; exact e3⟩, ih.2⟩
          unfold piecesW pieceW
          rw [if_neg hv, if_neg h0, ← ih.1, hx]
          generalize numD p.2 r = v at e1
          subst e1
          rfl
theorem pieces_head (ps : List (List UInt8 × Nat)) : ∀ vs x r, piecesW ps vs = x :: r → x ∈ ps.map Prod.fst := by
  induction ps with
  | nil => intro vs x r h; simp [piecesW] at h
  | cons p ps ih =>
    intro vs x r h
    cases vs with
    | nil => simp [piecesW] at h
    | cons v vs =>
      unfold piecesW pieceW at h
      split at h
      · exact List.mem_cons_of_mem _ (ih vs x r h)
      · split at h
        · simp only [List.cons_append, List.cons.injEq] at h
          rw [← h.1]; simp
        · simp only [List.cons_append, List.cons.injEq] at h
          rw [← h.1]; simp
theorem scan_pieces : ∀ (ps : List (List UInt8 × Nat)), (∀ p ∈ ps, p.2 ≤ 8) → (ps.map Prod.fst).Nodup → ∀ vs, OkV ps vs → scanW ps (piecesW ps vs) = some vs
  | [], _, _, [], _ => by simp [piecesW, scanW]
  | [], _, _, _ :: _, h => h.elim
  | _ :: _, _, _, [], h => h.elim
  | p :: ps, hd, hn, v :: vs, h => by
    have hp : p.2 ≤ 8 := hd p (by simp)
    have hn' : p.1 ∉ ps.map Prod.fst ∧ (ps.map Prod.fst).Nodup := by simpa using hn
    have ih := scan_pieces ps (fun q hq => hd q (by simp [hq])) hn'.2 vs h.2
    unfold piecesW pieceW
    by_cases hv : v = 0
    · rw [if_pos hv, List.nil_append]
      cases hw : piecesW ps vs with
      | nil =>
        rw [hw] at ih
        unfold scanW
        rw [ih, hv]
        rfl
      | cons x r =>
        have hx : x ≠ p.1 := fun e => hn'.1 (e ▸ pieces_head ps vs x r hw)
        rw [hw] at ih
        unfold scanW
        rw [if_pos hx, ih, hv]
        rfl
    · rw [if_neg hv]
      by_cases h0 : p.2 = 0
      · have h1 := h.1
        rw [if_pos h0] at h1 ⊢
        have e : v = 1 := by omega
        show scanW (p :: ps) (p.1 :: piecesW ps vs) = _
        unfold scanW
        rw [if_neg (by simp), if_pos h0, ih, e]
        rfl
      · have h1 := h.1
        rw [if_neg h0] at h1 ⊢
        have hN : v.toNat < 16 ^ p.2 := by
          have : ((v.toNat : Int)) < ((16 ^ p.2 : Nat) : Int) := by rw [Int.toNat_of_nonneg h1.1]; push_cast; exact h1.2
          omega
        have hx := numD_hex p.2 v.toNat ⟨by omega, hp⟩ hN (piecesW ps vs)
        have hx' : numD p.2 (hexL p.2 v.toNat :: piecesW ps vs) = v := by rw [hx]; omega
        show scanW (p :: ps) (p.1 :: hexL p.2 v.toNat :: piecesW ps vs) = _
        unfold scanW
        rw [if_neg (by simp), if_neg h0, hx', if_neg hv]
        show Option.map _ (scanW ps (piecesW ps vs)) = _
        rw [ih]
        rfl
def oneV (b : Bool) : Int := if b then 1 else 0
/-- What each part of a span is worth. -/
def worV (a : At) : List Int := [a.Ke, oneV a.Ta, oneV a.Fl, oneV a.DI, oneV a.DO, oneV a.In, oneV a.Cl, oneV a.Wa, a.Bu]
def atV (vs : List Int) : At := ⟨vs.getD 0 0, vs.getD 1 0 != 0, vs.getD 2 0 != 0, vs.getD 3 0 != 0, vs.getD 4 0 != 0, vs.getD 5 0 != 0, vs.getD 6 0 != 0, vs.getD 7 0 != 0, vs.getD 8 0⟩
theorem atV_wor (a : At) : atV (worV a) = a := by
  obtain ⟨ke, ta, fl, di, d2, i2, cl, wa, bu⟩ := a
  cases ta <;> cases fl <;> cases di <;> cases d2 <;> cases i2 <;> cases cl <;> cases wa <;> rfl
theorem piece_one (w : List UInt8) (b : Bool) : pieceW (w, 0) (oneV b) = if b then [w] else [] := by cases b <;> rfl
theorem piece_hex (w : List UInt8) (D : Nat) (v : Int) : pieceW (w, D + 1) v = if v ≠ 0 then [w, hexL (D + 1) v.toNat] else [] := by
  unfold pieceW
  by_cases h : v = 0
  · rw [if_pos h, if_neg (by simp [h])]
  · rw [if_neg h, if_neg (by simp), if_pos h]
theorem rest_pieces (a : At) : restW a = piecesW partsL (worV a) := by
  unfold restW partsL worV
  simp only [piecesW, piece_one, List.append_nil]
  rw [piece_hex wKeys 3, piece_hex wBus 1]
theorem ok_wor (a : At) (k0 : 0 ≤ a.Ke) (k1 : a.Ke ≤ 65535) (b0 : 0 ≤ a.Bu) (b1 : a.Bu ≤ 255) : OkV partsL (worV a) := by
  have h : ∀ b, 0 ≤ oneV b ∧ oneV b < (if (0 : Nat) = 0 then 2 else 16 ^ 0) := fun b => by cases b <;> decide
  exact ⟨⟨k0, by show a.Ke < 65536; omega⟩, h _, h _, h _, h _, h _, h _, h _, ⟨b0, by show a.Bu < 256; omega⟩, trivial⟩
theorem one_back (v : Int) (h : 0 ≤ v ∧ v < (if (0 : Nat) = 0 then 2 else 16 ^ 0)) : oneV (v != 0) = v := by
  have h1 : v = 0 ∨ v = 1 := by have := h.1; have := h.2; simp at this; omega
  rcases h1 with rfl | rfl <;> rfl
theorem ok_at (vs : List Int) (h : OkV partsL vs) : worV (atV vs) = vs ∧ 0 ≤ (atV vs).Ke ∧ (atV vs).Ke ≤ 65535 ∧ 0 ≤ (atV vs).Bu ∧ (atV vs).Bu ≤ 255 := by
  rcases vs with _ | ⟨v0, _ | ⟨v1, _ | ⟨v2, _ | ⟨v3, _ | ⟨v4, _ | ⟨v5, _ | ⟨v6, _ | ⟨v7, _ | ⟨v8, _ | ⟨v9, vs⟩⟩⟩⟩⟩⟩⟩⟩⟩⟩
  all_goals try (simp [OkV, partsL] at h; done)
  obtain ⟨h0, h1, h2, h3, h4, h5, h6, h7, h8, _⟩ := h
  have h0' : 0 ≤ v0 ∧ v0 < 65536 := h0
  have h8' : 0 ≤ v8 ∧ v8 < 256 := h8
  refine ⟨?_, h0'.1, by show v0 ≤ 65535; omega, h8'.1, by show v8 ≤ 255; omega⟩
  show [v0, oneV (v1 != 0), oneV (v2 != 0), oneV (v3 != 0), oneV (v4 != 0), oneV (v5 != 0), oneV (v6 != 0), oneV (v7 != 0), v8] = _
  rw [one_back v1 h1, one_back v2 h2, one_back v3 h3, one_back v4 h4, one_back v5 h5, one_back v6 h6, one_back v7 h7]
/-- The cycles that a word tells; 0: none. -/
def cntW (x : List UInt8) : Int := match Lib.atoiAll x with
  | .ok v => if v < 1 ∨ 1048576 < v ∨ Lib.itoa v ≠ x then 0 else v
  | .«syntax» => 0
  | .range => 0
theorem cnt_some {x : List UInt8} (h : cntW x ≠ 0) : x = Lib.itoa (cntW x) ∧ 1 ≤ cntW x ∧ cntW x ≤ 1048576 := by
  unfold cntW at h ⊢
  split at h
  · rename_i v hv
    split at h
    · exact absurd rfl h
    · rename_i hn
      rw [if_neg hn]
      have h1 : Lib.itoa v = x := by
        by_cases e : Lib.itoa v = x
        · exact e
        · exact absurd (Or.inr (Or.inr e)) hn
      exact ⟨h1.symm, by omega, by omega⟩
  · exact absurd rfl h
  · exact absurd rfl h
theorem parse_digits (u : Nat) (hu : u < 1000000000) : Lib.parseUint10 0 (Lib.decDigits u) = .ok u := by
  have app : ∀ (l r : List UInt8) (acc v : Nat), Lib.parseUint10 acc l = .ok v → Lib.parseUint10 acc (l ++ r) = Lib.parseUint10 v r := by
    intro l
    induction l with
    | nil => intro r acc v h; simp only [Lib.parseUint10] at h; cases h; rfl
    | cons b l ih =>
      intro r acc v h
      simp only [List.cons_append, Lib.parseUint10] at h ⊢
      split at h
      · rename_i h1
        rw [if_pos h1]
        split at h
        · cases h
        · rename_i h2
          rw [if_neg h2]
          split at h
          · cases h
          · rename_i h3
            rw [if_neg h3]
            exact ih r _ v h
      · cases h
  induction u using Nat.strongRecOn with
  | _ u ih =>
    rw [Lib.decDigits]
    split
    · rename_i h
      have e : (UInt8.ofNat (48 + u)).toNat = 48 + u := by simp [UInt8.toNat_ofNat']; omega
      simp only [Lib.parseUint10, e]
      rw [if_pos (by omega), if_neg (by omega), if_neg (by omega)]
      congr 1
      omega
    · rename_i h
      have e : (UInt8.ofNat (48 + u % 10)).toNat = 48 + u % 10 := by simp [UInt8.toNat_ofNat']; omega
      rw [app _ _ _ _ (ih (u / 10) (by omega) (by omega))]
      simp only [Lib.parseUint10, e]
      rw [if_pos (by omega), if_neg (by omega), if_neg (by omega)]
      congr 1
      omega
theorem cnt_itoa (c : Int) (h0 : 1 ≤ c) (h1 : c ≤ 1048576) : cntW (Lib.itoa c) = c := by
  have e : Lib.itoa c = Lib.decDigits c.toNat := by unfold Lib.itoa; rw [if_neg (by omega)]
  have hp := parse_digits c.toNat (by omega)
  have hb := digits_byte c.toNat
  have ha : Lib.atoiAll (Lib.itoa c) = .ok c := by
    rw [e]
    cases hd : Lib.decDigits c.toNat with
    | nil => have := digits_len c.toNat; have := Lib.nDigits_pos c.toNat; rw [hd] at *; simp at *; omega
    | cons b r =>
      rw [hd] at hp hb
      have hb0 := hb b (by simp)
      unfold Lib.atoiAll
      dsimp only
      rw [if_neg (by omega)]
      unfold Lib.parseMag
      rw [if_neg (by simp), hp]
      dsimp only
      rw [if_neg (by omega), if_neg (by omega), if_neg (by omega)]
      congr 1
      omega
  unfold cntW
  rw [ha]
  dsimp only
  rw [if_neg (by simp; omega)]
/-- The span of a line's words, as the program reads it. -/
def rdW (ws : List (List UInt8)) : Option Sn := match ws with
  | [] => none
  | x :: r => if cntW x = 0 then none else (scanW partsL r).map fun vs => ⟨cntW x, atV vs⟩
theorem parts_d : ∀ p ∈ partsL, p.2 ≤ 8 := by decide
theorem parts_n : (partsL.map Prod.fst).Nodup := by decide
theorem split_line {s : Sn} (g : Good s) : splitW (lineL s) = Lib.itoa s.c :: restW s.a := by
  obtain ⟨d1, d2, d3⟩ := itoa_dec s.c g.c0 g.c1
  have hr := rest_plain s.a
  exact split_join (restW s.a) _ (fun b hb => (plain_big b (d3 b hb).1).1) (fun w hw b hb => (hr w hw b hb).1)
theorem rd_split (b : List UInt8) : rdW (splitW b) = spanOf b := by
  cases h : spanOf b with
  | some s =>
    obtain ⟨h1, g⟩ := span_some h
    rw [← h1, split_line g]
    unfold rdW
    dsimp only
    rw [cnt_itoa s.c g.c0 g.c1, if_neg (by have := g.c0; omega), rest_pieces, scan_pieces partsL parts_d parts_n _ (ok_wor s.a g.k0 g.k1 g.b0 g.b1)]
    simp only [Option.map_some, atV_wor]
  | none =>
    cases hr : rdW (splitW b) with
    | none => rfl
    | some s =>
      exfalso
      obtain ⟨x, r, e1, e2⟩ := join_split b
      rw [e1] at hr
      unfold rdW at hr
      dsimp only at hr
      split at hr
      · cases hr
      · rename_i hc
        obtain ⟨c1, c2, c3⟩ := cnt_some hc
        obtain ⟨vs, hv, e⟩ := Option.map_eq_some_iff.1 hr
        obtain ⟨p1, p2⟩ := scan_some partsL parts_d _ _ hv
        obtain ⟨a1, a2, a3, a4, a5⟩ := ok_at vs p2
        have g : Good s := by subst e; exact ⟨c2, c3, a2, a3, a4, a5⟩
        have hl : lineL s = b := by
          subst e
          unfold lineL
          dsimp only
          rw [rest_pieces, a1, ← p1, ← c1, e2]
        rw [← hl, (span_line g).1] at h
        cases h
theorem split_lib (l : List UInt8) : Lib.splitK [32] 0 (Lib.count l [32]) l = splitW l := by
  have hne : ([32] : List UInt8) ≠ [] := by simp
  induction l with
  | nil => rfl
  | cons b l ih =>
    rw [splitW_cons]
    by_cases hb : b = 32
    · rw [if_pos hb]
      subst hb
      have hi : Lib.index (32 :: l) [32] = (0 : Nat) := by unfold Lib.index; rw [if_pos (by simp [List.isPrefixOf])]; rfl
      rw [Lib.count_hit hne hi, Nat.add_comm]
      unfold Lib.splitK
      rw [hi, if_neg (by decide)]
      show [] :: Lib.splitK [32] 0 (Lib.count l [32]) l = _
      rw [ih]
    · rw [if_neg hb]
      have hp : ¬ (([32] : List UInt8).isPrefixOf (b :: l)) = true := by simp [List.isPrefixOf]; exact fun e => hb e.symm
      have hi : Lib.index (b :: l) [32] = if Lib.index l [32] == -1 then -1 else Lib.index l [32] + 1 := by conv => lhs; unfold Lib.index
                                                                                                            rw [if_neg hp]
      by_cases hm : Lib.index l [32] = -1
      · rw [if_pos (beq_iff_eq.2 hm)] at hi
        rw [Lib.count_miss hm] at ih
        rw [Lib.count_miss hi, ← ih]
        rfl
      · rw [if_neg (fun e => hm (beq_iff_eq.1 e))] at hi
        have hg := Lib.index_ge l [32]
        obtain ⟨i, hj⟩ : ∃ i : Nat, Lib.index l [32] = i := ⟨(Lib.index l [32]).toNat, by omega⟩
        rw [hj] at hi
        have hi' : Lib.index (b :: l) [32] = ((i + 1 : Nat) : Int) := by rw [hi]; rfl
        rw [Lib.count_hit hne hj, Nat.add_comm] at ih
        rw [Lib.count_hit hne hi', Nat.add_comm]
        unfold Lib.splitK at ih ⊢
        rw [hj, if_neg (by simp)] at ih
        rw [hi', if_neg (by simp; omega), ← ih]
        rfl
theorem split_bytes (s : ByteArray) : (Lib.splitB ⟨#[32]⟩ 0 (Lib.countB s ⟨#[32]⟩) s).map (·.data.toList) = splitW s.data.toList := by
  rw [Lib.splitB_data]
  exact split_lib s.data.toList
end Go.Proofs.YthpahpfnpapoiaaDoor
