/- Waves a little longer or shorter, and one bit that is another one: plain. -/
import Derived.Test.YtdfjfacilbahkabDoorUf
namespace Go.Proofs.YtdfjfacilbahkabDoor
open Go.RowKit
set_option linter.unusedVariables false
set_option maxHeartbeats 400000

theorem leadW_bits (l : List (Int × Int)) : ∀ (l' : List (Int × Int)) (i : Nat), l.map bitW = l'.map bitW → (leadW l i).1 = (leadW l' i).1 ∧ (leadW l i).2.1 = (leadW l' i).2.1 ∧ (leadW l i).2.2.map bitW = (leadW l' i).2.2.map bitW := by
  induction l with
  | nil =>
    intro l' i h
    cases l' with
    | nil => exact ⟨rfl, rfl, rfl⟩
    | cons q l' => simp at h
  | cons p l ih =>
    intro l' i h
    cases l' with
    | nil => simp at h
    | cons q l' =>
      simp only [List.map_cons, List.cons.injEq] at h
      unfold leadW
      rw [h.1]
      split
      · exact ⟨rfl, rfl, rfl⟩
      · split
        · exact ih l' (i + 1) h.2
        · exact ⟨rfl, rfl, h.2⟩
theorem nineW_bits2 (k : Nat) : ∀ (l l' : List (Int × Int)) (i : Nat) (v o w : Int), l.map bitW = l'.map bitW → (nineW k l i v o w).1 = (nineW k l' i v o w).1 ∧ (nineW k l i v o w).2.1 = (nineW k l' i v o w).2.1 ∧ (nineW k l i v o w).2.2.1 = (nineW k l' i v o w).2.2.1 ∧ (nineW k l i v o w).2.2.2.1 = (nineW k l' i v o w).2.2.2.1 ∧ (nineW k l i v o w).2.2.2.2.map bitW = (nineW k l' i v o w).2.2.2.2.map bitW := by
  induction k with
  | zero => intro l l' i v o w h; exact ⟨rfl, rfl, rfl, rfl, h⟩
  | succ k ih =>
    intro l l' i v o w h
    cases l with
    | nil =>
      cases l' with
      | nil => exact ⟨rfl, rfl, rfl, rfl, rfl⟩
      | cons q l' => simp at h
    | cons p l =>
      cases l' with
      | nil => simp at h
      | cons q l' =>
        simp only [List.map_cons, List.cons.injEq] at h
        unfold nineW
        rw [h.1]
        split
        · exact ⟨rfl, rfl, rfl, rfl, rfl⟩
        · exact ih l l' _ _ _ _ h.2
theorem byteL_bits (l l' : List (Int × Int)) (i : Nat) (h : l.map bitW = l'.map bitW) : (byteL l i).1 = (byteL l' i).1 ∧ (byteL l i).2.1 = (byteL l' i).2.1 ∧ (byteL l i).2.2.1 = (byteL l' i).2.2.1 ∧ (byteL l i).2.2.2.map bitW = (byteL l' i).2.2.2.map bitW := by
  obtain ⟨a1, a2, a3⟩ := leadW_bits l l' i h
  unfold byteL
  rw [a1, a2]
  obtain ⟨b1, b2, b3, b4, b5⟩ := nineW_bits2 9 (leadW l i).2.2 (leadW l' i).2.2 (leadW l' i).2.1 0 0 1 a3
  rw [b1, b2, b3, b4]
  split
  · exact ⟨rfl, rfl, rfl, rfl⟩
  · split
    · exact ⟨rfl, rfl, rfl, rfl⟩
    · split
      · exact ⟨rfl, rfl, rfl, rfl⟩
      · exact ⟨rfl, rfl, rfl, b5⟩
theorem readGo_bits (k : Nat) : ∀ (l l' : List (Int × Int)) (i : Nat) (out : List UInt8), l.map bitW = l'.map bitW → readGo k l i out = readGo k l' i out := by
  induction k with
  | zero => intro l l' i out h; rfl
  | succ k ih =>
    intro l l' i out h
    obtain ⟨a1, a2, a3, a4⟩ := byteL_bits l l' i h
    rw [readGo_succ, readGo_succ, a1, a2, a3]
    split
    · rfl
    · exact ih _ _ _ _ a4
/-- What is read hangs on the bits alone. -/
theorem readW_bits (l l' : List (Int × Int)) (n : Int) (h : l.map bitW = l'.map bitW) : readW l n = readW l' n := by
  unfold readW
  split
  · rfl
  · exact readGo_bits _ _ _ _ _ h
/-- A little longer or shorter it is the same bit. -/
theorem near_bit (b : Int) (hb : b = 0 ∨ b = 1) (x y : Int) (hx : 0 ≤ x ∧ x ≤ 31) (hy : 0 ≤ y ∧ y ≤ 15) : bitW ((wv b).1 + x - 16, (wv b).2 - y) = b := by
  rcases hb with rfl | rfl
  · have e : wv 0 = (56, 56) := rfl
    rw [e]
    unfold bitW
    dsimp only
    rw [if_neg (by omega), if_neg (by omega), if_pos (by omega)]
  · have e : wv 1 = (140, 140) := rfl
    rw [e]
    unfold bitW
    dsimp only
    rw [if_neg (by omega), if_neg (by omega), if_neg (by omega)]
theorem byteL_odd (bs : List Int) (hb : bitI bs) (h8 : bs.length = 8) (c : Int) (hc : c = 0 ∨ c = 1) (hev : (sumI bs + c) % 2 = 0) (m i : Nat) (r : List (Int × Int)) : (byteL (List.replicate m (wv 0) ++ (wv 1 :: (bs.map wv ++ [wv c]) ++ r)) i).2.1 = 121 ∧ (byteL (List.replicate m (wv 0) ++ (wv 1 :: (bs.map wv ++ [wv c]) ++ r)) i).2.2.1 = i + m + 9 := by
  have e1 : List.replicate m (wv 0) ++ (wv 1 :: (bs.map wv ++ [wv c]) ++ r) = List.replicate m (wv 0) ++ wv 1 :: (bs.map wv ++ wv c :: r) := by simp
  have e2 := leadW_zeros m (bs.map wv ++ wv c :: r) i
  have e3 := nineW_bits c hc r bs (i + m + 1) 0 0 1 hb
  rw [h8] at e3
  have e4 : byteL (List.replicate m (wv 0) ++ (wv 1 :: (bs.map wv ++ [wv c]) ++ r)) i = (0, 121, i + m + 9, []) := by
    unfold byteL
    rw [e1, e2]
    simp only
    rw [show (9 : Nat) = 8 + 1 from rfl, e3]
    simp only
    rw [if_neg (by simp), if_neg (by simp), if_pos (by omega)]
    rfl
  rw [e4]
  exact ⟨rfl, rfl⟩
theorem readGo_bad (q : Nat) (B r : List (Int × Int)) (hB : ∀ m i, (byteL (List.replicate m (wv 0) ++ (B ++ r)) i).2.1 = 121 ∧ (byteL (List.replicate m (wv 0) ++ (B ++ r)) i).2.2.1 = i + m + 9) (b : List UInt8) : ∀ (m i : Nat) (out : List UInt8), readGo (b.length + (q + 1)) (List.replicate m (wv 0) ++ ((b.flatMap fun x => byteW x.toNat) ++ (B ++ r))) i out = ([], 121, ((i + m + b.length * 10 + 9 : Nat) : Int)) := by
  induction b with
  | nil =>
    intro m i out
    obtain ⟨h1, h2⟩ := hB m i
    simp only [List.length_nil, Nat.zero_add, List.flatMap_nil, List.nil_append]
    rw [readGo_succ, h1, h2, if_pos (by decide)]
  | cons x b ih =>
    intro m i out
    have hx := x.toNat_lt
    have e := byteL_write x.toNat hx m i ((b.flatMap fun x => byteW x.toNat) ++ (B ++ r))
    rw [List.flatMap_cons, List.append_assoc, List.length_cons, show b.length + 1 + (q + 1) = (b.length + (q + 1)) + 1 by omega, readGo_succ, e]
    simp only
    rw [if_neg (by simp)]
    have := ih 0 (i + m + 10) (out ++ [UInt8.ofNat ((x.toNat : Int)).toNat])
    simp only [List.replicate_zero, List.nil_append] at this
    rw [this]
    simp only [Prod.mk.injEq, true_and]
    omega
theorem sumI_set (l : List Int) : ∀ (t : Nat) (a v : Int), l[t]? = some a → sumI (l.set t v) = sumI l - a + v := by
  induction l with
  | nil => intro t a v h; simp at h
  | cons x l ih =>
    intro t a v h
    cases t with
    | zero => simp at h; subst h; simp only [List.set_cons_zero, sumI]; omega
    | succ t =>
      simp only [List.getElem?_cons_succ] at h
      simp only [List.set_cons_succ, sumI, ih t a v h]
      omega
/-- A byte's nine bits. -/
def nineN (n : Nat) : List Int := bitsN 8 n ++ [oddI (bitsN 8 n)]
theorem nineN_len (n : Nat) : (nineN n).length = 9 := by simp [nineN, bitsN_len]
theorem nineN_bit (n : Nat) : bitI (nineN n) := fun b hb => by
  rcases List.mem_append.1 hb with h | h
  · exact bitsN_bit 8 n b h
  · simp at h
    have := sumI_bit _ (bitsN_bit 8 n)
    unfold oddI at h
    omega
theorem nineN_odd (n : Nat) : sumI (nineN n) % 2 = 1 := by
  unfold nineN
  rw [sumI_app]
  have := sumI_bit _ (bitsN_bit 8 n)
  simp only [sumI]
  unfold oddI
  omega
theorem byteW_nine (n : Nat) : byteW n = wv 1 :: (nineN n).map wv := by
  unfold byteW nineN
  simp
theorem turned (n t : Nat) (ht : t < 9) (a : Int) (ha : (nineN n)[t]? = some a) (m i : Nat) (r : List (Int × Int)) : (byteL (List.replicate m (wv 0) ++ ((byteW n).set (t + 1) (wv (1 - a)) ++ r)) i).2.1 = 121 ∧ (byteL (List.replicate m (wv 0) ++ ((byteW n).set (t + 1) (wv (1 - a)) ++ r)) i).2.2.1 = i + m + 9 := by
  have hab := nineN_bit n a (List.mem_of_getElem? ha)
  have hN : bitI ((nineN n).set t (1 - a)) := fun b hb => by
    rcases List.mem_or_eq_of_mem_set hb with h | h
    · exact nineN_bit n b h
    · omega
  have hl : ((nineN n).set t (1 - a)).length = 9 := by rw [List.length_set, nineN_len]
  have hs := sumI_set (nineN n) t a (1 - a) ha
  have ho := nineN_odd n
  obtain ⟨M, hM⟩ : ∃ M, (nineN n).set t (1 - a) = M := ⟨_, rfl⟩
  have e : (byteW n).set (t + 1) (wv (1 - a)) = wv 1 :: M.map wv := by
    rw [byteW_nine, List.set_cons_succ, ← hM, List.map_set]
  rw [hM] at hN hl hs
  obtain ⟨c, hc⟩ : ∃ c, M[8]? = some c := ⟨_, List.getElem?_eq_getElem (by omega)⟩
  have e2 : M = M.take 8 ++ [c] := by
    have := List.take_append_drop 8 M
    rw [List.drop_eq_getElem_cons (by omega), List.drop_eq_nil_of_le (by omega)] at this
    have hc' := (List.getElem?_eq_some_iff.1 hc).2
    rw [hc'] at this
    exact this.symm
  have hcb := hN c (List.mem_of_getElem? hc)
  have hb8 : bitI (M.take 8) := fun b hb => hN b (List.mem_of_mem_take hb)
  have hs2 : sumI (M.take 8) + c = sumI M := by
    have h3 := congrArg sumI e2
    rw [sumI_app] at h3
    simp only [sumI] at h3
    omega
  have := byteL_odd (M.take 8) hb8 (by rw [List.length_take]; omega) c hcb (by omega) m i r
  rw [e]
  have e3 : M.map wv = (M.take 8).map wv ++ [wv c] := by
    have h3 := congrArg (List.map wv) e2
    rw [List.map_append] at h3
    exact h3
  rw [e3]
  exact this
theorem flat_len (b : List UInt8) : (b.flatMap fun x => byteW x.toNat).length = b.length * 10 := by
  have := writeL_len b 0
  unfold writeL at this
  rw [List.replicate_zero, List.nil_append, Nat.zero_add] at this
  exact this
theorem flat_cut (b : List UInt8) (j : Nat) (x : UInt8) (h : b[j]? = some x) : (b.flatMap fun x => byteW x.toNat) = ((b.take j).flatMap fun x => byteW x.toNat) ++ (byteW x.toNat ++ ((b.drop (j + 1)).flatMap fun x => byteW x.toNat)) := by
  have hlt := (List.getElem?_eq_some_iff.1 h).1
  have e : b = b.take j ++ (x :: b.drop (j + 1)) := by
    have := List.take_append_drop j b
    rw [List.drop_eq_getElem_cons hlt, (List.getElem?_eq_some_iff.1 h).2] at this
    exact this.symm
  have h2 := congrArg (List.flatMap fun x : UInt8 => byteW x.toNat) e
  rw [List.flatMap_append, List.flatMap_cons] at h2
  exact h2
/-- One bit of a byte's nine that is another one is told. -/
theorem near_flip (b : List UInt8) (k n : Nat) (hk : k < 9 * b.length) (hn : n = 3 + k / 9 * 10 + 1 + k % 9) (h16 : b.length ≤ 16384) (P : List (Int × Int)) (hP : P.map bitW = (writeL b 3).map bitW) (p : Int × Int) (hp : P[n]? = some p) :
    (bitW p = 0 ∨ bitW p = 1) ∧ readW (P.set n (wv (1 - bitW p))) (b.length : Int) = ([], 121, ((3 + k / 9 * 10 + 9 : Nat) : Int)) := by
  obtain ⟨j, hj⟩ : ∃ j, k / 9 = j := ⟨_, rfl⟩
  obtain ⟨t, ht⟩ : ∃ t, k % 9 = t := ⟨_, rfl⟩
  rw [hj] at hn ⊢
  rw [ht] at hn
  have ht9 : t < 9 := by omega
  have hjb : j < b.length := by omega
  obtain ⟨x, hx⟩ : ∃ x, b[j]? = some x := ⟨_, List.getElem?_eq_getElem hjb⟩
  obtain ⟨a, ha⟩ : ∃ a, (nineN x.toNat)[t]? = some a := ⟨_, List.getElem?_eq_getElem (by rw [nineN_len]; exact ht9)⟩
  have hfc := flat_cut b j x hx
  have hfl : ((b.take j).flatMap fun x => byteW x.toNat).length = j * 10 := by rw [flat_len, List.length_take, Nat.min_eq_left (by omega)]
  have hW : writeL b 3 = (List.replicate 3 (wv 0) ++ ((b.take j).flatMap fun x => byteW x.toNat)) ++ (byteW x.toNat ++ ((b.drop (j + 1)).flatMap fun x => byteW x.toNat)) := by unfold writeL; rw [hfc, List.append_assoc]
  have hlen : (List.replicate 3 (wv 0) ++ ((b.take j).flatMap fun x => byteW x.toNat)).length = 3 + j * 10 := by rw [List.length_append, List.length_replicate, hfl]
  have hab := nineN_bit _ a (List.mem_of_getElem? ha)
  have hat : (writeL b 3)[n]? = some (wv a) := by
    rw [hW, List.getElem?_append_right (by rw [hlen]; omega), hlen, List.getElem?_append_left (by rw [byteW_len]; omega), byteW_nine, show n - (3 + j * 10) = t + 1 by omega, List.getElem?_cons_succ, List.getElem?_map, ha]
    rfl
  have hbp : bitW p = a := by
    have h1 : (P.map bitW)[n]? = some (bitW p) := by rw [List.getElem?_map, hp]; rfl
    rw [hP, List.getElem?_map, hat] at h1
    have := Option.some.inj h1
    rw [← this, bitW_wv a hab]
  refine ⟨by rw [hbp]; exact hab, ?_⟩
  rw [hbp]
  have hset : (writeL b 3).set n (wv (1 - a)) = List.replicate 3 (wv 0) ++ (((b.take j).flatMap fun x => byteW x.toNat) ++ ((byteW x.toNat).set (t + 1) (wv (1 - a)) ++ ((b.drop (j + 1)).flatMap fun x => byteW x.toNat))) := by
    rw [hW, List.set_append_right _ _ (by rw [hlen]; omega), hlen, List.set_append_left _ _ (by rw [byteW_len]; omega), show n - (3 + j * 10) = t + 1 by omega, List.append_assoc]
  rw [readW_bits _ ((writeL b 3).set n (wv (1 - a))) _ (by rw [List.map_set, List.map_set, hP]), hset]
  unfold readW
  rw [if_neg (by omega), Int.toNat_natCast, show b.length = (b.take j).length + ((b.length - j - 1) + 1) by rw [List.length_take]; omega,
    readGo_bad (b.length - j - 1) ((byteW x.toNat).set (t + 1) (wv (1 - a))) _ (fun m i => turned x.toNat t ht9 a ha m i _) (b.take j) 3 0 []]
  simp only [Prod.mk.injEq, true_and]
  rw [List.length_take, Nat.min_eq_left (by omega), Nat.zero_add]
end Go.Proofs.YtdfjfacilbahkabDoor
