/- The document's own: a line as an item, whole. A line's item as the document has it, against what the program takes up. Bytes alike but at places where orders wait for their labels: settled they are the same. -/
import Derived.Test.YthaijjehplomfaaDoorJ37
import Derived.Test.YthaijjehplomfaaDoorJ34
namespace Go.Proofs.YthaijjehplomfaaDoor
open Go Go.RowKit
set_option linter.unusedVariables false
set_option maxHeartbeats 1000000
set_option maxRecDepth 20000

abbrev It : Type := List UInt8 × ByteArray × ByteArray × Nat
def dataB : ByteArray := ⟨#[100, 97, 116, 97]⟩
def toB : ByteArray := ⟨#[116, 111]⟩
/-- Does a word end with a colon? -/
def colE (s : ByteArray) : Bool := s.data.toList[s.size - 1]? == some 58
/-- The row of that name whose one field is an address. -/
def toI (s : ByteArray) : Option Nat := fstI (fun i => nmR i == s.data.toList && fsR i == [4]) 31
/-- What a line's words are: bytes, a label, a label that is asked for and its order. -/
def itW (s : ByteArray) (r : List ByteArray) : Option It :=
  if r.length = 0 ∧ colE s = true then (if isNm (s.extract 0 (s.size - 1)) = true then some ([], s.extract 0 (s.size - 1), ⟨#[]⟩, 0) else none)
  else if s = dataB then (if r.length = 0 then none else (datW r).map fun d => (d, ⟨#[]⟩, ⟨#[]⟩, 0))
  else if r.length = 2 ∧ r.headD ⟨#[]⟩ = toB then (match toI s with
    | none => none
    | some i => if isNm (r.getD 1 ⟨#[]⟩) = true then some ([0, 0], ⟨#[]⟩, r.getD 1 ⟨#[]⟩, opR i) else none)
  else (rdO ((s :: r).map (·.data.toList))).map fun o => ([UInt8.ofNat ((encW o).getD 0 / 256), UInt8.ofNat ((encW o).getD 0 % 256)], ⟨#[]⟩, ⟨#[]⟩, 0)
/-- What is answered of a line's words. -/
def ItE (w : World) (o : Option It) (e : Ending) (z : World) : Prop := Below w.heap.size w z ∧ match o with
  | none => ∃ X, e = .returned (.tuple #[.agg X, .bool false]) ∧ X.size = 4 ∧ X.all (·.oneCell') = true
  | some x => ∃ sp c, e = .returned (.tuple #[.agg (it4 (.slice sp x.1.length c) x.2.1 x.2.2.1 x.2.2.2), .bool true]) ∧ LiesL 1 cU z sp x.1 ∧ ∀ a, sp = some a → w.heap.size ≤ a.block ∧ a.block < z.heap.size
theorem it0_one : it0.all (·.oneCell') = true := it4_one none 0 0 ⟨#[]⟩ ⟨#[]⟩ 0
theorem two_lies {z : World} {A a b : Nat} (ha : a < 256) (hb : b < 256) (h : Bx z A #[.int .u8 (a : Int), .int .u8 (b : Int)] 5) : LiesL 1 cU z (some ⟨A, 0, none⟩) [UInt8.ofNat a, UInt8.ofNat b] := by
  have e : ∀ x : Nat, x < 256 → byV (UInt8.ofNat x) = .int .u8 (x : Int) := fun x hx => by
    unfold byV
    have : (UInt8.ofNat x).toNat = x := by simp; omega
    rw [this]
  intro j u hj
  refine ⟨A, 0, rfl, fun k v hk => ?_⟩
  match j, hj with
  | 0, hj =>
    injection hj with hj
    subst hj
    match k, hk with
    | 0, hk =>
      injection hk with hk
      rw [← hk, e a ha]
      exact h.c 0 _ rfl
  | 1, hj =>
    injection hj with hj
    subst hj
    match k, hk with
    | 0, hk =>
      injection hk with hk
      rw [← hk, e b hb]
      exact h.c 1 _ rfl
theorem item_any (w : World) (gs os cap m : Nat) (s : ByteArray) (r : List ByteArray) (hm : Hid ((s :: r).length = m)) (hm2 : (m : Int) ≤ 4294967290) (hL : Hid (LiesL 1 strC w (some ⟨gs, os, none⟩) (s :: r))) (hsz : Hid (∀ x ∈ s :: r, x.size ≤ 4294967280)) (hs : 0 < s.size) :
    Calls Tryd.prog 53 #[.slice (some ⟨gs, os, none⟩) m cap] w (ItE w (itW s r)) := by
  obtain ⟨n, hn⟩ : ∃ n, s.size = n + 1 := ⟨s.size - 1, by omega⟩
  have hml : m = r.length + 1 := hm.out.symm
  have hs1 : s.size ≤ 4294967280 := hsz.out s (by simp)
  have hLB : Hid (∀ z, Below w.heap.size w z → LiesL 1 strC z (some ⟨gs, os, none⟩) (s :: r)) := fun z hz => hL.out.below hz
  have hg : s.data.toList[n]? = some (s[n]'(by omega)) := by
    rw [Array.getElem?_toList]
    exact Array.getElem?_eq_getElem (by show n < s.size; omega)
  have hcol : colE s = true ↔ s[n]'(by omega) = 58 := by
    unfold colE
    rw [show s.size - 1 = n by omega, hg, beq_iff_eq]
    exact ⟨fun h => by injection h, fun h => by rw [h]⟩
  unfold itW
  by_cases h1 : r.length = 0 ∧ colE s = true
  · rw [if_pos h1]
    have hm1 : m = 1 := by omega
    subst hm1
    have hx : s.size - 1 = n := by omega
    rw [hx]
    refine (item_lab w gs os cap s n hn hs1 (fun z hz => by
      have := word_at (hLB.out z hz) 0 s rfl
      rw [Nat.add_zero] at this
      exact this) (hcol.1 h1.2)).mono fun e z h => ?_
    obtain ⟨he, hb⟩ := h
    rcases hi : isNm (s.extract 0 n) with _ | _
    · rw [hi] at he
      exact ⟨hb, _, he, rfl, it4_one _ _ _ _ _ _⟩
    · rw [hi] at he
      exact ⟨hb, none, 0, he, fun j a hj => by simp at hj, fun a ha => by cases ha⟩
  · rw [if_neg h1]
    by_cases hd : s = dataB
    · rw [if_pos hd]
      refine (item_dat w gs os cap m 0 (s :: r) s hm (by show 1 ≤ m; omega) hm2 hL hsz rfl hd).mono fun e z h => ?_
      simp only [List.tail_cons] at h
      rcases hw : datW r with _ | d
      · rw [hw] at h
        obtain ⟨he, hb⟩ := h
        have e0 : (if r.length = 0 then none else (none : Option (List UInt8)).map fun d => ((d, ⟨#[]⟩, ⟨#[]⟩, 0) : It)) = none := by split <;> rfl
        rw [e0]
        exact ⟨hb, _, he, rfl, it0_one⟩
      · rw [hw] at h
        obtain ⟨vb, he, ho, hb⟩ := h
        obtain ⟨sp, c, rfl, hl, hp, _, _⟩ := ho.open kU.len
        by_cases h0 : r.length = 0
        · rw [if_pos h0]
          rw [show decide (1 < m) = false from decide_eq_false (by omega)] at he
          exact ⟨hb, _, he, rfl, it4_one _ _ _ _ _ _⟩
        · rw [if_neg h0]
          rw [show decide (1 < m) = true from decide_eq_true (by omega)] at he
          exact ⟨hb, sp, c, he, hl, fun a ha => (hp a ha).2.2⟩
    · rw [if_neg hd]
      by_cases ht : r.length = 2 ∧ r.headD ⟨#[]⟩ = toB
      · rw [if_pos ht]
        obtain ⟨x1, x2, rfl⟩ : ∃ x1 x2, r = [x1, x2] := by
          match r, ht.1 with
          | [a, b], _ => exact ⟨a, b, rfl⟩
        refine (item_to w gs os cap m n s x1 x2 hml hL hs1 hn hd ht.2).mono fun e z h => ?_
        show ItE w (match toI s with | none => none | some i => if isNm x2 = true then some ([0, 0], ⟨#[]⟩, x2, opR i) else none) e z
        rcases h with ⟨i, A, hi, hto, he, hA, hx, hb⟩ | ⟨hno, he, hb⟩
        · have hti : toI s = some i := fstI_some hi (by rw [hto.1, hto.2]; simp) fun j hj => by
            rw [Bool.and_eq_false_iff]
            left
            rw [beq_eq_false_iff_ne]
            intro e
            have := nm_row i hi j (by omega) (by rw [e, hto.1])
            omega
          rw [hti]
          rcases hi2 : isNm x2 with _ | _
          · rw [hi2] at he
            exact ⟨hb, _, he, rfl, it4_one _ _ _ _ _ _⟩
          · rw [hi2] at he
            exact ⟨hb, _, 2, he, two_lies (a := 0) (b := 0) (by decide) (by decide) hx, fun a ha => by injection ha with ha; rw [← ha]; exact ⟨hA, heap_lt hx⟩⟩
        · have hti : toI s = none := by
            rcases h : toI s with _ | i
            · rfl
            · obtain ⟨a1, a2, _⟩ := fstI_of h
              rw [Bool.and_eq_true, beq_iff_eq, beq_iff_eq] at a2
              exact absurd a2 (hno i a1)
          rw [hti]
          exact ⟨hb, _, he, rfl, it0_one⟩
      · rw [if_neg ht]
        have key : Calls Tryd.prog 53 #[.slice (some ⟨gs, os, none⟩) m cap] w (IoE w (rdO ((s :: r).map (·.data.toList)))) := by
          by_cases h1' : m = 1
          · exact item_a w gs os cap m n (s :: r) s hm (by omega) hm2 hLB hsz rfl hn hd h1' fun e => h1 ⟨by omega, hcol.2 e⟩
          · by_cases h3 : m = 3
            · obtain ⟨x1, x2, rfl⟩ : ∃ x1 x2, r = [x1, x2] := by
                match r, (show r.length = 2 by omega) with
                | [a, b], _ => exact ⟨a, b, rfl⟩
              exact item_b w gs os cap m n _ s hm (by omega) hm2 hLB hsz rfl hn hd x1 h3 rfl fun e => ht ⟨rfl, e⟩
            · exact item_c w gs os cap m n (s :: r) s hm (by omega) hm2 hLB hsz rfl hn hd h1' h3
        refine key.mono fun e z h => ?_
        have hlt : ∀ o, rdO ((s :: r).map (·.data.toList)) = some o → (encW o).getD 0 < 65536 := fun o ho => by
          obtain ⟨x, hx⟩ := Option.isSome_iff_exists.1 (rdO_enc ho)
          rw [hx]
          exact enc_lt hx
        generalize rdO ((s :: r).map (·.data.toList)) = o at h hlt ⊢
        rcases o with _ | o
        · exact ⟨h.2, _, h.1, rfl, it4_one _ _ _ _ _ _⟩
        · obtain ⟨A, he, hA, hx, hb⟩ := h
          have hl := hlt o rfl
          exact ⟨hb, _, 2, he, two_lies (by omega) (by omega) hx, fun a ha => by injection ha with ha; rw [← ha]; exact ⟨hA, heap_lt hx⟩⟩
end Go.Proofs.YthaijjehplomfaaDoor

namespace Go.Proofs.YthaijjehplomfaaDoor
open Go Go.RowKit
set_option linter.unusedVariables false
set_option maxHeartbeats 1000000
set_option maxRecDepth 20000

def useChk (i : Nat) : Bool := match rdO [nmR i, [50, 48, 48]] with
  | none => !(fsR i == [4])
  | some o => (fsR i == [4]) && o.same ⟨opR i, 0, 0, 0, 0, 512⟩
theorem use_row0 : ∀ i, i < 31 → useChk i = true := by decide +kernel
theorem use_row (i : Nat) (hi : i < 31) : rdO [nmR i, [50, 48, 48]] = if fsR i = [4] then some ⟨opR i, 0, 0, 0, 0, 512⟩ else none := by
  have h := use_row0 i hi
  unfold useChk at h
  rcases hr : rdO [nmR i, [50, 48, 48]] with _ | o
  · rw [hr] at h
    have h' : (!(fsR i == [4])) = true := h
    rw [if_neg fun e => by rw [e] at h'; exact absurd h' (by decide)]
  · rw [hr] at h
    have h' : ((fsR i == [4]) && o.same ⟨opR i, 0, 0, 0, 0, 512⟩) = true := h
    rw [Bool.and_eq_true, beq_iff_eq] at h'
    rw [if_pos h'.1, Od.same_iff.1 h'.2]
/-- An order that names a label: its row by name and field is what reading it with an address tells. -/
theorem use_toI (s : ByteArray) : rdO (useW s) = (toI s).map fun i => ⟨opR i, 0, 0, 0, 0, 512⟩ := by
  rcases ht : toI s with _ | i
  · rcases hr : rdO (useW s) with _ | o
    · rfl
    · have hr' := hr
      unfold rdO at hr'
      rcases hf : fstI (rdP (useW s)) 31 with _ | i
      · rw [hf] at hr'; cases hr'
      · obtain ⟨h1, h2, _⟩ := fstI_of hf
        unfold rdP useW at h2
        rw [Bool.and_eq_true, beq_iff_eq] at h2
        have e : nmR i = s.data.toList := h2.1
        unfold useW at hr
        rw [← e, use_row i h1] at hr
        split at hr
        · rename_i hf4
          have : toI s = some i := fstI_some h1 (by rw [e, hf4]; simp) fun j hj => by
            rw [Bool.and_eq_false_iff]
            left
            rw [beq_eq_false_iff_ne]
            intro e'
            have := nm_row i h1 j (by omega) (by rw [e', e])
            omega
          rw [ht] at this
          cases this
        · cases hr
  · obtain ⟨h1, h2, _⟩ := fstI_of ht
    rw [Bool.and_eq_true, beq_iff_eq, beq_iff_eq] at h2
    unfold useW
    rw [← h2.1, use_row i h1, if_pos h2.2]
    rfl
theorem suf58 (l : List UInt8) : Lib.hasSuffix l [58] = decide (l.getLast? = some 58) := by
  unfold Lib.hasSuffix
  rw [Bool.eq_iff_iff, List.isSuffixOf_iff_suffix, decide_eq_true_iff, List.getLast?_eq_some_iff]
  constructor
  · rintro ⟨t, rfl⟩; exact ⟨t, rfl⟩
  · rintro ⟨t, rfl⟩; exact ⟨t, rfl⟩
theorem col_suf (s : ByteArray) : colE s = Lib.hasSuffix s.data.toList [58] := by
  rw [suf58, List.getLast?_eq_getElem?]
  unfold colE
  rw [show s.size - 1 = s.data.toList.length - 1 from rfl]
  rcases s.data.toList[s.data.toList.length - 1]? with _ | c
  · rfl
  · rcases h : decide (c = 58) with _ | _
    · have := of_decide_eq_false h
      simp [this]
    · have := of_decide_eq_true h
      simp [this]
theorem col_name (s : ByteArray) (h : colE s = true) : nameB s = s.extract 0 (s.size - 1) := by
  rw [col_suf] at h
  unfold nameB Lib.trimSuffix
  rw [if_pos h]
  apply bytes_eq
  rw [ByteArray.data_extract, Array.toList_extract]
  simp [List.extract_eq_take_drop]
theorem isNm_ne {s : ByteArray} (h : isNm s = true) : ¬ s = ⟨#[]⟩ := by
  unfold isNm at h
  exact ne_empty (of_decide_eq_true h).1
theorem no_row {s : ByteArray} (h : colE s = true) (i : Nat) (hi : i < 31) : nmR i ≠ s.data.toList := fun e => by
  rw [col_suf, ← e, nm_suf i hi] at h
  cases h
theorem toI_col {s : ByteArray} (h : colE s = true) : toI s = none := by
  rcases ht : toI s with _ | i
  · rfl
  · obtain ⟨h1, h2, _⟩ := fstI_of ht
    rw [Bool.and_eq_true, beq_iff_eq] at h2
    exact absurd h2.1 (no_row h i h1)
theorem rdO_col {s : ByteArray} {r : List ByteArray} (h : colE s = true) : rdO ((s :: r).map (·.data.toList)) = none := by
  unfold rdO
  rcases hf : fstI (rdP ((s :: r).map (·.data.toList))) 31 with _ | i
  · rw [hf]
  · obtain ⟨h1, h2, _⟩ := fstI_of hf
    unfold rdP at h2
    rw [Bool.and_eq_true, beq_iff_eq] at h2
    exact absurd h2.1 (no_row h i h1)
/-- An order that waits for its label. -/
def useO (op : Nat) : Od := ⟨op, 0, 0, 0, 0, 512⟩
/-- What an item does to what the lines have told. -/
def itS (n : Nat) (x : It) (t : Sta) : Option Sta :=
  if x.2.1 ≠ ⟨#[]⟩ then (if t.2.1 x.2.1 = none then some (t.1, putN t.2.1 x.2.1 (512 + t.1.length), t.2.2) else none)
  else if x.2.2.1 ≠ ⟨#[]⟩ then some (t.1 ++ encB (useO x.2.2.2), t.2.1, t.2.2 ++ [⟨n, t.1.length, useO x.2.2.2, x.2.2.1⟩])
  else some (t.1 ++ x.1, t.2)
theorem takP_itW (n : Nat) (s : ByteArray) (r : List ByteArray) (t : Sta) : takP n s r t = match itW s r with
    | none => none
    | some x => itS n x t := by
  obtain ⟨bs, F, us⟩ := t
  unfold takP itW
  by_cases hd : s = dataB
  · have hc : colE s = false := by rw [hd]; decide +kernel
    rw [if_pos (show s = ⟨#[100, 97, 116, 97]⟩ from hd), if_neg (fun h => by rw [hc] at h; cases h.2), if_pos hd]
    unfold datP
    by_cases h0 : r.length = 0
    · rw [if_pos h0, if_pos h0]
    · rw [if_neg h0, if_neg h0]
      rcases datW r with _ | d <;> rfl
  · rw [if_neg (show ¬ s = ⟨#[100, 97, 116, 97]⟩ from hd), ← col_suf]
    by_cases hc : colE s = true
    · rw [if_pos hc]
      unfold labP
      by_cases h0 : r.length = 0
      · rw [if_pos (show r.length = 0 ∧ colE s = true from ⟨h0, hc⟩), col_name s hc]
        by_cases hn : isNm (s.extract 0 (s.size - 1)) = true
        · rw [if_pos hn]
          show _ = if s.extract 0 (s.size - 1) ≠ ⟨#[]⟩ then _ else _
          rw [if_pos (isNm_ne hn)]
          by_cases hF : F (s.extract 0 (s.size - 1)) = none
          · rw [if_pos ⟨h0, hF, hn⟩]
            show _ = if F (s.extract 0 (s.size - 1)) = none then _ else _
            rw [if_pos hF]
          · rw [if_neg fun h => hF h.2.1]
            show _ = if F (s.extract 0 (s.size - 1)) = none then _ else _
            rw [if_neg hF]
        · rw [if_neg hn, if_neg fun h => hn h.2.2]
      · rw [if_neg fun h => h0 h.1, if_neg (show ¬ (r.length = 0 ∧ colE s = true) from fun h => h0 h.1), if_neg hd, toI_col hc, rdO_col hc]
        by_cases ht : r.length = 2 ∧ r.headD ⟨#[]⟩ = toB
        · rw [if_pos ht]
        · rw [if_neg ht]; rfl
    · rw [if_neg hc, if_neg (show ¬ (r.length = 0 ∧ colE s = true) from fun h => hc h.2), if_neg hd]
      by_cases ht : r.length = 2 ∧ r.headD ⟨#[]⟩ = toB
      · rw [if_pos (show r.length = 2 ∧ r.headD ⟨#[]⟩ = ⟨#[116, 111]⟩ from ht), if_pos ht]
        unfold useP
        rw [use_toI]
        rcases toI s with _ | i
        · rfl
        · by_cases hn : isNm (r.getD 1 ⟨#[]⟩) = true
          · show (if isNm (r.getD 1 ⟨#[]⟩) = true then _ else none) = match (if isNm (r.getD 1 ⟨#[]⟩) = true then _ else none) with | none => none | some x => itS n x (bs, F, us)
            rw [if_pos hn, if_pos hn]
            show _ = if (⟨#[]⟩ : ByteArray) ≠ ⟨#[]⟩ then _ else if r.getD 1 ⟨#[]⟩ ≠ ⟨#[]⟩ then _ else _
            rw [if_neg (fun h => h rfl), if_pos (isNm_ne hn)]
            rfl
          · show (if isNm (r.getD 1 ⟨#[]⟩) = true then _ else none) = match (if isNm (r.getD 1 ⟨#[]⟩) = true then _ else none) with | none => none | some x => itS n x (bs, F, us)
            rw [if_neg hn, if_neg hn]
      · rw [if_neg (show ¬ (r.length = 2 ∧ r.headD ⟨#[]⟩ = ⟨#[116, 111]⟩) from ht), if_neg ht]
        unfold readP
        rcases hr : rdO ((s :: r).map (·.data.toList)) with _ | o
        · rw [hr]; rfl
        · rw [hr]; rfl
end Go.Proofs.YthaijjehplomfaaDoor

namespace Go.Proofs.YthaijjehplomfaaDoor
open Go Go.RowKit
set_option linter.unusedVariables false
set_option maxHeartbeats 1000000
set_option maxRecDepth 20000

/-- Alike but at the places. -/
def AlB (us : List Us) (a b : List UInt8) : Prop := a.length = b.length ∧ ∀ j, (∀ u ∈ us, j ≠ u.pl ∧ j ≠ u.pl + 1) → a[j]? = b[j]?
theorem layB_len (bs : List UInt8) (p : Nat) (o : Od) : (layB bs p o).length = bs.length := by
  unfold layB
  rw [List.length_set, List.length_set]
theorem layB_at (bs : List UInt8) (p : Nat) (o : Od) (j : Nat) : (layB bs p o)[j]? = if j = p + 1 then (if j < bs.length then some (UInt8.ofNat ((encW o).getD 0 % 256)) else none) else if j = p then (if j < bs.length then some (UInt8.ofNat ((encW o).getD 0 / 256)) else none) else bs[j]? := by
  unfold layB
  rw [List.getElem?_set, List.getElem?_set, List.length_set]
  by_cases h1 : j = p + 1
  · subst h1
    rw [if_pos rfl, if_pos rfl]
  · rw [if_neg (fun e => h1 e.symm), if_neg h1]
    by_cases h2 : j = p
    · subst h2
      rw [if_pos rfl]
    · rw [if_neg (fun e => h2 e.symm), if_neg h2]
theorem AlB.lay {u : Us} {us : List Us} {a b : List UInt8} (h : AlB (u :: us) a b) (o : Od) : AlB us (layB a u.pl o) (layB b u.pl o) := by
  refine ⟨by rw [layB_len, layB_len, h.1], fun j hj => ?_⟩
  rw [layB_at, layB_at, h.1]
  split
  · rfl
  · split
    · rfl
    · rename_i h1 h2
      exact h.2 j fun v hv => by
        rcases List.mem_cons.1 hv with rfl | hv
        · exact ⟨h2, h1⟩
        · exact hj v hv
theorem AlB.nil {a b : List UInt8} (h : AlB [] a b) : a = b := List.ext_getElem? fun j => h.2 j fun u hu => by cases hu
/-- Settled they are the same. -/
theorem setP_al (F : ByteArray → Option Nat) : ∀ (us : List Us) (a b : List UInt8), AlB us a b → setP F us a = setP F us b := by
  intro us
  induction us with
  | nil =>
    intro a b h
    rw [h.nil]
  | cons u us ih =>
    intro a b h
    unfold setP
    rcases F u.lb with _ | x
    · rfl
    · exact ih _ _ (h.lay _)
theorem AlB.app {us : List Us} {a b : List UInt8} (h : AlB us a b) (d : List UInt8) : AlB us (a ++ d) (b ++ d) := by
  refine ⟨by rw [List.length_append, List.length_append, h.1], fun j hj => ?_⟩
  rw [List.getElem?_append, List.getElem?_append, h.1]
  split
  · exact h.2 j hj
  · rfl
theorem AlB.more {us : List Us} {a b : List UInt8} (h : AlB us a b) (v : Us) (hv : v.pl = a.length) (x y p q : UInt8) : AlB (us ++ [v]) (a ++ [x, y]) (b ++ [p, q]) := by
  refine ⟨by rw [List.length_append, List.length_append, h.1]; rfl, fun j hj => ?_⟩
  have hv' := hj v (by simp)
  rw [List.getElem?_append, List.getElem?_append, h.1]
  split
  · exact h.2 j fun u hu => hj u (by simp [hu])
  · have h1 : j ≠ b.length := by rw [← h.1, ← hv]; exact hv'.1
    have h2 : j ≠ b.length + 1 := by rw [← h.1, ← hv]; exact hv'.2
    obtain ⟨k, hk⟩ : ∃ k, j - b.length = k + 2 := ⟨j - b.length - 2, by omega⟩
    rw [hk]
    rfl
/-- Names side by side with their addresses, as a map. -/
theorem lookN_app (l : List (ByteArray × Nat)) (s t : ByteArray) (a : Nat) (h : lookN l s = none) : lookN (l ++ [(s, a)]) t = putN (lookN l) s a t := by
  induction l with
  | nil =>
    show (if s = t then some a else none) = if t = s then some a else none
    by_cases e : s = t
    · rw [if_pos e, if_pos e.symm]
    · rw [if_neg e, if_neg fun e' => e e'.symm]
  | cons x r ih =>
    have h' : (if x.1 = s then some x.2 else lookN r s) = none := h
    by_cases hx : x.1 = s
    · rw [if_pos hx] at h'; cases h'
    · rw [if_neg hx] at h'
      show (if x.1 = t then some x.2 else lookN (r ++ [(s, a)]) t) = if t = s then some a else (if x.1 = t then some x.2 else lookN r t)
      rw [ih h']
      show (if x.1 = t then some x.2 else (if t = s then some a else lookN r t)) = _
      by_cases ht : x.1 = t
      · rw [if_pos ht, if_pos ht, if_neg fun e => hx (ht.trans e)]
      · rw [if_neg ht, if_neg ht]
end Go.Proofs.YthaijjehplomfaaDoor
