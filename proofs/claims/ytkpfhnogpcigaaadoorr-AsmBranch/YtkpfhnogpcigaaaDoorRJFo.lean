/- A source written as a text, by the document. -/
import Derived.Test.YtkpfhnogpcigaaaDoorRJIg
import Derived.Test.YtkpfhnogpcigaaaDoorRJNd
import Derived.Test.YtkpfhnogpcigaaaDoorRJLw
import Derived.Test.YtkpfhnogpcigaaaDoorRJEh
namespace Go.Proofs.YtkpfhnogpcigaaaDoorR
open Go Go.RowKit
set_option linter.unusedVariables false
set_option maxHeartbeats 2000000
set_option maxRecDepth 20000

theorem isNm_le {s : ByteArray} (h : isNm s = true) : s.size ≤ 16 := (of_decide_eq_true h).2.1
theorem mayI_small {r : Ri} (h : mayI r = true) : r.n.size ≤ 16 ∧ r.l.size ≤ 16 ∧ r.m ≤ 256 := by
  unfold mayI at h
  by_cases h2 : r.k = 2
  · rw [if_pos h2] at h
    unfold codeI at h
    rcases e : opOf r.n with _ | n
    · rw [e] at h; cases h
    · rw [e] at h
      have h4 := opOf_small e
      have h' : codeF (fm n) r = true := h
      unfold codeF at h'
      rw [Bool.and_eq_true, decide_eq_true_iff] at h'
      obtain ⟨m0, h'⟩ := h'
      refine ⟨by omega, ?_, by omega⟩
      by_cases hp : r.p = 0
      · rw [if_pos hp, Bool.and_eq_true, decide_eq_true_iff] at h'
        omega
      · rw [if_neg hp, Bool.and_eq_true] at h'
        exact isNm_le h'.1
  · rw [if_neg h2] at h
    by_cases hp : r.p = 0
    · rw [if_neg (by omega)] at h
      by_cases h1 : r.k = 1
      · rw [if_pos h1] at h
        simp only [Bool.and_eq_true, decide_eq_true_iff] at h
        exact ⟨isNm_le h.1, by omega, by omega⟩
      rw [if_neg h1] at h
      by_cases h3 : r.k = 3
      · rw [if_pos h3] at h
        simp only [Bool.and_eq_true, decide_eq_true_iff] at h
        omega
      rw [if_neg h3] at h
      by_cases h4 : r.k = 4
      · rw [if_pos h4] at h
        simp only [Bool.and_eq_true, decide_eq_true_iff] at h
        omega
      rw [if_neg h4] at h
      by_cases h5 : r.k = 5
      · rw [if_pos h5] at h
        simp only [Bool.and_eq_true, decide_eq_true_iff] at h
        exact ⟨by omega, isNm_le h.1, by omega⟩
      rw [if_neg h5] at h
      cases h
    · rw [if_pos hp] at h
      cases h
theorem line_small {r : Ri} {b : List UInt8} (h1 : r.n.size ≤ 16) (h2 : r.l.size ≤ 16) (h3 : b.length ≤ 256) : (lineI r b).size ≤ 1000 := by
  have c1 := hexOf_le r.a 4
  have c2 := printS_le r.n r.a
  unfold lineI
  split
  · rw [ByteArray.size_append]; show _ + 1 ≤ _; omega
  split
  · show ([32, 100, 97, 116, 97] ++ dataL b).toArray.size ≤ _
    rw [List.size_toArray, List.length_append, dataL_len]
    show 5 + _ ≤ _
    omega
  split
  · rw [ByteArray.size_append]; show 4 + _ ≤ _; omega
  split
  · rw [ByteArray.size_append]; show 9 + _ ≤ _; omega
  split
  · rw [ByteArray.size_append, ByteArray.size_append, ByteArray.size_append]; show 1 + _ + 4 + _ ≤ _; omega
  split
  · rw [ByteArray.size_append, ByteArray.size_append, ByteArray.size_append]; show 1 + _ + 6 + _ ≤ _; omega
  split
  · rw [ByteArray.size_append, ByteArray.size_append, ByteArray.size_append]; show 1 + _ + 5 + _ ≤ _; omega
  · rw [ByteArray.size_append]; show 1 + _ ≤ _; omega

/-- An item with its bytes. -/
abbrev Itm := Ri × List UInt8
def printL (L : List Itm) : List UInt8 := L.flatMap fun x => strL (lineI x.1 x.2) ++ [10]
def printIE (L : List Itm) : Int := if ¬ checkE (L.map (·.1)) = 0 then checkE (L.map (·.1)) else if 65536 < (printL L).length then 2 else 0
def printIB (L : List Itm) : ByteArray := if printIE L = 0 then ⟨(printL L).toArray⟩ else ⟨#[]⟩
/-- Items whose bytes lie where they say. -/
def Good (w : World) (x : Itm) : Prop := LB8 w x.1.sp x.2 ∧ x.2.length = x.1.m ∧ x.1.a ≤ 9223372036854775807
theorem checkE_ok {l : List Ri} (h : checkE l = 0) : l.length ≤ 4096 ∧ ∀ r ∈ l, mayI r = true := by
  unfold checkE at h
  split at h
  · cases h
  · rename_i hl
    split at h
    · cases h
    · rename_i hb
      refine ⟨by omega, fun r hr => ?_⟩
      have : badI l = none := by simpa using hb
      unfold badI at this
      rw [List.findIdx?_eq_none_iff] at this
      have := this r hr
      simpa using this

theorem at_listL {α : Type} {l : List α} {n i : Nat} (h : l.length = n) (hi : i < n) : ∃ s, l[i]? = some s ∧ l.drop i = s :: l.drop (i + 1) :=
  ⟨l[i]'(by omega), List.getElem?_eq_getElem (by omega), List.drop_eq_getElem_cons (by omega)⟩
end Go.Proofs.YtkpfhnogpcigaaaDoorR
/- A source that is laid and filled: by plain mathematics. -/
namespace Go.Proofs.YtkpfhnogpcigaaaDoorR
open Go Go.RowKit
set_option linter.unusedVariables false
set_option maxHeartbeats 1000000
set_option maxRecDepth 20000

/-- Where the laying has come to: the place, what lies at each address (0 nothing, 1 code, 2 data), the labels. -/
structure Sh where
  p : Nat
  U : List UInt8
  N : List (ByteArray × Nat)
def sh0 : Sh := ⟨0, List.replicate 65536 0, []⟩
def lookN : List (ByteArray × Nat) → ByteArray → Option Nat
  | [], _ => none
  | x :: r, s => if s = x.1 then some x.2 else lookN r s
def szN (r : Ri) : Nat := (sizeI r).toNat
def useI (r : Ri) : UInt8 := if r.k = 2 then 1 else 2
/-- So many addresses taken up. -/
def clE (s : Sh) (n : Nat) : Int := if 65536 < s.p + n then 143 else if ((s.U.drop s.p).take n).any (fun u => decide (u ≠ 0)) then 144 else 0
def clS (s : Sh) (n : Nat) (u : UInt8) : Sh := ⟨s.p + n, splice s.U s.p (List.replicate n u), s.N⟩
/-- The place called so. -/
def nmE (s : Sh) (n : ByteArray) : Int := if 65535 < s.p then 143 else if (lookN s.N n).isSome then 140 else 0
def nmS (s : Sh) (n : ByteArray) : Sh := ⟨s.p, s.U, (n, s.p) :: s.N⟩
/-- One item: why it can't be laid; what stands behind it. -/
def stE (s : Sh) (r : Ri) : Int := if r.k = 1 then nmE s r.n else if r.k = 4 then 0 else clE s (szN r)
def stS (s : Sh) (r : Ri) : Sh := if r.k = 1 then nmS s r.n else if r.k = 4 then ⟨r.a.toNat, s.U, s.N⟩ else clS s (szN r) (useI r)
def layE : Sh → List Ri → Nat → Option (Int × Nat)
  | _, [], _ => none
  | s, r :: l, i => if stE s r = 0 then layE (stS s r) l (i + 1) else some (stE s r, i)
def layS : Sh → List Ri → Sh
  | s, [] => s
  | s, r :: l => layS (stS s r) l
def plcs : Sh → List Ri → List Nat
  | _, [] => []
  | s, r :: l => s.p :: plcs (stS s r) l
structure Sh.Ok (s : Sh) : Prop where
  p : s.p ≤ 65536
  u : s.U.length = 65536
  n : ∀ x ∈ s.N, x.2 ≤ 65535
theorem sh0_ok : sh0.Ok := ⟨Nat.zero_le _, List.length_replicate, fun x hx => by cases hx⟩
theorem clE_cases (s : Sh) (n : Nat) : clE s n = 143 ∨ clE s n = 144 ∨ (clE s n = 0 ∧ s.p + n ≤ 65536 ∧ ((s.U.drop s.p).take n).any (fun u => decide (u ≠ 0)) = false) := by
  unfold clE
  split
  · exact .inl rfl
  · rename_i h
    rcases hb : ((s.U.drop s.p).take n).any (fun u => decide (u ≠ 0)) with _ | _
    · exact .inr (.inr ⟨by simp, by omega, rfl⟩)
    · exact .inr (.inl (by simp))
theorem clE_zero {s : Sh} {n : Nat} (h : clE s n = 0) : s.p + n ≤ 65536 ∧ ((s.U.drop s.p).take n).any (fun u => decide (u ≠ 0)) = false := by
  rcases clE_cases s n with e | e | ⟨_, e⟩
  · rw [e] at h; omega
  · rw [e] at h; omega
  · exact e
theorem nmE_zero {s : Sh} {n : ByteArray} (h : nmE s n = 0) : s.p ≤ 65535 ∧ lookN s.N n = none := by
  unfold nmE at h
  split at h
  · omega
  · rename_i h1
    split at h
    · omega
    · rename_i h2
      refine ⟨by omega, ?_⟩
      rcases e : lookN s.N n with _ | _
      · rfl
      · rw [e] at h2; simp at h2
theorem Sh.Ok.cl {s : Sh} (h : s.Ok) {n : Nat} (u : UInt8) (he : clE s n = 0) : (clS s n u).Ok := by
  have hz := (clE_zero he).1
  refine ⟨hz, ?_, h.n⟩
  show (splice s.U s.p (List.replicate n u)).length = 65536
  rw [length_splice _ _ _ (by rw [List.length_replicate, h.u]; exact hz), h.u]
theorem Sh.Ok.nm {s : Sh} (h : s.Ok) {n : ByteArray} (he : nmE s n = 0) : (nmS s n).Ok := by
  refine ⟨h.p, h.u, fun x hx => ?_⟩
  rcases List.mem_cons.1 hx with rfl | hx
  · exact (nmE_zero he).1
  · exact h.n x hx
theorem may_at {r : Ri} (h : mayI r = true) (hk : r.k = 4) : 0 ≤ r.a ∧ r.a ≤ 65535 := by
  rw [may4 hk] at h
  simp at h
  exact h.1
theorem Sh.Ok.st {s : Sh} (h : s.Ok) {r : Ri} (hm : mayI r = true) (he : stE s r = 0) : (stS s r).Ok := by
  unfold stE at he
  unfold stS
  split
  · rename_i hk
    rw [if_pos hk] at he
    exact h.nm he
  · rename_i hk
    rw [if_neg hk] at he
    split
    · rename_i hk4
      have := may_at hm hk4
      exact ⟨by show r.a.toNat ≤ 65536; omega, h.u, h.n⟩
    · rename_i hk4
      rw [if_neg hk4] at he
      exact h.cl _ he
theorem look_le {N : List (ByteArray × Nat)} (h : ∀ x ∈ N, x.2 ≤ 65535) {s : ByteArray} {t : Nat} (e : lookN N s = some t) : t ≤ 65535 := by
  induction N with
  | nil => simp [lookN] at e
  | cons x r ih =>
    unfold lookN at e
    split at e
    · simp at e; subst e; exact h x (by simp)
    · exact ih (fun y hy => h y (by simp [hy])) e
/-- Which items ask for a label, and what is wrong with what they ask for. -/
def asksI (r : Ri) : Bool := decide (r.k = 5) || (decide (r.k = 2) && decide (r.p ≠ 0))
def fmS (s : ByteArray) : Nat := match opOf s with | some n => fm n | none => 0
def flE (N : List (ByteArray × Nat)) (p : Nat) (r : Ri) : Int := if asksI r then (match lookN N r.l with | none => 141 | some t => if r.k = 2 ∧ fmS r.n = 5 ∧ t / 256 ≠ (p + 1) / 256 then 142 else 0) else 0
def opndI (r : Ri) (t : Nat) : Nat := if r.p = 2 then t / 256 else if r.p = 3 ∨ fmS r.n = 5 then t % 256 else t
def encL (s : ByteArray) (A : Int) : List UInt8 := match opOf s with | some n => (encB n A).map fun z => UInt8.ofNat z.toNat | none => []
def tgtN (N : List (ByteArray × Nat)) (r : Ri) : Nat := if asksI r then (lookN N r.l).getD 0 else 0
/-- The bytes of an item. -/
def flB (N : List (ByteArray × Nat)) (x : Itm) : List UInt8 := if x.1.k = 3 then x.2 else if x.1.k = 5 then [UInt8.ofNat (tgtN N x.1 / 256), UInt8.ofNat (tgtN N x.1)] else if x.1.k = 2 then encL x.1.n (if x.1.p = 0 then x.1.a else (opndI x.1 (tgtN N x.1) : Nat)) else []
def filE (N : List (ByteArray × Nat)) : List (Itm × Nat) → Nat → Option (Int × Nat)
  | [], _ => none
  | x :: l, i => if flE N x.2 x.1.1 = 0 then filE N l (i + 1) else some (flE N x.2 x.1.1, i)
def filM (N : List (ByteArray × Nat)) : List UInt8 → List (Itm × Nat) → List UInt8
  | M, [] => M
  | M, x :: l => filM N (splice M x.2 (flB N x.1)) l
end Go.Proofs.YtkpfhnogpcigaaaDoorR
/- The labels' order, by plain mathematics. -/
namespace Go.Proofs.YtkpfhnogpcigaaaDoorR
open Go Go.RowKit
set_option linter.unusedVariables false
set_option maxHeartbeats 1000000
set_option maxRecDepth 20000

theorem bl_irrefl : ∀ l : List UInt8, Op.bytesLess l l = false
  | [] => rfl
  | a :: x => by
    rw [Op.bytesLess, bl_irrefl x]
    simp
theorem bl_trans : ∀ a b c : List UInt8, Op.bytesLess a b = true → Op.bytesLess b c = true → Op.bytesLess a c = true
  | _, [], _, h, _ => by simp [Op.bytesLess] at h
  | _, _ :: _, [], _, h => by simp [Op.bytesLess] at h
  | [], _ :: _, _ :: _, _, _ => rfl
  | a :: x, b :: y, c :: z, h, k => by
    simp only [Op.bytesLess, Bool.or_eq_true, Bool.and_eq_true, decide_eq_true_eq, beq_iff_eq] at h k ⊢
    rcases h with h | ⟨rfl, h⟩
    · rcases k with k | ⟨rfl, k⟩
      · exact .inl (UInt8.lt_trans h k)
      · exact .inl h
    · rcases k with k | ⟨rfl, k⟩
      · exact .inl k
      · exact .inr ⟨rfl, bl_trans x y z h k⟩
theorem bl_tri : ∀ a b : List UInt8, Op.bytesLess a b = false → Op.bytesLess b a = false → a = b
  | [], [], _, _ => rfl
  | [], _ :: _, h, _ => by simp [Op.bytesLess] at h
  | _ :: _, [], _, h => by simp [Op.bytesLess] at h
  | a :: x, b :: y, h, k => by
    simp only [Op.bytesLess, Bool.or_eq_false_iff, Bool.and_eq_false_iff, decide_eq_false_iff_not, beq_eq_false_iff_ne] at h k
    have e : a = b := by
      have h1 := h.1
      have k1 := k.1
      exact UInt8.le_antisymm (UInt8.not_lt.1 k1) (UInt8.not_lt.1 h1)
    subst e
    have h2 := h.2.resolve_left (by simp)
    have k2 := k.2.resolve_left (by simp)
    rw [bl_tri x y h2 k2]
theorem sLt_tri {a b : ByteArray} (h : sLt a b = false) (k : sLt b a = false) : a = b := by
  have := bl_tri _ _ h k
  rw [toList_eq, toList_eq] at this
  cases a; cases b
  simp at this
  rw [this]
theorem befL_irrefl (a : La) : befL a a = false := by
  unfold befL sLt
  rw [bl_irrefl]
  simp
theorem befL_trans (a b c : La) (h : befL a b = true) (k : befL b c = true) : befL a c = true := by
  unfold befL at h k ⊢
  simp only [Bool.or_eq_true, Bool.and_eq_true, decide_eq_true_eq] at h k ⊢
  rcases h with h | ⟨h, h'⟩ <;> rcases k with k | ⟨k, k'⟩
  · exact .inl (by omega)
  · exact .inl (by omega)
  · exact .inl (by omega)
  · exact .inr ⟨by omega, bl_trans _ _ _ h' k'⟩
theorem befL_tri (a b : La) (h : befL a b = false) (k : befL b a = false) : a = b := by
  unfold befL at h k
  simp only [Bool.or_eq_false_iff, Bool.and_eq_false_iff, decide_eq_false_iff_not] at h k
  have e : a.a = b.a := by omega
  have h2 := h.2.resolve_left (by omega)
  have k2 := k.2.resolve_left (by omega)
  have en := sLt_tri h2 k2
  cases a; cases b
  simp at e en
  subst e en
  rfl
theorem befL_ntrans (a b c : La) (h : befL a b = false) (k : befL b c = false) : befL a c = false := by
  by_cases h1 : befL a c = true
  · exfalso
    by_cases h2 : befL b a = true
    · rw [befL_trans b a c h2 h1] at k
      cases k
    · have := befL_tri a b h (by simpa using h2)
      subst this
      rw [h1] at k
      cases k
  · simpa using h1
theorem ordL_lt (a b : La) : decide (ordL a b < 0) = befL a b := by
  unfold ordL befL cmpI cmpS
  by_cases h1 : a.a < b.a
  · simp [h1]
  · by_cases h2 : b.a < a.a
    · have h3 : ¬ a.a = b.a := by omega
      simp [h1, h2, h3]
    · have h3 : a.a = b.a := by omega
      rcases h4 : sLt a.n b.n with _ | _
      · simp only [h3]
        by_cases h5 : a.n = b.n <;> simp [h5]
      · simp [h3]
/-- Labels by rising addresses, those of one address by rising names. -/
def leL (a b : La) : Bool := !befL b a
theorem leL_trans (a b c : La) (h : leL a b = true) (k : leL b c = true) : leL a c = true := by
  unfold leL at h k ⊢
  simp at h k ⊢
  exact befL_ntrans c b a k h
theorem leL_total (a b : La) : (leL a b || leL b a) = true := by
  unfold leL
  rcases h : befL b a with _ | _
  · rfl
  · rcases k : befL a b with _ | _
    · rfl
    · have := befL_trans a b a k h
      rw [befL_irrefl] at this
      cases this
def toLa (x : ByteArray × Nat) : La := ⟨x.1, (x.2 : Int)⟩
def sortN (N : List (ByteArray × Nat)) : List La := (N.map toLa).mergeSort leL
theorem sort_perm {l l' : List La} (h : l.Perm l') : l.mergeSort leL = l'.mergeSort leL := by
  refine List.Perm.eq_of_pairwise (le := fun a b => leL a b = true) (fun a b _ _ h1 h2 => ?_) (List.pairwise_mergeSort leL_trans leL_total l) (List.pairwise_mergeSort leL_trans leL_total l') (((List.mergeSort_perm l leL).trans h).trans (List.mergeSort_perm l' leL).symm)
  unfold leL at h1 h2
  simp at h1 h2
  exact befL_tri a b h2 h1
end Go.Proofs.YtkpfhnogpcigaaaDoorR
