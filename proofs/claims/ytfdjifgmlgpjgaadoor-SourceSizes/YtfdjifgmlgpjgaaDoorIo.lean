/- What a source's text says may be: by plain mathematics. -/
import Derived.Test.YtfdjifgmlgpjgaaDoorIn
namespace Go.Proofs.YtfdjifgmlgpjgaaDoor
open Go Go.RowKit
set_option linter.unusedVariables false
set_option maxHeartbeats 1000000
set_option maxRecDepth 20000

/-- No blank, tab or remark in it. -/
def wdc (x : List UInt8) : Prop := x ≠ [] ∧ ∀ c ∈ x, c ≠ 32 ∧ c ≠ 9 ∧ c ≠ 59
theorem wordsG_wd (l : List UInt8) : ∀ cur : List UInt8, (∀ c ∈ cur, c ≠ 32 ∧ c ≠ 9 ∧ c ≠ 59) → ∀ x ∈ wordsG l cur, wdc x ∧ x.length ≤ cur.length + l.length := by
  have push : ∀ (cur x : List UInt8), (∀ c ∈ cur, c ≠ 32 ∧ c ≠ 9 ∧ c ≠ 59) → x ∈ pushW cur → wdc x ∧ x.length ≤ cur.length := by
    intro cur x hc hx
    unfold pushW at hx
    split at hx
    · simp at hx
    · rename_i h0
      rw [List.mem_singleton] at hx
      subst hx
      exact ⟨⟨h0, hc⟩, Nat.le_refl _⟩
  induction l with
  | nil =>
    intro cur hc x hx
    obtain ⟨h1, h2⟩ := push cur x hc hx
    exact ⟨h1, by simp; omega⟩
  | cons c r ih =>
    intro cur hc x hx
    unfold wordsG at hx
    split at hx
    · obtain ⟨h1, h2⟩ := push cur x hc hx
      exact ⟨h1, by omega⟩
    · rename_i h59
      split at hx
      · rcases List.mem_append.1 hx with hx | hx
        · obtain ⟨h1, h2⟩ := push cur x hc hx
          exact ⟨h1, by omega⟩
        · obtain ⟨h1, h2⟩ := ih [] (by simp) x hx
          exact ⟨h1, by simp at h2 ⊢; omega⟩
      · rename_i hb
        obtain ⟨h1, h2⟩ := ih (cur ++ [c]) (fun d hd => by
          rcases List.mem_append.1 hd with hd | hd
          · exact hc d hd
          · rw [List.mem_singleton] at hd
            subst hd
            exact ⟨fun e => hb (.inl e), fun e => hb (.inr e), h59⟩) x hx
        exact ⟨h1, by simp at h2 ⊢; omega⟩
/-- A word. -/
def isW (x : ByteArray) : Prop := wdc (strL x)
theorem isW.pos {x : ByteArray} (h : isW x) : 0 < x.size := by
  have := h.1
  rw [← strL_len]
  exact List.length_pos_iff.2 this
theorem wordsA_wd {l : List UInt8} {x : ByteArray} (h : x ∈ wordsA l) : isW x ∧ x.size ≤ l.length := by
  unfold wordsA at h
  obtain ⟨y, hy, rfl⟩ := List.mem_map.1 h
  obtain ⟨h1, h2⟩ := wordsG_wd l [] (by simp) y hy
  refine ⟨by unfold isW; rw [strL_mkB]; exact h1, ?_⟩
  rw [← strL_len, strL_mkB]
  simpa using h2
theorem wordsG_len (l : List UInt8) : ∀ cur : List UInt8, (wordsG l cur).length ≤ l.length + 1 := by
  have push : ∀ cur : List UInt8, (pushW cur).length ≤ 1 := fun cur => by unfold pushW; split <;> simp
  induction l with
  | nil => intro cur; exact push cur
  | cons c r ih =>
    intro cur
    unfold wordsG
    split
    · have := push cur; simp; omega
    · split
      · have h1 := push cur
        have h2 := ih []
        rw [List.length_append, List.length_cons]
        omega
      · have h2 := ih (cur ++ [c])
        rw [List.length_cons]
        omega
theorem wordsA_len (l : List UInt8) : (wordsA l).length ≤ l.length + 1 := by
  unfold wordsA
  rw [List.length_map]
  exact wordsG_len l []

theorem no_blank {x : ByteArray} (h : isW x) : 32 ∉ strL x := fun hm => (h.2 32 hm).1 rfl
theorem app_first {a b c d : List UInt8} (ha : 32 ∉ a) (hc : 32 ∉ c) (h : a ++ 32 :: b = c ++ 32 :: d) : a = c ∧ b = d := by
  induction a generalizing c with
  | nil =>
    cases c with
    | nil => simpa using h
    | cons y c =>
      simp at h
      exact absurd h.1.symm (fun e => hc (by simp [e]))
  | cons x a ih =>
    cases c with
    | nil =>
      simp at h
      exact absurd h.1 (fun e => ha (by simp [e]))
    | cons y c =>
      simp only [List.cons_append, List.cons.injEq] at h
      obtain ⟨h1, h2⟩ := ih (fun hm => ha (by simp [hm])) (fun hm => hc (by simp [hm])) h.2
      exact ⟨by rw [h.1, h1], h2⟩
theorem ba_eq {a b : ByteArray} (h : strL a = strL b) : a = b := by rw [← mkB_strL a, h, mkB_strL]
theorem parse_found {s : ByteArray} (h : parseE s = 0) : ∃ n, n < 256 ∧ opOf (nm n) = some n ∧ parseN s = nm n ∧ may n (parseA s) ∧ textOf n (parseA s) = s := by
  rcases ho : opOf (cutN s) with _ | n
  · have := (parse_none' s ho).2.2
    rw [this] at h
    cases h
  · obtain ⟨h1, h2⟩ := opOf_lt ho
    obtain ⟨p1, p2⟩ := parse_of s n ho
    rcases hk : okS s n with _ | _
    · have := (p2 hk).2.2
      rw [this] at h
      cases h
    · obtain ⟨q1, q2, q3⟩ := p1 hk
      have hb := opOf_bs' ho
      have hk' := (ok_iff h1 hb).1 hk
      refine ⟨n, h1, by rw [opOf_nm n h1, hb], q1, ?_, ?_⟩
      · rw [q2]; exact hk'.1
      · rw [q2]; exact hk'.2
theorem nm_noblank (n : Nat) (h : n < 256) : 32 ∉ strL (nm n) := by
  have := nmB_noblank n h
  intro hm
  rw [show strL (nm n) = nmB n from nm_data n] at hm
  have := List.all_eq_true.1 this 32 hm
  simp at this
theorem textOf_L (n : Nat) (A : Int) : strL (textOf n A) = if fm n = 1 then strL (nm n) else strL (nm n) ++ 32 :: strL (hexOf A (digs n : Nat)) := by
  unfold textOf
  split
  · rfl
  · rw [strL_app, strL_app, List.append_assoc]; rfl
theorem parse_word1 {x : ByteArray} (hx : 32 ∉ strL x) (h : parseE x = 0) : ∃ n, opOf x = some n ∧ may n (parseA x) ∧ parseN x = x := by
  obtain ⟨n, h1, h2, h3, h4, h5⟩ := parse_found h
  have h6 := congrArg strL h5
  rw [textOf_L] at h6
  split at h6
  · have e := ba_eq h6
    rw [e] at h2 h3
    exact ⟨n, h2, h4, h3⟩
  · exact absurd (by rw [← h6]; simp) hx
theorem parse_word2 {x y : ByteArray} (hx : 32 ∉ strL x) (h : parseE (x ++ ⟨#[32]⟩ ++ y) = 0) : ∃ n, opOf x = some n ∧ may n (parseA (x ++ ⟨#[32]⟩ ++ y)) ∧ parseN (x ++ ⟨#[32]⟩ ++ y) = x := by
  obtain ⟨n, h1, h2, h3, h4, h5⟩ := parse_found h
  have h6 := congrArg strL h5
  have e0 : strL (x ++ ⟨#[32]⟩ ++ y) = strL x ++ 32 :: strL y := by rw [strL_app, strL_app, List.append_assoc]; rfl
  rw [textOf_L, e0] at h6
  split at h6
  · exact absurd (by rw [h6]; simp) (nm_noblank n h1)
  · have e := ba_eq (app_first (nm_noblank n h1) hx h6).1
    rw [e] at h2 h3
    exact ⟨n, h2, h4, h3⟩
theorem may_code0 {S : ByteArray} {n : Nat} {A : Int} (ho : opOf S = some n) (hm : may n A) : mayP ⟨2, S, A, E0, 0, []⟩ = true := by
  unfold mayP Pu.ri mayI
  simp only
  rw [if_pos trivial]
  unfold codeI
  simp only [ho]
  unfold codeF
  simp only [if_true]
  have := (codeF_may ho).2 hm
  rw [decide_eq_true this.1, decide_eq_true this.2]
  rfl
theorem ordO_none {x : ByteArray} (hx : isW x) (ho : opOf x = none) (r : List ByteArray) : ordO x r = none := by
  rcases r with _ | ⟨x1, _ | ⟨x2, _ | ⟨x3, r⟩⟩⟩
  · rw [ordO_0]
    split
    · rename_i h
      obtain ⟨n, h1, _⟩ := parse_word1 (no_blank hx) h
      rw [ho] at h1
      cases h1
    · rfl
  · rw [ordO_1]
    split
    · rename_i h
      obtain ⟨n, h1, _⟩ := parse_word2 (no_blank hx) h
      rw [ho] at h1
      cases h1
    · rfl
  · rw [ordO_2]
    split
    · rename_i h
      have h2 := h.2
      unfold mayP Pu.ri mayI at h2
      simp only at h2
      rw [if_pos trivial] at h2
      unfold codeI at h2
      simp only [ho] at h2
      cases h2
    · rfl
  · rfl
theorem numV_bd {x : ByteArray} (h : numE x = 0) : 0 ≤ numV x ∧ numV x < 16 ^ x.size := by
  unfold numE at h
  rcases e : numOf x with _ | v
  · rw [e] at h; cases h
  · have hv : numV x = v := by unfold numV; rw [e]; rfl
    rw [hv]
    unfold numOf at e
    split at e
    · have := numGo_le _ 0 v (by decide) e
      rw [show (0 : Int) + 1 = 1 from rfl, Int.one_mul, Array.length_toList] at this
      exact this
    · cases e
theorem numV_back {x : ByteArray} (h : numE x = 0) (h8 : 1 ≤ x.size ∧ x.size ≤ 8) : hexOf (numV x) (x.size : Nat) = x := by
  have hb := numV_bd h
  unfold numE at h
  rcases e : numOf x with _ | v
  · rw [e] at h; cases h
  · have hv : numV x = v := by unfold numV; rw [e]; rfl
    rw [hv] at hb ⊢
    have e2 : numGo (strL x) 0 = some v := by
      unfold numOf at e
      rw [if_pos h8] at e
      exact e
    have e3 := hexL_numGo (strL x) v e2
    rw [strL_len] at e3
    have := hexOf_small v x.size hb.1 hb.2 h8
    rw [e3] at this
    exact ba_eq this.1
theorem may4P {x : ByteArray} (h : x.size = 4 ∧ numE x = 0) : mayP ⟨4, E0, numV x, E0, 0, []⟩ = true := by
  have hb := numV_bd h.2
  rw [h.1, show (16 : Int) ^ 4 = 65536 from by decide] at hb
  have h1 : decide (0 ≤ numV x) = true := decide_eq_true hb.1
  have h2 : decide (numV x ≤ 65535) = true := decide_eq_true (by omega)
  unfold mayP Pu.ri mayI
  simp only
  rw [if_neg (by decide), if_neg (by decide), if_neg (by decide), if_neg (by decide), if_pos trivial, h1, h2]
  rfl
theorem may5P {x : ByteArray} (h : isNm x = true) : mayP ⟨5, E0, 0, x, 0, []⟩ = true := by
  unfold mayP Pu.ri mayI
  simp only
  rw [if_neg (by decide), if_neg (by decide), if_neg (by decide), if_neg (by decide), if_neg (by decide), if_pos trivial, h]
  rfl
theorem may1P {x : ByteArray} (h : isNm x = true) : mayP ⟨1, x, 0, E0, 0, []⟩ = true := by
  unfold mayP Pu.ri mayI
  simp only
  rw [if_neg (by decide), if_neg (by decide), if_pos trivial, h]
  rfl
theorem may3P {l : List UInt8} (h : 1 ≤ l.length ∧ l.length ≤ 256) : mayP ⟨3, E0, 0, E0, 0, l⟩ = true := by
  have h1 : decide (1 ≤ l.length) = true := decide_eq_true h.1
  have h2 : decide (l.length ≤ 256) = true := decide_eq_true h.2
  unfold mayP Pu.ri mayI
  simp only
  rw [if_neg (by decide), if_neg (by decide), if_neg (by decide), if_pos trivial, h1, h2]
  rfl
theorem ordO_may {x : ByteArray} {r : List ByteArray} {q : Pu} (hx : isW x) (h : ordO x r = some q) : mayP q = true := by
  rcases r with _ | ⟨x1, _ | ⟨x2, _ | ⟨x3, r⟩⟩⟩
  · rw [ordO_0] at h
    split at h
    · rename_i hp
      injection h with h
      subst h
      obtain ⟨n, h1, h2, _⟩ := parse_word1 (no_blank hx) hp
      exact may_code0 h1 h2
    · cases h
  · rw [ordO_1] at h
    split at h
    · rename_i hp
      injection h with h
      subst h
      obtain ⟨n, h1, h2, _⟩ := parse_word2 (no_blank hx) hp
      exact may_code0 h1 h2
    · cases h
  · rw [ordO_2] at h
    split at h
    · rename_i hp
      injection h with h
      subst h
      exact hp.2
    · cases h
  · cases h
theorem itemO_may {f : Bool} {ws : List ByteArray} {q : Pu} (hw : ∀ x ∈ ws, isW x) (h : itemO f ws = some q) : mayP q = true := by
  cases ws with
  | nil => cases h
  | cons x r =>
    have hx := hw x (by simp)
    rw [itemO_cons] at h
    split at h
    · unfold labP at h
      split at h
      · rename_i hl
        injection h with h
        subst h
        have hl2 := hl.2
        unfold labOk at hl2
        rw [Bool.and_eq_true] at hl2
        exact may1P hl2.2
      · cases h
    split at h
    · unfold dataP at h
      split at h
      · cases h
      · split at h
        · rename_i hl
          injection h with h
          subst h
          exact may3P hl
        · cases h
    split at h
    · rcases r with _ | ⟨x1, _ | ⟨x2, r⟩⟩
      · cases h
      · rw [atP_1] at h
        split at h
        · rename_i hl
          injection h with h
          subst h
          exact may4P hl
        · cases h
      · cases h
    split at h
    · rcases r with _ | ⟨x1, _ | ⟨x2, r⟩⟩
      · cases h
      · rw [addrP_1] at h
        split at h
        · rename_i hl
          injection h with h
          subst h
          exact may5P hl
        · cases h
      · cases h
    exact ordO_may hx h
theorem lineO_may {l : List UInt8} {x : List Pu} (h : lineO l = some x) : ∀ q ∈ x, mayP q = true := by
  unfold lineO at h
  split at h
  · injection h with h
    subst h
    simp
  · split at h
    · cases h
    · rename_i q hq
      injection h with h
      subst h
      intro y hy
      rw [List.mem_singleton] at hy
      subst hy
      exact itemO_may (fun z hz => (wordsA_wd hz).1) hq
theorem itemsO_may (ls : List (List UInt8)) : ∀ q ∈ itemsO ls, mayP q = true := by
  intro q hq
  unfold itemsO at hq
  obtain ⟨l, _, h⟩ := List.mem_flatMap.1 hq
  rcases e : lineO l with _ | x
  · rw [e] at h; simp at h
  · rw [e] at h
    exact lineO_may e q h
theorem srcL_may (t : ByteArray) : (∀ q ∈ srcL t, mayP q = true) ∧ (srcL t).length ≤ 4096 := by
  unfold srcL
  split
  · rename_i h
    refine ⟨itemsO_may _, ?_⟩
    unfold srcE at h
    split at h
    · cases h
    · split at h
      · cases h
      · split at h
        · cases h
        · omega
  · exact ⟨by simp, by simp⟩
end Go.Proofs.YtfdjifgmlgpjgaaDoor
