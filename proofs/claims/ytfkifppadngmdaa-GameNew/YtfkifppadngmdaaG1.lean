/- A CHIP-8 machine by itself: what an order may change, and what it hangs on. -/
import Derived.Test.YtfkifppadngmdaaG0
namespace Go.Proofs.Ytfkifppadngmdaa
open Go
set_option linter.unusedVariables false
set_option maxHeartbeats 1000000
set_option maxRecDepth 20000

theorem skip_pg (g : Gm) (b : Bool) : (skipG g b).pg = g.pg := by unfold skipG; split <;> rfl
theorem skip_me (g : Gm) (b : Bool) : (skipG g b).me = g.me := by unfold skipG; split <;> rfl
theorem skip_st (g : Gm) (b : Bool) : (skipG g b).st = g.st := by unfold skipG; split <;> rfl
theorem skip_v (g : Gm) (b : Bool) : (skipG g b).v = g.v := by unfold skipG; split <;> rfl
theorem skip_i (g : Gm) (b : Bool) : (skipG g b).i = g.i := by unfold skipG; split <;> rfl
theorem skip_de (g : Gm) (b : Bool) : (skipG g b).de = g.de := by unfold skipG; split <;> rfl
theorem skip_so (g : Gm) (b : Bool) : (skipG g b).so = g.so := by unfold skipG; split <;> rfl
theorem skip_pc (g : Gm) (b : Bool) : (skipG g b).pc = g.pc ∨ (skipG g b).pc = (g.pc + 2) % 65536 := by
  unfold skipG
  split
  · exact .inr rfl
  · exact .inl rfl
theorem may_iff {g : Gm} : g.may = true ↔ g.pg.length = 256 ∧ g.me.length = 3232 ∧ g.st.length ≤ 12 := by simp [Gm.may]
/-- A machine that may be may be behind an order. -/
theorem do_may (g : Gm) (o : Od) (f : Fo) (d : Fd) (h : g.may = true) : (doG g o f d).1.may = true := by
  rw [may_iff] at h ⊢
  obtain ⟨h1, h2, h3⟩ := h
  unfold doG
  dsimp only
  split <;> (repeat' split) <;> first
    | exact ⟨h1, h2, h3⟩
    | (simp only [setG, skip_pg, skip_me, skip_st, draw_len, wr_len, List.length_replicate, List.length_take, List.length_append, List.length_singleton, h1, h2]; first | exact ⟨trivial, trivial, h3⟩ | (refine ⟨trivial, trivial, ?_⟩; omega))
theorem do_ok (g : Gm) (o : Od) (f : Fo) (d : Fd) (h : g.Ok) (ha : o.a < 65536) (hf : ∀ s ∈ f.pl, s < 65536) : (doG g o f d).1.Ok := by
  obtain ⟨h1, h2, h3, h4⟩ := h
  have hp : ∀ b, (skipG g b).pc < 65536 := fun b => by rcases skip_pc g b with e | e <;> rw [e] <;> first | exact h3 | exact Nat.mod_lt _ (by decide)
  have hl : ∀ (l : List Nat) k, (∀ s ∈ l, s < 65536) → l.getD k 0 < 65536 := fun l k hl => by
    rw [List.getD_eq_getElem?_getD]
    rcases e : l[k]? with _ | s
    · decide
    · exact hl s (List.mem_of_getElem? e)
  unfold doG
  dsimp only
  split <;> (repeat' split) <;> first
    | exact ⟨h1, h2, h3, h4⟩
    | exact ⟨by simp only [setG, skip_v, wr_len, List.length_set, h1], by first | exact h2 | (simp only [skip_i]; exact h2) | exact ha | exact hl _ _ hf | exact Nat.mod_lt _ (by decide), by first | exact h3 | exact hp _ | exact ha | exact hl _ _ h4 | exact Nat.mod_lt _ (by decide),
        by first | exact h4 | (simp only [skip_st]; exact h4) | exact fun s hs => h4 s (List.mem_of_mem_take hs) | (intro s hs; simp only [List.mem_append, List.mem_singleton] at hs; rcases hs with hs | rfl; exact h4 s hs; exact h3)⟩
/-- The registers that an order may have changed. -/
def tchG (o : Od) (k : Nat) : Bool :=
  if o.op = 9 ∨ o.op = 10 ∨ o.op = 11 ∨ o.op = 19 ∨ o.op = 23 ∨ o.op = 24 then k == o.x
  else if o.op = 12 ∨ o.op = 13 ∨ o.op = 14 ∨ o.op = 15 then k == o.x || k == 15
  else if o.op = 20 then k == 15
  else if o.op = 31 then decide (k ≤ o.x) else false
/-- The bytes of the memory that it may have changed. -/
def lieG (g : Gm) (o : Od) (a : Nat) : Bool :=
  if o.op = 29 then decide (g.i ≤ a) && decide (a ≤ g.i + 2) else if o.op = 30 then decide (g.i ≤ a) && decide (a ≤ g.i + o.x) else false
/-- Where PC may have gone. -/
def wntG (g : Gm) (o : Od) (pc : Nat) : Bool :=
  if o.op = 3 then decide (0 < g.st.length) && pc == g.st.getD (g.st.length - 1) 0
  else if o.op = 4 ∨ o.op = 5 then pc == o.a
  else if o.op = 18 then pc == (o.a + (g.v.getD 0 0).toNat) % 65536
  else if o.op = 6 ∨ o.op = 7 ∨ o.op = 8 ∨ o.op = 16 ∨ o.op = 21 ∨ o.op = 22 then pc == (g.pc + 2) % 65536 || pc == (g.pc + 4) % 65536
  else pc == (g.pc + 2) % 65536
theorem set_out (l : List UInt8) (x k : Nat) (b : UInt8) (h : k ≠ x) : (l.set x b).getD k 0 = l.getD k 0 := by
  simp only [List.getD_eq_getElem?_getD]
  rw [List.getElem?_set_ne (fun e => h e.symm)]
theorem do_v (g : Gm) (o : Od) (f : Fo) (d : Fd) (k : Nat) (h : tchG o k = false) : (doG g o f d).1.v.getD k 0 = g.v.getD k 0 := by
  have hs : ∀ (g : Gm) (x : Nat) (b : UInt8), k ≠ x → (setG g x b).v.getD k 0 = g.v.getD k 0 := fun g x b hx => set_out _ _ _ _ hx
  unfold doG
  dsimp only
  split <;> rename_i hop <;> first | simp only [tchG, hop] at h | skip
  all_goals first
    | rfl
    | (rw [skip_v]; done)
    | (simp at h; rw [hs _ _ _ h]; done)
    | (simp at h; rw [hs _ _ _ h.2, hs _ _ _ h.1]; done)
    | (split <;> rfl)
    | (split; rfl; simp at h; rw [hs _ _ _ h]; done)
    | (split; rfl; simp at h; exact wr_out _ _ _ _ _ (.inr (by omega)))
    | (split; rfl; simp at h; rw [hs _ _ _ h])
theorem do_me (g : Gm) (o : Od) (f : Fo) (d : Fd) (k : Nat) (h : lieG g o (512 + k) = false) : (doG g o f d).1.me.getD k 0 = g.me.getD k 0 := by
  unfold doG
  dsimp only
  split <;> rename_i hop <;> first | simp only [lieG, hop] at h | skip
  all_goals first
    | rfl
    | (rw [skip_me]; done)
    | (split <;> rfl)
    | (split; (rename_i hf; simp [fitG] at h hf; exact wr_out _ _ _ _ _ (by omega)); rfl)
theorem do_pg (g : Gm) (o : Od) (f : Fo) (d : Fd) (h : o.op ≠ 2) (h2 : o.op ≠ 20) : (doG g o f d).1.pg = g.pg := by
  unfold doG
  dsimp only
  split <;> rename_i hop <;> first
    | rfl
    | (exact absurd hop h)
    | (exact absurd hop h2)
    | (rw [skip_pg]; done)
    | (split <;> rfl)
theorem do_de (g : Gm) (o : Od) (f : Fo) (d : Fd) (h : o.op ≠ 25) : (doG g o f d).1.de = g.de := by
  unfold doG
  dsimp only
  split <;> rename_i hop <;> first
    | rfl
    | (exact absurd hop h)
    | (rw [skip_de]; done)
    | (split <;> rfl)
theorem do_so (g : Gm) (o : Od) (f : Fo) (d : Fd) (h : o.op ≠ 26) : (doG g o f d).1.so = g.so := by
  unfold doG
  dsimp only
  split <;> rename_i hop <;> first
    | rfl
    | (exact absurd hop h)
    | (rw [skip_so]; done)
    | (split <;> rfl)
theorem do_i (g : Gm) (o : Od) (f : Fo) (d : Fd) (h1 : o.op ≠ 17) (h2 : o.op ≠ 27) (h3 : o.op ≠ 28) (h4 : o.op ≠ 30) (h5 : o.op ≠ 31) : (doG g o f d).1.i = g.i := by
  unfold doG
  dsimp only
  split <;> rename_i hop <;> first
    | rfl
    | (exact absurd hop h1)
    | (exact absurd hop h2)
    | (exact absurd hop h3)
    | (exact absurd hop h4)
    | (exact absurd hop h5)
    | (rw [skip_i]; done)
    | (split <;> rfl)
/-- How many calls there are behind an order that was done. -/
def clsG (g : Gm) (o : Od) : Nat := if o.op = 5 then g.st.length + 1 else if o.op = 3 then g.st.length - 1 else g.st.length
theorem do_st0 (g : Gm) (o : Od) (f : Fo) (d : Fd) (h : o.op ≠ 3) (h2 : o.op ≠ 5) : (doG g o f d).1.st = g.st := by
  unfold doG
  dsimp only
  split <;> rename_i hop <;> first
    | rfl
    | (exact absurd hop h)
    | (exact absurd hop h2)
    | (rw [skip_st]; done)
    | (split <;> rfl)
theorem do_ret (g : Gm) (o : Od) (f : Fo) (d : Fd) (h : o.op = 3) : doG g o f d = if g.st.length = 0 then (g, 6) else ({ g with pc := g.st.getD (g.st.length - 1) 0, st := g.st.take (g.st.length - 1) }, 1) := by
  unfold doG
  simp only [h]
theorem do_call (g : Gm) (o : Od) (f : Fo) (d : Fd) (h : o.op = 5) : doG g o f d = if g.st.length = 12 then (g, 5) else ({ g with st := g.st ++ [g.pc], pc := o.a }, 1) := by
  unfold doG
  simp only [h]
theorem do_calls (g : Gm) (o : Od) (f : Fo) (d : Fd) (h : (doG g o f d).2 = 1) : (doG g o f d).1.st.length = clsG g o := by
  by_cases c3 : o.op = 3
  · rw [do_ret g o f d c3] at h ⊢
    split at h
    · simp at h
    · rename_i hn
      rw [if_neg hn]
      simp [clsG, c3]
  by_cases c5 : o.op = 5
  · rw [do_call g o f d c5] at h ⊢
    split at h
    · simp at h
    · rename_i hn
      rw [if_neg hn]
      simp [clsG, c5]
  rw [do_st0 g o f d c3 c5]
  simp [clsG, c3, c5]
theorem do_st (g : Gm) (o : Od) (f : Fo) (d : Fd) (k : Nat) (hk : k < clsG g o) (hk2 : k < g.st.length) : (doG g o f d).1.st.getD k 0 = g.st.getD k 0 := by
  by_cases c3 : o.op = 3
  · rw [do_ret g o f d c3]
    split
    · rfl
    · have hk3 : k < g.st.length - 1 := by simpa [clsG, c3] using hk
      simp only [List.getD_eq_getElem?_getD, List.getElem?_take_of_lt hk3]
  by_cases c5 : o.op = 5
  · rw [do_call g o f d c5]
    split
    · rfl
    · simp only [List.getD_eq_getElem?_getD, List.getElem?_append_left hk2]
  rw [do_st0 g o f d c3 c5]
theorem do_pc0 (g : Gm) (o : Od) (f : Fo) (d : Fd) (h : o.op ≠ 3) (h2 : o.op ≠ 5) (h4 : o.op ≠ 4) (h6 : o.op ≠ 6) (h7 : o.op ≠ 7) (h8 : o.op ≠ 8) (h9 : o.op ≠ 16) (ha : o.op ≠ 18) (hb : o.op ≠ 21) (hc : o.op ≠ 22) : (doG g o f d).1.pc = g.pc := by
  unfold doG
  dsimp only
  split <;> rename_i hop <;> first
    | rfl
    | (exact absurd hop ‹_›)
    | (split <;> rfl)
theorem do_skip (g : Gm) (o : Od) (f : Fo) (d : Fd) (h : o.op = 6 ∨ o.op = 7 ∨ o.op = 8 ∨ o.op = 16 ∨ o.op = 21 ∨ o.op = 22) : (doG g o f d).1.pc = g.pc ∨ (doG g o f d).1.pc = (g.pc + 2) % 65536 := by
  unfold doG
  rcases h with h | h | h | h | h | h <;> simp only [h] <;> exact skip_pc _ _
theorem do_pc (g : Gm) (o : Od) (f : Fo) (d : Fd) (h : (doG g.on o f d).2 = 1) : wntG g o (doG g.on o f d).1.pc = true := by
  unfold wntG
  by_cases c3 : o.op = 3
  · rw [do_ret g.on o f d c3] at h ⊢
    split at h
    · simp at h
    · rename_i hn
      rw [if_neg hn, if_pos c3]
      simp only [Gm.on] at hn ⊢
      simp
      omega
  rw [if_neg c3]
  by_cases c5 : o.op = 5
  · rw [do_call g.on o f d c5] at h ⊢
    split at h
    · simp at h
    · rename_i hn
      rw [if_neg hn, if_pos (.inr c5)]
      simp
  by_cases c4 : o.op = 4
  · rw [if_pos (.inl c4)]
    unfold doG
    simp only [c4]
    simp
  rw [if_neg (by rintro (e | e); exact c4 e; exact c5 e)]
  by_cases c18 : o.op = 18
  · rw [if_pos c18]
    unfold doG
    simp only [c18]
    simp [Gm.on]
  rw [if_neg c18]
  by_cases cs : o.op = 6 ∨ o.op = 7 ∨ o.op = 8 ∨ o.op = 16 ∨ o.op = 21 ∨ o.op = 22
  · rw [if_pos cs]
    rcases do_skip g.on o f d cs with e | e <;> rw [e] <;> simp [Gm.on]
  · rw [if_neg cs]
    have cs' : o.op ≠ 6 ∧ o.op ≠ 7 ∧ o.op ≠ 8 ∧ o.op ≠ 16 ∧ o.op ≠ 21 ∧ o.op ≠ 22 := by omega
    rw [do_pc0 g.on o f d c3 c5 c4 cs'.1 cs'.2.1 cs'.2.2.1 cs'.2.2.2.1 c18 cs'.2.2.2.2.1 cs'.2.2.2.2.2]
    simp [Gm.on]
/-- What an order hangs on. -/
theorem do_hangs (g : Gm) (o : Od) (f f' : Fo) (d d' : Fd) (h1 : o.op = 19 → d'.rn = d.rn)
    (h2 : o.op = 21 ∨ o.op = 22 → d'.ks >>> ((g.v.getD o.x 0).toNat % 16) % 2 = d.ks >>> ((g.v.getD o.x 0).toNat % 16) % 2)
    (h3 : o.op = 24 → d'.ky = d.ky) (h4 : o.op = 28 ∨ o.op = 20 ∨ o.op = 31 → f' = f) : doG g o f' d' = doG g o f d := by
  by_cases a1 : o.op = 19
  · unfold doG
    simp only [a1]
    rw [h1 a1]
  by_cases a2 : o.op = 21
  · unfold doG
    simp only [a2]
    rw [h2 (.inl a2)]
  by_cases a3 : o.op = 22
  · unfold doG
    simp only [a3]
    rw [h2 (.inr a3)]
  by_cases a4 : o.op = 24
  · unfold doG
    simp only [a4]
    rw [h3 a4]
  by_cases a5 : o.op = 28 ∨ o.op = 20 ∨ o.op = 31
  · obtain rfl := h4 a5
    rcases a5 with a | a | a <;> (unfold doG; simp only [a])
  obtain ⟨b1, b2, b3⟩ : o.op ≠ 28 ∧ o.op ≠ 20 ∧ o.op ≠ 31 := by omega
  unfold doG
  dsimp only
  split <;> rename_i hop <;> first
    | rfl
    | (exact absurd hop ‹_›)
theorem next_done {g : Gm} (h : (nextG g).2 = 1) : g.may = true ∧ inM g.pc = true ∧ inM (g.pc + 1) = true ∧ decB (wordG g) = true ∧ (nextG g).1 = decO (wordG g) ∧ (decO (wordG g)).op ≠ 1 := by
  unfold nextG at h ⊢
  split at h
  · rename_i h1
    split at h
    · rename_i h2
      split at h
      · rename_i h3
        split at h
        · simp at h
        · rename_i h4
          simp only [Bool.and_eq_true] at h2
          simp [h1, h2.1, h2.2, h3, h4]
      · exact absurd h (by decide)
    · exact absurd h (by decide)
  · exact absurd h (by decide)
theorem next_of {g : Gm} (h : g.may = true) (h1 : inM g.pc = true) (h2 : inM (g.pc + 1) = true) (h3 : decB (wordG g) = true) (h4 : (decO (wordG g)).op ≠ 1) : nextG g = (decO (wordG g), 1) := by
  unfold nextG
  simp [h, h1, h2, h3, h4]
/-- What one order tells of a machine that may be. -/
theorem step_may (g : Gm) (f : Fo) (d : Fd) (h : g.may = true) (he : (stepG g f d).2.2 = 0) : (stepG g f d).1.may = true := by
  revert he
  unfold stepG
  rw [if_pos h]
  split
  · split
    · split
      · intro _
        exact do_may _ _ _ _ h
      · exact fun _ => h
    · exact fun _ => h
  · exact fun e => absurd e (by decide)
theorem step_else (g : Gm) (f : Fo) (d : Fd) (h : g.may = true) (he : (stepG g f d).2.2 = 0) (ho : (stepG g f d).2.1 ≠ 1) : (stepG g f d).1 = g := by
  revert he ho
  unfold stepG
  rw [if_pos h]
  split
  · split
    · split
      · exact fun _ e => absurd rfl e
      · exact fun _ _ => rfl
    · exact fun _ _ => rfl
  · exact fun e => absurd e (by decide)
theorem tick_may (g : Gm) (h : g.may = true) : (tickG g).may = true := by
  unfold tickG
  rw [if_pos h]
  exact h
end Go.Proofs.Ytfkifppadngmdaa
