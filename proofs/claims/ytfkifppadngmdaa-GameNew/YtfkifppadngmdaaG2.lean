/- A CHIP-8 machine by itself: drawn twice; a call and the return from it. -/
import Derived.Test.YtfkifppadngmdaaG1
namespace Go.Proofs.Ytfkifppadngmdaa
open Go
set_option linter.unusedVariables false
set_option maxHeartbeats 1000000
set_option maxRecDepth 20000

/-- The page is as it was, if and only if nothing went out, neither at the first time nor at the second. -/
theorem draw_still (x y : Nat) (rows p : List UInt8) (hp : p.length = 256) (k : Nat) :
    ((drawS x y rows p k).1 = p) ↔ ((drawS x y rows p k).2 = false ∧ (drawS x y rows (drawS x y rows p k).1 k).2 = false) := by
  have hl : (drawS x y rows p k).1.length = 256 := by rw [draw_len]; exact hp
  rw [draw_gone x y rows p hp, draw_gone x y rows _ hl]
  by_cases hh : ∃ t n, t < k ∧ plc x y rows t = some n
  · obtain ⟨t, n, ht, hn⟩ := hh
    have hb := draw_bit x y rows p hp n k
    rw [(hit_iff x y rows n k).2 ⟨t, ht, hn⟩] at hb
    refine ⟨fun e => ?_, fun ⟨e1, e2⟩ => ?_⟩
    · rw [e] at hb
      cases h : bitP p n <;> simp [h] at hb
    · cases h : bitP p n
      · have := (gone_iff x y rows (drawS x y rows p k).1 k).2 ⟨t, n, ht, hn, by rw [hb, h]; rfl⟩
        rw [this] at e2
        cases e2
      · have := (gone_iff x y rows p k).2 ⟨t, n, ht, hn, h⟩
        rw [this] at e1
        cases e1
  · have hg : ∀ q, goneS x y rows q k = false := fun q => by
      cases h : goneS x y rows q k
      · rfl
      · obtain ⟨t, n, ht, hn, _⟩ := (gone_iff x y rows q k).1 h
        exact absurd ⟨t, n, ht, hn⟩ hh
    refine ⟨fun _ => ⟨hg _, hg _⟩, fun _ => ?_⟩
    refine page_ext _ _ (by rw [hl, hp]) fun m _ => ?_
    rw [draw_bit x y rows p hp m k]
    have : hitS x y rows m k = false := by
      cases h : hitS x y rows m k
      · rfl
      · obtain ⟨t, ht, hn⟩ := (hit_iff x y rows m k).1 h
        exact absurd ⟨t, m, ht, hn⟩ hh
    rw [this]
    simp
/-- The word of an order that draws. -/
theorem dec_draw (x y n : Nat) (hx : x < 16) (hy : y < 16) (hn : n < 16) : decB ((208 + x) * 256 + (16 * y + n)) = true ∧ decO ((208 + x) * 256 + (16 * y + n)) = ⟨20, x, y, n, 0, 0⟩ := by
  have h : ∀ (x y n : Fin 16), decB ((208 + x.val) * 256 + (16 * y.val + n.val)) = true ∧ (decO ((208 + x.val) * 256 + (16 * y.val + n.val))).same ⟨20, x.val, y.val, n.val, 0, 0⟩ = true := by decide +kernel
  have h' := h ⟨x, hx⟩ ⟨y, hy⟩ ⟨n, hn⟩
  exact ⟨h'.1, Od.same_iff.1 h'.2⟩
/-- The word of a call. -/
theorem dec_call (a : Nat) (ha : a < 4096) : decB (8192 + a) = true ∧ decO (8192 + a) = ⟨5, 0, 0, 0, 0, a⟩ := by
  have h : ∀ (b : Fin 16) (c : Fin 256), decB (8192 + (b.val * 256 + c.val)) = true ∧ (decO (8192 + (b.val * 256 + c.val))).same ⟨5, 0, 0, 0, 0, b.val * 256 + c.val⟩ = true := by decide +kernel
  have h' := h ⟨a / 256, by omega⟩ ⟨a % 256, by omega⟩
  have e : a / 256 * 256 + a % 256 = a := by omega
  simp only [e] at h'
  exact ⟨h'.1, Od.same_iff.1 h'.2⟩
theorem dec_return : decB 238 = true ∧ decO 238 = ⟨3, 0, 0, 0, 0, 0⟩ := by
  have h : decB 238 = true ∧ (decO 238).same ⟨3, 0, 0, 0, 0, 0⟩ = true := by decide +kernel
  exact ⟨h.1, Od.same_iff.1 h.2⟩
/-- One order that is done, of a machine that may be. -/
theorem step_of {g : Gm} {f : Fo} {d : Fd} (h : g.may = true) (hf : fontG f = true) (hk : d.ky ≤ 15) (h1 : inM g.pc = true) (h2 : inM (g.pc + 1) = true) {w : Nat} {o : Od} (hw : wordG g = w) (hd : decB w = true) (ho : decO w = o) (ho1 : o.op ≠ 1) :
    stepG g f d = if (doG g.on o f d).2 = 1 then ((doG g.on o f d).1, 1, 0) else (g, (doG g.on o f d).2, 0) := by
  subst hw
  subst ho
  unfold stepG
  rw [next_of h h1 h2 hd ho1]
  simp [h, hf, hk]
theorem step_arg {g : Gm} {f : Fo} {d : Fd} (h : g.may = true) (hf : (fontG f && decide (d.ky ≤ 15)) = false) : stepG g f d = (gz, 0, 1) := by
  unfold stepG
  rw [if_pos h, if_neg (by rw [hf]; decide)]
theorem do_draw (g : Gm) (o : Od) (f : Fo) (d : Fd) (h : o.op = 20) : doG g o f d = match readG g f g.i o.n with
    | none => (g, 7)
    | some l => (setG { g with pg := (drawS ((g.v.getD o.x 0).toNat % 64) ((g.v.getD o.y 0).toNat % 32) l g.pg (8 * l.length)).1 } 15 (oneG (drawS ((g.v.getD o.x 0).toNat % 64) ((g.v.getD o.y 0).toNat % 32) l g.pg (8 * l.length)).2), 1) := by
  unfold doG
  simp only [h]
  cases readG g f g.i o.n <;> rfl
/-- Drawn twice. -/
theorem step_twice {g : Gm} {f : Fo} {d : Fd} {x y n : Nat} (hx : x < 15) (hy : y < 15) (hn : n < 16) (h : g.may = true) (hv : g.v.length = 16) (hpc : g.pc = 512)
    (hf : fontG f = true) (hk : d.ky ≤ 15) (m0 : g.me.getD 0 0 = UInt8.ofNat (208 + x)) (m1 : g.me.getD 1 0 = UInt8.ofNat (16 * y + n)) (m2 : g.me.getD 2 0 = UInt8.ofNat (208 + x)) (m3 : g.me.getD 3 0 = UInt8.ofNat (16 * y + n)) :
    (stepG g f d = (g, 7, 0)) ∨ ∃ a b : Gm, stepG g f d = (a, 1, 0) ∧ stepG a f d = (b, 1, 0) ∧ a.may = true ∧ b.may = true ∧ b.pg = g.pg ∧ (a.v.getD 15 0).toNat ≤ 1 ∧ (b.v.getD 15 0).toNat ≤ 1 ∧ (a.pg = g.pg ↔ (a.v.getD 15 0 = 0 ∧ b.v.getD 15 0 = 0)) := by
  obtain ⟨hd, ho⟩ := dec_draw x y n (by omega) (by omega) hn
  obtain ⟨e1, e2⟩ : (UInt8.ofNat (208 + x)).toNat = 208 + x ∧ (UInt8.ofNat (16 * y + n)).toNat = 16 * y + n := by
    simp only [UInt8.toNat_ofNat']
    omega
  have w1 : wordG g = (208 + x) * 256 + (16 * y + n) := by
    unfold wordG
    rw [hpc]
    simp only [Nat.sub_self, Nat.reduceAdd, Nat.reduceSub, m0, m1, e1, e2]
  have s1 := step_of (d := d) h hf hk (by rw [hpc]; decide) (by rw [hpc]; decide) w1 hd ho (by simp)
  rw [do_draw _ _ _ _ rfl] at s1
  have hi : g.on.i = g.i := rfl
  have hvo : g.on.v = g.v := rfl
  have hpo : g.on.pg = g.pg := rfl
  rw [hi, hvo, hpo] at s1
  dsimp only at s1
  rcases hr : readG g.on f g.i n with _ | l
  · rw [hr] at s1
    left
    rw [s1]
    rfl
  · rw [hr] at s1
    right
    dsimp only at s1
    rw [if_pos rfl] at s1
    obtain ⟨X, hX⟩ : ∃ X, X = (g.v.getD x 0).toNat % 64 := ⟨_, rfl⟩
    obtain ⟨Y, hY⟩ : ∃ Y, Y = (g.v.getD y 0).toNat % 32 := ⟨_, rfl⟩
    obtain ⟨K, hK⟩ : ∃ K, K = 8 * l.length := ⟨_, rfl⟩
    rw [← hX, ← hY, ← hK] at s1
    obtain ⟨a, ha⟩ : ∃ a, a = setG ⟨g.v, g.i, g.on.pc, g.on.st, g.on.de, g.on.so, (drawS X Y l g.pg K).1, g.on.me⟩ 15 (oneG (drawS X Y l g.pg K).2) := ⟨_, rfl⟩
    rw [← ha] at s1
    have hp : g.pg.length = 256 := (may_iff.1 h).1
    have pa : a.pg = (drawS X Y l g.pg K).1 := by rw [ha]; rfl
    have ia : a.i = g.i := by rw [ha]; rfl
    have ma : a.me = g.me := by rw [ha]; rfl
    have va : a.v = g.v.set 15 (oneG (drawS X Y l g.pg K).2) := by rw [ha]; rfl
    have pca : a.pc = 514 := by rw [ha]; simp [setG, Gm.on, hpc]
    have hma : a.may = true := by
      rw [may_iff] at h ⊢
      refine ⟨by rw [pa, draw_len]; exact h.1, by rw [ma]; exact h.2.1, ?_⟩
      rw [ha]
      exact h.2.2
    have w2 : wordG a = (208 + x) * 256 + (16 * y + n) := by
      unfold wordG
      rw [pca, ma]
      simp only [Nat.reduceAdd, Nat.reduceSub, m2, m3, e1, e2]
    have s2 := step_of (d := d) hma hf hk (by rw [pca]; decide) (by rw [pca]; decide) w2 hd ho (by simp)
    rw [do_draw _ _ _ _ rfl] at s2
    dsimp only at s2
    rw [show a.on.i = g.i from ia, show readG a.on f g.i n = some l from (read_same f g.i (by rw [show a.on.me = a.me from rfl, ma]; rfl) n).trans hr] at s2
    dsimp only at s2
    rw [if_pos rfl] at s2
    have vx : a.v.getD x 0 = g.v.getD x 0 := by rw [va]; exact set_out _ _ _ _ (by omega)
    have vy : a.v.getD y 0 = g.v.getD y 0 := by rw [va]; exact set_out _ _ _ _ (by omega)
    rw [show a.on.v = a.v from rfl, show a.on.pg = a.pg from rfl, vx, vy, ← hX, ← hY, ← hK, pa] at s2
    have one0 : ∀ b, (oneG b).toNat ≤ 1 := by intro b; cases b <;> decide
    have one1 : ∀ b, oneG b = 0 ↔ b = false := by intro b; cases b <;> decide
    have g15 : ∀ (l : List UInt8) (b : UInt8), l.length = 16 → (l.set 15 b).getD 15 0 = b := fun l b hl => by
      rw [List.getD_eq_getElem?_getD, List.getElem?_set_self (by omega)]
      rfl
    have a15 : a.v.getD 15 0 = oneG (drawS X Y l g.pg K).2 := by rw [va]; exact g15 _ _ hv
    refine ⟨a, _, s1, s2, hma, ?_, ?_, ?_, ?_, ?_⟩
    · rw [may_iff] at hma ⊢
      refine ⟨?_, hma.2⟩
      show (drawS X Y l (drawS X Y l g.pg K).1 K).1.length = 256
      rw [draw_len, draw_len]
      exact hp
    · exact draw_twice X Y l g.pg hp K
    · rw [a15]
      exact one0 _
    · show ((a.v.set 15 _).getD 15 0).toNat ≤ 1
      rw [g15 _ _ (by rw [va, List.length_set]; exact hv)]
      exact one0 _
    · rw [a15, one1, pa]
      show _ ↔ _ ∧ (a.v.set 15 _).getD 15 0 = 0
      rw [g15 _ _ (by rw [va, List.length_set]; exact hv), one1]
      exact draw_still X Y l g.pg hp K
/-- A call, and the return from it. -/
theorem step_calls {g : Gm} {f : Fo} {d : Fd} {to : Nat} (h1 : 516 ≤ to) (h2 : to < 3743) (h : g.may = true) (hpc : g.pc = 512) (hf : fontG f = true) (hk : d.ky ≤ 15)
    (m0 : g.me.getD 0 0 = UInt8.ofNat (32 + to / 256)) (m1 : g.me.getD 1 0 = UInt8.ofNat (to % 256)) (m2 : g.me.getD (to - 512) 0 = 0) (m3 : g.me.getD (to + 1 - 512) 0 = 238) :
    (g.st.length = 12 → stepG g f d = (g, 5, 0)) ∧
    (g.st.length ≠ 12 → stepG g f d = ({ g with pc := to, st := g.st ++ [514] }, 1, 0) ∧ stepG { g with pc := to, st := g.st ++ [514] } f d = ({ g with pc := 514 }, 1, 0)) := by
  obtain ⟨hd, ho⟩ := dec_call to (by omega)
  obtain ⟨e1, e2⟩ : (UInt8.ofNat (32 + to / 256)).toNat = 32 + to / 256 ∧ (UInt8.ofNat (to % 256)).toNat = to % 256 := by
    simp only [UInt8.toNat_ofNat']
    omega
  have w1 : wordG g = 8192 + to := by
    unfold wordG
    rw [hpc]
    simp only [Nat.sub_self, Nat.reduceAdd, Nat.reduceSub, m0, m1, e1, e2]
    omega
  have s1 := step_of (d := d) h hf hk (by rw [hpc]; decide) (by rw [hpc]; decide) w1 hd ho (by simp)
  rw [do_call _ _ _ _ rfl, show g.on.st = g.st from rfl] at s1
  refine ⟨fun hc => ?_, fun hc => ?_⟩
  · rw [if_pos hc] at s1
    rw [s1]
    rfl
  · rw [if_neg hc, if_pos rfl] at s1
    have eg : ({ g.on with st := g.st ++ [g.on.pc], pc := to } : Gm) = { g with pc := to, st := g.st ++ [514] } := by simp [Gm.on, hpc]
    refine ⟨by rw [s1]; exact congrArg (fun q => (q, 1, 0)) eg, ?_⟩
    obtain ⟨a, ha⟩ : ∃ a : Gm, a = { g with pc := to, st := g.st ++ [514] } := ⟨_, rfl⟩
    rw [← ha]
    have hma : a.may = true := by
      rw [may_iff] at h ⊢
      rw [ha]
      refine ⟨h.1, h.2.1, ?_⟩
      simp
      omega
    have w2 : wordG a = 238 := by
      unfold wordG
      rw [show a.pc = to by rw [ha], show a.me = g.me by rw [ha], m2, m3]
      rfl
    have s2 := step_of (f := f) (d := d) hma hf hk (by rw [ha]; simp [inM]; omega) (by rw [ha]; simp [inM]; omega) w2 dec_return.1 dec_return.2 (by simp)
    have hne : ¬ a.on.st.length = 0 := by rw [ha]; simp [Gm.on]
    rw [do_ret _ _ _ _ rfl, if_neg hne, if_pos rfl] at s2
    rw [s2, ha]
    simp [Gm.on]
end Go.Proofs.Ytfkifppadngmdaa
