/- The statements' own: an answer is written over, spare room too. -/
import Derived.Test.YtfkifppadngmdaaH0
namespace Go.Proofs.Ytfkifppadngmdaa
open Go Go.RowKit Go.Shelf
set_option linter.unusedVariables false
set_option maxHeartbeats 1000000
set_option maxRecDepth 20000

theorem at_slF {ops : Array Oper} {rest : List Oper} {o : Oper} {a : Act} {w : World} {Q : Exit → Act → World → Prop} (t : TypeId) (x hi : Operand) (X H v : Value) (hg : Region.wanted o (yielded ops a.tmps) = true) (ho : o.op = .slice t x none (some hi) none) (hx : a.eval x = X) (hl : a.eval hi = H)
    (h : ∀ w, (Instr.sliceAt t X none (some H) none).run Try.prog w = .ok v w) (k : wpList Try.prog ops Q rest (a.put o.dst v) w) : wpList Try.prog ops Q (o :: rest) a w :=
  BigFrame.wpList_want hg fun K hK => by
    unfold Oper.wp execOp
    simp only [ho, hx, hl, Option.map_some, Option.map_none, Sem.run_bind, h, Result.andThen_ok, Sem.run_pure]
    exact hK _ _ k
theorem slF {T e : TypeId} {s : Nat} (hu : Try.prog.underlying T = some (.slice (Try.prog.elem T))) (hz : ∀ v, (sizeOf (Try.prog.elem T)).run Try.prog v = .ok s v) (sp : Option Addr) (n cap : Nat) (h0 : sp = none ∧ cap = 0 ∨ ∃ g, sp = some ⟨g, 0, none⟩) (w : World) : (Instr.sliceAt T (.slice sp n cap) none (some (.int .i64 (cap : Int))) none).run Try.prog w = .ok (.slice sp cap cap) w := by
  rw [run_sliceAt_slice w _ _ _ _ _ hu, run_slice_h w _ _ _ _ hu .i64 (cap : Int) (by omega) (by omega), hz]
  rcases h0 with ⟨rfl, rfl⟩ | ⟨g, rfl⟩
  · simp [sliced, Result.andThen_ok]
  · simp [sliced, Result.andThen_ok, Addr.add]
theorem CuL.set {B g : Nat} {F : Nat → Nat → Prop} {y u : World} (h : CuL B F y u) (hB : B ≤ g) (hF : ∀ j, F g j) (k : Nat) (v : Value) : CuL B F y (u.setCell ⟨g, k, none⟩ v) :=
  h.trans ⟨(Below.refl B u).setCell (p := ⟨g, k, none⟩) hB v, fun q j _ hq => World.cell?_of_block (w := u) (a := ⟨q, j, none⟩) (heap_setCell_other u ⟨g, k, none⟩ q v (fun e => hq (by rw [e]; exact hF j))), fun q _ hq => heap_setCell_other u ⟨g, k, none⟩ q v (fun e => hq 0 (by rw [e]; exact hF 0))⟩
/-- A row with its spare room. -/
def Spr (t : TypeId) (B : Nat) (u : World) (sp : Option Addr) (cap : Nat) : Prop := sp = none ∧ cap = 0 ∨ ∃ g cs, sp = some ⟨g, 0, none⟩ ∧ B ≤ g ∧ Bx u g cs t ∧ cs.size = cap
theorem Spr.of {α : Type} {t : TypeId} {c : α → List Value} {B : Nat} {u : World} {v : Value} {l : List α} (h : OwnL t 1 c B u v l) : ∃ sp cap, v = .slice sp l.length cap ∧ Spr t B u sp cap ∧ cap ≤ 9223372036854775807 ∧ ∀ q, v.ownBlock = some q ↔ sp = some ⟨q, 0, none⟩ := by
  rcases h.2 with ⟨rfl, h0⟩ | ⟨g, cap, cur, rfl, hBg, hg, hnc, hcm, hcs, _⟩
  · exact ⟨none, 0, by rw [h0], .inl ⟨rfl, rfl⟩, by decide, fun q => by simp [Value.ownBlock]⟩
  · exact ⟨some ⟨g, 0, none⟩, cap, rfl, .inr ⟨g, cur, rfl, hBg, hg, by omega⟩, hcm, fun q => by simp [Value.ownBlock]⟩
theorem Spr.keep {t : TypeId} {B : Nat} {u z : World} {sp : Option Addr} {cap : Nat} (h : Spr t B u sp cap) (hk : ∀ g, sp = some ⟨g, 0, none⟩ → z.heap[g]? = u.heap[g]?) : Spr t B z sp cap := by
  rcases h with h | ⟨g, cs, e, hB, hb, hs⟩
  · exact .inl h
  · exact .inr ⟨g, cs, e, hB, (hk g e).trans hb, hs⟩
theorem Spr.has {t : TypeId} {B : Nat} {u : World} {sp : Option Addr} {cap : Nat} (h : Spr t B u sp cap) {k : Nat} (hk : k < cap) : ∃ g, sp = some ⟨g, 0, none⟩ := by
  rcases h with ⟨_, h⟩ | ⟨g, cs, e, _⟩
  · omega
  · exact ⟨g, e⟩
theorem Spr.cell {t : TypeId} {B : Nat} {u : World} {g cap : Nat} (h : Spr t B u (some ⟨g, 0, none⟩) cap) {k : Nat} (hk : k < cap) : B ≤ g ∧ (∃ cs, Bx u g cs t) ∧ (∃ v, u.cell? ⟨g, k, none⟩ = some v) ∧ u.frozen? ⟨g, k, none⟩ = false ∧ ∀ v, Spr t B (u.setCell ⟨g, k, none⟩ v) (some ⟨g, 0, none⟩) cap ∧ (u.setCell ⟨g, k, none⟩ v).cell? ⟨g, k, none⟩ = some v := by
  rcases h with ⟨h, _⟩ | ⟨g', cs, e, hB, hb, hs⟩
  · cases h
  · injection e with e
    injection e with e _ _
    subst e
    obtain ⟨ov, hov⟩ : ∃ ov, cs[k]? = Option.some ov := ⟨_, Array.getElem?_eq_getElem (by omega)⟩
    refine ⟨hB, ⟨cs, hb⟩, ⟨ov, hb.c k ov hov⟩, hb.fz k, fun v => ⟨.inr ⟨g, _, rfl, hB, heap_setCell_same u g k cs t v hb, by simp [hs]⟩, ?_⟩⟩
    exact Bx.c (t := t) (heap_setCell_same u g k cs t v hb) k v (by rw [Array.getElem?_setIfInBounds, if_pos rfl, if_pos (by omega)])
/-- What stands while an answer is written over. -/
structure SpW (B b : Nat) (C : Array Value) (s1 s2 s3 : Option Addr) (c1 c2 c3 k : Nat) (y u : World) : Prop where
  cu : CuL B (fun q _ => s1 = some ⟨q, 0, none⟩ ∨ s2 = some ⟨q, 0, none⟩ ∨ s3 = some ⟨q, 0, none⟩) y u
  bx : Bx u b C 29
  r1 : Spr 5 B u s1 c1
  r2 : Spr 5 B u s2 c2
  r3 : Spr 26 B u s3 c3
  ne : ∀ q, s1 = some ⟨q, 0, none⟩ → s2 ≠ some ⟨q, 0, none⟩
  fl : ∀ j, j < k → ∃ q, s1 = some ⟨q, 0, none⟩ ∧ u.cell? ⟨q, j, none⟩ = some (.int .u8 119)
theorem SpW.set1 {B b : Nat} {C : Array Value} {g : Nat} {s2 s3 : Option Addr} {c1 c2 c3 k : Nat} {y u : World} (h : SpW B b C (some ⟨g, 0, none⟩) s2 s3 c1 c2 c3 k y u) (hk : k < c1) : SpW B b C (some ⟨g, 0, none⟩) s2 s3 c1 c2 c3 (k + 1) y (u.setCell ⟨g, k, none⟩ (.int .u8 119)) := by
  obtain ⟨hB, ⟨cs, hb⟩, _, _, hs⟩ := h.r1.cell hk
  have ho : ∀ q, q ≠ g → (u.setCell ⟨g, k, none⟩ (.int .u8 119)).heap[q]? = u.heap[q]? := fun q hq => heap_setCell_other u ⟨g, k, none⟩ q _ hq
  refine ⟨h.cu.set hB (fun _ => .inl rfl) k _, (ho b (Bx.unlike h.bx hb (by decide))).trans h.bx, (hs _).1, h.r2.keep fun q e => ho q (fun e2 => h.ne q (by rw [e2]) e), h.r3.keep fun q e => ho q ?_, h.ne, fun j hj => ?_⟩
  · obtain ⟨cs3, hb3⟩ : ∃ cs3, Bx u q cs3 26 := by
      rcases h.r3 with ⟨e0, _⟩ | ⟨g', cs', e', _, hb', _⟩
      · rw [e0] at e; cases e
      · rw [e'] at e; cases e; exact ⟨cs', hb'⟩
    exact Bx.unlike hb3 hb (by decide)
  · rcases Nat.lt_or_ge j k with c | c
    · obtain ⟨q, e, hc⟩ := h.fl j c
      injection e with e
      injection e with e _ _
      subst e
      refine ⟨g, rfl, ?_⟩
      rw [Bx.c (t := 5) (heap_setCell_same u g k cs _ (.int .u8 119) hb) j (.int .u8 119)]
      rw [Array.getElem?_setIfInBounds_ne (by omega)]
      have := cell_heap hb j
      rw [← this]
      exact hc
    · obtain rfl : j = k := by omega
      exact ⟨g, rfl, (hs _).2⟩
theorem SpW.set2 {B b : Nat} {C : Array Value} {g : Nat} {s1 s3 : Option Addr} {c1 c2 c3 k i : Nat} {y u : World} (h : SpW B b C s1 (some ⟨g, 0, none⟩) s3 c1 c2 c3 k y u) (hk : i < c2) : SpW B b C s1 (some ⟨g, 0, none⟩) s3 c1 c2 c3 k y (u.setCell ⟨g, i, none⟩ (.int .u8 136)) := by
  obtain ⟨hB, ⟨cs, hb⟩, _, _, hs⟩ := h.r2.cell hk
  have ho : ∀ q, q ≠ g → (u.setCell ⟨g, i, none⟩ (.int .u8 136)).heap[q]? = u.heap[q]? := fun q hq => heap_setCell_other u ⟨g, i, none⟩ q _ hq
  refine ⟨h.cu.set hB (fun _ => .inr (.inl rfl)) i _, (ho b (Bx.unlike h.bx hb (by decide))).trans h.bx, h.r1.keep fun q e => ho q (fun e2 => h.ne q e (by rw [e2])), (hs _).1, h.r3.keep fun q e => ho q ?_, h.ne, fun j hj => ?_⟩
  · obtain ⟨cs3, hb3⟩ : ∃ cs3, Bx u q cs3 26 := by
      rcases h.r3 with ⟨e0, _⟩ | ⟨g', cs', e', _, hb', _⟩
      · rw [e0] at e; cases e
      · rw [e'] at e; cases e; exact ⟨cs', hb'⟩
    exact Bx.unlike hb3 hb (by decide)
  · obtain ⟨q, e, hc⟩ := h.fl j hj
    exact ⟨q, e, (World.cell?_of_block (w := u) (a := ⟨q, j, none⟩) (ho q (fun e2 => h.ne q e (by rw [e2])))).trans hc⟩
theorem SpW.set3 {B b : Nat} {C : Array Value} {g : Nat} {s1 s2 : Option Addr} {c1 c2 c3 k i : Nat} {y u : World} (h : SpW B b C s1 s2 (some ⟨g, 0, none⟩) c1 c2 c3 k y u) (hk : i < c3) : SpW B b C s1 s2 (some ⟨g, 0, none⟩) c1 c2 c3 0 y (u.setCell ⟨g, i, none⟩ (.int .u16 39321)) := by
  obtain ⟨hB, ⟨cs, hb⟩, _, _, hs⟩ := h.r3.cell hk
  have ho : ∀ q, q ≠ g → (u.setCell ⟨g, i, none⟩ (.int .u16 39321)).heap[q]? = u.heap[q]? := fun q hq => heap_setCell_other u ⟨g, i, none⟩ q _ hq
  have key : ∀ {sp : Option Addr} {c : Nat}, Spr 5 B u sp c → Spr 5 B (u.setCell ⟨g, i, none⟩ (.int .u16 39321)) sp c := fun {sp c} h' => by
    rcases h' with h0 | ⟨g', cs', e', hB', hb', hs'⟩
    · exact .inl h0
    · exact .inr ⟨g', cs', e', hB', (ho g' (Bx.unlike hb' hb (by decide))).trans hb', hs'⟩
  exact ⟨h.cu.set hB (fun _ => .inr (.inr rfl)) i _, (ho b (Bx.unlike h.bx hb (by decide))).trans h.bx, key h.r1, key h.r2, (hs _).1, h.ne, fun j hj => by omega⟩
/-- The blocks that a machine has. -/
def ownG (C : Array Value) (q : Nat) : Prop := ∃ i v, (i = 18 ∨ i = 21 ∨ i = 22) ∧ C[i]? = some v ∧ v.ownBlock = some q
theorem spread_any (w : World) (B : Nat) (C : Array Value) (g : Gm) (h : Hid (GO B w C g)) (hB : Hid (B ≤ w.heap.size)) :
    Calls Try.prog 10 #[.agg C] w fun e w' => e = .returned (.bool true) ∧ Hid (CuL B (fun q _ => ownG C q) w w') := by
  obtain ⟨⟨vS, vP, vM, e, h1, h2, h3, h4⟩, ok⟩ := h.out
  obtain ⟨s1, c1, rfl, R1, b1, o1⟩ := Spr.of h2
  obtain ⟨s2, c2, rfl, R2, b2, o2⟩ := Spr.of h3
  obtain ⟨s3, c3, rfl, R3, b3, o3⟩ := Spr.of h1
  obtain ⟨n1, hn1⟩ : ∃ x, g.pg.length = x := ⟨_, rfl⟩
  obtain ⟨n2, hn2⟩ : ∃ x, g.me.length = x := ⟨_, rfl⟩
  obtain ⟨n3, hn3⟩ : ∃ x, g.st.length = x := ⟨_, rfl⟩
  have f21 : Hid (C[21]? = some (.slice s1 n1 c1)) := by rw [e, ← hn1]; exact (rfl : _ = _)
  have f22 : Hid (C[22]? = some (.slice s2 n2 c2)) := by rw [e, ← hn2]; exact (rfl : _ = _)
  have f18 : Hid (C[18]? = some (.slice s3 n3 c3)) := by rw [e, ← hn3]; exact (rfl : _ = _)
  have i1 : (c1 : Int) ≤ 9223372036854775807 := by omega
  have i2 : (c2 : Int) ≤ 9223372036854775807 := by omega
  have i3 : (c3 : Int) ≤ 9223372036854775807 := by omega
  have z0 : ∀ {t : TypeId} {u : World} {sp : Option Addr} {c : Nat}, Spr t B u sp c → sp = none ∧ c = 0 ∨ ∃ g, sp = some ⟨g, 0, none⟩ := fun h => by
    rcases h with h | ⟨g, _, e, _⟩
    · exact .inl h
    · exact .inr ⟨g, e⟩
  have l1 := slF (T := 22) (e := 0) (s := 1) (by kernel_rfl) (fun v => by kernel_rfl) s1 n1 c1 (z0 R1)
  have l2 := slF (T := 22) (e := 0) (s := 1) (by kernel_rfl) (fun v => by kernel_rfl) s2 n2 c2 (z0 R2)
  have l3 := slF (T := 27) (e := 0) (s := 1) (by kernel_rfl) (fun v => by kernel_rfl) s3 n3 c3 (z0 R3)
  replace l1 : Hid (∀ w, (Instr.sliceAt 22 (.slice s1 n1 c1) none (some (.int .i64 (c1 : Int))) none).run Try.prog w = .ok (.slice s1 c1 c1) w) := l1
  replace l2 : Hid (∀ w, (Instr.sliceAt 22 (.slice s2 n2 c2) none (some (.int .i64 (c2 : Int))) none).run Try.prog w = .ok (.slice s2 c2 c2) w) := l2
  replace l3 : Hid (∀ w, (Instr.sliceAt 27 (.slice s3 n3 c3) none (some (.int .i64 (c3 : Int))) none).run Try.prog w = .ok (.slice s3 c3 c3) w) := l3
  have fin : Hid (∀ u, CuL B (fun q _ => s1 = some ⟨q, 0, none⟩ ∨ s2 = some ⟨q, 0, none⟩ ∨ s3 = some ⟨q, 0, none⟩) w u → CuL B (fun q _ => ownG C q) w u) := fun u hu => hu.mono fun q j _ hF => by
    rcases hF with hF | hF | hF
    · exact ⟨21, _, .inr (.inl rfl), f21.out, by rw [hF]; rfl⟩
    · exact ⟨22, _, .inr (.inr rfl), f22.out, by rw [hF]; rfl⟩
    · exact ⟨18, _, .inl rfl, f18.out, by rw [hF]; rfl⟩
  have K0 : Hid (SpW B w.heap.size C s1 s2 s3 c1 c2 c3 0 w (w.alloc (.cells C 29))) := by
    have hb := below1 w (.cells C 29)
    have kp : ∀ {t : TypeId} {sp : Option Addr} {c : Nat}, Spr t B w sp c → Spr t B (w.alloc (.cells C 29)) sp c := fun {t sp c} h' => by
      rcases h' with h0 | ⟨g', cs', e', hB', hb', hs'⟩
      · exact .inl h0
      · exact .inr ⟨g', cs', e', hB', (hb.block g' (heap_lt hb')).trans hb', hs'⟩
    exact ⟨CuL.of_below hb hB.out, one_bxL w _ _, kp R1, kp R2, kp R3, fun q e1 e2 => h4 q ((o1 q).2 e1) ((o2 q).2 e2), fun j hj => by omega⟩
  clear h e h1 h2 h3 h4 ok R1 R2 R3 b1 b2 b3 o1 o2 o3 hn1 hn2 hn3 z0
  go_enter Try.func10, Try.ntmps10
  go_wp2_with (first
    | ((with_reducible refine gen_world (w.alloc (.cells C 29)) (fun u => SpW B w.heap.size C s1 s2 s3 c1 c2 c3 0 w u) ?_ ?_); exact K0.out; intro y0 Y0; have d21 := Y0.out.bx.c 21 _ f21.out; have d22 := Y0.out.bx.c 22 _ f22.out)
    | ((with_reducible refine at_slF 22 (.tmp 11) (.tmp 14) (.slice s1 n1 c1) (.int .i64 (c1 : Int)) (.slice s1 c1 c1) ?_ ?_ ?_ ?_ ?_ ?_); kernel_rfl; rfl; rfl; rfl; exact l1.out)
    | ((with_reducible refine at_slF 22 (.tmp 17) (.tmp 20) (.slice s2 n2 c2) (.int .i64 (c2 : Int)) (.slice s2 c2 c2) ?_ ?_ ?_ ?_ ?_ ?_); kernel_rfl; rfl; rfl; rfl; exact l2.out))
  clear d21 d22 K0
  go_loopw [5] (fun kv wz => ∃ (k : Nat) (u : World), u = wz ∧ k ≤ c1 ∧ kv = .int .i64 (k : Int) ∧ Hid (SpW B w.heap.size C s1 s2 s3 c1 c2 c3 k w u)) (fun kv _ => (c1 - intOf kv).toNat)
  case atStart => exact ⟨0, _, rfl, Nat.zero_le _, rfl, Y0⟩
  case round =>
    obtain ⟨k, u, rfl, hk, rfl, K⟩ := hrel
    by_cases hlt : k < c1
    · have hki : (k : Int) < (c1 : Int) := by omega
      have hlt' : Hid (k < c1) := hlt
      obtain ⟨g, rfl⟩ := K.out.r1.has hlt
      have ix := fun v => idxB .i64 g 0 c1 c1 k v hlt
      simp only [Nat.zero_add] at ix
      obtain ⟨_, _, ⟨ov, cK⟩, fz, _⟩ := K.out.r1.cell hlt
      have K2 : Hid (SpW B w.heap.size C (some ⟨g, 0, none⟩) s2 s3 c1 c2 c3 (k + 1) w (u.setCell ⟨g, k, none⟩ (.int .u8 119))) := K.out.set1 hlt
      clear hk hlt Y0
      go_wp2
      go_roundw
      case rel => exact ⟨k + 1, _, rfl, hlt'.out, by simp, K2⟩
      case measure => have := hlt'.out; simp [intOf]; omega
    · obtain rfl : k = c1 := by omega
      clear hk hlt Y0
      go_wp2
      go_loopw [6] (fun kv wz => ∃ (i : Nat) (z : World), z = wz ∧ i ≤ c2 ∧ kv = .int .i64 (i : Int) ∧ Hid (SpW B w.heap.size C s1 s2 s3 k c2 c3 k w z)) (fun kv _ => (c2 - intOf kv).toNat)
      case atStart => exact ⟨0, _, rfl, Nat.zero_le _, rfl, K⟩
      case round =>
        obtain ⟨i, z, rfl, hi, rfl, Kz⟩ := hrel
        by_cases hlt : i < c2
        · have hki : (i : Int) < (c2 : Int) := by omega
          have hlt' : Hid (i < c2) := hlt
          obtain ⟨g, rfl⟩ := Kz.out.r2.has hlt
          have ix := fun v => idxB .i64 g 0 c2 c2 i v hlt
          simp only [Nat.zero_add] at ix
          obtain ⟨_, _, ⟨ov, cK⟩, fz, _⟩ := Kz.out.r2.cell hlt
          have K2 : Hid (SpW B w.heap.size C s1 (some ⟨g, 0, none⟩) s3 k c2 c3 k w (z.setCell ⟨g, i, none⟩ (.int .u8 136))) := Kz.out.set2 hlt
          clear hi hlt K
          go_wp2
          go_roundw
          case rel => exact ⟨i + 1, _, rfl, hlt'.out, by simp, K2⟩
          case measure => have := hlt'.out; simp [intOf]; omega
        · obtain rfl : i = c2 := by omega
          clear hi hlt K
          go_wp2
          go_loopw [7] (fun kv wz => ∃ (j : Nat) (x : World), x = wz ∧ j ≤ k ∧ kv = .int .i64 (j : Int) ∧ Hid (SpW B w.heap.size C s1 s2 s3 k i c3 k w x)) (fun kv _ => (k - intOf kv).toNat)
          case atStart => exact ⟨0, _, rfl, Nat.zero_le _, rfl, Kz⟩
          case round =>
            obtain ⟨j, x, rfl, hj, rfl, Kx⟩ := hrel
            by_cases hlt : j < k
            · have hki : (j : Int) < (k : Int) := by omega
              have hlt' : Hid (j < k) := hlt
              obtain ⟨g, rfl, cK⟩ := Kx.out.fl j hlt
              have ix := fun v => idxB .i64 g 0 k k j v hlt
              simp only [Nat.zero_add] at ix
              clear hj hlt Kz
              go_wp2
              go_roundw
              case rel => exact ⟨j + 1, _, rfl, hlt'.out, by simp, Kx⟩
              case measure => have := hlt'.out; simp [intOf]; omega
            · obtain rfl : j = k := by omega
              have d18 := Kx.out.bx.c 18 _ f18.out
              clear hj hlt Kz
              go_wp2_with ((with_reducible refine at_slF 27 (.tmp 52) (.tmp 55) (.slice s3 n3 c3) (.int .i64 (c3 : Int)) (.slice s3 c3 c3) ?_ ?_ ?_ ?_ ?_ ?_); kernel_rfl; rfl; rfl; rfl; exact l3.out)
              clear d18
              go_loopw [9] (fun kv wz => ∃ (m : Nat) (t : World) (kk : Nat), t = wz ∧ m ≤ c3 ∧ kv = .int .i64 (m : Int) ∧ Hid (SpW B w.heap.size C s1 s2 s3 j i c3 kk w t)) (fun kv _ => (c3 - intOf kv).toNat)
              case atStart => exact ⟨0, _, _, rfl, Nat.zero_le _, rfl, Kx⟩
              case round =>
                obtain ⟨m, t, kk, rfl, hm, rfl, Kt⟩ := hrel
                by_cases hlt : m < c3
                · have hki : (m : Int) < (c3 : Int) := by omega
                  have hlt' : Hid (m < c3) := hlt
                  obtain ⟨g, rfl⟩ := Kt.out.r3.has hlt
                  have ix := fun v => idxW .i64 g 0 c3 c3 m v hlt
                  simp only [Nat.zero_add] at ix
                  obtain ⟨_, _, ⟨ov, cK⟩, fz, _⟩ := Kt.out.r3.cell hlt
                  have K2 : Hid (SpW B w.heap.size C s1 s2 (some ⟨g, 0, none⟩) j i c3 0 w (t.setCell ⟨g, m, none⟩ (.int .u16 39321))) := Kt.out.set3 hlt
                  clear hm hlt Kx
                  go_wp2
                  go_roundw
                  case rel => exact ⟨m + 1, _, 0, rfl, hlt'.out, by simp, K2⟩
                  case measure => have := hlt'.out; simp [intOf]; omega
                · obtain rfl : m = c3 := by omega
                  clear hm hlt Kx
                  go_wp2
                  go_ret
                  exact ⟨rfl, fin.out _ Kt.out.cu⟩
end Go.Proofs.Ytfkifppadngmdaa
