/- Assemble, over any sheet to begin with. -/
import Derived.Test.YtkpfhnogpcigaaaDoorRJFt
import Derived.Test.YtkpfhnogpcigaaaDoorRJFh
namespace Go.Proofs.YtkpfhnogpcigaaaDoorR
open Go Go.RowKit
set_option linter.unusedVariables false
set_option maxHeartbeats 3000000
set_option maxRecDepth 20000

theorem layS_take (L : List Ri) (s : Sh) (i : Nat) (r : Ri) (h : L[i]? = some r) : layS s (L.take (i + 1)) = stS (layS s (L.take i)) r := by
  induction L generalizing s i with
  | nil => simp at h
  | cons x l ih =>
    cases i with
    | zero => simp at h; subst h; simp [layS]
    | succ i =>
      simp at h
      simp only [List.take_succ_cons, layS]
      exact ih (stS s x) i h
theorem plcs_at (L : List Ri) (s : Sh) (i : Nat) (r : Ri) (h : L[i]? = some r) : (plcs s L)[i]? = some (layS s (L.take i)).p := by
  induction L generalizing s i with
  | nil => simp at h
  | cons x l ih =>
    cases i with
    | zero => simp [plcs, layS]
    | succ i =>
      simp at h
      simp only [plcs, List.getElem?_cons_succ, List.take_succ_cons, layS]
      exact ih (stS s x) i h
theorem filM_take (N : List (ByteArray × Nat)) (Z : List (Itm × Nat)) (M : List UInt8) (i : Nat) (x : Itm × Nat) (h : Z[i]? = some x) : filM N M (Z.take (i + 1)) = splice (filM N M (Z.take i)) x.2 (flB N x.1) := by
  induction Z generalizing M i with
  | nil => simp at h
  | cons w l ih =>
    cases i with
    | zero => simp at h; subst h; simp [filM]
    | succ i =>
      simp at h
      simp only [List.take_succ_cons, filM]
      exact ih _ i h
theorem check_may {L : List Ri} (h : checkE L = 0) : L.length ≤ 4096 ∧ ∀ r ∈ L, mayI r = true := by
  unfold checkE at h
  split at h
  · omega
  · rename_i h1
    refine ⟨by omega, fun r hr => ?_⟩
    rcases hb : badI L with _ | j
    · unfold badI at hb
      rw [List.findIdx?_eq_none_iff] at hb
      have := hb r hr
      simpa using this
    · rw [hb] at h
      simp at h
/-- The pieces that were laid. -/
def LaidP (q : Nu) (L : List Itm) (i : Nat) (l : List Lp) (z : World) : Prop := l.length = i ∧ ∀ (j : Nat) (x : Itm) (p : Lp), L[j]? = some x → l[j]? = some p → PcV q.b x.1 p.t p.v z ∧ (plcs sh0 (L.map (·.1)))[j]? = some p.a
theorem ret_row3 {P : Program} {a : Act} {w : World} {t : TypeId} {n : Nat} {fn : Func} {R' : Ending → World → Prop} {p u u' : Tmp} {b : Nat} {cs : Array Value} {v v' : Value} (R : Rt P t n) (hr : fn.results = #[.cell p t, .tmp u, .tmp u']) (hp : a.tmps.getD p undef = .pointer (some ⟨b, 0, none⟩)) (hu : a.tmps.getD u undef = v) (hu' : a.tmps.getD u' undef = v') (h : Bx w b cs t) (hs : cs.size = n) (hd : a.defers = []) (hR : R' (.returned (.tuple #[.agg cs, v, v'])) w) : bodyPost P fn R' .ret a w := by
  obtain ⟨d, hu9, hd'⟩ := R.u
  refine bodyPost_ret ?_ hd hR
  have hl := run_loadVar_row (P := P) w b t t cs (0, 0) d h hu9 (by cases d <;> first | rfl | exact hd') (by rw [hs]; exact R.i)
  have hp9 : a.tmps[p]?.getD undef = .pointer (some ⟨b, 0, none⟩) := by simpa using hp
  have hu9 : a.tmps[u]?.getD undef = v := by simpa using hu
  have hu8 : a.tmps[u']?.getD undef = v' := by simpa using hu'
  simp [results, hr, hp9, hu9, hu8, asAddr, hl, Result.andThen]
theorem layS_len : ∀ (l : List Ri) (s : Sh), (layS s l).N.length ≤ s.N.length + l.length
  | [], s => Nat.le_refl _
  | r :: l, s => by
    have ih := layS_len l (stS s r)
    have h : (stS s r).N.length ≤ s.N.length + 1 := by
      unfold stS
      split
      · exact Nat.le_refl _
      · split <;> exact Nat.le_succ _
    rw [layS, List.length_cons]
    omega
theorem box_ne {w : World} {b g k : Nat} {v : Value} (hb : Bx w b #[.slice none 0 0, .slice none 0 0, .slice none 0 0] 26) (hc : w.cell? ⟨g, k, none⟩ = some v) (hv : v ≠ .slice none 0 0) : g ≠ b := fun e => by
  subst e
  rw [cell_heap hb] at hc
  have hk := (Array.getElem?_eq_some_iff.1 hc).1
  simp at hk
  have : k = 0 ∨ k = 1 ∨ k = 2 := by omega
  rcases this with rfl | rfl | rfl <;> (simp at hc; exact hv hc.symm)
theorem lies_box {α : Type} {s : Nat} {c : α → List Value} {w z : World} {sp : Option Addr} {l : List α} {b : Nat} (h : LiesL s c w sp l) (hb : Bx w b #[.slice none 0 0, .slice none 0 0, .slice none 0 0] 26) (h0 : ∀ a, ∃ v, (c a)[0]? = some v ∧ v ≠ .slice none 0 0) (hg : ∀ q, q ≠ b → z.heap[q]? = w.heap[q]?) : LiesL s c z sp l := fun j a hj => by
  obtain ⟨g, o, e, hc⟩ := h j a hj
  obtain ⟨v0, hv0, hne⟩ := h0 a
  have hgb := box_ne hb (hc 0 v0 hv0) hne
  exact ⟨g, o, e, fun i v hv => (World.cell?_of_block (w := w) (a := ⟨g, o + j * s + i, none⟩) (hg g hgb)).trans (hc i v hv)⟩
theorem lco_box {w z : World} {x : Oo} {b : Nat} (h : Lco w x) (hb : Bx w b #[.slice none 0 0, .slice none 0 0, .slice none 0 0] 26) (hg : ∀ q, q ≠ b → z.heap[q]? = w.heap[q]?) : Lco z x :=
  ⟨⟨lies_box h.lo.b hb (fun a => ⟨.int .i64 a.a, rfl, by simp⟩) hg, lies_box h.lo.m hb (fun a => ⟨.int .i64 a.a, rfl, by simp⟩) hg, lies_box h.lo.l hb (fun a => ⟨.string a.n, rfl, by simp⟩) hg, fun X hX => ⟨fun j v hj => by
    obtain ⟨g, o, e, hc⟩ := (h.lo.g X hX).1 j v hj
    exact ⟨g, o, e, (World.cell?_of_block (w := w) (a := ⟨g, o + j, none⟩) (hg g (box_ne hb hc (by simp [byV])))).trans hc⟩, (h.lo.g X hX).2⟩, h.lo.ib, h.lo.im, h.lo.il, h.lo.n⟩, h.cb, h.cm⟩
/-- What stands while a source is laid. -/
structure As1 (w : World) (B : Nat) (q : Nu) (s : Sh) (M : List UInt8) (vl : Value) (L : List Itm) (i : Nat) (s0 : Sh) (l : List Lp) (z : World) : Prop where
  sh : Sht B q s M vl l z
  low : Below w.heap.size w z
  bx : Bx z w.heap.size #[.slice none 0 0, .slice none 0 0, .slice none 0 0] 26
  wB : w.heap.size < B
  len : l.length = i
  pc : ∀ (j : Nat) (x : Itm) (p : Lp), L[j]? = some x → l[j]? = some p → PcV q.b x.1 p.t p.v z ∧ (plcs s0 (L.map (·.1)))[j]? = some p.a
theorem PcV.kx' {B b : Nat} {r : Ri} {t : TypeId} {v : Value} {y z : World} (h : PcV b r t v y) (k : Kx B y z) : PcV b r t v z := h.kx fun g cs _ hb => k.by8 g cs hb
theorem As1.below {w : World} {B : Nat} {q : Nu} {s : Sh} {M : List UInt8} {vl : Value} {L : List Itm} {i : Nat} {s0 : Sh} {l : List Lp} {z z' : World} (h : As1 w B q s M vl L i s0 l z) (k : Below z.heap.size z z') : As1 w B q s M vl L i s0 l z' :=
  ⟨h.sh.below k, of_below h.low k, h.bx.below k, h.wB, h.len, fun j x p hx hp => ⟨(h.pc j x p hx hp).1.kx fun g cs _ hb => hb.below k, (h.pc j x p hx hp).2⟩⟩
theorem bx_kx {w z z' : World} {B g : Nat} {cs : Array Value} {t : TypeId} (h : Bx z g cs t) (k : Below B z z') (hg : g < B) : Bx z' g cs t := (k.block g hg).trans h
/-- A source that is none. -/
def BadA (L : List Itm) (s0 : Sh) (E n : Int) : Prop := (checkE (L.map (·.1)) ≠ 0 ∧ E = checkE (L.map (·.1)) ∧ n = checkN (L.map (·.1))) ∨ (checkE (L.map (·.1)) = 0 ∧ ∃ i : Nat, layE s0 (L.map (·.1)) 0 = some (E, i) ∧ n = (i : Int)) ∨ (checkE (L.map (·.1)) = 0 ∧ layE s0 (L.map (·.1)) 0 = none ∧ ∃ i : Nat, filE (layS s0 (L.map (·.1))).N (L.zip (plcs s0 (L.map (·.1)))) 0 = some (E, i) ∧ n = (i : Int))
theorem assemble_core (I : Inhabited La) (w : World) (T : Hid (Tabs w)) (sp : Option Addr) (cap : Nat) (L : List Itm) (hl : Hid (LiesL 6 c6 w sp (L.map (·.1)))) (hg : Hid (∀ x ∈ L, LB8 w x.1.sp x.2 ∧ x.2.length = x.1.m)) (hn : L.length ≤ 9223372036854775807)
    (s0 : Sh) (h0 : s0.Ok ∧ s0.N = []) (M0 : List UInt8) (hM0 : M0.length = 65536) (hNs : Hid (∀ u, Calls Tryd.prog 35 #[] u fun e z => ∃ q : Nu, e = .returned (.pointer (some ⟨q.s, 0, none⟩)) ∧ Hid (Below u.heap.size u z ∧ Sht u.heap.size q s0 M0 (.slice none 0 0) [] z)))
    (Fin : Ending → World → Prop) (hbad : Hid (∀ z E n, Below w.heap.size w z → BadA L s0 E n → Fin (.returned (.tuple #[.agg #[.slice none 0 0, .slice none 0 0, .slice none 0 0], .int .i64 E, .int .i64 n])) z))
    (hgood : Hid (∀ (x : Oo) z, Below w.heap.size w z → Lco z x → checkE (L.map (·.1)) = 0 → layE s0 (L.map (·.1)) 0 = none → filE (layS s0 (L.map (·.1))).N (L.zip (plcs s0 (L.map (·.1)))) 0 = none → plB x.B = blksF (filM (layS s0 (L.map (·.1))).N M0 (L.zip (plcs s0 (L.map (·.1))))) [] (-1) (marksU (layS s0 (L.map (·.1))).U) → x.M = marksU (layS s0 (L.map (·.1))).U → x.L = sortN (layS s0 (L.map (·.1))).N → Fin (.returned (.tuple #[.agg (oC x), .int .i64 0, .int .i64 0])) z)) :
    Calls Tryd.prog 18 #[.slice sp L.length cap] w Fin := by
  have K0 : Hid (Fm w [(w.heap.size, #[.slice none 0 0, .slice none 0 0, .slice none 0 0], 26)] (w.alloc (.cells #[.slice none 0 0, .slice none 0 0, .slice none 0 0] 26))) := Fm.one w _ _
  obtain ⟨Rs, hRs⟩ : ∃ R, L.map (·.1) = R := ⟨_, rfl⟩
  obtain ⟨n, hn'⟩ : ∃ n, L.length = n := ⟨_, rfl⟩
  have hnn : Hid (L.length = n ∧ Rs.length = n ∧ L.map (·.1) = Rs) := ⟨hn', by rw [← hRs, List.length_map, hn'], hRs⟩
  rw [hRs] at hl
  have hCk : Hid (∀ u, Below w.heap.size w u → Calls Tryd.prog 34 #[.slice sp n cap] u fun e z => e = .returned (.tuple #[.int .i64 (checkE Rs), .int .i64 (checkN Rs)]) ∧ Below u.heap.size u z) := fun u hu => by
    have := pcheck_any u sp cap Rs (hl.out.below hu) (by rw [hnn.out.2.1, ← hn']; exact hn) (T.out.below hu)
    rw [hnn.out.2.1] at this
    exact this
  rw [hRs] at hgood
  unfold BadA at hbad
  rw [hRs] at hbad
  rw [hn'] at hn ⊢
  obtain ⟨E0, hE0⟩ : ∃ E, checkE Rs = E := ⟨_, rfl⟩
  obtain ⟨N0, hN0⟩ : ∃ E, checkN Rs = E := ⟨_, rfl⟩
  have hE0' : Hid (checkE Rs = E0 ∧ checkN Rs = N0) := ⟨hE0, hN0⟩
  rw [hE0, hN0] at hCk
  have h0' : Hid (s0.Ok ∧ s0.N = [] ∧ M0.length = 65536) := ⟨h0.1, h0.2, hM0⟩
  clear hRs hn' h0 hM0
  by_cases hz : E0 = 0
  · subst hz
    have hck0 : Hid (checkE Rs = 0) := hE0
    have hmay := check_may hE0
    have hmy : Hid (n ≤ 4096 ∧ ∀ r ∈ Rs, mayI r = true) := by rw [← hnn.out.2.1]; exact hmay
    have ni : (n : Int) ≤ 4096 := by have := hmy.out.1; omega
    clear hmay hE0 hN0 hn
    go_enter Tryd.func18, Tryd.ntmps18
    go_wp2_with (first
      | ((with_reducible refine gen_world (w.alloc (.cells #[.slice none 0 0, .slice none 0 0, .slice none 0 0] 26)) (Fm w [(w.heap.size, #[.slice none 0 0, .slice none 0 0, .slice none 0 0], 26)]) ?_ ?_); exact K0.out; intro y1 K1)
      | (go_at_call 34; refine (hCk.out _ K1.out.low).mono ?_; rintro e y2 ⟨rfl, H2⟩; have K2 : Hid (Fm w [(w.heap.size, #[.slice none 0 0, .slice none 0 0, .slice none 0 0], 26)] y2) := K1.out.below H2; clear H2)
      | (go_at_call 35; refine (hNs.out _).mono ?_; rintro e y3 ⟨q, rfl, H3⟩; have K3 : Hid (As1 w y2.heap.size q s0 M0 (.slice none 0 0) L 0 s0 [] y3) := ⟨H3.out.2, of_below K2.out.low H3.out.1, (K2.out.bx 0 _ _ _ rfl).below H3.out.1, heap_lt (K2.out.bx 0 _ _ _ rfl), rfl, fun j x p _ hp => (by simp at hp)⟩; clear H3))
    obtain ⟨B, hB⟩ : ∃ B, y2.heap.size = B := ⟨_, rfl⟩
    rw [hB] at K3
    clear K2 hB
    go_loopw [27] (fun t wz => ∃ (i : Nat) (s : Sh) (vl : Value) (l : List Lp) (z : World), z = wz ∧ t = .int .i64 (i : Int) ∧ Hid (i ≤ n ∧ s = layS s0 (Rs.take i) ∧ layE s0 Rs 0 = layE s (Rs.drop i) i ∧ NmIn s.N) ∧ Hid (As1 w B q s M0 vl L i s0 l z)) (fun t _ => (n - intOf t).toNat)
    case atStart => exact ⟨0, s0, _, [], _, rfl, rfl, ⟨Nat.zero_le _, rfl, rfl, by rw [h0'.out.2.1]; exact fun x hx => by cases hx⟩, K3⟩
    case round =>
      obtain ⟨i, s, vl, l, z, rfl, rfl, J, K⟩ := hrel
      clear K3
      by_cases hlt : i < n
      · obtain ⟨x, hx⟩ : ∃ x, L[i]? = some x := ⟨_, List.getElem?_eq_getElem (by rw [hnn.out.1]; exact hlt)⟩
        have hxr : Rs[i]? = some x.1 := by rw [← hnn.out.2.2, List.getElem?_map, hx]; rfl
        have hm := hmy.out.2 x.1 (List.mem_of_getElem? hxr)
        obtain ⟨gb, ob, rfl, hc0⟩ := hl.out i x.1 hxr
        have hc : Hid (z.rangeAt gb (ob + i * 6) (i6 x.1).toList) := range_keep hc0 K.out.low
        have ij := fun v => idxP (g := gb) (off := ob) (len := n) (cap := cap) Tryd.underlying50 (s := 6) (by kernel_rfl) .i64 i v hlt
        have hii : (i : Int) < n := by omega
        have hlt' : Hid (i < n) := hlt
        have wi : IntKind.i64.wrap ((i : Int) + 1) = (i : Int) + 1 := by rw [IntKind.wrap_i64]; omega
        have hPo : Hid (∀ u, Below w.heap.size w u → Calls Tryd.prog 37 #[.agg (i6 x.1)] u (PoE u x.1)) := fun u hu => pieceOf_any u (T.out.below hu) x.1 hm
        have hLy : Hid (∀ u t v, As1 w B q s M0 vl L i s0 l u → PcV q.b x.1 t v u → Calls Tryd.prog 36 #[.pointer (some ⟨q.s, 0, none⟩), .iface t v] u (LyE B q s x.1 M0 l t v u)) := fun u t v hu hp => lay_any B q s M0 vl l u hu.sh (by rw [hu.len]; have := hmy.out.1; omega) x.1 hm q.b t v hp
        have hdr : Hid (layE s (Rs.drop i) i = if stE s x.1 = 0 then layE (stS s x.1) (Rs.drop (i + 1)) (i + 1) else some (stE s x.1, i)) := by
          obtain ⟨h1, e1⟩ := List.getElem?_eq_some_iff.1 hxr
          show _ = _
          rw [List.drop_eq_getElem_cons h1, e1]
          rfl
        have hst : Hid (layS s0 (Rs.take (i + 1)) = stS s x.1) := by show _ = _; rw [layS_take Rs s0 i x.1 hxr, ← J.out.2.1]
        have hpl : Hid ((plcs s0 Rs)[i]? = some s.p) := by show _ = _; rw [plcs_at Rs s0 i x.1 hxr, ← J.out.2.1]
        have hx' : Hid (L[i]? = some x ∧ mayI x.1 = true) := ⟨hx, hm⟩
        unfold LyE at hLy
        obtain ⟨E1, hE1⟩ : ∃ E, stE s x.1 = E := ⟨_, rfl⟩
        rw [hE1] at hLy
        have hE1' : Hid (stE s x.1 = E1) := hE1
        generalize hri : i6 x.1 = ri at hc hPo
        have hri6 : ri.size = 6 := by rw [← hri]; rfl
        have hri1 : ri.all (·.oneCell') = true := by rw [← hri]; exact one6 _
        clear hlt hx hxr hc0 hm hri hE1
        by_cases hE : E1 = 0
        · subst hE
          go_wp2_with (first
            | ((with_reducible refine at_loadm rt6 gb (ob + i * 6) ri ?_ ?_ (.tmp 30) ?_ ?_ ?_ ?_); exact hc.out; exact hri6; rfl; rfl; rfl)
            | ((with_reducible refine at_st rt6 z.heap.size (i6 z0) ri ?_ ?_ ?_ ?_ (.tmp 9) (.tmp 31) ?_ ?_ ?_ ?_ ?_); exact alloc_last' z _; rfl; exact hri6; exact hri1; rfl; rfl; rfl; rfl; intro z2 hw2; have Kb : Hid (Fm z [(z.heap.size, ri, 49)] z2) := (Fm.one z (i6 z0) 49).put 0 _ _ _ _ rfl hw2.out; have K4 : Hid (As1 w B q s M0 vl L i s0 l z2) := K.out.below Kb.out.low; clear hw2)
            | ((with_reducible refine at_load rt6 z.heap.size ri ?_ ?_ (.tmp 9) ?_ ?_ ?_ ?_); exact Kb.out.bx 0 _ _ _ rfl; exact hri6; rfl; rfl; rfl)
            | (go_at_call 37; refine (hPo.out _ K4.out.low).mono ?_; rintro e z3 ⟨t3, v3, rfl, H3⟩; have K5 : Hid (As1 w B q s M0 vl L i s0 l z3 ∧ PcV q.b x.1 t3 v3 z3) := ⟨K4.out.below H3.out.1, H3.out.2 q.b (heap_lt K4.out.sh.b)⟩; clear H3)
            | (go_at_call 36; refine (hLy.out _ t3 v3 K5.out.1 K5.out.2).mono ?_; rintro e z4 ⟨rfl, H4⟩))
          obtain ⟨vl', hsh⟩ := H4.out.2 (by trivial)
          have K6 : Hid (As1 w B q (stS s x.1) M0 vl' L (i + 1) s0 (l ++ [⟨t3, v3, s.p⟩]) z4) := by
            refine ⟨hsh, K5.out.1.low.trans (H4.out.1.low.mono (Nat.le_of_lt K5.out.1.wB)), bx_kx (w := w) K5.out.1.bx H4.out.1.low K5.out.1.wB, K5.out.1.wB, by rw [List.length_append, K5.out.1.len, List.length_singleton], fun j x' p' hx9 hp9 => ?_⟩
            rcases Nat.lt_or_ge j l.length with hj | hj
            · rw [List.getElem?_append_left hj] at hp9
              exact ⟨(K5.out.1.pc j x' p' hx9 hp9).1.kx' H4.out.1, (K5.out.1.pc j x' p' hx9 hp9).2⟩
            · rw [List.getElem?_append_right hj] at hp9
              have hj0 : j = i := by
                have := (List.getElem?_eq_some_iff.1 hp9).1
                rw [K5.out.1.len] at this hj
                simp at this
                omega
              subst hj0
              rw [K5.out.1.len, Nat.sub_self] at hp9
              simp at hp9
              subst hp9
              rw [hx'.out.1] at hx9
              simp at hx9
              subst hx9
              exact ⟨K5.out.2.kx' H4.out.1, by rw [hnn.out.2.2]; exact hpl.out⟩
          have J6 : Hid (i + 1 ≤ n ∧ stS s x.1 = layS s0 (Rs.take (i + 1)) ∧ layE s0 Rs 0 = layE (stS s x.1) (Rs.drop (i + 1)) (i + 1) ∧ NmIn (stS s x.1).N) := ⟨hlt'.out, hst.out.symm, by rw [J.out.2.2.1, hdr.out, hE1'.out, if_pos rfl], nm_st J.out.2.2.2 hx'.out.2 hE1'.out⟩
          clear H4 hsh
          go_wp2
          go_roundw
          case rel => exact ⟨i + 1, _, _, _, _, rfl, by simp, J6, K6⟩
          case measure => have := hlt'.out; simp [intOf]; omega
        · have hEn : (E1 != 0) = true := by rw [bne_iff_ne]; exact hE
          have hbd : Hid (layE s0 Rs 0 = some (E1, i)) := by show _ = _; rw [J.out.2.2.1, hdr.out, hE1'.out, if_neg hE]
          clear hE
          go_wp2_with (first
            | ((with_reducible refine at_loadm rt6 gb (ob + i * 6) ri ?_ ?_ (.tmp 30) ?_ ?_ ?_ ?_); exact hc.out; exact hri6; rfl; rfl; rfl)
            | ((with_reducible refine at_st rt6 z.heap.size (i6 z0) ri ?_ ?_ ?_ ?_ (.tmp 9) (.tmp 31) ?_ ?_ ?_ ?_ ?_); exact alloc_last' z _; rfl; exact hri6; exact hri1; rfl; rfl; rfl; rfl; intro z2 hw2; have Kb : Hid (Fm z [(z.heap.size, ri, 49)] z2) := (Fm.one z (i6 z0) 49).put 0 _ _ _ _ rfl hw2.out; have K4 : Hid (As1 w B q s M0 vl L i s0 l z2) := K.out.below Kb.out.low; clear hw2)
            | ((with_reducible refine at_load rt6 z.heap.size ri ?_ ?_ (.tmp 9) ?_ ?_ ?_ ?_); exact Kb.out.bx 0 _ _ _ rfl; exact hri6; rfl; rfl; rfl)
            | (go_at_call 37; refine (hPo.out _ K4.out.low).mono ?_; rintro e z3 ⟨t3, v3, rfl, H3⟩; have K5 : Hid (As1 w B q s M0 vl L i s0 l z3 ∧ PcV q.b x.1 t3 v3 z3) := ⟨K4.out.below H3.out.1, H3.out.2 q.b (heap_lt K4.out.sh.b)⟩; clear H3)
            | (go_at_call 36; refine (hLy.out _ t3 v3 K5.out.1 K5.out.2).mono ?_; rintro e z4 ⟨rfl, H4⟩; have K6 : Hid (Bx z4 w.heap.size #[.slice none 0 0, .slice none 0 0, .slice none 0 0] 26 ∧ Below w.heap.size w z4) := ⟨bx_kx (w := w) K5.out.1.bx H4.out.1.low K5.out.1.wB, K5.out.1.low.trans (H4.out.1.low.mono (Nat.le_of_lt K5.out.1.wB))⟩; clear H4)
            | ((with_reducible refine at_st rtO w.heap.size #[.slice none 0 0, .slice none 0 0, .slice none 0 0] #[.slice none 0 0, .slice none 0 0, .slice none 0 0] ?_ ?_ ?_ ?_ (.tmp 2) (.tmp 38) ?_ ?_ ?_ ?_ ?_); exact K6.out.1; rfl; rfl; simp [Value.oneCell']; rfl; rfl; rfl; rfl; intro z5 hw9; have z5K : Hid (Bx z5 w.heap.size #[.slice none 0 0, .slice none 0 0, .slice none 0 0] 26 ∧ Below w.heap.size w z5) := ⟨hw9.out.1, K6.out.2.trans (hw9.out.2.1 _ (Nat.le_refl _))⟩; clear hw9))
          exact ret_row3 rtO rfl rfl rfl rfl z5K.out.1 rfl rfl (hbad.out _ _ _ z5K.out.2 (.inr (.inl ⟨hck0.out, i, hbd.out, rfl⟩)))
      · have hie : i = n := by have := J.out.1; omega
        subst hie
        have hlay : Hid (layE s0 Rs 0 = none ∧ s = layS s0 Rs) := by
          refine ⟨?_, ?_⟩
          · rw [J.out.2.2.1, List.drop_eq_nil_of_le (by rw [hnn.out.2.1]; exact Nat.le_refl _)]; rfl
          · rw [J.out.2.1, List.take_of_length_le (by rw [hnn.out.2.1]; exact Nat.le_refl _)]
        obtain ⟨sl, cl, evl, -⟩ := OwnL.open (c := cLp) (s := 2) (fun _ => rfl) K.out.sh.o
        rw [K.out.len] at evl
        subst evl
        have c1 : z.cell? ⟨q.s, 1, none⟩ = some (.slice sl i cl) := K.out.sh.bx.c 1 _ rfl
        obtain ⟨Z, hZ⟩ : ∃ Z, L.zip (plcs s0 Rs) = Z := ⟨_, rfl⟩
        have hZ' : Hid (L.zip (plcs s0 Rs) = Z ∧ Z.length = i) := ⟨hZ, by rw [← hZ, List.length_zip, plcs_len, hnn.out.1, hnn.out.2.1, Nat.min_self]⟩
        have hsn : Hid (NmIn s.N ∧ s.N.length ≤ 4096) := ⟨J.out.2.2.2, by
          have h1 := layS_len Rs s0
          rw [← hlay.out.2, h0'.out.2.1, hnn.out.2.1] at h1
          have := hmy.out.1
          simp at h1
          omega⟩
        clear hlt hZ
        go_wp2
        go_loopw [47] (fun t wz => ∃ (j : Nat) (M : List UInt8) (z : World), z = wz ∧ t = .int .i64 (j : Int) ∧ Hid (j ≤ i ∧ M = filM s.N M0 (Z.take j) ∧ filE s.N Z 0 = filE s.N (Z.drop j) j ∧ M.length = 65536) ∧ Hid (As1 w B q s M (.slice sl i cl) L i s0 l z)) (fun t _ => (i - intOf t).toNat)
        case atStart => exact ⟨0, M0, _, rfl, rfl, ⟨Nat.zero_le _, rfl, rfl, h0'.out.2.2⟩, K⟩
        case round =>
          clear c1 K
          obtain ⟨j, M, z, rfl, rfl, J2, K⟩ := hrel
          by_cases hlt : j < i
          · obtain ⟨x, hx⟩ : ∃ x, L[j]? = some x := ⟨_, List.getElem?_eq_getElem (by rw [hnn.out.1]; exact hlt)⟩
            obtain ⟨pp, hpp⟩ : ∃ x, l[j]? = some x := ⟨_, List.getElem?_eq_getElem (by rw [K.out.len]; exact hlt)⟩
            have hxr : Rs[j]? = some x.1 := by rw [← hnn.out.2.2, List.getElem?_map, hx]; rfl
            have hm := hmy.out.2 x.1 (List.mem_of_getElem? hxr)
            have hpc := K.out.pc j x pp hx hpp
            rw [hnn.out.2.2] at hpc
            have hfits := lay_fits Rs s0 0 h0'.out.1 hmy.out.2 hlay.out.1 j x.1 pp.a hxr hpc.2
            have hZj : Hid (Z[j]? = some (x, pp.a)) := by
              show _ = _
              rw [← hZ'.out.1, List.getElem?_zip_eq_some]
              exact ⟨hx, hpc.2⟩
            obtain ⟨sl', cl', evl, lie, -⟩ := OwnL.open (c := cLp) (s := 2) (fun _ => rfl) K.out.sh.o
            injection evl with e1 e2 e3
            subst e1
            obtain ⟨gb, ob, rfl, hc0⟩ := lie j pp hpp
            have hc : Hid (z.rangeAt gb (ob + j * 2) (lpA pp).toList) := hc0
            have ij := fun v => idxP (g := gb) (off := ob) (len := i) (cap := cl) Tryd.underlying81 (s := 2) (by kernel_rfl) .i64 j v hlt
            have hjj : (j : Int) < i := by omega
            have hlt' : Hid (j < i) := hlt
            have wj : IntKind.i64.wrap ((j : Int) + 1) = (j : Int) + 1 := by rw [IntKind.wrap_i64]; omega
            have hgx := hg.out x (List.mem_of_getElem? hx)
            have hFi : Hid (∀ u, As1 w B q s M (.slice (some ⟨gb, ob, none⟩) i cl) L i s0 l u → Calls Tryd.prog 38 #[.pointer (some ⟨q.s, 0, none⟩), .agg (lpA pp)] u (FiE B q s M (.slice (some ⟨gb, ob, none⟩) i cl) l (flE s.N pp.a x.1) pp.a (flB s.N x) u)) := fun u hu => fill_any B q s M J2.out.2.2.2 _ l u (T.out.below hu.low) hu.sh pp.a hfits.1 x hm ⟨hgx.1.below hu.low, hgx.2⟩ pp.t pp.v (hu.pc j x pp hx hpp).1 hfits.2
            unfold FiE at hFi
            have hdr : Hid (filE s.N (Z.drop j) j = if flE s.N pp.a x.1 = 0 then filE s.N (Z.drop (j + 1)) (j + 1) else some (flE s.N pp.a x.1, j)) := by
              obtain ⟨h1, e1⟩ := List.getElem?_eq_some_iff.1 hZj.out
              show _ = _
              rw [List.drop_eq_getElem_cons h1, e1]
              rfl
            have hMn : Hid (flE s.N pp.a x.1 = 0 → filM s.N M0 (Z.take (j + 1)) = splice M pp.a (flB s.N x) ∧ (splice M pp.a (flB s.N x)).length = 65536) := fun h9 => by
              refine ⟨by rw [filM_take _ _ _ j _ hZj.out, ← J2.out.2.1], ?_⟩
              have h8 := flB_len s.N x pp.a hm hgx.2 h9
              rw [length_splice _ _ _ (by
                rw [h8, J2.out.2.2.2]
                rcases hfits.2 with h7 | h7
                · rw [if_pos h7]; exact hfits.1
                · split
                  · exact hfits.1
                  · exact h7), J2.out.2.2.2]
            obtain ⟨E1, hE1⟩ : ∃ E, flE s.N pp.a x.1 = E := ⟨_, rfl⟩
            rw [hE1] at hFi hMn hdr
            generalize hLx : flB s.N x = Lx at hFi hMn
            generalize hri : lpA pp = ri at hc hFi
            have hri6 : ri.size = 2 := by rw [← hri]; rfl
            have hri1 : ri.all (·.oneCell') = true := by rw [← hri]; simp [lpA, Value.oneCell']
            clear hlt hx hxr hc0 hm hri hE1 hLx hpp hpc hfits lie hgx e2 e3
            by_cases hE : E1 = 0
            · subst hE
              go_wp2_with (first
                | ((with_reducible refine at_loadm rtLp gb (ob + j * 2) ri ?_ ?_ (.tmp 50) ?_ ?_ ?_ ?_); exact hc.out; exact hri6; rfl; rfl; rfl)
                | ((with_reducible refine at_st rtLp z.heap.size #[.nilIface, .int .i64 0] ri ?_ ?_ ?_ ?_ (.tmp 12) (.tmp 51) ?_ ?_ ?_ ?_ ?_); exact alloc_last' z _; rfl; exact hri6; exact hri1; rfl; rfl; rfl; rfl; intro z2 hw2; have Kb : Hid (Fm z [(z.heap.size, ri, 87)] z2) := (Fm.one z #[.nilIface, .int .i64 0] 87).put 0 _ _ _ _ rfl hw2.out; have K4 : Hid (As1 w B q s M (.slice (some ⟨gb, ob, none⟩) i cl) L i s0 l z2) := K.out.below Kb.out.low; clear hw2)
                | ((with_reducible refine at_load rtLp z.heap.size ri ?_ ?_ (.tmp 12) ?_ ?_ ?_ ?_); exact Kb.out.bx 0 _ _ _ rfl; exact hri6; rfl; rfl; rfl)
                | (go_at_call 38; refine (hFi.out _ K4.out).mono ?_; rintro e z4 ⟨rfl, H4⟩))
              have hW := H4.out.2 (by trivial)
              have K6 : Hid (As1 w B q s (splice M pp.a Lx) (.slice (some ⟨gb, ob, none⟩) i cl) L i s0 l z4) := ⟨hW.sh, K4.out.low.trans (hW.low.mono (Nat.le_of_lt K4.out.wB)), bx_kx (w := w) K4.out.bx hW.low K4.out.wB, K4.out.wB, K4.out.len, fun j' x' p' hx9 hp9 => ⟨(K4.out.pc j' x' p' hx9 hp9).1.kx fun g cs hgb hb => hW.by8 g cs (by omega) hb, (K4.out.pc j' x' p' hx9 hp9).2⟩⟩
              have J6 : Hid (j + 1 ≤ i ∧ splice M pp.a Lx = filM s.N M0 (Z.take (j + 1)) ∧ filE s.N Z 0 = filE s.N (Z.drop (j + 1)) (j + 1) ∧ (splice M pp.a Lx).length = 65536) := ⟨hlt'.out, (hMn.out (by trivial)).1.symm, by rw [J2.out.2.2.1, hdr.out, if_pos (by trivial)], (hMn.out (by trivial)).2⟩
              clear H4 hW
              go_wp2
              go_roundw
              case rel => exact ⟨j + 1, _, _, rfl, by simp, J6, K6⟩
              case measure => have := hlt'.out; simp [intOf]; omega
            · have hEn : (E1 != 0) = true := by rw [bne_iff_ne]; exact hE
              have hbd : Hid (filE s.N Z 0 = some (E1, j)) := by show _ = _; rw [J2.out.2.2.1, hdr.out, if_neg hE]
              clear hE
              go_wp2_with (first
                | ((with_reducible refine at_loadm rtLp gb (ob + j * 2) ri ?_ ?_ (.tmp 50) ?_ ?_ ?_ ?_); exact hc.out; exact hri6; rfl; rfl; rfl)
                | ((with_reducible refine at_st rtLp z.heap.size #[.nilIface, .int .i64 0] ri ?_ ?_ ?_ ?_ (.tmp 12) (.tmp 51) ?_ ?_ ?_ ?_ ?_); exact alloc_last' z _; rfl; exact hri6; exact hri1; rfl; rfl; rfl; rfl; intro z2 hw2; have Kb : Hid (Fm z [(z.heap.size, ri, 87)] z2) := (Fm.one z #[.nilIface, .int .i64 0] 87).put 0 _ _ _ _ rfl hw2.out; have K4 : Hid (As1 w B q s M (.slice (some ⟨gb, ob, none⟩) i cl) L i s0 l z2) := K.out.below Kb.out.low; clear hw2)
                | ((with_reducible refine at_load rtLp z.heap.size ri ?_ ?_ (.tmp 12) ?_ ?_ ?_ ?_); exact Kb.out.bx 0 _ _ _ rfl; exact hri6; rfl; rfl; rfl)
                | (go_at_call 38; refine (hFi.out _ K4.out).mono ?_; rintro e z4 ⟨rfl, H4⟩; have K6 : Hid (Bx z4 w.heap.size #[.slice none 0 0, .slice none 0 0, .slice none 0 0] 26 ∧ Below w.heap.size w z4) := ⟨bx_kx (w := w) K4.out.bx H4.out.1 K4.out.wB, K4.out.low.trans (H4.out.1.mono (Nat.le_of_lt K4.out.wB))⟩; clear H4)
                | ((with_reducible refine at_st rtO w.heap.size #[.slice none 0 0, .slice none 0 0, .slice none 0 0] #[.slice none 0 0, .slice none 0 0, .slice none 0 0] ?_ ?_ ?_ ?_ (.tmp 2) (.tmp 57) ?_ ?_ ?_ ?_ ?_); exact K6.out.1; rfl; rfl; simp [Value.oneCell']; rfl; rfl; rfl; rfl; intro z5 hw9; have z5K : Hid (Bx z5 w.heap.size #[.slice none 0 0, .slice none 0 0, .slice none 0 0] 26 ∧ Below w.heap.size w z5) := ⟨hw9.out.1, K6.out.2.trans (hw9.out.2.1 _ (Nat.le_refl _))⟩; clear hw9))
              exact ret_row3 rtO rfl rfl rfl rfl z5K.out.1 rfl rfl (hbad.out _ _ _ z5K.out.2 (.inr (.inr ⟨hck0.out, hlay.out.1, j, by rw [← hlay.out.2, hZ'.out.1]; exact hbd.out, rfl⟩)))
          · have hje : j = i := by have := J2.out.1; omega
            subst hje
            have hfil : Hid (filE s.N Z 0 = none ∧ M = filM s.N M0 Z) := by
              refine ⟨?_, ?_⟩
              · rw [J2.out.2.2.1, List.drop_eq_nil_of_le (by rw [hZ'.out.2]; exact Nat.le_refl _)]; rfl
              · rw [J2.out.2.1, List.take_of_length_le (by rw [hZ'.out.2]; exact Nat.le_refl _)]
            have hOb := sheet_object B q s M J2.out.2.2.2 _ l z K.out.sh hsn.out.1 (by have := hsn.out.2; omega) (fun u hu => sorted_any I q s.p _ s.N u (K.out.sh.bx.below hu) (K.out.sh.m.keep (hu.block _ K.out.sh.m.lt)) (fun x hx => by
              have h9 := (hsn.out.1 x hx).2
              unfold isNm at h9
              simp only [decide_eq_true_eq] at h9
              have := h9.2.1
              omega) (by have := hsn.out.2; omega))
            clear hlt
            go_wp2_with (first
              | (go_at_call 39; refine hOb.mono ?_; rintro e z5 ⟨x, rfl, H5⟩; have K5 : Hid (Bx z5 w.heap.size #[.slice none 0 0, .slice none 0 0, .slice none 0 0] 26 ∧ Below w.heap.size w z5) := ⟨K.out.bx.below H5.out.1, of_below K.out.low H5.out.1⟩)
              | ((with_reducible refine at_st rtO w.heap.size #[.slice none 0 0, .slice none 0 0, .slice none 0 0] (oC x) ?_ ?_ ?_ ?_ (.tmp 2) (.tmp 62) ?_ ?_ ?_ ?_ ?_); exact K5.out.1; rfl; rfl; simp [oC, Value.oneCell']; rfl; rfl; rfl; rfl; intro z6 hw9; have K6 : Hid (Bx z6 w.heap.size (oC x) 26 ∧ Below w.heap.size w z6 ∧ Lco z6 x) := ⟨hw9.out.1, K5.out.2.trans (hw9.out.2.1 _ (Nat.le_refl _)), lco_box H5.out.2.1 K5.out.1 hw9.out.2.2⟩; clear hw9))
            have e1 := hlay.out.2
            refine ret_row3 rtO rfl rfl rfl rfl K6.out.1 rfl rfl (hgood.out x _ K6.out.2.1 K6.out.2.2 hck0.out hlay.out.1 ?_ ?_ ?_ ?_)
            · rw [← e1, hZ'.out.1]; exact hfil.out.1
            · rw [← e1, hZ'.out.1, ← hfil.out.2]; exact H5.out.2.2.1
            · rw [← e1]; exact H5.out.2.2.2.1
            · rw [← e1]; exact H5.out.2.2.2.2
  · have hEn : (E0 != 0) = true := by rw [bne_iff_ne]; exact hz
    have hne : Hid (checkE Rs ≠ 0) := by rw [hE0]; exact hz
    clear hz hE0 hN0 hn
    go_enter Tryd.func18, Tryd.ntmps18
    go_wp2_with (first
      | ((with_reducible refine gen_world (w.alloc (.cells #[.slice none 0 0, .slice none 0 0, .slice none 0 0] 26)) (Fm w [(w.heap.size, #[.slice none 0 0, .slice none 0 0, .slice none 0 0], 26)]) ?_ ?_); exact K0.out; intro y1 K1)
      | (go_at_call 34; refine (hCk.out _ K1.out.low).mono ?_; rintro e y2 ⟨rfl, H2⟩; have K2 : Hid (Fm w [(w.heap.size, #[.slice none 0 0, .slice none 0 0, .slice none 0 0], 26)] y2) := K1.out.below H2; clear H2)
      | ((with_reducible refine at_st rtO w.heap.size #[.slice none 0 0, .slice none 0 0, .slice none 0 0] #[.slice none 0 0, .slice none 0 0, .slice none 0 0] ?_ ?_ ?_ ?_ (.tmp 2) (.tmp 21) ?_ ?_ ?_ ?_ ?_); exact K2.out.bx 0 _ _ _ rfl; rfl; rfl; simp [Value.oneCell']; rfl; rfl; rfl; rfl; intro y3 hw9; have y3K : Hid (Bx y3 w.heap.size #[.slice none 0 0, .slice none 0 0, .slice none 0 0] 26 ∧ Below w.heap.size w y3) := ⟨hw9.out.1, K2.out.low.trans (hw9.out.2.1 _ (Nat.le_refl _))⟩; clear hw9))
    exact ret_row3 rtO rfl rfl rfl rfl y3K.out.1 rfl rfl (hbad.out _ _ _ y3K.out.2 (.inl ⟨hne.out, hE0'.out.1.symm, hE0'.out.2.symm⟩))
end Go.Proofs.YtkpfhnogpcigaaaDoorR
/- What Assemble answers. -/
namespace Go.Proofs.YtkpfhnogpcigaaaDoorR
open Go Go.RowKit
set_option linter.unusedVariables false
set_option maxHeartbeats 1000000
set_option maxRecDepth 20000

/-- What Assemble answers, in memory: why not, and of which item; or the object. -/
def AsE (w : World) (L : List Itm) (e : Ending) (z : World) : Prop :=
  (∃ E n : Int, e = .returned (.tuple #[.agg (oC zO), .int .i64 E, .int .i64 n]) ∧ Hid (Below w.heap.size w z ∧ BadA L sh0 E n)) ∨
  (∃ x : Oo, e = .returned (.tuple #[.agg (oC x), .int .i64 0, .int .i64 0]) ∧ Hid (Below w.heap.size w z ∧ Lco z x ∧ checkE (L.map (·.1)) = 0 ∧ layE sh0 (L.map (·.1)) 0 = none ∧ filE (asmN L) (zipP L) 0 = none ∧ plB x.B = blksF (asmMem L) [] (-1) (marksU (asmU L)) ∧ x.M = marksU (asmU L) ∧ x.L = sortN (asmN L)))
theorem assemble_any (w : World) (T : Hid (Tabs w)) (sp : Option Addr) (cap : Nat) (L : List Itm) (hl : Hid (LiesL 6 c6 w sp (L.map (·.1)))) (hg : Hid (∀ x ∈ L, LB8 w x.1.sp x.2 ∧ x.2.length = x.1.m)) (hn : L.length ≤ 9223372036854775807) :
    Calls Tryd.prog 18 #[.slice sp L.length cap] w (AsE w L) :=
  assemble_core ⟨zL⟩ w T sp cap L hl hg hn sh0 ⟨sh0_ok, rfl⟩ (List.replicate 65536 0) List.length_replicate (fun u => newSheet_any u) (AsE w L)
    (fun z E n h1 h2 => .inl ⟨E, n, rfl, h1, h2⟩) (fun x z h1 h2 h3 h4 h5 h6 h7 h8 => .inr ⟨x, rfl, h1, h2, h3, h4, h5, h6, h7, h8⟩)
end Go.Proofs.YtkpfhnogpcigaaaDoorR
/- A branch alone: what the plain assembler makes of it. -/
namespace Go.Proofs.YtkpfhnogpcigaaaDoorR
open Go Go.RowKit
set_option linter.unusedVariables false
set_option maxHeartbeats 1000000
set_option maxRecDepth 20000

def toB : ByteArray := ⟨#[116, 111]⟩
def brA (a : Nat) : Ri := ⟨4, ⟨#[]⟩, (a : Int), ⟨#[]⟩, 0, none, 0, 0⟩
def brN : Ri := ⟨1, toB, 0, ⟨#[]⟩, 0, none, 0, 0⟩
def brC (S : ByteArray) : Ri := ⟨2, S, 0, toB, 1, none, 0, 0⟩
def brL (S : ByteArray) (A T : Nat) : List Itm := [(brA T, []), (brN, []), (brA A, []), (brC S, [])]
theorem may_brA (a : Nat) (h : a ≤ 65535) : mayI (brA a) = true := by
  have h1 : decide (0 ≤ (a : Int)) = true := decide_eq_true (by omega)
  have h2 : decide ((a : Int) ≤ 65535) = true := decide_eq_true (by omega)
  unfold mayI brA
  simp only
  rw [if_neg (by decide), if_neg (by decide), if_neg (by decide), if_neg (by decide), if_pos trivial, h1, h2]
  rfl
theorem may_brN : mayI brN = true := by decide +kernel
theorem may_brC (S : ByteArray) (n : Nat) (ho : opOf S = some n) (hf : fm n = 5) : mayI (brC S) = true := by
  have h1 : isNm toB = true := by decide +kernel
  unfold mayI brC codeI
  simp only
  rw [if_pos trivial, ho]
  simp only [hf]
  unfold codeF
  simp [h1]
theorem lay5 : lay (5 * 3) = 2 := by decide +kernel
theorem sz_brC (S : ByteArray) (n : Nat) (ho : opOf S = some n) (hf : fm n = 5) : szN (brC S) = 2 := by
  rw [szN_c (may_brC S n ho hf) rfl ho, hf]
  exact lay5
theorem br_check (S : ByteArray) (A T n : Nat) (hA : A ≤ 65535) (hT : T ≤ 65535) (ho : opOf S = some n) (hf : fm n = 5) : checkE ((brL S A T).map (·.1)) = 0 := by
  unfold checkE badI brL
  simp [may_brA A hA, may_brA T hT, may_brN, may_brC S n ho hf]
theorem st_brA (s : Sh) (a : Nat) : stE s (brA a) = 0 ∧ stS s (brA a) = ⟨a, s.U, s.N⟩ := by
  constructor
  · unfold stE brA; simp
  · unfold stS brA; simp
theorem st_brN (s : Sh) (h : s.p ≤ 65535) (hN : s.N = []) : stE s brN = 0 ∧ stS s brN = ⟨s.p, s.U, [(toB, s.p)]⟩ := by
  constructor
  · unfold stE nmE brN; simp [hN, lookN]; omega
  · unfold stS nmS brN; simp [hN]
theorem st_brC (s : Sh) (S : ByteArray) (n : Nat) (ho : opOf S = some n) (hf : fm n = 5) : stE s (brC S) = clE s 2 ∧ stS s (brC S) = clS s 2 1 := by
  have hz := sz_brC S n ho hf
  constructor
  · unfold stE; rw [hz]; unfold brC; simp
  · unfold stS; rw [hz]; unfold brC useI; simp
/-- The laying. -/
theorem br_lay (S : ByteArray) (A T n p0 : Nat) (U : List UInt8) (hA : A ≤ 65535) (hT : T ≤ 65535) (ho : opOf S = some n) (hf : fm n = 5) (hU : ∀ x ∈ U, x = 0) :
    layE ⟨p0, U, []⟩ ((brL S A T).map (·.1)) 0 = (if A = 65535 then some (143, 3) else none) ∧ layS ⟨p0, U, []⟩ ((brL S A T).map (·.1)) = ⟨A + 2, splice U A (List.replicate 2 1), [(toB, T)]⟩ ∧ plcs ⟨p0, U, []⟩ ((brL S A T).map (·.1)) = [p0, T, T, A] := by
  have a1 := st_brA ⟨p0, U, []⟩ T
  have a2 := st_brN ⟨T, U, []⟩ hT rfl
  have a3 := st_brA ⟨T, U, [(toB, T)]⟩ A
  have a4 := st_brC ⟨A, U, [(toB, T)]⟩ S n ho hf
  have hc : clE ⟨A, U, [(toB, T)]⟩ 2 = if A = 65535 then 143 else 0 := by
    unfold clE
    simp only
    by_cases h : A = 65535
    · rw [if_pos (by omega), if_pos h]
    · rw [if_neg (by omega), if_neg h, if_neg]
      rw [Bool.not_eq_true, List.any_eq_false]
      intro x hx
      have := hU x (List.mem_of_mem_drop (List.mem_of_mem_take hx))
      simp [this]
  have hs : clS ⟨A, U, [(toB, T)]⟩ 2 1 = ⟨A + 2, splice U A (List.replicate 2 1), [(toB, T)]⟩ := rfl
  unfold brL
  simp only [List.map_cons, List.map_nil]
  refine ⟨?_, ?_, ?_⟩
  · simp only [layE, a1.1, a1.2, a2.1, a2.2, a3.1, a3.2, a4.1, hc, if_true]
    by_cases h : A = 65535
    · simp [h]
    · simp [h]
  · simp only [layS, a1.2, a2.2, a3.2, a4.2, hs]
  · simp only [plcs, a1.2, a2.2, a3.2]
theorem asks_brA (a : Nat) : asksI (brA a) = false := by unfold asksI brA; simp
theorem asks_brN : asksI brN = false := by unfold asksI brN; simp
theorem asks_brC (S : ByteArray) : asksI (brC S) = true := by unfold asksI brC; simp
theorem fmS_of (S : ByteArray) (n : Nat) (ho : opOf S = some n) : fmS S = fm n := by unfold fmS; rw [ho]
theorem look_to (T : Nat) : lookN [(toB, T)] toB = some T := by unfold lookN; rw [if_pos rfl]
theorem fl_brC (S : ByteArray) (A T n : Nat) (ho : opOf S = some n) (hf : fm n = 5) : flE [(toB, T)] A (brC S) = if T / 256 ≠ (A + 1) / 256 then 142 else 0 := by
  unfold flE
  rw [asks_brC, if_pos rfl, show (brC S).l = toB from rfl, look_to, show (brC S).n = S from rfl, fmS_of S n ho, hf]
  simp [brC]
theorem br_fil (S : ByteArray) (A T n p0 : Nat) (ho : opOf S = some n) (hf : fm n = 5) :
    filE [(toB, T)] ((brL S A T).zip [p0, T, T, A]) 0 = if T / 256 ≠ (A + 1) / 256 then some (142, 3) else none := by
  have f1 : ∀ a p, flE [(toB, T)] p (brA a) = 0 := fun a p => by unfold flE; rw [asks_brA]; rfl
  have f2 : ∀ p, flE [(toB, T)] p brN = 0 := fun p => by unfold flE; rw [asks_brN]; rfl
  unfold brL
  simp only [List.zip_cons_cons, List.zip_nil_left, filE, f1, f2, fl_brC S A T n ho hf, if_true]
  by_cases h : T / 256 = (A + 1) / 256
  · simp [h]
  · simp [h]
theorem br_mem (S : ByteArray) (A T n p0 : Nat) (M : List UInt8) (ho : opOf S = some n) (hf : fm n = 5) :
    filM [(toB, T)] M ((brL S A T).zip [p0, T, T, A]) = splice M A [UInt8.ofNat n, UInt8.ofNat (T % 256)] := by
  have f1 : ∀ a, flB [(toB, T)] (brA a, []) = [] := fun a => by unfold flB brA; simp
  have f2 : flB [(toB, T)] (brN, []) = [] := by unfold flB brN; simp
  have f3 : flB [(toB, T)] (brC S, []) = [UInt8.ofNat n, UInt8.ofNat (T % 256)] := by
    have ht : tgtN [(toB, T)] (brC S) = T := by unfold tgtN; rw [asks_brC, if_pos rfl, show (brC S).l = toB from rfl, look_to]; rfl
    have hp : opndI (brC S) T = T % 256 := by unfold opndI; rw [show (brC S).n = S from rfl, fmS_of S n ho, hf]; simp [brC]
    unfold flB
    rw [if_neg (by simp [brC]), if_neg (by simp [brC]), if_pos (by simp [brC]), if_neg (by simp [brC]), ht, hp]
    show encL S _ = _
    unfold encL
    rw [ho]
    simp only
    unfold encB
    rw [hf]
    simp
    rw [show ((T : Int) % 256).toNat = T % 256 from by omega]
  unfold brL
  simp only [List.zip_cons_cons, List.zip_nil_left, filM, f1, f2, f3, splice_nil]
theorem rEnd_eq (U : List UInt8) (u : UInt8) (e' : Nat) (hs : U[e']? ≠ some u) : ∀ (d e : Nat), e + d = e' → (∀ k, e ≤ k → k < e' → U[k]? = some u) → rEnd U u e = e'
  | 0, e, h, _ => by
    obtain rfl : e = e' := by omega
    exact rEnd_stop hs
  | d + 1, e, h, hk => by
    rw [rEnd_step (hk e (Nat.le_refl _) (by omega))]
    exact rEnd_eq U u e' hs d (e + 1) (by omega) (fun k h1 h2 => hk k (by omega) h2)
/-- The marks of two bytes of code. -/
theorem marks_two (U : List UInt8) (A : Nat) (hA : A + 2 ≤ 65536) (hU : ∀ k, U[k]? = if A ≤ k ∧ k < A + 2 then some 1 else if k < 65536 then some 0 else none) : marksU U = [⟨(A : Int), 2, true⟩] := by
  have tl : ∀ f, mks U (f + 2) (A + 2) = [] := fun f => by
    by_cases h : A + 2 = 65536
    · unfold mks
      rw [hU, if_neg (by omega), if_neg (by omega)]
    · have e0 : rEnd U 0 (A + 2 + 1) = 65536 := rEnd_eq U 0 65536 (by rw [hU, if_neg (by omega), if_neg (by omega)]; simp) (65536 - (A + 3)) _ (by omega) (fun k h1 h2 => by rw [hU, if_neg (by omega), if_pos h2])
      unfold mks
      rw [hU, if_neg (by omega), if_pos (by omega)]
      simp only [if_true, List.nil_append]
      rw [e0]
      unfold mks
      rw [hU, if_neg (by omega), if_neg (by omega)]
  have e1 : rEnd U 1 (A + 1) = A + 2 := rEnd_eq U 1 (A + 2) (by rw [hU, if_neg (by omega)]; split <;> simp) 1 _ (by omega) (fun k h1 h2 => by rw [hU, if_pos (by omega)])
  have md : ∀ f, mks U (f + 3) A = [⟨(A : Int), 2, true⟩] := fun f => by
    unfold mks
    rw [hU, if_pos (by omega)]
    simp only
    rw [if_neg (by decide), e1, tl f]
    simp only [List.append_nil, List.cons.injEq, Mk.mk.injEq, and_true, true_and, decide_true]
    omega
  have al : ∀ f, mks U (f + 4) 0 = [⟨(A : Int), 2, true⟩] := fun f => by
    by_cases h : A = 0
    · subst h
      exact md (f + 1)
    · have e0 : rEnd U 0 (0 + 1) = A := rEnd_eq U 0 A (by rw [hU, if_pos (by omega)]; simp) (A - 1) _ (by omega) (fun k h1 h2 => by rw [hU, if_neg (by omega), if_pos (by omega)])
      unfold mks
      rw [hU, if_neg (by omega), if_pos (by omega)]
      simp only [if_true, List.nil_append]
      rw [e0]
      exact md f
  exact al 65532
theorem seg_two (M : List UInt8) (A : Nat) (x y : UInt8) (h : A + 2 ≤ M.length) : ((splice M A [x, y]).drop A).take 2 = [x, y] := by
  apply List.ext_getElem?
  intro k
  rw [List.getElem?_take]
  by_cases hk : k < 2
  · rw [if_pos hk, List.getElem?_drop, spliceL_at _ _ _ (by simpa using h), if_pos (by simp; omega)]
    congr 1
    omega
  · rw [if_neg hk]
    symm
    rw [List.getElem?_eq_none_iff]
    simp
    omega
/-- What the object is. -/
theorem br_obj (S : ByteArray) (A T n : Nat) (hA : A ≤ 65534) (hT : T ≤ 65535) (ho : opOf S = some n) (hf : fm n = 5) :
    blksF (asmMem (brL S A T)) [] (-1) (marksU (asmU (brL S A T))) = [((A : Int), [UInt8.ofNat n, UInt8.ofNat (T % 256)])] ∧ marksU (asmU (brL S A T)) = [⟨(A : Int), 2, true⟩] ∧ sortN (asmN (brL S A T)) = [⟨toB, (T : Int)⟩] := by
  have hl := br_lay S A T n 0 (List.replicate 65536 0) (by omega) hT ho hf (fun x hx => List.eq_of_mem_replicate hx)
  have h0 : sh0 = ⟨0, List.replicate 65536 0, []⟩ := rfl
  have hU : asmU (brL S A T) = splice (List.replicate 65536 0) A (List.replicate 2 1) := by unfold asmU; rw [h0, hl.2.1]
  have hN : asmN (brL S A T) = [(toB, T)] := by unfold asmN; rw [h0, hl.2.1]
  have hM : asmMem (brL S A T) = splice (List.replicate 65536 0) A [UInt8.ofNat n, UInt8.ofNat (T % 256)] := by
    unfold asmMem zipP
    rw [hN, h0, hl.2.2]
    exact br_mem S A T n 0 _ ho hf
  have hK : marksU (asmU (brL S A T)) = [⟨(A : Int), 2, true⟩] := by
    refine marks_two _ A (by omega) (fun k => ?_)
    rw [hU, spliceL_at _ _ _ (by rw [List.length_replicate, List.length_replicate]; omega), List.length_replicate]
    by_cases h : A ≤ k ∧ k < A + 2
    · rw [if_pos h, if_pos h, List.getElem?_replicate, if_pos (by omega)]
    · rw [if_neg h, if_neg h, List.getElem?_replicate]
  refine ⟨?_, hK, ?_⟩
  · rw [hK, hM]
    unfold blksF bst segM
    simp only
    rw [if_neg (by omega)]
    have := seg_two (List.replicate 65536 0) A (UInt8.ofNat n) (UInt8.ofNat (T % 256)) (by rw [List.length_replicate]; omega)
    rw [show ((A : Int)).toNat = A from by omega, show ((2 : Int)).toNat = 2 from rfl, this, List.nil_append]
    unfold blksF addL
    rw [List.nil_append]
  · rw [hN]
    unfold sortN
    simp [toLa]
theorem br_name : ∀ j : Nat, j < 6 → ∃ n, opOf ([⟨#[66, 82]⟩, ⟨#[66, 90]⟩, ⟨#[66, 78, 70]⟩, ⟨#[66, 52]⟩, ⟨#[66, 78, 49]⟩, ⟨#[66, 81]⟩].getD j (⟨#[]⟩ : ByteArray)) = some n ∧ fm n = 5 ∧ n < 256 := by
  have h : ∀ j : Nat, j < 6 → ((opOf ([⟨#[66, 82]⟩, ⟨#[66, 90]⟩, ⟨#[66, 78, 70]⟩, ⟨#[66, 52]⟩, ⟨#[66, 78, 49]⟩, ⟨#[66, 81]⟩].getD j (⟨#[]⟩ : ByteArray))).map (fun n => decide (fm n = 5 ∧ n < 256))) = some true := by decide +kernel
  intro j hj
  have := h j hj
  rw [Option.map_eq_some_iff] at this
  obtain ⟨n, h1, h2⟩ := this
  exact ⟨n, h1, (of_decide_eq_true h2).1, (of_decide_eq_true h2).2⟩
end Go.Proofs.YtkpfhnogpcigaaaDoorR
/- A branch alone, as the program assembles it: the statement's own walk. -/
namespace Go.Proofs.YtkpfhnogpcigaaaDoorR
open Go Go.RowKit
set_option linter.unusedVariables false
set_option maxHeartbeats 3000000
set_option maxRecDepth 20000

def brE (A T : Nat) : Int := if A = 65535 then 143 else if T / 256 ≠ (A + 1) / 256 then 142 else 0
def brK (A T : Nat) : Int := if A = 65535 then 3 else if T / 256 ≠ (A + 1) / 256 then 3 else 0
theorem br_chk (x : Oo) (A T n : Nat) (hA : A ≤ 65534) (hT : T ≤ 65535) (hf : fm n = 5) (hn : n < 256) (hg : ∀ q ∈ x.B, q.2.length = q.1.m) (hB : plB x.B = [((A : Int), [UInt8.ofNat n, UInt8.ofNat (T % 256)])]) (hM : x.M = [⟨(A : Int), 2, true⟩]) (hL : x.L = [⟨toB, (T : Int)⟩]) :
    bytE x ((A : Int) + 1) ((A : Int) + 2) = 0 ∧ bytL x ((A : Int) + 1) ((A : Int) + 2) = [UInt8.ofNat (T % 256)] := by
  obtain ⟨q, hq⟩ : ∃ q, x.B = [q] := by
    have := congrArg List.length hB
    unfold plB at this
    rw [List.length_map] at this
    exact List.length_eq_one_iff.1 this
  have h0 : plB x.B = [(q.1.a, q.2)] := by rw [hq]; rfl
  have h1 : q.1.a = (A : Int) ∧ q.2 = [UInt8.ofNat n, UInt8.ofNat (T % 256)] := by
    rw [h0] at hB
    simpa using hB
  have h2 : q.1.m = 2 := by rw [← hg q (by rw [hq]; simp), h1.2]; rfl
  have hi : insL (UInt8.ofNat n) = 2 := by
    unfold insL
    rw [show (UInt8.ofNat n).toNat = n from by simp [UInt8.toNat_ofNat']; omega, hf]
    exact lay5
  have hw : wholeB [UInt8.ofNat n, UInt8.ofNat (T % 256)] = true := by
    rw [wholeB_cons, hi]
    rfl
  have hok : okO x = true := by
    unfold okO
    rw [hM, hL, hB, hq]
    have e1 : blkOk 0 ([q].map (·.1)) = true := by
      simp only [List.map_cons, List.map_nil, blkOk, Bool.and_true]
      rw [h1.1, h2]
      exact decide_eq_true (by omega)
    have e2 : mrk [((A : Int), [UInt8.ofNat n, UInt8.ofNat (T % 256)])] [⟨(A : Int), 2, true⟩] = true := by
      have hb : mbad (A : Int) [UInt8.ofNat n, UInt8.ofNat (T % 256)] none ⟨(A : Int), 2, true⟩ = false := by
        unfold mbad
        simp [hw]
      unfold mrk
      simp only
      rw [mof_cons _ _ _ _ _ (by simp), hb]
      simp [mof_nil, mrk]
    have e3 : labG [] [⟨toB, (T : Int)⟩] = true := by
      have h1 : isNm toB = true := by decide +kernel
      have h2 : (T : Int) ≤ 65535 := by omega
      simp [labG, lok, h1, h2]
    rw [e1, e2, e3]
    rfl
  have hc : chkO x = 0 := by unfold chkO; rw [hok]; rfl
  have hE : bytE x ((A : Int) + 1) ((A : Int) + 2) = 0 := by
    unfold bytE
    rw [hc, if_neg (by decide), if_neg (by omega)]
  refine ⟨hE, ?_⟩
  unfold bytL
  rw [if_pos hE, hB, show ((A : Int) + 2 - ((A : Int) + 1)).toNat = 1 from by omega]
  unfold ovrAll ovrAll ovr
  simp
  intro h
  omega
theorem br_bytes (S : ByteArray) (A T : Nat) (v : World) : ∀ x ∈ brL S A T, LB8 v x.1.sp x.2 ∧ x.2.length = x.1.m := by
  intro x hx
  simp only [brL, List.mem_cons, List.not_mem_nil, or_false] at hx
  rcases hx with rfl | rfl | rfl | rfl <;> exact ⟨lb_nil _ _, rfl⟩
/-- What Assemble answers. -/
theorem asm_br (S : ByteArray) (A T n : Nat) (hA : A ≤ 65535) (hT : T ≤ 65535) (ho : opOf S = some n) (hf : fm n = 5) (hn : n < 256) (v : World) (Tb : Hid (Tabs v)) (sp : Option Addr) (cap : Nat) (hl : Hid (LiesL 6 c6 v sp ((brL S A T).map (·.1)))) :
    Calls Tryd.prog 18 #[.slice sp 4 cap] v fun e z => ∃ x, e = .returned (.tuple #[.agg (oC x), .int .i64 (brE A T), .int .i64 (brK A T)]) ∧ Hid (Below v.heap.size v z ∧ (brE A T = 0 → Lco z x ∧ bytE x ((A : Int) + 1) ((A : Int) + 2) = 0 ∧ bytL x ((A : Int) + 1) ((A : Int) + 2) = [UInt8.ofNat (T % 256)])) := by
  have hq : ∃ R, R = List.replicate 65536 (0 : UInt8) := ⟨_, rfl⟩
  obtain ⟨R, hR⟩ := hq
  have hlay := br_lay S A T n 0 R hA hT ho hf (fun x hx => List.eq_of_mem_replicate (by rw [← hR]; exact hx))
  have h0 : sh0 = ⟨0, R, []⟩ := by rw [hR]; rfl
  rw [← h0] at hlay
  have hck := br_check S A T n hA hT ho hf
  have hfil := br_fil S A T n 0 ho hf
  have hN : asmN (brL S A T) = [(toB, T)] := by unfold asmN; rw [hlay.2.1]
  have hN' : (layS sh0 ((brL S A T).map (·.1))).N = [(toB, T)] := hN
  refine (assemble_any v Tb sp cap (brL S A T) hl (br_bytes S A T v) (by show 4 ≤ 9223372036854775807; decide)).mono fun e z h => ?_
  rcases h with ⟨E, k, rfl, h⟩ | ⟨x, rfl, h⟩
  · refine ⟨zO, ?_, h.out.1, fun he => ?_⟩
    · rcases h.out.2 with ⟨h1, _⟩ | ⟨_, i, h1, h2⟩ | ⟨_, h1, i, h2, h3⟩
      · exact absurd hck h1
      · rw [hlay.1] at h1
        by_cases hx : A = 65535
        · rw [if_pos hx] at h1
          simp at h1
          unfold brE brK
          rw [if_pos hx, if_pos hx, ← h1.1, h2, ← h1.2]
          rfl
        · rw [if_neg hx] at h1
          simp at h1
      · rw [hlay.1] at h1
        by_cases hx : A = 65535
        · rw [if_pos hx] at h1
          simp at h1
        · rw [hlay.2.2, hN', hfil] at h2
          by_cases hy : T / 256 ≠ (A + 1) / 256
          · rw [if_pos hy] at h2
            simp at h2
            unfold brE brK
            rw [if_neg hx, if_neg hx, if_pos hy, if_pos hy, ← h2.1, h3, ← h2.2]
            rfl
          · rw [if_neg hy] at h2
            simp at h2
    · exfalso
      unfold brE at he
      by_cases hx : A = 65535
      · rw [if_pos hx] at he; omega
      · rw [if_neg hx] at he
        by_cases hy : T / 256 ≠ (A + 1) / 256
        · rw [if_pos hy] at he; omega
        · rcases h.out.2 with ⟨h1, _⟩ | ⟨_, i, h1, h2⟩ | ⟨_, h1, i, h2, h3⟩
          · exact absurd hck h1
          · rw [hlay.1, if_neg hx] at h1; simp at h1
          · rw [hlay.2.2, hN', hfil, if_neg hy] at h2; simp at h2
  · obtain ⟨hb, hx, _, h1, h2, h3, h4, h5⟩ := h.out
    have hA' : ¬ A = 65535 := fun e => by rw [hlay.1, if_pos e] at h1; simp at h1
    have hP : ¬ T / 256 ≠ (A + 1) / 256 := fun e => by
      unfold zipP at h2
      rw [hN, hlay.2.2, hfil, if_pos e] at h2
      simp at h2
    have ob := br_obj S A T n (by omega) hT ho hf
    rw [ob.1] at h3
    rw [ob.2.1] at h4
    rw [ob.2.2] at h5
    have hz : brE A T = 0 := by unfold brE; rw [if_neg hA', if_neg hP]
    have hk : brK A T = 0 := by unfold brK; rw [if_neg hA', if_neg hP]
    rw [hz, hk]
    exact ⟨x, rfl, hb, fun _ => ⟨hx, br_chk x A T n (by omega) hT hf hn (fun q hq => (hx.lo.g q hq).2) h3 h4 h5⟩⟩
end Go.Proofs.YtkpfhnogpcigaaaDoorR
/- A branch alone: the statement's own walk. -/
namespace Go.Proofs.YtkpfhnogpcigaaaDoorR
open Go Go.RowKit
set_option linter.unusedVariables false
set_option maxHeartbeats 3000000
set_option maxRecDepth 20000

def nmsB : List ByteArray := [⟨#[66, 82]⟩, ⟨#[66, 90]⟩, ⟨#[66, 78, 70]⟩, ⟨#[66, 52]⟩, ⟨#[66, 78, 49]⟩, ⟨#[66, 81]⟩]
def nmsC : Array Value := #[.string ⟨#[66, 82]⟩, .string ⟨#[66, 90]⟩, .string ⟨#[66, 78, 70]⟩, .string ⟨#[66, 52]⟩, .string ⟨#[66, 78, 49]⟩, .string ⟨#[66, 81]⟩]
def nmsP : Array (Nat × Operand) := #[(0, .const (.string ⟨#[66, 82]⟩)), (1, .const (.string ⟨#[66, 90]⟩)), (2, .const (.string ⟨#[66, 78, 70]⟩)), (3, .const (.string ⟨#[66, 52]⟩)), (4, .const (.string ⟨#[66, 78, 49]⟩)), (5, .const (.string ⟨#[66, 81]⟩))]
theorem nms_get (j : Nat) (h : j < 6) : nmsC[j]? = some (.string (nmsB.getD j ⟨#[]⟩)) := by
  have : j = 0 ∨ j = 1 ∨ j = 2 ∨ j = 3 ∨ j = 4 ∨ j = 5 := by omega
  rcases this with rfl | rfl | rfl | rfl | rfl | rfl <;> rfl
theorem fillN : Instr.fill (fun i => some (i * 1, 1)) ((Array.range (6 * 1)).map ((Value.string ⟨#[]⟩).cells[· % (Value.string ⟨#[]⟩).cells.size]!)) [(0, .string ⟨#[66, 82]⟩), (1, .string ⟨#[66, 90]⟩), (2, .string ⟨#[66, 78, 70]⟩), (3, .string ⟨#[66, 52]⟩), (4, .string ⟨#[66, 78, 49]⟩), (5, .string ⟨#[66, 81]⟩)] = some nmsC := by kernel_rfl
theorem at_bsN {ops : Array Oper} {rest : List Oper} {o : Oper} {a : Act} {w : World} {Q : Exit → Act → World → Prop} (hgd : o.guard = none) (ho : o.op = .buildSlice 45 6 nmsP)
    (h : wpList Tryd.prog ops Q rest (a.put o.dst (.slice (some ⟨w.heap.size, 0, none⟩) 6 6)) (w.alloc (.cells nmsC 9))) : wpList Tryd.prog ops Q (o :: rest) a w := wpList_plain hgd fun _ hK => by
  obtain ⟨i, hi, hz0, hz1, hz2⟩ := info_parts infoT
  refine wp_buildSlice 45 9 6 nmsP ho nmsC i _ Tryd.underlying45 hi hz0 (by rw [hz1]; decide) (by rw [hz1]; decide) ?_ (hK _ _ h)
  rw [hz1]
  have e : (nmsP.map fun (i, x) => (i, a.eval x)).toList = [(0, .string ⟨#[66, 82]⟩), (1, .string ⟨#[66, 90]⟩), (2, .string ⟨#[66, 78, 70]⟩), (3, .string ⟨#[66, 52]⟩), (4, .string ⟨#[66, 78, 49]⟩), (5, .string ⟨#[66, 81]⟩)] := by simp [nmsP, Act.eval]
  rw [e]
  exact fillN
theorem infoIt9 : (Tryd.prog.info? 49).map (fun i => (i.zero, i.size, i.bytes)) = some (some (.agg (i6 z0)), 6, 80) := by kernel_rfl
theorem fill4 (S : ByteArray) (A T : Nat) : Instr.fill (fun i => some (i * 6, 6)) ((Array.range (4 * 6)).map ((Value.agg (i6 z0)).cells[· % (Value.agg (i6 z0)).cells.size]!)) [(0, .agg (i6 (brA T))), (1, .agg (i6 brN)), (2, .agg (i6 (brA A))), (3, .agg (i6 (brC S)))] = some (rowL c6 ((brL S A T).map (·.1))).toArray := by kernel_rfl
theorem at_bs4 {ops : Array Oper} {rest : List Oper} {o : Oper} {a : Act} {w : World} {Q : Exit → Act → World → Prop} (S : ByteArray) (A T : Nat) (x0 x1 x2 x3 : Operand) (hgd : o.guard = none) (ho : o.op = .buildSlice 50 4 #[(0, x0), (1, x1), (2, x2), (3, x3)]) (h0 : a.eval x0 = .agg (i6 (brA T))) (h1 : a.eval x1 = .agg (i6 brN)) (h2 : a.eval x2 = .agg (i6 (brA A))) (h3 : a.eval x3 = .agg (i6 (brC S)))
    (h : wpList Tryd.prog ops Q rest (a.put o.dst (.slice (some ⟨w.heap.size, 0, none⟩) 4 4)) (w.alloc (.cells (rowL c6 ((brL S A T).map (·.1))).toArray 49))) : wpList Tryd.prog ops Q (o :: rest) a w := wpList_plain hgd fun _ hK => by
  obtain ⟨i, hi, hz0, hz1, hz2⟩ := info_parts infoIt9
  refine wp_buildSlice 50 49 4 #[(0, x0), (1, x1), (2, x2), (3, x3)] ho (rowL c6 ((brL S A T).map (·.1))).toArray i _ Tryd.underlying50 hi hz0 (by rw [hz1]; decide) (by rw [hz1]; decide) ?_ (hK _ _ h)
  rw [hz1]
  have e : (#[(0, x0), (1, x1), (2, x2), (3, x3)].map fun (i, x) => (i, a.eval x)).toList = [(0, .agg (i6 (brA T))), (1, .agg (i6 brN)), (2, .agg (i6 (brA A))), (3, .agg (i6 (brC S)))] := by simp [h0, h1, h2, h3]
  rw [e]
  exact fill4 S A T
theorem shr8 (m : Nat) : Op.shift .shr .u16 (m : Int) .u64 8 = pure (.int .u16 ((m / 256 : Nat) : Int)) := by
  unfold Op.shift
  rw [if_neg (by omega)]
  have e : ((8 : Int)).toNat = 8 := rfl
  simp only [e, IntKind.bits]
  rw [Int.fdiv_eq_ediv_of_nonneg _ (Int.pow_nonneg (by decide))]
  push_cast
  rfl
theorem lies_items {z : World} {g : Nat} {l : List Ri} {t : TypeId} (h : Bx z g (rowL c6 l).toArray t) : LiesL 6 c6 z (some ⟨g, 0, none⟩) l := fun j a hj => ⟨g, 0, rfl, bxL_range (c := c6) (fun x => rfl) h j a hj⟩
theorem bye_one {w w' : World} {b : UInt8} {e : Ending} (h : ByE w [b] 0 e w') : ∃ g, e = .returned (.tuple #[.slice (some ⟨g, 0, none⟩) 1 1, .int .i64 0]) ∧ Hid (Below w.heap.size w w') ∧ w'.cell? ⟨g, 0, none⟩ = some (.int .u8 (b.toNat : Int)) := by
  obtain ⟨p, c, rfl, hb, h⟩ := h
  rcases h with ⟨_, _, h⟩ | ⟨g, rfl, _, rfl, hx⟩
  · cases h
  · exact ⟨g, rfl, hb, hx.c 0 _ (rU_get _ _ _ rfl)⟩
theorem branch_walk (w : World) (Tb : Hid (Tabs w)) (A T : Nat) (c : Int) (hA : A ≤ 65535) (hT : T ≤ 65535) (hc : inI c) :
    Calls Tryd.prog 4 #[.int .u16 (A : Int), .int .u16 (T : Int), .int .i64 c] w fun e w' => e = .returned (.bool true) ∧ Below w.heap.size w w' := by
  obtain ⟨d, hd⟩ : ∃ d : Int, d = if c < 0 then -(c + 1) else c := ⟨_, rfl⟩
  have hd0 : 0 ≤ d ∧ d ≤ 9223372036854775807 := by unfold inI at hc; split at hd <;> omega
  obtain ⟨j, hj⟩ : ∃ j : Nat, (j : Int) = d % 6 := ⟨(d % 6).toNat, by omega⟩
  have hj6 : j < 6 := by omega
  obtain ⟨S, hS⟩ : ∃ S, S = nmsB.getD j ⟨#[]⟩ := ⟨_, rfl⟩
  obtain ⟨n, ho, hf, hn⟩ := br_name j hj6
  replace ho : opOf S = some n := by rw [hS]; exact ho
  have hng := nms_get j hj6
  rw [← hS] at hng
  have K1 : Hid (Fm w [(w.heap.size, nmsC, 9)] (w.alloc (.cells nmsC 9))) := Fm.one w _ _
  have hNm : Hid (∀ y, Fm w [(w.heap.size, nmsC, 9)] y → y.cell? ⟨w.heap.size, j, none⟩ = some (.string S)) := fun y h => (h.bx 0 _ _ _ rfl).c j _ hng
  have ix := fun v => idxP (P := Tryd.prog) (g := w.heap.size) (off := 0) (len := 6) (cap := 6) Tryd.underlying45 (s := 1) (by kernel_rfl) .i64 j v hj6
  have hrem : d.tmod 6 = (j : Int) := by rw [Int.tmod_eq_emod_of_nonneg hd0.1]; exact hj.symm
  have hAs : Hid (∀ v, Fm w [(w.heap.size, nmsC, 9), (w.heap.size + 1, (rowL c6 ((brL S A T).map (·.1))).toArray, 49)] v → Calls Tryd.prog 18 #[.slice (some ⟨w.heap.size + 1, 0, none⟩) 4 4] v fun e z => ∃ x, e = .returned (.tuple #[.agg (oC x), .int .i64 (brE A T), .int .i64 (brK A T)]) ∧ Hid (Below v.heap.size v z ∧ (brE A T = 0 → Lco z x ∧ bytE x ((A : Int) + 1) ((A : Int) + 2) = 0 ∧ bytL x ((A : Int) + 1) ((A : Int) + 2) = [UInt8.ofNat (T % 256)]))) := fun v h =>
    asm_br S A T n hA hT ho hf hn v (Tb.out.below h.low) _ 4 (lies_items (h.bx 1 _ _ _ rfl))
  have hAi : (A : Int) ≤ 65535 := by omega
  have hTi : (T : Int) ≤ 65535 := by omega
  obtain ⟨E, hE⟩ : ∃ E, brE A T = E := ⟨_, rfl⟩
  obtain ⟨k, hk⟩ : ∃ k, brK A T = k := ⟨_, rfl⟩
  rw [hE, hk] at hAs
  have hEk : Hid (brE A T = E ∧ brK A T = k) := ⟨hE, hk⟩
  have hin : Hid (A ≤ 65535 ∧ T ≤ 65535) := ⟨hA, hT⟩
  clear hj hS ho hf hn hng hA hT hE hk
  by_cases hneg : c < 0
  · have e0 : -(c + 1) = d := by rw [hd, if_pos hneg]
    have hci : -9223372036854775808 ≤ c := hc.1
    have hdi : d ≤ 9223372036854775807 := hd0.2
    clear hd hc hd0
    go_enter Tryd.func4, Tryd.ntmps4
    go_wp2_with (first
      | ((with_reducible refine at_bsN ?_ ?_ ?_); rfl; rfl)
      | ((with_reducible refine gen_world (w.alloc (.cells nmsC 9)) (fun y => Fm w [(w.heap.size, nmsC, 9)] y ∧ y.heap.size = w.heap.size + 1) ?_ ?_); exact ⟨K1.out, (by simp : (w.alloc (.cells nmsC 9)).heap.size = w.heap.size + 1)⟩; intro y1 H1; have ca := hNm.out y1 H1.out.1; have hz1 := H1.out.2)
      | ((with_reducible refine at_bs4 S A T (.tmp 22) (.tmp 23) (.tmp 26) (.tmp 34) ?_ ?_ ?_ ?_ ?_ ?_ ?_); rfl; rfl; rfl; rfl; rfl; rfl; rw [hz1])
      | ((with_reducible refine gen_world (y1.alloc (.cells (rowL c6 ((brL S A T).map (·.1))).toArray 49)) (Fm w [(w.heap.size, nmsC, 9), (w.heap.size + 1, (rowL c6 ((brL S A T).map (·.1))).toArray, 49)]) ?_ ?_); (have := H1.out.1.new (rowL c6 ((brL S A T).map (·.1))).toArray 49; rw [hz1] at this; exact this); intro y2 K2; have hAz := hAs.out y2 K2.out; clear ca)
      | (go_at_call 18; refine hAz.mono ?_; rintro e y3 ⟨x, rfl, H3⟩; clear hAz; have K3 : Hid (Fm w [(w.heap.size, nmsC, 9), (w.heap.size + 1, (rowL c6 ((brL S A T).map (·.1))).toArray, 49)] y3) := K2.out.below H3.out.1)
      | ((with_reducible refine gen_world (y3.alloc (.cells #[.slice none 0 0, .slice none 0 0, .slice none 0 0] 26)) (fun y => Fm w [(w.heap.size, nmsC, 9), (w.heap.size + 1, (rowL c6 ((brL S A T).map (·.1))).toArray, 49), (y3.heap.size, oC zO, 26)] y ∧ Below y3.heap.size y3 y) ?_ ?_); exact ⟨K3.out.new _ _, Below.alloc (Below.refl _ _) (Nat.le_refl _) _⟩; intro y4 K4)
      | ((with_reducible refine at_st rtO y3.heap.size (oC zO) (oC x) ?_ ?_ ?_ ?_ (.tmp 9) (.tmp 39) ?_ ?_ ?_ ?_ ?_); exact K4.out.1.bx 2 _ _ _ rfl; rfl; rfl; exact oneO _; rfl; rfl; rfl; rfl; intro y5 hw5; have K : Hid (Fm w [(w.heap.size, nmsC, 9), (w.heap.size + 1, (rowL c6 ((brL S A T).map (·.1))).toArray, 49), (y3.heap.size, oC x, 26)] y5) := K4.out.1.put 2 _ _ _ _ rfl hw5.out; have V5 : Hid (Below y3.heap.size y3 y5) := K4.out.2.trans (hw5.out.2.1 _ (Nat.le_refl _)); clear hw5 K4 K3; refine stopAt ?_))
    obtain ⟨bx, hbx⟩ : ∃ q, y3.heap.size = q := ⟨_, rfl⟩
    have hX : Hid (E = 0 → Lco y5 x ∧ bytE x ((A : Int) + 1) ((A : Int) + 2) = 0 ∧ bytL x ((A : Int) + 1) ((A : Int) + 2) = [UInt8.ofNat (T % 256)]) := fun e => ⟨(H3.out.2 e).1.below V5.out, (H3.out.2 e).2⟩
    rw [hbx] at K ⊢
    clear H3 V5 hbx
    by_cases h6 : A = 65535
    · obtain ⟨rfl, rfl⟩ : 143 = E ∧ 3 = k := by have := hEk.out; unfold brE brK at this; rw [if_pos h6, if_pos h6] at this; exact this
      have e6 : ((A : Int) == 65535) = true := by rw [h6]; rfl
      clear hX
      refine Stop.go ?_
      go_wp2
      go_ret
      exact ⟨rfl, K.out.low⟩
    · have e6 : ((A : Int) == 65535) = false := by simp; omega
      have a6 : (A : Int) ≤ 65534 := by omega
      have s1 := shr8 (A + 1)
      have s2 := shr8 T
      push_cast at s1 s2
      by_cases h7 : T / 256 ≠ (A + 1) / 256
      · obtain ⟨rfl, rfl⟩ : 142 = E ∧ 3 = k := by have := hEk.out; unfold brE brK at this; rw [if_neg h6, if_neg h6, if_pos h7, if_pos h7] at this; exact this
        have e7 : ((((A : Int) + 1) / 256) == ((T : Int) / 256)) = false := by simp; omega
        clear hX
        refine Stop.go ?_
        go_wp2
        go_ret
        exact ⟨rfl, K.out.low⟩
      · obtain ⟨rfl, rfl⟩ : 0 = E ∧ 0 = k := by have := hEk.out; unfold brE brK at this; rw [if_neg h6, if_neg h6, if_neg h7, if_neg h7] at this; exact this
        have e7 : ((((A : Int) + 1) / 256) == ((T : Int) / 256)) = true := by simp; omega
        have hB := obytes_any y5 (Tb.out.below K.out.low) x (hX.out rfl).1 ((A : Int) + 1) ((A : Int) + 2) (by unfold inI; omega) (by unfold inI; omega)
        rw [(hX.out rfl).2.1, (hX.out rfl).2.2] at hB
        have ew : IntKind.u8.wrap (T : Int) = ((T % 256 : Nat) : Int) := by rw [IntKind.wrap_u8]; omega
        have eb : (((UInt8.ofNat (T % 256)).toNat : Nat) : Int) = ((T % 256 : Nat) : Int) := by simp [UInt8.toNat_ofNat']
        clear hX
        refine Stop.go ?_
        go_wp2_with (first
          | ((with_reducible refine at_load rtO bx (oC x) ?_ ?_ (.tmp 9) ?_ ?_ ?_ ?_); exact K.out.bx 2 _ _ _ rfl; rfl; (first | rfl | kernel_rfl); rfl; rfl)
          | (go_at_call 10; refine hB.mono ?_; intro e y6 hy; clear hB; obtain ⟨g, rfl, H6, cg⟩ := bye_one hy; have K6 : Hid (Fm w [(w.heap.size, nmsC, 9), (w.heap.size + 1, (rowL c6 ((brL S A T).map (·.1))).toArray, 49), (bx, oC x, 26)] y6) := K.out.below H6.out; rw [eb] at cg; have iz : ∀ v, (Instr.indexAt 33 (.slice (some ⟨g, 0, none⟩) 1 1) (.int .i64 0)).run Tryd.prog v = .ok (.pointer (some ⟨g, 0, none⟩)) v := fun v => idxU8 g 0 1 1 0 (by decide) v; refine stopAt ?_))
        refine Stop.go ?_
        go_wp2
        go_ret
        exact ⟨rfl, K6.out.low⟩
  · obtain rfl : d = c := by rw [hd, if_neg hneg]
    have hci := hd0
    clear hd hc hd0
    go_enter Tryd.func4, Tryd.ntmps4
    go_wp2_with (first
      | ((with_reducible refine at_bsN ?_ ?_ ?_); rfl; rfl)
      | ((with_reducible refine gen_world (w.alloc (.cells nmsC 9)) (fun y => Fm w [(w.heap.size, nmsC, 9)] y ∧ y.heap.size = w.heap.size + 1) ?_ ?_); exact ⟨K1.out, (by simp : (w.alloc (.cells nmsC 9)).heap.size = w.heap.size + 1)⟩; intro y1 H1; have ca := hNm.out y1 H1.out.1; have hz1 := H1.out.2)
      | ((with_reducible refine at_bs4 S A T (.tmp 22) (.tmp 23) (.tmp 26) (.tmp 34) ?_ ?_ ?_ ?_ ?_ ?_ ?_); rfl; rfl; rfl; rfl; rfl; rfl; rw [hz1])
      | ((with_reducible refine gen_world (y1.alloc (.cells (rowL c6 ((brL S A T).map (·.1))).toArray 49)) (Fm w [(w.heap.size, nmsC, 9), (w.heap.size + 1, (rowL c6 ((brL S A T).map (·.1))).toArray, 49)]) ?_ ?_); (have := H1.out.1.new (rowL c6 ((brL S A T).map (·.1))).toArray 49; rw [hz1] at this; exact this); intro y2 K2; have hAz := hAs.out y2 K2.out; clear ca)
      | (go_at_call 18; refine hAz.mono ?_; rintro e y3 ⟨x, rfl, H3⟩; clear hAz; have K3 : Hid (Fm w [(w.heap.size, nmsC, 9), (w.heap.size + 1, (rowL c6 ((brL S A T).map (·.1))).toArray, 49)] y3) := K2.out.below H3.out.1)
      | ((with_reducible refine gen_world (y3.alloc (.cells #[.slice none 0 0, .slice none 0 0, .slice none 0 0] 26)) (fun y => Fm w [(w.heap.size, nmsC, 9), (w.heap.size + 1, (rowL c6 ((brL S A T).map (·.1))).toArray, 49), (y3.heap.size, oC zO, 26)] y ∧ Below y3.heap.size y3 y) ?_ ?_); exact ⟨K3.out.new _ _, Below.alloc (Below.refl _ _) (Nat.le_refl _) _⟩; intro y4 K4)
      | ((with_reducible refine at_st rtO y3.heap.size (oC zO) (oC x) ?_ ?_ ?_ ?_ (.tmp 9) (.tmp 39) ?_ ?_ ?_ ?_ ?_); exact K4.out.1.bx 2 _ _ _ rfl; rfl; rfl; exact oneO _; rfl; rfl; rfl; rfl; intro y5 hw5; have K : Hid (Fm w [(w.heap.size, nmsC, 9), (w.heap.size + 1, (rowL c6 ((brL S A T).map (·.1))).toArray, 49), (y3.heap.size, oC x, 26)] y5) := K4.out.1.put 2 _ _ _ _ rfl hw5.out; have V5 : Hid (Below y3.heap.size y3 y5) := K4.out.2.trans (hw5.out.2.1 _ (Nat.le_refl _)); clear hw5 K4 K3; refine stopAt ?_))
    obtain ⟨bx, hbx⟩ : ∃ q, y3.heap.size = q := ⟨_, rfl⟩
    have hX : Hid (E = 0 → Lco y5 x ∧ bytE x ((A : Int) + 1) ((A : Int) + 2) = 0 ∧ bytL x ((A : Int) + 1) ((A : Int) + 2) = [UInt8.ofNat (T % 256)]) := fun e => ⟨(H3.out.2 e).1.below V5.out, (H3.out.2 e).2⟩
    rw [hbx] at K ⊢
    clear H3 V5 hbx
    by_cases h6 : A = 65535
    · obtain ⟨rfl, rfl⟩ : 143 = E ∧ 3 = k := by have := hEk.out; unfold brE brK at this; rw [if_pos h6, if_pos h6] at this; exact this
      have e6 : ((A : Int) == 65535) = true := by rw [h6]; rfl
      clear hX
      refine Stop.go ?_
      go_wp2
      go_ret
      exact ⟨rfl, K.out.low⟩
    · have e6 : ((A : Int) == 65535) = false := by simp; omega
      have a6 : (A : Int) ≤ 65534 := by omega
      have s1 := shr8 (A + 1)
      have s2 := shr8 T
      push_cast at s1 s2
      by_cases h7 : T / 256 ≠ (A + 1) / 256
      · obtain ⟨rfl, rfl⟩ : 142 = E ∧ 3 = k := by have := hEk.out; unfold brE brK at this; rw [if_neg h6, if_neg h6, if_pos h7, if_pos h7] at this; exact this
        have e7 : ((((A : Int) + 1) / 256) == ((T : Int) / 256)) = false := by simp; omega
        clear hX
        refine Stop.go ?_
        go_wp2
        go_ret
        exact ⟨rfl, K.out.low⟩
      · obtain ⟨rfl, rfl⟩ : 0 = E ∧ 0 = k := by have := hEk.out; unfold brE brK at this; rw [if_neg h6, if_neg h6, if_neg h7, if_neg h7] at this; exact this
        have e7 : ((((A : Int) + 1) / 256) == ((T : Int) / 256)) = true := by simp; omega
        have hB := obytes_any y5 (Tb.out.below K.out.low) x (hX.out rfl).1 ((A : Int) + 1) ((A : Int) + 2) (by unfold inI; omega) (by unfold inI; omega)
        rw [(hX.out rfl).2.1, (hX.out rfl).2.2] at hB
        have ew : IntKind.u8.wrap (T : Int) = ((T % 256 : Nat) : Int) := by rw [IntKind.wrap_u8]; omega
        have eb : (((UInt8.ofNat (T % 256)).toNat : Nat) : Int) = ((T % 256 : Nat) : Int) := by simp [UInt8.toNat_ofNat']
        clear hX
        refine Stop.go ?_
        go_wp2_with (first
          | ((with_reducible refine at_load rtO bx (oC x) ?_ ?_ (.tmp 9) ?_ ?_ ?_ ?_); exact K.out.bx 2 _ _ _ rfl; rfl; (first | rfl | kernel_rfl); rfl; rfl)
          | (go_at_call 10; refine hB.mono ?_; intro e y6 hy; clear hB; obtain ⟨g, rfl, H6, cg⟩ := bye_one hy; have K6 : Hid (Fm w [(w.heap.size, nmsC, 9), (w.heap.size + 1, (rowL c6 ((brL S A T).map (·.1))).toArray, 49), (bx, oC x, 26)] y6) := K.out.below H6.out; rw [eb] at cg; have iz : ∀ v, (Instr.indexAt 33 (.slice (some ⟨g, 0, none⟩) 1 1) (.int .i64 0)).run Tryd.prog v = .ok (.pointer (some ⟨g, 0, none⟩)) v := fun v => idxU8 g 0 1 1 0 (by decide) v; refine stopAt ?_))
        refine Stop.go ?_
        go_wp2
        go_ret
        exact ⟨rfl, K6.out.low⟩
theorem branch_law (w : World) (Tb : Hid (Tabs w)) (a b c : Int) (ha : 0 ≤ a ∧ a ≤ 65535) (hb : 0 ≤ b ∧ b ≤ 65535) (hc : inI c) :
    Calls Tryd.prog 4 #[.int .u16 a, .int .u16 b, .int .i64 c] w fun e w' => e = .returned (.bool true) ∧ Below w.heap.size w w' := by
  obtain ⟨A, rfl⟩ := Int.eq_ofNat_of_zero_le ha.1
  obtain ⟨T, rfl⟩ := Int.eq_ofNat_of_zero_le hb.1
  exact branch_walk w Tb A T c (by omega) (by omega) hc
end Go.Proofs.YtkpfhnogpcigaaaDoorR
