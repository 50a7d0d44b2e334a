/- Assemble, over any sheet to begin with. -/
import Derived.Test.YthbdpceobnkflaaDoorJ20
import Derived.Test.YthbdpceobnkflaaDoorJ21
namespace Go.Proofs.YthbdpceobnkflaaDoor
open Go Go.RowKit
set_option linter.unusedVariables false
set_option maxHeartbeats 3000000
set_option maxRecDepth 20000

theorem layS_take (L : List Ri) (s : Sh) (i : Nat) (r : Ri) (h : L[i]? = some r) : layS s (L.take (i + 1)) = stS (layS s (L.take i)) r := by
  induction L generalizing s i with
  | nil => simp at h
  | cons x l ih =>
    cases i with
    | zero => simp at h; subst h; simp [layS]
    | succ i =>
      simp at h
      simp only [List.take_succ_cons, layS]
      exact ih (stS s x) i h
theorem plcs_at (L : List Ri) (s : Sh) (i : Nat) (r : Ri) (h : L[i]? = some r) : (plcs s L)[i]? = some (layS s (L.take i)).p := by
  induction L generalizing s i with
  | nil => simp at h
  | cons x l ih =>
    cases i with
    | zero => simp [plcs, layS]
    | succ i =>
      simp at h
      simp only [plcs, List.getElem?_cons_succ, List.take_succ_cons, layS]
      exact ih (stS s x) i h
theorem filM_take (N : List (ByteArray × Nat)) (Z : List (Itm × Nat)) (M : List UInt8) (i : Nat) (x : Itm × Nat) (h : Z[i]? = some x) : filM N M (Z.take (i + 1)) = splice (filM N M (Z.take i)) x.2 (flB N x.1) := by
  induction Z generalizing M i with
  | nil => simp at h
  | cons w l ih =>
    cases i with
    | zero => simp at h; subst h; simp [filM]
    | succ i =>
      simp at h
      simp only [List.take_succ_cons, filM]
      exact ih _ i h
theorem check_may {L : List Ri} (h : checkE L = 0) : L.length ≤ 4096 ∧ ∀ r ∈ L, mayI r = true := by
  unfold checkE at h
  split at h
  · omega
  · rename_i h1
    refine ⟨by omega, fun r hr => ?_⟩
    rcases hb : badI L with _ | j
    · unfold badI at hb
      rw [List.findIdx?_eq_none_iff] at hb
      have := hb r hr
      simpa using this
    · rw [hb] at h
      simp at h
theorem ret_row3 {P : Program} {a : Act} {w : World} {t : TypeId} {n : Nat} {fn : Func} {R' : Ending → World → Prop} {p u u' : Tmp} {b : Nat} {cs : Array Value} {v v' : Value} (R : Rt P t n) (hr : fn.results = #[.cell p t, .tmp u, .tmp u']) (hp : a.tmps.getD p undef = .pointer (some ⟨b, 0, none⟩)) (hu : a.tmps.getD u undef = v) (hu' : a.tmps.getD u' undef = v') (h : Bx w b cs t) (hs : cs.size = n) (hd : a.defers = []) (hR : R' (.returned (.tuple #[.agg cs, v, v'])) w) : bodyPost P fn R' .ret a w := by
  obtain ⟨d, hu9, hd'⟩ := R.u
  refine bodyPost_ret ?_ hd hR
  have hl := run_loadVar_row (P := P) w b t t cs (0, 0) d h hu9 (by cases d <;> first | rfl | exact hd') (by rw [hs]; exact R.i)
  have hp9 : a.tmps[p]?.getD undef = .pointer (some ⟨b, 0, none⟩) := by simpa using hp
  have hu9 : a.tmps[u]?.getD undef = v := by simpa using hu
  have hu8 : a.tmps[u']?.getD undef = v' := by simpa using hu'
  simp [results, hr, hp9, hu9, hu8, asAddr, hl, Result.andThen]
theorem layS_len : ∀ (l : List Ri) (s : Sh), (layS s l).N.length ≤ s.N.length + l.length
  | [], s => Nat.le_refl _
  | r :: l, s => by
    have ih := layS_len l (stS s r)
    have h : (stS s r).N.length ≤ s.N.length + 1 := by
      unfold stS
      split
      · exact Nat.le_refl _
      · split <;> exact Nat.le_succ _
    rw [layS, List.length_cons]
    omega
theorem box_ne {w : World} {b g k : Nat} {v : Value} (hb : Bx w b #[.slice none 0 0, .slice none 0 0, .slice none 0 0] 29) (hc : w.cell? ⟨g, k, none⟩ = some v) (hv : v ≠ .slice none 0 0) : g ≠ b := fun e => by
  subst e
  rw [cell_heap hb] at hc
  have hk := (Array.getElem?_eq_some_iff.1 hc).1
  simp at hk
  have : k = 0 ∨ k = 1 ∨ k = 2 := by omega
  rcases this with rfl | rfl | rfl <;> (simp at hc; exact hv hc.symm)
theorem lies_box {α : Type} {s : Nat} {c : α → List Value} {w z : World} {sp : Option Addr} {l : List α} {b : Nat} (h : LiesL s c w sp l) (hb : Bx w b #[.slice none 0 0, .slice none 0 0, .slice none 0 0] 29) (h0 : ∀ a, ∃ v, (c a)[0]? = some v ∧ v ≠ .slice none 0 0) (hg : ∀ q, q ≠ b → z.heap[q]? = w.heap[q]?) : LiesL s c z sp l := fun j a hj => by
  obtain ⟨g, o, e, hc⟩ := h j a hj
  obtain ⟨v0, hv0, hne⟩ := h0 a
  have hgb := box_ne hb (hc 0 v0 hv0) hne
  exact ⟨g, o, e, fun i v hv => (World.cell?_of_block (w := w) (a := ⟨g, o + j * s + i, none⟩) (hg g hgb)).trans (hc i v hv)⟩
theorem lco_box {w z : World} {x : Oo} {b : Nat} (h : Lco w x) (hb : Bx w b #[.slice none 0 0, .slice none 0 0, .slice none 0 0] 29) (hg : ∀ q, q ≠ b → z.heap[q]? = w.heap[q]?) : Lco z x :=
  ⟨⟨lies_box h.lo.b hb (fun a => ⟨.int .i64 a.a, rfl, by simp⟩) hg, lies_box h.lo.m hb (fun a => ⟨.int .i64 a.a, rfl, by simp⟩) hg, lies_box h.lo.l hb (fun a => ⟨.string a.n, rfl, by simp⟩) hg, fun X hX => ⟨fun j v hj => by
    obtain ⟨g, o, e, hc⟩ := (h.lo.g X hX).1 j v hj
    exact ⟨g, o, e, (World.cell?_of_block (w := w) (a := ⟨g, o + j, none⟩) (hg g (box_ne hb hc (by simp [byV])))).trans hc⟩, (h.lo.g X hX).2⟩, h.lo.ib, h.lo.im, h.lo.il, h.lo.n⟩, h.cb, h.cm⟩
/-- What stands while a source is laid. -/
structure As1 (w : World) (B : Nat) (q : Nu) (s : Sh) (M : List UInt8) (vl : Value) (L : List Itm) (i : Nat) (s0 : Sh) (l : List Lp) (z : World) : Prop where
  sh : Sht B q s M vl l z
  low : Below w.heap.size w z
  bx : Bx z w.heap.size #[.slice none 0 0, .slice none 0 0, .slice none 0 0] 29
  wB : w.heap.size < B
  len : l.length = i
  pc : ∀ (j : Nat) (x : Itm) (p : Lp), L[j]? = some x → l[j]? = some p → PcV q.b x.1 p.t p.v z ∧ (plcs s0 (L.map (·.1)))[j]? = some p.a
theorem PcV.kx' {B b : Nat} {r : Ri} {t : TypeId} {v : Value} {y z : World} (h : PcV b r t v y) (k : Kx B y z) : PcV b r t v z := h.kx fun g cs _ hb => k.by8 g cs hb
theorem As1.below {w : World} {B : Nat} {q : Nu} {s : Sh} {M : List UInt8} {vl : Value} {L : List Itm} {i : Nat} {s0 : Sh} {l : List Lp} {z z' : World} (h : As1 w B q s M vl L i s0 l z) (k : Below z.heap.size z z') : As1 w B q s M vl L i s0 l z' :=
  ⟨h.sh.below k, of_below h.low k, h.bx.below k, h.wB, h.len, fun j x p hx hp => ⟨(h.pc j x p hx hp).1.kx fun g cs _ hb => hb.below k, (h.pc j x p hx hp).2⟩⟩
theorem bx_kx {w z z' : World} {B g : Nat} {cs : Array Value} {t : TypeId} (h : Bx z g cs t) (k : Below B z z') (hg : g < B) : Bx z' g cs t := (k.block g hg).trans h
/-- A source that is none. -/
def BadA (L : List Itm) (s0 : Sh) (E n : Int) : Prop := (checkE (L.map (·.1)) ≠ 0 ∧ E = checkE (L.map (·.1)) ∧ n = checkN (L.map (·.1))) ∨ (checkE (L.map (·.1)) = 0 ∧ ∃ i : Nat, layE s0 (L.map (·.1)) 0 = some (E, i) ∧ n = (i : Int)) ∨ (checkE (L.map (·.1)) = 0 ∧ layE s0 (L.map (·.1)) 0 = none ∧ ∃ i : Nat, filE (layS s0 (L.map (·.1))).N (L.zip (plcs s0 (L.map (·.1)))) 0 = some (E, i) ∧ n = (i : Int))
theorem assemble_core (I : Inhabited La) (w : World) (T : Hid (Tabs w)) (sp : Option Addr) (cap : Nat) (L : List Itm) (hl : Hid (LiesL 6 c6 w sp (L.map (·.1)))) (hg : Hid (∀ x ∈ L, LB8 w x.1.sp x.2 ∧ x.2.length = x.1.m)) (hn : L.length ≤ 9223372036854775807)
    (s0 : Sh) (h0 : s0.Ok ∧ s0.N = []) (M0 : List UInt8) (hM0 : M0.length = 65536) (hNs : Hid (∀ u, Calls Tryd.prog 21 #[] u fun e z => ∃ q : Nu, e = .returned (.pointer (some ⟨q.s, 0, none⟩)) ∧ Hid (Below u.heap.size u z ∧ Sht u.heap.size q s0 M0 (.slice none 0 0) [] z)))
    (Fin : Ending → World → Prop) (hbad : Hid (∀ z E n, Below w.heap.size w z → BadA L s0 E n → Fin (.returned (.tuple #[.agg #[.slice none 0 0, .slice none 0 0, .slice none 0 0], .int .i64 E, .int .i64 n])) z))
    (hgood : Hid (∀ (x : Oo) z, Below w.heap.size w z → Lco z x → checkE (L.map (·.1)) = 0 → layE s0 (L.map (·.1)) 0 = none → filE (layS s0 (L.map (·.1))).N (L.zip (plcs s0 (L.map (·.1)))) 0 = none → plB x.B = blksF (filM (layS s0 (L.map (·.1))).N M0 (L.zip (plcs s0 (L.map (·.1))))) [] (-1) (marksU (layS s0 (L.map (·.1))).U) → x.M = marksU (layS s0 (L.map (·.1))).U → x.L = sortN (layS s0 (L.map (·.1))).N → Fin (.returned (.tuple #[.agg (oC x), .int .i64 0, .int .i64 0])) z)) :
    Calls Tryd.prog 8 #[.slice sp L.length cap] w Fin := by
  have K0 : Hid (Fm w [(w.heap.size, #[.slice none 0 0, .slice none 0 0, .slice none 0 0], 29)] (w.alloc (.cells #[.slice none 0 0, .slice none 0 0, .slice none 0 0] 29))) := Fm.one w _ _
  obtain ⟨Rs, hRs⟩ : ∃ R, L.map (·.1) = R := ⟨_, rfl⟩
  obtain ⟨n, hn'⟩ : ∃ n, L.length = n := ⟨_, rfl⟩
  have hnn : Hid (L.length = n ∧ Rs.length = n ∧ L.map (·.1) = Rs) := ⟨hn', by rw [← hRs, List.length_map, hn'], hRs⟩
  rw [hRs] at hl
  have hCk : Hid (∀ u, Below w.heap.size w u → Calls Tryd.prog 20 #[.slice sp n cap] u fun e z => e = .returned (.tuple #[.int .i64 (checkE Rs), .int .i64 (checkN Rs)]) ∧ Below u.heap.size u z) := fun u hu => by
    have := pcheck_any u sp cap Rs (hl.out.below hu) (by rw [hnn.out.2.1, ← hn']; exact hn) (T.out.below hu)
    rw [hnn.out.2.1] at this
    exact this
  rw [hRs] at hgood
  unfold BadA at hbad
  rw [hRs] at hbad
  rw [hn'] at hn ⊢
  obtain ⟨E0, hE0⟩ : ∃ E, checkE Rs = E := ⟨_, rfl⟩
  obtain ⟨N0, hN0⟩ : ∃ E, checkN Rs = E := ⟨_, rfl⟩
  have hE0' : Hid (checkE Rs = E0 ∧ checkN Rs = N0) := ⟨hE0, hN0⟩
  rw [hE0, hN0] at hCk
  have h0' : Hid (s0.Ok ∧ s0.N = [] ∧ M0.length = 65536) := ⟨h0.1, h0.2, hM0⟩
  clear hRs hn' h0 hM0
  by_cases hz : E0 = 0
  · subst hz
    have hck0 : Hid (checkE Rs = 0) := hE0
    have hmay := check_may hE0
    have hmy : Hid (n ≤ 4096 ∧ ∀ r ∈ Rs, mayI r = true) := by rw [← hnn.out.2.1]; exact hmay
    have ni : (n : Int) ≤ 4096 := by have := hmy.out.1; omega
    clear hmay hE0 hN0 hn
    go_enter Tryd.func8, Tryd.ntmps8
    go_wp2_with (first
      | ((with_reducible refine gen_world (w.alloc (.cells #[.slice none 0 0, .slice none 0 0, .slice none 0 0] 29)) (Fm w [(w.heap.size, #[.slice none 0 0, .slice none 0 0, .slice none 0 0], 29)]) ?_ ?_); exact K0.out; intro y1 K1)
      | (go_at_call 20; refine (hCk.out _ K1.out.low).mono ?_; rintro e y2 ⟨rfl, H2⟩; have K2 : Hid (Fm w [(w.heap.size, #[.slice none 0 0, .slice none 0 0, .slice none 0 0], 29)] y2) := K1.out.below H2; clear H2)
      | (go_at_call 21; refine (hNs.out _).mono ?_; rintro e y3 ⟨q, rfl, H3⟩; have K3 : Hid (As1 w y2.heap.size q s0 M0 (.slice none 0 0) L 0 s0 [] y3) := ⟨H3.out.2, of_below K2.out.low H3.out.1, (K2.out.bx 0 _ _ _ rfl).below H3.out.1, heap_lt (K2.out.bx 0 _ _ _ rfl), rfl, fun j x p _ hp => (by simp at hp)⟩; clear H3))
    obtain ⟨B, hB⟩ : ∃ B, y2.heap.size = B := ⟨_, rfl⟩
    rw [hB] at K3
    clear K2 hB
    go_loopw [27] (fun t wz => ∃ (i : Nat) (s : Sh) (vl : Value) (l : List Lp) (z : World), z = wz ∧ t = .int .i64 (i : Int) ∧ Hid (i ≤ n ∧ s = layS s0 (Rs.take i) ∧ layE s0 Rs 0 = layE s (Rs.drop i) i ∧ NmIn s.N) ∧ Hid (As1 w B q s M0 vl L i s0 l z)) (fun t _ => (n - intOf t).toNat)
    case atStart => exact ⟨0, s0, _, [], _, rfl, rfl, ⟨Nat.zero_le _, rfl, rfl, by rw [h0'.out.2.1]; exact fun x hx => by cases hx⟩, K3⟩
    case round =>
      obtain ⟨i, s, vl, l, z, rfl, rfl, J, K⟩ := hrel
      clear K3
      by_cases hlt : i < n
      · obtain ⟨x, hx⟩ : ∃ x, L[i]? = some x := ⟨_, List.getElem?_eq_getElem (by rw [hnn.out.1]; exact hlt)⟩
        have hxr : Rs[i]? = some x.1 := by rw [← hnn.out.2.2, List.getElem?_map, hx]; rfl
        have hm := hmy.out.2 x.1 (List.mem_of_getElem? hxr)
        obtain ⟨gb, ob, rfl, hc0⟩ := hl.out i x.1 hxr
        have hc : Hid (z.rangeAt gb (ob + i * 6) (i6 x.1).toList) := range_keep hc0 K.out.low
        have ij := fun v => idxP (g := gb) (off := ob) (len := n) (cap := cap) Tryd.underlying22 (s := 6) (by kernel_rfl) .i64 i v hlt
        have hii : (i : Int) < n := by omega
        have hlt' : Hid (i < n) := hlt
        have wi : IntKind.i64.wrap ((i : Int) + 1) = (i : Int) + 1 := by rw [IntKind.wrap_i64]; omega
        have hPo : Hid (∀ u, Below w.heap.size w u → Calls Tryd.prog 23 #[.agg (i6 x.1)] u (PoE u x.1)) := fun u hu => pieceOf_any u (T.out.below hu) x.1 hm
        have hLy : Hid (∀ u t v, As1 w B q s M0 vl L i s0 l u → PcV q.b x.1 t v u → Calls Tryd.prog 22 #[.pointer (some ⟨q.s, 0, none⟩), .iface t v] u (LyE B q s x.1 M0 l t v u)) := fun u t v hu hp => lay_any B q s M0 vl l u hu.sh (by rw [hu.len]; have := hmy.out.1; omega) x.1 hm q.b t v hp
        have hdr : Hid (layE s (Rs.drop i) i = if stE s x.1 = 0 then layE (stS s x.1) (Rs.drop (i + 1)) (i + 1) else some (stE s x.1, i)) := by
          obtain ⟨h1, e1⟩ := List.getElem?_eq_some_iff.1 hxr
          show _ = _
          rw [List.drop_eq_getElem_cons h1, e1]
          rfl
        have hst : Hid (layS s0 (Rs.take (i + 1)) = stS s x.1) := by show _ = _; rw [layS_take Rs s0 i x.1 hxr, ← J.out.2.1]
        have hpl : Hid ((plcs s0 Rs)[i]? = some s.p) := by show _ = _; rw [plcs_at Rs s0 i x.1 hxr, ← J.out.2.1]
        have hx' : Hid (L[i]? = some x ∧ mayI x.1 = true) := ⟨hx, hm⟩
        unfold LyE at hLy
        obtain ⟨E1, hE1⟩ : ∃ E, stE s x.1 = E := ⟨_, rfl⟩
        rw [hE1] at hLy
        have hE1' : Hid (stE s x.1 = E1) := hE1
        generalize hri : i6 x.1 = ri at hc hPo
        have hri6 : ri.size = 6 := by rw [← hri]; rfl
        have hri1 : ri.all (·.oneCell') = true := by rw [← hri]; exact one6 _
        clear hlt hx hxr hc0 hm hri hE1
        by_cases hE : E1 = 0
        · subst hE
          go_wp2_with (first
            | ((with_reducible refine at_loadm rt6 gb (ob + i * 6) ri ?_ ?_ (.tmp 30) ?_ ?_ ?_ ?_); exact hc.out; exact hri6; rfl; rfl; rfl)
            | ((with_reducible refine at_st rt6 z.heap.size (i6 z0) ri ?_ ?_ ?_ ?_ (.tmp 9) (.tmp 31) ?_ ?_ ?_ ?_ ?_); exact alloc_last' z _; rfl; exact hri6; exact hri1; rfl; rfl; rfl; rfl; intro z2 hw2; have Kb : Hid (Fm z [(z.heap.size, ri, 40)] z2) := (Fm.one z (i6 z0) 40).put 0 _ _ _ _ rfl hw2.out; have K4 : Hid (As1 w B q s M0 vl L i s0 l z2) := K.out.below Kb.out.low; clear hw2)
            | ((with_reducible refine at_load rt6 z.heap.size ri ?_ ?_ (.tmp 9) ?_ ?_ ?_ ?_); exact Kb.out.bx 0 _ _ _ rfl; exact hri6; rfl; rfl; rfl)
            | (go_at_call 23; refine (hPo.out _ K4.out.low).mono ?_; rintro e z3 ⟨t3, v3, rfl, H3⟩; have K5 : Hid (As1 w B q s M0 vl L i s0 l z3 ∧ PcV q.b x.1 t3 v3 z3) := ⟨K4.out.below H3.out.1, H3.out.2 q.b (heap_lt K4.out.sh.b)⟩; clear H3)
            | (go_at_call 22; refine (hLy.out _ t3 v3 K5.out.1 K5.out.2).mono ?_; rintro e z4 ⟨rfl, H4⟩))
          obtain ⟨vl', hsh⟩ := H4.out.2 (by trivial)
          have K6 : Hid (As1 w B q (stS s x.1) M0 vl' L (i + 1) s0 (l ++ [⟨t3, v3, s.p⟩]) z4) := by
            refine ⟨hsh, K5.out.1.low.trans (H4.out.1.low.mono (Nat.le_of_lt K5.out.1.wB)), bx_kx (w := w) K5.out.1.bx H4.out.1.low K5.out.1.wB, K5.out.1.wB, by rw [List.length_append, K5.out.1.len, List.length_singleton], fun j x' p' hx9 hp9 => ?_⟩
            rcases Nat.lt_or_ge j l.length with hj | hj
            · rw [List.getElem?_append_left hj] at hp9
              exact ⟨(K5.out.1.pc j x' p' hx9 hp9).1.kx' H4.out.1, (K5.out.1.pc j x' p' hx9 hp9).2⟩
            · rw [List.getElem?_append_right hj] at hp9
              have hj0 : j = i := by
                have := (List.getElem?_eq_some_iff.1 hp9).1
                rw [K5.out.1.len] at this hj
                simp at this
                omega
              subst hj0
              rw [K5.out.1.len, Nat.sub_self] at hp9
              simp at hp9
              subst hp9
              rw [hx'.out.1] at hx9
              simp at hx9
              subst hx9
              exact ⟨K5.out.2.kx' H4.out.1, by rw [hnn.out.2.2]; exact hpl.out⟩
          have J6 : Hid (i + 1 ≤ n ∧ stS s x.1 = layS s0 (Rs.take (i + 1)) ∧ layE s0 Rs 0 = layE (stS s x.1) (Rs.drop (i + 1)) (i + 1) ∧ NmIn (stS s x.1).N) := ⟨hlt'.out, hst.out.symm, by rw [J.out.2.2.1, hdr.out, hE1'.out, if_pos rfl], nm_st J.out.2.2.2 hx'.out.2 hE1'.out⟩
          clear H4 hsh
          go_wp2
          go_roundw
          case rel => exact ⟨i + 1, _, _, _, _, rfl, by simp, J6, K6⟩
          case measure => have := hlt'.out; simp [intOf]; omega
        · have hEn : (E1 != 0) = true := by rw [bne_iff_ne]; exact hE
          have hbd : Hid (layE s0 Rs 0 = some (E1, i)) := by show _ = _; rw [J.out.2.2.1, hdr.out, hE1'.out, if_neg hE]
          clear hE
          go_wp2_with (first
            | ((with_reducible refine at_loadm rt6 gb (ob + i * 6) ri ?_ ?_ (.tmp 30) ?_ ?_ ?_ ?_); exact hc.out; exact hri6; rfl; rfl; rfl)
            | ((with_reducible refine at_st rt6 z.heap.size (i6 z0) ri ?_ ?_ ?_ ?_ (.tmp 9) (.tmp 31) ?_ ?_ ?_ ?_ ?_); exact alloc_last' z _; rfl; exact hri6; exact hri1; rfl; rfl; rfl; rfl; intro z2 hw2; have Kb : Hid (Fm z [(z.heap.size, ri, 40)] z2) := (Fm.one z (i6 z0) 40).put 0 _ _ _ _ rfl hw2.out; have K4 : Hid (As1 w B q s M0 vl L i s0 l z2) := K.out.below Kb.out.low; clear hw2)
            | ((with_reducible refine at_load rt6 z.heap.size ri ?_ ?_ (.tmp 9) ?_ ?_ ?_ ?_); exact Kb.out.bx 0 _ _ _ rfl; exact hri6; rfl; rfl; rfl)
            | (go_at_call 23; refine (hPo.out _ K4.out.low).mono ?_; rintro e z3 ⟨t3, v3, rfl, H3⟩; have K5 : Hid (As1 w B q s M0 vl L i s0 l z3 ∧ PcV q.b x.1 t3 v3 z3) := ⟨K4.out.below H3.out.1, H3.out.2 q.b (heap_lt K4.out.sh.b)⟩; clear H3)
            | (go_at_call 22; refine (hLy.out _ t3 v3 K5.out.1 K5.out.2).mono ?_; rintro e z4 ⟨rfl, H4⟩; have K6 : Hid (Bx z4 w.heap.size #[.slice none 0 0, .slice none 0 0, .slice none 0 0] 29 ∧ Below w.heap.size w z4) := ⟨bx_kx (w := w) K5.out.1.bx H4.out.1.low K5.out.1.wB, K5.out.1.low.trans (H4.out.1.low.mono (Nat.le_of_lt K5.out.1.wB))⟩; clear H4)
            | ((with_reducible refine at_st rtO w.heap.size #[.slice none 0 0, .slice none 0 0, .slice none 0 0] #[.slice none 0 0, .slice none 0 0, .slice none 0 0] ?_ ?_ ?_ ?_ (.tmp 2) (.tmp 38) ?_ ?_ ?_ ?_ ?_); exact K6.out.1; rfl; rfl; simp [Value.oneCell']; rfl; rfl; rfl; rfl; intro z5 hw9; have z5K : Hid (Bx z5 w.heap.size #[.slice none 0 0, .slice none 0 0, .slice none 0 0] 29 ∧ Below w.heap.size w z5) := ⟨hw9.out.1, K6.out.2.trans (hw9.out.2.1 _ (Nat.le_refl _))⟩; clear hw9))
          exact ret_row3 rtO rfl rfl rfl rfl z5K.out.1 rfl rfl (hbad.out _ _ _ z5K.out.2 (.inr (.inl ⟨hck0.out, i, hbd.out, rfl⟩)))
      · have hie : i = n := by have := J.out.1; omega
        subst hie
        have hlay : Hid (layE s0 Rs 0 = none ∧ s = layS s0 Rs) := by
          refine ⟨?_, ?_⟩
          · rw [J.out.2.2.1, List.drop_eq_nil_of_le (by rw [hnn.out.2.1]; exact Nat.le_refl _)]; rfl
          · rw [J.out.2.1, List.take_of_length_le (by rw [hnn.out.2.1]; exact Nat.le_refl _)]
        obtain ⟨sl, cl, evl, -⟩ := OwnL.open (c := cLp) (s := 2) (fun _ => rfl) K.out.sh.o
        rw [K.out.len] at evl
        subst evl
        have c1 : z.cell? ⟨q.s, 1, none⟩ = some (.slice sl i cl) := K.out.sh.bx.c 1 _ rfl
        obtain ⟨Z, hZ⟩ : ∃ Z, L.zip (plcs s0 Rs) = Z := ⟨_, rfl⟩
        have hZ' : Hid (L.zip (plcs s0 Rs) = Z ∧ Z.length = i) := ⟨hZ, by rw [← hZ, List.length_zip, plcs_len, hnn.out.1, hnn.out.2.1, Nat.min_self]⟩
        have hsn : Hid (NmIn s.N ∧ s.N.length ≤ 4096) := ⟨J.out.2.2.2, by
          have h1 := layS_len Rs s0
          rw [← hlay.out.2, h0'.out.2.1, hnn.out.2.1] at h1
          have := hmy.out.1
          simp at h1
          omega⟩
        clear hlt hZ
        go_wp2
        go_loopw [47] (fun t wz => ∃ (j : Nat) (M : List UInt8) (z : World), z = wz ∧ t = .int .i64 (j : Int) ∧ Hid (j ≤ i ∧ M = filM s.N M0 (Z.take j) ∧ filE s.N Z 0 = filE s.N (Z.drop j) j ∧ M.length = 65536) ∧ Hid (As1 w B q s M (.slice sl i cl) L i s0 l z)) (fun t _ => (i - intOf t).toNat)
        case atStart => exact ⟨0, M0, _, rfl, rfl, ⟨Nat.zero_le _, rfl, rfl, h0'.out.2.2⟩, K⟩
        case round =>
          clear c1 K
          obtain ⟨j, M, z, rfl, rfl, J2, K⟩ := hrel
          by_cases hlt : j < i
          · obtain ⟨x, hx⟩ : ∃ x, L[j]? = some x := ⟨_, List.getElem?_eq_getElem (by rw [hnn.out.1]; exact hlt)⟩
            obtain ⟨pp, hpp⟩ : ∃ x, l[j]? = some x := ⟨_, List.getElem?_eq_getElem (by rw [K.out.len]; exact hlt)⟩
            have hxr : Rs[j]? = some x.1 := by rw [← hnn.out.2.2, List.getElem?_map, hx]; rfl
            have hm := hmy.out.2 x.1 (List.mem_of_getElem? hxr)
            have hpc := K.out.pc j x pp hx hpp
            rw [hnn.out.2.2] at hpc
            have hfits := lay_fits Rs s0 0 h0'.out.1 hmy.out.2 hlay.out.1 j x.1 pp.a hxr hpc.2
            have hZj : Hid (Z[j]? = some (x, pp.a)) := by
              show _ = _
              rw [← hZ'.out.1, List.getElem?_zip_eq_some]
              exact ⟨hx, hpc.2⟩
            obtain ⟨sl', cl', evl, lie, -⟩ := OwnL.open (c := cLp) (s := 2) (fun _ => rfl) K.out.sh.o
            injection evl with e1 e2 e3
            subst e1
            obtain ⟨gb, ob, rfl, hc0⟩ := lie j pp hpp
            have hc : Hid (z.rangeAt gb (ob + j * 2) (lpA pp).toList) := hc0
            have ij := fun v => idxP (g := gb) (off := ob) (len := i) (cap := cl) Tryd.underlying66 (s := 2) (by kernel_rfl) .i64 j v hlt
            have hjj : (j : Int) < i := by omega
            have hlt' : Hid (j < i) := hlt
            have wj : IntKind.i64.wrap ((j : Int) + 1) = (j : Int) + 1 := by rw [IntKind.wrap_i64]; omega
            have hgx := hg.out x (List.mem_of_getElem? hx)
            have hFi : Hid (∀ u, As1 w B q s M (.slice (some ⟨gb, ob, none⟩) i cl) L i s0 l u → Calls Tryd.prog 24 #[.pointer (some ⟨q.s, 0, none⟩), .agg (lpA pp)] u (FiE B q s M (.slice (some ⟨gb, ob, none⟩) i cl) l (flE s.N pp.a x.1) pp.a (flB s.N x) u)) := fun u hu => fill_any B q s M J2.out.2.2.2 _ l u (T.out.below hu.low) hu.sh pp.a hfits.1 x hm ⟨hgx.1.below hu.low, hgx.2⟩ pp.t pp.v (hu.pc j x pp hx hpp).1 hfits.2
            unfold FiE at hFi
            have hdr : Hid (filE s.N (Z.drop j) j = if flE s.N pp.a x.1 = 0 then filE s.N (Z.drop (j + 1)) (j + 1) else some (flE s.N pp.a x.1, j)) := by
              obtain ⟨h1, e1⟩ := List.getElem?_eq_some_iff.1 hZj.out
              show _ = _
              rw [List.drop_eq_getElem_cons h1, e1]
              rfl
            have hMn : Hid (flE s.N pp.a x.1 = 0 → filM s.N M0 (Z.take (j + 1)) = splice M pp.a (flB s.N x) ∧ (splice M pp.a (flB s.N x)).length = 65536) := fun h9 => by
              refine ⟨by rw [filM_take _ _ _ j _ hZj.out, ← J2.out.2.1], ?_⟩
              have h8 := flB_len s.N x pp.a hm hgx.2 h9
              rw [length_splice _ _ _ (by
                rw [h8, J2.out.2.2.2]
                rcases hfits.2 with h7 | h7
                · rw [if_pos h7]; exact hfits.1
                · split
                  · exact hfits.1
                  · exact h7), J2.out.2.2.2]
            obtain ⟨E1, hE1⟩ : ∃ E, flE s.N pp.a x.1 = E := ⟨_, rfl⟩
            rw [hE1] at hFi hMn hdr
            generalize hLx : flB s.N x = Lx at hFi hMn
            generalize hri : lpA pp = ri at hc hFi
            have hri6 : ri.size = 2 := by rw [← hri]; rfl
            have hri1 : ri.all (·.oneCell') = true := by rw [← hri]; simp [lpA, Value.oneCell']
            clear hlt hx hxr hc0 hm hri hE1 hLx hpp hpc hfits lie hgx e2 e3
            by_cases hE : E1 = 0
            · subst hE
              go_wp2_with (first
                | ((with_reducible refine at_loadm rtLp gb (ob + j * 2) ri ?_ ?_ (.tmp 50) ?_ ?_ ?_ ?_); exact hc.out; exact hri6; rfl; rfl; rfl)
                | ((with_reducible refine at_st rtLp z.heap.size #[.nilIface, .int .i64 0] ri ?_ ?_ ?_ ?_ (.tmp 12) (.tmp 51) ?_ ?_ ?_ ?_ ?_); exact alloc_last' z _; rfl; exact hri6; exact hri1; rfl; rfl; rfl; rfl; intro z2 hw2; have Kb : Hid (Fm z [(z.heap.size, ri, 72)] z2) := (Fm.one z #[.nilIface, .int .i64 0] 72).put 0 _ _ _ _ rfl hw2.out; have K4 : Hid (As1 w B q s M (.slice (some ⟨gb, ob, none⟩) i cl) L i s0 l z2) := K.out.below Kb.out.low; clear hw2)
                | ((with_reducible refine at_load rtLp z.heap.size ri ?_ ?_ (.tmp 12) ?_ ?_ ?_ ?_); exact Kb.out.bx 0 _ _ _ rfl; exact hri6; rfl; rfl; rfl)
                | (go_at_call 24; refine (hFi.out _ K4.out).mono ?_; rintro e z4 ⟨rfl, H4⟩))
              have hW := H4.out.2 (by trivial)
              have K6 : Hid (As1 w B q s (splice M pp.a Lx) (.slice (some ⟨gb, ob, none⟩) i cl) L i s0 l z4) := ⟨hW.sh, K4.out.low.trans (hW.low.mono (Nat.le_of_lt K4.out.wB)), bx_kx (w := w) K4.out.bx hW.low K4.out.wB, K4.out.wB, K4.out.len, fun j' x' p' hx9 hp9 => ⟨(K4.out.pc j' x' p' hx9 hp9).1.kx fun g cs hgb hb => hW.by8 g cs (by omega) hb, (K4.out.pc j' x' p' hx9 hp9).2⟩⟩
              have J6 : Hid (j + 1 ≤ i ∧ splice M pp.a Lx = filM s.N M0 (Z.take (j + 1)) ∧ filE s.N Z 0 = filE s.N (Z.drop (j + 1)) (j + 1) ∧ (splice M pp.a Lx).length = 65536) := ⟨hlt'.out, (hMn.out (by trivial)).1.symm, by rw [J2.out.2.2.1, hdr.out, if_pos (by trivial)], (hMn.out (by trivial)).2⟩
              clear H4 hW
              go_wp2
              go_roundw
              case rel => exact ⟨j + 1, _, _, rfl, by simp, J6, K6⟩
              case measure => have := hlt'.out; simp [intOf]; omega
            · have hEn : (E1 != 0) = true := by rw [bne_iff_ne]; exact hE
              have hbd : Hid (filE s.N Z 0 = some (E1, j)) := by show _ = _; rw [J2.out.2.2.1, hdr.out, if_neg hE]
              clear hE
              go_wp2_with (first
                | ((with_reducible refine at_loadm rtLp gb (ob + j * 2) ri ?_ ?_ (.tmp 50) ?_ ?_ ?_ ?_); exact hc.out; exact hri6; rfl; rfl; rfl)
                | ((with_reducible refine at_st rtLp z.heap.size #[.nilIface, .int .i64 0] ri ?_ ?_ ?_ ?_ (.tmp 12) (.tmp 51) ?_ ?_ ?_ ?_ ?_); exact alloc_last' z _; rfl; exact hri6; exact hri1; rfl; rfl; rfl; rfl; intro z2 hw2; have Kb : Hid (Fm z [(z.heap.size, ri, 72)] z2) := (Fm.one z #[.nilIface, .int .i64 0] 72).put 0 _ _ _ _ rfl hw2.out; have K4 : Hid (As1 w B q s M (.slice (some ⟨gb, ob, none⟩) i cl) L i s0 l z2) := K.out.below Kb.out.low; clear hw2)
                | ((with_reducible refine at_load rtLp z.heap.size ri ?_ ?_ (.tmp 12) ?_ ?_ ?_ ?_); exact Kb.out.bx 0 _ _ _ rfl; exact hri6; rfl; rfl; rfl)
                | (go_at_call 24; refine (hFi.out _ K4.out).mono ?_; rintro e z4 ⟨rfl, H4⟩; have K6 : Hid (Bx z4 w.heap.size #[.slice none 0 0, .slice none 0 0, .slice none 0 0] 29 ∧ Below w.heap.size w z4) := ⟨bx_kx (w := w) K4.out.bx H4.out.1 K4.out.wB, K4.out.low.trans (H4.out.1.mono (Nat.le_of_lt K4.out.wB))⟩; clear H4)
                | ((with_reducible refine at_st rtO w.heap.size #[.slice none 0 0, .slice none 0 0, .slice none 0 0] #[.slice none 0 0, .slice none 0 0, .slice none 0 0] ?_ ?_ ?_ ?_ (.tmp 2) (.tmp 57) ?_ ?_ ?_ ?_ ?_); exact K6.out.1; rfl; rfl; simp [Value.oneCell']; rfl; rfl; rfl; rfl; intro z5 hw9; have z5K : Hid (Bx z5 w.heap.size #[.slice none 0 0, .slice none 0 0, .slice none 0 0] 29 ∧ Below w.heap.size w z5) := ⟨hw9.out.1, K6.out.2.trans (hw9.out.2.1 _ (Nat.le_refl _))⟩; clear hw9))
              exact ret_row3 rtO rfl rfl rfl rfl z5K.out.1 rfl rfl (hbad.out _ _ _ z5K.out.2 (.inr (.inr ⟨hck0.out, hlay.out.1, j, by rw [← hlay.out.2, hZ'.out.1]; exact hbd.out, rfl⟩)))
          · have hje : j = i := by have := J2.out.1; omega
            subst hje
            have hfil : Hid (filE s.N Z 0 = none ∧ M = filM s.N M0 Z) := by
              refine ⟨?_, ?_⟩
              · rw [J2.out.2.2.1, List.drop_eq_nil_of_le (by rw [hZ'.out.2]; exact Nat.le_refl _)]; rfl
              · rw [J2.out.2.1, List.take_of_length_le (by rw [hZ'.out.2]; exact Nat.le_refl _)]
            have hOb := sheet_object B q s M J2.out.2.2.2 _ l z K.out.sh hsn.out.1 (by have := hsn.out.2; omega) (fun u hu => sorted_any I q s.p _ s.N u (K.out.sh.bx.below hu) (K.out.sh.m.keep (hu.block _ K.out.sh.m.lt)) (fun x hx => by
              have h9 := (hsn.out.1 x hx).2
              unfold isNm at h9
              simp only [decide_eq_true_eq] at h9
              have := h9.2.1
              omega) (by have := hsn.out.2; omega))
            clear hlt
            go_wp2_with (first
              | (go_at_call 25; refine hOb.mono ?_; rintro e z5 ⟨x, rfl, H5⟩; have K5 : Hid (Bx z5 w.heap.size #[.slice none 0 0, .slice none 0 0, .slice none 0 0] 29 ∧ Below w.heap.size w z5) := ⟨K.out.bx.below H5.out.1, of_below K.out.low H5.out.1⟩)
              | ((with_reducible refine at_st rtO w.heap.size #[.slice none 0 0, .slice none 0 0, .slice none 0 0] (oC x) ?_ ?_ ?_ ?_ (.tmp 2) (.tmp 62) ?_ ?_ ?_ ?_ ?_); exact K5.out.1; rfl; rfl; simp [oC, Value.oneCell']; rfl; rfl; rfl; rfl; intro z6 hw9; have K6 : Hid (Bx z6 w.heap.size (oC x) 29 ∧ Below w.heap.size w z6 ∧ Lco z6 x) := ⟨hw9.out.1, K5.out.2.trans (hw9.out.2.1 _ (Nat.le_refl _)), lco_box H5.out.2.1 K5.out.1 hw9.out.2.2⟩; clear hw9))
            have e1 := hlay.out.2
            refine ret_row3 rtO rfl rfl rfl rfl K6.out.1 rfl rfl (hgood.out x _ K6.out.2.1 K6.out.2.2 hck0.out hlay.out.1 ?_ ?_ ?_ ?_)
            · rw [← e1, hZ'.out.1]; exact hfil.out.1
            · rw [← e1, hZ'.out.1, ← hfil.out.2]; exact H5.out.2.2.1
            · rw [← e1]; exact H5.out.2.2.2.1
            · rw [← e1]; exact H5.out.2.2.2.2
  · have hEn : (E0 != 0) = true := by rw [bne_iff_ne]; exact hz
    have hne : Hid (checkE Rs ≠ 0) := by rw [hE0]; exact hz
    clear hz hE0 hN0 hn
    go_enter Tryd.func8, Tryd.ntmps8
    go_wp2_with (first
      | ((with_reducible refine gen_world (w.alloc (.cells #[.slice none 0 0, .slice none 0 0, .slice none 0 0] 29)) (Fm w [(w.heap.size, #[.slice none 0 0, .slice none 0 0, .slice none 0 0], 29)]) ?_ ?_); exact K0.out; intro y1 K1)
      | (go_at_call 20; refine (hCk.out _ K1.out.low).mono ?_; rintro e y2 ⟨rfl, H2⟩; have K2 : Hid (Fm w [(w.heap.size, #[.slice none 0 0, .slice none 0 0, .slice none 0 0], 29)] y2) := K1.out.below H2; clear H2)
      | ((with_reducible refine at_st rtO w.heap.size #[.slice none 0 0, .slice none 0 0, .slice none 0 0] #[.slice none 0 0, .slice none 0 0, .slice none 0 0] ?_ ?_ ?_ ?_ (.tmp 2) (.tmp 21) ?_ ?_ ?_ ?_ ?_); exact K2.out.bx 0 _ _ _ rfl; rfl; rfl; simp [Value.oneCell']; rfl; rfl; rfl; rfl; intro y3 hw9; have y3K : Hid (Bx y3 w.heap.size #[.slice none 0 0, .slice none 0 0, .slice none 0 0] 29 ∧ Below w.heap.size w y3) := ⟨hw9.out.1, K2.out.low.trans (hw9.out.2.1 _ (Nat.le_refl _))⟩; clear hw9))
    exact ret_row3 rtO rfl rfl rfl rfl y3K.out.1 rfl rfl (hbad.out _ _ _ y3K.out.2 (.inl ⟨hne.out, hE0'.out.1.symm, hE0'.out.2.symm⟩))
end Go.Proofs.YthbdpceobnkflaaDoor
