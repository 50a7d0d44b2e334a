/- The document's own: Program, whole. -/
import Derived.Test.YthaijjehplomfaaDoorJ45
namespace Go.Proofs.YthaijjehplomfaaDoor
open Go Go.RowKit
set_option linter.unusedVariables false
set_option maxHeartbeats 1000000
set_option maxRecDepth 200000

theorem len16 (l : List Value) (h : l.length = 16) : ∃ a0 a1 a2 a3 a4 a5 a6 a7 a8 a9 a10 a11 a12 a13 a14 a15, l = [a0, a1, a2, a3, a4, a5, a6, a7, a8, a9, a10, a11, a12, a13, a14, a15] := by
  match l, h with
  | [a0, a1, a2, a3, a4, a5, a6, a7, a8, a9, a10, a11, a12, a13, a14, a15], _ => exact ⟨a0, a1, a2, a3, a4, a5, a6, a7, a8, a9, a10, a11, a12, a13, a14, a15, rfl⟩
theorem idxS0 (g len cap k : Nat) (h : k < len) (v : World) : (Instr.indexAt 70 (.slice (some ⟨g, 0, none⟩) len cap) (.int .i64 (k : Int))).run Tryd.prog v = .ok (.pointer (some ⟨g, k, none⟩)) v := by
  have := idxW (g := g) (off := 0) (len := len) (cap := cap) k v h
  rw [Nat.zero_add] at this
  exact this
theorem idxO0 (g len cap k : Nat) (h : k < len) (v : World) : (Instr.indexAt 86 (.slice (some ⟨g, 0, none⟩) len cap) (.int .i64 (k : Int))).run Tryd.prog v = .ok (.pointer (some ⟨g, k, none⟩)) v := by
  have := idxP (P := Tryd.prog) (g := g) (off := 0) (len := len) (cap := cap) Tryd.underlying86 (s := 1) (by kernel_rfl) .i64 k v h
  rw [Nat.mul_one, Nat.zero_add] at this
  exact this
/-- A row of the box, and what lies at a place of it. -/
theorem Qp.rowC {w : World} {P : Nat} {v : Nat → Value} {vs : Nat → List Value} {y : World} (h : Qp w P v vs y) (k : Nat) (hk : k < 7) {sp : Option Addr} {n c : Nat} (hv : v k = .slice sp n c) (j : Nat) (x : Value) (hj : (vs k)[j]? = some x) : ∃ g, sp = some ⟨g, 0, none⟩ ∧ y.cell? ⟨g, j, none⟩ = some x := by
  obtain ⟨g, c', e, d⟩ := h.row k hk j x hj
  rw [hv] at e
  injection e with e
  exact ⟨g, e, d⟩
theorem setP_none {F : ByteArray → Option Nat} {u : Us} {us : List Us} {bs : List UInt8} (h : F u.lb = none) : setP F (u :: us) bs = .inl u.ln := by
  conv => lhs; unfold setP
  rw [h]
theorem setP_some {F : ByteArray → Option Nat} {u : Us} {us : List Us} {bs : List UInt8} {a : Nat} (h : F u.lb = some a) : setP F (u :: us) bs = setP F us (layB bs u.pl (atO u.o a)) := by
  conv => lhs; unfold setP
  rw [h]
def vz (_ : Nat) : Value := .slice none 0 0
theorem vz_own (B : Nat) (y : World) (k : Nat) (hk : k < 7) : OwnL (tyQ k) 1 one1 B y (.slice none 0 0) (vsD ([], [], []) k) := by
  match k, hk with
  | 0, _ => exact World.ownsRow_nil _ _ _ 1
  | 1, _ => exact World.ownsRow_nil _ _ _ 1
  | 2, _ => exact World.ownsRow_nil _ _ _ 1
  | 3, _ => exact World.ownsRow_nil _ _ _ 1
  | 4, _ => exact World.ownsRow_nil _ _ _ 1
  | 5, _ => exact World.ownsRow_nil _ _ _ 1
  | 6, _ => exact World.ownsRow_nil _ _ _ 1
theorem Qp.zero (w : World) : Qp w w.heap.size vz (vsD ([], [], [])) (w.alloc (.cells #[.slice none 0 0, .slice none 0 0, .slice none 0 0, .slice none 0 0, .slice none 0 0, .slice none 0 0, .slice none 0 0] 88)) :=
  ⟨alloc_last' _ _, fun k hk => vz_own _ _ k hk, fun i j g _ _ _ e => (by cases e), Nat.le_refl _, below1 _ _⟩
/-- What is answered of a text. -/
def PdE (w : World) (r : (Nat × Nat) ⊕ List UInt8) (e : Ending) (z : World) : Prop := Below w.heap.size w z ∧ match r with
  | .inl er => e = .returned (.tuple #[.slice none 0 0, .int .i64 (er.1 : Int), .int .i64 (er.2 : Int)])
  | .inr bs => ∃ v, e = .returned (.tuple #[v, .int .i64 0, .int .i64 0]) ∧ OwnL 5 1 cU w.heap.size z v bs
theorem stepD_er {n er n' : Nat} {l : List UInt8} {t : Std} (k : stepD n l t = .inl (er, n')) : er = 161 ∨ er = 2 := by
  unfold stepD at k
  split at k
  · cases k
  · split at k
    · injection k with k
      injection k with k _
      exact .inl k.symm
    · split at k
      · injection k with k
        injection k with k _
        exact .inl k.symm
      · split at k
        · injection k with k
          injection k with k _
          exact .inr k.symm
        · cases k
/-- The order that asks, its label's address known. -/
theorem opR_small : ∀ i, i < 31 → opR i < 256 := by decide +kernel
theorem use_R {i a : Nat} (hi : i < 31) (ha : a < 65536) : OdR (atO (useO (opR i)) a) := ⟨opR_small i hi, by show 0 < 256; decide, by show 0 < 256; decide, by show 0 < 256; decide, by show 0 < 256; decide, ha⟩
/-- What comes behind the lines. -/
def aftD (r : (Nat × Nat) ⊕ Std) : (Nat × Nat) ⊕ List UInt8 := match r with
  | .inl e => .inl e
  | .inr t => endD t
theorem progD_is (s : List UInt8) : progD s = if 65536 < s.length then .inl (2, 0) else aftD (linesD 1 (lnsG s []) ([], [], [])) := rfl
/-- Where the loop over the lines stands. -/
def Lx (L : List UInt8) (i b ln : Nat) (t : Std) : Prop := (i ≤ L.length ∧ Lp L i b ln t) ∨ (i = L.length + 1 ∧ linesD 1 (lnsG L []) ([], [], []) = .inr t ∧ DOk t ∧ t.2.1.length ≤ 100000)
theorem rprogram_any (w : World) (s : ByteArray) (hs : s.size ≤ 4294967280) : Calls Tryd.prog 15 #[.string s] w (PdE w (progD (strL s))) := by
  rw [progD_is, strL_len]
  by_cases hbig : 65536 < s.size
  · rw [if_pos hbig]
    have q : (65536 : Int) < s.size := by omega
    go_enter Tryd.func15, Tryd.ntmps15
    go_wp2
    go_ret3
    exact ⟨Below.refl _ _, rfl⟩
  · rw [if_neg hbig]
    have q : ¬ (65536 : Int) < s.size := by omega
    have hsz : Hid (s.size ≤ 65536) := by show _ ≤ _; omega
    obtain ⟨R, hR⟩ : ∃ R, Hid (aftD (linesD 1 (lnsG (strL s) []) ([], [], [])) = R) := ⟨_, (rfl : aftD (linesD 1 (lnsG (strL s) []) ([], [], [])) = _)⟩
    rw [hR.out]
    obtain ⟨PE, hPE⟩ : ∃ PE, Hid (PdE w R = PE) := ⟨_, (rfl : PdE w R = _)⟩
    rw [hPE.out]
    clear hbig hs
    go_enter Tryd.func15, Tryd.ntmps15
    go_wp2
    go_loopw [6, 7, 8] (fun lv bv iv wz => ∃ (i b ln : Nat) (t : Std) (v : Nat → Value) (y : World), y = wz ∧ lv = .int .i64 (ln : Int) ∧ bv = .int .i64 (b : Int) ∧ iv = .int .i64 (i : Int) ∧ Hid (Lx (strL s) i b ln t) ∧ Hid (Qp w w.heap.size v (vsD t) y)) (fun _ _ iv _ => (s.size + 1 - intOf iv).toNat)
    case atStart => exact ⟨0, 0, 1, _, vz, _, rfl, rfl, rfl, rfl, .inl ⟨Nat.zero_le _, Lp.zero _⟩, Qp.zero w⟩
    case round =>
      obtain ⟨i, b, ln, t, v, y, rfl, rfl, rfl, rfl, J, Q⟩ := hrel
      rcases J.out with ⟨hi, K⟩ | ⟨hi, hres, hok, hnm⟩
      · rw [strL_len] at hi
        have hii : (i : Int) ≤ s.size := by omega
        have hbi : (b : Int) ≤ i := by have := K.bi; omega
        by_cases hlt : i < s.size
        · have hli : (i : Int) < s.size := by omega
          have hget := strL_get s i hlt
          by_cases h10 : s[i]'hlt = 10
          · have e1 : (((s[i]'hlt).toNat : Int) == 10) = true := by rw [h10]; decide
            rw [h10] at hget
            have hln := rline_any w y w.heap.size ln v t Q K.ok (by have := K.nm; have := K.li; have := hsz.out; omega) (s.extract b i) (by rw [ByteArray.size_extract]; have := hsz.out; omega)
            rw [strL_extract s b i K.bi (by omega)] at hln
            rcases hst : stepD ln (((strL s).drop b).take (i - b)) t with er | t'
            · have hbad := K.bad hget hst
              rw [hst] at hln
              obtain ⟨er, n'⟩ := er
              obtain rfl := stepD_err hst
              have hne : ((er : Int) == 0) = false := by rcases stepD_er hst with rfl | rfl <;> rfl
              have fin : Hid (R = .inl (er, n')) := by show _ = _; rw [← hR.out, hbad]; rfl
              clear hst hbad hget h10 hi K J
              go_wp2_with (go_at_call 34; refine hln.mono ?_; rintro e z ⟨rfl, hz⟩; have hz : Hid (Below w.heap.size w z) := hz)
              rw [← hPE.out, fin.out]
              exact ⟨hz.out, rfl⟩
            · have hgo := K.line hget hst
              rw [hst] at hln
              have hgo' : Hid (Lx (strL s) (i + 1) (i + 1) (ln + 1) t') := .inl ⟨by rw [strL_len]; omega, hgo⟩
              have hl6 : Hid (ln ≤ 65537) := by have := K.li; have := hsz.out; show _ ≤ _; omega
              have w1 : IntKind.i64.wrap ((ln : Int) + 1) = ((ln + 1 : Nat) : Int) := by rw [IntKind.wrap_i64]; have := hl6.out; omega
              have w2 : IntKind.i64.wrap ((i : Int) + 1) = ((i + 1 : Nat) : Int) := by rw [IntKind.wrap_i64]; have := hsz.out; omega
              have hlt' : Hid (i < s.size) := hlt
              clear hst hgo hget h10 hi K J
              go_wp2_with (go_at_call 34; refine hln.mono ?_; rintro e z ⟨rfl, v', hz⟩; have hz : Hid (Qp w w.heap.size v' (vsD t') z) := hz)
              go_roundw
              case rel => exact ⟨i + 1, i + 1, ln + 1, t', v', _, rfl, by simp, by simp, by simp, hgo', hz⟩
              case measure => have := hlt'.out; simp [intOf]; omega
          · have e1 : (((s[i]'hlt).toNat : Int) == 10) = false := by
              rw [beq_eq_false_iff_ne]
              intro e
              exact h10 (UInt8.toNat_inj.1 (by show (s[i]'hlt).toNat = 10; omega))
            have hgo' : Hid (Lx (strL s) (i + 1) b ln t) := .inl ⟨by rw [strL_len]; omega, K.go hget h10⟩
            have w2 : IntKind.i64.wrap ((i : Int) + 1) = ((i + 1 : Nat) : Int) := by rw [IntKind.wrap_i64]; have := hsz.out; omega
            have hlt' : Hid (i < s.size) := hlt
            clear hget hi K J
            go_wp2
            go_roundw
            case rel => exact ⟨i + 1, b, ln, t, v, _, rfl, rfl, rfl, by simp, hgo', Q⟩
            case measure => have := hlt'.out; simp [intOf]; omega
        · have hie : i = s.size := by omega
          subst hie
          have hlast := Lp.last (L := strL s) (b := b) (ln := ln) (t := t) (by rw [strL_len]; exact K)
          rw [strL_len] at hlast
          have hln := rline_any w y w.heap.size ln v t Q K.ok (by have := K.nm; have := K.li; have := hsz.out; omega) (s.extract b s.size) (by rw [ByteArray.size_extract]; have := hsz.out; omega)
          rw [strL_extract s b s.size K.bi (by omega), ← hlast] at hln
          have hok2 : ∀ t', linesD 1 (lnsG (strL s) []) ([], [], []) = .inr t' → DOk t' ∧ t'.2.1.length ≤ 100000 := fun t' h => by
            rw [hlast] at h
            exact ⟨K.ok.step h, by have := stepD_names h; have := K.nm; have := K.li; have := hsz.out; omega⟩
          rcases hst : linesD 1 (lnsG (strL s) []) ([], [], []) with er | t'
          · rw [hst] at hln hlast
            obtain ⟨er, n'⟩ := er
            obtain rfl := stepD_err hlast.symm
            have hne : ((er : Int) == 0) = false := by rcases stepD_er hlast.symm with rfl | rfl <;> rfl
            have fin : Hid (R = .inl (er, n')) := by show _ = _; rw [← hR.out, hst]; rfl
            clear hst hlast hlt hi K J hok2
            go_wp2_with (go_at_call 34; refine hln.mono ?_; rintro e z ⟨rfl, hz⟩; have hz : Hid (Below w.heap.size w z) := hz)
            rw [← hPE.out, fin.out]
            exact ⟨hz.out, rfl⟩
          · have hgo' : Hid (Lx (strL s) (s.size + 1) (s.size + 1) (ln + 1) t') := .inr ⟨by rw [strL_len], hst, (hok2 t' hst).1, (hok2 t' hst).2⟩
            rw [hst] at hln
            have hl6 : Hid (ln ≤ 65537) := by have := K.li; have := hsz.out; show _ ≤ _; omega
            have w1 : IntKind.i64.wrap ((ln : Int) + 1) = ((ln + 1 : Nat) : Int) := by rw [IntKind.wrap_i64]; have := hl6.out; omega
            have w2 : IntKind.i64.wrap ((s.size : Int) + 1) = ((s.size + 1 : Nat) : Int) := by rw [IntKind.wrap_i64]; have := hsz.out; omega
            clear hst hlast hlt hi K J hok2
            go_wp2_with (go_at_call 34; refine hln.mono ?_; rintro e z ⟨rfl, v', hz⟩; have hz : Hid (Qp w w.heap.size v' (vsD t') z) := hz)
            go_roundw
            case rel => exact ⟨s.size + 1, s.size + 1, ln + 1, t', v', _, rfl, by simp, by simp, by simp, hgo', hz⟩
            case measure => simp [intOf] <;> omega
      · rw [strL_len] at hi
        have hni : ¬ (i : Int) ≤ s.size := by omega
        have hRe : Hid (R = endD t) := by show _ = _; rw [← hR.out, hres]; rfl
        have hby : Hid (t.1.length ≤ 3232) := hok.by'
        have hnm' : Hid (t.2.1.length ≤ 100000) := hnm
        obtain ⟨bs0, N, us⟩ := t
        obtain ⟨m, hm⟩ : ∃ m, Hid (us.length = m) := ⟨_, (rfl : us.length = _)⟩
        have hm2 : Hid (m ≤ 100000) := by have := hok.us; have := hok.by'; have := hm.out; simp only at *; show _ ≤ _; omega
        obtain ⟨s0, c0, hv0, _⟩ := Q.out.cell 0 (by decide)
        rw [show (vsD (bs0, N, us) 0).length = bs0.length from List.length_map ..] at hv0
        obtain ⟨s3, c3, hv3, _⟩ := Q.out.cell 3 (by decide)
        rw [show (vsD (bs0, N, us) 3).length = us.length from (List.length_map ..).trans (List.length_map ..), hm.out] at hv3
        have hok' : Hid (DOk (bs0, N, us)) := hok
        clear hres hi hok hnm J
        go_wp2
        go_loopw [10] (fun jv wz => ∃ (j : Nat) (bs : List UInt8) (u : World), u = wz ∧ jv = .int .i64 (j : Int) ∧ j ≤ m ∧ Hid (Qp w w.heap.size v (vsD (bs, N, us)) u) ∧ Hid (bs.length = bs0.length ∧ setP (lookN N) us bs0 = setP (lookN N) (us.drop j) bs)) (fun jv _ => (m - intOf jv).toNat)
        case atStart => exact ⟨0, bs0, _, rfl, rfl, Nat.zero_le _, Q, rfl, rfl⟩
        case round =>
          obtain ⟨j, bs, u, rfl, rfl, hj, Q2, S⟩ := hrel
          have p3 := bx_row Q2.out.box 3 (by decide)
          rw [hv3] at p3
          by_cases hlt : j < m
          · have hji : (j : Int) < m := by omega
            have hlt' : Hid (j < m) := hlt
            obtain ⟨x, hx⟩ : ∃ x, us[j]? = some x := ⟨_, List.getElem?_eq_getElem (by rw [hm.out]; exact hlt)⟩
            have hdr : us.drop j = x :: us.drop (j + 1) := drop_one hx
            have hsp := S.out.2
            rw [hdr] at hsp
            obtain ⟨g3, rfl, d3⟩ := Q2.out.rowC 3 (by decide) hv3 j (.string x.lb) (by show (List.map _ (us.map _))[j]? = _; rw [List.getElem?_map, List.getElem?_map, hx]; rfl)
            have ix3 := fun z => idxS0 g3 m c3 j hlt z
            have hlab := Q2.out.labelAt hnm'.out x.lb
            rcases hk : lookN N x.lb with _ | a
            · rw [hk] at hlab
              have fin : Hid (R = .inl (160, x.ln)) := by
                show _ = _
                rw [hRe]
                unfold endD
                simp only
                rw [hsp, setP_none hk]
              obtain ⟨s6, c6, hv6, p6⟩ := Q2.out.cell 6 (by decide)
              rw [show (vsD (bs, N, us) 6).length = us.length from (List.length_map ..).trans (List.length_map ..), hm.out] at hv6 p6
              obtain ⟨g6, rfl, d6⟩ := Q2.out.rowC 6 (by decide) hv6 j (.int .i64 (x.ln : Int)) (by show (List.map _ (us.map _))[j]? = _; rw [List.getElem?_map, List.getElem?_map, hx]; rfl)
              have ix6 := fun z => idxI0 g6 m c6 j hlt z
              clear hsp hk hdr S hRe
              simp only [lookV] at hlab
              go_wp2_with (go_at_call 35; refine hlab.mono ?_; rintro e z ⟨rfl, hz⟩; replace hz := hz.symm; subst hz)
              refine wp_region_held_drew (S := fun z => Below w.heap.size w z ∧ z.cell? ⟨w.heap.size, 6, none⟩ = some (.slice (some ⟨g6, 0, none⟩) m c6) ∧ z.cell? ⟨g6, j, none⟩ = some (.int .i64 (x.ln : Int))) (by kernel_rfl) ⟨Q2.out.drew.low, p6, d6⟩ (fun hH => ?_)
              refine wpAnyH_take (oi := ⟨some 70, _, _, _, _, _⟩) (i := 0) (v := .pointer (some ⟨w.heap.size, 0, none⟩)) rfl (by kernel_rfl) (by kernel_rfl) (by kernel_rfl) (fun _ _ _ h => h) (.inl ⟨by kernel_rfl, fun u hu => by go_simp⟩) hH ?_
              try simp only [Act.put, List.setIfInBounds_toArray, List.set_cons_zero, List.set_cons_succ]
              refine wpAnyH_take (oi := ⟨some 71, _, _, _, _, _⟩) (i := 1) (v := .pointer (some ⟨w.heap.size, 0, none⟩)) rfl (by kernel_rfl) (by kernel_rfl) (by kernel_rfl) (fun _ _ _ h => h) (.inl ⟨by kernel_rfl, fun u hu => by go_simp⟩) hH ?_
              try simp only [Act.put, List.setIfInBounds_toArray, List.set_cons_zero, List.set_cons_succ]
              refine wpAnyH_take (oi := ⟨some 72, _, _, _, _, _⟩) (i := 2) (v := .pointer (some ⟨w.heap.size, 6, none⟩)) rfl (by kernel_rfl) (by kernel_rfl) (by kernel_rfl) (fun _ _ _ h => h) (.inl ⟨by kernel_rfl, fun u hu => by go_simp⟩) hH ?_
              try simp only [Act.put, List.setIfInBounds_toArray, List.set_cons_zero, List.set_cons_succ]
              refine wpAnyH_take (oi := ⟨some 73, _, _, _, _, _⟩) (i := 3) (v := .slice (some ⟨g6, 0, none⟩) m c6) rfl (by kernel_rfl) (by kernel_rfl) (by kernel_rfl) (fun _ _ _ h => h) (.inl ⟨by kernel_rfl, fun u hu => by obtain ⟨_, h1, h2⟩ := hu; go_simp⟩) hH ?_
              try simp only [Act.put, List.setIfInBounds_toArray, List.set_cons_zero, List.set_cons_succ]
              refine wpAnyH_take (oi := ⟨some 74, _, _, _, _, _⟩) (i := 4) (v := .int .i64 (j : Int)) rfl (by kernel_rfl) (by kernel_rfl) (by kernel_rfl) (fun _ _ _ h => h) (.inl ⟨by kernel_rfl, fun u hu => by go_simp⟩) hH ?_
              try simp only [Act.put, List.setIfInBounds_toArray, List.set_cons_zero, List.set_cons_succ]
              refine wpAnyH_take (oi := ⟨some 75, _, _, _, _, _⟩) (i := 5) (v := .pointer (some ⟨g6, j, none⟩)) rfl (by kernel_rfl) (by kernel_rfl) (by kernel_rfl) (fun _ _ _ h => h) (.inl ⟨by kernel_rfl, fun u hu => by go_simp⟩) hH ?_
              try simp only [Act.put, List.setIfInBounds_toArray, List.set_cons_zero, List.set_cons_succ]
              refine wpAnyH_take (oi := ⟨some 76, _, _, _, _, _⟩) (i := 6) (v := .int .i64 (x.ln : Int)) rfl (by kernel_rfl) (by kernel_rfl) (by kernel_rfl) (fun _ _ _ h => h) (.inl ⟨by kernel_rfl, fun u hu => by obtain ⟨_, h1, h2⟩ := hu; go_simp⟩) hH ?_
              try simp only [Act.put, List.setIfInBounds_toArray, List.set_cons_zero, List.set_cons_succ]
              refine wpAnyH_take (oi := ⟨some 2, _, _, _, _, _⟩) (i := 7) (v := .slice none 0 0) rfl (by kernel_rfl) (by kernel_rfl) (by kernel_rfl) (fun _ _ _ h => h) (.inl ⟨by kernel_rfl, fun u hu => by go_simp⟩) hH ?_
              try simp only [Act.put, List.setIfInBounds_toArray, List.set_cons_zero, List.set_cons_succ]
              refine wpAnyH_take (oi := ⟨some 3, _, _, _, _, _⟩) (i := 8) (v := .int .i64 160) rfl (by kernel_rfl) (by kernel_rfl) (by kernel_rfl) (fun _ _ _ h => h) (.inl ⟨by kernel_rfl, fun u hu => by go_simp⟩) hH ?_
              try simp only [Act.put, List.setIfInBounds_toArray, List.set_cons_zero, List.set_cons_succ]
              refine wpAnyH_take (oi := ⟨some 4, _, _, _, _, _⟩) (i := 9) (v := .int .i64 (x.ln : Int)) rfl (by kernel_rfl) (by kernel_rfl) (by kernel_rfl) (fun _ _ _ h => h) (.inl ⟨by kernel_rfl, fun u hu => by go_simp⟩) hH ?_
              try simp only [Act.put, List.setIfInBounds_toArray, List.set_cons_zero, List.set_cons_succ]
              refine wpAnyH_done (by kernel_rfl) ?_ _
              go_wp2
              rw [← hPE.out, fin.out]
              exact ⟨hH.1, rfl⟩
            · rw [hk] at hlab
              obtain ⟨i0, hi0, ho, hpl⟩ := hok'.out.go x (List.mem_of_getElem? hx)
              have ha := hok'.out.lb x.lb a hk
              have hla : Hid (layB bs x.pl (atO x.o a) = layB bs x.pl (atO (useO (opR i0)) a)) := by show _ = _; rw [ho]
              have hR2 := use_R hi0 ha
              have hop : (opR i0 : Nat) = x.o.op := by rw [ho]; rfl
              obtain ⟨op, hop2⟩ : ∃ op, opR i0 = op := ⟨_, rfl⟩
              rw [hop2] at hla hR2 hop
              have hlen : bs.length = bs0.length := S.out.1
              obtain ⟨a0, hb1⟩ : ∃ a0, Hid (bs[x.pl]? = some a0) := ⟨_, List.getElem?_eq_getElem (by simp only at hpl; omega)⟩
              obtain ⟨a1, hb2⟩ : ∃ a1, Hid (bs[x.pl + 1]? = some a1) := ⟨_, List.getElem?_eq_getElem (by simp only at hpl; omega)⟩
              have hpl : Hid (x.pl + 1 < bs0.length) := hpl
              obtain ⟨X, hX⟩ : ∃ X, (encW (atO (useO op) a)).getD 0 = X := ⟨_, rfl⟩
              have hX16 : Hid (X < 65536) := by
                show _ < _
                rw [← hX]
                rcases hE : encW (atO (useO op) a) with _ | q
                · decide
                · exact enc_lt hE
              have hEn : Hid (∀ z, Calls Tryd.prog 9 #[.agg #[.int .u8 (op : Int), .int .u8 0, .int .u8 0, .int .u8 0, .int .u8 0, .int .u16 (a : Int)]] z fun e w' => ∃ E : Int, e = .returned (.tuple #[.int .u16 (X : Int), .int .i64 E]) ∧ Below z.heap.size z w') := fun z => (rencode_any z (atO (useO op) a) hR2).mono fun e w' h => by
                rw [hX] at h
                exact ⟨_, h.1, h.2⟩
              have hlay : Hid (layB bs x.pl (atO x.o a) = (bs.set x.pl (UInt8.ofNat (X / 256))).set (x.pl + 1) (UInt8.ofNat (X % 256))) := by
                show _ = _
                rw [hla.out]
                unfold layB
                rw [hX]
              have hS2 : Hid ((layB bs x.pl (atO x.o a)).length = bs0.length ∧ setP (lookN N) us bs0 = setP (lookN N) (us.drop (j + 1)) (layB bs x.pl (atO x.o a))) := ⟨by rw [layB_len]; exact hlen, by rw [hsp, setP_some hk]⟩
              rw [hlay.out] at hS2
              obtain ⟨s4, c4, hv4, p4⟩ := Q2.out.cell 4 (by decide)
              rw [show (vsD (bs, N, us) 4).length = us.length from (List.length_map ..).trans (List.length_map ..), hm.out] at hv4 p4
              obtain ⟨g4, rfl, d4⟩ := Q2.out.rowC 4 (by decide) hv4 j (.int .u8 (op : Int)) (by show (List.map _ (us.map _))[j]? = _; rw [List.getElem?_map, List.getElem?_map, hx, hop]; rfl)
              have ix4 := fun z => idxO0 g4 m c4 j hlt z
              obtain ⟨s5, c5, hv5, p5⟩ := Q2.out.cell 5 (by decide)
              rw [show (vsD (bs, N, us) 5).length = us.length from (List.length_map ..).trans (List.length_map ..), hm.out] at hv5 p5
              have hplc : Hid ((vsD (bs, N, us) 5)[j]? = some (.int .i64 (x.pl : Int))) := by show (List.map _ (us.map _))[j]? = _; rw [List.getElem?_map, List.getElem?_map, hx]; rfl
              obtain ⟨g5, rfl, d5⟩ := Q2.out.rowC 5 (by decide) hv5 j _ hplc.out
              obtain ⟨gb, rfl, d0⟩ := Q2.out.rowC 0 (by decide) hv0 x.pl (byV a0) (by show (List.map _ bs)[x.pl]? = _; rw [List.getElem?_map, hb1.out]; rfl)
              have hv0' : Hid _ := hv0
              have hv5' : Hid _ := hv5
              have hb0 : Hid (bs0.length ≤ 100000) := by have h := hby.out; show _ ≤ _; exact Nat.le_trans h (by decide)
              have hwA : Hid (IntKind.u16.wrap (a : Int) = (a : Int)) := by show _ = _; rw [IntKind.wrap_u16]; omega
              have hna : ¬ (a : Int) < 0 := by omega
              have w9 : IntKind.i64.wrap ((j : Int) + 1) = ((j + 1 : Nat) : Int) := by have := hm2.out; rw [IntKind.wrap_i64]; omega
              clear hsp hk hdr S hop hop2 hR2 hX ho hi0 ha hlen hla hv0 hv5 d5 d0 p5
              simp only [lookV] at hlab
              go_wp2_with (first
                | (go_at_call 9; rw [hwA.out]; refine (hEn.out _).mono ?_; rintro e z ⟨E, rfl, hz⟩; have Q3 : Hid (Qp w w.heap.size v (vsD (bs, N, us)) z) := Q2.out.keep hz; clear hz)
                | (go_at_call 35; refine hlab.mono ?_; rintro e z ⟨rfl, hz⟩; replace hz := hz.symm; subst hz))
              refine regK w w.heap.size v (bs, N, us) gb bs0.length c0 g5 m c5 j x.pl X a0 hv0'.out hv5'.out hlt'.out (by have := hpl.out; omega) hb0.out hX16.out hplc.out hb1.out 91 (Nat.le_of_ble_eq_true (by kernel_rfl)) (by decide) (by kernel_rfl) (by kernel_rfl) (by kernel_rfl) (by kernel_rfl) (by kernel_rfl) (by exact ⟨_, rfl, rfl, rfl, rfl, by kernel_rfl⟩) (by exact ⟨_, rfl, rfl, rfl, rfl, by kernel_rfl⟩) (by exact ⟨_, rfl, rfl, rfl, rfl, by kernel_rfl⟩) (by exact ⟨_, rfl, rfl, rfl, rfl, by kernel_rfl⟩) (by exact ⟨_, rfl, rfl, rfl, rfl, by kernel_rfl⟩) (by exact ⟨_, rfl, rfl, rfl, rfl, by kernel_rfl⟩) (by exact ⟨_, rfl, rfl, rfl, rfl, by kernel_rfl⟩) (by exact ⟨_, rfl, rfl, rfl, rfl, by kernel_rfl⟩) (by exact ⟨_, rfl, rfl, rfl, rfl, by kernel_rfl⟩) (by exact ⟨_, rfl, rfl, rfl, rfl, by kernel_rfl⟩) (by exact ⟨_, rfl, rfl, rfl, rfl, by kernel_rfl⟩) (by exact ⟨_, rfl, rfl, rfl, rfl, by kernel_rfl⟩) (by exact ⟨_, rfl, rfl, rfl, rfl, by kernel_rfl⟩) (by exact ⟨_, rfl, rfl, rfl, rfl, by kernel_rfl⟩) (by exact ⟨_, rfl, rfl, rfl, rfl, by kernel_rfl⟩) (by exact ⟨_, rfl, rfl, rfl, rfl, by kernel_rfl⟩) (by kernel_rfl) (by kernel_rfl) (by kernel_rfl) (by kernel_rfl) Q3.out ?_
              intro vals z4 hv' Q4
              obtain ⟨e0, e1, e2, e3, e4, e5, e6, e7, e8, e9, e10, e11, e12, e13, e14, rfl⟩ := len15 vals hv'
              simp only [puts, Act.put, Nat.reduceAdd, List.setIfInBounds_toArray, List.set_cons_zero, List.set_cons_succ]
              go_wp2
              refine regL w w.heap.size v (bs.set x.pl (UInt8.ofNat (X / 256)), N, us) gb bs0.length c0 g5 m c5 j x.pl X a1 hv0'.out hv5'.out hlt'.out hpl.out hb0.out hX16.out hplc.out (by rw [List.getElem?_set_ne (by omega)]; exact hb2.out) 106 (Nat.le_of_ble_eq_true (by kernel_rfl)) (by decide) (by kernel_rfl) (by kernel_rfl) (by kernel_rfl) (by kernel_rfl) (by kernel_rfl) (by exact ⟨_, rfl, rfl, rfl, rfl, by kernel_rfl⟩) (by exact ⟨_, rfl, rfl, rfl, rfl, by kernel_rfl⟩) (by exact ⟨_, rfl, rfl, rfl, rfl, by kernel_rfl⟩) (by exact ⟨_, rfl, rfl, rfl, rfl, by kernel_rfl⟩) (by exact ⟨_, rfl, rfl, rfl, rfl, by kernel_rfl⟩) (by exact ⟨_, rfl, rfl, rfl, rfl, by kernel_rfl⟩) (by exact ⟨_, rfl, rfl, rfl, rfl, by kernel_rfl⟩) (by exact ⟨_, rfl, rfl, rfl, rfl, by kernel_rfl⟩) (by exact ⟨_, rfl, rfl, rfl, rfl, by kernel_rfl⟩) (by exact ⟨_, rfl, rfl, rfl, rfl, by kernel_rfl⟩) (by exact ⟨_, rfl, rfl, rfl, rfl, by kernel_rfl⟩) (by exact ⟨_, rfl, rfl, rfl, rfl, by kernel_rfl⟩) (by exact ⟨_, rfl, rfl, rfl, rfl, by kernel_rfl⟩) (by exact ⟨_, rfl, rfl, rfl, rfl, by kernel_rfl⟩) (by exact ⟨_, rfl, rfl, rfl, rfl, by kernel_rfl⟩) (by exact ⟨_, rfl, rfl, rfl, rfl, by kernel_rfl⟩) (by exact ⟨_, rfl, rfl, rfl, rfl, by kernel_rfl⟩) (by kernel_rfl) (by kernel_rfl) (by kernel_rfl) (by kernel_rfl) (by kernel_rfl) Q4.out ?_
              intro vals z5 hv' Q5
              obtain ⟨e0, e1, e2, e3, e4, e5, e6, e7, e8, e9, e10, e11, e12, e13, e14, e15, rfl⟩ := len16 vals hv'
              simp only [puts, Act.put, Nat.reduceAdd, List.setIfInBounds_toArray, List.set_cons_zero, List.set_cons_succ]
              go_wp2
              go_roundw
              case rel => exact ⟨j + 1, _, _, rfl, by simp, hlt'.out, Q5, hS2⟩
              case measure => have := hlt'.out; simp [intOf]; omega
          · have hje : j = m := by omega
            subst hje
            have hsp := S.out.2
            rw [← hm.out, List.drop_length] at hsp
            have fin : Hid (R = .inr bs) := by
              show _ = _
              rw [hRe]
              unfold endD
              simp only
              rw [hsp]
              rfl
            have p0 := bx_row Q2.out.box 0 (by decide)
            rw [hv0] at p0
            have hown : Hid (OwnL 5 1 cU w.heap.size u (v 0) bs) := OwnL.vals.2 (Q2.out.own 0 (by decide))
            rw [hv0] at hown
            clear hsp hlt S hRe
            go_wp2
            rw [← hPE.out, fin.out]
            exact ⟨Q2.out.low, _, rfl, hown.out⟩
end Go.Proofs.YthaijjehplomfaaDoor
