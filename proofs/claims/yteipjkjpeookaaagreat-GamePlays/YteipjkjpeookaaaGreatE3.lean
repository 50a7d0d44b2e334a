/- Dots of a page by the document: one looked at, one turned. -/
import Derived.Test.YteipjkjpeookaaaGreatJ3
import Derived.BigRegion
namespace Go.Proofs.YteipjkjpeookaaaGreat
open Go Go.RowKit Go.Shelf
set_option linter.unusedVariables false
set_option maxHeartbeats 1000000
set_option maxRecDepth 20000

section
variable {α : Type} {T t : TypeId} {s bts : Nat} {c : α → List Value}
theorem rowL_set1 (hc : ∀ x, (c x).length = s) (i : Nat) (v : Value) (hi : i < s) (x : List α) : ∀ (k : Nat) (a e : α), x[k]? = some a → c e = (c a).set i v → rowL c (x.set k e) = (rowL c x).set (k * s + i) v := by
  induction x with
  | nil => intro k a e h; simp at h
  | cons y x ih =>
    intro k a e h he
    cases k with
    | zero =>
      simp at h
      subst h
      rw [List.set_cons_zero, rowL_cons, rowL_cons, he, Nat.zero_mul, Nat.zero_add, List.set_append_left _ _ (by rw [hc]; exact hi)]
    | succ k =>
      simp only [List.getElem?_cons_succ] at h
      rw [List.set_cons_succ, rowL_cons, rowL_cons, ih k a e h he, List.set_append_right _ _ (by rw [hc, Nat.succ_mul]; omega), hc, show (k + 1) * s + i - s = k * s + i by rw [Nat.succ_mul]; omega]
/-- One cell of an owned row is set. -/
theorem OwnL.set1 (hc : ∀ x, (c x).length = s) {B : Nat} {w : World} {g n cap : Nat} {x : List α} (h : OwnL t s c B w (.slice (some ⟨g, 0, none⟩) n cap) x) (k i : Nat) (a e : α) (v : Value) (hk : x[k]? = some a) (hi : i < s) (he : c e = (c a).set i v) : OwnL t s c B (w.setCell ⟨g, k * s + i, none⟩ v) (.slice (some ⟨g, 0, none⟩) n cap) (x.set k e) ∧ w.frozen? ⟨g, k * s + i, none⟩ = false ∧ B ≤ g := by
  obtain ⟨h1, h2⟩ := h
  rcases h2 with ⟨h0, _⟩ | ⟨g', cap', cur, hv, hb, hg, hn, hm, hs, ht⟩
  · simp at h0
  · simp at hv
    obtain ⟨rfl, hn', rfl⟩ := hv
    refine ⟨⟨by rw [rowL_len hc], .inr ⟨g, cap, _, by rw [List.length_set, hn'], hb, heap_setCell_same w g (k * s + i) cur t v hg, by rw [List.length_set]; exact hn, hm, ?_, ?_⟩⟩, frozen_heap hg _, hb⟩
    · rw [Array.size_setIfInBounds]; exact hs
    · rw [List.length_set, rowL_set1 hc i v hi x k a e hk he, ← ht, Array.toList_setIfInBounds, List.take_set]
end
theorem on_any (w : World) (sp : Option Addr) (cap : Nat) (p : List UInt8) (i j : Nat) (hp : p.length = 256) (hi : i < 64) (hj : j < 32) (hl : Hid (LB w sp p)) :
    Calls Tryz.prog 105 #[.slice sp 256 cap, .int .i64 (i : Int), .int .i64 (j : Int)] w fun e w' => e = .returned (.bool (bitP p (64 * j + i))) ∧ Below w.heap.size w w' := by
  obtain ⟨g, o, rfl⟩ := lb_some hl.out (by omega)
  have cA := lb_at hl.out ((64 * j + i) / 8) (by omega)
  have ix := fun v => idxB .i64 g o 256 cap ((64 * j + i) / 8) v (by omega)
  have s8 := sh8 ((64 * j + i) % 8) (Nat.mod_lt _ (by decide))
  unfold bitP
  obtain ⟨A, hA⟩ : ∃ A, p.getD ((64 * j + i) / 8) 0 = A := ⟨_, rfl⟩
  obtain ⟨M, hM⟩ : ∃ A, mk ((64 * j + i) % 8) = A := ⟨_, rfl⟩
  rw [hA] at cA ⊢
  rw [hM] at s8 ⊢
  have qa := and8 A M
  have qz := nzero8 (A &&& M)
  obtain ⟨R, hR⟩ : ∃ R, (A &&& M != 0) = R := ⟨_, rfl⟩
  rw [hR] at qz ⊢
  obtain ⟨z, hz⟩ : ∃ z, (A &&& M).toNat = z := ⟨_, rfl⟩
  obtain ⟨a, ha⟩ : ∃ z, A.toNat = z := ⟨_, rfl⟩
  obtain ⟨m, hm⟩ : ∃ z, M.toNat = z := ⟨_, rfl⟩
  rw [hz] at qa qz
  rw [ha, hm] at qa
  rw [ha] at cA
  rw [hm] at s8
  have hii : (i : Int) < 64 := by omega
  have hji : (j : Int) < 32 := by omega
  clear hl hz ha hm hR hM hA hp hi hj
  go_enter Tryz.func105, Tryz.ntmps105
  go_wp2
  go_quiet (fail)
  go_wp2
  go_ret
  exact ⟨rfl, below_drewN (Below.refl _ _)⟩
theorem own_at {B : Nat} {w : World} {g n cap : Nat} {p : List UInt8} (h : OwnL 5 1 cB B w (.slice (some ⟨g, 0, none⟩) n cap) p) (k : Nat) (hk : k < p.length) : w.cell? ⟨g, k, none⟩ = some (.int .u8 ((p.getD k 0).toNat : Int)) ∧ w.frozen? ⟨g, k, none⟩ = false := by
  obtain ⟨sp, cp, e, hl, _⟩ := OwnL.open kByte.len h
  injection e with e1 e2 e3
  subst e1
  have := lb_at hl k hk
  rw [Nat.zero_add] at this
  have f := (h.set1 kByte.len k 0 (p.getD k 0) 0 (.int .u8 0) (by simp [List.getD, hk]) (by decide) rfl).2.1
  simp only [Nat.mul_one, Nat.add_zero] at f
  exact ⟨this, f⟩
theorem turn_any (w : World) (B g cap : Nat) (p : List UInt8) (i j : Nat) (hp : p.length = 256) (hi : i < 64) (hj : j < 32) (h : Hid (OwnL 5 1 cB B w (.slice (some ⟨g, 0, none⟩) 256 cap) p)) :
    Calls Tryz.prog 106 #[.slice (some ⟨g, 0, none⟩) 256 cap, .int .i64 (i : Int), .int .i64 (j : Int)] w fun e w' => e = .returned (.tuple #[]) ∧ Hid (OwnL 5 1 cB B w' (.slice (some ⟨g, 0, none⟩) 256 cap) (flipP p (64 * j + i)) ∧ Below B w w') := by
  have hc := own_at h.out ((64 * j + i) / 8) (by omega)
  have cA := hc.1
  have fA := hc.2
  have ix := fun v => idxB .i64 g 0 256 cap ((64 * j + i) / 8) v (by omega)
  simp only [Nat.zero_add] at ix
  have s8 := sh8 ((64 * j + i) % 8) (Nat.mod_lt _ (by decide))
  unfold flipP
  have hk8 : (64 * j + i) / 8 < p.length := by omega
  have hset := fun e => h.out.set1 kByte.len ((64 * j + i) / 8) 0 (p.getD ((64 * j + i) / 8) 0) e (byV e) (by simp [List.getD, hk8]) (by decide) rfl
  simp only [Nat.mul_one, Nat.add_zero] at hset
  obtain ⟨A, hA⟩ : ∃ A, p.getD ((64 * j + i) / 8) 0 = A := ⟨_, rfl⟩
  obtain ⟨M, hM⟩ : ∃ A, mk ((64 * j + i) % 8) = A := ⟨_, rfl⟩
  rw [hA] at cA ⊢
  rw [hM] at s8 ⊢
  have qa := xor8 A M
  have fin : Hid (OwnL 5 1 cB B (w.drew.setCell ⟨g, (64 * j + i) / 8, none⟩ (byV (A ^^^ M))) (.slice (some ⟨g, 0, none⟩) 256 cap) (p.set ((64 * j + i) / 8) (A ^^^ M)) ∧ Below B w (w.drew.setCell ⟨g, (64 * j + i) / 8, none⟩ (byV (A ^^^ M)))) := by
    have h1 := hset (A ^^^ M)
    exact ⟨h1.1, (below_drew (Below.refl B w)).setCell (p := ⟨g, (64 * j + i) / 8, none⟩) h1.2.2 _⟩
  unfold byV at fin
  obtain ⟨P2, hP2⟩ : ∃ P2, p.set ((64 * j + i) / 8) (A ^^^ M) = P2 := ⟨_, rfl⟩
  rw [hP2] at fin ⊢
  obtain ⟨z, hz⟩ : ∃ z, (A ^^^ M).toNat = z := ⟨_, rfl⟩
  obtain ⟨a, ha⟩ : ∃ z, A.toNat = z := ⟨_, rfl⟩
  obtain ⟨m, hm⟩ : ∃ z, M.toNat = z := ⟨_, rfl⟩
  rw [hz] at qa fin
  rw [ha, hm] at qa
  rw [ha] at cA
  rw [hm] at s8
  have hii : (i : Int) < 64 := by omega
  have hji : (j : Int) < 32 := by omega
  clear hset hz ha hm hM hA hp hi hj hP2 hc hk8
  go_enter Tryz.func106, Tryz.ntmps106
  go_wp2
  go_region
  go_wp2
  go_end0
  exact ⟨rfl, fin.out⟩
/-- A row put behind nothing: a row of one's own. -/
theorem at_appNew {ops : Array Oper} {rest : List Oper} {o : Oper} {a : Act} {w : World} {Q : Exit → Act → World → Prop} (hgd : o.guard = none) (sl x : Operand)
    (ho : o.op = .call { callee := .builtin .append, args := #[sl, x], argTypes := #[25, 25] }) (hs : a.eval sl = .slice none 0 0) (g f n c : Nat) (hx : a.eval x = .slice (some ⟨g, f, none⟩) n c)
    (l : List UInt8) (hl : LB w (some ⟨g, f, none⟩) l) (hn : l.length = n) (h0 : 0 < n) (h1 : n ≤ 100000000000)
    (k : ∀ b cp w', Hid (OwnL 5 1 cB w.heap.size w' (.slice (some ⟨b, 0, none⟩) n cp) l ∧ Below w.heap.size w w') → wpList Tryz.prog ops Q rest (a.put o.dst (.slice (some ⟨b, 0, none⟩) n cp)) w') : wpList Tryz.prog ops Q (o :: rest) a w := by
  obtain ⟨i, z, hi, hz0, hz1, hz2, hz3⟩ := kByte.i
  have hsrc : ∀ j v, (rowL cB l)[j]? = some v → w.cell? ((⟨g, f, none⟩ : Addr).add j) = some v := fun j v hv => by
    rw [Addr.add_lit]
    exact LiesL.cells kByte.len kByte.s0 hl j v hv
  refine wpList_append_grows w hgd sl x 25 ho 5 i z 1 1 kByte.u hi hz0 hz1 hz2 hz3 kByte.s0 none 0 0 [] hs (fun _ => ⟨rfl, rfl⟩) (by simp) (fun b hb => by cases hb) ⟨g, f, none⟩ n c (rowL cB l) hx (by rw [rowL_len kByte.len, hn]) hsrc (rowL_cell kByte.one l) (by omega) (by unfold maxLen; omega) (by omega) ?_
  intro v' w' r1 r2
  have ho : OwnL 5 1 cB w.heap.size w' v' l := by
    unfold OwnL
    rw [hn]
    rw [Nat.zero_add, List.nil_append] at r1
    exact r1
  have hb : Below w.heap.size w w' := ⟨r2.os, r2.tape, r2.output, r2.size, fun k hk => r2.block k hk (by simp)⟩
  rcases ho.2 with ⟨_, h⟩ | ⟨b, cp, cur, e, _⟩
  · omega
  · rw [hn] at e
    subst e
    exact k b cp w' ⟨ho, hb⟩
/-- What the document's Draw answers. -/
theorem rdraw_any (w : World) (sp spR : Option Addr) (cap capR : Nat) (p rows : List UInt8) (x y : UInt8) (hl : Hid (LB w sp p)) (hr : Hid (LB w spR rows)) :
    Calls Tryz.prog 95 #[.slice sp p.length cap, .int .u8 (x.toNat : Int), .int .u8 (y.toNat : Int), .slice spR rows.length capR] w fun e w' => ∃ v, e = .returned (.tuple #[v, .bool (drawA p x.toNat y.toNat rows).2.1, .int .i64 (drawA p x.toNat y.toNat rows).2.2]) ∧ Hid (KL 5 1 cB w v (drawA p x.toNat y.toNat rows).1 w') := by
  obtain ⟨n, hn⟩ : ∃ n, p.length = n := ⟨_, rfl⟩
  obtain ⟨m, hm⟩ : ∃ m, rows.length = m := ⟨_, rfl⟩
  by_cases h1 : n = 256
  · by_cases h2 : m ≤ 15
    · have hd : drawA p x.toNat y.toNat rows = ((drawS x.toNat y.toNat rows p (8 * m)).1, (drawS x.toNat y.toNat rows p (8 * m)).2, 0) := by unfold drawA; rw [if_pos ⟨by omega, by omega⟩, hm]
      rw [hd]
      dsimp only
      have q2 : decide ((15 : Int) < (m : Int)) = false := by simp; omega
      have xl := x.toNat_lt
      have yl := y.toNat_lt
      obtain ⟨X, hX⟩ : ∃ X, x.toNat = X := ⟨_, rfl⟩
      obtain ⟨Y, hY⟩ : ∃ Y, y.toNat = Y := ⟨_, rfl⟩
      rw [hX, hY, hn, hm]
      have hXi : (X : Int) < 256 := by omega
      have hYi : (Y : Int) < 256 := by omega
      subst h1
      obtain ⟨gp, op, rfl⟩ := lb_some hl.out (by omega)
      have hp : Hid (p.length = 256) := hn
      have hm' : Hid (rows.length = m ∧ m ≤ 15) := ⟨hm, h2⟩
      have hmi : (m : Int) ≤ 15 := by omega
      clear hd hX hY xl yl hn hm h2
      go_enter Tryz.func95, Tryz.ntmps95
      go_wp2_with ((with_reducible refine at_appNew ?_ (.tmp 25) (.tmp 26) ?_ ?_ gp op 256 cap ?_ p hl.out hp.out ?_ ?_ ?_); rfl; rfl; rfl; rfl; decide; decide; intro b cp y1 K1)
      go_loopw [12, 13] (fun gv kv wz => ∃ (k : Nat) (u : World), u = wz ∧ k ≤ m ∧ gv = .bool (drawS X Y rows p (8 * k)).2 ∧ kv = .int .i64 (k : Int) ∧ Hid (OwnL 5 1 cB w.heap.size u (.slice (some ⟨b, 0, none⟩) 256 cp) (drawS X Y rows p (8 * k)).1 ∧ Below w.heap.size w u)) (fun _ kv _ => (m - intOf kv).toNat)
      case atStart => exact ⟨0, y1, rfl, Nat.zero_le _, rfl, rfl, K1⟩
      case round =>
        obtain ⟨k, u, rfl, hk, rfl, rfl, K⟩ := hrel
        clear K1
        by_cases hlt : k < m
        · have hki : (k : Int) < m := by omega
          have hlt' : Hid (k < m) := hlt
          clear hk hlt
          go_wp2
          go_loopw [12, 14] (fun gv dv wz => ∃ (d : Nat) (v : World), v = wz ∧ d ≤ 8 ∧ gv = .bool (drawS X Y rows p (8 * k + d)).2 ∧ dv = .int .i64 (d : Int) ∧ Hid (OwnL 5 1 cB w.heap.size v (.slice (some ⟨b, 0, none⟩) 256 cp) (drawS X Y rows p (8 * k + d)).1 ∧ Below w.heap.size w v)) (fun _ dv _ => (8 - intOf dv).toNat)
          case atStart => exact ⟨0, u, rfl, Nat.zero_le _, rfl, rfl, K⟩
          case round =>
            obtain ⟨d, v, rfl, hd, rfl, rfl, L⟩ := hrel
            clear K
            by_cases hd8 : d < 8
            · have hdi : (d : Int) < 8 := by omega
              have hs : drawS X Y rows p (8 * k + (d + 1)) = stepD X Y rows (drawS X Y rows p (8 * k + d)) (8 * k + d) := rfl
              unfold stepD at hs
              rw [plc_at X Y rows d k hd8] at hs
              have hlen : (drawS X Y rows p (8 * k + d)).1.length = 256 := by rw [draw_len]; exact hp.out
              obtain ⟨⟨q, gg⟩, hq⟩ : ∃ s, drawS X Y rows p (8 * k + d) = s := ⟨_, rfl⟩
              rw [hq] at hs hlen L ⊢
              dsimp only at hlen L ⊢
              have s8 := sh8 d hd8
              obtain ⟨gr, ro, rfl⟩ := lb_some hr.out (by have := hm'.out.1; have := hlt'.out; omega)
              have cA := lb_at (hr.out.below L.out.2) k (by have := hm'.out.1; have := hlt'.out; omega)
              have ia := fun v => idxB .i64 gr ro m capR k v hlt'.out
              obtain ⟨A, hA⟩ : ∃ A, rows.getD k 0 = A := ⟨_, rfl⟩
              obtain ⟨M, hM⟩ : ∃ A, mk d = A := ⟨_, rfl⟩
              rw [hA] at cA hs
              rw [hM] at s8 hs
              have qa := and8 A M
              have qz := zero8 (A &&& M)
              obtain ⟨z, hz⟩ : ∃ z, (A &&& M).toNat = z := ⟨_, rfl⟩
              obtain ⟨a, ha⟩ : ∃ a, A.toNat = a := ⟨_, rfl⟩
              obtain ⟨mm, hmm⟩ : ∃ a, M.toNat = a := ⟨_, rfl⟩
              rw [hz] at qa qz
              rw [ha, hmm] at qa
              rw [ha] at cA
              rw [hmm] at s8
              have hd' : Hid (d < 8) := hd8
              obtain ⟨X', hX'⟩ : ∃ X', X % 64 = X' := ⟨_, rfl⟩
              obtain ⟨Y', hY'⟩ : ∃ Y', Y % 32 = Y' := ⟨_, rfl⟩
              rw [hX', hY'] at hs
              have eX : (X : Int) % 64 = (X' : Int) := by omega
              have eY : (Y : Int) % 32 = (Y' : Int) := by omega
              have xi : (X' : Int) < 64 := by omega
              have yi : (Y' : Int) < 32 := by omega
              clear hz ha hmm hA hM hd hq hX' hY'
              by_cases h1 : A &&& M = 0
              · rw [if_pos (.inl h1)] at hs
                replace qz : ((z : Int) == 0) = true := by rw [qz, h1]; rfl
                have hs : Hid (drawS X Y rows p (8 * k + (d + 1)) = (q, gg)) := hs
                clear h1 hd8
                go_wp2
                go_quiet (fail)
                go_wp2
                go_roundw
                case rel => exact ⟨d + 1, _, rfl, hd'.out, by rw [hs.out], by simp, ⟨by rw [hs.out]; first | exact L.out.1.below (below_drewN (Below.refl _ _)) | exact L.out.1, by first | exact below_drewN L.out.2 | exact L.out.2⟩⟩
                case measure => have := hd'.out; simp [intOf]; omega
              replace qz : ((z : Int) == 0) = false := by rw [qz]; simpa using h1
              by_cases h2 : 64 ≤ X' + d
              · rw [if_pos (.inr (.inl h2))] at hs
                have q1 : decide ((64 : Int) ≤ (X' : Int) + (d : Int)) = true := by simp; omega
                have hs : Hid (drawS X Y rows p (8 * k + (d + 1)) = (q, gg)) := hs
                clear h1 h2 hd8
                go_wp2
                go_quiet (fail)
                go_wp2
                go_roundw
                case rel => exact ⟨d + 1, _, rfl, hd'.out, by rw [hs.out], by simp, ⟨by rw [hs.out]; first | exact L.out.1.below (below_drewN (Below.refl _ _)) | exact L.out.1, by first | exact below_drewN L.out.2 | exact L.out.2⟩⟩
                case measure => have := hd'.out; simp [intOf]; omega
              have q1 : decide ((64 : Int) ≤ (X' : Int) + (d : Int)) = false := by simp; omega
              by_cases h3 : 32 ≤ Y' + k
              · rw [if_pos (.inr (.inr h3))] at hs
                have q2 : decide ((32 : Int) ≤ (Y' : Int) + (k : Int)) = true := by simp; omega
                have hs : Hid (drawS X Y rows p (8 * k + (d + 1)) = (q, gg)) := hs
                clear h1 h2 h3 hd8
                go_wp2
                go_quiet (fail)
                go_wp2
                go_roundw
                case rel => exact ⟨d + 1, _, rfl, hd'.out, by rw [hs.out], by simp, ⟨by rw [hs.out]; first | exact L.out.1.below (below_drewN (Below.refl _ _)) | exact L.out.1, by first | exact below_drewN L.out.2 | exact L.out.2⟩⟩
                case measure => have := hd'.out; simp [intOf]; omega
              have q2 : decide ((32 : Int) ≤ (Y' : Int) + (k : Int)) = false := by simp; omega
              rw [if_neg (by rintro (h | h | h); exact h1 h; omega; omega)] at hs
              dsimp only at hs
              obtain ⟨N, hN⟩ : ∃ N, 64 * (Y' + k) + (X' + d) = N := ⟨_, rfl⟩
              rw [hN] at hs
              have cOn : Hid (∀ u, OwnL 5 1 cB w.heap.size u (.slice (some ⟨b, 0, none⟩) 256 cp) q → Calls Tryz.prog 105 #[.slice (some ⟨b, 0, none⟩) 256 cp, .int .i64 ((X' : Int) + (d : Int)), .int .i64 ((Y' : Int) + (k : Int))] u fun e w' => e = .returned (.bool (bitP q N)) ∧ Below u.heap.size u w') := fun u hu => by
                obtain ⟨sp2, cp2, e2, hl2, _⟩ := OwnL.open kByte.len hu
                injection e2 with e3 e4 e5
                subst e3
                have := on_any u (some ⟨b, 0, none⟩) cp q (X' + d) (Y' + k) hlen (by omega) (by omega) hl2
                rw [hN] at this
                exact this
              have cTu : Hid (∀ u, OwnL 5 1 cB w.heap.size u (.slice (some ⟨b, 0, none⟩) 256 cp) q → Calls Tryz.prog 106 #[.slice (some ⟨b, 0, none⟩) 256 cp, .int .i64 ((X' : Int) + (d : Int)), .int .i64 ((Y' : Int) + (k : Int))] u fun e w' => e = .returned (.tuple #[]) ∧ Hid (OwnL 5 1 cB w.heap.size w' (.slice (some ⟨b, 0, none⟩) 256 cp) (flipP q N) ∧ Below w.heap.size u w')) := fun u hu => by
                have := turn_any u w.heap.size b cp q (X' + d) (Y' + k) hlen (by omega) (by omega) hu
                rw [hN] at this
                exact this
              obtain ⟨bb, hbb⟩ : ∃ c, bitP q N = c := ⟨_, rfl⟩
              rw [hbb] at cOn hs
              have hs : Hid (drawS X Y rows p (8 * k + (d + 1)) = (flipP q N, gg || bb)) := hs
              clear h1 h2 h3 hN hd8 hlen hbb
              go_wp2
              go_quiet (fail)
              have L2 : Hid (OwnL 5 1 cB w.heap.size (v.drewN nq) (.slice (some ⟨b, 0, none⟩) 256 cp) q ∧ Below w.heap.size w (v.drewN nq)) := ⟨L.out.1.below (below_drewN (Below.refl _ _)), below_drewN L.out.2⟩
              generalize v.drewN nq = v1 at L2 ⊢
              clear L cA
              go_wp2_with (first
                | (go_at_call 106; refine (cTu.out v2 L3.out.1).mono ?_; rintro e v3 ⟨rfl, H3⟩)
                | (go_at_call 105; refine (cOn.out v1 L2.out.1).mono ?_; rintro e v2 ⟨rfl, H2⟩; have L3 : Hid (OwnL 5 1 cB w.heap.size v2 (.slice (some ⟨b, 0, none⟩) 256 cp) q ∧ Below w.heap.size w v2) := ⟨L2.out.1.below H2, L2.out.2.trans (H2.mono L2.out.2.size)⟩))
              · have hb1 : bb = true := by assumption
                go_roundw
                case rel => exact ⟨d + 1, v3, rfl, hd'.out, by rw [hs.out, hb1, Bool.or_true], by simp, ⟨by rw [hs.out]; exact H3.out.1, L3.out.2.trans H3.out.2⟩⟩
                case measure => have := hd'.out; simp [intOf]; omega
              · have hb1 : bb = false := by assumption
                go_roundw
                case rel => exact ⟨d + 1, v3, rfl, hd'.out, by rw [hs.out, hb1, Bool.or_false], by simp, ⟨by rw [hs.out]; exact H3.out.1, L3.out.2.trans H3.out.2⟩⟩
                case measure => have := hd'.out; simp [intOf]; omega
            · have hde : d = 8 := by omega
              subst hde
              clear hd hd8
              go_wp2
              go_roundw
              case rel => exact ⟨k + 1, v, rfl, hlt'.out, rfl, by simp, L⟩
              case measure => have := hlt'.out; simp [intOf]; omega
        · have hke : k = m := by omega
          subst hke
          clear hk hlt
          go_wp2
          go_ret3
          exact ⟨_, rfl, ⟨K.out.1, K.out.2⟩⟩
    · have hd : drawA p x.toNat y.toNat rows = ([], false, 1) := by unfold drawA; rw [if_neg (by rintro ⟨_, h⟩; omega)]
      rw [hd, hn, hm]
      dsimp only
      have q1 : ((n : Int) != 256) = false := by simp; omega
      have q2 : decide ((15 : Int) < (m : Int)) = true := by simp; omega
      clear hd h1 h2 hn hm
      go_enter Tryz.func95, Tryz.ntmps95
      go_wp2
      go_ret3
      exact ⟨_, rfl, KL.nil w⟩
  · have hd : drawA p x.toNat y.toNat rows = ([], false, 1) := by unfold drawA; rw [if_neg (by rintro ⟨h, _⟩; omega)]
    rw [hd, hn, hm]
    dsimp only
    have q1 : ((n : Int) != 256) = true := by simp; omega
    clear hd h1 hn hm
    go_enter Tryz.func95, Tryz.ntmps95
    go_wp2
    go_ret3
    exact ⟨_, rfl, KL.nil w⟩
end Go.Proofs.YteipjkjpeookaaaGreat
