/- The document's own: a line as an item: data. The document's own: a label's address. -/
import Derived.Test.YthaijjehplomfaaDoorJ36
namespace Go.Proofs.YthaijjehplomfaaDoor
open Go Go.RowKit
set_option linter.unusedVariables false
set_option maxHeartbeats 1000000
set_option maxRecDepth 20000

/-- While an item of data is read: the result's box, the item's, its bytes. -/
structure Dx (w : World) (b : Nat) (vb : Value) (d : List UInt8) (y : World) : Prop where
  r : Bx y w.heap.size it0 111
  x : Bx y b (it4 vb ⟨#[]⟩ ⟨#[]⟩ 0) 111
  ne : b ≠ w.heap.size
  gb : w.heap.size ≤ b
  own : OwnL 5 1 cU w.heap.size y vb d
  low : Below w.heap.size w y
theorem Dx.app {w : World} {b : Nat} {vb : Value} {d : List UInt8} {y z : World} {v' : Value} {us' : List UInt8} (h : Dx w b vb d y) (A : AppNL 5 1 cU w.heap.size vb d us' v' y z) :
    Bx z w.heap.size it0 111 ∧ Bx z b (it4 vb ⟨#[]⟩ ⟨#[]⟩ 0) 111 ∧ OwnL 5 1 cU w.heap.size z v' (d ++ us') ∧ Below w.heap.size w z := by
  have off : ∀ q cs t, Bx y q cs t → t ≠ 5 → z.heap[q]? = y.heap[q]? := fun q cs t hx ht => A.cu.blk q (heap_lt hx) fun j hF => by
    obtain ⟨cs', hx'⟩ := h.own.ty q hF.1
    exact Bx.unlike hx hx' ht rfl
  exact ⟨(off _ _ _ h.r (by decide)).trans h.r, (off _ _ _ h.x (by decide)).trans h.x, A.own, h.low.trans A.cu.low⟩
theorem Dx.put {w : World} {b : Nat} {vb v' : Value} {d : List UInt8} {z x : World} (r : Bx z w.heap.size it0 111) (hx : Bx z b (it4 vb ⟨#[]⟩ ⟨#[]⟩ 0) 111) (ne : b ≠ w.heap.size) (gb : w.heap.size ≤ b) (own : OwnL 5 1 cU w.heap.size z v' d) (low : Below w.heap.size w z)
    (hz : x = z.setCell ⟨b, 0, none⟩ v') : Dx w b v' d x := by
  subst hz
  have oth : ∀ q, q ≠ b → (z.setCell ⟨b, 0, none⟩ v').heap[q]? = z.heap[q]? := fun q hq => heap_setCell_other z ⟨b, 0, none⟩ q v' hq
  refine ⟨(oth _ ne.symm).trans r, heap_setCell_same z b 0 _ _ v' hx, ne, gb, own.keepB fun q e => oth q fun e' => ?_, low.trans ((Below.refl _ z).setCell (p := ⟨b, 0, none⟩) gb v')⟩
  obtain ⟨cs, hx'⟩ := own.ty q e
  subst e'
  exact Bx.unlike hx' hx (by decide) rfl
theorem Dx.alloc {w : World} {b : Nat} {vb : Value} {d : List UInt8} {y : World} (h : Dx w b vb d y) (o : Obj) : Dx w b vb d (y.alloc o) := by
  have hb := below1 y o
  exact ⟨(hb.block _ (heap_lt h.r)).trans h.r, (hb.block _ (heap_lt h.x)).trans h.x, h.ne, h.gb, h.own.alloc _, h.low.alloc h.low.size o⟩
/-- What is answered of data's words. -/
def IdE (w : World) (m : Nat) (r : Option (List UInt8)) (e : Ending) (z : World) : Prop := match r with
  | none => e = .returned (.tuple #[.agg (it4 (.slice none 0 0) ⟨#[]⟩ ⟨#[]⟩ 0), .bool false]) ∧ Below w.heap.size w z
  | some d => ∃ vb, e = .returned (.tuple #[.agg (it4 vb ⟨#[]⟩ ⟨#[]⟩ 0), .bool (decide (1 < m))]) ∧ OwnL 5 1 cU w.heap.size z vb d ∧ Below w.heap.size w z
theorem Dx.start {w y : World} (K : Fm w [(w.heap.size, it0, 111)] y) : Dx w y.heap.size (.slice none 0 0) [] (y.alloc (.cells it0 111)) := by
  have h := K.new it0 111
  have lt := heap_lt (K.bx 0 _ _ _ rfl)
  exact ⟨h.bx 0 _ _ _ rfl, h.bx 1 _ _ _ rfl, by omega, K.low.size, OwnL.nil _ _, h.low⟩
theorem item_dat (w : World) (gs os cap m n : Nat) (ws : List ByteArray) (s0 : ByteArray) (hm : Hid (ws.length = m)) (hm1 : Hid (1 ≤ m)) (hm2 : (m : Int) ≤ 4294967290) (hL : Hid (LiesL 1 strC w (some ⟨gs, os, none⟩) ws)) (hsz : Hid (∀ s ∈ ws, s.size ≤ 4294967280)) (hs0 : ws[0]? = some s0) (hd : s0 = ⟨#[100, 97, 116, 97]⟩) :
    Calls Tryd.prog 53 #[.slice (some ⟨gs, os, none⟩) m cap] w (IdE w m (datW ws.tail)) := by
  have hF : Hid (Fm w [(w.heap.size, it0, 111)] (w.alloc (.cells it0 111))) := Fm.one w _ _
  have ix0 : ∀ z, (Instr.indexAt 70 (.slice (some ⟨gs, os, none⟩) m cap) (.int .i64 0)).run Tryd.prog z = .ok (.pointer (some ⟨gs, os, none⟩)) z := fun z => by
    have h := idxW (g := gs) (off := os) (len := m) (cap := cap) 0 z hm1.out
    rw [Nat.add_zero] at h
    exact h
  have hcq : Hid (∀ (q : Nat) (s : ByteArray), ws[q]? = some s → ∀ z, Below w.heap.size w z → z.cell? ⟨gs, os + q, none⟩ = some (.string s)) := fun q s h z hz => by
    have h := word_at hL.out q s h
    exact (hz.cell (World.block_lt_of_cell? w _ h)).trans h
  have hc0 : Hid (∀ z, Below w.heap.size w z → z.cell? ⟨gs, os, none⟩ = some (.string s0)) := fun z hz => by
    have h := hcq.out 0 s0 hs0 z hz
    rw [Nat.add_zero] at h
    exact h
  have q0 : (s0.toList == [100, 97, 116, 97]) = true := by rw [str_is]; exact decide_eq_true hd
  have hz4 : s0.size = 4 := by rw [hd]; rfl
  have wn : IntKind.i64.wrap ((s0.size : Int) - 1) = 3 := by rw [IntKind.wrap_i64, hz4]; decide
  have hix : ∀ z, (Instr.index 9 (.string s0) (.int .i64 3)).run Tryd.prog z = .ok (.int .u8 97) z := fun z => by
    have h := last_at s0 3 hz4 z
    subst hd
    exact h
  have hns : (3 : Int) ≤ s0.size := by omega
  have hm1' : 1 ≤ m := hm1.out
  clear hd hz4 hs0

  by_cases h1 : m = 1
  · have e1 : ((m : Int) == 1) = true := by simp; omega
    clear h1
    go_enter Tryd.func53, Tryd.ntmps53
    go_wp2_with (first
      | ((with_reducible refine gen_world (w.alloc (.cells it0 111)) (Fm w [(w.heap.size, it0, 111)]) hF.out ?_); intro y1 K1; have cS := hc0.out y1 K1.out.low))
    have K2 : Hid (Dx w y1.heap.size (.slice none 0 0) [] (y1.alloc (.cells #[.slice none 0 0, .string ⟨#[]⟩, .string ⟨#[]⟩, .int .u8 0] 111))) := Dx.start K1.out
    generalize y1.alloc (.cells #[.slice none 0 0, .string ⟨#[]⟩, .string ⟨#[]⟩, .int .u8 0] 111) = y2 at K2 ⊢
    clear cS
    generalize y1.heap.size = bx at K2 ⊢
    go_loopw [8] (fun fi wz => ∃ (p p1 : Nat) (vb : Value) (d : List UInt8) (u : World), u = wz ∧ p + 1 = p1 ∧ p1 ≤ m ∧ fi = .int .i64 (p1 : Int) ∧ Hid (datW (ws.tail.take p) = some d) ∧ Hid (Dx w bx vb d u)) (fun fi _ => (m - intOf fi).toNat)
    case atStart => exact ⟨0, 1, _, [], _, rfl, rfl, hm1.out, rfl, (rfl : datW [] = some []), K2.out⟩
    case round =>
      obtain ⟨p, p1, vb, d, u, rfl, hp1, hpm, rfl, hd, K⟩ := hrel
      by_cases hlt : p1 < m
      · have hpi : (p1 : Int) < m := by omega
        obtain ⟨s, hps⟩ : ∃ s, ws[p1]? = some s := ⟨_, List.getElem?_eq_getElem (by rw [hm.out]; exact hlt)⟩
        have hss := hsz.out s (List.mem_of_getElem? hps)
        have dw := hcq.out p1 s hps u K.out.low
        have hix9 := fun z => idxW (g := gs) (off := os) (len := m) (cap := cap) p1 z hlt
        have hN := fun z => rnumber_any z s 2 (by decide) (by omega)
        have hpt : ws.tail[p]? = some s := by rw [List.getElem?_tail, hp1]; exact hps
        have htk : ws.tail.take (p + 1) = ws.tail.take p ++ [s] := by rw [List.take_add_one, hpt]; rfl
        have hsn := datW_snoc (ws.tail.take p) s d hd.out
        rw [← htk] at hsn
        have hlt' : Hid (p1 < m ∧ p + 1 = p1) := ⟨hlt, hp1⟩
        rcases hv : numK s.data.toList 2 with _ | v
        · rw [hv] at hN hsn
          have hno : Hid (datW ws.tail = none) := by
            show _ = _
            rw [← List.take_append_drop (p + 1) ws.tail]
            exact datW_none _ _ hsn
          clear hv hsn htk hlt hps hpt hss hp1
          simp only [] at hN
          have dR := K.out.r
          go_wp2_with (first
            | ((with_reducible refine at_st rtI w.heap.size it0 it0 ?_ ?_ ?_ ?_ (.tmp 2) (.tmp 60) ?_ ?_ ?_ ?_ ?_); exact dR; rfl; rfl; exact it4_one _ _ _ ⟨#[]⟩ ⟨#[]⟩ 0; rfl; rfl; rfl; rfl; intro y9 hw9)
            | (go_at_call 69; refine (hN _).mono ?_; rintro e z ⟨rfl, hz⟩; replace hz := hz.symm; subst hz))
          refine ret_two (v := .bool false) rtI rfl rfl rfl hw9.out.1 rfl rfl ?_
          rw [hno.out]
          exact ⟨rfl, K.out.low.trans (hw9.out.2.1 _ (Nat.le_refl _))⟩
        · rw [hv] at hN hsn
          have hv6 := num2_lt hv
          have hsn' : Hid (datW (ws.tail.take p1) = some (d ++ [UInt8.ofNat v])) := by show _ = _; rw [← hlt'.out.2]; exact hsn
          have hvU : Hid ((UInt8.ofNat v).toNat = v) := by show _ = _; simp; omega
          have hvi : (v : Int) < 256 := by omega
          have hv0 : ¬ ((v : Int) < 0) := by omega
          have hcv : ∀ z, (convert 3 5 (.int .i64 (v : Int))).run Tryd.prog z = .ok (.int .u8 (v : Int)) z := fun z => by go_simp; rw [IntKind.wrap_u8]; omega
          have hln : Hid (d.length ≤ 4294967290) := by
            show _ ≤ _
            rw [datW_len _ d hd.out, List.length_take]
            omega
          obtain ⟨spb, capb, rfl, _, _, _, _⟩ := K.out.own.open kU.len
          obtain ⟨nb, hnb⟩ : ∃ n, Hid (d.length = n) := ⟨_, (rfl : d.length = _)⟩
          rw [hnb.out] at K
          clear hv hsn htk hlt hps hpt hss hv6 hp1
          simp only [] at hN
          have dB := K.out.x.c 0 (.slice spb nb capb) rfl
          go_wp2_with (first
            | (at_builtin; refine at_appL kU rfl (.tmp 62) (.tmp 65) rfl w.heap.size (.slice spb nb capb) d rfl (K.out.own.alloc _) u.heap.size (UInt8.ofNat v) rfl ?_ ?_ ?_ ?_; (show Bx _ _ (cU (UInt8.ofNat v)).toArray _; unfold cU byV; rw [hvU.out]; exact alloc_last' u _); (have := hln.out; omega); (have := K.out.low.size; simp; omega); intro v' z2 A; have A2 := (K.out.alloc _).app ⟨A.out.own, A.out.new, A.out.cu⟩; obtain ⟨spn, capn, hv', _, _, _, _⟩ := A2.2.2.1.open kU.len; obtain ⟨nn, hnn⟩ : ∃ n, Hid ((d ++ [UInt8.ofNat v]).length = n) := ⟨_, (rfl : (d ++ [UInt8.ofNat v]).length = _)⟩; rw [hnn.out] at hv'; subst hv'; have d0 := A2.2.1.c 0 (.slice spb nb capb) rfl; have f0 := A2.2.1.fz 0; have A3 : Hid (Dx w bx (.slice spn nn capn) (d ++ [UInt8.ofNat v]) (z2.setCell ⟨bx, 0, none⟩ (.slice spn nn capn))) := Dx.put A2.1 A2.2.1 K.out.ne K.out.gb A2.2.2.1 A2.2.2.2 rfl; clear A A2)
            | (go_at_call 69; refine (hN _).mono ?_; rintro e z ⟨rfl, hz⟩; replace hz := hz.symm; subst hz))
          go_roundw
          case rel => exact ⟨p1, p1 + 1, _, d ++ [UInt8.ofNat v], _, rfl, rfl, hlt'.out.1, by simp, hsn', A3.out⟩
          case measure => have := hlt'.out; simp [intOf]; omega
      · have hpe : p1 = m := by omega
        have hall : Hid (datW ws.tail = some d) := by
          show _ = _
          have h := hd.out
          rwa [List.take_of_length_le (by rw [List.length_tail, hm.out]; omega)] at h
        obtain ⟨spb, capb, rfl, _, _, _, _⟩ := K.out.own.open kU.len
        obtain ⟨nb, hnb⟩ : ∃ n, Hid (d.length = n) := ⟨_, (rfl : d.length = _)⟩
        rw [hnb.out] at K
        obtain ⟨gt, hgt⟩ : ∃ b, decide ((1 : Int) < (m : Int)) = b := ⟨_, rfl⟩
        have hgt' : Hid (decide (1 < m) = gt) := by show _ = _; rw [← hgt]; congr 1; simp; omega
        clear hlt hp1
        subst hpe
        go_wp2_with (first
          | ((with_reducible refine at_st rtI w.heap.size it0 (it4 (.slice spb nb capb) ⟨#[]⟩ ⟨#[]⟩ 0) ?_ ?_ ?_ ?_ (.tmp 2) (.tmp 68) ?_ ?_ ?_ ?_ ?_); exact K.out.r; rfl; rfl; exact it4_one _ _ _ ⟨#[]⟩ ⟨#[]⟩ 0; rfl; rfl; rfl; rfl; intro y9 hw9)
          | ((with_reducible refine at_load rtI bx (it4 (.slice spb nb capb) ⟨#[]⟩ ⟨#[]⟩ 0) ?_ ?_ (.tmp 7) ?_ ?_ ?_ ?_); exact K.out.x; rfl; kernel_rfl; rfl; rfl))
        refine ret_two (v := .bool gt) rtI rfl rfl rfl hw9.out.1 rfl rfl ?_
        rw [hall.out]
        refine ⟨_, by rw [hgt'.out], K.out.own.keepB fun q e => hw9.out.2.2 q fun e' => ?_, K.out.low.trans (hw9.out.2.1 _ (Nat.le_refl _))⟩
        obtain ⟨cs, hx'⟩ := K.out.own.ty q e
        subst e'
        exact Bx.unlike hx' K.out.r (by decide) rfl
  · have e1 : ((m : Int) == 1) = false := by simp; omega
    clear h1
    go_enter Tryd.func53, Tryd.ntmps53
    go_wp2_with (first
      | ((with_reducible refine gen_world (w.alloc (.cells it0 111)) (Fm w [(w.heap.size, it0, 111)]) hF.out ?_); intro y1 K1; have cS := hc0.out y1 K1.out.low))
    have K2 : Hid (Dx w y1.heap.size (.slice none 0 0) [] (y1.alloc (.cells #[.slice none 0 0, .string ⟨#[]⟩, .string ⟨#[]⟩, .int .u8 0] 111))) := Dx.start K1.out
    generalize y1.alloc (.cells #[.slice none 0 0, .string ⟨#[]⟩, .string ⟨#[]⟩, .int .u8 0] 111) = y2 at K2 ⊢
    clear cS
    generalize y1.heap.size = bx at K2 ⊢
    go_loopw [8] (fun fi wz => ∃ (p p1 : Nat) (vb : Value) (d : List UInt8) (u : World), u = wz ∧ p + 1 = p1 ∧ p1 ≤ m ∧ fi = .int .i64 (p1 : Int) ∧ Hid (datW (ws.tail.take p) = some d) ∧ Hid (Dx w bx vb d u)) (fun fi _ => (m - intOf fi).toNat)
    case atStart => exact ⟨0, 1, _, [], _, rfl, rfl, hm1.out, rfl, (rfl : datW [] = some []), K2.out⟩
    case round =>
      obtain ⟨p, p1, vb, d, u, rfl, hp1, hpm, rfl, hd, K⟩ := hrel
      by_cases hlt : p1 < m
      · have hpi : (p1 : Int) < m := by omega
        obtain ⟨s, hps⟩ : ∃ s, ws[p1]? = some s := ⟨_, List.getElem?_eq_getElem (by rw [hm.out]; exact hlt)⟩
        have hss := hsz.out s (List.mem_of_getElem? hps)
        have dw := hcq.out p1 s hps u K.out.low
        have hix9 := fun z => idxW (g := gs) (off := os) (len := m) (cap := cap) p1 z hlt
        have hN := fun z => rnumber_any z s 2 (by decide) (by omega)
        have hpt : ws.tail[p]? = some s := by rw [List.getElem?_tail, hp1]; exact hps
        have htk : ws.tail.take (p + 1) = ws.tail.take p ++ [s] := by rw [List.take_add_one, hpt]; rfl
        have hsn := datW_snoc (ws.tail.take p) s d hd.out
        rw [← htk] at hsn
        have hlt' : Hid (p1 < m ∧ p + 1 = p1) := ⟨hlt, hp1⟩
        rcases hv : numK s.data.toList 2 with _ | v
        · rw [hv] at hN hsn
          have hno : Hid (datW ws.tail = none) := by
            show _ = _
            rw [← List.take_append_drop (p + 1) ws.tail]
            exact datW_none _ _ hsn
          clear hv hsn htk hlt hps hpt hss hp1
          simp only [] at hN
          have dR := K.out.r
          go_wp2_with (first
            | ((with_reducible refine at_st rtI w.heap.size it0 it0 ?_ ?_ ?_ ?_ (.tmp 2) (.tmp 60) ?_ ?_ ?_ ?_ ?_); exact dR; rfl; rfl; exact it4_one _ _ _ ⟨#[]⟩ ⟨#[]⟩ 0; rfl; rfl; rfl; rfl; intro y9 hw9)
            | (go_at_call 69; refine (hN _).mono ?_; rintro e z ⟨rfl, hz⟩; replace hz := hz.symm; subst hz))
          refine ret_two (v := .bool false) rtI rfl rfl rfl hw9.out.1 rfl rfl ?_
          rw [hno.out]
          exact ⟨rfl, K.out.low.trans (hw9.out.2.1 _ (Nat.le_refl _))⟩
        · rw [hv] at hN hsn
          have hv6 := num2_lt hv
          have hsn' : Hid (datW (ws.tail.take p1) = some (d ++ [UInt8.ofNat v])) := by show _ = _; rw [← hlt'.out.2]; exact hsn
          have hvU : Hid ((UInt8.ofNat v).toNat = v) := by show _ = _; simp; omega
          have hvi : (v : Int) < 256 := by omega
          have hv0 : ¬ ((v : Int) < 0) := by omega
          have hcv : ∀ z, (convert 3 5 (.int .i64 (v : Int))).run Tryd.prog z = .ok (.int .u8 (v : Int)) z := fun z => by go_simp; rw [IntKind.wrap_u8]; omega
          have hln : Hid (d.length ≤ 4294967290) := by
            show _ ≤ _
            rw [datW_len _ d hd.out, List.length_take]
            omega
          obtain ⟨spb, capb, rfl, _, _, _, _⟩ := K.out.own.open kU.len
          obtain ⟨nb, hnb⟩ : ∃ n, Hid (d.length = n) := ⟨_, (rfl : d.length = _)⟩
          rw [hnb.out] at K
          clear hv hsn htk hlt hps hpt hss hv6 hp1
          simp only [] at hN
          have dB := K.out.x.c 0 (.slice spb nb capb) rfl
          go_wp2_with (first
            | (at_builtin; refine at_appL kU rfl (.tmp 62) (.tmp 65) rfl w.heap.size (.slice spb nb capb) d rfl (K.out.own.alloc _) u.heap.size (UInt8.ofNat v) rfl ?_ ?_ ?_ ?_; (show Bx _ _ (cU (UInt8.ofNat v)).toArray _; unfold cU byV; rw [hvU.out]; exact alloc_last' u _); (have := hln.out; omega); (have := K.out.low.size; simp; omega); intro v' z2 A; have A2 := (K.out.alloc _).app ⟨A.out.own, A.out.new, A.out.cu⟩; obtain ⟨spn, capn, hv', _, _, _, _⟩ := A2.2.2.1.open kU.len; obtain ⟨nn, hnn⟩ : ∃ n, Hid ((d ++ [UInt8.ofNat v]).length = n) := ⟨_, (rfl : (d ++ [UInt8.ofNat v]).length = _)⟩; rw [hnn.out] at hv'; subst hv'; have d0 := A2.2.1.c 0 (.slice spb nb capb) rfl; have f0 := A2.2.1.fz 0; have A3 : Hid (Dx w bx (.slice spn nn capn) (d ++ [UInt8.ofNat v]) (z2.setCell ⟨bx, 0, none⟩ (.slice spn nn capn))) := Dx.put A2.1 A2.2.1 K.out.ne K.out.gb A2.2.2.1 A2.2.2.2 rfl; clear A A2)
            | (go_at_call 69; refine (hN _).mono ?_; rintro e z ⟨rfl, hz⟩; replace hz := hz.symm; subst hz))
          go_roundw
          case rel => exact ⟨p1, p1 + 1, _, d ++ [UInt8.ofNat v], _, rfl, rfl, hlt'.out.1, by simp, hsn', A3.out⟩
          case measure => have := hlt'.out; simp [intOf]; omega
      · have hpe : p1 = m := by omega
        have hall : Hid (datW ws.tail = some d) := by
          show _ = _
          have h := hd.out
          rwa [List.take_of_length_le (by rw [List.length_tail, hm.out]; omega)] at h
        obtain ⟨spb, capb, rfl, _, _, _, _⟩ := K.out.own.open kU.len
        obtain ⟨nb, hnb⟩ : ∃ n, Hid (d.length = n) := ⟨_, (rfl : d.length = _)⟩
        rw [hnb.out] at K
        obtain ⟨gt, hgt⟩ : ∃ b, decide ((1 : Int) < (m : Int)) = b := ⟨_, rfl⟩
        have hgt' : Hid (decide (1 < m) = gt) := by show _ = _; rw [← hgt]; congr 1; simp; omega
        clear hlt hp1
        subst hpe
        go_wp2_with (first
          | ((with_reducible refine at_st rtI w.heap.size it0 (it4 (.slice spb nb capb) ⟨#[]⟩ ⟨#[]⟩ 0) ?_ ?_ ?_ ?_ (.tmp 2) (.tmp 68) ?_ ?_ ?_ ?_ ?_); exact K.out.r; rfl; rfl; exact it4_one _ _ _ ⟨#[]⟩ ⟨#[]⟩ 0; rfl; rfl; rfl; rfl; intro y9 hw9)
          | ((with_reducible refine at_load rtI bx (it4 (.slice spb nb capb) ⟨#[]⟩ ⟨#[]⟩ 0) ?_ ?_ (.tmp 7) ?_ ?_ ?_ ?_); exact K.out.x; rfl; kernel_rfl; rfl; rfl))
        refine ret_two (v := .bool gt) rtI rfl rfl rfl hw9.out.1 rfl rfl ?_
        rw [hall.out]
        refine ⟨_, by rw [hgt'.out], K.out.own.keepB fun q e => hw9.out.2.2 q fun e' => ?_, K.out.low.trans (hw9.out.2.1 _ (Nat.le_refl _))⟩
        obtain ⟨cs, hx'⟩ := K.out.own.ty q e
        subst e'
        exact Bx.unlike hx' K.out.r (by decide) rfl
end Go.Proofs.YthaijjehplomfaaDoor

namespace Go.Proofs.YthaijjehplomfaaDoor
open Go Go.RowKit
set_option linter.unusedVariables false
set_option maxHeartbeats 1000000
set_option maxRecDepth 20000

/-- The address of the first label of that name. -/
def lookN : List (ByteArray × Nat) → ByteArray → Option Nat
  | [], _ => none
  | x :: r, s => if x.1 = s then some x.2 else lookN r s
theorem lookN_drop (s : ByteArray) : ∀ (j : Nat) (l : List (ByteArray × Nat)), (∀ j' x, j' < j → l[j']? = some x → x.1 ≠ s) → lookN l s = lookN (l.drop j) s := by
  intro j
  induction j with
  | zero => intro l _; rfl
  | succ j ih =>
    intro l h
    cases l with
    | nil => rfl
    | cons x r =>
      have hx : x.1 ≠ s := h 0 x (by omega) rfl
      show (if x.1 = s then some x.2 else lookN r s) = lookN (r.drop j) s
      rw [if_neg hx]
      exact ih r fun j' y hj hy => h (j' + 1) y (by omega) hy
theorem lookN_at {l : List (ByteArray × Nat)} {s : ByteArray} {j : Nat} {x : ByteArray × Nat} (h : ∀ j' x, j' < j → l[j']? = some x → x.1 ≠ s) (hj : l[j]? = some x) (hx : x.1 = s) : lookN l s = some x.2 := by
  rw [lookN_drop s j l h, drop_one hj]
  show (if x.1 = s then some x.2 else _) = _
  rw [if_pos hx]
theorem lookN_no {l : List (ByteArray × Nat)} {s : ByteArray} (h : ∀ j' x, j' < l.length → l[j']? = some x → x.1 ≠ s) : lookN l s = none := by
  rw [lookN_drop s l.length l h, List.drop_length]
  rfl
theorem idxI (g off len cap k : Nat) (h : k < len) (v : World) : (Instr.indexAt 85 (.slice (some ⟨g, off, none⟩) len cap) (.int .i64 (k : Int))).run Tryd.prog v = .ok (.pointer (some ⟨g, off + k, none⟩)) v := by
  have := idxP (P := Tryd.prog) (g := g) (off := off) (len := len) (cap := cap) Tryd.underlying85 (s := 1) (by kernel_rfl) .i64 k v h
  rw [Nat.mul_one] at this
  exact this
theorem cell_of {α : Type} {c : α → Value} {y : World} {sp : Option Addr} {l : List α} (h : LiesL 1 (fun a => [c a]) y sp l) (j : Nat) (a : α) (hj : l[j]? = some a) : ∃ g o, sp = some ⟨g, o, none⟩ ∧ y.cell? ⟨g, o + j, none⟩ = some (c a) := by
  obtain ⟨g, o, e, k⟩ := h j a hj
  refine ⟨g, o, e, ?_⟩
  have := k 0 (c a) rfl
  rw [Nat.mul_one, Nat.add_zero] at this
  exact this
def lookV (o : Option Nat) : Int := match o with | none => -1 | some a => (a : Int)
theorem rlabel_any (y : World) (P n cn ca : Nat) (sn sa : Option Addr) (l : List (ByteArray × Nat)) (name : ByteArray) (hl : Hid (l.length = n)) (hn : n ≤ 100000)
    (c1 : y.cell? ⟨P, 1, none⟩ = some (.slice sn n cn)) (c2 : y.cell? ⟨P, 2, none⟩ = some (.slice sa n ca))
    (hN : Hid (LiesL 1 (fun s => [Value.string s]) y sn (l.map (·.1)))) (hA : Hid (LiesL 1 (fun a : Nat => [Value.int .i64 (a : Int)]) y sa (l.map (·.2)))) :
    Calls Tryd.prog 35 #[.pointer (some ⟨P, 0, none⟩), .string name] y fun e w' => e = .returned (.int .i64 (lookV (lookN l name))) ∧ w' = y := by
  obtain ⟨R, hR⟩ : ∃ R : Int, Hid (lookV (lookN l name) = R) := ⟨_, (rfl : lookV (lookN l name) = _)⟩
  rw [hR.out]
  have hni : Hid ((n : Int) ≤ 100000) := by show _ ≤ _; omega
  clear hn
  go_enter Tryd.func35, Tryd.ntmps35
  go_wp2
  go_loopw [5] (fun fi wz => ∃ (j : Nat), wz = y ∧ j ≤ n ∧ fi = .int .i64 (j : Int) ∧ Hid (∀ j' x, j' < j → l[j']? = some x → x.1 ≠ name)) (fun fi _ => (n - intOf fi).toNat)
  case atStart => exact ⟨0, rfl, by omega, rfl, fun j' x h => by omega⟩
  case round =>
    obtain ⟨j, rfl, hj, rfl, J⟩ := hrel
    have hni' : (n : Int) ≤ 100000 := hni.out
    by_cases hlt : j < n
    · have hji : (j : Int) < n := by omega
      obtain ⟨x, hx⟩ : ∃ x, l[j]? = some x := ⟨_, List.getElem?_eq_getElem (by rw [hl.out]; exact hlt)⟩
      obtain ⟨g1, o1, rfl, d1⟩ := cell_of hN.out j x.1 (by rw [List.getElem?_map, hx]; rfl)
      obtain ⟨g2, o2, rfl, d2⟩ := cell_of hA.out j x.2 (by rw [List.getElem?_map, hx]; rfl)
      have ix1 := fun v => idxW (g := g1) (off := o1) (len := n) (cap := cn) j v hlt
      have ix2 := fun v => idxI g2 o2 n ca j hlt v
      have hlt' : Hid (j < n) := hlt
      by_cases he : x.1 = name
      · have a1 : (x.1.toList == name.toList) = true := by rw [toList_eq, toList_eq, he]; simp
        have hr : Hid ((x.2 : Int) = R) := by show _ = _; rw [← hR.out, lookN_at J.out hx he]; rfl
        obtain ⟨s1, s2⟩ := x
        clear hlt he hx
        go_wp2
        go_ret
        exact ⟨by rw [← hr.out]; rfl, rfl⟩
      · have a1 : (x.1.toList == name.toList) = false := by
          rw [toList_eq, toList_eq, beq_eq_false_iff_ne]
          exact fun h => he (bytes_eq h)
        have J2 : Hid (∀ j' x, j' < j + 1 → l[j']? = some x → x.1 ≠ name) := fun j' x' h1 h2 => by
          rcases Nat.lt_or_ge j' j with h | h
          · exact J.out j' x' h h2
          · rw [show j' = j by omega, hx] at h2
            injection h2 with h2
            rw [← h2]
            exact he
        obtain ⟨s1, s2⟩ := x
        clear hlt he hx
        go_wp2
        go_roundw
        case rel => exact ⟨j + 1, by first | rfl | trivial, hlt'.out, by simp, J2⟩
        case measure => have := hlt'.out; simp [intOf]; omega
    · have hje : j = n := by omega
      have fin : Hid (-1 = R) := by show _ = _; rw [← hR.out, lookN_no (by rw [hl.out, ← hje]; exact J.out)]; rfl
      clear hlt
      subst hje
      go_wp2
      go_ret
      exact ⟨by rw [← fin.out]; rfl, rfl⟩
end Go.Proofs.YthaijjehplomfaaDoor
