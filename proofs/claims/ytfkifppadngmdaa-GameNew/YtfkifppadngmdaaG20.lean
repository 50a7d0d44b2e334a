/- A game that is worked on: the page cleared, calls and returns, bytes stored and filled. -/
import Derived.Test.YtfkifppadngmdaaG19
import Derived.Lib.SliceRun
namespace Go.Proofs.Ytfkifppadngmdaa
open Go Go.RowKit Go.Shelf
set_option linter.unusedVariables false
set_option maxHeartbeats 1000000
set_option maxRecDepth 20000

/-- Its page's block. -/
theorem PB.page {B : Nat} {w : World} {b : Nat} {g : Gm} {o : Od} {f : Fo} {d : Fd} (h : PB B w b g o f d) : ∃ (gP cP : Nat) (cur : Array Value), w.cell? ⟨b, 21, none⟩ = some (.slice (some ⟨gP, 0, none⟩) 256 cP) ∧ Bx w gP cur 5 ∧ cur.size = cP ∧ 256 ≤ cP ∧ cP ≤ maxLen ∧ B ≤ gP ∧ cur.toList.take 256 = g.pg.map byV ∧
    ∀ (y : World) (cur' : Array Value) (m : List UInt8), Bx y gP cur' 5 → cur'.size = cP → cur'.toList.take 256 = m.map byV → m.length = 256 → (∀ q, q ≠ gP → y.heap[q]? = w.heap[q]?) → Below B w y → PB B y b { g with pg := m } o f d := by
  have hm := may_iff.1 h.may
  obtain ⟨⟨C, vS, vP, vM, sB, cap, hx, e, h1, h2, h3, h4, h5, h6⟩, h7, h8, h9, h10, h11, h12⟩ := h
  obtain ⟨hl, hor⟩ := h2
  rcases hor with ⟨rfl, hn0⟩ | ⟨gP, cP, cur, rfl, hbg, hg, hnc, hcm, hcs, htake⟩
  · omega
  · rw [hm.1] at hnc htake h4 e
    rw [Nat.mul_one] at hcs htake
    refine ⟨gP, cP, cur, hx.c 21 _ (by rw [e]; rfl), hg, hcs, hnc, hcm, hbg, by rw [htake, rowB_eq], fun y cur' m k1 k2 k3 k4 k5 k6 => ?_⟩
    have hne : ∀ q cs, Bx w q cs 54 → q ≠ gP := fun q cs k => (Bx.unlike k hg (by decide))
    refine ⟨⟨C, vS, .slice (some ⟨gP, 0, none⟩) 256 cP, vM, sB, cap, (k5 b (hne b C hx)).trans hx, e, ?_, ?_, ?_, h4, lb_low h5 h6 k6, h6⟩, h7, ⟨h8.v, h8.i, h8.pc, h8.st⟩, ?_, h10, h11, h12⟩
    · exact h1.keepB fun q hq => k5 q (by obtain ⟨cs, k⟩ := h1.ty q hq; exact Bx.unlike k hg (by decide))
    · refine ⟨by rw [rowL_len kByte.len], .inr ⟨gP, cP, cur', by rw [k4], hbg, k1, by rw [k4]; exact hnc, hcm, by rw [k2, Nat.mul_one], by rw [k4, Nat.mul_one, k3, rowB_eq]⟩⟩
    · exact h3.keepB fun q hq => k5 q (fun eq => h4 gP rfl (by rw [← eq]; exact hq))
    · exact may_iff.2 ⟨k4, hm.2⟩
theorem m_clear_any {B : Nat} (w : World) (b : Nat) (g : Gm) (o : Od) (f : Fo) (d : Fd) (h : PB B w b g o f d) (ho : o.op = 2) : Calls Try.prog 19 #[.pointer (some ⟨b, 0, none⟩)] w (MdE B w b o f d (doG g o f d)) := by
  have eD : doG g o f d = ({ g with pg := List.replicate 256 0 }, 1) := by unfold doG; rw [ho]; rfl
  rw [eD]
  obtain ⟨gP, cP, cur, c21, hX, hcs, hcP, hmx, hBg, htk, hput⟩ := h.page
  have hcl : ∀ ty, (Builtin.clear_ #[22] ty #[.slice (some ⟨gP, 0, none⟩) 256 cP]).run Try.prog w = .ok (.tuple #[]) (w.setCells gP 0 (List.replicate 256 (.int .u8 0))) := fun ty => by
    refine Lib.run_clear_slice w 22 5 ty (.int .u8 0) Try.underlying22 (fun _ => by kernel_rfl) rfl rfl gP 0 256 cP (by decide) (fun j hj => ?_) (fun j hj => hX.fz _)
    rw [hX.c (0 + j) (cur[0 + j]'(by omega)) (Array.getElem?_eq_getElem (by omega))]
    rfl
  have fin : Hid (Below B w (w.setCells gP 0 (List.replicate 256 (.int .u8 0))) ∧ PB B (w.setCells gP 0 (List.replicate 256 (.int .u8 0))) b { g with pg := List.replicate 256 0 } o f d) := by
    have hb := setCellsL_below B gP hBg (List.replicate 256 (.int .u8 0)) 0 w
    refine ⟨hb, hput _ _ _ (heapL_setCells gP _ _ 0 w cur hX (by rw [List.length_replicate]; omega)) ?_ ?_ (List.length_replicate ..) (fun q hq => setCellsL_other gP q hq _ _ _) hb⟩
    · rw [List.size_toArray, length_splice _ _ _ (by rw [List.length_replicate, Array.length_toList]; omega), Array.length_toList, hcs]
    · rw [show ∀ l : List Value, l.toArray.toList = l from fun _ => rfl]
      unfold splice
      rw [List.take_zero, List.nil_append, List.take_append_of_le_length (by rw [List.length_replicate]; exact Nat.le_refl _), List.take_of_length_le (by rw [List.length_replicate]; exact Nat.le_refl _), List.map_replicate]
      rfl
  obtain ⟨W, hW⟩ : ∃ W, w.setCells gP 0 (List.replicate 256 (.int .u8 0)) = W := ⟨_, rfl⟩
  rw [hW] at hcl fin
  obtain ⟨R, hR⟩ : ∃ R, { g with pg := List.replicate 256 0 } = R := ⟨_, rfl⟩
  rw [hR]
  rw [hR] at fin
  clear eD hX hcs hcP hmx hBg htk hput hW h ho hR
  go_enter Try.func19, Try.ntmps19
  go_wp2
  go_ret
  exact ⟨rfl, fin.out.1, fun _ => fin.out.2⟩
/-- Another stack. -/
theorem PB.putS {B : Nat} {w y : World} {b : Nat} {g : Gm} {o : Od} {f : Fo} {d : Fd} (h : PB B w b g o f d) (v : Value) (st : List Nat) (hs : ∀ s ∈ st, s < 65536) (hl : st.length ≤ 12) (hy : OwnL 26 1 cW B y v st) (hk : ∀ q, q < w.heap.size → (∀ cs, ¬ Bx w q cs 26) → y.heap[q]? = w.heap[q]?) (hb : Below B w y) :
    PB B (y.setCell ⟨b, 18, none⟩ v) b { g with st := st } o f d ∧ Below B w (y.setCell ⟨b, 18, none⟩ v) := by
  have hm := may_iff.1 h.may
  obtain ⟨⟨C, vS, vP, vM, sB, cap, hx, e, h1, h2, h3, h4, h5, h6⟩, h7, h8, h9, h10, h11, h12⟩ := h
  have hlt := heap_lt hx
  have hx2 : Bx y b C 54 := (hk b hlt (fun cs k => absurd rfl (Bx.unlike k hx (by decide)))).trans hx
  have hl2 : Below B w (y.setCell ⟨b, 18, none⟩ v) := hb.trans ((Below.refl B y).setCell (p := ⟨b, 18, none⟩) h7 v)
  have ho : ∀ q, q ≠ b → (y.setCell ⟨b, 18, none⟩ v).heap[q]? = y.heap[q]? := fun q hq => heap_setCell_other y ⟨b, 18, none⟩ q v hq
  refine ⟨⟨⟨C.setIfInBounds 18 v, v, vP, vM, sB, cap, heap_setCell_same y b 18 C _ v hx2, by rw [e]; rfl, ?_, ?_, ?_, h4, lb_low h5 h6 hl2, h6⟩, h7, ⟨h8.v, h8.i, h8.pc, hs⟩, ?_, h10, h11, h12⟩, hl2⟩
  · exact hy.keepB fun q hq => ho q (by obtain ⟨cs, k1⟩ := hy.ty q hq; exact Bx.unlike k1 hx2 (by decide))
  · exact h2.keepB fun q hq => by
      obtain ⟨cs, k1⟩ := h2.ty q hq
      exact (ho q (Bx.unlike k1 hx (by decide))).trans (hk q (h2.lt q hq).2 (fun cs' k => absurd rfl (Bx.unlike k k1 (by decide))))
  · exact h3.keepB fun q hq => by
      obtain ⟨cs, k1⟩ := h3.ty q hq
      exact (ho q (Bx.unlike k1 hx (by decide))).trans (hk q (h3.lt q hq).2 (fun cs' k => absurd rfl (Bx.unlike k k1 (by decide))))
  · exact may_iff.2 ⟨hm.1, hm.2.1, hl⟩
theorem PB.stk {B : Nat} {w : World} {b : Nat} {g : Gm} {o : Od} {f : Fo} {d : Fd} (h : PB B w b g o f d) : ∃ (sp : Option Addr) (cS : Nat), w.cell? ⟨b, 18, none⟩ = some (.slice sp g.st.length cS) ∧ OwnL 26 1 cW B w (.slice sp g.st.length cS) g.st := by
  obtain ⟨C, vS, vP, vM, sB, cap, hx, e, h1, h2, h3, h4, h5, h6⟩ := h.c
  obtain ⟨sp, cS, ev, _⟩ := OwnL.open kWord.len h1
  refine ⟨sp, cS, hx.c 18 _ ?_, by rw [← ev]; exact h1⟩
  rw [e, ev]
  rfl
theorem own_take {B : Nat} {w : World} {gS n k cS : Nat} {l : List Nat} (h : OwnL 26 1 cW B w (.slice (some ⟨gS, 0, none⟩) n cS) l) (hk : k ≤ l.length) : OwnL 26 1 cW B w (.slice (some ⟨gS, 0, none⟩) k cS) (l.take k) := by
  have hl : (l.take k).length = k := by simp; omega
  obtain ⟨h0, hor⟩ := h
  rcases hor with ⟨e, _⟩ | ⟨g', c', cur, e, h1, h2, h3, h4, h5, h6⟩
  · cases e
  · injection e with e1 e2 e3
    injection e1 with e1
    injection e1 with e1 _ _
    subst e1
    subst e3
    refine ⟨by rw [rowL_len kWord.len], .inr ⟨gS, cS, cur, by rw [hl], h1, h2, by rw [hl]; omega, h4, h5, ?_⟩⟩
    rw [hl, Nat.mul_one]
    rw [Nat.mul_one] at h6
    have : cur.toList.take k = (cur.toList.take l.length).take k := by rw [List.take_take, Nat.min_eq_left hk]
    rw [this, h6, rowW_eq, rowW_eq, List.map_take]
theorem slH (g n cap k : Nat) (h : k ≤ cap) (hc : 0 < cap) (v : World) : (Instr.sliceAt 27 (.slice (some ⟨g, 0, none⟩) n cap) none (some (.int .i64 (k : Int))) none).run Try.prog v = .ok (.slice (some ⟨g, 0, none⟩) k cap) v := by
  have hu : Try.prog.underlying 27 = some (.slice (Try.prog.elem 27)) := by kernel_rfl
  rw [run_sliceAt_slice v _ _ _ _ _ hu, run_slice_h v _ _ _ _ hu .i64 (k : Int) (by omega) (by omega)]
  have hz : ∀ v, (sizeOf (Try.prog.elem 27)).run Try.prog v = .ok 1 v := fun v => by kernel_rfl
  rw [hz]
  simp only [Result.andThen_ok, sliced, Int.toNat_natCast]
  rw [if_neg (by omega)]
  simp [Addr.add_lit]
theorem at_slH {ops : Array Oper} {rest : List Oper} {o : Oper} {a : Act} {w : World} {Q : Exit → Act → World → Prop} (t : TypeId) (x hi : Operand) (X L v : Value) (hg : Region.wanted o (yielded ops a.tmps) = true) (ho : o.op = .slice t x none (some hi) none) (hx : a.eval x = X) (hl : a.eval hi = L)
    (h : ∀ w, (Instr.sliceAt t X none (some L) none).run Try.prog w = .ok v w) (k : wpList Try.prog ops Q rest (a.put o.dst v) w) : wpList Try.prog ops Q (o :: rest) a w := by
  refine at_op v hg ?_ k
  unfold execOp
  simp only [ho, hx, hl, Option.map_some, Option.map_none, Sem.run_bind, h, Result.andThen_ok, Sem.run_pure]
theorem m_back_any {B : Nat} (w : World) (b : Nat) (g : Gm) (o : Od) (f : Fo) (d : Fd) (h : PB B w b g o f d) (ho : o.op = 3) : Calls Try.prog 20 #[.pointer (some ⟨b, 0, none⟩)] w (MdE B w b o f d (doG g o f d)) := by
  rw [do_ret g o f d ho]
  have h12 := (may_iff.1 h.may).2.2
  obtain ⟨sp, cS, c18, hO⟩ := h.stk
  have z18 := h.fz 18
  obtain ⟨n, hn⟩ : ∃ n, g.st.length = n := ⟨_, rfl⟩
  rw [hn] at c18 hO h12
  rw [hn]
  by_cases c : n = 0
  · rw [if_pos c]
    have q1 : ((n : Int) == 0) = true := by simp; omega
    clear hO h ho hn h12 z18
    go_enter Try.func20, Try.ntmps20
    go_wp2
    go_ret
    exact ⟨rfl, Below.refl _ _, fun e => by cases e⟩
  · rw [if_neg c]
    have q1 : ((n : Int) == 0) = false := by simp; omega
    obtain ⟨k, hk⟩ : ∃ k, n - 1 = k := ⟨_, rfl⟩
    rw [hk]
    have q2 : (n : Int) - 1 = (k : Int) := by omega
    have i1 : (k : Int) ≤ 12 := by omega
    have i2 : (n : Int) ≤ 12 := by omega
    have i3 : (k : Int) < (n : Int) := by omega
    obtain ⟨_, _, e0, hl, h0, _, hcap⟩ := OwnL.open kWord.len hO
    injection e0 with e1 e2 e3
    subst e1
    subst e3
    obtain ⟨gS, oS, rfl⟩ := lw_some hl (by omega)
    obtain rfl : oS = 0 := (h0 _ rfl).1
    have ca := lw_at hl k (by omega)
    rw [Nat.zero_add] at ca
    have ia := fun v => idxW .i64 gS 0 n cS k v (by omega)
    simp only [Nat.zero_add] at ia
    have hsl := slH gS n cS k (by omega) (by omega)
    have ka : g.st.getD k 0 < 65536 := h.ok.st _ (by rw [List.getD_eq_getElem?_getD, List.getElem?_eq_getElem (by omega)]; exact List.getElem_mem _)
    have fin := h.putS (y := w) (.slice (some ⟨gS, 0, none⟩) k cS) (g.st.take k) (fun s hs => h.ok.st s (List.mem_of_mem_take hs)) (by simp; omega) (own_take hO (by omega)) (fun _ _ _ => rfl) (Below.refl _ _)
    have kl := leadTo_any _ b _ o f d fin.1 (g.st.getD k 0) ka
    obtain ⟨A, hA⟩ : ∃ A, g.st.getD k 0 = A := ⟨_, rfl⟩
    rw [hA] at ca kl
    rw [hA]
    obtain ⟨R, hR⟩ : ∃ R, { g with pc := A, st := g.st.take k } = R := ⟨_, rfl⟩
    rw [hR]
    have fb : Hid (Below B w (w.setCell ⟨b, 18, none⟩ (.slice (some ⟨gS, 0, none⟩) k cS))) := fin.2
    have kl2 : Calls Try.prog 54 #[.pointer (some ⟨b, 0, none⟩), .int .u16 (A : Int)] (w.setCell ⟨b, 18, none⟩ (.slice (some ⟨gS, 0, none⟩) k cS)) fun e w' => e = .returned (.int .u8 1) ∧ Below B (w.setCell ⟨b, 18, none⟩ (.slice (some ⟨gS, 0, none⟩) k cS)) w' ∧ PB B w' b R o f d := by
      rw [← hR]
      exact kl
    clear hO h ho hn h12 fin kl hA hR hl h0 hcap ka hk e2
    go_enter Try.func20, Try.ntmps20
    go_wp2_with (first
      | ((with_reducible refine at_slH 27 (.tmp 32) (.tmp 33) (.slice (some ⟨gS, 0, none⟩) n cS) (.int .i64 (k : Int)) (.slice (some ⟨gS, 0, none⟩) k cS) ?_ ?_ ?_ ?_ hsl ?_); rfl; rfl; rfl; rfl)
      | (go_at_call 54; refine kl2.mono ?_; rintro e y ⟨rfl, H⟩; have K : Hid (Below B w y ∧ PB B y b R o f d) := ⟨fb.out.trans H.1, H.2⟩))
    go_ret
    exact ⟨rfl, K.out.1, fun _ => K.out.2⟩
end Go.Proofs.Ytfkifppadngmdaa
