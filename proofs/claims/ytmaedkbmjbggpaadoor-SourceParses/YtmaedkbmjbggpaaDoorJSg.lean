/- The document's reading of bytes. -/
import Derived.Test.YtmaedkbmjbggpaaDoorJNm
import Derived.Test.YtmaedkbmjbggpaaDoorJNp
import Derived.Test.YtmaedkbmjbggpaaDoorJSz
import Derived.Test.YtmaedkbmjbggpaaDoorJXpn
namespace Go.Proofs.YtmaedkbmjbggpaaDoor
open Go Go.RowKit
set_option linter.unusedVariables false
set_option maxHeartbeats 3000000
set_option maxRecDepth 20000

/-- An item that grows in a box, an empty one ahead of it. -/
structure Dk (w : World) (sp : Option Addr) (cap : Nat) (l : List UInt8) (y : World) : Prop where
  b0 : Bx y w.heap.size (i6 z6) 39
  b1 : Bx y (w.heap.size + 1) (i6 (datR sp l.length cap)) 39
  own : OwnL 5 1 cU w.heap.size y (.slice sp l.length cap) l
  low : Below w.heap.size w y
theorem Dk.below {w : World} {sp : Option Addr} {cap : Nat} {l : List UInt8} {y z : World} (h : Dk w sp cap l y) (hb : Below y.heap.size y z) : Dk w sp cap l z :=
  ⟨(hb.block _ (heap_lt h.b0)).trans h.b0, (hb.block _ (heap_lt h.b1)).trans h.b1, h.own.below hb, h.low.trans (hb.mono h.low.size)⟩
theorem own_apart {B : Nat} {w : World} {v : Value} {l : List UInt8} {b t : Nat} {cs : Array Value} (h : OwnL 5 1 cU B w v l) (hx : Bx w b cs t) (ht : t ≠ 5) (j : Nat) : ¬ (v.ownBlock = some b ∧ l.length * 1 ≤ j) := fun e => by
  obtain ⟨cs', hb⟩ := h.ty b e.1
  exact Bx.unlike hx hb ht rfl
theorem Dk.put {w : World} {sp : Option Addr} {cap : Nat} {l : List UInt8} {y z : World} {u : UInt8} {v' : Value} (h : Dk w sp cap l y) (o : Obj) (H : App1L 5 1 cU w.heap.size (.slice sp l.length cap) l u v' (y.alloc o) z) :
    ∃ sp' cap', v' = .slice sp' (l.length + 1) cap' ∧ Dk w sp' cap' (l ++ [u]) (z.setCell ⟨w.heap.size + 1, 5, none⟩ v') ∧ z.cell? ⟨w.heap.size + 1, 5, none⟩ = some (.slice sp l.length cap) ∧ z.frozen? ⟨w.heap.size + 1, 5, none⟩ = false := by
  have h1 := h.below (below1 y o)
  have c0 : Bx z w.heap.size (i6 z6) 39 := (H.cu.blk _ (heap_lt h1.b0) (own_apart h1.own h1.b0 (by decide))).trans h1.b0
  have c1 : Bx z (w.heap.size + 1) (i6 (datR sp l.length cap)) 39 := (H.cu.blk _ (heap_lt h1.b1) (own_apart h1.own h1.b1 (by decide))).trans h1.b1
  obtain ⟨sp', cap', e, _⟩ := H.own.open kU.len
  rw [List.length_append, List.length_singleton] at e
  subst e
  refine ⟨sp', cap', rfl, ⟨?_, ?_, ?_, ?_⟩, c1.c 5 _ rfl, c1.fz 5⟩
  · exact (heap_setCell_other z ⟨w.heap.size + 1, 5, none⟩ _ _ (by show w.heap.size ≠ w.heap.size + 1; omega)).trans c0
  · have := heap_setCell_same z (w.heap.size + 1) 5 _ 39 (.slice sp' (l.length + 1) cap') c1
    rw [List.length_append, List.length_singleton]
    exact this
  · have ho := H.own
    rw [show (.slice sp' (l.length + 1) cap' : Value) = .slice sp' (l ++ [u]).length cap' by simp] at ho
    rw [show (.slice sp' (l.length + 1) cap' : Value) = .slice sp' (l ++ [u]).length cap' by simp]
    refine ho.keepB fun g hg => heap_setCell_other z ⟨w.heap.size + 1, 5, none⟩ g _ fun e => ?_
    obtain ⟨cs', hb⟩ := ho.ty g hg
    subst e
    exact Bx.unlike c1 hb (by decide) rfl
  · exact (h1.low.trans H.cu.low).trans ((Below.refl _ _).setCell (p := ⟨w.heap.size + 1, 5, none⟩) (by show w.heap.size ≤ w.heap.size + 1; omega) _)
/-- The item of a reader of the document: its bytes lie in what the reader made. -/
structure Rb (w : World) (r : Ri) (q : Pu) (w' : World) : Prop where
  e : r = q.ri r.sp r.cap
  l : LB8 w' r.sp q.b
  b : ∀ a, r.sp = some a → w.heap.size ≤ a.block ∧ a.block < w'.heap.size
theorem LB8.keepB {y z : World} {sp : Option Addr} {l : List UInt8} (h : LB8 y sp l) (hk : ∀ a, sp = some a → z.heap[a.block]? = y.heap[a.block]?) : LB8 z sp l := fun j b hj => by
  obtain ⟨g, o, e, c⟩ := h j b hj
  exact ⟨g, o, e, (World.cell?_of_block (w := y) (a := ⟨g, o + j, none⟩) (hk ⟨g, o, none⟩ e)).trans c⟩
/-- What a reader of the document leaves. -/
def RrE (w : World) (o : Option Pu) (e : Ending) (w' : World) : Prop := ∃ r : Ri, e = .returned (.tuple #[.agg (i6 r), .bool o.isSome]) ∧ Hid (Below w.heap.size w w' ∧ ∀ q, o = some q → Rb w r q w')
theorem RrE.flat {w : World} {r : Ri} {b : Bool} {e : Ending} {w' : World} (o : Option Pu) (he : e = .returned (.tuple #[.agg (i6 r), .bool b])) (hb : o.isSome = b) (hq : ∀ q, o = some q → q.b = [] ∧ r = q.ri none 0) (h : Below w.heap.size w w') : RrE w o e w' := by
  subst hb
  refine ⟨r, he, h, fun q e => ?_⟩
  obtain ⟨h1, h2⟩ := hq q e
  refine ⟨?_, ?_, ?_⟩
  · rw [h2]; rfl
  · rw [h1]
    intro j b hj
    simp at hj
  · rw [h2]
    intro a ha
    cases ha
theorem own_lb8 {B : Nat} {w : World} {sp : Option Addr} {n cap : Nat} {l : List UInt8} (h : OwnL 5 1 cU B w (.slice sp n cap) l) : LB8 w sp l := fun j b hj => by
  obtain ⟨sp', cap', e, hl, _⟩ := h.open kU.len
  injection e with e1 _ _
  subst e1
  obtain ⟨g, o, e2, hc⟩ := hl j b hj
  have := hc 0 (byV b) rfl
  rw [Nat.mul_one, Nat.add_zero] at this
  exact ⟨g, o, e2, this⟩
theorem built3 : Tryd.prog.built 39 [(0, .int .u8 3)] = some (i6 (datR none 0 0)) := by kernel_rfl
theorem mayI_dat (sp : Option Addr) (m cap : Nat) : mayI (datR sp m cap) = decide (1 ≤ m ∧ m ≤ 256) := by
  have e : mayI (datR sp m cap) = mayP ⟨3, E0, 0, E0, 0, List.replicate m 0⟩ := by
    have := mayI_ri ⟨3, E0, 0, E0, 0, List.replicate m 0⟩ sp cap
    rw [← this]
    unfold Pu.ri datR
    rw [List.length_replicate]
    rfl
  rw [e]
  have h2 := chk_data (List.replicate m ⟨#[48, 48]⟩)
  have h3 : dataO (List.replicate m ⟨#[48, 48]⟩) = some (List.replicate m 0) := by
    have hb : byteO ⟨#[48, 48]⟩ = some 0 := by decide +kernel
    induction m with
    | zero => rfl
    | succ m ih =>
      rw [List.replicate_succ, List.replicate_succ]
      unfold dataO
      rw [hb]
      simp only
      rw [ih (by have := mayI_ri ⟨3, E0, 0, E0, 0, List.replicate m 0⟩ sp cap; rw [← this]; unfold Pu.ri datR; rw [List.length_replicate]; rfl) (chk_data _)]
  unfold datO dataP at h2
  rw [h3] at h2
  simp only [Option.bind_some, chk, List.length_replicate] at h2
  by_cases h : 1 ≤ m ∧ m ≤ 256
  · rw [if_pos h] at h2
    by_cases h4 : mayP ⟨3, E0, 0, E0, 0, List.replicate m 0⟩ = true
    · rw [h4, decide_eq_true h]
    · rw [if_neg h4] at h2; cases h2
  · rw [if_neg h] at h2
    by_cases h4 : mayP ⟨3, E0, 0, E0, 0, List.replicate m 0⟩ = true
    · rw [if_pos h4] at h2; cases h2
    · rw [decide_eq_false h]
      simpa using h4
theorem mayI_addr (x : ByteArray) : mayI (addrR x) = isNm x := by
  unfold mayI addrR
  simp
  intro _
  rfl
theorem dataP_of {r : List ByteArray} {l : List UInt8} (h : dataO r = some l) : dataP r = if 1 ≤ l.length ∧ l.length ≤ 256 then some ⟨3, E0, 0, E0, 0, l⟩ else none := by unfold dataP; rw [h]
theorem dataP_no {r : List ByteArray} (h : dataO r = none) : dataP r = none := by unfold dataP; rw [h]
end Go.Proofs.YtmaedkbmjbggpaaDoor
/- The document's reading of bytes: the walk. -/
namespace Go.Proofs.YtmaedkbmjbggpaaDoor
open Go Go.RowKit
set_option linter.unusedVariables false
set_option maxHeartbeats 3000000
set_option maxRecDepth 20000

theorem ddata_any (w : World) (sp : Option Addr) (cap : Nat) (ws : List ByteArray) (hw : Hid (LiesT w sp ws)) (h1 : 1 ≤ ws.length) (hn : ws.length ≤ 1000001) (hsz : Hid (∀ x ∈ ws, x.size ≤ 1000000)) :
    Calls Tryd.prog 58 #[.slice sp ws.length cap] w (RrE w (dataP (ws.drop 1))) := by
  obtain ⟨n, hn'⟩ : ∃ n, ws.length = n := ⟨_, rfl⟩
  have hnn : Hid (ws.length = n) := hn'
  rw [hn'] at hn h1 ⊢
  have ni : (n : Int) ≤ 1000001 := by omega
  have F2 := Fm.two w #[.int .u8 0, .string ⟨#[]⟩, .int .i64 0, .string ⟨#[]⟩, .int .u8 0, .slice none 0 0] #[.int .u8 3, .string ⟨#[]⟩, .int .i64 0, .string ⟨#[]⟩, .int .u8 0, .slice none 0 0] 39 39
  have D0 : Hid (Dk w none 0 [] ((w.alloc (.cells #[.int .u8 0, .string ⟨#[]⟩, .int .i64 0, .string ⟨#[]⟩, .int .u8 0, .slice none 0 0] 39)).alloc (.cells #[.int .u8 3, .string ⟨#[]⟩, .int .i64 0, .string ⟨#[]⟩, .int .u8 0, .slice none 0 0] 39))) := ⟨F2.bx 0 _ _ _ rfl, F2.bx 1 _ _ _ rfl, OwnL.nil _ _, F2.low⟩
  have hd1 : Hid (1 ≤ n) := h1
  obtain ⟨P, hP⟩ : ∃ P, dataP (ws.drop 1) = P := ⟨_, rfl⟩
  have hP' : Hid (dataP (ws.drop 1) = P) := hP
  rw [hP]
  clear F2 hn' hP h1 hn
  go_enter Tryd.func58, Tryd.ntmps58
  go_wp2
  go_loopw [5] (fun t wz => ∃ (k : Nat) (p : Option Addr) (c : Nat) (l : List UInt8) (y : World), y = wz ∧ t = .int .i64 (k : Int) ∧ Hid (1 ≤ k ∧ k ≤ n ∧ l.length + 1 = k ∧ dataO ((ws.drop 1).take (k - 1)) = some l) ∧ Hid (Dk w p c l y)) (fun t _ => (n - intOf t).toNat)
  case atStart => exact ⟨1, none, 0, [], _, rfl, rfl, ⟨Nat.le_refl _, hd1.out, rfl, rfl⟩, D0⟩
  case round =>
    obtain ⟨k, p, c, l, y, rfl, rfl, J, K⟩ := hrel
    clear D0
    by_cases hlt : k < n
    · obtain ⟨x, hx⟩ : ∃ x, ws[k]? = some x := ⟨_, List.getElem?_eq_getElem (by rw [hnn.out]; exact hlt)⟩
      obtain ⟨g, rfl, hcx⟩ := hw.out k x hx
      have hcu : Hid (∀ u, Below w.heap.size w u → u.cell? ⟨g, k, none⟩ = some (.string x)) := fun u hu => (hu.cell (p := ⟨g, k, none⟩) (World.block_lt_of_cell? w _ hcx)).trans hcx
      have ik := fun v => idxT g n cap k hlt v
      have hki : (k : Int) < n := by omega
      have hlt' : Hid (k < n) := hlt
      have hxs := hsz.out x (List.mem_of_getElem? hx)
      have hdk : Hid ((ws.drop 1).take k = (ws.drop 1).take (k - 1) ++ [x]) := by
        show _ = _
        have h1 := J.out.1
        have e : (ws.drop 1)[k - 1]? = some x := by rw [List.getElem?_drop, show 1 + (k - 1) = k by omega]; exact hx
        have := List.take_add_one (l := ws.drop 1) (i := k - 1)
        rw [show k - 1 + 1 = k by omega, e] at this
        exact this
      have hsplit : Hid (ws.drop 1 = (ws.drop 1).take (k - 1) ++ x :: (ws.drop 1).drop k) := by
        show _ = _
        have h1 := J.out.1
        have e : (ws.drop 1)[k - 1]? = some x := by rw [List.getElem?_drop, show 1 + (k - 1) = k by omega]; exact hx
        have h2 := List.take_append_drop (k - 1) (ws.drop 1)
        have h3 : (ws.drop 1).drop (k - 1) = x :: (ws.drop 1).drop (k - 1 + 1) := by
          obtain ⟨h, e'⟩ := List.getElem?_eq_some_iff.1 e
          rw [List.drop_eq_getElem_cons h, e']
        rw [show k - 1 + 1 = k by omega] at h3
        rw [← h3, h2]
      have dx := hcu.out y K.out.low
      have si : (x.size : Int) ≤ 1000000 := by omega
      by_cases hz : x.size = 2
      · have q2 : ((x.size : Int) != 2) = false := by rw [bne_eq_false_iff_eq]; omega
        have hN := rnumber_any x y (by unfold maxLen; omega)
        by_cases he : numE x = 0
        · have hbo : byteO x = some (UInt8.ofNat (numV x).toNat) := by unfold byteO; rw [if_pos ⟨hz, he⟩]
          have hbd := numV_bd he
          rw [hz] at hbd
          have hback := numV_back he (by omega)
          rw [hz] at hback
          have hH := fun v => rhex_any (numV x) 2 v (by omega)
          rw [show ((2 : Nat) : Int) = 2 from rfl] at hback
          rw [hback] at hH
          have J2 : Hid (dataO ((ws.drop 1).take k) = some (l ++ [UInt8.ofNat (numV x).toNat])) := by
            show _ = _
            rw [hdk.out, dataO_snoc, J.out.2.2.2, hbo]
          have hbv := byV_of (numV x) hbd.1 hbd.2
          rw [he] at hN
          obtain ⟨V, hV⟩ : ∃ V, numV x = V := ⟨_, rfl⟩
          rw [hV] at hN hH J2 hbv hbd
          have v0 : 0 ≤ V := hbd.1
          have v1 : V < 256 := hbd.2
          obtain ⟨B, hB⟩ : ∃ B, UInt8.ofNat V.toNat = B := ⟨_, rfl⟩
          rw [hB] at J2 hbv
          have hbv' : Hid (byV B = .int .u8 V) := hbv
          have hll : Hid (l.length + 1 = k ∧ k ≤ 1000001) := ⟨J.out.2.2.1, by omega⟩
          replace hH : Hid _ := hH
          have qx := str_eq (rfl : x = x)
          clear hlt hx hcx hxs hdk hsplit hz he hbo hbd hback hV hB hbv
          go_wp2_with (go_at_call 59; refine hN.mono ?_; rintro e y1 ⟨rfl, hy1⟩; replace hy1 := hy1.symm; subst hy1)
          refine region_class_tail 10 (Dk w p c l) (by kernel_rfl) (by kernel_rfl) (K.out.below (below_drew (Below.refl _ _))) ?_
          simp only [List.take_succ_cons, List.take_zero, List.drop_succ_cons, List.drop_zero]
          with_reducible refine quiet_one (.int .i64 0) ?_ ?_ ?_
          · kernel_rfl
          · intro u hy
            go_simp
          with_reducible refine quiet_one (.bool false) ?_ ?_ ?_
          · kernel_rfl
          · intro u hy
            go_simp
          with_reducible refine quiet_one (.bool false) ?_ ?_ ?_
          · kernel_rfl
          · intro u hy
            go_simp
          with_reducible refine quiet_one (.int .i64 V) ?_ ?_ ?_
          · kernel_rfl
          · intro u hy
            go_simp
          with_reducible refine quiet_one (.string x) ?_ ?_ ?_
          · kernel_rfl
          · intro u hy
            have d := (hH.out u).mono fun e w' (h : _ ∧ _) => And.intro h.1 (hy.below h.2)
            go_simp
            all_goals exact d
          with_reducible refine quiet_one (.slice (some ⟨g, 0, none⟩) n cap) ?_ ?_ ?_
          · kernel_rfl
          · intro u hy
            go_simp
          with_reducible refine quiet_one (.int .i64 (k : Int)) ?_ ?_ ?_
          · kernel_rfl
          · intro u hy
            go_simp
          with_reducible refine quiet_one (.pointer (some ⟨g, k, none⟩)) ?_ ?_ ?_
          · kernel_rfl
          · intro u hy
            go_simp
          with_reducible refine quiet_one (.string x) ?_ ?_ ?_
          · kernel_rfl
          · intro u hy
            have dd := hcu.out u hy.low
            go_simp
          with_reducible refine quiet_one (.bool false) ?_ ?_ ?_
          · kernel_rfl
          · intro u hy
            go_simp
          refine wpQuiet_nil ?_
          intro z0 K0
          replace K0 : Hid _ := K0
          go_simp
          have e5 := K0.out.b1.c 5 _ rfl
          go_wp2_with (first
            | (at_builtin; refine at_appL kU rfl (.tmp 44) (.tmp 47) rfl w.heap.size (.slice p l.length c) l rfl (K0.out.own.alloc _) z0.heap.size B rfl ?_ ?_ ?_ ?_; (rw [show (cU B).toArray = #[.int .u8 V] from by unfold cU; rw [hbv'.out]]; exact one_bxL _ _ _); (have := hll.out; omega); (have := K0.out.low.size; simp; omega); intro va' y12 H12; obtain ⟨p', c', rfl, k2, f2, f3⟩ := K0.out.put _ H12.out; replace k2 : Hid _ := k2; clear H12))
          go_roundw
          case rel => exact ⟨k + 1, p', c', l ++ [B], _, rfl, by simp, ⟨by omega, hlt'.out, by have := hll.out; simp; omega, J2.out⟩, k2⟩
          case measure => have := hlt'.out; simp [intOf]; omega
        · have fin : Hid (P = none) := by
            show _ = _
            rw [← hP'.out]
            refine dataP_no ?_
            rw [hsplit.out]
            exact dataO_bad (by unfold byteO; rw [if_neg (fun h => he h.2)]) _
          have qe : (numE x != 0) = true := by rw [bne_iff_ne]; exact he
          obtain ⟨E, hE⟩ : ∃ E, numE x = E := ⟨_, rfl⟩
          obtain ⟨V, hV⟩ : ∃ V, numV x = V := ⟨_, rfl⟩
          rw [hE] at hN qe
          rw [hV] at hN
          clear hlt hx hcx hxs hdk hsplit hz he hE hV hP'
          go_wp2_with (go_at_call 59; refine hN.mono ?_; rintro e y1 ⟨rfl, hy1⟩; replace hy1 := hy1.symm; subst hy1)
          refine region_class_tail 10 (Dk w p c l) (by kernel_rfl) (by kernel_rfl) (K.out.below (below_drew (Below.refl _ _))) ?_
          simp only [List.take_succ_cons, List.take_zero, List.drop_succ_cons, List.drop_zero]
          with_reducible refine quiet_one (.int .i64 E) ?_ ?_ ?_
          · kernel_rfl
          · intro u hy
            go_simp
          with_reducible refine quiet_one (.bool true) ?_ ?_ ?_
          · kernel_rfl
          · intro u hy
            go_simp
          with_reducible refine quiet_one (.bool true) ?_ ?_ ?_
          · kernel_rfl
          · intro u hy
            go_simp
          with_reducible refine quiet_skip ?_ ?_
          · kernel_rfl
          with_reducible refine quiet_skip ?_ ?_
          · kernel_rfl
          with_reducible refine quiet_skip ?_ ?_
          · kernel_rfl
          with_reducible refine quiet_skip ?_ ?_
          · kernel_rfl
          with_reducible refine quiet_skip ?_ ?_
          · kernel_rfl
          with_reducible refine quiet_skip ?_ ?_
          · kernel_rfl
          with_reducible refine quiet_skip ?_ ?_
          · kernel_rfl
          refine wpQuiet_nil ?_
          intro z0 KB0
          replace KB0 : Hid _ := KB0
          go_simp
          go_wp2_with (first
            | ((with_reducible refine at_bu #[] [] (i6 z6) ?_ ?_ ?_ built0 ?_); kernel_rfl; rfl; rfl)
            | ((with_reducible refine at_st rt6 w.heap.size (i6 z6) (i6 z6) ?_ ?_ ?_ ?_ (.tmp 2) (.tmp 42) ?_ ?_ ?_ ?_ ?_); exact KB0.out.b0; rfl; rfl; exact i6_one _; rfl; rfl; rfl; rfl; intro y9 hw9; have K9 : Hid (Bx y9 w.heap.size (i6 z6) 39 ∧ Below w.heap.size w y9) := ⟨hw9.out.1, KB0.out.low.trans (hw9.out.2.1 _ (Nat.le_refl _))⟩))
          exact ret_row2 rt6 rfl rfl rfl K9.out.1 rfl rfl (RrE.flat _ rfl (by rw [fin.out]; rfl) (fun q e => by rw [fin.out] at e; cases e) K9.out.2)
      · have q2 : ((x.size : Int) != 2) = true := by rw [bne_iff_ne]; omega
        have KB0 := K
        have fin : Hid (P = none) := by
          show _ = _
          rw [← hP'.out]
          refine dataP_no ?_
          rw [hsplit.out]
          exact dataO_bad (by unfold byteO; rw [if_neg (fun h => hz h.1)]) _
        clear hlt hx hcx hxs hdk hsplit hz hP'
        go_wp2_with (first
          | ((with_reducible refine at_bu #[] [] (i6 z6) ?_ ?_ ?_ built0 ?_); kernel_rfl; rfl; rfl)
          | ((with_reducible refine at_st rt6 w.heap.size (i6 z6) (i6 z6) ?_ ?_ ?_ ?_ (.tmp 2) (.tmp 22) ?_ ?_ ?_ ?_ ?_); exact KB0.out.b0; rfl; rfl; exact i6_one _; rfl; rfl; rfl; rfl; intro y9 hw9; have K9 : Hid (Bx y9 w.heap.size (i6 z6) 39 ∧ Below w.heap.size w y9) := ⟨hw9.out.1, KB0.out.low.trans (hw9.out.2.1 _ (Nat.le_refl _))⟩))
        exact ret_row2 rt6 rfl rfl rfl K9.out.1 rfl rfl (RrE.flat _ rfl (by rw [fin.out]; rfl) (fun q e => by rw [fin.out] at e; cases e) K9.out.2)
    · have hke : k = n := by have := J.out.2.1; omega
      subst hke
      have hO : Hid (dataO (ws.drop 1) = some l) := by
        have h := J.out.2.2.2
        rw [List.take_of_length_le (by rw [List.length_drop, hnn.out]; exact Nat.le_refl _)] at h
        exact h
      have hPe : Hid (P = if 1 ≤ l.length ∧ l.length ≤ 256 then some ⟨3, E0, 0, E0, 0, l⟩ else none) := by
        show _ = _
        rw [← hP'.out]
        exact dataP_of hO.out
      have hM := fun v => rmayI_any v (datR p l.length c)
      rw [mayI_dat] at hM
      obtain ⟨b, hb⟩ : ∃ b, decide (1 ≤ l.length ∧ l.length ≤ 256) = b := ⟨_, rfl⟩
      have hb' : Hid (decide (1 ≤ l.length ∧ l.length ≤ 256) = b) := hb
      rw [hb] at hM
      clear hlt hb hP'
      go_wp2_with (first
        | ((with_reducible refine at_load rt6 (w.heap.size + 1) (i6 (datR p l.length c)) ?_ ?_ (.tmp 4) ?_ ?_ ?_ ?_); (first | exact K.out.b1 | exact K4.out.b1); rfl; rfl; rfl; rfl)
        | (go_at_call 21; refine (hM _).mono ?_; rintro e y2 ⟨rfl, h2⟩; have K4 : Hid (Dk w p c l y2) := K.out.below h2; clear h2)
        | ((with_reducible refine at_st rt6 w.heap.size (i6 z6) (i6 (datR p l.length c)) ?_ ?_ ?_ ?_ (.tmp 2) (.tmp 52) ?_ ?_ ?_ ?_ ?_); exact K4.out.b0; rfl; rfl; exact i6_one _; rfl; rfl; rfl; rfl; intro y5 hw5; have K5 : Hid (Bx y5 w.heap.size (i6 (datR p l.length c)) 39 ∧ Below w.heap.size w y5 ∧ LB8 y5 p l ∧ ∀ a, p = some a → w.heap.size ≤ a.block ∧ a.block < y5.heap.size) := (by
          refine ⟨hw5.out.1, K4.out.low.trans (hw5.out.2.1 _ (Nat.le_refl _)), own_lb8 (n := l.length) (cap := c) (K4.out.own.keepB fun g hg => hw5.out.2.2 g fun e => ?_), fun a ha => ?_⟩
          rotate_left
          · obtain ⟨sp', cap', e1, _, hb3, _⟩ := K4.out.own.open kU.len
            injection e1 with e1 _ _
            subst e1
            have h9 := hb3 a ha
            have h8 := (hw5.out.2.1 _ (Nat.le_refl _)).size
            exact ⟨h9.2.2.1, by omega⟩
          obtain ⟨cs', hbx⟩ := K4.out.own.ty g hg
          subst e
          exact Bx.unlike K4.out.b0 hbx (by decide) rfl)))
      refine ret_row2 rt6 rfl rfl rfl K5.out.1 rfl rfl ⟨datR p l.length c, ?_, K5.out.2.1, fun q e => ?_⟩
      · rw [hPe.out, ← hb'.out]
        by_cases h : 1 ≤ l.length ∧ l.length ≤ 256
        · rw [if_pos h, decide_eq_true h]; rfl
        · rw [if_neg h, decide_eq_false h]; rfl
      · rw [hPe.out] at e
        by_cases h : 1 ≤ l.length ∧ l.length ≤ 256
        · rw [if_pos h] at e
          cases e
          exact ⟨rfl, K5.out.2.2.1, K5.out.2.2.2⟩
        · rw [if_neg h] at e; cases e
end Go.Proofs.YtmaedkbmjbggpaaDoor
/- The document's reading of a line's words. -/
namespace Go.Proofs.YtmaedkbmjbggpaaDoor
open Go Go.RowKit
set_option linter.unusedVariables false
set_option maxHeartbeats 3000000
set_option maxRecDepth 20000

theorem last_strL (x : ByteArray) (hx : 0 < x.size) : (strL x).getLast? = some (x[x.size - 1]'(by omega)) := by
  rw [List.getLast?_eq_getElem?, strL_len]
  exact strL_get x (x.size - 1) (by omega)
theorem dlabel_any (w : World) (sp : Option Addr) (cap : Nat) (x0 : ByteArray) (r : List ByteArray) (hw : LiesT w sp (x0 :: r)) (hn : r.length ≤ 1000000) (hx : 0 < x0.size) (hx2 : x0.size ≤ 1000000) :
    Calls Tryd.prog 57 #[.slice sp (r.length + 1) cap] w (RrE w (labP x0 r)) := by
  have h0 : Hid (∃ g, sp = some ⟨g, 0, none⟩ ∧ w.cell? ⟨g, 0, none⟩ = some (.string x0)) := hw 0 x0 rfl
  rcases r with _ | ⟨x1, r⟩
  · by_cases hl : x0[x0.size - 1]'(by omega) = 58
    · have hlo : labOk x0 = isNm (x0.extract 0 (x0.size - 1)) := by unfold labOk; rw [last_strL x0 hx, hl]; rfl
      refine (rlabel_yes w sp cap x0 hx hx2 h0 hl).mono ?_
      rintro e w' ⟨rfl, hb⟩
      refine RrE.flat _ rfl ?_ ?_ hb
      · unfold labP
        rw [hlo]
        cases isNm (x0.extract 0 (x0.size - 1)) <;> rfl
      · intro q e
        unfold labP at e
        split at e
        · cases e; exact ⟨rfl, rfl⟩
        · cases e
    · have hlo : labOk x0 = false := by
        unfold labOk
        rw [last_strL x0 hx, decide_eq_false (fun h => hl (by simpa using h))]
        rfl
      refine (rlabel_one w sp cap x0 hx hx2 h0 hl).mono ?_
      rintro e w' ⟨rfl, hb⟩
      have e : labP x0 [] = none := by unfold labP; rw [hlo]; rfl
      exact RrE.flat _ rfl (by rw [e]; rfl) (fun q h => by rw [e] at h; cases h) hb
  · refine (rlabel_more w sp ((x1 :: r).length + 1) cap x0 hx h0 (by simp) (by omega)).mono ?_
    rintro e w' ⟨rfl, hb⟩
    have e : labP x0 (x1 :: r) = none := by unfold labP; rw [if_neg (fun h => by cases h.1)]
    exact RrE.flat _ rfl (by rw [e]; rfl) (fun q h => by rw [e] at h; cases h) hb
theorem part_ord (x0 x2 : ByteArray) (p : Int) : mayP ⟨2, x0, 0, x2, p, []⟩ = mayI (ordR x0 x2 0 p) := rfl
theorem dord_any (w : World) (sp : Option Addr) (cap : Nat) (x0 : ByteArray) (r : List ByteArray) (hw : LiesT w sp (x0 :: r)) (hn : r.length ≤ 1000000) (hs : ∀ x ∈ x0 :: r, x.size ≤ 1000000) :
    Calls Tryd.prog 60 #[.slice sp (r.length + 1) cap] w (RrE w (ordO x0 r)) := by
  obtain ⟨g, rfl, c0⟩ := hw 0 x0 rfl
  have s0 := hs x0 (List.mem_cons_self ..)
  rcases r with _ | ⟨x1, _ | ⟨x2, _ | ⟨x3, r⟩⟩⟩
  · by_cases h : parseE x0 = 0
    · have eo : ordO x0 [] = some ⟨2, x0, parseA x0, E0, 0, []⟩ := by rw [ordO_0, if_pos h]
      refine (rord1_yes w _ cap x0 ⟨g, rfl, c0⟩ s0 h).mono ?_
      rintro e w' ⟨rfl, hb⟩
      exact RrE.flat _ rfl (by rw [eo]; rfl) (fun q e => by rw [eo] at e; cases e; exact ⟨rfl, rfl⟩) hb
    · have eo : ordO x0 [] = none := by rw [ordO_0, if_neg h]
      refine (rord1_no w _ cap x0 ⟨g, rfl, c0⟩ s0 h).mono ?_
      rintro e w' ⟨rfl, hb⟩
      exact RrE.flat _ rfl (by rw [eo]; rfl) (fun q e => by rw [eo] at e; cases e) hb
  · obtain ⟨g1, e1, c1⟩ := hw 1 x1 rfl
    cases e1
    have s1 := hs x1 (by simp)
    by_cases h : parseE (x0 ++ ⟨#[32]⟩ ++ x1) = 0
    · have eo : ordO x0 [x1] = some ⟨2, x0, parseA (x0 ++ ⟨#[32]⟩ ++ x1), E0, 0, []⟩ := by rw [ordO_1, if_pos h]
      refine (rord2_yes w _ cap x0 x1 ⟨g, rfl, c0, c1⟩ ⟨s0, s1⟩ h).mono ?_
      rintro e w' ⟨rfl, hb⟩
      exact RrE.flat _ rfl (by rw [eo]; rfl) (fun q e => by rw [eo] at e; cases e; exact ⟨rfl, rfl⟩) hb
    · have eo : ordO x0 [x1] = none := by rw [ordO_1, if_neg h]
      refine (rord2_no w _ cap x0 x1 ⟨g, rfl, c0, c1⟩ ⟨s0, s1⟩ h).mono ?_
      rintro e w' ⟨rfl, hb⟩
      exact RrE.flat _ rfl (by rw [eo]; rfl) (fun q e => by rw [eo] at e; cases e) hb
  · obtain ⟨g1, e1, c1⟩ := hw 1 x1 rfl
    cases e1
    obtain ⟨g2, e2, c2⟩ := hw 2 x2 rfl
    cases e2
    have key : ∀ p : Int, partO x1 = p → p ≠ 0 → ∀ e w', (e = .returned (.tuple #[.agg (i6 (ordR x0 x2 0 p)), .bool (mayI (ordR x0 x2 0 p))]) ∧ Below w.heap.size w w') → RrE w (ordO x0 [x1, x2]) e w' := by
      rintro p hp hp0 e w' ⟨rfl, hb⟩
      by_cases hm : mayI (ordR x0 x2 0 p) = true
      · have eo : ordO x0 [x1, x2] = some ⟨2, x0, 0, x2, p, []⟩ := by rw [ordO_2, hp, if_pos ⟨hp0, hm⟩]
        exact RrE.flat _ rfl (by rw [eo, hm]; rfl) (fun q e => by rw [eo] at e; cases e; exact ⟨rfl, rfl⟩) hb
      · have eo : ordO x0 [x1, x2] = none := by rw [ordO_2, hp, if_neg (fun h => hm h.2)]
        exact RrE.flat _ rfl (by rw [eo]; simpa using hm) (fun q e => by rw [eo] at e; cases e) hb
    by_cases h1 : x1 = wTo
    · exact (rord_to w _ cap x0 x1 x2 ⟨g, rfl, c0, c1, c2⟩ h1).mono (key 1 (by unfold partO; rw [if_pos h1]) (by decide))
    · by_cases h2 : x1 = wHigh
      · exact (rord_high w _ cap x0 x1 x2 ⟨g, rfl, c0, c1, c2⟩ h2).mono (key 2 (by unfold partO; rw [if_neg h1, if_pos h2]) (by decide))
      · by_cases h3 : x1 = wLow
        · exact (rord_low w _ cap x0 x1 x2 ⟨g, rfl, c0, c1, c2⟩ h3).mono (key 3 (by unfold partO; rw [if_neg h1, if_neg h2, if_pos h3]) (by decide))
        · refine (rord_other w _ cap x0 x1 ⟨g, rfl, c0, c1⟩ ⟨h1, h2, h3⟩).mono ?_
          rintro e w' ⟨rfl, hb⟩
          have eo : ordO x0 [x1, x2] = none := by rw [ordO_2, if_neg (fun h => h.1 (by unfold partO; rw [if_neg h1, if_neg h2, if_neg h3]))]
          exact RrE.flat _ rfl (by rw [eo]; rfl) (fun q e => by rw [eo] at e; cases e) hb
  · refine (rord_many w _ ((x1 :: x2 :: x3 :: r).length + 1) cap x0 ⟨g, rfl, c0⟩ (by simp) (by omega)).mono ?_
    rintro e w' ⟨rfl, hb⟩
    exact RrE.flat _ rfl (by rw [ordO_3]; rfl) (fun q e => by rw [ordO_3] at e; cases e) hb
/-- An item that a reader left, put into two boxes more. -/
theorem Rb.boxes {w v y y4 y5 : World} {r : Ri} {q : Pu} {b0 b1 : Nat} (h : Rb v r q y) (hv : w.heap.size ≤ b0) (hb0 : b0 < v.heap.size) (hb1 : b1 = y.heap.size) (h4 : ∀ g, g ≠ b1 → g < y.heap.size → y4.heap[g]? = y.heap[g]?) (h5 : ∀ g, g ≠ b0 → y5.heap[g]? = y4.heap[g]?) (hs : y.heap.size ≤ y5.heap.size) : Rb w r q y5 := by
  refine ⟨h.e, h.l.keepB fun a ha => ?_, fun a ha => ?_⟩
  · obtain ⟨k1, k2⟩ := h.b a ha
    exact (h5 _ (by omega)).trans (h4 _ (by omega) k2)
  · obtain ⟨k1, k2⟩ := h.b a ha
    exact ⟨by omega, by omega⟩
theorem dread_front (w : World) (sp : Option Addr) (cap n : Nat) (o : Option Pu) (hC : ∀ v, Below w.heap.size w v → Calls Tryd.prog 57 #[.slice sp n cap] v (RrE v o)) : Calls Tryd.prog 34 #[.slice sp n cap, .bool true] w (RrE w o) := by
  have K1 : Hid (Fm w [(w.heap.size, i6 z6, 39)] (w.alloc (.cells #[.int .u8 0, .string ⟨#[]⟩, .int .i64 0, .string ⟨#[]⟩, .int .u8 0, .slice none 0 0] 39))) := Fm.one w _ _
  go_enter Tryd.func34, Tryd.ntmps34
  go_wp2_with (first
    | (go_at_call 57; refine (hC _ K1.out.low).mono ?_; rintro e y2 ⟨r, rfl, H2⟩; have K2 : Hid (Fm w [(w.heap.size, i6 z6, 39)] y2) := K1.out.below H2.out.1)
    | ((with_reducible refine gen_world (y2.alloc (.cells #[.int .u8 0, .string ⟨#[]⟩, .int .i64 0, .string ⟨#[]⟩, .int .u8 0, .slice none 0 0] 39)) (fun u => Fm w [(w.heap.size, i6 z6, 39), (y2.heap.size, i6 z6, 39)] u ∧ ∀ g, g < y2.heap.size → u.heap[g]? = y2.heap[g]?) ?_ ?_); exact ⟨K2.out.new _ _, fun g hg => (below1 y2 _).block g hg⟩; intro y3 K3)
    | ((with_reducible refine at_st rt6 y2.heap.size (i6 z6) (i6 r) ?_ ?_ ?_ ?_ (.tmp 6) (.tmp 20) ?_ ?_ ?_ ?_ ?_); exact K3.out.1.bx 1 _ _ _ rfl; rfl; rfl; exact i6_one _; rfl; rfl; rfl; rfl; intro y4 hw4; have K4 : Hid (Fm w [(w.heap.size, i6 z6, 39), (y2.heap.size, i6 r, 39)] y4 ∧ ∀ g, g ≠ y2.heap.size → g < y2.heap.size → y4.heap[g]? = y2.heap[g]?) := ⟨K3.out.1.put 1 _ _ _ _ rfl hw4.out, fun g h1 h2 => (hw4.out.2.2 g h1).trans (K3.out.2 g h2)⟩; clear hw4)
    | ((with_reducible refine at_load rt6 y2.heap.size (i6 r) ?_ ?_ (.tmp 6) ?_ ?_ ?_ ?_); exact K4.out.1.bx 1 _ _ _ rfl; rfl; rfl; rfl; rfl)
    | ((with_reducible refine at_st rt6 w.heap.size (i6 z6) (i6 r) ?_ ?_ ?_ ?_ (.tmp 4) (.tmp 22) ?_ ?_ ?_ ?_ ?_); exact K4.out.1.bx 0 _ _ _ rfl; rfl; rfl; exact i6_one _; rfl; rfl; rfl; rfl; intro y5 hw5; have K5 : Hid (Fm w [(w.heap.size, i6 r, 39), (y2.heap.size, i6 r, 39)] y5 ∧ (∀ g, g ≠ w.heap.size → y5.heap[g]? = y4.heap[g]?) ∧ y2.heap.size ≤ y5.heap.size) := ⟨K4.out.1.put 0 _ _ _ _ rfl hw5.out, hw5.out.2.2, (by have h1 := heap_lt (K4.out.1.bx 1 _ _ _ rfl); have h2 := (hw5.out.2.1 _ (Nat.le_refl _)).size; omega)⟩; clear hw5))
  exact ret_row2 rt6 rfl rfl rfl (K5.out.1.bx 0 _ _ _ rfl) rfl rfl ⟨r, rfl, K5.out.1.low, fun q e => (H2.out.2 q e).boxes (Nat.le_refl _) (by simp) rfl K4.out.2 K5.out.2.1 K5.out.2.2⟩
theorem dread_data (w : World) (sp : Option Addr) (cap n : Nat) (x0 : ByteArray) (hx : x0 = wData) (hn : 0 < n) (h0 : Hid (∃ g, sp = some ⟨g, 0, none⟩ ∧ w.cell? ⟨g, 0, none⟩ = some (.string x0))) (o : Option Pu) (hC : ∀ v, Below w.heap.size w v → Calls Tryd.prog 58 #[.slice sp n cap] v (RrE v o)) : Calls Tryd.prog 34 #[.slice sp n cap, .bool false] w (RrE w o) := by
  have K1 : Hid (Fm w [(w.heap.size, i6 z6, 39)] (w.alloc (.cells #[.int .u8 0, .string ⟨#[]⟩, .int .i64 0, .string ⟨#[]⟩, .int .u8 0, .slice none 0 0] 39))) := Fm.one w _ _
  obtain ⟨g, rfl, hc⟩ := h0.out
  have ij := fun v => idxT g n cap 0 hn v
  have c0 : (w.alloc (.cells #[.int .u8 0, .string ⟨#[]⟩, .int .i64 0, .string ⟨#[]⟩, .int .u8 0, .slice none 0 0] 39)).cell? ⟨g, 0, none⟩ = some (.string x0) := (K1.out.low.cell (p := ⟨g, 0, none⟩) (World.block_lt_of_cell? w _ hc)).trans hc
  have q1 : (x0.toList == [100, 97, 116, 97]) = true := by rw [str_is]; exact decide_eq_true hx
  replace hc : Hid _ := hc
  clear hx
  go_enter Tryd.func34, Tryd.ntmps34
  go_wp2_with (first
    | (go_at_call 58; refine (hC _ K1.out.low).mono ?_; rintro e y2 ⟨r, rfl, H2⟩; have K2 : Hid (Fm w [(w.heap.size, i6 z6, 39)] y2) := K1.out.below H2.out.1)
    | ((with_reducible refine gen_world (y2.alloc (.cells #[.int .u8 0, .string ⟨#[]⟩, .int .i64 0, .string ⟨#[]⟩, .int .u8 0, .slice none 0 0] 39)) (fun u => Fm w [(w.heap.size, i6 z6, 39), (y2.heap.size, i6 z6, 39)] u ∧ ∀ g, g < y2.heap.size → u.heap[g]? = y2.heap[g]?) ?_ ?_); exact ⟨K2.out.new _ _, fun g hg => (below1 y2 _).block g hg⟩; intro y3 K3)
    | ((with_reducible refine at_st rt6 y2.heap.size (i6 z6) (i6 r) ?_ ?_ ?_ ?_ (.tmp 8) (.tmp 32) ?_ ?_ ?_ ?_ ?_); exact K3.out.1.bx 1 _ _ _ rfl; rfl; rfl; exact i6_one _; rfl; rfl; rfl; rfl; intro y4 hw4; have K4 : Hid (Fm w [(w.heap.size, i6 z6, 39), (y2.heap.size, i6 r, 39)] y4 ∧ ∀ g, g ≠ y2.heap.size → g < y2.heap.size → y4.heap[g]? = y2.heap[g]?) := ⟨K3.out.1.put 1 _ _ _ _ rfl hw4.out, fun g h1 h2 => (hw4.out.2.2 g h1).trans (K3.out.2 g h2)⟩; clear hw4)
    | ((with_reducible refine at_load rt6 y2.heap.size (i6 r) ?_ ?_ (.tmp 8) ?_ ?_ ?_ ?_); exact K4.out.1.bx 1 _ _ _ rfl; rfl; rfl; rfl; rfl)
    | ((with_reducible refine at_st rt6 w.heap.size (i6 z6) (i6 r) ?_ ?_ ?_ ?_ (.tmp 4) (.tmp 34) ?_ ?_ ?_ ?_ ?_); exact K4.out.1.bx 0 _ _ _ rfl; rfl; rfl; exact i6_one _; rfl; rfl; rfl; rfl; intro y5 hw5; have K5 : Hid (Fm w [(w.heap.size, i6 r, 39), (y2.heap.size, i6 r, 39)] y5 ∧ (∀ g, g ≠ w.heap.size → y5.heap[g]? = y4.heap[g]?) ∧ y2.heap.size ≤ y5.heap.size) := ⟨K4.out.1.put 0 _ _ _ _ rfl hw5.out, hw5.out.2.2, (by have h1 := heap_lt (K4.out.1.bx 1 _ _ _ rfl); have h2 := (hw5.out.2.1 _ (Nat.le_refl _)).size; omega)⟩; clear hw5))
  exact ret_row2 rt6 rfl rfl rfl (K5.out.1.bx 0 _ _ _ rfl) rfl rfl ⟨r, rfl, K5.out.1.low, fun q e => (H2.out.2 q e).boxes (Nat.le_refl _) (by simp) rfl K4.out.2 K5.out.2.1 K5.out.2.2⟩
theorem dread_ord (w : World) (sp : Option Addr) (cap n : Nat) (x0 : ByteArray) (hx : ¬ x0 = wData ∧ ¬ x0 = wAt ∧ ¬ x0 = wAddr) (hn : 0 < n) (h0 : Hid (∃ g, sp = some ⟨g, 0, none⟩ ∧ w.cell? ⟨g, 0, none⟩ = some (.string x0))) (o : Option Pu) (hC : ∀ v, Below w.heap.size w v → Calls Tryd.prog 60 #[.slice sp n cap] v (RrE v o)) : Calls Tryd.prog 34 #[.slice sp n cap, .bool false] w (RrE w o) := by
  have K1 : Hid (Fm w [(w.heap.size, i6 z6, 39)] (w.alloc (.cells #[.int .u8 0, .string ⟨#[]⟩, .int .i64 0, .string ⟨#[]⟩, .int .u8 0, .slice none 0 0] 39))) := Fm.one w _ _
  obtain ⟨g, rfl, hc⟩ := h0.out
  have ij := fun v => idxT g n cap 0 hn v
  have c0 : (w.alloc (.cells #[.int .u8 0, .string ⟨#[]⟩, .int .i64 0, .string ⟨#[]⟩, .int .u8 0, .slice none 0 0] 39)).cell? ⟨g, 0, none⟩ = some (.string x0) := (K1.out.low.cell (p := ⟨g, 0, none⟩) (World.block_lt_of_cell? w _ hc)).trans hc
  have q1 : (x0.toList == [100, 97, 116, 97]) = false := by rw [str_is]; exact decide_eq_false hx.1
  have q2 : (x0.toList == [97, 116]) = false := by rw [str_is]; exact decide_eq_false hx.2.1
  have q3 : (x0.toList == [97, 100, 100, 114, 101, 115, 115]) = false := by rw [str_is]; exact decide_eq_false hx.2.2
  replace hc : Hid _ := hc
  clear hx
  go_enter Tryd.func34, Tryd.ntmps34
  go_wp2_with (first
    | (go_at_call 60; refine (hC _ K1.out.low).mono ?_; rintro e y2 ⟨r, rfl, H2⟩; have K2 : Hid (Fm w [(w.heap.size, i6 z6, 39)] y2) := K1.out.below H2.out.1)
    | ((with_reducible refine gen_world (y2.alloc (.cells #[.int .u8 0, .string ⟨#[]⟩, .int .i64 0, .string ⟨#[]⟩, .int .u8 0, .slice none 0 0] 39)) (fun u => Fm w [(w.heap.size, i6 z6, 39), (y2.heap.size, i6 z6, 39)] u ∧ ∀ g, g < y2.heap.size → u.heap[g]? = y2.heap[g]?) ?_ ?_); exact ⟨K2.out.new _ _, fun g hg => (below1 y2 _).block g hg⟩; intro y3 K3)
    | ((with_reducible refine at_st rt6 y2.heap.size (i6 z6) (i6 r) ?_ ?_ ?_ ?_ (.tmp 14) (.tmp 86) ?_ ?_ ?_ ?_ ?_); exact K3.out.1.bx 1 _ _ _ rfl; rfl; rfl; exact i6_one _; rfl; rfl; rfl; rfl; intro y4 hw4; have K4 : Hid (Fm w [(w.heap.size, i6 z6, 39), (y2.heap.size, i6 r, 39)] y4 ∧ ∀ g, g ≠ y2.heap.size → g < y2.heap.size → y4.heap[g]? = y2.heap[g]?) := ⟨K3.out.1.put 1 _ _ _ _ rfl hw4.out, fun g h1 h2 => (hw4.out.2.2 g h1).trans (K3.out.2 g h2)⟩; clear hw4)
    | ((with_reducible refine at_load rt6 y2.heap.size (i6 r) ?_ ?_ (.tmp 14) ?_ ?_ ?_ ?_); exact K4.out.1.bx 1 _ _ _ rfl; rfl; rfl; rfl; rfl)
    | ((with_reducible refine at_st rt6 w.heap.size (i6 z6) (i6 r) ?_ ?_ ?_ ?_ (.tmp 4) (.tmp 88) ?_ ?_ ?_ ?_ ?_); exact K4.out.1.bx 0 _ _ _ rfl; rfl; rfl; exact i6_one _; rfl; rfl; rfl; rfl; intro y5 hw5; have K5 : Hid (Fm w [(w.heap.size, i6 r, 39), (y2.heap.size, i6 r, 39)] y5 ∧ (∀ g, g ≠ w.heap.size → y5.heap[g]? = y4.heap[g]?) ∧ y2.heap.size ≤ y5.heap.size) := ⟨K4.out.1.put 0 _ _ _ _ rfl hw5.out, hw5.out.2.2, (by have h1 := heap_lt (K4.out.1.bx 1 _ _ _ rfl); have h2 := (hw5.out.2.1 _ (Nat.le_refl _)).size; omega)⟩; clear hw5))
  exact ret_row2 rt6 rfl rfl rfl (K5.out.1.bx 0 _ _ _ rfl) rfl rfl ⟨r, rfl, K5.out.1.low, fun q e => (H2.out.2 q e).boxes (Nat.le_refl _) (by simp) rfl K4.out.2 K5.out.2.1 K5.out.2.2⟩
theorem dread_addr_no (w : World) (sp : Option Addr) (cap n : Nat) (x0 : ByteArray) (hx : x0 = wAddr) (hn : 0 < n) (hn2 : n ≠ 2) (hn3 : n ≤ 1000001) (h0 : Hid (∃ g, sp = some ⟨g, 0, none⟩ ∧ w.cell? ⟨g, 0, none⟩ = some (.string x0))) : Calls Tryd.prog 34 #[.slice sp n cap, .bool false] w (RrE w none) := by
  have K1 : Hid (Fm w [(w.heap.size, i6 z6, 39)] (w.alloc (.cells #[.int .u8 0, .string ⟨#[]⟩, .int .i64 0, .string ⟨#[]⟩, .int .u8 0, .slice none 0 0] 39))) := Fm.one w _ _
  obtain ⟨g, rfl, hc⟩ := h0.out
  have ij := fun v => idxT g n cap 0 hn v
  have c0 : (w.alloc (.cells #[.int .u8 0, .string ⟨#[]⟩, .int .i64 0, .string ⟨#[]⟩, .int .u8 0, .slice none 0 0] 39)).cell? ⟨g, 0, none⟩ = some (.string x0) := (K1.out.low.cell (p := ⟨g, 0, none⟩) (World.block_lt_of_cell? w _ hc)).trans hc
  have q1 : (x0.toList == [100, 97, 116, 97]) = false := by rw [str_is, hx]; decide
  have q2 : (x0.toList == [97, 116]) = false := by rw [str_is, hx]; decide
  have q3 : (x0.toList == [97, 100, 100, 114, 101, 115, 115]) = true := by rw [str_is]; exact decide_eq_true hx
  have q4 : ((n : Int) != 2) = true := by rw [bne_iff_ne]; omega
  replace hc : Hid _ := hc
  clear hx hn2
  go_enter Tryd.func34, Tryd.ntmps34
  go_wp2_with (first
    | ((with_reducible refine at_bu #[] [] (i6 z6) ?_ ?_ ?_ built0 ?_); kernel_rfl; rfl; rfl)
    | ((with_reducible refine at_st rt6 w.heap.size (i6 z6) (i6 z6) ?_ ?_ ?_ ?_ (.tmp 4) (.tmp 74) ?_ ?_ ?_ ?_ ?_); exact K1.out.bx 0 _ _ _ rfl; rfl; rfl; exact i6_one _; rfl; rfl; rfl; rfl; intro y2 hw2; have K2 : Hid (Fm w [(w.heap.size, i6 z6, 39)] y2) := K1.out.put 0 _ _ _ _ rfl hw2.out))
  exact ret_row2 rt6 rfl rfl rfl (K2.out.bx 0 _ _ _ rfl) rfl rfl (RrE.flat _ rfl rfl (fun q e => by cases e) K2.out.low)
theorem dread_addr (w : World) (sp : Option Addr) (cap : Nat) (x0 x1 : ByteArray) (hx : x0 = wAddr) (h0 : Hid (∃ g, sp = some ⟨g, 0, none⟩ ∧ w.cell? ⟨g, 0, none⟩ = some (.string x0) ∧ w.cell? ⟨g, 1, none⟩ = some (.string x1))) : Calls Tryd.prog 34 #[.slice sp 2 cap, .bool false] w (RrE w (addrP [x1])) := by
  have K1 : Hid (Fm w [(w.heap.size, i6 z6, 39)] (w.alloc (.cells #[.int .u8 0, .string ⟨#[]⟩, .int .i64 0, .string ⟨#[]⟩, .int .u8 0, .slice none 0 0] 39))) := Fm.one w _ _
  have K3 : Hid (Fm w [(w.heap.size, i6 z6, 39), (w.heap.size + 1, i6 (addrR x1), 39)] ((w.alloc (.cells #[.int .u8 0, .string ⟨#[]⟩, .int .i64 0, .string ⟨#[]⟩, .int .u8 0, .slice none 0 0] 39)).alloc (.cells #[.int .u8 5, .string ⟨#[]⟩, .int .i64 0, .string x1, .int .u8 0, .slice none 0 0] 39))) := Fm.two w _ _ _ _
  have hM := fun v => rmayI_any v (addrR x1)
  rw [mayI_addr] at hM
  obtain ⟨g, rfl, hc, hc1⟩ := h0.out
  have i0 := fun v => idxT g 2 cap 0 (by omega) v
  have i1 := fun v => idxT g 2 cap 1 (by omega) v
  have c0 : (w.alloc (.cells #[.int .u8 0, .string ⟨#[]⟩, .int .i64 0, .string ⟨#[]⟩, .int .u8 0, .slice none 0 0] 39)).cell? ⟨g, 0, none⟩ = some (.string x0) := (K1.out.low.cell (p := ⟨g, 0, none⟩) (World.block_lt_of_cell? w _ hc)).trans hc
  have c1 : (w.alloc (.cells #[.int .u8 0, .string ⟨#[]⟩, .int .i64 0, .string ⟨#[]⟩, .int .u8 0, .slice none 0 0] 39)).cell? ⟨g, 1, none⟩ = some (.string x1) := (K1.out.low.cell (p := ⟨g, 1, none⟩) (World.block_lt_of_cell? w _ hc1)).trans hc1
  have q1 : (x0.toList == [100, 97, 116, 97]) = false := by rw [str_is, hx]; decide
  have q2 : (x0.toList == [97, 116]) = false := by rw [str_is, hx]; decide
  have q3 : (x0.toList == [97, 100, 100, 114, 101, 115, 115]) = true := by rw [str_is]; exact decide_eq_true hx
  replace hc : Hid _ := hc
  replace hc1 : Hid _ := hc1
  clear hx
  go_enter Tryd.func34, Tryd.ntmps34
  go_wp2_with (first
    | ((with_reducible refine at_load rt6 (w.heap.size + 1) (i6 (addrR x1)) ?_ ?_ (.tmp 12) ?_ ?_ ?_ ?_); (first | exact K3.out.bx 1 _ _ _ rfl | exact K4.out.bx 1 _ _ _ rfl); rfl; rfl; rfl; rfl)
    | (go_at_call 21; refine (hM _).mono ?_; rintro e y2 ⟨rfl, h2⟩; have K4 : Hid (Fm w [(w.heap.size, i6 z6, 39), (w.heap.size + 1, i6 (addrR x1), 39)] y2) := K3.out.below h2; clear h2)
    | ((with_reducible refine at_st rt6 w.heap.size (i6 z6) (i6 (addrR x1)) ?_ ?_ ?_ ?_ (.tmp 4) (.tmp 81) ?_ ?_ ?_ ?_ ?_); exact K4.out.bx 0 _ _ _ rfl; rfl; rfl; exact i6_one _; rfl; rfl; rfl; rfl; intro y5 hw5; have K5 : Hid (Fm w [(w.heap.size, i6 (addrR x1), 39), (w.heap.size + 1, i6 (addrR x1), 39)] y5) := K4.out.put 0 _ _ _ _ rfl hw5.out))
  refine ret_row2 rt6 rfl rfl rfl (K5.out.bx 0 _ _ _ rfl) rfl rfl (RrE.flat _ rfl ?_ (fun q e => ?_) K5.out.low)
  · rw [addrP_1]
    cases isNm x1 <;> rfl
  · rw [addrP_1] at e
    split at e
    · cases e; exact ⟨rfl, rfl⟩
    · cases e
theorem dread_at_n (w : World) (sp : Option Addr) (cap n : Nat) (x0 : ByteArray) (hx : x0 = wAt) (hn : 0 < n) (hn2 : n ≠ 2) (hn3 : n ≤ 1000001) (h0 : Hid (∃ g, sp = some ⟨g, 0, none⟩ ∧ w.cell? ⟨g, 0, none⟩ = some (.string x0))) : Calls Tryd.prog 34 #[.slice sp n cap, .bool false] w (RrE w none) := by
  have K1 : Hid (Fm w [(w.heap.size, i6 z6, 39)] (w.alloc (.cells #[.int .u8 0, .string ⟨#[]⟩, .int .i64 0, .string ⟨#[]⟩, .int .u8 0, .slice none 0 0] 39))) := Fm.one w _ _
  obtain ⟨g, rfl, hc⟩ := h0.out
  have ij := fun v => idxT g n cap 0 hn v
  have c0 : (w.alloc (.cells #[.int .u8 0, .string ⟨#[]⟩, .int .i64 0, .string ⟨#[]⟩, .int .u8 0, .slice none 0 0] 39)).cell? ⟨g, 0, none⟩ = some (.string x0) := (K1.out.low.cell (p := ⟨g, 0, none⟩) (World.block_lt_of_cell? w _ hc)).trans hc
  have q1 : (x0.toList == [100, 97, 116, 97]) = false := by rw [str_is, hx]; decide
  have q2 : (x0.toList == [97, 116]) = true := by rw [str_is]; exact decide_eq_true hx
  have q4 : ((n : Int) != 2) = true := by rw [bne_iff_ne]; omega
  replace hc : Hid _ := hc
  clear hx hn2
  go_enter Tryd.func34, Tryd.ntmps34
  go_wp2_with (first
    | ((with_reducible refine at_bu #[] [] (i6 z6) ?_ ?_ ?_ built0 ?_); kernel_rfl; rfl; rfl)
    | ((with_reducible refine at_st rt6 w.heap.size (i6 z6) (i6 z6) ?_ ?_ ?_ ?_ (.tmp 4) (.tmp 48) ?_ ?_ ?_ ?_ ?_); exact K1.out.bx 0 _ _ _ rfl; rfl; rfl; exact i6_one _; rfl; rfl; rfl; rfl; intro y2 hw2; have K2 : Hid (Fm w [(w.heap.size, i6 z6, 39)] y2) := K1.out.put 0 _ _ _ _ rfl hw2.out))
  exact ret_row2 rt6 rfl rfl rfl (K2.out.bx 0 _ _ _ rfl) rfl rfl (RrE.flat _ rfl rfl (fun q e => by cases e) K2.out.low)
theorem dread_at_s (w : World) (sp : Option Addr) (cap : Nat) (x0 x1 : ByteArray) (hx : x0 = wAt) (h0 : Hid (∃ g, sp = some ⟨g, 0, none⟩ ∧ w.cell? ⟨g, 0, none⟩ = some (.string x0) ∧ w.cell? ⟨g, 1, none⟩ = some (.string x1))) (hs : x1.size ≤ 1000000) (hz : x1.size ≠ 4) : Calls Tryd.prog 34 #[.slice sp 2 cap, .bool false] w (RrE w none) := by
  have K1 : Hid (Fm w [(w.heap.size, i6 z6, 39)] (w.alloc (.cells #[.int .u8 0, .string ⟨#[]⟩, .int .i64 0, .string ⟨#[]⟩, .int .u8 0, .slice none 0 0] 39))) := Fm.one w _ _
  obtain ⟨g, rfl, hc, hc1⟩ := h0.out
  have i0 := fun v => idxT g 2 cap 0 (by omega) v
  have i1 := fun v => idxT g 2 cap 1 (by omega) v
  have hcu : Hid (∀ u, Below w.heap.size w u → u.cell? ⟨g, 1, none⟩ = some (.string x1)) := fun u hu => (hu.cell (p := ⟨g, 1, none⟩) (World.block_lt_of_cell? w _ hc1)).trans hc1
  have c0 : (w.alloc (.cells #[.int .u8 0, .string ⟨#[]⟩, .int .i64 0, .string ⟨#[]⟩, .int .u8 0, .slice none 0 0] 39)).cell? ⟨g, 0, none⟩ = some (.string x0) := (K1.out.low.cell (p := ⟨g, 0, none⟩) (World.block_lt_of_cell? w _ hc)).trans hc
  have c1 : (w.alloc (.cells #[.int .u8 0, .string ⟨#[]⟩, .int .i64 0, .string ⟨#[]⟩, .int .u8 0, .slice none 0 0] 39)).cell? ⟨g, 1, none⟩ = some (.string x1) := hcu.out _ K1.out.low
  have q1 : (x0.toList == [100, 97, 116, 97]) = false := by rw [str_is, hx]; decide
  have q2 : (x0.toList == [97, 116]) = true := by rw [str_is]; exact decide_eq_true hx
  have si : (x1.size : Int) ≤ 1000000 := by omega
  replace hc : Hid _ := hc
  replace hc1 : Hid _ := hc1
  have q4 : ((x1.size : Int) != 4) = true := by rw [bne_iff_ne]; omega
  clear hx hz hs
  go_enter Tryd.func34, Tryd.ntmps34
  go_wp2_with (first
    | ((with_reducible refine at_bu #[] [] (i6 z6) ?_ ?_ ?_ built0 ?_); kernel_rfl; rfl; rfl)
    | ((with_reducible refine at_st rt6 w.heap.size (i6 z6) (i6 z6) ?_ ?_ ?_ ?_ (.tmp 4) (.tmp 48) ?_ ?_ ?_ ?_ ?_); exact K1.out.bx 0 _ _ _ rfl; rfl; rfl; exact i6_one _; rfl; rfl; rfl; rfl; intro y2 hw2; have K2 : Hid (Fm w [(w.heap.size, i6 z6, 39)] y2) := K1.out.put 0 _ _ _ _ rfl hw2.out))
  exact ret_row2 rt6 rfl rfl rfl (K2.out.bx 0 _ _ _ rfl) rfl rfl (RrE.flat _ rfl rfl (fun q e => by cases e) K2.out.low)
theorem dread_at_e (w : World) (sp : Option Addr) (cap : Nat) (x0 x1 : ByteArray) (hx : x0 = wAt) (h0 : Hid (∃ g, sp = some ⟨g, 0, none⟩ ∧ w.cell? ⟨g, 0, none⟩ = some (.string x0) ∧ w.cell? ⟨g, 1, none⟩ = some (.string x1))) (hs : x1.size ≤ 1000000) (hz : x1.size = 4) (he : ¬ numE x1 = 0) : Calls Tryd.prog 34 #[.slice sp 2 cap, .bool false] w (RrE w none) := by
  have K1 : Hid (Fm w [(w.heap.size, i6 z6, 39)] (w.alloc (.cells #[.int .u8 0, .string ⟨#[]⟩, .int .i64 0, .string ⟨#[]⟩, .int .u8 0, .slice none 0 0] 39))) := Fm.one w _ _
  obtain ⟨g, rfl, hc, hc1⟩ := h0.out
  have i0 := fun v => idxT g 2 cap 0 (by omega) v
  have i1 := fun v => idxT g 2 cap 1 (by omega) v
  have hcu : Hid (∀ u, Below w.heap.size w u → u.cell? ⟨g, 1, none⟩ = some (.string x1)) := fun u hu => (hu.cell (p := ⟨g, 1, none⟩) (World.block_lt_of_cell? w _ hc1)).trans hc1
  have c0 : (w.alloc (.cells #[.int .u8 0, .string ⟨#[]⟩, .int .i64 0, .string ⟨#[]⟩, .int .u8 0, .slice none 0 0] 39)).cell? ⟨g, 0, none⟩ = some (.string x0) := (K1.out.low.cell (p := ⟨g, 0, none⟩) (World.block_lt_of_cell? w _ hc)).trans hc
  have c1 : (w.alloc (.cells #[.int .u8 0, .string ⟨#[]⟩, .int .i64 0, .string ⟨#[]⟩, .int .u8 0, .slice none 0 0] 39)).cell? ⟨g, 1, none⟩ = some (.string x1) := hcu.out _ K1.out.low
  have q1 : (x0.toList == [100, 97, 116, 97]) = false := by rw [str_is, hx]; decide
  have q2 : (x0.toList == [97, 116]) = true := by rw [str_is]; exact decide_eq_true hx
  have si : (x1.size : Int) ≤ 1000000 := by omega
  replace hc : Hid _ := hc
  replace hc1 : Hid _ := hc1
  have q4 : ((x1.size : Int) != 4) = false := by rw [bne_eq_false_iff_eq]; omega
  have hN := fun v => rnumber_any x1 v (by unfold maxLen; omega)
  have qe : (numE x1 != 0) = true := by rw [bne_iff_ne]; exact he
  generalize numE x1 = E at hN qe he
  generalize numV x1 = V at hN
  clear hx hz hs he
  go_enter Tryd.func34, Tryd.ntmps34
  go_wp2_with (go_at_call 59; refine (hN _).mono ?_; rintro e y1 ⟨rfl, rfl⟩)
  refine region_class_tail 9 (Fm w [(w.heap.size, i6 z6, 39)]) (by kernel_rfl) (by kernel_rfl) (K1.out.below (below_drew (Below.refl _ _))) ?_
  simp only [List.take_succ_cons, List.take_zero, List.drop_succ_cons, List.drop_zero]
  with_reducible refine quiet_one (.int .i64 E) ?_ ?_ ?_
  · kernel_rfl
  · intro u hy
    go_simp
  with_reducible refine quiet_one (.bool true) ?_ ?_ ?_
  · kernel_rfl
  · intro u hy
    go_simp
  with_reducible refine quiet_one (.bool true) ?_ ?_ ?_
  · kernel_rfl
  · intro u hy
    go_simp
  with_reducible refine quiet_skip ?_ ?_
  · kernel_rfl
  with_reducible refine quiet_skip ?_ ?_
  · kernel_rfl
  with_reducible refine quiet_skip ?_ ?_
  · kernel_rfl
  with_reducible refine quiet_skip ?_ ?_
  · kernel_rfl
  with_reducible refine quiet_skip ?_ ?_
  · kernel_rfl
  with_reducible refine quiet_skip ?_ ?_
  · kernel_rfl
  refine wpQuiet_nil ?_
  intro z0 K0
  replace K0 : Hid _ := K0
  go_simp
  go_wp2_with (first
    | ((with_reducible refine at_bu #[] [] (i6 z6) ?_ ?_ ?_ built0 ?_); kernel_rfl; rfl; rfl)
    | ((with_reducible refine at_st rt6 w.heap.size (i6 z6) (i6 z6) ?_ ?_ ?_ ?_ (.tmp 4) (.tmp 66) ?_ ?_ ?_ ?_ ?_); exact K0.out.bx 0 _ _ _ rfl; rfl; rfl; exact i6_one _; rfl; rfl; rfl; rfl; intro y2 hw2; have K2 : Hid (Fm w [(w.heap.size, i6 z6, 39)] y2) := K0.out.put 0 _ _ _ _ rfl hw2.out))
  exact ret_row2 rt6 rfl rfl rfl (K2.out.bx 0 _ _ _ rfl) rfl rfl (RrE.flat _ rfl rfl (fun q e => by cases e) K2.out.low)
theorem dread_at_y (w : World) (sp : Option Addr) (cap : Nat) (x0 x1 : ByteArray) (hx : x0 = wAt) (h0 : Hid (∃ g, sp = some ⟨g, 0, none⟩ ∧ w.cell? ⟨g, 0, none⟩ = some (.string x0) ∧ w.cell? ⟨g, 1, none⟩ = some (.string x1))) (hs : x1.size ≤ 1000000) (hz : x1.size = 4) (he : numE x1 = 0) : Calls Tryd.prog 34 #[.slice sp 2 cap, .bool false] w (RrE w (some ⟨4, E0, numV x1, E0, 0, []⟩)) := by
  have K1 : Hid (Fm w [(w.heap.size, i6 z6, 39)] (w.alloc (.cells #[.int .u8 0, .string ⟨#[]⟩, .int .i64 0, .string ⟨#[]⟩, .int .u8 0, .slice none 0 0] 39))) := Fm.one w _ _
  obtain ⟨g, rfl, hc, hc1⟩ := h0.out
  have i0 := fun v => idxT g 2 cap 0 (by omega) v
  have i1 := fun v => idxT g 2 cap 1 (by omega) v
  have hcu : Hid (∀ u, Below w.heap.size w u → u.cell? ⟨g, 1, none⟩ = some (.string x1)) := fun u hu => (hu.cell (p := ⟨g, 1, none⟩) (World.block_lt_of_cell? w _ hc1)).trans hc1
  have c0 : (w.alloc (.cells #[.int .u8 0, .string ⟨#[]⟩, .int .i64 0, .string ⟨#[]⟩, .int .u8 0, .slice none 0 0] 39)).cell? ⟨g, 0, none⟩ = some (.string x0) := (K1.out.low.cell (p := ⟨g, 0, none⟩) (World.block_lt_of_cell? w _ hc)).trans hc
  have c1 : (w.alloc (.cells #[.int .u8 0, .string ⟨#[]⟩, .int .i64 0, .string ⟨#[]⟩, .int .u8 0, .slice none 0 0] 39)).cell? ⟨g, 1, none⟩ = some (.string x1) := hcu.out _ K1.out.low
  have q1 : (x0.toList == [100, 97, 116, 97]) = false := by rw [str_is, hx]; decide
  have q2 : (x0.toList == [97, 116]) = true := by rw [str_is]; exact decide_eq_true hx
  have si : (x1.size : Int) ≤ 1000000 := by omega
  replace hc : Hid _ := hc
  replace hc1 : Hid _ := hc1
  have q4 : ((x1.size : Int) != 4) = false := by rw [bne_eq_false_iff_eq]; omega
  have hN := fun v => rnumber_any x1 v (by unfold maxLen; omega)
  have hbd := numV_bd he
  rw [hz] at hbd
  have hback := numV_back he (by omega)
  rw [hz] at hback
  have hH := fun v => rhex_any (numV x1) 4 v (by omega)
  rw [show ((4 : Nat) : Int) = 4 from rfl] at hback
  rw [hback] at hH
  rw [he] at hN
  generalize numV x1 = V at hN hH hbd
  have v0 : 0 ≤ V := hbd.1
  have v1 : V < 65536 := hbd.2
  replace hH : Hid _ := hH
  have qx := str_eq (rfl : x1 = x1)
  clear hx hz hs he hbd hback
  go_enter Tryd.func34, Tryd.ntmps34
  go_wp2_with (go_at_call 59; refine (hN _).mono ?_; rintro e y1 ⟨rfl, rfl⟩)
  refine region_class_tail 9 (Fm w [(w.heap.size, i6 z6, 39)]) (by kernel_rfl) (by kernel_rfl) (K1.out.below (below_drew (Below.refl _ _))) ?_
  simp only [List.take_succ_cons, List.take_zero, List.drop_succ_cons, List.drop_zero]
  with_reducible refine quiet_one (.int .i64 0) ?_ ?_ ?_
  · kernel_rfl
  · intro u hy
    go_simp
  with_reducible refine quiet_one (.bool false) ?_ ?_ ?_
  · kernel_rfl
  · intro u hy
    go_simp
  with_reducible refine quiet_one (.bool false) ?_ ?_ ?_
  · kernel_rfl
  · intro u hy
    go_simp
  with_reducible refine quiet_one (.int .i64 V) ?_ ?_ ?_
  · kernel_rfl
  · intro u hy
    go_simp
  with_reducible refine quiet_one (.string x1) ?_ ?_ ?_
  · kernel_rfl
  · intro u hy
    have d := (hH.out u).mono fun e w' (h : _ ∧ _) => And.intro h.1 (hy.below h.2)
    go_simp
    all_goals exact d
  with_reducible refine quiet_one (.slice (some ⟨g, 0, none⟩) 2 cap) ?_ ?_ ?_
  · kernel_rfl
  · intro u hy
    go_simp
  with_reducible refine quiet_one (.pointer (some ⟨g, 1, none⟩)) ?_ ?_ ?_
  · kernel_rfl
  · intro u hy
    go_simp
  with_reducible refine quiet_one (.string x1) ?_ ?_ ?_
  · kernel_rfl
  · intro u hy
    have dd := hcu.out u hy.low
    go_simp
  with_reducible refine quiet_one (.bool false) ?_ ?_ ?_
  · kernel_rfl
  · intro u hy
    go_simp
  refine wpQuiet_nil ?_
  intro z0 K0
  replace K0 : Hid _ := K0
  go_simp
  go_wp2_with (first
    | ((with_reducible refine at_bu #[(0, .const (.int .u8 4)), (2, .tmp 67)] [(0, .int .u8 4), (2, .int .i64 V)] (i6 (atR V)) ?_ ?_ ?_ (built_at V) ?_); kernel_rfl; rfl; rfl)
    | ((with_reducible refine at_st rt6 w.heap.size (i6 z6) (i6 (atR V)) ?_ ?_ ?_ ?_ (.tmp 4) (.tmp 68) ?_ ?_ ?_ ?_ ?_); exact K0.out.bx 0 _ _ _ rfl; rfl; rfl; exact i6_one _; rfl; rfl; rfl; rfl; intro y2 hw2; have K2 : Hid (Fm w [(w.heap.size, i6 (atR V), 39)] y2) := K0.out.put 0 _ _ _ _ rfl hw2.out))
  exact ret_row2 rt6 rfl rfl rfl (K2.out.bx 0 _ _ _ rfl) rfl rfl (RrE.flat _ rfl rfl (fun q e => by cases e; exact ⟨rfl, rfl⟩) K2.out.low)
theorem dread_any (w : World) (sp : Option Addr) (cap : Nat) (ws : List ByteArray) (front : Bool) (hw : Hid (LiesT w sp ws)) (h1 : 1 ≤ ws.length) (hn : ws.length ≤ 1000001) (hsz : Hid (∀ x ∈ ws, 0 < x.size ∧ x.size ≤ 1000000)) :
    Calls Tryd.prog 34 #[.slice sp ws.length cap, .bool front] w (RrE w (itemO front ws)) := by
  rcases ws with _ | ⟨x0, r⟩
  · simp at h1
  rw [itemO_cons]
  rw [List.length_cons] at hn ⊢
  have s0 := hsz.out x0 (List.mem_cons_self ..)
  have h0 : Hid (∃ g, sp = some ⟨g, 0, none⟩ ∧ w.cell? ⟨g, 0, none⟩ = some (.string x0)) := hw.out 0 x0 rfl
  have h01 : ∀ x1 r', r = x1 :: r' → Hid (∃ g, sp = some ⟨g, 0, none⟩ ∧ w.cell? ⟨g, 0, none⟩ = some (.string x0) ∧ w.cell? ⟨g, 1, none⟩ = some (.string x1)) := fun x1 r' e => by
    subst e
    obtain ⟨g, rfl, c0⟩ := hw.out 0 x0 rfl
    obtain ⟨g1, e1, c1⟩ := hw.out 1 x1 rfl
    cases e1
    exact ⟨g, rfl, c0, c1⟩
  cases front
  · rw [if_neg (by decide)]
    by_cases d1 : x0 = wData
    · rw [if_pos d1]
      refine dread_data w sp cap _ x0 d1 (by omega) h0 _ fun v hv => ?_
      have := ddata_any v sp cap (x0 :: r) (hw.out.below hv) (by simp) (by simpa using hn) (fun x hx => (hsz.out x hx).2)
      rw [List.length_cons] at this
      exact this
    · rw [if_neg d1]
      by_cases d2 : x0 = wAt
      · rw [if_pos d2]
        rcases r with _ | ⟨x1, _ | ⟨x2, r⟩⟩
        · exact dread_at_n w sp cap 1 x0 d2 (by omega) (by decide) (by decide) h0
        · have s1 := hsz.out x1 (by simp)
          rw [atP_1]
          by_cases z : x1.size = 4
          · by_cases e : numE x1 = 0
            · rw [if_pos ⟨z, e⟩]
              exact dread_at_y w sp cap x0 x1 d2 (h01 x1 [] rfl) s1.2 z e
            · rw [if_neg (fun h => e h.2)]
              exact dread_at_e w sp cap x0 x1 d2 (h01 x1 [] rfl) s1.2 z e
          · rw [if_neg (fun h => z h.1)]
            exact dread_at_s w sp cap x0 x1 d2 (h01 x1 [] rfl) s1.2 z
        · exact dread_at_n w sp cap _ x0 d2 (by omega) (by simp) hn h0
      · rw [if_neg d2]
        by_cases d3 : x0 = wAddr
        · rw [if_pos d3]
          rcases r with _ | ⟨x1, _ | ⟨x2, r⟩⟩
          · exact dread_addr_no w sp cap 1 x0 d3 (by omega) (by decide) (by decide) h0
          · exact dread_addr w sp cap x0 x1 d3 (h01 x1 [] rfl)
          · exact dread_addr_no w sp cap _ x0 d3 (by omega) (by simp) hn h0
        · rw [if_neg d3]
          exact dread_ord w sp cap _ x0 ⟨d1, d2, d3⟩ (by omega) h0 _ fun v hv => dord_any v sp cap x0 r (hw.out.below hv) (by omega) (fun x hx => (hsz.out x hx).2)
  · rw [if_pos rfl]
    exact dread_front w sp cap _ _ fun v hv => dlabel_any v sp cap x0 r (hw.out.below hv) (by omega) s0.1 s0.2
end Go.Proofs.YtmaedkbmjbggpaaDoor
