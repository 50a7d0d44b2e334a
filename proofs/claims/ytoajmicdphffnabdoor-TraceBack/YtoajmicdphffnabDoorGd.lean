/- A trace as bytes: the program's. -/
import Derived.Test.YtoajmicdphffnabDoorGc
import Derived.Test.YtoajmicdphffnabDoorRv
import Derived.Laws.Pointers
import Derived.Laws.Entries
import Derived.Deep.QuietTactic
namespace Go.Proofs.YtoajmicdphffnabDoor
open Go Go.RowKit
set_option linter.unusedVariables false
set_option maxHeartbeats 2000000
set_option maxRecDepth 20000

theorem catchP (p q : Nat) (v x : Value) (older : List PanicEntry) (w : World) (hp : Bx w p #[v] 23) (hq : Bx w q #[x] 24) (hne : q ≠ p) :
    CallsD Tryd.prog 18 #[.pointer (some ⟨p, 0, none⟩), .pointer (some ⟨q, 0, none⟩)] (.panicking ({ v := pv, recovered := false } :: older)) w fun e' u' w' =>
      e' = .returned (.tuple #[]) ∧ u' = .panicking ({ v := pv, recovered := true } :: older) ∧ w' = (w.setCell ⟨p, 0, none⟩ (.slice none 0 0)).setCell ⟨q, 0, none⟩ (.int .i64 1) := by
  have hp0 := hp.c 0 _ rfl
  have fp := hp.fz 0
  have hq0 : (w.setCell ⟨p, 0, none⟩ (.slice none 0 0)).cell? ⟨q, 0, none⟩ = some x := (World.cell?_of_block (w := w) (a := ⟨q, 0, none⟩) (heap_setCell_other w ⟨p, 0, none⟩ q _ hne)).trans (hq.c 0 _ rfl)
  have fq : (w.setCell ⟨p, 0, none⟩ (.slice none 0 0)).frozen? ⟨q, 0, none⟩ = false := (World.frozen?_of_block (w := w) (a := ⟨q, 0, none⟩) (heap_setCell_other w ⟨p, 0, none⟩ q _ hne)).trans (hq.fz 0)
  clear hp hq hne
  refine callsD_of_wpS Tryd.func18 rfl fun c₀ cs hu => ?_
  rw [show (#[.pointer (some ⟨p, 0, none⟩), .pointer (some ⟨q, 0, none⟩)] ++ Array.replicate (Tryd.f18.ntmps - (#[.pointer (some ⟨p, 0, none⟩), .pointer (some ⟨q, 0, none⟩)] : Array Value).size) undef : Array Value) = #[.pointer (some ⟨p, 0, none⟩), .pointer (some ⟨q, 0, none⟩), undef, undef] from by rw [Tryd.ntmps18]; rfl]
  refine wpS_rec (v := pv) (cs' := { c₀ with mode := .panicking ({ v := pv, recovered := true } :: older) } :: cs) rfl (by kernel_rfl) (by rfl) (.inl (by simp [recoverD, hu, pv])) ?_
  unfold pv
  go_simp
  go_wp2
  exact ⟨rfl, _, rfl, .tuple #[], by simp [results, Tryd.results18], rfl, rfl, rfl⟩
theorem restP (p q : Nat) (w : World) :
    CallsD Tryd.prog 18 #[.pointer (some ⟨p, 0, none⟩), .pointer (some ⟨q, 0, none⟩)] .returning w fun e' u' w' => e' = .returned (.tuple #[]) ∧ u' = .returning ∧ w' = w := by
  refine callsD_of_wpS Tryd.func18 rfl fun c₀ cs hu => ?_
  rw [show (#[.pointer (some ⟨p, 0, none⟩), .pointer (some ⟨q, 0, none⟩)] ++ Array.replicate (Tryd.f18.ntmps - (#[.pointer (some ⟨p, 0, none⟩), .pointer (some ⟨q, 0, none⟩)] : Array Value).size) undef : Array Value) = #[.pointer (some ⟨p, 0, none⟩), .pointer (some ⟨q, 0, none⟩), undef, undef] from by rw [Tryd.ntmps18]; rfl]
  refine wpS_rec (v := .nilIface) (cs' := c₀ :: cs) rfl (by kernel_rfl) (by rfl) (.inr ⟨by simp [recoverD, hu], rfl, rfl⟩) ?_
  go_simp
  go_wp2
  refine ⟨rfl, .returning, ?_, .tuple #[], by simp [results, Tryd.results18], rfl, rfl, rfl⟩
  cases c₀
  simp_all
/-- Bytes that a variable of its own holds, beside an error's. -/
structure PK (w : World) (v : Value) (l : List UInt8) (y : World) : Prop where
  kb : KB w v l y
  b0 : Bx y w.heap.size #[v] 23
  b1 : Bx y (w.heap.size + 1) #[.int .i64 0] 24
theorem KB.off {w y : World} {v : Value} {l : List UInt8} {b t : Nat} {cs : Array Value} (h : KB w v l y) (hx : Bx y b cs t) (ht : t ≠ 5) : some b ≠ v.ownBlock := fun e => by
  rcases h.1.2 with ⟨h0, _⟩ | ⟨g, cap, cur, hv, _, hg, _⟩
  · rw [h0] at e; cases e
  · rw [hv] at e
    have : b = g := by simpa [Value.ownBlock] using e
    subst this
    unfold Bx at hx
    rw [hx] at hg
    injection hg with hg
    injection hg with _ hg2 _
    exact ht hg2
theorem KB.set {w y : World} {v : Value} {l : List UInt8} (h : KB w v l y) (b : Nat) (u : Value) (hb : w.heap.size ≤ b) (hne : some b ≠ v.ownBlock) : KB w v l (y.setCell ⟨b, 0, none⟩ u) := by
  refine ⟨⟨h.1.1, ?_⟩, h.2.setCell (p := ⟨b, 0, none⟩) hb _⟩
  rcases h.1.2 with h0 | ⟨g, cap, cur, hv, hB, hg, hr⟩
  · exact .inl h0
  · exact .inr ⟨g, cap, cur, hv, hB, (heap_setCell_other y ⟨b, 0, none⟩ g u (fun e => hne (by rw [hv]; exact congrArg some (show b = g from e.symm)))).trans hg, hr⟩
theorem Bx.set1 {y : World} {b t : Nat} {x : Value} (h : Bx y b #[x] t) (u : Value) : Bx (y.setCell ⟨b, 0, none⟩ u) b #[u] t := by
  unfold Bx at h ⊢
  exact heap_setCell_same y b 0 #[x] t u h
theorem Bx.setO {y : World} {b c t : Nat} {cs : Array Value} (h : Bx y b cs t) (u : Value) (hne : b ≠ c) : Bx (y.setCell ⟨c, 0, none⟩ u) b cs t := (heap_setCell_other y ⟨c, 0, none⟩ b u hne).trans h
theorem PK.set {w y y' : World} {v v' : Value} {l l' : List UInt8} (h : PK w v l y) (k : KB w v' l' y' ∧ ∀ q, q < y.heap.size → some q ≠ v.ownBlock → y'.heap[q]? = y.heap[q]?) : PK w v' l' (y'.setCell ⟨w.heap.size, 0, none⟩ v') := by
  have h0 : Bx y' w.heap.size #[v] 23 := (k.2 _ (heap_lt h.b0) (h.kb.off h.b0 (by decide))).trans h.b0
  have h1 : Bx y' (w.heap.size + 1) #[.int .i64 0] 24 := (k.2 _ (heap_lt h.b1) (h.kb.off h.b1 (by decide))).trans h.b1
  exact ⟨k.1.set _ _ (Nat.le_refl _) (k.1.off h0 (by decide)), h0.set1 _, h1.setO _ (by omega)⟩
theorem PK.below {w y z : World} {v : Value} {l : List UInt8} (h : PK w v l y) (hb : Below y.heap.size y z) : PK w v l z := ⟨h.kb.below hb, (hb.block _ (heap_lt h.b0)).trans h.b0, (hb.block _ (heap_lt h.b1)).trans h.b1⟩
theorem PK.start (w : World) : PK w (.slice none 0 0) [] ((w.alloc (.cells #[.slice none 0 0] 23)).alloc (.cells #[.int .i64 0] 24)) := by
  have F := Fm.two w #[.slice none 0 0] #[.int .i64 0] 23 24
  exact ⟨(KB.nil w).below F.low, F.bx 0 _ _ _ rfl, F.bx 1 _ _ _ rfl⟩
theorem KB.op {w y : World} {v : Value} {l : List UInt8} (h : KB w v l y) : ∃ sp k cap, v = .slice sp k cap := by
  obtain ⟨⟨a, b, c⟩, _⟩ := h.open
  exact ⟨_, _, _, c⟩
theorem PK.opened {w y z : World} {v : Value} {l : List UInt8} (h : PK w (.slice none 0 0) [] y) (k : KB y v l z) : KB w v l z ∧ ∀ q, q < y.heap.size → some q ≠ (Value.slice none 0 0).ownBlock → z.heap[q]? = y.heap[q]? := ⟨k.weak h.kb.2, fun q hq _ => k.2.block q hq⟩
theorem PK.at {w y y' : World} {v v' : Value} {l l' : List UInt8} (h : PK w v l y) (k : KB w v' l' y' ∧ ∀ q, q < y.heap.size → some q ≠ v.ownBlock → y'.heap[q]? = y.heap[q]?) : Bx y' w.heap.size #[v] 23 := (k.2 _ (heap_lt h.b0) (h.kb.off h.b0 (by decide))).trans h.b0
theorem PK.box {w y y2 y' : World} {v v' : Value} {l l' : List UInt8} {r : Rc} (h : PK w v l y) (hF : Fm y [(y.heap.size, rcC r, 45)] y2) (k : KB w v' l' y' ∧ ∀ q, q < y2.heap.size → some q ≠ v.ownBlock → y'.heap[q]? = y2.heap[q]?) (u : Value) : Bx (y'.setCell ⟨w.heap.size, 0, none⟩ u) y.heap.size (rcC r) 45 := by
  have hb := hF.bx 0 _ _ _ rfl
  have h1 : Bx y' y.heap.size (rcC r) 45 := (k.2 _ (heap_lt hb) ((h.below hF.low).kb.off hb (by decide))).trans hb
  exact h1.setO u (by have := heap_lt h.b0; omega)
theorem PK.two {w y : World} {v : Value} {l : List UInt8} (h : PK w v l y) (u e : Value) : Bx ((y.setCell ⟨w.heap.size, 0, none⟩ u).setCell ⟨w.heap.size + 1, 0, none⟩ e) w.heap.size #[u] 23 ∧ Bx ((y.setCell ⟨w.heap.size, 0, none⟩ u).setCell ⟨w.heap.size + 1, 0, none⟩ e) (w.heap.size + 1) #[e] 24 ∧ Bx (y.setCell ⟨w.heap.size, 0, none⟩ u) (w.heap.size + 1) #[.int .i64 0] 24 :=
  ⟨(h.b0.set1 u).setO e (by omega), (h.b1.setO u (by omega)).set1 e, h.b1.setO u (by omega)⟩
theorem PK.end {w y : World} {v : Value} {l : List UInt8} (h : PK w v l y) (e : Value) : KB w v l ((y.setCell ⟨w.heap.size, 0, none⟩ v).setCell ⟨w.heap.size + 1, 0, none⟩ e) :=
  (h.kb.set _ _ (Nat.le_refl _) (h.kb.off h.b0 (by decide))).set _ _ (by omega) (h.kb.off h.b1 (by decide))
theorem PK.nil {w y : World} {v : Value} {l : List UInt8} (h : PK w v l y) (e : Value) : KB w (.slice none 0 0) [] ((y.setCell ⟨w.heap.size, 0, none⟩ (.slice none 0 0)).setCell ⟨w.heap.size + 1, 0, none⟩ e) :=
  ⟨World.ownsRow_nil _ _ _ 1, (h.kb.2.setCell (p := ⟨w.heap.size, 0, none⟩) (Nat.le_refl _) _).setCell (p := ⟨w.heap.size + 1, 0, none⟩) (Nat.le_succ _) _⟩
theorem ppack_any (w : World) (sp : Option Addr) (cap : Nat) (l : List Rc) (hl : Hid (LiesR w sp l)) (hn : l.length ≤ 9223372036854775807) (hk : Hid (AllG l)) :
    Calls Tryd.prog 5 #[.slice sp l.length cap] w fun e w' => ∃ v, e = .returned (.tuple #[v, .int .i64 (checkR l)]) ∧ Hid (KB w v (packB l) w') := by
  have hmf : ∀ (fn : Fn) (first cap : Array Value) (w : World), (Instr.makeFunc fn first cap).run Tryd.prog w = .ok (.func fn first cap) w := fun _ _ _ _ => rfl
  have hS : Hid (PK w (.slice none 0 0) [] ((w.alloc (.cells #[.slice none 0 0] 23)).alloc (.cells #[.int .i64 0] 24))) := PK.start w
  obtain ⟨n, hn'⟩ : ∃ n, l.length = n := ⟨_, rfl⟩
  have ni : (n : Int) ≤ 9223372036854775807 := by omega
  by_cases hbig : 4194304 < n
  · have e1 : checkR l = 2 := by unfold checkR; rw [if_pos (by omega)]
    have e2 : packB l = [] := by unfold packB; rw [e1, if_neg (by decide)]
    rw [e1, e2, hn']
    have q : decide ((4194304 : Int) < n) = true := by simp; omega
    clear hbig hn hn' e1 e2
    go_enter_defers Tryd.func5, Tryd.ntmps5
    go_wp2
    refine leaves_cons (f := 18) (args := #[.pointer (some ⟨w.heap.size, 0, none⟩), .pointer (some ⟨w.heap.size + 1, 0, none⟩)]) (by simp) (by simp [go_sem]) ?_
    refine (restP _ _ _).mono ?_
    rintro e u' w' ⟨rfl, rfl, rfl⟩
    have F2 := Fm.two w #[.slice none 0 0] #[.int .i64 2] 23 24
    have h1 := (F2.bx 0 _ _ _ rfl).c 0 _ rfl
    have h2 := (F2.bx 1 _ _ _ rfl).c 0 _ rfl
    have fin : Hid (KB w (.slice none 0 0) [] ((w.alloc (.cells #[.slice none 0 0] 23)).alloc (.cells #[.int .i64 2] 24))) := (KB.nil w).below F2.low
    generalize (w.alloc (.cells #[.slice none 0 0] 23)).alloc (.cells #[.int .i64 2] 24) = W at h1 h2 fin ⊢
    clear F2
    simp [Leaves, settle, results, Tryd.results5, go_sem, h1, h2]
    exact fin
  have q : decide ((4194304 : Int) < n) = false := by simp; omega
  have ni4 : (n : Int) ≤ 4194304 := by omega
  have hl' : Hid (l.length = n) := hn'
  have hlS : ∀ y, Below w.heap.size w y → Hid (LiesR y sp l) := fun y hb => hl.out.below hb
  by_cases hall : allM l = true
  · have h0 : checkR l = 0 := by unfold checkR; rw [if_neg (by omega), if_pos hall]
    obtain ⟨PL, hPL⟩ : ∃ x, packB l = x := ⟨_, rfl⟩
    have hPL' : Hid (PL = begP n ++ packGo l 0) := by show _ = _; rw [← hPL]; unfold packB packR; rw [if_pos h0, hn']
    have hgood : Hid (∀ s ∈ l, Rr s ∧ mayR s = true) := fun s hs => ⟨hk.out s hs, allM_mem hall s hs⟩
    have hN : Hid (∀ y, Below w.heap.size w y → Calls Tryd.prog 12 #[.slice sp n cap] y fun e w' => e = .returned (.tuple #[]) ∧ Below y.heap.size y w') := fun y hb => by
      have := all_ok y sp cap l (hlS y hb) (by omega) hall
      rw [hn'] at this
      exact this
    have hO := fun y => open_any y n (by omega)
    have zz := zeroV_R
    rw [h0, hPL, hn']
    replace hlS : Hid _ := hlS
    clear hbig hn hn' hall hPL h0
    go_enter_defers Tryd.func5, Tryd.ntmps5
    go_wp2_with (first
      | (go_at_call 12; refine (hN.out _ hS.out.kb.2).mono ?_; rintro e y2 ⟨rfl, hb2⟩; have K2 : Hid (PK w (.slice none 0 0) [] y2) := hS.out.below hb2; clear hb2)
      | (go_at_call 19; refine (hO y2).mono ?_; rintro e y3 ⟨v3, rfl, K3⟩; have K3' : Hid _ := PK.opened K2.out K3.out; obtain ⟨s3, k3, p3, rfl⟩ := K3'.out.1.op; have c3 := (PK.at K2.out K3'.out).c 0 _ rfl; have f3 := (PK.at K2.out K3'.out).fz 0))
    have K4 : Hid (PK w (.slice s3 k3 p3) (begP n) (y3.setCell ⟨w.heap.size, 0, none⟩ (.slice s3 k3 p3))) := PK.set K2.out K3'.out
    generalize y3.setCell ⟨w.heap.size, 0, none⟩ (.slice s3 k3 p3) = y4 at K4 ⊢
    generalize Value.slice s3 k3 p3 = v3 at K4
    clear c3 f3 K3 K3' K2 hN hO
    go_loopw [4, 18] (fun u t wz => ∃ (i : Nat) (va : Value) (B : List UInt8) (next : Int) (y : World), y = wz ∧ u = .int .u16 next ∧ t = .int .i64 (i : Int) ∧ Hid (i ≤ n ∧ B.length ≤ 8 + 5 * i ∧ PL = B ++ packGo (l.drop i) next) ∧ Hid (PK w va B y)) (fun _ t _ => (n - intOf t).toNat)
    case atStart => exact ⟨0, v3, begP n, 0, _, rfl, rfl, rfl, ⟨Nat.zero_le _, Nat.le_refl _, hPL'.out⟩, K4⟩
    case round =>
      obtain ⟨i, va, B, next, y, rfl, rfl, rfl, J, K⟩ := hrel
      by_cases hlt : i < n
      · obtain ⟨s, hs, hdrop⟩ := at_list hl'.out hlt
        obtain ⟨gb, ob, hsp, hR⟩ := hl.out i s hs
        subst hsp
        have hR : Hid (y.rangeAt gb (ob + i * 8) (rcC s).toList) := range_keep hR K.out.kb.2
        have ij := fun v => idxP (g := gb) (off := ob) (len := n) (cap := cap) Tryd.underlying22 (s := 8) (by kernel_rfl) .i64 i v hlt
        have hji : (i : Int) < n := by omega
        have hi' : Hid (i < n) := hlt
        have gs := hgood.out s (List.mem_of_getElem? hs)
        have J2 : Hid (PL = B ++ bytesR s next ++ packGo (l.drop (i + 1)) ((s.ad + 1) % 65536)) := by
          have h1 := J.out
          rw [hdrop] at h1
          show PL = _
          rw [h1.2.2]
          simp [packGo]
        have hBl : B.length ≤ 20971528 := by have := J.out; have := hi'.out; have := ni4; omega
        have hA : Hid (∀ y0 : World, KB w va B y0 → Calls Tryd.prog 20 #[va, .agg (rcC s), .int .u16 next] y0 fun e y' => ∃ v', e = .returned v' ∧ Hid (KB w v' (B ++ bytesR s next) y' ∧ ∀ q, q < y0.heap.size → some q ≠ va.ownBlock → y'.heap[q]? = y0.heap[q]?)) := fun y0 h => app_any w y0 va B s next h gs.1 gs.2 hBl
        have hbl : Hid ((bytesR s next).length ≤ 5) := by show _ ≤ 5; unfold bytesR; cases farR s next <;> simp
        have a0 := gs.1.a0
        have a1 := gs.1.a1
        obtain ⟨ad, had⟩ : ∃ x, s.ad = x := ⟨_, rfl⟩
        rw [had] at J2 a0 a1
        replace hs : Hid _ := hs
        replace hdrop : Hid _ := hdrop
        replace gs : Hid _ := gs
        replace had : Hid _ := had
        clear hlt hBl
        go_wp2_with (first
          | ((with_reducible refine at_loadm rtR gb (ob + i * 8) (rcC s) ?_ ?_ (.tmp 20) ?_ ?_ ?_ ?_); exact hR.out; rfl; kernel_rfl; rfl; rfl)
          | ((with_reducible refine gen_world (y.alloc (.cells (rcC zR) 45)) (Fm y [(y.heap.size, rcC zR, 45)]) ?_ ?_); exact Fm.one y _ _; intro y1 K1)
          | ((with_reducible refine at_st rtR y.heap.size (rcC zR) (rcC s) ?_ ?_ ?_ ?_ (.tmp 6) (.tmp 21) ?_ ?_ ?_ ?_ ?_); exact K1.out.bx 0 _ _ _ rfl; rfl; rfl; exact rcC_one _; rfl; rfl; rfl; rfl; intro y2 hw2; have K2 : Hid (Fm y [(y.heap.size, rcC s, 45)] y2) := K1.out.put 0 _ _ _ _ rfl hw2.out; have P2 : Hid (PK w va B y2) := K.out.below K2.out.low; have c2 := P2.out.b0.c 0 _ rfl)
          | ((with_reducible refine at_load rtR y.heap.size (rcC s) ?_ ?_ (.tmp 6) ?_ ?_ ?_ ?_); exact K2.out.bx 0 _ _ _ rfl; rfl; kernel_rfl; rfl; rfl)
          | (go_at_call 20; refine (hA.out y2 P2.out.kb).mono ?_; rintro e y3 ⟨v3, rfl, K3⟩; obtain ⟨s3, k3, p3, rfl⟩ := K3.out.1.op; have c3 := (PK.at P2.out K3.out).c 0 _ rfl; have f3 := (PK.at P2.out K3.out).fz 0; have d1 := (PK.box K.out K2.out K3.out (.slice s3 k3 p3)).c 1 _ (rcC_ad s); rw [had.out] at d1))
        go_roundw
        case rel =>
          refine ⟨i + 1, _, B ++ bytesR s next, _, _, rfl, rfl, by simp, ⟨hi'.out, ?_, ?_⟩, PK.set P2.out K3.out⟩
          · have h1 := J.out
            have h2 := hbl.out
            rw [List.length_append]
            omega
          · first | exact J2.out | (rw [J2.out]; congr 2; omega)
        case measure => have := hi'.out; simp [intOf]; omega
      · have hin : i = n := by have := J.out.1; omega
        subst hin
        have hB : B = PL := by
          have h1 := J.out.2.2
          rw [List.drop_eq_nil_of_le (by rw [hl'.out]; exact Nat.le_refl _), show packGo [] next = [] from rfl, List.append_nil] at h1
          exact h1.symm
        subst hB
        obtain ⟨s3, k3, p3, rfl⟩ := K.out.kb.op
        have c0 := K.out.b0.c 0 _ rfl
        have f0 := K.out.b0.fz 0
        have c1 := (K.out.two (.slice s3 k3 p3) (.int .i64 0)).2.2.c 0 _ rfl
        have f1 := (K.out.two (.slice s3 k3 p3) (.int .i64 0)).2.2.fz 0
        have r1 := (K.out.two (.slice s3 k3 p3) (.int .i64 0)).1.c 0 _ rfl
        have r2 := (K.out.two (.slice s3 k3 p3) (.int .i64 0)).2.1.c 0 _ rfl
        have fin : Hid (KB w (.slice s3 k3 p3) B ((y.setCell ⟨w.heap.size, 0, none⟩ (.slice s3 k3 p3)).setCell ⟨w.heap.size + 1, 0, none⟩ (.int .i64 0))) := K.out.end _
        clear hlt
        go_wp2
        refine leaves_cons (f := 18) (args := #[.pointer (some ⟨w.heap.size, 0, none⟩), .pointer (some ⟨w.heap.size + 1, 0, none⟩)]) (by simp) (by simp [go_sem]) ?_
        refine (restP _ _ _).mono ?_
        rintro e u' w' ⟨rfl, rfl, rfl⟩
        simp [Leaves, settle, results, Tryd.results5, go_sem, r1, r2]
        exact fin
  · have h0 : checkR l = 1 := by unfold checkR; rw [if_neg (by omega), if_neg hall]
    have e2 : packB l = [] := by unfold packB; rw [h0, if_neg (by decide)]
    have hN : Hid (∀ y, Below w.heap.size w y → Calls Tryd.prog 12 #[.slice sp n cap] y fun e w' => e = .panicked [{ v := pv, recovered := false }] ∧ Below y.heap.size y w') := fun y hb => by
      have := all_no y sp cap l (hlS y hb) (by omega) (show allM l = false by simpa using hall)
      rw [hn'] at this
      exact this
    rw [h0, e2, hn']
    replace hlS : Hid _ := hlS
    clear hbig hn hn' hall h0 e2
    go_enter_defers Tryd.func5, Tryd.ntmps5
    go_wp2_with (go_at_call 12; refine (hN.out _ hS.out.kb.2).mono ?_; rintro e y2 ⟨rfl, hb2⟩; have K2 : Hid (PK w (.slice none 0 0) [] y2) := hS.out.below hb2; clear hb2)
    refine leaves_cons (f := 18) (args := #[.pointer (some ⟨w.heap.size, 0, none⟩), .pointer (some ⟨w.heap.size + 1, 0, none⟩)]) (by simp) (by simp [go_sem]) ?_
    refine (catchP w.heap.size (w.heap.size + 1) _ _ [] _ K2.out.b0 K2.out.b1 (by omega)).mono ?_
    rintro e u' w' ⟨rfl, rfl, rfl⟩
    have r1 := (K2.out.two (.slice none 0 0) (.int .i64 1)).1.c 0 _ rfl
    have r2 := (K2.out.two (.slice none 0 0) (.int .i64 1)).2.1.c 0 _ rfl
    have fin : Hid _ := K2.out.nil (.int .i64 1)
    simp [Leaves, settle, results, Tryd.results5, go_sem, r1, r2]
    exact fin
end Go.Proofs.YtoajmicdphffnabDoor
