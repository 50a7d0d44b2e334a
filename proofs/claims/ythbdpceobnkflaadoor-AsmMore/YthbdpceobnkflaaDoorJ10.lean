/- A piece that is laid on the sheet. -/
import Derived.Test.YthbdpceobnkflaaDoorJ9
namespace Go.Proofs.YthbdpceobnkflaaDoor
open Go Go.RowKit
set_option linter.unusedVariables false
set_option maxHeartbeats 3000000
set_option maxRecDepth 20000

theorem infoLp : (Tryd.prog.info? 72).map (fun i => (i.zero, i.size, i.bytes)) = some (some (.agg #[.nilIface, .int .i64 0]), 2, 24) := by kernel_rfl
theorem kLp : KdL (α := Lp) 66 72 2 24 cLp := by
  obtain ⟨i, hi, hz0, hz1, hz2⟩ := info_parts infoLp
  exact ⟨Tryd.underlying66, ⟨i, _, hi, hz0, hz1, hz2, rfl⟩, fun x => rfl, fun x v hv => by simp [cLp, lpA] at hv; rcases hv with rfl | rfl <;> rfl, by decide, by decide⟩
theorem szN_k {r : Ri} (h : mayI r = true) (hk : r.k = 3) : szN r = r.m ∧ r.m ≤ 256 ∧ 1 ≤ r.m := by
  have h1 := h
  rw [may3 hk] at h1
  simp at h1
  unfold szN sizeI
  rw [h, if_pos rfl, if_neg (by omega), if_pos hk]
  exact ⟨by simp, h1.1.2, h1.1.1⟩
theorem szN_a {r : Ri} (h : mayI r = true) (hk : r.k = 5) : szN r = 2 := by
  unfold szN sizeI
  rw [h, if_pos rfl, if_neg (by omega), if_neg (by omega), if_pos hk]
  rfl
theorem lay_le (n : Nat) (hn : n < 256) : lay (fm n * 3) ≤ 3 ∧ 1 ≤ lay (fm n * 3) := by
  have := by1_eq n hn
  unfold by1 at this
  rw [this]
  split
  · omega
  · split <;> omega
theorem szN_c {r : Ri} (h : mayI r = true) (hk : r.k = 2) {n : Nat} (ho : opOf r.n = some n) : szN r = lay (fm n * 3) := by
  unfold szN sizeI
  rw [h, if_pos rfl, if_pos hk, ho]
  simp
/-- What lay does with the sheet. -/
def LyE (B : Nat) (q : Nu) (s : Sh) (r : Ri) (M : List UInt8) (l : List Lp) (t : TypeId) (v : Value) (y : World) (e : Ending) (z : World) : Prop := e = .returned (.int .i64 (stE s r)) ∧ Hid (Kx B y z ∧ (stE s r = 0 → ∃ vl', Sht B q (stS s r) M vl' (l ++ [⟨t, v, s.p⟩]) z))
section
variable {B : Nat} {q : Nu} {s : Sh} {M : List UInt8} {vl v' : Value} {l : List Lp} {z z1 : World} {x : Lp}
theorem app_bx {o : Obj} (h : OwnL 72 2 cLp B z vl l) (A : App1L 72 2 cLp B vl l x v' (z.alloc o) z1) {g : Nat} {cs : Array Value} {t : TypeId} (hne : 72 ≠ t) (hb : Bx z g cs t) : Bx z1 g cs t := by
  have h1 : Bx (z.alloc o) g cs t := hb.below (below1 z o)
  refine (A.cu.blk g (heap_lt h1) fun j hF => ?_).trans h1
  obtain ⟨c9, h9⟩ := h.ty g hF.1
  have := hb.symm.trans h9
  simp at this
  exact hne this.2.symm
theorem app_map {o : Obj} (h : OwnL 72 2 cLp B z vl l) (A : App1L 72 2 cLp B vl l x v' (z.alloc o) z1) {g : Nat} {F : List (ByteArray × Nat)} (hb : MapE z g F) : MapE z1 g F := by
  have h1 : MapE (z.alloc o) g F := hb.keep ((below1 z o).block g hb.lt)
  refine h1.keep (A.cu.blk g h1.lt fun j hF => ?_)
  obtain ⟨c9, h9⟩ := h.ty g hF.1
  obtain ⟨es, ck, hm⟩ := hb.block
  have := hm.symm.trans h9
  simp at this
theorem Sht.lay1 {o : Obj} (h : Sht B q s M vl l z) (A : App1L 72 2 cLp B vl l x v' (z.alloc o) z1) : z1.cell? ⟨q.s, 1, none⟩ = some vl ∧ z1.frozen? ⟨q.s, 1, none⟩ = false ∧ Kx B z (z1.setCell ⟨q.s, 1, none⟩ v') ∧ Sht B q s M v' (l ++ [x]) (z1.setCell ⟨q.s, 1, none⟩ v') := by
  have hb : Bx z1 q.s (sC q s.p vl) 70 := app_bx h.o A (by decide) h.bx
  have g1 : ∀ g, g ≠ q.s → (z1.setCell ⟨q.s, 1, none⟩ v').heap[g]? = z1.heap[g]? := fun g hg => heap_setCell_other z1 ⟨q.s, 1, none⟩ g _ hg
  refine ⟨hb.c 1 _ rfl, hb.fz 1, ⟨((below1 z o).mono h.Ble).trans (A.cu.low.setCell (p := ⟨q.s, 1, none⟩) h.lo.1 _), fun g cs k => bx_other hb (by decide) g1 (app_bx h.o A (by decide) k)⟩, h.ok, ?_, bx_other hb (by decide) g1 (app_bx h.o A (by decide) h.u), bx_other hb (by decide) g1 (app_bx h.o A (by decide) h.b), map_other hb g1 (app_map h.o A h.m), own_other hb (by decide) g1 A.own, h.lo⟩
  have := heap_setCell_same z1 q.s 1 _ _ v' hb
  refine this.trans ?_
  simp [sC]
end
theorem lay_label (B : Nat) (q : Nu) (s : Sh) (M : List UInt8) (vl : Value) (l : List Lp) (y : World) (h : Hid (Sht B q s M vl l y)) (hl : l.length ≤ 4096) (r : Ri) (hk : r.k = 1) :
    Calls Tryd.prog 22 #[.pointer (some ⟨q.s, 0, none⟩), .iface 93 (.agg #[.string r.n])] y (LyE B q s r M l 93 (.agg #[.string r.n]) y) := by
  have c0 : y.cell? ⟨q.s, 0, none⟩ = some (.int .i64 (s.p : Int)) := h.out.bx.c 0 _ rfl
  have cT := take_label B q s M vl l y h r.n
  have e1 : stE s r = nmE s r.n := by unfold stE; rw [if_pos hk]
  have e2 : stS s r = nmS s r.n := by unfold stS; rw [if_pos hk]
  rw [← e1, ← e2] at cT
  have hl' : Hid (l.length ≤ 4096) := hl
  have fin : Hid (∀ e z, e = .returned (.int .i64 (stE s r)) → (Kx B y z ∧ (stE s r = 0 → ∃ vl', Sht B q (stS s r) M vl' (l ++ [⟨93, .agg #[.string r.n], s.p⟩]) z)) → LyE B q s r M l 93 (.agg #[.string r.n]) y e z) := fun e z h1 h2 => ⟨h1, h2⟩
  generalize stE s r = E at cT fin
  generalize stS s r = S' at cT fin
  generalize LyE B q s r M l 93 (.agg #[.string r.n]) y = Fin at fin ⊢
  clear e1 e2 hk hl
  by_cases hE : E = 0
  · subst hE
    go_enter Tryd.func22, Tryd.ntmps22
    go_wp2_with (first
      | (go_at_call 100; refine cT.mono ?_; rintro e z ⟨rfl, H⟩; have K1 : Hid (Sht B q S' M vl l z) := H.out.2 rfl; have k1 : Hid (Kx B y z) := H.out.1; clear cT H; have d1 : z.cell? ⟨q.s, 1, none⟩ = some vl := K1.out.bx.c 1 _ rfl)
      | (at_builtin; refine at_appL kLp rfl (.tmp 21) (.tmp 25) rfl B vl l rfl (K1.out.o.alloc _) z.heap.size ⟨93, .agg #[.string r.n], s.p⟩ rfl (one_bxL _ _ _) ?_ ?_ ?_; (have := hl'.out; omega); (have := K1.out.Ble; simp; omega); intro v' z1 A; obtain ⟨sp9, cp9, e9, _⟩ := OwnL.open (c := cLp) (s := 2) (fun _ => rfl) A.out.own; rw [List.length_append, List.length_singleton] at e9; subst e9; have Z : Hid _ := K1.out.lay1 A.out; have f1 := Z.out.1; have f2 := Z.out.2.1; clear A d1))
    exact fin.out _ _ rfl ⟨k1.out.trans Z.out.2.2.1, fun _ => ⟨_, Z.out.2.2.2⟩⟩
  · have hE' : (E != 0) = true := by rw [bne_iff_ne]; exact hE
    have hE2 : Hid (E ≠ 0) := hE
    clear hE
    go_enter Tryd.func22, Tryd.ntmps22
    go_wp2_with (go_at_call 100; refine cT.mono ?_; rintro e z ⟨rfl, H⟩; clear cT)
    exact fin.out _ _ rfl ⟨H.out.1, fun e => absurd e hE2.out⟩
theorem lay_move (B : Nat) (q : Nu) (s : Sh) (M : List UInt8) (vl : Value) (l : List Lp) (y : World) (h : Hid (Sht B q s M vl l y)) (hl : l.length ≤ 4096) (r : Ri) (hk : r.k = 4) (hm : mayI r = true) :
    Calls Tryd.prog 22 #[.pointer (some ⟨q.s, 0, none⟩), .iface 95 (.agg #[.int .i64 r.a])] y (LyE B q s r M l 95 (.agg #[.int .i64 r.a]) y) := by
  have c0 : y.cell? ⟨q.s, 0, none⟩ = some (.int .i64 (s.p : Int)) := h.out.bx.c 0 _ rfl
  have cT := take_move B q s M vl l y h r.a (may_at hm hk)
  have e1 : stE s r = 0 := by unfold stE; rw [if_neg (by omega), if_pos hk]
  have e2 : stS s r = ⟨r.a.toNat, s.U, s.N⟩ := by unfold stS; rw [if_neg (by omega), if_pos hk]
  rw [← e1, ← e2] at cT
  have hl' : Hid (l.length ≤ 4096) := hl
  have fin : Hid (∀ e z, e = .returned (.int .i64 (stE s r)) → (Kx B y z ∧ (stE s r = 0 → ∃ vl', Sht B q (stS s r) M vl' (l ++ [⟨95, .agg #[.int .i64 r.a], s.p⟩]) z)) → LyE B q s r M l 95 (.agg #[.int .i64 r.a]) y e z) := fun e z h1 h2 => ⟨h1, h2⟩
  generalize stE s r = E at cT fin
  generalize stS s r = S' at cT fin
  generalize LyE B q s r M l 95 (.agg #[.int .i64 r.a]) y = Fin at fin ⊢
  clear e1 e2 hk hm hl
  by_cases hE : E = 0
  · subst hE
    go_enter Tryd.func22, Tryd.ntmps22
    go_wp2_with (first
      | (go_at_call 103; refine cT.mono ?_; rintro e z ⟨rfl, H⟩; have K1 : Hid (Sht B q S' M vl l z) := H.out.2 rfl; have k1 : Hid (Kx B y z) := H.out.1; clear cT H; have d1 : z.cell? ⟨q.s, 1, none⟩ = some vl := K1.out.bx.c 1 _ rfl)
      | (at_builtin; refine at_appL kLp rfl (.tmp 21) (.tmp 25) rfl B vl l rfl (K1.out.o.alloc _) z.heap.size ⟨95, .agg #[.int .i64 r.a], s.p⟩ rfl (one_bxL _ _ _) ?_ ?_ ?_; (have := hl'.out; omega); (have := K1.out.Ble; simp; omega); intro v' z1 A; obtain ⟨sp9, cp9, e9, _⟩ := OwnL.open (c := cLp) (s := 2) (fun _ => rfl) A.out.own; rw [List.length_append, List.length_singleton] at e9; subst e9; have Z : Hid _ := K1.out.lay1 A.out; have f1 := Z.out.1; have f2 := Z.out.2.1; clear A d1))
    exact fin.out _ _ rfl ⟨k1.out.trans Z.out.2.2.1, fun _ => ⟨_, Z.out.2.2.2⟩⟩
  · have hE' : (E != 0) = true := by rw [bne_iff_ne]; exact hE
    have hE2 : Hid (E ≠ 0) := hE
    clear hE
    go_enter Tryd.func22, Tryd.ntmps22
    go_wp2_with (go_at_call 103; refine cT.mono ?_; rintro e z ⟨rfl, H⟩; clear cT)
    exact fin.out _ _ rfl ⟨H.out.1, fun e => absurd e hE2.out⟩
theorem lay_data (B : Nat) (q : Nu) (s : Sh) (M : List UInt8) (vl : Value) (l : List Lp) (y : World) (h : Hid (Sht B q s M vl l y)) (hl : l.length ≤ 4096) (r : Ri) (hk : r.k = 3) (hm : mayI r = true) :
    Calls Tryd.prog 22 #[.pointer (some ⟨q.s, 0, none⟩), .iface 97 (.agg #[.slice r.sp r.m r.cap])] y (LyE B q s r M l 97 (.agg #[.slice r.sp r.m r.cap]) y) := by
  have c0 : y.cell? ⟨q.s, 0, none⟩ = some (.int .i64 (s.p : Int)) := h.out.bx.c 0 _ rfl
  have cT := take_data B q s M vl l y h r.sp r.m r.cap (by have := (szN_k hm hk).2; omega)
  have e1 : stE s r = clE s r.m := by unfold stE; rw [if_neg (by omega), if_neg (by omega), (szN_k hm hk).1]
  have e2 : stS s r = clS s r.m 2 := by unfold stS useI; rw [if_neg (by omega), if_neg (by omega), (szN_k hm hk).1, if_neg (by omega)]
  rw [← e1, ← e2] at cT
  have hl' : Hid (l.length ≤ 4096) := hl
  have fin : Hid (∀ e z, e = .returned (.int .i64 (stE s r)) → (Kx B y z ∧ (stE s r = 0 → ∃ vl', Sht B q (stS s r) M vl' (l ++ [⟨97, .agg #[.slice r.sp r.m r.cap], s.p⟩]) z)) → LyE B q s r M l 97 (.agg #[.slice r.sp r.m r.cap]) y e z) := fun e z h1 h2 => ⟨h1, h2⟩
  generalize stE s r = E at cT fin
  generalize stS s r = S' at cT fin
  generalize LyE B q s r M l 97 (.agg #[.slice r.sp r.m r.cap]) y = Fin at fin ⊢
  clear e1 e2 hk hm hl
  by_cases hE : E = 0
  · subst hE
    go_enter Tryd.func22, Tryd.ntmps22
    go_wp2_with (first
      | (go_at_call 105; refine cT.mono ?_; rintro e z ⟨rfl, H⟩; have K1 : Hid (Sht B q S' M vl l z) := H.out.2 rfl; have k1 : Hid (Kx B y z) := H.out.1; clear cT H; have d1 : z.cell? ⟨q.s, 1, none⟩ = some vl := K1.out.bx.c 1 _ rfl)
      | (at_builtin; refine at_appL kLp rfl (.tmp 21) (.tmp 25) rfl B vl l rfl (K1.out.o.alloc _) z.heap.size ⟨97, .agg #[.slice r.sp r.m r.cap], s.p⟩ rfl (one_bxL _ _ _) ?_ ?_ ?_; (have := hl'.out; omega); (have := K1.out.Ble; simp; omega); intro v' z1 A; obtain ⟨sp9, cp9, e9, _⟩ := OwnL.open (c := cLp) (s := 2) (fun _ => rfl) A.out.own; rw [List.length_append, List.length_singleton] at e9; subst e9; have Z : Hid _ := K1.out.lay1 A.out; have f1 := Z.out.1; have f2 := Z.out.2.1; clear A d1))
    exact fin.out _ _ rfl ⟨k1.out.trans Z.out.2.2.1, fun _ => ⟨_, Z.out.2.2.2⟩⟩
  · have hE' : (E != 0) = true := by rw [bne_iff_ne]; exact hE
    have hE2 : Hid (E ≠ 0) := hE
    clear hE
    go_enter Tryd.func22, Tryd.ntmps22
    go_wp2_with (go_at_call 105; refine cT.mono ?_; rintro e z ⟨rfl, H⟩; clear cT)
    exact fin.out _ _ rfl ⟨H.out.1, fun e => absurd e hE2.out⟩
theorem lay_address (B : Nat) (q : Nu) (s : Sh) (M : List UInt8) (vl : Value) (l : List Lp) (y : World) (h : Hid (Sht B q s M vl l y)) (hl : l.length ≤ 4096) (r : Ri) (hk : r.k = 5) (hm : mayI r = true) :
    Calls Tryd.prog 22 #[.pointer (some ⟨q.s, 0, none⟩), .iface 99 (.agg #[.string r.l])] y (LyE B q s r M l 99 (.agg #[.string r.l]) y) := by
  have c0 : y.cell? ⟨q.s, 0, none⟩ = some (.int .i64 (s.p : Int)) := h.out.bx.c 0 _ rfl
  have cT := take_address B q s M vl l y h r.l
  have e1 : stE s r = clE s 2 := by unfold stE; rw [if_neg (by omega), if_neg (by omega), szN_a hm hk]
  have e2 : stS s r = clS s 2 2 := by unfold stS useI; rw [if_neg (by omega), if_neg (by omega), szN_a hm hk, if_neg (by omega)]
  rw [← e1, ← e2] at cT
  have hl' : Hid (l.length ≤ 4096) := hl
  have fin : Hid (∀ e z, e = .returned (.int .i64 (stE s r)) → (Kx B y z ∧ (stE s r = 0 → ∃ vl', Sht B q (stS s r) M vl' (l ++ [⟨99, .agg #[.string r.l], s.p⟩]) z)) → LyE B q s r M l 99 (.agg #[.string r.l]) y e z) := fun e z h1 h2 => ⟨h1, h2⟩
  generalize stE s r = E at cT fin
  generalize stS s r = S' at cT fin
  generalize LyE B q s r M l 99 (.agg #[.string r.l]) y = Fin at fin ⊢
  clear e1 e2 hk hm hl
  by_cases hE : E = 0
  · subst hE
    go_enter Tryd.func22, Tryd.ntmps22
    go_wp2_with (first
      | (go_at_call 108; refine cT.mono ?_; rintro e z ⟨rfl, H⟩; have K1 : Hid (Sht B q S' M vl l z) := H.out.2 rfl; have k1 : Hid (Kx B y z) := H.out.1; clear cT H; have d1 : z.cell? ⟨q.s, 1, none⟩ = some vl := K1.out.bx.c 1 _ rfl)
      | (at_builtin; refine at_appL kLp rfl (.tmp 21) (.tmp 25) rfl B vl l rfl (K1.out.o.alloc _) z.heap.size ⟨99, .agg #[.string r.l], s.p⟩ rfl (one_bxL _ _ _) ?_ ?_ ?_; (have := hl'.out; omega); (have := K1.out.Ble; simp; omega); intro v' z1 A; obtain ⟨sp9, cp9, e9, _⟩ := OwnL.open (c := cLp) (s := 2) (fun _ => rfl) A.out.own; rw [List.length_append, List.length_singleton] at e9; subst e9; have Z : Hid _ := K1.out.lay1 A.out; have f1 := Z.out.1; have f2 := Z.out.2.1; clear A d1))
    exact fin.out _ _ rfl ⟨k1.out.trans Z.out.2.2.1, fun _ => ⟨_, Z.out.2.2.2⟩⟩
  · have hE' : (E != 0) = true := by rw [bne_iff_ne]; exact hE
    have hE2 : Hid (E ≠ 0) := hE
    clear hE
    go_enter Tryd.func22, Tryd.ntmps22
    go_wp2_with (go_at_call 108; refine cT.mono ?_; rintro e z ⟨rfl, H⟩; clear cT)
    exact fin.out _ _ rfl ⟨H.out.1, fun e => absurd e hE2.out⟩
theorem lay_plain (B : Nat) (q : Nu) (s : Sh) (M : List UInt8) (vl : Value) (l : List Lp) (y : World) (h : Hid (Sht B q s M vl l y)) (hl : l.length ≤ 4096) (r : Ri) (hk : r.k = 2) (hm : mayI r = true) (n : Nat) (ho : opOf r.n = some n) (L : Nat) (hL : L = lay (fm n * 3)) (sp : Option Addr) :
    Calls Tryd.prog 22 #[.pointer (some ⟨q.s, 0, none⟩), .iface 101 (.agg #[.slice sp L L])] y (LyE B q s r M l 101 (.agg #[.slice sp L L]) y) := by
  have c0 : y.cell? ⟨q.s, 0, none⟩ = some (.int .i64 (s.p : Int)) := h.out.bx.c 0 _ rfl
  have cT := take_plain B q s M vl l y h sp L L (by have := (lay_le n (opOf_lt ho).1).1; omega)
  have e1 : stE s r = clE s L := by unfold stE; rw [if_neg (by omega), if_neg (by omega), szN_c hm hk ho, hL]
  have e2 : stS s r = clS s L 1 := by unfold stS useI; rw [if_neg (by omega), if_neg (by omega), szN_c hm hk ho, if_pos hk, hL]
  rw [← e1, ← e2] at cT
  have hl' : Hid (l.length ≤ 4096) := hl
  have fin : Hid (∀ e z, e = .returned (.int .i64 (stE s r)) → (Kx B y z ∧ (stE s r = 0 → ∃ vl', Sht B q (stS s r) M vl' (l ++ [⟨101, .agg #[.slice sp L L], s.p⟩]) z)) → LyE B q s r M l 101 (.agg #[.slice sp L L]) y e z) := fun e z h1 h2 => ⟨h1, h2⟩
  generalize stE s r = E at cT fin
  generalize stS s r = S' at cT fin
  generalize LyE B q s r M l 101 (.agg #[.slice sp L L]) y = Fin at fin ⊢
  clear e1 e2 hk hm ho hL hl
  by_cases hE : E = 0
  · subst hE
    go_enter Tryd.func22, Tryd.ntmps22
    go_wp2_with (first
      | (go_at_call 110; refine cT.mono ?_; rintro e z ⟨rfl, H⟩; have K1 : Hid (Sht B q S' M vl l z) := H.out.2 rfl; have k1 : Hid (Kx B y z) := H.out.1; clear cT H; have d1 : z.cell? ⟨q.s, 1, none⟩ = some vl := K1.out.bx.c 1 _ rfl)
      | (at_builtin; refine at_appL kLp rfl (.tmp 21) (.tmp 25) rfl B vl l rfl (K1.out.o.alloc _) z.heap.size ⟨101, .agg #[.slice sp L L], s.p⟩ rfl (one_bxL _ _ _) ?_ ?_ ?_; (have := hl'.out; omega); (have := K1.out.Ble; simp; omega); intro v' z1 A; obtain ⟨sp9, cp9, e9, _⟩ := OwnL.open (c := cLp) (s := 2) (fun _ => rfl) A.out.own; rw [List.length_append, List.length_singleton] at e9; subst e9; have Z : Hid _ := K1.out.lay1 A.out; have f1 := Z.out.1; have f2 := Z.out.2.1; clear A d1))
    exact fin.out _ _ rfl ⟨k1.out.trans Z.out.2.2.1, fun _ => ⟨_, Z.out.2.2.2⟩⟩
  · have hE' : (E != 0) = true := by rw [bne_iff_ne]; exact hE
    have hE2 : Hid (E ≠ 0) := hE
    clear hE
    go_enter Tryd.func22, Tryd.ntmps22
    go_wp2_with (go_at_call 110; refine cT.mono ?_; rintro e z ⟨rfl, H⟩; clear cT)
    exact fin.out _ _ rfl ⟨H.out.1, fun e => absurd e hE2.out⟩
theorem lay_labelled (B : Nat) (q : Nu) (s : Sh) (M : List UInt8) (vl : Value) (l : List Lp) (y : World) (h : Hid (Sht B q s M vl l y)) (hl : l.length ≤ 4096) (r : Ri) (hk : r.k = 2) (hm : mayI r = true) (n : Nat) (ho : opOf r.n = some n) (L : Nat) (hL : L = lay (fm n * 3)) (X : ByteArray) (F cy : Int) :
    Calls Tryd.prog 22 #[.pointer (some ⟨q.s, 0, none⟩), .iface 103 (.agg (lbC X F L cy r.l r.p))] y (LyE B q s r M l 103 (.agg (lbC X F L cy r.l r.p)) y) := by
  have c0 : y.cell? ⟨q.s, 0, none⟩ = some (.int .i64 (s.p : Int)) := h.out.bx.c 0 _ rfl
  have cT := take_labelled B q s M vl l y h X F L cy r.l r.p (by have := (lay_le n (opOf_lt ho).1).1; omega)
  have e1 : stE s r = clE s L := by unfold stE; rw [if_neg (by omega), if_neg (by omega), szN_c hm hk ho, hL]
  have e2 : stS s r = clS s L 1 := by unfold stS useI; rw [if_neg (by omega), if_neg (by omega), szN_c hm hk ho, if_pos hk, hL]
  rw [← e1, ← e2] at cT
  have hl' : Hid (l.length ≤ 4096) := hl
  have fin : Hid (∀ e z, e = .returned (.int .i64 (stE s r)) → (Kx B y z ∧ (stE s r = 0 → ∃ vl', Sht B q (stS s r) M vl' (l ++ [⟨103, .agg (lbC X F L cy r.l r.p), s.p⟩]) z)) → LyE B q s r M l 103 (.agg (lbC X F L cy r.l r.p)) y e z) := fun e z h1 h2 => ⟨h1, h2⟩
  generalize stE s r = E at cT fin
  generalize stS s r = S' at cT fin
  generalize LyE B q s r M l 103 (.agg (lbC X F L cy r.l r.p)) y = Fin at fin ⊢
  clear e1 e2 hk hm ho hL hl
  by_cases hE : E = 0
  · subst hE
    go_enter Tryd.func22, Tryd.ntmps22
    go_wp2_with (first
      | (go_at_call 113; refine cT.mono ?_; rintro e z ⟨rfl, H⟩; have K1 : Hid (Sht B q S' M vl l z) := H.out.2 rfl; have k1 : Hid (Kx B y z) := H.out.1; clear cT H; have d1 : z.cell? ⟨q.s, 1, none⟩ = some vl := K1.out.bx.c 1 _ rfl)
      | (at_builtin; refine at_appL kLp rfl (.tmp 21) (.tmp 25) rfl B vl l rfl (K1.out.o.alloc _) z.heap.size ⟨103, .agg (lbC X F L cy r.l r.p), s.p⟩ rfl (one_bxL _ _ _) ?_ ?_ ?_; (have := hl'.out; omega); (have := K1.out.Ble; simp; omega); intro v' z1 A; obtain ⟨sp9, cp9, e9, _⟩ := OwnL.open (c := cLp) (s := 2) (fun _ => rfl) A.out.own; rw [List.length_append, List.length_singleton] at e9; subst e9; have Z : Hid _ := K1.out.lay1 A.out; have f1 := Z.out.1; have f2 := Z.out.2.1; clear A d1))
    exact fin.out _ _ rfl ⟨k1.out.trans Z.out.2.2.1, fun _ => ⟨_, Z.out.2.2.2⟩⟩
  · have hE' : (E != 0) = true := by rw [bne_iff_ne]; exact hE
    have hE2 : Hid (E ≠ 0) := hE
    clear hE
    go_enter Tryd.func22, Tryd.ntmps22
    go_wp2_with (go_at_call 113; refine cT.mono ?_; rintro e z ⟨rfl, H⟩; clear cT)
    exact fin.out _ _ rfl ⟨H.out.1, fun e => absurd e hE2.out⟩
/-- Any item that may be is laid. -/
theorem lay_any (B : Nat) (q : Nu) (s : Sh) (M : List UInt8) (vl : Value) (l : List Lp) (y : World) (h : Hid (Sht B q s M vl l y)) (hl : l.length ≤ 4096) (r : Ri) (hm : mayI r = true) (b : Nat) (t : TypeId) (v : Value) (hp : PcV b r t v y) :
    Calls Tryd.prog 22 #[.pointer (some ⟨q.s, 0, none⟩), .iface t v] y (LyE B q s r M l t v y) := by
  rcases hp with ⟨hk, rfl, rfl⟩ | ⟨hk, rfl, rfl⟩ | ⟨hk, rfl, rfl⟩ | ⟨hk, rfl, rfl⟩ | ⟨hk, _, rfl, ⟨g, _, rfl, _⟩, n, ho, _⟩ | ⟨hk, _, rfl, n, ho, rfl⟩
  · exact lay_label B q s M vl l y h hl r hk
  · exact lay_move B q s M vl l y h hl r hk hm
  · exact lay_data B q s M vl l y h hl r hk hm
  · exact lay_address B q s M vl l y h hl r hk hm
  · exact lay_plain B q s M vl l y h hl r hk hm n ho _ (encL_len r.n r.a n ho) _
  · exact lay_labelled B q s M vl l y h hl r hk hm n ho _ rfl _ _ _
end Go.Proofs.YthbdpceobnkflaaDoor
