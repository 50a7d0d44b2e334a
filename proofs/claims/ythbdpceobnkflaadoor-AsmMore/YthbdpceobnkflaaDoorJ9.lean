/- A place that is called by a name; what each kind of piece takes up. The piece of an item, as it lies in memory. -/
import Derived.Test.YthbdpceobnkflaaDoorJ8
namespace Go.Proofs.YthbdpceobnkflaaDoor
open Go Go.RowKit
set_option linter.unusedVariables false
set_option maxHeartbeats 3000000
set_option maxRecDepth 20000

theorem name_any (B : Nat) (q : Nu) (s : Sh) (M : List UInt8) (vl : Value) (l : List Lp) (y : World) (h : Hid (Sht B q s M vl l y)) (n : ByteArray) :
    Calls Tryd.prog 101 #[.pointer (some ⟨q.s, 0, none⟩), .string n] y fun e z => e = .returned (.int .i64 (nmE s n)) ∧ Hid (Kx B y z ∧ (nmE s n = 0 → Sht B q (nmS s n) M vl l z)) := by
  obtain ⟨p, hp⟩ : ∃ p, s.p = p := ⟨_, rfl⟩
  have hp' : Hid (s.p = p) := hp
  have c0 : y.cell? ⟨q.s, 0, none⟩ = some (.int .i64 (p : Int)) := by rw [← hp]; exact h.out.bx.c 0 _ rfl
  have c4 : y.cell? ⟨q.s, 4, none⟩ = some (.map (some q.m)) := h.out.bx.c 4 _ rfl
  obtain ⟨R, hR⟩ : ∃ R, nmE s n = R := ⟨_, rfl⟩
  have hR' : Hid (nmE s n = R) := hR
  rw [hR]
  have hself : Hid (Kx B y y) := Kx.refl B y
  by_cases hbig : 65535 < p
  · have hi : (65535 : Int) < (p : Int) := by omega
    have e0 : Hid (R = 143) := by show R = 143; rw [← hR]; unfold nmE; rw [hp, if_pos hbig]
    clear hbig hR hp
    go_enter Tryd.func101, Tryd.ntmps101
    go_wp2
    go_ret
    exact ⟨by rw [e0.out]; rfl, hself.out, fun e => by have := e0.out; omega⟩
  · have hi : ¬ (65535 : Int) < (p : Int) := by omega
    have hlk := h.out.m.toF.look (P := Tryd.prog) mapUL strUL n (.int .i64 0) (by kernel_rfl)
    rcases hf : lookN s.N n with _ | t
    · have hfn : mapN s.N n = none := by unfold mapN; rw [hf]; rfl
      rw [hfn] at hlk
      have e0 : Hid (R = 0) := by show R = 0; rw [← hR]; unfold nmE; rw [hp, if_neg hbig, hf]; rfl
      simp only [Option.getD_none, Option.isSome_none] at hlk
      have hf' : Hid (lookN s.N n = none) := hf
      clear hbig hR hp hf
      go_enter Tryd.func101, Tryd.ntmps101
      go_wp2
      refine region_class_tail 9 (fun x => Sht B q s M vl l x ∧ Below y.heap.size y x) (by kernel_rfl) (by kernel_rfl) ⟨h.out.below (below_drew (Below.refl _ _)), below_drew (Below.refl _ _)⟩ ?_
      simp only [List.take_succ_cons, List.take_zero, List.drop_succ_cons, List.drop_zero]
      refine quiet_one (.pointer (some ⟨q.s, 0, none⟩)) rfl (fun u hu => by go_simp) ?_
      refine quiet_one (.pointer (some ⟨q.s, 0, none⟩)) rfl (fun u hu => by go_simp) ?_
      refine quiet_one (.pointer (some ⟨q.s, 4, none⟩)) rfl (fun u hu => by go_simp) ?_
      refine quiet_one (.map (some q.m)) rfl (fun u hu => by have d : u.cell? ⟨q.s, 4, none⟩ = some (.map (some q.m)) := hu.1.bx.c 4 _ rfl; go_simp) ?_
      refine quiet_one (.string n) rfl (fun u hu => by go_simp) ?_
      refine quiet_one (.pointer (some ⟨q.s, 0, none⟩)) rfl (fun u hu => by go_simp) ?_
      refine quiet_one (.pointer (some ⟨q.s, 0, none⟩)) rfl (fun u hu => by go_simp) ?_
      refine quiet_one (.pointer (some ⟨q.s, 0, none⟩)) rfl (fun u hu => by go_simp) ?_
      refine quiet_one (.int .i64 (p : Int)) rfl (fun u hu => by
        have d : u.cell? ⟨q.s, 0, none⟩ = some (.int .i64 (p : Int)) := by rw [← hp'.out]; exact hu.1.bx.c 0 _ rfl
        go_simp) ?_
      refine wpQuiet_nil ?_
      intro z K3
      replace K3 : Hid _ := K3
      refine at_putE rfl (.tmp 25) (.tmp 26) (.tmp 30) (.inl rfl) q.m s.N n p K3.out.1.m hf'.out (by go_simp) (by go_simp) (by go_simp) ?_
      intro z1 H1
      have Z1 : Hid (Kx B y z1 ∧ Sht B q (nmS s n) M vl l z1) := by
        have k := K3.out.1
        obtain ⟨es, ck, hm⟩ := k.m.block
        have hbx : ∀ {g : Nat} {cs : Array Value} {t : TypeId}, Bx z g cs t → Bx z1 g cs t := fun {g cs t} hb => by
          refine (H1.out.2.1 g fun e => ?_).trans hb
          subst e
          have := hb.symm.trans hm
          simp at this
        refine ⟨(Kx.of_below K3.out.2 h.out.Ble).trans ⟨H1.out.2.2 _ k.lo.2.2.2, fun g cs hb => hbx hb⟩, k.ok.nm (by rw [hR'.out]; exact e0.out), hbx k.bx, hbx k.u, hbx k.b, ?_, k.o.keepB fun g e => ?_, k.lo⟩
        · have := H1.out.1
          rw [← hp'.out] at this
          exact this
        · obtain ⟨c9, h9⟩ := k.o.ty g e
          exact (hbx h9).trans h9.symm
      clear H1 K3
      go_wp2
      go_ret
      exact ⟨by rw [e0.out]; rfl, Z1.out.1, fun _ => Z1.out.2⟩
    · have hfn : mapN s.N n = some (.int .i64 (t : Int)) := by unfold mapN; rw [hf]; rfl
      rw [hfn] at hlk
      have e0 : Hid (R = 140) := by show R = 140; rw [← hR]; unfold nmE; rw [hp, if_neg hbig, hf]; rfl
      simp only [Option.getD_some, Option.isSome_some] at hlk
      clear hbig hR hp hf
      go_enter Tryd.func101, Tryd.ntmps101
      go_wp2
      go_ret
      exact ⟨by rw [e0.out]; rfl, hself.out, fun e => by have := e0.out; omega⟩
/-- What a piece does to the sheet. -/
def TkE (B : Nat) (q : Nu) (E : Int) (s' : Sh) (M : List UInt8) (vl : Value) (l : List Lp) (y : World) (e : Ending) (z : World) : Prop := e = .returned (.int .i64 E) ∧ Hid (Kx B y z ∧ (E = 0 → Sht B q s' M vl l z))
theorem tk_pre {B : Nat} {q : Nu} {E : Int} {s' : Sh} {M : List UInt8} {vl : Value} {l : List Lp} {y y1 : World} (k : Below y.heap.size y y1) (hB : B ≤ y.heap.size) {e : Ending} {z : World} (h : TkE B q E s' M vl l y1 e z) : TkE B q E s' M vl l y e z := ⟨h.1, (Kx.of_below k hB).trans h.2.out.1, h.2.out.2⟩
section
variable (B : Nat) (q : Nu) (s : Sh) (M : List UInt8) (vl : Value) (l : List Lp) (y : World)
theorem take_label (h : Hid (Sht B q s M vl l y)) (n : ByteArray) : Calls Tryd.prog 100 #[.agg #[.string n], .pointer (some ⟨q.s, 0, none⟩)] y (TkE B q (nmE s n) (nmS s n) M vl l y) := by
  have b1 : Hid (Below y.heap.size y (y.alloc (.cells #[.string n] 93))) := below1 y _
  have c := name_any B q s M vl l _ (h.out.below b1.out) n
  have cc := (one_bxL y #[.string n] 93).c 0 _ rfl
  go_enter Tryd.func100, Tryd.ntmps100
  go_wp2_with (go_at_call 101; refine c.mono ?_; rintro e z ⟨rfl, H⟩)
  go_ret
  exact tk_pre b1.out h.out.Ble ⟨rfl, H⟩
theorem take_move (h : Hid (Sht B q s M vl l y)) (a : Int) (ha : 0 ≤ a ∧ a ≤ 65535) : Calls Tryd.prog 103 #[.agg #[.int .i64 a], .pointer (some ⟨q.s, 0, none⟩)] y (TkE B q 0 ⟨a.toNat, s.U, s.N⟩ M vl l y) := by
  have b1 : Hid (Below y.heap.size y (y.alloc (.cells #[.int .i64 a] 95))) := below1 y _
  have h1 : Hid (Sht B q s M vl l (y.alloc (.cells #[.int .i64 a] 95))) := h.out.below b1.out
  have cc := (one_bxL y #[.int .i64 a] 95).c 0 _ rfl
  obtain ⟨y1, hy1⟩ : ∃ y1, y.alloc (.cells #[.int .i64 a] 95) = y1 := ⟨_, rfl⟩
  have zc := h1.out.bx.c 0 _ rfl
  have zf := h1.out.bx.fz 0
  have K9 : Hid (Kx B y (y.alloc (.cells #[.int .i64 a] 95) |>.setCell ⟨q.s, 0, none⟩ (.int .i64 a)) ∧ Sht B q ⟨a.toNat, s.U, s.N⟩ M vl l (y.alloc (.cells #[.int .i64 a] 95) |>.setCell ⟨q.s, 0, none⟩ (.int .i64 a))) := by
    rw [hy1] at h1 b1 ⊢
    have g1 : ∀ g, g ≠ q.s → (y1.setCell ⟨q.s, 0, none⟩ (.int .i64 a)).heap[g]? = y1.heap[g]? := fun g hg => heap_setCell_other y1 ⟨q.s, 0, none⟩ g _ hg
    have k := h1.out
    refine ⟨(Kx.of_below b1.out h.out.Ble).trans ⟨(Below.refl _ _).setCell (p := ⟨q.s, 0, none⟩) k.lo.1 _, fun g cs hb => bx_other k.bx (by decide) g1 hb⟩, ⟨?_, k.ok.u, k.ok.n⟩, ?_, bx_other k.bx (by decide) g1 k.u, bx_other k.bx (by decide) g1 k.b, map_other k.bx g1 k.m, own_other k.bx (by decide) g1 k.o, k.lo⟩
    · show a.toNat ≤ 65536; omega
    · have := heap_setCell_same y1 q.s 0 _ _ (.int .i64 a) k.bx
      refine this.trans ?_
      simp only [sC]
      rw [show ((a.toNat : Nat) : Int) = a by omega]
      rfl
  clear ha hy1
  go_enter Tryd.func103, Tryd.ntmps103
  go_wp2
  go_ret
  exact ⟨rfl, K9.out.1, fun _ => K9.out.2⟩
theorem take_data (h : Hid (Sht B q s M vl l y)) (sp : Option Addr) (n cap : Nat) (hn : n ≤ 65536) : Calls Tryd.prog 105 #[.agg #[.slice sp n cap], .pointer (some ⟨q.s, 0, none⟩)] y (TkE B q (clE s n) (clS s n 2) M vl l y) := by
  have b1 : Hid (Below y.heap.size y (y.alloc (.cells #[.slice sp n cap] 97))) := below1 y _
  have c := claim_any B q s M vl l _ (h.out.below b1.out) n hn 2
  have cc := (one_bxL y #[.slice sp n cap] 97).c 0 _ rfl
  rw [show byV 2 = .int .u8 2 from rfl] at c
  clear hn
  go_enter Tryd.func105, Tryd.ntmps105
  go_wp2_with (go_at_call 106; refine c.mono ?_; rintro e z ⟨rfl, H⟩)
  go_ret
  exact tk_pre b1.out h.out.Ble ⟨rfl, H⟩
theorem take_plain (h : Hid (Sht B q s M vl l y)) (sp : Option Addr) (n cap : Nat) (hn : n ≤ 65536) : Calls Tryd.prog 110 #[.agg #[.slice sp n cap], .pointer (some ⟨q.s, 0, none⟩)] y (TkE B q (clE s n) (clS s n 1) M vl l y) := by
  have b1 : Hid (Below y.heap.size y (y.alloc (.cells #[.slice sp n cap] 101))) := below1 y _
  have c := claim_any B q s M vl l _ (h.out.below b1.out) n hn 1
  have cc := (one_bxL y #[.slice sp n cap] 101).c 0 _ rfl
  rw [show byV 1 = .int .u8 1 from rfl] at c
  clear hn
  go_enter Tryd.func110, Tryd.ntmps110
  go_wp2_with (go_at_call 106; refine c.mono ?_; rintro e z ⟨rfl, H⟩)
  go_ret
  exact tk_pre b1.out h.out.Ble ⟨rfl, H⟩
theorem take_address (h : Hid (Sht B q s M vl l y)) (n : ByteArray) : Calls Tryd.prog 108 #[.agg #[.string n], .pointer (some ⟨q.s, 0, none⟩)] y (TkE B q (clE s 2) (clS s 2 2) M vl l y) := by
  have b1 : Hid (Below y.heap.size y (y.alloc (.cells #[.string n] 99))) := below1 y _
  have c := claim_any B q s M vl l _ (h.out.below b1.out) 2 (by decide) 2
  rw [show byV 2 = .int .u8 2 from rfl, show ((2 : Nat) : Int) = 2 from rfl] at c
  go_enter Tryd.func108, Tryd.ntmps108
  go_wp2_with (go_at_call 106; refine c.mono ?_; rintro e z ⟨rfl, H⟩)
  go_ret
  exact tk_pre b1.out h.out.Ble ⟨rfl, H⟩
def lbC (X : ByteArray) (F : Int) (L : Nat) (c : Int) (n : ByteArray) (p : Int) : Array Value := #[.string X, .int .u8 F, .int .i64 (L : Int), .int .i64 c, .string n, .int .u8 p]
theorem take_labelled (h : Hid (Sht B q s M vl l y)) (X : ByteArray) (F : Int) (L : Nat) (cy : Int) (n : ByteArray) (p : Int) (hL : L ≤ 65536) : Calls Tryd.prog 113 #[.agg (lbC X F L cy n p), .pointer (some ⟨q.s, 0, none⟩)] y (TkE B q (clE s L) (clS s L 1) M vl l y) := by
  have b1 : Hid (Below y.heap.size y (y.alloc (.cells (lbC X F L cy n p) 103))) := below1 y _
  have c := claim_any B q s M vl l _ (h.out.below b1.out) L hL 1
  have cc := (one_bxL y (lbC X F L cy n p) 103).c 2 _ rfl
  rw [show byV 1 = .int .u8 1 from rfl] at c
  clear hL
  go_enter Tryd.func113, Tryd.ntmps113
  go_wp2_with (go_at_call 106; refine c.mono ?_; rintro e z ⟨rfl, H⟩)
  go_ret
  exact tk_pre b1.out h.out.Ble ⟨rfl, H⟩
end
end Go.Proofs.YthbdpceobnkflaaDoor

namespace Go.Proofs.YthbdpceobnkflaaDoor
open Go Go.RowKit
set_option linter.unusedVariables false
set_option maxHeartbeats 3000000
set_option maxRecDepth 20000

theorem encB_byte (n : Nat) (hn : n < 256) (A : Int) (h : may n A) : ∀ z ∈ encB n A, 0 ≤ z ∧ z < 256 := by
  have hf := fm_le n hn
  unfold may at h
  have l2 : lay (2 * 3 + 2) = 15 := by decide
  have l3 : lay (3 * 3 + 2) = 7 := by decide
  have l4 : lay (4 * 3 + 2) = 255 := by decide
  have l5 : lay (5 * 3 + 2) = 255 := by decide
  have l6 : lay (6 * 3 + 2) = 65535 := by decide
  have hd : fm n = 1 ∨ fm n = 2 ∨ fm n = 3 ∨ fm n = 4 ∨ fm n = 5 ∨ fm n = 6 := by omega
  unfold encB
  have hh := held_lt n (fm n)
  intro z hz
  rcases hd with e | e | e | e | e | e
  all_goals
    rw [e] at h hh hz
    simp at hz
    omega
theorem encL_row (S : ByteArray) (A : Int) (n : Nat) (ho : opOf S = some n) (h : may n A) : ((encB n A).map (Value.int .u8)).toArray = rU (encL S A) ∧ (encB n A).length = (encL S A).length := by
  have hb := encB_byte n (opOf_lt ho).1 A h
  unfold encL rU
  rw [ho]
  refine ⟨?_, by simp⟩
  congr 1
  simp only [List.map_map]
  refine List.map_congr_left fun z hz => ?_
  have := hb z hz
  simp [byV, UInt8.toNat_ofNat']
  omega
theorem encL_len (S : ByteArray) (A : Int) (n : Nat) (ho : opOf S = some n) : (encL S A).length = lay (fm n * 3) := by
  unfold encL
  rw [ho]
  simp [encB_len n (opOf_lt ho).1 A]
  rfl
/-- New bytes that a call made. -/
def NewB (y : World) (L : List UInt8) (e : Ending) (z : World) : Prop := ∃ g, e = .returned (.slice (some ⟨g, 0, none⟩) L.length L.length) ∧ Hid (y.heap.size ≤ g ∧ Bx z g (rU L) 5 ∧ Below y.heap.size y z)
theorem encode_any (S : ByteArray) (A : Int) (n : Nat) (ho : opOf S = some n) (h : may n A) (y : World) (T : Hid (Tabs y)) :
    Calls Tryd.prog 33 #[.string S, .int .i64 A] y (NewB y (encL S A)) := by
  have c := enc_good S A n ho h y T.out
  have hr := encL_row S A n ho h
  unfold Coded at c
  rw [hr.1, hr.2] at c
  obtain ⟨L, hL⟩ : ∃ L, encL S A = L := ⟨_, rfl⟩
  rw [hL] at c ⊢
  clear hr h hL
  go_enter Tryd.func33, Tryd.ntmps33
  go_wp2_with (go_at_call 31; refine c.mono ?_; rintro e z ⟨g, hg, rfl, hb, hlow⟩; have H : Hid (y.heap.size ≤ g ∧ Bx z g (rU L) 5 ∧ Below y.heap.size y z) := ⟨hg, hb, hlow⟩; clear hg hb hlow)
  go_ret
  exact ⟨g, rfl, H⟩
/-- The piece of an item that may be; b: above which block its own bytes lie. -/
def PcV (b : Nat) (r : Ri) (t : TypeId) (v : Value) (z : World) : Prop :=
  (r.k = 1 ∧ t = 93 ∧ v = .agg #[.string r.n]) ∨ (r.k = 4 ∧ t = 95 ∧ v = .agg #[.int .i64 r.a]) ∨
  (r.k = 3 ∧ t = 97 ∧ v = .agg #[.slice r.sp r.m r.cap]) ∨ (r.k = 5 ∧ t = 99 ∧ v = .agg #[.string r.l]) ∨
  (r.k = 2 ∧ r.p = 0 ∧ t = 101 ∧ (∃ g, b < g ∧ v = .agg #[.slice (some ⟨g, 0, none⟩) (encL r.n r.a).length (encL r.n r.a).length] ∧ Bx z g (rU (encL r.n r.a)) 5) ∧ ∃ n, opOf r.n = some n ∧ may n r.a) ∨
  (r.k = 2 ∧ r.p ≠ 0 ∧ t = 103 ∧ ∃ n, opOf r.n = some n ∧ v = .agg (lbC r.n (fm n : Nat) (lay (fm n * 3)) (cyc n : Nat) r.l r.p))
theorem PcV.kx {b : Nat} {r : Ri} {t : TypeId} {v : Value} {y z : World} (h : PcV b r t v y) (k : ∀ g cs, b < g → Bx y g cs 5 → Bx z g cs 5) : PcV b r t v z := by
  rcases h with h | h | h | h | ⟨h1, h2, h3, ⟨g, h4, h5, h6⟩, h7⟩ | h
  · exact .inl h
  · exact .inr (.inl h)
  · exact .inr (.inr (.inl h))
  · exact .inr (.inr (.inr (.inl h)))
  · exact .inr (.inr (.inr (.inr (.inl ⟨h1, h2, h3, ⟨g, h4, h5, k g _ h4 h6⟩, h7⟩))))
  · exact .inr (.inr (.inr (.inr (.inr h))))
theorem may_enc {r : Ri} (h : mayI r = true) (hk : r.k = 2) (hp : r.p = 0) : ∃ n, opOf r.n = some n ∧ may n r.a := by
  unfold mayI at h
  rw [if_pos hk, codeI_is] at h
  unfold codeM at h
  rw [if_pos hp] at h
  simp at h
  have h1 := h.1.1
  unfold encE at h1
  rcases ho : opOf r.n with _ | n
  · rw [ho] at h1; simp at h1
  · rw [ho] at h1
    refine ⟨n, rfl, (mayB_iff n r.a).1 ?_⟩
    by_cases hb : mayB n r.a
    · exact hb
    · simp [hb] at h1
theorem may_lab {r : Ri} (h : mayI r = true) (hk : r.k = 2) (hp : r.p ≠ 0) : ∃ n, opOf r.n = some n ∧ takesB (fm n : Nat) r.p = true := by
  unfold mayI at h
  rw [if_pos hk, codeI_is] at h
  unfold codeM at h
  rw [if_neg hp] at h
  rcases ho : opOf r.n with _ | n
  · rw [ho] at h; simp at h
  · rw [ho] at h
    simp at h
    exact ⟨n, rfl, h.1.1⟩
theorem may_kind {r : Ri} (h : mayI r = true) : r.k = 1 ∨ r.k = 2 ∨ r.k = 3 ∨ r.k = 4 ∨ r.k = 5 := by
  by_cases h1 : r.k = 1
  · exact .inl h1
  by_cases h2 : r.k = 2
  · exact .inr (.inl h2)
  by_cases h3 : r.k = 3
  · exact .inr (.inr (.inl h3))
  by_cases h4 : r.k = 4
  · exact .inr (.inr (.inr (.inl h4)))
  by_cases h5 : r.k = 5
  · exact .inr (.inr (.inr (.inr h5)))
  rw [may0 h1 h2 h3 h4 h5] at h
  cases h
/-- What pieceOf answers. -/
def PoE (y : World) (r : Ri) (e : Ending) (z : World) : Prop := ∃ t v, e = .returned (.iface t v) ∧ Hid (Below y.heap.size y z ∧ ∀ b, b < y.heap.size → PcV b r t v z)
theorem pieceOf_any (y : World) (T : Hid (Tabs y)) (r : Ri) (hm : mayI r = true) : Calls Tryd.prog 23 #[.agg (i6 r)] y (PoE y r) := by
  have K0 : Hid (Fm y [(y.heap.size, i6 r, 40)] (y.alloc (.cells (i6 r) 40))) := Fm.one y _ _
  have c0 := (K0.out.bx 0 _ _ _ rfl).c 0 (.int .u8 r.k) rfl
  rcases may_kind hm with hk | hk | hk | hk | hk
  · have c1 := (K0.out.bx 0 _ _ _ rfl).c 1 (.string r.n) rfl
    have k1 : (r.k == 1) = true := by rw [hk]; rfl
    have hk' : Hid (r.k = 1) := hk
    clear hm hk
    go_enter Tryd.func23, Tryd.ntmps23
    go_wp2
    go_ret
    exact ⟨_, _, rfl, K0.out.low, fun b _ => .inl ⟨hk'.out, rfl, rfl⟩⟩
  · have k1 : (r.k == 1) = false := by rw [hk]; rfl
    have k3 : (r.k == 3) = false := by rw [hk]; rfl
    have k4 : (r.k == 4) = false := by rw [hk]; rfl
    have k5 : (r.k == 5) = false := by rw [hk]; rfl
    have c1 := (K0.out.bx 0 _ _ _ rfl).c 1 (.string r.n) rfl
    have c2 := (K0.out.bx 0 _ _ _ rfl).c 2 (.int .i64 r.a) rfl
    have c4 := (K0.out.bx 0 _ _ _ rfl).c 4 (.int .u8 r.p) rfl
    by_cases hp : r.p = 0
    · obtain ⟨n, ho, hma⟩ := may_enc hm hk hp
      have cE := encode_any r.n r.a n ho hma _ (T.out.below K0.out.low)
      have p0 : (r.p == 0) = true := by rw [hp]; rfl
      have fin : Hid (r.k = 2 ∧ r.p = 0 ∧ ∃ n, opOf r.n = some n ∧ may n r.a) := ⟨hk, hp, n, ho, hma⟩
      clear hm hk hp ho hma
      go_enter Tryd.func23, Tryd.ntmps23
      go_wp2_with (go_at_call 33; refine cE.mono ?_; rintro e z ⟨g, rfl, H⟩)
      go_ret
      exact ⟨_, _, rfl, of_below K0.out.low H.out.2.2, fun b hb => .inr (.inr (.inr (.inr (.inl ⟨fin.out.1, fin.out.2.1, rfl, ⟨g, by have := H.out.1; have := K0.out.low.size; omega, rfl, H.out.2.1⟩, fin.out.2.2⟩))))⟩
    · obtain ⟨n, ho, htk⟩ := may_lab hm hk hp
      have hX := (opOf_lt ho).2
      have cF := find_some r.n n ho _ _ _ _ (show nm n = r.n from hX) (show fm n = fm n from rfl) (show lay (fm n * 3) = lay (fm n * 3) from rfl) (show cyc n = cyc n from rfl) _ (T.out.below K0.out.low)
      have p0 : (r.p == 0) = false := by rw [beq_eq_false_iff_ne]; exact hp
      have c3 := (K0.out.bx 0 _ _ _ rfl).c 3 (.string r.l) rfl
      have fin : Hid (r.k = 2 ∧ r.p ≠ 0 ∧ opOf r.n = some n) := ⟨hk, hp, ho⟩
      obtain ⟨f, hf⟩ : ∃ f, fm n = f := ⟨_, rfl⟩
      obtain ⟨L, hL⟩ : ∃ L, lay (fm n * 3) = L := ⟨_, rfl⟩
      obtain ⟨c, hc⟩ : ∃ c, cyc n = c := ⟨_, rfl⟩
      have fin2 : Hid (fm n = f ∧ lay (fm n * 3) = L ∧ cyc n = c) := ⟨hf, hL, hc⟩
      rw [hL, hc, hf] at cF
      clear hm hk hp ho htk hX hf hL hc
      go_enter Tryd.func23, Tryd.ntmps23
      go_wp2_with (first
        | (go_at_call 30; refine cF.mono ?_; rintro e z ⟨rfl, H⟩; have K1 : Hid (Fm y [(y.heap.size, i6 r, 40)] z) := K0.out.below H; clear H cF)
        | ((with_reducible refine gen_world (z.alloc (.cells #[.string ⟨#[]⟩, .int .u8 0, .int .i64 0, .int .i64 0] 82)) (Fm y [(y.heap.size, i6 r, 40), (z.heap.size, #[.string ⟨#[]⟩, .int .u8 0, .int .i64 0, .int .i64 0], 82)]) ?_ ?_); exact K1.out.new _ _; intro z1 K2)
        | ((with_reducible refine at_st rtI z.heap.size #[.string ⟨#[]⟩, .int .u8 0, .int .i64 0, .int .i64 0] (#[.string r.n, .int .u8 (f : Int), .int .i64 (L : Int), .int .i64 (c : Int)]) ?_ ?_ ?_ ?_ (.tmp 3) (.tmp 45) ?_ ?_ ?_ ?_ ?_); exact K2.out.bx 1 _ _ _ rfl; rfl; rfl; simp [Value.oneCell']; rfl; rfl; rfl; rfl; intro z2 hw2; have K3 : Hid (Fm y [(y.heap.size, i6 r, 40), (z.heap.size, #[.string r.n, .int .u8 (f : Int), .int .i64 (L : Int), .int .i64 (c : Int)], 82)] z2) := K2.out.put 1 _ _ _ _ rfl hw2.out; clear hw2 K2; have d3 := (K3.out.bx 0 _ _ _ rfl).c 3 (.string r.l) rfl; have d4 := (K3.out.bx 0 _ _ _ rfl).c 4 (.int .u8 r.p) rfl)
        | ((with_reducible refine at_load rtI z.heap.size #[.string r.n, .int .u8 (f : Int), .int .i64 (L : Int), .int .i64 (c : Int)] ?_ ?_ (.tmp 3) ?_ ?_ ?_ ?_); exact K3.out.bx 1 _ _ _ rfl; rfl; rfl; rfl; rfl)
        | ((with_reducible refine at_bu _ _ (lbC r.n (f : Int) L (c : Int) r.l r.p) ?_ ?_ ?_ ?_ ?_); rfl; rfl; rfl; kernel_rfl))
      go_ret
      exact ⟨_, _, rfl, K3.out.low, fun b hb => .inr (.inr (.inr (.inr (.inr ⟨fin.out.1, fin.out.2.1, rfl, n, fin.out.2.2, by rw [fin2.out.2.1, fin2.out.2.2, fin2.out.1]; rfl⟩))))⟩
  · have c1 := (K0.out.bx 0 _ _ _ rfl).c 5 (.slice r.sp r.m r.cap) rfl
    have k1 : (r.k == 1) = false := by rw [hk]; rfl
    have k3 : (r.k == 3) = true := by rw [hk]; rfl
    have k4 : (r.k == 4) = false := by rw [hk]; rfl
    have hk' : Hid (r.k = 3) := hk
    clear hm hk
    go_enter Tryd.func23, Tryd.ntmps23
    go_wp2
    go_ret
    exact ⟨_, _, rfl, K0.out.low, fun b _ => .inr (.inr (.inl ⟨hk'.out, rfl, rfl⟩))⟩
  · have c1 := (K0.out.bx 0 _ _ _ rfl).c 2 (.int .i64 r.a) rfl
    have k1 : (r.k == 1) = false := by rw [hk]; rfl
    have k4 : (r.k == 4) = true := by rw [hk]; rfl
    have hk' : Hid (r.k = 4) := hk
    clear hm hk
    go_enter Tryd.func23, Tryd.ntmps23
    go_wp2
    go_ret
    exact ⟨_, _, rfl, K0.out.low, fun b _ => .inr (.inl ⟨hk'.out, rfl, rfl⟩)⟩
  · have c1 := (K0.out.bx 0 _ _ _ rfl).c 3 (.string r.l) rfl
    have k1 : (r.k == 1) = false := by rw [hk]; rfl
    have k3 : (r.k == 3) = false := by rw [hk]; rfl
    have k4 : (r.k == 4) = false := by rw [hk]; rfl
    have k5 : (r.k == 5) = true := by rw [hk]; rfl
    have hk' : Hid (r.k = 5) := hk
    clear hm hk
    go_enter Tryd.func23, Tryd.ntmps23
    go_wp2
    go_ret
    exact ⟨_, _, rfl, K0.out.low, fun b _ => .inr (.inr (.inr (.inl ⟨hk'.out, rfl, rfl⟩)))⟩
end Go.Proofs.YthbdpceobnkflaaDoor
