/- A place that is called by a name; what each kind of piece takes up. -/
import Derived.Test.YtkpfhnogpcigaaaDoorRJFb
namespace Go.Proofs.YtkpfhnogpcigaaaDoorR
open Go Go.RowKit
set_option linter.unusedVariables false
set_option maxHeartbeats 3000000
set_option maxRecDepth 20000

theorem name_any (B : Nat) (q : Nu) (s : Sh) (M : List UInt8) (vl : Value) (l : List Lp) (y : World) (h : Hid (Sht B q s M vl l y)) (n : ByteArray) :
    Calls Tryd.prog 120 #[.pointer (some ⟨q.s, 0, none⟩), .string n] y fun e z => e = .returned (.int .i64 (nmE s n)) ∧ Hid (Kx B y z ∧ (nmE s n = 0 → Sht B q (nmS s n) M vl l z)) := by
  obtain ⟨p, hp⟩ : ∃ p, s.p = p := ⟨_, rfl⟩
  have hp' : Hid (s.p = p) := hp
  have c0 : y.cell? ⟨q.s, 0, none⟩ = some (.int .i64 (p : Int)) := by rw [← hp]; exact h.out.bx.c 0 _ rfl
  have c4 : y.cell? ⟨q.s, 4, none⟩ = some (.map (some q.m)) := h.out.bx.c 4 _ rfl
  obtain ⟨R, hR⟩ : ∃ R, nmE s n = R := ⟨_, rfl⟩
  have hR' : Hid (nmE s n = R) := hR
  rw [hR]
  have hself : Hid (Kx B y y) := Kx.refl B y
  by_cases hbig : 65535 < p
  · have hi : (65535 : Int) < (p : Int) := by omega
    have e0 : Hid (R = 143) := by show R = 143; rw [← hR]; unfold nmE; rw [hp, if_pos hbig]
    clear hbig hR hp
    go_enter Tryd.func120, Tryd.ntmps120
    go_wp2
    go_ret
    exact ⟨by rw [e0.out]; rfl, hself.out, fun e => by have := e0.out; omega⟩
  · have hi : ¬ (65535 : Int) < (p : Int) := by omega
    have hlk := h.out.m.toF.look (P := Tryd.prog) mapUL strUL n (.int .i64 0) (by kernel_rfl)
    rcases hf : lookN s.N n with _ | t
    · have hfn : mapN s.N n = none := by unfold mapN; rw [hf]; rfl
      rw [hfn] at hlk
      have e0 : Hid (R = 0) := by show R = 0; rw [← hR]; unfold nmE; rw [hp, if_neg hbig, hf]; rfl
      simp only [Option.getD_none, Option.isSome_none] at hlk
      have hf' : Hid (lookN s.N n = none) := hf
      clear hbig hR hp hf
      go_enter Tryd.func120, Tryd.ntmps120
      go_wp2
      refine region_class_tail 9 (fun x => Sht B q s M vl l x ∧ Below y.heap.size y x) (by kernel_rfl) (by kernel_rfl) ⟨h.out.below (below_drew (Below.refl _ _)), below_drew (Below.refl _ _)⟩ ?_
      simp only [List.take_succ_cons, List.take_zero, List.drop_succ_cons, List.drop_zero]
      refine quiet_one (.pointer (some ⟨q.s, 0, none⟩)) rfl (fun u hu => by go_simp) ?_
      refine quiet_one (.pointer (some ⟨q.s, 0, none⟩)) rfl (fun u hu => by go_simp) ?_
      refine quiet_one (.pointer (some ⟨q.s, 4, none⟩)) rfl (fun u hu => by go_simp) ?_
      refine quiet_one (.map (some q.m)) rfl (fun u hu => by have d : u.cell? ⟨q.s, 4, none⟩ = some (.map (some q.m)) := hu.1.bx.c 4 _ rfl; go_simp) ?_
      refine quiet_one (.string n) rfl (fun u hu => by go_simp) ?_
      refine quiet_one (.pointer (some ⟨q.s, 0, none⟩)) rfl (fun u hu => by go_simp) ?_
      refine quiet_one (.pointer (some ⟨q.s, 0, none⟩)) rfl (fun u hu => by go_simp) ?_
      refine quiet_one (.pointer (some ⟨q.s, 0, none⟩)) rfl (fun u hu => by go_simp) ?_
      refine quiet_one (.int .i64 (p : Int)) rfl (fun u hu => by
        have d : u.cell? ⟨q.s, 0, none⟩ = some (.int .i64 (p : Int)) := by rw [← hp'.out]; exact hu.1.bx.c 0 _ rfl
        go_simp) ?_
      refine wpQuiet_nil ?_
      intro z K3
      replace K3 : Hid _ := K3
      refine at_putE rfl (.tmp 25) (.tmp 26) (.tmp 30) (.inl rfl) q.m s.N n p K3.out.1.m hf'.out (by go_simp) (by go_simp) (by go_simp) ?_
      intro z1 H1
      have Z1 : Hid (Kx B y z1 ∧ Sht B q (nmS s n) M vl l z1) := by
        have k := K3.out.1
        obtain ⟨es, ck, hm⟩ := k.m.block
        have hbx : ∀ {g : Nat} {cs : Array Value} {t : TypeId}, Bx z g cs t → Bx z1 g cs t := fun {g cs t} hb => by
          refine (H1.out.2.1 g fun e => ?_).trans hb
          subst e
          have := hb.symm.trans hm
          simp at this
        refine ⟨(Kx.of_below K3.out.2 h.out.Ble).trans ⟨H1.out.2.2 _ k.lo.2.2.2, fun g cs hb => hbx hb⟩, k.ok.nm (by rw [hR'.out]; exact e0.out), hbx k.bx, hbx k.u, hbx k.b, ?_, k.o.keepB fun g e => ?_, k.lo⟩
        · have := H1.out.1
          rw [← hp'.out] at this
          exact this
        · obtain ⟨c9, h9⟩ := k.o.ty g e
          exact (hbx h9).trans h9.symm
      clear H1 K3
      go_wp2
      go_ret
      exact ⟨by rw [e0.out]; rfl, Z1.out.1, fun _ => Z1.out.2⟩
    · have hfn : mapN s.N n = some (.int .i64 (t : Int)) := by unfold mapN; rw [hf]; rfl
      rw [hfn] at hlk
      have e0 : Hid (R = 140) := by show R = 140; rw [← hR]; unfold nmE; rw [hp, if_neg hbig, hf]; rfl
      simp only [Option.getD_some, Option.isSome_some] at hlk
      clear hbig hR hp hf
      go_enter Tryd.func120, Tryd.ntmps120
      go_wp2
      go_ret
      exact ⟨by rw [e0.out]; rfl, hself.out, fun e => by have := e0.out; omega⟩
/-- What a piece does to the sheet. -/
def TkE (B : Nat) (q : Nu) (E : Int) (s' : Sh) (M : List UInt8) (vl : Value) (l : List Lp) (y : World) (e : Ending) (z : World) : Prop := e = .returned (.int .i64 E) ∧ Hid (Kx B y z ∧ (E = 0 → Sht B q s' M vl l z))
theorem tk_pre {B : Nat} {q : Nu} {E : Int} {s' : Sh} {M : List UInt8} {vl : Value} {l : List Lp} {y y1 : World} (k : Below y.heap.size y y1) (hB : B ≤ y.heap.size) {e : Ending} {z : World} (h : TkE B q E s' M vl l y1 e z) : TkE B q E s' M vl l y e z := ⟨h.1, (Kx.of_below k hB).trans h.2.out.1, h.2.out.2⟩
section
variable (B : Nat) (q : Nu) (s : Sh) (M : List UInt8) (vl : Value) (l : List Lp) (y : World)
theorem take_label (h : Hid (Sht B q s M vl l y)) (n : ByteArray) : Calls Tryd.prog 119 #[.agg #[.string n], .pointer (some ⟨q.s, 0, none⟩)] y (TkE B q (nmE s n) (nmS s n) M vl l y) := by
  have b1 : Hid (Below y.heap.size y (y.alloc (.cells #[.string n] 99))) := below1 y _
  have c := name_any B q s M vl l _ (h.out.below b1.out) n
  have cc := (one_bxL y #[.string n] 99).c 0 _ rfl
  go_enter Tryd.func119, Tryd.ntmps119
  go_wp2_with (go_at_call 120; refine c.mono ?_; rintro e z ⟨rfl, H⟩)
  go_ret
  exact tk_pre b1.out h.out.Ble ⟨rfl, H⟩
theorem take_move (h : Hid (Sht B q s M vl l y)) (a : Int) (ha : 0 ≤ a ∧ a ≤ 65535) : Calls Tryd.prog 122 #[.agg #[.int .i64 a], .pointer (some ⟨q.s, 0, none⟩)] y (TkE B q 0 ⟨a.toNat, s.U, s.N⟩ M vl l y) := by
  have b1 : Hid (Below y.heap.size y (y.alloc (.cells #[.int .i64 a] 101))) := below1 y _
  have h1 : Hid (Sht B q s M vl l (y.alloc (.cells #[.int .i64 a] 101))) := h.out.below b1.out
  have cc := (one_bxL y #[.int .i64 a] 101).c 0 _ rfl
  obtain ⟨y1, hy1⟩ : ∃ y1, y.alloc (.cells #[.int .i64 a] 101) = y1 := ⟨_, rfl⟩
  have zc := h1.out.bx.c 0 _ rfl
  have zf := h1.out.bx.fz 0
  have K9 : Hid (Kx B y (y.alloc (.cells #[.int .i64 a] 101) |>.setCell ⟨q.s, 0, none⟩ (.int .i64 a)) ∧ Sht B q ⟨a.toNat, s.U, s.N⟩ M vl l (y.alloc (.cells #[.int .i64 a] 101) |>.setCell ⟨q.s, 0, none⟩ (.int .i64 a))) := by
    rw [hy1] at h1 b1 ⊢
    have g1 : ∀ g, g ≠ q.s → (y1.setCell ⟨q.s, 0, none⟩ (.int .i64 a)).heap[g]? = y1.heap[g]? := fun g hg => heap_setCell_other y1 ⟨q.s, 0, none⟩ g _ hg
    have k := h1.out
    refine ⟨(Kx.of_below b1.out h.out.Ble).trans ⟨(Below.refl _ _).setCell (p := ⟨q.s, 0, none⟩) k.lo.1 _, fun g cs hb => bx_other k.bx (by decide) g1 hb⟩, ⟨?_, k.ok.u, k.ok.n⟩, ?_, bx_other k.bx (by decide) g1 k.u, bx_other k.bx (by decide) g1 k.b, map_other k.bx g1 k.m, own_other k.bx (by decide) g1 k.o, k.lo⟩
    · show a.toNat ≤ 65536; omega
    · have := heap_setCell_same y1 q.s 0 _ _ (.int .i64 a) k.bx
      refine this.trans ?_
      simp only [sC]
      rw [show ((a.toNat : Nat) : Int) = a by omega]
      rfl
  clear ha hy1
  go_enter Tryd.func122, Tryd.ntmps122
  go_wp2
  go_ret
  exact ⟨rfl, K9.out.1, fun _ => K9.out.2⟩
theorem take_data (h : Hid (Sht B q s M vl l y)) (sp : Option Addr) (n cap : Nat) (hn : n ≤ 65536) : Calls Tryd.prog 124 #[.agg #[.slice sp n cap], .pointer (some ⟨q.s, 0, none⟩)] y (TkE B q (clE s n) (clS s n 2) M vl l y) := by
  have b1 : Hid (Below y.heap.size y (y.alloc (.cells #[.slice sp n cap] 103))) := below1 y _
  have c := claim_any B q s M vl l _ (h.out.below b1.out) n hn 2
  have cc := (one_bxL y #[.slice sp n cap] 103).c 0 _ rfl
  rw [show byV 2 = .int .u8 2 from rfl] at c
  clear hn
  go_enter Tryd.func124, Tryd.ntmps124
  go_wp2_with (go_at_call 125; refine c.mono ?_; rintro e z ⟨rfl, H⟩)
  go_ret
  exact tk_pre b1.out h.out.Ble ⟨rfl, H⟩
theorem take_plain (h : Hid (Sht B q s M vl l y)) (sp : Option Addr) (n cap : Nat) (hn : n ≤ 65536) : Calls Tryd.prog 129 #[.agg #[.slice sp n cap], .pointer (some ⟨q.s, 0, none⟩)] y (TkE B q (clE s n) (clS s n 1) M vl l y) := by
  have b1 : Hid (Below y.heap.size y (y.alloc (.cells #[.slice sp n cap] 107))) := below1 y _
  have c := claim_any B q s M vl l _ (h.out.below b1.out) n hn 1
  have cc := (one_bxL y #[.slice sp n cap] 107).c 0 _ rfl
  rw [show byV 1 = .int .u8 1 from rfl] at c
  clear hn
  go_enter Tryd.func129, Tryd.ntmps129
  go_wp2_with (go_at_call 125; refine c.mono ?_; rintro e z ⟨rfl, H⟩)
  go_ret
  exact tk_pre b1.out h.out.Ble ⟨rfl, H⟩
theorem take_address (h : Hid (Sht B q s M vl l y)) (n : ByteArray) : Calls Tryd.prog 127 #[.agg #[.string n], .pointer (some ⟨q.s, 0, none⟩)] y (TkE B q (clE s 2) (clS s 2 2) M vl l y) := by
  have b1 : Hid (Below y.heap.size y (y.alloc (.cells #[.string n] 105))) := below1 y _
  have c := claim_any B q s M vl l _ (h.out.below b1.out) 2 (by decide) 2
  rw [show byV 2 = .int .u8 2 from rfl, show ((2 : Nat) : Int) = 2 from rfl] at c
  go_enter Tryd.func127, Tryd.ntmps127
  go_wp2_with (go_at_call 125; refine c.mono ?_; rintro e z ⟨rfl, H⟩)
  go_ret
  exact tk_pre b1.out h.out.Ble ⟨rfl, H⟩
def lbC (X : ByteArray) (F : Int) (L : Nat) (c : Int) (n : ByteArray) (p : Int) : Array Value := #[.string X, .int .u8 F, .int .i64 (L : Int), .int .i64 c, .string n, .int .u8 p]
theorem take_labelled (h : Hid (Sht B q s M vl l y)) (X : ByteArray) (F : Int) (L : Nat) (cy : Int) (n : ByteArray) (p : Int) (hL : L ≤ 65536) : Calls Tryd.prog 132 #[.agg (lbC X F L cy n p), .pointer (some ⟨q.s, 0, none⟩)] y (TkE B q (clE s L) (clS s L 1) M vl l y) := by
  have b1 : Hid (Below y.heap.size y (y.alloc (.cells (lbC X F L cy n p) 114))) := below1 y _
  have c := claim_any B q s M vl l _ (h.out.below b1.out) L hL 1
  have cc := (one_bxL y (lbC X F L cy n p) 114).c 2 _ rfl
  rw [show byV 1 = .int .u8 1 from rfl] at c
  clear hL
  go_enter Tryd.func132, Tryd.ntmps132
  go_wp2_with (go_at_call 125; refine c.mono ?_; rintro e z ⟨rfl, H⟩)
  go_ret
  exact tk_pre b1.out h.out.Ble ⟨rfl, H⟩
end
end Go.Proofs.YtkpfhnogpcigaaaDoorR
/- The piece of an item, as it lies in memory. -/
namespace Go.Proofs.YtkpfhnogpcigaaaDoorR
open Go Go.RowKit
set_option linter.unusedVariables false
set_option maxHeartbeats 3000000
set_option maxRecDepth 20000

theorem encB_byte (n : Nat) (hn : n < 256) (A : Int) (h : may n A) : ∀ z ∈ encB n A, 0 ≤ z ∧ z < 256 := by
  have hf := fm_le n hn
  unfold may at h
  have l2 : lay (2 * 3 + 2) = 15 := by decide
  have l3 : lay (3 * 3 + 2) = 7 := by decide
  have l4 : lay (4 * 3 + 2) = 255 := by decide
  have l5 : lay (5 * 3 + 2) = 255 := by decide
  have l6 : lay (6 * 3 + 2) = 65535 := by decide
  have hd : fm n = 1 ∨ fm n = 2 ∨ fm n = 3 ∨ fm n = 4 ∨ fm n = 5 ∨ fm n = 6 := by omega
  unfold encB
  have hh := held_lt n (fm n)
  intro z hz
  rcases hd with e | e | e | e | e | e
  all_goals
    rw [e] at h hh hz
    simp at hz
    omega
theorem encL_row (S : ByteArray) (A : Int) (n : Nat) (ho : opOf S = some n) (h : may n A) : ((encB n A).map (Value.int .u8)).toArray = rU (encL S A) ∧ (encB n A).length = (encL S A).length := by
  have hb := encB_byte n (opOf_lt ho).1 A h
  unfold encL rU
  rw [ho]
  refine ⟨?_, by simp⟩
  congr 1
  simp only [List.map_map]
  refine List.map_congr_left fun z hz => ?_
  have := hb z hz
  simp [byV, UInt8.toNat_ofNat']
  omega
theorem encL_len (S : ByteArray) (A : Int) (n : Nat) (ho : opOf S = some n) : (encL S A).length = lay (fm n * 3) := by
  unfold encL
  rw [ho]
  simp [encB_len n (opOf_lt ho).1 A]
  rfl
/-- New bytes that a call made. -/
def NewB (y : World) (L : List UInt8) (e : Ending) (z : World) : Prop := ∃ g, e = .returned (.slice (some ⟨g, 0, none⟩) L.length L.length) ∧ Hid (y.heap.size ≤ g ∧ Bx z g (rU L) 5 ∧ Below y.heap.size y z)
theorem encode_any (S : ByteArray) (A : Int) (n : Nat) (ho : opOf S = some n) (h : may n A) (y : World) (T : Hid (Tabs y)) :
    Calls Tryd.prog 48 #[.string S, .int .i64 A] y (NewB y (encL S A)) := by
  have c := enc_good S A n ho h y T.out
  have hr := encL_row S A n ho h
  unfold Coded at c
  rw [hr.1, hr.2] at c
  obtain ⟨L, hL⟩ : ∃ L, encL S A = L := ⟨_, rfl⟩
  rw [hL] at c ⊢
  clear hr h hL
  go_enter Tryd.func48, Tryd.ntmps48
  go_wp2_with (go_at_call 54; refine c.mono ?_; rintro e z ⟨g, hg, rfl, hb, hlow⟩; have H : Hid (y.heap.size ≤ g ∧ Bx z g (rU L) 5 ∧ Below y.heap.size y z) := ⟨hg, hb, hlow⟩; clear hg hb hlow)
  go_ret
  exact ⟨g, rfl, H⟩
/-- The piece of an item that may be; b: above which block its own bytes lie. -/
def PcV (b : Nat) (r : Ri) (t : TypeId) (v : Value) (z : World) : Prop :=
  (r.k = 1 ∧ t = 99 ∧ v = .agg #[.string r.n]) ∨ (r.k = 4 ∧ t = 101 ∧ v = .agg #[.int .i64 r.a]) ∨
  (r.k = 3 ∧ t = 103 ∧ v = .agg #[.slice r.sp r.m r.cap]) ∨ (r.k = 5 ∧ t = 105 ∧ v = .agg #[.string r.l]) ∨
  (r.k = 2 ∧ r.p = 0 ∧ t = 107 ∧ (∃ g, b < g ∧ v = .agg #[.slice (some ⟨g, 0, none⟩) (encL r.n r.a).length (encL r.n r.a).length] ∧ Bx z g (rU (encL r.n r.a)) 5) ∧ ∃ n, opOf r.n = some n ∧ may n r.a) ∨
  (r.k = 2 ∧ r.p ≠ 0 ∧ t = 114 ∧ ∃ n, opOf r.n = some n ∧ v = .agg (lbC r.n (fm n : Nat) (lay (fm n * 3)) (cyc n : Nat) r.l r.p))
theorem PcV.kx {b : Nat} {r : Ri} {t : TypeId} {v : Value} {y z : World} (h : PcV b r t v y) (k : ∀ g cs, b < g → Bx y g cs 5 → Bx z g cs 5) : PcV b r t v z := by
  rcases h with h | h | h | h | ⟨h1, h2, h3, ⟨g, h4, h5, h6⟩, h7⟩ | h
  · exact .inl h
  · exact .inr (.inl h)
  · exact .inr (.inr (.inl h))
  · exact .inr (.inr (.inr (.inl h)))
  · exact .inr (.inr (.inr (.inr (.inl ⟨h1, h2, h3, ⟨g, h4, h5, k g _ h4 h6⟩, h7⟩))))
  · exact .inr (.inr (.inr (.inr (.inr h))))
theorem may_enc {r : Ri} (h : mayI r = true) (hk : r.k = 2) (hp : r.p = 0) : ∃ n, opOf r.n = some n ∧ may n r.a := by
  unfold mayI at h
  rw [if_pos hk, codeI_is] at h
  unfold codeM at h
  rw [if_pos hp] at h
  simp at h
  have h1 := h.1.1
  unfold encE at h1
  rcases ho : opOf r.n with _ | n
  · rw [ho] at h1; simp at h1
  · rw [ho] at h1
    refine ⟨n, rfl, (mayB_iff n r.a).1 ?_⟩
    by_cases hb : mayB n r.a
    · exact hb
    · simp [hb] at h1
theorem may_lab {r : Ri} (h : mayI r = true) (hk : r.k = 2) (hp : r.p ≠ 0) : ∃ n, opOf r.n = some n ∧ takesB (fm n : Nat) r.p = true := by
  unfold mayI at h
  rw [if_pos hk, codeI_is] at h
  unfold codeM at h
  rw [if_neg hp] at h
  rcases ho : opOf r.n with _ | n
  · rw [ho] at h; simp at h
  · rw [ho] at h
    simp at h
    exact ⟨n, rfl, h.1.1⟩
theorem may_kind {r : Ri} (h : mayI r = true) : r.k = 1 ∨ r.k = 2 ∨ r.k = 3 ∨ r.k = 4 ∨ r.k = 5 := by
  by_cases h1 : r.k = 1
  · exact .inl h1
  by_cases h2 : r.k = 2
  · exact .inr (.inl h2)
  by_cases h3 : r.k = 3
  · exact .inr (.inr (.inl h3))
  by_cases h4 : r.k = 4
  · exact .inr (.inr (.inr (.inl h4)))
  by_cases h5 : r.k = 5
  · exact .inr (.inr (.inr (.inr h5)))
  rw [may0 h1 h2 h3 h4 h5] at h
  cases h
/-- What pieceOf answers. -/
def PoE (y : World) (r : Ri) (e : Ending) (z : World) : Prop := ∃ t v, e = .returned (.iface t v) ∧ Hid (Below y.heap.size y z ∧ ∀ b, b < y.heap.size → PcV b r t v z)
theorem pieceOf_any (y : World) (T : Hid (Tabs y)) (r : Ri) (hm : mayI r = true) : Calls Tryd.prog 37 #[.agg (i6 r)] y (PoE y r) := by
  have K0 : Hid (Fm y [(y.heap.size, i6 r, 49)] (y.alloc (.cells (i6 r) 49))) := Fm.one y _ _
  have c0 := (K0.out.bx 0 _ _ _ rfl).c 0 (.int .u8 r.k) rfl
  rcases may_kind hm with hk | hk | hk | hk | hk
  · have c1 := (K0.out.bx 0 _ _ _ rfl).c 1 (.string r.n) rfl
    have k1 : (r.k == 1) = true := by rw [hk]; rfl
    have hk' : Hid (r.k = 1) := hk
    clear hm hk
    go_enter Tryd.func37, Tryd.ntmps37
    go_wp2
    go_ret
    exact ⟨_, _, rfl, K0.out.low, fun b _ => .inl ⟨hk'.out, rfl, rfl⟩⟩
  · have k1 : (r.k == 1) = false := by rw [hk]; rfl
    have k3 : (r.k == 3) = false := by rw [hk]; rfl
    have k4 : (r.k == 4) = false := by rw [hk]; rfl
    have k5 : (r.k == 5) = false := by rw [hk]; rfl
    have c1 := (K0.out.bx 0 _ _ _ rfl).c 1 (.string r.n) rfl
    have c2 := (K0.out.bx 0 _ _ _ rfl).c 2 (.int .i64 r.a) rfl
    have c4 := (K0.out.bx 0 _ _ _ rfl).c 4 (.int .u8 r.p) rfl
    by_cases hp : r.p = 0
    · obtain ⟨n, ho, hma⟩ := may_enc hm hk hp
      have cE := encode_any r.n r.a n ho hma _ (T.out.below K0.out.low)
      have p0 : (r.p == 0) = true := by rw [hp]; rfl
      have fin : Hid (r.k = 2 ∧ r.p = 0 ∧ ∃ n, opOf r.n = some n ∧ may n r.a) := ⟨hk, hp, n, ho, hma⟩
      clear hm hk hp ho hma
      go_enter Tryd.func37, Tryd.ntmps37
      go_wp2_with (go_at_call 48; refine cE.mono ?_; rintro e z ⟨g, rfl, H⟩)
      go_ret
      exact ⟨_, _, rfl, of_below K0.out.low H.out.2.2, fun b hb => .inr (.inr (.inr (.inr (.inl ⟨fin.out.1, fin.out.2.1, rfl, ⟨g, by have := H.out.1; have := K0.out.low.size; omega, rfl, H.out.2.1⟩, fin.out.2.2⟩))))⟩
    · obtain ⟨n, ho, htk⟩ := may_lab hm hk hp
      have hX := (opOf_lt ho).2
      have cF := find_some r.n n ho _ _ _ _ (show nm n = r.n from hX) (show fm n = fm n from rfl) (show lay (fm n * 3) = lay (fm n * 3) from rfl) (show cyc n = cyc n from rfl) _ (T.out.below K0.out.low)
      have p0 : (r.p == 0) = false := by rw [beq_eq_false_iff_ne]; exact hp
      have c3 := (K0.out.bx 0 _ _ _ rfl).c 3 (.string r.l) rfl
      have fin : Hid (r.k = 2 ∧ r.p ≠ 0 ∧ opOf r.n = some n) := ⟨hk, hp, ho⟩
      obtain ⟨f, hf⟩ : ∃ f, fm n = f := ⟨_, rfl⟩
      obtain ⟨L, hL⟩ : ∃ L, lay (fm n * 3) = L := ⟨_, rfl⟩
      obtain ⟨c, hc⟩ : ∃ c, cyc n = c := ⟨_, rfl⟩
      have fin2 : Hid (fm n = f ∧ lay (fm n * 3) = L ∧ cyc n = c) := ⟨hf, hL, hc⟩
      rw [hL, hc, hf] at cF
      clear hm hk hp ho htk hX hf hL hc
      go_enter Tryd.func37, Tryd.ntmps37
      go_wp2_with (first
        | (go_at_call 49; refine cF.mono ?_; rintro e z ⟨rfl, H⟩; have K1 : Hid (Fm y [(y.heap.size, i6 r, 49)] z) := K0.out.below H; clear H cF)
        | ((with_reducible refine gen_world (z.alloc (.cells #[.string ⟨#[]⟩, .int .u8 0, .int .i64 0, .int .i64 0] 110)) (Fm y [(y.heap.size, i6 r, 49), (z.heap.size, #[.string ⟨#[]⟩, .int .u8 0, .int .i64 0, .int .i64 0], 110)]) ?_ ?_); exact K1.out.new _ _; intro z1 K2)
        | ((with_reducible refine at_st rtI z.heap.size #[.string ⟨#[]⟩, .int .u8 0, .int .i64 0, .int .i64 0] (#[.string r.n, .int .u8 (f : Int), .int .i64 (L : Int), .int .i64 (c : Int)]) ?_ ?_ ?_ ?_ (.tmp 3) (.tmp 45) ?_ ?_ ?_ ?_ ?_); exact K2.out.bx 1 _ _ _ rfl; rfl; rfl; simp [Value.oneCell']; rfl; rfl; rfl; rfl; intro z2 hw2; have K3 : Hid (Fm y [(y.heap.size, i6 r, 49), (z.heap.size, #[.string r.n, .int .u8 (f : Int), .int .i64 (L : Int), .int .i64 (c : Int)], 110)] z2) := K2.out.put 1 _ _ _ _ rfl hw2.out; clear hw2 K2; have d3 := (K3.out.bx 0 _ _ _ rfl).c 3 (.string r.l) rfl; have d4 := (K3.out.bx 0 _ _ _ rfl).c 4 (.int .u8 r.p) rfl)
        | ((with_reducible refine at_load rtI z.heap.size #[.string r.n, .int .u8 (f : Int), .int .i64 (L : Int), .int .i64 (c : Int)] ?_ ?_ (.tmp 3) ?_ ?_ ?_ ?_); exact K3.out.bx 1 _ _ _ rfl; rfl; rfl; rfl; rfl)
        | ((with_reducible refine at_bu _ _ (lbC r.n (f : Int) L (c : Int) r.l r.p) ?_ ?_ ?_ ?_ ?_); rfl; rfl; rfl; kernel_rfl))
      go_ret
      exact ⟨_, _, rfl, K3.out.low, fun b hb => .inr (.inr (.inr (.inr (.inr ⟨fin.out.1, fin.out.2.1, rfl, n, fin.out.2.2, by rw [fin2.out.2.1, fin2.out.2.2, fin2.out.1]; rfl⟩))))⟩
  · have c1 := (K0.out.bx 0 _ _ _ rfl).c 5 (.slice r.sp r.m r.cap) rfl
    have k1 : (r.k == 1) = false := by rw [hk]; rfl
    have k3 : (r.k == 3) = true := by rw [hk]; rfl
    have k4 : (r.k == 4) = false := by rw [hk]; rfl
    have hk' : Hid (r.k = 3) := hk
    clear hm hk
    go_enter Tryd.func37, Tryd.ntmps37
    go_wp2
    go_ret
    exact ⟨_, _, rfl, K0.out.low, fun b _ => .inr (.inr (.inl ⟨hk'.out, rfl, rfl⟩))⟩
  · have c1 := (K0.out.bx 0 _ _ _ rfl).c 2 (.int .i64 r.a) rfl
    have k1 : (r.k == 1) = false := by rw [hk]; rfl
    have k4 : (r.k == 4) = true := by rw [hk]; rfl
    have hk' : Hid (r.k = 4) := hk
    clear hm hk
    go_enter Tryd.func37, Tryd.ntmps37
    go_wp2
    go_ret
    exact ⟨_, _, rfl, K0.out.low, fun b _ => .inr (.inl ⟨hk'.out, rfl, rfl⟩)⟩
  · have c1 := (K0.out.bx 0 _ _ _ rfl).c 3 (.string r.l) rfl
    have k1 : (r.k == 1) = false := by rw [hk]; rfl
    have k3 : (r.k == 3) = false := by rw [hk]; rfl
    have k4 : (r.k == 4) = false := by rw [hk]; rfl
    have k5 : (r.k == 5) = true := by rw [hk]; rfl
    have hk' : Hid (r.k = 5) := hk
    clear hm hk
    go_enter Tryd.func37, Tryd.ntmps37
    go_wp2
    go_ret
    exact ⟨_, _, rfl, K0.out.low, fun b _ => .inr (.inr (.inr (.inl ⟨hk'.out, rfl, rfl⟩)))⟩
end Go.Proofs.YtkpfhnogpcigaaaDoorR
/- A piece that is laid on the sheet. -/
namespace Go.Proofs.YtkpfhnogpcigaaaDoorR
open Go Go.RowKit
set_option linter.unusedVariables false
set_option maxHeartbeats 3000000
set_option maxRecDepth 20000

theorem infoLp : (Tryd.prog.info? 87).map (fun i => (i.zero, i.size, i.bytes)) = some (some (.agg #[.nilIface, .int .i64 0]), 2, 24) := by kernel_rfl
theorem kLp : KdL (α := Lp) 81 87 2 24 cLp := by
  obtain ⟨i, hi, hz0, hz1, hz2⟩ := info_parts infoLp
  exact ⟨Tryd.underlying81, ⟨i, _, hi, hz0, hz1, hz2, rfl⟩, fun x => rfl, fun x v hv => by simp [cLp, lpA] at hv; rcases hv with rfl | rfl <;> rfl, by decide, by decide⟩
theorem szN_k {r : Ri} (h : mayI r = true) (hk : r.k = 3) : szN r = r.m ∧ r.m ≤ 256 ∧ 1 ≤ r.m := by
  have h1 := h
  rw [may3 hk] at h1
  simp at h1
  unfold szN sizeI
  rw [h, if_pos rfl, if_neg (by omega), if_pos hk]
  exact ⟨by simp, h1.1.2, h1.1.1⟩
theorem szN_a {r : Ri} (h : mayI r = true) (hk : r.k = 5) : szN r = 2 := by
  unfold szN sizeI
  rw [h, if_pos rfl, if_neg (by omega), if_neg (by omega), if_pos hk]
  rfl
theorem lay_le (n : Nat) (hn : n < 256) : lay (fm n * 3) ≤ 3 ∧ 1 ≤ lay (fm n * 3) := by
  have := by1_eq n hn
  unfold by1 at this
  rw [this]
  split
  · omega
  · split <;> omega
theorem szN_c {r : Ri} (h : mayI r = true) (hk : r.k = 2) {n : Nat} (ho : opOf r.n = some n) : szN r = lay (fm n * 3) := by
  unfold szN sizeI
  rw [h, if_pos rfl, if_pos hk, ho]
  simp
theorem szN_le {r : Ri} (h : mayI r = true) : szN r ≤ 256 := by
  rcases may_kind h with hk | hk | hk | hk | hk
  · unfold szN sizeI
    rw [h, if_pos rfl, if_neg (by omega), if_neg (by omega), if_neg (by omega)]
    decide
  · obtain ⟨n, ho⟩ := mayI_code h hk
    rw [szN_c h hk ho]
    have := (lay_le n (opOf_lt ho).1).1
    omega
  · rw [(szN_k h hk).1]; exact (szN_k h hk).2.1
  · unfold szN sizeI
    rw [h, if_pos rfl, if_neg (by omega), if_neg (by omega), if_neg (by omega)]
    decide
  · rw [szN_a h hk]; decide
/-- What lay does with the sheet. -/
def LyE (B : Nat) (q : Nu) (s : Sh) (r : Ri) (M : List UInt8) (l : List Lp) (t : TypeId) (v : Value) (y : World) (e : Ending) (z : World) : Prop := e = .returned (.int .i64 (stE s r)) ∧ Hid (Kx B y z ∧ (stE s r = 0 → ∃ vl', Sht B q (stS s r) M vl' (l ++ [⟨t, v, s.p⟩]) z))
section
variable {B : Nat} {q : Nu} {s : Sh} {M : List UInt8} {vl v' : Value} {l : List Lp} {z z1 : World} {x : Lp}
theorem app_bx {o : Obj} (h : OwnL 87 2 cLp B z vl l) (A : App1L 87 2 cLp B vl l x v' (z.alloc o) z1) {g : Nat} {cs : Array Value} {t : TypeId} (hne : 87 ≠ t) (hb : Bx z g cs t) : Bx z1 g cs t := by
  have h1 : Bx (z.alloc o) g cs t := hb.below (below1 z o)
  refine (A.cu.blk g (heap_lt h1) fun j hF => ?_).trans h1
  obtain ⟨c9, h9⟩ := h.ty g hF.1
  have := hb.symm.trans h9
  simp at this
  exact hne this.2.symm
theorem app_map {o : Obj} (h : OwnL 87 2 cLp B z vl l) (A : App1L 87 2 cLp B vl l x v' (z.alloc o) z1) {g : Nat} {F : List (ByteArray × Nat)} (hb : MapE z g F) : MapE z1 g F := by
  have h1 : MapE (z.alloc o) g F := hb.keep ((below1 z o).block g hb.lt)
  refine h1.keep (A.cu.blk g h1.lt fun j hF => ?_)
  obtain ⟨c9, h9⟩ := h.ty g hF.1
  obtain ⟨es, ck, hm⟩ := hb.block
  have := hm.symm.trans h9
  simp at this
theorem Sht.lay1 {o : Obj} (h : Sht B q s M vl l z) (A : App1L 87 2 cLp B vl l x v' (z.alloc o) z1) : z1.cell? ⟨q.s, 1, none⟩ = some vl ∧ z1.frozen? ⟨q.s, 1, none⟩ = false ∧ Kx B z (z1.setCell ⟨q.s, 1, none⟩ v') ∧ Sht B q s M v' (l ++ [x]) (z1.setCell ⟨q.s, 1, none⟩ v') := by
  have hb : Bx z1 q.s (sC q s.p vl) 85 := app_bx h.o A (by decide) h.bx
  have g1 : ∀ g, g ≠ q.s → (z1.setCell ⟨q.s, 1, none⟩ v').heap[g]? = z1.heap[g]? := fun g hg => heap_setCell_other z1 ⟨q.s, 1, none⟩ g _ hg
  refine ⟨hb.c 1 _ rfl, hb.fz 1, ⟨((below1 z o).mono h.Ble).trans (A.cu.low.setCell (p := ⟨q.s, 1, none⟩) h.lo.1 _), fun g cs k => bx_other hb (by decide) g1 (app_bx h.o A (by decide) k)⟩, h.ok, ?_, bx_other hb (by decide) g1 (app_bx h.o A (by decide) h.u), bx_other hb (by decide) g1 (app_bx h.o A (by decide) h.b), map_other hb g1 (app_map h.o A h.m), own_other hb (by decide) g1 A.own, h.lo⟩
  have := heap_setCell_same z1 q.s 1 _ _ v' hb
  refine this.trans ?_
  simp [sC]
end
theorem lay_label (B : Nat) (q : Nu) (s : Sh) (M : List UInt8) (vl : Value) (l : List Lp) (y : World) (h : Hid (Sht B q s M vl l y)) (hl : l.length ≤ 4096) (r : Ri) (hk : r.k = 1) :
    Calls Tryd.prog 36 #[.pointer (some ⟨q.s, 0, none⟩), .iface 99 (.agg #[.string r.n])] y (LyE B q s r M l 99 (.agg #[.string r.n]) y) := by
  have c0 : y.cell? ⟨q.s, 0, none⟩ = some (.int .i64 (s.p : Int)) := h.out.bx.c 0 _ rfl
  have cT := take_label B q s M vl l y h r.n
  have e1 : stE s r = nmE s r.n := by unfold stE; rw [if_pos hk]
  have e2 : stS s r = nmS s r.n := by unfold stS; rw [if_pos hk]
  rw [← e1, ← e2] at cT
  have hl' : Hid (l.length ≤ 4096) := hl
  have fin : Hid (∀ e z, e = .returned (.int .i64 (stE s r)) → (Kx B y z ∧ (stE s r = 0 → ∃ vl', Sht B q (stS s r) M vl' (l ++ [⟨99, .agg #[.string r.n], s.p⟩]) z)) → LyE B q s r M l 99 (.agg #[.string r.n]) y e z) := fun e z h1 h2 => ⟨h1, h2⟩
  generalize stE s r = E at cT fin
  generalize stS s r = S' at cT fin
  generalize LyE B q s r M l 99 (.agg #[.string r.n]) y = Fin at fin ⊢
  clear e1 e2 hk hl
  by_cases hE : E = 0
  · subst hE
    go_enter Tryd.func36, Tryd.ntmps36
    go_wp2_with (first
      | (go_at_call 119; refine cT.mono ?_; rintro e z ⟨rfl, H⟩; have K1 : Hid (Sht B q S' M vl l z) := H.out.2 rfl; have k1 : Hid (Kx B y z) := H.out.1; clear cT H; have d1 : z.cell? ⟨q.s, 1, none⟩ = some vl := K1.out.bx.c 1 _ rfl)
      | (at_builtin; refine at_appL kLp rfl (.tmp 21) (.tmp 25) rfl B vl l rfl (K1.out.o.alloc _) z.heap.size ⟨99, .agg #[.string r.n], s.p⟩ rfl (one_bxL _ _ _) ?_ ?_ ?_; (have := hl'.out; omega); (have := K1.out.Ble; simp; omega); intro v' z1 A; obtain ⟨sp9, cp9, e9, _⟩ := OwnL.open (c := cLp) (s := 2) (fun _ => rfl) A.out.own; rw [List.length_append, List.length_singleton] at e9; subst e9; have Z : Hid _ := K1.out.lay1 A.out; have f1 := Z.out.1; have f2 := Z.out.2.1; clear A d1))
    exact fin.out _ _ rfl ⟨k1.out.trans Z.out.2.2.1, fun _ => ⟨_, Z.out.2.2.2⟩⟩
  · have hE' : (E != 0) = true := by rw [bne_iff_ne]; exact hE
    have hE2 : Hid (E ≠ 0) := hE
    clear hE
    go_enter Tryd.func36, Tryd.ntmps36
    go_wp2_with (go_at_call 119; refine cT.mono ?_; rintro e z ⟨rfl, H⟩; clear cT)
    exact fin.out _ _ rfl ⟨H.out.1, fun e => absurd e hE2.out⟩
theorem lay_move (B : Nat) (q : Nu) (s : Sh) (M : List UInt8) (vl : Value) (l : List Lp) (y : World) (h : Hid (Sht B q s M vl l y)) (hl : l.length ≤ 4096) (r : Ri) (hk : r.k = 4) (hm : mayI r = true) :
    Calls Tryd.prog 36 #[.pointer (some ⟨q.s, 0, none⟩), .iface 101 (.agg #[.int .i64 r.a])] y (LyE B q s r M l 101 (.agg #[.int .i64 r.a]) y) := by
  have c0 : y.cell? ⟨q.s, 0, none⟩ = some (.int .i64 (s.p : Int)) := h.out.bx.c 0 _ rfl
  have cT := take_move B q s M vl l y h r.a (may_at hm hk)
  have e1 : stE s r = 0 := by unfold stE; rw [if_neg (by omega), if_pos hk]
  have e2 : stS s r = ⟨r.a.toNat, s.U, s.N⟩ := by unfold stS; rw [if_neg (by omega), if_pos hk]
  rw [← e1, ← e2] at cT
  have hl' : Hid (l.length ≤ 4096) := hl
  have fin : Hid (∀ e z, e = .returned (.int .i64 (stE s r)) → (Kx B y z ∧ (stE s r = 0 → ∃ vl', Sht B q (stS s r) M vl' (l ++ [⟨101, .agg #[.int .i64 r.a], s.p⟩]) z)) → LyE B q s r M l 101 (.agg #[.int .i64 r.a]) y e z) := fun e z h1 h2 => ⟨h1, h2⟩
  generalize stE s r = E at cT fin
  generalize stS s r = S' at cT fin
  generalize LyE B q s r M l 101 (.agg #[.int .i64 r.a]) y = Fin at fin ⊢
  clear e1 e2 hk hm hl
  by_cases hE : E = 0
  · subst hE
    go_enter Tryd.func36, Tryd.ntmps36
    go_wp2_with (first
      | (go_at_call 122; refine cT.mono ?_; rintro e z ⟨rfl, H⟩; have K1 : Hid (Sht B q S' M vl l z) := H.out.2 rfl; have k1 : Hid (Kx B y z) := H.out.1; clear cT H; have d1 : z.cell? ⟨q.s, 1, none⟩ = some vl := K1.out.bx.c 1 _ rfl)
      | (at_builtin; refine at_appL kLp rfl (.tmp 21) (.tmp 25) rfl B vl l rfl (K1.out.o.alloc _) z.heap.size ⟨101, .agg #[.int .i64 r.a], s.p⟩ rfl (one_bxL _ _ _) ?_ ?_ ?_; (have := hl'.out; omega); (have := K1.out.Ble; simp; omega); intro v' z1 A; obtain ⟨sp9, cp9, e9, _⟩ := OwnL.open (c := cLp) (s := 2) (fun _ => rfl) A.out.own; rw [List.length_append, List.length_singleton] at e9; subst e9; have Z : Hid _ := K1.out.lay1 A.out; have f1 := Z.out.1; have f2 := Z.out.2.1; clear A d1))
    exact fin.out _ _ rfl ⟨k1.out.trans Z.out.2.2.1, fun _ => ⟨_, Z.out.2.2.2⟩⟩
  · have hE' : (E != 0) = true := by rw [bne_iff_ne]; exact hE
    have hE2 : Hid (E ≠ 0) := hE
    clear hE
    go_enter Tryd.func36, Tryd.ntmps36
    go_wp2_with (go_at_call 122; refine cT.mono ?_; rintro e z ⟨rfl, H⟩; clear cT)
    exact fin.out _ _ rfl ⟨H.out.1, fun e => absurd e hE2.out⟩
theorem lay_data (B : Nat) (q : Nu) (s : Sh) (M : List UInt8) (vl : Value) (l : List Lp) (y : World) (h : Hid (Sht B q s M vl l y)) (hl : l.length ≤ 4096) (r : Ri) (hk : r.k = 3) (hm : mayI r = true) :
    Calls Tryd.prog 36 #[.pointer (some ⟨q.s, 0, none⟩), .iface 103 (.agg #[.slice r.sp r.m r.cap])] y (LyE B q s r M l 103 (.agg #[.slice r.sp r.m r.cap]) y) := by
  have c0 : y.cell? ⟨q.s, 0, none⟩ = some (.int .i64 (s.p : Int)) := h.out.bx.c 0 _ rfl
  have cT := take_data B q s M vl l y h r.sp r.m r.cap (by have := (szN_k hm hk).2; omega)
  have e1 : stE s r = clE s r.m := by unfold stE; rw [if_neg (by omega), if_neg (by omega), (szN_k hm hk).1]
  have e2 : stS s r = clS s r.m 2 := by unfold stS useI; rw [if_neg (by omega), if_neg (by omega), (szN_k hm hk).1, if_neg (by omega)]
  rw [← e1, ← e2] at cT
  have hl' : Hid (l.length ≤ 4096) := hl
  have fin : Hid (∀ e z, e = .returned (.int .i64 (stE s r)) → (Kx B y z ∧ (stE s r = 0 → ∃ vl', Sht B q (stS s r) M vl' (l ++ [⟨103, .agg #[.slice r.sp r.m r.cap], s.p⟩]) z)) → LyE B q s r M l 103 (.agg #[.slice r.sp r.m r.cap]) y e z) := fun e z h1 h2 => ⟨h1, h2⟩
  generalize stE s r = E at cT fin
  generalize stS s r = S' at cT fin
  generalize LyE B q s r M l 103 (.agg #[.slice r.sp r.m r.cap]) y = Fin at fin ⊢
  clear e1 e2 hk hm hl
  by_cases hE : E = 0
  · subst hE
    go_enter Tryd.func36, Tryd.ntmps36
    go_wp2_with (first
      | (go_at_call 124; refine cT.mono ?_; rintro e z ⟨rfl, H⟩; have K1 : Hid (Sht B q S' M vl l z) := H.out.2 rfl; have k1 : Hid (Kx B y z) := H.out.1; clear cT H; have d1 : z.cell? ⟨q.s, 1, none⟩ = some vl := K1.out.bx.c 1 _ rfl)
      | (at_builtin; refine at_appL kLp rfl (.tmp 21) (.tmp 25) rfl B vl l rfl (K1.out.o.alloc _) z.heap.size ⟨103, .agg #[.slice r.sp r.m r.cap], s.p⟩ rfl (one_bxL _ _ _) ?_ ?_ ?_; (have := hl'.out; omega); (have := K1.out.Ble; simp; omega); intro v' z1 A; obtain ⟨sp9, cp9, e9, _⟩ := OwnL.open (c := cLp) (s := 2) (fun _ => rfl) A.out.own; rw [List.length_append, List.length_singleton] at e9; subst e9; have Z : Hid _ := K1.out.lay1 A.out; have f1 := Z.out.1; have f2 := Z.out.2.1; clear A d1))
    exact fin.out _ _ rfl ⟨k1.out.trans Z.out.2.2.1, fun _ => ⟨_, Z.out.2.2.2⟩⟩
  · have hE' : (E != 0) = true := by rw [bne_iff_ne]; exact hE
    have hE2 : Hid (E ≠ 0) := hE
    clear hE
    go_enter Tryd.func36, Tryd.ntmps36
    go_wp2_with (go_at_call 124; refine cT.mono ?_; rintro e z ⟨rfl, H⟩; clear cT)
    exact fin.out _ _ rfl ⟨H.out.1, fun e => absurd e hE2.out⟩
theorem lay_address (B : Nat) (q : Nu) (s : Sh) (M : List UInt8) (vl : Value) (l : List Lp) (y : World) (h : Hid (Sht B q s M vl l y)) (hl : l.length ≤ 4096) (r : Ri) (hk : r.k = 5) (hm : mayI r = true) :
    Calls Tryd.prog 36 #[.pointer (some ⟨q.s, 0, none⟩), .iface 105 (.agg #[.string r.l])] y (LyE B q s r M l 105 (.agg #[.string r.l]) y) := by
  have c0 : y.cell? ⟨q.s, 0, none⟩ = some (.int .i64 (s.p : Int)) := h.out.bx.c 0 _ rfl
  have cT := take_address B q s M vl l y h r.l
  have e1 : stE s r = clE s 2 := by unfold stE; rw [if_neg (by omega), if_neg (by omega), szN_a hm hk]
  have e2 : stS s r = clS s 2 2 := by unfold stS useI; rw [if_neg (by omega), if_neg (by omega), szN_a hm hk, if_neg (by omega)]
  rw [← e1, ← e2] at cT
  have hl' : Hid (l.length ≤ 4096) := hl
  have fin : Hid (∀ e z, e = .returned (.int .i64 (stE s r)) → (Kx B y z ∧ (stE s r = 0 → ∃ vl', Sht B q (stS s r) M vl' (l ++ [⟨105, .agg #[.string r.l], s.p⟩]) z)) → LyE B q s r M l 105 (.agg #[.string r.l]) y e z) := fun e z h1 h2 => ⟨h1, h2⟩
  generalize stE s r = E at cT fin
  generalize stS s r = S' at cT fin
  generalize LyE B q s r M l 105 (.agg #[.string r.l]) y = Fin at fin ⊢
  clear e1 e2 hk hm hl
  by_cases hE : E = 0
  · subst hE
    go_enter Tryd.func36, Tryd.ntmps36
    go_wp2_with (first
      | (go_at_call 127; refine cT.mono ?_; rintro e z ⟨rfl, H⟩; have K1 : Hid (Sht B q S' M vl l z) := H.out.2 rfl; have k1 : Hid (Kx B y z) := H.out.1; clear cT H; have d1 : z.cell? ⟨q.s, 1, none⟩ = some vl := K1.out.bx.c 1 _ rfl)
      | (at_builtin; refine at_appL kLp rfl (.tmp 21) (.tmp 25) rfl B vl l rfl (K1.out.o.alloc _) z.heap.size ⟨105, .agg #[.string r.l], s.p⟩ rfl (one_bxL _ _ _) ?_ ?_ ?_; (have := hl'.out; omega); (have := K1.out.Ble; simp; omega); intro v' z1 A; obtain ⟨sp9, cp9, e9, _⟩ := OwnL.open (c := cLp) (s := 2) (fun _ => rfl) A.out.own; rw [List.length_append, List.length_singleton] at e9; subst e9; have Z : Hid _ := K1.out.lay1 A.out; have f1 := Z.out.1; have f2 := Z.out.2.1; clear A d1))
    exact fin.out _ _ rfl ⟨k1.out.trans Z.out.2.2.1, fun _ => ⟨_, Z.out.2.2.2⟩⟩
  · have hE' : (E != 0) = true := by rw [bne_iff_ne]; exact hE
    have hE2 : Hid (E ≠ 0) := hE
    clear hE
    go_enter Tryd.func36, Tryd.ntmps36
    go_wp2_with (go_at_call 127; refine cT.mono ?_; rintro e z ⟨rfl, H⟩; clear cT)
    exact fin.out _ _ rfl ⟨H.out.1, fun e => absurd e hE2.out⟩
theorem lay_plain (B : Nat) (q : Nu) (s : Sh) (M : List UInt8) (vl : Value) (l : List Lp) (y : World) (h : Hid (Sht B q s M vl l y)) (hl : l.length ≤ 4096) (r : Ri) (hk : r.k = 2) (hm : mayI r = true) (n : Nat) (ho : opOf r.n = some n) (L : Nat) (hL : L = lay (fm n * 3)) (sp : Option Addr) :
    Calls Tryd.prog 36 #[.pointer (some ⟨q.s, 0, none⟩), .iface 107 (.agg #[.slice sp L L])] y (LyE B q s r M l 107 (.agg #[.slice sp L L]) y) := by
  have c0 : y.cell? ⟨q.s, 0, none⟩ = some (.int .i64 (s.p : Int)) := h.out.bx.c 0 _ rfl
  have cT := take_plain B q s M vl l y h sp L L (by have := (lay_le n (opOf_lt ho).1).1; omega)
  have e1 : stE s r = clE s L := by unfold stE; rw [if_neg (by omega), if_neg (by omega), szN_c hm hk ho, hL]
  have e2 : stS s r = clS s L 1 := by unfold stS useI; rw [if_neg (by omega), if_neg (by omega), szN_c hm hk ho, if_pos hk, hL]
  rw [← e1, ← e2] at cT
  have hl' : Hid (l.length ≤ 4096) := hl
  have fin : Hid (∀ e z, e = .returned (.int .i64 (stE s r)) → (Kx B y z ∧ (stE s r = 0 → ∃ vl', Sht B q (stS s r) M vl' (l ++ [⟨107, .agg #[.slice sp L L], s.p⟩]) z)) → LyE B q s r M l 107 (.agg #[.slice sp L L]) y e z) := fun e z h1 h2 => ⟨h1, h2⟩
  generalize stE s r = E at cT fin
  generalize stS s r = S' at cT fin
  generalize LyE B q s r M l 107 (.agg #[.slice sp L L]) y = Fin at fin ⊢
  clear e1 e2 hk hm ho hL hl
  by_cases hE : E = 0
  · subst hE
    go_enter Tryd.func36, Tryd.ntmps36
    go_wp2_with (first
      | (go_at_call 129; refine cT.mono ?_; rintro e z ⟨rfl, H⟩; have K1 : Hid (Sht B q S' M vl l z) := H.out.2 rfl; have k1 : Hid (Kx B y z) := H.out.1; clear cT H; have d1 : z.cell? ⟨q.s, 1, none⟩ = some vl := K1.out.bx.c 1 _ rfl)
      | (at_builtin; refine at_appL kLp rfl (.tmp 21) (.tmp 25) rfl B vl l rfl (K1.out.o.alloc _) z.heap.size ⟨107, .agg #[.slice sp L L], s.p⟩ rfl (one_bxL _ _ _) ?_ ?_ ?_; (have := hl'.out; omega); (have := K1.out.Ble; simp; omega); intro v' z1 A; obtain ⟨sp9, cp9, e9, _⟩ := OwnL.open (c := cLp) (s := 2) (fun _ => rfl) A.out.own; rw [List.length_append, List.length_singleton] at e9; subst e9; have Z : Hid _ := K1.out.lay1 A.out; have f1 := Z.out.1; have f2 := Z.out.2.1; clear A d1))
    exact fin.out _ _ rfl ⟨k1.out.trans Z.out.2.2.1, fun _ => ⟨_, Z.out.2.2.2⟩⟩
  · have hE' : (E != 0) = true := by rw [bne_iff_ne]; exact hE
    have hE2 : Hid (E ≠ 0) := hE
    clear hE
    go_enter Tryd.func36, Tryd.ntmps36
    go_wp2_with (go_at_call 129; refine cT.mono ?_; rintro e z ⟨rfl, H⟩; clear cT)
    exact fin.out _ _ rfl ⟨H.out.1, fun e => absurd e hE2.out⟩
theorem lay_labelled (B : Nat) (q : Nu) (s : Sh) (M : List UInt8) (vl : Value) (l : List Lp) (y : World) (h : Hid (Sht B q s M vl l y)) (hl : l.length ≤ 4096) (r : Ri) (hk : r.k = 2) (hm : mayI r = true) (n : Nat) (ho : opOf r.n = some n) (L : Nat) (hL : L = lay (fm n * 3)) (X : ByteArray) (F cy : Int) :
    Calls Tryd.prog 36 #[.pointer (some ⟨q.s, 0, none⟩), .iface 114 (.agg (lbC X F L cy r.l r.p))] y (LyE B q s r M l 114 (.agg (lbC X F L cy r.l r.p)) y) := by
  have c0 : y.cell? ⟨q.s, 0, none⟩ = some (.int .i64 (s.p : Int)) := h.out.bx.c 0 _ rfl
  have cT := take_labelled B q s M vl l y h X F L cy r.l r.p (by have := (lay_le n (opOf_lt ho).1).1; omega)
  have e1 : stE s r = clE s L := by unfold stE; rw [if_neg (by omega), if_neg (by omega), szN_c hm hk ho, hL]
  have e2 : stS s r = clS s L 1 := by unfold stS useI; rw [if_neg (by omega), if_neg (by omega), szN_c hm hk ho, if_pos hk, hL]
  rw [← e1, ← e2] at cT
  have hl' : Hid (l.length ≤ 4096) := hl
  have fin : Hid (∀ e z, e = .returned (.int .i64 (stE s r)) → (Kx B y z ∧ (stE s r = 0 → ∃ vl', Sht B q (stS s r) M vl' (l ++ [⟨114, .agg (lbC X F L cy r.l r.p), s.p⟩]) z)) → LyE B q s r M l 114 (.agg (lbC X F L cy r.l r.p)) y e z) := fun e z h1 h2 => ⟨h1, h2⟩
  generalize stE s r = E at cT fin
  generalize stS s r = S' at cT fin
  generalize LyE B q s r M l 114 (.agg (lbC X F L cy r.l r.p)) y = Fin at fin ⊢
  clear e1 e2 hk hm ho hL hl
  by_cases hE : E = 0
  · subst hE
    go_enter Tryd.func36, Tryd.ntmps36
    go_wp2_with (first
      | (go_at_call 132; refine cT.mono ?_; rintro e z ⟨rfl, H⟩; have K1 : Hid (Sht B q S' M vl l z) := H.out.2 rfl; have k1 : Hid (Kx B y z) := H.out.1; clear cT H; have d1 : z.cell? ⟨q.s, 1, none⟩ = some vl := K1.out.bx.c 1 _ rfl)
      | (at_builtin; refine at_appL kLp rfl (.tmp 21) (.tmp 25) rfl B vl l rfl (K1.out.o.alloc _) z.heap.size ⟨114, .agg (lbC X F L cy r.l r.p), s.p⟩ rfl (one_bxL _ _ _) ?_ ?_ ?_; (have := hl'.out; omega); (have := K1.out.Ble; simp; omega); intro v' z1 A; obtain ⟨sp9, cp9, e9, _⟩ := OwnL.open (c := cLp) (s := 2) (fun _ => rfl) A.out.own; rw [List.length_append, List.length_singleton] at e9; subst e9; have Z : Hid _ := K1.out.lay1 A.out; have f1 := Z.out.1; have f2 := Z.out.2.1; clear A d1))
    exact fin.out _ _ rfl ⟨k1.out.trans Z.out.2.2.1, fun _ => ⟨_, Z.out.2.2.2⟩⟩
  · have hE' : (E != 0) = true := by rw [bne_iff_ne]; exact hE
    have hE2 : Hid (E ≠ 0) := hE
    clear hE
    go_enter Tryd.func36, Tryd.ntmps36
    go_wp2_with (go_at_call 132; refine cT.mono ?_; rintro e z ⟨rfl, H⟩; clear cT)
    exact fin.out _ _ rfl ⟨H.out.1, fun e => absurd e hE2.out⟩
/-- Any item that may be is laid. -/
theorem lay_any (B : Nat) (q : Nu) (s : Sh) (M : List UInt8) (vl : Value) (l : List Lp) (y : World) (h : Hid (Sht B q s M vl l y)) (hl : l.length ≤ 4096) (r : Ri) (hm : mayI r = true) (b : Nat) (t : TypeId) (v : Value) (hp : PcV b r t v y) :
    Calls Tryd.prog 36 #[.pointer (some ⟨q.s, 0, none⟩), .iface t v] y (LyE B q s r M l t v y) := by
  rcases hp with ⟨hk, rfl, rfl⟩ | ⟨hk, rfl, rfl⟩ | ⟨hk, rfl, rfl⟩ | ⟨hk, rfl, rfl⟩ | ⟨hk, _, rfl, ⟨g, _, rfl, _⟩, n, ho, _⟩ | ⟨hk, _, rfl, n, ho, rfl⟩
  · exact lay_label B q s M vl l y h hl r hk
  · exact lay_move B q s M vl l y h hl r hk hm
  · exact lay_data B q s M vl l y h hl r hk hm
  · exact lay_address B q s M vl l y h hl r hk hm
  · exact lay_plain B q s M vl l y h hl r hk hm n ho _ (encL_len r.n r.a n ho) _
  · exact lay_labelled B q s M vl l y h hl r hk hm n ho _ rfl _ _ _
end Go.Proofs.YtkpfhnogpcigaaaDoorR
