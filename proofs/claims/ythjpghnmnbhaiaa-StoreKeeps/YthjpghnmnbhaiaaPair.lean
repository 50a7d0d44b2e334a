/- The program's store and the document's, side by side: what each call leaves of both. -/
import Derived.Test.YthjpghnmnbhaiaaClone
import Derived.Test.YthjpghnmnbhaiaaRefD
namespace Go.Proofs.Ythjpghnmnbhaiaa
open Go Go.RowKit
set_option linter.unusedVariables false
set_option maxHeartbeats 400000
set_option maxRecDepth 20000

def Foot (g r m f k : Nat) : Prop := k = g ∨ k = r ∨ k = m ∨ k = f
/-- Both stand, and what was there is as it was. -/
structure Two (w x : World) (g r m f : Nat) (S T : St) : Prop where
  sto : Sto x g S
  ref : Ref x r m f T
  okS : S.ok
  okT : T.ok
  low : Below w.heap.size w x
  lg : w.heap.size ≤ g
  lr : w.heap.size ≤ r
  lm : w.heap.size ≤ m
  lf : w.heap.size ≤ f
theorem Two.gr {w x : World} {g r m f : Nat} {S T : St} (h : Two w x g r m f S T) : g ≠ r ∧ g ≠ m ∧ g ≠ f := by
  obtain ⟨C, h1, _⟩ := h.sto
  obtain ⟨cm, h2, _⟩ := h.ref.mem
  obtain ⟨cf, h3, _⟩ := h.ref.fix
  have h4 := h.ref.box
  exact ⟨fun e => by subst e; rw [h1] at h4; simp at h4, fun e => by subst e; rw [h1] at h2; simp at h2, fun e => by subst e; rw [h1] at h3; simp at h3⟩
theorem Two.lt {w x : World} {g r m f : Nat} {S T : St} (h : Two w x g r m f S T) (k : Nat) (hk : Foot g r m f k) : k < x.heap.size := by
  rcases hk with rfl | rfl | rfl | rfl
  · exact h.sto.lt
  · exact heap_lt h.ref.box
  · exact h.ref.mem.lt
  · exact h.ref.fix.lt
theorem Two.ge {w x : World} {g r m f : Nat} {S T : St} (h : Two w x g r m f S T) (k : Nat) (hk : Foot g r m f k) : w.heap.size ≤ k := by
  rcases hk with rfl | rfl | rfl | rfl
  · exact h.lg
  · exact h.lr
  · exact h.lm
  · exact h.lf
/-- What does not touch the two leaves them. -/
theorem Two.keep {F : Nat → Prop} {w x y : World} {g r m f : Nat} {S T : St} (h : Two w x g r m f S T) (u : Upd F x y) (hF : ∀ k, F k → w.heap.size ≤ k) (hd : ∀ k, F k → ¬ Foot g r m f k) : Two w y g r m f S T :=
  ⟨h.sto.keep u fun e => hd _ e (.inl rfl), h.ref.keep u (fun e => hd _ e (.inr (.inl rfl))) (fun e => hd _ e (.inr (.inr (.inl rfl)))) (fun e => hd _ e (.inr (.inr (.inr rfl)))), h.okS, h.okT, h.low.trans (u.below h.low.size hF), h.lg, h.lr, h.lm, h.lf⟩
theorem Two.below {w x y : World} {g r m f : Nat} {S T : St} (h : Two w x g r m f S T) (hb : Below x.heap.size x y) : Two w y g r m f S T := h.keep (F := fun _ => False) (Upd.of_below hb) (fun _ h => h.elim) (fun _ h => h.elim)
theorem Two.drewN {w x : World} {g r m f n : Nat} {S T : St} (h : Two w x g r m f S T) : Two w (x.drewN n) g r m f S T := h.below (below_drewN (Below.refl _ _))
theorem Two.left {w x y : World} {g r m f : Nat} {S T S' : St} (h : Two w x g r m f S T) (hs : Sto y g S') (u : Upd (· = g) x y) (ok : S'.ok) : Two w y g r m f S' T ∧ Upd (Foot g r m f) x y :=
  ⟨⟨hs, h.ref.keep u (fun e => h.gr.1 e.symm) (fun e => h.gr.2.1 e.symm) (fun e => h.gr.2.2 e.symm), ok, h.okT, h.low.trans (u.below h.low.size fun k hk => by subst hk; exact h.lg), h.lg, h.lr, h.lm, h.lf⟩, u.mono fun k hk => .inl hk⟩
theorem Two.right {w x y : World} {g r m f : Nat} {S T T' : St} (h : Two w x g r m f S T) (hs : Ref y r m f T') (u : Upd (fun k => k = r ∨ k = m) x y) (ok : T'.ok) : Two w y g r m f S T' ∧ Upd (Foot g r m f) x y :=
  ⟨⟨h.sto.keep u (fun e => e.elim h.gr.1 h.gr.2.1), hs, h.okS, ok, h.low.trans (u.below h.low.size fun k hk => by rcases hk with rfl | rfl; exact h.lr; exact h.lm), h.lg, h.lr, h.lm, h.lf⟩, u.mono fun k hk => by rcases hk with h | h; exact .inr (.inl h); exact .inr (.inr (.inl h))⟩
/-- What a call leaves. -/
def Goes (w x : World) (g r m f : Nat) (S T : St) (y : World) : Prop := Two w y g r m f S T ∧ Upd (Foot g r m f) x y

theorem p_read (w x : World) (g r m f : Nat) (S T : St) (h : Hid (Two w x g r m f S T)) (a : Nat) (ha : a < 65536) :
    Calls Try.prog 29 #[.pointer (some ⟨g, 0, none⟩), .int .u16 (a : Int)] x fun e y => e = .returned (.int .u8 (S.read a)) ∧ Hid (Goes w x g r m f S T y) := by
  refine (read_any x g S h.out.okS h.out.sto a ha).mono ?_
  rintro e y ⟨rfl, k, rfl⟩
  exact ⟨rfl, h.out.drewN, Upd.drewN (Upd.refl _ _)⟩
theorem p_rread (w x : World) (g r m f : Nat) (S T : St) (h : Hid (Two w x g r m f S T)) (a : Nat) (ha : a < 65536) :
    Calls Try.prog 30 #[.pointer (some ⟨r, 0, none⟩), .int .u16 (a : Int)] x fun e y => e = .returned (.int .u8 (T.read a)) ∧ Hid (Goes w x g r m f S T y) := by
  refine (rread_any x r m f T h.out.ref a ha).mono ?_
  rintro e y ⟨rfl, rfl⟩
  exact ⟨rfl, h.out, Upd.refl _ _⟩
theorem p_write (w x : World) (g r m f : Nat) (S T : St) (h : Hid (Two w x g r m f S T)) (a : Nat) (ha : a < 65536) (b : Int) (hb : 0 ≤ b ∧ b < 256) :
    Calls Try.prog 31 #[.pointer (some ⟨g, 0, none⟩), .int .u16 (a : Int), .int .u8 b] x fun e y => (∃ v, e = .returned v) ∧ Hid (Goes w x g r m f (S.write a b) T y) := by
  refine (write_any x g S h.out.okS h.out.sto a ha b).mono ?_
  rintro e y ⟨hv, hs, u⟩
  exact ⟨hv, h.out.left hs u (h.out.okS.write hb)⟩
theorem p_rwrite (w x : World) (g r m f : Nat) (S T : St) (h : Hid (Two w x g r m f S T)) (a : Nat) (ha : a < 65536) (b : Int) (hb : 0 ≤ b ∧ b < 256) :
    Calls Try.prog 35 #[.pointer (some ⟨r, 0, none⟩), .int .u16 (a : Int), .int .u8 b] x fun e y => (∃ v, e = .returned v) ∧ Hid (Goes w x g r m f S (T.write a b) y) := by
  refine (rwrite_any x r m f T h.out.ref a ha b).mono ?_
  rintro e y ⟨hv, hs, u⟩
  exact ⟨hv, h.out.right hs (u.mono fun k hk => .inr hk) (h.out.okT.write hb)⟩
theorem p_setLatch (w x : World) (g r m f : Nat) (S T : St) (h : Hid (Two w x g r m f S T)) (b : Bool) :
    Calls Try.prog 27 #[.pointer (some ⟨g, 0, none⟩), .bool b] x fun e y => (∃ v, e = .returned v) ∧ Hid (Goes w x g r m f (S.latch b) T y) := by
  refine (setLatch_any x g S h.out.sto b).mono ?_
  rintro e y ⟨hv, hs, u⟩
  exact ⟨hv, h.out.left hs u (h.out.okS.latch b)⟩
theorem p_rsetLatch (w x : World) (g r m f : Nat) (S T : St) (h : Hid (Two w x g r m f S T)) (b : Bool) :
    Calls Try.prog 28 #[.pointer (some ⟨r, 0, none⟩), .bool b] x fun e y => (∃ v, e = .returned v) ∧ Hid (Goes w x g r m f S (T.latch b) y) := by
  refine (rsetLatch_any x r m f T h.out.ref b).mono ?_
  rintro e y ⟨hv, hs, u⟩
  exact ⟨hv, h.out.right hs (u.mono fun k hk => .inl hk) (h.out.okT.latch b)⟩
theorem p_latch (w x : World) (g r m f : Nat) (S T : St) (h : Hid (Two w x g r m f S T)) :
    Calls Try.prog 22 #[.pointer (some ⟨g, 0, none⟩)] x fun e y => e = .returned (.bool S.on) ∧ Hid (Goes w x g r m f S T y) := by
  refine (latch_any x g S h.out.sto).mono ?_
  rintro e y ⟨rfl, rfl⟩
  exact ⟨rfl, h.out, Upd.refl _ _⟩
theorem p_rlatch (w x : World) (g r m f : Nat) (S T : St) (h : Hid (Two w x g r m f S T)) :
    Calls Try.prog 23 #[.pointer (some ⟨r, 0, none⟩)] x fun e y => e = .returned (.bool T.on) ∧ Hid (Goes w x g r m f S T y) := by
  refine (rlatch_any x r m f T h.out.ref).mono ?_
  rintro e y ⟨rfl, rfl⟩
  exact ⟨rfl, h.out, Upd.refl _ _⟩

/-- What Lay answers, and what it leaves. -/
def layE (n : Nat) (p : Int) (len : Nat) : Int := if 0 ≤ p ∧ p + len ≤ n then 0 else 32
def St.layd (S : St) (p : Int) (len : Nat) (Y : Nat → Int) : St := if 0 ≤ p ∧ p + len ≤ S.n then S.lay p.toNat len Y else S
theorem St.ok.layd {S : St} (ok : S.ok) {p : Int} {len : Nat} {Y : Nat → Int} (hY : ∀ j, 0 ≤ Y j ∧ Y j < 256) : (S.layd p len Y).ok := by
  unfold St.layd
  split
  · exact ok.lay hY
  · exact ok
theorem St.layd_n (S : St) (p : Int) (len : Nat) (Y : Nat → Int) : (S.layd p len Y).n = S.n := by
  unfold St.layd
  split <;> rfl
theorem p_lay (w x : World) (g r m f : Nat) (S T : St) (h : Hid (Two w x g r m f S T)) (p : Int) (hp1 : -9223372036854775808 ≤ p) (hp2 : p ≤ 9223372036854775807) (sp : Option Addr) (len cap : Nat) (hlen : len ≤ maxLen) (Y : Nat → Int) (hY : Hid (Lies x sp len Y)) (hb : ∀ j, 0 ≤ Y j ∧ Y j < 256) :
    Calls Try.prog 25 #[.pointer (some ⟨g, 0, none⟩), .int .i64 p, .slice sp len cap] x fun e y => e = .returned (.int .i64 (layE S.n p len)) ∧ Hid (Goes w x g r m f (S.layd p len Y) T y) := by
  unfold layE St.layd
  by_cases hc : 0 ≤ p ∧ p + len ≤ S.n
  · rw [if_pos hc, if_pos hc]
    obtain ⟨q, rfl⟩ := Int.eq_ofNat_of_zero_le hc.1
    refine (lay_some x g S h.out.okS h.out.sto q sp len cap (by omega) Y hY).mono ?_
    rintro e y ⟨rfl, hs, u⟩
    exact ⟨rfl, h.out.left hs u (h.out.okS.lay hb)⟩
  · rw [if_neg hc, if_neg hc]
    refine (lay_none x g S h.out.okS h.out.sto p hp1 hp2 sp len cap hlen hc).mono ?_
    rintro e y ⟨rfl, rfl⟩
    exact ⟨rfl, h.out, Upd.refl _ _⟩
theorem p_rlay (w x : World) (g r m f : Nat) (S T : St) (h : Hid (Two w x g r m f S T)) (p : Int) (hp1 : -9223372036854775808 ≤ p) (hp2 : p ≤ 9223372036854775807) (sp : Option Addr) (len cap : Nat) (hlen : len ≤ maxLen) (Y : Nat → Int) (hY : Hid (Lies x sp len Y)) (hb : ∀ j, 0 ≤ Y j ∧ Y j < 256) :
    Calls Try.prog 26 #[.pointer (some ⟨r, 0, none⟩), .int .i64 p, .slice sp len cap] x fun e y => e = .returned (.int .i64 (layE T.n p len)) ∧ Hid (Goes w x g r m f S (T.layd p len Y) y) := by
  unfold layE St.layd
  by_cases hc : 0 ≤ p ∧ p + len ≤ T.n
  · rw [if_pos hc, if_pos hc]
    obtain ⟨q, rfl⟩ := Int.eq_ofNat_of_zero_le hc.1
    refine (rlay_some x r m f T h.out.okT h.out.ref q sp len cap (by omega) Y hY).mono ?_
    rintro e y ⟨rfl, hs, u⟩
    exact ⟨rfl, h.out.right hs (u.mono fun k hk => .inr hk) (h.out.okT.lay hb)⟩
  · rw [if_neg hc, if_neg hc]
    refine (rlay_none x r m f T h.out.okT h.out.ref p hp1 hp2 sp len cap hlen hc).mono ?_
    rintro e y ⟨rfl, rfl⟩
    exact ⟨rfl, h.out, Upd.refl _ _⟩

theorem same_true (w : World) (a b : Option Addr) (len ca cb : Nat) (f : Nat → Int) (hlen : len ≤ 9223372036854775807)
    (ha : Hid (Lies w a len f)) (hb : Hid (Lies w b len f)) :
    Calls Try.prog 17 #[.slice a len ca, .slice b len cb] w fun e w' => e = .returned (.bool true) ∧ ∃ k, w' = w.drewN k := by
  have hq : ((len : Int) != len) = false := by simp
  go_enter Try.func17, Try.ntmps17
  go_wp2
  go_loopw [5] (fun i wr => ∃ (j k : Nat), j ≤ len ∧ i = .int .i64 (j : Int) ∧ wr = w.drewN k) (fun i _ => (len - intOf i).toNat)
  case atStart => exact ⟨0, 0, by omega, rfl, rfl⟩
  case round =>
    obtain ⟨j, k, hj, rfl, rfl⟩ := hrel
    by_cases hlt : j < len
    · obtain ⟨ga, oa, rfl, h1⟩ := ha.out j hlt
      obtain ⟨gb, ob, rfl, h2⟩ := hb.out j hlt
      have i1 := fun w => idxS (g := ga) (off := oa) (cap := ca) Try.underlying23 (s := 1) (by kernel_rfl) .i64 j w hlt
      have i2 := fun w => idxS (g := gb) (off := ob) (cap := cb) Try.underlying23 (s := 1) (by kernel_rfl) .i64 j w hlt
      simp only [Nat.mul_one] at i1 i2
      have hne : (f j != f j) = false := by simp
      go_wp2
      go_quiet (fail)
      go_wp2
      go_roundw
      case rel => exact ⟨j + 1, _, by omega, by simp, rfl⟩
      case measure => simp [intOf]; omega
    · go_wp2
      go_ret
      exact ⟨rfl, _, rfl⟩
end Go.Proofs.Ythjpghnmnbhaiaa
