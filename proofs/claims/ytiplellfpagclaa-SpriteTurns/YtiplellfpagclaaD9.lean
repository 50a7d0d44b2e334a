/- Strokes in whatever order: the statement's walk. -/
import Derived.Test.YtiplellfpagclaaD4
import Derived.Test.YtiplellfpagclaaD8
namespace Go.Proofs.Ytiplellfpagclaa
open Go Go.RowKit Go.Shelf
set_option linter.unusedVariables false
set_option maxHeartbeats 1000000
set_option maxRecDepth 20000

/-- The page behind a stroke. -/
def drw (x y : UInt8) (rows p : List UInt8) : List UInt8 := (drawS x.toNat y.toNat rows p (8 * rows.length)).1
/-- Whether a dot of a stroke is on. -/
def gon (x y : UInt8) (rows p : List UInt8) : Bool := goneS x.toNat y.toNat rows p (8 * rows.length)
theorem drw_len (x y : UInt8) (rows p : List UInt8) : (drw x y rows p).length = p.length := draw_len ..
/-- What Draw leaves: a page somewhere. -/
def DrE (w : World) (l : List UInt8) (g : Bool) (e : Ending) (w' : World) : Prop := ∃ sp cap, e = .returned (.tuple #[.slice sp 256 cap, .bool g, .int .i64 0]) ∧ Hid (LB w' sp l ∧ Below w.heap.size w w')
theorem draw_ok (w : World) (sp spR : Option Addr) (cap capR : Nat) (p rows : List UInt8) (x y : UInt8) (hp : p.length = 256) (hr : rows.length ≤ 15) (hl : Hid (LB w sp p)) (hlr : Hid (LB w spR rows)) :
    Calls Try.prog 6 #[.slice sp 256 cap, .int .u8 (x.toNat : Int), .int .u8 (y.toNat : Int), .slice spR rows.length capR] w (DrE w (drw x y rows p) (gon x y rows p)) := by
  have := draw_any w sp spR cap capR p rows x y hl hlr
  rw [hp] at this
  refine this.mono ?_
  rintro e w' ⟨v, rfl, K⟩
  unfold drawA at K ⊢
  rw [if_pos ⟨hp, hr⟩] at K ⊢
  dsimp only at K ⊢
  obtain ⟨s2, c2, rfl, hl2, _⟩ := OwnL.open kByte.len K.out.own
  rw [draw_len, hp]
  refine ⟨s2, c2, ?_, ⟨hl2, K.out.low⟩⟩
  rw [draw_gone _ _ _ _ hp]
  rfl
theorem rtSt : Rt Try.prog 24 3 := ⟨⟨_, Try.underlying24, rfl⟩, by kernel_rfl⟩
theorem turns_walk (w : World) (sp sA sB : Option Addr) (cap cA cB' : Nat) (p ra rb : List UInt8) (xa ya xb yb : UInt8) (hl : Hid (LB w sp p)) (hA : Hid (LB w sA ra)) (hB : Hid (LB w sB rb)) :
    Calls Try.prog 4 #[.slice sp p.length cap, .agg (stC xa ya (.slice sA ra.length cA)), .agg (stC xb yb (.slice sB rb.length cB'))] w fun e w' => e = .returned (.bool true) ∧ Below w.heap.size w w' := by
  obtain ⟨n, hn⟩ : ∃ n, p.length = n := ⟨_, rfl⟩
  obtain ⟨ma, hma⟩ : ∃ n, ra.length = n := ⟨_, rfl⟩
  obtain ⟨mb, hmb⟩ : ∃ n, rb.length = n := ⟨_, rfl⟩
  rw [hn, hma, hmb]
  unfold stC
  by_cases h1 : n = 256
  · by_cases h2 : ma ≤ 15
    · by_cases h3 : mb ≤ 15
      · subst h1
        have q2 : decide ((15 : Int) < (ma : Int)) = false := by simp; omega
        have q3 : decide ((15 : Int) < (mb : Int)) = false := by simp; omega
        have dA : Hid (∀ (y : World) (s : Option Addr) (c : Nat) (q : List UInt8), q.length = 256 → Below w.heap.size w y → LB y s q → Calls Try.prog 6 #[.slice s 256 c, .int .u8 (xa.toNat : Int), .int .u8 (ya.toNat : Int), .slice sA ma cA] y (DrE y (drw xa ya ra q) (gon xa ya ra q))) := fun y s c q hq hb hs => by
          have := draw_ok y s sA c cA q ra xa ya hq (by omega) hs (hA.out.below hb)
          rw [hma] at this
          exact this
        have dB : Hid (∀ (y : World) (s : Option Addr) (c : Nat) (q : List UInt8), q.length = 256 → Below w.heap.size w y → LB y s q → Calls Try.prog 6 #[.slice s 256 c, .int .u8 (xb.toNat : Int), .int .u8 (yb.toNat : Int), .slice sB mb cB'] y (DrE y (drw xb yb rb q) (gon xb yb rb q))) := fun y s c q hq hb hs => by
          have := draw_ok y s sB c cB' q rb xb yb hq (by omega) hs (hB.out.below hb)
          rw [hmb] at this
          exact this
        have wB : Hid (∀ (y : World), Below w.heap.size w y → Calls Try.prog 8 #[.slice sp 256 cap, .agg #[.int .u8 (xb.toNat : Int), .int .u8 (yb.toNat : Int), .slice sB mb cB']] y fun e w' => e = .returned (.bool (gon xb yb rb p)) ∧ Below y.heap.size y w') := fun y hb => by
          have := went_any y sp sB cap cB' p rb xb yb hn (by omega) (hl.out.below hb) (hB.out.below hb)
          rw [hmb] at this
          unfold gon
          rw [hmb]
          exact this
        have hS : Hid (∀ (y : World) (s1 s2 : Option Addr) (c1 c2 : Nat), LB y s1 (drw xb yb rb (drw xa ya ra p)) → LB y s2 (drw xa ya ra (drw xb yb rb p)) → Calls Try.prog 7 #[.slice s1 256 c1, .slice s2 256 c2] y fun e w' => e = .returned (.bool true) ∧ Below y.heap.size y w') := fun y s1 s2 c1 c2 k1 k2 => by
          have := same_any y s1 s2 c1 c2 _ _ k1 k2 (by rw [drw_len, drw_len]; omega) (by rw [drw_len, drw_len]; omega)
          rw [drw_len, drw_len, drw_len, drw_len, hn] at this
          rw [decide_eq_true (show drw xb yb rb (drw xa ya ra p) = drw xa ya ra (drw xb yb rb p) from draw_turns _ _ _ _ _ _ _ hn _ _)] at this
          exact this
        have hp : Hid (p.length = 256) := hn
        have gB : (gon xb yb rb p == gon xb yb rb p) = true := by simp
        obtain ⟨gb, hgb⟩ : ∃ g, gon xb yb rb p = g := ⟨_, rfl⟩
        rw [hgb] at wB gB
        have K0 : Hid (Fm w [(w.heap.size, #[.int .u8 (xa.toNat : Int), .int .u8 (ya.toNat : Int), .slice sA ma cA], 24), (w.heap.size + 1, #[.int .u8 (xb.toNat : Int), .int .u8 (yb.toNat : Int), .slice sB mb cB'], 24)] ((w.alloc (.cells #[.int .u8 (xa.toNat : Int), .int .u8 (ya.toNat : Int), .slice sA ma cA] 24)).alloc (.cells #[.int .u8 (xb.toNat : Int), .int .u8 (yb.toNat : Int), .slice sB mb cB'] 24))) := Fm.two w _ _ _ _
        clear hn hma hmb h2 h3
        go_enter Try.func4, Try.ntmps4
        go_wp2_with (first
          | (go_at_call 8; refine (wB.out y5 F5.out.low).mono ?_; rintro e y6 ⟨rfl, H6⟩)
          | ((with_reducible refine at_load rtSt (w.heap.size + 1) #[.int .u8 (xb.toNat : Int), .int .u8 (yb.toNat : Int), .slice sB mb cB'] ?_ ?_ (.tmp 5) ?_ ?_ ?_ ?_); exact F5.out.bx 1 _ _ _ rfl; rfl; kernel_rfl; rfl; rfl)
          | (go_at_call 7; refine (hS.out y4 s2 s4 k2 k4 L2b.out H4.out.1).mono ?_; rintro e y5 ⟨rfl, H5⟩; have F5 : Hid (Fm w [(w.heap.size, #[.int .u8 (xa.toNat : Int), .int .u8 (ya.toNat : Int), .slice sA ma cA], 24), (w.heap.size + 1, #[.int .u8 (xb.toNat : Int), .int .u8 (yb.toNat : Int), .slice sB mb cB'], 24)] y5) := F4.out.below H5)
          | (go_at_call 6; refine (dA.out y3 s3 k3 (drw xb yb rb p) (by rw [drw_len]; exact hp.out) F3.out.low H3.out.1).mono ?_; rintro e y4 ⟨s4, k4, rfl, H4⟩; have F4 : Hid (Fm w [(w.heap.size, #[.int .u8 (xa.toNat : Int), .int .u8 (ya.toNat : Int), .slice sA ma cA], 24), (w.heap.size + 1, #[.int .u8 (xb.toNat : Int), .int .u8 (yb.toNat : Int), .slice sB mb cB'], 24)] y4) := F3.out.below H4.out.2; have L2b : Hid (LB y4 s2 (drw xb yb rb (drw xa ya ra p))) := L2.out.below H4.out.2; clear c300 c301 c302 c310 c311 c312)
          | (go_at_call 6; refine (dB.out y2 sp cap p hp.out F2.out.low (hl.out.below F2.out.low)).mono ?_; rintro e y3 ⟨s3, k3, rfl, H3⟩; have F3 : Hid (Fm w [(w.heap.size, #[.int .u8 (xa.toNat : Int), .int .u8 (ya.toNat : Int), .slice sA ma cA], 24), (w.heap.size + 1, #[.int .u8 (xb.toNat : Int), .int .u8 (yb.toNat : Int), .slice sB mb cB'], 24)] y3) := F2.out.below H3.out.2; have L2 : Hid (LB y3 s2 (drw xb yb rb (drw xa ya ra p))) := H2.out.1.below H3.out.2; clear c200 c201 c202 c210 c211 c212; have c300 := (F3.out.bx 0 _ _ _ rfl).c 0 (.int .u8 (xa.toNat : Int)) rfl; have c301 := (F3.out.bx 0 _ _ _ rfl).c 1 (.int .u8 (ya.toNat : Int)) rfl; have c302 := (F3.out.bx 0 _ _ _ rfl).c 2 (.slice sA ma cA) rfl; have c310 := (F3.out.bx 1 _ _ _ rfl).c 0 (.int .u8 (xb.toNat : Int)) rfl; have c311 := (F3.out.bx 1 _ _ _ rfl).c 1 (.int .u8 (yb.toNat : Int)) rfl; have c312 := (F3.out.bx 1 _ _ _ rfl).c 2 (.slice sB mb cB') rfl)
          | (go_at_call 6; refine (dB.out y1 s1 k1 (drw xa ya ra p) (by rw [drw_len]; exact hp.out) F1.out.low H1.out.1).mono ?_; rintro e y2 ⟨s2, k2, rfl, H2⟩; have F2 : Hid (Fm w [(w.heap.size, #[.int .u8 (xa.toNat : Int), .int .u8 (ya.toNat : Int), .slice sA ma cA], 24), (w.heap.size + 1, #[.int .u8 (xb.toNat : Int), .int .u8 (yb.toNat : Int), .slice sB mb cB'], 24)] y2) := F1.out.below H2.out.2; clear c100 c101 c102 c110 c111 c112; have c200 := (F2.out.bx 0 _ _ _ rfl).c 0 (.int .u8 (xa.toNat : Int)) rfl; have c201 := (F2.out.bx 0 _ _ _ rfl).c 1 (.int .u8 (ya.toNat : Int)) rfl; have c202 := (F2.out.bx 0 _ _ _ rfl).c 2 (.slice sA ma cA) rfl; have c210 := (F2.out.bx 1 _ _ _ rfl).c 0 (.int .u8 (xb.toNat : Int)) rfl; have c211 := (F2.out.bx 1 _ _ _ rfl).c 1 (.int .u8 (yb.toNat : Int)) rfl; have c212 := (F2.out.bx 1 _ _ _ rfl).c 2 (.slice sB mb cB') rfl)
          | (go_at_call 6; refine (dA.out _ sp cap p hp.out K0.out.low (hl.out.below K0.out.low)).mono ?_; rintro e y1 ⟨s1, k1, rfl, H1⟩; have F1 : Hid (Fm w [(w.heap.size, #[.int .u8 (xa.toNat : Int), .int .u8 (ya.toNat : Int), .slice sA ma cA], 24), (w.heap.size + 1, #[.int .u8 (xb.toNat : Int), .int .u8 (yb.toNat : Int), .slice sB mb cB'], 24)] y1) := K0.out.below H1.out.2; have c100 := (F1.out.bx 0 _ _ _ rfl).c 0 (.int .u8 (xa.toNat : Int)) rfl; have c101 := (F1.out.bx 0 _ _ _ rfl).c 1 (.int .u8 (ya.toNat : Int)) rfl; have c102 := (F1.out.bx 0 _ _ _ rfl).c 2 (.slice sA ma cA) rfl; have c110 := (F1.out.bx 1 _ _ _ rfl).c 0 (.int .u8 (xb.toNat : Int)) rfl; have c111 := (F1.out.bx 1 _ _ _ rfl).c 1 (.int .u8 (yb.toNat : Int)) rfl; have c112 := (F1.out.bx 1 _ _ _ rfl).c 2 (.slice sB mb cB') rfl))
        go_ret
        exact ⟨rfl, F5.out.low.trans (H6.mono F5.out.low.size)⟩
      · have q2 : decide ((15 : Int) < (ma : Int)) = false := by simp; omega
        have q3 : decide ((15 : Int) < (mb : Int)) = true := by simp; omega
        subst h1
        clear h2 h3 hn hma hmb
        go_enter Try.func4, Try.ntmps4
        go_wp2
        go_ret
        exact ⟨rfl, below2 w _ _⟩
    · have q2 : decide ((15 : Int) < (ma : Int)) = true := by simp; omega
      subst h1
      clear h2 hn hma hmb
      go_enter Try.func4, Try.ntmps4
      go_wp2
      go_ret
      exact ⟨rfl, below2 w _ _⟩
  · have q1 : ((n : Int) != 256) = true := by simp; omega
    clear h1 hn hma hmb
    go_enter Try.func4, Try.ntmps4
    go_wp2
    go_ret
    exact ⟨rfl, below2 w _ _⟩
end Go.Proofs.Ytiplellfpagclaa
