/- A game that is worked on: where an address lies; the byte there; so many bytes. -/
import Derived.Test.YtfkifppadngmdaaG17
namespace Go.Proofs.Ytfkifppadngmdaa
open Go Go.RowKit Go.Shelf
set_option linter.unusedVariables false
set_option maxHeartbeats 1000000
set_option maxRecDepth 20000

theorem place_any (w : World) (a : Nat) (ha : a ≤ 1000000) : Calls Try.prog 49 #[.int .i64 (a : Int)] w fun e w' => e = .returned (.tuple #[.int .i64 ((if inM a then a - 512 else 0 : Nat) : Int), .bool (inM a)]) ∧ w' = w := by
  have i1 : (a : Int) ≤ 1000000 := by omega
  by_cases c1 : a < 512
  · have e1 : inM a = false := by unfold inM; simp; omega
    rw [e1, if_neg (by decide)]
    have q1 : decide ((a : Int) < 512) = true := by simp; omega
    clear e1 c1 ha
    go_enter Try.func49, Try.ntmps49
    go_wp2
    go_ret2
    exact ⟨rfl, rfl⟩
  · by_cases c2 : 3744 ≤ a
    · have e1 : inM a = false := by unfold inM; simp; omega
      rw [e1, if_neg (by decide)]
      have q1 : decide ((a : Int) < 512) = false := by simp; omega
      have q2 : decide ((3744 : Int) ≤ (a : Int)) = true := by simp; omega
      clear e1 c1 c2 ha
      go_enter Try.func49, Try.ntmps49
      go_wp2
      go_ret2
      exact ⟨rfl, rfl⟩
    · have e1 : inM a = true := by unfold inM; simp; omega
      rw [e1, if_pos rfl]
      have q1 : decide ((a : Int) < 512) = false := by simp; omega
      have q2 : decide ((3744 : Int) ≤ (a : Int)) = false := by simp; omega
      obtain ⟨k, hk⟩ : ∃ k, a - 512 = k := ⟨_, rfl⟩
      rw [hk]
      have q3 : (a : Int) - 512 = (k : Int) := by omega
      clear e1 c1 c2 ha hk
      go_enter Try.func49, Try.ntmps49
      go_wp2
      go_ret2
      exact ⟨rfl, rfl⟩
theorem fit_in (a n : Nat) (hn : 1 ≤ n) : fitG a n = (inM a && inM (a + n - 1)) := by
  unfold fitG inM
  rw [Bool.eq_iff_iff]
  simp only [Bool.and_eq_true, decide_eq_true_eq]
  omega
theorem places_any (w : World) (a n : Nat) (ha : a < 65536) (hn : 1 ≤ n) (hn2 : n ≤ 1000) : Calls Try.prog 17 #[.int .u16 (a : Int), .int .i64 (n : Int)] w fun e w' => e = .returned (.tuple #[.int .i64 ((if fitG a n then a - 512 else 0 : Nat) : Int), .bool (fitG a n)]) ∧ w' = w := by
  have k1 := place_any w a (by omega)
  have k2 := place_any w (a + n - 1) (by omega)
  have i1 : (a : Int) < 65536 := by omega
  have i2 : (n : Int) ≤ 1000 := by omega
  have i3 : (1 : Int) ≤ (n : Int) := by omega
  obtain ⟨s, hs⟩ : ∃ s, a + n - 1 = s := ⟨_, rfl⟩
  have q0 : (a : Int) + (n : Int) - 1 = (s : Int) := by omega
  rw [fit_in a n hn, hs]
  rw [hs] at k2
  rcases e1 : inM a with _ | _
  · rw [e1, if_neg (by decide)] at k1
    rw [show (false && inM s) = false from rfl, if_neg (by decide)]
    obtain ⟨z2, hz2⟩ : ∃ z, inM s = z := ⟨_, rfl⟩
    rw [hz2] at k2
    obtain ⟨n2, hn2⟩ : ∃ z : Nat, (if z2 = true then s - 512 else 0) = z := ⟨_, rfl⟩
    rw [hn2] at k2
    clear e1 hz2 hn2 hs ha hn
    go_enter Try.func17, Try.ntmps17
    go_wp2_with (first
      | (go_at_call_of 49 (Value.int IntKind.i64 (a : Int)); refine k1.mono ?_; rintro e y ⟨rfl, e1⟩; subst e1)
      | (go_at_call 49; refine k2.mono ?_; rintro e y ⟨rfl, e1⟩; subst e1))
    go_ret2
    exact ⟨rfl, rfl⟩
  · rw [e1, if_pos rfl] at k1
    obtain ⟨z1, hz1⟩ : ∃ z, a - 512 = z := ⟨_, rfl⟩
    rw [hz1] at k1
    rcases e2 : inM s with _ | _
    · rw [e2, if_neg (by decide)] at k2
      rw [show (true && false) = false from rfl, if_neg (by decide)]
      clear e1 e2 hz1 hs ha hn
      go_enter Try.func17, Try.ntmps17
      go_wp2_with (first
        | (go_at_call_of 49 (Value.int IntKind.i64 (a : Int)); refine k1.mono ?_; rintro e y ⟨rfl, e1⟩; subst e1)
        | (go_at_call 49; refine k2.mono ?_; rintro e y ⟨rfl, e1⟩; subst e1))
      go_ret2
      exact ⟨rfl, rfl⟩
    · rw [e2, if_pos rfl] at k2
      rw [show (true && true) = true from rfl, if_pos rfl, hz1]
      obtain ⟨z2, hz2⟩ : ∃ z, s - 512 = z := ⟨_, rfl⟩
      rw [hz2] at k2
      clear e1 e2 hz1 hz2 hs ha hn
      go_enter Try.func17, Try.ntmps17
      go_wp2_with (first
        | (go_at_call_of 49 (Value.int IntKind.i64 (a : Int)); refine k1.mono ?_; rintro e y ⟨rfl, e1⟩; subst e1)
        | (go_at_call 49; refine k2.mono ?_; rintro e y ⟨rfl, e1⟩; subst e1))
      go_ret2
      exact ⟨rfl, rfl⟩
theorem PB.cM {B : Nat} {w : World} {b : Nat} {g : Gm} {o : Od} {f : Fo} {d : Fd} (h : PB B w b g o f d) : ∃ gM cM, w.cell? ⟨b, 22, none⟩ = some (.slice (some ⟨gM, 0, none⟩) 3232 cM) ∧ LB w (some ⟨gM, 0, none⟩) g.me := by
  have hm := (may_iff.1 h.may).2.1
  obtain ⟨C, vS, vP, vM, sB, cap, hx, e, h1, h2, h3, h4, h5, h6⟩ := h.c
  obtain ⟨sp, cM, ev, hl, h0, _⟩ := OwnL.open kByte.len h3
  obtain ⟨gb, ob, rfl⟩ := lb_some hl (by omega)
  obtain rfl : ob = 0 := (h0 _ rfl).1
  refine ⟨gb, cM, hx.c 22 _ ?_, hl⟩
  rw [e, ev, hm]
  rfl
theorem PB.cBy {B : Nat} {w : World} {b : Nat} {g : Gm} {o : Od} {f : Fo} {d : Fd} (h : PB B w b g o f d) : ∃ sB cap, w.cell? ⟨b, 49, none⟩ = some (.slice sB f.by_.length cap) ∧ LB w sB f.by_ := by
  obtain ⟨C, vS, vP, vM, sB, cap, hx, e, h1, h2, h3, h4, h5, h6⟩ := h.c
  refine ⟨sB, cap, hx.c 49 _ ?_, h5⟩
  rw [e]
  rfl
theorem byteAt_any {B : Nat} (w : World) (b : Nat) (g : Gm) (o : Od) (f : Fo) (d : Fd) (h : PB B w b g o f d) (a : Nat) (ha : a ≤ 1000000) :
    Calls Try.prog 69 #[.pointer (some ⟨b, 0, none⟩), .int .i64 (a : Int)] w fun e w' => e = .returned (atV (atG g f a)) ∧ w' = w := by
  have k1 := place_any w a (by omega)
  have hm := (may_iff.1 h.may).2.1
  obtain ⟨gM, cM, c22, hM⟩ := h.cM
  obtain ⟨sB, cap, c49, hB⟩ := h.cBy
  have c48 := h.cfr
  have hfr := h.fo.fr
  have hby := h.fo.by_
  obtain ⟨n, hn⟩ : ∃ n, f.by_.length = n := ⟨_, rfl⟩
  obtain ⟨fr, hr⟩ : ∃ n, f.fr = n := ⟨_, rfl⟩
  rw [hn] at c49 hby
  rw [hr] at c48 hfr
  have i1 : (n : Int) ≤ 65536 := by omega
  have i2 : (fr : Int) < 65536 := by omega
  have i3 : (a : Int) ≤ 1000000 := by omega
  rcases ha0 : inM a with _ | _
  · rw [ha0, if_neg (by decide)] at k1
    by_cases c1 : fr ≤ a
    · obtain ⟨k, hk⟩ : ∃ k, a - fr = k := ⟨_, rfl⟩
      obtain ⟨z, hz⟩ : ∃ z : Int, (k : Int) = z := ⟨_, rfl⟩
      have q0 : (a : Int) - (fr : Int) = z := by omega
      have q1 : decide (z < (0 : Int)) = false := by simp; omega
      by_cases c2 : k < n
      · have e0 : atG g f a = some (f.by_.getD k 0) := by unfold atG; rw [ha0, if_neg (by decide), hr, hn, hk, if_pos ⟨c1, c2⟩]
        rw [e0]
        obtain ⟨gb, ob, rfl⟩ := lb_some hB (by omega)
        have ca := lb_at hB k (by omega)
        have ia := fun v => idxB .i64 gb ob n cap k v c2
        rw [hz] at ia
        obtain ⟨Bv, hBv⟩ : ∃ B, (f.by_.getD k 0).toNat = B := ⟨_, rfl⟩
        have eB : atV (some (f.by_.getD k 0)) = .tuple #[.int .u8 (Bv : Int), .bool true] := by show Value.tuple #[.int .u8 ((f.by_.getD k 0).toNat : Int), .bool true] = _; rw [hBv]
        rw [eB]
        rw [hBv] at ca
        have q2 : decide ((n : Int) ≤ z) = false := by simp; omega
        clear hn hr hm e0 c1 c2 ha0 hBv eB hk hz h hM hB hfr hby ha c22
        go_enter Try.func69, Try.ntmps69
        go_wp2_with (go_at_call 49; refine k1.mono ?_; rintro e y1 ⟨rfl, e1⟩; subst e1)
        go_ret2
        exact ⟨rfl, rfl⟩
      · have e0 : atG g f a = none := by unfold atG; rw [ha0, if_neg (by decide), hr, hn, hk, if_neg (fun e => c2 e.2)]
        rw [e0]
        have q2 : decide ((n : Int) ≤ z) = true := by simp; omega
        clear hn hr hm e0 c1 c2 ha0 hk hz h hM hB hfr hby ha c22
        go_enter Try.func69, Try.ntmps69
        go_wp2_with (go_at_call 49; refine k1.mono ?_; rintro e y1 ⟨rfl, e1⟩; subst e1)
        go_ret2
        exact ⟨rfl, rfl⟩
    · have e0 : atG g f a = none := by unfold atG; rw [ha0, if_neg (by decide), hr, if_neg (fun e => c1 e.1)]
      rw [e0]
      obtain ⟨k, hk⟩ : ∃ k : Int, (a : Int) - (fr : Int) = k := ⟨_, rfl⟩
      have q1 : decide (k < (0 : Int)) = true := by simp; omega
      clear hn hr hm e0 c1 ha0 h hM hB hfr hby ha c22
      go_enter Try.func69, Try.ntmps69
      go_wp2_with (go_at_call 49; refine k1.mono ?_; rintro e y1 ⟨rfl, e1⟩; subst e1)
      go_ret2
      exact ⟨rfl, rfl⟩
  · rw [ha0, if_pos rfl] at k1
    have ha1 : 512 ≤ a ∧ a < 3744 := by unfold inM at ha0; simpa using ha0
    obtain ⟨k, hk⟩ : ∃ k, a - 512 = k := ⟨_, rfl⟩
    have hk2 : k < 3232 := by omega
    rw [hk] at k1
    have e0 : atG g f a = some (g.me.getD k 0) := by unfold atG; rw [ha0, if_pos rfl, hk]
    rw [e0]
    have ca := lb_at hM k (by omega)
    rw [Nat.zero_add] at ca
    have ia := fun v => idxB .i64 gM 0 3232 cM k v hk2
    simp only [Nat.zero_add] at ia
    obtain ⟨Bv, hBv⟩ : ∃ B, (g.me.getD k 0).toNat = B := ⟨_, rfl⟩
    have eB : atV (some (g.me.getD k 0)) = .tuple #[.int .u8 (Bv : Int), .bool true] := by show Value.tuple #[.int .u8 ((g.me.getD k 0).toNat : Int), .bool true] = _; rw [hBv]
    rw [eB]
    rw [hBv] at ca
    clear hn hr hm e0 ha0 hBv eB hk h hM hB hfr hby ha ha1 hk2 c48 c49
    go_enter Try.func69, Try.ntmps69
    go_wp2_with (go_at_call 49; refine k1.mono ?_; rintro e y1 ⟨rfl, e1⟩; subst e1)
    go_ret2
    exact ⟨rfl, rfl⟩
end Go.Proofs.Ytfkifppadngmdaa
