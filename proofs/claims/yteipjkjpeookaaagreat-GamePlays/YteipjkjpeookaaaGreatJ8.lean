/- The document's own: addresses, a font that may be, the byte at an address. The document's own: so many bytes from an address on. The document's own: a machine that skips; a machine a sixtieth of a second later. -/
import Derived.Test.YteipjkjpeookaaaGreatJ6
namespace Go.Proofs.YteipjkjpeookaaaGreat
open Go Go.RowKit Go.Shelf
set_option linter.unusedVariables false
set_option maxHeartbeats 1000000
set_option maxRecDepth 20000

theorem inmem_any (w : World) (a : Nat) (ha : a ≤ 4000000000) : Calls Tryz.prog 65 #[.int .i64 (a : Int)] w fun e w' => e = .returned (.bool (inM a)) ∧ w' = w := by
  by_cases h1 : 512 ≤ a
  · obtain ⟨R, hR⟩ : ∃ R, inM a = R := ⟨_, rfl⟩
    rw [hR]
    have q1 : decide ((512 : Int) ≤ (a : Int)) = true := by simp; omega
    have q2 : decide ((a : Int) < 3744) = R := by
      rw [← hR]
      unfold inM
      simp only [decide_eq_true h1, Bool.true_and, decide_eq_decide]
      omega
    clear h1 hR
    go_enter Tryz.func65, Tryz.ntmps65
    go_wp2
    go_ret
    exact ⟨rfl, rfl⟩
  · have e0 : inM a = false := by unfold inM; simp; omega
    rw [e0]
    have q1 : decide ((512 : Int) ≤ (a : Int)) = false := by simp; omega
    clear h1
    go_enter Tryz.func65, Tryz.ntmps65
    go_wp2
    go_ret
    exact ⟨rfl, rfl⟩
theorem one_any (w : World) (b : Bool) : Calls Tryz.prog 93 #[.bool b] w fun e w' => e = .returned (byV (oneG b)) ∧ w' = w := by
  cases b
  · go_enter Tryz.func93, Tryz.ntmps93
    go_wp2
    go_ret
    exact ⟨rfl, rfl⟩
  · go_enter Tryz.func93, Tryz.ntmps93
    go_wp2
    go_ret
    exact ⟨rfl, rfl⟩
theorem fontmay_any (w : World) (D : Array Value) (f : Fo) (h : FL w D f) (hb : f.by_.length ≤ 4000000000) : Calls Tryz.prog 29 #[.agg D] w fun e w' => e = .returned (.bool (fontG f)) ∧ Below w.heap.size w w' := by
  obtain ⟨⟨sB, cB', rfl, k1⟩, k2, k3, k4⟩ := h
  obtain ⟨n, hn⟩ : ∃ n, f.by_.length = n := ⟨_, rfl⟩
  obtain ⟨fr, hr⟩ : ∃ n, f.fr = n := ⟨_, rfl⟩
  obtain ⟨R, hR⟩ : ∃ R, fontG f = R := ⟨_, rfl⟩
  have i1 : (n : Int) ≤ 4000000000 := by omega
  have i2 : (fr : Int) < 65536 := by omega
  have q1 : decide ((fr : Int) + (n : Int) ≤ 65536) = R := by
    rw [← hR]
    unfold fontG
    simp only [decide_eq_decide]
    omega
  rw [hn, hr, hR]
  clear hn hr hR k1 k2 k3 k4 hb
  unfold fCs
  go_enter Tryz.func29, Tryz.ntmps29
  go_wp2
  go_ret
  exact ⟨rfl, below_one _ _⟩
/-- What 'at' answers. -/
def atV : Option UInt8 → Value
  | some b => .tuple #[byV b, .bool true]
  | none => .tuple #[.int .u8 0, .bool false]
theorem at_any (w : World) (C D : Array Value) (g : Gm) (f : Fo) (a : Nat) (hg : GL w C g) (hf : FL w D f) (hm : g.me.length = 3232) (hb : f.by_.length ≤ 4000000000) (ha : a ≤ 1000000) :
    Calls Tryz.prog 104 #[.agg C, .agg D, .int .i64 (a : Int)] w fun e w' => e = .returned (atV (atG g f a)) ∧ Below w.heap.size w w' := by
  obtain ⟨⟨sS, sP, sM, cS, cP, cM, hC, h1, h2, h3⟩, ok⟩ := hg
  obtain ⟨⟨sB, cB', hD, k1⟩, k2, k3, k4⟩ := hf
  have hi := fun y => inmem_any y a (by omega)
  obtain ⟨n, hn⟩ : ∃ n, f.by_.length = n := ⟨_, rfl⟩
  obtain ⟨fr, hr⟩ : ∃ n, f.fr = n := ⟨_, rfl⟩
  have fC : Hid (C[22]? = some (.slice sM 3232 cM)) := by rw [hC, hm]; rfl
  have fD : Hid (D[16]? = some (.int .u16 (fr : Int)) ∧ D[17]? = some (.slice sB n cB')) := by rw [hD, hr, hn]; exact ⟨rfl, rfl⟩
  have i1 : (n : Int) ≤ 4000000000 := by omega
  have i2 : (fr : Int) < 65536 := by omega
  have i3 : (a : Int) ≤ 1000000 := by omega
  replace k1 : Hid (LB w sB f.by_) := k1
  replace h3 : Hid (LB w sM g.me) := h3
  clear hC hD h1 h2 ok
  rcases ha0 : inM a with _ | _
  · rw [ha0] at hi
    by_cases c1 : fr ≤ a
    · obtain ⟨k, hk⟩ : ∃ k, a - fr = k := ⟨_, rfl⟩
      obtain ⟨z, hz⟩ : ∃ z : Int, (k : Int) = z := ⟨_, rfl⟩
      have q0 : (a : Int) - (fr : Int) = z := by omega
      have q1 : decide ((0 : Int) ≤ z) = true := by simp; omega
      by_cases c2 : k < n
      · have e0 : atG g f a = some (f.by_.getD k 0) := by unfold atG; rw [ha0, if_neg (by decide), hr, hn, hk, if_pos ⟨c1, c2⟩]
        rw [e0]
        obtain ⟨gb, ob, rfl⟩ := lb_some k1.out (by omega)
        have ca : Hid (∀ y, Below w.heap.size w y → y.cell? ⟨gb, ob + k, none⟩ = some (.int .u8 ((f.by_.getD k 0).toNat : Int))) := fun y hy => lb_at (k1.out.below hy) k (by omega)
        have ia := fun v => idxB .i64 gb ob n cB' k v c2
        rw [hz] at ia
        obtain ⟨B, hB⟩ : ∃ B, (f.by_.getD k 0).toNat = B := ⟨_, rfl⟩
        have eB : atV (some (f.by_.getD k 0)) = .tuple #[.int .u8 (B : Int), .bool true] := by show Value.tuple #[.int .u8 ((f.by_.getD k 0).toNat : Int), .bool true] = _; rw [hB]
        rw [eB]
        rw [hB] at ca
        have q2 : decide (z < (n : Int)) = true := by simp; omega
        clear hn hr hm k2 k3 k4 hb ha e0 c1 c2 ha0 hB eB hk hz
        go_enter Tryz.func104, Tryz.ntmps104
        go_wp2_with (first
          | ((with_reducible refine gen_world ((w.alloc (.cells C 27)).alloc (.cells D 30)) (Fm w [(w.heap.size, C, 27), (w.heap.size + 1, D, 30)]) ?_ ?_); exact Fm.two w _ _ _ _; intro y K; have c22 := (K.out.bx 0 _ _ _ rfl).c 22 _ fC.out; have d16 := (K.out.bx 1 _ _ _ rfl).c 16 _ fD.out.1; have d17 := (K.out.bx 1 _ _ _ rfl).c 17 _ fD.out.2; have ca2 := ca.out y K.out.low)
          | (go_at_call 65; refine (hi y).mono ?_; rintro e y1 ⟨rfl, e1⟩; subst e1))
        go_ret2
        exact ⟨rfl, K.out.low⟩
      · have e0 : atG g f a = none := by unfold atG; rw [ha0, if_neg (by decide), hr, hn, hk, if_neg (fun e => c2 e.2)]
        rw [e0]
        have q2 : decide (z < (n : Int)) = false := by simp; omega
        clear hn hr hm k2 k3 k4 hb ha e0 c1 c2 ha0 hk hz
        go_enter Tryz.func104, Tryz.ntmps104
        go_wp2_with (first
          | ((with_reducible refine gen_world ((w.alloc (.cells C 27)).alloc (.cells D 30)) (Fm w [(w.heap.size, C, 27), (w.heap.size + 1, D, 30)]) ?_ ?_); exact Fm.two w _ _ _ _; intro y K; have c22 := (K.out.bx 0 _ _ _ rfl).c 22 _ fC.out; have d16 := (K.out.bx 1 _ _ _ rfl).c 16 _ fD.out.1; have d17 := (K.out.bx 1 _ _ _ rfl).c 17 _ fD.out.2; skip)
          | (go_at_call 65; refine (hi y).mono ?_; rintro e y1 ⟨rfl, e1⟩; subst e1))
        go_ret2
        exact ⟨rfl, K.out.low⟩
    · have e0 : atG g f a = none := by unfold atG; rw [ha0, if_neg (by decide), hr, if_neg (fun e => c1 e.1)]
      rw [e0]
      obtain ⟨k, hk⟩ : ∃ k : Int, (a : Int) - (fr : Int) = k := ⟨_, rfl⟩
      have q1 : decide ((0 : Int) ≤ k) = false := by simp; omega
      clear hn hr hm k2 k3 k4 hb ha e0 c1 ha0
      go_enter Tryz.func104, Tryz.ntmps104
      go_wp2_with (first
        | ((with_reducible refine gen_world ((w.alloc (.cells C 27)).alloc (.cells D 30)) (Fm w [(w.heap.size, C, 27), (w.heap.size + 1, D, 30)]) ?_ ?_); exact Fm.two w _ _ _ _; intro y K; have c22 := (K.out.bx 0 _ _ _ rfl).c 22 _ fC.out; have d16 := (K.out.bx 1 _ _ _ rfl).c 16 _ fD.out.1; have d17 := (K.out.bx 1 _ _ _ rfl).c 17 _ fD.out.2; skip)
        | (go_at_call 65; refine (hi y).mono ?_; rintro e y1 ⟨rfl, e1⟩; subst e1))
      go_ret2
      exact ⟨rfl, K.out.low⟩
  · rw [ha0] at hi
    have ha1 : 512 ≤ a ∧ a < 3744 := by unfold inM at ha0; simpa using ha0
    obtain ⟨k, hk⟩ : ∃ k, a - 512 = k := ⟨_, rfl⟩
    have hk2 : k < 3232 := by omega
    have q0 : (a : Int) - 512 = (k : Int) := by omega
    have e0 : atG g f a = some (g.me.getD k 0) := by unfold atG; rw [ha0, if_pos rfl, hk]
    rw [e0]
    obtain ⟨gb, ob, rfl⟩ := lb_some h3.out (by omega)
    have ca : Hid (∀ y, Below w.heap.size w y → y.cell? ⟨gb, ob + k, none⟩ = some (.int .u8 ((g.me.getD k 0).toNat : Int))) := fun y hy => lb_at (h3.out.below hy) k (by omega)
    have ia := fun v => idxB .i64 gb ob 3232 cM k v hk2
    obtain ⟨B, hB⟩ : ∃ B, (g.me.getD k 0).toNat = B := ⟨_, rfl⟩
    have eB : atV (some (g.me.getD k 0)) = .tuple #[.int .u8 (B : Int), .bool true] := by show Value.tuple #[.int .u8 ((g.me.getD k 0).toNat : Int), .bool true] = _; rw [hB]
    rw [eB]
    rw [hB] at ca
    clear hn hr hm k2 k3 k4 hb ha e0 ha0 hB eB hk hk2 ha1
    go_enter Tryz.func104, Tryz.ntmps104
    go_wp2_with (first
      | ((with_reducible refine gen_world ((w.alloc (.cells C 27)).alloc (.cells D 30)) (Fm w [(w.heap.size, C, 27), (w.heap.size + 1, D, 30)]) ?_ ?_); exact Fm.two w _ _ _ _; intro y K; have c22 := (K.out.bx 0 _ _ _ rfl).c 22 _ fC.out; have d16 := (K.out.bx 1 _ _ _ rfl).c 16 _ fD.out.1; have d17 := (K.out.bx 1 _ _ _ rfl).c 17 _ fD.out.2; have ca2 := ca.out y K.out.low)
      | (go_at_call 65; refine (hi y).mono ?_; rintro e y1 ⟨rfl, e1⟩; subst e1))
    go_ret2
    exact ⟨rfl, K.out.low⟩
end Go.Proofs.YteipjkjpeookaaaGreat

namespace Go.Proofs.YteipjkjpeookaaaGreat
open Go Go.RowKit Go.Shelf
set_option linter.unusedVariables false
set_option maxHeartbeats 1000000
set_option maxRecDepth 20000

/-- What 'read' answers: bytes in memory of their own, or none. -/
def RdA (w : World) (o : Option (List UInt8)) (e : Ending) (w' : World) : Prop := match o with
  | some l => ∃ v, e = .returned (.tuple #[v, .bool true]) ∧ KL 5 1 cB w v l w'
  | none => e = .returned (.tuple #[.slice none 0 0, .bool false]) ∧ Below w.heap.size w w'
theorem read_step {g : Gm} {f : Fo} {a k : Nat} {l : List UInt8} (h : readG g f a k = some l) {b : UInt8} (hb : atG g f (a + k) = some b) : readG g f a (k + 1) = some (l ++ [b]) := by
  simp only [readG, h, hb]
theorem read_none {g : Gm} {f : Fo} {a k : Nat} (h : atG g f (a + k) = none) : ∀ n, k < n → readG g f a n = none
  | 0, hn => by omega
  | n + 1, hn => by
    rcases Nat.eq_or_lt_of_le (Nat.le_of_lt_succ hn) with e | e
    · subst e
      simp only [readG, h]
      split <;> rfl
    · simp only [readG, read_none h n e]
theorem rread_any (w : World) (C D : Array Value) (g : Gm) (f : Fo) (a n : Nat) (hg : Hid (GL w C g)) (hf : Hid (FL w D f)) (hm : Hid (g.me.length = 3232)) (hb : Hid (f.by_.length ≤ 4000000000)) (ha : a < 65536) (hn : n ≤ 1000) :
    Calls Tryz.prog 94 #[.agg C, .agg D, .int .i64 (a : Int), .int .i64 (n : Int)] w (RdA w (readG g f a n)) := by
  have gC : Hid (C.size = 23) := hg.out.size.1
  have gD : Hid (D.size = 18) := hf.out.size
  have i1 : (a : Int) < 65536 := by omega
  have i2 : (n : Int) ≤ 1000 := by omega
  have ha' : Hid (a < 65536) := ha
  have hn' : Hid (n ≤ 1000) := hn
  clear ha hn
  obtain ⟨y0, hy0⟩ : ∃ y, Hid (y = (w.alloc (.cells C 27)).alloc (.cells D 30)) := ⟨_, (rfl : (w.alloc (.cells C 27)).alloc (.cells D 30) = _)⟩
  have K0 : Hid (Fm w [(w.heap.size, C, 27), (w.heap.size + 1, D, 30)] y0 ∧ y0.heap.size = w.heap.size + 2) := by rw [hy0.out]; exact ⟨Fm.two w _ _ _ _, by simp [World.size_alloc]⟩
  go_enter Tryz.func94, Tryz.ntmps94
  go_wp2
  go_loopw [10, 11] (fun vv kv wz => ∃ (k : Nat) (l : List UInt8) (u : World), u = wz ∧ k ≤ n ∧ kv = .int .i64 (k : Int) ∧ Hid (readG g f a k = some l ∧ l.length = k ∧ Below (w.heap.size + 2) y0 u ∧ OwnL 5 1 cB (w.heap.size + 2) u vv l)) (fun _ kv _ => (n - intOf kv).toNat)
  case atStart => exact ⟨0, [], _, rfl, Nat.zero_le _, rfl, ⟨rfl, rfl, by rw [hy0.out]; exact Below.refl _ _, OwnL.nil _ _⟩⟩
  case round =>
    obtain ⟨k, l, u, rfl, hk, rfl, K⟩ := hrel
    obtain ⟨sv, cv, ev, _⟩ := OwnL.open kByte.len K.out.2.2.2
    rw [K.out.2.1] at ev
    subst ev
    have L0 : Hid (Bx u w.heap.size C 27 ∧ Bx u (w.heap.size + 1) D 30 ∧ Below w.heap.size w u) := ⟨(K.out.2.2.1.block _ (by omega)).trans (K0.out.1.bx 0 _ _ _ rfl), (K.out.2.2.1.block _ (by omega)).trans (K0.out.1.bx 1 _ _ _ rfl), K0.out.1.low.trans (K.out.2.2.1.mono (by omega))⟩
    by_cases hlt : k < n
    · have hki : (k : Int) < n := by omega
      have hlt' : Hid (k < n) := hlt
      obtain ⟨s, hs⟩ : ∃ s, a + k = s := ⟨_, rfl⟩
      have q0 : (a : Int) + (k : Int) = (s : Int) := by omega
      have i3 : (s : Int) ≤ 100000 := by omega
      have hc := at_any u C D g f s (hg.out.below L0.out.2.2) (hf.out.below L0.out.2.2) hm.out hb.out (by omega)
      rcases hat : atG g f s with _ | bt
      · have fin : Hid (readG g f a n = none) := read_none (k := k) (by rw [hs]; exact hat) n hlt
        rw [hat] at hc
        have e0 : atV none = .tuple #[.int .u8 0, .bool false] := rfl
        rw [e0] at hc
        clear hat hk hlt hs e0
        go_wp2_with (first
          | ((with_reducible refine at_load rtG w.heap.size C ?_ ?_ (.tmp 4) ?_ ?_ ?_ ?_); exact L0.out.1; exact gC.out; kernel_rfl; rfl; rfl)
          | ((with_reducible refine at_load rtFn (w.heap.size + 1) D ?_ ?_ (.tmp 5) ?_ ?_ ?_ ?_); exact L0.out.2.1; exact gD.out; kernel_rfl; rfl; rfl)
          | (go_at_call 104; refine hc.mono ?_; rintro e y1 ⟨rfl, H1⟩))
        go_ret2
        rw [fin.out]
        exact ⟨rfl, L0.out.2.2.trans (H1.mono L0.out.2.2.size)⟩
      · have fin : Hid (readG g f a (k + 1) = some (l ++ [bt])) := read_step K.out.1 (by rw [hs]; exact hat)
        rw [hat] at hc
        obtain ⟨B, hB⟩ : ∃ B, bt.toNat = B := ⟨_, rfl⟩
        have e0 : atV (some bt) = .tuple #[.int .u8 (B : Int), .bool true] := by show Value.tuple #[.int .u8 (bt.toNat : Int), .bool true] = _; rw [hB]
        rw [e0] at hc
        have hB' : Hid (bt.toNat = B) := hB
        have iB : (B : Int) < 256 := by have := bt.toNat_lt; omega
        clear hat hk hlt hs e0 hB
        go_wp2_with (first
          | ((with_reducible refine at_load rtG w.heap.size C ?_ ?_ (.tmp 4) ?_ ?_ ?_ ?_); exact L0.out.1; exact gC.out; kernel_rfl; rfl; rfl)
          | ((with_reducible refine at_load rtFn (w.heap.size + 1) D ?_ ?_ (.tmp 5) ?_ ?_ ?_ ?_); exact L0.out.2.1; exact gD.out; kernel_rfl; rfl; rfl)
          | (go_at_call 104; refine hc.mono ?_; rintro e y1 ⟨rfl, H1⟩; have H1' : Hid (Below u.heap.size u y1) := H1)
          | ((refine at_appL kByte rfl (.tmp 30) (.tmp 32) rfl (w.heap.size + 2) (.slice sv k cv) l rfl ((K.out.2.2.2.below H1'.out).alloc _) y1.heap.size bt rfl (by have := one_bxL y1 (cB bt).toArray 5; rw [show (cB bt).toArray = #[.int .u8 (B : Int)] by rw [← hB'.out]; rfl] at this ⊢; exact this) ?_ ?_ ?_); (have := K.out.2.1; have := hlt'.out; have := hn'.out; omega); (have h1 := K.out.2.2.1.size; have h2 := H1'.out.size; have h3 := K0.out.2; simp [World.size_alloc]; omega); intro v2 y2 K2; have N2 : Hid (Below (w.heap.size + 2) y0 y2 ∧ OwnL 5 1 cB (w.heap.size + 2) y2 v2 (l ++ [bt])) := ⟨K.out.2.2.1.trans ((H1'.out.mono (by have h1 := K.out.2.2.1.size; have h3 := K0.out.2; omega)).trans (((Below.refl _ y1).alloc (by have h1 := K.out.2.2.1.size; have h2 := H1'.out.size; have h3 := K0.out.2; omega) _).trans K2.out.cu.low)), K2.out.own⟩; clear K2))
        go_roundw
        case rel => exact ⟨k + 1, l ++ [bt], _, rfl, hlt'.out, by simp, ⟨fin.out, by simp [K.out.2.1], N2.out.1, N2.out.2⟩⟩
        case measure => have := hlt'.out; simp [intOf]; omega
    · have hke : k = n := by omega
      subst hke
      clear hk hlt
      go_wp2
      go_ret2
      rw [K.out.1]
      exact ⟨_, rfl, ⟨K.out.2.2.2.weak (by omega), L0.out.2.2⟩⟩
end Go.Proofs.YteipjkjpeookaaaGreat

namespace Go.Proofs.YteipjkjpeookaaaGreat
open Go Go.RowKit Go.Shelf
set_option linter.unusedVariables false
set_option maxHeartbeats 1000000
set_option maxRecDepth 20000

/-- A machine's cells with another PC. -/
theorem gCs_pc (v : List UInt8) (i pc pc' : Nat) (sS : Value) (de so : UInt8) (sP sM : Value) : (gCs v i pc sS de so sP sM).setIfInBounds 17 (.int .u16 (pc' : Int)) = gCs v i pc' sS de so sP sM := rfl
theorem gCs_de (v : List UInt8) (i pc : Nat) (sS : Value) (de de' so : UInt8) (sP sM : Value) : (gCs v i pc sS de so sP sM).setIfInBounds 19 (byV de') = gCs v i pc sS de' so sP sM := rfl
theorem gCs_so (v : List UInt8) (i pc : Nat) (sS : Value) (de so so' : UInt8) (sP sM : Value) : (gCs v i pc sS de so sP sM).setIfInBounds 20 (byV so') = gCs v i pc sS de so' sP sM := rfl
theorem gCs_one (v : List UInt8) (i pc : Nat) (a b c : Option Addr) (n1 n2 n3 m1 m2 m3 : Nat) (de so : UInt8) : (gCs v i pc (.slice a n1 m1) de so (.slice b n2 m2) (.slice c n3 m3)).all (·.oneCell') = true := by
  unfold gCs gV byV
  simp [Value.oneCell']
theorem skipped_any (w : World) (v : List UInt8) (i pc : Nat) (de so : UInt8) (sS sP sM : Option Addr) (nS nP nM cS cP cM : Nat) (b : Bool) (hp : pc < 65536) :
    Calls Tryz.prog 67 #[.agg (gCs v i pc (.slice sS nS cS) de so (.slice sP nP cP) (.slice sM nM cM)), .bool b] w fun e w' => e = .returned (.agg (gCs v i (if b then (pc + 2) % 65536 else pc) (.slice sS nS cS) de so (.slice sP nP cP) (.slice sM nM cM))) ∧ Below w.heap.size w w' := by
  obtain ⟨C, hC⟩ : ∃ x, gCs v i pc (.slice sS nS cS) de so (.slice sP nP cP) (.slice sM nM cM) = x := ⟨_, rfl⟩
  have fC : Hid (C[17]? = some (.int .u16 (pc : Int)) ∧ C.size = 23 ∧ C.all (·.oneCell') = true) := by rw [← hC]; exact ⟨rfl, rfl, gCs_one _ _ _ _ _ _ _ _ _ _ _ _ _ _⟩
  obtain ⟨Z, hZ⟩ : ∃ x : Array Value, Hid (x = gZ) := ⟨_, (rfl : gZ = gZ)⟩
  have hZ' : Hid (Z.size = 23) := by show _ = _; rw [hZ.out]; rfl
  have i1 : (pc : Int) < 65536 := by omega
  cases b
  · rw [if_neg (by decide), hC]
    clear hC hp
    go_enter Tryz.func67, Tryz.ntmps67
    go_wp2_with (first
      | ((with_reducible refine gen_world ((w.alloc (.cells C 27)).alloc (.cells #[.int .u8 0, .int .u8 0, .int .u8 0, .int .u8 0, .int .u8 0, .int .u8 0, .int .u8 0, .int .u8 0, .int .u8 0, .int .u8 0, .int .u8 0, .int .u8 0, .int .u8 0, .int .u8 0, .int .u8 0, .int .u8 0, .int .u16 0, .int .u16 0, .slice none 0 0, .int .u8 0, .int .u8 0, .slice none 0 0, .slice none 0 0] 27)) (Fm w [(w.heap.size, C, 27), (w.heap.size + 1, Z, 27)]) ?_ ?_); (rw [hZ.out]; unfold gZ; exact Fm.two w _ _ _ _); intro y0 K0)
      | ((with_reducible refine at_load rtG w.heap.size C ?_ ?_ (.tmp 2) ?_ ?_ ?_ ?_); exact K0.out.bx 0 _ _ _ rfl; exact fC.out.2.1; kernel_rfl; rfl; rfl)
      | ((with_reducible refine at_st rtG (w.heap.size + 1) Z C ?_ ?_ ?_ ?_ (.tmp 4) (.tmp 10) ?_ ?_ ?_ ?_ ?_); exact K0.out.bx 1 _ _ _ rfl; exact hZ'.out; exact fC.out.2.1; exact fC.out.2.2; rfl; rfl; rfl; rfl; intro y1 H1; have K1 : Hid (Fm w [(w.heap.size, C, 27), (w.heap.size + 1, C, 27)] y1) := K0.out.put 1 _ _ _ _ rfl H1.out))
    exact ret_row rtG rfl rfl (K1.out.bx 1 _ _ _ rfl) fC.out.2.1 rfl ⟨rfl, K1.out.low⟩
  · rw [if_pos rfl]
    obtain ⟨q, hq⟩ : ∃ q, (pc + 2) % 65536 = q := ⟨_, rfl⟩
    have qq : IntKind.u16.wrap ((pc : Int) + 2) = (q : Int) := by rw [IntKind.wrap_u16]; omega
    obtain ⟨C2, hC2⟩ : ∃ x, Hid (C.setIfInBounds 17 (.int .u16 (q : Int)) = x) := ⟨_, (rfl : C.setIfInBounds 17 (.int .u16 (q : Int)) = _)⟩
    have fC2 : Hid (C2.size = 23 ∧ C2.all (·.oneCell') = true) := by rw [← hC2.out, ← hC, gCs_pc]; exact ⟨rfl, gCs_one _ _ _ _ _ _ _ _ _ _ _ _ _ _⟩
    have eC2 : Hid (gCs v i q (.slice sS nS cS) de so (.slice sP nP cP) (.slice sM nM cM) = C2) := by show _ = _; rw [← hC2.out, ← hC, gCs_pc]
    rw [hC, hq, eC2.out]
    clear hC hp hq
    go_enter Tryz.func67, Tryz.ntmps67
    go_wp2_with (first
      | ((with_reducible refine gen_world ((w.alloc (.cells C 27)).alloc (.cells #[.int .u8 0, .int .u8 0, .int .u8 0, .int .u8 0, .int .u8 0, .int .u8 0, .int .u8 0, .int .u8 0, .int .u8 0, .int .u8 0, .int .u8 0, .int .u8 0, .int .u8 0, .int .u8 0, .int .u8 0, .int .u8 0, .int .u16 0, .int .u16 0, .slice none 0 0, .int .u8 0, .int .u8 0, .slice none 0 0, .slice none 0 0] 27)) (Fm w [(w.heap.size, C, 27), (w.heap.size + 1, Z, 27)]) ?_ ?_); (rw [hZ.out]; unfold gZ; exact Fm.two w _ _ _ _); intro y0 K0; have c17 := (K0.out.bx 0 _ _ _ rfl).c 17 _ fC.out.1; have z17 := (K0.out.bx 0 _ _ _ rfl).fz 17)
      | ((with_reducible refine gen_world (y0.setCell ⟨w.heap.size, 17, none⟩ (.int .u16 (q : Int))) (Fm w [(w.heap.size, C2, 27), (w.heap.size + 1, Z, 27)]) ?_ ?_); exact K0.out.setCell 0 _ _ _ _ rfl 17 _ hC2.out; intro y1 K1)
      | ((with_reducible refine at_load rtG w.heap.size C2 ?_ ?_ (.tmp 2) ?_ ?_ ?_ ?_); exact K1.out.bx 0 _ _ _ rfl; exact fC2.out.1; kernel_rfl; rfl; rfl)
      | ((with_reducible refine at_st rtG (w.heap.size + 1) Z C2 ?_ ?_ ?_ ?_ (.tmp 4) (.tmp 10) ?_ ?_ ?_ ?_ ?_); exact K1.out.bx 1 _ _ _ rfl; exact hZ'.out; exact fC2.out.1; exact fC2.out.2; rfl; rfl; rfl; rfl; intro y2 H2; have K2 : Hid (Fm w [(w.heap.size, C2, 27), (w.heap.size + 1, C2, 27)] y2) := K1.out.put 1 _ _ _ _ rfl H2.out))
    exact ret_row rtG rfl rfl (K2.out.bx 1 _ _ _ rfl) fC2.out.1 rfl ⟨rfl, K2.out.low⟩
end Go.Proofs.YteipjkjpeookaaaGreat
