/- Rows laid on a page: the program's own. A CHIP-8 machine in memory; whether it may be; how much of it there is. Rows of words; registers as an array; bytes as a string. -/
import Derived.Test.YteipjkjpeookaaaGreatJ3
import Derived.Test.YteipjkjpeookaaaGreatJ0
namespace Go.Proofs.YteipjkjpeookaaaGreat
open Go Go.RowKit Go.Shelf
set_option linter.unusedVariables false
set_option maxHeartbeats 1000000
set_option maxRecDepth 20000

theorem made256 : madeCells (#[.int .u8 0] : Array Value) 256 = rowB (List.replicate 256 0) := by kernel_rfl
theorem mk256 (v : World) : (Instr.makeSlice 25 (.int .i64 256) (.int .i64 256)).run Tryz.prog v = .ok (.slice (some ⟨v.heap.size, 0, none⟩) 256 256) (v.alloc (.cells (rowB (List.replicate 256 0)) 5)) := by
  obtain ⟨i, hi, e⟩ := Option.map_eq_some_iff.1 infoBy
  injection e with e1 e2
  injection e2 with e2 e3
  have := run_make (P := Tryz.prog) v 25 5 i _ Tryz.underlying25 hi e1 .i64 .i64 256 256 (by decide) (Int.le_refl _) (by rw [e3]; decide) (by decide)
  rw [e2, show Int.toNat 256 * 1 = 256 from rfl, show (Value.int IntKind.u8 0).cells = #[.int .u8 0] from rfl, made256] at this
  exact this
/-- A copy that fills a block. -/
theorem at_copyU {ops : Array Oper} {rest : List Oper} {o : Oper} {a : Act} {w : World} {Q : Exit → Act → World → Prop} (hgd : o.guard = none) (d e : Operand)
    (ho : o.op = .call { callee := .builtin .copy, args := #[d, e], argTypes := #[25, 25] })
    (g dCap : Nat) (sp : Option Addr) (n sCap : Nat) (hd : a.eval d = .slice (some ⟨g, 0, none⟩) n dCap) (hs : a.eval e = .slice sp n sCap)
    (cur : Array Value) (hg : Bx w g cur 5) (l : List UInt8) (hlen : l.length = n) (h0 : 0 < n) (hl : LB w sp l) (hfit : cur.size = n)
    (h : ∀ w', Hid (Bx w' g (rowB l) 5 ∧ (∀ B, B ≤ g → Below B w w') ∧ ∀ q, q ≠ g → w'.heap[q]? = w.heap[q]?) → wpList Tryz.prog ops Q rest (a.put o.dst (goInt n)) w') : wpList Tryz.prog ops Q (o :: rest) a w := by
  refine wpList_plain hgd fun K' hK => ?_
  obtain ⟨gb, ob, rfl⟩ := lb_some hl (by omega)
  have hsrc : ∀ j v, (rowL cB l)[j]? = some v → w.cell? ((⟨gb, ob, none⟩ : Addr).add j) = some v := fun j v hv => by
    rw [Addr.add_lit]
    exact LiesL.cells kByte.len kByte.s0 hl j v hv
  have hrun := run_copyL kByte w o.type g n dCap ⟨gb, ob, none⟩ n sCap cur (rowL cB l) hg (by rw [rowL_len kByte.len, hlen]) (Nat.le_refl _) hsrc (by rw [rowL_len kByte.len, hlen]; omega) (rowL_cell kByte.one l)
  have e : (splice cur.toList 0 (rowL cB l)).toArray = rowB l := by
    unfold rowB
    rw [rowB_eq]
    unfold splice
    rw [List.drop_eq_nil_of_le (by simp; omega)]
    simp
  rw [e] at hrun
  unfold Oper.wp
  simp [execOp, ho, resolve, invoke, builtin, hd, hs, hrun, Result.andThen]
  exact hK _ _ (h _ ⟨setRow_heap w g cur _ _ _ hg, fun B hB => below_setRow (Below.refl _ _) hB _, fun q hq => setRow_other w g q _ hq⟩)
theorem dw_new {w y : World} {sv : Value} {p rows : List UInt8} {bR D bD : Nat} (h : Fm w [(bR, #[sv], 25), (D, rowB p, 5), (bD, #[.slice (some ⟨D, 0, none⟩) 256 256], 25)] y) (X Y : Nat) :
    DwF w bR D bD y.heap.size (y.heap.size + 1) (y.heap.size + 1 + 1) sv (X % 64) (Y % 32) (drawS X Y rows p 0) (((y.alloc (.cells #[.int .i64 ((X : Int) % 64)] 3)).alloc (.cells #[.int .i64 ((Y : Int) % 32)] 3)).alloc (.cells #[.bool false] 4)) := by
  have := ((h.new #[.int .i64 ((X : Int) % 64)] 3).new #[.int .i64 ((Y : Int) % 32)] 3).new #[.bool false] 4
  simp only [World.alloc, Array.size_push] at this
  exact this
theorem draw_any (w : World) (sp spR : Option Addr) (cap capR : Nat) (p rows : List UInt8) (x y : UInt8) (hl : Hid (LB w sp p)) (hr : Hid (LB w spR rows)) :
    Calls Tryz.prog 84 #[.slice sp p.length cap, .int .u8 (x.toNat : Int), .int .u8 (y.toNat : Int), .slice spR rows.length capR] w fun e w' => ∃ v, e = .returned (.tuple #[v, .bool (drawA p x.toNat y.toNat rows).2.1, .int .i64 (drawA p x.toNat y.toNat rows).2.2]) ∧ Hid (KL 5 1 cB w v (drawA p x.toNat y.toNat rows).1 w') := by
  obtain ⟨n, hn⟩ : ∃ n, p.length = n := ⟨_, rfl⟩
  obtain ⟨m, hm⟩ : ∃ m, rows.length = m := ⟨_, rfl⟩
  have hE : Hid (∀ z, Below w.heap.size w z → KL 5 1 cB w (.slice none 0 0) ([] : List UInt8) z) := fun z hz => (KL.nil w).below hz
  by_cases h1 : n = 256
  · by_cases h2 : m ≤ 15
    · have hd : drawA p x.toNat y.toNat rows = ((drawS x.toNat y.toNat rows p (8 * m)).1, (drawS x.toNat y.toNat rows p (8 * m)).2, 0) := by unfold drawA; rw [if_pos ⟨by omega, by omega⟩, hm]
      rw [hd]
      dsimp only
      have hp : p.length = 256 := by omega
      have hmk := mk256
      have q1 : ((n : Int) != 256) = false := by simp; omega
      have q2 : decide ((15 : Int) < (m : Int)) = false := by simp; omega
      have hx := x.toNat_lt
      have hy := y.toNat_lt
      obtain ⟨X, hX⟩ : ∃ X, x.toNat = X := ⟨_, rfl⟩
      obtain ⟨Y, hY⟩ : ∃ Y, y.toNat = Y := ⟨_, rfl⟩
      rw [hX, hY, hn, hm]
      have hXi : (X : Int) < 256 := by omega
      have hYi : (Y : Int) < 256 := by omega
      subst h1
      obtain ⟨Z, hZ⟩ : ∃ Z, rowB (List.replicate 256 0) = Z := ⟨_, rfl⟩
      rw [hZ] at hmk
      have hZs : Hid (Z.size = 256) := by rw [← hZ]; show _ = _; rw [rowB_size]; simp
      have K0 : Hid (Fm w [(w.heap.size, #[.slice spR m capR], 25), (w.heap.size + 1, Z, 5), (w.heap.size + 2, #[.slice (some ⟨w.heap.size + 1, 0, none⟩) 256 256], 25)] (((w.alloc (.cells #[.slice spR m capR] 25)).alloc (.cells Z 5)).alloc (.cells #[.slice (some ⟨w.heap.size + 1, 0, none⟩) 256 256] 25))) := Fm.three w _ _ _ _ _ _
      have hp : Hid (p.length = 256) := hp
      have hm' : Hid (rows.length = m ∧ m ≤ 15) := ⟨hm, h2⟩
      have hmi : (m : Int) ≤ 15 := by omega
      clear hd hZ hX hY hx hy hm hn h2
      go_enter Tryz.func84, Tryz.ntmps84
      go_wp2_with (first
        | ((with_reducible refine gen_world (((w.alloc (.cells #[.slice spR m capR] 25)).alloc (.cells Z 5)).alloc (.cells #[.slice (some ⟨w.heap.size + 1, 0, none⟩) 256 256] 25)) (Fm w [(w.heap.size, #[.slice spR m capR], 25), (w.heap.size + 1, Z, 5), (w.heap.size + 2, #[.slice (some ⟨w.heap.size + 1, 0, none⟩) 256 256], 25)]) ?_ ?_); exact K0.out; intro y1 K1; have c1 := (K1.out.bx 2 _ _ _ rfl).c 0 (.slice (some ⟨w.heap.size + 1, 0, none⟩) 256 256) rfl)
        | ((with_reducible refine at_copyU ?_ (.tmp 24) (.tmp 25) ?_ (w.heap.size + 1) 256 sp 256 cap ?_ ?_ Z (K1.out.bx 1 _ _ _ rfl) p hp.out ?_ (hl.out.below K1.out.low) hZs.out ?_); rfl; rfl; rfl; rfl; decide; intro y2 H2; have K2 : Hid (Fm w [(w.heap.size, #[.slice spR m capR], 25), (w.heap.size + 1, rowB p, 5), (w.heap.size + 2, #[.slice (some ⟨w.heap.size + 1, 0, none⟩) 256 256], 25)] y2) := K1.out.put 1 _ _ _ _ rfl H2.out; have c2 := (K2.out.bx 0 _ _ _ rfl).c 0 (.slice spR m capR) rfl; clear K1 K0 H2)
        | ((with_reducible refine gen_world (y3.setCell ⟨y2.heap.size + 1 + 1, 0, none⟩ (.bool false)) (DwF w w.heap.size (w.heap.size + 1) (w.heap.size + 2) y2.heap.size (y2.heap.size + 1) (y2.heap.size + 1 + 1) (.slice spR m capR) (X % 64) (Y % 32) (drawS X Y rows p 0)) ?_ ?_); exact Fm.setCell K3.out 5 _ #[.bool false] #[.bool false] _ rfl 0 _ rfl; intro y4 K4; have c4 := (K4.out.bx 0 _ _ _ rfl).c 0 (.slice spR m capR) rfl)
        | ((with_reducible refine gen_world (((y2.alloc (.cells #[.int .i64 ((X : Int) % 64)] 3)).alloc (.cells #[.int .i64 ((Y : Int) % 32)] 3)).alloc (.cells #[.bool false] 4)) (DwF w w.heap.size (w.heap.size + 1) (w.heap.size + 2) y2.heap.size (y2.heap.size + 1) (y2.heap.size + 1 + 1) (.slice spR m capR) (X % 64) (Y % 32) (drawS X Y rows p 0)) ?_ ?_); exact dw_new K2.out X Y; intro y3 K3; have c3 := (K3.out.bx 5 _ _ _ rfl).c 0 (.bool false) rfl; have f3 := (K3.out.bx 5 _ _ _ rfl).fz 0)
        | (go_at_call 99; refine (each_any _ 8 m (by decide) (by have := hm'.out.2; omega) 100 #[.pointer (some ⟨w.heap.size, 0, none⟩), .pointer (some ⟨y2.heap.size, 0, none⟩), .pointer (some ⟨y2.heap.size + 1, 0, none⟩), .pointer (some ⟨y2.heap.size + 1 + 1, 0, none⟩), .pointer (some ⟨w.heap.size + 2, 0, none⟩)] (fun a v => by kernel_rfl) (fun k z => DwF w w.heap.size (w.heap.size + 1) (w.heap.size + 2) y2.heap.size (y2.heap.size + 1) (y2.heap.size + 1 + 1) (.slice spR m capR) (X % 64) (Y % 32) (drawS X Y rows p k) z) ?_ K4).mono ?_))
      · intro i j W hi hj hW
        have hm2 := hm'.out
        have := draw1_any w W w.heap.size (w.heap.size + 1) (w.heap.size + 2) y2.heap.size (y2.heap.size + 1) (y2.heap.size + 1 + 1) capR X Y i j spR rows p hp.out (by omega) hi (by omega) hr (by rw [hm2.1]; exact hW)
        rw [hm2.1] at this
        exact this
      rintro e y5 ⟨rfl, K5⟩
      have c5 := (K5.out.bx 2 _ _ _ rfl).c 0 (.slice (some ⟨w.heap.size + 1, 0, none⟩) 256 256) rfl
      have g5 := (K5.out.bx 5 _ _ _ rfl).c 0 (.bool (drawS X Y rows p (8 * m)).2) rfl
      have fin : Hid (∀ z, Below y5.heap.size y5 z → KL 5 1 cB w (.slice (some ⟨w.heap.size + 1, 0, none⟩) 256 256) (drawS X Y rows p (8 * m)).1 z) := fun z hz => by
        have hl2 : (drawS X Y rows p (8 * m)).1.length = 256 := by rw [draw_len]; exact hp.out
        have h5 := Fm.below K5.out hz
        have := own_of_bx (B := w.heap.size) (Fm.bx h5 1 _ _ _ rfl) (by omega) (by rw [hl2]; decide)
        rw [hl2] at this
        exact ⟨this, h5.low⟩
      clear K5 K4 K3 K2 c1 c2 c3 f3 c4
      go_wp2
      go_quiet (fail)
      go_wp2
      go_ret3
      exact ⟨_, rfl, fin.out _ (by first | exact below_drewN (Below.refl _ _) | exact Below.refl _ _)⟩
    · have hd : drawA p x.toNat y.toNat rows = ([], false, 1) := by unfold drawA; rw [if_neg (by rintro ⟨_, h⟩; omega)]
      rw [hd, hn, hm]
      dsimp only
      have q1 : ((n : Int) != 256) = false := by simp; omega
      have q2 : decide ((15 : Int) < (m : Int)) = true := by simp; omega
      clear hd h1 h2 hn hm
      go_enter Tryz.func84, Tryz.ntmps84
      go_wp2
      go_ret3
      exact ⟨_, rfl, hE.out _ (below1 w _)⟩
  · have hd : drawA p x.toNat y.toNat rows = ([], false, 1) := by unfold drawA; rw [if_neg (by rintro ⟨h, _⟩; omega)]
    rw [hd, hn, hm]
    dsimp only
    have q1 : ((n : Int) != 256) = true := by simp; omega
    clear hd h1 hn hm
    go_enter Tryz.func84, Tryz.ntmps84
    go_wp2
    go_ret3
    exact ⟨_, rfl, hE.out _ (below1 w _)⟩
end Go.Proofs.YteipjkjpeookaaaGreat

namespace Go.Proofs.YteipjkjpeookaaaGreat
open Go Go.RowKit Go.Shelf
set_option linter.unusedVariables false
set_option maxHeartbeats 1000000
set_option maxRecDepth 20000

/-- A register's cell. -/
def gV (v : List UInt8) (k : Nat) : Value := byV (v.getD k 0)
/-- A word's cell, of a font. -/
def wV (l : List Nat) (k : Nat) : Value := .int .u16 ((l.getD k 0 : Nat) : Int)
/-- A machine's cells. -/
def gCs (v : List UInt8) (i pc : Nat) (sS : Value) (de so : UInt8) (sP sM : Value) : Array Value :=
  #[gV v 0, gV v 1, gV v 2, gV v 3, gV v 4, gV v 5, gV v 6, gV v 7, gV v 8, gV v 9, gV v 10, gV v 11, gV v 12, gV v 13, gV v 14, gV v 15,
    .int .u16 (i : Int), .int .u16 (pc : Int), sS, byV de, byV so, sP, sM]
/-- A font's cells. -/
def fCs (pl : List Nat) (fr : Nat) (sB : Value) : Array Value :=
  #[wV pl 0, wV pl 1, wV pl 2, wV pl 3, wV pl 4, wV pl 5, wV pl 6, wV pl 7, wV pl 8, wV pl 9, wV pl 10, wV pl 11, wV pl 12, wV pl 13, wV pl 14, wV pl 15, .int .u16 (fr : Int), sB]
theorem below_one (w : World) (o : Obj) : Below w.heap.size w (w.alloc o) := (Below.refl _ _).alloc (Nat.le_refl _) _
theorem below_two (w : World) (o p : Obj) : Below w.heap.size w ((w.alloc o).alloc p) := ((Below.refl _ _).alloc (Nat.le_refl _) _).alloc (by simp) _
theorem pick_any (w : World) (c n : Int) (hc : -9223372036854775808 ≤ c ∧ c ≤ 9223372036854775807) (hn : 0 < n ∧ n ≤ 9223372036854775807) :
    Calls Tryz.prog 7 #[.int .i64 c, .int .i64 n] w fun e w' => e = .returned (.int .i64 ((if c < 0 then -(c + 1) else c) % n)) ∧ w' = w := by
  by_cases h : c < 0
  · rw [if_pos h]
    have ht : Int.tmod (-(c + 1)) n = (-(c + 1)) % n := Int.tmod_eq_emod_of_nonneg (by omega)
    have hb := Int.emod_lt_of_pos (-(c + 1)) hn.1
    have ha := Int.emod_nonneg (-(c + 1)) (Int.ne_of_gt hn.1)
    go_enter Tryz.func7, Tryz.ntmps7
    go_wp2
    go_ret
    exact ⟨rfl, rfl⟩
  · rw [if_neg h]
    have ht : Int.tmod c n = c % n := Int.tmod_eq_emod_of_nonneg (by omega)
    have hb := Int.emod_lt_of_pos c hn.1
    have ha := Int.emod_nonneg c (Int.ne_of_gt hn.1)
    go_enter Tryz.func7, Tryz.ntmps7
    go_wp2
    go_ret
    exact ⟨rfl, rfl⟩
theorem rcheck_any (w : World) (v : List UInt8) (i pc : Nat) (de so : UInt8) (sS sP sM : Option Addr) (nS nP nM cS cP cM : Nat) :
    Calls Tryz.prog 14 #[.agg (gCs v i pc (.slice sS nS cS) de so (.slice sP nP cP) (.slice sM nM cM))] w fun e w' => e = .returned (.int .i64 (if nP == 256 && (nM == 3232 && decide (nS ≤ 12)) then 0 else 180)) ∧ Below w.heap.size w w' := by
  by_cases h1 : nP = 256
  · by_cases h2 : nM = 3232
    · by_cases h3 : nS ≤ 12
      · rw [if_pos (by simp [h1, h2, h3])]
        have q1 : ((nP : Int) != 256) = false := by simp; omega
        have q2 : ((nM : Int) != 3232) = false := by simp; omega
        have q3 : decide ((12 : Int) < (nS : Int)) = false := by simp; omega
        clear h1 h2 h3
        unfold gCs
        go_enter Tryz.func14, Tryz.ntmps14
        go_wp2
        go_ret
        exact ⟨rfl, below_one _ _⟩
      · rw [if_neg (by simp [h3])]
        have q1 : ((nP : Int) != 256) = false := by simp; omega
        have q2 : ((nM : Int) != 3232) = false := by simp; omega
        have q3 : decide ((12 : Int) < (nS : Int)) = true := by simp; omega
        clear h1 h2 h3
        unfold gCs
        go_enter Tryz.func14, Tryz.ntmps14
        go_wp2
        go_ret
        exact ⟨rfl, below_one _ _⟩
    · rw [if_neg (by simp [h2])]
      have q1 : ((nP : Int) != 256) = false := by simp; omega
      have q2 : ((nM : Int) != 3232) = true := by simp; omega
      clear h1 h2
      unfold gCs
      go_enter Tryz.func14, Tryz.ntmps14
      go_wp2
      go_ret
      exact ⟨rfl, below_one _ _⟩
  · rw [if_neg (by simp [h1])]
    have q1 : ((nP : Int) != 256) = true := by simp; omega
    clear h1
    unfold gCs
    go_enter Tryz.func14, Tryz.ntmps14
    go_wp2
    go_ret
    exact ⟨rfl, below_one _ _⟩
/-- How much of a machine and its font there is. -/
def vasG (a b c d : Nat) : Bool := decide (2147483647 < a + b + c + d)
theorem vast_any (w : World) (v : List UInt8) (i pc : Nat) (de so : UInt8) (sS sP sM : Option Addr) (nS nP nM cS cP cM : Nat) (pl : List Nat) (fr : Nat) (sB : Option Addr) (nB cB' : Nat) :
    Calls Tryz.prog 5 #[.agg (gCs v i pc (.slice sS nS cS) de so (.slice sP nP cP) (.slice sM nM cM)), .agg (fCs pl fr (.slice sB nB cB'))] w fun e w' => e = .returned (.bool (vasG nS nP nM nB)) ∧ Below w.heap.size w w' := by
  by_cases h0 : 2147483647 < nS
  · have q0 : decide ((2147483647 : Int) < (nS : Int)) = true := by simp; omega
    have e : vasG nS nP nM nB = true := by unfold vasG; simp; omega
    rw [e]
    clear e h0
    unfold gCs fCs
    go_enter Tryz.func5, Tryz.ntmps5
    go_wp2
    go_ret
    exact ⟨rfl, below_two _ _ _⟩
  · by_cases h1 : 2147483647 < nP
    · have q0 : decide ((2147483647 : Int) < (nS : Int)) = false := by simp; omega
      have q1 : decide ((2147483647 : Int) < (nP : Int)) = true := by simp; omega
      have e : vasG nS nP nM nB = true := by unfold vasG; simp; omega
      rw [e]
      clear e h0 h1
      unfold gCs fCs
      go_enter Tryz.func5, Tryz.ntmps5
      go_wp2
      go_ret
      exact ⟨rfl, below_two _ _ _⟩
    · by_cases h2 : 2147483647 < nM
      · have q0 : decide ((2147483647 : Int) < (nS : Int)) = false := by simp; omega
        have q1 : decide ((2147483647 : Int) < (nP : Int)) = false := by simp; omega
        have q2 : decide ((2147483647 : Int) < (nM : Int)) = true := by simp; omega
        have e : vasG nS nP nM nB = true := by unfold vasG; simp; omega
        rw [e]
        clear e h0 h1 h2
        unfold gCs fCs
        go_enter Tryz.func5, Tryz.ntmps5
        go_wp2
        go_ret
        exact ⟨rfl, below_two _ _ _⟩
      · by_cases h3 : 2147483647 < nB
        · have q0 : decide ((2147483647 : Int) < (nS : Int)) = false := by simp; omega
          have q1 : decide ((2147483647 : Int) < (nP : Int)) = false := by simp; omega
          have q2 : decide ((2147483647 : Int) < (nM : Int)) = false := by simp; omega
          have q3 : decide ((2147483647 : Int) < (nB : Int)) = true := by simp; omega
          have e : vasG nS nP nM nB = true := by unfold vasG; simp; omega
          rw [e]
          clear e h0 h1 h2 h3
          unfold gCs fCs
          go_enter Tryz.func5, Tryz.ntmps5
          go_wp2
          go_ret
          exact ⟨rfl, below_two _ _ _⟩
        · have r1 : (nS : Int) ≤ 2147483647 := by omega
          have r2 : (nP : Int) ≤ 2147483647 := by omega
          have r3 : (nM : Int) ≤ 2147483647 := by omega
          have r4 : (nB : Int) ≤ 2147483647 := by omega
          have q0 : decide ((2147483647 : Int) < (nS : Int)) = false := by simp; omega
          have q1 : decide ((2147483647 : Int) < (nP : Int)) = false := by simp; omega
          have q2 : decide ((2147483647 : Int) < (nM : Int)) = false := by simp; omega
          have q3 : decide ((2147483647 : Int) < (nB : Int)) = false := by simp; omega
          obtain ⟨R, hR⟩ : ∃ R, vasG nS nP nM nB = R := ⟨_, rfl⟩
          rw [hR]
          have q4 : decide ((2147483647 : Int) < (nS : Int) + (nP : Int) + (nM : Int) + (nB : Int)) = R := by
            rw [← hR]
            unfold vasG
            simp only [decide_eq_decide]
            omega
          clear hR h0 h1 h2 h3
          unfold gCs fCs
          go_enter Tryz.func5, Tryz.ntmps5
          go_wp2
          go_ret
          exact ⟨rfl, below_two _ _ _⟩
end Go.Proofs.YteipjkjpeookaaaGreat

namespace Go.Proofs.YteipjkjpeookaaaGreat
open Go Go.RowKit Go.Shelf
set_option linter.unusedVariables false
set_option maxHeartbeats 1000000
set_option maxRecDepth 20000

/-- A word's cells. -/
def cW (n : Nat) : List Value := [.int .u16 (n : Int)]
theorem infoWd : (Tryz.prog.info? 23).map (fun i => (i.zero, i.size, i.bytes)) = some (some (.int .u16 0), 1, 2) := by kernel_rfl
theorem kWord : KdL 24 23 1 2 cW := by
  obtain ⟨i, hi, e⟩ := Option.map_eq_some_iff.1 infoWd
  injection e with e1 e2
  injection e2 with e2 e3
  exact ⟨Tryz.underlying24, ⟨i, _, hi, e1, e2, e3, rfl⟩, fun _ => rfl, fun x v hv => by simp [cW] at hv; subst hv; rfl, by decide, by decide⟩
abbrev LW (w : World) (sp : Option Addr) (l : List Nat) : Prop := LiesL 1 cW w sp l
theorem lw_at {w : World} {g o : Nat} {l : List Nat} (h : LW w (some ⟨g, o, none⟩) l) (j : Nat) (hj : j < l.length) : w.cell? ⟨g, o + j, none⟩ = some (.int .u16 ((l.getD j 0 : Nat) : Int)) := by
  obtain ⟨gb, ob, e, k⟩ := h j (l.getD j 0) (by simp [List.getD, hj])
  cases e
  have := k 0 (.int .u16 ((l.getD j 0 : Nat) : Int)) rfl
  rwa [Nat.mul_one] at this
theorem lw_some {w : World} {sp : Option Addr} {l : List Nat} (h : LW w sp l) (hj : 0 < l.length) : ∃ g o, sp = some ⟨g, o, none⟩ := by
  obtain ⟨gb, ob, e, k⟩ := h 0 (l.getD 0 0) (by simp [List.getD, hj])
  exact ⟨gb, ob, e⟩
theorem rowW_eq (l : List Nat) : rowL cW l = l.map (fun n : Nat => Value.int .u16 (n : Int)) := by
  induction l with
  | nil => rfl
  | cons x l ih => rw [rowL_cons, ih]; rfl
theorem idxW (k : IntKind) (g o n cap j : Nat) (v : World) (h : j < n) : (Instr.indexAt 24 (.slice (some ⟨g, o, none⟩) n cap) (.int k (j : Int))).run Tryz.prog v = .ok (.pointer (some ⟨g, o + j, none⟩)) v := by
  have := idxP (g := g) (off := o) (len := n) (cap := cap) Tryz.underlying24 (s := 1) (by kernel_rfl) k j v h
  rwa [Nat.mul_one] at this
/-- Bytes that lie in a row, as a string. -/
def sB (l : List UInt8) : ByteArray := ⟨l.toArray⟩
theorem sB_list (l : List UInt8) : (sB l).toList = l := ByteArray.toList_mk l
theorem conv0 (w : World) (cap : Nat) : (convert 25 9 (.slice none 0 cap)).run Tryz.prog w = .ok (.string (sB [])) w := by kernel_rfl
theorem lb_conv {w : World} {sp : Option Addr} {l : List UInt8} (h : LB w sp l) (cap : Nat) : (convert 25 9 (.slice sp l.length cap)).run Tryz.prog w = .ok (.string (sB l)) w := by
  cases sp with
  | none =>
    have : l = [] := by
      cases l with
      | nil => rfl
      | cons a r => obtain ⟨g, o, e, _⟩ := h 0 a rfl; cases e
    subst this
    exact conv0 w cap
  | some a =>
    refine run_convert_bytes_back (P := Tryz.prog) w 25 9 5 a cap l Tryz.underlying25 Tryz.underlying5 Tryz.underlying9 (fun j hj => ?_)
    obtain ⟨g, o, e, c⟩ := h j _ (List.getElem?_eq_getElem hj)
    cases e
    rw [Addr.add_lit]
    have := c 0 (byV l[j]) rfl
    rwa [Nat.mul_one] at this
/-- Registers as an array. -/
def gVs (v : List UInt8) : Array Value := #[gV v 0, gV v 1, gV v 2, gV v 3, gV v 4, gV v 5, gV v 6, gV v 7, gV v 8, gV v 9, gV v 10, gV v 11, gV v 12, gV v 13, gV v 14, gV v 15]
def vB (v u : List UInt8) : List Nat → Bool
  | [] => true
  | k :: l => if (v.getD k 0).toNat = (u.getD k 0).toNat then vB v u l else false
theorem vB_iff (v u : List UInt8) : ∀ l, vB v u l = true ↔ ∀ k ∈ l, v.getD k 0 = u.getD k 0
  | [] => by simp [vB]
  | k :: l => by
    simp only [vB, List.mem_cons, forall_eq_or_imp]
    rw [← vB_iff v u l, ← UInt8.toNat_inj]
    split <;> simp_all
theorem eqV (v u : List UInt8) : Eqs Tryz.prog 22 (gVs v) (gVs u) (vB v u (List.range 16)) := ⟨by kernel_rfl, fun w => by
  obtain ⟨inf, hi, _⟩ := Option.map_eq_some_iff.1 infoBy
  rw [run_equalIn_array w 9999 _ _ Tryz.underlying22 hi]
  have e1 : Tryz.prog.cellsOf 5 = 1 := by kernel_rfl
  rw [e1]
  have key : ∀ l : List Nat, (∀ k ∈ l, k < 16) → (Op.eqItems 9999 5 1 (gVs v) (gVs u) l).run Tryz.prog w = .ok (vB v u l) w := fun l => by
    induction l with
    | nil => intro _; rfl
    | cons k l ih =>
      intro hk
      have ih' := ih fun j hj => hk j (List.mem_cons_of_mem _ hj)
      have hp : ∀ x : List UInt8, (part 5 (gVs x) (k * 1)).run Tryz.prog w = .ok (gV x k) w := fun x => by
        have h16 := hk k (List.mem_cons_self)
        rcases (show k = 0 ∨ k = 1 ∨ k = 2 ∨ k = 3 ∨ k = 4 ∨ k = 5 ∨ k = 6 ∨ k = 7 ∨ k = 8 ∨ k = 9 ∨ k = 10 ∨ k = 11 ∨ k = 12 ∨ k = 13 ∨ k = 14 ∨ k = 15 by omega) with rfl | rfl | rfl | rfl | rfl | rfl | rfl | rfl | rfl | rfl | rfl | rfl | rfl | rfl | rfl | rfl <;> (unfold gVs; go_simp)
      have he : (Op.equalIn 9999 5 (gV v k) (gV u k)).run Tryz.prog w = .ok (decide ((v.getD k 0).toNat = (u.getD k 0).toNat)) w := by
        unfold gV byV
        generalize (v.getD k 0).toNat = a
        generalize (u.getD k 0).toNat = b
        go_simp
        by_cases hab : a = b
        · simp [hab]
        · simp [hab]
          omega
      unfold Op.eqItems vB
      simp only [Sem.run_bind, hp, he, Result.andThen_ok]
      by_cases hab : (v.getD k 0).toNat = (u.getD k 0).toNat
      · simp only [hab, decide_true, Bool.not_true, if_pos]
        exact ih'
      · simp only [hab, decide_false, Bool.not_false, if_true, if_false]
        rfl
  exact key _ (by simp)⟩
end Go.Proofs.YteipjkjpeookaaaGreat
