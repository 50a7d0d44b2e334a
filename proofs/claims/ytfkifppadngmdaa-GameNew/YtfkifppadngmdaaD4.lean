/- Rows laid on a page: the program's own. -/
import Derived.Test.YtfkifppadngmdaaD3
namespace Go.Proofs.Ytfkifppadngmdaa
open Go Go.RowKit Go.Shelf
set_option linter.unusedVariables false
set_option maxHeartbeats 1000000
set_option maxRecDepth 20000

theorem made256 : madeCells (#[.int .u8 0] : Array Value) 256 = rowB (List.replicate 256 0) := by kernel_rfl
theorem mk256 (v : World) : (Instr.makeSlice 22 (.int .i64 256) (.int .i64 256)).run Try.prog v = .ok (.slice (some ⟨v.heap.size, 0, none⟩) 256 256) (v.alloc (.cells (rowB (List.replicate 256 0)) 5)) := by
  obtain ⟨i, hi, e⟩ := Option.map_eq_some_iff.1 infoBy
  injection e with e1 e2
  injection e2 with e2 e3
  have := run_make (P := Try.prog) v 22 5 i _ Try.underlying22 hi e1 .i64 .i64 256 256 (by decide) (Int.le_refl _) (by rw [e3]; decide) (by decide)
  rw [e2, show Int.toNat 256 * 1 = 256 from rfl, show (Value.int IntKind.u8 0).cells = #[.int .u8 0] from rfl, made256] at this
  exact this
/-- A copy that fills a block. -/
theorem at_copyU {ops : Array Oper} {rest : List Oper} {o : Oper} {a : Act} {w : World} {Q : Exit → Act → World → Prop} (hgd : o.guard = none) (d e : Operand)
    (ho : o.op = .call { callee := .builtin .copy, args := #[d, e], argTypes := #[22, 22] })
    (g dCap : Nat) (sp : Option Addr) (n sCap : Nat) (hd : a.eval d = .slice (some ⟨g, 0, none⟩) n dCap) (hs : a.eval e = .slice sp n sCap)
    (cur : Array Value) (hg : Bx w g cur 5) (l : List UInt8) (hlen : l.length = n) (h0 : 0 < n) (hl : LB w sp l) (hfit : cur.size = n)
    (h : ∀ w', Hid (Bx w' g (rowB l) 5 ∧ (∀ B, B ≤ g → Below B w w') ∧ ∀ q, q ≠ g → w'.heap[q]? = w.heap[q]?) → wpList Try.prog ops Q rest (a.put o.dst (goInt n)) w') : wpList Try.prog ops Q (o :: rest) a w := by
  refine wpList_plain hgd fun K' hK => ?_
  obtain ⟨gb, ob, rfl⟩ := lb_some hl (by omega)
  have hsrc : ∀ j v, (rowL cB l)[j]? = some v → w.cell? ((⟨gb, ob, none⟩ : Addr).add j) = some v := fun j v hv => by
    rw [Addr.add_lit]
    exact LiesL.cells kByte.len kByte.s0 hl j v hv
  have hrun := run_copyL kByte w o.type g n dCap ⟨gb, ob, none⟩ n sCap cur (rowL cB l) hg (by rw [rowL_len kByte.len, hlen]) (Nat.le_refl _) hsrc (by rw [rowL_len kByte.len, hlen]; omega) (rowL_cell kByte.one l)
  have e : (splice cur.toList 0 (rowL cB l)).toArray = rowB l := by
    unfold rowB
    rw [rowB_eq]
    unfold splice
    rw [List.drop_eq_nil_of_le (by simp; omega)]
    simp
  rw [e] at hrun
  unfold Oper.wp
  simp [execOp, ho, resolve, invoke, builtin, hd, hs, hrun, Result.andThen]
  exact hK _ _ (h _ ⟨setRow_heap w g cur _ _ _ hg, fun B hB => below_setRow (Below.refl _ _) hB _, fun q hq => setRow_other w g q _ hq⟩)
theorem dw_new {w y : World} {sv : Value} {p rows : List UInt8} {bR D bD : Nat} (h : Fm w [(bR, #[sv], 22), (D, rowB p, 5), (bD, #[.slice (some ⟨D, 0, none⟩) 256 256], 22)] y) (X Y : Nat) :
    DwF w bR D bD y.heap.size (y.heap.size + 1) (y.heap.size + 1 + 1) sv (X % 64) (Y % 32) (drawS X Y rows p 0) (((y.alloc (.cells #[.int .i64 ((X : Int) % 64)] 3)).alloc (.cells #[.int .i64 ((Y : Int) % 32)] 3)).alloc (.cells #[.bool false] 4)) := by
  have := ((h.new #[.int .i64 ((X : Int) % 64)] 3).new #[.int .i64 ((Y : Int) % 32)] 3).new #[.bool false] 4
  simp only [World.alloc, Array.size_push] at this
  exact this
theorem draw_any (w : World) (sp spR : Option Addr) (cap capR : Nat) (p rows : List UInt8) (x y : UInt8) (hl : Hid (LB w sp p)) (hr : Hid (LB w spR rows)) :
    Calls Try.prog 62 #[.slice sp p.length cap, .int .u8 (x.toNat : Int), .int .u8 (y.toNat : Int), .slice spR rows.length capR] w fun e w' => ∃ v, e = .returned (.tuple #[v, .bool (drawA p x.toNat y.toNat rows).2.1, .int .i64 (drawA p x.toNat y.toNat rows).2.2]) ∧ Hid (KL 5 1 cB w v (drawA p x.toNat y.toNat rows).1 w') := by
  obtain ⟨n, hn⟩ : ∃ n, p.length = n := ⟨_, rfl⟩
  obtain ⟨m, hm⟩ : ∃ m, rows.length = m := ⟨_, rfl⟩
  have hE : Hid (∀ z, Below w.heap.size w z → KL 5 1 cB w (.slice none 0 0) ([] : List UInt8) z) := fun z hz => (KL.nil w).below hz
  by_cases h1 : n = 256
  · by_cases h2 : m ≤ 15
    · have hd : drawA p x.toNat y.toNat rows = ((drawS x.toNat y.toNat rows p (8 * m)).1, (drawS x.toNat y.toNat rows p (8 * m)).2, 0) := by unfold drawA; rw [if_pos ⟨by omega, by omega⟩, hm]
      rw [hd]
      dsimp only
      have hp : p.length = 256 := by omega
      have hmk := mk256
      have q1 : ((n : Int) != 256) = false := by simp; omega
      have q2 : decide ((15 : Int) < (m : Int)) = false := by simp; omega
      have hx := x.toNat_lt
      have hy := y.toNat_lt
      obtain ⟨X, hX⟩ : ∃ X, x.toNat = X := ⟨_, rfl⟩
      obtain ⟨Y, hY⟩ : ∃ Y, y.toNat = Y := ⟨_, rfl⟩
      rw [hX, hY, hn, hm]
      have hXi : (X : Int) < 256 := by omega
      have hYi : (Y : Int) < 256 := by omega
      subst h1
      obtain ⟨Z, hZ⟩ : ∃ Z, rowB (List.replicate 256 0) = Z := ⟨_, rfl⟩
      rw [hZ] at hmk
      have hZs : Hid (Z.size = 256) := by rw [← hZ]; show _ = _; rw [rowB_size]; simp
      have K0 : Hid (Fm w [(w.heap.size, #[.slice spR m capR], 22), (w.heap.size + 1, Z, 5), (w.heap.size + 2, #[.slice (some ⟨w.heap.size + 1, 0, none⟩) 256 256], 22)] (((w.alloc (.cells #[.slice spR m capR] 22)).alloc (.cells Z 5)).alloc (.cells #[.slice (some ⟨w.heap.size + 1, 0, none⟩) 256 256] 22))) := Fm.three w _ _ _ _ _ _
      have hp : Hid (p.length = 256) := hp
      have hm' : Hid (rows.length = m ∧ m ≤ 15) := ⟨hm, h2⟩
      have hmi : (m : Int) ≤ 15 := by omega
      clear hd hZ hX hY hx hy hm hn h2
      go_enter Try.func62, Try.ntmps62
      go_wp2_with (first
        | ((with_reducible refine gen_world (((w.alloc (.cells #[.slice spR m capR] 22)).alloc (.cells Z 5)).alloc (.cells #[.slice (some ⟨w.heap.size + 1, 0, none⟩) 256 256] 22)) (Fm w [(w.heap.size, #[.slice spR m capR], 22), (w.heap.size + 1, Z, 5), (w.heap.size + 2, #[.slice (some ⟨w.heap.size + 1, 0, none⟩) 256 256], 22)]) ?_ ?_); exact K0.out; intro y1 K1; have c1 := (K1.out.bx 2 _ _ _ rfl).c 0 (.slice (some ⟨w.heap.size + 1, 0, none⟩) 256 256) rfl)
        | ((with_reducible refine at_copyU ?_ (.tmp 24) (.tmp 25) ?_ (w.heap.size + 1) 256 sp 256 cap ?_ ?_ Z (K1.out.bx 1 _ _ _ rfl) p hp.out ?_ (hl.out.below K1.out.low) hZs.out ?_); rfl; rfl; rfl; rfl; decide; intro y2 H2; have K2 : Hid (Fm w [(w.heap.size, #[.slice spR m capR], 22), (w.heap.size + 1, rowB p, 5), (w.heap.size + 2, #[.slice (some ⟨w.heap.size + 1, 0, none⟩) 256 256], 22)] y2) := K1.out.put 1 _ _ _ _ rfl H2.out; have c2 := (K2.out.bx 0 _ _ _ rfl).c 0 (.slice spR m capR) rfl; clear K1 K0 H2)
        | ((with_reducible refine gen_world (y3.setCell ⟨y2.heap.size + 1 + 1, 0, none⟩ (.bool false)) (DwF w w.heap.size (w.heap.size + 1) (w.heap.size + 2) y2.heap.size (y2.heap.size + 1) (y2.heap.size + 1 + 1) (.slice spR m capR) (X % 64) (Y % 32) (drawS X Y rows p 0)) ?_ ?_); exact Fm.setCell K3.out 5 _ #[.bool false] #[.bool false] _ rfl 0 _ rfl; intro y4 K4; have c4 := (K4.out.bx 0 _ _ _ rfl).c 0 (.slice spR m capR) rfl)
        | ((with_reducible refine gen_world (((y2.alloc (.cells #[.int .i64 ((X : Int) % 64)] 3)).alloc (.cells #[.int .i64 ((Y : Int) % 32)] 3)).alloc (.cells #[.bool false] 4)) (DwF w w.heap.size (w.heap.size + 1) (w.heap.size + 2) y2.heap.size (y2.heap.size + 1) (y2.heap.size + 1 + 1) (.slice spR m capR) (X % 64) (Y % 32) (drawS X Y rows p 0)) ?_ ?_); exact dw_new K2.out X Y; intro y3 K3; have c3 := (K3.out.bx 5 _ _ _ rfl).c 0 (.bool false) rfl; have f3 := (K3.out.bx 5 _ _ _ rfl).fz 0)
        | (go_at_call 70; refine (each_any _ 8 m (by decide) (by have := hm'.out.2; omega) 71 #[.pointer (some ⟨w.heap.size, 0, none⟩), .pointer (some ⟨y2.heap.size, 0, none⟩), .pointer (some ⟨y2.heap.size + 1, 0, none⟩), .pointer (some ⟨y2.heap.size + 1 + 1, 0, none⟩), .pointer (some ⟨w.heap.size + 2, 0, none⟩)] (fun a v => by kernel_rfl) (fun k z => DwF w w.heap.size (w.heap.size + 1) (w.heap.size + 2) y2.heap.size (y2.heap.size + 1) (y2.heap.size + 1 + 1) (.slice spR m capR) (X % 64) (Y % 32) (drawS X Y rows p k) z) ?_ K4).mono ?_))
      · intro i j W hi hj hW
        have hm2 := hm'.out
        have := draw1_any w W w.heap.size (w.heap.size + 1) (w.heap.size + 2) y2.heap.size (y2.heap.size + 1) (y2.heap.size + 1 + 1) capR X Y i j spR rows p hp.out (by omega) hi (by omega) hr (by rw [hm2.1]; exact hW)
        rw [hm2.1] at this
        exact this
      rintro e y5 ⟨rfl, K5⟩
      have c5 := (K5.out.bx 2 _ _ _ rfl).c 0 (.slice (some ⟨w.heap.size + 1, 0, none⟩) 256 256) rfl
      have g5 := (K5.out.bx 5 _ _ _ rfl).c 0 (.bool (drawS X Y rows p (8 * m)).2) rfl
      have fin : Hid (∀ z, Below y5.heap.size y5 z → KL 5 1 cB w (.slice (some ⟨w.heap.size + 1, 0, none⟩) 256 256) (drawS X Y rows p (8 * m)).1 z) := fun z hz => by
        have hl2 : (drawS X Y rows p (8 * m)).1.length = 256 := by rw [draw_len]; exact hp.out
        have h5 := Fm.below K5.out hz
        have := own_of_bx (B := w.heap.size) (Fm.bx h5 1 _ _ _ rfl) (by omega) (by rw [hl2]; decide)
        rw [hl2] at this
        exact ⟨this, h5.low⟩
      clear K5 K4 K3 K2 c1 c2 c3 f3 c4
      go_wp2
      go_quiet (fail)
      go_wp2
      go_ret3
      exact ⟨_, rfl, fin.out _ (by first | exact below_drewN (Below.refl _ _) | exact Below.refl _ _)⟩
    · have hd : drawA p x.toNat y.toNat rows = ([], false, 1) := by unfold drawA; rw [if_neg (by rintro ⟨_, h⟩; omega)]
      rw [hd, hn, hm]
      dsimp only
      have q1 : ((n : Int) != 256) = false := by simp; omega
      have q2 : decide ((15 : Int) < (m : Int)) = true := by simp; omega
      clear hd h1 h2 hn hm
      go_enter Try.func62, Try.ntmps62
      go_wp2
      go_ret3
      exact ⟨_, rfl, hE.out _ (below1 w _)⟩
  · have hd : drawA p x.toNat y.toNat rows = ([], false, 1) := by unfold drawA; rw [if_neg (by rintro ⟨h, _⟩; omega)]
    rw [hd, hn, hm]
    dsimp only
    have q1 : ((n : Int) != 256) = true := by simp; omega
    clear hd h1 hn hm
    go_enter Try.func62, Try.ntmps62
    go_wp2
    go_ret3
    exact ⟨_, rfl, hE.out _ (below1 w _)⟩
end Go.Proofs.Ytfkifppadngmdaa
