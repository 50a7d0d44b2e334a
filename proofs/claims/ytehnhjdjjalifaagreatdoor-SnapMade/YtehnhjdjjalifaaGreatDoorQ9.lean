/- A row's size, and what it writes. -/
import Derived.Test.YtehnhjdjjalifaaGreatDoorQ8
namespace Go.Proofs.YtehnhjdjjalifaaGreatDoor
open Go Go.RowKit Go.Shelf
set_option linter.unusedVariables false
set_option maxHeartbeats 4000000
set_option maxRecDepth 20000

theorem ent21 (k : Nat) (hk : k ∈ ([111, 88, 89, 107, 91, 96, 103, 100, 109, 108, 93, 98, 105, 101, 110, 34, 35, 37, 38, 40, 41, 42, 43, 44, 45, 46, 47, 48, 49, 50, 51, 52, 53, 54, 55, 57, 58, 59, 60, 61, 62, 63, 64, 65, 66, 67, 68, 69, 70, 72, 73, 74, 75, 77, 78, 79, 81, 82] : List Nat)) (args : Array Value) (w : World) : (callFunc k args).run Tryz.prog w = .ok (.enter k args) w := by
  simp only [List.mem_cons, List.not_mem_nil, or_false] at hk
  rcases hk with rfl | rfl | rfl | rfl | rfl | rfl | rfl | rfl | rfl | rfl | rfl | rfl | rfl | rfl | rfl | rfl | rfl | rfl | rfl | rfl | rfl | rfl | rfl | rfl | rfl | rfl | rfl | rfl | rfl | rfl | rfl | rfl | rfl | rfl | rfl | rfl | rfl | rfl | rfl | rfl | rfl | rfl | rfl | rfl | rfl | rfl | rfl | rfl | rfl | rfl | rfl | rfl | rfl | rfl | rfl | rfl | rfl | rfl <;> kernel_rfl
/-- How many bytes a row has, the n-th being RAM's. -/
def szR (i n : Nat) : Nat := ([4, 2, 2, 2, 2, 2, 2, 2, 2, 2, 2, 2, 2, 2, 2, 2, 2, 1, 1, 1, 1, 1, 1, 1, 1, 1, 1, 2, 1, 1, 1, 1, 1, 8, 2, n, 512] : List Nat).getD i 0
/-- A row's bytes. -/
def pcB (s : Bd) (i : Nat) : List UInt8 := ([[86, 83, 80, 49], putN (s.r.getD 0 0) 2, putN (s.r.getD 1 0) 2, putN (s.r.getD 2 0) 2, putN (s.r.getD 3 0) 2, putN (s.r.getD 4 0) 2, putN (s.r.getD 5 0) 2, putN (s.r.getD 6 0) 2, putN (s.r.getD 7 0) 2, putN (s.r.getD 8 0) 2, putN (s.r.getD 9 0) 2, putN (s.r.getD 10 0) 2, putN (s.r.getD 11 0) 2, putN (s.r.getD 12 0) 2, putN (s.r.getD 13 0) 2, putN (s.r.getD 14 0) 2, putN (s.r.getD 15 0) 2, putN s.d.toNat 1, [flB s.df], putN s.p.toNat 1, putN s.x.toNat 1, putN s.t.toNat 1, [flB s.ie], [flB s.q], putN s.op.toNat 1, putN s.b.toNat 1, putN s.ph.toNat 1, putN s.ln.toNat 2, putN s.cy.toNat 1, [flB s.on], putN s.gt.toNat 1, putN s.pd.toNat 1, [flB s.lt], putN s.cc 8, putN s.ram.length 2, s.ram, s.rom] : List (List UInt8)).getD i []
theorem pcB_all (s : Bd) (hr : s.r.length = 16) : (List.range 37).flatMap (pcB s) = bodyB s := by
  obtain ⟨r, d, df, p, x, t, ie, q, op, b, ph, ln, cy, on, gt, pd, lt, ram, rom, cc⟩ := s
  have e1 : ∀ a : UInt8, putN a.toNat 1 = [a] := fun a => by
    show [UInt8.ofNat (a.toNat % 256)] = [a]
    rw [Nat.mod_eq_of_lt (UInt8.toNat_lt a)]
    simp
  have e2 : ∀ n : Nat, putN n 1 = [UInt8.ofNat n] := fun n => by
    show [UInt8.ofNat (n % 256)] = [UInt8.ofNat n]
    congr 1
    apply UInt8.toNat_inj.1
    rw [UInt8.toNat_ofNat', UInt8.toNat_ofNat', Nat.mod_mod]
  match r, hr with
  | [r0, r1, r2, r3, r4, r5, r6, r7, r8, r9, r10, r11, r12, r13, r14, r15], _ =>
    show [86, 83, 80, 49] ++ (putN r0 2 ++ (putN r1 2 ++ (putN r2 2 ++ (putN r3 2 ++ (putN r4 2 ++ (putN r5 2 ++ (putN r6 2 ++ (putN r7 2 ++ (putN r8 2 ++ (putN r9 2 ++ (putN r10 2 ++ (putN r11 2 ++ (putN r12 2 ++ (putN r13 2 ++ (putN r14 2 ++ (putN r15 2 ++ (putN d.toNat 1 ++ ([flB df] ++ (putN p.toNat 1 ++ (putN x.toNat 1 ++ (putN t.toNat 1 ++ ([flB ie] ++ ([flB q] ++ (putN op.toNat 1 ++ (putN b.toNat 1 ++ (putN ph.toNat 1 ++ (putN ln.toNat 2 ++ (putN cy.toNat 1 ++ ([flB on] ++ (putN gt.toNat 1 ++ (putN pd.toNat 1 ++ ([flB lt] ++ (putN cc 8 ++ (putN ram.length 2 ++ (ram ++ (rom ++ [])))))))))))))))))))))))))))))))))))) = _
    rw [e1 d, e1 p, e1 x, e1 t, e1 op, e1 b, e1 ph, e2 cy.toNat, e2 gt.toNat, e1 pd]
    unfold bodyB headB
    simp only [List.flatMap_cons, List.flatMap_nil, List.append_assoc, List.cons_append, List.nil_append, List.append_nil]
theorem row_size (i : Nat) (hi : i < 37) (x : Rv) (z : World) (h : RwK i x z) (C : Array Value) (sp : Option Addr) (n cap : Nat) (hC : i = 35 → C[32]? = some (.slice sp n cap)) : (∀ args w, (callFunc x.ks args).run Tryz.prog w = .ok (.enter x.ks args) w) ∧ Calls Tryz.prog x.ks (#[.agg C] ++ x.cs) z fun e w' => e = .returned (.int .i64 ((szR i n : Nat) : Int)) ∧ Below z.heap.size z w' := by
  rcases (show i = 0 ∨ i = 1 ∨ i = 2 ∨ i = 3 ∨ i = 4 ∨ i = 5 ∨ i = 6 ∨ i = 7 ∨ i = 8 ∨ i = 9 ∨ i = 10 ∨ i = 11 ∨ i = 12 ∨ i = 13 ∨ i = 14 ∨ i = 15 ∨ i = 16 ∨ i = 17 ∨ i = 18 ∨ i = 19 ∨ i = 20 ∨ i = 21 ∨ i = 22 ∨ i = 23 ∨ i = 24 ∨ i = 25 ∨ i = 26 ∨ i = 27 ∨ i = 28 ∨ i = 29 ∨ i = 30 ∨ i = 31 ∨ i = 32 ∨ i = 33 ∨ i = 34 ∨ i = 35 ∨ i = 36 by omega) with rfl | rfl | rfl | rfl | rfl | rfl | rfl | rfl | rfl | rfl | rfl | rfl | rfl | rfl | rfl | rfl | rfl | rfl | rfl | rfl | rfl | rfl | rfl | rfl | rfl | rfl | rfl | rfl | rfl | rfl | rfl | rfl | rfl | rfl | rfl | rfl | rfl
  · obtain ⟨bs, rfl, a⟩ : RwO x z := h
    exact ⟨(fun args w => ent21 111 (by decide) args w), alw_any z C bs 4 a⟩
  · obtain ⟨bk, ⟨bs, bo, bl, rfl, a, b, c⟩, d⟩ : RwReg 0 x z := h
    exact ⟨(fun args w => ent21 111 (by decide) args w), alw_any z C bs 2 a⟩
  · obtain ⟨bk, ⟨bs, bo, bl, rfl, a, b, c⟩, d⟩ : RwReg 1 x z := h
    exact ⟨(fun args w => ent21 111 (by decide) args w), alw_any z C bs 2 a⟩
  · obtain ⟨bk, ⟨bs, bo, bl, rfl, a, b, c⟩, d⟩ : RwReg 2 x z := h
    exact ⟨(fun args w => ent21 111 (by decide) args w), alw_any z C bs 2 a⟩
  · obtain ⟨bk, ⟨bs, bo, bl, rfl, a, b, c⟩, d⟩ : RwReg 3 x z := h
    exact ⟨(fun args w => ent21 111 (by decide) args w), alw_any z C bs 2 a⟩
  · obtain ⟨bk, ⟨bs, bo, bl, rfl, a, b, c⟩, d⟩ : RwReg 4 x z := h
    exact ⟨(fun args w => ent21 111 (by decide) args w), alw_any z C bs 2 a⟩
  · obtain ⟨bk, ⟨bs, bo, bl, rfl, a, b, c⟩, d⟩ : RwReg 5 x z := h
    exact ⟨(fun args w => ent21 111 (by decide) args w), alw_any z C bs 2 a⟩
  · obtain ⟨bk, ⟨bs, bo, bl, rfl, a, b, c⟩, d⟩ : RwReg 6 x z := h
    exact ⟨(fun args w => ent21 111 (by decide) args w), alw_any z C bs 2 a⟩
  · obtain ⟨bk, ⟨bs, bo, bl, rfl, a, b, c⟩, d⟩ : RwReg 7 x z := h
    exact ⟨(fun args w => ent21 111 (by decide) args w), alw_any z C bs 2 a⟩
  · obtain ⟨bk, ⟨bs, bo, bl, rfl, a, b, c⟩, d⟩ : RwReg 8 x z := h
    exact ⟨(fun args w => ent21 111 (by decide) args w), alw_any z C bs 2 a⟩
  · obtain ⟨bk, ⟨bs, bo, bl, rfl, a, b, c⟩, d⟩ : RwReg 9 x z := h
    exact ⟨(fun args w => ent21 111 (by decide) args w), alw_any z C bs 2 a⟩
  · obtain ⟨bk, ⟨bs, bo, bl, rfl, a, b, c⟩, d⟩ : RwReg 10 x z := h
    exact ⟨(fun args w => ent21 111 (by decide) args w), alw_any z C bs 2 a⟩
  · obtain ⟨bk, ⟨bs, bo, bl, rfl, a, b, c⟩, d⟩ : RwReg 11 x z := h
    exact ⟨(fun args w => ent21 111 (by decide) args w), alw_any z C bs 2 a⟩
  · obtain ⟨bk, ⟨bs, bo, bl, rfl, a, b, c⟩, d⟩ : RwReg 12 x z := h
    exact ⟨(fun args w => ent21 111 (by decide) args w), alw_any z C bs 2 a⟩
  · obtain ⟨bk, ⟨bs, bo, bl, rfl, a, b, c⟩, d⟩ : RwReg 13 x z := h
    exact ⟨(fun args w => ent21 111 (by decide) args w), alw_any z C bs 2 a⟩
  · obtain ⟨bk, ⟨bs, bo, bl, rfl, a, b, c⟩, d⟩ : RwReg 14 x z := h
    exact ⟨(fun args w => ent21 111 (by decide) args w), alw_any z C bs 2 a⟩
  · obtain ⟨bk, ⟨bs, bo, bl, rfl, a, b, c⟩, d⟩ : RwReg 15 x z := h
    exact ⟨(fun args w => ent21 111 (by decide) args w), alw_any z C bs 2 a⟩
  · obtain ⟨bs, bo, bl, rfl, a, b, c⟩ : RwG z x 1 96 77 37 98 78 38 #[] := h
    exact ⟨(fun args w => ent21 111 (by decide) args w), alw_any z C bs 1 a⟩
  · obtain ⟨bs, bo, bl, rfl, a, b, c⟩ : RwG z x 1 100 41 40 101 80 41 #[] := h
    exact ⟨(fun args w => ent21 111 (by decide) args w), alw_any z C bs 1 a⟩
  · obtain ⟨bs, bo, bl, rfl, a, b, c⟩ : RwG z x 1 96 77 42 98 78 43 #[] := h
    exact ⟨(fun args w => ent21 111 (by decide) args w), alw_any z C bs 1 a⟩
  · obtain ⟨bs, bo, bl, rfl, a, b, c⟩ : RwG z x 1 96 77 44 98 78 45 #[] := h
    exact ⟨(fun args w => ent21 111 (by decide) args w), alw_any z C bs 1 a⟩
  · obtain ⟨bs, bo, bl, rfl, a, b, c⟩ : RwG z x 1 96 77 46 98 78 47 #[] := h
    exact ⟨(fun args w => ent21 111 (by decide) args w), alw_any z C bs 1 a⟩
  · obtain ⟨bs, bo, bl, rfl, a, b, c⟩ : RwG z x 1 100 41 48 101 80 49 #[] := h
    exact ⟨(fun args w => ent21 111 (by decide) args w), alw_any z C bs 1 a⟩
  · obtain ⟨bs, bo, bl, rfl, a, b, c⟩ : RwG z x 1 100 41 50 101 80 51 #[] := h
    exact ⟨(fun args w => ent21 111 (by decide) args w), alw_any z C bs 1 a⟩
  · obtain ⟨bs, bo, bl, rfl, a, b, c⟩ : RwG z x 1 96 77 52 98 78 53 #[] := h
    exact ⟨(fun args w => ent21 111 (by decide) args w), alw_any z C bs 1 a⟩
  · obtain ⟨bs, bo, bl, rfl, a, b, c⟩ : RwG z x 1 96 77 54 98 78 55 #[] := h
    exact ⟨(fun args w => ent21 111 (by decide) args w), alw_any z C bs 1 a⟩
  · obtain ⟨bs, bo, bl, rfl, a, b, c⟩ : RwG z x 1 103 82 57 105 83 58 #[] := h
    exact ⟨(fun args w => ent21 111 (by decide) args w), alw_any z C bs 1 a⟩
  · obtain ⟨bs, bo, bl, rfl, a, b, c⟩ : RwG z x 2 91 73 59 93 75 60 #[] := h
    exact ⟨(fun args w => ent21 111 (by decide) args w), alw_any z C bs 2 a⟩
  · obtain ⟨bs, bo, bl, rfl, a, b, c⟩ : RwG z x 1 96 77 61 98 78 62 #[] := h
    exact ⟨(fun args w => ent21 111 (by decide) args w), alw_any z C bs 1 a⟩
  · obtain ⟨bs, bo, bl, rfl, a, b, c⟩ : RwG z x 1 100 41 63 101 80 64 #[] := h
    exact ⟨(fun args w => ent21 111 (by decide) args w), alw_any z C bs 1 a⟩
  · obtain ⟨bs, bo, bl, rfl, a, b, c⟩ : RwG z x 1 96 77 65 98 78 66 #[] := h
    exact ⟨(fun args w => ent21 111 (by decide) args w), alw_any z C bs 1 a⟩
  · obtain ⟨bs, bo, bl, rfl, a, b, c⟩ : RwG z x 1 96 77 67 98 78 68 #[] := h
    exact ⟨(fun args w => ent21 111 (by decide) args w), alw_any z C bs 1 a⟩
  · obtain ⟨bs, bo, bl, rfl, a, b, c⟩ : RwG z x 1 100 41 69 101 80 70 #[] := h
    exact ⟨(fun args w => ent21 111 (by decide) args w), alw_any z C bs 1 a⟩
  · obtain ⟨bs, bo, bl, rfl, a, b, c⟩ : RwG z x 8 107 85 72 108 86 73 #[] := h
    exact ⟨(fun args w => ent21 111 (by decide) args w), alw_any z C bs 8 a⟩
  · obtain ⟨bs, bo, bl, rfl, a, b, c⟩ : RwG z x 2 91 73 74 93 75 75 #[] := h
    exact ⟨(fun args w => ent21 111 (by decide) args w), alw_any z C bs 2 a⟩
  · obtain ⟨bo, bl, rfl, b, c⟩ : RwL z x 77 #[] 78 79 := h
    exact ⟨(fun args w => ent21 77 (by decide) args w), of_39 z C sp n cap (hC rfl)⟩
  · obtain ⟨bs, ⟨bo, bl, rfl, b, c⟩, a⟩ : RwM z x := h
    exact ⟨(fun args w => ent21 111 (by decide) args w), alw_any z C bs 512 a⟩
theorem row_write (i : Nat) (hi : i < 37) (x : Rv) (z : World) (h : RwK i x z) (s : Bd) (hf : s.Fit) (h0R : 0 < s.ram.length) (gR oR cR gO oO cO : Nat) (C : Array Value) (hC : C = bCs s (.slice (some ⟨gR, oR, none⟩) s.ram.length cR) (.slice (some ⟨gO, oO, none⟩) s.rom.length cO)) (lR : LB z (some ⟨gR, oR, none⟩) s.ram) (lO : LB z (some ⟨gO, oO, none⟩) s.rom) (B : Nat) (v : Value) (l : List UInt8) (hv : Hid (OwnL 5 1 cB B z v l)) (hB : Hid (B ≤ z.heap.size)) (hl : Hid (l.length ≤ 10000000000)) (h0 : i = 0 → v = .slice none 0 0 ∧ l = []) :
    (∀ args w, (callFunc x.kw args).run Tryz.prog w = .ok (.enter x.kw args) w) ∧ Calls Tryz.prog x.kw (#[v, .agg C] ++ x.cw) z fun e w' => ∃ v', e = .returned v' ∧ Hid (OwnL 5 1 cB B w' v' (l ++ pcB s i) ∧ Below B z w') := by
  have sC : Hid (C.size = 35) := by rw [hC]; exact (rfl : (35 : Nat) = 35)
  have hR := hf.ram
  have hO := hf.rom
  have f1 := hf.ln
  have f2 := hf.cy
  have f3 := hf.gt
  have r16 := hf.ok.r
  have rget : ∀ k, k < 16 → s.r.getD k 0 < 65536 := fun k hk => by
    rw [List.getD_eq_getElem?_getD, List.getElem?_eq_getElem (by rw [r16]; exact hk)]
    exact hf.ok.rl _ (List.getElem_mem _)
  have eLN : s.ln = (s.ln.toNat : Int) := by omega
  have eCY : s.cy = (s.cy.toNat : Int) := by omega
  have eGT : s.gt = (s.gt.toNat : Int) := by omega
  rcases (show i = 0 ∨ i = 1 ∨ i = 2 ∨ i = 3 ∨ i = 4 ∨ i = 5 ∨ i = 6 ∨ i = 7 ∨ i = 8 ∨ i = 9 ∨ i = 10 ∨ i = 11 ∨ i = 12 ∨ i = 13 ∨ i = 14 ∨ i = 15 ∨ i = 16 ∨ i = 17 ∨ i = 18 ∨ i = 19 ∨ i = 20 ∨ i = 21 ∨ i = 22 ∨ i = 23 ∨ i = 24 ∨ i = 25 ∨ i = 26 ∨ i = 27 ∨ i = 28 ∨ i = 29 ∨ i = 30 ∨ i = 31 ∨ i = 32 ∨ i = 33 ∨ i = 34 ∨ i = 35 ∨ i = 36 by omega) with rfl | rfl | rfl | rfl | rfl | rfl | rfl | rfl | rfl | rfl | rfl | rfl | rfl | rfl | rfl | rfl | rfl | rfl | rfl | rfl | rfl | rfl | rfl | rfl | rfl | rfl | rfl | rfl | rfl | rfl | rfl | rfl | rfl | rfl | rfl | rfl | rfl
  · obtain ⟨bs, rfl, a⟩ : RwO x z := h
    obtain ⟨rfl, rfl⟩ := h0 rfl
    exact ⟨(fun args w => ent21 88 (by decide) args w), (op_w z C).mono fun e w' ⟨v', e1, K⟩ => ⟨v', e1, K.out.own.weak hB.out, K.out.low.mono hB.out⟩⟩
  · obtain ⟨bk, ⟨bs, bo, bl, rfl, a, b, c⟩, d⟩ : RwReg 0 x z := h
    exact ⟨(fun args w => ent21 91 (by decide) args w), nw_h z B v l hv hB hl C sC bo 34 #[.pointer (some ⟨bk, 0, none⟩)] b (fun args w => ent21 34 (by decide) args w) (s.r.getD 0 0) (rget 0 (by decide)) fun y hy => of_1 y C bk 0 ((hy.block _ (heap_lt d)).trans d) (by decide) (s.r.getD 0 0) (by rw [hC]; rfl)⟩
  · obtain ⟨bk, ⟨bs, bo, bl, rfl, a, b, c⟩, d⟩ : RwReg 1 x z := h
    exact ⟨(fun args w => ent21 91 (by decide) args w), nw_h z B v l hv hB hl C sC bo 34 #[.pointer (some ⟨bk, 0, none⟩)] b (fun args w => ent21 34 (by decide) args w) (s.r.getD 1 0) (rget 1 (by decide)) fun y hy => of_1 y C bk 1 ((hy.block _ (heap_lt d)).trans d) (by decide) (s.r.getD 1 0) (by rw [hC]; rfl)⟩
  · obtain ⟨bk, ⟨bs, bo, bl, rfl, a, b, c⟩, d⟩ : RwReg 2 x z := h
    exact ⟨(fun args w => ent21 91 (by decide) args w), nw_h z B v l hv hB hl C sC bo 34 #[.pointer (some ⟨bk, 0, none⟩)] b (fun args w => ent21 34 (by decide) args w) (s.r.getD 2 0) (rget 2 (by decide)) fun y hy => of_1 y C bk 2 ((hy.block _ (heap_lt d)).trans d) (by decide) (s.r.getD 2 0) (by rw [hC]; rfl)⟩
  · obtain ⟨bk, ⟨bs, bo, bl, rfl, a, b, c⟩, d⟩ : RwReg 3 x z := h
    exact ⟨(fun args w => ent21 91 (by decide) args w), nw_h z B v l hv hB hl C sC bo 34 #[.pointer (some ⟨bk, 0, none⟩)] b (fun args w => ent21 34 (by decide) args w) (s.r.getD 3 0) (rget 3 (by decide)) fun y hy => of_1 y C bk 3 ((hy.block _ (heap_lt d)).trans d) (by decide) (s.r.getD 3 0) (by rw [hC]; rfl)⟩
  · obtain ⟨bk, ⟨bs, bo, bl, rfl, a, b, c⟩, d⟩ : RwReg 4 x z := h
    exact ⟨(fun args w => ent21 91 (by decide) args w), nw_h z B v l hv hB hl C sC bo 34 #[.pointer (some ⟨bk, 0, none⟩)] b (fun args w => ent21 34 (by decide) args w) (s.r.getD 4 0) (rget 4 (by decide)) fun y hy => of_1 y C bk 4 ((hy.block _ (heap_lt d)).trans d) (by decide) (s.r.getD 4 0) (by rw [hC]; rfl)⟩
  · obtain ⟨bk, ⟨bs, bo, bl, rfl, a, b, c⟩, d⟩ : RwReg 5 x z := h
    exact ⟨(fun args w => ent21 91 (by decide) args w), nw_h z B v l hv hB hl C sC bo 34 #[.pointer (some ⟨bk, 0, none⟩)] b (fun args w => ent21 34 (by decide) args w) (s.r.getD 5 0) (rget 5 (by decide)) fun y hy => of_1 y C bk 5 ((hy.block _ (heap_lt d)).trans d) (by decide) (s.r.getD 5 0) (by rw [hC]; rfl)⟩
  · obtain ⟨bk, ⟨bs, bo, bl, rfl, a, b, c⟩, d⟩ : RwReg 6 x z := h
    exact ⟨(fun args w => ent21 91 (by decide) args w), nw_h z B v l hv hB hl C sC bo 34 #[.pointer (some ⟨bk, 0, none⟩)] b (fun args w => ent21 34 (by decide) args w) (s.r.getD 6 0) (rget 6 (by decide)) fun y hy => of_1 y C bk 6 ((hy.block _ (heap_lt d)).trans d) (by decide) (s.r.getD 6 0) (by rw [hC]; rfl)⟩
  · obtain ⟨bk, ⟨bs, bo, bl, rfl, a, b, c⟩, d⟩ : RwReg 7 x z := h
    exact ⟨(fun args w => ent21 91 (by decide) args w), nw_h z B v l hv hB hl C sC bo 34 #[.pointer (some ⟨bk, 0, none⟩)] b (fun args w => ent21 34 (by decide) args w) (s.r.getD 7 0) (rget 7 (by decide)) fun y hy => of_1 y C bk 7 ((hy.block _ (heap_lt d)).trans d) (by decide) (s.r.getD 7 0) (by rw [hC]; rfl)⟩
  · obtain ⟨bk, ⟨bs, bo, bl, rfl, a, b, c⟩, d⟩ : RwReg 8 x z := h
    exact ⟨(fun args w => ent21 91 (by decide) args w), nw_h z B v l hv hB hl C sC bo 34 #[.pointer (some ⟨bk, 0, none⟩)] b (fun args w => ent21 34 (by decide) args w) (s.r.getD 8 0) (rget 8 (by decide)) fun y hy => of_1 y C bk 8 ((hy.block _ (heap_lt d)).trans d) (by decide) (s.r.getD 8 0) (by rw [hC]; rfl)⟩
  · obtain ⟨bk, ⟨bs, bo, bl, rfl, a, b, c⟩, d⟩ : RwReg 9 x z := h
    exact ⟨(fun args w => ent21 91 (by decide) args w), nw_h z B v l hv hB hl C sC bo 34 #[.pointer (some ⟨bk, 0, none⟩)] b (fun args w => ent21 34 (by decide) args w) (s.r.getD 9 0) (rget 9 (by decide)) fun y hy => of_1 y C bk 9 ((hy.block _ (heap_lt d)).trans d) (by decide) (s.r.getD 9 0) (by rw [hC]; rfl)⟩
  · obtain ⟨bk, ⟨bs, bo, bl, rfl, a, b, c⟩, d⟩ : RwReg 10 x z := h
    exact ⟨(fun args w => ent21 91 (by decide) args w), nw_h z B v l hv hB hl C sC bo 34 #[.pointer (some ⟨bk, 0, none⟩)] b (fun args w => ent21 34 (by decide) args w) (s.r.getD 10 0) (rget 10 (by decide)) fun y hy => of_1 y C bk 10 ((hy.block _ (heap_lt d)).trans d) (by decide) (s.r.getD 10 0) (by rw [hC]; rfl)⟩
  · obtain ⟨bk, ⟨bs, bo, bl, rfl, a, b, c⟩, d⟩ : RwReg 11 x z := h
    exact ⟨(fun args w => ent21 91 (by decide) args w), nw_h z B v l hv hB hl C sC bo 34 #[.pointer (some ⟨bk, 0, none⟩)] b (fun args w => ent21 34 (by decide) args w) (s.r.getD 11 0) (rget 11 (by decide)) fun y hy => of_1 y C bk 11 ((hy.block _ (heap_lt d)).trans d) (by decide) (s.r.getD 11 0) (by rw [hC]; rfl)⟩
  · obtain ⟨bk, ⟨bs, bo, bl, rfl, a, b, c⟩, d⟩ : RwReg 12 x z := h
    exact ⟨(fun args w => ent21 91 (by decide) args w), nw_h z B v l hv hB hl C sC bo 34 #[.pointer (some ⟨bk, 0, none⟩)] b (fun args w => ent21 34 (by decide) args w) (s.r.getD 12 0) (rget 12 (by decide)) fun y hy => of_1 y C bk 12 ((hy.block _ (heap_lt d)).trans d) (by decide) (s.r.getD 12 0) (by rw [hC]; rfl)⟩
  · obtain ⟨bk, ⟨bs, bo, bl, rfl, a, b, c⟩, d⟩ : RwReg 13 x z := h
    exact ⟨(fun args w => ent21 91 (by decide) args w), nw_h z B v l hv hB hl C sC bo 34 #[.pointer (some ⟨bk, 0, none⟩)] b (fun args w => ent21 34 (by decide) args w) (s.r.getD 13 0) (rget 13 (by decide)) fun y hy => of_1 y C bk 13 ((hy.block _ (heap_lt d)).trans d) (by decide) (s.r.getD 13 0) (by rw [hC]; rfl)⟩
  · obtain ⟨bk, ⟨bs, bo, bl, rfl, a, b, c⟩, d⟩ : RwReg 14 x z := h
    exact ⟨(fun args w => ent21 91 (by decide) args w), nw_h z B v l hv hB hl C sC bo 34 #[.pointer (some ⟨bk, 0, none⟩)] b (fun args w => ent21 34 (by decide) args w) (s.r.getD 14 0) (rget 14 (by decide)) fun y hy => of_1 y C bk 14 ((hy.block _ (heap_lt d)).trans d) (by decide) (s.r.getD 14 0) (by rw [hC]; rfl)⟩
  · obtain ⟨bk, ⟨bs, bo, bl, rfl, a, b, c⟩, d⟩ : RwReg 15 x z := h
    exact ⟨(fun args w => ent21 91 (by decide) args w), nw_h z B v l hv hB hl C sC bo 34 #[.pointer (some ⟨bk, 0, none⟩)] b (fun args w => ent21 34 (by decide) args w) (s.r.getD 15 0) (rget 15 (by decide)) fun y hy => of_1 y C bk 15 ((hy.block _ (heap_lt d)).trans d) (by decide) (s.r.getD 15 0) (by rw [hC]; rfl)⟩
  · obtain ⟨bs, bo, bl, rfl, a, b, c⟩ : RwG z x 1 96 77 37 98 78 38 #[] := h
    exact ⟨(fun args w => ent21 96 (by decide) args w), nw_y z B v l hv hB hl C sC bo 37 #[] b (fun args w => ent21 37 (by decide) args w) s.d.toNat (UInt8.toNat_lt _) fun y hy => of_3 y C s.d.toNat (by rw [hC]; rfl)⟩
  · obtain ⟨bs, bo, bl, rfl, a, b, c⟩ : RwG z x 1 100 41 40 101 80 41 #[] := h
    exact ⟨(fun args w => ent21 100 (by decide) args w), nw_b z B v l hv hB hl C sC bo 40 #[] b (fun args w => ent21 40 (by decide) args w) s.df fun y hy => of_5 y C s.df (by rw [hC]; rfl)⟩
  · obtain ⟨bs, bo, bl, rfl, a, b, c⟩ : RwG z x 1 96 77 42 98 78 43 #[] := h
    exact ⟨(fun args w => ent21 96 (by decide) args w), nw_y z B v l hv hB hl C sC bo 42 #[] b (fun args w => ent21 42 (by decide) args w) s.p.toNat (UInt8.toNat_lt _) fun y hy => of_7 y C s.p.toNat (by rw [hC]; rfl)⟩
  · obtain ⟨bs, bo, bl, rfl, a, b, c⟩ : RwG z x 1 96 77 44 98 78 45 #[] := h
    exact ⟨(fun args w => ent21 96 (by decide) args w), nw_y z B v l hv hB hl C sC bo 44 #[] b (fun args w => ent21 44 (by decide) args w) s.x.toNat (UInt8.toNat_lt _) fun y hy => of_9 y C s.x.toNat (by rw [hC]; rfl)⟩
  · obtain ⟨bs, bo, bl, rfl, a, b, c⟩ : RwG z x 1 96 77 46 98 78 47 #[] := h
    exact ⟨(fun args w => ent21 96 (by decide) args w), nw_y z B v l hv hB hl C sC bo 46 #[] b (fun args w => ent21 46 (by decide) args w) s.t.toNat (UInt8.toNat_lt _) fun y hy => of_11 y C s.t.toNat (by rw [hC]; rfl)⟩
  · obtain ⟨bs, bo, bl, rfl, a, b, c⟩ : RwG z x 1 100 41 48 101 80 49 #[] := h
    exact ⟨(fun args w => ent21 100 (by decide) args w), nw_b z B v l hv hB hl C sC bo 48 #[] b (fun args w => ent21 48 (by decide) args w) s.ie fun y hy => of_13 y C s.ie (by rw [hC]; rfl)⟩
  · obtain ⟨bs, bo, bl, rfl, a, b, c⟩ : RwG z x 1 100 41 50 101 80 51 #[] := h
    exact ⟨(fun args w => ent21 100 (by decide) args w), nw_b z B v l hv hB hl C sC bo 50 #[] b (fun args w => ent21 50 (by decide) args w) s.q fun y hy => of_15 y C s.q (by rw [hC]; rfl)⟩
  · obtain ⟨bs, bo, bl, rfl, a, b, c⟩ : RwG z x 1 96 77 52 98 78 53 #[] := h
    exact ⟨(fun args w => ent21 96 (by decide) args w), nw_y z B v l hv hB hl C sC bo 52 #[] b (fun args w => ent21 52 (by decide) args w) s.op.toNat (UInt8.toNat_lt _) fun y hy => of_17 y C s.op.toNat (by rw [hC]; rfl)⟩
  · obtain ⟨bs, bo, bl, rfl, a, b, c⟩ : RwG z x 1 96 77 54 98 78 55 #[] := h
    exact ⟨(fun args w => ent21 96 (by decide) args w), nw_y z B v l hv hB hl C sC bo 54 #[] b (fun args w => ent21 54 (by decide) args w) s.b.toNat (UInt8.toNat_lt _) fun y hy => of_19 y C s.b.toNat (by rw [hC]; rfl)⟩
  · obtain ⟨bs, bo, bl, rfl, a, b, c⟩ : RwG z x 1 103 82 57 105 83 58 #[] := h
    exact ⟨(fun args w => ent21 103 (by decide) args w), nw_p z B v l hv hB hl C sC bo 57 #[] b (fun args w => ent21 57 (by decide) args w) s.ph.toNat (UInt8.toNat_lt _) fun y hy => of_21 y C s.ph.toNat (by rw [hC]; rfl)⟩
  · obtain ⟨bs, bo, bl, rfl, a, b, c⟩ : RwG z x 2 91 73 59 93 75 60 #[] := h
    exact ⟨(fun args w => ent21 91 (by decide) args w), nw_h z B v l hv hB hl C sC bo 59 #[] b (fun args w => ent21 59 (by decide) args w) s.ln.toNat (by omega) fun y hy => of_23 y C s.ln.toNat (by omega) (by rw [hC, ← eLN]; rfl)⟩
  · obtain ⟨bs, bo, bl, rfl, a, b, c⟩ : RwG z x 1 96 77 61 98 78 62 #[] := h
    exact ⟨(fun args w => ent21 96 (by decide) args w), nw_y z B v l hv hB hl C sC bo 61 #[] b (fun args w => ent21 61 (by decide) args w) s.cy.toNat (by omega) fun y hy => of_25 y C s.cy.toNat (by omega) (by rw [hC, ← eCY]; rfl)⟩
  · obtain ⟨bs, bo, bl, rfl, a, b, c⟩ : RwG z x 1 100 41 63 101 80 64 #[] := h
    exact ⟨(fun args w => ent21 100 (by decide) args w), nw_b z B v l hv hB hl C sC bo 63 #[] b (fun args w => ent21 63 (by decide) args w) s.on fun y hy => of_27 y C s.on (by rw [hC]; rfl)⟩
  · obtain ⟨bs, bo, bl, rfl, a, b, c⟩ : RwG z x 1 96 77 65 98 78 66 #[] := h
    exact ⟨(fun args w => ent21 96 (by decide) args w), nw_y z B v l hv hB hl C sC bo 65 #[] b (fun args w => ent21 65 (by decide) args w) s.gt.toNat (by omega) fun y hy => of_29 y C s.gt.toNat (by omega) (by rw [hC, ← eGT]; rfl)⟩
  · obtain ⟨bs, bo, bl, rfl, a, b, c⟩ : RwG z x 1 96 77 67 98 78 68 #[] := h
    exact ⟨(fun args w => ent21 96 (by decide) args w), nw_y z B v l hv hB hl C sC bo 67 #[] b (fun args w => ent21 67 (by decide) args w) s.pd.toNat (UInt8.toNat_lt _) fun y hy => of_31 y C s.pd.toNat (by rw [hC]; rfl)⟩
  · obtain ⟨bs, bo, bl, rfl, a, b, c⟩ : RwG z x 1 100 41 69 101 80 70 #[] := h
    exact ⟨(fun args w => ent21 100 (by decide) args w), nw_b z B v l hv hB hl C sC bo 69 #[] b (fun args w => ent21 69 (by decide) args w) s.lt fun y hy => of_33 y C s.lt (by rw [hC]; rfl)⟩
  · obtain ⟨bs, bo, bl, rfl, a, b, c⟩ : RwG z x 8 107 85 72 108 86 73 #[] := h
    exact ⟨(fun args w => ent21 107 (by decide) args w), nw_q z B v l hv hB hl C sC bo 72 #[] b (fun args w => ent21 72 (by decide) args w) s.cc hf.ok.cc fun y hy => of_35 y C s.cc (by rw [hC]; rfl)⟩
  · obtain ⟨bs, bo, bl, rfl, a, b, c⟩ : RwG z x 2 91 73 74 93 75 75 #[] := h
    exact ⟨(fun args w => ent21 91 (by decide) args w), nw_h z B v l hv hB hl C sC bo 74 #[] b (fun args w => ent21 74 (by decide) args w) s.ram.length (by omega) fun y hy => of_37 y C (some ⟨gR, oR, none⟩) s.ram.length cR (by omega) (by rw [hC]; rfl)⟩
  · obtain ⟨bo, bl, rfl, b, c⟩ : RwL z x 77 #[] 78 79 := h
    exact ⟨(fun args w => ent21 109 (by decide) args w), nw_l z B v l hv hB hl C sC bo 78 #[] b (fun args w => ent21 78 (by decide) args w) gR oR s.ram.length cR s.ram lR rfl ⟨by omega, by omega⟩ fun y hy => of_40 y C (some ⟨gR, oR, none⟩) s.ram.length cR (by rw [hC]; rfl)⟩
  · obtain ⟨bs, ⟨bo, bl, rfl, b, c⟩, a⟩ : RwM z x := h
    exact ⟨(fun args w => ent21 109 (by decide) args w), nw_l z B v l hv hB hl C sC bo 81 #[] b (fun args w => ent21 81 (by decide) args w) gO oO s.rom.length cO s.rom lO rfl ⟨by omega, by omega⟩ fun y hy => of_42 y C (some ⟨gO, oO, none⟩) s.rom.length cO (by rw [hC]; rfl)⟩
end Go.Proofs.YtehnhjdjjalifaaGreatDoor
