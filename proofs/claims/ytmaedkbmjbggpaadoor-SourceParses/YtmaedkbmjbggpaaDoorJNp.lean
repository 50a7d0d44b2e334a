/- A line that has words: the program's readLine. -/
import Derived.Test.YtmaedkbmjbggpaaDoorJNo
namespace Go.Proofs.YtmaedkbmjbggpaaDoor
open Go Go.RowKit
set_option linter.unusedVariables false
set_option maxHeartbeats 3000000
set_option maxRecDepth 20000

def chk (q : Pu) : Option Pu := if mayP q = true then some q else none
theorem chk_data (r : List ByteArray) : (datO r).bind chk = dataP r := by
  unfold datO dataP
  rcases dataO r with _ | l
  · rfl
  · show chk ⟨3, E0, 0, E0, 0, l⟩ = if 1 ≤ l.length ∧ l.length ≤ 256 then some ⟨3, E0, 0, E0, 0, l⟩ else none
    unfold chk
    by_cases h : 1 ≤ l.length ∧ l.length ≤ 256
    · rw [if_pos h, if_pos (may3P h)]
    · rw [if_neg h, if_neg]
      intro hm
      rcases may_cases hm with c | c | c | c | c
      · have h9 := c.1; simp at h9
      · have h9 := c.1; simp at h9
      · exact h ⟨c.2.2.2.2.2.1, c.2.2.2.2.2.2⟩
      · have h9 := c.1; simp at h9
      · have h9 := c.1; simp at h9
theorem chk_at (r : List ByteArray) : (atP r).bind chk = atP r := by
  rcases r with _ | ⟨x, _ | ⟨x1, r⟩⟩
  · rfl
  · rw [atP_1]
    by_cases h : x.size = 4 ∧ numE x = 0
    · rw [if_pos h]
      show chk _ = _
      unfold chk
      rw [if_pos (may4P h)]
    · rw [if_neg h]; rfl
  · rfl
theorem chk_addr (r : List ByteArray) : (addrO r).bind chk = addrP r := by
  rcases r with _ | ⟨x, _ | ⟨x1, r⟩⟩
  · rfl
  · rw [addrP_1]
    show chk ⟨5, E0, 0, x, 0, []⟩ = _
    unfold chk
    by_cases h : isNm x = true
    · rw [if_pos h, if_pos (may5P h)]
    · rw [if_neg h, if_neg]
      intro hm
      rcases may_cases hm with c | c | c | c | c
      · have h9 := c.1; simp at h9
      · have h9 := c.1; simp at h9
      · have h9 := c.1; simp at h9
      · have h9 := c.1; simp at h9
      · exact h c.2.1
  · rfl
theorem chk_lab (x0 : ByteArray) (r : List ByteArray) : (labO (x0 :: r)).bind chk = labP x0 r := by
  unfold labP
  rcases r with _ | ⟨x1, r⟩
  · rw [labO_1]
    unfold labOk
    by_cases h : (strL x0).getLast? = some 58
    · rw [if_pos h, decide_eq_true h, Bool.true_and]
      show chk ⟨1, x0.extract 0 (x0.size - 1), 0, E0, 0, []⟩ = _
      unfold chk
      by_cases h2 : isNm (x0.extract 0 (x0.size - 1)) = true
      · rw [if_pos (may1P h2), if_pos ⟨rfl, h2⟩]
      · rw [if_neg, if_neg (fun h' => h2 h'.2)]
        intro hm
        rcases may_cases hm with c | c | c | c | c
        · exact h2 c.2.1
        · have h9 := c.1; simp at h9
        · have h9 := c.1; simp at h9
        · have h9 := c.1; simp at h9
        · have h9 := c.1; simp at h9
    · rw [if_neg h, decide_eq_false h, Bool.false_and, if_neg (fun h' => by cases h'.2)]
      rfl
  · rw [if_neg (fun h => by cases h.1)]
    rfl
theorem chk_plain {x0 s : ByteArray} (hN : parseE s = 0 → parseN s = x0 ∧ ∃ n, opOf x0 = some n ∧ may n (parseA s)) : (plainO s).bind chk = if parseE s = 0 then some ⟨2, x0, parseA s, E0, 0, []⟩ else none := by
  unfold plainO
  by_cases h : parseE s = 0
  · rw [if_pos h, if_pos h]
    obtain ⟨h1, n, h2, h3⟩ := hN h
    rw [h1]
    show chk ⟨2, x0, parseA s, E0, 0, []⟩ = _
    unfold chk
    rw [if_pos (may_code0 h2 h3)]
  · rw [if_neg h, if_neg h]
    rfl
theorem chk_code {x0 : ByteArray} (hx : isW x0) (r : List ByteArray) : (codeO x0 r).bind chk = ordO x0 r := by
  rcases r with _ | ⟨x1, _ | ⟨x2, _ | ⟨x3, r⟩⟩⟩
  · rw [codeO_0, ordO_0]
    exact chk_plain fun h => by
      obtain ⟨n, h1, h2, h3⟩ := parse_word1 (no_blank hx) h
      exact ⟨h3, n, h1, h2⟩
  · rw [codeO_1, ordO_1]
    exact chk_plain fun h => by
      obtain ⟨n, h1, h2, h3⟩ := parse_word2 (no_blank hx) h
      exact ⟨h3, n, h1, h2⟩
  · rw [codeO_2, ordO_2]
    by_cases hp : partO x1 = 0
    · rw [if_pos hp, if_neg (fun h => h.1 hp)]
      rfl
    · rw [if_neg hp]
      show chk _ = _
      unfold chk
      by_cases hm : mayP ⟨2, x0, 0, x2, partO x1, []⟩ = true
      · rw [if_pos hm, if_pos ⟨hp, hm⟩]
      · rw [if_neg hm, if_neg (fun h => hm h.2)]
  · rfl
/-- The words behind the first one. -/
theorem slW (A n : Nat) (h1 : 1 ≤ n) : ∃ sp1, (∀ v, (Instr.sliceAt 59 (.slice (some ⟨A, 0, none⟩) n n) (some (.int .i64 1)) none none).run Tryd.prog v = .ok (.slice sp1 (n - 1) (n - 1)) v) ∧ (1 < n → sp1 = some ⟨A, 1, none⟩) := by
  refine ⟨if n = 1 then some ⟨A, 0, none⟩ else (some (⟨A, 0, none⟩ : Addr)).map (·.add (1 * 1)), fun v => ?_, fun h => ?_⟩
  · have hu : Tryd.prog.underlying 59 = some (.slice (Tryd.prog.elem 59)) := by kernel_rfl
    rw [run_sliceAt_slice v _ _ _ _ _ hu, run_slice_l v _ _ _ _ hu .i64 1 (by omega) (by omega)]
    have hz : ∀ v, (sizeOf (Tryd.prog.elem 59)).run Tryd.prog v = .ok 1 v := fun v => by kernel_rfl
    rw [hz]
    simp only [Result.andThen_ok, sliced]
    rfl
  · rw [if_neg (by omega)]
    simp [Addr.add_lit]
theorem at_slw {ops : Array Oper} {rest : List Oper} {o : Oper} {a : Act} {w : World} {Q : Exit → Act → World → Prop} (t : TypeId) (x lo : Operand) (X L v : Value) (hg : Region.wanted o (yielded ops a.tmps) = true) (ho : o.op = .slice t x (some lo) none none) (hx : a.eval x = X) (hl : a.eval lo = L)
    (h : ∀ w, (Instr.sliceAt t X (some L) none none).run Tryd.prog w = .ok v w) (k : wpList Tryd.prog ops Q rest (a.put o.dst v) w) : wpList Tryd.prog ops Q (o :: rest) a w := by
  refine at_op v hg ?_ k
  unfold execOp
  simp only [ho, hx, hl, Option.map_some, Option.map_none, Sem.run_bind, h, Result.andThen_ok, Sem.run_pure]
/-- Bytes above two boxes: stores into these turn none of them. -/
theorem own_two {w y z : World} {o1 o2 : Obj} {v : Value} {n : Nat} {xs : List Value} (h : y.ownsRow ((w.alloc o1).alloc o2).heap.size 5 1 v n xs) (hk : ∀ g, g ≠ w.heap.size → g ≠ w.heap.size + 1 → z.heap[g]? = y.heap[g]?) : z.ownsRow w.heap.size 5 1 v n xs := by
  refine ⟨h.1, ?_⟩
  rcases h.2 with h0 | ⟨g, cap, cur, hv, hB, hg, hr⟩
  · exact .inl h0
  · have h1 : ((w.alloc o1).alloc o2).heap.size = w.heap.size + 2 := by simp
    exact .inr ⟨g, cap, cur, hv, by omega, (hk g (by omega) (by omega)).trans hg, hr⟩
theorem own_keep {y z : World} {B : Nat} {v : Value} {n : Nat} {xs : List Value} (h : y.ownsRow B 5 1 v n xs) (hk : ∀ g, B ≤ g ∧ g < y.heap.size → z.heap[g]? = y.heap[g]?) : z.ownsRow B 5 1 v n xs := by
  refine ⟨h.1, ?_⟩
  rcases h.2 with h0 | ⟨g, cap, cur, hv, hB, hg, hr⟩
  · exact .inl h0
  · exact .inr ⟨g, cap, cur, hv, hB, (hk g ⟨hB, heap_lt hg⟩).trans hg, hr⟩
theorem rl_lab_no (w : World) (T : Hid (Tw w)) (g : Nat) (line : ByteArray) (hl : 0 < line.size) (hl2 : line.size ≤ 1000000) (A n : Nat) (hn : 1 ≤ n) (hn2 : n ≤ 1000001) (o : Option Pu) (hb : blankP (line[0]'hl).toNat = false) (hcall : Hid (∀ v, Below w.heap.size w v → Calls Tryd.prog 56 #[.slice (some ⟨A, 0, none⟩) n n] v (RdE v o))) (ho : o = none) : Calls Tryd.prog 32 #[.map (some g), .string line, .slice (some ⟨A, 0, none⟩) n n] w (RdE w (none)) := by
  have K2 : Hid (Fm w [(w.heap.size, i6 z0, 39), (w.heap.size + 1, i6 z0, 39)] ((w.alloc (.cells #[.int .u8 0, .string ⟨#[]⟩, .int .i64 0, .string ⟨#[]⟩, .int .u8 0, .slice none 0 0] 39)).alloc (.cells #[.int .u8 0, .string ⟨#[]⟩, .int .i64 0, .string ⟨#[]⟩, .int .u8 0, .slice none 0 0] 39))) := Fm.two w _ _ _ _
  subst ho
  have hB := fun v => blank_any (line[0]'hl).toNat v (by have := (line[0]'hl).toNat_lt; omega)
  rw [hb] at hB
  have li : (0 : Int) < line.size := by omega
  have b0 : 0 ≤ ((line[0]'hl).toNat : Int) := by omega
  have b1 : ((line[0]'hl).toNat : Int) < 256 := by have := (line[0]'hl).toNat_lt; omega
  have n0 : (1 : Int) ≤ n := by omega
  have n1 : (n : Int) ≤ 1000001 := by omega
  replace hl2 : Hid _ := hl2
  clear hb hn hn2
  go_enter Tryd.func32, Tryd.ntmps32
  go_wp2_with (first
    | (go_at_call 56; refine (hcall.out _ K2.out.low).mono ?_; rintro e y2 ⟨rfl, H2⟩; have K3 : Hid (Below w.heap.size w y2) := (K2.out.below H2).low; clear H2)
    | (go_at_call 54; refine (hB _).mono ?_; rintro e yb ⟨rfl, rfl⟩))
  exact ⟨rfl, rfl, K3.out⟩
theorem rl_lab_bad (w : World) (T : Hid (Tw w)) (g : Nat) (line : ByteArray) (hl : 0 < line.size) (hl2 : line.size ≤ 1000000) (A n : Nat) (hn : 1 ≤ n) (hn2 : n ≤ 1000001) (o : Option Pu) (hb : blankP (line[0]'hl).toNat = false) (hcall : Hid (∀ v, Below w.heap.size w v → Calls Tryd.prog 56 #[.slice (some ⟨A, 0, none⟩) n n] v (RdE v o))) (q : Pu) (ho : o = some q) (hm : mayP q = false) : Calls Tryd.prog 32 #[.map (some g), .string line, .slice (some ⟨A, 0, none⟩) n n] w (RdE w (none)) := by
  have K2 : Hid (Fm w [(w.heap.size, i6 z0, 39), (w.heap.size + 1, i6 z0, 39)] ((w.alloc (.cells #[.int .u8 0, .string ⟨#[]⟩, .int .i64 0, .string ⟨#[]⟩, .int .u8 0, .slice none 0 0] 39)).alloc (.cells #[.int .u8 0, .string ⟨#[]⟩, .int .i64 0, .string ⟨#[]⟩, .int .u8 0, .slice none 0 0] 39))) := Fm.two w _ _ _ _
  subst ho
  have hB := fun v => blank_any (line[0]'hl).toNat v (by have := (line[0]'hl).toNat_lt; omega)
  rw [hb] at hB
  have li : (0 : Int) < line.size := by omega
  have b0 : 0 ≤ ((line[0]'hl).toNat : Int) := by omega
  have b1 : ((line[0]'hl).toNat : Int) < 256 := by have := (line[0]'hl).toNat_lt; omega
  have hMm := fun v T sp cap => maybe_any v (q.ri sp cap) T
  simp only [mayI_ri, hm] at hMm
  have n0 : (1 : Int) ≤ n := by omega
  have n1 : (n : Int) ≤ 1000001 := by omega
  replace hl2 : Hid _ := hl2
  clear hb hn hn2 hm
  go_enter Tryd.func32, Tryd.ntmps32
  go_wp2_with (first
    | (go_at_call 55; refine (need_no _).mono ?_; rintro e yn ⟨rfl, rfl⟩)
    | (go_at_call 20; refine (hMm _ (T.out.t.below K5.out.1.low) sp2 cap2).mono ?_; rintro e y6 ⟨rfl, H6⟩; have K6 : Hid (Fm w [(w.heap.size, i6 z0, 39), (w.heap.size + 1, i6 (q.ri sp2 cap2), 39)] y6 ∧ ∀ g, g ≠ w.heap.size → g ≠ w.heap.size + 1 → g < y2.heap.size → y6.heap[g]? = y2.heap[g]?) := ⟨K5.out.1.below H6, fun g h1 h2 h3 => (H6.block g (by have := K5.out.2.2; omega)).trans (K5.out.2.1 g h2)⟩; clear H6)
    | ((with_reducible refine at_load rt6 (w.heap.size + 1) (i6 (q.ri sp2 cap2)) ?_ ?_ (.tmp 7) ?_ ?_ ?_ ?_); (first | exact K6.out.1.bx 1 _ _ _ rfl | exact K5.out.1.bx 1 _ _ _ rfl); rfl; rfl; rfl; rfl)
    | ((with_reducible refine at_st rt6 (w.heap.size + 1) (i6 z0) (i6 (q.ri sp2 cap2)) ?_ ?_ ?_ ?_ (.tmp 7) (.tmp 29) ?_ ?_ ?_ ?_ ?_); exact K3.out.bx 1 _ _ _ rfl; rfl; rfl; exact one6 _; rfl; rfl; rfl; rfl; intro y5 hw5; have K5 : Hid (Fm w [(w.heap.size, i6 z0, 39), (w.heap.size + 1, i6 (q.ri sp2 cap2), 39)] y5 ∧ (∀ g, g ≠ w.heap.size + 1 → y5.heap[g]? = y2.heap[g]?) ∧ y2.heap.size ≤ y5.heap.size) := ⟨K3.out.put 1 _ _ _ _ rfl hw5.out, hw5.out.2.2, (hw5.out.2.1 0 (Nat.zero_le _)).size⟩; clear hw5)
    | (go_at_call 56; refine (hcall.out _ K2.out.low).mono ?_; rintro e y2 ⟨sp2, cap2, rfl, H1, H2⟩; have K3 : Hid (Fm w [(w.heap.size, i6 z0, 39), (w.heap.size + 1, i6 z0, 39)] y2) := K2.out.below H2; replace H1 : Hid _ := H1; clear H2)
    | (go_at_call 54; refine (hB _).mono ?_; rintro e yb ⟨rfl, rfl⟩))
  exact ⟨rfl, rfl, K6.out.1.low⟩
theorem rl_lab_ok (w : World) (T : Hid (Tw w)) (g : Nat) (line : ByteArray) (hl : 0 < line.size) (hl2 : line.size ≤ 1000000) (A n : Nat) (hn : 1 ≤ n) (hn2 : n ≤ 1000001) (o : Option Pu) (hb : blankP (line[0]'hl).toNat = false) (hcall : Hid (∀ v, Below w.heap.size w v → Calls Tryd.prog 56 #[.slice (some ⟨A, 0, none⟩) n n] v (RdE v o))) (q : Pu) (ho : o = some q) (hm : mayP q = true) : Calls Tryd.prog 32 #[.map (some g), .string line, .slice (some ⟨A, 0, none⟩) n n] w (RdE w (some q)) := by
  have K2 : Hid (Fm w [(w.heap.size, i6 z0, 39), (w.heap.size + 1, i6 z0, 39)] ((w.alloc (.cells #[.int .u8 0, .string ⟨#[]⟩, .int .i64 0, .string ⟨#[]⟩, .int .u8 0, .slice none 0 0] 39)).alloc (.cells #[.int .u8 0, .string ⟨#[]⟩, .int .i64 0, .string ⟨#[]⟩, .int .u8 0, .slice none 0 0] 39))) := Fm.two w _ _ _ _
  subst ho
  have hB := fun v => blank_any (line[0]'hl).toNat v (by have := (line[0]'hl).toNat_lt; omega)
  rw [hb] at hB
  have li : (0 : Int) < line.size := by omega
  have b0 : 0 ≤ ((line[0]'hl).toNat : Int) := by omega
  have b1 : ((line[0]'hl).toNat : Int) < 256 := by have := (line[0]'hl).toNat_lt; omega
  have hMm := fun v T sp cap => maybe_any v (q.ri sp cap) T
  simp only [mayI_ri, hm] at hMm
  have n0 : (1 : Int) ≤ n := by omega
  have n1 : (n : Int) ≤ 1000001 := by omega
  replace hl2 : Hid _ := hl2
  clear hb hn hn2 hm
  go_enter Tryd.func32, Tryd.ntmps32
  go_wp2_with (first
    | ((with_reducible refine at_st rt6 w.heap.size (i6 z0) (i6 (q.ri sp2 cap2)) ?_ ?_ ?_ ?_ (.tmp 6) (.tmp 33) ?_ ?_ ?_ ?_ ?_); exact K6.out.1.bx 0 _ _ _ rfl; rfl; rfl; exact one6 _; rfl; rfl; rfl; rfl; intro y7 hw7; have K7 : Hid (Fm w [(w.heap.size, i6 (q.ri sp2 cap2), 39), (w.heap.size + 1, i6 (q.ri sp2 cap2), 39)] y7 ∧ ∀ g, g ≠ w.heap.size → g ≠ w.heap.size + 1 → g < y2.heap.size → y7.heap[g]? = y2.heap[g]?) := ⟨K6.out.1.put 0 _ _ _ _ rfl hw7.out, fun g h1 h2 h3 => (hw7.out.2.2 g h1).trans (K6.out.2 g h1 h2 h3)⟩; clear hw7)
    | (go_at_call 55; refine (need_ok _).mono ?_; rintro e yn ⟨rfl, rfl⟩)
    | (go_at_call 20; refine (hMm _ (T.out.t.below K5.out.1.low) sp2 cap2).mono ?_; rintro e y6 ⟨rfl, H6⟩; have K6 : Hid (Fm w [(w.heap.size, i6 z0, 39), (w.heap.size + 1, i6 (q.ri sp2 cap2), 39)] y6 ∧ ∀ g, g ≠ w.heap.size → g ≠ w.heap.size + 1 → g < y2.heap.size → y6.heap[g]? = y2.heap[g]?) := ⟨K5.out.1.below H6, fun g h1 h2 h3 => (H6.block g (by have := K5.out.2.2; omega)).trans (K5.out.2.1 g h2)⟩; clear H6)
    | ((with_reducible refine at_load rt6 (w.heap.size + 1) (i6 (q.ri sp2 cap2)) ?_ ?_ (.tmp 7) ?_ ?_ ?_ ?_); (first | exact K6.out.1.bx 1 _ _ _ rfl | exact K5.out.1.bx 1 _ _ _ rfl); rfl; rfl; rfl; rfl)
    | ((with_reducible refine at_st rt6 (w.heap.size + 1) (i6 z0) (i6 (q.ri sp2 cap2)) ?_ ?_ ?_ ?_ (.tmp 7) (.tmp 29) ?_ ?_ ?_ ?_ ?_); exact K3.out.bx 1 _ _ _ rfl; rfl; rfl; exact one6 _; rfl; rfl; rfl; rfl; intro y5 hw5; have K5 : Hid (Fm w [(w.heap.size, i6 z0, 39), (w.heap.size + 1, i6 (q.ri sp2 cap2), 39)] y5 ∧ (∀ g, g ≠ w.heap.size + 1 → y5.heap[g]? = y2.heap[g]?) ∧ y2.heap.size ≤ y5.heap.size) := ⟨K3.out.put 1 _ _ _ _ rfl hw5.out, hw5.out.2.2, (hw5.out.2.1 0 (Nat.zero_le _)).size⟩; clear hw5)
    | (go_at_call 56; refine (hcall.out _ K2.out.low).mono ?_; rintro e y2 ⟨sp2, cap2, rfl, H1, H2⟩; have K3 : Hid (Fm w [(w.heap.size, i6 z0, 39), (w.heap.size + 1, i6 z0, 39)] y2) := K2.out.below H2; replace H1 : Hid _ := H1; clear H2)
    | (go_at_call 54; refine (hB _).mono ?_; rintro e yb ⟨rfl, rfl⟩))
  refine ret_row rt6 rfl rfl (K7.out.1.bx 0 _ _ _ rfl) rfl rfl ⟨sp2, cap2, rfl, ?_, K7.out.1.low⟩
  refine own_two (o1 := .cells #[.int .u8 0, .string ⟨#[]⟩, .int .i64 0, .string ⟨#[]⟩, .int .u8 0, .slice none 0 0] 39) (o2 := .cells #[.int .u8 0, .string ⟨#[]⟩, .int .i64 0, .string ⟨#[]⟩, .int .u8 0, .slice none 0 0] 39) (y := y7) (own_keep H1.out fun g hg => ?_) (fun g _ _ => rfl)
  have e2 : ((w.alloc (.cells #[.int .u8 0, .string ⟨#[]⟩, .int .i64 0, .string ⟨#[]⟩, .int .u8 0, .slice none 0 0] 39)).alloc (.cells #[.int .u8 0, .string ⟨#[]⟩, .int .i64 0, .string ⟨#[]⟩, .int .u8 0, .slice none 0 0] 39)).heap.size = w.heap.size + 2 := by simp
  exact K7.out.2 g (by omega) (by omega) hg.2
theorem rl_fn_no (w : World) (T : Hid (Tw w)) (g : Nat) (line : ByteArray) (hl : 0 < line.size) (hl2 : line.size ≤ 1000000) (A n : Nat) (hn : 1 ≤ n) (hn2 : n ≤ 1000001) (x0 : ByteArray) (sp1 : Option Addr) (hx0 : Hid (w.cell? ⟨A, 0, none⟩ = some (.string x0))) (hg : g < w.heap.size) (k : Nat) (o : Option Pu) (hb : blankP (line[0]'hl).toNat = true) (hlk : ∀ z : World, z.heap[g]? = w.heap[g]? → (Instr.lookup 55 (.map (some g)) (.string x0) true).run Tryd.prog z = .ok (.tuple #[.func (.func k) #[] #[], .bool true]) z) (hsl : ∀ v, (Instr.sliceAt 59 (.slice (some ⟨A, 0, none⟩) n n) (some (.int .i64 1)) none none).run Tryd.prog v = .ok (.slice sp1 (n - 1) (n - 1)) v) (hcf : ∀ (z : World), (callFunc k #[.slice sp1 (n - 1) (n - 1)]).run Tryd.prog z = .ok (.enter k #[.slice sp1 (n - 1) (n - 1)]) z) (hcall : Hid (∀ v, Below w.heap.size w v → Calls Tryd.prog k #[.slice sp1 (n - 1) (n - 1)] v (RdE v o))) (ho : o = none) : Calls Tryd.prog 32 #[.map (some g), .string line, .slice (some ⟨A, 0, none⟩) n n] w (RdE w (none)) := by
  have K2 : Hid (Fm w [(w.heap.size, i6 z0, 39), (w.heap.size + 1, i6 z0, 39)] ((w.alloc (.cells #[.int .u8 0, .string ⟨#[]⟩, .int .i64 0, .string ⟨#[]⟩, .int .u8 0, .slice none 0 0] 39)).alloc (.cells #[.int .u8 0, .string ⟨#[]⟩, .int .i64 0, .string ⟨#[]⟩, .int .u8 0, .slice none 0 0] 39))) := Fm.two w _ _ _ _
  subst ho
  have hB := fun v => blank_any (line[0]'hl).toNat v (by have := (line[0]'hl).toNat_lt; omega)
  rw [hb] at hB
  have li : (0 : Int) < line.size := by omega
  have b0 : 0 ≤ ((line[0]'hl).toNat : Int) := by omega
  have b1 : ((line[0]'hl).toNat : Int) < 256 := by have := (line[0]'hl).toNat_lt; omega
  have hlk2 := hlk ((w.alloc (.cells #[.int .u8 0, .string ⟨#[]⟩, .int .i64 0, .string ⟨#[]⟩, .int .u8 0, .slice none 0 0] 39)).alloc (.cells #[.int .u8 0, .string ⟨#[]⟩, .int .i64 0, .string ⟨#[]⟩, .int .u8 0, .slice none 0 0] 39)) (K2.out.low.block g hg)
  have c0 := hx0.out
  have lg := World.block_lt_of_cell? w _ c0
  have i0 : ∀ v, (Instr.indexAt 59 (.slice (some ⟨A, 0, none⟩) n n) (.int .i64 0)).run Tryd.prog v = .ok (.pointer (some ⟨A, 0, none⟩)) v := fun v => idxT A n n 0 (by omega) v
  replace hlk : Hid _ := hlk
  have n0 : (1 : Int) ≤ n := by omega
  have n1 : (n : Int) ≤ 1000001 := by omega
  replace hl2 : Hid _ := hl2
  clear hb hn hn2
  go_enter Tryd.func32, Tryd.ntmps32
  go_wp2_with (first
    | ((with_reducible show Calls Tryd.prog k _ _ _); refine (hcall.out _ K2.out.low).mono ?_; rintro e y2 ⟨rfl, H2⟩; have K3 : Hid (Below w.heap.size w y2) := (K2.out.below H2).low; clear H2)
    | ((with_reducible refine at_slw 59 (.tmp 25) (.const (.int .i64 1)) (.slice (some ⟨A, 0, none⟩) n n) (.int .i64 1) (.slice sp1 (n - 1) (n - 1)) ?_ ?_ ?_ ?_ hsl ?_); kernel_rfl; rfl; rfl; rfl)
    | (go_at_call 55; refine (need_ok _).mono ?_; rintro e yn ⟨rfl, rfl⟩)
    | (go_at_call 54; refine (hB _).mono ?_; rintro e yb ⟨rfl, rfl⟩))
  exact ⟨rfl, rfl, K3.out⟩
theorem rl_fn_bad (w : World) (T : Hid (Tw w)) (g : Nat) (line : ByteArray) (hl : 0 < line.size) (hl2 : line.size ≤ 1000000) (A n : Nat) (hn : 1 ≤ n) (hn2 : n ≤ 1000001) (x0 : ByteArray) (sp1 : Option Addr) (hx0 : Hid (w.cell? ⟨A, 0, none⟩ = some (.string x0))) (hg : g < w.heap.size) (k : Nat) (o : Option Pu) (hb : blankP (line[0]'hl).toNat = true) (hlk : ∀ z : World, z.heap[g]? = w.heap[g]? → (Instr.lookup 55 (.map (some g)) (.string x0) true).run Tryd.prog z = .ok (.tuple #[.func (.func k) #[] #[], .bool true]) z) (hsl : ∀ v, (Instr.sliceAt 59 (.slice (some ⟨A, 0, none⟩) n n) (some (.int .i64 1)) none none).run Tryd.prog v = .ok (.slice sp1 (n - 1) (n - 1)) v) (hcf : ∀ (z : World), (callFunc k #[.slice sp1 (n - 1) (n - 1)]).run Tryd.prog z = .ok (.enter k #[.slice sp1 (n - 1) (n - 1)]) z) (hcall : Hid (∀ v, Below w.heap.size w v → Calls Tryd.prog k #[.slice sp1 (n - 1) (n - 1)] v (RdE v o))) (q : Pu) (ho : o = some q) (hm : mayP q = false) : Calls Tryd.prog 32 #[.map (some g), .string line, .slice (some ⟨A, 0, none⟩) n n] w (RdE w (none)) := by
  have K2 : Hid (Fm w [(w.heap.size, i6 z0, 39), (w.heap.size + 1, i6 z0, 39)] ((w.alloc (.cells #[.int .u8 0, .string ⟨#[]⟩, .int .i64 0, .string ⟨#[]⟩, .int .u8 0, .slice none 0 0] 39)).alloc (.cells #[.int .u8 0, .string ⟨#[]⟩, .int .i64 0, .string ⟨#[]⟩, .int .u8 0, .slice none 0 0] 39))) := Fm.two w _ _ _ _
  subst ho
  have hB := fun v => blank_any (line[0]'hl).toNat v (by have := (line[0]'hl).toNat_lt; omega)
  rw [hb] at hB
  have li : (0 : Int) < line.size := by omega
  have b0 : 0 ≤ ((line[0]'hl).toNat : Int) := by omega
  have b1 : ((line[0]'hl).toNat : Int) < 256 := by have := (line[0]'hl).toNat_lt; omega
  have hlk2 := hlk ((w.alloc (.cells #[.int .u8 0, .string ⟨#[]⟩, .int .i64 0, .string ⟨#[]⟩, .int .u8 0, .slice none 0 0] 39)).alloc (.cells #[.int .u8 0, .string ⟨#[]⟩, .int .i64 0, .string ⟨#[]⟩, .int .u8 0, .slice none 0 0] 39)) (K2.out.low.block g hg)
  have c0 := hx0.out
  have lg := World.block_lt_of_cell? w _ c0
  have i0 : ∀ v, (Instr.indexAt 59 (.slice (some ⟨A, 0, none⟩) n n) (.int .i64 0)).run Tryd.prog v = .ok (.pointer (some ⟨A, 0, none⟩)) v := fun v => idxT A n n 0 (by omega) v
  replace hlk : Hid _ := hlk
  have hMm := fun v T sp cap => maybe_any v (q.ri sp cap) T
  simp only [mayI_ri, hm] at hMm
  have n0 : (1 : Int) ≤ n := by omega
  have n1 : (n : Int) ≤ 1000001 := by omega
  replace hl2 : Hid _ := hl2
  clear hb hn hn2 hm
  go_enter Tryd.func32, Tryd.ntmps32
  go_wp2_with (first
    | (go_at_call 55; refine (need_no _).mono ?_; rintro e yn ⟨rfl, rfl⟩)
    | (go_at_call 20; refine (hMm _ (T.out.t.below K5.out.1.low) sp2 cap2).mono ?_; rintro e y6 ⟨rfl, H6⟩; have K6 : Hid (Fm w [(w.heap.size, i6 z0, 39), (w.heap.size + 1, i6 (q.ri sp2 cap2), 39)] y6 ∧ ∀ g, g ≠ w.heap.size → g ≠ w.heap.size + 1 → g < y2.heap.size → y6.heap[g]? = y2.heap[g]?) := ⟨K5.out.1.below H6, fun g h1 h2 h3 => (H6.block g (by have := K5.out.2.2; omega)).trans (K5.out.2.1 g h2)⟩; clear H6)
    | ((with_reducible refine at_load rt6 (w.heap.size + 1) (i6 (q.ri sp2 cap2)) ?_ ?_ (.tmp 7) ?_ ?_ ?_ ?_); (first | exact K6.out.1.bx 1 _ _ _ rfl | exact K5.out.1.bx 1 _ _ _ rfl); rfl; rfl; rfl; rfl)
    | ((with_reducible refine at_st rt6 (w.heap.size + 1) (i6 z0) (i6 (q.ri sp2 cap2)) ?_ ?_ ?_ ?_ (.tmp 7) (.tmp 27) ?_ ?_ ?_ ?_ ?_); exact K3.out.bx 1 _ _ _ rfl; rfl; rfl; exact one6 _; rfl; rfl; rfl; rfl; intro y5 hw5; have K5 : Hid (Fm w [(w.heap.size, i6 z0, 39), (w.heap.size + 1, i6 (q.ri sp2 cap2), 39)] y5 ∧ (∀ g, g ≠ w.heap.size + 1 → y5.heap[g]? = y2.heap[g]?) ∧ y2.heap.size ≤ y5.heap.size) := ⟨K3.out.put 1 _ _ _ _ rfl hw5.out, hw5.out.2.2, (hw5.out.2.1 0 (Nat.zero_le _)).size⟩; clear hw5)
    | ((with_reducible show Calls Tryd.prog k _ _ _); refine (hcall.out _ K2.out.low).mono ?_; rintro e y2 ⟨sp2, cap2, rfl, H1, H2⟩; have K3 : Hid (Fm w [(w.heap.size, i6 z0, 39), (w.heap.size + 1, i6 z0, 39)] y2) := K2.out.below H2; replace H1 : Hid _ := H1; clear H2)
    | ((with_reducible refine at_slw 59 (.tmp 25) (.const (.int .i64 1)) (.slice (some ⟨A, 0, none⟩) n n) (.int .i64 1) (.slice sp1 (n - 1) (n - 1)) ?_ ?_ ?_ ?_ hsl ?_); kernel_rfl; rfl; rfl; rfl)
    | (go_at_call 55; refine (need_ok _).mono ?_; rintro e yn ⟨rfl, rfl⟩)
    | (go_at_call 54; refine (hB _).mono ?_; rintro e yb ⟨rfl, rfl⟩))
  exact ⟨rfl, rfl, K6.out.1.low⟩
theorem rl_fn_ok (w : World) (T : Hid (Tw w)) (g : Nat) (line : ByteArray) (hl : 0 < line.size) (hl2 : line.size ≤ 1000000) (A n : Nat) (hn : 1 ≤ n) (hn2 : n ≤ 1000001) (x0 : ByteArray) (sp1 : Option Addr) (hx0 : Hid (w.cell? ⟨A, 0, none⟩ = some (.string x0))) (hg : g < w.heap.size) (k : Nat) (o : Option Pu) (hb : blankP (line[0]'hl).toNat = true) (hlk : ∀ z : World, z.heap[g]? = w.heap[g]? → (Instr.lookup 55 (.map (some g)) (.string x0) true).run Tryd.prog z = .ok (.tuple #[.func (.func k) #[] #[], .bool true]) z) (hsl : ∀ v, (Instr.sliceAt 59 (.slice (some ⟨A, 0, none⟩) n n) (some (.int .i64 1)) none none).run Tryd.prog v = .ok (.slice sp1 (n - 1) (n - 1)) v) (hcf : ∀ (z : World), (callFunc k #[.slice sp1 (n - 1) (n - 1)]).run Tryd.prog z = .ok (.enter k #[.slice sp1 (n - 1) (n - 1)]) z) (hcall : Hid (∀ v, Below w.heap.size w v → Calls Tryd.prog k #[.slice sp1 (n - 1) (n - 1)] v (RdE v o))) (q : Pu) (ho : o = some q) (hm : mayP q = true) : Calls Tryd.prog 32 #[.map (some g), .string line, .slice (some ⟨A, 0, none⟩) n n] w (RdE w (some q)) := by
  have K2 : Hid (Fm w [(w.heap.size, i6 z0, 39), (w.heap.size + 1, i6 z0, 39)] ((w.alloc (.cells #[.int .u8 0, .string ⟨#[]⟩, .int .i64 0, .string ⟨#[]⟩, .int .u8 0, .slice none 0 0] 39)).alloc (.cells #[.int .u8 0, .string ⟨#[]⟩, .int .i64 0, .string ⟨#[]⟩, .int .u8 0, .slice none 0 0] 39))) := Fm.two w _ _ _ _
  subst ho
  have hB := fun v => blank_any (line[0]'hl).toNat v (by have := (line[0]'hl).toNat_lt; omega)
  rw [hb] at hB
  have li : (0 : Int) < line.size := by omega
  have b0 : 0 ≤ ((line[0]'hl).toNat : Int) := by omega
  have b1 : ((line[0]'hl).toNat : Int) < 256 := by have := (line[0]'hl).toNat_lt; omega
  have hlk2 := hlk ((w.alloc (.cells #[.int .u8 0, .string ⟨#[]⟩, .int .i64 0, .string ⟨#[]⟩, .int .u8 0, .slice none 0 0] 39)).alloc (.cells #[.int .u8 0, .string ⟨#[]⟩, .int .i64 0, .string ⟨#[]⟩, .int .u8 0, .slice none 0 0] 39)) (K2.out.low.block g hg)
  have c0 := hx0.out
  have lg := World.block_lt_of_cell? w _ c0
  have i0 : ∀ v, (Instr.indexAt 59 (.slice (some ⟨A, 0, none⟩) n n) (.int .i64 0)).run Tryd.prog v = .ok (.pointer (some ⟨A, 0, none⟩)) v := fun v => idxT A n n 0 (by omega) v
  replace hlk : Hid _ := hlk
  have hMm := fun v T sp cap => maybe_any v (q.ri sp cap) T
  simp only [mayI_ri, hm] at hMm
  have n0 : (1 : Int) ≤ n := by omega
  have n1 : (n : Int) ≤ 1000001 := by omega
  replace hl2 : Hid _ := hl2
  clear hb hn hn2 hm
  go_enter Tryd.func32, Tryd.ntmps32
  go_wp2_with (first
    | ((with_reducible refine at_st rt6 w.heap.size (i6 z0) (i6 (q.ri sp2 cap2)) ?_ ?_ ?_ ?_ (.tmp 6) (.tmp 33) ?_ ?_ ?_ ?_ ?_); exact K6.out.1.bx 0 _ _ _ rfl; rfl; rfl; exact one6 _; rfl; rfl; rfl; rfl; intro y7 hw7; have K7 : Hid (Fm w [(w.heap.size, i6 (q.ri sp2 cap2), 39), (w.heap.size + 1, i6 (q.ri sp2 cap2), 39)] y7 ∧ ∀ g, g ≠ w.heap.size → g ≠ w.heap.size + 1 → g < y2.heap.size → y7.heap[g]? = y2.heap[g]?) := ⟨K6.out.1.put 0 _ _ _ _ rfl hw7.out, fun g h1 h2 h3 => (hw7.out.2.2 g h1).trans (K6.out.2 g h1 h2 h3)⟩; clear hw7)
    | (go_at_call 55; refine (need_ok _).mono ?_; rintro e yn ⟨rfl, rfl⟩)
    | (go_at_call 20; refine (hMm _ (T.out.t.below K5.out.1.low) sp2 cap2).mono ?_; rintro e y6 ⟨rfl, H6⟩; have K6 : Hid (Fm w [(w.heap.size, i6 z0, 39), (w.heap.size + 1, i6 (q.ri sp2 cap2), 39)] y6 ∧ ∀ g, g ≠ w.heap.size → g ≠ w.heap.size + 1 → g < y2.heap.size → y6.heap[g]? = y2.heap[g]?) := ⟨K5.out.1.below H6, fun g h1 h2 h3 => (H6.block g (by have := K5.out.2.2; omega)).trans (K5.out.2.1 g h2)⟩; clear H6)
    | ((with_reducible refine at_load rt6 (w.heap.size + 1) (i6 (q.ri sp2 cap2)) ?_ ?_ (.tmp 7) ?_ ?_ ?_ ?_); (first | exact K6.out.1.bx 1 _ _ _ rfl | exact K5.out.1.bx 1 _ _ _ rfl); rfl; rfl; rfl; rfl)
    | ((with_reducible refine at_st rt6 (w.heap.size + 1) (i6 z0) (i6 (q.ri sp2 cap2)) ?_ ?_ ?_ ?_ (.tmp 7) (.tmp 27) ?_ ?_ ?_ ?_ ?_); exact K3.out.bx 1 _ _ _ rfl; rfl; rfl; exact one6 _; rfl; rfl; rfl; rfl; intro y5 hw5; have K5 : Hid (Fm w [(w.heap.size, i6 z0, 39), (w.heap.size + 1, i6 (q.ri sp2 cap2), 39)] y5 ∧ (∀ g, g ≠ w.heap.size + 1 → y5.heap[g]? = y2.heap[g]?) ∧ y2.heap.size ≤ y5.heap.size) := ⟨K3.out.put 1 _ _ _ _ rfl hw5.out, hw5.out.2.2, (hw5.out.2.1 0 (Nat.zero_le _)).size⟩; clear hw5)
    | ((with_reducible show Calls Tryd.prog k _ _ _); refine (hcall.out _ K2.out.low).mono ?_; rintro e y2 ⟨sp2, cap2, rfl, H1, H2⟩; have K3 : Hid (Fm w [(w.heap.size, i6 z0, 39), (w.heap.size + 1, i6 z0, 39)] y2) := K2.out.below H2; replace H1 : Hid _ := H1; clear H2)
    | ((with_reducible refine at_slw 59 (.tmp 25) (.const (.int .i64 1)) (.slice (some ⟨A, 0, none⟩) n n) (.int .i64 1) (.slice sp1 (n - 1) (n - 1)) ?_ ?_ ?_ ?_ hsl ?_); kernel_rfl; rfl; rfl; rfl)
    | (go_at_call 54; refine (hB _).mono ?_; rintro e yb ⟨rfl, rfl⟩))
  refine ret_row rt6 rfl rfl (K7.out.1.bx 0 _ _ _ rfl) rfl rfl ⟨sp2, cap2, rfl, ?_, K7.out.1.low⟩
  refine own_two (o1 := .cells #[.int .u8 0, .string ⟨#[]⟩, .int .i64 0, .string ⟨#[]⟩, .int .u8 0, .slice none 0 0] 39) (o2 := .cells #[.int .u8 0, .string ⟨#[]⟩, .int .i64 0, .string ⟨#[]⟩, .int .u8 0, .slice none 0 0] 39) (y := y7) (own_keep H1.out fun g hg => ?_) (fun g _ _ => rfl)
  have e2 : ((w.alloc (.cells #[.int .u8 0, .string ⟨#[]⟩, .int .i64 0, .string ⟨#[]⟩, .int .u8 0, .slice none 0 0] 39)).alloc (.cells #[.int .u8 0, .string ⟨#[]⟩, .int .i64 0, .string ⟨#[]⟩, .int .u8 0, .slice none 0 0] 39)).heap.size = w.heap.size + 2 := by simp
  exact K7.out.2 g (by omega) (by omega) hg.2
theorem rl_clo_no (w : World) (T : Hid (Tw w)) (g : Nat) (line : ByteArray) (hl : 0 < line.size) (hl2 : line.size ≤ 1000000) (A n : Nat) (hn : 1 ≤ n) (hn2 : n ≤ 1000001) (x0 : ByteArray) (sp1 : Option Addr) (hx0 : Hid (w.cell? ⟨A, 0, none⟩ = some (.string x0))) (hg : g < w.heap.size) (c : Nat) (k : Nat) (o : Option Pu) (hb : blankP (line[0]'hl).toNat = true) (hlk : ∀ z : World, z.heap[g]? = w.heap[g]? → (Instr.lookup 55 (.map (some g)) (.string x0) true).run Tryd.prog z = .ok (.tuple #[.func (.func k) #[] #[.pointer (some ⟨c, 0, none⟩)], .bool true]) z) (hsl : ∀ v, (Instr.sliceAt 59 (.slice (some ⟨A, 0, none⟩) n n) (some (.int .i64 1)) none none).run Tryd.prog v = .ok (.slice sp1 (n - 1) (n - 1)) v) (hcf : ∀ (z : World), (callFunc k #[.slice sp1 (n - 1) (n - 1), .pointer (some ⟨c, 0, none⟩)]).run Tryd.prog z = .ok (.enter k #[.slice sp1 (n - 1) (n - 1), .pointer (some ⟨c, 0, none⟩)]) z) (hcall : Hid (∀ v, Below w.heap.size w v → Calls Tryd.prog k #[.slice sp1 (n - 1) (n - 1), .pointer (some ⟨c, 0, none⟩)] v (RdE v o))) (ho : o = none) : Calls Tryd.prog 32 #[.map (some g), .string line, .slice (some ⟨A, 0, none⟩) n n] w (RdE w (none)) := by
  have K2 : Hid (Fm w [(w.heap.size, i6 z0, 39), (w.heap.size + 1, i6 z0, 39)] ((w.alloc (.cells #[.int .u8 0, .string ⟨#[]⟩, .int .i64 0, .string ⟨#[]⟩, .int .u8 0, .slice none 0 0] 39)).alloc (.cells #[.int .u8 0, .string ⟨#[]⟩, .int .i64 0, .string ⟨#[]⟩, .int .u8 0, .slice none 0 0] 39))) := Fm.two w _ _ _ _
  subst ho
  have hB := fun v => blank_any (line[0]'hl).toNat v (by have := (line[0]'hl).toNat_lt; omega)
  rw [hb] at hB
  have li : (0 : Int) < line.size := by omega
  have b0 : 0 ≤ ((line[0]'hl).toNat : Int) := by omega
  have b1 : ((line[0]'hl).toNat : Int) < 256 := by have := (line[0]'hl).toNat_lt; omega
  have hlk2 := hlk ((w.alloc (.cells #[.int .u8 0, .string ⟨#[]⟩, .int .i64 0, .string ⟨#[]⟩, .int .u8 0, .slice none 0 0] 39)).alloc (.cells #[.int .u8 0, .string ⟨#[]⟩, .int .i64 0, .string ⟨#[]⟩, .int .u8 0, .slice none 0 0] 39)) (K2.out.low.block g hg)
  have c0 := hx0.out
  have lg := World.block_lt_of_cell? w _ c0
  have i0 : ∀ v, (Instr.indexAt 59 (.slice (some ⟨A, 0, none⟩) n n) (.int .i64 0)).run Tryd.prog v = .ok (.pointer (some ⟨A, 0, none⟩)) v := fun v => idxT A n n 0 (by omega) v
  replace hlk : Hid _ := hlk
  have n0 : (1 : Int) ≤ n := by omega
  have n1 : (n : Int) ≤ 1000001 := by omega
  replace hl2 : Hid _ := hl2
  clear hb hn hn2
  go_enter Tryd.func32, Tryd.ntmps32
  go_wp2_with (first
    | ((with_reducible show Calls Tryd.prog k _ _ _); refine (hcall.out _ K2.out.low).mono ?_; rintro e y2 ⟨rfl, H2⟩; have K3 : Hid (Below w.heap.size w y2) := (K2.out.below H2).low; clear H2)
    | ((with_reducible refine at_slw 59 (.tmp 25) (.const (.int .i64 1)) (.slice (some ⟨A, 0, none⟩) n n) (.int .i64 1) (.slice sp1 (n - 1) (n - 1)) ?_ ?_ ?_ ?_ hsl ?_); kernel_rfl; rfl; rfl; rfl)
    | (go_at_call 55; refine (need_ok _).mono ?_; rintro e yn ⟨rfl, rfl⟩)
    | (go_at_call 54; refine (hB _).mono ?_; rintro e yb ⟨rfl, rfl⟩))
  exact ⟨rfl, rfl, K3.out⟩
theorem rl_clo_bad (w : World) (T : Hid (Tw w)) (g : Nat) (line : ByteArray) (hl : 0 < line.size) (hl2 : line.size ≤ 1000000) (A n : Nat) (hn : 1 ≤ n) (hn2 : n ≤ 1000001) (x0 : ByteArray) (sp1 : Option Addr) (hx0 : Hid (w.cell? ⟨A, 0, none⟩ = some (.string x0))) (hg : g < w.heap.size) (c : Nat) (k : Nat) (o : Option Pu) (hb : blankP (line[0]'hl).toNat = true) (hlk : ∀ z : World, z.heap[g]? = w.heap[g]? → (Instr.lookup 55 (.map (some g)) (.string x0) true).run Tryd.prog z = .ok (.tuple #[.func (.func k) #[] #[.pointer (some ⟨c, 0, none⟩)], .bool true]) z) (hsl : ∀ v, (Instr.sliceAt 59 (.slice (some ⟨A, 0, none⟩) n n) (some (.int .i64 1)) none none).run Tryd.prog v = .ok (.slice sp1 (n - 1) (n - 1)) v) (hcf : ∀ (z : World), (callFunc k #[.slice sp1 (n - 1) (n - 1), .pointer (some ⟨c, 0, none⟩)]).run Tryd.prog z = .ok (.enter k #[.slice sp1 (n - 1) (n - 1), .pointer (some ⟨c, 0, none⟩)]) z) (hcall : Hid (∀ v, Below w.heap.size w v → Calls Tryd.prog k #[.slice sp1 (n - 1) (n - 1), .pointer (some ⟨c, 0, none⟩)] v (RdE v o))) (q : Pu) (ho : o = some q) (hm : mayP q = false) : Calls Tryd.prog 32 #[.map (some g), .string line, .slice (some ⟨A, 0, none⟩) n n] w (RdE w (none)) := by
  have K2 : Hid (Fm w [(w.heap.size, i6 z0, 39), (w.heap.size + 1, i6 z0, 39)] ((w.alloc (.cells #[.int .u8 0, .string ⟨#[]⟩, .int .i64 0, .string ⟨#[]⟩, .int .u8 0, .slice none 0 0] 39)).alloc (.cells #[.int .u8 0, .string ⟨#[]⟩, .int .i64 0, .string ⟨#[]⟩, .int .u8 0, .slice none 0 0] 39))) := Fm.two w _ _ _ _
  subst ho
  have hB := fun v => blank_any (line[0]'hl).toNat v (by have := (line[0]'hl).toNat_lt; omega)
  rw [hb] at hB
  have li : (0 : Int) < line.size := by omega
  have b0 : 0 ≤ ((line[0]'hl).toNat : Int) := by omega
  have b1 : ((line[0]'hl).toNat : Int) < 256 := by have := (line[0]'hl).toNat_lt; omega
  have hlk2 := hlk ((w.alloc (.cells #[.int .u8 0, .string ⟨#[]⟩, .int .i64 0, .string ⟨#[]⟩, .int .u8 0, .slice none 0 0] 39)).alloc (.cells #[.int .u8 0, .string ⟨#[]⟩, .int .i64 0, .string ⟨#[]⟩, .int .u8 0, .slice none 0 0] 39)) (K2.out.low.block g hg)
  have c0 := hx0.out
  have lg := World.block_lt_of_cell? w _ c0
  have i0 : ∀ v, (Instr.indexAt 59 (.slice (some ⟨A, 0, none⟩) n n) (.int .i64 0)).run Tryd.prog v = .ok (.pointer (some ⟨A, 0, none⟩)) v := fun v => idxT A n n 0 (by omega) v
  replace hlk : Hid _ := hlk
  have hMm := fun v T sp cap => maybe_any v (q.ri sp cap) T
  simp only [mayI_ri, hm] at hMm
  have n0 : (1 : Int) ≤ n := by omega
  have n1 : (n : Int) ≤ 1000001 := by omega
  replace hl2 : Hid _ := hl2
  clear hb hn hn2 hm
  go_enter Tryd.func32, Tryd.ntmps32
  go_wp2_with (first
    | (go_at_call 55; refine (need_no _).mono ?_; rintro e yn ⟨rfl, rfl⟩)
    | (go_at_call 20; refine (hMm _ (T.out.t.below K5.out.1.low) sp2 cap2).mono ?_; rintro e y6 ⟨rfl, H6⟩; have K6 : Hid (Fm w [(w.heap.size, i6 z0, 39), (w.heap.size + 1, i6 (q.ri sp2 cap2), 39)] y6 ∧ ∀ g, g ≠ w.heap.size → g ≠ w.heap.size + 1 → g < y2.heap.size → y6.heap[g]? = y2.heap[g]?) := ⟨K5.out.1.below H6, fun g h1 h2 h3 => (H6.block g (by have := K5.out.2.2; omega)).trans (K5.out.2.1 g h2)⟩; clear H6)
    | ((with_reducible refine at_load rt6 (w.heap.size + 1) (i6 (q.ri sp2 cap2)) ?_ ?_ (.tmp 7) ?_ ?_ ?_ ?_); (first | exact K6.out.1.bx 1 _ _ _ rfl | exact K5.out.1.bx 1 _ _ _ rfl); rfl; rfl; rfl; rfl)
    | ((with_reducible refine at_st rt6 (w.heap.size + 1) (i6 z0) (i6 (q.ri sp2 cap2)) ?_ ?_ ?_ ?_ (.tmp 7) (.tmp 27) ?_ ?_ ?_ ?_ ?_); exact K3.out.bx 1 _ _ _ rfl; rfl; rfl; exact one6 _; rfl; rfl; rfl; rfl; intro y5 hw5; have K5 : Hid (Fm w [(w.heap.size, i6 z0, 39), (w.heap.size + 1, i6 (q.ri sp2 cap2), 39)] y5 ∧ (∀ g, g ≠ w.heap.size + 1 → y5.heap[g]? = y2.heap[g]?) ∧ y2.heap.size ≤ y5.heap.size) := ⟨K3.out.put 1 _ _ _ _ rfl hw5.out, hw5.out.2.2, (hw5.out.2.1 0 (Nat.zero_le _)).size⟩; clear hw5)
    | ((with_reducible show Calls Tryd.prog k _ _ _); refine (hcall.out _ K2.out.low).mono ?_; rintro e y2 ⟨sp2, cap2, rfl, H1, H2⟩; have K3 : Hid (Fm w [(w.heap.size, i6 z0, 39), (w.heap.size + 1, i6 z0, 39)] y2) := K2.out.below H2; replace H1 : Hid _ := H1; clear H2)
    | ((with_reducible refine at_slw 59 (.tmp 25) (.const (.int .i64 1)) (.slice (some ⟨A, 0, none⟩) n n) (.int .i64 1) (.slice sp1 (n - 1) (n - 1)) ?_ ?_ ?_ ?_ hsl ?_); kernel_rfl; rfl; rfl; rfl)
    | (go_at_call 55; refine (need_ok _).mono ?_; rintro e yn ⟨rfl, rfl⟩)
    | (go_at_call 54; refine (hB _).mono ?_; rintro e yb ⟨rfl, rfl⟩))
  exact ⟨rfl, rfl, K6.out.1.low⟩
theorem rl_clo_ok (w : World) (T : Hid (Tw w)) (g : Nat) (line : ByteArray) (hl : 0 < line.size) (hl2 : line.size ≤ 1000000) (A n : Nat) (hn : 1 ≤ n) (hn2 : n ≤ 1000001) (x0 : ByteArray) (sp1 : Option Addr) (hx0 : Hid (w.cell? ⟨A, 0, none⟩ = some (.string x0))) (hg : g < w.heap.size) (c : Nat) (k : Nat) (o : Option Pu) (hb : blankP (line[0]'hl).toNat = true) (hlk : ∀ z : World, z.heap[g]? = w.heap[g]? → (Instr.lookup 55 (.map (some g)) (.string x0) true).run Tryd.prog z = .ok (.tuple #[.func (.func k) #[] #[.pointer (some ⟨c, 0, none⟩)], .bool true]) z) (hsl : ∀ v, (Instr.sliceAt 59 (.slice (some ⟨A, 0, none⟩) n n) (some (.int .i64 1)) none none).run Tryd.prog v = .ok (.slice sp1 (n - 1) (n - 1)) v) (hcf : ∀ (z : World), (callFunc k #[.slice sp1 (n - 1) (n - 1), .pointer (some ⟨c, 0, none⟩)]).run Tryd.prog z = .ok (.enter k #[.slice sp1 (n - 1) (n - 1), .pointer (some ⟨c, 0, none⟩)]) z) (hcall : Hid (∀ v, Below w.heap.size w v → Calls Tryd.prog k #[.slice sp1 (n - 1) (n - 1), .pointer (some ⟨c, 0, none⟩)] v (RdE v o))) (q : Pu) (ho : o = some q) (hm : mayP q = true) : Calls Tryd.prog 32 #[.map (some g), .string line, .slice (some ⟨A, 0, none⟩) n n] w (RdE w (some q)) := by
  have K2 : Hid (Fm w [(w.heap.size, i6 z0, 39), (w.heap.size + 1, i6 z0, 39)] ((w.alloc (.cells #[.int .u8 0, .string ⟨#[]⟩, .int .i64 0, .string ⟨#[]⟩, .int .u8 0, .slice none 0 0] 39)).alloc (.cells #[.int .u8 0, .string ⟨#[]⟩, .int .i64 0, .string ⟨#[]⟩, .int .u8 0, .slice none 0 0] 39))) := Fm.two w _ _ _ _
  subst ho
  have hB := fun v => blank_any (line[0]'hl).toNat v (by have := (line[0]'hl).toNat_lt; omega)
  rw [hb] at hB
  have li : (0 : Int) < line.size := by omega
  have b0 : 0 ≤ ((line[0]'hl).toNat : Int) := by omega
  have b1 : ((line[0]'hl).toNat : Int) < 256 := by have := (line[0]'hl).toNat_lt; omega
  have hlk2 := hlk ((w.alloc (.cells #[.int .u8 0, .string ⟨#[]⟩, .int .i64 0, .string ⟨#[]⟩, .int .u8 0, .slice none 0 0] 39)).alloc (.cells #[.int .u8 0, .string ⟨#[]⟩, .int .i64 0, .string ⟨#[]⟩, .int .u8 0, .slice none 0 0] 39)) (K2.out.low.block g hg)
  have c0 := hx0.out
  have lg := World.block_lt_of_cell? w _ c0
  have i0 : ∀ v, (Instr.indexAt 59 (.slice (some ⟨A, 0, none⟩) n n) (.int .i64 0)).run Tryd.prog v = .ok (.pointer (some ⟨A, 0, none⟩)) v := fun v => idxT A n n 0 (by omega) v
  replace hlk : Hid _ := hlk
  have hMm := fun v T sp cap => maybe_any v (q.ri sp cap) T
  simp only [mayI_ri, hm] at hMm
  have n0 : (1 : Int) ≤ n := by omega
  have n1 : (n : Int) ≤ 1000001 := by omega
  replace hl2 : Hid _ := hl2
  clear hb hn hn2 hm
  go_enter Tryd.func32, Tryd.ntmps32
  go_wp2_with (first
    | ((with_reducible refine at_st rt6 w.heap.size (i6 z0) (i6 (q.ri sp2 cap2)) ?_ ?_ ?_ ?_ (.tmp 6) (.tmp 33) ?_ ?_ ?_ ?_ ?_); exact K6.out.1.bx 0 _ _ _ rfl; rfl; rfl; exact one6 _; rfl; rfl; rfl; rfl; intro y7 hw7; have K7 : Hid (Fm w [(w.heap.size, i6 (q.ri sp2 cap2), 39), (w.heap.size + 1, i6 (q.ri sp2 cap2), 39)] y7 ∧ ∀ g, g ≠ w.heap.size → g ≠ w.heap.size + 1 → g < y2.heap.size → y7.heap[g]? = y2.heap[g]?) := ⟨K6.out.1.put 0 _ _ _ _ rfl hw7.out, fun g h1 h2 h3 => (hw7.out.2.2 g h1).trans (K6.out.2 g h1 h2 h3)⟩; clear hw7)
    | (go_at_call 55; refine (need_ok _).mono ?_; rintro e yn ⟨rfl, rfl⟩)
    | (go_at_call 20; refine (hMm _ (T.out.t.below K5.out.1.low) sp2 cap2).mono ?_; rintro e y6 ⟨rfl, H6⟩; have K6 : Hid (Fm w [(w.heap.size, i6 z0, 39), (w.heap.size + 1, i6 (q.ri sp2 cap2), 39)] y6 ∧ ∀ g, g ≠ w.heap.size → g ≠ w.heap.size + 1 → g < y2.heap.size → y6.heap[g]? = y2.heap[g]?) := ⟨K5.out.1.below H6, fun g h1 h2 h3 => (H6.block g (by have := K5.out.2.2; omega)).trans (K5.out.2.1 g h2)⟩; clear H6)
    | ((with_reducible refine at_load rt6 (w.heap.size + 1) (i6 (q.ri sp2 cap2)) ?_ ?_ (.tmp 7) ?_ ?_ ?_ ?_); (first | exact K6.out.1.bx 1 _ _ _ rfl | exact K5.out.1.bx 1 _ _ _ rfl); rfl; rfl; rfl; rfl)
    | ((with_reducible refine at_st rt6 (w.heap.size + 1) (i6 z0) (i6 (q.ri sp2 cap2)) ?_ ?_ ?_ ?_ (.tmp 7) (.tmp 27) ?_ ?_ ?_ ?_ ?_); exact K3.out.bx 1 _ _ _ rfl; rfl; rfl; exact one6 _; rfl; rfl; rfl; rfl; intro y5 hw5; have K5 : Hid (Fm w [(w.heap.size, i6 z0, 39), (w.heap.size + 1, i6 (q.ri sp2 cap2), 39)] y5 ∧ (∀ g, g ≠ w.heap.size + 1 → y5.heap[g]? = y2.heap[g]?) ∧ y2.heap.size ≤ y5.heap.size) := ⟨K3.out.put 1 _ _ _ _ rfl hw5.out, hw5.out.2.2, (hw5.out.2.1 0 (Nat.zero_le _)).size⟩; clear hw5)
    | ((with_reducible show Calls Tryd.prog k _ _ _); refine (hcall.out _ K2.out.low).mono ?_; rintro e y2 ⟨sp2, cap2, rfl, H1, H2⟩; have K3 : Hid (Fm w [(w.heap.size, i6 z0, 39), (w.heap.size + 1, i6 z0, 39)] y2) := K2.out.below H2; replace H1 : Hid _ := H1; clear H2)
    | ((with_reducible refine at_slw 59 (.tmp 25) (.const (.int .i64 1)) (.slice (some ⟨A, 0, none⟩) n n) (.int .i64 1) (.slice sp1 (n - 1) (n - 1)) ?_ ?_ ?_ ?_ hsl ?_); kernel_rfl; rfl; rfl; rfl)
    | (go_at_call 54; refine (hB _).mono ?_; rintro e yb ⟨rfl, rfl⟩))
  refine ret_row rt6 rfl rfl (K7.out.1.bx 0 _ _ _ rfl) rfl rfl ⟨sp2, cap2, rfl, ?_, K7.out.1.low⟩
  refine own_two (o1 := .cells #[.int .u8 0, .string ⟨#[]⟩, .int .i64 0, .string ⟨#[]⟩, .int .u8 0, .slice none 0 0] 39) (o2 := .cells #[.int .u8 0, .string ⟨#[]⟩, .int .i64 0, .string ⟨#[]⟩, .int .u8 0, .slice none 0 0] 39) (y := y7) (own_keep H1.out fun g hg => ?_) (fun g _ _ => rfl)
  have e2 : ((w.alloc (.cells #[.int .u8 0, .string ⟨#[]⟩, .int .i64 0, .string ⟨#[]⟩, .int .u8 0, .slice none 0 0] 39)).alloc (.cells #[.int .u8 0, .string ⟨#[]⟩, .int .i64 0, .string ⟨#[]⟩, .int .u8 0, .slice none 0 0] 39)).heap.size = w.heap.size + 2 := by simp
  exact K7.out.2 g (by omega) (by omega) hg.2
theorem rl_unknown (w : World) (T : Hid (Tw w)) (g : Nat) (line : ByteArray) (hl : 0 < line.size) (hl2 : line.size ≤ 1000000) (A n : Nat) (hn : 1 ≤ n) (hn2 : n ≤ 1000001) (x0 : ByteArray) (hx0 : Hid (w.cell? ⟨A, 0, none⟩ = some (.string x0))) (hg : g < w.heap.size) (v : Value) (hb : blankP (line[0]'hl).toNat = true) (hlk : ∀ z : World, z.heap[g]? = w.heap[g]? → (Instr.lookup 55 (.map (some g)) (.string x0) true).run Tryd.prog z = .ok (.tuple #[v, .bool false]) z) : Calls Tryd.prog 32 #[.map (some g), .string line, .slice (some ⟨A, 0, none⟩) n n] w (RdE w none) := by
  have K2 : Hid (Fm w [(w.heap.size, i6 z0, 39), (w.heap.size + 1, i6 z0, 39)] ((w.alloc (.cells #[.int .u8 0, .string ⟨#[]⟩, .int .i64 0, .string ⟨#[]⟩, .int .u8 0, .slice none 0 0] 39)).alloc (.cells #[.int .u8 0, .string ⟨#[]⟩, .int .i64 0, .string ⟨#[]⟩, .int .u8 0, .slice none 0 0] 39))) := Fm.two w _ _ _ _
  have hB := fun v => blank_any (line[0]'hl).toNat v (by have := (line[0]'hl).toNat_lt; omega)
  rw [hb] at hB
  have li : (0 : Int) < line.size := by omega
  have b0 : 0 ≤ ((line[0]'hl).toNat : Int) := by omega
  have b1 : ((line[0]'hl).toNat : Int) < 256 := by have := (line[0]'hl).toNat_lt; omega
  have hlk2 := hlk ((w.alloc (.cells #[.int .u8 0, .string ⟨#[]⟩, .int .i64 0, .string ⟨#[]⟩, .int .u8 0, .slice none 0 0] 39)).alloc (.cells #[.int .u8 0, .string ⟨#[]⟩, .int .i64 0, .string ⟨#[]⟩, .int .u8 0, .slice none 0 0] 39)) (K2.out.low.block g hg)
  have c0 := hx0.out
  have lg := World.block_lt_of_cell? w _ c0
  have i0 : ∀ v, (Instr.indexAt 59 (.slice (some ⟨A, 0, none⟩) n n) (.int .i64 0)).run Tryd.prog v = .ok (.pointer (some ⟨A, 0, none⟩)) v := fun v => idxT A n n 0 (by omega) v
  replace hlk : Hid _ := hlk
  have n0 : (1 : Int) ≤ n := by omega
  have n1 : (n : Int) ≤ 1000001 := by omega
  replace hl2 : Hid _ := hl2
  clear hb hn hn2
  go_enter Tryd.func32, Tryd.ntmps32
  go_wp2_with (first
    | (go_at_call 55; refine (need_no _).mono ?_; rintro e yn ⟨rfl, rfl⟩)
    | (go_at_call 54; refine (hB _).mono ?_; rintro e yb ⟨rfl, rfl⟩))
  exact ⟨rfl, rfl, K2.out.low⟩
theorem front_is (line : ByteArray) (hl : 0 < line.size) : frontL (strL line) = !blankP (line[0]'hl).toNat := by
  have h := strL_get line 0 hl
  rcases e : strL line with _ | ⟨c, r⟩
  · rw [e] at h; cases h
  · rw [e] at h
    have hc : c = line[0]'hl := by simpa using h
    show decide (c ≠ 32 ∧ c ≠ 9) = _
    rw [hc]
    unfold blankP
    have k : ∀ d : Nat, d < 256 → ((line[0]'hl) = UInt8.ofNat d ↔ (line[0]'hl).toNat = d) := fun d hd => by
      constructor
      · intro e; rw [e, UInt8.toNat_ofNat', Nat.mod_eq_of_lt hd]
      · intro e; exact UInt8.toNat_inj.1 (by rw [UInt8.toNat_ofNat', Nat.mod_eq_of_lt hd]; exact e)
    have k1 := k 32 (by decide)
    have k2 := k 9 (by decide)
    rw [Bool.eq_iff_iff]
    simp only [decide_eq_true_iff, Bool.not_eq_true', Bool.or_eq_false_iff, decide_eq_false_iff_not]
    exact ⟨fun h => ⟨fun h' => h.1 (k1.2 h'), fun h' => h.2 (k2.2 h')⟩, fun h => ⟨fun h' => h.1 (k1.1 h'), fun h' => h.2 (k2.1 h')⟩⟩
theorem readline_any (w : World) (T : Hid (Tw w)) (g : Nat) (hR : Hid (Rd w g)) (line : ByteArray) (hl2 : line.size ≤ 100000) (A : Nat) (ws : List ByteArray) (hws : ws = wordsA (strL line)) (hne : ws ≠ []) (hL : Hid (LiesT w (some ⟨A, 0, none⟩) ws)) :
    Calls Tryd.prog 32 #[.map (some g), .string line, .slice (some ⟨A, 0, none⟩) ws.length ws.length] w (RdE w (itemO (frontL (strL line)) ws)) := by
  have hl : 0 < line.size := by
    rcases Nat.eq_zero_or_pos line.size with h | h
    · rw [size_zero h] at hws
      exact absurd (show ws = [] from hws) hne
    · exact h
  have hW : ∀ x ∈ ws, isW x ∧ x.size ≤ 1000000 := fun x hx => by
    rw [hws] at hx
    obtain ⟨h1, h2⟩ := wordsA_wd hx
    rw [strL_len] at h2
    exact ⟨h1, by omega⟩
  have hn2 : ws.length ≤ 1000001 := by
    have := wordsA_len (strL line)
    rw [← hws, strL_len] at this
    omega
  have hg : g < w.heap.size := by
    obtain ⟨F, hF, _⟩ := hR.out
    exact hF.lt
  have hWL : ∀ v, Below w.heap.size w v → WL v (some ⟨A, 0, none⟩) ws := fun v hv j s hj => by
    obtain ⟨g', e, c⟩ := hL.out j s hj
    cases e
    exact ⟨A, 0, rfl, by rw [Nat.zero_add]; exact (hv.cell (p := ⟨A, j, none⟩) (World.block_lt_of_cell? w _ c)).trans c⟩
  rw [front_is line hl]
  rcases e : ws with _ | ⟨x0, r⟩
  · exact absurd e hne
  rw [← e]
  have hx0 : ws[0]? = some x0 := by rw [e]; rfl
  have hc0 : Hid (w.cell? ⟨A, 0, none⟩ = some (.string x0)) := by
    obtain ⟨g', e', c⟩ := hL.out 0 x0 hx0
    cases e'
    exact c
  have hn1 : 1 ≤ ws.length := by rw [e]; simp
  have hiw := (hW x0 (by rw [e]; simp)).1
  have hrl : ws.length - 1 = r.length := by rw [e]; simp
  rcases hb : blankP (line[0]'hl).toNat with _ | _
  · -- a label
    have hres : itemO true ws = (labO ws).bind chk := by rw [e, chk_lab, itemO_cons, if_pos rfl]
    show Calls _ _ _ _ (RdE w (itemO true ws))
    rw [hres]
    have hcall : Hid (∀ v, Below w.heap.size w v → Calls Tryd.prog 56 #[.slice (some ⟨A, 0, none⟩) ws.length ws.length] v (RdE v (labO ws))) := fun v hv => rlab_any v ws _ _ (hWL v hv) (fun x hx => (hW x hx).2) hn2
    rcases ho : labO ws with _ | q
    · exact rl_lab_no w T g line hl (by omega) A _ hn1 hn2 _ hb hcall ho
    · show Calls _ _ _ _ (RdE w (chk q))
      unfold chk
      rcases hm : mayP q with _ | _
      · rw [if_neg (by simp)]
        exact rl_lab_bad w T g line hl (by omega) A _ hn1 hn2 _ hb hcall q ho hm
      · rw [if_pos rfl]
        exact rl_lab_ok w T g line hl (by omega) A _ hn1 hn2 _ hb hcall q ho hm
  · -- another item
    show Calls _ _ _ _ (RdE w (itemO false ws))
    obtain ⟨sp1, hsl, hsp⟩ := slW A ws.length hn1
    have hWL1 : ∀ v, Below w.heap.size w v → WL v sp1 r := fun v hv j s hj => by
      have h1 : 1 < ws.length := by rw [e, List.length_cons]; have := (List.getElem?_eq_some_iff.1 hj).1; omega
      obtain ⟨g', o', e', c⟩ := hWL v hv (j + 1) s (by rw [e]; simpa using hj)
      cases e'
      exact ⟨A, 1, hsp h1, by rw [show 1 + j = 0 + (j + 1) by omega]; exact c⟩
    have hr1 : ∀ x ∈ r, 0 < x.size ∧ x.size ≤ 1000000 := fun x hx => by
      obtain ⟨h1, h2⟩ := hW x (by rw [e]; simp [hx])
      exact ⟨h1.pos, h2⟩
    have hrn : r.length ≤ 1000001 := by omega
    obtain ⟨v, b, hlk, hcases⟩ := hR.out.look x0
    have go_fn : ∀ (k : Nat) (o : Option Pu), v = .func (.func k) #[] #[] → b = true → (∀ (z : World), (callFunc k #[.slice sp1 (ws.length - 1) (ws.length - 1)]).run Tryd.prog z = .ok (.enter k #[.slice sp1 (ws.length - 1) (ws.length - 1)]) z) → Hid (∀ v, Below w.heap.size w v → Calls Tryd.prog k #[.slice sp1 (ws.length - 1) (ws.length - 1)] v (RdE v o)) → itemO false ws = o.bind chk → Calls Tryd.prog 32 #[.map (some g), .string line, .slice (some ⟨A, 0, none⟩) ws.length ws.length] w (RdE w (itemO false ws)) := by
      intro k o hv hbt hcf hcall hres
      subst hv hbt
      rw [hres]
      rcases ho : o with _ | q
      · exact rl_fn_no w T g line hl (by omega) A _ hn1 hn2 x0 sp1 hc0 hg k o hb hlk hsl hcf hcall ho
      · show Calls _ _ _ _ (RdE w (chk q))
        unfold chk
        rcases hm : mayP q with _ | _
        · rw [if_neg (by simp)]
          exact rl_fn_bad w T g line hl (by omega) A _ hn1 hn2 x0 sp1 hc0 hg k o hb hlk hsl hcf hcall q ho hm
        · rw [if_pos rfl]
          exact rl_fn_ok w T g line hl (by omega) A _ hn1 hn2 x0 sp1 hc0 hg k o hb hlk hsl hcf hcall q ho hm
    have hit : itemO false ws = if x0 = wData then dataP r else if x0 = wAt then atP r else if x0 = wAddr then addrP r else ordO x0 r := by rw [e, itemO_cons, if_neg (by decide)]
    rcases hcases with ⟨e1, hbt, hv⟩ | ⟨e1, hbt, hv⟩ | ⟨e1, hbt, hv⟩ | ⟨e1, e2, e3, hbt, ⟨c, hv, hc⟩, hop⟩ | ⟨e1, e2, e3, hbt, hop⟩
    · refine go_fn 46 (datO r) hv hbt (fun z => by kernel_rfl) (fun v hv => ?_) (by rw [hit, if_pos e1, chk_data])
      rw [hrl]
      exact rdata_any v r sp1 _ (hWL1 v hv) (fun x hx => (hr1 x hx).2) hrn
    · refine go_fn 47 (atP r) hv hbt (fun z => by kernel_rfl) (fun v hv => ?_) (by rw [hit, if_neg (by rw [e1]; decide), if_pos e1, chk_at])
      rw [hrl]
      exact rat_any v r sp1 _ (hWL1 v hv) (fun x hx => (hr1 x hx).2) hrn
    · refine go_fn 48 (addrO r) hv hbt (fun z => by kernel_rfl) (fun v hv => ?_) (by rw [hit, if_neg (by rw [e1]; decide), if_neg (by rw [e1]; decide), if_pos e1, chk_addr])
      rw [hrl]
      exact raddr_any v r sp1 _ (hWL1 v hv) (fun x hx => (hr1 x hx).2) hrn
    · subst hv hbt
      have hres : itemO false ws = (codeO x0 r).bind chk := by rw [hit, if_neg e1, if_neg e2, if_neg e3, chk_code hiw]
      rw [hres]
      have hcf : ∀ z : World, (callFunc 50 #[.slice sp1 (ws.length - 1) (ws.length - 1), .pointer (some ⟨c, 0, none⟩)]).run Tryd.prog z = .ok (.enter 50 #[.slice sp1 (ws.length - 1) (ws.length - 1), .pointer (some ⟨c, 0, none⟩)]) z := fun z => by kernel_rfl
      have hcall : Hid (∀ v, Below w.heap.size w v → Calls Tryd.prog 50 #[.slice sp1 (ws.length - 1) (ws.length - 1), .pointer (some ⟨c, 0, none⟩)] v (RdE v (codeO x0 r))) := fun v hv => by
        rw [hrl]
        exact rclo_any v x0 r c sp1 _ (T.out.below hv) ((hv.block c (heap_lt hc)).trans hc) (hWL1 v hv) (hW x0 (by rw [e]; simp)).2 hr1 hrn
      rcases ho : codeO x0 r with _ | q
      · exact rl_clo_no w T g line hl (by omega) A _ hn1 hn2 x0 sp1 hc0 hg c _ _ hb hlk hsl hcf hcall ho
      · show Calls _ _ _ _ (RdE w (chk q))
        unfold chk
        rcases hm : mayP q with _ | _
        · rw [if_neg (by simp)]
          exact rl_clo_bad w T g line hl (by omega) A _ hn1 hn2 x0 sp1 hc0 hg c _ _ hb hlk hsl hcf hcall q ho hm
        · rw [if_pos rfl]
          exact rl_clo_ok w T g line hl (by omega) A _ hn1 hn2 x0 sp1 hc0 hg c _ _ hb hlk hsl hcf hcall q ho hm
    · subst hbt
      have hres : itemO false ws = none := by rw [hit, if_neg e1, if_neg e2, if_neg e3, ordO_none hiw hop]
      rw [hres]
      exact rl_unknown w T g line hl (by omega) A _ hn1 hn2 x0 hc0 hg v hb hlk
end Go.Proofs.YtmaedkbmjbggpaaDoor
