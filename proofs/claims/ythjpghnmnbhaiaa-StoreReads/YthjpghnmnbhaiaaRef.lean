/- The document's store, function by function. -/
import Derived.Test.YthjpghnmnbhaiaaCopy
namespace Go.Proofs.Ythjpghnmnbhaiaa
open Go Go.RowKit
set_option linter.unusedVariables false
set_option maxHeartbeats 1000000
set_option maxRecDepth 20000

theorem rbytes_any (w : World) (sp : Option Addr) (len cap : Nat) (hlen : len ≤ 140000000000000) (Y : Nat → Int) (hY : Hid (Lies w sp len Y)) :
    Calls Try.prog 33 #[.slice sp len cap] w fun e w' => e = .returned (.slice (some ⟨w.heap.size, 0, none⟩) len len) ∧ Blk w' w.heap.size len Y ∧ Below w.heap.size w w' := by
  have hmk : ∀ v, (Instr.makeSlice 23 (.int .i64 (len : Int)) (.int .i64 (len : Int))).run Try.prog v = .ok (.slice (some ⟨v.heap.size, 0, none⟩) len len) (v.alloc (.cells (madeCells #[.int .u8 0] len) 5)) := fun v => run_make_row' (P := Try.prog) 23 5 (.int .u8 0) 1 Try.underlying23 infoB rfl .i64 .i64 len (by omega) (by omega) v
  have hms : (madeCells #[Value.int .u8 0] len).size = len := by simp [size_madeCells]
  obtain ⟨M, hM⟩ : ∃ M, madeCells #[Value.int .u8 0] len = M := ⟨_, rfl⟩
  rw [hM] at hmk hms
  have hms' : Hid (M.size = len) := hms
  have HB0 : Below w.heap.size w (w.alloc (.cells M 5)) := (Below.refl _ _).alloc (Nat.le_refl _) _
  clear hM hms
  go_enter Try.func33, Try.ntmps33
  go_wp2_with (refine wpList_copy_splice rfl (.tmp 7) (.tmp 8) 23 23 rfl 5 Try.underlying23 (by kernel_rfl) (some ⟨w.heap.size, 0, none⟩) sp len len len cap rfl rfl w.heap.size 0 M.toList 5 ?g1 (rowOf len Y) ?g2 ?g3 ?g4 (rowOf_one _ _) w.heap.size w HB0 (Nat.le_refl _) ?_)
  case g1 => rw [Array.toArray_toList]; exact alloc_last' w _
  case g2 => rw [rowOf_len]; show len = min len len; omega
  case g3 =>
    intro hp
    rw [rowOf_len] at hp
    obtain ⟨ad, e, hc⟩ := (hY.out.below HB0).src (Nat.le_refl _) hp
    first | exact ⟨ad, e, hc⟩ | exact ⟨rfl, ad, e, hc⟩
  case g4 => rw [rowOf_len, Array.length_toList, hms'.out]; omega
  intro w1 hw1 HB1
  have fin : Hid (Blk w1 w.heap.size len Y) := by
    refine ⟨_, hw1.out, ?_, fun j hj => ?_⟩
    · have := length_splice M.toList 0 (rowOf len Y) (by rw [rowOf_len, Array.length_toList, hms'.out]; omega)
      simpa [hms'.out] using this
    · rw [List.getElem?_toArray, length_lay _ _ _ (by rw [rowOf_len, Array.length_toList, hms'.out]; omega), if_pos (by rw [rowOf_len]; omega)]
      exact rowOf_at _ _ _ hj
  clear hw1 hms' HB0 hmk
  go_wp2
  go_ret
  exact ⟨rfl, fin.out, HB1⟩


/-- The document's store. -/
structure Ref (w : World) (r m f : Nat) (S : St) : Prop where
  box : w.heap[r]? = some (.cells #[.slice (some ⟨m, 0, none⟩) S.n S.n, .slice (some ⟨f, 0, none⟩) 512 512, .bool S.on] 56 (0, 0))
  mem : Blk w m S.n S.ram
  fix : Blk w f 512 S.rom
  ne : m ≠ f
theorem Ref.c0 {w : World} {r m f : Nat} {S : St} (h : Ref w r m f S) : w.cell? ⟨r, 0, none⟩ = some (.slice (some ⟨m, 0, none⟩) S.n S.n) := by rw [cell_heap h.box]; rfl
theorem Ref.c1 {w : World} {r m f : Nat} {S : St} (h : Ref w r m f S) : w.cell? ⟨r, 1, none⟩ = some (.slice (some ⟨f, 0, none⟩) 512 512) := by rw [cell_heap h.box]; rfl
theorem Ref.c2 {w : World} {r m f : Nat} {S : St} (h : Ref w r m f S) : w.cell? ⟨r, 2, none⟩ = some (.bool S.on) := by rw [cell_heap h.box]; rfl
theorem Ref.keep {F : Nat → Prop} {w w' : World} {r m f : Nat} {S : St} (h : Ref w r m f S) (u : Upd F w w') (hr : ¬ F r) (hm : ¬ F m) (hf : ¬ F f) : Ref w' r m f S := ⟨u.at h.box hr, h.mem.keep u hm, h.fix.keep u hf, h.ne⟩
theorem Ref.rm {w : World} {r m f : Nat} {S : St} (h : Ref w r m f S) : r ≠ m ∧ r ≠ f := by
  obtain ⟨cm, h1, _⟩ := h.mem
  obtain ⟨cf, h2, _⟩ := h.fix
  exact ⟨fun e => by subst e; rw [h.box] at h1; simp at h1, fun e => by subst e; rw [h.box] at h2; simp at h2⟩

theorem rram_any (w : World) (r m f : Nat) (S : St) (ok : S.ok) (h : Ref w r m f S) :
    Calls Try.prog 19 #[.pointer (some ⟨r, 0, none⟩)] w fun e w' => e = .returned (.slice (some ⟨w.heap.size, 0, none⟩) S.n S.n) ∧ Blk w' w.heap.size S.n S.ram ∧ Below w.heap.size w w' := by
  have hf := rbytes_any w (some ⟨m, 0, none⟩) S.n S.n (by have := ok.hi; omega) S.ram h.mem.lies
  have c0 := h.c0
  obtain ⟨n, hn⟩ : ∃ n, S.n = n := ⟨_, rfl⟩
  rw [hn] at hf c0
  rw [hn]
  clear h ok hn
  go_enter Try.func19, Try.ntmps19
  go_wp2_with (first
    | (go_at_call 33; refine hf.mono ?_; rintro e w1 ⟨rfl, hb, hB⟩))
  go_ret
  exact ⟨rfl, hb, hB⟩
theorem rrom_any (w : World) (r m f : Nat) (S : St) (h : Ref w r m f S) :
    Calls Try.prog 21 #[.pointer (some ⟨r, 0, none⟩)] w fun e w' => e = .returned (.slice (some ⟨w.heap.size, 0, none⟩) 512 512) ∧ Blk w' w.heap.size 512 S.rom ∧ Below w.heap.size w w' := by
  have hf := rbytes_any w (some ⟨f, 0, none⟩) 512 512 (by omega) S.rom h.fix.lies
  have c1 := h.c1
  clear h
  go_enter Try.func21, Try.ntmps21
  go_wp2_with (first
    | (go_at_call 33; refine hf.mono ?_; rintro e w1 ⟨rfl, hb, hB⟩))
  go_ret
  exact ⟨rfl, hb, hB⟩
theorem rlatch_any (w : World) (r m f : Nat) (S : St) (h : Ref w r m f S) :
    Calls Try.prog 23 #[.pointer (some ⟨r, 0, none⟩)] w fun e w' => e = .returned (.bool S.on) ∧ w' = w := by
  have c2 := h.c2
  obtain ⟨x, hx⟩ : ∃ n, S.on = n := ⟨_, rfl⟩
  rw [hx] at c2
  rw [hx]
  clear h hx
  go_enter Try.func23, Try.ntmps23
  go_wp2
  go_ret
  exact ⟨by first | rfl | simp, rfl⟩
theorem Ref.setOn {w : World} {r m f : Nat} {S : St} (h : Ref w r m f S) (b : Bool) : Ref (w.setCell ⟨r, 2, none⟩ (.bool b)) r m f (S.latch b) :=
  ⟨heap_setCell_same w r 2 _ 56 (.bool b) h.box, h.mem.keep (Upd.set w) (fun e => h.rm.1 e.symm), h.fix.keep (Upd.set w) (fun e => h.rm.2 e.symm), h.ne⟩
theorem rsetLatch_any (w : World) (r m f : Nat) (S : St) (h : Ref w r m f S) (b : Bool) :
    Calls Try.prog 28 #[.pointer (some ⟨r, 0, none⟩), .bool b] w fun e w' => (∃ v, e = .returned v) ∧ Ref w' r m f (S.latch b) ∧ Upd (· = r) w w' := by
  have c := h.c2
  have hfz := frozen_heap h.box 2
  have fin : Hid (Ref (w.setCell ⟨r, 2, none⟩ (.bool b)) r m f (S.latch b) ∧ Upd (· = r) w (w.setCell ⟨r, 2, none⟩ (.bool b))) := ⟨h.setOn b, Upd.set _⟩
  obtain ⟨x, hx⟩ : ∃ n, S.on = n := ⟨_, rfl⟩
  rw [hx] at c
  clear h hx
  go_enter Try.func28, Try.ntmps28
  go_wp2
  go_returns
  exact ⟨⟨_, rfl⟩, fin.out⟩

theorem rread_any (w : World) (r m f : Nat) (S : St) (h : Ref w r m f S) (a : Nat) (ha : a < 65536) :
    Calls Try.prog 30 #[.pointer (some ⟨r, 0, none⟩), .int .u16 (a : Int)] w fun e w' => e = .returned (.int .u8 (S.read a)) ∧ w' = w := by
  have c0 := h.c0
  have c1 := h.c1
  have c2 := h.c2
  obtain ⟨n, hn⟩ : ∃ n, S.n = n := ⟨_, rfl⟩
  obtain ⟨on, ho⟩ : ∃ n, S.on = n := ⟨_, rfl⟩
  have hM : Hid (∀ j, j < n → w.cell? ⟨m, j, none⟩ = some (.int .u8 (S.ram j))) := fun j hj => h.mem.cell j (by rw [hn]; exact hj)
  have hF : Hid (∀ j, j < 512 → w.cell? ⟨f, j, none⟩ = some (.int .u8 (S.rom j))) := fun j hj => h.fix.cell j hj
  unfold St.read
  rw [hn, ho]
  rw [hn] at c0
  rw [ho] at c2
  clear h hn ho
  have ij := fun (p : Nat) (hp : p < 512) v => idxS (g := f) (off := 0) (len := 512) (cap := 512) Try.underlying23 (s := 1) (by kernel_rfl) .i64 p v hp
  have im := fun (p : Nat) (hp : p < n) v => idxS (g := m) (off := 0) (len := n) (cap := n) Try.underlying23 (s := 1) (by kernel_rfl) .i64 p v hp
  simp only [Nat.zero_add, Nat.mul_one] at ij im
  by_cases q1 : 33280 ≤ a
  · rw [if_pos q1]
    have q1' : (33280 : Int) ≤ a := by omega
    clear q1 ij im hM hF
    go_enter Try.func30, Try.ntmps30
    go_wp2
    go_ret
    exact ⟨rfl, rfl⟩
  rw [if_neg q1]
  have q1' : decide (33280 ≤ a) = false := by simpa using q1
  have q1'' : decide ((33280 : Int) ≤ a) = false := by simp; omega
  by_cases q2 : 32768 ≤ a
  · rw [if_pos q2]
    have q2' : (32768 : Int) ≤ a := by omega
    have e : (a : Int) - 32768 = ((a - 32768 : Nat) : Int) := by omega
    have cc := hF.out (a - 32768) (by omega)
    have ij' := ij (a - 32768) (by omega)
    rw [← e] at ij'
    clear q1 q2 e ij im hM hF
    go_enter Try.func30, Try.ntmps30
    go_wp2
    go_ret
    exact ⟨rfl, rfl⟩
  rw [if_neg q2]
  have q2' : decide (32768 ≤ a) = false := by simpa using q2
  have q2'' : decide ((32768 : Int) ≤ a) = false := by simp; omega
  clear q1 q2
  cases on with
  | true =>
    simp only [if_true]
    have e : ((a % 512 : Nat) : Int) = (a : Int) % 512 := by omega
    have e1 : (a : Int).tmod 512 = (a : Int) % 512 := Int.tmod_eq_emod_of_nonneg (by omega)
    have cc := hF.out (a % 512) (by omega)
    have ij' := ij (a % 512) (by omega)
    rw [e] at ij'
    clear e ij im hM hF
    go_enter Try.func30, Try.ntmps30
    go_wp2
    go_ret
    exact ⟨rfl, rfl⟩
  | false =>
    simp only [Bool.false_eq_true, if_false]
    by_cases q3 : a < n
    · rw [if_pos q3]
      have q3' : (a : Int) < n := by omega
      have cc := hM.out a q3
      have im' := im a q3
      clear q3 ij im hM hF
      go_enter Try.func30, Try.ntmps30
      go_wp2
      go_ret
      exact ⟨rfl, rfl⟩
    · rw [if_neg q3]
      have q3' : (n : Int) ≤ a := by omega
      clear q3 ij im hM hF
      go_enter Try.func30, Try.ntmps30
      go_wp2
      go_ret
      exact ⟨rfl, rfl⟩

theorem rwrite_any (w : World) (r m f : Nat) (S : St) (h : Ref w r m f S) (a : Nat) (ha : a < 65536) (b : Int) :
    Calls Try.prog 35 #[.pointer (some ⟨r, 0, none⟩), .int .u16 (a : Int), .int .u8 b] w fun e w' => (∃ v, e = .returned v) ∧ Ref w' r m f (S.write a b) ∧ Upd (· = m) w w' := by
  have c0 := h.c0
  have c2 := h.c2
  have hh : Hid (Ref w r m f S) := h
  obtain ⟨n, hn⟩ : ∃ n, Hid (S.n = n) := ⟨_, (rfl : S.n = S.n)⟩
  obtain ⟨on, ho⟩ : ∃ n, Hid (S.on = n) := ⟨_, (rfl : S.on = S.on)⟩
  rw [hn.out] at c0
  rw [ho.out] at c2
  rw [write_eq]
  clear h
  cases on with
  | true =>
    rw [if_neg (fun h => by rw [ho.out] at h; simp at h)]
    go_enter Try.func35, Try.ntmps35
    go_wp2
    go_returns
    exact ⟨⟨_, rfl⟩, hh.out, Upd.refl _ _⟩
  | false =>
    by_cases q3 : a < n
    · rw [if_pos ⟨ho.out, by rw [hn.out]; exact q3⟩]
      have q3' : (a : Int) < n := by omega
      have cc := hh.out.mem.cell a (by rw [hn.out]; exact q3)
      have hfz := hh.out.mem.frozen a
      have im := fun v => idxS (g := m) (off := 0) (len := n) (cap := n) Try.underlying23 (s := 1) (by kernel_rfl) .u16 a v q3
      simp only [Nat.zero_add, Nat.mul_one] at im
      have fin : Hid (Ref (w.setCell ⟨m, a, none⟩ (.int .u8 b)) r m f { S with ram := fun k => if k = a then b else S.ram k } ∧ Upd (· = m) w (w.setCell ⟨m, a, none⟩ (.int .u8 b))) :=
        ⟨⟨(Upd.set w).at hh.out.box hh.out.rm.1, hh.out.mem.set a (by rw [hn.out]; exact q3) b, hh.out.fix.keep (Upd.set w) (fun e => hh.out.ne e.symm), hh.out.ne⟩, Upd.set _⟩
      obtain ⟨x, hx⟩ : ∃ n, S.ram a = n := ⟨_, rfl⟩
      rw [hx] at cc
      clear q3 hx hh hn ho
      go_enter Try.func35, Try.ntmps35
      go_wp2
      go_returns
      exact ⟨⟨_, rfl⟩, fin.out⟩
    · rw [if_neg (fun h => by rw [hn.out] at h; omega)]
      have q3' : (n : Int) ≤ a := by omega
      clear q3
      go_enter Try.func35, Try.ntmps35
      go_wp2
      go_returns
      exact ⟨⟨_, rfl⟩, hh.out, Upd.refl _ _⟩
end Go.Proofs.Ythjpghnmnbhaiaa
