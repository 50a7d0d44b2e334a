/- store: fresh, RAM, ROM, Lay; the document's Bytes. -/
import Derived.Test.YthjpghnmnbhaiaaWake
namespace Go.Proofs.Ythjpghnmnbhaiaa
open Go Go.RowKit
set_option linter.unusedVariables false
set_option maxHeartbeats 1000000
set_option maxRecDepth 20000

theorem el23 : Try.prog.elem 23 = 5 := by kernel_rfl
theorem sz23 (w : World) : (sizeOf (Try.prog.elem 23)).run Try.prog w = .ok 1 w := by kernel_rfl
/-- A row cut from a place on. -/
def cutAd (g p cap : Nat) : Addr := if p = cap then ⟨g, 0, none⟩ else ⟨g, p, none⟩
theorem cutAt (g p n cap : Nat) (h : p ≤ n) (hc : n ≤ cap) (v : World) : (Instr.sliceAt 23 (.slice (some ⟨g, 0, none⟩) n cap) (some (.int .i64 (p : Int))) none none).run Try.prog v = .ok (.slice (some (cutAd g p cap)) (n - p) (cap - p)) v := by
  rw [run_sliceAt_slice v 23 _ _ _ _ (by rw [el23]; exact Try.underlying23), run_slice_l v 23 _ _ _ (by rw [el23]; exact Try.underlying23) .i64 (p : Int) (by omega) (by omega), sz23]
  simp only [Result.andThen, sliced, cutAd]
  by_cases e : p = cap
  · subst e; simp
  · have : ¬ cap = p := fun h => e h.symm
    simp [e, this, addN]

theorem length_lay {α : Type} (L : List α) (off : Nat) (cs : List α) (h : off + cs.length ≤ L.length) (k : Nat) : (splice L off cs)[k]? = if off ≤ k ∧ k < off + cs.length then cs[k - off]? else L[k]? := by
  unfold splice
  by_cases h1 : k < off
  · rw [List.getElem?_append_left (by simp; omega), List.getElem?_take, if_pos h1, if_neg (by omega)]
  · rw [List.getElem?_append_right (by simp; omega)]
    have e : k - (L.take off).length = k - off := by simp; omega
    rw [e]
    by_cases h2 : k < off + cs.length
    · rw [List.getElem?_append_left (by omega), if_pos (by omega)]
    · rw [List.getElem?_append_right (by omega), List.getElem?_drop, if_neg (by omega)]
      congr 1
      omega

/-- Bytes copied into new memory. -/
theorem fresh_any (w : World) (sp : Option Addr) (len cap : Nat) (hlen : len ≤ 140000000000000) (Y : Nat → Int) (hY : Hid (Lies w sp len Y)) :
    Calls Try.prog 37 #[.slice sp len cap] w fun e w' => e = .returned (.slice (some ⟨w.heap.size, 0, none⟩) len len) ∧ Blk w' w.heap.size len Y ∧ Below w.heap.size w w' := by
  have hmk : ∀ v, (Instr.makeSlice 23 (.int .i64 (len : Int)) (.int .i64 (len : Int))).run Try.prog v = .ok (.slice (some ⟨v.heap.size, 0, none⟩) len len) (v.alloc (.cells (madeCells #[.int .u8 0] len) 5)) := fun v => run_make_row' (P := Try.prog) 23 5 (.int .u8 0) 1 Try.underlying23 infoB rfl .i64 .i64 len (by omega) (by omega) v
  have hms : (madeCells #[Value.int .u8 0] len).size = len := by simp [size_madeCells]
  obtain ⟨M, hM⟩ : ∃ M, madeCells #[Value.int .u8 0] len = M := ⟨_, rfl⟩
  rw [hM] at hmk hms
  have hms' : Hid (M.size = len) := hms
  have HB0 : Below w.heap.size w (w.alloc (.cells M 5)) := (Below.refl _ _).alloc (Nat.le_refl _) _
  clear hM hms
  go_enter Try.func37, Try.ntmps37
  go_wp2_with (refine wpList_copy_splice rfl (.tmp 7) (.tmp 8) 23 23 rfl 5 Try.underlying23 (by kernel_rfl) (some ⟨w.heap.size, 0, none⟩) sp len len len cap rfl rfl w.heap.size 0 M.toList 5 ?g1 (rowOf len Y) ?g2 ?g3 ?g4 (rowOf_one _ _) w.heap.size w HB0 (Nat.le_refl _) ?_)
  case g1 => rw [Array.toArray_toList]; exact alloc_last' w _
  case g2 => rw [rowOf_len]; show len = min len len; omega
  case g3 =>
    intro hp
    rw [rowOf_len] at hp
    obtain ⟨ad, e, hc⟩ := (hY.out.below HB0).src (Nat.le_refl _) hp
    first | exact ⟨ad, e, hc⟩ | exact ⟨rfl, ad, e, hc⟩
  case g4 => rw [rowOf_len, Array.length_toList, hms'.out]; omega
  intro w1 hw1 HB1
  have fin : Hid (Blk w1 w.heap.size len Y) := by
    refine ⟨_, hw1.out, ?_, fun j hj => ?_⟩
    · have := length_splice M.toList 0 (rowOf len Y) (by rw [rowOf_len, Array.length_toList, hms'.out]; omega)
      simpa [hms'.out] using this
    · rw [List.getElem?_toArray, length_lay _ _ _ (by rw [rowOf_len, Array.length_toList, hms'.out]; omega), if_pos (by rw [rowOf_len]; omega)]
      exact rowOf_at _ _ _ hj
  clear hw1 hms' HB0 hmk
  go_wp2
  go_ret
  exact ⟨rfl, fin.out, HB1⟩

theorem ram_any (w : World) (g : Nat) (S : St) (ok : S.ok) (h : Sto w g S) :
    Calls Try.prog 18 #[.pointer (some ⟨g, 0, none⟩)] w fun e w' => e = .returned (.slice (some ⟨w.heap.size, 0, none⟩) S.n S.n) ∧ Blk w' w.heap.size S.n S.ram ∧ Below w.heap.size w w' := by
  have hc := cells_any w g S ok h
  have n1 := ok.hi
  have hf := fun k => fresh_any (w.drewN k) (some ⟨g, 0, none⟩) S.n 32768 (by omega) S.ram (fun j hj => ⟨g, 0, rfl, by rw [Nat.zero_add]; exact h.ram j (by omega)⟩ : Lies _ _ _ _)
  obtain ⟨n, hn⟩ : ∃ n, S.n = n := ⟨_, rfl⟩
  rw [hn] at hc hf
  rw [hn]
  clear h ok n1 hn
  go_enter Try.func18, Try.ntmps18
  go_wp2_with (first
    | (go_at_call 34; refine hc.mono ?_; rintro e w1 ⟨rfl, k, rfl⟩)
    | (go_at_call 37; refine (hf _).mono ?_; rintro e w1 ⟨rfl, hb, hB⟩))
  go_ret
  exact ⟨rfl, hb, (below_drewN (Below.refl _ _)).trans hB⟩

theorem romm_any (w : World) (g : Nat) (S : St) (h : Sto w g S) :
    Calls Try.prog 20 #[.pointer (some ⟨g, 0, none⟩)] w fun e w' => e = .returned (.slice (some ⟨w.heap.size, 0, none⟩) 512 512) ∧ Blk w' w.heap.size 512 S.rom ∧ Below w.heap.size w w' := by
  have hf := fresh_any w (some ⟨g, 32769, none⟩) 512 512 (by omega) S.rom (fun j hj => ⟨g, 32769, rfl, h.rom j hj⟩ : Lies _ _ _ _)
  have cut := cutRom g
  clear h
  go_enter Try.func20, Try.ntmps20
  go_wp2_with (first
    | (go_at_call 37; refine hf.mono ?_; rintro e w1 ⟨rfl, hb, hB⟩))
  go_ret
  exact ⟨rfl, hb, hB⟩

theorem Cel.lay {C : Array Value} {S : St} (h : Cel C S) (p len : Nat) (Y : Nat → Int) (hp : p + len ≤ 32768) : Cel (splice C.toList p (rowOf len Y)).toArray (S.lay p len Y) := by
  have hl := h.len
  have at' : ∀ k, (splice C.toList p (rowOf len Y)).toArray[k]? = if p ≤ k ∧ k < p + len then some (.int .u8 (Y (k - p))) else C[k]? := fun k => by
    rw [List.getElem?_toArray, length_lay _ _ _ (by rw [rowOf_len]; simp; omega), rowOf_len]
    split
    · rw [rowOf_at _ _ _ (by omega)]
    · simp
  refine ⟨?_, fun k hk => ?_, ?_, fun k hk => ?_, ?_⟩
  · have := length_splice C.toList p (rowOf len Y) (by rw [rowOf_len]; simp; omega)
    simpa [hl] using this
  · rw [at', h.ram k hk]
    show _ = some (Value.int .u8 (if p ≤ k ∧ k < p + len then Y (k - p) else S.ram k))
    split <;> rfl
  · rw [at', if_neg (by omega)]; exact h.n
  · rw [at', if_neg (by omega)]; exact h.rom k hk
  · rw [at', if_neg (by omega)]; exact h.on
theorem St.ok.lay {S : St} (ok : S.ok) {p len : Nat} {Y : Nat → Int} (hY : ∀ j, 0 ≤ Y j ∧ Y j < 256) : (S.lay p len Y).ok :=
  ⟨ok.lo, ok.hi, ok.st, fun k => (by show 0 ≤ (if p ≤ k ∧ k < p + len then Y (k - p) else S.ram k) ∧ (if p ≤ k ∧ k < p + len then Y (k - p) else S.ram k) < 256; split <;> first | exact hY _ | exact ok.ram k), ok.rom⟩

theorem lay_some (w : World) (g : Nat) (S : St) (ok : S.ok) (h : Sto w g S) (p : Nat) (sp : Option Addr) (len cap : Nat) (hp : p + len ≤ S.n) (Y : Nat → Int) (hY : Hid (Lies w sp len Y)) :
    Calls Try.prog 25 #[.pointer (some ⟨g, 0, none⟩), .int .i64 (p : Int), .slice sp len cap] w fun e w' => e = .returned (.int .i64 0) ∧ Sto w' g (S.lay p len Y) ∧ Upd (· = g) w w' := by
  have hc := cells_any w g S ok h
  have n1 := ok.hi
  have c0 := h.n
  obtain ⟨C, hC, cel⟩ := h
  have cut := cutAt g p S.n 32768 (by omega) n1
  have cel' : Hid (Cel C S) := cel
  have hC' : Hid (w.heap[g]? = some (.cells C 53 (0, 0))) := hC
  have hlen : Hid (C.size = 33282 ∧ p + len ≤ S.n ∧ S.n ≤ 32768) := ⟨cel.len, hp, n1⟩
  obtain ⟨n, hn⟩ : ∃ n, S.n = n := ⟨_, rfl⟩
  rw [hn] at hc cut hlen c0 hp n1
  have d1 : decide ((p : Int) < 0) = false := by simp
  have d2 : decide ((n : Int) - (len : Int) < (p : Int)) = false := by simp; omega
  have d3 : ¬ ((n : Int) - (len : Int) < (p : Int)) := by omega
  have b1 : (n : Int) ≤ 32768 := by omega
  have b2 : (len : Int) ≤ 32768 := by omega
  have d4 : (p : Int) ≤ (n : Int) - (len : Int) := by omega
  clear hC cel ok hn hp n1 d3 d2
  go_enter Try.func25, Try.ntmps25
  go_wp2_with (first
    | (go_at_call 34; refine hc.mono ?_; rintro e w1 ⟨rfl, k, rfl⟩)
    | (refine wpList_copy_upd rfl (.tmp 25) (.tmp 26) 23 23 rfl 5 Try.underlying23 (by kernel_rfl) (some (cutAd g p 32768)) sp (n - p) (32768 - p) len cap rfl rfl g p C.toList 53 ?g1 (rowOf len Y) ?g2 ?g3 ?g4 (rowOf_one _ _) ?_))
  case g1 => rw [Array.toArray_toList]; exact hC'.out
  case g2 => rw [rowOf_len]; have := hlen.out; show len = min len (n - p); omega
  case g3 =>
    intro hp
    rw [rowOf_len] at hp
    have := hlen.out
    obtain ⟨ad, e, hc⟩ := hY.out.src (Nat.le_refl _) hp
    have e1 : cutAd g p 32768 = ⟨g, p, none⟩ := by unfold cutAd; rw [if_neg (by omega)]
    rw [e1]
    first | exact ⟨rfl, ad, e, hc⟩ | exact ⟨ad, e, hc⟩
  case g4 => rw [rowOf_len, Array.length_toList]; have := hlen.out; omega
  intro w1 hw1
  have fin : Hid (Sto w1 g (S.lay p len Y) ∧ Upd (· = g) w w1) := ⟨⟨_, hw1.out.1, cel'.out.lay p len Y (by have := hlen.out; omega)⟩, hw1.out.2.of_drewN⟩
  clear hw1 hlen hC' cel' cut hc
  go_wp2
  go_ret
  exact ⟨rfl, fin.out⟩

theorem lay_none (w : World) (g : Nat) (S : St) (ok : S.ok) (h : Sto w g S) (p : Int) (hp1 : -9223372036854775808 ≤ p) (hp2 : p ≤ 9223372036854775807) (sp : Option Addr) (len cap : Nat) (hlen : len ≤ maxLen) (hp : ¬ (0 ≤ p ∧ p + len ≤ S.n)) :
    Calls Try.prog 25 #[.pointer (some ⟨g, 0, none⟩), .int .i64 p, .slice sp len cap] w fun e w' => e = .returned (.int .i64 32) ∧ w' = w := by
  have n1 := ok.hi
  have c0 := h.n
  obtain ⟨n, hn⟩ : ∃ n, S.n = n := ⟨_, rfl⟩
  rw [hn] at c0 hp n1
  have b1 : (n : Int) ≤ 32768 := by omega
  have b2 : (len : Int) ≤ 9223372036854775807 := by unfold maxLen at hlen; omega
  clear ok h hn n1 hlen
  by_cases h0 : p < 0
  · clear hp
    go_enter Try.func25, Try.ntmps25
    go_wp2
    go_ret
    exact ⟨rfl, rfl⟩
  · have d1 : decide (p < 0) = false := by simpa using h0
    have d4 : (n : Int) - (len : Int) < p := by omega
    clear hp h0
    go_enter Try.func25, Try.ntmps25
    go_wp2
    go_ret
    exact ⟨rfl, rfl⟩
end Go.Proofs.Ythjpghnmnbhaiaa
