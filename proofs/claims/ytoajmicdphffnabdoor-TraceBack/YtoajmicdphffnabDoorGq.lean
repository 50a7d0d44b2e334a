/- strings.Join of a few short words with a blank between. -/
import Derived.Test.YtoajmicdphffnabDoorGw
import Derived.Test.YtoajmicdphffnabDoorGi
import Derived.Laws.Small
namespace Go.Proofs.YtoajmicdphffnabDoor
open Go Go.RowKit
set_option linter.unusedVariables false
set_option maxHeartbeats 4000000
set_option maxRecDepth 20000

theorem zeroVB (w : World) : (zeroValue 39).run Tryd.prog w = .ok (.agg #[.pointer none, .slice none 0 0]) w := by kernel_rfl
/-- A builder that holds so many bytes, made behind a world. -/
structure Bd (x : World) (B : List UInt8) (y : World) : Prop where
  bu : Lib.IsBuilder 39 5 x.heap.size x.heap.size (Lib.byteCells B) y
  low : Below x.heap.size x y
theorem Bd.below {x y z : World} {B : List UInt8} (h : Bd x B y) (hb : Below y.heap.size y z) : Bd x B z := ⟨IsB.below h.bu hb, h.low.trans (hb.mono h.low.size)⟩
theorem Bd.new (x : World) : Bd x [] (x.alloc (.cells #[.pointer none, .slice none 0 0] 39)) := ⟨Lib.fresh_isBuilder _ _ x, below1 x _⟩
theorem cells_app (B : List UInt8) (st : ByteArray) : Lib.byteCells B ++ Lib.strCells st = Lib.byteCells (B ++ strL st) := by simp [Lib.byteCells, Lib.strCells, strL]
def joinA : List ByteArray → List UInt8
  | [] => []
  | a :: r => strL a ++ joinT (r.map strL)
theorem joinT_snoc (l : List (List UInt8)) (x : List UInt8) : joinT (l ++ [x]) = joinT l ++ 32 :: x := by rw [joinT_app]; simp [joinT]
theorem joinT_size (l : List ByteArray) (h : ∀ s ∈ l, s.size ≤ 8) : (joinT (l.map strL)).length ≤ 9 * l.length := by
  induction l with
  | nil => simp [joinT]
  | cons a l ih =>
    have h1 := ih fun s hs => h s (List.mem_cons_of_mem _ hs)
    have h2 := h a List.mem_cons_self
    have e : joinT ((a :: l).map strL) = (32 :: strL a) ++ joinT (l.map strL) := by simp [joinT]
    rw [e, List.length_append, List.length_cons, strL_len, List.length_cons]
    omega
theorem slT (g n cap : Nat) (h2 : 2 ≤ n) (hn : n ≤ cap) : ∀ v, (Instr.sliceAt 79 (.slice (some ⟨g, 0, none⟩) n cap) (some (.int .i64 1)) none none).run Tryd.prog v = .ok (.slice (some ⟨g, 1, none⟩) (n - 1) (cap - 1)) v := fun v => by
  have hu : Tryd.prog.underlying 79 = some (.slice (Tryd.prog.elem 79)) := by kernel_rfl
  rw [run_sliceAt_slice v _ _ _ _ _ hu, run_slice_l v _ _ _ _ hu .i64 1 (by omega) (by omega)]
  have hz : ∀ v, (sizeOf (Tryd.prog.elem 79)).run Tryd.prog v = .ok 1 v := fun v => by kernel_rfl
  rw [hz]
  simp only [Result.andThen_ok, sliced]
  rw [if_neg (by simp; omega)]
  simp [Addr.add_lit]
theorem LiesT.at {x : World} {g : Nat} {O : List ByteArray} (h : LiesT x (some ⟨g, 0, none⟩) O) {j : Nat} {st : ByteArray} (hj : O[j]? = some st) : x.cell? ⟨g, j, none⟩ = some (.string st) := by
  obtain ⟨g', e, c⟩ := h j st hj
  cases e
  exact c
theorem join_any (w : World) (sp : Option Addr) (cap : Nat) (O : List ByteArray) (hl : Hid (LiesT w sp O)) (h2 : 2 ≤ O.length) (h8 : O.length ≤ 8) (hsz : ∀ s ∈ O, s.size ≤ 8) (hcap : O.length ≤ cap) :
    Calls Tryd.prog 49 #[.slice sp O.length cap, .string ⟨#[32]⟩] w fun e w' => e = .returned (.string ⟨(joinA O).toArray⟩) ∧ Hid (Below w.heap.size w w') := by
  obtain ⟨n, hn'⟩ : ∃ n, O.length = n := ⟨_, rfl⟩
  have hnn : Hid (O.length = n) := hn'
  rw [hn'] at h2 h8 hcap ⊢
  obtain ⟨a, r, hO⟩ : ∃ a r, O = a :: r := by
    match O, hn' with
    | [], h => simp at h; omega
    | a :: r, _ => exact ⟨a, r, rfl⟩
  obtain ⟨g, rfl, ca⟩ := hl.out 0 a (by rw [hO]; rfl)
  have hsl := slT g n cap h2 hcap
  have i0 : ∀ v, (Instr.indexAt 79 (.slice (some ⟨g, 0, none⟩) n cap) (.int .i64 0)).run Tryd.prog v = .ok (.pointer (some ⟨g, 0, none⟩)) v := fun v => idxT g n cap 0 (by omega) v
  have q0 : ((n : Int) == 0) = false := by simp; omega
  have q1 : ((n : Int) == 1) = false := by simp; omega
  obtain ⟨D, hD⟩ : ∃ x, (9223372036854775807 : Int).tdiv ((n : Int) - 1) = x := ⟨_, rfl⟩
  have hD1 : 1317624576693539401 ≤ D ∧ D ≤ 9223372036854775807 := by
    rcases (show n = 2 ∨ n = 3 ∨ n = 4 ∨ n = 5 ∨ n = 6 ∨ n = 7 ∨ n = 8 by omega) with h | h | h | h | h | h | h <;> subst h <;> subst hD <;> decide
  have qD : decide (D ≤ 1) = false := by simp; omega
  have wD : IntKind.i64.wrap D = D := by rw [IntKind.wrap_i64]; omega
  have n1 : ((n : Int) - 1 == 0) = false := by simp; omega
  have ni : (n : Int) ≤ 8 := by omega
  have n2 : 2 ≤ (n : Int) := by omega
  have hz : Hid (∀ (j : Nat) (s : ByteArray), O[j]? = some s → s.size ≤ 8) := fun j s h => hsz s (List.mem_of_getElem? h)
  have hJ : Hid (O = a :: r ∧ (∀ s ∈ O, s.size ≤ 8) ∧ n ≤ cap) := ⟨hO, hsz, hcap⟩
  have zb := zeroVB
  have h2' : Hid (2 ≤ n ∧ n ≤ 8) := ⟨h2, h8⟩
  replace ca : Hid _ := ca
  replace hsl : Hid _ := hsl
  clear hO hsz hn' hcap h2 h8
  go_enter Tryd.func49, Tryd.ntmps49
  go_wp2
  go_loopw [5, 41] (fun t i wz => ∃ (j : Nat) (u : Int), w = wz ∧ t = .int .i64 u ∧ i = .int .i64 (j : Int) ∧ Hid (j ≤ n) ∧ 0 ≤ u ∧ u ≤ 7 + 8 * (j : Int)) (fun _ i _ => (n - intOf i).toNat)
  case atStart => exact ⟨0, (n : Int) - 1, rfl, rfl, rfl, Nat.zero_le _, by omega, by omega⟩
  case round =>
    obtain ⟨j, u, rfl, rfl, rfl, J, u0, u1⟩ := hrel
    by_cases hlt : j < n
    · obtain ⟨st, hs, hdrop⟩ := at_list hnn.out hlt
      have cj := hl.out.at hs
      have sz := hz.out j st hs
      have ij := fun v => idxT g n cap j hlt v
      have q : decide (9223372036854775807 - u < (st.size : Int)) = false := by simp; omega
      have hji : (j : Int) < n := by omega
      have hlt' : Hid (j < n) := hlt
      replace hs : Hid _ := hs
      replace hdrop : Hid _ := hdrop
      clear hlt
      go_wp2
      go_roundw
      case rel => exact ⟨j + 1, _, by first | trivial | rfl, rfl, by simp, hlt'.out, by omega, by push_cast; omega⟩
      case measure => have := hlt'.out; simp [intOf]; omega
    · have hje : j = n := by have := J.out; omega
      clear hlt
      subst hje
      obtain ⟨N, hN⟩ : ∃ N : Nat, u = (N : Int) := ⟨u.toNat, by omega⟩
      subst hN
      have hG : Hid (∀ y : World, Fm w [(w.heap.size, #[.pointer none, .slice none 0 0], 39)] y → Calls Tryd.prog 61 #[.pointer (some ⟨w.heap.size, 0, none⟩), .int .i64 (N : Int)] y fun e w' => e = .returned (.tuple #[]) ∧ Hid (Bd w [] w')) := fun y h => (Tryd.Builder_Grow_fresh w.heap.size w.heap.size N y (Nat.le_refl _) (h.bx 0 _ _ _ rfl) h.low.size (by omega)).mono (by rintro e z ⟨rfl, h1, h2⟩; exact ⟨rfl, ⟨.inr h1, h.low.trans h2⟩⟩)
      have hF : Hid (Fm w [(w.heap.size, #[.pointer none, .slice none 0 0], 39)] (w.alloc (.cells #[.pointer none, .slice none 0 0] 39))) := Fm.one w _ _
      have ha8 : Hid (a.size ≤ 8 ∧ O[0]? = some a) := ⟨hJ.out.2.1 a (by rw [hJ.out.1]; exact List.mem_cons_self), by rw [hJ.out.1]; rfl⟩
      go_wp2_with (first
        | ((with_reducible refine gen_world (w.alloc (.cells #[.pointer none, .slice none 0 0] 39)) (Fm w [(w.heap.size, #[.pointer none, .slice none 0 0], 39)]) hF.out ?_); intro y1 K1)
        | ((with_reducible refine at_sl 79 (.tmp 62) (.const (.int .i64 1)) (.slice (some ⟨g, 0, none⟩) j cap) (.int .i64 1) (.slice (some ⟨g, 1, none⟩) (j - 1) (cap - 1)) ?_ ?_ ?_ ?_ ?_ ?_); kernel_rfl; rfl; rfl; rfl; exact hsl.out)
        | (go_at_call 61; refine (hG.out y1 K1.out).mono ?_; rintro e y2 ⟨rfl, K2⟩; have c0 := (hl.out.below K2.out.low).at ha8.out.2)
        | (go_at_call 14; refine (write_any w.heap.size w.heap.size (Lib.byteCells []) a y2 K2.out.bu ?_ K2.out.low.size).mono ?_; (have h1 := ha8.out.1; rw [Lib.byteCells_length]; simp; omega); rintro e y3 ⟨rfl, HH⟩; have K3 : Hid (Bd w ([] ++ strL a) y3) := ⟨by rw [← cells_app]; exact .inr HH.1, K2.out.low.trans HH.2⟩; clear HH))
      obtain ⟨m, hm⟩ : ∃ m, j - 1 = m := ⟨_, rfl⟩
      have hr : Hid (r.length = m) := by show _ = _; have h1 := hnn.out; rw [hJ.out.1, List.length_cons] at h1; omega
      have hm7 : Hid (m ≤ 7) := by have := h2'.out; show m ≤ 7; omega
      have mi : (m : Int) ≤ 7 := by have := hm7.out; omega
      have K4 : Hid (Bd w (strL a ++ joinT ((r.take 0).map strL)) y3) := by have h := K3.out; simp only [List.take_zero, List.map_nil, joinT, List.append_nil]; exact h
      have hjm : Hid (∀ v k, k < m → (Instr.indexAt 79 (.slice (some ⟨g, 1, none⟩) m (cap - 1)) (.int .i64 (k : Int))).run Tryd.prog v = .ok (.pointer (some ⟨g, k + 1, none⟩)) v) := fun v k hk => by
        have := idxP (g := g) (off := 1) (len := m) (cap := cap - 1) Tryd.underlying79 (s := 1) (by kernel_rfl) .i64 k v hk
        rw [Nat.mul_one, Nat.add_comm 1 k] at this
        exact this
      rw [hm]
      clear c0 hD1 qD wD
      go_loopw [65] (fun i wz => ∃ (k : Nat) (y : World), y = wz ∧ i = .int .i64 (k : Int) ∧ Hid (k ≤ m) ∧ Hid (Bd w (strL a ++ joinT ((r.take k).map strL)) y)) (fun i _ => (m - intOf i).toNat)
      case atStart => exact ⟨0, y3, rfl, rfl, Nat.zero_le _, K4⟩
      case round =>
        obtain ⟨k, y, rfl, rfl, J2, K⟩ := hrel
        by_cases hkm : k < m
        · obtain ⟨st, hs, hdrop⟩ := at_list hr.out hkm
          have hs2 : O[k + 1]? = some st := by rw [hJ.out.1]; simpa using hs
          have ck := (hl.out.below K.out.low).at hs2
          have sz := hz.out (k + 1) st hs2
          have ij := fun v => hjm.out v k hkm
          have hki : (k : Int) < m := by omega
          have hk' : Hid (k < m) := hkm
          have hsz8 : Hid (st.size ≤ 8) := sz
          have hB : Hid ((strL a ++ joinT ((r.take k).map strL)).length ≤ 80) := by
            have h1 := joinT_size (r.take k) (fun x hx => hJ.out.2.1 x (by rw [hJ.out.1]; exact List.mem_cons_of_mem _ (List.mem_of_mem_take hx)))
            have h2 := hJ.out.2.1 a (by rw [hJ.out.1]; exact List.mem_cons_self)
            have h3 := hm7.out
            have h4 : (r.take k).length ≤ 7 := by rw [List.length_take]; omega
            show _ ≤ 80
            rw [List.length_append, strL_len]
            omega
          have hnx : Hid ((strL a ++ joinT ((r.take k).map strL)) ++ strL ⟨#[32]⟩ ++ strL st = (strL a ++ joinT ((r.take (k + 1)).map strL))) := by
            show _ = _
            rw [List.take_add_one, hs]
            simp [joinT_snoc, strL]
          obtain ⟨BK, hBK⟩ : ∃ x, (strL a ++ joinT ((r.take k).map strL)) = x := ⟨_, rfl⟩
          rw [hBK] at K hB hnx
          replace hs : Hid _ := hs
          replace hs2 : Hid _ := hs2
          replace hdrop : Hid _ := hdrop
          clear hkm sz hBK
          go_wp2_with (first
            | (go_at_call 14; refine (write_any w.heap.size w.heap.size (Lib.byteCells (BK ++ strL ⟨#[32]⟩)) st y5 K5.out.bu ?_ K5.out.low.size).mono ?_; (have h1 := hB.out; have h2 := hsz8.out; rw [Lib.byteCells_length, List.length_append, strL_len]; show _ + 1 + _ ≤ _; omega); rintro e y6 ⟨rfl, HH⟩; have K6 : Hid (Bd w (BK ++ strL ⟨#[32]⟩ ++ strL st) y6) := ⟨by rw [← cells_app]; exact .inr HH.1, K5.out.low.trans HH.2⟩; clear HH)
            | (go_at_call 14; refine (write_any w.heap.size w.heap.size (Lib.byteCells BK) ⟨#[32]⟩ y K.out.bu ?_ K.out.low.size).mono ?_; (have h1 := hB.out; rw [Lib.byteCells_length]; show _ + 1 ≤ _; omega); rintro e y5 ⟨rfl, HH⟩; have K5 : Hid (Bd w (BK ++ strL ⟨#[32]⟩) y5) := ⟨by rw [← cells_app]; exact .inr HH.1, K.out.low.trans HH.2⟩; clear HH))
          go_roundw
          case rel => exact ⟨k + 1, _, rfl, by simp, hk'.out, by rw [← hnx.out]; exact K6⟩
          case measure => have := hk'.out; simp [intOf]; omega
        · have hke : k = m := by have := J2.out; omega
          subst hke
          have eB : (strL a ++ joinT ((r.take k).map strL)) = joinA O := by rw [hJ.out.1, List.take_of_length_le (by rw [hr.out]; exact Nat.le_refl _)]; rfl
          rw [eB] at K
          have hS := Tryd.Builder_String_any w.heap.size w.heap.size (joinA O) y K.out.bu K.out.low.size
          clear hkm eB
          go_wp2_with (go_at_call 17; refine hS.mono ?_; rintro e y6 ⟨rfl, H6⟩)
          go_ret
          exact ⟨rfl, K.out.low.trans H6⟩
end Go.Proofs.YtoajmicdphffnabDoor
