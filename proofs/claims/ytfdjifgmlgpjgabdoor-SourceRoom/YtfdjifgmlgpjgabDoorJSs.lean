/- A printed source with more room in it: the statement's own functions. -/
import Derived.Test.YtfdjifgmlgpjgabDoorJSr
import Derived.Test.YtfdjifgmlgpjgabDoorJIq
import Derived.Lib.AppendStr
namespace Go.Proofs.YtfdjifgmlgpjgabDoor
open Go Go.RowKit
set_option linter.unusedVariables false
set_option maxHeartbeats 3000000
set_option maxRecDepth 20000

def pkV (c : Int) : Int := (if c < 0 then -(c + 1) else c) % 3
theorem pick_any (c : Int) (h : -9223372036854775808 ≤ c ∧ c ≤ 9223372036854775807) (w : World) : Calls Tryd.prog 15 #[.int .i64 c, .int .i64 3] w fun e w' => e = .returned (.int .i64 (pkV c)) ∧ w' = w := by
  by_cases hc : c < 0
  · have e : pkV c = (-(c + 1)) % 3 := by unfold pkV; rw [if_pos hc]
    rw [e]
    have e2 : (-(c + 1)).tmod 3 = (-(c + 1)) % 3 := Int.tmod_eq_emod_of_nonneg (by omega)
    go_enter Tryd.func15, Tryd.ntmps15
    go_wp2
    go_ret
    exact ⟨by first | rfl | simp [e2] | omega, rfl⟩
  · have e : pkV c = c % 3 := by unfold pkV; rw [if_neg hc]
    rw [e]
    have e2 : c.tmod 3 = c % 3 := Int.tmod_eq_emod_of_nonneg (by omega)
    go_enter Tryd.func15, Tryd.ntmps15
    go_wp2
    go_ret
    exact ⟨by first | rfl | simp [e2] | omega, rfl⟩
/-- A room as its cells. -/
structure Rm where
  a : Int
  t : Bool
  s : ByteArray
def cR (r : Rm) : List Value := [.int .i64 r.a, .bool r.t, .string r.s]
/-- What the rooms say of the k-th place. -/
def fR (R : List Rm) (k : Nat) : Option (Bool × List UInt8) := match R[k]? with
  | none => none
  | some r => if pkV r.a = 0 then some (r.t, plainL (strL r.s)) else none
theorem fR_ok (R : List Rm) : okF (fR R) := by
  intro k t m h
  unfold fR at h
  split at h
  · cases h
  · split at h
    · injection h with h
      injection h with h1 h2
      subst h2
      exact plain_no _
    · cases h
theorem rm_at {w : World} {sp : Option Addr} {R : List Rm} (h : LiesL 3 cR w sp R) {k : Nat} {r : Rm} (hk : R[k]? = some r) : ∃ g o, sp = some ⟨g, o, none⟩ ∧ ∀ z, Below w.heap.size w z → z.cell? ⟨g, o + k * 3, none⟩ = some (.int .i64 r.a) ∧ z.cell? ⟨g, o + k * 3 + 1, none⟩ = some (.bool r.t) ∧ z.cell? ⟨g, o + k * 3 + 2, none⟩ = some (.string r.s) := by
  obtain ⟨g, o, e, hc⟩ := h k r hk
  have cell : ∀ (i : Nat) v, (cR r)[i]? = some v → ∀ z, Below w.heap.size w z → z.cell? ⟨g, o + k * 3 + i, none⟩ = some v := fun i v hv z hz => by
    have c := hc i v hv
    exact (hz.cell (p := ⟨g, o + k * 3 + i, none⟩) (World.block_lt_of_cell? w _ c)).trans c
  exact ⟨g, o, e, fun z hz => ⟨cell 0 _ rfl z hz, cell 1 _ rfl z hz, cell 2 _ rfl z hz⟩⟩
theorem sp_step {f : Nat → Option (Bool × List UInt8)} {l : List UInt8} {i k : Nat} {c : UInt8} (h : l[i]? = some c) : spG f (l.drop i) k = if c = 32 then spB (f k) ++ spG f (l.drop (i + 1)) (k + 1) else if c = 10 then spN (f k) ++ spG f (l.drop (i + 1)) (k + 1) else c :: spG f (l.drop (i + 1)) k := by
  have hi := (List.getElem?_eq_some_iff.1 h)
  obtain ⟨hi, rfl⟩ := hi
  rw [List.drop_eq_getElem_cons hi]
  rfl
theorem spaced_any (w : World) (s : ByteArray) (hs : s.size ≤ 65536) (sp : Option Addr) (cap : Nat) (R : List Rm) (hR : Hid (LiesL 3 cR w sp R)) (hm0 : R.length ≤ 9223372036854775807) (hin : Hid (∀ r ∈ R, (-9223372036854775808 ≤ r.a ∧ r.a ≤ 9223372036854775807) ∧ r.s.size ≤ 9223372036854775807)) :
    Calls Tryd.prog 6 #[.string s, .slice sp R.length cap] w fun e w' => e = .returned (.string ⟨(spG (fR R) (strL s) 0).toArray⟩) ∧ Hid (Below w.heap.size w w') := by
  have ni : (s.size : Int) ≤ 65536 := by omega
  have hs' : Hid (s.size ≤ 65536) := hs
  obtain ⟨m, hm⟩ : ∃ m, R.length = m := ⟨_, rfl⟩
  have hm' : Hid (R.length = m) := hm
  rw [hm] at hm0 ⊢
  obtain ⟨i5, hi5, hz0, hz1, hz2⟩ := info_parts infoB
  have B1 : Hid (KB w (.slice none 0 0) [] w) := KB.nil w
  clear hs hm
  go_enter Tryd.func6, Tryd.ntmps6
  go_wp2
  go_loopw [5, 6, 7] (fun u t x wz => ∃ (i k : Nat) (va : Value) (B : List UInt8) (z : World), z = wz ∧ va = u ∧ t = .int .i64 (k : Int) ∧ x = .int .i64 (i : Int) ∧ Hid (spG (fR R) (strL s) 0 = B ++ spG (fR R) ((strL s).drop i) k ∧ B.length ≤ 48 * i ∧ i ≤ s.size ∧ k ≤ i) ∧ Hid (KB w va B z)) (fun _ _ x _ => (s.size - intOf x).toNat)
  case atStart => exact ⟨0, 0, _, [], w, rfl, rfl, rfl, rfl, ⟨rfl, Nat.zero_le _, Nat.zero_le _, Nat.le_refl _⟩, B1⟩
  case round =>
    obtain ⟨i, k, va, B, z, rfl, rfl, rfl, rfl, J, K⟩ := hrel
    by_cases hlt : i < s.size
    · have hii : (i : Int) < s.size := by omega
      have hi' : Hid (i < s.size) := hlt
      have hst := sp_step (f := fR R) (k := k) (strL_get s i hlt)
      have hBl : Hid (B.length ≤ 3145728) := by have h1 := J.out; have h2 := hs'.out; show _ ≤ _; omega
      have hk6 : (k : Int) ≤ 65536 := by have h1 := J.out; have h2 := hs'.out; omega
      by_cases hk : k < m
      · have hki : (k : Int) < m := by omega
        have hkl : k < R.length := by rw [hm'.out]; exact hk
        obtain ⟨r, hr⟩ : ∃ r, R[k]? = some r := ⟨_, List.getElem?_eq_getElem hkl⟩
        obtain ⟨g, o, rfl, hrm0⟩ := rm_at hR.out hr
        have hrm : Hid (∀ z, Below w.heap.size w z → z.cell? ⟨g, o + k * 3, none⟩ = some (.int .i64 r.a) ∧ z.cell? ⟨g, o + k * 3 + 1, none⟩ = some (.bool r.t) ∧ z.cell? ⟨g, o + k * 3 + 2, none⟩ = some (.string r.s)) := hrm0
        obtain ⟨ca, cb, cw0⟩ := hrm0 z K.out.2
        clear hrm0
        have ix := fun w => idxP (g := g) (off := o) (len := m) (cap := cap) Tryd.underlying23 (s := 3) (by kernel_rfl) .i64 k w hk
        have hri := hin.out r (List.mem_of_getElem? hr)
        have hPk : Hid (∀ v, Calls Tryd.prog 15 #[.int .i64 r.a, .int .i64 3] v fun e w' => e = .returned (.int .i64 (pkV r.a)) ∧ w' = v) := fun v => pick_any r.a hri.1 v
        have hPl : Hid (∀ v, Calls Tryd.prog 16 #[.string r.s] v fun e w' => e = .returned (.string ⟨(plainL (strL r.s)).toArray⟩) ∧ Hid (Below v.heap.size v w')) := fun v => plain_any v r.s hri.2
        have hPn : Hid ((⟨(plainL (strL r.s)).toArray⟩ : ByteArray).size ≤ 40) := by have := plain_len (strL r.s); show _ ≤ _; simpa [ByteArray.size] using this
        clear hri
        by_cases hp : pkV r.a = 0
        · have hf : fR R k = some (r.t, plainL (strL r.s)) := by unfold fR; rw [hr]; exact if_pos hp
          rw [hp] at hPk
          replace hr : Hid _ := hr
          replace hp : Hid _ := hp
          by_cases hc : (s[i]'hlt) = 32
          · have e1 : (((s[i]'hlt).toNat : Int) == 32) = true := by rw [hc]; decide
            have e2 : (((s[i]'hlt).toNat : Int) == 10) = false := by rw [hc]; decide
            by_cases ht : r.t = true
            · have J2 : Hid (spG (fR R) (strL s) 0 = (B ++ [9] ++ strL ⟨#[32, 32]⟩ ++ [(s[i]'hlt)]) ++ spG (fR R) ((strL s).drop (i + 1)) (k + 1) ∧ (B ++ [9] ++ strL ⟨#[32, 32]⟩ ++ [(s[i]'hlt)]).length ≤ 48 * (i + 1) ∧ i + 1 ≤ s.size ∧ k + 1 ≤ i + 1) := by
                refine ⟨?_, ?_, hlt, ?_⟩
                · rw [J.out.1, hst, if_pos hc, hf, hc]; simp [spB, tabL, strL, ht]
                · have h1 := J.out.2.1; have h2 := hPn.out; have q1 : (⟨#[32, 32]⟩ : ByteArray).size = 2 := rfl; have q2 : (⟨#[32, 59]⟩ : ByteArray).size = 2 := rfl; have q3 : (⟨#[10, 9, 32, 10]⟩ : ByteArray).size = 4 := rfl; simp only [List.length_append, List.length_cons, List.length_nil, strL_len]; omega
                · have := J.out.2.2.2; omega
              rw [ht] at cb
              replace hst : Hid _ := hst
              replace hc : Hid _ := hc
              replace hf : Hid _ := hf
              go_wp2_with (first
                | (go_at_call 15; refine (hPk.out z).mono ?_; rintro e z ⟨rfl, rfl⟩; clear hPk)
                | (at_builtin; refine wpList_append_own _ rfl _ _ 38 rfl w.heap.size 5 i5 (.int .u8 0) 1 1 Tryd.underlying38 hi5 hz0 hz1 hz2 rfl (by decide) va (B).length ((B).map byV) rfl (K.out.1.alloc _) ⟨z.heap.size, 0, none⟩ 1 1 [.int .u8 9] rfl rfl (one_byt z _) (by simp [Value.oneCell']) ?_ ?_ ?_ ?_; (have h1 := hBl.out; have h2 := hPn.out; have q1 : (⟨#[32, 32]⟩ : ByteArray).size = 2 := rfl; have q2 : (⟨#[32, 59]⟩ : ByteArray).size = 2 := rfl; have q3 : (⟨#[10, 9, 32, 10]⟩ : ByteArray).size = 4 := rfl; unfold maxLen; first | omega | (simp only [List.length_append, List.length_cons, List.length_nil, strL_len]; omega)); (have h1 := hBl.out; have h2 := hPn.out; have q1 : (⟨#[32, 32]⟩ : ByteArray).size = 2 := rfl; have q2 : (⟨#[32, 59]⟩ : ByteArray).size = 2 := rfl; have q3 : (⟨#[10, 9, 32, 10]⟩ : ByteArray).size = 4 := rfl; first | omega | (simp only [List.length_append, List.length_cons, List.length_nil, strL_len]; omega)); (have := K.out.2.size; simp; omega); intro v1 z1 h3 h4 h5; have K1 : Hid (KB w v1 (B ++ [9]) z1) := K.out.one (b := 9) h3 h4; clear h3 h4 h5 K)
                | (at_builtin; refine Lib.wpList_append_own_string _ rfl _ _ 38 9 rfl w.heap.size 5 i5 Tryd.underlying38 Tryd.underlying9 hi5 hz0 hz1 hz2 v1 (B ++ [9]).length ((B ++ [9]).map byV) rfl K1.out.1 ⟨#[32, 32]⟩ rfl ?_ ?_ ?_ ?_; (have h1 := hBl.out; have h2 := hPn.out; have q1 : (⟨#[32, 32]⟩ : ByteArray).size = 2 := rfl; have q2 : (⟨#[32, 59]⟩ : ByteArray).size = 2 := rfl; have q3 : (⟨#[10, 9, 32, 10]⟩ : ByteArray).size = 4 := rfl; unfold maxLen; first | omega | (simp only [List.length_append, List.length_cons, List.length_nil]; omega)); (have h1 := hBl.out; have h2 := hPn.out; have q1 : (⟨#[32, 32]⟩ : ByteArray).size = 2 := rfl; have q2 : (⟨#[32, 59]⟩ : ByteArray).size = 2 := rfl; have q3 : (⟨#[10, 9, 32, 10]⟩ : ByteArray).size = 4 := rfl; first | omega | (simp only [List.length_append, List.length_cons, List.length_nil]; omega)); exact K1.out.2.size; intro v2 z2 h3 h4 h5; have K2 : Hid (KB w v2 (B ++ [9] ++ strL ⟨#[32, 32]⟩) z2) := K1.out.str (s := ⟨#[32, 32]⟩) h3 h4; clear h3 h4 h5 K1)
                | (at_builtin; refine wpList_append_own _ rfl _ _ 38 rfl w.heap.size 5 i5 (.int .u8 0) 1 1 Tryd.underlying38 hi5 hz0 hz1 hz2 rfl (by decide) v2 (B ++ [9] ++ strL ⟨#[32, 32]⟩).length ((B ++ [9] ++ strL ⟨#[32, 32]⟩).map byV) rfl (K2.out.1.alloc _) ⟨z2.heap.size, 0, none⟩ 1 1 [.int .u8 ((s[i]'hlt).toNat : Int)] rfl rfl (one_byt z2 _) (by simp [Value.oneCell']) ?_ ?_ ?_ ?_; (have h1 := hBl.out; have h2 := hPn.out; have q1 : (⟨#[32, 32]⟩ : ByteArray).size = 2 := rfl; have q2 : (⟨#[32, 59]⟩ : ByteArray).size = 2 := rfl; have q3 : (⟨#[10, 9, 32, 10]⟩ : ByteArray).size = 4 := rfl; unfold maxLen; first | omega | (simp only [List.length_append, List.length_cons, List.length_nil, strL_len]; omega)); (have h1 := hBl.out; have h2 := hPn.out; have q1 : (⟨#[32, 32]⟩ : ByteArray).size = 2 := rfl; have q2 : (⟨#[32, 59]⟩ : ByteArray).size = 2 := rfl; have q3 : (⟨#[10, 9, 32, 10]⟩ : ByteArray).size = 4 := rfl; first | omega | (simp only [List.length_append, List.length_cons, List.length_nil, strL_len]; omega)); (have := K2.out.2.size; simp; omega); intro v3 z3 h3 h4 h5; have K3 : Hid (KB w v3 (B ++ [9] ++ strL ⟨#[32, 32]⟩ ++ [(s[i]'hlt)]) z3) := K2.out.one (b := (s[i]'hlt)) h3 h4; clear h3 h4 h5 K2))
              go_roundw
              case rel => exact ⟨i + 1, k + 1, _, _, _, rfl, rfl, by simp, by simp, J2, K3⟩
              case measure => have := hi'.out; simp [intOf]; omega
            · replace ht : r.t = false := by simpa using ht
              have J2 : Hid (spG (fR R) (strL s) 0 = (B ++ strL ⟨#[32, 32]⟩ ++ [(s[i]'hlt)]) ++ spG (fR R) ((strL s).drop (i + 1)) (k + 1) ∧ (B ++ strL ⟨#[32, 32]⟩ ++ [(s[i]'hlt)]).length ≤ 48 * (i + 1) ∧ i + 1 ≤ s.size ∧ k + 1 ≤ i + 1) := by
                refine ⟨?_, ?_, hlt, ?_⟩
                · rw [J.out.1, hst, if_pos hc, hf, hc]; simp [spB, tabL, strL, ht]
                · have h1 := J.out.2.1; have h2 := hPn.out; have q1 : (⟨#[32, 32]⟩ : ByteArray).size = 2 := rfl; have q2 : (⟨#[32, 59]⟩ : ByteArray).size = 2 := rfl; have q3 : (⟨#[10, 9, 32, 10]⟩ : ByteArray).size = 4 := rfl; simp only [List.length_append, List.length_cons, List.length_nil, strL_len]; omega
                · have := J.out.2.2.2; omega
              rw [ht] at cb
              replace hst : Hid _ := hst
              replace hc : Hid _ := hc
              replace hf : Hid _ := hf
              go_wp2_with (first
                | (go_at_call 15; refine (hPk.out z).mono ?_; rintro e z ⟨rfl, rfl⟩; clear hPk)
                | (at_builtin; refine Lib.wpList_append_own_string _ rfl _ _ 38 9 rfl w.heap.size 5 i5 Tryd.underlying38 Tryd.underlying9 hi5 hz0 hz1 hz2 va (B).length ((B).map byV) rfl K.out.1 ⟨#[32, 32]⟩ rfl ?_ ?_ ?_ ?_; (have h1 := hBl.out; have h2 := hPn.out; have q1 : (⟨#[32, 32]⟩ : ByteArray).size = 2 := rfl; have q2 : (⟨#[32, 59]⟩ : ByteArray).size = 2 := rfl; have q3 : (⟨#[10, 9, 32, 10]⟩ : ByteArray).size = 4 := rfl; unfold maxLen; first | omega | (simp only [List.length_append, List.length_cons, List.length_nil, strL_len]; omega)); (have h1 := hBl.out; have h2 := hPn.out; have q1 : (⟨#[32, 32]⟩ : ByteArray).size = 2 := rfl; have q2 : (⟨#[32, 59]⟩ : ByteArray).size = 2 := rfl; have q3 : (⟨#[10, 9, 32, 10]⟩ : ByteArray).size = 4 := rfl; first | omega | (simp only [List.length_append, List.length_cons, List.length_nil, strL_len]; omega)); exact K.out.2.size; intro v1 z1 h3 h4 h5; have K1 : Hid (KB w v1 (B ++ strL ⟨#[32, 32]⟩) z1) := K.out.str (s := ⟨#[32, 32]⟩) h3 h4; clear h3 h4 h5 K)
                | (at_builtin; refine wpList_append_own _ rfl _ _ 38 rfl w.heap.size 5 i5 (.int .u8 0) 1 1 Tryd.underlying38 hi5 hz0 hz1 hz2 rfl (by decide) v1 (B ++ strL ⟨#[32, 32]⟩).length ((B ++ strL ⟨#[32, 32]⟩).map byV) rfl (K1.out.1.alloc _) ⟨z1.heap.size, 0, none⟩ 1 1 [.int .u8 ((s[i]'hlt).toNat : Int)] rfl rfl (one_byt z1 _) (by simp [Value.oneCell']) ?_ ?_ ?_ ?_; (have h1 := hBl.out; have h2 := hPn.out; have q1 : (⟨#[32, 32]⟩ : ByteArray).size = 2 := rfl; have q2 : (⟨#[32, 59]⟩ : ByteArray).size = 2 := rfl; have q3 : (⟨#[10, 9, 32, 10]⟩ : ByteArray).size = 4 := rfl; unfold maxLen; first | omega | (simp only [List.length_append, strL_len]; omega)); (have h1 := hBl.out; have h2 := hPn.out; have q1 : (⟨#[32, 32]⟩ : ByteArray).size = 2 := rfl; have q2 : (⟨#[32, 59]⟩ : ByteArray).size = 2 := rfl; have q3 : (⟨#[10, 9, 32, 10]⟩ : ByteArray).size = 4 := rfl; first | omega | (simp only [List.length_append, strL_len]; omega)); (have := K1.out.2.size; simp; omega); intro v2 z2 h3 h4 h5; have K2 : Hid (KB w v2 (B ++ strL ⟨#[32, 32]⟩ ++ [(s[i]'hlt)]) z2) := K1.out.one (b := (s[i]'hlt)) h3 h4; clear h3 h4 h5 K1))
              go_roundw
              case rel => exact ⟨i + 1, k + 1, _, _, _, rfl, rfl, by simp, by simp, J2, K2⟩
              case measure => have := hi'.out; simp [intOf]; omega
          · by_cases hc2 : (s[i]'hlt) = 10
            · have hc := hc2
              clear hc2
              have e1 : (((s[i]'hlt).toNat : Int) == 32) = false := by rw [hc]; decide
              have e2 : (((s[i]'hlt).toNat : Int) == 10) = true := by rw [hc]; decide
              by_cases ht : r.t = true
              · have J2 : Hid (spG (fR R) (strL s) 0 = (B ++ [9] ++ strL ⟨#[32, 59]⟩ ++ strL ⟨(plainL (strL r.s)).toArray⟩ ++ strL ⟨#[10, 9, 32, 10]⟩) ++ spG (fR R) ((strL s).drop (i + 1)) (k + 1) ∧ (B ++ [9] ++ strL ⟨#[32, 59]⟩ ++ strL ⟨(plainL (strL r.s)).toArray⟩ ++ strL ⟨#[10, 9, 32, 10]⟩).length ≤ 48 * (i + 1) ∧ i + 1 ≤ s.size ∧ k + 1 ≤ i + 1) := by
                  refine ⟨?_, ?_, hlt, ?_⟩
                  · rw [J.out.1, hst, if_neg (by rw [hc]; decide), if_pos hc, hf]; simp [spN, tabL, strL, ht]
                  · have h1 := J.out.2.1; have h2 := hPn.out; have q1 : (⟨#[32, 32]⟩ : ByteArray).size = 2 := rfl; have q2 : (⟨#[32, 59]⟩ : ByteArray).size = 2 := rfl; have q3 : (⟨#[10, 9, 32, 10]⟩ : ByteArray).size = 4 := rfl; simp only [List.length_append, List.length_cons, List.length_nil, strL_len]; omega
                  · have := J.out.2.2.2; omega
                rw [ht] at cb
                replace hst : Hid _ := hst
                replace hc : Hid _ := hc
                replace hf : Hid _ := hf
                go_wp2_with (first
                  | (go_at_call 15; refine (hPk.out z).mono ?_; rintro e z ⟨rfl, rfl⟩; clear hPk)
                  | (at_builtin; refine wpList_append_own _ rfl _ _ 38 rfl w.heap.size 5 i5 (.int .u8 0) 1 1 Tryd.underlying38 hi5 hz0 hz1 hz2 rfl (by decide) va (B).length ((B).map byV) rfl (K.out.1.alloc _) ⟨z.heap.size, 0, none⟩ 1 1 [.int .u8 9] rfl rfl (one_byt z _) (by simp [Value.oneCell']) ?_ ?_ ?_ ?_; (have h1 := hBl.out; have h2 := hPn.out; have q1 : (⟨#[32, 32]⟩ : ByteArray).size = 2 := rfl; have q2 : (⟨#[32, 59]⟩ : ByteArray).size = 2 := rfl; have q3 : (⟨#[10, 9, 32, 10]⟩ : ByteArray).size = 4 := rfl; unfold maxLen; first | omega | (simp only [List.length_append, List.length_cons, List.length_nil, strL_len]; omega)); (have h1 := hBl.out; have h2 := hPn.out; have q1 : (⟨#[32, 32]⟩ : ByteArray).size = 2 := rfl; have q2 : (⟨#[32, 59]⟩ : ByteArray).size = 2 := rfl; have q3 : (⟨#[10, 9, 32, 10]⟩ : ByteArray).size = 4 := rfl; first | omega | (simp only [List.length_append, List.length_cons, List.length_nil, strL_len]; omega)); (have := K.out.2.size; simp; omega); intro v1 z1 h3 h4 h5; have K1 : Hid (KB w v1 (B ++ [9]) z1) := K.out.one (b := 9) h3 h4; clear h3 h4 h5 K; have cw := (hrm.out z1 K1.out.2).2.2)
                  | (go_at_call 16; refine (hPl.out z1).mono ?_; rintro e z2 ⟨rfl, h2⟩; have K2 : Hid (KB w v1 (B ++ [9]) z2) := K1.out.below h2.out; clear h2 K1 hPl)
                  | (at_builtin; refine Lib.wpList_append_own_string _ rfl _ _ 38 9 rfl w.heap.size 5 i5 Tryd.underlying38 Tryd.underlying9 hi5 hz0 hz1 hz2 v1 (B ++ [9]).length ((B ++ [9]).map byV) rfl K2.out.1 ⟨#[32, 59]⟩ rfl ?_ ?_ ?_ ?_; (have h1 := hBl.out; have h2 := hPn.out; have q1 : (⟨#[32, 32]⟩ : ByteArray).size = 2 := rfl; have q2 : (⟨#[32, 59]⟩ : ByteArray).size = 2 := rfl; have q3 : (⟨#[10, 9, 32, 10]⟩ : ByteArray).size = 4 := rfl; unfold maxLen; first | omega | (simp only [List.length_append, List.length_cons, List.length_nil]; omega)); (have h1 := hBl.out; have h2 := hPn.out; have q1 : (⟨#[32, 32]⟩ : ByteArray).size = 2 := rfl; have q2 : (⟨#[32, 59]⟩ : ByteArray).size = 2 := rfl; have q3 : (⟨#[10, 9, 32, 10]⟩ : ByteArray).size = 4 := rfl; first | omega | (simp only [List.length_append, List.length_cons, List.length_nil]; omega)); exact K2.out.2.size; intro v3 z3 h3 h4 h5; have K3 : Hid (KB w v3 (B ++ [9] ++ strL ⟨#[32, 59]⟩) z3) := K2.out.str (s := ⟨#[32, 59]⟩) h3 h4; clear h3 h4 h5 K2)
                  | (at_builtin; refine Lib.wpList_append_own_string _ rfl _ _ 38 9 rfl w.heap.size 5 i5 Tryd.underlying38 Tryd.underlying9 hi5 hz0 hz1 hz2 v3 (B ++ [9] ++ strL ⟨#[32, 59]⟩).length ((B ++ [9] ++ strL ⟨#[32, 59]⟩).map byV) rfl K3.out.1 ⟨(plainL (strL r.s)).toArray⟩ rfl ?_ ?_ ?_ ?_; (have h1 := hBl.out; have h2 := hPn.out; have q1 : (⟨#[32, 32]⟩ : ByteArray).size = 2 := rfl; have q2 : (⟨#[32, 59]⟩ : ByteArray).size = 2 := rfl; have q3 : (⟨#[10, 9, 32, 10]⟩ : ByteArray).size = 4 := rfl; unfold maxLen; first | omega | (simp only [List.length_append, List.length_cons, List.length_nil, strL_len]; omega)); (have h1 := hBl.out; have h2 := hPn.out; have q1 : (⟨#[32, 32]⟩ : ByteArray).size = 2 := rfl; have q2 : (⟨#[32, 59]⟩ : ByteArray).size = 2 := rfl; have q3 : (⟨#[10, 9, 32, 10]⟩ : ByteArray).size = 4 := rfl; first | omega | (simp only [List.length_append, List.length_cons, List.length_nil, strL_len]; omega)); exact K3.out.2.size; intro v4 z4 h3 h4 h5; have K4 : Hid (KB w v4 (B ++ [9] ++ strL ⟨#[32, 59]⟩ ++ strL ⟨(plainL (strL r.s)).toArray⟩) z4) := K3.out.str (s := ⟨(plainL (strL r.s)).toArray⟩) h3 h4; clear h3 h4 h5 K3)
                  | (at_builtin; refine Lib.wpList_append_own_string _ rfl _ _ 38 9 rfl w.heap.size 5 i5 Tryd.underlying38 Tryd.underlying9 hi5 hz0 hz1 hz2 v4 (B ++ [9] ++ strL ⟨#[32, 59]⟩ ++ strL ⟨(plainL (strL r.s)).toArray⟩).length ((B ++ [9] ++ strL ⟨#[32, 59]⟩ ++ strL ⟨(plainL (strL r.s)).toArray⟩).map byV) rfl K4.out.1 ⟨#[10, 9, 32, 10]⟩ rfl ?_ ?_ ?_ ?_; (have h1 := hBl.out; have h2 := hPn.out; have q1 : (⟨#[32, 32]⟩ : ByteArray).size = 2 := rfl; have q2 : (⟨#[32, 59]⟩ : ByteArray).size = 2 := rfl; have q3 : (⟨#[10, 9, 32, 10]⟩ : ByteArray).size = 4 := rfl; unfold maxLen; first | omega | (simp only [List.length_append, List.length_cons, List.length_nil, strL_len]; omega)); (have h1 := hBl.out; have h2 := hPn.out; have q1 : (⟨#[32, 32]⟩ : ByteArray).size = 2 := rfl; have q2 : (⟨#[32, 59]⟩ : ByteArray).size = 2 := rfl; have q3 : (⟨#[10, 9, 32, 10]⟩ : ByteArray).size = 4 := rfl; first | omega | (simp only [List.length_append, List.length_cons, List.length_nil, strL_len]; omega)); exact K4.out.2.size; intro v5 z5 h3 h4 h5; have K5 : Hid (KB w v5 (B ++ [9] ++ strL ⟨#[32, 59]⟩ ++ strL ⟨(plainL (strL r.s)).toArray⟩ ++ strL ⟨#[10, 9, 32, 10]⟩) z5) := K4.out.str (s := ⟨#[10, 9, 32, 10]⟩) h3 h4; clear h3 h4 h5 K4))
                go_roundw
                case rel => exact ⟨i + 1, k + 1, _, _, _, rfl, rfl, by simp, by simp, J2, K5⟩
                case measure => have := hi'.out; simp [intOf]; omega
              · replace ht : r.t = false := by simpa using ht
                have cw := cw0
                have J2 : Hid (spG (fR R) (strL s) 0 = (B ++ strL ⟨#[32, 59]⟩ ++ strL ⟨(plainL (strL r.s)).toArray⟩ ++ strL ⟨#[10, 9, 32, 10]⟩) ++ spG (fR R) ((strL s).drop (i + 1)) (k + 1) ∧ (B ++ strL ⟨#[32, 59]⟩ ++ strL ⟨(plainL (strL r.s)).toArray⟩ ++ strL ⟨#[10, 9, 32, 10]⟩).length ≤ 48 * (i + 1) ∧ i + 1 ≤ s.size ∧ k + 1 ≤ i + 1) := by
                  refine ⟨?_, ?_, hlt, ?_⟩
                  · rw [J.out.1, hst, if_neg (by rw [hc]; decide), if_pos hc, hf]; simp [spN, tabL, strL, ht]
                  · have h1 := J.out.2.1; have h2 := hPn.out; have q1 : (⟨#[32, 32]⟩ : ByteArray).size = 2 := rfl; have q2 : (⟨#[32, 59]⟩ : ByteArray).size = 2 := rfl; have q3 : (⟨#[10, 9, 32, 10]⟩ : ByteArray).size = 4 := rfl; simp only [List.length_append, strL_len]; omega
                  · have := J.out.2.2.2; omega
                rw [ht] at cb
                replace hst : Hid _ := hst
                replace hc : Hid _ := hc
                replace hf : Hid _ := hf
                go_wp2_with (first
                  | (go_at_call 15; refine (hPk.out z).mono ?_; rintro e z ⟨rfl, rfl⟩; clear hPk)
                  | (go_at_call 16; refine (hPl.out z).mono ?_; rintro e z1 ⟨rfl, h2⟩; have K1 : Hid (KB w va (B) z1) := K.out.below h2.out; clear h2 K hPl)
                  | (at_builtin; refine Lib.wpList_append_own_string _ rfl _ _ 38 9 rfl w.heap.size 5 i5 Tryd.underlying38 Tryd.underlying9 hi5 hz0 hz1 hz2 va (B).length ((B).map byV) rfl K1.out.1 ⟨#[32, 59]⟩ rfl ?_ ?_ ?_ ?_; (have h1 := hBl.out; have h2 := hPn.out; have q1 : (⟨#[32, 32]⟩ : ByteArray).size = 2 := rfl; have q2 : (⟨#[32, 59]⟩ : ByteArray).size = 2 := rfl; have q3 : (⟨#[10, 9, 32, 10]⟩ : ByteArray).size = 4 := rfl; unfold maxLen; first | omega | (simp only [List.length_append, List.length_cons, List.length_nil, strL_len]; omega)); (have h1 := hBl.out; have h2 := hPn.out; have q1 : (⟨#[32, 32]⟩ : ByteArray).size = 2 := rfl; have q2 : (⟨#[32, 59]⟩ : ByteArray).size = 2 := rfl; have q3 : (⟨#[10, 9, 32, 10]⟩ : ByteArray).size = 4 := rfl; first | omega | (simp only [List.length_append, List.length_cons, List.length_nil, strL_len]; omega)); exact K1.out.2.size; intro v2 z2 h3 h4 h5; have K2 : Hid (KB w v2 (B ++ strL ⟨#[32, 59]⟩) z2) := K1.out.str (s := ⟨#[32, 59]⟩) h3 h4; clear h3 h4 h5 K1)
                  | (at_builtin; refine Lib.wpList_append_own_string _ rfl _ _ 38 9 rfl w.heap.size 5 i5 Tryd.underlying38 Tryd.underlying9 hi5 hz0 hz1 hz2 v2 (B ++ strL ⟨#[32, 59]⟩).length ((B ++ strL ⟨#[32, 59]⟩).map byV) rfl K2.out.1 ⟨(plainL (strL r.s)).toArray⟩ rfl ?_ ?_ ?_ ?_; (have h1 := hBl.out; have h2 := hPn.out; have q1 : (⟨#[32, 32]⟩ : ByteArray).size = 2 := rfl; have q2 : (⟨#[32, 59]⟩ : ByteArray).size = 2 := rfl; have q3 : (⟨#[10, 9, 32, 10]⟩ : ByteArray).size = 4 := rfl; unfold maxLen; first | omega | (simp only [List.length_append, strL_len]; omega)); (have h1 := hBl.out; have h2 := hPn.out; have q1 : (⟨#[32, 32]⟩ : ByteArray).size = 2 := rfl; have q2 : (⟨#[32, 59]⟩ : ByteArray).size = 2 := rfl; have q3 : (⟨#[10, 9, 32, 10]⟩ : ByteArray).size = 4 := rfl; first | omega | (simp only [List.length_append, strL_len]; omega)); exact K2.out.2.size; intro v3 z3 h3 h4 h5; have K3 : Hid (KB w v3 (B ++ strL ⟨#[32, 59]⟩ ++ strL ⟨(plainL (strL r.s)).toArray⟩) z3) := K2.out.str (s := ⟨(plainL (strL r.s)).toArray⟩) h3 h4; clear h3 h4 h5 K2)
                  | (at_builtin; refine Lib.wpList_append_own_string _ rfl _ _ 38 9 rfl w.heap.size 5 i5 Tryd.underlying38 Tryd.underlying9 hi5 hz0 hz1 hz2 v3 (B ++ strL ⟨#[32, 59]⟩ ++ strL ⟨(plainL (strL r.s)).toArray⟩).length ((B ++ strL ⟨#[32, 59]⟩ ++ strL ⟨(plainL (strL r.s)).toArray⟩).map byV) rfl K3.out.1 ⟨#[10, 9, 32, 10]⟩ rfl ?_ ?_ ?_ ?_; (have h1 := hBl.out; have h2 := hPn.out; have q1 : (⟨#[32, 32]⟩ : ByteArray).size = 2 := rfl; have q2 : (⟨#[32, 59]⟩ : ByteArray).size = 2 := rfl; have q3 : (⟨#[10, 9, 32, 10]⟩ : ByteArray).size = 4 := rfl; unfold maxLen; first | omega | (simp only [List.length_append, strL_len]; omega)); (have h1 := hBl.out; have h2 := hPn.out; have q1 : (⟨#[32, 32]⟩ : ByteArray).size = 2 := rfl; have q2 : (⟨#[32, 59]⟩ : ByteArray).size = 2 := rfl; have q3 : (⟨#[10, 9, 32, 10]⟩ : ByteArray).size = 4 := rfl; first | omega | (simp only [List.length_append, strL_len]; omega)); exact K3.out.2.size; intro v4 z4 h3 h4 h5; have K4 : Hid (KB w v4 (B ++ strL ⟨#[32, 59]⟩ ++ strL ⟨(plainL (strL r.s)).toArray⟩ ++ strL ⟨#[10, 9, 32, 10]⟩) z4) := K3.out.str (s := ⟨#[10, 9, 32, 10]⟩) h3 h4; clear h3 h4 h5 K3))
                go_roundw
                case rel => exact ⟨i + 1, k + 1, _, _, _, rfl, rfl, by simp, by simp, J2, K4⟩
                case measure => have := hi'.out; simp [intOf]; omega
            · have e1 : (((s[i]'hlt).toNat : Int) == 32) = false := by rw [beq_eq_false_iff_ne]; intro h; exact hc (by apply UInt8.toNat_inj.1; show (s[i]'hlt).toNat = 32; omega)
              have e2 : (((s[i]'hlt).toNat : Int) == 10) = false := by rw [beq_eq_false_iff_ne]; intro h; exact hc2 (by apply UInt8.toNat_inj.1; show (s[i]'hlt).toNat = 10; omega)
              replace hc := And.intro hc hc2
              clear hc2
              have J2 : Hid (spG (fR R) (strL s) 0 = (B ++ [(s[i]'hlt)]) ++ spG (fR R) ((strL s).drop (i + 1)) (k) ∧ (B ++ [(s[i]'hlt)]).length ≤ 48 * (i + 1) ∧ i + 1 ≤ s.size ∧ k ≤ i + 1) := by
                refine ⟨?_, ?_, hlt, ?_⟩
                · rw [J.out.1, hst, if_neg hc.1, if_neg hc.2]; simp
                · have h1 := J.out.2.1; have h2 := hPn.out; have q1 : (⟨#[32, 32]⟩ : ByteArray).size = 2 := rfl; have q2 : (⟨#[32, 59]⟩ : ByteArray).size = 2 := rfl; have q3 : (⟨#[10, 9, 32, 10]⟩ : ByteArray).size = 4 := rfl; simp only [List.length_append, List.length_cons, List.length_nil]; omega
                · have := J.out.2.2.2; omega
              replace hst : Hid _ := hst
              replace hc : Hid _ := hc
              replace hf : Hid _ := hf
              go_wp2_with (first
                | (go_at_call 15; refine (hPk.out z).mono ?_; rintro e z ⟨rfl, rfl⟩; clear hPk)
                | (at_builtin; refine wpList_append_own _ rfl _ _ 38 rfl w.heap.size 5 i5 (.int .u8 0) 1 1 Tryd.underlying38 hi5 hz0 hz1 hz2 rfl (by decide) va (B).length ((B).map byV) rfl (K.out.1.alloc _) ⟨z.heap.size, 0, none⟩ 1 1 [.int .u8 ((s[i]'hlt).toNat : Int)] rfl rfl (one_byt z _) (by simp [Value.oneCell']) ?_ ?_ ?_ ?_; (have h1 := hBl.out; have h2 := hPn.out; have q1 : (⟨#[32, 32]⟩ : ByteArray).size = 2 := rfl; have q2 : (⟨#[32, 59]⟩ : ByteArray).size = 2 := rfl; have q3 : (⟨#[10, 9, 32, 10]⟩ : ByteArray).size = 4 := rfl; unfold maxLen; first | omega | (simp only [List.length_append, List.length_cons, List.length_nil, strL_len]; omega)); (have h1 := hBl.out; have h2 := hPn.out; have q1 : (⟨#[32, 32]⟩ : ByteArray).size = 2 := rfl; have q2 : (⟨#[32, 59]⟩ : ByteArray).size = 2 := rfl; have q3 : (⟨#[10, 9, 32, 10]⟩ : ByteArray).size = 4 := rfl; first | omega | (simp only [List.length_append, List.length_cons, List.length_nil, strL_len]; omega)); (have := K.out.2.size; simp; omega); intro v1 z1 h3 h4 h5; have K1 : Hid (KB w v1 (B ++ [(s[i]'hlt)]) z1) := K.out.one (b := (s[i]'hlt)) h3 h4; clear h3 h4 h5 K))
              go_roundw
              case rel => exact ⟨i + 1, k, _, _, _, rfl, rfl, by simp, by simp, J2, K1⟩
              case measure => have := hi'.out; simp [intOf]; omega
        · have hf : fR R k = none := by unfold fR; rw [hr]; exact if_neg hp
          have qp : (pkV r.a == 0) = false := by rw [beq_eq_false_iff_ne]; exact hp
          replace hr : Hid _ := hr
          replace hp : Hid _ := hp
          generalize pkV r.a = pv at hPk qp
          by_cases hc : (s[i]'hlt) = 32
          · have e1 : (((s[i]'hlt).toNat : Int) == 32) = true := by rw [hc]; decide
            have e2 : (((s[i]'hlt).toNat : Int) == 10) = false := by rw [hc]; decide
            have J2 : Hid (spG (fR R) (strL s) 0 = (B ++ [(s[i]'hlt)]) ++ spG (fR R) ((strL s).drop (i + 1)) (k + 1) ∧ (B ++ [(s[i]'hlt)]).length ≤ 48 * (i + 1) ∧ i + 1 ≤ s.size ∧ k + 1 ≤ i + 1) := by
              refine ⟨?_, ?_, hlt, ?_⟩
              · rw [J.out.1, hst, if_pos hc, hf, hc]; simp [spB, strL]
              · have h1 := J.out.2.1; have h2 := hPn.out; have q1 : (⟨#[32, 32]⟩ : ByteArray).size = 2 := rfl; have q2 : (⟨#[32, 59]⟩ : ByteArray).size = 2 := rfl; have q3 : (⟨#[10, 9, 32, 10]⟩ : ByteArray).size = 4 := rfl; simp only [List.length_append, List.length_cons, List.length_nil]; omega
              · have := J.out.2.2.2; omega
            replace hst : Hid _ := hst
            replace hc : Hid _ := hc
            replace hf : Hid _ := hf
            go_wp2_with (first
              | (go_at_call 15; refine (hPk.out z).mono ?_; rintro e z ⟨rfl, rfl⟩; clear hPk)
              | (at_builtin; refine wpList_append_own _ rfl _ _ 38 rfl w.heap.size 5 i5 (.int .u8 0) 1 1 Tryd.underlying38 hi5 hz0 hz1 hz2 rfl (by decide) va (B).length ((B).map byV) rfl (K.out.1.alloc _) ⟨z.heap.size, 0, none⟩ 1 1 [.int .u8 ((s[i]'hlt).toNat : Int)] rfl rfl (one_byt z _) (by simp [Value.oneCell']) ?_ ?_ ?_ ?_; (have h1 := hBl.out; have h2 := hPn.out; have q1 : (⟨#[32, 32]⟩ : ByteArray).size = 2 := rfl; have q2 : (⟨#[32, 59]⟩ : ByteArray).size = 2 := rfl; have q3 : (⟨#[10, 9, 32, 10]⟩ : ByteArray).size = 4 := rfl; unfold maxLen; first | omega | (simp only [List.length_append, List.length_cons, List.length_nil, strL_len]; omega)); (have h1 := hBl.out; have h2 := hPn.out; have q1 : (⟨#[32, 32]⟩ : ByteArray).size = 2 := rfl; have q2 : (⟨#[32, 59]⟩ : ByteArray).size = 2 := rfl; have q3 : (⟨#[10, 9, 32, 10]⟩ : ByteArray).size = 4 := rfl; first | omega | (simp only [List.length_append, List.length_cons, List.length_nil, strL_len]; omega)); (have := K.out.2.size; simp; omega); intro v1 z1 h3 h4 h5; have K1 : Hid (KB w v1 (B ++ [(s[i]'hlt)]) z1) := K.out.one (b := (s[i]'hlt)) h3 h4; clear h3 h4 h5 K))
            go_roundw
            case rel => exact ⟨i + 1, k + 1, _, _, _, rfl, rfl, by simp, by simp, J2, K1⟩
            case measure => have := hi'.out; simp [intOf]; omega
          · by_cases hc2 : (s[i]'hlt) = 10
            · have hc := hc2
              clear hc2
              have e1 : (((s[i]'hlt).toNat : Int) == 32) = false := by rw [hc]; decide
              have e2 : (((s[i]'hlt).toNat : Int) == 10) = true := by rw [hc]; decide
              have J2 : Hid (spG (fR R) (strL s) 0 = (B ++ [(s[i]'hlt)]) ++ spG (fR R) ((strL s).drop (i + 1)) (k + 1) ∧ (B ++ [(s[i]'hlt)]).length ≤ 48 * (i + 1) ∧ i + 1 ≤ s.size ∧ k + 1 ≤ i + 1) := by
                refine ⟨?_, ?_, hlt, ?_⟩
                · rw [J.out.1, hst, if_neg (by rw [hc]; decide), if_pos hc, hf, hc]; simp [spN, strL]
                · have h1 := J.out.2.1; have h2 := hPn.out; have q1 : (⟨#[32, 32]⟩ : ByteArray).size = 2 := rfl; have q2 : (⟨#[32, 59]⟩ : ByteArray).size = 2 := rfl; have q3 : (⟨#[10, 9, 32, 10]⟩ : ByteArray).size = 4 := rfl; simp only [List.length_append, List.length_cons, List.length_nil]; omega
                · have := J.out.2.2.2; omega
              replace hst : Hid _ := hst
              replace hc : Hid _ := hc
              replace hf : Hid _ := hf
              go_wp2_with (first
                | (go_at_call 15; refine (hPk.out z).mono ?_; rintro e z ⟨rfl, rfl⟩; clear hPk)
                | (at_builtin; refine wpList_append_own _ rfl _ _ 38 rfl w.heap.size 5 i5 (.int .u8 0) 1 1 Tryd.underlying38 hi5 hz0 hz1 hz2 rfl (by decide) va (B).length ((B).map byV) rfl (K.out.1.alloc _) ⟨z.heap.size, 0, none⟩ 1 1 [.int .u8 ((s[i]'hlt).toNat : Int)] rfl rfl (one_byt z _) (by simp [Value.oneCell']) ?_ ?_ ?_ ?_; (have h1 := hBl.out; have h2 := hPn.out; have q1 : (⟨#[32, 32]⟩ : ByteArray).size = 2 := rfl; have q2 : (⟨#[32, 59]⟩ : ByteArray).size = 2 := rfl; have q3 : (⟨#[10, 9, 32, 10]⟩ : ByteArray).size = 4 := rfl; unfold maxLen; first | omega | (simp only [List.length_append, List.length_cons, List.length_nil, strL_len]; omega)); (have h1 := hBl.out; have h2 := hPn.out; have q1 : (⟨#[32, 32]⟩ : ByteArray).size = 2 := rfl; have q2 : (⟨#[32, 59]⟩ : ByteArray).size = 2 := rfl; have q3 : (⟨#[10, 9, 32, 10]⟩ : ByteArray).size = 4 := rfl; first | omega | (simp only [List.length_append, List.length_cons, List.length_nil, strL_len]; omega)); (have := K.out.2.size; simp; omega); intro v1 z1 h3 h4 h5; have K1 : Hid (KB w v1 (B ++ [(s[i]'hlt)]) z1) := K.out.one (b := (s[i]'hlt)) h3 h4; clear h3 h4 h5 K))
              go_roundw
              case rel => exact ⟨i + 1, k + 1, _, _, _, rfl, rfl, by simp, by simp, J2, K1⟩
              case measure => have := hi'.out; simp [intOf]; omega
            · have e1 : (((s[i]'hlt).toNat : Int) == 32) = false := by rw [beq_eq_false_iff_ne]; intro h; exact hc (by apply UInt8.toNat_inj.1; show (s[i]'hlt).toNat = 32; omega)
              have e2 : (((s[i]'hlt).toNat : Int) == 10) = false := by rw [beq_eq_false_iff_ne]; intro h; exact hc2 (by apply UInt8.toNat_inj.1; show (s[i]'hlt).toNat = 10; omega)
              replace hc := And.intro hc hc2
              clear hc2
              have J2 : Hid (spG (fR R) (strL s) 0 = (B ++ [(s[i]'hlt)]) ++ spG (fR R) ((strL s).drop (i + 1)) (k) ∧ (B ++ [(s[i]'hlt)]).length ≤ 48 * (i + 1) ∧ i + 1 ≤ s.size ∧ k ≤ i + 1) := by
                refine ⟨?_, ?_, hlt, ?_⟩
                · rw [J.out.1, hst, if_neg hc.1, if_neg hc.2]; simp
                · have h1 := J.out.2.1; have h2 := hPn.out; have q1 : (⟨#[32, 32]⟩ : ByteArray).size = 2 := rfl; have q2 : (⟨#[32, 59]⟩ : ByteArray).size = 2 := rfl; have q3 : (⟨#[10, 9, 32, 10]⟩ : ByteArray).size = 4 := rfl; simp only [List.length_append, List.length_cons, List.length_nil]; omega
                · have := J.out.2.2.2; omega
              replace hst : Hid _ := hst
              replace hc : Hid _ := hc
              replace hf : Hid _ := hf
              go_wp2_with (first
                | (go_at_call 15; refine (hPk.out z).mono ?_; rintro e z ⟨rfl, rfl⟩; clear hPk)
                | (at_builtin; refine wpList_append_own _ rfl _ _ 38 rfl w.heap.size 5 i5 (.int .u8 0) 1 1 Tryd.underlying38 hi5 hz0 hz1 hz2 rfl (by decide) va (B).length ((B).map byV) rfl (K.out.1.alloc _) ⟨z.heap.size, 0, none⟩ 1 1 [.int .u8 ((s[i]'hlt).toNat : Int)] rfl rfl (one_byt z _) (by simp [Value.oneCell']) ?_ ?_ ?_ ?_; (have h1 := hBl.out; have h2 := hPn.out; have q1 : (⟨#[32, 32]⟩ : ByteArray).size = 2 := rfl; have q2 : (⟨#[32, 59]⟩ : ByteArray).size = 2 := rfl; have q3 : (⟨#[10, 9, 32, 10]⟩ : ByteArray).size = 4 := rfl; unfold maxLen; first | omega | (simp only [List.length_append, List.length_cons, List.length_nil, strL_len]; omega)); (have h1 := hBl.out; have h2 := hPn.out; have q1 : (⟨#[32, 32]⟩ : ByteArray).size = 2 := rfl; have q2 : (⟨#[32, 59]⟩ : ByteArray).size = 2 := rfl; have q3 : (⟨#[10, 9, 32, 10]⟩ : ByteArray).size = 4 := rfl; first | omega | (simp only [List.length_append, List.length_cons, List.length_nil, strL_len]; omega)); (have := K.out.2.size; simp; omega); intro v1 z1 h3 h4 h5; have K1 : Hid (KB w v1 (B ++ [(s[i]'hlt)]) z1) := K.out.one (b := (s[i]'hlt)) h3 h4; clear h3 h4 h5 K))
              go_roundw
              case rel => exact ⟨i + 1, k, _, _, _, rfl, rfl, by simp, by simp, J2, K1⟩
              case measure => have := hi'.out; simp [intOf]; omega
      · have hki : ¬ (k : Int) < m := by omega
        have hf : fR R k = none := by unfold fR; rw [List.getElem?_eq_none (by rw [hm'.out]; omega)]
        have hPn : Hid ((⟨#[]⟩ : ByteArray).size ≤ 40) := show (⟨#[]⟩ : ByteArray).size ≤ 40 by decide
        by_cases hc : (s[i]'hlt) = 32
        · have e1 : (((s[i]'hlt).toNat : Int) == 32) = true := by rw [hc]; decide
          have e2 : (((s[i]'hlt).toNat : Int) == 10) = false := by rw [hc]; decide
          have J2 : Hid (spG (fR R) (strL s) 0 = (B ++ [(s[i]'hlt)]) ++ spG (fR R) ((strL s).drop (i + 1)) (k + 1) ∧ (B ++ [(s[i]'hlt)]).length ≤ 48 * (i + 1) ∧ i + 1 ≤ s.size ∧ k + 1 ≤ i + 1) := by
            refine ⟨?_, ?_, hlt, ?_⟩
            · rw [J.out.1, hst, if_pos hc, hf, hc]; simp [spB, strL]
            · have h1 := J.out.2.1; have h2 := hPn.out; have q1 : (⟨#[32, 32]⟩ : ByteArray).size = 2 := rfl; have q2 : (⟨#[32, 59]⟩ : ByteArray).size = 2 := rfl; have q3 : (⟨#[10, 9, 32, 10]⟩ : ByteArray).size = 4 := rfl; simp only [List.length_append, List.length_cons, List.length_nil]; omega
            · have := J.out.2.2.2; omega
          replace hst : Hid _ := hst
          replace hc : Hid _ := hc
          replace hf : Hid _ := hf
          go_wp2_with (first
            | (at_builtin; refine wpList_append_own _ rfl _ _ 38 rfl w.heap.size 5 i5 (.int .u8 0) 1 1 Tryd.underlying38 hi5 hz0 hz1 hz2 rfl (by decide) va (B).length ((B).map byV) rfl (K.out.1.alloc _) ⟨z.heap.size, 0, none⟩ 1 1 [.int .u8 ((s[i]'hlt).toNat : Int)] rfl rfl (one_byt z _) (by simp [Value.oneCell']) ?_ ?_ ?_ ?_; (have h1 := hBl.out; have h2 := hPn.out; have q1 : (⟨#[32, 32]⟩ : ByteArray).size = 2 := rfl; have q2 : (⟨#[32, 59]⟩ : ByteArray).size = 2 := rfl; have q3 : (⟨#[10, 9, 32, 10]⟩ : ByteArray).size = 4 := rfl; unfold maxLen; first | omega | (simp only [List.length_append, List.length_cons, List.length_nil, strL_len]; omega)); (have h1 := hBl.out; have h2 := hPn.out; have q1 : (⟨#[32, 32]⟩ : ByteArray).size = 2 := rfl; have q2 : (⟨#[32, 59]⟩ : ByteArray).size = 2 := rfl; have q3 : (⟨#[10, 9, 32, 10]⟩ : ByteArray).size = 4 := rfl; first | omega | (simp only [List.length_append, List.length_cons, List.length_nil, strL_len]; omega)); (have := K.out.2.size; simp; omega); intro v1 z1 h3 h4 h5; have K1 : Hid (KB w v1 (B ++ [(s[i]'hlt)]) z1) := K.out.one (b := (s[i]'hlt)) h3 h4; clear h3 h4 h5 K))
          go_roundw
          case rel => exact ⟨i + 1, k + 1, _, _, _, rfl, rfl, by simp, by simp, J2, K1⟩
          case measure => have := hi'.out; simp [intOf]; omega
        · by_cases hc2 : (s[i]'hlt) = 10
          · have hc := hc2
            clear hc2
            have e1 : (((s[i]'hlt).toNat : Int) == 32) = false := by rw [hc]; decide
            have e2 : (((s[i]'hlt).toNat : Int) == 10) = true := by rw [hc]; decide
            have J2 : Hid (spG (fR R) (strL s) 0 = (B ++ [(s[i]'hlt)]) ++ spG (fR R) ((strL s).drop (i + 1)) (k + 1) ∧ (B ++ [(s[i]'hlt)]).length ≤ 48 * (i + 1) ∧ i + 1 ≤ s.size ∧ k + 1 ≤ i + 1) := by
              refine ⟨?_, ?_, hlt, ?_⟩
              · rw [J.out.1, hst, if_neg (by rw [hc]; decide), if_pos hc, hf, hc]; simp [spN, strL]
              · have h1 := J.out.2.1; have h2 := hPn.out; have q1 : (⟨#[32, 32]⟩ : ByteArray).size = 2 := rfl; have q2 : (⟨#[32, 59]⟩ : ByteArray).size = 2 := rfl; have q3 : (⟨#[10, 9, 32, 10]⟩ : ByteArray).size = 4 := rfl; simp only [List.length_append, List.length_cons, List.length_nil]; omega
              · have := J.out.2.2.2; omega
            replace hst : Hid _ := hst
            replace hc : Hid _ := hc
            replace hf : Hid _ := hf
            go_wp2_with (first
              | (at_builtin; refine wpList_append_own _ rfl _ _ 38 rfl w.heap.size 5 i5 (.int .u8 0) 1 1 Tryd.underlying38 hi5 hz0 hz1 hz2 rfl (by decide) va (B).length ((B).map byV) rfl (K.out.1.alloc _) ⟨z.heap.size, 0, none⟩ 1 1 [.int .u8 ((s[i]'hlt).toNat : Int)] rfl rfl (one_byt z _) (by simp [Value.oneCell']) ?_ ?_ ?_ ?_; (have h1 := hBl.out; have h2 := hPn.out; have q1 : (⟨#[32, 32]⟩ : ByteArray).size = 2 := rfl; have q2 : (⟨#[32, 59]⟩ : ByteArray).size = 2 := rfl; have q3 : (⟨#[10, 9, 32, 10]⟩ : ByteArray).size = 4 := rfl; unfold maxLen; first | omega | (simp only [List.length_append, List.length_cons, List.length_nil, strL_len]; omega)); (have h1 := hBl.out; have h2 := hPn.out; have q1 : (⟨#[32, 32]⟩ : ByteArray).size = 2 := rfl; have q2 : (⟨#[32, 59]⟩ : ByteArray).size = 2 := rfl; have q3 : (⟨#[10, 9, 32, 10]⟩ : ByteArray).size = 4 := rfl; first | omega | (simp only [List.length_append, List.length_cons, List.length_nil, strL_len]; omega)); (have := K.out.2.size; simp; omega); intro v1 z1 h3 h4 h5; have K1 : Hid (KB w v1 (B ++ [(s[i]'hlt)]) z1) := K.out.one (b := (s[i]'hlt)) h3 h4; clear h3 h4 h5 K))
            go_roundw
            case rel => exact ⟨i + 1, k + 1, _, _, _, rfl, rfl, by simp, by simp, J2, K1⟩
            case measure => have := hi'.out; simp [intOf]; omega
          · have e1 : (((s[i]'hlt).toNat : Int) == 32) = false := by rw [beq_eq_false_iff_ne]; intro h; exact hc (by apply UInt8.toNat_inj.1; show (s[i]'hlt).toNat = 32; omega)
            have e2 : (((s[i]'hlt).toNat : Int) == 10) = false := by rw [beq_eq_false_iff_ne]; intro h; exact hc2 (by apply UInt8.toNat_inj.1; show (s[i]'hlt).toNat = 10; omega)
            replace hc := And.intro hc hc2
            clear hc2
            have J2 : Hid (spG (fR R) (strL s) 0 = (B ++ [(s[i]'hlt)]) ++ spG (fR R) ((strL s).drop (i + 1)) (k) ∧ (B ++ [(s[i]'hlt)]).length ≤ 48 * (i + 1) ∧ i + 1 ≤ s.size ∧ k ≤ i + 1) := by
              refine ⟨?_, ?_, hlt, ?_⟩
              · rw [J.out.1, hst, if_neg hc.1, if_neg hc.2]; simp
              · have h1 := J.out.2.1; have h2 := hPn.out; have q1 : (⟨#[32, 32]⟩ : ByteArray).size = 2 := rfl; have q2 : (⟨#[32, 59]⟩ : ByteArray).size = 2 := rfl; have q3 : (⟨#[10, 9, 32, 10]⟩ : ByteArray).size = 4 := rfl; simp only [List.length_append, List.length_cons, List.length_nil]; omega
              · have := J.out.2.2.2; omega
            replace hst : Hid _ := hst
            replace hc : Hid _ := hc
            replace hf : Hid _ := hf
            go_wp2_with (first
              | (at_builtin; refine wpList_append_own _ rfl _ _ 38 rfl w.heap.size 5 i5 (.int .u8 0) 1 1 Tryd.underlying38 hi5 hz0 hz1 hz2 rfl (by decide) va (B).length ((B).map byV) rfl (K.out.1.alloc _) ⟨z.heap.size, 0, none⟩ 1 1 [.int .u8 ((s[i]'hlt).toNat : Int)] rfl rfl (one_byt z _) (by simp [Value.oneCell']) ?_ ?_ ?_ ?_; (have h1 := hBl.out; have h2 := hPn.out; have q1 : (⟨#[32, 32]⟩ : ByteArray).size = 2 := rfl; have q2 : (⟨#[32, 59]⟩ : ByteArray).size = 2 := rfl; have q3 : (⟨#[10, 9, 32, 10]⟩ : ByteArray).size = 4 := rfl; unfold maxLen; first | omega | (simp only [List.length_append, List.length_cons, List.length_nil, strL_len]; omega)); (have h1 := hBl.out; have h2 := hPn.out; have q1 : (⟨#[32, 32]⟩ : ByteArray).size = 2 := rfl; have q2 : (⟨#[32, 59]⟩ : ByteArray).size = 2 := rfl; have q3 : (⟨#[10, 9, 32, 10]⟩ : ByteArray).size = 4 := rfl; first | omega | (simp only [List.length_append, List.length_cons, List.length_nil, strL_len]; omega)); (have := K.out.2.size; simp; omega); intro v1 z1 h3 h4 h5; have K1 : Hid (KB w v1 (B ++ [(s[i]'hlt)]) z1) := K.out.one (b := (s[i]'hlt)) h3 h4; clear h3 h4 h5 K))
            go_roundw
            case rel => exact ⟨i + 1, k, _, _, _, rfl, rfl, by simp, by simp, J2, K1⟩
            case measure => have := hi'.out; simp [intOf]; omega
    · have hje : i = s.size := by have := J.out.2.2.1; omega
      have hii : ¬ (i : Int) < s.size := by omega
      have e : Hid (spG (fR R) (strL s) 0 = B) := by
        show _ = _
        rw [J.out.1, List.drop_eq_nil_of_le (by rw [strL_len]; omega)]
        exact List.append_nil B
      obtain ⟨⟨sp', cap', rfl⟩, hcv⟩ := K.out.open
      have fin : Hid (Below w.heap.size w z) := K.out.2
      subst hje
      go_wp2
      go_ret
      refine ⟨?_, fin⟩
      rw [e.out]
      rfl
end Go.Proofs.YtfdjifgmlgpjgabDoor
