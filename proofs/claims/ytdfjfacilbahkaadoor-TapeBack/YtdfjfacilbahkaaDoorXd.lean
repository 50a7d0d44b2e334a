/- Rows of spans in memory; whether a script may be, how many cycles it has, by the document. -/
import Derived.Test.YtdfjfacilbahkaaDoorXb
namespace Go.Proofs.YtdfjfacilbahkaaDoor
open Go Go.RowKit
set_option linter.unusedVariables false
set_option maxHeartbeats 400000
set_option maxRecDepth 20000

def spC (s : Sn) : Array Value := #[.int .i64 s.c, .int .u16 s.a.Ke, .bool s.a.Ta, .bool s.a.Fl, .bool s.a.DI, .bool s.a.DO, .bool s.a.In, .bool s.a.Cl, .bool s.a.Wa, .int .u8 s.a.Bu]
theorem spC_size (s : Sn) : (spC s).size = 10 := rfl
theorem spC_one (s : Sn) : (spC s).all (·.oneCell') = true := by simp [spC, Value.oneCell']
theorem spC_c (s : Sn) : (spC s)[0]? = some (.int .i64 s.c) := rfl
theorem spC_Ke (s : Sn) : (spC s)[1]? = some (.int .u16 s.a.Ke) := rfl
theorem spC_Ta (s : Sn) : (spC s)[2]? = some (.bool s.a.Ta) := rfl
theorem spC_Fl (s : Sn) : (spC s)[3]? = some (.bool s.a.Fl) := rfl
theorem spC_DI (s : Sn) : (spC s)[4]? = some (.bool s.a.DI) := rfl
theorem spC_DO (s : Sn) : (spC s)[5]? = some (.bool s.a.DO) := rfl
theorem spC_In (s : Sn) : (spC s)[6]? = some (.bool s.a.In) := rfl
theorem spC_Cl (s : Sn) : (spC s)[7]? = some (.bool s.a.Cl) := rfl
theorem spC_Wa (s : Sn) : (spC s)[8]? = some (.bool s.a.Wa) := rfl
theorem spC_Bu (s : Sn) : (spC s)[9]? = some (.int .u8 s.a.Bu) := rfl
theorem rtS : Rt Tryd.prog 37 10 := ⟨⟨_, Tryd.underlying37, rfl⟩, by kernel_rfl⟩
/-- Spans that lie in a row. -/
def LiesS (x : World) (sp : Option Addr) (l : List Sn) : Prop := ∀ j s, l[j]? = some s → ∃ gb ob, sp = some ⟨gb, ob, none⟩ ∧ x.rangeAt gb (ob + j * 10) (spC s).toList
theorem LiesS.below {x y : World} {sp : Option Addr} {l : List Sn} (h : LiesS x sp l) (hb : Below x.heap.size x y) : LiesS y sp l := fun j s hj => by
  obtain ⟨gb, ob, e, c⟩ := h j s hj
  exact ⟨gb, ob, e, range_keep c hb⟩
theorem LiesS.low {x y : World} {B : Nat} {sp : Option Addr} {l : List Sn} (h : LiesS x sp l) (hs : ∀ a, sp = some a → 0 < l.length → a.block < B) (hb : Below B x y) : LiesS y sp l := fun j s hj => by
  obtain ⟨gb, ob, e, c⟩ := h j s hj
  refine ⟨gb, ob, e, fun i v hi => ?_⟩
  exact (hb.cell (p := ⟨gb, ob + j * 10 + i, none⟩) (show gb < B from hs ⟨gb, ob, none⟩ e (by have := (List.getElem?_eq_some_iff.1 hj).1; omega))).trans (c i v hi)
theorem rangeC {x : World} {g o : Nat} {s : Sn} (h : x.rangeAt g o (spC s).toList) (i : Nat) (v : Value) (hv : (spC s)[i]? = some v) : x.cell? ⟨g, o + i, none⟩ = some v := h i v (by rw [Array.getElem?_toList]; exact hv)
theorem at_list {α : Type} {l : List α} {j n : Nat} (hn : l.length = n) (h : j < n) : ∃ v, l[j]? = some v ∧ l.drop j = v :: l.drop (j + 1) := by
  have hl : j < l.length := by omega
  exact ⟨l[j], List.getElem?_eq_getElem hl, List.drop_eq_getElem_cons hl⟩
/-- Has each span 1 to 1048576 cycles? -/
def inB : List Sn → Bool
  | [] => true
  | s :: l => decide (1 ≤ s.c) && decide (s.c ≤ 1048576) && inB l
theorem inB_iff (l : List Sn) : inB l = true ↔ InM 1048576 l := by
  induction l with
  | nil => simp [inB, InM]
  | cons s l ih => simp [inB, InM, ih]
def checkS (l : List Sn) : Int := if 4096 < l.length then 2 else if inB l = true ∧ sumC l ≤ 4194304 then 0 else 70
def cyclesS (l : List Sn) : Int := if checkS l = 0 then sumC l else 0

theorem rcheck_any (w : World) (sp : Option Addr) (cap : Nat) (l : List Sn) (hl : Hid (LiesS w sp l)) (hn : l.length ≤ 9223372036854775807) :
    Calls Tryd.prog 32 #[.slice sp l.length cap] w fun e w' => e = .returned (.int .i64 (checkS l)) ∧ w' = w := by
  obtain ⟨n, hn'⟩ : ∃ n, l.length = n := ⟨_, rfl⟩
  have ni : (n : Int) ≤ 9223372036854775807 := by omega
  by_cases hbig : 4096 < n
  · have e : checkS l = 2 := by unfold checkS; rw [if_pos (by omega)]
    rw [e, hn']
    have q : decide ((4096 : Int) < n) = true := by simp; omega
    clear hbig hn hn' e
    go_enter Tryd.func32, Tryd.ntmps32
    go_wp2
    go_ret
    exact ⟨rfl, by first | rfl | trivial⟩
  obtain ⟨R, hR⟩ : ∃ R, checkS l = R := ⟨_, rfl⟩
  have hR' : Hid (R = if inB l = true ∧ sumC l ≤ 4194304 then 0 else 70) := by
    show _ = _
    rw [← hR]
    unfold checkS
    rw [if_neg (by omega)]
  rw [hR, hn']
  have q : decide ((4096 : Int) < n) = false := by simp; omega
  have hn4 : Hid (n ≤ 4096) := by show n ≤ 4096; omega
  have hl' : Hid (l.length = n) := hn'
  have ni4 : (n : Int) ≤ 4096 := by omega
  clear hR hbig hn hn' ni
  go_enter Tryd.func32, Tryd.ntmps32
  go_wp2
  go_loopw [3, 4] (fun t i wz => ∃ (j : Nat) (u : Int), w = wz ∧ t = .int .i64 u ∧ i = .int .i64 (j : Int) ∧ 0 ≤ u ∧ u ≤ 1048576 * (j : Int) ∧ Hid (j ≤ n ∧ (inB l = inB (l.drop j)) ∧ sumC l = u + sumC (l.drop j))) (fun _ i _ => (n - intOf i).toNat)
  case atStart => exact ⟨0, 0, rfl, rfl, rfl, by decide, by decide, ⟨by omega, rfl, by simp⟩⟩
  case round =>
    obtain ⟨j, u, hw, rfl, rfl, u0, u1, K⟩ := hrel
    subst hw
    by_cases hlt : j < n
    · obtain ⟨s, hs, hdrop⟩ := at_list hl'.out hlt
      obtain ⟨gb, ob, rfl, hc⟩ := hl.out j s hs
      have c0 := rangeC hc 0 _ (spC_c s)
      rw [Nat.add_zero] at c0
      have ij := fun v => idxP (g := gb) (off := ob) (len := n) (cap := cap) Tryd.underlying38 (s := 10) (by kernel_rfl) .i64 j v hlt
      obtain ⟨c, hcc⟩ : ∃ c, s.c = c := ⟨_, rfl⟩
      rw [hcc] at c0
      have hji : (j : Int) < n := by omega
      have hlt' : Hid (j < n) := hlt
      have K2 : Hid (inB l = (decide (1 ≤ c) && decide (c ≤ 1048576) && inB (l.drop (j + 1))) ∧ sumC l = u + c + sumC (l.drop (j + 1))) := by
        have h1 := K.out.2.1
        have h2 := K.out.2.2
        rw [hdrop] at h1 h2
        simp only [inB, sumC, hcc] at h1 h2
        exact ⟨h1, by omega⟩
      replace hs : Hid _ := hs
      replace hdrop : Hid _ := hdrop
      clear hc hcc hlt
      by_cases h1 : c < 1
      · have q1 : decide (c < 1) = true := by simpa using h1
        have fin : Hid (R = 70) := by
          show R = 70
          rw [hR'.out, if_neg]
          intro h
          have := h.1
          rw [K2.out.1] at this
          simp at this
          omega
        clear h1
        go_wp2
        go_ret
        exact ⟨by rw [fin.out]; rfl, by first | rfl | trivial⟩
      · have q1 : decide (c < 1) = false := by simpa using h1
        by_cases h2 : 1048576 < c
        · have q2 : decide (1048576 < c) = true := by simpa using h2
          have fin : Hid (R = 70) := by
            show R = 70
            rw [hR'.out, if_neg]
            intro h
            have := h.1
            rw [K2.out.1] at this
            simp at this
            omega
          clear h1 h2
          go_wp2
          go_ret
          exact ⟨by rw [fin.out]; rfl, by first | rfl | trivial⟩
        · have q2 : decide (1048576 < c) = false := by simpa using h2
          have cb : 1 ≤ c := by omega
          have cb2 : c ≤ 1048576 := by omega
          have fin : Hid (inB l = inB (l.drop (j + 1)) ∧ sumC l = u + c + sumC (l.drop (j + 1))) := by
            refine ⟨?_, K2.out.2⟩
            rw [K2.out.1]
            simp [cb, cb2]
          have ub : u ≤ 4294967296 := by omega
          clear h1 h2
          go_wp2
          go_roundw
          case rel => exact ⟨j + 1, u + c, by first | rfl | trivial, rfl, by simp, by omega, by omega, ⟨by have := hlt'.out; omega, fin.out.1, fin.out.2⟩⟩
          case measure => have := hlt'.out; simp [intOf]; omega
    · have hje : j = n := by have := K.out.1; omega
      subst hje
      have fin : Hid (inB l = true ∧ sumC l = u) := by
        have h1 := K.out.2.1
        have h2 := K.out.2.2
        rw [List.drop_eq_nil_of_le (by rw [hl'.out]; exact Nat.le_refl _)] at h1 h2
        exact ⟨h1, by simpa [sumC] using h2⟩
      clear hlt
      by_cases hb : 4194304 < u
      · have q3 : decide (4194304 < u) = true := by simpa using hb
        have f2 : Hid (R = 70) := by
          show R = 70
          rw [hR'.out, if_neg (fun h => by have := h.2; rw [fin.out.2] at this; omega)]
        clear hb
        go_wp2
        go_ret
        exact ⟨by rw [f2.out]; rfl, by first | rfl | trivial⟩
      · have q3 : decide (4194304 < u) = false := by simpa using hb
        have f2 : Hid (R = 0) := by
          show R = 0
          rw [hR'.out, if_pos ⟨fin.out.1, by rw [fin.out.2]; omega⟩]
        clear hb
        go_wp2
        go_ret
        exact ⟨by rw [f2.out]; rfl, by first | rfl | trivial⟩
theorem check_ok {l : List Sn} (h : checkS l = 0) : l.length ≤ 4096 ∧ InM 1048576 l ∧ sumC l ≤ 4194304 := by
  unfold checkS at h
  split at h
  · omega
  · rename_i h1
    split at h
    · rename_i h2
      exact ⟨by omega, (inB_iff l).1 h2.1, h2.2⟩
    · omega
theorem drop_pos {l : List Sn} (h : Pos l) (j : Nat) : Pos (l.drop j) := by
  induction l generalizing j with
  | nil => simp [Pos]
  | cons s l ih =>
    cases j with
    | zero => exact h
    | succ j => exact ih h.2 j
theorem drop_in {M : Int} {l : List Sn} (h : InM M l) (j : Nat) : InM M (l.drop j) := by
  induction l generalizing j with
  | nil => simp [InM]
  | cons s l ih =>
    cases j with
    | zero => exact h
    | succ j => exact ih h.2 j
end Go.Proofs.YtdfjfacilbahkaaDoor
