/- The mask of keys, by the program and by the document; two lists of numbers held against each other. -/
import Derived.Test.YtabhhmkbcnabmaaPe
namespace Go.Proofs.Ytabhhmkbcnabmaa
open Go Go.RowKit
set_option linter.unusedVariables false
set_option maxHeartbeats 400000
set_option maxRecDepth 20000

/-- Numbers that lie in a row. -/
def LiesI (x : World) (sp : Option Addr) (l : List Int) : Prop := ∀ j v, l[j]? = some v → ∃ gb ob, sp = some ⟨gb, ob, none⟩ ∧ x.cell? ⟨gb, ob + j, none⟩ = some (.int .i64 v)
theorem LiesI.below {x y : World} {sp : Option Addr} {l : List Int} (h : LiesI x sp l) (hb : Below x.heap.size x y) : LiesI y sp l := fun j v hj => by
  obtain ⟨gb, ob, e, c⟩ := h j v hj
  exact ⟨gb, ob, e, (hb.cell (p := ⟨gb, ob + j, none⟩) (World.block_lt_of_cell? x _ c)).trans c⟩
theorem LiesI.low {x y : World} {B : Nat} {sp : Option Addr} {l : List Int} (h : LiesI x sp l) (hs : ∀ a, sp = some a → 0 < l.length → a.block < B) (hb : Below B x y) : LiesI y sp l := fun j v hj => by
  obtain ⟨gb, ob, e, c⟩ := h j v hj
  exact ⟨gb, ob, e, (hb.cell (p := ⟨gb, ob + j, none⟩) (show gb < B from hs ⟨gb, ob, none⟩ e (by have := (List.getElem?_eq_some_iff.1 hj).1; omega))).trans c⟩
theorem rowI_at (l : List Int) (j : Nat) (v : Int) (h : l[j]? = some v) : (rowI l)[j]? = some (.int .i64 v) := by simp [rowI, h]
theorem OwnI.slice {B : Nat} {w : World} {v : Value} {l : List Int} (h : OwnI B w v l) : ∃ sp cap, v = .slice sp l.length cap ∧ LiesI w sp l ∧ (∀ a, sp = some a → B ≤ a.block ∧ a.block < w.heap.size) := by
  have hlt := World.ownsRow.lt h
  have h0 := h
  obtain ⟨h1, h2⟩ := h
  rcases h2 with ⟨rfl, hn⟩ | ⟨g, cap, cur, rfl, hb, hg, _⟩
  · refine ⟨none, 0, by rw [hn], fun j v hj => ?_, fun a h => by cases h⟩
    have := (List.getElem?_eq_some_iff.1 hj).1
    omega
  · refine ⟨some ⟨g, 0, none⟩, cap, rfl, fun j v hj => ⟨g, 0, rfl, ?_⟩, fun a h => by cases h; exact ⟨hb, heap_lt hg⟩⟩
    have := World.ownsRow.cells (g := g) h0 rfl j _ (rowI_at l j v hj)
    rw [Addr.add_lit] at this
    exact this

theorem mask_any (w : World) (sp : Option Addr) (cap : Nat) (l : List Int) (hl : Hid (LiesI w sp l)) (hn : l.length ≤ 9223372036854775807) : Calls Try.prog 15 #[.slice sp l.length cap] w fun e w' => e = .returned (.tuple #[.int .u16 (maskM (maskGo l 0)), .int .i64 (maskE (maskGo l 0))]) ∧ w' = w := by
  obtain ⟨R, hR⟩ : ∃ R, maskGo l 0 = R := ⟨_, rfl⟩
  rw [hR]
  replace hR : Hid _ := hR
  obtain ⟨n, hn'⟩ : ∃ n, l.length = n := ⟨_, rfl⟩
  rw [hn'] at hn ⊢
  replace hn' : Hid _ := hn'
  have ni : (n : Int) ≤ 9223372036854775807 := by omega
  clear hn
  go_enter Try.func15, Try.ntmps15
  go_wp2
  go_loopw [4, 9] (fun x i wz => ∃ (j mk : Nat) (c : Int), w = wz ∧ x = .int .u16 c ∧ i = .int .i64 (j : Int) ∧ Hid (j ≤ n ∧ mk < 65536 ∧ c = (mk : Int) ∧ maskGo (l.drop j) mk = R)) (fun _ i _ => (n - intOf i).toNat)
  case atStart => exact ⟨0, 0, 0, rfl, rfl, rfl, ⟨by omega, by omega, rfl, hR.out⟩⟩
  case round =>
    obtain ⟨j, mk, c, hw, rfl, rfl, K⟩ := hrel
    subst hw
    by_cases hlt : j < n
    · have hji : (j : Int) < n := by omega
      obtain ⟨v, hv⟩ : ∃ v, l[j]? = some v := ⟨l[j]'(by rw [hn'.out]; exact hlt), List.getElem?_eq_getElem _⟩
      obtain ⟨gb, ob, rfl, hcell⟩ := hl.out j v hv
      have ij := fun u => idxP (g := gb) (off := ob) (len := n) (cap := cap) Try.underlying31 (s := 1) (by kernel_rfl) .i64 j u hlt
      simp only [Nat.mul_one] at ij
      have hdrop : Hid (l.drop j = v :: l.drop (j + 1)) := by
        have hh := List.drop_eq_getElem_cons (l := l) (i := j) (by rw [hn'.out]; exact hlt)
        rw [hh]
        congr 1
        rw [List.getElem?_eq_getElem (by rw [hn'.out]; exact hlt)] at hv
        exact Option.some.inj hv
      replace hv : Hid _ := hv
      have hlt' : Hid (j < n) := hlt
      clear hlt
      by_cases hbad : v < 0 ∨ 15 < v
      · have fin : Hid (R = none) := by
          have := K.out.2.2.2
          rw [hdrop.out] at this
          unfold maskGo at this
          rw [if_pos hbad] at this
          exact this.symm
        by_cases h0 : v < 0
        · have q0 : decide (v < 0) = true := by simpa using h0
          clear hbad h0
          go_wp2
          go_ret2
          exact ⟨by rw [fin.out]; rfl, by first | rfl | trivial⟩
        · have q0 : decide (v < 0) = false := by simpa using h0
          have q1 : decide (16 ≤ v) = true := by simp; omega
          clear hbad h0
          go_wp2
          go_ret2
          exact ⟨by rw [fin.out]; rfl, by first | rfl | trivial⟩
      · have q0 : decide (v < 0) = false := by simp; omega
        have q1 : decide (16 ≤ v) = false := by simp; omega
        obtain ⟨k, hk⟩ : ∃ k : Nat, v = (k : Int) := ⟨v.toNat, by omega⟩
        have hk16 : k < 16 := by omega
        have hsh : Op.shift .shl .u16 1 .i64 v = pure (.int .u16 ((2 ^ k : Nat) : Int)) := by rw [hk]; exact shl_any k hk16
        have hor : bits .or .u16 c ((2 ^ k : Nat) : Int) = (orN mk k : Int) := by rw [K.out.2.2.1]; exact or_two mk k K.out.2.1 hk16
        have fin : Hid (orN mk k < 65536 ∧ maskGo (l.drop (j + 1)) (orN mk k) = R) := by
          refine ⟨(orN_or mk k K.out.2.1 hk16).2, ?_⟩
          have := K.out.2.2.2
          rw [hdrop.out] at this
          unfold maskGo at this
          rw [if_neg hbad] at this
          rw [show v.toNat = k by omega] at this
          exact this
        obtain ⟨z, hz⟩ : ∃ z : Int, ((2 ^ k : Nat) : Int) = z := ⟨_, rfl⟩
        rw [hz] at hsh hor
        obtain ⟨c', hc'⟩ : ∃ c' : Int, (orN mk k : Int) = c' := ⟨_, rfl⟩
        rw [hc'] at hor
        replace hc' : Hid _ := hc'
        replace hk : Hid _ := hk
        clear hz hbad hk16
        go_wp2
        go_roundw
        case rel => exact ⟨j + 1, orN mk k, c', by first | rfl | trivial, rfl, by simp, ⟨by have := hlt'.out; omega, fin.out.1, hc'.out.symm, fin.out.2⟩⟩
        case measure => have := hlt'.out; simp [intOf]; omega
    · have hje : j = n := by have := K.out.1; omega
      subst hje
      have fin : Hid (R = some mk) := by
        have := K.out.2.2.2
        rw [List.drop_eq_nil_of_le (by rw [hn'.out]; exact Nat.le_refl _)] at this
        exact this.symm
      have hcm : Hid (c = (mk : Int)) := K.out.2.2.1
      clear hlt
      go_wp2
      go_ret2
      exact ⟨by rw [fin.out, hcm.out]; rfl, by first | rfl | trivial⟩
theorem rmask_any (w : World) (sp : Option Addr) (cap : Nat) (l : List Int) (hl : Hid (LiesI w sp l)) (hn : l.length ≤ 9223372036854775807) : Calls Try.prog 16 #[.slice sp l.length cap] w fun e w' => e = .returned (.tuple #[.int .u16 (maskM (maskGo l 0)), .int .i64 (maskE (maskGo l 0))]) ∧ w' = w := by
  obtain ⟨R, hR⟩ : ∃ R, maskGo l 0 = R := ⟨_, rfl⟩
  rw [hR]
  replace hR : Hid _ := hR
  obtain ⟨n, hn'⟩ : ∃ n, l.length = n := ⟨_, rfl⟩
  rw [hn'] at hn ⊢
  replace hn' : Hid _ := hn'
  have ni : (n : Int) ≤ 9223372036854775807 := by omega
  clear hn
  go_enter Try.func16, Try.ntmps16
  go_wp2
  go_loopw [4, 5] (fun x i wz => ∃ (j mk : Nat) (c : Int), w = wz ∧ x = .int .i64 c ∧ i = .int .i64 (j : Int) ∧ 0 ≤ c ∧ c ≤ 65535 ∧ Hid (j ≤ n ∧ mk < 65536 ∧ (mk : Int) = c ∧ maskGo (l.drop j) mk = R)) (fun _ i _ => (n - intOf i).toNat)
  case atStart => exact ⟨0, 0, 0, rfl, rfl, rfl, by decide, by decide, ⟨by omega, by omega, rfl, hR.out⟩⟩
  case round =>
    obtain ⟨j, mk, c, hw, rfl, rfl, c0, c1, K⟩ := hrel
    subst hw
    by_cases hlt : j < n
    · have hji : (j : Int) < n := by omega
      obtain ⟨v, hv⟩ : ∃ v, l[j]? = some v := ⟨l[j]'(by rw [hn'.out]; exact hlt), List.getElem?_eq_getElem _⟩
      obtain ⟨gb, ob, rfl, hcell⟩ := hl.out j v hv
      have ij := fun u => idxP (g := gb) (off := ob) (len := n) (cap := cap) Try.underlying31 (s := 1) (by kernel_rfl) .i64 j u hlt
      simp only [Nat.mul_one] at ij
      have hdrop : Hid (l.drop j = v :: l.drop (j + 1)) := by
        have hh := List.drop_eq_getElem_cons (l := l) (i := j) (by rw [hn'.out]; exact hlt)
        rw [hh]
        congr 1
        rw [List.getElem?_eq_getElem (by rw [hn'.out]; exact hlt)] at hv
        exact Option.some.inj hv
      replace hv : Hid _ := hv
      have hlt' : Hid (j < n) := hlt
      clear hlt
      by_cases hbad : v < 0 ∨ 15 < v
      · have fin : Hid (R = none) := by
          have := K.out.2.2.2
          rw [hdrop.out] at this
          unfold maskGo at this
          rw [if_pos hbad] at this
          exact this.symm
        by_cases h0 : v < 0
        · have q0 : decide (v < 0) = true := by simpa using h0
          clear hbad h0
          go_wp2
          go_ret2
          exact ⟨by rw [fin.out]; rfl, by first | rfl | trivial⟩
        · have q0 : decide (v < 0) = false := by simpa using h0
          have q1 : decide (15 < v) = true := by simp; omega
          clear hbad h0
          go_wp2
          go_ret2
          exact ⟨by rw [fin.out]; rfl, by first | rfl | trivial⟩
      · have q0 : decide (v < 0) = false := by simp; omega
        have q1 : decide (15 < v) = false := by simp; omega
        obtain ⟨k, hk⟩ : ∃ k : Nat, (k : Int) = v := ⟨v.toNat, by omega⟩
        have v0 : 0 ≤ v := by omega
        have v1 : v ≤ 15 := by omega
        have hk16 : Hid (k < 16) := by show k < 16; omega
        have hB := fun u => bit_any u mk k K.out.2.1 (by have := hk16.out; omega)
        rw [hk, K.out.2.2.1] at hB
        have fin : Hid (orN mk k < 65536 ∧ maskGo (l.drop (j + 1)) (orN mk k) = R) := by
          refine ⟨(orN_or mk k K.out.2.1 hk16.out).2, ?_⟩
          have := K.out.2.2.2
          rw [hdrop.out] at this
          unfold maskGo at this
          rw [if_neg hbad] at this
          rw [show v.toNat = k by omega] at this
          exact this
        obtain ⟨b, hb⟩ : ∃ b, bitB mk k = b := ⟨_, rfl⟩
        rw [hb] at hB
        have hor : Hid (orN mk k = if b then mk else mk + 2 ^ k) := by show orN mk k = _; unfold orN; rw [hb]
        replace hk : Hid _ := hk
        clear hbad hb
        cases b
        · go_wp2_with (go_at_call 18; refine (hB _).mono ?_; rintro e u ⟨rfl, hu⟩; replace hu := hu.symm; subst hu)
          go_loopw [8, 9] (fun x i wz => ∃ (p : Nat) (z : Int), w = wz ∧ x = .int .i64 z ∧ i = .int .i64 (p : Int) ∧ 0 ≤ z ∧ z ≤ 65535 ∧ Hid (p ≤ k ∧ ((2 ^ p : Nat) : Int) = z)) (fun _ i _ => (k - intOf i).toNat)
          case atStart => exact ⟨0, 1, rfl, rfl, rfl, by decide, by decide, ⟨by omega, rfl⟩⟩
          case round =>
            obtain ⟨p, z, hw, rfl, rfl, z0, z1, Z⟩ := hrel
            subst hw
            by_cases hpk : p < k
            · have hpi : (p : Int) < v := by have := hk.out; omega
              have hpow : Hid (2 ^ (p + 1) < 65536) := by
                have h1 := hk16.out
                have := Nat.pow_lt_pow_right (a := 2) (by decide) (show p + 1 < 16 by omega)
                show 2 ^ (p + 1) < 65536
                simpa using this
              have hpk' : Hid (p < k) := hpk
              clear hpk
              go_wp2
              go_roundw
              case rel =>
                refine ⟨p + 1, _, by first | rfl | trivial, rfl, by simp, ?_, ?_, ⟨by have := hpk'.out; omega, ?_⟩⟩
                · omega
                · have h1 := hpow.out
                  rw [Nat.pow_succ] at h1
                  have := Z.out.2
                  omega
                · rw [Nat.pow_succ]
                  have := Z.out.2
                  omega
              case measure => have := hpk'.out; simp [intOf]; omega
            · have hpe : p = k := by have := Z.out.1; omega
              subst hpe
              have hpi : (p : Int) = v := hk.out
              have q3 : decide ((p : Int) < v) = false := by simp; omega
              have fo : Hid (((orN mk p : Nat) : Int) = c + z) := by
                show ((orN mk p : Nat) : Int) = c + z
                rw [hor.out, ← K.out.2.2.1, ← Z.out.2]
                rfl
              replace hpi : Hid _ := hpi
              clear hpk
              go_wp2
              go_roundw
              case rel =>
                refine ⟨j + 1, orN mk p, _, by first | rfl | trivial, rfl, by simp, by omega, ?_, ⟨by have := hlt'.out; omega, fin.out.1, fo.out, fin.out.2⟩⟩
                have := fin.out.1
                have := fo.out
                omega
              case measure => have := hlt'.out; simp [intOf]; omega
        · go_wp2_with (go_at_call 18; refine (hB _).mono ?_; rintro e u ⟨rfl, hu⟩; replace hu := hu.symm; subst hu)
          go_roundw
          case rel =>
            refine ⟨j + 1, orN mk k, c, by first | rfl | trivial, rfl, by simp, c0, c1, ⟨by have := hlt'.out; omega, fin.out.1, ?_, fin.out.2⟩⟩
            rw [hor.out]
            exact K.out.2.2.1
          case measure => have := hlt'.out; simp [intOf]; omega
    · have hje : j = n := by have := K.out.1; omega
      subst hje
      have fin : Hid (R = some mk) := by
        have := K.out.2.2.2
        rw [List.drop_eq_nil_of_le (by rw [hn'.out]; exact Nat.le_refl _)] at this
        exact this.symm
      have hcm : Hid ((mk : Int) = c) := K.out.2.2.1
      clear hlt
      go_wp2
      go_ret2
      exact ⟨by rw [fin.out, ← hcm.out]; rfl, by first | rfl | trivial⟩

theorem same_true (w : World) (a b : Option Addr) (ca cb : Nat) (l : List Int) (hn : l.length ≤ 9223372036854775807) (ha : Hid (LiesI w a l)) (hb : Hid (LiesI w b l)) :
    Calls Try.prog 17 #[.slice a l.length ca, .slice b l.length cb] w fun e w' => e = .returned (.bool true) ∧ ∃ k, w' = w.drewN k := by
  obtain ⟨n, hn'⟩ : ∃ n, l.length = n := ⟨_, rfl⟩
  rw [hn'] at hn ⊢
  replace hn' : Hid _ := hn'
  have ni : (n : Int) ≤ 9223372036854775807 := by omega
  have hq : ((n : Int) != n) = false := by simp
  go_enter Try.func17, Try.ntmps17
  go_wp2
  go_loopw [5] (fun i wr => ∃ (j k : Nat), j ≤ n ∧ i = .int .i64 (j : Int) ∧ wr = w.drewN k) (fun i _ => (n - intOf i).toNat)
  case atStart => exact ⟨0, 0, by omega, rfl, rfl⟩
  case round =>
    obtain ⟨j, k, hj, rfl, rfl⟩ := hrel
    by_cases hlt : j < n
    · obtain ⟨v, hv⟩ : ∃ v, l[j]? = some v := ⟨l[j]'(by rw [hn'.out]; exact hlt), List.getElem?_eq_getElem _⟩
      obtain ⟨ga, oa, rfl, h1⟩ := ha.out j v hv
      obtain ⟨gb, ob, rfl, h2⟩ := hb.out j v hv
      have i1 := fun w => idxP (g := ga) (off := oa) (len := n) (cap := ca) Try.underlying31 (s := 1) (by kernel_rfl) .i64 j w hlt
      have i2 := fun w => idxP (g := gb) (off := ob) (len := n) (cap := cb) Try.underlying31 (s := 1) (by kernel_rfl) .i64 j w hlt
      simp only [Nat.mul_one] at i1 i2
      have hne : (v != v) = false := by simp
      replace hv : Hid _ := hv
      go_wp2
      go_quiet (fail)
      go_wp2
      go_roundw
      case rel => exact ⟨j + 1, _, by omega, by simp, rfl⟩
      case measure => simp [intOf]; omega
    · go_wp2
      go_ret
      exact ⟨rfl, _, rfl⟩
end Go.Proofs.Ytabhhmkbcnabmaa
