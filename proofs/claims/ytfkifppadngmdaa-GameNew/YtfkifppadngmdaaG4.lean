/- Rows of words; registers as an array; bytes as a string. -/
import Derived.Test.YtfkifppadngmdaaG3
namespace Go.Proofs.Ytfkifppadngmdaa
open Go Go.RowKit Go.Shelf
set_option linter.unusedVariables false
set_option maxHeartbeats 1000000
set_option maxRecDepth 20000

/-- A word's cells. -/
def cW (n : Nat) : List Value := [.int .u16 (n : Int)]
theorem infoWd : (Try.prog.info? 26).map (fun i => (i.zero, i.size, i.bytes)) = some (some (.int .u16 0), 1, 2) := by kernel_rfl
theorem kWord : KdL 27 26 1 2 cW := by
  obtain ⟨i, hi, e⟩ := Option.map_eq_some_iff.1 infoWd
  injection e with e1 e2
  injection e2 with e2 e3
  exact ⟨Try.underlying27, ⟨i, _, hi, e1, e2, e3, rfl⟩, fun _ => rfl, fun x v hv => by simp [cW] at hv; subst hv; rfl, by decide, by decide⟩
abbrev LW (w : World) (sp : Option Addr) (l : List Nat) : Prop := LiesL 1 cW w sp l
theorem lw_at {w : World} {g o : Nat} {l : List Nat} (h : LW w (some ⟨g, o, none⟩) l) (j : Nat) (hj : j < l.length) : w.cell? ⟨g, o + j, none⟩ = some (.int .u16 ((l.getD j 0 : Nat) : Int)) := by
  obtain ⟨gb, ob, e, k⟩ := h j (l.getD j 0) (by simp [List.getD, hj])
  cases e
  have := k 0 (.int .u16 ((l.getD j 0 : Nat) : Int)) rfl
  rwa [Nat.mul_one] at this
theorem lw_some {w : World} {sp : Option Addr} {l : List Nat} (h : LW w sp l) (hj : 0 < l.length) : ∃ g o, sp = some ⟨g, o, none⟩ := by
  obtain ⟨gb, ob, e, k⟩ := h 0 (l.getD 0 0) (by simp [List.getD, hj])
  exact ⟨gb, ob, e⟩
theorem rowW_eq (l : List Nat) : rowL cW l = l.map (fun n : Nat => Value.int .u16 (n : Int)) := by
  induction l with
  | nil => rfl
  | cons x l ih => rw [rowL_cons, ih]; rfl
theorem idxW (k : IntKind) (g o n cap j : Nat) (v : World) (h : j < n) : (Instr.indexAt 27 (.slice (some ⟨g, o, none⟩) n cap) (.int k (j : Int))).run Try.prog v = .ok (.pointer (some ⟨g, o + j, none⟩)) v := by
  have := idxP (g := g) (off := o) (len := n) (cap := cap) Try.underlying27 (s := 1) (by kernel_rfl) k j v h
  rwa [Nat.mul_one] at this
/-- Bytes that lie in a row, as a string. -/
def sB (l : List UInt8) : ByteArray := ⟨l.toArray⟩
theorem sB_list (l : List UInt8) : (sB l).toList = l := ByteArray.toList_mk l
theorem conv0 (w : World) (cap : Nat) : (convert 22 9 (.slice none 0 cap)).run Try.prog w = .ok (.string (sB [])) w := by kernel_rfl
theorem lb_conv {w : World} {sp : Option Addr} {l : List UInt8} (h : LB w sp l) (cap : Nat) : (convert 22 9 (.slice sp l.length cap)).run Try.prog w = .ok (.string (sB l)) w := by
  cases sp with
  | none =>
    have : l = [] := by
      cases l with
      | nil => rfl
      | cons a r => obtain ⟨g, o, e, _⟩ := h 0 a rfl; cases e
    subst this
    exact conv0 w cap
  | some a =>
    refine run_convert_bytes_back (P := Try.prog) w 22 9 5 a cap l Try.underlying22 Try.underlying5 Try.underlying9 (fun j hj => ?_)
    obtain ⟨g, o, e, c⟩ := h j _ (List.getElem?_eq_getElem hj)
    cases e
    rw [Addr.add_lit]
    have := c 0 (byV l[j]) rfl
    rwa [Nat.mul_one] at this
/-- Registers as an array. -/
def gVs (v : List UInt8) : Array Value := #[gV v 0, gV v 1, gV v 2, gV v 3, gV v 4, gV v 5, gV v 6, gV v 7, gV v 8, gV v 9, gV v 10, gV v 11, gV v 12, gV v 13, gV v 14, gV v 15]
def vB (v u : List UInt8) : List Nat → Bool
  | [] => true
  | k :: l => if (v.getD k 0).toNat = (u.getD k 0).toNat then vB v u l else false
theorem vB_iff (v u : List UInt8) : ∀ l, vB v u l = true ↔ ∀ k ∈ l, v.getD k 0 = u.getD k 0
  | [] => by simp [vB]
  | k :: l => by
    simp only [vB, List.mem_cons, forall_eq_or_imp]
    rw [← vB_iff v u l, ← UInt8.toNat_inj]
    split <;> simp_all
theorem eqV (v u : List UInt8) : Eqs Try.prog 25 (gVs v) (gVs u) (vB v u (List.range 16)) := ⟨by kernel_rfl, fun w => by
  obtain ⟨inf, hi, _⟩ := Option.map_eq_some_iff.1 infoBy
  rw [run_equalIn_array w 9999 _ _ Try.underlying25 hi]
  have e1 : Try.prog.cellsOf 5 = 1 := by kernel_rfl
  rw [e1]
  have key : ∀ l : List Nat, (∀ k ∈ l, k < 16) → (Op.eqItems 9999 5 1 (gVs v) (gVs u) l).run Try.prog w = .ok (vB v u l) w := fun l => by
    induction l with
    | nil => intro _; rfl
    | cons k l ih =>
      intro hk
      have ih' := ih fun j hj => hk j (List.mem_cons_of_mem _ hj)
      have hp : ∀ x : List UInt8, (part 5 (gVs x) (k * 1)).run Try.prog w = .ok (gV x k) w := fun x => by
        have h16 := hk k (List.mem_cons_self)
        rcases (show k = 0 ∨ k = 1 ∨ k = 2 ∨ k = 3 ∨ k = 4 ∨ k = 5 ∨ k = 6 ∨ k = 7 ∨ k = 8 ∨ k = 9 ∨ k = 10 ∨ k = 11 ∨ k = 12 ∨ k = 13 ∨ k = 14 ∨ k = 15 by omega) with rfl | rfl | rfl | rfl | rfl | rfl | rfl | rfl | rfl | rfl | rfl | rfl | rfl | rfl | rfl | rfl <;> (unfold gVs; go_simp)
      have he : (Op.equalIn 9999 5 (gV v k) (gV u k)).run Try.prog w = .ok (decide ((v.getD k 0).toNat = (u.getD k 0).toNat)) w := by
        unfold gV byV
        generalize (v.getD k 0).toNat = a
        generalize (u.getD k 0).toNat = b
        go_simp
        by_cases hab : a = b
        · simp [hab]
        · simp [hab]
          omega
      unfold Op.eqItems vB
      simp only [Sem.run_bind, hp, he, Result.andThen_ok]
      by_cases hab : (v.getD k 0).toNat = (u.getD k 0).toNat
      · simp only [hab, decide_true, Bool.not_true, if_pos]
        exact ih'
      · simp only [hab, decide_false, Bool.not_false, if_true, if_false]
        rfl
  exact key _ (by simp)⟩
end Go.Proofs.Ytfkifppadngmdaa
