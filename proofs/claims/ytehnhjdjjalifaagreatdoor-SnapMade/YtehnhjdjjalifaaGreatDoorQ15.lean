/- The statements' own first machine, and whether the program is awake. -/
import Derived.Test.YtehnhjdjjalifaaGreatDoorQ14
import Derived.Laws.OwnMore
namespace Go.Proofs.YtehnhjdjjalifaaGreatDoor
open Go Go.RowKit Go.Shelf
set_option linter.unusedVariables false
set_option maxHeartbeats 4000000
set_option maxRecDepth 20000

/-- A machine of 2048 bytes at power on. -/
def sBd : Bd := ⟨[0, 0, 0, 0, 0, 0, 0, 0, 0, 0, 0, 0, 0, 0, 0, 0], 0, false, 0, 0, 0, true, false, 0, 0, 5, 0, 0, false, 0, 0, true, List.replicate 2048 0, List.replicate 512 0, 0⟩
theorem sBd_ram : sBd.ram.length = 2048 := List.length_replicate
theorem sBd_rom : sBd.rom.length = 512 := List.length_replicate
theorem sBd_ok : sBd.Ok := ⟨rfl, fun v hv => by
  simp only [sBd, List.mem_cons, List.not_mem_nil, or_false, or_self] at hv
  subst hv
  decide, by decide⟩
theorem sBd_chk : chkB sBd = 0 := by
  unfold chkB
  rw [if_neg (by rw [sBd_ram]; decide), if_neg (by rw [sBd_rom]; decide)]
  decide
theorem sBd_len : (savB sBd).length = 2631 := by rw [sav_len sBd rfl, sBd_ram, sBd_rom]
theorem sBd_at : byteB (savB sBd) 0 = 86 ∧ byteB (savB sBd) 41 = 1 ∧ byteB (savB sBd) 45 = 5 ∧ byteB (savB sBd) 52 = 1 ∧ byteB (savB sBd) 62 = 8 := by
  rw [sav_eq]
  have k := fun k hk => byte_head sBd rfl (sBd.ram ++ (sBd.rom ++ putN (sumB (bodyB sBd)) 8)) k hk
  rw [k 0 (by decide), k 41 (by decide), k 45 (by decide), k 52 (by decide), k 62 (by decide)]
  have e : headB sBd = [86, 83, 80, 49] ++ (sBd.r.flatMap fun v => putN v 2) ++ [sBd.d, flB sBd.df, sBd.p, sBd.x, sBd.t, flB sBd.ie, flB sBd.q, sBd.op, sBd.b, sBd.ph] ++ putN sBd.ln.toNat 2 ++ [UInt8.ofNat sBd.cy.toNat, flB sBd.on, UInt8.ofNat sBd.gt.toNat, sBd.pd, flB sBd.lt] ++ putN sBd.cc 8 ++ putN 2048 2 := by unfold headB; rw [sBd_ram]
  rw [e]
  exact ⟨rfl, rfl, rfl, rfl, rfl⟩
theorem made_by (n : Nat) : ∃ M, M = (rowL cB (List.replicate n 0)).toArray ∧ ∀ v, (n : Int) ≤ 100000 → (Instr.makeSlice 31 (.int .i64 (n : Int)) (.int .i64 (n : Int))).run Tryz.prog v = .ok (.slice (some ⟨v.heap.size, 0, none⟩) n n) (v.alloc (.cells M 5)) := by
  obtain ⟨i, hi, e⟩ := Option.map_eq_some_iff.1 infoBy
  injection e with e1 e2
  injection e2 with e2 e3
  refine ⟨_, rfl, fun v hn => ?_⟩
  have := run_make (P := Tryz.prog) v 31 5 i _ Tryz.underlying31 hi e1 .i64 .i64 (n : Int) (n : Int) (by omega) (Int.le_refl _) (by rw [e3]; omega) (by omega)
  rw [e2, Int.toNat_natCast, Nat.mul_one] at this
  rw [this]
  congr 3
  apply Array.toList_inj.1
  rw [rowB_eq, List.map_replicate]
  exact toList_madeCells_one (.int .u8 0) n
end Go.Proofs.YtehnhjdjjalifaaGreatDoor
