/- A cycle's behind, whole. -/
import Derived.Test.YtbeeefekndcgnaaGreatDoorCy
import Derived.Test.YtbeeefekndcgnaaGreatDoorPl
import Derived.Test.YtbeeefekndcgnaaGreatDoorYo
import Derived.Test.YtbeeefekndcgnaaGreatDoorYk
import Derived.Test.YtbeeefekndcgnaaGreatDoorYc
namespace Go.Proofs.YtbeeefekndcgnaaGreatDoor
open Go Go.RowKit
set_option linter.unusedVariables false
set_option maxHeartbeats 1000000
set_option maxRecDepth 20000

theorem yshort (w : World) (c : Cp) (hc : c.wf) (p : Pn) (hp : p.wf) (hP : c.P < 16) : Calls Tryz.prog 55 #[.agg (cyC c p)] w fun e w' => e = .returned (.agg (cpC (shortM c p))) ∧ Below w.heap.size w w' := by
  have e8 : c.Op % 16 % 8 = c.Op % 8 := by omega
  have key : (holdsM c p (c.Op % 8) = decide (c.Op % 16 < 8)) ↔ branchesM c p = true := by
    unfold branchesM
    by_cases h8 : 8 ≤ c.Op % 16
    · rw [if_pos h8, show decide (c.Op % 16 < 8) = false by simpa using h8]; cases holdsM c p (c.Op % 8) <;> simp
    · rw [if_neg h8, show decide (c.Op % 16 < 8) = true by simpa using h8]
  unfold shortM
  rw [e8]
  rcases hb : branchesM c p
  · rw [if_neg (fun h => by rw [key, hb] at h; cases h)]; exact ybranch0 w c hc p hp hP hb
  · rw [if_pos (key.2 hb)]; exact ybranch1 w c hc p hp hP hb
theorem ysums (w : World) (c : Cp) (hc : c.wf) (p : Pn) (hp : p.wf) (tb : Tabs w) (hP : c.P < 16) (h15 : c.Op / 16 = 15) : Calls Tryz.prog 73 #[.agg (cyC c p)] w fun e w' => e = .returned (.agg (cpC (sumsM c p))) ∧ Below w.heap.size w w' := by
  have := yplain w c hc p hp tb hP
  unfold sumsM
  rcases (show c.Op % 16 = 0 ∨ c.Op % 16 = 1 ∨ c.Op % 16 = 2 ∨ c.Op % 16 = 3 ∨ c.Op % 16 = 4 ∨ c.Op % 16 = 5 ∨ c.Op % 16 = 6 ∨ c.Op % 16 = 7 ∨ c.Op % 16 = 8 ∨ c.Op % 16 = 9 ∨ c.Op % 16 = 10 ∨ c.Op % 16 = 11 ∨ c.Op % 16 = 12 ∨ c.Op % 16 = 13 ∨ c.Op % 16 = 14 ∨ c.Op % 16 = 15 by omega) with h | h | h | h | h | h | h | h | h | h | h | h | h | h | h | h <;> simp only [h]
  · have e := csum_eq c p 240 0 (by omega) true false (by decide) (by decide)
    rw [h, show plS 0 = 0 from rfl, e] at this
    exact this
  · have e := csum_eq c p 241 1 (by omega) true false (by decide) (by decide)
    rw [h, show plS 1 = 1 from rfl, e] at this
    exact this
  · have e := csum_eq c p 242 2 (by omega) true false (by decide) (by decide)
    rw [h, show plS 2 = 2 from rfl, e] at this
    exact this
  · have e := csum_eq c p 243 3 (by omega) true false (by decide) (by decide)
    rw [h, show plS 3 = 3 from rfl, e] at this
    exact this
  · have e := csum_eq c p 244 4 (by omega) true false (by decide) (by decide)
    rw [h, show plS 4 = 4 from rfl, e] at this
    exact this
  · have e := csum_eq c p 245 6 (by omega) true false (by decide) (by decide)
    rw [h, show plS 5 = 6 from rfl, e] at this
    exact this
  · have e := csum_eq c p 246 10 (by omega) false false (by decide) (by decide)
    rw [h, show plS 6 = 10 from rfl, e] at this
    exact this
  · have e := csum_eq c p 247 8 (by omega) true false (by decide) (by decide)
    rw [h, show plS 7 = 8 from rfl, e] at this
    exact this
  · have e := csum_eq c p 248 0 (by omega) true true (by decide) (by decide)
    rw [h, show plS 8 = 0 from rfl, e] at this
    exact this
  · have e := csum_eq c p 249 1 (by omega) true true (by decide) (by decide)
    rw [h, show plS 9 = 1 from rfl, e] at this
    exact this
  · have e := csum_eq c p 250 2 (by omega) true true (by decide) (by decide)
    rw [h, show plS 10 = 2 from rfl, e] at this
    exact this
  · have e := csum_eq c p 251 3 (by omega) true true (by decide) (by decide)
    rw [h, show plS 11 = 3 from rfl, e] at this
    exact this
  · have e := csum_eq c p 252 4 (by omega) true true (by decide) (by decide)
    rw [h, show plS 12 = 4 from rfl, e] at this
    exact this
  · have e := csum_eq c p 253 6 (by omega) true true (by decide) (by decide)
    rw [h, show plS 13 = 6 from rfl, e] at this
    exact this
  · have e := csum_eq c p 254 12 (by omega) false false (by decide) (by decide)
    rw [h, show plS 14 = 12 from rfl, e] at this
    exact this
  · have e := csum_eq c p 255 8 (by omega) true true (by decide) (by decide)
    rw [h, show plS 15 = 8 from rfl, e] at this
    exact this
def RowOf (c : Cp) (p : Pn) : Prop := ∃ (Fn : Nat) (g1 g2 : Value), (∀ v, (Instr.index 70 (.agg rtab) (.int .u8 ((c.Op / 16 : Nat) : Int))).run Tryz.prog v = .ok (.agg #[.func (.func Fn) #[] #[], g1, g2]) v) ∧ (∀ v, Sem.run Tryz.prog (callFunc Fn #[.agg (cyC c p)]) v = .ok (.enter Fn #[.agg (cyC c p)]) v)
  ∧ ∀ v, Tabs v → Calls Tryz.prog Fn #[.agg (cyC c p)] v fun e w' => e = .returned (.agg (cpC (doesM c p))) ∧ Below v.heap.size v w'
theorem yrowof (c : Cp) (hc : c.wf) (p : Pn) (hp : p.wf) (hP : c.P < 16) (hX : c.X < 16) : RowOf c p := by
  have ho := hc.Op
  unfold RowOf doesM
  rcases (show c.Op / 16 = 0 ∨ c.Op / 16 = 1 ∨ c.Op / 16 = 2 ∨ c.Op / 16 = 3 ∨ c.Op / 16 = 4 ∨ c.Op / 16 = 5 ∨ c.Op / 16 = 6 ∨ c.Op / 16 = 7 ∨ c.Op / 16 = 8 ∨ c.Op / 16 = 9 ∨ c.Op / 16 = 10 ∨ c.Op / 16 = 11 ∨ c.Op / 16 = 12 ∨ c.Op / 16 = 13 ∨ c.Op / 16 = 14 ∨ c.Op / 16 = 15 by omega) with h | h | h | h | h | h | h | h | h | h | h | h | h | h | h | h <;> simp only [h]
  · by_cases h0 : c.Op % 16 = 0
    · rw [if_pos h0]; exact ⟨52, .nilFunc, .nilFunc, fun v => by kernel_rfl, fun v => by kernel_rfl, fun v t => yloadN0 v c hc p hp (by omega)⟩
    · rw [if_neg h0]; exact ⟨52, .nilFunc, .nilFunc, fun v => by kernel_rfl, fun v => by kernel_rfl, fun v t => yloadN1 v c hc p hp (by omega)⟩
  · exact ⟨53, .nilFunc, .nilFunc, fun v => by kernel_rfl, fun v => by kernel_rfl, fun v t => yinc v c hc p hp⟩
  · exact ⟨54, .nilFunc, .nilFunc, fun v => by kernel_rfl, fun v => by kernel_rfl, fun v t => ydec v c hc p hp⟩
  · exact ⟨55, .nilFunc, .nilFunc, fun v => by kernel_rfl, fun v => by kernel_rfl, fun v t => yshort v c hc p hp hP⟩
  · exact ⟨56, .nilFunc, .nilFunc, fun v => by kernel_rfl, fun v => by kernel_rfl, fun v t => ylda v c hc p hp⟩
  · exact ⟨57, .nilFunc, (.func (.func 58) #[] #[]), fun v => by kernel_rfl, fun v => by kernel_rfl, fun v t => ynothing v c hc p hp⟩
  · exact ⟨59, .nilFunc, .nilFunc, fun v => by kernel_rfl, fun v => by kernel_rfl, fun v t => yexch v c hc p hp hX⟩
  · exact ⟨60, .nilFunc, (.func (.func 61) #[] #[]), fun v => by kernel_rfl, fun v => by kernel_rfl, fun v t => ycontrol v c hc p hp t hP hX h⟩
  · exact ⟨62, .nilFunc, (.func (.func 63) #[] #[]), fun v => by kernel_rfl, fun v => by kernel_rfl, fun v t => ygetlo v c hc p hp⟩
  · exact ⟨64, .nilFunc, (.func (.func 65) #[] #[]), fun v => by kernel_rfl, fun v => by kernel_rfl, fun v t => ygethi v c hc p hp⟩
  · exact ⟨66, .nilFunc, (.func (.func 58) #[] #[]), fun v => by kernel_rfl, fun v => by kernel_rfl, fun v t => yputlo v c hc p hp⟩
  · exact ⟨67, .nilFunc, (.func (.func 58) #[] #[]), fun v => by kernel_rfl, fun v => by kernel_rfl, fun v t => yputhi v c hc p hp⟩
  · exact ⟨68, (.func (.func 69) #[] #[]), .nilFunc, fun v => by kernel_rfl, fun v => by kernel_rfl, fun v t => ylong1 v c hc p hp t hP h⟩
  · exact ⟨70, .nilFunc, (.func (.func 71) #[] #[]), fun v => by kernel_rfl, fun v => by kernel_rfl, fun v t => ysetP v c hc p hp⟩
  · exact ⟨72, .nilFunc, (.func (.func 71) #[] #[]), fun v => by kernel_rfl, fun v => by kernel_rfl, fun v t => ysetX v c hc p hp⟩
  · exact ⟨73, .nilFunc, .nilFunc, fun v => by kernel_rfl, fun v => by kernel_rfl, fun v t => ysums v c hc p hp t hP h⟩
theorem ybehind (w : World) (c : Cp) (hc : c.wf) (p : Pn) (hp : p.wf) (tb : Tabs w) (hm : mayM c) : Calls Tryz.prog 28 #[.agg (cyC c p)] w fun e w' => e = .returned (.agg (cpC (behindM c p))) ∧ Below w.heap.size w w' := by
  obtain ⟨h1, h2, h3, h4, h5, h6, h7⟩ := hm
  have hP : c.P < 16 := by omega
  have hX : c.X < 16 := by omega
  unfold behindM
  rcases (show c.Ph = 1 ∨ c.Ph = 2 ∨ c.Ph = 3 ∨ c.Ph = 4 ∨ c.Ph = 5 ∨ c.Ph = 6 ∨ c.Ph = 7 ∨ c.Ph = 8 by omega) with h | h | h | h | h | h | h | h <;> simp only [h]
  · exact ybehind1 w c hc p hp hP h
  · obtain ⟨Fn, g1, g2, hix, hcf, hf⟩ := yrowof c hc p hp hP hX
    by_cases h12 : c.Op / 16 = 12
    · rw [if_pos h12]; exact ybehind2_0 w c hc p hp tb h _ rfl Fn _ g1 g2 _ rfl hix hcf hf h12
    · rw [if_neg h12]
      by_cases h0 : c.Op = 0
      · rw [if_pos h0]; exact ybehind2_1 w c hc p hp tb h _ rfl Fn _ g1 g2 _ rfl hix hcf hf h0
      · rw [if_neg h0]; exact ybehind2_2 w c hc p hp tb h _ rfl Fn _ g1 g2 _ rfl hix hcf hf ⟨h12, h0⟩
  · exact ybehind3 w c hc p hp tb h 12 (h5 h) 69 (.func (.func 68) #[] #[]) _ .nilFunc _ rfl (fun v => by kernel_rfl) (fun v => by kernel_rfl) (fun v t => ylong2 v c hc p hp t hP (h5 h))
  · exact ybehind4 w c hc p hp h
  · exact ybehind5 w c hc p hp h
  · exact ybehind6 w c hc p hp h
  · exact ybehind7 w c hc p hp h
  · exact ybehind8 w c hc p hp hP hX h
end Go.Proofs.YtbeeefekndcgnaaGreatDoor
