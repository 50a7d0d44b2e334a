/- The processor's answers as plain functions. -/
import Derived.Test.YtbeeefekndcgnaaGreatDoorCp
import Derived.Test.YtbeeefekndcgnaaGreatDoorMath
namespace Go.Proofs.YtbeeefekndcgnaaGreatDoor
open Go Go.RowKit
set_option linter.unusedVariables false

theorem ret_u8 {a b : Int} (h : a = b) : Ending.returned (.int .u8 a) = .returned (.int .u8 b) := by rw [h]
theorem ret_i64 {a b : Int} (h : a = b) : Ending.returned (.int .i64 a) = .returned (.int .i64 b) := by rw [h]
theorem ret_bool {a b : Bool} (h : a = b) : Ending.returned (.bool a) = .returned (.bool b) := by rw [h]
def rfmI (n : Int) : Int :=
  if n / 16 = 0 then (if n % 16 = 0 then 1 else 2)
  else if n / 16 = 3 then (if n % 16 = 8 then 1 else 5)
  else if n / 16 = 6 then (if n % 16 % 8 = 0 then 1 else 3)
  else if n / 16 = 7 then (if n % 16 = 12 ∨ n % 16 = 13 ∨ n % 16 = 15 then 4 else 1)
  else if n / 16 = 12 then (if n % 16 ≤ 3 ∨ 9 ≤ n % 16 ∧ n % 16 ≤ 11 then 6 else 1)
  else if n / 16 = 15 then (if 8 ≤ n % 16 ∧ n % 16 ≠ 14 then 4 else 1)
  else 2
def rptI (n : Int) : Int :=
  if n / 16 = 0 then (if n % 16 = 0 then 4 else 0)
  else if n / 16 = 3 ∨ n / 16 = 12 then 2
  else if n / 16 = 6 then 1
  else if n / 16 = 7 then (if n % 16 = 9 then 3 else if 10 ≤ n % 16 then 2 else 1)
  else if n / 16 = 15 then (if 8 ≤ n % 16 then 2 else 1)
  else 0
def rrdB (n : Int) : Bool :=
  if n / 16 = 0 ∨ n / 16 = 3 ∨ n / 16 = 4 ∨ n / 16 = 12 then true
  else if n / 16 = 6 then decide (n % 16 < 8)
  else if n / 16 = 7 then decide (n % 16 ≤ 2 ∨ n % 16 = 4 ∨ n % 16 = 5 ∨ n % 16 = 7 ∨ n % 16 = 12 ∨ n % 16 = 13 ∨ n % 16 = 15)
  else if n / 16 = 15 then decide (n % 16 ≠ 6 ∧ n % 16 ≠ 14)
  else false
def rwrB (n : Int) : Bool := decide (n / 16 = 5 ∨ n / 16 = 6 ∧ 8 < n % 16 ∨ n / 16 = 7 ∧ (n % 16 = 3 ∨ n % 16 = 8 ∨ n % 16 = 9))
def rowB (n : Int) : Bool := decide (rwrB n = true ∧ n / 16 ≠ 6 ∨ 8 ≤ n / 16 ∧ n / 16 ≤ 11 ∨ n / 16 = 13 ∨ n / 16 = 14)
def askedM (c : Cp) (p : Pn) (quiet : Bool) (rest : Nat) : Nat := if p.DI then 6 else if p.DO then 7 else if p.Int_ && c.IE && !quiet then 8 else rest
def holdsM (c : Cp) (p : Pn) (k : Nat) : Bool := if k = 0 then true else if k = 1 then c.Q else if k = 2 then c.D == 0 else if k = 3 then c.DF else p.EF (k - 4)
def goesM (c : Cp) : Bool :=
  if c.Op % 16 = 0 ∨ c.Op % 16 = 8 then true else if c.Op % 16 = 1 ∨ c.Op % 16 = 13 then c.Q else if c.Op % 16 = 2 ∨ c.Op % 16 = 14 then c.D == 0 else if c.Op % 16 = 3 ∨ c.Op % 16 = 15 then c.DF
  else if c.Op % 16 = 5 ∨ c.Op % 16 = 9 then !c.Q else if c.Op % 16 = 6 ∨ c.Op % 16 = 10 then c.D != 0 else if c.Op % 16 = 7 ∨ c.Op % 16 = 11 then !c.DF else if c.Op % 16 = 12 then c.IE else false
def sumM (c : Cp) (s : Nat) (b : Int) : Cp := { c with D := doV s c.D b c.DF, DF := doF s c.D b c.DF }
def portsM (c : Cp) (p : Pn) : Cp := if c.Op % 16 < 8 then c.up c.X else if c.Op % 16 > 8 then { c with D := p.Data } else c
def shortM (c : Cp) (p : Pn) : Cp := if holdsM c p (c.Op % 16 % 8) = decide (c.Op % 16 < 8) then c.setR c.P (c.R c.P / 256 * 256 + p.Data) else c.up c.P
def mayM (c : Cp) : Prop := c.P ≤ 15 ∧ c.X ≤ 15 ∧ 1 ≤ c.Ph ∧ c.Ph ≤ 8 ∧ (c.Ph = 3 → c.Op / 16 = 12) ∧ (c.Ph ≠ 3 → c.B = 0) ∧ (c.Ph = 4 ∨ c.Ph = 5 → c.Op = 0)
def checkB (c : Cp) : Bool := decide (c.P ≤ 15) && (decide (c.X ≤ 15) && (decide (1 ≤ c.Ph) && (decide (c.Ph ≤ 8) && ((!decide (c.Ph = 3) || decide (c.Op / 16 = 12)) && ((decide (c.Ph = 3) || decide (c.B = 0)) && (!(decide (c.Ph = 4) || decide (c.Ph = 5)) || decide (c.Op = 0)))))))
def checkM (c : Cp) : Int := if checkB c then 0 else 40
theorem checkB_iff (c : Cp) : checkB c = true ↔ mayM c := by
  unfold checkB mayM
  simp only [Bool.and_eq_true, Bool.or_eq_true, Bool.not_eq_true', decide_eq_true_eq, decide_eq_false_iff_not, Bool.or_eq_false_iff]
  constructor
  · rintro ⟨h1, h2, h3, h4, h5, h6, h7⟩
    refine ⟨h1, h2, h3, h4, fun h => h5.resolve_left (fun k => k h), fun h => h6.resolve_left h, fun h => h7.resolve_left (fun k => h.elim k.1 k.2)⟩
  · rintro ⟨h1, h2, h3, h4, h5, h6, h7⟩
    refine ⟨h1, h2, h3, h4, ?_, ?_, ?_⟩
    · by_cases h : c.Ph = 3
      · exact .inr (h5 h)
      · exact .inl h
    · by_cases h : c.Ph = 3
      · exact .inl h
      · exact .inr (h6 h)
    · by_cases h : c.Ph = 4 ∨ c.Ph = 5
      · exact .inr (h7 h)
      · exact .inl ⟨fun k => h (.inl k), fun k => h (.inr k)⟩
def addrM (c : Cp) (k : Int) : Int := if k = 0 then c.R (c.Op % 16) else if k = 1 then c.R c.X else if k = 2 then c.R c.P else if k = 3 then c.R 2 else c.R 0
def long1M (c : Cp) (p : Pn) : Cp := if rfmI c.Op = 6 then { c with B := p.Data }.up c.P else if goesM c then c.up c.P else c
def long2M (c : Cp) (p : Pn) : Cp := { (if rfmI c.Op = 6 ∧ goesM c = true then c.setR c.P (c.B * 256 + p.Data) else if rfmI c.Op = 6 ∨ goesM c = true then c.up c.P else c) with B := 0 }
theorem Cp.wf.setB {c : Cp} (h : c.wf) {v : Int} (hv : 0 ≤ v ∧ v < 256) : ({ c with B := v } : Cp).wf := ⟨h.R, h.D, h.P, h.X, h.T, h.Op, hv, h.Ph⟩
theorem Cp.wf.sum {c : Cp} (h : c.wf) (s : Nat) (b : Int) (hb : 0 ≤ b ∧ b < 256) : (sumM c s b).wf := ⟨h.R, ⟨doV_lo _ _ _ _ h.D.1 hb.1, Int.lt_of_le_of_lt (doV_hi s c.D b c.DF h.D.1 (by have := h.D; omega) hb.1 (by omega)) (by omega)⟩, h.P, h.X, h.T, h.Op, h.B, h.Ph⟩
def ctrlM (c : Cp) (p : Pn) : Cp :=
  match c.Op % 16 with
  | 0 => { ({ c with IE := true }.up c.X) with X := (p.Data / 16).toNat, P := (p.Data % 16).toNat }
  | 1 => { ({ c with IE := false }.up c.X) with X := (p.Data / 16).toNat, P := (p.Data % 16).toNat }
  | 2 => { c with D := p.Data }.up c.X
  | 3 => c.down c.X
  | 4 => sumM c 5 p.Data
  | 5 => sumM c 7 p.Data
  | 6 => sumM c 11 0
  | 7 => sumM c 9 p.Data
  | 9 => { c with T := 16 * (c.X : Int) + c.P, X := c.P }.down 2
  | 10 => { c with Q := false }
  | 11 => { c with Q := true }
  | 12 => (sumM c 5 p.Data).up c.P
  | 13 => (sumM c 7 p.Data).up c.P
  | 14 => sumM c 13 0
  | 15 => (sumM c 9 p.Data).up c.P
  | _ => c
def sumsM (c : Cp) (p : Pn) : Cp :=
  match c.Op % 16 with
  | 0 => sumM c 0 p.Data
  | 1 => sumM c 1 p.Data
  | 2 => sumM c 2 p.Data
  | 3 => sumM c 3 p.Data
  | 4 => sumM c 4 p.Data
  | 5 => sumM c 6 p.Data
  | 6 => sumM c 10 0
  | 7 => sumM c 8 p.Data
  | 8 => (sumM c 0 p.Data).up c.P
  | 9 => (sumM c 1 p.Data).up c.P
  | 10 => (sumM c 2 p.Data).up c.P
  | 11 => (sumM c 3 p.Data).up c.P
  | 12 => (sumM c 4 p.Data).up c.P
  | 13 => (sumM c 6 p.Data).up c.P
  | 14 => sumM c 12 0
  | 15 => (sumM c 8 p.Data).up c.P
  | _ => c
def doesM (c : Cp) (p : Pn) : Cp :=
  match c.Op / 16 with
  | 0 => if c.Op % 16 = 0 then c else { c with D := p.Data }
  | 1 => c.up (c.Op % 16)
  | 2 => c.down (c.Op % 16)
  | 3 => shortM c p
  | 4 => { c with D := p.Data }.up (c.Op % 16)
  | 6 => portsM c p
  | 7 => ctrlM c p
  | 8 => { c with D := c.R (c.Op % 16) % 256 }
  | 9 => { c with D := c.R (c.Op % 16) / 256 }
  | 10 => c.setR (c.Op % 16) (c.R (c.Op % 16) / 256 * 256 + c.D)
  | 11 => c.setR (c.Op % 16) (c.D * 256 + c.R (c.Op % 16) % 256)
  | 12 => long1M c p
  | 13 => { c with P := c.Op % 16 }
  | 14 => { c with X := c.Op % 16 }
  | 15 => sumsM c p
  | _ => c

/-- The first cycle behind a reset; a cycle in the mode Run; one in the mode Load; any. -/
def begunM (c : Cp) : Cp := { (c.setR 0 0) with X := 0, P := 0 }
def goOnM (c : Cp) (p : Pn) : Cp :=
  match c.Ph with
  | 1 => { ({ c with Op := p.Data.toNat }.up c.P) with Ph := 2 }
  | 2 => if c.Op / 16 = 12 then { doesM c p with Ph := 3 } else if c.Op = 0 then { doesM c p with Ph := askedM (doesM c p) p false 4 } else { doesM c p with Ph := askedM (doesM c p) p false 1 }
  | 3 => { long2M c p with Ph := askedM (long2M c p) p false 1 }
  | 4 => { c with Ph := askedM c p false 4 }
  | 5 => { begunM c with Ph := askedM c p true 1 }
  | 6 => { c.up 0 with Ph := askedM c p false 1 }
  | 7 => { c.up 0 with Ph := askedM c p false 1 }
  | 8 => { c with T := 16 * (c.X : Int) + c.P, P := 1, X := 2, IE := false, Ph := askedM c p true 1 }
  | _ => c
def loadM (c : Cp) (p : Pn) : Cp :=
  if p.DI then { (if c.Ph = 5 then begunM c else if c.Ph = 6 then c.up 0 else { c with Op := 0, B := 0 }) with Ph := 6 }
  else { (if c.Ph = 5 then begunM c else if c.Ph = 6 then c.up 0 else { c with Op := 0, B := 0 }) with Ph := 4, Op := 0 }
def resetM (c : Cp) : Cp := { c with Op := 0, B := 0, Q := false, IE := true, Ph := 5 }
def stepM (c : Cp) (p : Pn) : Cp := if checkB c then (if p.Mode = 0 then goOnM c p else if p.Mode = 1 then c else if p.Mode = 2 then resetM c else if p.Mode = 3 then loadM c p else zeroC) else zeroC
/-- What the processor does to the bus. -/
def ownM (c : Cp) : Int :=
  if c.Op / 16 = 7 then (if c.Op % 16 = 3 then c.D else if c.Op % 16 = 8 then c.T else 16 * (c.X : Int) + c.P)
  else if c.Op / 16 = 8 then c.R (c.Op % 16) % 256 else if c.Op / 16 = 9 then c.R (c.Op % 16) / 256
  else if c.Op / 16 = 13 ∨ c.Op / 16 = 14 then 17 * ((c.Op % 16 : Nat) : Int) else c.D
def execM (c : Cp) : Dv := ⟨1, addrM c (rptI c.Op), rrdB c.Op, rwrB c.Op, rowB c.Op, if rowB c.Op then ownM c else 0, if c.Op / 16 = 6 then ((c.Op % 8 : Nat) : Int) else 0, true⟩
def runM (c : Cp) : Dv :=
  match c.Ph with
  | 1 => ⟨0, c.R c.P, true, false, false, 0, 0, true⟩
  | 2 => execM c
  | 3 => execM c
  | 4 => ⟨1, c.R 0, true, false, false, 0, 0, true⟩
  | 5 => ⟨1, c.R 0, false, false, false, 0, 0, true⟩
  | 6 => ⟨2, c.R 0, false, true, false, 0, 0, true⟩
  | 7 => ⟨2, c.R 0, true, false, false, 0, 0, true⟩
  | _ => ⟨3, c.R (c.Op % 16), false, false, false, 0, 0, true⟩
def zeroD : Dv := ⟨0, 0, false, false, false, 0, 0, false⟩
def driveM (c : Cp) (m : Nat) : Dv :=
  if checkB c then (if m = 0 then runM c else if m = 1 then ⟨(runM c).Code, (runM c).Addr, false, false, false, 0, 0, false⟩ else if m = 2 then ⟨1, c.R 0, false, false, true, 0, 0, false⟩
    else if m = 3 then (if c.Ph = 5 ∨ c.Ph = 6 then runM c else ⟨1, c.R 0, true, false, false, 0, 0, true⟩) else zeroD) else zeroD
end Go.Proofs.YtbeeefekndcgnaaGreatDoor
