/- Machines as bytes, plain: the form, the sum, there and back. -/
import Derived.KernelRfl
namespace Go.Proofs.YtehnhjdjjalifaaGreatDoor
set_option linter.unusedVariables false
set_option maxHeartbeats 1000000
set_option maxRecDepth 20000

/-- A machine between two cycles. -/
structure Bd where
  r : List Nat
  d : UInt8
  df : Bool
  p : UInt8
  x : UInt8
  t : UInt8
  ie : Bool
  q : Bool
  op : UInt8
  b : UInt8
  ph : UInt8
  ln : Int
  cy : Int
  on : Bool
  gt : Int
  pd : UInt8
  lt : Bool
  ram : List UInt8
  rom : List UInt8
  cc : Nat
  deriving DecidableEq
/-- What a machine in memory is anyway. -/
structure Bd.Ok (s : Bd) : Prop where
  r : s.r.length = 16
  rl : ∀ v ∈ s.r, v < 65536
  cc : s.cc < 18446744073709551616
def flB (b : Bool) : UInt8 := if b then 1 else 0
/-- So many bytes of a number, the lowest first. -/
def putN (n : Nat) : Nat → List UInt8
  | 0 => []
  | k + 1 => UInt8.ofNat (n % 256) :: putN (n / 256) k
/-- The number that bytes are. -/
def getN : List UInt8 → Nat
  | [] => 0
  | a :: l => a.toNat + 256 * getN l
theorem putN_len (k : Nat) : ∀ n, (putN n k).length = k := by
  induction k with
  | zero => exact fun _ => rfl
  | succ k ih => exact fun n => by simp [putN, ih]
theorem ofB' (v : Nat) : (UInt8.ofNat (v % 256)).toNat = v % 256 := by
  simp
theorem get_put (k : Nat) : ∀ n, n < 256 ^ k → getN (putN n k) = n := by
  induction k with
  | zero => intro n h; simp at h; subst h; rfl
  | succ k ih =>
    intro n h
    have h2 : n / 256 < 256 ^ k := Nat.div_lt_of_lt_mul (by rw [Nat.pow_succ] at h; omega)
    show (UInt8.ofNat (n % 256)).toNat + 256 * getN (putN (n / 256) k) = n
    rw [ih _ h2, ofB']
    omega
theorem put_get : ∀ l : List UInt8, putN (getN l) l.length = l
  | [] => rfl
  | a :: l => by
    have ha := UInt8.toNat_lt a
    show UInt8.ofNat ((a.toNat + 256 * getN l) % 256) :: putN ((a.toNat + 256 * getN l) / 256) l.length = a :: l
    rw [show (a.toNat + 256 * getN l) % 256 = a.toNat by omega, show (a.toNat + 256 * getN l) / 256 = getN l by omega, put_get l]
    simp
theorem getN_lt : ∀ l : List UInt8, getN l < 256 ^ l.length
  | [] => by simp [getN]
  | a :: l => by
    have ha := UInt8.toNat_lt a
    have h := getN_lt l
    show a.toNat + 256 * getN l < 256 ^ (l.length + 1)
    rw [Nat.pow_succ]
    omega
/-- One step of the sum. -/
def stpH (h : Nat) (b : UInt8) : Nat := ((h ^^^ b.toNat) * 1099511628211) % 18446744073709551616
def sumH (h : Nat) (l : List UInt8) : Nat := l.foldl stpH h
def h0 : Nat := 14695981039346656037
def sumB (l : List UInt8) : Nat := sumH h0 l
theorem stp_lt (h : Nat) (b : UInt8) : stpH h b < 18446744073709551616 := Nat.mod_lt _ (by decide)
theorem sumH_lt (l : List UInt8) : ∀ h, h < 18446744073709551616 → sumH h l < 18446744073709551616 := by
  induction l with
  | nil => exact fun h hh => hh
  | cons b l ih => exact fun h _ => ih _ (stp_lt h b)
theorem sumB_lt (l : List UInt8) : sumB l < 18446744073709551616 := sumH_lt l _ (by decide)
theorem mul_inv (v : Nat) (h : v < 18446744073709551616) : (v * 1099511628211 % 18446744073709551616) * 14886173955864302971 % 18446744073709551616 = v := by
  rw [Nat.mod_mul_mod, Nat.mul_assoc, show 1099511628211 * 14886173955864302971 = 887285111055 * 18446744073709551616 + 1 by decide]
  rw [Nat.mul_add, Nat.mul_one, ← Nat.mul_assoc, Nat.add_comm, Nat.add_mul_mod_self_right, Nat.mod_eq_of_lt h]
theorem xor_lt64 (h : Nat) (b : UInt8) (hh : h < 18446744073709551616) : h ^^^ b.toNat < 18446744073709551616 :=
  Nat.xor_lt_two_pow (n := 64) hh (Nat.lt_trans (UInt8.toNat_lt b) (by decide))
theorem stp_inj {h h' : Nat} {b b' : UInt8} (hh : h < 18446744073709551616) (hh' : h' < 18446744073709551616) (e : stpH h b = stpH h' b') : h ^^^ b.toNat = h' ^^^ b'.toNat := by
  have h1 := mul_inv _ (xor_lt64 h b hh)
  have h2 := mul_inv _ (xor_lt64 h' b' hh')
  unfold stpH at e
  rw [e] at h1
  exact h1.symm.trans h2
theorem xor_left {a b c : Nat} (h : a ^^^ b = a ^^^ c) : b = c := by
  have : a ^^^ (a ^^^ b) = a ^^^ (a ^^^ c) := by rw [h]
  rwa [← Nat.xor_assoc, ← Nat.xor_assoc, Nat.xor_self, Nat.zero_xor, Nat.zero_xor] at this
theorem xor_right {a b c : Nat} (h : a ^^^ c = b ^^^ c) : a = b := by
  rw [Nat.xor_comm a, Nat.xor_comm b] at h
  exact xor_left h
theorem sum_inj (l : List UInt8) : ∀ {h h' : Nat}, h < 18446744073709551616 → h' < 18446744073709551616 → sumH h l = sumH h' l → h = h' := by
  induction l with
  | nil => exact fun _ _ e => e
  | cons b l ih =>
    intro h h' hh hh' e
    exact xor_right (stp_inj hh hh' (ih (stp_lt h b) (stp_lt h' b) e))
/-- Bytes of which one is another one have another sum. -/
theorem sum_turned (l r : List UInt8) (a b : UInt8) (hab : a ≠ b) : sumB (l ++ a :: r) ≠ sumB (l ++ b :: r) := by
  intro e
  unfold sumB sumH at e
  rw [List.foldl_append, List.foldl_append] at e
  have hl := sumB_lt l
  have e2 := sum_inj r (stp_lt (sumB l) a) (stp_lt (sumB l) b) e
  have e3 := xor_left (stp_inj hl hl e2)
  exact hab (UInt8.toNat_inj.1 e3)
/-- The bytes ahead of RAM. -/
def headB (s : Bd) : List UInt8 :=
  [86, 83, 80, 49] ++ (s.r.flatMap fun v => putN v 2) ++ [s.d, flB s.df, s.p, s.x, s.t, flB s.ie, flB s.q, s.op, s.b, s.ph] ++ putN s.ln.toNat 2 ++ [UInt8.ofNat s.cy.toNat, flB s.on, UInt8.ofNat s.gt.toNat, s.pd, flB s.lt] ++ putN s.cc 8 ++ putN s.ram.length 2
def bodyB (s : Bd) : List UInt8 := headB s ++ s.ram ++ s.rom
/-- A machine's bytes. -/
def savB (s : Bd) : List UInt8 := bodyB s ++ putN (sumB (bodyB s)) 8
def byteB (l : List UInt8) (k : Nat) : UInt8 := l.getD k 0
def numB (l : List UInt8) (k n : Nat) : Nat := getN ((l.drop k).take n)
def ramN (l : List UInt8) : Nat := numB l 61 2
/-- Has it the form? -/
def formB (l : List UInt8) : Bool := Nat.ble 63 l.length && (l.take 4 == [86, 83, 80, 49] && (l.length == 583 + ramN l && [37, 41, 42, 49, 52].all fun k => Nat.ble (byteB l k).toNat 1))
def yesB (l : List UInt8) (k : Nat) : Bool := byteB l k == 1
/-- The machine of bytes. -/
def bdOf (l : List UInt8) : Bd :=
  ⟨(List.range 16).map fun i => numB l (4 + 2 * i) 2, byteB l 36, yesB l 37, byteB l 38, byteB l 39, byteB l 40, yesB l 41, yesB l 42, byteB l 43, byteB l 44, byteB l 45,
   (numB l 46 2 : Nat), ((byteB l 48).toNat : Nat), yesB l 49, ((byteB l 50).toNat : Nat), byteB l 51, yesB l 52, (l.drop 63).take (ramN l), (l.drop (63 + ramN l)).take 512, numB l 53 8⟩
def sumOk (l : List UInt8) : Bool := sumB (l.take (l.length - 8)) == numB l (l.length - 8) 8
end Go.Proofs.YtehnhjdjjalifaaGreatDoor
