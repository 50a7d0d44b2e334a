/- Machines as bytes, plain: there and back. -/
import Derived.Test.YtehnhjdjjalifaaGreatDoorX0
namespace Go.Proofs.YtehnhjdjjalifaaGreatDoor
set_option linter.unusedVariables false
set_option maxHeartbeats 1000000
set_option maxRecDepth 20000

theorem list16 {α : Type} {l : List α} (h : l.length = 16) : ∃ a0 a1 a2 a3 a4 a5 a6 a7 a8 a9 a10 a11 a12 a13 a14 a15, l = [a0, a1, a2, a3, a4, a5, a6, a7, a8, a9, a10, a11, a12, a13, a14, a15] := by
  match l, h with
  | [a0, a1, a2, a3, a4, a5, a6, a7, a8, a9, a10, a11, a12, a13, a14, a15], _ => exact ⟨a0, a1, a2, a3, a4, a5, a6, a7, a8, a9, a10, a11, a12, a13, a14, a15, rfl⟩
theorem head_len (s : Bd) (h : s.r.length = 16) : (headB s).length = 63 := by
  obtain ⟨a0, a1, a2, a3, a4, a5, a6, a7, a8, a9, a10, a11, a12, a13, a14, a15, e⟩ := list16 h
  unfold headB
  rw [e]
  simp [putN_len]
theorem body_len (s : Bd) (h : s.r.length = 16) : (bodyB s).length = 63 + s.ram.length + s.rom.length := by
  unfold bodyB
  rw [List.length_append, List.length_append, head_len s h]
theorem sav_len (s : Bd) (h : s.r.length = 16) : (savB s).length = 71 + s.ram.length + s.rom.length := by
  unfold savB
  rw [List.length_append, body_len s h, putN_len]
  omega
theorem byte_head (s : Bd) (h : s.r.length = 16) (m : List UInt8) (k : Nat) (hk : k < 63) : byteB (headB s ++ m) k = byteB (headB s) k := by
  unfold byteB
  rw [List.getD_eq_getElem?_getD, List.getD_eq_getElem?_getD, List.getElem?_append_left (by rw [head_len s h]; exact hk)]
theorem num_head (s : Bd) (h : s.r.length = 16) (m : List UInt8) (k n : Nat) (hk : k + n ≤ 63) : numB (headB s ++ m) k n = numB (headB s) k n := by
  unfold numB
  have hl := head_len s h
  rw [List.drop_append, List.take_append, List.length_drop, hl, show k - 63 = 0 by omega, show n - (63 - k) = 0 by omega]
  simp
theorem flB_yes (b : Bool) : (flB b == 1) = b := by cases b <;> rfl
theorem sav_eq (s : Bd) : savB s = headB s ++ (s.ram ++ (s.rom ++ putN (sumB (bodyB s)) 8)) := by
  unfold savB bodyB
  simp only [List.append_assoc]
/-- What is asked of a machine that is saved. -/
structure Bd.Fit (s : Bd) : Prop where
  ok : s.Ok
  ram : s.ram.length < 65536
  rom : s.rom.length = 512
  ln : 0 ≤ s.ln ∧ s.ln < 65536
  cy : 0 ≤ s.cy ∧ s.cy < 256
  gt : 0 ≤ s.gt ∧ s.gt < 256
theorem get2 (v : Nat) (h : v < 65536) : getN [UInt8.ofNat (v % 256), UInt8.ofNat (v / 256 % 256)] = v := get_put 2 v h
theorem put2 (v : Nat) : putN v 2 = [UInt8.ofNat (v % 256), UInt8.ofNat (v / 256 % 256)] := rfl
theorem byI (v : Int) (h : 0 ≤ v ∧ v < 256) : (((UInt8.ofNat v.toNat).toNat : Nat) : Int) = v := by
  have : (UInt8.ofNat v.toNat).toNat = v.toNat := by
    rw [UInt8.toNat_ofNat']
    omega
  rw [this]
  omega
theorem of_head (s : Bd) (hf : s.Fit) : (List.range 16).map (fun i => numB (headB s) (4 + 2 * i) 2) = s.r ∧ byteB (headB s) 36 = s.d ∧ yesB (headB s) 37 = s.df ∧ byteB (headB s) 38 = s.p ∧ byteB (headB s) 39 = s.x ∧ byteB (headB s) 40 = s.t ∧ yesB (headB s) 41 = s.ie ∧ yesB (headB s) 42 = s.q ∧ byteB (headB s) 43 = s.op ∧ byteB (headB s) 44 = s.b ∧ byteB (headB s) 45 = s.ph ∧
    ((numB (headB s) 46 2 : Nat) : Int) = s.ln ∧ (((byteB (headB s) 48).toNat : Nat) : Int) = s.cy ∧ yesB (headB s) 49 = s.on ∧ (((byteB (headB s) 50).toNat : Nat) : Int) = s.gt ∧ byteB (headB s) 51 = s.pd ∧ yesB (headB s) 52 = s.lt ∧ numB (headB s) 53 8 = s.cc ∧ numB (headB s) 61 2 = s.ram.length ∧ (headB s).take 4 = [86, 83, 80, 49] ∧ ∀ k ∈ [37, 41, 42, 49, 52], (byteB (headB s) k).toNat ≤ 1 := by
  obtain ⟨⟨h1, h2, h3⟩, h4, h5, h6, h7, h8⟩ := hf
  obtain ⟨r, d, df, p, x, t, ie, q, op, b, ph, ln, cy, on, gt, pd, lt, ram, rom, cc⟩ := s
  obtain ⟨a0, a1, a2, a3, a4, a5, a6, a7, a8, a9, a10, a11, a12, a13, a14, a15, e⟩ := list16 h1
  dsimp only at *
  subst e
  have hfl : ∀ b : Bool, (flB b).toNat ≤ 1 := fun b => by cases b <;> decide
  have hr : ∀ v ∈ [a0, a1, a2, a3, a4, a5, a6, a7, a8, a9, a10, a11, a12, a13, a14, a15], getN (putN v 2) = v := fun v hv => get_put 2 v (h2 v hv)
  refine ⟨?_, rfl, flB_yes df, rfl, rfl, rfl, flB_yes ie, flB_yes q, rfl, rfl, rfl, ?_, byI cy h7, flB_yes on, byI gt h8, rfl, flB_yes lt, get_put 8 cc h3, get_put 2 ram.length h4, rfl, ?_⟩
  · have e : (List.range 16).map (fun i => numB (headB ⟨[a0, a1, a2, a3, a4, a5, a6, a7, a8, a9, a10, a11, a12, a13, a14, a15], d, df, p, x, t, ie, q, op, b, ph, ln, cy, on, gt, pd, lt, ram, rom, cc⟩) (4 + 2 * i) 2) = [getN (putN a0 2), getN (putN a1 2), getN (putN a2 2), getN (putN a3 2), getN (putN a4 2), getN (putN a5 2), getN (putN a6 2), getN (putN a7 2), getN (putN a8 2), getN (putN a9 2), getN (putN a10 2), getN (putN a11 2), getN (putN a12 2), getN (putN a13 2), getN (putN a14 2), getN (putN a15 2)] := rfl
    rw [e]
    rw [hr a0 (by simp)]; rw [hr a1 (by simp)]; rw [hr a2 (by simp)]; rw [hr a3 (by simp)]; rw [hr a4 (by simp)]; rw [hr a5 (by simp)]; rw [hr a6 (by simp)]; rw [hr a7 (by simp)]; rw [hr a8 (by simp)]; rw [hr a9 (by simp)]; rw [hr a10 (by simp)]; rw [hr a11 (by simp)]; rw [hr a12 (by simp)]; rw [hr a13 (by simp)]; rw [hr a14 (by simp)]; rw [hr a15 (by simp)]
  · have : numB (headB ⟨[a0, a1, a2, a3, a4, a5, a6, a7, a8, a9, a10, a11, a12, a13, a14, a15], d, df, p, x, t, ie, q, op, b, ph, ln, cy, on, gt, pd, lt, ram, rom, cc⟩) 46 2 = getN (putN ln.toNat 2) := rfl
    rw [this, get_put 2 _ (by omega)]
    omega
  · intro k hk
    simp only [List.mem_cons, List.not_mem_nil, or_false] at hk
    rcases hk with rfl | rfl | rfl | rfl | rfl
    · exact hfl df
    · exact hfl ie
    · exact hfl q
    · exact hfl on
    · exact hfl lt
/-- A machine that is saved is loaded. -/
theorem load_sav (s : Bd) (hf : s.Fit) : formB (savB s) = true ∧ sumOk (savB s) = true ∧ bdOf (savB s) = s := by
  have hr := hf.ok.r
  have hl := sav_len s hr
  have hb := body_len s hr
  obtain ⟨o1, o2, o3, o4, o5, o6, o7, o8, o9, o10, o11, o12, o13, o14, o15, o16, o17, o18, o19, o20, o21⟩ := of_head s hf
  have hB : ∀ k, k < 63 → byteB (savB s) k = byteB (headB s) k := fun k hk => by rw [sav_eq]; exact byte_head s hr _ k hk
  have hN : ∀ k n, k + n ≤ 63 → numB (savB s) k n = numB (headB s) k n := fun k n hk => by rw [sav_eq]; exact num_head s hr _ k n hk
  have hY : ∀ k, k < 63 → yesB (savB s) k = yesB (headB s) k := fun k hk => by unfold yesB; rw [hB k hk]
  have hram : ramN (savB s) = s.ram.length := by unfold ramN; rw [hN 61 2 (by omega), o19]
  have hrom := hf.rom
  refine ⟨?_, ?_, ?_⟩
  · unfold formB
    have e1 : Nat.ble 63 (savB s).length = true := by rw [Nat.ble_eq]; omega
    have e2 : ((savB s).take 4 == [86, 83, 80, 49]) = true := by
      rw [sav_eq, List.take_append_of_le_length (by rw [head_len s hr]; omega), o20]
      rfl
    have e3 : ((savB s).length == 583 + ramN (savB s)) = true := by rw [beq_iff_eq, hram]; omega
    rw [e1, e2, e3]
    simp only [Bool.true_and, List.all_eq_true]
    intro k hk
    rw [Nat.ble_eq, hB k (by simp only [List.mem_cons, List.not_mem_nil, or_false] at hk; omega)]
    exact o21 k hk
  · unfold sumOk numB
    have e : savB s = bodyB s ++ putN (sumB (bodyB s)) 8 := rfl
    rw [e, List.length_append, putN_len, Nat.add_sub_cancel, List.take_left, List.drop_left, List.take_of_length_le (by rw [putN_len]; exact Nat.le_refl _), get_put 8 _ (sumB_lt _)]
    simp
  · have e1 : ((savB s).drop 63).take (ramN (savB s)) = s.ram := by
      rw [hram, sav_eq, List.drop_append, head_len s hr, List.drop_of_length_le (by rw [head_len s hr]; exact Nat.le_refl _)]
      simp
    have e2 : ((savB s).drop (63 + ramN (savB s))).take 512 = s.rom := by
      rw [hram, sav_eq, List.drop_append, head_len s hr, List.drop_of_length_le (by rw [head_len s hr]; omega), show 63 + s.ram.length - 63 = s.ram.length by omega, List.nil_append, List.drop_left, ← hrom, List.take_left]
    have e3 : (List.range 16).map (fun i => numB (savB s) (4 + 2 * i) 2) = s.r := by
      rw [← o1]
      refine List.map_congr_left fun i hi => hN _ _ ?_
      have := List.mem_range.1 hi
      omega
    unfold bdOf
    rw [e1, e2, e3, hB 36 (by decide), hY 37 (by decide), hB 38 (by decide), hB 39 (by decide), hB 40 (by decide), hY 41 (by decide), hY 42 (by decide), hB 43 (by decide), hB 44 (by decide), hB 45 (by decide), hN 46 2 (by decide), hB 48 (by decide), hY 49 (by decide), hB 50 (by decide), hB 51 (by decide), hY 52 (by decide), hN 53 8 (by decide)]
    rw [o2, o3, o4, o5, o6, o7, o8, o9, o10, o11, o12, o13, o14, o15, o16, o17, o18]
theorem cons_of {l : List UInt8} {n : Nat} (h : n + 1 ≤ l.length) : ∃ a t, l = a :: t ∧ n ≤ t.length := by
  match l, h with
  | a :: t, h => exact ⟨a, t, rfl, by simpa using h⟩
theorem fl_yes (b : UInt8) (h : b.toNat ≤ 1) : flB (b == 1) = b := by
  have : b.toNat = 0 ∨ b.toNat = 1 := by omega
  rcases this with e | e
  · have : b = 0 := UInt8.toNat_inj.1 e
    subst this
    rfl
  · have : b = 1 := UInt8.toNat_inj.1 e
    subst this
    rfl
theorem put_get2 (a b : UInt8) : putN (getN [a, b]) 2 = [a, b] := put_get [a, b]
theorem put_get8 (a b c d e f g h : UInt8) : putN (getN [a, b, c, d, e, f, g, h]) 8 = [a, b, c, d, e, f, g, h] := put_get [a, b, c, d, e, f, g, h]
theorem by_of (a : UInt8) : UInt8.ofNat (((a.toNat : Nat) : Int)).toNat = a := by
  rw [Int.toNat_natCast]
  simp
theorem form_facts {l : List UInt8} (h : formB l = true) : 63 ≤ l.length ∧ l.take 4 = [86, 83, 80, 49] ∧ l.length = 583 + ramN l ∧ ∀ k ∈ [37, 41, 42, 49, 52], (byteB l k).toNat ≤ 1 := by
  unfold formB at h
  rw [Bool.and_eq_true, Bool.and_eq_true, Bool.and_eq_true, Nat.ble_eq, beq_iff_eq, beq_iff_eq, List.all_eq_true] at h
  exact ⟨h.1, h.2.1, h.2.2.1, fun k hk => by have := h.2.2.2 k hk; rwa [Nat.ble_eq] at this⟩
theorem list63 {l : List UInt8} (h : 63 ≤ l.length) : ∃ b0 b1 b2 b3 b4 b5 b6 b7 b8 b9 b10 b11 b12 b13 b14 b15 b16 b17 b18 b19 b20 b21 b22 b23 b24 b25 b26 b27 b28 b29 b30 b31 b32 b33 b34 b35 b36 b37 b38 b39 b40 b41 b42 b43 b44 b45 b46 b47 b48 b49 b50 b51 b52 b53 b54 b55 b56 b57 b58 b59 b60 b61 b62 m, l = b0 :: b1 :: b2 :: b3 :: b4 :: b5 :: b6 :: b7 :: b8 :: b9 :: b10 :: b11 :: b12 :: b13 :: b14 :: b15 :: b16 :: b17 :: b18 :: b19 :: b20 :: b21 :: b22 :: b23 :: b24 :: b25 :: b26 :: b27 :: b28 :: b29 :: b30 :: b31 :: b32 :: b33 :: b34 :: b35 :: b36 :: b37 :: b38 :: b39 :: b40 :: b41 :: b42 :: b43 :: b44 :: b45 :: b46 :: b47 :: b48 :: b49 :: b50 :: b51 :: b52 :: b53 :: b54 :: b55 :: b56 :: b57 :: b58 :: b59 :: b60 :: b61 :: b62 :: m := by
  have g : 63 ≤ l.length := h
  obtain ⟨b0, m0, e0, g0⟩ := cons_of g
  obtain ⟨b1, m1, e1, g1⟩ := cons_of g0
  obtain ⟨b2, m2, e2, g2⟩ := cons_of g1
  obtain ⟨b3, m3, e3, g3⟩ := cons_of g2
  obtain ⟨b4, m4, e4, g4⟩ := cons_of g3
  obtain ⟨b5, m5, e5, g5⟩ := cons_of g4
  obtain ⟨b6, m6, e6, g6⟩ := cons_of g5
  obtain ⟨b7, m7, e7, g7⟩ := cons_of g6
  obtain ⟨b8, m8, e8, g8⟩ := cons_of g7
  obtain ⟨b9, m9, e9, g9⟩ := cons_of g8
  obtain ⟨b10, m10, e10, g10⟩ := cons_of g9
  obtain ⟨b11, m11, e11, g11⟩ := cons_of g10
  obtain ⟨b12, m12, e12, g12⟩ := cons_of g11
  obtain ⟨b13, m13, e13, g13⟩ := cons_of g12
  obtain ⟨b14, m14, e14, g14⟩ := cons_of g13
  obtain ⟨b15, m15, e15, g15⟩ := cons_of g14
  obtain ⟨b16, m16, e16, g16⟩ := cons_of g15
  obtain ⟨b17, m17, e17, g17⟩ := cons_of g16
  obtain ⟨b18, m18, e18, g18⟩ := cons_of g17
  obtain ⟨b19, m19, e19, g19⟩ := cons_of g18
  obtain ⟨b20, m20, e20, g20⟩ := cons_of g19
  obtain ⟨b21, m21, e21, g21⟩ := cons_of g20
  obtain ⟨b22, m22, e22, g22⟩ := cons_of g21
  obtain ⟨b23, m23, e23, g23⟩ := cons_of g22
  obtain ⟨b24, m24, e24, g24⟩ := cons_of g23
  obtain ⟨b25, m25, e25, g25⟩ := cons_of g24
  obtain ⟨b26, m26, e26, g26⟩ := cons_of g25
  obtain ⟨b27, m27, e27, g27⟩ := cons_of g26
  obtain ⟨b28, m28, e28, g28⟩ := cons_of g27
  obtain ⟨b29, m29, e29, g29⟩ := cons_of g28
  obtain ⟨b30, m30, e30, g30⟩ := cons_of g29
  obtain ⟨b31, m31, e31, g31⟩ := cons_of g30
  obtain ⟨b32, m32, e32, g32⟩ := cons_of g31
  obtain ⟨b33, m33, e33, g33⟩ := cons_of g32
  obtain ⟨b34, m34, e34, g34⟩ := cons_of g33
  obtain ⟨b35, m35, e35, g35⟩ := cons_of g34
  obtain ⟨b36, m36, e36, g36⟩ := cons_of g35
  obtain ⟨b37, m37, e37, g37⟩ := cons_of g36
  obtain ⟨b38, m38, e38, g38⟩ := cons_of g37
  obtain ⟨b39, m39, e39, g39⟩ := cons_of g38
  obtain ⟨b40, m40, e40, g40⟩ := cons_of g39
  obtain ⟨b41, m41, e41, g41⟩ := cons_of g40
  obtain ⟨b42, m42, e42, g42⟩ := cons_of g41
  obtain ⟨b43, m43, e43, g43⟩ := cons_of g42
  obtain ⟨b44, m44, e44, g44⟩ := cons_of g43
  obtain ⟨b45, m45, e45, g45⟩ := cons_of g44
  obtain ⟨b46, m46, e46, g46⟩ := cons_of g45
  obtain ⟨b47, m47, e47, g47⟩ := cons_of g46
  obtain ⟨b48, m48, e48, g48⟩ := cons_of g47
  obtain ⟨b49, m49, e49, g49⟩ := cons_of g48
  obtain ⟨b50, m50, e50, g50⟩ := cons_of g49
  obtain ⟨b51, m51, e51, g51⟩ := cons_of g50
  obtain ⟨b52, m52, e52, g52⟩ := cons_of g51
  obtain ⟨b53, m53, e53, g53⟩ := cons_of g52
  obtain ⟨b54, m54, e54, g54⟩ := cons_of g53
  obtain ⟨b55, m55, e55, g55⟩ := cons_of g54
  obtain ⟨b56, m56, e56, g56⟩ := cons_of g55
  obtain ⟨b57, m57, e57, g57⟩ := cons_of g56
  obtain ⟨b58, m58, e58, g58⟩ := cons_of g57
  obtain ⟨b59, m59, e59, g59⟩ := cons_of g58
  obtain ⟨b60, m60, e60, g60⟩ := cons_of g59
  obtain ⟨b61, m61, e61, g61⟩ := cons_of g60
  obtain ⟨b62, m62, e62, g62⟩ := cons_of g61
  exact ⟨b0, b1, b2, b3, b4, b5, b6, b7, b8, b9, b10, b11, b12, b13, b14, b15, b16, b17, b18, b19, b20, b21, b22, b23, b24, b25, b26, b27, b28, b29, b30, b31, b32, b33, b34, b35, b36, b37, b38, b39, b40, b41, b42, b43, b44, b45, b46, b47, b48, b49, b50, b51, b52, b53, b54, b55, b56, b57, b58, b59, b60, b61, b62, m62, by rw [e0, e1, e2, e3, e4, e5, e6, e7, e8, e9, e10, e11, e12, e13, e14, e15, e16, e17, e18, e19, e20, e21, e22, e23, e24, e25, e26, e27, e28, e29, e30, e31, e32, e33, e34, e35, e36, e37, e38, e39, e40, e41, e42, e43, e44, e45, e46, e47, e48, e49, e50, e51, e52, e53, e54, e55, e56, e57, e58, e59, e60, e61, e62]⟩
def headL (l : List UInt8) : List UInt8 := [86, 83, 80, 49] ++ (((List.range 16).map fun i => numB l (4 + 2 * i) 2).flatMap fun v => putN v 2) ++ [byteB l 36, byteB l 37, byteB l 38, byteB l 39, byteB l 40, byteB l 41, byteB l 42, byteB l 43, byteB l 44, byteB l 45] ++ putN (numB l 46 2) 2 ++ [byteB l 48, byteB l 49, byteB l 50, byteB l 51, byteB l 52] ++ putN (numB l 53 8) 8 ++ putN (numB l 61 2) 2
theorem headL_cons (b0 b1 b2 b3 b4 b5 b6 b7 b8 b9 b10 b11 b12 b13 b14 b15 b16 b17 b18 b19 b20 b21 b22 b23 b24 b25 b26 b27 b28 b29 b30 b31 b32 b33 b34 b35 b36 b37 b38 b39 b40 b41 b42 b43 b44 b45 b46 b47 b48 b49 b50 b51 b52 b53 b54 b55 b56 b57 b58 b59 b60 b61 b62 : UInt8) (m : List UInt8) (e4 : [b0, b1, b2, b3] = [86, 83, 80, 49]) : headL (b0 :: b1 :: b2 :: b3 :: b4 :: b5 :: b6 :: b7 :: b8 :: b9 :: b10 :: b11 :: b12 :: b13 :: b14 :: b15 :: b16 :: b17 :: b18 :: b19 :: b20 :: b21 :: b22 :: b23 :: b24 :: b25 :: b26 :: b27 :: b28 :: b29 :: b30 :: b31 :: b32 :: b33 :: b34 :: b35 :: b36 :: b37 :: b38 :: b39 :: b40 :: b41 :: b42 :: b43 :: b44 :: b45 :: b46 :: b47 :: b48 :: b49 :: b50 :: b51 :: b52 :: b53 :: b54 :: b55 :: b56 :: b57 :: b58 :: b59 :: b60 :: b61 :: b62 :: m) = [b0, b1, b2, b3, b4, b5, b6, b7, b8, b9, b10, b11, b12, b13, b14, b15, b16, b17, b18, b19, b20, b21, b22, b23, b24, b25, b26, b27, b28, b29, b30, b31, b32, b33, b34, b35, b36, b37, b38, b39, b40, b41, b42, b43, b44, b45, b46, b47, b48, b49, b50, b51, b52, b53, b54, b55, b56, b57, b58, b59, b60, b61, b62] := by
  have e : headL (b0 :: b1 :: b2 :: b3 :: b4 :: b5 :: b6 :: b7 :: b8 :: b9 :: b10 :: b11 :: b12 :: b13 :: b14 :: b15 :: b16 :: b17 :: b18 :: b19 :: b20 :: b21 :: b22 :: b23 :: b24 :: b25 :: b26 :: b27 :: b28 :: b29 :: b30 :: b31 :: b32 :: b33 :: b34 :: b35 :: b36 :: b37 :: b38 :: b39 :: b40 :: b41 :: b42 :: b43 :: b44 :: b45 :: b46 :: b47 :: b48 :: b49 :: b50 :: b51 :: b52 :: b53 :: b54 :: b55 :: b56 :: b57 :: b58 :: b59 :: b60 :: b61 :: b62 :: m) = [86, 83, 80, 49] ++ (putN (getN [b4, b5]) 2 ++ (putN (getN [b6, b7]) 2 ++ (putN (getN [b8, b9]) 2 ++ (putN (getN [b10, b11]) 2 ++ (putN (getN [b12, b13]) 2 ++ (putN (getN [b14, b15]) 2 ++ (putN (getN [b16, b17]) 2 ++ (putN (getN [b18, b19]) 2 ++ (putN (getN [b20, b21]) 2 ++ (putN (getN [b22, b23]) 2 ++ (putN (getN [b24, b25]) 2 ++ (putN (getN [b26, b27]) 2 ++ (putN (getN [b28, b29]) 2 ++ (putN (getN [b30, b31]) 2 ++ (putN (getN [b32, b33]) 2 ++ (putN (getN [b34, b35]) 2 ++ [])))))))))))))))) ++ [b36, b37, b38, b39, b40, b41, b42, b43, b44, b45] ++ putN (getN [b46, b47]) 2 ++ [b48, b49, b50, b51, b52] ++ putN (getN [b53, b54, b55, b56, b57, b58, b59, b60]) 8 ++ putN (getN [b61, b62]) 2 := rfl
  rw [e, put_get8]
  simp only [put_get2]
  rw [← e4]
  rfl
theorem head_of (l : List UInt8) (hf : formB l = true) : headB (bdOf l) = l.take 63 := by
  obtain ⟨h63, h4, hlen, hfl⟩ := form_facts hf
  have hrl : ((l.drop 63).take (ramN l)).length = ramN l := by
    rw [List.length_take, List.length_drop]
    omega
  have eh : headB (bdOf l) = [86, 83, 80, 49] ++ (((List.range 16).map fun i => numB l (4 + 2 * i) 2).flatMap fun v => putN v 2) ++ [byteB l 36, flB (yesB l 37), byteB l 38, byteB l 39, byteB l 40, flB (yesB l 41), flB (yesB l 42), byteB l 43, byteB l 44, byteB l 45] ++ putN (((numB l 46 2 : Nat) : Int)).toNat 2 ++ [UInt8.ofNat ((((byteB l 48).toNat : Nat) : Int)).toNat, flB (yesB l 49), UInt8.ofNat ((((byteB l 50).toNat : Nat) : Int)).toNat, byteB l 51, flB (yesB l 52)] ++ putN (numB l 53 8) 8 ++ putN ((l.drop 63).take (ramN l)).length 2 := rfl
  have eL : headB (bdOf l) = headL l := by
    rw [eh, hrl]
    unfold yesB headL ramN
    rw [fl_yes _ (hfl 37 (by simp)), fl_yes _ (hfl 41 (by simp)), fl_yes _ (hfl 42 (by simp)), fl_yes _ (hfl 49 (by simp)), fl_yes _ (hfl 52 (by simp)), Int.toNat_natCast, by_of, by_of]
  rw [eL]
  clear eL eh hrl hfl hlen hf
  obtain ⟨b0, b1, b2, b3, b4, b5, b6, b7, b8, b9, b10, b11, b12, b13, b14, b15, b16, b17, b18, b19, b20, b21, b22, b23, b24, b25, b26, b27, b28, b29, b30, b31, b32, b33, b34, b35, b36, b37, b38, b39, b40, b41, b42, b43, b44, b45, b46, b47, b48, b49, b50, b51, b52, b53, b54, b55, b56, b57, b58, b59, b60, b61, b62, m, rfl⟩ := list63 h63
  exact headL_cons b0 b1 b2 b3 b4 b5 b6 b7 b8 b9 b10 b11 b12 b13 b14 b15 b16 b17 b18 b19 b20 b21 b22 b23 b24 b25 b26 b27 b28 b29 b30 b31 b32 b33 b34 b35 b36 b37 b38 b39 b40 b41 b42 b43 b44 b45 b46 b47 b48 b49 b50 b51 b52 b53 b54 b55 b56 b57 b58 b59 b60 b61 b62 m h4
/-- Bytes that are loaded are saved as they were. -/
theorem sav_load (l : List UInt8) (hf : formB l = true) (hs : sumOk l = true) : savB (bdOf l) = l := by
  obtain ⟨h63, h4, hlen, hfl⟩ := form_facts hf
  have hb : bodyB (bdOf l) = l.take (l.length - 8) := by
    unfold bodyB
    rw [head_of l hf]
    show l.take 63 ++ (l.drop 63).take (ramN l) ++ (l.drop (63 + ramN l)).take 512 = _
    rw [← List.take_add, ← List.take_add]
    congr 1
    omega
  unfold savB
  rw [hb]
  unfold sumOk numB at hs
  rw [beq_iff_eq] at hs
  have e8 : (l.drop (l.length - 8)).take 8 = l.drop (l.length - 8) := List.take_of_length_le (by rw [List.length_drop]; omega)
  have l8 : (l.drop (l.length - 8)).length = 8 := by rw [List.length_drop]; omega
  rw [e8] at hs
  have := put_get (l.drop (l.length - 8))
  rw [l8] at this
  rw [hs, this, List.take_append_drop]
theorem ramN_take (l : List UInt8) (k : Nat) (hk : 63 ≤ k) : ramN (l.take k) = ramN l := by
  unfold ramN numB
  rw [List.drop_take, List.take_take, show min 2 (k - 61) = 2 by omega]
theorem ramN_app (l m : List UInt8) (hl : 63 ≤ l.length) : ramN (l ++ m) = ramN l := by
  unfold ramN numB
  rw [List.drop_append, List.take_append, List.length_drop, show 61 - l.length = 0 by omega, show 2 - (l.length - 61) = 0 by omega]
  simp
/-- Bytes cut off: refused. -/
theorem cut_off (l : List UInt8) (hf : formB l = true) (k : Nat) (hk : k < l.length) : formB (l.take k) = false := by
  rcases h : formB (l.take k) with _ | _
  · rfl
  · obtain ⟨a1, _, a3, _⟩ := form_facts hf
    obtain ⟨b1, _, b3, _⟩ := form_facts h
    rw [List.length_take] at b1 b3
    rw [ramN_take l k (by omega)] at b3
    omega
/-- Bytes behind: refused. -/
theorem more_off (l m : List UInt8) (hf : formB l = true) (hm : m ≠ []) : formB (l ++ m) = false := by
  rcases h : formB (l ++ m) with _ | _
  · rfl
  · obtain ⟨a1, _, a3, _⟩ := form_facts hf
    obtain ⟨b1, _, b3, _⟩ := form_facts h
    rw [ramN_app l m a1, List.length_append] at b3
    have : m.length = 0 := by omega
    exact absurd (List.length_eq_zero_iff.1 this) hm
theorem getN_inj : ∀ {a b : List UInt8}, a.length = b.length → getN a = getN b → a = b := fun {a b} hl h => by
  have h1 := put_get a
  have h2 := put_get b
  rw [h, hl, h2] at h1
  exact h1.symm
/-- A byte that is another one: refused. -/
theorem turned_off (l : List UInt8) (hs : sumOk l = true) (h8 : 8 ≤ l.length) (k : Nat) (hk : k < l.length) (v : UInt8) (hv : v ≠ byteB l k) : sumOk (l.set k v) = false := by
  rcases h : sumOk (l.set k v) with _ | _
  · rfl
  · exfalso
    unfold sumOk numB at hs h
    rw [beq_iff_eq] at hs h
    rw [List.length_set] at h
    have hx : l[k]? = some (byteB l k) := by
      unfold byteB
      rw [List.getD_eq_getElem?_getD, List.getElem?_eq_getElem hk]
      rfl
    by_cases hlt : k < l.length - 8
    · rw [List.drop_set, if_pos hlt, ← hs] at h
      rw [List.take_set] at h
      have hk2 : k < (l.take (l.length - 8)).length := by rw [List.length_take]; omega
      have hy : (l.take (l.length - 8))[k]? = some (byteB l k) := by rw [List.getElem?_take, if_pos hlt]; exact hx
      have hg := (List.getElem?_eq_some_iff.1 hy).2
      have e1 : l.take (l.length - 8) = (l.take (l.length - 8)).take k ++ byteB l k :: (l.take (l.length - 8)).drop (k + 1) := by
        rw [← hg, List.getElem_cons_drop, List.take_append_drop]
      have e2 : (l.take (l.length - 8)).set k v = (l.take (l.length - 8)).take k ++ v :: (l.take (l.length - 8)).drop (k + 1) := List.set_eq_take_append_cons_drop.trans (if_pos hk2)
      rw [e2] at h
      generalize (l.take (l.length - 8)).take k = A at e1 h
      generalize (l.take (l.length - 8)).drop (k + 1) = R at e1 h
      rw [e1] at h
      exact sum_turned A R v (byteB l k) hv h
    · rw [List.take_set_of_le (by omega), hs] at h
      rw [List.drop_set, if_neg hlt] at h
      have l8 : (l.drop (l.length - 8)).length = 8 := by rw [List.length_drop]; omega
      rw [List.take_of_length_le (by omega), List.take_of_length_le (by rw [List.length_set]; omega)] at h
      have e := getN_inj (by rw [List.length_set]) h
      have : (l.drop (l.length - 8))[k - (l.length - 8)]? = some v := by
        rw [e, List.getElem?_set_self (by omega)]
      rw [List.getElem?_drop, show l.length - 8 + (k - (l.length - 8)) = k by omega, hx] at this
      exact hv (Option.some.inj this).symm
end Go.Proofs.YtehnhjdjjalifaaGreatDoor
