/- Decimal and hexadecimal digits, by the document. -/
import Derived.Test.YthpahpfnpapoiabDoorXr
import Derived.Test.YthpahpfnpapoiabDoorXpn
namespace Go.Proofs.YthpahpfnpapoiabDoor
open Go Go.RowKit
set_option linter.unusedVariables false
set_option maxHeartbeats 3000000
set_option maxRecDepth 20000

theorem rdecimal_any (w : World) (s : ByteArray) (hs : s.size ≤ 1000000) : Calls Tryd.prog 37 #[.string s] w fun e w' => e = .returned (.int .i64 (decS (strL s))) ∧ w' = w := by
  have si : (s.size : Int) ≤ 1000000 := by omega
  by_cases h1 : s.size < 1
  · rw [show decS (strL s) = -1 by unfold decS; rw [strL_len, if_pos (.inl h1)]]
    have q1 : decide ((s.size : Int) < 1) = true := by simp; omega
    clear h1 hs
    go_enter Tryd.func37, Tryd.ntmps37
    go_wp2
    go_ret
    exact ⟨rfl, by first | rfl | trivial⟩
  have q1 : decide ((s.size : Int) < 1) = false := by simp; omega
  by_cases h2 : 7 < s.size
  · rw [show decS (strL s) = -1 by unfold decS; rw [strL_len, if_pos (.inr h2)]]
    have q2 : decide ((7 : Int) < s.size) = true := by simp; omega
    clear h1 h2 hs
    go_enter Tryd.func37, Tryd.ntmps37
    go_wp2
    go_ret
    exact ⟨rfl, by first | rfl | trivial⟩
  have q2 : decide ((7 : Int) < s.size) = false := by simp; omega
  have hd : decS (strL s) = decGo (strL s) 0 := by unfold decS; rw [strL_len, if_neg (by omega)]
  rw [hd]
  obtain ⟨R, hR⟩ : ∃ R, decGo (strL s) 0 = R := ⟨_, rfl⟩
  rw [hR]
  have hR' : Hid (decGo (strL s) 0 = R) := hR
  have h7 : Hid (s.size ≤ 7) := by show s.size ≤ 7; omega
  have s7 : (s.size : Int) ≤ 7 := by omega
  clear hR hd h1 h2 hs
  go_enter Tryd.func37, Tryd.ntmps37
  go_wp2
  go_loopw [3, 4] (fun n i wz => ∃ (p : Nat) (acc : Int), w = wz ∧ n = .int .i64 acc ∧ i = .int .i64 (p : Int) ∧ 0 ≤ acc ∧ acc ≤ 10000000 ∧ Hid (p ≤ s.size ∧ acc < 10 ^ p ∧ decGo ((strL s).drop p) acc = R)) (fun _ i _ => (s.size - intOf i).toNat)
  case atStart => exact ⟨0, 0, rfl, rfl, rfl, by decide, by decide, ⟨by omega, by decide, hR'.out⟩⟩
  case round =>
    obtain ⟨p, acc, hw, rfl, rfl, a0, a1, J⟩ := hrel
    subst hw
    by_cases hlt : p < s.size
    · have hpi : (p : Int) < s.size := by omega
      have hlt' : Hid (p < s.size) := hlt
      have hdrop : (strL s).drop p = (s[p]'hlt) :: (strL s).drop (p + 1) := by
        have h := strL_get s p hlt
        have hl := List.getElem?_eq_some_iff.1 h
        rw [List.drop_eq_getElem_cons hl.1, hl.2]
      have J2 : Hid ((if (s[p]'hlt).toNat < 48 ∨ 57 < (s[p]'hlt).toNat then -1 else decGo ((strL s).drop (p + 1)) (10 * acc + ((s[p]'hlt).toNat - 48))) = R) := by
        have := J.out.2.2
        rw [hdrop] at this
        exact this
      by_cases c1 : ((s[p]'hlt).toNat : Int) < 48
      · have qc : decide (((s[p]'hlt).toNat : Int) < 48) = true := by simpa using c1
        have fin : Hid (R = -1) := by have := J2.out; rw [if_pos (.inl (by omega))] at this; exact this.symm
        clear c1 hdrop
        go_wp2
        go_ret
        exact ⟨by rw [fin.out]; rfl, by first | rfl | trivial⟩
      · have qc : decide (((s[p]'hlt).toNat : Int) < 48) = false := by simpa using c1
        by_cases c2 : (57 : Int) < ((s[p]'hlt).toNat : Int)
        · have qd : decide ((57 : Int) < ((s[p]'hlt).toNat : Int)) = true := by simpa using c2
          have fin : Hid (R = -1) := by have := J2.out; rw [if_pos (.inr (by omega))] at this; exact this.symm
          clear c1 c2 hdrop
          go_wp2
          go_ret
          exact ⟨by rw [fin.out]; rfl, by first | rfl | trivial⟩
        · have qd : decide ((57 : Int) < ((s[p]'hlt).toNat : Int)) = false := by simpa using c2
          have b1 : 48 ≤ ((s[p]'hlt).toNat : Int) := by omega
          have b2 : ((s[p]'hlt).toNat : Int) ≤ 57 := by omega
          have fin : Hid (decGo ((strL s).drop (p + 1)) (10 * acc + (((s[p]'hlt).toNat : Int) - 48)) = R) := by have := J2.out; rw [if_neg (by omega)] at this; exact this
          have hpw : Hid (10 * acc + (((s[p]'hlt).toNat : Int) - 48) < 10 ^ (p + 1)) := by
            have := J.out.2.1
            show _ < _
            rw [Int.pow_succ]
            omega
          have hp7 : Hid ((10 : Int) ^ (p + 1) ≤ 10000000) := by
            have h := h7.out
            have := Nat.pow_le_pow_right (show 0 < 10 by decide) (show p + 1 ≤ 7 by omega)
            have e1 : ((10 ^ (p + 1) : Nat) : Int) = (10 : Int) ^ (p + 1) := by simp
            show (10 : Int) ^ (p + 1) ≤ 10000000
            rw [← e1]
            have e2 : (10 : Nat) ^ 7 = 10000000 := by decide
            omega
          clear c1 c2 hdrop J2
          go_wp2
          go_roundw
          case rel =>
            refine ⟨p + 1, 10 * acc + (((s[p]'hlt).toNat : Int) - 48), by first | rfl | trivial, ?_, by simp, by omega, ?_, ⟨by have := hlt'.out; omega, hpw.out, fin.out⟩⟩
            · first | rfl | simp
            · have h1 := hpw.out
              have h2 := hp7.out
              omega
          case measure => have := hlt'.out; simp [intOf]; omega
    · have hpe : p = s.size := by have := J.out.1; omega
      subst hpe
      have fin : Hid (acc = R) := by
        have := J.out.2.2
        rw [List.drop_eq_nil_of_le (by rw [strL_len]; exact Nat.le_refl _)] at this
        exact this
      clear hlt
      go_wp2
      go_ret
      exact ⟨by rw [← fin.out]; rfl, by first | rfl | trivial⟩
theorem rhexw_any (w : World) (sp : Option Addr) (cap : Nat) (ws : List ByteArray) (k : Nat) (hl : Hid (LiesT w sp ws)) (hn : ws.length ≤ 1000000) (hk : k ≤ 1000000) (hb : Hid (∀ s ∈ ws, s.size ≤ 1000000)) : Calls Tryd.prog 38 #[.slice sp ws.length cap, .int .i64 (k : Int)] w fun e w' => e = .returned (.int .i64 (hexV ((ws.drop k).map strL))) ∧ w' = w := by
  obtain ⟨n, hn'⟩ : ∃ n, ws.length = n := ⟨_, rfl⟩
  rw [hn']
  have ni : (n : Int) ≤ 1000000 := by omega
  have ki : (k : Int) ≤ 1000000 := by omega
  by_cases hlt : k < n
  · obtain ⟨s, hs⟩ : ∃ s, ws[k]? = some s := ⟨_, List.getElem?_eq_getElem (by omega)⟩
    obtain ⟨g, rfl, hc⟩ := hl.out k s hs
    have hdrop : ws.drop k = s :: ws.drop (k + 1) := by
      have h := List.getElem?_eq_some_iff.1 hs
      rw [List.drop_eq_getElem_cons h.1, h.2]
    have hN := rnumber_any s w (by have := hb.out s (List.mem_of_getElem? hs); unfold maxLen; omega)
    have hV : hexV ((ws.drop k).map strL) = match numOf s with | some n => if n ≤ 65535 then n else 0 | none => 0 := by
      rw [hdrop, List.map_cons]
      simp only [hexV, strL_mk]
      cases numOf s <;> rfl
    rw [hV]
    have ix := idxT g n cap k hlt
    have hki : (k : Int) < n := by omega
    rcases hx : numOf s with _ | x
    · obtain ⟨e1, e2⟩ := num_none s hx
      rw [e1, e2] at hN
      clear hs hdrop hV hn hk hlt hx e1 e2 hn'
      go_enter Tryd.func38, Tryd.ntmps38
      go_wp2_with (go_at_call 49; refine hN.mono ?_; rintro e x ⟨rfl, hx⟩; replace hx := hx.symm; subst hx)
      go_ret
      exact ⟨by first | rfl | simp, by first | rfl | trivial⟩
    · obtain ⟨e1, e2⟩ := num_some s x hx
      rw [e1, e2] at hN
      by_cases hbig : x ≤ 65535
      · have q : decide (65535 < x) = false := by simp; omega
        simp only [if_pos hbig]
        clear hs hdrop hV hn hk hlt hx e1 e2 hn' hbig
        go_enter Tryd.func38, Tryd.ntmps38
        go_wp2_with (go_at_call 49; refine hN.mono ?_; rintro e x ⟨rfl, hx⟩; replace hx := hx.symm; subst hx)
        go_ret
        exact ⟨by first | rfl | simp, by first | rfl | trivial⟩
      · have q : decide (65535 < x) = true := by simp; omega
        simp only [if_neg hbig]
        clear hs hdrop hV hn hk hlt hx e1 e2 hn' hbig
        go_enter Tryd.func38, Tryd.ntmps38
        go_wp2_with (go_at_call 49; refine hN.mono ?_; rintro e x ⟨rfl, hx⟩; replace hx := hx.symm; subst hx)
        go_ret
        exact ⟨by first | rfl | simp, by first | rfl | trivial⟩
  · rw [List.drop_eq_nil_of_le (by omega)]
    have q : n ≤ k := by omega
    clear hn hk hlt hn'
    go_enter Tryd.func38, Tryd.ntmps38
    go_wp2
    go_ret
    exact ⟨by first | rfl | simp [hexV], by first | rfl | trivial⟩
end Go.Proofs.YthpahpfnpapoiabDoor
