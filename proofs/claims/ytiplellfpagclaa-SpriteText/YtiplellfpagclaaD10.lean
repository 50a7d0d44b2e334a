/- Pages and their texts, there and back: the statement's walk. -/
import Derived.Test.YtiplellfpagclaaD6
import Derived.Test.YtiplellfpagclaaD7
namespace Go.Proofs.Ytiplellfpagclaa
open Go Go.RowKit Go.Shelf
set_option linter.unusedVariables false
set_option maxHeartbeats 1000000
set_option maxRecDepth 20000

theorem strL_B (l : List UInt8) : strL (strB l) = l := by simp [strL, strB]
theorem strB_L (s : ByteArray) : strB (strL s) = s := by simp [strL, strB]
theorem strB_size (l : List UInt8) : (strB l).size = l.length := by simp [strB, ByteArray.size]
theorem read_back (p : List UInt8) (hp : p.length = 256) : readA (showS p 2048) = (p, 0) := by
  unfold readA
  rw [read_show p hp, if_pos ⟨show_size p, rfl⟩]
theorem read_none : readA [] = ([], 1) := by
  unfold readA
  rw [if_neg (fun h => by simp at h)]
/-- What Read leaves: a page somewhere. -/
def RdE (w : World) (l : List UInt8) (c : Int) (e : Ending) (w' : World) : Prop := ∃ sp cap, e = .returned (.tuple #[.slice sp l.length cap, .int .i64 c]) ∧ Hid (LB w' sp l ∧ Below w.heap.size w w')
theorem read_le (w : World) (s : ByteArray) : Calls Try.prog 10 #[.string s] w (RdE w (readA (strL s)).1 (readA (strL s)).2) := by
  refine (read_any w s).mono ?_
  rintro e w' ⟨v, rfl, K⟩
  obtain ⟨s2, c2, rfl, hl2, _⟩ := OwnL.open kByte.len K.out.own
  exact ⟨s2, c2, rfl, ⟨hl2, K.out.low⟩⟩
theorem text_walk (w : World) (sp : Option Addr) (cap : Nat) (p : List UInt8) (s : ByteArray) (hl : Hid (LB w sp p)) :
    Calls Try.prog 5 #[.slice sp p.length cap, .string s] w fun e w' => e = .returned (.bool true) ∧ Below w.heap.size w w' := by
  obtain ⟨n, hn⟩ : ∃ n, p.length = n := ⟨_, rfl⟩
  rw [hn]
  by_cases h1 : 2147483647 < n
  · have q1 : decide ((2147483647 : Int) < (n : Int)) = true := by simp; omega
    clear h1 hn
    go_enter Try.func5, Try.ntmps5
    go_wp2
    go_ret
    exact ⟨rfl, Below.refl _ _⟩
  have q1 : decide ((2147483647 : Int) < (n : Int)) = false := by simp; omega
  by_cases h2 : 2147483647 < s.size
  · have q2 : decide ((2147483647 : Int) < (s.size : Int)) = true := by simp; omega
    clear h1 hn h2
    go_enter Try.func5, Try.ntmps5
    go_wp2
    go_ret
    exact ⟨rfl, Below.refl _ _⟩
  have q2 : decide ((2147483647 : Int) < (s.size : Int)) = false := by simp; omega
  have b1 : (n : Int) ≤ 2147483647 := by omega
  have b2 : (s.size : Int) ≤ 2147483647 := by omega
  by_cases h3 : 2147483647 < n + s.size
  · have q3 : decide ((2147483647 : Int) < (n : Int) + (s.size : Int)) = true := by simp; omega
    clear h1 hn h2 h3
    go_enter Try.func5, Try.ntmps5
    go_wp2
    go_ret
    exact ⟨rfl, Below.refl _ _⟩
  have q3 : decide ((2147483647 : Int) < (n : Int) + (s.size : Int)) = false := by simp; omega
  have hSh := show_any w sp cap p hl
  rw [hn] at hSh
  have hRd : Hid (∀ y, Calls Try.prog 10 #[.string s] y (RdE y (readA (strL s)).1 (readA (strL s)).2)) := fun y => read_le y s
  have nn : Hid (p.length = n ∧ n ≤ 2147483647) := ⟨hn, by omega⟩
  clear h1 h2 h3 hn
  by_cases hp : n = 256
  · have hA : showA p = (showS p 2048, 0) := by unfold showA; rw [if_pos (by have := nn.out.1; omega)]
    rw [hA] at hSh
    dsimp only at hSh
    have hB : Hid (∀ y, Calls Try.prog 10 #[.string (strB (showS p 2048))] y (RdE y p 0)) := fun y => by
      have := read_le y (strB (showS p 2048))
      rw [strL_B, read_back p (by have := nn.out.1; omega)] at this
      exact this
    have hS : Hid (∀ y s1 c1, LB y s1 p → Below w.heap.size w y → Calls Try.prog 7 #[.slice s1 n c1, .slice sp n cap] y fun e w' => e = .returned (.bool true) ∧ Below y.heap.size y w') := fun y s1 c1 k1 kb => by
      have := same_any y s1 sp c1 cap p p k1 (hl.out.below kb) (by have := nn.out; omega) (by have := nn.out; omega)
      rw [decide_eq_true rfl, nn.out.1] at this
      exact this
    have qs : (((strB (showS p 2048)).size : Int) != 2080) = false := by rw [strB_size, show_size]; rfl
    have q5 : ((n : Int) == 256) = true := by simp; omega
    obtain ⟨T, hT⟩ : ∃ T, strB (showS p 2048) = T := ⟨_, rfl⟩
    rw [hT] at hSh hB qs
    clear hT hA hp
    by_cases ht : (strL s).length = 2080 ∧ showS (readS (strL s) 2048) 2048 = strL s
    · obtain ⟨R, hR⟩ : ∃ R, readS (strL s) 2048 = R := ⟨_, rfl⟩
      have hC : readA (strL s) = (R, 0) := by unfold readA; rw [if_pos ht, hR]
      have hRl : R.length = 256 := by rw [← hR, read_len]
      have hD : Hid (∀ y s1 c1, LB y s1 R → Calls Try.prog 9 #[.slice s1 256 c1] y fun e w' => e = .returned (.tuple #[.string s, .int .i64 0]) ∧ Below y.heap.size y w') := fun y s1 c1 k => by
        have := show_any y s1 c1 R k
        have e : showA R = (strL s, 0) := by unfold showA; rw [if_pos hRl, ← hR, ht.2]
        rw [e, hRl] at this
        dsimp only at this
        rw [strB_L] at this
        exact this
      rw [hC] at hRd
      dsimp only at hRd
      unfold RdE at hRd
      rw [hRl] at hRd
      have qt : (s.toList == s.toList) = true := by simp
      clear hR hC hRl ht
      go_enter Try.func5, Try.ntmps5
      go_wp2_with (first
        | (go_at_call 9; refine (hD.out y4 s4 c4 H4.out.1).mono ?_; rintro e y5 ⟨rfl, H5⟩; clear hD)
        | (go_at_call 10; refine (hRd.out y3).mono ?_; rintro e y4 ⟨s4, c4, rfl, H4⟩; clear hRd)
        | (go_at_call 7; refine (hS.out y2 s2 c2 H2.out.1 F2.out).mono ?_; rintro e y3 ⟨rfl, H3⟩; have F3 : Hid (Below w.heap.size w y3) := F2.out.trans (H3.mono F2.out.size); clear hS)
        | (go_at_call 10; refine (hB.out y1).mono ?_; rintro e y2 ⟨s2, c2, rfl, H2⟩; have F2 : Hid (Below w.heap.size w y2) := F1.out.trans (H2.out.2.mono F1.out.size); clear hB; rw [nn.out.1])
        | (go_at_call 9; refine hSh.mono ?_; rintro e y1 ⟨rfl, H1⟩; have F1 : Hid (Below w.heap.size w y1) := H1; clear hSh))
      go_ret
      exact ⟨rfl, (F3.out.trans (H4.out.2.mono F3.out.size)).trans (H5.mono (F3.out.trans (H4.out.2.mono F3.out.size)).size)⟩
    · have hC : readA (strL s) = ([], 1) := by unfold readA; rw [if_neg ht]
      rw [hC] at hRd
      dsimp only at hRd
      unfold RdE at hRd
      clear hC ht
      go_enter Try.func5, Try.ntmps5
      go_wp2_with (first
        | (go_at_call 10; refine (hRd.out y3).mono ?_; rintro e y4 ⟨s4, c4, rfl, H4⟩; clear hRd)
        | (go_at_call 7; refine (hS.out y2 s2 c2 H2.out.1 F2.out).mono ?_; rintro e y3 ⟨rfl, H3⟩; have F3 : Hid (Below w.heap.size w y3) := F2.out.trans (H3.mono F2.out.size); clear hS)
        | (go_at_call 10; refine (hB.out y1).mono ?_; rintro e y2 ⟨s2, c2, rfl, H2⟩; have F2 : Hid (Below w.heap.size w y2) := F1.out.trans (H2.out.2.mono F1.out.size); clear hB; rw [nn.out.1])
        | (go_at_call 9; refine hSh.mono ?_; rintro e y1 ⟨rfl, H1⟩; have F1 : Hid (Below w.heap.size w y1) := H1; clear hSh))
      go_ret
      exact ⟨rfl, (F3.out.trans (H4.out.2.mono F3.out.size))⟩
  · have hA : showA p = ([], 1) := by unfold showA; rw [if_neg (by have := nn.out.1; omega)]
    rw [hA] at hSh
    dsimp only at hSh
    have hB : Hid (∀ y, Calls Try.prog 10 #[.string (strB [])] y (RdE y [] 1)) := fun y => by
      have := read_le y (strB [])
      rw [strL_B, read_none] at this
      exact this
    have qs : ((strB []).toList == ({ data := #[] } : ByteArray).toList) = true := by kernel_rfl
    have q5 : ((n : Int) == 256) = false := by simp; omega
    obtain ⟨T, hT⟩ : ∃ T, strB [] = T := ⟨_, rfl⟩
    have q6 : T.toList.isEmpty = true := by rw [← hT]; kernel_rfl
    rw [hT] at hSh hB qs
    clear hT hA hp
    by_cases ht : (strL s).length = 2080 ∧ showS (readS (strL s) 2048) 2048 = strL s
    · obtain ⟨R, hR⟩ : ∃ R, readS (strL s) 2048 = R := ⟨_, rfl⟩
      have hC : readA (strL s) = (R, 0) := by unfold readA; rw [if_pos ht, hR]
      have hRl : R.length = 256 := by rw [← hR, read_len]
      have hD : Hid (∀ y s1 c1, LB y s1 R → Calls Try.prog 9 #[.slice s1 256 c1] y fun e w' => e = .returned (.tuple #[.string s, .int .i64 0]) ∧ Below y.heap.size y w') := fun y s1 c1 k => by
        have := show_any y s1 c1 R k
        have e : showA R = (strL s, 0) := by unfold showA; rw [if_pos hRl, ← hR, ht.2]
        rw [e, hRl] at this
        dsimp only at this
        rw [strB_L] at this
        exact this
      rw [hC] at hRd
      dsimp only at hRd
      unfold RdE at hRd
      rw [hRl] at hRd
      have qt : (s.toList == s.toList) = true := by simp
      clear hR hC hRl ht
      go_enter Try.func5, Try.ntmps5
      go_wp2_with (first
        | (go_at_call 9; refine (hD.out y4 s4 c4 H4.out.1).mono ?_; rintro e y5 ⟨rfl, H5⟩; clear hD)
        | (go_at_call 10; refine (hRd.out y2).mono ?_; rintro e y4 ⟨s4, c4, rfl, H4⟩; clear hRd)
        | (go_at_call 10; refine (hB.out y1).mono ?_; rintro e y2 ⟨s2, c2, rfl, H2⟩; have F2 : Hid (Below w.heap.size w y2) := F1.out.trans (H2.out.2.mono F1.out.size); clear hB)
        | (go_at_call 9; refine hSh.mono ?_; rintro e y1 ⟨rfl, H1⟩; have F1 : Hid (Below w.heap.size w y1) := H1; clear hSh))
      go_ret
      exact ⟨rfl, (F2.out.trans (H4.out.2.mono F2.out.size)).trans (H5.mono (F2.out.trans (H4.out.2.mono F2.out.size)).size)⟩
    · have hC : readA (strL s) = ([], 1) := by unfold readA; rw [if_neg ht]
      rw [hC] at hRd
      dsimp only at hRd
      unfold RdE at hRd
      clear hC ht
      go_enter Try.func5, Try.ntmps5
      go_wp2_with (first
        | (go_at_call 10; refine (hRd.out y2).mono ?_; rintro e y4 ⟨s4, c4, rfl, H4⟩; clear hRd)
        | (go_at_call 10; refine (hB.out y1).mono ?_; rintro e y2 ⟨s2, c2, rfl, H2⟩; have F2 : Hid (Below w.heap.size w y2) := F1.out.trans (H2.out.2.mono F1.out.size); clear hB)
        | (go_at_call 9; refine hSh.mono ?_; rintro e y1 ⟨rfl, H1⟩; have F1 : Hid (Below w.heap.size w y1) := H1; clear hSh))
      go_ret
      exact ⟨rfl, (F2.out.trans (H4.out.2.mono F2.out.size))⟩
end Go.Proofs.Ytiplellfpagclaa
