/- A page's text, and a text read: the program's own. -/
import Derived.Test.YtiplellfpagclaaDoorD5
import Derived.Test.YtiplellfpagclaaDoorOStr
namespace Go.Proofs.YtiplellfpagclaaDoor
open Go Go.RowKit Go.Shelf
set_option linter.unusedVariables false
set_option maxHeartbeats 1000000
set_option maxRecDepth 20000

/-- A text out of bytes. -/
def strB (l : List UInt8) : ByteArray := ⟨l.toArray⟩
/-- What Show answers. -/
def showA (p : List UInt8) : List UInt8 × Int := if p.length = 256 then (showS p 2048, 0) else ([], 1)
theorem sw_new (w : World) (sv : Value) : Sw w sv [] ((w.alloc (.cells #[sv] 25)).alloc (.cells #[.pointer none, .slice none 0 0] 50)) := by
  have h := Lib.fresh_isBuilder 50 5 (w.alloc (.cells #[sv] 25))
  have e : (w.alloc (.cells #[sv] 25)).heap.size = w.heap.size + 1 := by simp
  rw [e] at h
  exact ⟨(Fm.two w #[sv] #[.pointer none, .slice none 0 0] 25 50).bx 0 _ _ _ rfl, h, below2 w _ _, by simp⟩
theorem show_any (w : World) (sp : Option Addr) (cap : Nat) (p : List UInt8) (hl : Hid (LB w sp p)) :
    Calls Tryd.prog 13 #[.slice sp p.length cap] w fun e w' => e = .returned (.tuple #[.string (strB (showA p).1), .int .i64 (showA p).2]) ∧ Below w.heap.size w w' := by
  obtain ⟨n, hn⟩ : ∃ n, p.length = n := ⟨_, rfl⟩
  unfold showA
  rw [hn]
  by_cases h1 : n = 256
  · rw [if_pos h1]
    dsimp only
    have q1 : ((n : Int) != 256) = false := by simp; omega
    subst h1
    have hp : Hid (p.length = 256) := hn
    clear hn
    go_enter Tryd.func13, Tryd.ntmps13
    go_wp2_with (first
      | (go_at_call 17; refine (each_any _ 64 32 (by decide) (by decide) 23 #[.pointer (some ⟨w.heap.size, 0, none⟩), .pointer (some ⟨w.heap.size + 1, 0, none⟩)] (fun a v => by kernel_rfl) (fun k z => Sw w (.slice sp 256 cap) (showS p k) z) ?_ (sw_new w _)).mono ?_))
    · intro i j W hi hj hW
      exact show1_any w W cap i j sp p hp.out hi hj hl hW
    rintro e y2 ⟨rfl, K2⟩
    have hS := Tryd.Builder_String_any (w.heap.size + 1) (w.heap.size + 1) (showS p 2048) y2 K2.out.bu K2.out.sz
    go_wp2_with (go_at_call 25; refine hS.mono ?_; rintro e y3 ⟨rfl, H3⟩)
    go_ret2
    exact ⟨rfl, K2.out.low.trans (H3.mono (by omega))⟩
  · rw [if_neg h1]
    dsimp only
    have q1 : ((n : Int) != 256) = true := by simp; omega
    clear h1 hn
    go_enter Tryd.func13, Tryd.ntmps13
    go_wp2
    go_ret2
    exact ⟨rfl, below1 w _⟩
/-- What stands while a text is read. -/
abbrev RdF (w : World) (s : ByteArray) (q : List UInt8) (y : World) : Prop :=
  Fm w [(w.heap.size, #[.string s], 9), (w.heap.size + 1, rowB q, 5), (w.heap.size + 2, #[.slice (some ⟨w.heap.size + 1, 0, none⟩) 256 256], 25)] y
/-- A text's bytes. -/
def strL (s : ByteArray) : List UInt8 := s.data.toList
theorem read1_any (w y : World) (i j : Nat) (s : ByteArray) (hs : (strL s).length = 2080) (hi : i < 64) (hj : j < 32) (K : Hid (RdF w s (readS (strL s) (64 * j + i)) y)) :
    Calls Tryd.prog 26 #[.int .i64 (i : Int), .int .i64 (j : Int), .pointer (some ⟨w.heap.size, 0, none⟩), .pointer (some ⟨w.heap.size + 2, 0, none⟩)] y fun e z => e = .returned (.tuple #[]) ∧ RdF w s (readS (strL s) (64 * j + i + 1)) z := by
  have hnx := read_next (strL s) (64 * j + i) (by omega)
  have hq := read_len (strL s) (64 * j + i)
  rw [← hnx]
  obtain ⟨q, hqq⟩ : ∃ q, readS (strL s) (64 * j + i) = q := ⟨_, rfl⟩
  rw [hqq] at K hq ⊢
  obtain ⟨N, hN⟩ : ∃ N, 64 * j + i = N := ⟨_, rfl⟩
  have hdot := fun w => dot_any w i j hi hj
  rw [hN] at hdot ⊢
  have hash : hashS (strL s) N = ((strL s).getD (j * 65 + i) 0 == 35) := by
    unfold hashS
    rw [show 65 * (N / 64) + N % 64 = j * 65 + i by omega]
  rw [hash]
  obtain ⟨C, hC⟩ : ∃ C, (strL s).getD (j * 65 + i) 0 = C := ⟨_, rfl⟩
  rw [hC]
  have cS := (K.out.bx 0 _ _ _ rfl).c 0 (.string s) rfl
  have cD := (K.out.bx 2 _ _ _ rfl).c 0 (.slice (some ⟨w.heap.size + 1, 0, none⟩) 256 256) rfl
  have hi2 : (i : Int) < 64 := by omega
  have hj2 : (j : Int) < 32 := by omega
  have hsz : s.size = 2080 := hs
  have hb : (j : Int) * 65 + (i : Int) < (s.size : Int) := by omega
  have hbn : j * 65 + i < s.size := by omega
  have hch : Hid ((s[j * 65 + i]'hbn) = C) := by
    show _ = _
    rw [← hC]
    have : j * 65 + i < s.data.toList.length := hbn
    simp only [strL, List.getD, List.getElem?_eq_getElem this, Option.getD_some]
    rfl
  obtain ⟨a8, h8⟩ : ∃ a, N / 8 = a := ⟨_, rfl⟩
  obtain ⟨k8, hk8⟩ : ∃ a, N % 8 = a := ⟨_, rfl⟩
  have hab : a8 < 256 := by omega
  have cP := (K.out.bx 1 _ _ _ rfl).c a8 _ (rowB_get q a8 (by omega))
  have fP := (K.out.bx 1 _ _ _ rfl).fz a8
  have iy := fun v => idxB .i64 (w.heap.size + 1) 0 256 256 a8 v hab
  rw [Nat.zero_add] at iy
  rw [h8, hk8] at hdot ⊢
  unfold byV at cP
  obtain ⟨O, hO⟩ : ∃ O, q.getD a8 0 = O := ⟨_, rfl⟩
  obtain ⟨M, hM⟩ : ∃ M, mk k8 = M := ⟨_, rfl⟩
  rw [hO, hM]
  rw [hO] at cP
  rw [hM] at hdot
  have qo := or8 O M
  have K3 : Hid (RdF w s (q.set a8 (O ||| M)) (y.setCell ⟨w.heap.size + 1, a8, none⟩ (.int .u8 ((O ||| M).toNat : Int)))) := Fm.setCell K.out 1 (w.heap.size + 1) (rowB q) (rowB (q.set a8 (O ||| M))) 5 rfl a8 _ (rowB_set q a8 (O ||| M))
  obtain ⟨P2, hP2⟩ : ∃ P2, q.set a8 (O ||| M) = P2 := ⟨_, rfl⟩
  rw [hP2] at K3 ⊢
  obtain ⟨u, hu⟩ : ∃ u, (O ||| M).toNat = u := ⟨_, rfl⟩
  obtain ⟨o, ho⟩ : ∃ o, O.toNat = o := ⟨_, rfl⟩
  obtain ⟨m, hm⟩ : ∃ m, M.toNat = m := ⟨_, rfl⟩
  rw [hu] at K3 qo
  rw [ho, hm] at qo
  rw [ho] at cP
  rw [hm] at hdot
  have fin : Hid (((C.toNat : Int) == 35) = (C == 35)) := by
    show _ = _
    by_cases h : C = 35
    · subst h; rfl
    · rw [beq_eq_false_iff_ne.2 h, beq_eq_false_iff_ne.2 fun e => h (UInt8.toNat_inj.1 (show C.toNat = 35 by omega))]
  obtain ⟨E, hE⟩ : ∃ E, (if (C == 35) = true then P2 else q) = E := ⟨_, rfl⟩
  rw [hE]
  have hE : Hid ((if (C == 35) = true then P2 else q) = E) := hE
  clear hu ho hm hP2 hO hM h8 hk8 hC hash hN hqq hnx hsz hs hq hi hj
  go_enter Tryd.func26, Tryd.ntmps26
  go_wp2_with (go_at_call 20; refine (hdot _).mono ?_; rintro e y ⟨rfl, rfl⟩)
  · have hh : (((s[j * 65 + i]'hbn).toNat : Int) == 35) = true := by assumption
    rw [hch.out, fin.out] at hh
    have h2 := hE.out
    rw [if_pos hh] at h2
    subst h2
    go_end0
    exact ⟨rfl, K3.out⟩
  · have hh : (((s[j * 65 + i]'hbn).toNat : Int) == 35) = false := by first | assumption | simpa using ‹¬ _›
    rw [hch.out, fin.out] at hh
    have h2 := hE.out
    rw [if_neg (by rw [hh]; exact Bool.false_ne_true)] at h2
    subst h2
    go_end0
    exact ⟨rfl, K.out⟩
/-- What Read answers. -/
def readA (t : List UInt8) : List UInt8 × Int := if t.length = 2080 ∧ showS (readS t 2048) 2048 = t then (readS t 2048, 0) else ([], 1)
theorem read_any (w : World) (s : ByteArray) :
    Calls Tryd.prog 15 #[.string s] w fun e w' => ∃ v, e = .returned (.tuple #[v, .int .i64 (readA (strL s)).2]) ∧ Hid (KL 5 1 cB w v (readA (strL s)).1 w') := by
  have hE : Hid (∀ z, Below w.heap.size w z → KL 5 1 cB w (.slice none 0 0) ([] : List UInt8) z) := fun z hz => (KL.nil w).below hz
  have hmk := mk256
  by_cases h1 : (strL s).length = 2080
  · have h1' : Hid ((strL s).length = 2080) := h1
    have hsz : s.size = 2080 := h1
    have q1 : ((s.size : Int) != 2080) = false := by rw [hsz]; rfl
    have hz0 : Hid (rowB (readS (strL s) 0) = rowB (List.replicate 256 0)) := rfl
    obtain ⟨Z, hZ⟩ : ∃ Z, rowB (List.replicate 256 0) = Z := ⟨_, rfl⟩
    rw [hZ] at hmk hz0
    have K0 : Hid (RdF w s (readS (strL s) 0) (((w.alloc (.cells #[.string s] 9)).alloc (.cells Z 5)).alloc (.cells #[.slice (some ⟨w.heap.size + 1, 0, none⟩) 256 256] 25))) := by
      show RdF _ _ _ _
      unfold RdF
      rw [hz0.out]
      exact Fm.three w _ _ _ _ _ _
    have hrl : Hid ((readS (strL s) 2048).length = 256) := read_len _ _
    have hA : readA (strL s) = if showS (readS (strL s) 2048) 2048 = strL s then (readS (strL s) 2048, 0) else ([], 1) := by
      unfold readA
      by_cases h2 : showS (readS (strL s) 2048) 2048 = strL s
      · rw [if_pos ⟨h1, h2⟩, if_pos h2]
      · rw [if_neg (fun h => h2 h.2), if_neg h2]
    rw [hA]
    clear hA
    have hsh : Hid (∀ y, RdF w s (readS (strL s) 2048) y → Calls Tryd.prog 13 #[.slice (some ⟨w.heap.size + 1, 0, none⟩) 256 256] y fun e w' => e = .returned (.tuple #[.string (strB (showS (readS (strL s) 2048) 2048)), .int .i64 0]) ∧ Below y.heap.size y w') := fun y hy => by
      have hown := own_of_bx (B := 0) (Fm.bx hy 1 _ _ _ rfl) (Nat.zero_le _) (by rw [read_len]; decide)
      obtain ⟨sp, cp, e, hl, _⟩ := OwnL.open kByte.len hown
      rw [read_len] at e
      injection e with e1 e2 e3
      subst e1
      have := show_any y (some ⟨w.heap.size + 1, 0, none⟩) 256 _ hl
      rw [read_len] at this
      unfold showA at this
      rw [if_pos (read_len _ _)] at this
      exact this
    have fin : Hid (∀ z, RdF w s (readS (strL s) 2048) z → KL 5 1 cB w (.slice (some ⟨w.heap.size + 1, 0, none⟩) 256 256) (readS (strL s) 2048) z) := fun z hz => by
      have := own_of_bx (B := w.heap.size) (Fm.bx hz 1 _ _ _ rfl) (by omega) (by rw [read_len]; decide)
      rw [read_len] at this
      exact ⟨this, hz.low⟩
    have hst : Hid ((strB (showS (readS (strL s) 2048) 2048)).toList = showS (readS (strL s) 2048) 2048) := by
      show _ = _
      rw [toList_eq]
      simp [strB]
    have hK0 : Hid (∀ (i j : Nat) (W : World), i < 64 → j < 32 → RdF w s (readS (strL s) (64 * j + i)) W → Calls Tryd.prog 26 (#[.int .i64 (i : Int), .int .i64 (j : Int)] ++ #[.pointer (some ⟨w.heap.size, 0, none⟩), .pointer (some ⟨w.heap.size + 2, 0, none⟩)]) W fun e W' => e = .returned (.tuple #[]) ∧ RdF w s (readS (strL s) (64 * j + i + 1)) W') := fun i j W hi hj hW => read1_any w W i j s h1'.out hi hj hW
    have heach : Calls Tryd.prog 17 #[.int .i64 64, .int .i64 32, .func (.func 26) #[] #[.pointer (some ⟨w.heap.size, 0, none⟩), .pointer (some ⟨w.heap.size + 2, 0, none⟩)]] (((w.alloc (.cells #[.string s] 9)).alloc (.cells Z 5)).alloc (.cells #[.slice (some ⟨w.heap.size + 1, 0, none⟩) 256 256] 25)) fun e W' => e = .returned (.tuple #[]) ∧ Hid (RdF w s (readS (strL s) 2048) W') := each_any _ 64 32 (by decide) (by decide) 26 #[.pointer (some ⟨w.heap.size, 0, none⟩), .pointer (some ⟨w.heap.size + 2, 0, none⟩)] (fun a v => by kernel_rfl) (fun k z => RdF w s (readS (strL s) k) z) hK0 K0
    obtain ⟨R, hR⟩ : ∃ R, readS (strL s) 2048 = R := ⟨_, rfl⟩
    rw [hR] at hsh fin hst heach ⊢
    obtain ⟨T, hT⟩ : ∃ T, strB (showS R 2048) = T := ⟨_, rfl⟩
    rw [hT] at hsh hst
    clear h1 hsz hZ hz0 K0 hrl hR hK0
    by_cases h2 : showS R 2048 = strL s
    · rw [if_pos h2]
      dsimp only
      have q2 : (T.toList == s.toList) = true := by rw [hst.out, h2, toList_eq]; simp [strL]
      clear h2 hst hT
      go_enter Tryd.func15, Tryd.ntmps15
      go_wp2_with (first
        | (go_at_call 13; refine (hsh.out y2 K2.out).mono ?_; rintro e y3 ⟨rfl, H3⟩; have K3 : Hid (RdF w s R y3) := K2.out.below H3; have c3 := (K3.out.bx 0 _ _ _ rfl).c 0 (.string s) rfl; have d3 := (K3.out.bx 2 _ _ _ rfl).c 0 (.slice (some ⟨w.heap.size + 1, 0, none⟩) 256 256) rfl)
        | (go_at_call 17; refine heach.mono ?_; rintro e y2 ⟨rfl, K2⟩; have d2 := (K2.out.bx 2 _ _ _ rfl).c 0 (.slice (some ⟨w.heap.size + 1, 0, none⟩) 256 256) rfl))
      go_ret2
      exact ⟨_, rfl, fin.out y3 K3.out⟩
    · rw [if_neg h2]
      dsimp only
      have q2 : (T.toList == s.toList) = false := by
        rw [hst.out, toList_eq]
        exact beq_eq_false_iff_ne.2 h2
      clear h2 hst hT
      go_enter Tryd.func15, Tryd.ntmps15
      go_wp2_with (first
        | (go_at_call 13; refine (hsh.out y2 K2.out).mono ?_; rintro e y3 ⟨rfl, H3⟩; have K3 : Hid (RdF w s R y3) := K2.out.below H3; have c3 := (K3.out.bx 0 _ _ _ rfl).c 0 (.string s) rfl; have d3 := (K3.out.bx 2 _ _ _ rfl).c 0 (.slice (some ⟨w.heap.size + 1, 0, none⟩) 256 256) rfl)
        | (go_at_call 17; refine heach.mono ?_; rintro e y2 ⟨rfl, K2⟩; have d2 := (K2.out.bx 2 _ _ _ rfl).c 0 (.slice (some ⟨w.heap.size + 1, 0, none⟩) 256 256) rfl))
      go_ret2
      exact ⟨_, rfl, hE.out _ K3.out.low⟩
  · have hA : readA (strL s) = ([], 1) := by unfold readA; rw [if_neg (fun h => h1 h.1)]
    rw [hA]
    dsimp only
    have q1 : ((s.size : Int) != 2080) = true := by
      have : s.size ≠ 2080 := h1
      simp; omega
    clear h1 hA
    go_enter Tryd.func15, Tryd.ntmps15
    go_wp2
    go_ret2
    exact ⟨_, rfl, hE.out _ (below1 w _)⟩
end Go.Proofs.YtiplellfpagclaaDoor
