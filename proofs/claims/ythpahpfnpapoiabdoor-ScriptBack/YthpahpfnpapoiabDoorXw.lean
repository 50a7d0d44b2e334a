/- A text read as a script, by the document. -/
import Derived.Test.YthpahpfnpapoiabDoorXv
import Derived.Test.YthpahpfnpapoiabDoorXh
namespace Go.Proofs.YthpahpfnpapoiabDoor
open Go Go.RowKit
set_option linter.unusedVariables false
set_option maxHeartbeats 2000000
set_option maxRecDepth 20000

theorem Ct.base {w y1 y : World} {va vb : Value} {A Bl : List Sn} (h : Ct y1 va vb A Bl [] y) (hb : Below w.heap.size w y1) : Ct w va vb A Bl [] y :=
  ⟨⟨fun i b cs t e => by simp at e, fun i b cs t e => by simp at e, fun i j b c1 c2 t1 t2 e => by simp at e, hb.trans (h.fm.low.mono hb.size)⟩, h.oa.weak hb.size, h.ob.weak hb.size, h.ap, fun i b cs t e => by simp at e⟩
theorem str_nil (s : ByteArray) : (s.toList = []) ↔ strL s = [] := by rw [toL]
theorem rparse_any (w : World) (tb : Hid (Tp w)) (text : ByteArray) (hs : text.size ≤ 9223372036854775807) :
    Calls Tryd.prog 7 #[.string text] w fun e w' => ∃ v, e = .returned (.tuple #[v, .int .i64 (parseS (strL text)).2.1, .int .i64 (parseS (strL text)).2.2]) ∧ Hid (Ct w v (.slice none 0 0) (parseS (strL text)).1 [] [] w') := by
  have si : (text.size : Int) ≤ 9223372036854775807 := by omega
  have C0 : Hid (Ct w (.slice none 0 0) (.slice none 0 0) [] [] [] w) := Ct.nil w
  by_cases hbig : 65536 < text.size
  · have e : parseS (strL text) = ([], 2, 0) := by unfold parseS; rw [if_pos (by rw [strL_len]; exact hbig)]
    rw [e]
    have q : decide ((65536 : Int) < text.size) = true := by simp; omega
    clear hbig e hs
    go_enter Tryd.func7, Tryd.ntmps7
    go_wp2
    go_ret3
    exact ⟨_, rfl, C0⟩
  have q : decide ((65536 : Int) < text.size) = false := by simp; omega
  have hL := fun v => rlines_any v text (by omega)
  obtain ⟨PS, hPS⟩ : ∃ x, parseS (strL text) = x := ⟨_, rfl⟩
  have hPS' : Hid (PS = if 4096 < manyL (strL text) then ([], 2, 0) else if (parseGo (linesL (strL text)).1 0 0 []).2.1 ≠ 0 then parseGo (linesL (strL text)).1 0 0 [] else if (linesL (strL text)).2 = [] then parseGo (linesL (strL text)).1 0 0 [] else ([], 71, (manyL (strL text) : Int))) := by
    show _ = _
    rw [← hPS]
    unfold parseS
    rw [if_neg (by rw [strL_len]; omega)]
  rw [hPS]
  have hsz : Hid (text.size ≤ 65536) := by show text.size ≤ 65536; omega
  clear hPS hbig hs
  go_enter Tryd.func7, Tryd.ntmps7
  go_wp2_with (go_at_call 20; refine (hL w).mono ?_; rintro e y1 ⟨v, ls, rest, rfl, H1⟩; obtain ⟨sp, cap, rfl, hlt1⟩ := H1.out.1.open; have hls : Hid (linesL (strL text) = (ls.map strL, strL rest)) := H1.out.2.1; have low1 : Hid (Below w.heap.size w y1 ∧ LiesT y1 sp ls) := ⟨H1.out.1.2, hlt1⟩; clear H1 hlt1; refine stopAt ?_)
  refine Stop.go ?_
  have hmany : Hid (manyL (strL text) = ls.length + (if strL rest = [] then 0 else 1)) := by
    show _ = _
    unfold manyL
    rw [hls.out, List.length_map]
  have hcnt : Hid (ls.length ≤ 65537 ∧ ∀ s ∈ ls, s.size ≤ 65536) := by
    have h1 := lines_un (strL text)
    rw [hls.out] at h1
    have h2 := congrArg List.length h1
    rw [List.length_append, strL_len, strL_len] at h2
    have key : ∀ l : List (List UInt8), l.length ≤ (unlines l).length ∧ ∀ x ∈ l, x.length ≤ (unlines l).length := by
      intro l
      induction l with
      | nil => exact ⟨Nat.le_refl _, fun x hx => by simp at hx⟩
      | cons a l ih =>
        simp only [unlines, List.length_append, List.length_cons]
        refine ⟨by have := ih.1; omega, fun x hx => ?_⟩
        rcases List.mem_cons.1 hx with rfl | hx
        · omega
        · have := ih.2 x hx; omega
    have k1 := key (ls.map strL)
    have h3 := hsz.out
    dsimp only at h2
    refine ⟨by have := k1.1; rw [List.length_map] at this; omega, fun s hs => ?_⟩
    have := k1.2 (strL s) (List.mem_map_of_mem hs)
    rw [strL_len] at this
    omega
  obtain ⟨n, hn⟩ : ∃ n, ls.length = n := ⟨_, rfl⟩
  have hn' : Hid (ls.length = n) := hn
  have ni : (n : Int) ≤ 65537 := by have := hcnt.out.1; omega
  rw [hn]
  obtain ⟨rb, hrb⟩ : ∃ rb, (!rest.toList.isEmpty) = rb := ⟨_, rfl⟩
  have hrb' : Hid ((strL rest = []) ↔ rb = false) := by
    show _ ↔ _
    rw [← hrb, toL]
    cases strL rest <;> simp
  obtain ⟨PG, hPG⟩ : ∃ x, parseGo (ls.map strL) 0 0 [] = x := ⟨_, rfl⟩
  have hPG' : Hid (parseGo (ls.map strL) 0 0 [] = PG) := hPG
  have hPS2 : Hid (∀ M : Nat, M = n + (if rb then 1 else 0) → PS = if 4096 < M then ([], 2, 0) else if PG.2.1 ≠ 0 then PG else if rb then ([], 71, (M : Int)) else PG) := fun M hM => by
    have h1 := hPS'.out
    rw [hmany.out, hls.out] at h1
    dsimp only at h1
    rw [hPG, hn'.out] at h1
    rw [h1, hM]
    have h2 := hrb'.out
    cases rb
    · have h3 := h2.2 rfl
      simp [h3]
    · have h3 : ¬ strL rest = [] := fun e => Bool.noConfusion (h2.1 e)
      simp [h3]
  have zz := zeroV_S
  have hSp : Hid (∀ (y : World) (x : ByteArray), Tp y → x.size ≤ 65536 → Calls Tryd.prog 21 #[.string x] y fun e w' => ∃ s', e = .returned (.tuple #[.agg (spC s'), .bool (spanOf (strL x)).isSome]) ∧ Hid ((∀ t, spanOf (strL x) = some t → s' = t) ∧ Below y.heap.size y w')) := fun y x ht hx => rspan_any y ht x (by omega)
  clear hL hPG hn hPS' hmany hls hrb'
  cases rb
  · have hrb2 : rest.toList.isEmpty = true := by simpa using hrb
    have hM : Hid _ := hPS2.out (n) (by simp)
    by_cases hbig0 : 4096 < n
    · have fin : Hid (PS = ([], 2, 0)) := by show PS = _; rw [hM.out, if_pos hbig0]
      have qb : decide ((4096 : Int) < (n : Int)) = true := by simp; omega
      clear hbig0
      go_wp2
      go_ret3
      rw [fin.out]
      exact ⟨_, rfl, (Ct.nil y1).base low1.out.1⟩
    have qb : decide ((4096 : Int) < (n : Int)) = false := by simp; omega
    have hbig : Hid (¬ 4096 < n) := hbig0
    have n4 : (n : Int) ≤ 4096 := by omega
    have C1 : Hid (Ct y1 (.slice none 0 0) (.slice none 0 0) [] [] [] y1) := Ct.nil y1
    clear hbig0 ni
    go_wp2
    go_loopw [8, 9, 10] (fun o c t wz => ∃ (i : Nat) (m : Int) (va : Value) (O : List Sn) (y : World), y = wz ∧ va = o ∧ c = .int .i64 m ∧ t = .int .i64 (i : Int) ∧ Hid (i ≤ n ∧ 0 ≤ m ∧ m ≤ 4194304 ∧ O.length ≤ i ∧ parseGo ((ls.drop i).map strL) i m O = PG) ∧ Hid (Ct y1 va (.slice none 0 0) O [] [] y)) (fun _ _ t _ => (n - intOf t).toNat)
    case atStart => exact ⟨0, 0, _, [], _, rfl, rfl, rfl, rfl, ⟨Nat.zero_le _, Int.le_refl _, by decide, Nat.le_refl _, hPG'.out⟩, C1⟩
    case round =>
      obtain ⟨i, m, va, O, y, rfl, rfl, rfl, rfl, J, K⟩ := hrel
      by_cases hlt : i < n
      · obtain ⟨x, hx⟩ : ∃ x, ls[i]? = some x := ⟨_, List.getElem?_eq_getElem (by rw [hn'.out]; exact hlt)⟩
        obtain ⟨g, hsp, hcx⟩ := low1.out.2.below K.out.fm.low i x hx
        subst hsp
        have hdk : Hid (ls.drop i = x :: ls.drop (i + 1)) := by
          have h := List.getElem?_eq_some_iff.1 hx
          show _ = _
          rw [List.drop_eq_getElem_cons h.1, h.2]
        have ik := idxT g n cap i hlt
        have hki : (i : Int) < n := by omega
        have hlt' : Hid (i < n) := hlt
        have hcall := hSp.out y x (tb.out.below (low1.out.1.trans (K.out.fm.low.mono low1.out.1.size))) (hcnt.out.2 x (List.mem_of_getElem? hx))
        have m0 : 0 ≤ m := J.out.2.1
        have m1 : m ≤ 4194304 := J.out.2.2.1
        clear hlt
        cases hso : spanOf (strL x) with
        | none =>
          rw [hso] at hcall
          have fin : Hid (PS = ([], 71, (i : Int) + 1)) := by
            have h1 := J.out.2.2.2.2
            rw [hdk.out] at h1
            simp only [List.map_cons, parseGo, hso] at h1
            show PS = _
            rw [hM.out, if_neg (by have := hbig.out; omega), ← h1, if_pos (by simp)]
          clear hso
          simp only [Option.isSome_none] at hcall
          go_wp2_with (first
            | (go_at_call 21; refine hcall.mono ?_; rintro e y8 ⟨s', rfl, H8⟩; have K8 : Hid (Ct y1 va (.slice none 0 0) O [] [] y8) := K.out.below H8.out.2; clear H8)
            | ((with_reducible refine gen_world (y8.alloc (.cells (spC ⟨0, zA⟩) 43)) (Ct y1 va (.slice none 0 0) O [] [(y8.heap.size, spC ⟨0, zA⟩, 43)]) ?_ ?_); exact K8.out.new _ _; intro y9 K9)
            | ((with_reducible refine at_st rtS y8.heap.size (spC ⟨0, zA⟩) (spC s') ?_ ?_ ?_ ?_ (.tmp 11) (.tmp 41) ?_ ?_ ?_ ?_ ?_); exact K9.out.fm.bx 0 _ _ _ rfl; rfl; rfl; exact spC_one _; rfl; rfl; rfl; rfl; intro y10 hw10; have K10 : Hid (Ct y1 va (.slice none 0 0) O [] [(y8.heap.size, spC s', 43)] y10) := K9.out.put 0 _ _ _ _ rfl hw10.out))
          go_ret3
          rw [fin.out]
          exact ⟨_, rfl, (C1.out.below K10.out.fm.low).base low1.out.1⟩
        | some s =>
          rw [hso] at hcall
          have hg := (span_some hso).2
          have s0 : 0 ≤ s.c := by have := hg.c0; omega
          have s1 : s.c ≤ 1048576 := by have := hg.c1; omega
          simp only [Option.isSome_some] at hcall
          have Jn : Hid (parseGo ((ls.drop i).map strL) i m O = if 4194304 < m + s.c then ([], 70, (i : Int) + 1) else parseGo ((ls.drop (i + 1)).map strL) (i + 1) (m + s.c) (O ++ [s])) := by
            show _ = _
            rw [hdk.out]
            simp only [List.map_cons, parseGo, hso]
          have hOl : Hid (O.length ≤ 65537) := by have := J.out.2.2.2.1; have := J.out.1; show _ ≤ _; have := hbig.out; omega
          obtain ⟨c, sa⟩ := s
          dsimp only at s0 s1 Jn
          clear hso hg
          by_cases hc : 4194304 < m + c
          · have qc : decide ((4194304 : Int) < m + c) = true := by simp; exact hc
            have fin : Hid (PS = ([], 70, (i : Int) + 1)) := by
              have h1 := J.out.2.2.2.2
              rw [Jn.out, if_pos hc] at h1
              show PS = _
              rw [hM.out, if_neg (by have := hbig.out; omega), ← h1, if_pos (by simp)]
            clear hc
            go_wp2_with (first
              | (go_at_call 21; refine hcall.mono ?_; rintro e y8 ⟨s', rfl, H8⟩; have K8 : Hid (Ct y1 va (.slice none 0 0) O [] [] y8) := K.out.below H8.out.2; have es := H8.out.1 _ rfl; subst es; clear H8)
              | ((with_reducible refine gen_world (y8.alloc (.cells (spC ⟨0, zA⟩) 43)) (Ct y1 va (.slice none 0 0) O [] [(y8.heap.size, spC ⟨0, zA⟩, 43)]) ?_ ?_); exact K8.out.new _ _; intro y9 K9)
              | ((with_reducible refine at_st rtS y8.heap.size (spC ⟨0, zA⟩) (spC ⟨c, sa⟩) ?_ ?_ ?_ ?_ (.tmp 11) (.tmp 41) ?_ ?_ ?_ ?_ ?_); exact K9.out.fm.bx 0 _ _ _ rfl; rfl; rfl; exact spC_one _; rfl; rfl; rfl; rfl; intro y10 hw10; have K10 : Hid (Ct y1 va (.slice none 0 0) O [] [(y8.heap.size, spC ⟨c, sa⟩, 43)] y10) := K9.out.put 0 _ _ _ _ rfl hw10.out; have d10 := (K10.out.fm.bx 0 _ _ _ rfl).c 0 _ (spC_c ⟨c, sa⟩); dsimp only at d10)
              | ((with_reducible refine at_load rtS y8.heap.size (spC ⟨c, sa⟩) ?_ ?_ (.tmp 11) ?_ ?_ ?_ ?_); exact K10.out.fm.bx 0 _ _ _ rfl; rfl; kernel_rfl; rfl; rfl)
              | ((with_reducible refine at_bsS ⟨c, sa⟩ (.tmp 56) ?_ ?_ ?_ ?_); rfl; rfl; rfl)
              | (at_builtin; refine at_app rfl (.tmp 55) (.tmp 57) rfl y1.heap.size va O rfl (K10.out.oa.alloc _) y10.heap.size ⟨c, sa⟩ rfl (one_bx _ _ _) ?_ ?_ ?_; (have := hOl.out; omega); (have := K10.out.fm.low.size; simp; omega); intro va' y12 H12; have K12 : Hid (Ct y1 va' (.slice none 0 0) (O ++ [⟨c, sa⟩]) [] [] y12) := (K10.out.appA H12.out).pre (bs := []); clear H12))
            go_ret3
            rw [fin.out]
            exact ⟨_, rfl, (C1.out.below K10.out.fm.low).base low1.out.1⟩
          · have qc : decide ((4194304 : Int) < m + c) = false := by simp; omega
            have mc : m + c ≤ 4194304 := by omega
            have J3 : Hid (parseGo ((ls.drop (i + 1)).map strL) (i + 1) (m + c) (O ++ [⟨c, sa⟩]) = PG) := by
              have h1 := J.out.2.2.2.2
              rw [Jn.out, if_neg hc] at h1
              exact h1
            clear hc
            go_wp2_with (first
              | (go_at_call 21; refine hcall.mono ?_; rintro e y8 ⟨s', rfl, H8⟩; have K8 : Hid (Ct y1 va (.slice none 0 0) O [] [] y8) := K.out.below H8.out.2; have es := H8.out.1 _ rfl; subst es; clear H8)
              | ((with_reducible refine gen_world (y8.alloc (.cells (spC ⟨0, zA⟩) 43)) (Ct y1 va (.slice none 0 0) O [] [(y8.heap.size, spC ⟨0, zA⟩, 43)]) ?_ ?_); exact K8.out.new _ _; intro y9 K9)
              | ((with_reducible refine at_st rtS y8.heap.size (spC ⟨0, zA⟩) (spC ⟨c, sa⟩) ?_ ?_ ?_ ?_ (.tmp 11) (.tmp 41) ?_ ?_ ?_ ?_ ?_); exact K9.out.fm.bx 0 _ _ _ rfl; rfl; rfl; exact spC_one _; rfl; rfl; rfl; rfl; intro y10 hw10; have K10 : Hid (Ct y1 va (.slice none 0 0) O [] [(y8.heap.size, spC ⟨c, sa⟩, 43)] y10) := K9.out.put 0 _ _ _ _ rfl hw10.out; have d10 := (K10.out.fm.bx 0 _ _ _ rfl).c 0 _ (spC_c ⟨c, sa⟩); dsimp only at d10)
              | ((with_reducible refine at_load rtS y8.heap.size (spC ⟨c, sa⟩) ?_ ?_ (.tmp 11) ?_ ?_ ?_ ?_); exact K10.out.fm.bx 0 _ _ _ rfl; rfl; kernel_rfl; rfl; rfl)
              | ((with_reducible refine at_bsS ⟨c, sa⟩ (.tmp 56) ?_ ?_ ?_ ?_); rfl; rfl; rfl)
              | (at_builtin; refine at_app rfl (.tmp 55) (.tmp 57) rfl y1.heap.size va O rfl (K10.out.oa.alloc _) y10.heap.size ⟨c, sa⟩ rfl (one_bx _ _ _) ?_ ?_ ?_; (have := hOl.out; omega); (have := K10.out.fm.low.size; simp; omega); intro va' y12 H12; have K12 : Hid (Ct y1 va' (.slice none 0 0) (O ++ [⟨c, sa⟩]) [] [] y12) := (K10.out.appA H12.out).pre (bs := []); clear H12))
            go_roundw
            case rel => exact ⟨i + 1, m + c, _, _, _, rfl, rfl, rfl, by simp, ⟨by have := hlt'.out; omega, by omega, mc, by have := J.out.2.2.2.1; simp; omega, J3.out⟩, K12⟩
            case measure => have := hlt'.out; simp [intOf]; omega
      · have hin : i = n := by have := J.out.1; omega
        subst hin
        have J2 : Hid (PG = (O, 0, 0)) := by
          have h1 := J.out.2.2.2.2
          rw [List.drop_eq_nil_of_le (by rw [hn'.out]; exact Nat.le_refl _)] at h1
          show PG = _
          rw [← h1]
          rfl
        have fin : Hid (PS = (O, 0, 0)) := by
          show PS = _
          rw [hM.out, if_neg (by have := hbig.out; omega), if_neg (by rw [J2.out]; simp), if_neg (by decide), J2.out]
        clear hlt
        go_wp2
        go_ret3
        rw [fin.out]
        exact ⟨_, rfl, K.out.base low1.out.1⟩
  · have hrb2 : rest.toList.isEmpty = false := by simpa using hrb
    have hM : Hid _ := hPS2.out (n + 1) (by simp)
    by_cases hbig0 : 4096 < n + 1
    · have fin : Hid (PS = ([], 2, 0)) := by show PS = _; rw [hM.out, if_pos hbig0]
      have qb : decide ((4096 : Int) < ((n : Int) + 1)) = true := by simp; omega
      clear hbig0
      go_wp2
      go_ret3
      rw [fin.out]
      exact ⟨_, rfl, (Ct.nil y1).base low1.out.1⟩
    have qb : decide ((4096 : Int) < ((n : Int) + 1)) = false := by simp; omega
    have hbig : Hid (¬ 4096 < n + 1) := hbig0
    have n4 : (n : Int) ≤ 4096 := by omega
    have C1 : Hid (Ct y1 (.slice none 0 0) (.slice none 0 0) [] [] [] y1) := Ct.nil y1
    clear hbig0 ni
    go_wp2
    go_loopw [8, 9, 10] (fun o c t wz => ∃ (i : Nat) (m : Int) (va : Value) (O : List Sn) (y : World), y = wz ∧ va = o ∧ c = .int .i64 m ∧ t = .int .i64 (i : Int) ∧ Hid (i ≤ n ∧ 0 ≤ m ∧ m ≤ 4194304 ∧ O.length ≤ i ∧ parseGo ((ls.drop i).map strL) i m O = PG) ∧ Hid (Ct y1 va (.slice none 0 0) O [] [] y)) (fun _ _ t _ => (n - intOf t).toNat)
    case atStart => exact ⟨0, 0, _, [], _, rfl, rfl, rfl, rfl, ⟨Nat.zero_le _, Int.le_refl _, by decide, Nat.le_refl _, hPG'.out⟩, C1⟩
    case round =>
      obtain ⟨i, m, va, O, y, rfl, rfl, rfl, rfl, J, K⟩ := hrel
      by_cases hlt : i < n
      · obtain ⟨x, hx⟩ : ∃ x, ls[i]? = some x := ⟨_, List.getElem?_eq_getElem (by rw [hn'.out]; exact hlt)⟩
        obtain ⟨g, hsp, hcx⟩ := low1.out.2.below K.out.fm.low i x hx
        subst hsp
        have hdk : Hid (ls.drop i = x :: ls.drop (i + 1)) := by
          have h := List.getElem?_eq_some_iff.1 hx
          show _ = _
          rw [List.drop_eq_getElem_cons h.1, h.2]
        have ik := idxT g n cap i hlt
        have hki : (i : Int) < n := by omega
        have hlt' : Hid (i < n) := hlt
        have hcall := hSp.out y x (tb.out.below (low1.out.1.trans (K.out.fm.low.mono low1.out.1.size))) (hcnt.out.2 x (List.mem_of_getElem? hx))
        have m0 : 0 ≤ m := J.out.2.1
        have m1 : m ≤ 4194304 := J.out.2.2.1
        clear hlt
        cases hso : spanOf (strL x) with
        | none =>
          rw [hso] at hcall
          have fin : Hid (PS = ([], 71, (i : Int) + 1)) := by
            have h1 := J.out.2.2.2.2
            rw [hdk.out] at h1
            simp only [List.map_cons, parseGo, hso] at h1
            show PS = _
            rw [hM.out, if_neg (by have := hbig.out; omega), ← h1, if_pos (by simp)]
          clear hso
          simp only [Option.isSome_none] at hcall
          go_wp2_with (first
            | (go_at_call 21; refine hcall.mono ?_; rintro e y8 ⟨s', rfl, H8⟩; have K8 : Hid (Ct y1 va (.slice none 0 0) O [] [] y8) := K.out.below H8.out.2; clear H8)
            | ((with_reducible refine gen_world (y8.alloc (.cells (spC ⟨0, zA⟩) 43)) (Ct y1 va (.slice none 0 0) O [] [(y8.heap.size, spC ⟨0, zA⟩, 43)]) ?_ ?_); exact K8.out.new _ _; intro y9 K9)
            | ((with_reducible refine at_st rtS y8.heap.size (spC ⟨0, zA⟩) (spC s') ?_ ?_ ?_ ?_ (.tmp 11) (.tmp 41) ?_ ?_ ?_ ?_ ?_); exact K9.out.fm.bx 0 _ _ _ rfl; rfl; rfl; exact spC_one _; rfl; rfl; rfl; rfl; intro y10 hw10; have K10 : Hid (Ct y1 va (.slice none 0 0) O [] [(y8.heap.size, spC s', 43)] y10) := K9.out.put 0 _ _ _ _ rfl hw10.out))
          go_ret3
          rw [fin.out]
          exact ⟨_, rfl, (C1.out.below K10.out.fm.low).base low1.out.1⟩
        | some s =>
          rw [hso] at hcall
          have hg := (span_some hso).2
          have s0 : 0 ≤ s.c := by have := hg.c0; omega
          have s1 : s.c ≤ 1048576 := by have := hg.c1; omega
          simp only [Option.isSome_some] at hcall
          have Jn : Hid (parseGo ((ls.drop i).map strL) i m O = if 4194304 < m + s.c then ([], 70, (i : Int) + 1) else parseGo ((ls.drop (i + 1)).map strL) (i + 1) (m + s.c) (O ++ [s])) := by
            show _ = _
            rw [hdk.out]
            simp only [List.map_cons, parseGo, hso]
          have hOl : Hid (O.length ≤ 65537) := by have := J.out.2.2.2.1; have := J.out.1; show _ ≤ _; have := hbig.out; omega
          obtain ⟨c, sa⟩ := s
          dsimp only at s0 s1 Jn
          clear hso hg
          by_cases hc : 4194304 < m + c
          · have qc : decide ((4194304 : Int) < m + c) = true := by simp; exact hc
            have fin : Hid (PS = ([], 70, (i : Int) + 1)) := by
              have h1 := J.out.2.2.2.2
              rw [Jn.out, if_pos hc] at h1
              show PS = _
              rw [hM.out, if_neg (by have := hbig.out; omega), ← h1, if_pos (by simp)]
            clear hc
            go_wp2_with (first
              | (go_at_call 21; refine hcall.mono ?_; rintro e y8 ⟨s', rfl, H8⟩; have K8 : Hid (Ct y1 va (.slice none 0 0) O [] [] y8) := K.out.below H8.out.2; have es := H8.out.1 _ rfl; subst es; clear H8)
              | ((with_reducible refine gen_world (y8.alloc (.cells (spC ⟨0, zA⟩) 43)) (Ct y1 va (.slice none 0 0) O [] [(y8.heap.size, spC ⟨0, zA⟩, 43)]) ?_ ?_); exact K8.out.new _ _; intro y9 K9)
              | ((with_reducible refine at_st rtS y8.heap.size (spC ⟨0, zA⟩) (spC ⟨c, sa⟩) ?_ ?_ ?_ ?_ (.tmp 11) (.tmp 41) ?_ ?_ ?_ ?_ ?_); exact K9.out.fm.bx 0 _ _ _ rfl; rfl; rfl; exact spC_one _; rfl; rfl; rfl; rfl; intro y10 hw10; have K10 : Hid (Ct y1 va (.slice none 0 0) O [] [(y8.heap.size, spC ⟨c, sa⟩, 43)] y10) := K9.out.put 0 _ _ _ _ rfl hw10.out; have d10 := (K10.out.fm.bx 0 _ _ _ rfl).c 0 _ (spC_c ⟨c, sa⟩); dsimp only at d10)
              | ((with_reducible refine at_load rtS y8.heap.size (spC ⟨c, sa⟩) ?_ ?_ (.tmp 11) ?_ ?_ ?_ ?_); exact K10.out.fm.bx 0 _ _ _ rfl; rfl; kernel_rfl; rfl; rfl)
              | ((with_reducible refine at_bsS ⟨c, sa⟩ (.tmp 56) ?_ ?_ ?_ ?_); rfl; rfl; rfl)
              | (at_builtin; refine at_app rfl (.tmp 55) (.tmp 57) rfl y1.heap.size va O rfl (K10.out.oa.alloc _) y10.heap.size ⟨c, sa⟩ rfl (one_bx _ _ _) ?_ ?_ ?_; (have := hOl.out; omega); (have := K10.out.fm.low.size; simp; omega); intro va' y12 H12; have K12 : Hid (Ct y1 va' (.slice none 0 0) (O ++ [⟨c, sa⟩]) [] [] y12) := (K10.out.appA H12.out).pre (bs := []); clear H12))
            go_ret3
            rw [fin.out]
            exact ⟨_, rfl, (C1.out.below K10.out.fm.low).base low1.out.1⟩
          · have qc : decide ((4194304 : Int) < m + c) = false := by simp; omega
            have mc : m + c ≤ 4194304 := by omega
            have J3 : Hid (parseGo ((ls.drop (i + 1)).map strL) (i + 1) (m + c) (O ++ [⟨c, sa⟩]) = PG) := by
              have h1 := J.out.2.2.2.2
              rw [Jn.out, if_neg hc] at h1
              exact h1
            clear hc
            go_wp2_with (first
              | (go_at_call 21; refine hcall.mono ?_; rintro e y8 ⟨s', rfl, H8⟩; have K8 : Hid (Ct y1 va (.slice none 0 0) O [] [] y8) := K.out.below H8.out.2; have es := H8.out.1 _ rfl; subst es; clear H8)
              | ((with_reducible refine gen_world (y8.alloc (.cells (spC ⟨0, zA⟩) 43)) (Ct y1 va (.slice none 0 0) O [] [(y8.heap.size, spC ⟨0, zA⟩, 43)]) ?_ ?_); exact K8.out.new _ _; intro y9 K9)
              | ((with_reducible refine at_st rtS y8.heap.size (spC ⟨0, zA⟩) (spC ⟨c, sa⟩) ?_ ?_ ?_ ?_ (.tmp 11) (.tmp 41) ?_ ?_ ?_ ?_ ?_); exact K9.out.fm.bx 0 _ _ _ rfl; rfl; rfl; exact spC_one _; rfl; rfl; rfl; rfl; intro y10 hw10; have K10 : Hid (Ct y1 va (.slice none 0 0) O [] [(y8.heap.size, spC ⟨c, sa⟩, 43)] y10) := K9.out.put 0 _ _ _ _ rfl hw10.out; have d10 := (K10.out.fm.bx 0 _ _ _ rfl).c 0 _ (spC_c ⟨c, sa⟩); dsimp only at d10)
              | ((with_reducible refine at_load rtS y8.heap.size (spC ⟨c, sa⟩) ?_ ?_ (.tmp 11) ?_ ?_ ?_ ?_); exact K10.out.fm.bx 0 _ _ _ rfl; rfl; kernel_rfl; rfl; rfl)
              | ((with_reducible refine at_bsS ⟨c, sa⟩ (.tmp 56) ?_ ?_ ?_ ?_); rfl; rfl; rfl)
              | (at_builtin; refine at_app rfl (.tmp 55) (.tmp 57) rfl y1.heap.size va O rfl (K10.out.oa.alloc _) y10.heap.size ⟨c, sa⟩ rfl (one_bx _ _ _) ?_ ?_ ?_; (have := hOl.out; omega); (have := K10.out.fm.low.size; simp; omega); intro va' y12 H12; have K12 : Hid (Ct y1 va' (.slice none 0 0) (O ++ [⟨c, sa⟩]) [] [] y12) := (K10.out.appA H12.out).pre (bs := []); clear H12))
            go_roundw
            case rel => exact ⟨i + 1, m + c, _, _, _, rfl, rfl, rfl, by simp, ⟨by have := hlt'.out; omega, by omega, mc, by have := J.out.2.2.2.1; simp; omega, J3.out⟩, K12⟩
            case measure => have := hlt'.out; simp [intOf]; omega
      · have hin : i = n := by have := J.out.1; omega
        subst hin
        have J2 : Hid (PG = (O, 0, 0)) := by
          have h1 := J.out.2.2.2.2
          rw [List.drop_eq_nil_of_le (by rw [hn'.out]; exact Nat.le_refl _)] at h1
          show PG = _
          rw [← h1]
          rfl
        have fin : Hid (PS = ([], 71, (i : Int) + 1)) := by
          show PS = _
          rw [hM.out, if_neg (by have := hbig.out; omega), if_neg (by rw [J2.out]; simp), if_true]
          simp
        clear hlt
        go_wp2
        go_ret3
        rw [fin.out]
        exact ⟨_, rfl, (C1.out.below K.out.fm.low).base low1.out.1⟩
end Go.Proofs.YthpahpfnpapoiabDoor
