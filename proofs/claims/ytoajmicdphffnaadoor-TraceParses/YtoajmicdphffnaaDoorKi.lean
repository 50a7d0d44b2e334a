/- A text read as a trace, by the document. -/
import Derived.Test.YtoajmicdphffnaaDoorKh
import Derived.Test.YtoajmicdphffnaaDoorKk
namespace Go.Proofs.YtoajmicdphffnaaDoor
open Go Go.RowKit
set_option linter.unusedVariables false
set_option maxHeartbeats 2000000
set_option maxRecDepth 20000

theorem rparse_any (w : World) (text : ByteArray) (hs : text.size ≤ 9223372036854775807) :
    Calls Tryd.prog 15 #[.string text] w fun e w' => ∃ v, e = .returned (.tuple #[v, .int .i64 (parseR (strL text)).2.1, .int .i64 (parseR (strL text)).2.2]) ∧ Hid (Ct w v (.slice none 0 0) (parseR (strL text)).1 [] [] w') := by
  have si : (text.size : Int) ≤ 9223372036854775807 := by omega
  have C0 : Hid (Ct w (.slice none 0 0) (.slice none 0 0) [] [] [] w) := Ct.nil w
  by_cases hbig : 65536 < text.size
  · have e : parseR (strL text) = ([], 2, 0) := by unfold parseR; rw [if_pos (by rw [strL_len]; exact hbig)]
    rw [e]
    have q : decide ((65536 : Int) < text.size) = true := by simp; omega
    clear hbig e hs
    go_enter Tryd.func15, Tryd.ntmps15
    go_wp2
    go_ret3
    exact ⟨_, rfl, C0⟩
  have q : decide ((65536 : Int) < text.size) = false := by simp; omega
  have hL := fun v => rlines_any v text (by omega)
  obtain ⟨PS, hPS⟩ : ∃ x, parseR (strL text) = x := ⟨_, rfl⟩
  have hPS' : Hid (PS = if (parseGo (linesL (strL text)).1 0 []).2.1 ≠ 0 then parseGo (linesL (strL text)).1 0 [] else if (linesL (strL text)).2 = [] then parseGo (linesL (strL text)).1 0 [] else ([], 90, ((linesL (strL text)).1.length : Int) + 1)) := by
    show _ = _
    rw [← hPS]
    unfold parseR
    rw [if_neg (by rw [strL_len]; omega)]
  rw [hPS]
  have hsz : Hid (text.size ≤ 65536) := by show text.size ≤ 65536; omega
  clear hPS hbig hs
  go_enter Tryd.func15, Tryd.ntmps15
  go_wp2_with (go_at_call 39; refine (hL w).mono ?_; rintro e y1 ⟨v, ls, rest, rfl, H1⟩; obtain ⟨sp, cap, rfl, hlt1⟩ := H1.out.1.open; have hls : Hid (linesL (strL text) = (ls.map strL, strL rest)) := H1.out.2.1; have low1 : Hid (Below w.heap.size w y1 ∧ LiesT y1 sp ls) := ⟨H1.out.1.2, hlt1⟩; clear H1 hlt1; refine stopAt ?_)
  refine Stop.go ?_
  have hcnt : Hid (ls.length ≤ 65537 ∧ ∀ s ∈ ls, s.size ≤ 65536) := by
    have h1 := lines_un (strL text)
    rw [hls.out] at h1
    have h2 := congrArg List.length h1
    rw [List.length_append, strL_len, strL_len] at h2
    have k1 := un_len (ls.map strL)
    have h3 := hsz.out
    dsimp only at h2
    refine ⟨by have := k1.1; rw [List.length_map] at this; omega, fun s hs => ?_⟩
    have := k1.2 (strL s) (List.mem_map_of_mem hs)
    rw [strL_len] at this
    omega
  obtain ⟨n, hn⟩ : ∃ n, ls.length = n := ⟨_, rfl⟩
  have hn' : Hid (ls.length = n) := hn
  have ni : (n : Int) ≤ 65537 := by have := hcnt.out.1; omega
  rw [hn]
  obtain ⟨rb, hrb⟩ : ∃ rb, (!rest.toList.isEmpty) = rb := ⟨_, rfl⟩
  have hrb' : Hid ((strL rest = []) ↔ rb = false) := by
    show _ ↔ _
    rw [← hrb, toL]
    cases strL rest <;> simp
  obtain ⟨PG, hPG⟩ : ∃ x, parseGo (ls.map strL) 0 [] = x := ⟨_, rfl⟩
  have hPG' : Hid (parseGo (ls.map strL) 0 [] = PG) := hPG
  have hPS2 : Hid (PS = if PG.2.1 ≠ 0 then PG else if rb then ([], 90, (n : Int) + 1) else PG) := by
    have h1 := hPS'.out
    rw [hls.out] at h1
    dsimp only at h1
    rw [hPG, List.length_map, hn'.out] at h1
    show PS = _
    rw [h1]
    have h2 := hrb'.out
    cases rb
    · have h3 := h2.2 rfl
      simp [h3]
    · have h3 : ¬ strL rest = [] := fun e => Bool.noConfusion (h2.1 e)
      simp [h3]
  have zz := zeroV_R
  have hSp : Hid (∀ (y : World) (x : ByteArray), x.size ≤ 65536 → Calls Tryd.prog 40 #[.string x] y fun e w' => ∃ s', e = .returned (.tuple #[.agg (rcC s'), .bool (recOf (strL x)).isSome]) ∧ Hid ((∀ t, recOf (strL x) = some t → s' = t) ∧ Below y.heap.size y w')) := fun y x hx => rrecord_any y x (by omega)
  have C1 : Hid (Ct y1 (.slice none 0 0) (.slice none 0 0) [] [] [] y1) := Ct.nil y1
  clear hn hPG hrb
  go_wp2
  go_loopw [7, 8] (fun o t wz => ∃ (i : Nat) (va : Value) (O : List Rc) (y : World), y = wz ∧ va = o ∧ t = .int .i64 (i : Int) ∧ Hid (i ≤ n ∧ O.length ≤ i ∧ parseGo ((ls.drop i).map strL) i O = PG) ∧ Hid (Ct y1 va (.slice none 0 0) O [] [] y)) (fun _ t _ => (n - intOf t).toNat)
  case atStart => exact ⟨0, _, [], _, rfl, rfl, rfl, ⟨Nat.zero_le _, Nat.le_refl _, hPG'.out⟩, C1⟩
  case round =>
    obtain ⟨i, va, O, y, rfl, rfl, rfl, J, K⟩ := hrel
    by_cases hlt : i < n
    · obtain ⟨x, hx⟩ : ∃ x, ls[i]? = some x := ⟨_, List.getElem?_eq_getElem (by rw [hn'.out]; exact hlt)⟩
      obtain ⟨g, hsp, hcx⟩ := low1.out.2.below K.out.fm.low i x hx
      subst hsp
      have hdk : Hid (ls.drop i = x :: ls.drop (i + 1)) := drop_one hx
      have ik := idxT g n cap i hlt
      have hki : (i : Int) < n := by omega
      have hlt' : Hid (i < n) := hlt
      have hcall := hSp.out y x (hcnt.out.2 x (List.mem_of_getElem? hx))
      have hOl : Hid (O.length ≤ 65537) := by have := J.out.2.1; have := J.out.1; have := hcnt.out.1; have := hn'.out; show _ ≤ _; omega
      clear hlt
      cases hso : recOf (strL x) with
      | none =>
        rw [hso] at hcall
        have fin : Hid (PS = ([], 90, (i : Int) + 1)) := by
          have h1 := J.out.2.2
          rw [hdk.out] at h1
          simp only [List.map_cons, parseGo, hso] at h1
          show PS = _
          rw [hPS2.out, ← h1, if_pos (by simp)]
        clear hso
        simp only [Option.isSome_none] at hcall
        go_wp2_with (first
            | (go_at_call 40; refine hcall.mono ?_; rintro e y8 ⟨s', rfl, H8⟩; have K8 : Hid (Ct y1 va (.slice none 0 0) O [] [] y8) := K.out.below H8.out.2; clear H8)
            | ((with_reducible refine gen_world (y8.alloc (.cells (rcC zR) 45)) (Ct y1 va (.slice none 0 0) O [] [(y8.heap.size, rcC zR, 45)]) ?_ ?_); exact K8.out.new _ _; intro y9 K9)
            | ((with_reducible refine at_st rtR y8.heap.size (rcC zR) (rcC s') ?_ ?_ ?_ ?_ (.tmp 9) (.tmp 31) ?_ ?_ ?_ ?_ ?_); exact K9.out.fm.bx 0 _ _ _ rfl; rfl; rfl; exact rcC_one _; rfl; rfl; rfl; rfl; intro y10 hw10; have K10 : Hid (Ct y1 va (.slice none 0 0) O [] [(y8.heap.size, rcC s', 45)] y10) := K9.out.put 0 _ _ _ _ rfl hw10.out))
        go_ret3
        rw [fin.out]
        exact ⟨_, rfl, (C1.out.below K10.out.fm.low).base low1.out.1⟩
      | some s =>
        rw [hso] at hcall
        simp only [Option.isSome_some] at hcall
        have J3 : Hid (parseGo ((ls.drop (i + 1)).map strL) (i + 1) (O ++ [s]) = PG) := by
          have h1 := J.out.2.2
          rw [hdk.out] at h1
          simp only [List.map_cons, parseGo, hso] at h1
          exact h1
        clear hso
        go_wp2_with (first
            | (go_at_call 40; refine hcall.mono ?_; rintro e y8 ⟨s', rfl, H8⟩; have K8 : Hid (Ct y1 va (.slice none 0 0) O [] [] y8) := K.out.below H8.out.2; have es := H8.out.1 _ rfl; subst es; clear H8)
            | ((with_reducible refine gen_world (y8.alloc (.cells (rcC zR) 45)) (Ct y1 va (.slice none 0 0) O [] [(y8.heap.size, rcC zR, 45)]) ?_ ?_); exact K8.out.new _ _; intro y9 K9)
            | ((with_reducible refine at_st rtR y8.heap.size (rcC zR) (rcC s') ?_ ?_ ?_ ?_ (.tmp 9) (.tmp 31) ?_ ?_ ?_ ?_ ?_); exact K9.out.fm.bx 0 _ _ _ rfl; rfl; rfl; exact rcC_one _; rfl; rfl; rfl; rfl; intro y10 hw10; have K10 : Hid (Ct y1 va (.slice none 0 0) O [] [(y8.heap.size, rcC s', 45)] y10) := K9.out.put 0 _ _ _ _ rfl hw10.out)
            | ((with_reducible refine at_load rtR y8.heap.size (rcC s') ?_ ?_ (.tmp 9) ?_ ?_ ?_ ?_); exact K10.out.fm.bx 0 _ _ _ rfl; rfl; kernel_rfl; rfl; rfl)
            | ((with_reducible refine at_bsR s' (.tmp 38) ?_ ?_ ?_ ?_); rfl; rfl; rfl)
            | (at_builtin; refine at_app rfl (.tmp 37) (.tmp 39) rfl y1.heap.size va O rfl (K10.out.oa.alloc _) y10.heap.size s' rfl (one_bx _ _ _) ?_ ?_ ?_; (have := hOl.out; omega); (have := K10.out.fm.low.size; simp; omega); intro va' y12 H12; have K12 : Hid (Ct y1 va' (.slice none 0 0) (O ++ [s']) [] [] y12) := (K10.out.appA H12.out).pre (bs := []); clear H12))
        go_roundw
        case rel => exact ⟨i + 1, _, _, _, rfl, rfl, by simp, ⟨by have := hlt'.out; omega, by have := J.out.2.1; simp; omega, J3.out⟩, K12⟩
        case measure => have := hlt'.out; simp [intOf]; omega
    · have hin : i = n := by have := J.out.1; omega
      subst hin
      have J2 : Hid (PG = (O, 0, 0)) := by
        have h1 := J.out.2.2
        rw [List.drop_eq_nil_of_le (by rw [hn'.out]; exact Nat.le_refl _)] at h1
        show PG = _
        rw [← h1]
        rfl
      clear hlt
      cases rb
      · have hre : Hid (rest.toList = []) := by show _ = _; rw [toL]; exact hrb'.out.2 rfl
        have qr : (rest.toList != []) = false := by rw [hre.out]; rfl
        have qr2 : rest.toList.isEmpty = true := by rw [hre.out]; rfl
        have fin : Hid (PS = (O, 0, 0)) := by show PS = _; rw [hPS2.out, J2.out]; simp
        go_wp2
        go_ret3
        rw [fin.out]
        exact ⟨_, rfl, K.out.base low1.out.1⟩
      · have hre : Hid (rest.toList ≠ []) := by show _ ≠ _; rw [toL]; exact fun e => Bool.noConfusion (hrb'.out.1 e)
        have qr2 : rest.toList.isEmpty = false := by have := hre.out; cases h : rest.toList with | nil => exact absurd h this | cons a b => rfl
        have fin : Hid (PS = ([], 90, (i : Int) + 1)) := by show PS = _; rw [hPS2.out, J2.out]; simp
        go_wp2
        go_ret3
        rw [fin.out]
        exact ⟨_, rfl, (C1.out.below K.out.fm.low).base low1.out.1⟩
end Go.Proofs.YtoajmicdphffnaaDoor
