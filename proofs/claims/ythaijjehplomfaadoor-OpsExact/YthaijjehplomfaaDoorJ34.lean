/- What a program of orders' lines is: the mathematics of OpsProgram. The document's own: Parse. The document's own: a line as an item: a label. -/
import Derived.Test.YthaijjehplomfaaDoorJ31
import Derived.Test.YthaijjehplomfaaDoorJ33
namespace Go.Proofs.YthaijjehplomfaaDoor
open Go Go.RowKit
set_option linter.unusedVariables false
set_option maxHeartbeats 1000000
set_option maxRecDepth 20000

theorem hexC_no (x : Int) (h0 : 0 ≤ x) (h1 : x < 16) : UInt8.ofNat (hexC x).toNat ≠ 32 ∧ UInt8.ofNat (hexC x).toNat ≠ 59 ∧ UInt8.ofNat (hexC x).toNat ≠ 10 ∧ UInt8.ofNat (hexC x).toNat ≠ 116 := by
  obtain ⟨n, rfl⟩ : ∃ n : Nat, x = n := ⟨x.toNat, by omega⟩
  have hn : n < 16 := by omega
  have key : ∀ m : Fin 16, UInt8.ofNat (hexC (m.val : Int)).toNat ≠ 32 ∧ UInt8.ofNat (hexC (m.val : Int)).toNat ≠ 59 ∧ UInt8.ofNat (hexC (m.val : Int)).toNat ≠ 10 ∧ UInt8.ofNat (hexC (m.val : Int)).toNat ≠ 116 := by decide
  exact key ⟨n, hn⟩
/-- Signs that words of an order have not. -/
def plainC (c : UInt8) : Prop := c ≠ 32 ∧ c ≠ 59 ∧ c ≠ 10 ∧ c ≠ 116
theorem wdK_no (k v : Nat) : ∀ c ∈ wdK k v, plainC c := by
  intro c h
  unfold wdK at h
  rcases List.mem_append.1 h with h | h
  · unfold ledK at h
    split at h
    · simp at h; rw [h]; unfold plainC; decide
    · split at h
      · simp at h; rw [h]; unfold plainC; decide
      · simp at h
  · unfold hexL at h
    obtain ⟨j, _, rfl⟩ := List.mem_map.1 h
    unfold hexAt
    exact hexC_no _ (by omega) (by omega)
theorem wdK_some (k v : Nat) : wdK k v ≠ [] := fun e => by
  have h := congrArg List.length e
  unfold wdK at h
  rw [List.length_append, hexL_len] at h
  have := (digK_bd k).1
  simp at h
  omega
theorem nm_no : ∀ i, i < 31 → ∀ c ∈ nmR i, c ≠ 32 ∧ c ≠ 59 ∧ c ≠ 10 := by decide +kernel
theorem nm_suf : ∀ i, i < 31 → Lib.hasSuffix (nmR i) [58] = false := by decide +kernel
theorem mkB_data (l : List UInt8) : (mkB l).data.toList = l := by simp [mkB]
theorem wdsO_no (o : Od) (fs : List Nat) : ∀ x ∈ wdsO o fs, (∀ c ∈ x, plainC c) ∧ x ≠ [] := by
  intro x hx
  unfold wdsO at hx
  obtain ⟨k, _, rfl⟩ := List.mem_map.1 hx
  exact ⟨wdK_no _ _, wdK_some _ _⟩
end Go.Proofs.YthaijjehplomfaaDoor

namespace Go.Proofs.YthaijjehplomfaaDoor
open Go Go.RowKit
set_option linter.unusedVariables false
set_option maxHeartbeats 1000000
set_option maxRecDepth 20000

theorem words_lin0 : ∀ (ws : List (List UInt8)) (a : List UInt8), wdcs a → a ≠ [] → (∀ x ∈ ws, wdcs x ∧ x ≠ []) → wordsG (linL a ws) [] = a :: ws := by
  intro ws
  induction ws with
  | nil =>
    intro a ha hn _
    show wordsG a [] = _
    have h := wordsG_wd2 a [] [] ha
    rw [List.append_nil] at h
    rw [h, List.nil_append]
    show pushW a = _
    exact pushW_of hn
  | cons x ws ih =>
    intro a ha hn h
    rw [linL_cons, wordsG_wd2 a _ _ ha, List.nil_append]
    conv => lhs; unfold wordsG
    rw [if_neg (by decide), if_pos rfl, pushW_of hn, ih x (h x (by simp)).1 (h x (by simp)).2 fun y hy => h y (by simp [hy])]
    rfl
theorem ord_parts2 {o : Od} {w : Nat} (h : encW o = some w) : ∃ i, i < 31 ∧ (lineB o).data.toList = linL (nmR i) (wdsO o (fsR i)) ∧ rdO (nmR i :: wdsO o (fsR i)) = some o := by
  obtain ⟨i, hi, hr, hop, hf, ho⟩ := enc_row h
  have hwl : (wdsO o (fsR i)).length = (fsR i).length := by unfold wdsO; simp
  refine ⟨i, hi, lineB_data _ i hr hf, ?_⟩
  unfold rdO
  rw [row_first i hi _ hwl]
  dsimp only [List.tail_cons]
  rw [rdF_there i w hi _ ho hf]
  dsimp only
  rw [h]
  rfl
theorem nm_some : ∀ i, i < 31 → nmR i ≠ [] := by decide +kernel
/-- A printed line's words are read as the order. -/
theorem line_words {o : Od} {w : Nat} (h : encW o = some w) : rdO (wordsG (lineB o).data.toList []) = some o := by
  obtain ⟨i, hi, h1, h2⟩ := ord_parts2 h
  rw [h1, words_lin0 _ _ (fun c hc => ⟨(nm_no i hi c hc).1, (nm_no i hi c hc).2.1⟩) (nm_some i hi) fun x hx => ⟨fun c hc => ⟨((wdsO_no o _ x hx).1 c hc).1, ((wdsO_no o _ x hx).1 c hc).2.1⟩, (wdsO_no o _ x hx).2⟩]
  exact h2
theorem rdO_enc {ws : List (List UInt8)} {o : Od} (h : rdO ws = some o) : (encW o).isSome = true := by
  unfold rdO at h
  split at h
  · cases h
  · split at h
    · cases h
    · split at h
      · rename_i he
        injection h with h
        subst h
        exact he
      · cases h
theorem rdO_nil : rdO [] = none := by decide +kernel
theorem bytes_eq {a b : ByteArray} (h : a.data.toList = b.data.toList) : a = b := by
  cases a; cases b
  simp at h
  rw [h]
/-- What the document's Parse answers is what the program's does. -/
theorem parseR (s : ByteArray) : parseO s.data.toList = match rdO (wordsG s.data.toList []) with
    | none => none
    | some o => if lineB o = s then some o else none := by
  rcases hp : parseO s.data.toList with _ | o
  · rcases hr : rdO (wordsG s.data.toList []) with _ | o
    · rfl
    · by_cases hl : lineB o = s
      · obtain ⟨w, hw⟩ := Option.isSome_iff_exists.1 (rdO_enc hr)
        have := parse_line hw
        rw [hl, hp] at this
        cases this
      · show none = if lineB o = s then some o else none
        rw [if_neg hl]
  · obtain ⟨h1, h2⟩ := line_parse hp
    obtain ⟨w, hw⟩ := Option.isSome_iff_exists.1 h1
    have h3 := line_words hw
    have h4 : lineB o = s := bytes_eq h2
    rw [h4] at h3
    rw [h3]
    show some o = if lineB o = s then some o else none
    rw [if_pos h4]
theorem KT.lies {w y : World} {v : Value} {ws : List ByteArray} (h : KT w v ws y) : ∃ g cap, (v = .slice (some ⟨g, 0, none⟩) ws.length cap ∧ LiesL 1 strC y (some ⟨g, 0, none⟩) ws) ∨ (ws = [] ∧ v = .slice none 0 0) := by
  obtain ⟨⟨h1, h2⟩, hb⟩ := h
  rcases h2 with ⟨e, hn⟩ | ⟨g, cap, cur, e, hB, hg, hn, hm, hs, ht⟩
  · exact ⟨0, 0, .inr ⟨List.eq_nil_of_length_eq_zero hn, e⟩⟩
  · refine ⟨g, cap, .inl ⟨e, fun j s hj => ⟨g, 0, rfl, ?_⟩⟩⟩
    have h : (cur.toList.take (ws.length * 1))[j]? = some (.string s) := by rw [ht, List.getElem?_map, hj]; rfl
    rw [List.getElem?_take] at h
    split at h
    · intro k u hk
      cases k with
      | zero =>
        simp [strC] at hk
        subst hk
        show y.cell? ⟨g, 0 + j * 1 + 0, none⟩ = _
        rw [Nat.zero_add, Nat.mul_one, Nat.add_zero]
        exact Bx.c (t := 9) hg j _ (by rw [← Array.getElem?_toList]; exact h)
      | succ k => simp [strC] at hk
    · cases h
theorem rdF_odr : ∀ (fs : List Nat) (ws : List (List UInt8)) (o x : Od), OdR o → rdF fs ws o = some x → OdR x := by
  intro fs
  induction fs with
  | nil => intro ws o x h e; injection e with e; rw [← e]; exact h
  | cons k fs ih =>
    intro ws o x h e
    cases ws with
    | nil => cases e
    | cons a ws =>
      unfold rdF at e
      rcases hr : rdK k a with _ | v
      · rw [hr] at e; cases e
      · rw [hr] at e; exact ih ws _ x (h.put k v (rdK_lt hr)) e
theorem rdO_odr {ws : List (List UInt8)} {o : Od} (h : rdO ws = some o) : OdR o := by
  unfold rdO at h
  split at h
  · cases h
  · rename_i i hi
    split at h
    · cases h
    · rename_i x hx
      split at h
      · injection h with h
        subst h
        exact rdF_odr _ _ _ _ (OdR.zero _ (Nat.lt_of_le_of_lt (op_bnd i (fstI_of hi).1).2 (by decide))) hx
      · cases h
theorem rparse_any (s : ByteArray) (w : World) (hs : s.size ≤ 4294967280) :
    Calls Tryd.prog 13 #[.string s] w fun e w' => e = .returned (.tuple #[.agg (o6 ((parseO s.data.toList).getD od0)), .int .i64 (if (parseO s.data.toList).isSome then 0 else 161)]) ∧ Below w.heap.size w w' := by
  have hB : Hid (Fm w [(w.heap.size, o6 od0, 30)] (w.alloc (.cells #[.int .u8 0, .int .u8 0, .int .u8 0, .int .u8 0, .int .u8 0, .int .u16 0] 30))) := Fm.one w _ _
  rw [parseR]
  obtain ⟨ws, hws⟩ : ∃ ws, wordsA (strL s) = ws := ⟨_, rfl⟩
  have hmap : ws.map (·.data.toList) = wordsG s.data.toList [] := by
    rw [← hws]
    unfold wordsA
    rw [List.map_map]
    conv => rhs; rw [← List.map_id (wordsG s.data.toList [])]
    apply List.map_congr_left
    intro x _
    exact mkB_data x
  have hW := fun z => rwords16_any z s hs
  have hlen : ws.length ≤ s.size := by rw [← hws, ← strL_len]; exact wordsA_len _
  have hsz : Hid (∀ x ∈ ws, x.size ≤ 4294967280) := fun x hx => by
    rw [← hws] at hx
    have := wordsA_sz _ x hx
    rw [strL_len] at this
    omega
  rw [← hmap]
  rcases hnil : ws with _ | ⟨x0, r0⟩
  · have hWn : ∀ z, Calls Tryd.prog 29 #[.string s] z fun e w' => ∃ sp cap, e = .returned (.slice sp 0 cap) ∧ Below z.heap.size z w' := fun z => (hW z).mono fun e w' h => by
      obtain ⟨v, l, he, hk⟩ := h
      have hl : l = ws := (wordsA_of hk.out.2.1).trans hws
      subst hl
      obtain ⟨g, cap, ⟨e1, _⟩ | ⟨_, e1⟩⟩ := hk.out.1.lies
      · exact ⟨_, cap, by rw [he, e1, hnil]; rfl, hk.out.1.2⟩
      · exact ⟨none, 0, by rw [he, e1], hk.out.1.2⟩
    rw [show rdO (([] : List ByteArray).map (·.data.toList)) = none from rdO_nil]
    simp only [Option.getD_none, Option.isSome_none, Bool.false_eq_true, if_false]
    clear hW hmap hws hs hlen hsz hnil
    go_enter Tryd.func13, Tryd.ntmps13
    go_wp2_with (first
      | ((with_reducible refine at_st rtO w.heap.size (o6 od0) #[.int .u8 0, .int .u8 0, .int .u8 0, .int .u8 0, .int .u8 0, .int .u16 0] ?_ ?_ ?_ ?_ (.tmp 2) (.tmp 14) ?_ ?_ ?_ ?_ ?_); exact K2.out.bx 0 _ _ _ rfl; rfl; rfl; simp [Value.oneCell']; rfl; rfl; rfl; rfl; intro y5 hw5; have K5 : Hid (Fm w [(w.heap.size, o6 od0, 30)] y5) := K2.out.put 0 _ _ _ _ rfl hw5.out)
      | (go_at_call 29; refine (hWn _).mono ?_; rintro e y2 ⟨sp, cap, rfl, hb2⟩; have K2 : Hid (Fm w [(w.heap.size, o6 od0, 30)] y2) := K1.out.below hb2)
      | ((with_reducible refine gen_world (w.alloc (.cells #[.int .u8 0, .int .u8 0, .int .u8 0, .int .u8 0, .int .u8 0, .int .u16 0] 30)) (Fm w [(w.heap.size, o6 od0, 30)]) hB.out ?_); intro y1 K1))
    exact ret_two (v := .int .i64 161) rtO rfl rfl rfl (K5.out.bx 0 _ _ _ rfl) rfl rfl ⟨rfl, K5.out.low⟩
  · obtain ⟨m, hm⟩ : ∃ m, Hid (ws.length = m) := ⟨_, (rfl : ws.length = _)⟩
    have hm1 : 1 ≤ m := by rw [← hm.out, hnil]; exact Nat.succ_le_succ (Nat.zero_le _)
    have hmi : (0 : Int) < (m : Int) := by omega
    have hme : ((m : Int) == 0) = false := by simp; omega
    have hWs : ∀ z, Calls Tryd.prog 29 #[.string s] z fun e w' => ∃ g cap, e = .returned (.slice (some ⟨g, 0, none⟩) m cap) ∧ Hid (LiesL 1 strC w' (some ⟨g, 0, none⟩) ws) ∧ Below z.heap.size z w' := fun z => (hW z).mono fun e w' h => by
      obtain ⟨v, l, he, hk⟩ := h
      have hl : l = ws := (wordsA_of hk.out.2.1).trans hws
      subst hl
      obtain ⟨g, cap, ⟨e1, h1⟩ | ⟨e0, _⟩⟩ := hk.out.1.lies
      · exact ⟨g, cap, by rw [he, e1, hm.out], h1, hk.out.1.2⟩
      · rw [hnil] at e0; cases e0
    have hOf := fun z (g cap : Nat) (hL : Hid (LiesL 1 strC z (some ⟨g, 0, none⟩) ws)) => ofwords_any z g 0 cap m ws hm hm1 (by have := hm.out; omega) hL hsz
    rw [← hnil]
    have hrR : ∀ o, rdO (ws.map (·.data.toList)) = some o → OdR o := fun o h => rdO_odr h
    have hrE : ∀ o, rdO (ws.map (·.data.toList)) = some o → (encW o).isSome = true := fun o h => rdO_enc h
    generalize rdO (ws.map (·.data.toList)) = r at hOf hrR hrE ⊢
    obtain ⟨X, hX⟩ : ∃ X, r.getD od0 = X := ⟨_, rfl⟩
    unfold ofE at hOf
    rw [hX] at hOf
    obtain ⟨PE, hPE⟩ : ∃ PE : Int, (if (encW X).isSome then (0 : Int) else 160) = PE := ⟨_, rfl⟩
    obtain ⟨PS, hPS⟩ : ∃ PS : ByteArray, (if (encW X).isSome then lineB X else ⟨#[]⟩) = PS := ⟨_, rfl⟩
    have hXr : OdR X := by
      rw [← hX]
      rcases hr : r with _ | o
      · exact OdR.zero 0 (by decide)
      · exact hrR o hr
    have hPr := fun z => rprint_any z X hXr
    rw [hPE, hPS] at hPr
    rcases r with _ | o
    · simp only [Option.getD_none, Option.isSome_none, Bool.false_eq_true, if_false] at hOf hX ⊢
      obtain ⟨qb, hq⟩ : ∃ b, (PS.toList != s.toList) = b := ⟨_, rfl⟩
      clear hW hmap hws hs hlen hsz hnil hPE hPS hX hXr hrR hm hm1
      go_enter Tryd.func13, Tryd.ntmps13
      go_wp2_with (first
        | ((with_reducible refine at_st rtO w.heap.size (o6 od0) #[.int .u8 0, .int .u8 0, .int .u8 0, .int .u8 0, .int .u8 0, .int .u16 0] ?_ ?_ ?_ ?_ (.tmp 2) (.tmp 32) ?_ ?_ ?_ ?_ ?_); exact K6.out.bx 0 _ _ _ rfl; rfl; rfl; simp [Value.oneCell']; rfl; rfl; rfl; rfl; intro y7 hw7; have K7 : Hid (Fm w [(w.heap.size, #[.int .u8 0, .int .u8 0, .int .u8 0, .int .u8 0, .int .u8 0, .int .u16 0], 30), (y3.heap.size, o6 X, 30)] y7) := K6.out.put 0 _ _ _ _ rfl hw7.out)
        | ((with_reducible refine at_st rtO y3.heap.size (o6 od0) (o6 X) ?_ ?_ ?_ ?_ (.tmp 5) (.tmp 18) ?_ ?_ ?_ ?_ ?_); exact K4.out.bx 1 _ _ _ rfl; rfl; rfl; exact o6_one _; rfl; rfl; rfl; rfl; intro y5 hw5; have K5 : Hid (Fm w [(w.heap.size, o6 od0, 30), (y3.heap.size, o6 X, 30)] y5) := K4.out.put 1 _ _ _ _ rfl hw5.out)
        | ((with_reducible refine at_load rtO y3.heap.size (o6 X) ?_ ?_ (.tmp 5) ?_ ?_ ?_ ?_); exact K5.out.bx 1 _ _ _ rfl; rfl; kernel_rfl; rfl; rfl)
        | ((with_reducible refine at_load rtO y3.heap.size (o6 X) ?_ ?_ (.tmp 5) ?_ ?_ ?_ ?_); exact K6.out.bx 1 _ _ _ rfl; rfl; kernel_rfl; rfl; rfl)
        | ((with_reducible refine gen_world (y3.alloc (.cells #[.int .u8 0, .int .u8 0, .int .u8 0, .int .u8 0, .int .u8 0, .int .u16 0] 30)) (Fm w [(w.heap.size, o6 od0, 30), (y3.heap.size, o6 od0, 30)]) ?_ ?_); exact K3.out.new _ _; intro y4 K4)
        | (go_at_call 11; refine (hPr _).mono ?_; rintro e y6 ⟨rfl, hb6⟩; have K6 : Hid (Fm w [(w.heap.size, o6 od0, 30), (y3.heap.size, o6 X, 30)] y6) := K5.out.below hb6; clear hb6)
        | (go_at_call 30; refine (hOf _ _ _ hL).mono ?_; rintro e y3 ⟨rfl, hb3⟩; have K3 : Hid (Fm w [(w.heap.size, o6 od0, 30)] y3) := K2.out.below hb3; clear hb3)
        | (go_at_call 29; refine (hWs _).mono ?_; rintro e y2 ⟨g, cap, rfl, hL, hb2⟩; have K2 : Hid (Fm w [(w.heap.size, o6 od0, 30)] y2) := K1.out.below hb2; clear hb2)
        | ((with_reducible refine gen_world (w.alloc (.cells #[.int .u8 0, .int .u8 0, .int .u8 0, .int .u8 0, .int .u8 0, .int .u16 0] 30)) (Fm w [(w.heap.size, o6 od0, 30)]) hB.out ?_); intro y1 K1))
      exact ret_two (v := .int .i64 161) rtO rfl rfl rfl (K7.out.bx 0 _ _ _ rfl) rfl rfl ⟨rfl, K7.out.low⟩
    · have he := hrE o rfl
      have hX' : X = o := hX.symm
      subst hX'
      rw [if_pos he] at hPS
      simp only [Option.isSome_some] at hOf
      by_cases hl : lineB X = s
      · have hq : (PS.toList != s.toList) = false := by rw [← hPS, hl]; simp
        have hq2 : (PS.toList == s.toList) = true := by simpa [bne] using hq
        simp only [if_pos hl, Option.getD_some, Option.isSome_some, if_true]
        clear hW hmap hws hs hlen hsz hnil hPE hPS hX hXr hrR hm hm1 hrE he hl
        go_enter Tryd.func13, Tryd.ntmps13
        go_wp2_with (first
          | ((with_reducible refine at_st rtO w.heap.size (o6 od0) (o6 X) ?_ ?_ ?_ ?_ (.tmp 2) (.tmp 33) ?_ ?_ ?_ ?_ ?_); exact K6.out.bx 0 _ _ _ rfl; rfl; rfl; exact o6_one _; rfl; rfl; rfl; rfl; intro y7 hw7; have K7 : Hid (Fm w [(w.heap.size, (o6 X), 30), (y3.heap.size, o6 X, 30)] y7) := K6.out.put 0 _ _ _ _ rfl hw7.out)
          | ((with_reducible refine at_st rtO y3.heap.size (o6 od0) (o6 X) ?_ ?_ ?_ ?_ (.tmp 5) (.tmp 18) ?_ ?_ ?_ ?_ ?_); exact K4.out.bx 1 _ _ _ rfl; rfl; rfl; exact o6_one _; rfl; rfl; rfl; rfl; intro y5 hw5; have K5 : Hid (Fm w [(w.heap.size, o6 od0, 30), (y3.heap.size, o6 X, 30)] y5) := K4.out.put 1 _ _ _ _ rfl hw5.out)
          | ((with_reducible refine at_load rtO y3.heap.size (o6 X) ?_ ?_ (.tmp 5) ?_ ?_ ?_ ?_); exact K5.out.bx 1 _ _ _ rfl; rfl; kernel_rfl; rfl; rfl)
          | ((with_reducible refine at_load rtO y3.heap.size (o6 X) ?_ ?_ (.tmp 5) ?_ ?_ ?_ ?_); exact K6.out.bx 1 _ _ _ rfl; rfl; kernel_rfl; rfl; rfl)
          | ((with_reducible refine gen_world (y3.alloc (.cells #[.int .u8 0, .int .u8 0, .int .u8 0, .int .u8 0, .int .u8 0, .int .u16 0] 30)) (Fm w [(w.heap.size, o6 od0, 30), (y3.heap.size, o6 od0, 30)]) ?_ ?_); exact K3.out.new _ _; intro y4 K4)
          | (go_at_call 11; refine (hPr _).mono ?_; rintro e y6 ⟨rfl, hb6⟩; have K6 : Hid (Fm w [(w.heap.size, o6 od0, 30), (y3.heap.size, o6 X, 30)] y6) := K5.out.below hb6; clear hb6)
          | (go_at_call 30; refine (hOf _ _ _ hL).mono ?_; rintro e y3 ⟨rfl, hb3⟩; have K3 : Hid (Fm w [(w.heap.size, o6 od0, 30)] y3) := K2.out.below hb3; clear hb3)
          | (go_at_call 29; refine (hWs _).mono ?_; rintro e y2 ⟨g, cap, rfl, hL, hb2⟩; have K2 : Hid (Fm w [(w.heap.size, o6 od0, 30)] y2) := K1.out.below hb2; clear hb2)
          | ((with_reducible refine gen_world (w.alloc (.cells #[.int .u8 0, .int .u8 0, .int .u8 0, .int .u8 0, .int .u8 0, .int .u16 0] 30)) (Fm w [(w.heap.size, o6 od0, 30)]) hB.out ?_); intro y1 K1))
        exact ret_two (v := .int .i64 0) rtO rfl rfl rfl (K7.out.bx 0 _ _ _ rfl) rfl rfl ⟨rfl, K7.out.low⟩
      · have hq : (PS.toList != s.toList) = true := by
          rw [← hPS, bne_iff_ne]
          intro h
          rw [toList_eq, toList_eq] at h
          exact hl (bytes_eq h)
        have hq2 : (PS.toList == s.toList) = false := by simpa [bne] using hq
        simp only [if_neg hl, Option.getD_none, Option.isSome_none, Bool.false_eq_true, if_false]
        clear hW hmap hws hs hlen hsz hnil hPE hPS hX hXr hrR hm hm1 hrE he hl
        go_enter Tryd.func13, Tryd.ntmps13
        go_wp2_with (first
          | ((with_reducible refine at_st rtO w.heap.size (o6 od0) #[.int .u8 0, .int .u8 0, .int .u8 0, .int .u8 0, .int .u8 0, .int .u16 0] ?_ ?_ ?_ ?_ (.tmp 2) (.tmp 32) ?_ ?_ ?_ ?_ ?_); exact K6.out.bx 0 _ _ _ rfl; rfl; rfl; simp [Value.oneCell']; rfl; rfl; rfl; rfl; intro y7 hw7; have K7 : Hid (Fm w [(w.heap.size, #[.int .u8 0, .int .u8 0, .int .u8 0, .int .u8 0, .int .u8 0, .int .u16 0], 30), (y3.heap.size, o6 X, 30)] y7) := K6.out.put 0 _ _ _ _ rfl hw7.out)
          | ((with_reducible refine at_st rtO y3.heap.size (o6 od0) (o6 X) ?_ ?_ ?_ ?_ (.tmp 5) (.tmp 18) ?_ ?_ ?_ ?_ ?_); exact K4.out.bx 1 _ _ _ rfl; rfl; rfl; exact o6_one _; rfl; rfl; rfl; rfl; intro y5 hw5; have K5 : Hid (Fm w [(w.heap.size, o6 od0, 30), (y3.heap.size, o6 X, 30)] y5) := K4.out.put 1 _ _ _ _ rfl hw5.out)
          | ((with_reducible refine at_load rtO y3.heap.size (o6 X) ?_ ?_ (.tmp 5) ?_ ?_ ?_ ?_); exact K5.out.bx 1 _ _ _ rfl; rfl; kernel_rfl; rfl; rfl)
          | ((with_reducible refine at_load rtO y3.heap.size (o6 X) ?_ ?_ (.tmp 5) ?_ ?_ ?_ ?_); exact K6.out.bx 1 _ _ _ rfl; rfl; kernel_rfl; rfl; rfl)
          | ((with_reducible refine gen_world (y3.alloc (.cells #[.int .u8 0, .int .u8 0, .int .u8 0, .int .u8 0, .int .u8 0, .int .u16 0] 30)) (Fm w [(w.heap.size, o6 od0, 30), (y3.heap.size, o6 od0, 30)]) ?_ ?_); exact K3.out.new _ _; intro y4 K4)
          | (go_at_call 11; refine (hPr _).mono ?_; rintro e y6 ⟨rfl, hb6⟩; have K6 : Hid (Fm w [(w.heap.size, o6 od0, 30), (y3.heap.size, o6 X, 30)] y6) := K5.out.below hb6; clear hb6)
          | (go_at_call 30; refine (hOf _ _ _ hL).mono ?_; rintro e y3 ⟨rfl, hb3⟩; have K3 : Hid (Fm w [(w.heap.size, o6 od0, 30)] y3) := K2.out.below hb3; clear hb3)
          | (go_at_call 29; refine (hWs _).mono ?_; rintro e y2 ⟨g, cap, rfl, hL, hb2⟩; have K2 : Hid (Fm w [(w.heap.size, o6 od0, 30)] y2) := K1.out.below hb2; clear hb2)
          | ((with_reducible refine gen_world (w.alloc (.cells #[.int .u8 0, .int .u8 0, .int .u8 0, .int .u8 0, .int .u8 0, .int .u16 0] 30)) (Fm w [(w.heap.size, o6 od0, 30)]) hB.out ?_); intro y1 K1))
        exact ret_two (v := .int .i64 161) rtO rfl rfl rfl (K7.out.bx 0 _ _ _ rfl) rfl rfl ⟨rfl, K7.out.low⟩
end Go.Proofs.YthaijjehplomfaaDoor

namespace Go.Proofs.YthaijjehplomfaaDoor
open Go Go.RowKit
set_option linter.unusedVariables false
set_option maxHeartbeats 1000000
set_option maxRecDepth 20000

theorem rtI : Rt Tryd.prog 111 4 := ⟨⟨_, Tryd.underlying111, rfl⟩, by kernel_rfl⟩
/-- An item's cells. -/
def it4 (v : Value) (l a : ByteArray) (op : Nat) : Array Value := #[v, .string l, .string a, .int .u8 (op : Int)]
theorem it4_one (sp : Option Addr) (n c : Nat) (l a : ByteArray) (op : Nat) : (it4 (.slice sp n c) l a op).all (·.oneCell') = true := by simp [it4, Value.oneCell']
abbrev it0 : Array Value := #[.slice none 0 0, .string ⟨#[]⟩, .string ⟨#[]⟩, .int .u8 0]
theorem last_at (s : ByteArray) (n : Nat) (hn : s.size = n + 1) (z : World) : (Instr.index 9 (.string s) (.int .i64 (n : Int))).run Tryd.prog z = .ok (.int .u8 ((s[n]'(by omega)).toNat : Int)) z := by
  rw [run_index_string z _ _ _ _ Tryd.underlying9, dif_pos ⟨by omega, by omega⟩]
  have e1 : s[((n : Int)).toNat]'(by omega) = s[n]'(by omega) := by simp
  rw [e1]
theorem item_lab (w : World) (gs os cap : Nat) (s0 : ByteArray) (n : Nat) (hn : s0.size = n + 1) (hs : s0.size ≤ 4294967280) (hL : Hid (∀ z, Below w.heap.size w z → z.cell? ⟨gs, os, none⟩ = some (.string s0))) (hl : s0[n]'(by omega) = 58) :
    Calls Tryd.prog 53 #[.slice (some ⟨gs, os, none⟩) 1 cap] w fun e w' => e = .returned (.tuple #[.agg (it4 (.slice none 0 0) (s0.extract 0 n) ⟨#[]⟩ 0), .bool (isNm (s0.extract 0 n))]) ∧ Below w.heap.size w w' := by
  have hF : Hid (Fm w [(w.heap.size, it0, 111)] (w.alloc (.cells it0 111))) := Fm.one w _ _
  have ix0 : ∀ z, (Instr.indexAt 70 (.slice (some ⟨gs, os, none⟩) 1 cap) (.int .i64 0)).run Tryd.prog z = .ok (.pointer (some ⟨gs, os, none⟩)) z := fun z => by
    have h := idxW (g := gs) (off := os) (len := 1) (cap := cap) 0 z (by decide)
    rw [Nat.add_zero] at h
    exact h
  have wn : IntKind.i64.wrap ((s0.size : Int) - 1) = (n : Int) := by rw [IntKind.wrap_i64]; omega
  have hix := last_at s0 n hn
  rw [hl] at hix
  have hns : (n : Int) ≤ s0.size := by omega
  have hn0 : (0 : Int) ≤ n := by omega
  have hN := fun z => risn_any (s0.extract 0 n) z
  obtain ⟨X, hX⟩ : ∃ X, s0.extract 0 n = X := ⟨_, rfl⟩
  obtain ⟨bb, hbb⟩ : ∃ bb, isNm X = bb := ⟨_, rfl⟩
  clear hl hs hn
  rw [hX] at hN
  rw [hX, hbb]
  rw [hbb] at hN
  clear hbb
  go_enter Tryd.func53, Tryd.ntmps53
  go_wp2_with (first
    | ((with_reducible refine at_st rtI w.heap.size it0 (it4 (.slice none 0 0) X ⟨#[]⟩ 0) ?_ ?_ ?_ ?_ (.tmp 2) (.tmp 43) ?_ ?_ ?_ ?_ ?_); exact K1.out.bx 0 _ _ _ rfl; rfl; rfl; exact it4_one _ _ _ _ _ _; rfl; rfl; rfl; rfl; intro y5 hw5; have K5 : Hid (Fm w [(w.heap.size, it4 (.slice none 0 0) X ⟨#[]⟩ 0, 111)] y5) := K1.out.put 0 _ _ _ _ rfl hw5.out)
    | (go_at_call 75; refine (hN _).mono ?_; rintro e z ⟨rfl, hz⟩; replace hz := hz.symm; subst hz)
    | ((with_reducible refine gen_world (w.alloc (.cells it0 111)) (Fm w [(w.heap.size, it0, 111)]) hF.out ?_); intro y1 K1; have cS := hL.out y1 K1.out.low))
  exact ret_two rtI rfl rfl rfl (K5.out.bx 0 _ _ _ rfl) rfl rfl ⟨rfl, K5.out.low⟩
end Go.Proofs.YthaijjehplomfaaDoor
