/- The words that stand where a field is true, and the modes': the program's. -/
import Derived.Test.YtoajmicdphffnaaDoorHc
import Derived.Test.YtoajmicdphffnaaDoorGl
import Derived.Deep.RegionHeld
namespace Go.Proofs.YtoajmicdphffnaaDoor
open Go Go.RowKit
set_option linter.unusedVariables false
set_option maxHeartbeats 2000000
set_option maxRecDepth 20000

theorem Bx.diff {w : World} {b c t u : Nat} {cs ds : Array Value} (h : Bx w b cs t) (k : Bx w c ds u) (ht : t ≠ u) : b ≠ c := fun e => by
  subst e
  unfold Bx at h k
  rw [h] at k
  injection k with k
  injection k with _ k2 _
  exact ht k2
theorem str_eq (x : ByteArray) (l : List UInt8) : (x.toList == l) = decide (strL x = l) := by
  rw [toL, Bool.eq_iff_iff]
  simp
theorem take3 (w : World) (b : Nat) (r : Rc) (x : ByteArray) (pf ps : Nat) (hf : Hid (Bx w pf #[.func (.func 60) #[] #[]] 89)) (hs : Hid (Bx w ps #[.string ⟨#[114]⟩] 9)) (hb : Hid (Bx w b (rcC r) 45)) :
    Calls Tryd.prog 82 #[.pointer (some ⟨b, 0, none⟩), .string x, .pointer (some ⟨ps, 0, none⟩), .pointer (some ⟨pf, 0, none⟩)] w fun e w' => e = .returned (.bool (tkB 3 (strL x))) ∧ Hid (Tk w b (tkR 3 (strL x) r) w') := by
  have n1 : Hid (pf ≠ b) := Bx.diff hf.out hb.out (by decide)
  have n2 : Hid (ps ≠ b) := Bx.diff hs.out hb.out (by decide)
  unfold tkB tkR
  try dsimp only
  have hq : (x.toList == [114]) = decide (strL x = wR) := str_eq x [114]
  obtain ⟨B, hB⟩ : ∃ B, decide (strL x = wR) = B := ⟨_, rfl⟩
  rw [hB] at hq ⊢
  clear hB
  have fin : Hid (∀ z, Below w.heap.size w z → Tk w b { r with re := B } (z.setCell ⟨b, 3, none⟩ (.bool B))) := fun z hz => Tk.after (heap_lt hb.out) hz (Tk.set (hb.out.keep hz) rfl)
  have b0 : Hid (Bx w.drew b (rcC r) 45) := hb.out
  have KK : Hid (Below w.heap.size w w.drew) := below_drew (Below.refl _ _)
  go_enter Tryd.func82, Tryd.ntmps82
  go_wp2
  refine wp_region_held_drew (S := fun z => Bx z pf #[.func (.func 60) #[] #[]] 89 ∧ Bx z ps #[.string ⟨#[114]⟩] 9) (by kernel_rfl) ⟨hf.out, hs.out⟩ (fun hH => ?_)
  generalize w.drew = z0 at hH KK b0 ⊢
  refine wpAnyH_take (i := 0) (v := .func (.func 60) #[] #[]) rfl (by kernel_rfl) (by kernel_rfl) (by kernel_rfl) (fun _ _ _ h => h) (.inl ⟨by kernel_rfl, fun u hu => by have c := hu.1.c 0 _ rfl; go_simp⟩) hH ?_
  try simp only [Act.put, List.setIfInBounds_toArray]
  refine wpAnyH_take (i := 1) (v := .pointer (some ⟨b, 0, none⟩)) rfl (by kernel_rfl) (by kernel_rfl) (by kernel_rfl) (fun _ _ _ h => h) (.inl ⟨by kernel_rfl, fun u hu => by go_simp⟩) hH ?_
  try simp only [Act.put]
  refine wpAnyH_take (i := 3) (v := .string x) rfl (by kernel_rfl) (by kernel_rfl) (by kernel_rfl) (fun _ _ _ h => h) (.inl ⟨by kernel_rfl, fun u hu => by go_simp⟩) hH ?_
  try simp only [Act.put]
  refine wpAnyH_take (i := 4) (v := .string ⟨#[114]⟩) rfl (by kernel_rfl) (by kernel_rfl) (by kernel_rfl) (fun _ _ _ h => h) (.inl ⟨by kernel_rfl, fun u hu => by have c := hu.2.c 0 _ rfl; go_simp⟩) hH ?_
  try simp only [Act.put]
  refine wpAnyH_take (i := 5) (v := .bool B) rfl (by kernel_rfl) (by kernel_rfl) (by kernel_rfl) (fun _ _ _ h => h) (.inl ⟨by kernel_rfl, fun u hu => by go_simp⟩) hH ?_
  try simp only [Act.put]
  refine wpAnyH_ready (rs := [2]) (by kernel_rfl) (by simp) (AllReadyH.cons rfl (fun K hK => ?_) AllReadyH.nil)
  rw [if_pos (by rfl)]
  go_wp2_with (go_at_call 60; refine (say3p z0 b).mono ?_; rintro e u ⟨rfl, hu⟩; replace hu := hu.symm; subst hu)
  refine hK.out _ _ hH (fun hH => ?_)
  clear hK K
  try simp only [Act.put, List.setIfInBounds_toArray, List.set_cons_zero, List.set_cons_succ]
  refine wpAnyH_take (i := 6) (v := .pointer (some ⟨b, 3, none⟩)) rfl (by kernel_rfl) (by kernel_rfl) (by kernel_rfl) (fun _ _ _ h => h) (.inl ⟨by kernel_rfl, fun u hu => by go_simp⟩) hH ?_
  try simp only [Act.put]
  refine wpAnyH_ready (rs := [7]) (by kernel_rfl) (by simp) (AllReadyH.cons rfl (fun K hK => ?_) AllReadyH.nil)
  rw [if_pos (by rfl)]
  have c0 := b0.out.c 3 _ (rcC_re r)
  have f0 := b0.out.fz 3
  go_wp2
  have H2 : Bx (z0.setCell ⟨b, 3, none⟩ (.bool B)) pf #[.func (.func 60) #[] #[]] 89 ∧ Bx (z0.setCell ⟨b, 3, none⟩ (.bool B)) ps #[.string ⟨#[114]⟩] 9 := ⟨(heap_setCell_other z0 ⟨b, 3, none⟩ pf _ n1.out).trans hH.1, (heap_setCell_other z0 ⟨b, 3, none⟩ ps _ n2.out).trans hH.2⟩
  refine hK.out _ _ H2 (fun hH => ?_)
  clear hK K
  try simp only [Act.put, List.setIfInBounds_toArray, List.set_cons_zero, List.set_cons_succ]
  refine wpAnyH_done (by kernel_rfl) ?_ _
  have FN := fin.out z0 KK.out
  clear c0 f0 fin
  generalize z0.setCell ⟨b, 3, none⟩ (.bool B) = z1 at hH FN ⊢
  replace FN : Hid _ := FN
  have e0 := hH.2.c 0 _ rfl
  go_wp2
  go_ret
  exact ⟨rfl, FN⟩
theorem take4 (w : World) (b : Nat) (r : Rc) (x : ByteArray) (pf ps : Nat) (hf : Hid (Bx w pf #[.func (.func 61) #[] #[]] 89)) (hs : Hid (Bx w ps #[.string ⟨#[119]⟩] 9)) (hb : Hid (Bx w b (rcC r) 45)) :
    Calls Tryd.prog 82 #[.pointer (some ⟨b, 0, none⟩), .string x, .pointer (some ⟨ps, 0, none⟩), .pointer (some ⟨pf, 0, none⟩)] w fun e w' => e = .returned (.bool (tkB 4 (strL x))) ∧ Hid (Tk w b (tkR 4 (strL x) r) w') := by
  have n1 : Hid (pf ≠ b) := Bx.diff hf.out hb.out (by decide)
  have n2 : Hid (ps ≠ b) := Bx.diff hs.out hb.out (by decide)
  unfold tkB tkR
  try dsimp only
  have hq : (x.toList == [119]) = decide (strL x = wW) := str_eq x [119]
  obtain ⟨B, hB⟩ : ∃ B, decide (strL x = wW) = B := ⟨_, rfl⟩
  rw [hB] at hq ⊢
  clear hB
  have fin : Hid (∀ z, Below w.heap.size w z → Tk w b { r with wr := B } (z.setCell ⟨b, 4, none⟩ (.bool B))) := fun z hz => Tk.after (heap_lt hb.out) hz (Tk.set (hb.out.keep hz) rfl)
  have b0 : Hid (Bx w.drew b (rcC r) 45) := hb.out
  have KK : Hid (Below w.heap.size w w.drew) := below_drew (Below.refl _ _)
  go_enter Tryd.func82, Tryd.ntmps82
  go_wp2
  refine wp_region_held_drew (S := fun z => Bx z pf #[.func (.func 61) #[] #[]] 89 ∧ Bx z ps #[.string ⟨#[119]⟩] 9) (by kernel_rfl) ⟨hf.out, hs.out⟩ (fun hH => ?_)
  generalize w.drew = z0 at hH KK b0 ⊢
  refine wpAnyH_take (i := 0) (v := .func (.func 61) #[] #[]) rfl (by kernel_rfl) (by kernel_rfl) (by kernel_rfl) (fun _ _ _ h => h) (.inl ⟨by kernel_rfl, fun u hu => by have c := hu.1.c 0 _ rfl; go_simp⟩) hH ?_
  try simp only [Act.put, List.setIfInBounds_toArray]
  refine wpAnyH_take (i := 1) (v := .pointer (some ⟨b, 0, none⟩)) rfl (by kernel_rfl) (by kernel_rfl) (by kernel_rfl) (fun _ _ _ h => h) (.inl ⟨by kernel_rfl, fun u hu => by go_simp⟩) hH ?_
  try simp only [Act.put]
  refine wpAnyH_take (i := 3) (v := .string x) rfl (by kernel_rfl) (by kernel_rfl) (by kernel_rfl) (fun _ _ _ h => h) (.inl ⟨by kernel_rfl, fun u hu => by go_simp⟩) hH ?_
  try simp only [Act.put]
  refine wpAnyH_take (i := 4) (v := .string ⟨#[119]⟩) rfl (by kernel_rfl) (by kernel_rfl) (by kernel_rfl) (fun _ _ _ h => h) (.inl ⟨by kernel_rfl, fun u hu => by have c := hu.2.c 0 _ rfl; go_simp⟩) hH ?_
  try simp only [Act.put]
  refine wpAnyH_take (i := 5) (v := .bool B) rfl (by kernel_rfl) (by kernel_rfl) (by kernel_rfl) (fun _ _ _ h => h) (.inl ⟨by kernel_rfl, fun u hu => by go_simp⟩) hH ?_
  try simp only [Act.put]
  refine wpAnyH_ready (rs := [2]) (by kernel_rfl) (by simp) (AllReadyH.cons rfl (fun K hK => ?_) AllReadyH.nil)
  rw [if_pos (by rfl)]
  go_wp2_with (go_at_call 61; refine (say4p z0 b).mono ?_; rintro e u ⟨rfl, hu⟩; replace hu := hu.symm; subst hu)
  refine hK.out _ _ hH (fun hH => ?_)
  clear hK K
  try simp only [Act.put, List.setIfInBounds_toArray, List.set_cons_zero, List.set_cons_succ]
  refine wpAnyH_take (i := 6) (v := .pointer (some ⟨b, 4, none⟩)) rfl (by kernel_rfl) (by kernel_rfl) (by kernel_rfl) (fun _ _ _ h => h) (.inl ⟨by kernel_rfl, fun u hu => by go_simp⟩) hH ?_
  try simp only [Act.put]
  refine wpAnyH_ready (rs := [7]) (by kernel_rfl) (by simp) (AllReadyH.cons rfl (fun K hK => ?_) AllReadyH.nil)
  rw [if_pos (by rfl)]
  have c0 := b0.out.c 4 _ (rcC_wr r)
  have f0 := b0.out.fz 4
  go_wp2
  have H2 : Bx (z0.setCell ⟨b, 4, none⟩ (.bool B)) pf #[.func (.func 61) #[] #[]] 89 ∧ Bx (z0.setCell ⟨b, 4, none⟩ (.bool B)) ps #[.string ⟨#[119]⟩] 9 := ⟨(heap_setCell_other z0 ⟨b, 4, none⟩ pf _ n1.out).trans hH.1, (heap_setCell_other z0 ⟨b, 4, none⟩ ps _ n2.out).trans hH.2⟩
  refine hK.out _ _ H2 (fun hH => ?_)
  clear hK K
  try simp only [Act.put, List.setIfInBounds_toArray, List.set_cons_zero, List.set_cons_succ]
  refine wpAnyH_done (by kernel_rfl) ?_ _
  have FN := fin.out z0 KK.out
  clear c0 f0 fin
  generalize z0.setCell ⟨b, 4, none⟩ (.bool B) = z1 at hH FN ⊢
  replace FN : Hid _ := FN
  have e0 := hH.2.c 0 _ rfl
  go_wp2
  go_ret
  exact ⟨rfl, FN⟩
theorem take6 (w : World) (b : Nat) (r : Rc) (x : ByteArray) (pf ps : Nat) (hf : Hid (Bx w pf #[.func (.func 64) #[] #[]] 89)) (hs : Hid (Bx w ps #[.string ⟨#[113]⟩] 9)) (hb : Hid (Bx w b (rcC r) 45)) :
    Calls Tryd.prog 82 #[.pointer (some ⟨b, 0, none⟩), .string x, .pointer (some ⟨ps, 0, none⟩), .pointer (some ⟨pf, 0, none⟩)] w fun e w' => e = .returned (.bool (tkB 6 (strL x))) ∧ Hid (Tk w b (tkR 6 (strL x) r) w') := by
  have n1 : Hid (pf ≠ b) := Bx.diff hf.out hb.out (by decide)
  have n2 : Hid (ps ≠ b) := Bx.diff hs.out hb.out (by decide)
  unfold tkB tkR
  try dsimp only
  have hq : (x.toList == [113]) = decide (strL x = wQ) := str_eq x [113]
  obtain ⟨B, hB⟩ : ∃ B, decide (strL x = wQ) = B := ⟨_, rfl⟩
  rw [hB] at hq ⊢
  clear hB
  have fin : Hid (∀ z, Below w.heap.size w z → Tk w b { r with q := B } (z.setCell ⟨b, 6, none⟩ (.bool B))) := fun z hz => Tk.after (heap_lt hb.out) hz (Tk.set (hb.out.keep hz) rfl)
  have b0 : Hid (Bx w.drew b (rcC r) 45) := hb.out
  have KK : Hid (Below w.heap.size w w.drew) := below_drew (Below.refl _ _)
  go_enter Tryd.func82, Tryd.ntmps82
  go_wp2
  refine wp_region_held_drew (S := fun z => Bx z pf #[.func (.func 64) #[] #[]] 89 ∧ Bx z ps #[.string ⟨#[113]⟩] 9) (by kernel_rfl) ⟨hf.out, hs.out⟩ (fun hH => ?_)
  generalize w.drew = z0 at hH KK b0 ⊢
  refine wpAnyH_take (i := 0) (v := .func (.func 64) #[] #[]) rfl (by kernel_rfl) (by kernel_rfl) (by kernel_rfl) (fun _ _ _ h => h) (.inl ⟨by kernel_rfl, fun u hu => by have c := hu.1.c 0 _ rfl; go_simp⟩) hH ?_
  try simp only [Act.put, List.setIfInBounds_toArray]
  refine wpAnyH_take (i := 1) (v := .pointer (some ⟨b, 0, none⟩)) rfl (by kernel_rfl) (by kernel_rfl) (by kernel_rfl) (fun _ _ _ h => h) (.inl ⟨by kernel_rfl, fun u hu => by go_simp⟩) hH ?_
  try simp only [Act.put]
  refine wpAnyH_take (i := 3) (v := .string x) rfl (by kernel_rfl) (by kernel_rfl) (by kernel_rfl) (fun _ _ _ h => h) (.inl ⟨by kernel_rfl, fun u hu => by go_simp⟩) hH ?_
  try simp only [Act.put]
  refine wpAnyH_take (i := 4) (v := .string ⟨#[113]⟩) rfl (by kernel_rfl) (by kernel_rfl) (by kernel_rfl) (fun _ _ _ h => h) (.inl ⟨by kernel_rfl, fun u hu => by have c := hu.2.c 0 _ rfl; go_simp⟩) hH ?_
  try simp only [Act.put]
  refine wpAnyH_take (i := 5) (v := .bool B) rfl (by kernel_rfl) (by kernel_rfl) (by kernel_rfl) (fun _ _ _ h => h) (.inl ⟨by kernel_rfl, fun u hu => by go_simp⟩) hH ?_
  try simp only [Act.put]
  refine wpAnyH_ready (rs := [2]) (by kernel_rfl) (by simp) (AllReadyH.cons rfl (fun K hK => ?_) AllReadyH.nil)
  rw [if_pos (by rfl)]
  go_wp2_with (go_at_call 64; refine (say6p z0 b).mono ?_; rintro e u ⟨rfl, hu⟩; replace hu := hu.symm; subst hu)
  refine hK.out _ _ hH (fun hH => ?_)
  clear hK K
  try simp only [Act.put, List.setIfInBounds_toArray, List.set_cons_zero, List.set_cons_succ]
  refine wpAnyH_take (i := 6) (v := .pointer (some ⟨b, 6, none⟩)) rfl (by kernel_rfl) (by kernel_rfl) (by kernel_rfl) (fun _ _ _ h => h) (.inl ⟨by kernel_rfl, fun u hu => by go_simp⟩) hH ?_
  try simp only [Act.put]
  refine wpAnyH_ready (rs := [7]) (by kernel_rfl) (by simp) (AllReadyH.cons rfl (fun K hK => ?_) AllReadyH.nil)
  rw [if_pos (by rfl)]
  have c0 := b0.out.c 6 _ (rcC_q r)
  have f0 := b0.out.fz 6
  go_wp2
  have H2 : Bx (z0.setCell ⟨b, 6, none⟩ (.bool B)) pf #[.func (.func 64) #[] #[]] 89 ∧ Bx (z0.setCell ⟨b, 6, none⟩ (.bool B)) ps #[.string ⟨#[113]⟩] 9 := ⟨(heap_setCell_other z0 ⟨b, 6, none⟩ pf _ n1.out).trans hH.1, (heap_setCell_other z0 ⟨b, 6, none⟩ ps _ n2.out).trans hH.2⟩
  refine hK.out _ _ H2 (fun hH => ?_)
  clear hK K
  try simp only [Act.put, List.setIfInBounds_toArray, List.set_cons_zero, List.set_cons_succ]
  refine wpAnyH_done (by kernel_rfl) ?_ _
  have FN := fin.out z0 KK.out
  clear c0 f0 fin
  generalize z0.setCell ⟨b, 6, none⟩ (.bool B) = z1 at hH FN ⊢
  replace FN : Hid _ := FN
  have e0 := hH.2.c 0 _ rfl
  go_wp2
  go_ret
  exact ⟨rfl, FN⟩
theorem rtMo : Rt Tryd.prog 90 4 := ⟨⟨_, Tryd.underlying90, rfl⟩, by kernel_rfl⟩
theorem Tp.range {w : World} (tb : Tp w) : w.rangeAt 0 0 moC.toList := fun i v hv => by
  rw [Nat.zero_add]
  exact tb i v (by simpa using hv)
theorem take7 (w : World) (tb : Hid (Tp w)) (b : Nat) (r : Rc) (x : ByteArray) (hb : Hid (Bx w b (rcC r) 45)) :
    Calls Tryd.prog 66 #[.pointer (some ⟨b, 0, none⟩), .string x] w fun e w' => e = .returned (.bool (tkB 7 (strL x))) ∧ Hid (Tk w b (tkR 7 (strL x) r) w') := by
  have d0 := hb.out.c 7 _ (rcC_mo r)
  have f0 := hb.out.fz 7
  have hR : Hid (w.rangeAt 0 0 moC.toList) := tb.out.range
  have F1 : Hid (Tk w b { r with mo := 1 } (w.setCell ⟨b, 7, none⟩ (.int .u8 1))) := Tk.set hb.out rfl
  have F2 : Hid (Tk w b { r with mo := 2 } (w.setCell ⟨b, 7, none⟩ (.int .u8 2))) := Tk.set hb.out rfl
  have F3 : Hid (Tk w b { r with mo := 3 } (w.setCell ⟨b, 7, none⟩ (.int .u8 3))) := Tk.set hb.out rfl
  have F0 : Hid (Tk w b r w) := ⟨hb.out, fun B _ => Below.refl B w, fun _ _ _ => rfl⟩
  have h1 : ([112, 97, 117, 115, 101] == x.toList) = decide (strL x = wPause) := by rw [Bool.beq_comm]; exact str_eq x _
  have h2 : ([114, 101, 115, 101, 116] == x.toList) = decide (strL x = wReset) := by rw [Bool.beq_comm]; exact str_eq x _
  have h3 : ([108, 111, 97, 100] == x.toList) = decide (strL x = wLoad) := by rw [Bool.beq_comm]; exact str_eq x _
  unfold tkB tkR
  try dsimp only
  obtain ⟨TB, hTB⟩ : ∃ z, (decide (strL x = wPause) || decide (strL x = wReset) || decide (strL x = wLoad)) = z := ⟨_, rfl⟩
  obtain ⟨M, hM⟩ : ∃ z, (if strL x = wPause then (1 : Int) else if strL x = wReset then 2 else if strL x = wLoad then 3 else r.mo) = z := ⟨_, rfl⟩
  rw [hTB, hM]
  replace hTB : Hid _ := hTB
  replace hM : Hid _ := hM
  go_enter Tryd.func66, Tryd.ntmps66
  go_wp2_with ((with_reducible refine at_loadm rtMo 0 0 moC ?_ ?_ (.global 0) ?_ ?_ ?_ ?_); exact hR.out; rfl; kernel_rfl; rfl; rfl)
  have x0 : ∀ z : World, (Instr.index 90 (.agg moC) (.int .i64 0)).run Tryd.prog z = .ok (.string ⟨#[]⟩) z := fun z => by kernel_rfl
  have x1 : ∀ z : World, (Instr.index 90 (.agg moC) (.int .i64 1)).run Tryd.prog z = .ok (.string ⟨#[112, 97, 117, 115, 101]⟩) z := fun z => by kernel_rfl
  have x2 : ∀ z : World, (Instr.index 90 (.agg moC) (.int .i64 2)).run Tryd.prog z = .ok (.string ⟨#[114, 101, 115, 101, 116]⟩) z := fun z => by kernel_rfl
  have x3 : ∀ z : World, (Instr.index 90 (.agg moC) (.int .i64 3)).run Tryd.prog z = .ok (.string ⟨#[108, 111, 97, 100]⟩) z := fun z => by kernel_rfl
  go_loopw [8] (fun t wz => ∃ (j : Nat), wz = w ∧ t = .int .i64 (j : Int) ∧ Hid (j ≤ 4 ∧ (1 < j → strL x ≠ wPause) ∧ (2 < j → strL x ≠ wReset) ∧ (3 < j → strL x ≠ wLoad))) (fun t _ => (4 - intOf t).toNat)
  case atStart => exact ⟨0, rfl, rfl, by omega, fun h => by omega, fun h => by omega, fun h => by omega⟩
  case round =>
    obtain ⟨j, hw, rfl, J⟩ := hrel
    subst hw
    rcases (show j = 0 ∨ j = 1 ∨ j = 2 ∨ j = 3 ∨ j = 4 by have := J.out.1; omega) with e | e | e | e | e <;> subst e
    · clear h1 h2 h3 x1 x2 x3
      go_wp2
      go_roundw
      case rel => exact ⟨1, by trivial, by trivial, by omega, fun h => by omega, fun h => by omega, fun h => by omega⟩
      case measure => decide
    · clear x0 h2 h3 x2 x3
      by_cases hc : strL x = wPause
      · have q : decide (strL x = wPause) = true := by simpa using hc
        rw [q] at h1
        clear q
        replace hc : Hid _ := hc
        go_wp2
        go_ret
        refine ⟨?_, ?_⟩
        · rw [← hTB.out, hc.out]; rfl
        · rw [← hM.out, hc.out]
          exact F1.out
      · have q : decide (strL x = wPause) = false := by simpa using hc
        rw [q] at h1
        clear q
        replace hc : Hid (strL x ≠ wPause) := hc
        go_wp2
        go_roundw
        case rel => exact ⟨2, by trivial, by trivial, by omega, fun _ => hc.out, fun h => by omega, fun h => by omega⟩
        case measure => decide
    · clear x0 h1 h3 x1 x3
      by_cases hc : strL x = wReset
      · have q : decide (strL x = wReset) = true := by simpa using hc
        rw [q] at h2
        clear q
        replace hc : Hid _ := hc
        go_wp2
        go_ret
        refine ⟨?_, ?_⟩
        · rw [← hTB.out, hc.out]; rfl
        · rw [← hM.out, hc.out]
          exact F2.out
      · have q : decide (strL x = wReset) = false := by simpa using hc
        rw [q] at h2
        clear q
        replace hc : Hid (strL x ≠ wReset) := hc
        go_wp2
        go_roundw
        case rel => exact ⟨3, by trivial, by trivial, by omega, fun _ => J.out.2.1 (by omega), fun _ => hc.out, fun h => by omega⟩
        case measure => decide
    · clear x0 h1 h2 x1 x2
      by_cases hc : strL x = wLoad
      · have q : decide (strL x = wLoad) = true := by simpa using hc
        rw [q] at h3
        clear q
        replace hc : Hid _ := hc
        go_wp2
        go_ret
        refine ⟨?_, ?_⟩
        · rw [← hTB.out, hc.out]; rfl
        · rw [← hM.out, hc.out]
          exact F3.out
      · have q : decide (strL x = wLoad) = false := by simpa using hc
        rw [q] at h3
        clear q
        replace hc : Hid (strL x ≠ wLoad) := hc
        go_wp2
        go_roundw
        case rel => exact ⟨4, by trivial, by trivial, by omega, fun _ => J.out.2.1 (by omega), fun _ => J.out.2.2.1 (by omega), fun _ => hc.out⟩
        case measure => decide
    · clear h1 h2 h3 x0 x1 x2 x3
      have m1 : Hid (strL x ≠ wPause) := J.out.2.1 (by omega)
      have m2 : Hid (strL x ≠ wReset) := J.out.2.2.1 (by omega)
      have m3 : Hid (strL x ≠ wLoad) := J.out.2.2.2 (by omega)
      go_wp2
      go_ret
      refine ⟨?_, ?_⟩
      · rw [← hTB.out, decide_eq_false m1.out, decide_eq_false m2.out, decide_eq_false m3.out]; rfl
      · rw [← hM.out, if_neg m1.out, if_neg m2.out, if_neg m3.out]
        exact F0.out
end Go.Proofs.YtoajmicdphffnaaDoor
