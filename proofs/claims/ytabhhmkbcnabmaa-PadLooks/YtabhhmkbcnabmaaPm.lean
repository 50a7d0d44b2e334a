/- Each key can be looked at, as the statement asks it. -/
import Derived.Test.YtabhhmkbcnabmaaPg
import Derived.Test.YtabhhmkbcnabmaaPh
namespace Go.Proofs.Ytabhhmkbcnabmaa
open Go Go.RowKit
set_option linter.unusedVariables false
set_option maxHeartbeats 1000000
set_option maxRecDepth 20000

theorem q_bu {P : Program} {o : Oper} {a : Act} {t : TypeId} {C : World → Prop} (parts : Array (Nat × Operand)) (l : List (Nat × Value)) (cs : Array Value) (ho : o.op = .build t parts) (hl : (parts.map fun (i, x) => (i, a.eval x)).toList = l) (hb : P.built t l = some cs) : ∀ w, C w → o.quietAt P a C w (.agg cs) := fun w hw => by
  have hr := run_build (P := P) w t (parts.map fun (i, x) => (i, a.eval x)) cs (by rw [hl]; exact hb)
  unfold Oper.quietAt execOp
  simp only [ho, Sem.run_bind, hr, Result.andThen_ok, Sem.run_pure]
  exact ⟨rfl, rfl⟩
theorem maskGo_app (a b : List Int) : ∀ x, maskGo (a ++ b) x = (maskGo a x).bind (maskGo b) := by
  induction a with
  | nil => intro x; rfl
  | cons k a ih =>
    intro x
    rw [List.cons_append]
    unfold maskGo
    split
    · rfl
    · exact ih _
theorem low_bit (m k : Nat) : m % 2 ^ (k + 1) = m % 2 ^ k + (if bitB m k then 2 ^ k else 0) := by
  rw [Nat.pow_succ, Nat.mod_mul]
  unfold bitB
  rcases Nat.mod_two_eq_zero_or_one (m / 2 ^ k) with h | h <;> simp [h]
theorem mask_keys (m : Nat) : ∀ k, k ≤ 16 → maskGo (keysI m k) 0 = some (m % 2 ^ k) := by
  intro k
  induction k with
  | zero => intro _; rw [Nat.pow_zero, Nat.mod_one]; rfl
  | succ k ih =>
    intro hk
    have h := ih (by omega)
    rw [low_bit]
    cases hb : bitB m k
    · rw [keysI_no m k hb, h]
      simp
    · rw [keysI_yes m k hb, maskGo_app, h]
      have hlow : bitB (m % 2 ^ k) k = false := by
        unfold bitB
        rw [Nat.div_eq_of_lt (Nat.mod_lt _ (Nat.pow_pos (by decide)))]
        rfl
      show maskGo [(k : Int)] (m % 2 ^ k) = _
      unfold maskGo
      rw [if_neg (by omega)]
      unfold maskGo orN
      rw [show ((k : Int)).toNat = k by omega, hlow]
      rfl
theorem mask_all (m : Nat) (hm : m < 65536) : maskGo (keysI m 16) 0 = some m := by
  rw [mask_keys m 16 (by omega), Nat.mod_eq_of_lt (by simpa using hm)]
/-- The key that comes next. -/
theorem keys_cut (m k d : Nat) : keysN m (k + d) = keysN m k ++ (List.range' k d).filter (bitB m) := by
  induction d with
  | zero => simp
  | succ d ih =>
    rw [← Nat.add_assoc, keysN_succ, ih, List.range'_concat, List.filter_append, List.append_assoc]
    congr 2
    simp [List.filter_cons]
theorem keys_next (m k : Nat) (hk : k < 16) : (bitB m k = true → (keysI m 16)[(keysN m k).length]? = some (k : Int)) ∧ (bitB m k = false → (keysN m k).length < (keysI m 16).length → ∃ e : Int, (keysI m 16)[(keysN m k).length]? = some e ∧ e ≠ (k : Int)) := by
  have hc := keys_cut m k (16 - k)
  rw [show k + (16 - k) = 16 by omega, show 16 - k = (15 - k) + 1 by omega, List.range'_succ] at hc
  unfold keysI
  rw [hc]
  refine ⟨fun h => ?_, fun h hl => ?_⟩
  · rw [List.getElem?_map, List.getElem?_append_right (Nat.le_refl _), Nat.sub_self, List.filter_cons, if_pos h]
    rfl
  · rw [List.filter_cons, if_neg (by rw [h]; exact Bool.false_ne_true)] at hl ⊢
    rw [List.length_map, List.length_append] at hl
    rw [List.getElem?_map, List.getElem?_append_right (Nat.le_refl _), Nat.sub_self]
    have hp : 0 < ((List.range' (k + 1) (15 - k)).filter (bitB m)).length := by omega
    rw [List.getElem?_eq_getElem hp]
    refine ⟨_, rfl, ?_⟩
    have hm := List.getElem_mem hp
    rw [List.mem_filter, List.mem_range'] at hm
    obtain ⟨⟨i, hi, e⟩, _⟩ := hm
    simp only
    omega
theorem keysI_length (m k : Nat) : (keysI m k).length = (keysN m k).length := by unfold keysI; rw [List.length_map]
theorem keysN_mono (m k : Nat) (hk : k ≤ 16) : (keysN m k).length ≤ (keysI m 16).length := by
  have hc := keys_cut m k (16 - k)
  rw [show k + (16 - k) = 16 by omega] at hc
  rw [keysI_length, hc, List.length_append]
  omega
/-- Boxes, and the keys of the mask. -/
structure Lk (w : World) (l : List (Nat × Array Value × TypeId)) (sp : Option Addr) (m : Nat) (y : World) : Prop where
  fm : Fm w l y
  lies : LiesI y sp (keysI m 16)
  blk : ∀ ad, sp = some ad → ad.block < y.heap.size
theorem Lk.below {w y z : World} {sp : Option Addr} {m : Nat} {l : List (Nat × Array Value × TypeId)} (h : Lk w l sp m y) (hb : Below y.heap.size y z) : Lk w l sp m z := ⟨h.fm.below hb, h.lies.below hb, fun ad e => Nat.lt_of_lt_of_le (h.blk ad e) hb.size⟩
theorem Lk.new {w y : World} {sp : Option Addr} {m : Nat} {l : List (Nat × Array Value × TypeId)} (h : Lk w l sp m y) (cs : Array Value) (t : TypeId) : Lk w (l ++ [(y.heap.size, cs, t)]) sp m (y.alloc (.cells cs t)) :=
  ⟨h.fm.new cs t, (h.below (below1 y _)).lies, (h.below (below1 y _)).blk⟩
theorem Lk.putP {w y y' : World} {sp : Option Addr} {m b : Nat} {l : List (Nat × Array Value × TypeId)} {i : Nat} {cs cs' : Array Value} {t : TypeId} (h : Lk w l sp m y) (hi : l[i]? = some (b, cs, t)) (hgb : ∀ ad, sp = some ad → ad.block ≠ b) (k : y'.heap[b]? = some (.cells cs' t (0, 0)) ∧ (∀ B, B ≤ b → Below B y y') ∧ ∀ q, q ≠ b → y'.heap[q]? = y.heap[q]?) : Lk w (l.set i (b, cs', t)) sp m y' :=
  ⟨h.fm.put i b cs cs' t hi k, fun j v hj => by
    obtain ⟨gb, ob, e, c⟩ := h.lies j v hj
    exact ⟨gb, ob, e, (World.cell?_of_block (w := y) (a := ⟨gb, ob + j, none⟩) (k.2.2 gb (hgb _ e))).trans c⟩, fun ad e => by
    have := (k.2.1 0 (Nat.zero_le _)).size
    have := h.blk ad e
    omega⟩
theorem Lk.pre {w y : World} {sp : Option Addr} {m : Nat} {l l' : List (Nat × Array Value × TypeId)} (h : Lk w (l ++ l') sp m y) : Lk w l sp m y := ⟨h.fm.pre, h.lies, h.blk⟩
def inpP : Pd := ⟨0, 0, false, true, false, 0, 2, false⟩
def outP : Pd := ⟨0, 0, true, false, false, 0, 3, false⟩

theorem looks_walk (w : World) (p : Int) (m : Nat) (h : Int) (p0 : 0 ≤ p) (p1 : p ≤ 255) (hm : m < 65536) (h0 : 0 ≤ h) (h1 : h ≤ 255) : Calls Try.prog 6 #[.agg (padC p), .int .u16 (m : Int), .int .u8 h] w fun e w' => e = .returned (.bool true) ∧ Below w.heap.size w w' := by
  have zz := zeroVP
  have hK : Hid (∀ v, Calls Try.prog 13 #[.int .u16 (m : Int)] v fun e w' => ∃ u, e = .returned u ∧ Hid (KeysI v m 16 u w')) := fun v => keys_any v m hm
  have hM : Hid (∀ x sp cap, LiesI x sp (keysI m 16) → Calls Try.prog 15 #[.slice sp (keysI m 16).length cap] x fun e w' => e = .returned (.tuple #[.int .u16 (m : Int), .int .i64 0]) ∧ w' = x) := fun x sp cap hl => by
    have := mask_any x sp cap (keysI m 16) hl (by have := keysI_len m 16; omega)
    rw [mask_all m hm] at this
    exact this
  have hS1' : Hid (∀ k : Nat, k < 16 → ∀ v, Calls Try.prog 10 #[.agg (padC p), .agg (pdC wakeP), .int .u8 (16 * (h % 16) + (k : Int))] v fun e w' => e = .returned (.agg (padC (k : Int))) ∧ Below v.heap.size v w') := fun k hk v => by
    have := step_any v p wakeP (16 * (h % 16) + (k : Int)) p0 p1 (by omega) (by omega)
    rw [show stepL p wakeP.Port wakeP.Rd (16 * (h % 16) + (k : Int)) = (k : Int) by unfold stepL; rw [if_pos ⟨rfl, rfl⟩]; omega] at this
    exact this
  have hS2' : Hid (∀ k : Nat, k < 16 → ∀ v, Calls Try.prog 10 #[.agg (padC (k : Int)), .agg (pdC inpP), .int .u8 h] v fun e w' => e = .returned (.agg (padC (k : Int))) ∧ Below v.heap.size v w') := fun k hk v => by
    have := step_any v k inpP h (by omega) (by omega) h0 h1
    rw [show stepL k inpP.Port inpP.Rd h = (k : Int) by unfold stepL; rw [if_neg (fun e => Bool.false_ne_true e.2), if_neg (by omega)]] at this
    exact this
  have hS3' : Hid (∀ k : Nat, k < 16 → ∀ v, Calls Try.prog 10 #[.agg (padC (k : Int)), .agg (pdC outP), .int .u8 h] v fun e w' => e = .returned (.agg (padC (k : Int))) ∧ Below v.heap.size v w') := fun k hk v => by
    have := step_any v k outP h (by omega) (by omega) h0 h1
    rw [show stepL k outP.Port outP.Rd h = (k : Int) by unfold stepL; rw [if_neg (fun e => absurd e.1 (by decide)), if_neg (by omega)]] at this
    exact this
  have hD' : Hid (∀ (k : Nat) v, Calls Try.prog 7 #[.agg (padC (k : Int)), .int .u16 (m : Int)] v fun e w' => e = .returned (.bool (bitB m k)) ∧ Below v.heap.size v w') := fun k v => down_any v k m hm
  have b1 : Hid (Try.prog.built 28 [(2, .bool true), (6, .int .u8 2)] = some (pdC wakeP)) := (by kernel_rfl : Try.prog.built 28 [(2, .bool true), (6, .int .u8 2)] = some (pdC wakeP))
  have b2 : Hid (Try.prog.built 28 [(3, .bool true), (6, .int .u8 2)] = some (pdC inpP)) := (by kernel_rfl : Try.prog.built 28 [(3, .bool true), (6, .int .u8 2)] = some (pdC inpP))
  have b3 : Hid (Try.prog.built 28 [(2, .bool true), (6, .int .u8 3)] = some (pdC outP)) := (by kernel_rfl : Try.prog.built 28 [(2, .bool true), (6, .int .u8 3)] = some (pdC outP))
  have hE' : Hid (∀ k : Nat, Eqs Try.prog 23 (padC (k : Int)) (padC (k : Int)) true) := fun k => by
    have := eqPd (k : Int) (k : Int)
    rwa [show ((k : Int) == (k : Int)) = true by simp] at this
  have hA := awake_any
  have hx1 : Hid (∀ k, k < 16 → (bitB m k = true → (keysI m 16)[(keysN m k).length]? = some (k : Int)) ∧ (bitB m k = false → (keysN m k).length < (keysI m 16).length → ∃ e : Int, (keysI m 16)[(keysN m k).length]? = some e ∧ e ≠ (k : Int))) := fun k hk => keys_next m k hk
  obtain ⟨B1, hB1⟩ : ∃ A, pdC wakeP = A := ⟨_, rfl⟩
  obtain ⟨B2, hB2⟩ : ∃ A, pdC inpP = A := ⟨_, rfl⟩
  obtain ⟨B3, hB3⟩ : ∃ A, pdC outP = A := ⟨_, rfl⟩
  rw [hB1] at hS1' b1
  rw [hB2] at hS2' b2
  rw [hB3] at hS3' b3
  obtain ⟨c, hc⟩ : ∃ c : Int, (m : Int) = c := ⟨_, rfl⟩
  rw [hc] at hK hM hD' ⊢
  have qc : (c != c) = false := by simp
  have hF : Hid (Fm w [(w.heap.size, padC p, 23)] (w.alloc (.cells (padC p) 23))) := Fm.one w _ _
  obtain ⟨L, hL⟩ : ∃ L, (keysI m 16).length = L := ⟨_, rfl⟩
  have hL' : Hid ((keysI m 16).length = L) := hL
  have L16 : (L : Int) ≤ 16 := by have := keysI_len m 16; omega
  rw [hL] at hM
  clear hB1 hB2 hB3 hc hm hL p0 p1
  go_enter Try.func6, Try.ntmps6
  go_wp2_with (first
    | ((with_reducible refine gen_world (w.alloc (.cells (padC p) 23)) (Fm w [(w.heap.size, padC p, 23)]) hF.out ?_); intro y0 K0)
    | (go_at_call 13; refine (hK.out y0).mono ?_; rintro e y1 ⟨v1, rfl, K1⟩; obtain ⟨sp, cap, hv1, hl1, ha1, _⟩ := K1.out.1.open; rw [hL'.out] at hv1; subst hv1; have K2 : Hid (Lk w [(w.heap.size, padC p, 23)] sp m y1) := ⟨K0.out.below K1.out.2, hl1, fun ad e => (ha1 ad e).2.2.2⟩; clear K1 hl1 ha1)
    | (go_at_call 15; refine (hM.out y1 sp cap K2.out.lies).mono ?_; rintro e x2 ⟨rfl, hx2⟩; replace hx2 := hx2.symm; subst hx2))
  go_loopw [10, 11] (fun x i wz => ∃ (k a : Nat) (y : World), y = wz ∧ x = .int .i64 (a : Int) ∧ i = .int .i64 (k : Int) ∧ Hid (k ≤ 16 ∧ a = (keysN m k).length) ∧ Hid (Lk w [(w.heap.size, padC p, 23)] sp m y)) (fun _ i _ => (16 - intOf i).toNat)
  case atStart => exact ⟨0, 0, y1, rfl, rfl, rfl, ⟨by omega, rfl⟩, K2⟩
  case round =>
    obtain ⟨k, a, y, rfl, rfl, rfl, hk, K⟩ := hrel
    clear K2 K0
    by_cases hlt : k < 16
    · have hki : (k : Int) < 16 := by omega
      have hk16 : Hid (k < 16) := hlt
      have hS1 := hS1'.out k hlt
      have hS2 := hS2'.out k hlt
      have hS3 := hS3'.out k hlt
      have hD := hD'.out k
      have hE : Hid _ := hE'.out k
      obtain ⟨hyes, hno⟩ := hx1.out k hlt
      rw [← hk.out.2, hL'.out] at hno
      rw [← hk.out.2] at hyes
      have hai : Hid (a ≤ L) := by have := keysN_mono m k (by omega); rw [hL'.out] at this; rw [hk.out.2]; exact this
      have ai : (a : Int) ≤ L := by have := hai.out; omega
      have hqk : ((k : Int) != (k : Int)) = false := by simp
      have hnext : Hid ((keysN m (k + 1)).length = a + (if bitB m k then 1 else 0)) := by
        show _ = _
        rw [keysN_succ, List.length_append, ← hk.out.2]
        split <;> rfl
      obtain ⟨b, hb⟩ : ∃ b, bitB m k = b := ⟨_, rfl⟩
      rw [hb] at hD hyes hno hnext
      have hbb : (b != b) = false := by simp
      clear hb hlt
      cases b
      · by_cases hal : a < L
        · obtain ⟨e, he, hne⟩ := hno rfl hal
          have ha1 : (a : Int) < L := by omega
          have qe : (e == (k : Int)) = false := by simpa using hne
          replace he : Hid _ := he
          have ix := fun g off v => idxP (g := g) (off := off) (len := L) (cap := cap) Try.underlying31 (s := 1) (by kernel_rfl) .i64 a v hal
          simp only [Nat.mul_one] at ix
          have hal' : Hid (a < L) := hal
          clear hyes hno hne hal
          obtain ⟨gb, ob, rfl, _⟩ := K.out.lies _ _ he.out
          have ix1 := ix gb ob
          clear ix
          go_wp2_with (first
            | ((with_reducible refine at_load rtP w.heap.size (padC p) ?_ ?_ (.tmp 3) ?_ ?_ ?_ ?_); exact K.out.fm.bx 0 _ _ _ rfl; rfl; kernel_rfl; rfl; rfl)
            | ((with_reducible refine at_bu #[(2, .const (.bool true)), (6, .const (.int .u8 2))] [(2, .bool true), (6, .int .u8 2)] B1 ?_ ?_ ?_ b1.out ?_); kernel_rfl; rfl; kernel_rfl)
            | (go_at_call 10; refine (hS1 _).mono ?_; rintro e v2 ⟨rfl, hb2⟩; have K2 : Hid (Lk w [(w.heap.size, padC p, 23)] (some ⟨gb, ob, none⟩) m v2) := K.out.below hb2)
            | ((with_reducible refine gen_world (v2.alloc (.cells (padC 0) 23)) (Lk w [(w.heap.size, padC p, 23), (v2.heap.size, padC 0, 23)] (some ⟨gb, ob, none⟩) m) ?_ ?_); exact K2.out.new _ _; intro y3 K3)
            | ((with_reducible refine at_st rtP v2.heap.size (padC 0) (padC (k : Int)) ?_ ?_ ?_ ?_ (.tmp 12) (.tmp 40) ?_ ?_ ?_ ?_ ?_); exact K3.out.fm.bx 1 _ _ _ rfl; rfl; rfl; exact padC_one _; rfl; rfl; rfl; rfl; intro y4 hw4; have K4 : Hid (Lk w [(w.heap.size, padC p, 23), (v2.heap.size, padC (k : Int), 23)] (some ⟨gb, ob, none⟩) m y4) := K3.out.putP (i := 1) rfl (fun ad e => Nat.ne_of_lt (K2.out.blk ad e)) hw4.out; refine stopAt ?_))
          refine Stop.go ?_
          have hcell : y4.cell? ⟨gb, ob + a, none⟩ = some (.int .i64 e) := by
            obtain ⟨gb', ob', e', c'⟩ := K4.out.lies _ _ he.out
            cases e'
            exact c'
          have d4 := (K4.out.fm.bx 1 _ _ _ rfl).c 0 _ (padC_0 (k : Int))
          go_wp2_with (first
            | ((with_reducible refine at_load rtP v2.heap.size (padC (k : Int)) ?_ ?_ (.tmp 12) ?_ ?_ ?_ ?_); exact K4.out.fm.bx 1 _ _ _ rfl; rfl; kernel_rfl; rfl; rfl)
            | (go_at_call 7; refine (hD _).mono ?_; rintro e y5 ⟨rfl, hb5⟩; have K5 : Hid (Lk w [(w.heap.size, padC p, 23), (v2.heap.size, padC (k : Int), 23)] (some ⟨gb, ob, none⟩) m y5) := K4.out.below hb5))
          refine region_class_tail 13 (Lk w [(w.heap.size, padC p, 23), (v2.heap.size, padC (k : Int), 23)] (some ⟨gb, ob, none⟩) m) (by kernel_rfl) (by kernel_rfl) (K5.out.below (below_drew (Below.refl _ _))) ?_
          simp only [List.take_succ_cons, List.take_zero, List.drop_succ_cons, List.drop_zero]
          with_reducible refine quiet_one (.agg (padC (k : Int))) ?_ ?_ ?_
          · kernel_rfl
          · exact q_load (C := (Lk w [(w.heap.size, padC p, 23), (v2.heap.size, padC (k : Int), 23)] (some ⟨gb, ob, none⟩) m)) rtP v2.heap.size (padC (k : Int)) (fun _ h => h.fm.bx 1 _ _ _ rfl) rfl (.tmp 12) rfl (by go_simp)
          with_reducible refine quiet_one (.agg B2) ?_ ?_ ?_
          · kernel_rfl
          · exact q_bu (C := (Lk w [(w.heap.size, padC p, 23), (v2.heap.size, padC (k : Int), 23)] (some ⟨gb, ob, none⟩) m)) #[(3, .const (.bool true)), (6, .const (.int .u8 2))] [(3, .bool true), (6, .int .u8 2)] B2 rfl (by first | kernel_rfl | rfl) b2.out
          with_reducible refine quiet_one (.int .u8 h) ?_ ?_ ?_
          · kernel_rfl
          · intro u hy
            go_simp
          with_reducible refine quiet_one (.agg (padC (k : Int))) ?_ ?_ ?_
          · kernel_rfl
          · intro u hy
            have d := (hS2 u).mono fun e w' (h : _ ∧ _) => And.intro h.1 (hy.below h.2)
            go_simp
            all_goals exact d
          with_reducible refine quiet_one (.agg (padC (k : Int))) ?_ ?_ ?_
          · kernel_rfl
          · intro u hy
            generalize ha : Act.put _ _ _ = a
            have e1 : a.eval (.tmp 12) = .pointer (some ⟨v2.heap.size, 0, none⟩) := by rw [← ha]; go_simp
            clear ha
            exact q_load (C := (Lk w [(w.heap.size, padC p, 23), (v2.heap.size, padC (k : Int), 23)] (some ⟨gb, ob, none⟩) m)) rtP v2.heap.size (padC (k : Int)) (fun _ h => h.fm.bx 1 _ _ _ rfl) rfl (.tmp 12) rfl e1 u hy
          with_reducible refine quiet_one (.bool false) ?_ ?_ ?_
          · kernel_rfl
          · intro u hy
            generalize ha : Act.put _ _ _ = a
            have e1 : a.eval (.tmp 71) = .agg (padC (k : Int)) := by rw [← ha]; go_simp
            have e2 : a.eval (.tmp 72) = .agg (padC (k : Int)) := by rw [← ha]; go_simp
            clear ha
            exact q_ne (C := (Lk w [(w.heap.size, padC p, 23), (v2.heap.size, padC (k : Int), 23)] (some ⟨gb, ob, none⟩) m)) hE.out (.tmp 71) (.tmp 72) _ rfl e1 e2 u hy
          with_reducible refine quiet_one (.bool false) ?_ ?_ ?_
          · kernel_rfl
          · intro u hy
            go_simp
          with_reducible refine quiet_one (.agg (padC (k : Int))) ?_ ?_ ?_
          · kernel_rfl
          · intro u hy
            generalize ha : Act.put _ _ _ = a
            have e1 : a.eval (.tmp 12) = .pointer (some ⟨v2.heap.size, 0, none⟩) := by rw [← ha]; go_simp
            clear ha
            exact q_load (C := (Lk w [(w.heap.size, padC p, 23), (v2.heap.size, padC (k : Int), 23)] (some ⟨gb, ob, none⟩) m)) rtP v2.heap.size (padC (k : Int)) (fun _ h => h.fm.bx 1 _ _ _ rfl) rfl (.tmp 12) rfl e1 u hy
          with_reducible refine quiet_one (.agg B3) ?_ ?_ ?_
          · kernel_rfl
          · exact q_bu (C := (Lk w [(w.heap.size, padC p, 23), (v2.heap.size, padC (k : Int), 23)] (some ⟨gb, ob, none⟩) m)) #[(2, .const (.bool true)), (6, .const (.int .u8 3))] [(2, .bool true), (6, .int .u8 3)] B3 rfl (by first | kernel_rfl | rfl) b3.out
          with_reducible refine quiet_one (.int .u8 h) ?_ ?_ ?_
          · kernel_rfl
          · intro u hy
            go_simp
          with_reducible refine quiet_one (.agg (padC (k : Int))) ?_ ?_ ?_
          · kernel_rfl
          · intro u hy
            have d := (hS3 u).mono fun e w' (h : _ ∧ _) => And.intro h.1 (hy.below h.2)
            go_simp
            all_goals exact d
          with_reducible refine quiet_one (.agg (padC (k : Int))) ?_ ?_ ?_
          · kernel_rfl
          · intro u hy
            generalize ha : Act.put _ _ _ = a
            have e1 : a.eval (.tmp 12) = .pointer (some ⟨v2.heap.size, 0, none⟩) := by rw [← ha]; go_simp
            clear ha
            exact q_load (C := (Lk w [(w.heap.size, padC p, 23), (v2.heap.size, padC (k : Int), 23)] (some ⟨gb, ob, none⟩) m)) rtP v2.heap.size (padC (k : Int)) (fun _ h => h.fm.bx 1 _ _ _ rfl) rfl (.tmp 12) rfl e1 u hy
          with_reducible refine quiet_one (.bool false) ?_ ?_ ?_
          · kernel_rfl
          · intro u hy
            generalize ha : Act.put _ _ _ = a
            have e1 : a.eval (.tmp 78) = .agg (padC (k : Int)) := by rw [← ha]; go_simp
            have e2 : a.eval (.tmp 79) = .agg (padC (k : Int)) := by rw [← ha]; go_simp
            clear ha
            exact q_ne (C := (Lk w [(w.heap.size, padC p, 23), (v2.heap.size, padC (k : Int), 23)] (some ⟨gb, ob, none⟩) m)) hE.out (.tmp 78) (.tmp 79) _ rfl e1 e2 u hy
          refine wpQuiet_nil ?_
          intro z6 K6
          replace K6 : Hid _ := K6
          go_simp
          go_wp2
          go_roundw
          case rel => exact ⟨k + 1, a, _, rfl, rfl, by simp, ⟨by have := hk16.out; omega, by have := hnext.out; simp at this; omega⟩, K6.out.pre (l := [(w.heap.size, padC p, 23)])⟩
          case measure => have := hk16.out; simp [intOf]; omega
        · have hae : a = L := by have := hai.out; omega
          clear hyes hno hal hai ai
          subst hae
          have qa : decide ((a : Int) < (a : Int)) = false := by simp
          go_wp2_with (first
            | ((with_reducible refine at_load rtP w.heap.size (padC p) ?_ ?_ (.tmp 3) ?_ ?_ ?_ ?_); exact K.out.fm.bx 0 _ _ _ rfl; rfl; kernel_rfl; rfl; rfl)
            | ((with_reducible refine at_bu #[(2, .const (.bool true)), (6, .const (.int .u8 2))] [(2, .bool true), (6, .int .u8 2)] B1 ?_ ?_ ?_ b1.out ?_); kernel_rfl; rfl; kernel_rfl)
            | (go_at_call 10; refine (hS1 _).mono ?_; rintro e v2 ⟨rfl, hb2⟩; have K2 : Hid (Lk w [(w.heap.size, padC p, 23)] sp m v2) := K.out.below hb2)
            | ((with_reducible refine gen_world (v2.alloc (.cells (padC 0) 23)) (Lk w [(w.heap.size, padC p, 23), (v2.heap.size, padC 0, 23)] sp m) ?_ ?_); exact K2.out.new _ _; intro y3 K3)
            | ((with_reducible refine at_st rtP v2.heap.size (padC 0) (padC (k : Int)) ?_ ?_ ?_ ?_ (.tmp 12) (.tmp 40) ?_ ?_ ?_ ?_ ?_); exact K3.out.fm.bx 1 _ _ _ rfl; rfl; rfl; exact padC_one _; rfl; rfl; rfl; rfl; intro y4 hw4; have K4 : Hid (Lk w [(w.heap.size, padC p, 23), (v2.heap.size, padC (k : Int), 23)] sp m y4) := K3.out.putP (i := 1) rfl (fun ad e => Nat.ne_of_lt (K2.out.blk ad e)) hw4.out; refine stopAt ?_))
          refine Stop.go ?_
          have d4 := (K4.out.fm.bx 1 _ _ _ rfl).c 0 _ (padC_0 (k : Int))
          go_wp2_with (first
            | ((with_reducible refine at_load rtP v2.heap.size (padC (k : Int)) ?_ ?_ (.tmp 12) ?_ ?_ ?_ ?_); exact K4.out.fm.bx 1 _ _ _ rfl; rfl; kernel_rfl; rfl; rfl)
            | (go_at_call 7; refine (hD _).mono ?_; rintro e y5 ⟨rfl, hb5⟩; have K5 : Hid (Lk w [(w.heap.size, padC p, 23), (v2.heap.size, padC (k : Int), 23)] sp m y5) := K4.out.below hb5))
          refine region_class_tail 13 (Lk w [(w.heap.size, padC p, 23), (v2.heap.size, padC (k : Int), 23)] sp m) (by kernel_rfl) (by kernel_rfl) (K5.out.below (below_drew (Below.refl _ _))) ?_
          simp only [List.take_succ_cons, List.take_zero, List.drop_succ_cons, List.drop_zero]
          with_reducible refine quiet_one (.agg (padC (k : Int))) ?_ ?_ ?_
          · kernel_rfl
          · exact q_load (C := (Lk w [(w.heap.size, padC p, 23), (v2.heap.size, padC (k : Int), 23)] sp m)) rtP v2.heap.size (padC (k : Int)) (fun _ h => h.fm.bx 1 _ _ _ rfl) rfl (.tmp 12) rfl (by go_simp)
          with_reducible refine quiet_one (.agg B2) ?_ ?_ ?_
          · kernel_rfl
          · exact q_bu (C := (Lk w [(w.heap.size, padC p, 23), (v2.heap.size, padC (k : Int), 23)] sp m)) #[(3, .const (.bool true)), (6, .const (.int .u8 2))] [(3, .bool true), (6, .int .u8 2)] B2 rfl (by first | kernel_rfl | rfl) b2.out
          with_reducible refine quiet_one (.int .u8 h) ?_ ?_ ?_
          · kernel_rfl
          · intro u hy
            go_simp
          with_reducible refine quiet_one (.agg (padC (k : Int))) ?_ ?_ ?_
          · kernel_rfl
          · intro u hy
            have d := (hS2 u).mono fun e w' (h : _ ∧ _) => And.intro h.1 (hy.below h.2)
            go_simp
            all_goals exact d
          with_reducible refine quiet_one (.agg (padC (k : Int))) ?_ ?_ ?_
          · kernel_rfl
          · intro u hy
            generalize ha : Act.put _ _ _ = a
            have e1 : a.eval (.tmp 12) = .pointer (some ⟨v2.heap.size, 0, none⟩) := by rw [← ha]; go_simp
            clear ha
            exact q_load (C := (Lk w [(w.heap.size, padC p, 23), (v2.heap.size, padC (k : Int), 23)] sp m)) rtP v2.heap.size (padC (k : Int)) (fun _ h => h.fm.bx 1 _ _ _ rfl) rfl (.tmp 12) rfl e1 u hy
          with_reducible refine quiet_one (.bool false) ?_ ?_ ?_
          · kernel_rfl
          · intro u hy
            generalize ha : Act.put _ _ _ = a
            have e1 : a.eval (.tmp 71) = .agg (padC (k : Int)) := by rw [← ha]; go_simp
            have e2 : a.eval (.tmp 72) = .agg (padC (k : Int)) := by rw [← ha]; go_simp
            clear ha
            exact q_ne (C := (Lk w [(w.heap.size, padC p, 23), (v2.heap.size, padC (k : Int), 23)] sp m)) hE.out (.tmp 71) (.tmp 72) _ rfl e1 e2 u hy
          with_reducible refine quiet_one (.bool false) ?_ ?_ ?_
          · kernel_rfl
          · intro u hy
            go_simp
          with_reducible refine quiet_one (.agg (padC (k : Int))) ?_ ?_ ?_
          · kernel_rfl
          · intro u hy
            generalize ha : Act.put _ _ _ = a
            have e1 : a.eval (.tmp 12) = .pointer (some ⟨v2.heap.size, 0, none⟩) := by rw [← ha]; go_simp
            clear ha
            exact q_load (C := (Lk w [(w.heap.size, padC p, 23), (v2.heap.size, padC (k : Int), 23)] sp m)) rtP v2.heap.size (padC (k : Int)) (fun _ h => h.fm.bx 1 _ _ _ rfl) rfl (.tmp 12) rfl e1 u hy
          with_reducible refine quiet_one (.agg B3) ?_ ?_ ?_
          · kernel_rfl
          · exact q_bu (C := (Lk w [(w.heap.size, padC p, 23), (v2.heap.size, padC (k : Int), 23)] sp m)) #[(2, .const (.bool true)), (6, .const (.int .u8 3))] [(2, .bool true), (6, .int .u8 3)] B3 rfl (by first | kernel_rfl | rfl) b3.out
          with_reducible refine quiet_one (.int .u8 h) ?_ ?_ ?_
          · kernel_rfl
          · intro u hy
            go_simp
          with_reducible refine quiet_one (.agg (padC (k : Int))) ?_ ?_ ?_
          · kernel_rfl
          · intro u hy
            have d := (hS3 u).mono fun e w' (h : _ ∧ _) => And.intro h.1 (hy.below h.2)
            go_simp
            all_goals exact d
          with_reducible refine quiet_one (.agg (padC (k : Int))) ?_ ?_ ?_
          · kernel_rfl
          · intro u hy
            generalize ha : Act.put _ _ _ = a
            have e1 : a.eval (.tmp 12) = .pointer (some ⟨v2.heap.size, 0, none⟩) := by rw [← ha]; go_simp
            clear ha
            exact q_load (C := (Lk w [(w.heap.size, padC p, 23), (v2.heap.size, padC (k : Int), 23)] sp m)) rtP v2.heap.size (padC (k : Int)) (fun _ h => h.fm.bx 1 _ _ _ rfl) rfl (.tmp 12) rfl e1 u hy
          with_reducible refine quiet_one (.bool false) ?_ ?_ ?_
          · kernel_rfl
          · intro u hy
            generalize ha : Act.put _ _ _ = a
            have e1 : a.eval (.tmp 78) = .agg (padC (k : Int)) := by rw [← ha]; go_simp
            have e2 : a.eval (.tmp 79) = .agg (padC (k : Int)) := by rw [← ha]; go_simp
            clear ha
            exact q_ne (C := (Lk w [(w.heap.size, padC p, 23), (v2.heap.size, padC (k : Int), 23)] sp m)) hE.out (.tmp 78) (.tmp 79) _ rfl e1 e2 u hy
          refine wpQuiet_nil ?_
          intro z6 K6
          replace K6 : Hid _ := K6
          go_simp
          go_wp2
          go_roundw
          case rel => exact ⟨k + 1, a, _, rfl, rfl, by simp, ⟨by have := hk16.out; omega, by have := hnext.out; simp at this; omega⟩, K6.out.pre (l := [(w.heap.size, padC p, 23)])⟩
          case measure => have := hk16.out; simp [intOf]; omega
      · have he : Hid _ := hyes rfl
        have hal : a < L := by have := (List.getElem?_eq_some_iff.1 he.out).1; rw [hL'.out] at this; exact this
        have ha1 : (a : Int) < L := by omega
        have ix := fun g off v => idxP (g := g) (off := off) (len := L) (cap := cap) Try.underlying31 (s := 1) (by kernel_rfl) .i64 a v hal
        simp only [Nat.mul_one] at ix
        have qe : ((k : Int) == (k : Int)) = true := by simp
        have hal' : Hid (a < L) := hal
        clear hyes hno hal
        obtain ⟨gb, ob, rfl, _⟩ := K.out.lies _ _ he.out
        have ix1 := ix gb ob
        clear ix
        go_wp2_with (first
          | ((with_reducible refine at_load rtP w.heap.size (padC p) ?_ ?_ (.tmp 3) ?_ ?_ ?_ ?_); exact K.out.fm.bx 0 _ _ _ rfl; rfl; kernel_rfl; rfl; rfl)
          | ((with_reducible refine at_bu #[(2, .const (.bool true)), (6, .const (.int .u8 2))] [(2, .bool true), (6, .int .u8 2)] B1 ?_ ?_ ?_ b1.out ?_); kernel_rfl; rfl; kernel_rfl)
          | (go_at_call 10; refine (hS1 _).mono ?_; rintro e v2 ⟨rfl, hb2⟩; have K2 : Hid (Lk w [(w.heap.size, padC p, 23)] (some ⟨gb, ob, none⟩) m v2) := K.out.below hb2)
          | ((with_reducible refine gen_world (v2.alloc (.cells (padC 0) 23)) (Lk w [(w.heap.size, padC p, 23), (v2.heap.size, padC 0, 23)] (some ⟨gb, ob, none⟩) m) ?_ ?_); exact K2.out.new _ _; intro y3 K3)
          | ((with_reducible refine at_st rtP v2.heap.size (padC 0) (padC (k : Int)) ?_ ?_ ?_ ?_ (.tmp 12) (.tmp 40) ?_ ?_ ?_ ?_ ?_); exact K3.out.fm.bx 1 _ _ _ rfl; rfl; rfl; exact padC_one _; rfl; rfl; rfl; rfl; intro y4 hw4; have K4 : Hid (Lk w [(w.heap.size, padC p, 23), (v2.heap.size, padC (k : Int), 23)] (some ⟨gb, ob, none⟩) m y4) := K3.out.putP (i := 1) rfl (fun ad e => Nat.ne_of_lt (K2.out.blk ad e)) hw4.out; refine stopAt ?_))
        refine Stop.go ?_
        have hcell : y4.cell? ⟨gb, ob + a, none⟩ = some (.int .i64 (k : Int)) := by
          obtain ⟨gb', ob', e', c'⟩ := K4.out.lies _ _ he.out
          cases e'
          exact c'
        have d4 := (K4.out.fm.bx 1 _ _ _ rfl).c 0 _ (padC_0 (k : Int))
        go_wp2_with (first
          | ((with_reducible refine at_load rtP v2.heap.size (padC (k : Int)) ?_ ?_ (.tmp 12) ?_ ?_ ?_ ?_); exact K4.out.fm.bx 1 _ _ _ rfl; rfl; kernel_rfl; rfl; rfl)
          | (go_at_call 7; refine (hD _).mono ?_; rintro e y5 ⟨rfl, hb5⟩; have K5 : Hid (Lk w [(w.heap.size, padC p, 23), (v2.heap.size, padC (k : Int), 23)] (some ⟨gb, ob, none⟩) m y5) := K4.out.below hb5))
        refine region_class_tail 13 (Lk w [(w.heap.size, padC p, 23), (v2.heap.size, padC (k : Int), 23)] (some ⟨gb, ob, none⟩) m) (by kernel_rfl) (by kernel_rfl) (K5.out.below (below_drew (Below.refl _ _))) ?_
        simp only [List.take_succ_cons, List.take_zero, List.drop_succ_cons, List.drop_zero]
        with_reducible refine quiet_one (.agg (padC (k : Int))) ?_ ?_ ?_
        · kernel_rfl
        · exact q_load (C := (Lk w [(w.heap.size, padC p, 23), (v2.heap.size, padC (k : Int), 23)] (some ⟨gb, ob, none⟩) m)) rtP v2.heap.size (padC (k : Int)) (fun _ h => h.fm.bx 1 _ _ _ rfl) rfl (.tmp 12) rfl (by go_simp)
        with_reducible refine quiet_one (.agg B2) ?_ ?_ ?_
        · kernel_rfl
        · exact q_bu (C := (Lk w [(w.heap.size, padC p, 23), (v2.heap.size, padC (k : Int), 23)] (some ⟨gb, ob, none⟩) m)) #[(3, .const (.bool true)), (6, .const (.int .u8 2))] [(3, .bool true), (6, .int .u8 2)] B2 rfl (by first | kernel_rfl | rfl) b2.out
        with_reducible refine quiet_one (.int .u8 h) ?_ ?_ ?_
        · kernel_rfl
        · intro u hy
          go_simp
        with_reducible refine quiet_one (.agg (padC (k : Int))) ?_ ?_ ?_
        · kernel_rfl
        · intro u hy
          have d := (hS2 u).mono fun e w' (h : _ ∧ _) => And.intro h.1 (hy.below h.2)
          go_simp
          all_goals exact d
        with_reducible refine quiet_one (.agg (padC (k : Int))) ?_ ?_ ?_
        · kernel_rfl
        · intro u hy
          generalize ha : Act.put _ _ _ = a
          have e1 : a.eval (.tmp 12) = .pointer (some ⟨v2.heap.size, 0, none⟩) := by rw [← ha]; go_simp
          clear ha
          exact q_load (C := (Lk w [(w.heap.size, padC p, 23), (v2.heap.size, padC (k : Int), 23)] (some ⟨gb, ob, none⟩) m)) rtP v2.heap.size (padC (k : Int)) (fun _ h => h.fm.bx 1 _ _ _ rfl) rfl (.tmp 12) rfl e1 u hy
        with_reducible refine quiet_one (.bool false) ?_ ?_ ?_
        · kernel_rfl
        · intro u hy
          generalize ha : Act.put _ _ _ = a
          have e1 : a.eval (.tmp 71) = .agg (padC (k : Int)) := by rw [← ha]; go_simp
          have e2 : a.eval (.tmp 72) = .agg (padC (k : Int)) := by rw [← ha]; go_simp
          clear ha
          exact q_ne (C := (Lk w [(w.heap.size, padC p, 23), (v2.heap.size, padC (k : Int), 23)] (some ⟨gb, ob, none⟩) m)) hE.out (.tmp 71) (.tmp 72) _ rfl e1 e2 u hy
        with_reducible refine quiet_one (.bool false) ?_ ?_ ?_
        · kernel_rfl
        · intro u hy
          go_simp
        with_reducible refine quiet_one (.agg (padC (k : Int))) ?_ ?_ ?_
        · kernel_rfl
        · intro u hy
          generalize ha : Act.put _ _ _ = a
          have e1 : a.eval (.tmp 12) = .pointer (some ⟨v2.heap.size, 0, none⟩) := by rw [← ha]; go_simp
          clear ha
          exact q_load (C := (Lk w [(w.heap.size, padC p, 23), (v2.heap.size, padC (k : Int), 23)] (some ⟨gb, ob, none⟩) m)) rtP v2.heap.size (padC (k : Int)) (fun _ h => h.fm.bx 1 _ _ _ rfl) rfl (.tmp 12) rfl e1 u hy
        with_reducible refine quiet_one (.agg B3) ?_ ?_ ?_
        · kernel_rfl
        · exact q_bu (C := (Lk w [(w.heap.size, padC p, 23), (v2.heap.size, padC (k : Int), 23)] (some ⟨gb, ob, none⟩) m)) #[(2, .const (.bool true)), (6, .const (.int .u8 3))] [(2, .bool true), (6, .int .u8 3)] B3 rfl (by first | kernel_rfl | rfl) b3.out
        with_reducible refine quiet_one (.int .u8 h) ?_ ?_ ?_
        · kernel_rfl
        · intro u hy
          go_simp
        with_reducible refine quiet_one (.agg (padC (k : Int))) ?_ ?_ ?_
        · kernel_rfl
        · intro u hy
          have d := (hS3 u).mono fun e w' (h : _ ∧ _) => And.intro h.1 (hy.below h.2)
          go_simp
          all_goals exact d
        with_reducible refine quiet_one (.agg (padC (k : Int))) ?_ ?_ ?_
        · kernel_rfl
        · intro u hy
          generalize ha : Act.put _ _ _ = a
          have e1 : a.eval (.tmp 12) = .pointer (some ⟨v2.heap.size, 0, none⟩) := by rw [← ha]; go_simp
          clear ha
          exact q_load (C := (Lk w [(w.heap.size, padC p, 23), (v2.heap.size, padC (k : Int), 23)] (some ⟨gb, ob, none⟩) m)) rtP v2.heap.size (padC (k : Int)) (fun _ h => h.fm.bx 1 _ _ _ rfl) rfl (.tmp 12) rfl e1 u hy
        with_reducible refine quiet_one (.bool false) ?_ ?_ ?_
        · kernel_rfl
        · intro u hy
          generalize ha : Act.put _ _ _ = a
          have e1 : a.eval (.tmp 78) = .agg (padC (k : Int)) := by rw [← ha]; go_simp
          have e2 : a.eval (.tmp 79) = .agg (padC (k : Int)) := by rw [← ha]; go_simp
          clear ha
          exact q_ne (C := (Lk w [(w.heap.size, padC p, 23), (v2.heap.size, padC (k : Int), 23)] (some ⟨gb, ob, none⟩) m)) hE.out (.tmp 78) (.tmp 79) _ rfl e1 e2 u hy
        refine wpQuiet_nil ?_
        intro z6 K6
        replace K6 : Hid _ := K6
        go_simp
        go_wp2
        go_roundw
        case rel => exact ⟨k + 1, a + 1, _, rfl, by simp, by simp, ⟨by have := hk16.out; omega, by have := hnext.out; simp at this; omega⟩, K6.out.pre (l := [(w.heap.size, padC p, 23)])⟩
        case measure => have := hk16.out; simp [intOf]; omega
    · have hke : k = 16 := by have := hk.out.1; omega
      subst hke
      have haL : a = L := by rw [hk.out.2, ← hL'.out, keysI_length]
      subst haL
      have qL : ((a : Int) == (a : Int)) = true := by simp
      clear hlt
      go_wp2_with (go_at_call 9; refine (hA _).mono ?_; rintro e v9 ⟨rfl, hb9⟩; have K9 : Hid _ := K.out.fm.below hb9)
      go_ret
      exact ⟨by first | rfl | simp, K9.out.low⟩
end Go.Proofs.Ytabhhmkbcnabmaa
