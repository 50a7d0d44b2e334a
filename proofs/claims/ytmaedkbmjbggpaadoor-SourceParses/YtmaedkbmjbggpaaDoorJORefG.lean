/- The document's answer: a number in so many digits, what a digit says. -/
import Derived.Test.YtmaedkbmjbggpaaDoorJORefE
import Derived.Test.YtmaedkbmjbggpaaDoorJHex
import Derived.OwnWalk
namespace Go.Proofs.YtmaedkbmjbggpaaDoor
open Go.RowKit
set_option linter.unusedVariables false
set_option maxHeartbeats 1000000
set_option maxRecDepth 20000

def valI (c : Int) : Int := match digV c with
  | none => -1
  | some v => v
theorem rvalue_any (c : Int) (w : World) (h0 : 0 ≤ c) (h1 : c < 256) : Calls Tryd.prog 100 #[.int .u8 c] w fun e w' => e = .returned (.int .i64 (valI c)) ∧ w' = w := by
  have hv : valI c = if 48 ≤ c ∧ c ≤ 57 then c - 48 else if 97 ≤ c ∧ c ≤ 102 then c - 87 else -1 := by
    unfold valI digV
    split
    · rename_i h; split at h
      · cases h
      · split at h
        · cases h
        · rename_i a b; rw [if_neg a, if_neg b]
    · rename_i x h; split at h
      · rename_i a; rw [if_pos a]; simp at h; omega
      · split at h
        · rename_i a b; rw [if_neg a, if_pos b]; simp at h; omega
        · cases h
  have hv' : Hid (valI c = if 48 ≤ c ∧ c ≤ 57 then c - 48 else if 97 ≤ c ∧ c ≤ 102 then c - 87 else -1) := hv
  obtain ⟨r, hr⟩ : ∃ r, Hid (valI c = r) := ⟨_, (rfl : valI c = valI c)⟩
  rw [hr.out]
  clear hv
  go_enter Tryd.func100, Tryd.ntmps100
  go_wp2
  all_goals go_ret
  all_goals refine ⟨ret_i64 ?_, rfl⟩
  all_goals rw [← hr.out, hv'.out]
  all_goals ((repeat' split) <;> omega)

theorem rows_set {cur : Array Value} {j : Nat} {u : Value} {D k : Nat} {f : Nat → Value} (hk : k = j + 1) (hj : j < cur.size) (h : ∀ i, k ≤ i → i < D → cur[i]? = some (f i)) (hu : u = f j) : ∀ i, j ≤ i → i < D → (cur.setIfInBounds j u)[i]? = some (f i) := fun i h1 h2 => by
  by_cases e : i = j
  · subst e; rw [hu]; simp [hj]
  · rw [Array.getElem?_setIfInBounds_ne (by omega)]; exact h i (by omega) h2

theorem rdigits_any (N D : Nat) (w : World) (h1 : 1 ≤ D) (h2 : D ≤ 8) (h3 : N ≤ 9223372036854775807) :
    Calls Tryd.prog 76 #[.int .i64 N, .int .i64 D] w fun e w' => e = .returned (.string (hexS D N)) ∧ Below w.heap.size w w' := by
  obtain ⟨i0, hi, hz0, hz1, hz2⟩ := info_parts info5
  go_enter Tryd.func76, Tryd.ntmps76
  go_wp2
  go_loopw [5, 6] (fun v i wr => ∃ k : Nat, k ≤ D ∧ i = .int .i64 (k : Int) ∧ wr.ownsRow w.heap.size 5 1 v k (List.replicate k (.int .u8 0)) ∧ Below w.heap.size w wr) (fun _ i _ => (D - intOf i).toNat)
  case atStart => exact ⟨0, by omega, rfl, World.ownsRow_nil _ _ _ _, Below.refl _ _⟩
  case round =>
    rename_i wr
    obtain ⟨k, hk, rfl, hown, HB⟩ := hrel
    by_cases hlt : k < D
    · go_wp2_with (at_builtin; refine wpList_append_own _ rfl (.tmp 13) (.tmp 14) 37 rfl w.heap.size 5 i0 (.int .u8 0) 1 1 Tryd.underlying37 hi hz0 hz1 hz2 rfl (by decide) _ k (List.replicate k (.int .u8 0)) rfl (hown.alloc _) ⟨wr.heap.size, 0, none⟩ 1 1 [.int .u8 0] rfl rfl ?c1 ?c2 ?c3 ?c4 ?c5 ?_)
      case c1 =>
        intro j u hj
        match j, hj with
        | 0, hj => simp at hj; subst hj; simp [Addr.add]
      case c2 => intro u hu; simp at hu; subst hu; rfl
      case c3 => unfold maxLen; omega
      case c4 => omega
      case c5 => have := HB.size; simp; omega
      · intro v' w1 hown' hgrow _
        have R : w1.ownsRow w.heap.size 5 1 v' (k + 1) (List.replicate (k + 1) (.int .u8 0)) := by rw [List.replicate_succ']; exact hown'
        have RB : Below w.heap.size w w1 := Below.grown (HB.alloc HB.size _) hgrow (by have := HB.size; simp; omega) (fun q hq => (hown.lt q hq).1)
        clear hown' hgrow hown
        go_wp2
        go_roundw
        case rel => exact ⟨k + 1, by omega, by go_num, R, RB⟩
        case measure => simp [intOf]; omega
    · have hkD : k = D := by omega
      subst hkD
      clear hk hlt
      have hown' := hown.2
      clear hown
      rcases hown' with ⟨_, h0⟩ | ⟨g, cap, cur0, rfl, hbg, hg, hn, hcm, hcs, htake⟩
      · omega
      clear htake
      go_wp2
      go_loopw [0, 7] (fun n i wz => ∃ (m M : Nat) (cur : Array Value) (wx : World), wx = wz ∧ m ≤ k ∧ i = .int .i64 ((m : Int) - 1) ∧ n = .int .i64 (M : Int) ∧ Hid (M = N / 16 ^ (k - m)) ∧ Hid (wx.heap[g]? = some (.cells cur 5 (0, 0))) ∧ cur.size = cap ∧ Hid (∀ j, m ≤ j → j < k → cur[j]? = some (.int .u8 (hexAt k N j))) ∧ Below w.heap.size w wx) (fun _ i _ => (intOf i + 1).toNat)
      case atStart => exact ⟨k, N, cur0, _, rfl, Nat.le_refl _, rfl, rfl, show N = N / 16 ^ (k - k) by simp, hg, by omega, (fun j a b => absurd a (by omega) : ∀ j, k ≤ j → j < k → cur0[j]? = some (.int .u8 (hexAt k N j))), HB⟩
      case round =>
        obtain ⟨m, M, cur, wx, rfl, hm, rfl, rfl, hM, hgx, hcur, hdone, HX⟩ := hrel
        have hMN : M ≤ 9223372036854775807 := Nat.le_trans (hM.out ▸ Nat.div_le_self _ _) h3
        cases m with
        | zero =>
          have hcv : (convert 37 9 (.slice (some ⟨g, 0, none⟩) k cap)).run Tryd.prog wx = .ok (.string (hexS k N)) wx := by
            have h := run_convert_bytes_back (P := Tryd.prog) wx 37 9 5 ⟨g, 0, none⟩ cap (hexL k N) Tryd.underlying37 Tryd.underlying5 Tryd.underlying9 (fun j hj => by
              have hj' : j < k := by simpa [hexL_len] using hj
              have hadd : (⟨g, 0, none⟩ : Addr).add j = ⟨g, j, none⟩ := by unfold Addr.add; split <;> simp_all
              rw [hadd, hexL_get]
              unfold World.cell?
              simp only [hgx.out]
              simpa using hdone.out j (by omega) hj')
            rw [hexL_len] at h
            exact h
          go_wp2
          go_ret
          exact ⟨rfl, HX⟩
        | succ j =>
          rw [show ((j + 1 : Nat) : Int) - 1 = (j : Int) from by omega]
          have hjc : j < cur.size := by omega
          have hc : wx.cell? ⟨g, j, none⟩ = some cur[j] := by unfold World.cell?; simp [hgx.out, hjc]
          have hfz : wx.frozen? ⟨g, j, none⟩ = false := by unfold World.frozen?; simp [hgx.out]
          have ij := fun v => idxS (g := g) (off := 0) (len := k) (cap := cap) Tryd.underlying37 (s := 1) (by kernel_rfl) .i64 j v (by omega)
          simp only [Nat.zero_add, Nat.mul_one] at ij
          have hsg := signs (M % 16) (by omega)
          have hset := heap_setCell_same wx g j cur 5 (.int .u8 (hexC ((M : Int) % 16))) hgx.out
          have hset' : Hid ((wx.setCell ⟨g, j, none⟩ (.int .u8 (hexC ((M : Int) % 16)))).heap[g]? = some (.cells (cur.setIfInBounds j (.int .u8 (hexC ((M : Int) % 16)))) 5 (0, 0))) := hset
          clear hset
          go_wp2
          go_roundw
          case rel => exact ⟨j, M / 16, _, _, rfl, by omega, rfl, by simp, hex_next N k j M (by omega) hM.out, hset', by simpa using hcur, rows_set rfl hjc hdone.out (by rw [hex_here N k j M hM.out]), below_set HX hbg⟩
          case measure => simp [intOf]
end Go.Proofs.YtmaedkbmjbggpaaDoor
/- The document's answer: Encode, Decode and Print, whole. -/
namespace Go.Proofs.YtmaedkbmjbggpaaDoor
open Go.RowKit
set_option linter.unusedVariables false
set_option maxHeartbeats 1000000
set_option maxRecDepth 20000

theorem mayB_no {n : Nat} {A : Int} (h : ¬ may n A) : mayB n A = false := by
  rcases e : mayB n A with _ | _
  · rfl
  · exact absurd ((mayB_iff n A).1 e) h
theorem renc_badA (S : ByteArray) (A : Int) (n : Nat) (ho : opOf S = some n) (h : ¬ may n A) (w : World) :
    Calls Tryd.prog 72 #[.agg #[.string S, .int .i64 A]] w fun e w' => e = .returned (.tuple #[.slice none 0 0, .int .i64 21]) ∧ Below w.heap.size w w' := by
  obtain ⟨hn, _⟩ := opOf_lt ho
  have hM := fun v => rmay_any n A v hn (opOf_bs ho)
  rw [mayB_no h] at hM
  exact renc_bad S A n ho (by omega) hM w
theorem renc_good (S : ByteArray) (A : Int) (n : Nat) (ho : opOf S = some n) (hm : may n A) (w : World) :
    Calls Tryd.prog 72 #[.agg #[.string S, .int .i64 A]] w (Coded w (encB n A)) := by
  obtain ⟨hn, _⟩ := opOf_lt ho
  have hbs := opOf_bs ho
  have hM := fun v => rmay_any n A v hn hbs
  rw [(mayB_iff n A).2 hm] at hM
  have hF := fun v => rform_any n v hn
  have hf := fm_le n hn
  have hh := held_first n hn hbs
  have hz := held_lt n (fm n)
  unfold may at hm
  have l1 : lay (1 * 3 + 2) = 0 := by decide
  have l2 : lay (2 * 3 + 2) = 15 := by decide
  have l3 : lay (3 * 3 + 2) = 7 := by decide
  have l4 : lay (4 * 3 + 2) = 255 := by decide
  have l5 : lay (5 * 3 + 2) = 255 := by decide
  have l6 : lay (6 * 3 + 2) = 65535 := by decide
  have hd : fm n = 1 ∨ fm n = 2 ∨ fm n = 3 ∨ fm n = 4 ∨ fm n = 5 ∨ fm n = 6 := by omega
  unfold encB Coded
  rcases hd with e | e | e | e | e | e
  all_goals rw [e] at hF hm hz ⊢
  · exact renc_ok1 S A n ho (by omega) hM hF (by omega) (by omega) w
  · have hc : held n 2 = n % 16 := hz.2.2.1 rfl
    refine (renc_ok2 S A n ho (by omega) hM hF (by omega) (by omega) (by omega) w).mono ?_
    rintro e' w' ⟨b, h1, h2, h3, h4⟩
    refine ⟨b, h1, h2, ?_, h4⟩
    rw [h3]
    have : (n : Int) / 16 * 16 + A = (n : Int) + (A - (held n 2 : Nat)) := by omega
    rw [this]
    rfl
  · have hc : held n 3 = 1 := hh.2 e
    have hc' : held n 3 = n % 8 := hz.2.2.2.1 rfl
    refine (renc_ok3 S A n ho (by omega) hM hF (by omega) (by omega) (by omega) (by omega) w).mono ?_
    rintro e' w' ⟨b, h1, h2, h3, h4⟩
    refine ⟨b, h1, h2, ?_, h4⟩
    rw [h3]
    have : (n : Int) - 1 + A = (n : Int) + (A - (held n 3 : Nat)) := by omega
    rw [this]
    rfl
  · exact renc_ok4 S A n ho (by omega) hM hF (by omega) (by omega) w
  · exact renc_ok5 S A n ho (by omega) hM hF (by omega) (by omega) w
  · exact renc_ok6 S A n ho (by omega) hM hF (by omega) (by omega) w

theorem rprint_none (S : ByteArray) (A : Int) (ho : Hid (opOf S = none)) (w : World) :
    Calls Tryd.prog 45 #[.agg #[.string S, .int .i64 A]] w fun e w' => e = .returned (.tuple #[.string ⟨#[]⟩, .int .i64 20]) ∧ Below w.heap.size w w' := by
  go_enter Tryd.func45, Tryd.ntmps45
  go_wp2_with (go_at_call 72; refine (renc_none S A ho _).mono ?_; rintro e v1 ⟨rfl, hb1⟩; replace hb1 := below_own hb1)
  go_ret2
  exact ⟨rfl, hb1⟩
theorem rprint_bad (S : ByteArray) (A : Int) (n : Nat) (ho : Hid (opOf S = some n)) (hm : Hid (¬ may n A)) (w : World) :
    Calls Tryd.prog 45 #[.agg #[.string S, .int .i64 A]] w fun e w' => e = .returned (.tuple #[.string ⟨#[]⟩, .int .i64 21]) ∧ Below w.heap.size w w' := by
  go_enter Tryd.func45, Tryd.ntmps45
  go_wp2_with (go_at_call 72; refine (renc_badA S A n ho.out hm.out _).mono ?_; rintro e v1 ⟨rfl, hb1⟩; replace hb1 := below_own hb1)
  go_ret2
  exact ⟨rfl, hb1⟩
theorem rprint_bare (S : ByteArray) (A : Int) (n : Nat) (ho : Hid (opOf S = some n)) (hm : Hid (may n A)) (hn : (n : Int) < 256) (hF : ∀ v, Calls Tryd.prog 74 #[.int .u8 n] v fun e v' => e = .returned (.int .u8 1) ∧ v' = v) (w : World) :
    Calls Tryd.prog 45 #[.agg #[.string S, .int .i64 A]] w fun e w' => e = .returned (.tuple #[.string S, .int .i64 0]) ∧ Below w.heap.size w w' := by
  obtain ⟨k, hk⟩ : ∃ k, Hid ((encB n A).length = k) := ⟨_, (rfl : (encB n A).length = (encB n A).length)⟩
  have hE := fun v => renc_good S A n ho.out hm.out v
  unfold Coded at hE
  rw [hk.out] at hE
  have hW : ∀ v, Calls Tryd.prog 73 #[.int .u8 1] v fun e v' => e = .returned (.int .i64 0) ∧ v' = v := fun v => rwide_any 1 v (by decide) (by decide)
  go_enter Tryd.func45, Tryd.ntmps45
  go_wp2_with (first
    | (go_at_call 72; refine (hE _).mono ?_; rintro e v1 ⟨b, hbb, rfl, hbc, hb1⟩; have G := holds_new hb1; have a0 : v1.cell? ⟨w.heap.size, 0, none⟩ = some (.string S) := G 0 (by simp); replace hb1 := below_own hb1)
    | (go_at_call 75; refine (rfirst_any S _ ho _).mono ?_; unfold firstI; rintro e v2 ⟨rfl, hb2⟩; replace G := G.mono hb2; clear a0; have a0 : v2.cell? ⟨w.heap.size, 0, none⟩ = some (.string S) := G 0 (by simp); replace hb2 := hb1.trans (hb2.mono hb1.size))
    | (go_at_call 74; refine (hF _).mono ?_; rintro e v ⟨rfl, rfl⟩)
    | (go_at_call 73; refine (hW _).mono ?_; rintro e v ⟨rfl, rfl⟩))
  go_ret2
  exact ⟨rfl, hb2⟩
theorem rprint_reg (S : ByteArray) (a : Nat) (n : Nat) (ho : Hid (opOf S = some n)) (hm : Hid (may n a)) (hn : (n : Int) < 256) (F D : Nat) (hF : ∀ v, Calls Tryd.prog 74 #[.int .u8 n] v fun e v' => e = .returned (.int .u8 F) ∧ v' = v) (hW : ∀ v, Calls Tryd.prog 73 #[.int .u8 F] v fun e v' => e = .returned (.int .i64 D) ∧ v' = v) (hS4 : S.size ≤ 4) (hD : 1 ≤ D) (hD8 : D ≤ 8) (ha : a ≤ 65535) (w : World) :
    Calls Tryd.prog 45 #[.agg #[.string S, .int .i64 a]] w fun e w' => e = .returned (.tuple #[.string (S ++ ⟨#[32]⟩ ++ hexS D a), .int .i64 0]) ∧ Below w.heap.size w w' := by
  obtain ⟨k, hk⟩ : ∃ k, Hid ((encB n a).length = k) := ⟨_, (rfl : (encB n a).length = (encB n a).length)⟩
  have hE := fun v => renc_good S a n ho.out hm.out v
  unfold Coded at hE
  rw [hk.out] at hE
  have b1 : (ByteArray.mk #[32]).size = 1 := rfl
  have b2 : (hexS D a).size = D := by show (hexL D a).toArray.size = _; simp [hexL_len]
  have b3 : (S ++ ByteArray.mk #[32]).size = S.size + 1 := by rw [ByteArray.size_append, b1]
  have cat1 := fun w => cat_run Tryd.prog S ⟨#[32]⟩ w (by omega)
  have cat2 := fun w => cat_run Tryd.prog (S ++ ⟨#[32]⟩) (hexS D a) w (by omega)
  clear b1 b2 b3
  have hG : ∀ v, Calls Tryd.prog 76 #[.int .i64 a, .int .i64 D] v fun e v' => e = .returned (.string (hexS D a)) ∧ Below v.heap.size v v' := fun v => rdigits_any a D v hD hD8 (by omega)
  go_enter Tryd.func45, Tryd.ntmps45
  go_wp2_with (first
    | (go_at_call 72; refine (hE _).mono ?_; rintro e v1 ⟨b, hbb, rfl, hbc, hb1⟩; have G := holds_new hb1; have a0 : v1.cell? ⟨w.heap.size, 0, none⟩ = some (.string S) := G 0 (by simp); replace hb1 := below_own hb1)
    | (go_at_call 75; refine (rfirst_any S _ ho _).mono ?_; unfold firstI; rintro e v2 ⟨rfl, hb2⟩; replace G := G.mono hb2; clear a0; have a0 : v2.cell? ⟨w.heap.size, 0, none⟩ = some (.string S) := G 0 (by simp); have a1 : v2.cell? ⟨w.heap.size, 1, none⟩ = some (.int .i64 a) := G 1 (by simp); have sz := own_size a0; replace hb2 := hb1.trans (hb2.mono hb1.size))
    | (go_at_call 74; refine (hF _).mono ?_; rintro e v ⟨rfl, rfl⟩)
    | (go_at_call 73; refine (hW _).mono ?_; rintro e v ⟨rfl, rfl⟩))
  rename_i v2
  go_region_with (go_at_call 76; refine (hG _).mono ?_; rintro e v3 ⟨rfl, hb3⟩; have x0 := (hb3.cell (p := ⟨w.heap.size, 0, none⟩) sz).trans a0)
  all_goals go_wp2
  all_goals go_ret2
  all_goals refine ⟨rfl, Below.trans (B := w.heap.size) ?_ (hb3.mono (Nat.le_of_lt sz))⟩
  all_goals repeat (first | exact hb2 | refine Below.drew ?_ | refine below_drewN ?_)
end Go.Proofs.YtmaedkbmjbggpaaDoor
