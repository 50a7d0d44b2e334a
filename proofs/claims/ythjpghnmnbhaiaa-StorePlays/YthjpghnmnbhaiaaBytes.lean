/- The law's own look at bytes that come out: each its owner's, written full and grown. -/
import Derived.Test.YthjpghnmnbhaiaaLent
import Derived.ArgAppend
namespace Go.Proofs.Ythjpghnmnbhaiaa
open Go Go.RowKit
set_option linter.unusedVariables false
set_option maxHeartbeats 1000000
set_option maxRecDepth 20000

/-- A row of n bytes, grown by k equal ones: from the first on it lies in memory of its own. -/
def App (w0 wx : World) (b n : Nat) (Z : Nat → Int) (c : Int) (k : Nat) (x : Value) : Prop :=
  Below w0.heap.size w0 wx ∧ ((k = 0 ∧ x = .slice (some ⟨b, 0, none⟩) n n) ∨ (0 < k ∧ wx.ownsRow w0.heap.size 5 1 x (n + k) (rowOf n Z ++ List.replicate k (.int .u8 c))))
theorem owns_weaken {w : World} {B B' n : Nat} {v : Value} {xs : List Value} (h : w.ownsRow B 5 1 v n xs) (hB : B' ≤ B) : w.ownsRow B' 5 1 v n xs := by
  refine ⟨h.1, ?_⟩
  rcases h.2 with hn | ⟨g, cap, cur, h1, h2, h3⟩
  · exact .inl hn
  · exact .inr ⟨g, cap, cur, h1, Nat.le_trans hB h2, h3⟩
theorem one_at (x : World) (c : Int) : ∀ (j : Nat) (u : Value), [Value.int .u8 c][j]? = some u → (x.alloc (.cells #[.int .u8 c] 5)).cell? ((⟨x.heap.size, 0, none⟩ : Addr).add j) = some u := fun j u hu => by
  cases j with
  | zero => simp at hu; subst hu; unfold World.cell? World.alloc Addr.add; simp
  | succ j => simp at hu
theorem App.first {w0 wx w' : World} {b n : Nat} {Z : Nat → Int} {c : Int} {v' : Value} {o : Obj} (h : Below w0.heap.size w0 wx) (ho : w'.ownsRow (wx.heap.size + 1) 5 1 v' (n + 1) (rowOf n Z ++ [.int .u8 c])) (hg : (wx.alloc o).grownBy w' none) : App w0 w' b n Z c (0 + 1) v' :=
  ⟨Below.grown (h.alloc h.size o) hg (by have := h.size; simp; omega) (fun k hk => by cases hk), .inr ⟨by omega, owns_weaken ho (by have := h.size; omega)⟩⟩
theorem App.next {w0 wx w' : World} {b n k : Nat} {Z : Nat → Int} {c : Int} {v v' : Value} {o : Obj} (h : Below w0.heap.size w0 wx) (hv : wx.ownsRow w0.heap.size 5 1 v (n + k) (rowOf n Z ++ List.replicate k (.int .u8 c))) (ho : w'.ownsRow w0.heap.size 5 1 v' (n + k + 1) (rowOf n Z ++ (List.replicate k (.int .u8 c) ++ [.int .u8 c]))) (hg : (wx.alloc o).grownBy w' v.ownBlock) : App w0 w' b n Z c (k + 1) v' := by
  refine ⟨Below.grown (h.alloc h.size o) hg (by have := h.size; simp; omega) (fun q hq => ((hv.alloc o).lt q hq).1), .inr ⟨by omega, ?_⟩⟩
  rw [← List.replicate_succ'] at ho
  exact ho
theorem App.fin {w0 wx : World} {b n : Nat} {Z : Nat → Int} {c : Int} {k : Nat} {x : Value} (h : App w0 wx b n Z c k x) (hk : 0 < k) : ∃ g cap, x = .slice (some ⟨g, 0, none⟩) (n + k) cap ∧ g < wx.heap.size ∧ ∀ j, n ≤ j → j < n + k → wx.cell? ⟨g, j, none⟩ = some (.int .u8 c) := by
  rcases h.2 with ⟨h0, _⟩ | ⟨_, ho⟩
  · omega
  rcases ho.2 with ⟨_, h0⟩ | ⟨g, cap, cur, h1, _, h3, _, _, h4, h5⟩
  · omega
  refine ⟨g, cap, h1, heap_lt h3, fun j hj hj2 => ?_⟩
  rw [cell_heap h3]
  have e : cur.toList[j]? = (rowOf n Z ++ List.replicate k (Value.int .u8 c))[j]? := by
    rw [← h5, List.getElem?_take, if_pos (by omega)]
  rw [← Array.getElem?_toList, e, List.getElem?_append_right (by rw [rowOf_len]; exact hj), rowOf_len, List.getElem?_replicate, if_pos (by omega)]

theorem bytes_any (w : World) (ba bb bc n : Nat) (hn : n ≤ 32768) (Y : Nat → Int) (ha : Hid (Blk w ba n Y)) (hb : Hid (Blk w bb n Y)) (hc : Hid (Blk w bc n Y)) (h1 : ba ≠ bb) (h2 : ba ≠ bc) :
    Calls Try.prog 36 #[.slice (some ⟨ba, 0, none⟩) n n, .slice (some ⟨bb, 0, none⟩) n n, .slice (some ⟨bc, 0, none⟩) n n] w fun e w' => e = .returned (.bool true) ∧ Upd (· = ba) w w' := by
  obtain ⟨i5, hi5, hy0, hy1, hy2⟩ := info_parts infoB
  have n32 : (n : Int) ≤ 32768 := by omega
  have hn' : Hid (n ≤ 32768) := hn
  have SA := same_true w (some ⟨ba, 0, none⟩) (some ⟨bc, 0, none⟩) n n n Y (by omega) ha.out.lies hc.out.lies
  have SB : Hid (∀ x, Upd (· = ba) w x → Calls Try.prog 17 #[.slice (some ⟨bb, 0, none⟩) n n, .slice (some ⟨bc, 0, none⟩) n n] x fun e w' => e = .returned (.bool true) ∧ ∃ k, w' = x.drewN k) := fun x u => same_true x (some ⟨bb, 0, none⟩) (some ⟨bc, 0, none⟩) n n n Y (by omega) (hb.out.keep u (fun e => h1 e.symm)).lies (hc.out.keep u (fun e => h2 e.symm)).lies
  have hd : Hid (ba ≠ bb) := h1
  clear hn h1 h2
  go_enter Try.func36, Try.ntmps36
  go_wp2_with (first
    | (go_at_call_of 17 (Value.slice (some ⟨ba, 0, none⟩) n n); refine SA.mono ?_; rintro e w1 ⟨rfl, q, hq⟩; subst hq)
    | (go_at_call_of 17 (Value.slice (some ⟨bb, 0, none⟩) n n); refine (SB.out _ (Upd.drewN (Upd.refl _ _))).mono ?_; rintro e w1 ⟨rfl, q2, hq⟩; subst hq))
  go_loopw [7] (fun i wz => ∃ (k : Nat) (wx : World), wx = wz ∧ k ≤ n ∧ i = .int .i64 (k : Int) ∧ Hid ((∃ Z, Blk wx ba n Z) ∧ Upd (· = ba) w wx)) (fun i _ => (n - intOf i).toNat)
  case atStart => exact ⟨0, _, rfl, by omega, rfl, ⟨⟨_, ha.out⟩, Upd.drewN (Upd.refl _ _)⟩⟩
  case round =>
    obtain ⟨k, wx, rfl, hk, rfl, HX⟩ := hrel
    clear SA
    by_cases hlt : k < n
    · obtain ⟨⟨Z, hZ⟩, hU⟩ := HX.out
      have c := hZ.cell k hlt
      have fz := hZ.frozen k
      obtain ⟨z, hz⟩ : ∃ z, Z k = z := ⟨_, rfl⟩
      rw [hz] at c
      have ij := fun v => idxS (g := ba) (off := 0) (len := n) (cap := n) Try.underlying23 (s := 1) (by kernel_rfl) .i64 k v hlt
      simp only [Nat.zero_add, Nat.mul_one] at ij
      have fin : Hid ((∃ Z, Blk (wx.setCell ⟨ba, k, none⟩ (.int .u8 7)) ba n Z) ∧ Upd (· = ba) w (wx.setCell ⟨ba, k, none⟩ (.int .u8 7))) := ⟨⟨_, hZ.set k hlt 7⟩, hU.trans (Upd.set _)⟩
      clear hZ hU hz HX
      go_wp2
      go_roundw
      case rel => exact ⟨k + 1, _, rfl, by omega, by simp, fin⟩
      case measure => simp [intOf]; omega
    · have hke : n = k := by omega
      subst hke
      obtain ⟨⟨Z, hZ⟩, hU⟩ := HX.out
      have hZ' : Hid (Blk wx ba n Z) := hZ
      have hU' : Hid (Upd (· = ba) w wx) := hU
      have A0 : Hid (App wx wx ba n Z 8 0 (.slice (some ⟨ba, 0, none⟩) n n)) := ⟨Below.refl _ _, .inl ⟨rfl, rfl⟩⟩
      clear hZ hU HX hk hlt
      go_wp2
      go_loopw [8, 9] (fun x i wz => ∃ (k : Nat) (v : Value) (y : World), y = wz ∧ v = x ∧ k ≤ 70 ∧ i = .int .i64 (k : Int) ∧ Hid (App wx y ba n Z 8 k v)) (fun _ i _ => (70 - intOf i).toNat)
      case atStart => exact ⟨0, _, _, rfl, rfl, by omega, rfl, A0⟩
      case round =>
        obtain ⟨j, xv, y, rfl, rfl, hj, rfl, HY⟩ := hrel
        clear A0
        by_cases hlt : j < 70
        · by_cases h0 : j = 0
          · subst h0
            obtain ⟨hBel, hor⟩ := HY.out
            have hx : xv = .slice (some ⟨ba, 0, none⟩) n n := by
              rcases hor with h | h
              · exact h.2
              · omega
            subst hx
            have hB : Hid (Below wx.heap.size wx y) := hBel
            have hcell : Hid (∀ o j u, (rowOf n Z)[j]? = some u → (y.alloc o).cell? ((⟨ba, 0, none⟩ : Addr).add j) = some u) := fun o j u hu => by
              obtain ⟨hj, rfl⟩ := rowOf_lt _ _ _ _ hu
              rw [addN, Nat.zero_add]
              exact ((hZ'.out.below hBel).alloc o).cell j hj
            clear hBel hor HY hlt hj
            go_wp2_with (at_builtin; refine wpList_append_grows _ rfl (.tmp 37) (.tmp 38) 23 rfl 5 i5 (.int .u8 0) 1 1 Try.underlying23 hi5 hy0 hy1 hy2 rfl (by decide) (some ⟨ba, 0, none⟩) n n (rowOf n Z) rfl (fun h => by cases h) (by rw [rowOf_len, Nat.mul_one]) ?a1 ⟨y.heap.size, 0, none⟩ 1 1 [.int .u8 8] rfl rfl (one_at y 8) (by simp [Value.oneCell']) (by omega) ?a2 ?a3 ?_)
            case a1 => intro b hb; cases hb; exact hcell.out _
            case a2 => have := hn'.out; unfold maxLen; omega
            case a3 => have := hn'.out; omega
            intro v' w' ho hg
            have fin : Hid (App wx w' ba n Z 8 (0 + 1) v') := App.first hB.out ho hg
            clear ho hg hcell
            go_wp2
            go_roundw
            case rel => exact ⟨1, _, _, rfl, rfl, by omega, rfl, fin⟩
            case measure => simp [intOf]
          · obtain ⟨hBel, hor⟩ := HY.out
            have ho : y.ownsRow wx.heap.size 5 1 xv (n + j) (rowOf n Z ++ List.replicate j (.int .u8 8)) := by
              rcases hor with h | h
              · omega
              · exact h.2
            have ho' : Hid (y.ownsRow wx.heap.size 5 1 xv (n + j) (rowOf n Z ++ List.replicate j (.int .u8 8))) := ho
            have hB : Hid (Below wx.heap.size wx y) := hBel
            have hlt' : Hid (j < 70) := hlt
            have hji : (j : Int) < 70 := by omega
            clear hBel hor HY ho hlt hj h0
            go_wp2_with (at_builtin; refine wpList_append_own _ rfl (.tmp 37) (.tmp 38) 23 rfl wx.heap.size 5 i5 (.int .u8 0) 1 1 Try.underlying23 hi5 hy0 hy1 hy2 rfl (by decide) xv (n + j) (rowOf n Z ++ List.replicate j (.int .u8 8)) rfl (ho'.out.alloc _) ⟨y.heap.size, 0, none⟩ 1 1 [.int .u8 8] rfl rfl (one_at y 8) (by simp [Value.oneCell']) ?a2 ?a3 ?a4 ?_)
            case a2 => have := hn'.out; have := hlt'.out; unfold maxLen; omega
            case a3 => have := hn'.out; have := hlt'.out; omega
            case a4 => have := hB.out.size; simp; omega
            intro v' w' ho hg _
            have fin : Hid (App wx w' ba n Z 8 (j + 1) v') := App.next hB.out ho'.out ho hg
            clear ho hg ho'
            go_wp2
            go_roundw
            case rel => exact ⟨j + 1, _, _, rfl, rfl, by have := hlt'.out; omega, by simp, fin⟩
            case measure => have := hlt'.out; simp [intOf]; omega
        · have hje : j = 70 := by omega
          subst hje
          obtain ⟨gx, cx, rfl, hgx, hcx⟩ := HY.out.fin (by omega)
          have U2 : Hid (Upd (· = ba) w y) := hU'.out.trans (Upd.of_below HY.out.1)
          have X2 : Hid (gx < y.heap.size ∧ ∀ j, n ≤ j → j < n + 70 → y.cell? ⟨gx, j, none⟩ = some (.int .u8 8)) := ⟨hgx, hcx⟩
          clear hgx hcx HY hj hlt hZ' hU'
          go_wp2_with (go_at_call_of 17 (Value.slice (some ⟨bb, 0, none⟩) n n); refine (SB.out _ U2.out).mono ?_; rintro e w1 ⟨rfl, q3, hq⟩; subst hq)
          have A1 : Hid (App (y.drewN q3) (y.drewN q3) bb n Y 9 0 (.slice (some ⟨bb, 0, none⟩) n n)) := ⟨Below.refl _ _, .inl ⟨rfl, rfl⟩⟩
          have U3 : Hid (∀ z, Below (y.drewN q3).heap.size (y.drewN q3) z → Upd (· = ba) w z) := fun z hz => U2.out.trans (Upd.of_below ((below_drewN (Below.refl _ _)).trans hz))
          have X3 : Hid (∀ z, Below (y.drewN q3).heap.size (y.drewN q3) z → ∀ j, n ≤ j → j < n + 70 → z.cell? ⟨gx, j, none⟩ = some (.int .u8 8)) := fun z hz j h1 h2 => (hz.cell (p := ⟨gx, j, none⟩) X2.out.1).trans (X2.out.2 j h1 h2)
          obtain ⟨y2, hy2'⟩ : ∃ y2, y.drewN q3 = y2 := ⟨_, rfl⟩
          rw [hy2'] at A1 U3 X3 ⊢
          clear U2 X2 hy2'
          go_loopw [10, 11] (fun x i wz => ∃ (k : Nat) (v : Value) (z : World), z = wz ∧ v = x ∧ k ≤ 70 ∧ i = .int .i64 (k : Int) ∧ Hid (App y2 z bb n Y 9 k v)) (fun _ i _ => (70 - intOf i).toNat)
          case atStart => exact ⟨0, _, _, rfl, rfl, by omega, rfl, A1⟩
          case round =>
            obtain ⟨j, yv, z, rfl, rfl, hj, rfl, HZ⟩ := hrel
            clear A1
            by_cases hlt : j < 70
            · by_cases h0 : j = 0
              · subst h0
                obtain ⟨hBel, hor⟩ := HZ.out
                have hx : yv = .slice (some ⟨bb, 0, none⟩) n n := by
                  rcases hor with h | h
                  · exact h.2
                  · omega
                subst hx
                have hB : Hid (Below y2.heap.size y2 z) := hBel
                have hcell : Hid (∀ o j u, (rowOf n Y)[j]? = some u → (z.alloc o).cell? ((⟨bb, 0, none⟩ : Addr).add j) = some u) := fun o j u hu => by
                  obtain ⟨hj, rfl⟩ := rowOf_lt _ _ _ _ hu
                  rw [addN, Nat.zero_add]
                  exact ((hb.out.keep (U3.out z hBel) (fun e => hd.out e.symm)).alloc o).cell j hj
                clear hBel hor HZ hlt hj
                go_wp2_with (at_builtin; refine wpList_append_grows _ rfl (.tmp 49) (.tmp 50) 23 rfl 5 i5 (.int .u8 0) 1 1 Try.underlying23 hi5 hy0 hy1 hy2 rfl (by decide) (some ⟨bb, 0, none⟩) n n (rowOf n Y) rfl (fun h => by cases h) (by rw [rowOf_len, Nat.mul_one]) ?a1 ⟨z.heap.size, 0, none⟩ 1 1 [.int .u8 9] rfl rfl (one_at z 9) (by simp [Value.oneCell']) (by omega) ?a2 ?a3 ?_)
                case a1 => intro b hb; cases hb; exact hcell.out _
                case a2 => have := hn'.out; unfold maxLen; omega
                case a3 => have := hn'.out; omega
                intro v' w' ho hg
                have fin : Hid (App y2 w' bb n Y 9 (0 + 1) v') := App.first hB.out ho hg
                clear ho hg hcell
                go_wp2
                go_roundw
                case rel => exact ⟨1, _, _, rfl, rfl, by omega, rfl, fin⟩
                case measure => simp [intOf]
              · obtain ⟨hBel, hor⟩ := HZ.out
                have ho : z.ownsRow y2.heap.size 5 1 yv (n + j) (rowOf n Y ++ List.replicate j (.int .u8 9)) := by
                  rcases hor with h | h
                  · omega
                  · exact h.2
                have ho' : Hid (z.ownsRow y2.heap.size 5 1 yv (n + j) (rowOf n Y ++ List.replicate j (.int .u8 9))) := ho
                have hB : Hid (Below y2.heap.size y2 z) := hBel
                have hlt' : Hid (j < 70) := hlt
                have hji : (j : Int) < 70 := by omega
                clear hBel hor HZ ho hlt hj h0
                go_wp2_with (at_builtin; refine wpList_append_own _ rfl (.tmp 49) (.tmp 50) 23 rfl y2.heap.size 5 i5 (.int .u8 0) 1 1 Try.underlying23 hi5 hy0 hy1 hy2 rfl (by decide) yv (n + j) (rowOf n Y ++ List.replicate j (.int .u8 9)) rfl (ho'.out.alloc _) ⟨z.heap.size, 0, none⟩ 1 1 [.int .u8 9] rfl rfl (one_at z 9) (by simp [Value.oneCell']) ?a2 ?a3 ?a4 ?_)
                case a2 => have := hn'.out; have := hlt'.out; unfold maxLen; omega
                case a3 => have := hn'.out; have := hlt'.out; omega
                case a4 => have := hB.out.size; simp; omega
                intro v' w' ho hg _
                have fin : Hid (App y2 w' bb n Y 9 (j + 1) v') := App.next hB.out ho'.out ho hg
                clear ho hg ho'
                go_wp2
                go_roundw
                case rel => exact ⟨j + 1, _, _, rfl, rfl, by have := hlt'.out; omega, by simp, fin⟩
                case measure => have := hlt'.out; simp [intOf]; omega
            · have hje : j = 70 := by omega
              subst hje
              obtain ⟨gy, cy, rfl, _, _⟩ := HZ.out.fin (by omega)
              have U4 : Hid (Upd (· = ba) w z) := U3.out z HZ.out.1
              have X4 : Hid (∀ j, n ≤ j → j < n + 70 → z.cell? ⟨gx, j, none⟩ = some (.int .u8 8)) := X3.out z HZ.out.1
              clear U3 X3 HZ hj hlt
              go_wp2
              go_loopw [12] (fun i wz => ∃ k : Nat, n ≤ k ∧ k ≤ n + 70 ∧ i = .int .i64 (k : Int) ∧ wz = z) (fun i _ => (n + 70 - intOf i).toNat)
              case atStart => exact ⟨n, by omega, by omega, rfl, rfl⟩
              case round =>
                obtain ⟨k, hk1, hk2, rfl, rfl⟩ := hrel
                by_cases hlt : k < n + 70
                · have c8 := X4.out k hk1 hlt
                  have ij := fun v => idxS (g := gx) (off := 0) (len := n + 70) (cap := cx) Try.underlying23 (s := 1) (by kernel_rfl) .i64 k v hlt
                  simp only [Nat.zero_add, Nat.mul_one] at ij
                  have hki : (k : Int) < (n : Int) + 70 := by omega
                  have hlt' : Hid (n ≤ k ∧ k < n + 70) := ⟨hk1, hlt⟩
                  clear hk1 hk2 hlt
                  go_wp2
                  go_roundw
                  case rel => exact ⟨k + 1, by have := hlt'.out; omega, by have := hlt'.out; omega, by simp, by first | rfl | trivial⟩
                  case measure => have := hlt'.out; simp [intOf]; omega
                · have hke : k = n + 70 := by omega
                  subst hke
                  clear hk1 hk2 hlt X4
                  go_wp2_with (go_at_call_of 17 (Value.slice (some ⟨bb, 0, none⟩) n n); refine (SB.out _ U4.out).mono ?_; rintro e w1 ⟨rfl, q4, hq⟩; subst hq)
                  go_ret
                  exact ⟨by first | rfl | simp, Upd.drewN U4.out⟩
end Go.Proofs.Ythjpghnmnbhaiaa
