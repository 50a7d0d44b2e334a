/- Rows of numbers; an append of one; the keys of a mask, by the program and by the document. -/
import Derived.Test.YtabhhmkbcnabmaaPb
namespace Go.Proofs.Ytabhhmkbcnabmaa
open Go Go.RowKit
set_option linter.unusedVariables false
set_option maxHeartbeats 400000
set_option maxRecDepth 20000

theorem infoI : (Try.prog.info? 3).map (fun i => (i.zero, i.size, i.bytes)) = some (some (.int .i64 0), 1, 8) := by kernel_rfl
/-- Old memory stays, but for the cells of F. -/
structure Cu (B : Nat) (F : Nat → Nat → Prop) (w w' : World) : Prop where
  low : Below B w w'
  cell : ∀ g j, g < w.heap.size → ¬ F g j → w'.cell? ⟨g, j, none⟩ = w.cell? ⟨g, j, none⟩
  blk : ∀ g, g < w.heap.size → (∀ j, ¬ F g j) → w'.heap[g]? = w.heap[g]?
theorem Cu.refl (B : Nat) (F : Nat → Nat → Prop) (w : World) : Cu B F w w := ⟨Below.refl _ _, fun _ _ _ _ => rfl, fun _ _ _ => rfl⟩
theorem Cu.trans {B : Nat} {F : Nat → Nat → Prop} {a b c : World} (h : Cu B F a b) (k : Cu B F b c) : Cu B F a c :=
  ⟨h.low.trans k.low, fun g j hg hF => (k.cell g j (Nat.lt_of_lt_of_le hg h.low.size) hF).trans (h.cell g j hg hF),
    fun g hg hF => (k.blk g (Nat.lt_of_lt_of_le hg h.low.size) hF).trans (h.blk g hg hF)⟩
theorem Cu.mono {B : Nat} {F G : Nat → Nat → Prop} {a b : World} (h : Cu B F a b) (k : ∀ g j, g < a.heap.size → F g j → G g j) : Cu B G a b := ⟨h.low, fun g j hg hG => h.cell g j hg fun hF => hG (k g j hg hF), fun g hg hG => h.blk g hg fun j hF => hG j (k g j hg hF)⟩
theorem Cu.of_below {B : Nat} {F : Nat → Nat → Prop} {a b : World} (h : Below a.heap.size a b) (hB : B ≤ a.heap.size) : Cu B F a b :=
  ⟨h.mono hB, fun g j hg _ => World.cell?_of_block (w := a) (a := ⟨g, j, none⟩) (h.block g hg), fun g hg _ => h.block g hg⟩
/-- What an append of one value leaves. -/
structure App1 (B : Nat) (v : Value) (n : Nat) (xs : List Value) (u v' : Value) (w w' : World) : Prop where
  own : w'.ownsRow B 3 1 v' (n + 1) (xs ++ [u])
  new : ∀ g, v'.ownBlock = some g → v.ownBlock = some g ∨ w.heap.size ≤ g
  cu : Cu B (fun g j => v.ownBlock = some g ∧ n ≤ j) w w'
theorem owns_weak {w : World} {B B' n : Nat} {v : Value} {xs : List Value} (h : w.ownsRow B 3 1 v n xs) (hB : B' ≤ B) : w.ownsRow B' 3 1 v n xs := by
  refine ⟨h.1, ?_⟩
  rcases h.2 with hn | ⟨g, cap, cur, h1, h2, h3⟩
  · exact .inl hn
  · exact .inr ⟨g, cap, cur, h1, Nat.le_trans hB h2, h3⟩
theorem App1.grew {B : Nat} {v : Value} {n : Nat} {xs : List Value} {u v' : Value} {w w' : World} (hB : B ≤ w.heap.size) (h1 : w'.ownsRow w.heap.size 3 1 v' (n + 1) (xs ++ [u])) (h2 : w.grownBy w' none) : App1 B v n xs u v' w w' :=
  ⟨owns_weak h1 hB, fun g hg => .inr (h1.lt g hg).1, Cu.of_below ⟨h2.os, h2.tape, h2.output, h2.size, fun k hk => h2.block k hk (by simp)⟩ hB⟩
theorem at_app {ops : Array Oper} {rest : List Oper} {o : Oper} {a : Act} {w : World} {Q : Exit → Act → World → Prop} (hgd : o.guard = none) (s x : Operand)
    (ho : o.op = .call { callee := .builtin .append, args := #[s, x], argTypes := #[31, 31] }) (B : Nat) (v : Value) (n : Nat) (xs : List Value) (hs : a.eval s = v) (hown : w.ownsRow B 3 1 v n xs)
    (g0 : Nat) (u : Value) (hx : a.eval x = .slice (some ⟨g0, 0, none⟩) 1 1) (hu : w.cell? ⟨g0, 0, none⟩ = some u) (h1 : u.oneCell' = true) (hn : n ≤ 100000) (hB : B ≤ w.heap.size)
    (k : ∀ v' w', Hid (App1 B v n xs u v' w w') → wpList Try.prog ops Q rest (a.put o.dst v') w') : wpList Try.prog ops Q (o :: rest) a w := by
  obtain ⟨i, hi, hz0, hz1, hz2⟩ := info_parts infoI
  have hc : ∀ j u', [u][j]? = some u' → w.cell? ((⟨g0, 0, none⟩ : Addr).add j) = some u' := fun j u' h => by
    cases j with
    | zero => simp at h; subst h; exact hu
    | succ j => simp at h
  have hnews : ∀ y ∈ [u], y.oneCell' = true := fun y hy => by simp at hy; subst hy; exact h1
  have b1 : n + 1 ≤ maxLen := by unfold maxLen; omega
  have b2 : (n + 1) * 8 ≤ 140737488355328 := by omega
  have hown' := hown
  obtain ⟨hl, hor⟩ := hown
  rcases hor with ⟨rfl, rfl⟩ | ⟨g, cap, cur, rfl, hbg, hg, hnc, hcm, hcs, htake⟩
  · obtain rfl : xs = [] := List.eq_nil_of_length_eq_zero (by simpa using hl)
    refine wpList_append_grows w hgd s x 31 ho 3 i _ 1 8 Try.underlying31 hi hz0 hz1 hz2 rfl (by decide) none 0 0 [] hs (fun _ => ⟨rfl, rfl⟩) rfl (fun b hb => by cases hb) ⟨g0, 0, none⟩ 1 1 [u] hx rfl hc hnews (by decide) b1 b2 ?_
    intro v' w' r1 r2
    exact k v' w' (App1.grew hB r1 r2)
  · by_cases hr : n + 1 ≤ cap
    · have hlt : n < cur.size := by omega
      refine wpList_append_arg w hgd s x 31 ho 3 i _ 1 8 Try.underlying31 hi hz0 hz1 hz2 rfl (by decide) g 0 n cap xs hs hl ?_ ⟨g0, 0, none⟩ 1 1 [u] hx rfl hc hnews ?_ b1 b2 ?_ (fun h => absurd hr (by omega))
      · intro j u' hj
        have := hown'.cells (g := g) rfl j u' hj
        rwa [Addr.add_lit] at this
      · intro _ j hj
        simp at hj
        subst hj
        refine ⟨?_, frozen_heap hg _⟩
        rw [cell_heap hg]
        simp [hlt]
      · intro _
        refine k _ _ ?_
        have e0 : 0 + n * 1 = n := by omega
        rw [e0]
        have hset := heap_setCell_same w g n cur 3 u hg
        refine ⟨⟨by simp [hl], .inr ⟨g, cap, cur.setIfInBounds n u, rfl, hbg, hset, hr, hcm, by simp [hcs], ?_⟩⟩, fun g' h => .inl h, ⟨(Below.refl B w).setCell (p := ⟨g, n, none⟩) hbg u, fun g' j hg' hF => ?_, fun g' hg' hF => ?_⟩⟩
        · rw [Nat.mul_one] at htake ⊢
          rw [Array.toList_setIfInBounds, List.take_set, List.take_add_one, htake]
          have hxl : xs.length = n := by simpa using hl
          rw [Array.getElem?_toList, Array.getElem?_eq_getElem hlt]
          simp only [Option.toList_some]
          rw [List.set_append_right _ _ (by omega), hxl, Nat.sub_self]
          rfl
        · have := World.cell?_setCells_out g [u] n w ⟨g', j, none⟩ (fun hb _ => by
            simp only [List.length_cons, List.length_nil]
            rcases Nat.lt_or_ge j n with h | h
            · exact .inl h
            · exact absurd ⟨by rw [show g' = g from hb]; rfl, h⟩ hF)
          exact this
        · exact heap_setCell_other w ⟨g, n, none⟩ g' u fun e => hF n ⟨by rw [show g' = g from e]; rfl, Nat.le_refl _⟩
    · have hcells := hown'.cells (g := g) rfl
      refine wpList_append_grows w hgd s x 31 ho 3 i _ 1 8 Try.underlying31 hi hz0 hz1 hz2 rfl (by decide) (some ⟨g, 0, none⟩) n cap xs hs (fun h => by cases h) hl (fun b hb => by cases hb; exact hcells) ⟨g0, 0, none⟩ 1 1 [u] hx rfl hc hnews (by omega) b1 b2 ?_
      intro v' w' r1 r2
      exact k v' w' (App1.grew hB r1 r2)

/-- Numbers as cells. -/
def rowI (l : List Int) : List Value := l.map fun x => .int .i64 x
def keysI (m k : Nat) : List Int := (keysN m k).map fun (j : Nat) => (j : Int)
theorem rowI_len (l : List Int) : (rowI l).length = l.length := by simp [rowI]
theorem rowI_add (l : List Int) (x : Int) : rowI (l ++ [x]) = rowI l ++ [.int .i64 x] := by simp [rowI]
theorem keysI_yes (m k : Nat) (h : bitB m k = true) : keysI m (k + 1) = keysI m k ++ [(k : Int)] := by unfold keysI; rw [keysN_succ, if_pos h]; simp
theorem keysI_no (m k : Nat) (h : bitB m k = false) : keysI m (k + 1) = keysI m k := by unfold keysI; rw [keysN_succ, if_neg (by rw [h]; exact Bool.false_ne_true)]; simp
theorem keysI_len (m k : Nat) : (keysI m k).length ≤ k := by unfold keysI; rw [List.length_map]; exact keysN_len m k
/-- A row of numbers of its own. -/
def OwnI (B : Nat) (w : World) (v : Value) (l : List Int) : Prop := w.ownsRow B 3 1 v l.length (rowI l)
theorem OwnI.nil (B : Nat) (w : World) : OwnI B w (.slice none 0 0) [] := World.ownsRow_nil w B _ 1
theorem OwnI.alloc {B : Nat} {w : World} {v : Value} {l : List Int} (h : OwnI B w v l) (o : Obj) : OwnI B (w.alloc o) v l := World.ownsRow.alloc h o
theorem OwnI.add {B : Nat} {w w' : World} {v v' : Value} {l : List Int} {x : Int} (h : App1 B v l.length (rowI l) (.int .i64 x) v' w w') : OwnI B w' v' (l ++ [x]) := by
  have := h.own
  unfold OwnI
  rw [rowI_add, List.length_append]
  exact this
theorem one_cell (x : World) (u : Value) : (x.alloc (.cells #[u] 3)).cell? ⟨x.heap.size, 0, none⟩ = some u := by unfold World.cell? World.alloc; simp
def KeysI (w : World) (m k : Nat) (v : Value) (y : World) : Prop := OwnI w.heap.size y v (keysI m k) ∧ Below w.heap.size w y
theorem KeysI.add {w y w' : World} {m k : Nat} {v v' : Value} {o : Obj} (h : KeysI w m k v y) (hb : bitB m k = true) (a : App1 w.heap.size v (keysI m k).length (rowI (keysI m k)) (.int .i64 (k : Int)) v' (y.alloc o) w') : KeysI w m (k + 1) v' w' := by
  refine ⟨?_, (h.2.alloc h.2.size o).trans a.cu.low⟩
  rw [keysI_yes m k hb]
  exact OwnI.add a
theorem KeysI.skip {w y : World} {m k : Nat} {v : Value} (h : KeysI w m k v y) (hb : bitB m k = false) : KeysI w m (k + 1) v y := by
  unfold KeysI
  rw [keysI_no m k hb]
  exact h

theorem low_any (m k : Nat) (hm : m < 65536) : ∃ r : Int, bits .and .u16 ((m : Int) / 2 ^ k) 1 = r ∧ (r == 1) = bitB m k := by
  refine ⟨_, rfl, ?_⟩
  have e : (m : Int) / 2 ^ k = ((m / 2 ^ k : Nat) : Int) := by push_cast; rfl
  rw [e, and_one _ (Nat.lt_of_le_of_lt (Nat.div_le_self _ _) hm)]
  unfold bitB
  have := Nat.mod_two_eq_zero_or_one (m / 2 ^ k)
  rcases this with h | h <;> simp [h]
theorem keys_any (w : World) (m : Nat) (hm : m < 65536) : Calls Try.prog 13 #[.int .u16 (m : Int)] w fun e w' => ∃ v, e = .returned v ∧ Hid (KeysI w m 16 v w') := by
  have hS := fun k => low_any m k hm
  obtain ⟨c, hc⟩ : ∃ c : Int, (m : Int) = c := ⟨_, rfl⟩
  rw [hc] at hS ⊢
  replace hS : Hid _ := hS
  clear hc hm
  go_enter Try.func13, Try.ntmps13
  go_wp2
  go_loopw [3, 5] (fun v i wz => ∃ (k : Nat) (u : Value) (y : World), y = wz ∧ u = v ∧ k ≤ 16 ∧ i = .int .i64 (k : Int) ∧ Hid (KeysI w m k u y)) (fun _ i _ => (16 - intOf i).toNat)
  case atStart => exact ⟨0, _, _, rfl, rfl, by omega, rfl, ⟨OwnI.nil _ _, Below.refl _ _⟩⟩
  case round =>
    obtain ⟨k, u, y, rfl, rfl, hk, rfl, K⟩ := hrel
    by_cases hlt : k < 16
    · obtain ⟨r, s2, s3⟩ := hS.out k
      have hki : (k : Int) < 16 := by omega
      obtain ⟨b, hb⟩ : ∃ b, bitB m k = b := ⟨_, rfl⟩
      rw [hb] at s3
      have hlt' : Hid (k < 16) := hlt
      replace hb : Hid _ := hb
      clear hlt hk
      cases b
      · go_wp2
        go_roundw
        case rel => exact ⟨k + 1, _, _, rfl, rfl, by have := hlt'.out; omega, by simp, K.out.skip hb.out⟩
        case measure => have := hlt'.out; simp [intOf]; omega
      · go_wp2_with (at_builtin; refine at_app rfl (.tmp 13) (.tmp 15) rfl w.heap.size u (keysI m k).length (rowI (keysI m k)) rfl (K.out.1.alloc _) y.heap.size (.int .i64 (k : Int)) rfl (one_cell _ _) rfl ?a1 ?a2 ?_)
        case a1 => have := keysI_len m k; have := hlt'.out; omega
        case a2 => have := K.out.2.size; simp; omega
        intro v' w' A
        have fin : Hid (KeysI w m (k + 1) v' w') := K.out.add hb.out A.out
        clear A
        go_wp2
        go_roundw
        case rel => exact ⟨k + 1, _, _, rfl, rfl, by have := hlt'.out; omega, by simp, fin⟩
        case measure => have := hlt'.out; simp [intOf]; omega
    · have hke : k = 16 := by omega
      subst hke
      clear hlt hk
      go_wp2
      go_ret
      exact ⟨_, rfl, K⟩
theorem rkeys_any (w : World) (m : Nat) (hm : m < 65536) : Calls Try.prog 14 #[.int .u16 (m : Int)] w fun e w' => ∃ v, e = .returned v ∧ Hid (KeysI w m 16 v w') := by
  have hS := fun v k (hk : k < 16) => bit_any v m k hm (by omega)
  obtain ⟨c, hc⟩ : ∃ c : Int, (m : Int) = c := ⟨_, rfl⟩
  rw [hc] at hS ⊢
  replace hS : Hid _ := hS
  clear hc hm
  go_enter Try.func14, Try.ntmps14
  go_wp2
  go_loopw [3, 4] (fun v i wz => ∃ (k : Nat) (u : Value) (y : World), y = wz ∧ u = v ∧ k ≤ 16 ∧ i = .int .i64 (k : Int) ∧ Hid (KeysI w m k u y)) (fun _ i _ => (16 - intOf i).toNat)
  case atStart => exact ⟨0, _, _, rfl, rfl, by omega, rfl, ⟨OwnI.nil _ _, Below.refl _ _⟩⟩
  case round =>
    obtain ⟨k, u, y, rfl, rfl, hk, rfl, K⟩ := hrel
    by_cases hlt : k < 16
    · have hB := fun v => hS.out v k hlt
      have hki : (k : Int) < 16 := by omega
      obtain ⟨b, hb⟩ : ∃ b, bitB m k = b := ⟨_, rfl⟩
      rw [hb] at hB
      have hlt' : Hid (k < 16) := hlt
      replace hb : Hid _ := hb
      clear hlt hk
      cases b
      · go_wp2_with (go_at_call 18; refine (hB _).mono ?_; rintro e v ⟨rfl, hv⟩; subst hv)
        go_roundw
        case rel => exact ⟨k + 1, _, _, rfl, rfl, by have := hlt'.out; omega, by simp, K.out.skip hb.out⟩
        case measure => have := hlt'.out; simp [intOf]; omega
      · go_wp2_with (first
          | (go_at_call 18; refine (hB _).mono ?_; rintro e v ⟨rfl, hv⟩; replace hv := hv.symm; subst hv)
          | (at_builtin; refine at_app rfl (.tmp 14) (.tmp 16) rfl w.heap.size u (keysI m k).length (rowI (keysI m k)) rfl (K.out.1.alloc _) y.heap.size (.int .i64 (k : Int)) rfl (one_cell _ _) rfl ?a1 ?a2 ?_))
        case a1 => have := keysI_len m k; have := hlt'.out; omega
        case a2 => have := K.out.2.size; simp; omega
        intro v' w' A
        have fin : Hid (KeysI w m (k + 1) v' w') := K.out.add hb.out A.out
        clear A
        go_wp2
        go_roundw
        case rel => exact ⟨k + 1, _, _, rfl, rfl, by have := hlt'.out; omega, by simp, fin⟩
        case measure => have := hlt'.out; simp [intOf]; omega
    · have hke : k = 16 := by omega
      subst hke
      clear hlt hk
      go_wp2
      go_ret
      exact ⟨_, rfl, K⟩
end Go.Proofs.Ytabhhmkbcnabmaa
