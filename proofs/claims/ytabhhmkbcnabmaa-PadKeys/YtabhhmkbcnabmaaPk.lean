/- Keys and masks, as the statement asks them: what is handed in, what comes out. -/
import Derived.Test.YtabhhmkbcnabmaaPg
import Derived.Test.YtabhhmkbcnabmaaPh
import Derived.Test.YtabhhmkbcnabmaaPo
import Derived.Laws.CopyOwn
namespace Go.Proofs.Ytabhhmkbcnabmaa
open Go Go.RowKit
set_option linter.unusedVariables false
set_option maxHeartbeats 1000000
set_option maxRecDepth 20000

theorem OwnI.below {B : Nat} {x y : World} {v : Value} {l : List Int} (h : OwnI B x v l) (hb : Below x.heap.size x y) : OwnI B y v l := by
  refine ⟨h.1, ?_⟩
  rcases h.2 with h0 | ⟨g, cap, cur, hv, hB, hg, hr⟩
  · exact .inl h0
  · exact .inr ⟨g, cap, cur, hv, hB, (hb.block g (heap_lt hg)).trans hg, hr⟩
theorem OwnI.weak {B B' : Nat} {x : World} {v : Value} {l : List Int} (h : OwnI B x v l) (hb : B' ≤ B) : OwnI B' x v l := owns_weak h hb
theorem rowI_one (l : List Int) : ∀ v ∈ rowI l, v.oneCell' = true := by
  intro v hv
  simp [rowI] at hv
  obtain ⟨j, _, rfl⟩ := hv
  rfl
/-- The three lists that came out are apart. -/
theorem apart_keys (w y1 y2 y3 : World) (m : Nat) (v1 v2 v3 : Value) (h1 : Hid (KeysI w m 16 v1 y1)) (h2 : Hid (KeysI y1 m 16 v2 y2)) (h3 : Hid (KeysI y2 m 16 v3 y3)) :
    Calls Try.prog 12 #[v1, v2, v3] y3 fun e w' => e = .returned (.bool true) ∧ Below w.heap.size w w' := by
  obtain ⟨o1, b1⟩ := h1.out
  obtain ⟨o2, b2⟩ := h2.out
  obtain ⟨o3, b3⟩ := h3.out
  have s1 := b1.size
  have s2 := b2.size
  have s3 := b3.size
  have l1 := World.ownsRow.lt o1
  have l2 := World.ownsRow.lt o2
  have l3 := World.ownsRow.lt o3
  refine (apart_any y3 w.heap.size (by omega) v1 v2 v3 (keysI m 16) (keysI_len m 16) ((o1.below b2).below b3) ((o2.weak s1).below b3) (o3.weak (by omega)) ?_ ?_ ?_).mono ?_
  · intro g e1 e2
    have := l1 g e1
    have := l2 g e2
    omega
  · intro g e1 e2
    have := l1 g e1
    have := l3 g e2
    omega
  · intro g e1 e2
    have := l2 g e1
    have := l3 g e2
    omega
  · rintro e w' ⟨rfl, hb⟩
    exact ⟨rfl, ((b1.trans (b2.mono s1)).trans (b3.mono (by omega))).trans hb⟩
/-- What was lent: the keys, and a mark behind them. -/
structure Lnt (w : World) (g : Nat) (zs : List Int) (y : World) : Prop where
  bx : Bx y g (rowI zs ++ [Value.int .i64 (-77)]).toArray 3
  low : Below w.heap.size w y
theorem Lnt.below {w y z : World} {g : Nat} {zs : List Int} (h : Lnt w g zs y) (hb : Below y.heap.size y z) : Lnt w g zs z := ⟨(hb.block g (heap_lt h.bx)).trans h.bx, h.low.trans (hb.mono h.low.size)⟩
theorem Lnt.lies {w y : World} {g : Nat} {zs : List Int} (h : Lnt w g zs y) : LiesI y (some ⟨g, 0, none⟩) zs := fun j v hj => ⟨g, 0, rfl, by
  have hl := (List.getElem?_eq_some_iff.1 hj).1
  rw [Nat.zero_add, cell_heap h.bx, List.getElem?_toArray, List.getElem?_append_left (by rw [rowI_len]; exact hl)]
  exact rowI_at zs j v hj⟩
theorem Lnt.mark {w y : World} {g : Nat} {zs : List Int} (h : Lnt w g zs y) : y.cell? ⟨g, zs.length, none⟩ = some (.int .i64 (-77)) := by
  rw [cell_heap h.bx, List.getElem?_toArray, List.getElem?_append_right (by rw [rowI_len]; exact Nat.le_refl _), rowI_len, Nat.sub_self]
  rfl
theorem splice_set {M R : List Value} {n : Nat} {u : Value} (hM : M.length = n + 1) (hR : R.length = n) : (splice M 0 R).toArray.setIfInBounds n u = (R ++ [u]).toArray ∧ ∃ x, (splice M 0 R)[n]? = some x := by
  have e : splice M 0 R = R ++ M.drop n := by unfold splice; simp [hR]
  obtain ⟨x, hx⟩ : ∃ x, M.drop n = [x] := by
    have hl : (M.drop n).length = 1 := by simp [hM]
    exact list1 hl
  rw [e, hx]
  constructor
  · rw [← Array.toList_inj]
    simp only [Array.toList_setIfInBounds]
    rw [List.set_append_right _ _ (by omega), hR, Nat.sub_self]
    rfl
  · exact ⟨x, by rw [List.getElem?_append_right (by omega), hR, Nat.sub_self]; rfl⟩

theorem keys_walk (w : World) (m : Nat) (hm : m < 65536) (sp : Option Addr) (cap : Nat) (zs : List Int) (hz : Hid (RowIn w sp zs)) (hn : zs.length ≤ maxLen) :
    Calls Try.prog 5 #[.int .u16 (m : Int), .slice sp zs.length cap] w fun e w' => e = .returned (.bool true) ∧ Below w.heap.size w w' := by
  obtain ⟨n, hn'⟩ : ∃ n, zs.length = n := ⟨_, rfl⟩
  by_cases hbig : 2147483647 < n
  · rw [hn'] at hn ⊢
    have ni : (n : Int) ≤ 9223372036854775807 := by unfold maxLen at hn; omega
    have q : decide ((2147483647 : Int) < n) = true := by simp; omega
    obtain ⟨c, hc⟩ : ∃ c : Int, (m : Int) = c := ⟨_, rfl⟩
    rw [hc]
    clear hc hbig hn hn' hm
    go_enter Try.func5, Try.ntmps5
    go_wp2
    go_ret
    exact ⟨by first | rfl | simp, Below.refl _ _⟩
  have hlen : zs.length ≤ 9223372036854775807 := by omega
  have hK : Hid (∀ v, Calls Try.prog 13 #[.int .u16 (m : Int)] v fun e w' => ∃ u, e = .returned u ∧ Hid (KeysI v m 16 u w')) := fun v => keys_any v m hm
  have hR : Hid (∀ v, Calls Try.prog 14 #[.int .u16 (m : Int)] v fun e w' => ∃ u, e = .returned u ∧ Hid (KeysI v m 16 u w')) := fun v => rkeys_any v m hm
  have hM1 : Hid (∀ x g, LiesI x (some ⟨g, 0, none⟩) zs → Calls Try.prog 15 #[.slice (some ⟨g, 0, none⟩) zs.length (zs.length + 1)] x fun e w' => e = .returned (.tuple #[.int .u16 (maskM (maskGo zs 0)), .int .i64 (maskE (maskGo zs 0))]) ∧ w' = x) := fun x g h => mask_any x _ _ zs h hlen
  have hM2 : Hid (∀ x, LiesI x sp zs → Calls Try.prog 16 #[.slice sp zs.length cap] x fun e w' => e = .returned (.tuple #[.int .u16 (maskM (maskGo zs 0)), .int .i64 (maskE (maskGo zs 0))]) ∧ w' = x) := fun x h => rmask_any x _ _ zs h hlen
  have hS : Hid (∀ x g, LiesI x (some ⟨g, 0, none⟩) zs → LiesI x sp zs → Calls Try.prog 17 #[.slice (some ⟨g, 0, none⟩) zs.length (zs.length + 1), .slice sp zs.length cap] x fun e w' => e = .returned (.bool true) ∧ ∃ k, w' = x.drewN k) := fun x g h1 h2 => same_true x _ _ _ _ zs hlen h1 h2
  have hA := awake_any
  have hL : Hid (∀ x, Below w.heap.size w x → LiesI x sp zs) := fun x hb => hz.out.1.low hz.out.2 hb
  obtain ⟨MM, hMM⟩ : ∃ x, maskM (maskGo zs 0) = x := ⟨_, rfl⟩
  obtain ⟨EE, hEE⟩ : ∃ x, maskE (maskGo zs 0) = x := ⟨_, rfl⟩
  rw [hMM, hEE] at hM1 hM2
  rw [hn'] at hM1 hM2 hS ⊢
  have hmk : ∀ v, (Instr.makeSlice 31 (.int .i64 ((n : Int) + 1)) (.int .i64 ((n : Int) + 1))).run Try.prog v = .ok (.slice (some ⟨v.heap.size, 0, none⟩) (n + 1) (n + 1)) (v.alloc (.cells (madeCells #[.int .i64 0] (n + 1)) 3)) := fun v => run_make_row' (P := Try.prog) 31 3 (.int .i64 0) 8 Try.underlying31 infoI rfl .i64 .i64 (n + 1) (by omega) (by omega) v
  have hms : Hid ((madeCells #[Value.int .i64 0] (n + 1)).size = n + 1) := by show _ = _; simp [size_madeCells]
  obtain ⟨M, hM⟩ : ∃ M, madeCells #[Value.int .i64 0] (n + 1) = M := ⟨_, rfl⟩
  rw [hM] at hmk hms
  have hli : (n : Int) ≤ 2147483647 := by omega
  have q : decide ((2147483647 : Int) < n) = false := by simp; omega
  have hnb : Hid (n ≤ 2147483647) := by show n ≤ 2147483647; omega
  have hn'' : Hid (zs.length = n) := hn'
  obtain ⟨c, hc⟩ : ∃ c : Int, (m : Int) = c := ⟨_, rfl⟩
  rw [hc] at hK hR ⊢
  have i0 := fun g v => idxP (g := g) (off := 0) (len := n + 1) (cap := n + 1) Try.underlying31 (s := 1) (by kernel_rfl) .i64 n v (by omega)
  simp only [Nat.zero_add, Nat.mul_one] at i0
  clear hM hMM hEE hc hbig hn hn' hm hlen
  go_enter Try.func5, Try.ntmps5
  go_wp2_with (first
    | (go_at_call 13; refine (hK.out w).mono ?_; rintro e y1 ⟨v1, rfl, K1⟩)
    | (go_at_call 13; refine (hK.out y1).mono ?_; rintro e y2 ⟨v2, rfl, K2⟩)
    | (go_at_call 14; refine (hR.out y2).mono ?_; rintro e y3 ⟨v3, rfl, K3⟩)
    | (go_at_call 12; refine (apart_keys w y1 y2 y3 m v1 v2 v3 K1 K2 K3).mono ?_; rintro e y4 ⟨rfl, b4⟩; have s4 : Hid (Below w.heap.size w (y4.alloc (.cells M 3)) ∧ w.heap.size ≤ y4.heap.size) := ⟨b4.alloc b4.size _, b4.size⟩; clear b4 K1 K2 K3)
    | (refine wpList_copy_splice rfl (.tmp 25) (.tmp 26) 31 31 rfl 3 Try.underlying31 (by kernel_rfl) (some ⟨y4.heap.size, 0, none⟩) sp (n + 1) (n + 1) n cap rfl rfl y4.heap.size 0 M.toList 3 ?g1 (rowI zs) ?g2 ?g3 ?g4 (rowI_one _) w.heap.size w s4.out.1 s4.out.2 ?_))
  case g1 => rw [Array.toArray_toList]; exact alloc_last' y4 _
  case g2 => rw [rowI_len, hn''.out]; show n = min n (n + 1); omega
  case g3 =>
    intro hp
    rw [rowI_len] at hp
    obtain ⟨gb, ob, e, _⟩ := (hL.out _ s4.out.1) 0 _ (List.getElem?_eq_getElem hp)
    have key : ∀ j v, (rowI zs)[j]? = some v → (y4.alloc (.cells M 3)).cell? ((⟨gb, ob, none⟩ : Addr).add j) = some v := by
      intro j v hv
      obtain ⟨x, hx, rfl⟩ : ∃ x, zs[j]? = some x ∧ v = .int .i64 x := by
        simp [rowI] at hv
        obtain ⟨x, hx, rfl⟩ := hv
        exact ⟨x, hx, rfl⟩
      obtain ⟨gb', ob', e', c'⟩ := (hL.out _ s4.out.1) j x hx
      rw [e] at e'
      simp at e'
      obtain ⟨rfl, rfl⟩ := e'
      rw [Addr.add_lit]
      exact c'
    first | exact ⟨⟨gb, ob, none⟩, e, key⟩ | exact ⟨rfl, ⟨gb, ob, none⟩, e, key⟩
  case g4 => rw [rowI_len, hn''.out, Array.length_toList, hms.out]; omega
  intro w1 hw1 HB1
  obtain ⟨hset, x, hx⟩ := splice_set (M := M.toList) (R := rowI zs) (n := n) (u := .int .i64 (-77)) (by rw [Array.length_toList]; exact hms.out) (by rw [rowI_len]; exact hn''.out)
  have c0 : w1.cell? ⟨y4.heap.size, n, none⟩ = some x := by rw [cell_heap hw1.out, List.getElem?_toArray]; exact hx
  have f0 : w1.frozen? ⟨y4.heap.size, n, none⟩ = false := frozen_heap hw1.out n
  have K5 : Hid (Lnt w y4.heap.size zs (w1.setCell ⟨y4.heap.size, n, none⟩ (.int .i64 (-77)))) := by
    refine ⟨?_, HB1.setCell (p := ⟨y4.heap.size, n, none⟩) s4.out.2 _⟩
    have := heap_setCell_same w1 y4.heap.size n _ _ (.int .i64 (-77)) hw1.out
    rw [hset] at this
    exact this
  have i4 := i0 y4.heap.size
  obtain ⟨g4, hg4⟩ : ∃ g, y4.heap.size = g := ⟨_, rfl⟩
  rw [hg4] at c0 f0 K5 i4 ⊢
  clear hw1 HB1 hset hx hmk hms i0 hK hR s4 hg4
  go_wp2_with (first
    | ((with_reducible refine gen_world (w1.setCell ⟨g4, n, none⟩ (.int .i64 (-77))) (Lnt w g4 zs) K5.out ?_); intro y5 K6; clear c0 f0)
    | (go_at_call 15; refine (hM1.out y5 g4 K6.out.lies).mono ?_; rintro e x6 ⟨rfl, hx6⟩; replace hx6 := hx6.symm; subst hx6)
    | (go_at_call 16; refine (hM2.out y5 (hL.out y5 K6.out.low)).mono ?_; rintro e x6 ⟨rfl, hx6⟩; replace hx6 := hx6.symm; subst hx6; refine stopAt ?_))
  refine Stop.go ?_
  have qm : (MM == MM) = true := by simp
  have qe : (EE == EE) = true := by simp
  go_wp2_with (first
    | (go_at_call 17; refine (hS.out y5 g4 K6.out.lies (hL.out y5 K6.out.low)).mono ?_; rintro e x7 ⟨rfl, q7, hx7⟩; have K7 : Hid (Lnt w g4 zs x7) := (by rw [hx7]; exact K6.out.below (below_drewN (Below.refl _ _))); have d7 := K7.out.mark; rw [hn''.out] at d7; clear hx7)
    | (go_at_call 9; refine (hA _).mono ?_; rintro e x8 ⟨rfl, hb8⟩; have K8 : Hid (Lnt w g4 zs x8) := K7.out.below hb8))
  go_ret
  exact ⟨by first | rfl | simp, K8.out.low⟩
end Go.Proofs.Ytabhhmkbcnabmaa
