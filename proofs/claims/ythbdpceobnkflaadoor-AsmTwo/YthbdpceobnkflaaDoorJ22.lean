/- Any piece's bytes, written where it lies, or why they can't be. The labels' order, by plain mathematics. Contracts of Go's library, laid at this program: each is one application of a contract that holds of any program. Labels sorted by the library, whatever order they came in. -/
import Derived.Test.YthbdpceobnkflaaDoorJ21
import Derived.Test.YthbdpceobnkflaaDoorJ9
import Derived.Test.YthbdpceobnkflaaDoorJ8
import Derived.Shelf.SlSortCmp.NoneTotal
import Derived.Shelf.SlGeneric
import Derived.Ground.SlsfProg
import Derived.Shelf.LaysM
import Derived.Shelf.Strconv.Clone
import Derived.Test.YthbdpceobnkflaaDoorProg
namespace Go.Proofs.YthbdpceobnkflaaDoor
open Go Go.RowKit
set_option linter.unusedVariables false
set_option maxHeartbeats 3000000
set_option maxRecDepth 20000

theorem fill_bad (B : Nat) (q : Nu) (s : Sh) (M : List UInt8) (vl : Value) (l : List Lp) (y : World) (hB : B ≤ y.heap.size) (x : Lp) (E : Int) (hE : E ≠ 0) (L : List UInt8)
    (hT : ∀ u, Below y.heap.size y u → Calls Tryd.prog 34 #[.pointer (some ⟨q.s, 0, none⟩), .agg (lpA x)] u fun e z => ∃ g : Int, e = .returned (.tuple #[.int .i64 g, .int .i64 E]) ∧ Hid (Below u.heap.size u z)) :
    Calls Tryd.prog 24 #[.pointer (some ⟨q.s, 0, none⟩), .agg (lpA x)] y (FiE B q s M vl l E x.a L y) := by
  have K0 : Hid (Fm y [(y.heap.size, lpA x, 72)] (y.alloc (.cells (lpA x) 72))) := Fm.one y _ _
  have hE' : (E != 0) = true := by rw [bne_iff_ne]; exact hE
  have hTg : Hid (∀ u, Below y.heap.size y u → Calls Tryd.prog 34 #[.pointer (some ⟨q.s, 0, none⟩), .agg (lpA x)] u fun e z => ∃ g : Int, e = .returned (.tuple #[.int .i64 g, .int .i64 E]) ∧ Hid (Below u.heap.size u z)) := hT
  have hfin : Hid (∀ z, Below y.heap.size y z → FiE B q s M vl l E x.a L y (.returned (.int .i64 E)) z) := fun z hz => ⟨rfl, hz.mono hB, fun h => absurd h hE⟩
  generalize FiE B q s M vl l E x.a L y = Fin at hfin ⊢
  clear hE hT hB
  go_enter Tryd.func24, Tryd.ntmps24
  go_wp2_with (first
    | ((with_reducible refine at_load rtLp y.heap.size (lpA x) ?_ ?_ (.tmp 3) ?_ ?_ ?_ ?_); exact K0.out.bx 0 _ _ _ rfl; rfl; rfl; rfl; rfl)
    | (go_at_call 34; refine (hTg.out _ K0.out.low).mono ?_; rintro e z ⟨g, rfl, H⟩; clear hTg))
  exact hfin.out _ (of_below K0.out.low H.out)
theorem opF_may {r : Ri} {n t : Nat} (hn : n < 256) (ht : t ≤ 65535) (htk : takesB (fm n : Nat) r.p = true) : may n ((opF (fm n : Nat) r.p t : Nat) : Int) := by
  have hf := fm_le n hn
  have l4 : lay (4 * 3 + 2) = 255 := by decide
  have l5 : lay (5 * 3 + 2) = 255 := by decide
  have l6 : lay (6 * 3 + 2) = 65535 := by decide
  have hh := (held_lt n (fm n)).2.2.2.2
  unfold takesB at htk
  unfold may opF
  by_cases h4 : fm n = 4
  · rw [h4] at htk hh ⊢
    simp at htk
    rw [hh (by decide) (by decide), l4]
    rcases htk with e | e <;> simp [e] <;> omega
  · by_cases h5 : fm n = 5
    · rw [h5] at htk hh ⊢
      simp at htk
      rw [hh (by decide) (by decide), l5]
      simp [htk]
      omega
    · by_cases h6 : fm n = 6
      · rw [h6] at htk hh ⊢
        simp at htk
        rw [hh (by decide) (by decide), l6]
        simp [htk]
        omega
      · exfalso
        have e4 : ¬ ((fm n : Nat) : Int) = 4 := by omega
        have e5 : ¬ (((fm n : Nat) : Int) = 5 ∨ ((fm n : Nat) : Int) = 6) := by omega
        rw [if_neg e4, if_neg e5] at htk
        cases htk
theorem opF_opnd {r : Ri} {n t : Nat} (ho : opOf r.n = some n) : opF (fm n : Nat) r.p t = opndI r t := by
  unfold opF opndI fmS
  rw [ho]
  simp only
  by_cases h : fm n = 5
  · have : ((fm n : Nat) : Int) = 5 := by omega
    simp [h]
  · have : ¬ ((fm n : Nat) : Int) = 5 := by omega
    simp [h, this]
theorem flB_len (N : List (ByteArray × Nat)) (x : Itm) (p : Nat) (hm : mayI x.1 = true) (hx : x.2.length = x.1.m) (h9 : flE N p x.1 = 0) : (flB N x).length = (if x.1.k = 1 ∨ x.1.k = 4 then 0 else szN x.1) := by
  unfold flB
  rcases may_kind hm with hk | hk | hk | hk | hk
  · rw [if_neg (by omega), if_neg (by omega), if_neg (by omega), if_pos (.inl hk)]; rfl
  · obtain ⟨n, ho⟩ := mayI_code hm hk
    rw [if_neg (by omega), if_neg (by omega), if_pos hk, szN_c hm hk ho, encL_len _ _ n ho, if_neg (by omega)]
  · rw [if_pos hk, if_neg (by omega), hx, (szN_k hm hk).1]
  · rw [if_neg (by omega), if_neg (by omega), if_neg (by omega), if_pos (.inr hk)]; rfl
  · rw [if_neg (by omega), if_pos hk, if_neg (by omega), szN_a hm hk]; rfl
theorem fill_any (B : Nat) (q : Nu) (s : Sh) (M : List UInt8) (hM : M.length = 65536) (vl : Value) (l : List Lp) (y : World) (T : Hid (Tabs y)) (h : Hid (Sht B q s M vl l y)) (a : Nat) (ha : a ≤ 65536) (x : Itm) (hm : mayI x.1 = true) (hx : LB8 y x.1.sp x.2 ∧ x.2.length = x.1.m)
    (t : TypeId) (v : Value) (hp : PcV q.b x.1 t v y) (hfit : (x.1.k = 1 ∨ x.1.k = 4) ∨ a + szN x.1 ≤ 65536) :
    Calls Tryd.prog 24 #[.pointer (some ⟨q.s, 0, none⟩), .agg (lpA ⟨t, v, a⟩)] y (FiE B q s M vl l (flE s.N a x.1) a (flB s.N x) y) := by
  have hB := h.out.Ble
  rcases hp with ⟨hk, rfl, rfl⟩ | ⟨hk, rfl, rfl⟩ | ⟨hk, rfl, rfl⟩ | ⟨hk, rfl, rfl⟩ | ⟨hk, hp0, rfl, ⟨g, _, rfl, hbx⟩, n, ho, hma⟩ | ⟨hk, hp0, rfl, n, ho, rfl⟩
  · have e1 : flE s.N a x.1 = 0 := by unfold flE asksI; simp [hk]
    have e2 : flB s.N x = [] := by unfold flB; simp [hk]
    rw [e1, e2]
    exact fill_label B q s M hM vl l y h a ha _ (by simpa using ha)
  · have e1 : flE s.N a x.1 = 0 := by unfold flE asksI; simp [hk]
    have e2 : flB s.N x = [] := by unfold flB; simp [hk]
    rw [e1, e2]
    exact fill_move B q s M hM vl l y h a ha _ (by simpa using ha)
  · have e1 : flE s.N a x.1 = 0 := by unfold flE asksI; simp [hk]
    have e2 : flB s.N x = x.2 := by unfold flB; simp [hk]
    rw [e1, e2]
    exact fill_data B q s M hM vl l y h a ha _ _ _ x.2 hx.2 hx.1 (by rw [hx.2, ← (szN_k hm hk).1]; omega)
  · have ea : asksI x.1 = true := by unfold asksI; simp [hk]
    rcases hf : lookN s.N x.1.l with _ | t
    · have e1 : flE s.N a x.1 = 141 := by unfold flE; rw [ea, if_pos rfl, hf]
      rw [e1]
      refine fill_bad B q s M vl l y hB ⟨99, .agg #[.string x.1.l], a⟩ 141 (by decide) _ fun u hu => ?_
      have c := target_address q s.p vl s.N u (h.out.bx.below hu) (h.out.m.keep (hu.block _ h.out.m.lt)) x.1.l a
      unfold fdE at c
      rw [hf] at c
      exact c.mono fun e z hz => ⟨_, hz.1, hz.2⟩
    · have e1 : flE s.N a x.1 = 0 := by unfold flE; rw [ea, if_pos rfl, hf]; simp [hk]
      have e2 : flB s.N x = [UInt8.ofNat (t / 256), UInt8.ofNat t] := by unfold flB tgtN; rw [ea, if_neg (by omega), if_pos hk, if_pos rfl, hf]; rfl
      rw [e1, e2]
      exact fill_address B q s M hM vl l y h a ha _ t hf (by rw [szN_a hm hk] at hfit; show a + 2 ≤ _; omega)
  · have e1 : flE s.N a x.1 = 0 := by unfold flE asksI; simp [hk, hp0]
    have e2 : flB s.N x = encL x.1.n x.1.a := by unfold flB; simp [hk, hp0]
    rw [e1, e2]
    exact fill_plain B q s M hM vl l y h a ha _ _ _ (encL x.1.n x.1.a) rfl (lb_bx hbx) (by rw [encL_len _ _ n ho, ← szN_c hm hk ho]; omega)
  · have ea : asksI x.1 = true := by unfold asksI; simp [hk, hp0]
    have ef : fmS x.1.n = fm n := by unfold fmS; rw [ho]
    have eg : flE s.N a x.1 = tgE s.N a (fm n : Nat) x.1.l := by
      unfold flE tgE
      rw [ea, if_pos rfl, ef]
      rcases lookN s.N x.1.l with _ | t
      · rfl
      · simp only
        by_cases h5 : fm n = 5
        · simp [hk, h5]
        · have : ¬ ((fm n : Nat) : Int) = 5 := by omega
          simp [h5, this]
    rw [eg]
    by_cases h0 : tgE s.N a (fm n : Nat) x.1.l = 0
    · obtain ⟨t, hf, hng⟩ : ∃ t, lookN s.N x.1.l = some t ∧ ¬ (((fm n : Nat) : Int) = 5 ∧ t / 256 ≠ (a + 1) / 256) := by
        unfold tgE at h0
        rcases hf : lookN s.N x.1.l with _ | t
        · rw [hf] at h0; simp at h0
        · rw [hf] at h0
          refine ⟨t, rfl, fun h9 => ?_⟩
          simp only at h0
          rw [if_pos h9] at h0
          omega
      obtain ⟨n', ho', htk⟩ := may_lab hm hk hp0
      rw [ho] at ho'
      cases ho'
      have hto := look_le h.out.ok.n hf
      have e2 : flB s.N x = encL x.1.n ((opF (fm n : Nat) x.1.p t : Nat) : Int) := by
        unfold flB tgtN
        rw [ea, if_neg (by omega), if_neg (by omega), if_pos hk, if_neg hp0, if_pos rfl, hf, opF_opnd ho]
        rfl
      rw [h0, e2]
      exact fill_labelled B q s M hM vl l y h a ha _ _ _ _ _ _ T t hf hng n ho (opF_may (opOf_lt ho).1 hto htk) (by rw [encL_len _ _ n ho, ← szN_c hm hk ho]; omega)
    · refine fill_bad B q s M vl l y hB ⟨103, .agg (lbC x.1.n (fm n : Nat) (lay (fm n * 3)) (cyc n : Nat) x.1.l x.1.p), a⟩ _ h0 _ fun u hu => ?_
      have c := target_labelled q s.p vl s.N h.out.ok.n u (h.out.bx.below hu) (h.out.m.keep (hu.block _ h.out.m.lt)) x.1.n (fm n : Nat) (lay (fm n * 3)) (cyc n : Nat) x.1.l x.1.p a ha
      exact c.mono fun e z ⟨g, h1, h2⟩ => ⟨g, h1, h2.out.2⟩
end Go.Proofs.YthbdpceobnkflaaDoor

namespace Go.Proofs.YthbdpceobnkflaaDoor
open Go Go.RowKit
set_option linter.unusedVariables false
set_option maxHeartbeats 1000000
set_option maxRecDepth 20000

theorem bl_irrefl : ∀ l : List UInt8, Op.bytesLess l l = false
  | [] => rfl
  | a :: x => by
    rw [Op.bytesLess, bl_irrefl x]
    simp
theorem bl_trans : ∀ a b c : List UInt8, Op.bytesLess a b = true → Op.bytesLess b c = true → Op.bytesLess a c = true
  | _, [], _, h, _ => by simp [Op.bytesLess] at h
  | _, _ :: _, [], _, h => by simp [Op.bytesLess] at h
  | [], _ :: _, _ :: _, _, _ => rfl
  | a :: x, b :: y, c :: z, h, k => by
    simp only [Op.bytesLess, Bool.or_eq_true, Bool.and_eq_true, decide_eq_true_eq, beq_iff_eq] at h k ⊢
    rcases h with h | ⟨rfl, h⟩
    · rcases k with k | ⟨rfl, k⟩
      · exact .inl (UInt8.lt_trans h k)
      · exact .inl h
    · rcases k with k | ⟨rfl, k⟩
      · exact .inl k
      · exact .inr ⟨rfl, bl_trans x y z h k⟩
theorem bl_tri : ∀ a b : List UInt8, Op.bytesLess a b = false → Op.bytesLess b a = false → a = b
  | [], [], _, _ => rfl
  | [], _ :: _, h, _ => by simp [Op.bytesLess] at h
  | _ :: _, [], _, h => by simp [Op.bytesLess] at h
  | a :: x, b :: y, h, k => by
    simp only [Op.bytesLess, Bool.or_eq_false_iff, Bool.and_eq_false_iff, decide_eq_false_iff_not, beq_eq_false_iff_ne] at h k
    have e : a = b := by
      have h1 := h.1
      have k1 := k.1
      exact UInt8.le_antisymm (UInt8.not_lt.1 k1) (UInt8.not_lt.1 h1)
    subst e
    have h2 := h.2.resolve_left (by simp)
    have k2 := k.2.resolve_left (by simp)
    rw [bl_tri x y h2 k2]
theorem sLt_tri {a b : ByteArray} (h : sLt a b = false) (k : sLt b a = false) : a = b := by
  have := bl_tri _ _ h k
  rw [toList_eq, toList_eq] at this
  cases a; cases b
  simp at this
  rw [this]
theorem befL_irrefl (a : La) : befL a a = false := by
  unfold befL sLt
  rw [bl_irrefl]
  simp
theorem befL_trans (a b c : La) (h : befL a b = true) (k : befL b c = true) : befL a c = true := by
  unfold befL at h k ⊢
  simp only [Bool.or_eq_true, Bool.and_eq_true, decide_eq_true_eq] at h k ⊢
  rcases h with h | ⟨h, h'⟩ <;> rcases k with k | ⟨k, k'⟩
  · exact .inl (by omega)
  · exact .inl (by omega)
  · exact .inl (by omega)
  · exact .inr ⟨by omega, bl_trans _ _ _ h' k'⟩
theorem befL_tri (a b : La) (h : befL a b = false) (k : befL b a = false) : a = b := by
  unfold befL at h k
  simp only [Bool.or_eq_false_iff, Bool.and_eq_false_iff, decide_eq_false_iff_not] at h k
  have e : a.a = b.a := by omega
  have h2 := h.2.resolve_left (by omega)
  have k2 := k.2.resolve_left (by omega)
  have en := sLt_tri h2 k2
  cases a; cases b
  simp at e en
  subst e en
  rfl
theorem befL_ntrans (a b c : La) (h : befL a b = false) (k : befL b c = false) : befL a c = false := by
  by_cases h1 : befL a c = true
  · exfalso
    by_cases h2 : befL b a = true
    · rw [befL_trans b a c h2 h1] at k
      cases k
    · have := befL_tri a b h (by simpa using h2)
      subst this
      rw [h1] at k
      cases k
  · simpa using h1
theorem ordL_lt (a b : La) : decide (ordL a b < 0) = befL a b := by
  unfold ordL befL cmpI cmpS
  by_cases h1 : a.a < b.a
  · simp [h1]
  · by_cases h2 : b.a < a.a
    · have h3 : ¬ a.a = b.a := by omega
      simp [h1, h2, h3]
    · have h3 : a.a = b.a := by omega
      rcases h4 : sLt a.n b.n with _ | _
      · simp only [h3]
        by_cases h5 : a.n = b.n <;> simp [h5]
      · simp [h3]
/-- Labels by rising addresses, those of one address by rising names. -/
def leL (a b : La) : Bool := !befL b a
theorem leL_trans (a b c : La) (h : leL a b = true) (k : leL b c = true) : leL a c = true := by
  unfold leL at h k ⊢
  simp at h k ⊢
  exact befL_ntrans c b a k h
theorem leL_total (a b : La) : (leL a b || leL b a) = true := by
  unfold leL
  rcases h : befL b a with _ | _
  · rfl
  · rcases k : befL a b with _ | _
    · rfl
    · have := befL_trans a b a k h
      rw [befL_irrefl] at this
      cases this
def toLa (x : ByteArray × Nat) : La := ⟨x.1, (x.2 : Int)⟩
def sortN (N : List (ByteArray × Nat)) : List La := (N.map toLa).mergeSort leL
theorem sort_perm {l l' : List La} (h : l.Perm l') : l.mergeSort leL = l'.mergeSort leL := by
  refine List.Perm.eq_of_pairwise (le := fun a b => leL a b = true) (fun a b _ _ h1 h2 => ?_) (List.pairwise_mergeSort leL_trans leL_total l) (List.pairwise_mergeSort leL_trans leL_total l') (((List.mergeSort_perm l leL).trans h).trans (List.mergeSort_perm l' leL).symm)
  unfold leL at h1 h2
  simp at h1 h2
  exact befL_tri a b h2 h1
end Go.Proofs.YthbdpceobnkflaaDoor

namespace Go.Proofs.YthbdpceobnkflaaDoor
set_option linter.unusedVariables false
open Go.Shelf
def Tryd.sortL_ren : Go.Shelf.Ren := ⟨fun | 6 => 52 | 15 => 63 | 14 => 62 | 28 => 75 | 29 => 76 | 20 => 67 | 21 => 68 | 22 => 69 | 23 => 70 | 24 => 71 | 25 => 72 | 26 => 73 | 27 => 74 | 46 => 78 | 47 => 79 | 48 => 80 | 49 => 81 | 50 => 82 | 57 => 83 | n => n, fun | 22 => 27 | 24 => 52 | 25 => 112 | 3 => 3 | 39 => 79 | 0 => 0 | 53 => 154 | 55 => 156 | 4 => 4 | 46 => 148 | 45 => 147 | 50 => 41 | 5 => 5 | 9 => 9 | 66 => 158 | 70 => 162 | 76 => 164 | 77 => 165 | n => n, fun | n => n⟩
theorem Tryd.sortL : Go.Proofs.SlLaysF0.n6 Tryd.prog Tryd.sortL_ren := {
  mixed := by kernel_rfl
  f6 := ⟨Tryd.f52.name, by decide, Tryd.func52.trans (congrArg some (by kernel_rfl))⟩
  f14 := ⟨Tryd.f62.name, by decide, Tryd.func62.trans (congrArg some (by kernel_rfl))⟩
  f15 := Tryd.func63.trans (congrArg some (by kernel_rfl))
  f20 := ⟨Tryd.f67.name, by decide, Tryd.func67.trans (congrArg some (by kernel_rfl))⟩
  f21 := ⟨Tryd.f68.name, by decide, Tryd.func68.trans (congrArg some (by kernel_rfl))⟩
  f22 := ⟨Tryd.f69.name, by decide, Tryd.func69.trans (congrArg some (by kernel_rfl))⟩
  f23 := ⟨Tryd.f70.name, by decide, Tryd.func70.trans (congrArg some (by kernel_rfl))⟩
  f24 := ⟨Tryd.f71.name, by decide, Tryd.func71.trans (congrArg some (by kernel_rfl))⟩
  f25 := ⟨Tryd.f72.name, by decide, Tryd.func72.trans (congrArg some (by kernel_rfl))⟩
  f26 := ⟨Tryd.f73.name, by decide, Tryd.func73.trans (congrArg some (by kernel_rfl))⟩
  f27 := ⟨Tryd.f74.name, by decide, Tryd.func74.trans (congrArg some (by kernel_rfl))⟩
  f28 := Tryd.func75.trans (congrArg some (by kernel_rfl))
  f29 := Tryd.func76.trans (congrArg some (by kernel_rfl))
  f46 := ⟨Tryd.f78.name, by decide, Tryd.func78.trans (congrArg some (by kernel_rfl))⟩
  f47 := Tryd.func79.trans (congrArg some (by kernel_rfl))
  f48 := Tryd.func80.trans (congrArg some (by kernel_rfl))
  f49 := ⟨Tryd.f81.name, by decide, Tryd.func81.trans (congrArg some (by kernel_rfl))⟩
  f50 := ⟨Tryd.f82.name, by decide, Tryd.func82.trans (congrArg some (by kernel_rfl))⟩
  f57 := ⟨Tryd.f83.name, by decide, Tryd.func83.trans (congrArg some (by kernel_rfl))⟩
  t0 := Tryd.underlying0
  a0 := Tryd.isAgg0
  z0 := Tryd.sizeOf0
  v0 := Tryd.zeroValue0
  t3 := Tryd.underlying3
  a3 := Tryd.isAgg3
  z3 := Tryd.sizeOf3
  v3 := Tryd.zeroValue3
  t4 := Tryd.underlying4
  a4 := Tryd.isAgg4
  z4 := Tryd.sizeOf4
  v4 := Tryd.zeroValue4
  t5 := Tryd.underlying5
  a5 := Tryd.isAgg5
  z5 := Tryd.sizeOf5
  v5 := Tryd.zeroValue5
  t9 := Tryd.underlying9
  a9 := Tryd.isAgg9
  z9 := Tryd.sizeOf9
  v9 := Tryd.zeroValue9
  t22 := Tryd.underlying27
  a22 := Tryd.isAgg27
  z22 := Tryd.sizeOf27
  v22 := Tryd.zeroValue27
  t25 := Tryd.underlying112
  a25 := Tryd.isAgg112
  z25 := Tryd.sizeOf112
  v25 := Tryd.zeroValue112
  t39 := Tryd.underlying79
  a39 := Tryd.isAgg79
  z39 := Tryd.sizeOf79
  v39 := Tryd.zeroValue79
  t45 := Tryd.underlying147
  a45 := Tryd.isAgg147
  z45 := Tryd.sizeOf147
  v45 := Tryd.zeroValue147
  t46 := Tryd.underlying148
  a46 := Tryd.isAgg148
  z46 := Tryd.sizeOf148
  v46 := Tryd.zeroValue148
  t50 := Tryd.underlying41
  a50 := Tryd.isAgg41
  z50 := Tryd.sizeOf41
  v50 := Tryd.zeroValue41
  t53 := Tryd.underlying154
  a53 := Tryd.isAgg154
  z53 := Tryd.sizeOf154
  v53 := Tryd.zeroValue154
  t55 := Tryd.underlying156
  a55 := Tryd.isAgg156
  z55 := Tryd.sizeOf156
  v55 := Tryd.zeroValue156
  t66 := Tryd.underlying158
  a66 := Tryd.isAgg158
  z66 := Tryd.sizeOf158
  v66 := Tryd.zeroValue158
  t70 := Tryd.underlying162
  a70 := Tryd.isAgg162
  z70 := Tryd.sizeOf162
  v70 := Tryd.zeroValue162
  t76 := Tryd.underlying164
  a76 := Tryd.isAgg164
  z76 := Tryd.sizeOf164
  v76 := Tryd.zeroValue164
  t77 := Tryd.underlying165
  a77 := Tryd.isAgg165
  z77 := Tryd.sizeOf165
  v77 := Tryd.zeroValue165 }
def Tryd.laysM316_ren : Go.Shelf.Ren := ⟨fun | 316 => 61 | n => n, fun | 9 => 9 | 3 => 3 | 4 => 4 | 37 => 33 | 0 => 0 | 127 => 145 | 5 => 5 | n => n, fun | n => n⟩
theorem Tryd.laysM316 : Go.Proofs.LaysM.n316 Tryd.prog Tryd.laysM316_ren := {
  mixed := by kernel_rfl
  f316 := Tryd.func61.trans (congrArg some (by kernel_rfl))
  t0 := Tryd.underlying0
  a0 := Tryd.isAgg0
  z0 := Tryd.sizeOf0
  v0 := Tryd.zeroValue0
  t3 := Tryd.underlying3
  a3 := Tryd.isAgg3
  z3 := Tryd.sizeOf3
  v3 := Tryd.zeroValue3
  t4 := Tryd.underlying4
  a4 := Tryd.isAgg4
  z4 := Tryd.sizeOf4
  v4 := Tryd.zeroValue4
  t9 := Tryd.underlying9
  a9 := Tryd.isAgg9
  z9 := Tryd.sizeOf9
  v9 := Tryd.zeroValue9
  t37 := Tryd.underlying33
  a37 := Tryd.isAgg33
  z37 := Tryd.sizeOf33
  v37 := Tryd.zeroValue33
  t127 := Tryd.underlying145
  a127 := Tryd.isAgg145
  z127 := Tryd.sizeOf145
  v127 := Tryd.zeroValue145
  t5 := Tryd.underlying5
  a5 := Tryd.isAgg5
  z5 := Tryd.sizeOf5
  v5 := Tryd.zeroValue5
  i0 := by kernel_rfl
  i3 := by kernel_rfl
  i4 := by kernel_rfl
  i5 := by kernel_rfl
  i9 := by kernel_rfl
  i37 := by kernel_rfl
  i127 := by kernel_rfl }
open Go.RowKit in
theorem Tryd.stringslite_Clone (s : ByteArray) (w : World) (hlim : s.size ≤ 281474976710656) :
    Calls Tryd.prog 61 #[.string s] w fun e w' => e = .returned (.string s) ∧ Below w.heap.size w w' := Any.stringslite_Clone Tryd.laysM316 s w hlim
end Go.Proofs.YthbdpceobnkflaaDoor

namespace Go.Proofs.YthbdpceobnkflaaDoor
open Go Go.RowKit Go.Shelf Go.Lib Go.Sort
set_option linter.unusedVariables false
set_option maxHeartbeats 3000000
set_option maxRecDepth 20000

theorem order_lays (w : World) (a b : La) : Calls Tryd.prog 40 #[.agg (kl a), .agg (kl b)] w fun e w' => e = .returned (.int .i64 (ordL a b)) ∧ ∃ q os, w' = grow (w.drewN q) os := by
  have K1 : Hid (Fm w [(w.heap.size, kl a, 52), (w.heap.size + 1, kl b, 52)] ((w.alloc (.cells (kl a) 52)).alloc (.cells (kl b) 52))) := Fm.two w _ _ _ _
  have hcl : Hid (∀ y, Fm w [(w.heap.size, kl a, 52), (w.heap.size + 1, kl b, 52)] y → y.cell? ⟨w.heap.size, 0, none⟩ = some (.string a.n) ∧ y.cell? ⟨w.heap.size, 1, none⟩ = some (.int .i64 a.a) ∧ y.cell? ⟨w.heap.size + 1, 0, none⟩ = some (.string b.n) ∧ y.cell? ⟨w.heap.size + 1, 1, none⟩ = some (.int .i64 b.a)) := fun y hy => ⟨(hy.bx 0 _ _ _ rfl).c 0 (.string a.n) rfl, (hy.bx 0 _ _ _ rfl).c 1 (.int .i64 a.a) rfl, (hy.bx 1 _ _ _ rfl).c 0 (.string b.n) rfl, (hy.bx 1 _ _ _ rfl).c 1 (.int .i64 b.a) rfl⟩
  have hI := fun v => cmpI_any a.a b.a v
  have hS := fun v => cmpS_any a.n b.n v
  have hO : Hid (∀ v g, v.cell? ⟨g, 0, none⟩ = some (.int .i64 (cmpI a.a b.a)) → v.cell? ⟨g, 1, none⟩ = some (.int .i64 (cmpS a.n b.n)) → Calls Tryd.prog 55 #[.slice (some ⟨g, 0, none⟩) 2 2] v fun e w' => e = .returned (.int .i64 (ordL a b)) ∧ w' = v) := fun v g h1 h2 => cmpOr_any _ _ g v h1 h2
  replace hI : Hid _ := hI
  replace hS : Hid _ := hS
  go_enter Tryd.func40, Tryd.ntmps40
  go_wp2
  refine region_class_tail 10 (fun u => Fm w [(w.heap.size, kl a, 52), (w.heap.size + 1, kl b, 52)] u ∧ ∃ q, u = ((w.alloc (.cells (kl a) 52)).alloc (.cells (kl b) 52)).drewN q) (by kernel_rfl) (by kernel_rfl) ⟨K1.out.below (below_drew (Below.refl _ _)), 1, rfl⟩ ?_
  simp only [List.take_succ_cons, List.take_zero, List.drop_succ_cons, List.drop_zero]
  with_reducible refine quiet_one (.pointer (some ⟨w.heap.size, 1, none⟩)) ?_ ?_ ?_
  · kernel_rfl
  · intro u hy
    go_simp
  with_reducible refine quiet_one (.int .i64 a.a) ?_ ?_ ?_
  · kernel_rfl
  · intro u hy
    have t := (hcl.out u hy.1).2.1
    go_simp
  with_reducible refine quiet_one (.pointer (some ⟨w.heap.size + 1, 1, none⟩)) ?_ ?_ ?_
  · kernel_rfl
  · intro u hy
    go_simp
  with_reducible refine quiet_one (.int .i64 b.a) ?_ ?_ ?_
  · kernel_rfl
  · intro u hy
    have t := (hcl.out u hy.1).2.2.2
    go_simp
  with_reducible refine quiet_one (.int .i64 (cmpI a.a b.a)) ?_ ?_ ?_
  · kernel_rfl
  · intro u hy
    have d := calls_same (C := fun u => Fm w [(w.heap.size, kl a, 52), (w.heap.size + 1, kl b, 52)] u ∧ ∃ q, u = ((w.alloc (.cells (kl a) 52)).alloc (.cells (kl b) 52)).drewN q) (hI.out u) hy
    go_simp
    all_goals exact d
  with_reducible refine quiet_one (.pointer (some ⟨w.heap.size, 0, none⟩)) ?_ ?_ ?_
  · kernel_rfl
  · intro u hy
    go_simp
  with_reducible refine quiet_one (.string a.n) ?_ ?_ ?_
  · kernel_rfl
  · intro u hy
    have t := (hcl.out u hy.1).1
    go_simp
  with_reducible refine quiet_one (.pointer (some ⟨w.heap.size + 1, 0, none⟩)) ?_ ?_ ?_
  · kernel_rfl
  · intro u hy
    go_simp
  with_reducible refine quiet_one (.string b.n) ?_ ?_ ?_
  · kernel_rfl
  · intro u hy
    have t := (hcl.out u hy.1).2.2.1
    go_simp
  with_reducible refine quiet_one (.int .i64 (cmpS a.n b.n)) ?_ ?_ ?_
  · kernel_rfl
  · intro u hy
    have d := calls_same (C := fun u => Fm w [(w.heap.size, kl a, 52), (w.heap.size + 1, kl b, 52)] u ∧ ∃ q, u = ((w.alloc (.cells (kl a) 52)).alloc (.cells (kl b) 52)).drewN q) (hS.out u) hy
    go_simp
    all_goals exact d
  refine wpQuiet_nil ?_
  intro z0 Z0
  replace Z0 : Hid _ := Z0
  go_simp
  have F3 : Hid (Fm w [(w.heap.size, kl a, 52), (w.heap.size + 1, kl b, 52), (z0.heap.size, #[.int .i64 (cmpI a.a b.a), .int .i64 (cmpS a.n b.n)], 3)] (z0.alloc (.cells #[.int .i64 (cmpI a.a b.a), .int .i64 (cmpS a.n b.n)] 3))) := Z0.out.1.new _ _
  go_wp2_with (go_at_call 55; refine (hO.out _ z0.heap.size ((F3.out.bx 2 _ _ _ rfl).c 0 _ rfl) ((F3.out.bx 2 _ _ _ rfl).c 1 _ rfl)).mono ?_; rintro e y ⟨rfl, rfl⟩)
  go_ret
  obtain ⟨q, hq⟩ := Z0.out.2
  refine ⟨rfl, q, #[.cells (kl a) 52, .cells (kl b) 52, .cells #[.int .i64 (cmpI a.a b.a), .int .i64 (cmpS a.n b.n)] 3], ?_⟩
  have e1 : (w.alloc (.cells (kl a) 52)).alloc (.cells (kl b) 52) = grow w #[.cells (kl a) 52, .cells (kl b) 52] := by
    rw [alloc_eq_grow w, alloc_eq_grow, grow_grow]
    rfl
  have e2 : (grow w #[.cells (kl a) 52, .cells (kl b) 52]).drewN q = grow (w.drewN q) #[.cells (kl a) 52, .cells (kl b) 52] := rfl
  rw [hq, e1, e2, alloc_eq_grow, grow_grow]
  rfl
theorem ordSWO : SWO (ltOf ordL) :=
  ⟨fun x => by unfold ltOf; rw [ordL_lt, befL_irrefl], fun x y z h k => by unfold ltOf at *; rw [ordL_lt] at *; exact befL_trans x y z h k, fun x y z h k => by unfold ltOf at *; rw [ordL_lt] at *; exact befL_ntrans x y z h k⟩
theorem clone_any (s : ByteArray) (w : World) (hs : s.size ≤ 1000000) : Calls Tryd.prog 51 #[.string s] w fun e w' => e = .returned (.string s) ∧ Below w.heap.size w w' := by
  have hC := fun v => Tryd.stringslite_Clone s v (by omega)
  change ∀ v, Calls Tryd.prog 61 _ _ _ at hC
  clear hs
  go_enter Tryd.func51, Tryd.ntmps51
  go_wp2_with (go_at_call 61; refine (hC _).mono ?_; rintro e y ⟨rfl, H⟩)
  go_ret
  exact ⟨rfl, H⟩
theorem lt_eq : (fun x y : La => !(ltOf ordL) y x) = leL := by
  funext x y
  unfold ltOf leL
  rw [ordL_lt]
/-- Any list of labels that the call has made, sorted. -/
theorem sort_any (I : Inhabited La) (y z : World) (sp : Option Addr) (cap : Nat) (l : List La) (K : KL 52 2 cLa y (.slice sp l.length cap) l z) (hl : l.length ≤ 1000000) :
    Calls Tryd.prog 52 #[.slice sp l.length cap, .func (.func 40) #[] #[]] z fun e z' => e = .returned (.tuple #[]) ∧ Hid (Below y.heap.size y z' ∧ LiesL 2 cLa z' sp (l.mergeSort leL) ∧ l.length ≤ cap) := by
  have hcap : l.length ≤ cap := by
    obtain ⟨q1, k1, e1, l1, -, -, c1⟩ := OwnL.open (c := cLa) (s := 2) (fun _ => rfl) K.own
    injection e1 with e1 e2 e3
    rw [e3]
    exact c1
  by_cases h0 : l = []
  · subst h0
    have hcon := AnyF.slices_SortFunc_none Tryd.sortL sp cap (.func (.func 40) #[] #[]) z
    change Calls Tryd.prog 52 _ _ _ at hcon
    refine hcon.mono fun e z' h => ⟨h.1, ?_⟩
    rw [h.2]
    exact ⟨K.low, fun j a hj => by simp at hj, hcap⟩
  · rcases K.own.2 with ⟨_, h9⟩ | ⟨g, cap', cur, hv, hbg, hg, hnc, hcm, hcs, htake⟩
    · exact absurd (List.length_eq_zero_iff.1 h9) h0
    · injection hv with hv1 hv2 hv3
      subst hv1 hv3
      have hcells := World.ownsRow.cells (g := g) K.own rfl
      have hH : HoldsK cLa 2 z g 0 l.toArray := fun j hj => by
        rw [size_flatK] at hj
        refine ⟨?_, frozen_heap hg _⟩
        rw [get_flatK _ _ _ _ hj]
        have hj2 : j / 2 < l.length := by
          have : l.toArray.size = l.length := by simp
          omega
        have hr := hcells j ((cLa l.toArray[j / 2]!)[j % 2]!) (by
          have e : j / 2 * 2 + j % 2 = j := by omega
          have h9 := rowL_at kLa.len l (j / 2) (j % 2) l[j / 2] (List.getElem?_eq_getElem hj2) (Nat.mod_lt _ (by decide))
          rw [e] at h9
          rw [h9]
          have e2 : l.toArray[j / 2]! = l[j / 2] := by simp [getElem!_pos, hj2]
          rw [e2]
          have hl2 : (cLa l[j / 2]).length = 2 := rfl
          rw [List.getElem!_eq_getElem?_getD, List.getElem?_eq_getElem (by rw [hl2]; exact Nat.mod_lt _ (by decide))]
          rfl)
        rw [Addr.add_lit] at hr
        exact hr
      have eg : ∀ args w, (callFunc 40 args).run Tryd.prog w = .ok (.enter 40 args) w := enters_of Tryd.func40 (by kernel_rfl) rfl
      have hcmp : CmpLays Tryd.prog 40 #[] cLa 2 ordL g 0 l.toArray.size z := fun m os dk _ x y' => order_lays _ x y'
      have hcon := AnyQ.slices_SortFunc_total Tryd.sortL 2 Tryd.isAgg52 Tryd.sizeOf52 cLa (fun _ => rfl) kLa.one ordL ordSWO 40 #[] g 0 cap l.toArray z eg hcmp hH (heap_lt hg) (by simp; omega) (fun x y' h k => by unfold ltOf at h k; rw [ordL_lt] at h k; exact befL_tri x y' h k)
      change Calls Tryd.prog 52 _ _ _ at hcon
      rw [show l.toArray.size = l.length by simp] at hcon
      refine hcon.mono fun e z' h => ⟨h.1, ?_⟩
      obtain ⟨n, os, hz⟩ := h.2
      rw [lt_eq, show l.toArray.toList = l by simp] at hz
      have hlen : (l.mergeSort leL).length = l.length := List.length_mergeSort l
      refine ⟨?_, fun j a hj => ⟨g, 0, rfl, fun i v hv => ?_⟩, hcap⟩
      · rw [hz]
        refine K.low.trans ⟨rfl, rfl, rfl, by simp [sortWorldK, grow, putRowK, putRow, mapBlock, Sort.ahead], fun k hk => ?_⟩
        have hkz : k < z.heap.size := Nat.lt_of_lt_of_le hk K.low.size
        have hkg : k ≠ g := by omega
        unfold sortWorldK
        rw [heap_grow_old _ _ (by simp [putRowK, putRow, mapBlock, Sort.ahead]; exact hkz)]
        simp [putRowK, putRow, mapBlock, Sort.ahead, Array.getElem?_modify, hkg.symm]
      · have hjl := (List.getElem?_eq_some_iff.1 hj).1
        have hi : i < 2 := by
          have := (List.getElem?_eq_some_iff.1 hv).1
          exact this
        have ht : j * 2 + i < (l.mergeSort leL).toArray.size * 2 := by simp; omega
        rw [hz]
        unfold sortWorldK putRowK
        rw [cell?_grow _ _ _ (by simp [putRow, mapBlock, Sort.ahead]; exact heap_lt hg)]
        rw [show 0 + j * 2 + i = 0 + (j * 2 + i) by omega, cell?_putRow id (Sort.ahead z n) g 0 (flatK cLa 2 l.toArray) (flatK cLa 2 (l.mergeSort leL).toArray) hH (by simp) (j * 2 + i) (by rw [size_flatK]; exact ht), get_flatK _ _ _ _ ht]
        have e1 : (j * 2 + i) / 2 = j := by omega
        have e2 : (j * 2 + i) % 2 = i := by omega
        rw [e1, e2]
        have e3 : (l.mergeSort leL).toArray[j]! = a := by
          rw [getElem!_pos _ _ (by simpa using hjl)]
          have := (List.getElem?_eq_some_iff.1 hj).2
          simpa using this
        rw [e3, List.getElem!_eq_getElem?_getD, hv]
        rfl
end Go.Proofs.YthbdpceobnkflaaDoor
