/- The table of readers: the program's. -/
import Derived.Test.YtmaedkbmjbggpaaDoorJNm
import Derived.Test.YtmaedkbmjbggpaaDoorJNg
namespace Go.Proofs.YtmaedkbmjbggpaaDoor
open Go Go.RowKit
set_option linter.unusedVariables false
set_option maxHeartbeats 3000000
set_option maxRecDepth 20000

def fnD : Value := .func (.func 46) #[] #[]
def fnA : Value := .func (.func 47) #[] #[]
def fnR : Value := .func (.func 48) #[] #[]
def fnC (c : Nat) : Value := .func (.func 50) #[] #[.pointer (some ⟨c, 0, none⟩)]
/-- The table when the names of the first n ops stand in it. -/
def RdN (y : World) (g n : Nat) : Prop := ∃ F, MapF y g F ∧ F wData = some fnD ∧ F wAt = some fnA ∧ F wAddr = some fnR ∧
  (∀ s, s ≠ wData → s ≠ wAt → s ≠ wAddr → (∃ m, m < n ∧ nm m = s) → ∃ c, F s = some (fnC c) ∧ Bx y c #[.string s] 9) ∧
  (∀ s, s ≠ wData → s ≠ wAt → s ≠ wAddr → (¬ ∃ m, m < n ∧ nm m = s) → F s = none)
/-- Blocks of maps and of strings stay. -/
theorem RdN.keep {y z : World} {g n : Nat} (h : RdN y g n) (hk : ∀ (q : Nat) (o : Obj), ((∃ es c, o = Obj.map es c) ∨ ∃ cs, o = Obj.cells cs 9 (0, 0)) → y.heap[q]? = some o → z.heap[q]? = some o) : RdN z g n := by
  obtain ⟨F, hF, h1, h2, h3, h4, h5⟩ := h
  refine ⟨F, ?_, h1, h2, h3, fun s a b c d => ?_, h5⟩
  · obtain ⟨es, clock, hb, hr⟩ := hF
    exact ⟨es, clock, hk g _ (.inl ⟨es, clock, rfl⟩) hb, hr⟩
  · obtain ⟨c', e1, e2⟩ := h4 s a b c d
    exact ⟨c', e1, hk c' _ (.inr ⟨_, rfl⟩) e2⟩
theorem RdN.below {y z : World} {g n : Nat} (h : RdN y g n) (hb : Below y.heap.size y z) : RdN z g n := h.keep fun q o _ hq => (hb.block q (heap_lt hq)).trans hq
theorem nm_no (n : Nat) (h : n < 256) : nm n ≠ wData ∧ nm n ≠ wAt ∧ nm n ≠ wAddr := by
  obtain ⟨a, b, c⟩ := nmB_no n h
  rw [nm_eq]
  refine ⟨fun e => a ?_, fun e => b ?_, fun e => c ?_⟩
  · exact congrArg (fun s => s.data.toList) e
  · exact congrArg (fun s => s.data.toList) e
  · exact congrArg (fun s => s.data.toList) e
theorem mapU : Tryd.prog.underlying 55 = some (.map 9 78) := by kernel_rfl
theorem strU : Tryd.prog.underlying 9 = some .string := by kernel_rfl
theorem RdN.first {y : World} {g : Nat} {F : ByteArray → Option Value} (h : MapF y g F) (hF : F = putF (putF (putF (fun _ => none) wData fnD) wAt fnA) wAddr fnR) : RdN y g 0 := by
  subst hF
  refine ⟨_, h, rfl, rfl, rfl, fun s _ _ _ hm => ?_, fun s a b c _ => ?_⟩
  · obtain ⟨m, hm, _⟩ := hm
    omega
  · unfold putF
    rw [if_neg c, if_neg b, if_neg a]
theorem RdN.next {x z : World} {g n c : Nat} {F : ByteArray → Option Value} (hn : n < 256) (h1 : F wData = some fnD) (h2 : F wAt = some fnA) (h3 : F wAddr = some fnR)
    (h4 : ∀ s, s ≠ wData → s ≠ wAt → s ≠ wAddr → (∃ m, m < n ∧ nm m = s) → ∃ c, F s = some (fnC c) ∧ Bx x c #[.string s] 9) (h5 : ∀ s, s ≠ wData → s ≠ wAt → s ≠ wAddr → (¬ ∃ m, m < n ∧ nm m = s) → F s = none)
    (hm : MapF z g (putF F (nm n) (fnC c))) (hc : Bx z c #[.string (nm n)] 9) (hk : ∀ q cs, Bx x q cs 9 → Bx z q cs 9) : RdN z g (n + 1) := by
  obtain ⟨a, b, d⟩ := nm_no n hn
  refine ⟨_, hm, by unfold putF; rw [if_neg (Ne.symm a)]; exact h1, by unfold putF; rw [if_neg (Ne.symm b)]; exact h2, by unfold putF; rw [if_neg (Ne.symm d)]; exact h3, fun s e1 e2 e3 hx => ?_, fun s e1 e2 e3 hx => ?_⟩
  · unfold putF
    by_cases e : s = nm n
    · rw [if_pos e]
      exact ⟨c, rfl, by rw [e]; exact hc⟩
    · rw [if_neg e]
      obtain ⟨m, hm1, hm2⟩ := hx
      obtain ⟨c', k1, k2⟩ := h4 s e1 e2 e3 ⟨m, by
        rcases Nat.lt_succ_iff_lt_or_eq.1 hm1 with h | rfl
        · exact h
        · exact absurd hm2.symm e, hm2⟩
      exact ⟨c', k1, hk _ _ k2⟩
  · unfold putF
    rw [if_neg (fun e => hx ⟨n, by omega, e.symm⟩)]
    exact h5 s e1 e2 e3 (fun ⟨m, hm1, hm2⟩ => hx ⟨m, by omega, hm2⟩)
/-- The table as it is looked into. -/
def Rd (y : World) (g : Nat) : Prop := RdN y g 256
theorem Rd.look {y : World} {g : Nat} (h : Rd y g) (s : ByteArray) : ∃ v b, (∀ z : World, z.heap[g]? = y.heap[g]? → (Instr.lookup 55 (.map (some g)) (.string s) true).run Tryd.prog z = .ok (.tuple #[v, .bool b]) z) ∧
    ((s = wData ∧ b = true ∧ v = fnD) ∨ (s = wAt ∧ b = true ∧ v = fnA) ∨ (s = wAddr ∧ b = true ∧ v = fnR) ∨ (s ≠ wData ∧ s ≠ wAt ∧ s ≠ wAddr ∧ b = true ∧ (∃ c, v = fnC c ∧ Bx y c #[.string s] 9) ∧ opOf s ≠ none) ∨ (s ≠ wData ∧ s ≠ wAt ∧ s ≠ wAddr ∧ b = false ∧ opOf s = none)) := by
  obtain ⟨F, hF, h1, h2, h3, h4, h5⟩ := h
  refine ⟨(F s).getD .nilFunc , (F s).isSome, fun z hz => (hF.keep hz).look mapU strU s _ (by kernel_rfl), ?_⟩
  by_cases e1 : s = wData
  · subst e1
    rw [h1]
    exact .inl ⟨rfl, rfl, rfl⟩
  by_cases e2 : s = wAt
  · subst e2
    rw [h2]
    exact .inr (.inl ⟨rfl, rfl, rfl⟩)
  by_cases e3 : s = wAddr
  · subst e3
    rw [h3]
    exact .inr (.inr (.inl ⟨rfl, rfl, rfl⟩))
  by_cases hx : ∃ m, m < 256 ∧ nm m = s
  · obtain ⟨c, k1, k2⟩ := h4 s e1 e2 e3 hx
    rw [k1]
    refine .inr (.inr (.inr (.inl ⟨e1, e2, e3, rfl, ⟨c, rfl, k2⟩, ?_⟩)))
    obtain ⟨m, hm, rfl⟩ := hx
    rw [opOf_nm m hm]
    simp
  · rw [h5 s e1 e2 e3 hx]
    refine .inr (.inr (.inr (.inr ⟨e1, e2, e3, rfl, ?_⟩)))
    exact opOf_none fun m hm e => hx ⟨m, hm, e⟩
theorem readers_any (w : World) (T : Hid (Tw w)) : Calls Tryd.prog 29 #[] w fun e w' => ∃ g, e = .returned (.map (some g)) ∧ Hid (Rd w' g ∧ Below w.heap.size w w') := by
  have hmf : ∀ (fn : Fn) (first cap : Array Value) (w : World), (Instr.makeFunc fn first cap).run Tryd.prog w = .ok (.func fn first cap) w := fun _ _ _ _ => rfl
  have hmm : ∀ v : World, (Instr.makeMap 55 none).run Tryd.prog v = .ok (.map (some v.heap.size)) (v.alloc (.map #[] 0)) := fun v => by rfl
  have hM0 : Hid (MapF (w.alloc (.map #[] 0)) w.heap.size (fun _ => none)) := MapF.new w
  go_enter Tryd.func29, Tryd.ntmps29
  go_wp2_with (first
    | (refine at_put ?_ (.tmp 4) (.const (.string ⟨#[97, 100, 100, 114, 101, 115, 115]⟩)) (.func 48) (.inr rfl) mapU strU w.heap.size _ wAddr fnR H2.out.1 rfl rfl rfl ?_; rfl; intro y3 H3)
    | (refine at_put ?_ (.tmp 4) (.const (.string ⟨#[97, 116]⟩)) (.func 47) (.inr rfl) mapU strU w.heap.size _ wAt fnA H1.out.1 rfl rfl rfl ?_; rfl; intro y2 H2)
    | (refine at_put ?_ (.tmp 4) (.const (.string ⟨#[100, 97, 116, 97]⟩)) (.func 46) (.inr rfl) mapU strU w.heap.size (fun _ => none) wData fnD hM0.out rfl rfl rfl ?_; rfl; intro y1 H1))
  have K0 : Hid (RdN y3 w.heap.size 0 ∧ Below w.heap.size w y3) := ⟨RdN.first H3.out.1 rfl, (((below1 w (.map #[] 0)).trans (H1.out.2.2 _ (Nat.le_refl _))).trans (H2.out.2.2 _ (Nat.le_refl _))).trans (H3.out.2.2 _ (Nat.le_refl _))⟩
  clear H1 H2 H3 hM0
  obtain ⟨g, hg⟩ : ∃ g, w.heap.size = g := ⟨_, rfl⟩
  have hg' : Hid (w.heap.size = g) := hg
  have K1 : Hid (RdN y3 g 0 ∧ Below w.heap.size w y3) := by rw [← hg]; exact K0
  rw [hg]
  clear hg K0
  go_loopw [6] (fun i wz => ∃ (n : Nat) (y : World), y = wz ∧ n ≤ 256 ∧ i = .int .i64 (n : Int) ∧ Hid (RdN y g n ∧ Below w.heap.size w y)) (fun i _ => (256 - intOf i).toNat)
  case atStart => exact ⟨0, y3, rfl, by omega, rfl, K1⟩
  case round =>
    obtain ⟨n, y, rfl, hn, rfl, K⟩ := hrel
    by_cases hlt : n < 256
    · obtain ⟨X, hX⟩ : ∃ X, Hid (nm n = X) := ⟨_, (rfl : nm n = nm n)⟩
      obtain ⟨F, hF⟩ : ∃ X, Hid (fm n = X) := ⟨_, (rfl : fm n = fm n)⟩
      obtain ⟨L, hL⟩ : ∃ X, Hid (lay (fm n * 3) = X) := ⟨_, (rfl : lay (fm n * 3) = lay (fm n * 3))⟩
      obtain ⟨c, hc⟩ : ∃ X, Hid (cyc n = X) := ⟨_, (rfl : cyc n = cyc n)⟩
      have hfd := fld0 X F L c
      obtain ⟨G, k0, k1, k2, k3, k4, k5⟩ := K.out.1
      have k0' : Hid (MapF y g G) := k0
      have kk : Hid (G wData = some fnD ∧ G wAt = some fnA ∧ G wAddr = some fnR ∧ (∀ s, s ≠ wData → s ≠ wAt → s ≠ wAddr → (∃ m, m < n ∧ nm m = s) → ∃ c, G s = some (fnC c) ∧ Bx y c #[.string s] 9) ∧ (∀ s, s ≠ wData → s ≠ wAt → s ≠ wAddr → (¬ ∃ m, m < n ∧ nm m = s) → G s = none)) := ⟨k1, k2, k3, k4, k5⟩
      clear k0 k1 k2 k3 k4 k5
      have hlt' : Hid (n < 256) := hlt
      go_wp2_with (first
        | (refine at_put ?_ (.tmp 13) (.tmp 14) (.tmp 15) (.inl rfl) mapU strU g G X (fnC v1.heap.size) M2.out rfl rfl rfl ?_; rfl; intro y5 H5)
        | (go_at_call 49; refine (info_of n X F L c hX hF hL hc _ (T.out.t.below K.out.2) hlt).mono ?_; rintro e v1 ⟨rfl, hb1⟩; have M1 : Hid (Below y.heap.size y v1) := hb1; clear hb1; have M2 : Hid (MapF (v1.alloc (.cells #[.string X] 9)) g G) := k0'.out.keep (((below1 v1 _).block g (Nat.lt_of_lt_of_le k0'.out.lt M1.out.size)).trans (M1.out.block g k0'.out.lt))))
      go_roundw
      case rel =>
        have hbv := M1.out.trans ((below1 v1 (.cells #[.string X] 9)).mono M1.out.size)
        have hwg : w.heap.size ≤ g := by rw [hg'.out]; exact Nat.le_refl _
        have hne : ∀ q cs, Bx y q cs 9 → q ≠ g := fun q cs hq e => by
          obtain ⟨es, ck, hm⟩ := k0'.out.block
          subst e
          unfold Bx at hq
          rw [hq] at hm
          cases hm
        refine ⟨n + 1, _, rfl, by omega, by simp, ?_, (K.out.2.trans (hbv.mono K.out.2.size)).trans (H5.out.2.2 _ hwg)⟩
        obtain ⟨k1, k2, k3, k4, k5⟩ := kk.out
        have hX' := hX.out
        refine RdN.next hlt'.out k1 k2 k3 k4 k5 (by rw [hX']; exact H5.out.1) ?_ (fun q cs hq => ?_)
        · rw [hX']
          exact (H5.out.2.1 _ (by have := k0'.out.lt; have := M1.out.size; omega)).trans (alloc_last' v1 _)
        · exact (H5.out.2.1 q (hne q cs hq)).trans ((hbv.block q (heap_lt hq)).trans hq)
      case measure => simp [intOf]; omega
    · have hn' : n = 256 := by omega
      subst hn'
      go_wp2
      go_ret
      exact ⟨g, rfl, K⟩
end Go.Proofs.YtmaedkbmjbggpaaDoor
