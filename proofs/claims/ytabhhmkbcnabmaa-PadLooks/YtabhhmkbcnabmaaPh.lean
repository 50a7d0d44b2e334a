/- The statements' own look at lists that came out: each its owner's, written full and grown. -/
import Derived.Test.YtabhhmkbcnabmaaPf
namespace Go.Proofs.Ytabhhmkbcnabmaa
open Go Go.RowKit
set_option linter.unusedVariables false
set_option maxHeartbeats 1000000
set_option maxRecDepth 20000

def gro (xs : List Int) (c : Int) (k : Nat) : List Int := xs ++ List.replicate k c
/-- A row v0 of n numbers, grown by k equal ones since w0. -/
structure Gr (B : Nat) (w0 : World) (v0 : Value) (xs : List Int) (c : Int) (k : Nat) (v : Value) (y : World) : Prop where
  own : OwnI B y v (gro xs c k)
  cu : Cu B (fun g j => (v0.ownBlock = some g ∧ xs.length ≤ j) ∨ w0.heap.size ≤ g) w0 y
  new : ∀ g, v.ownBlock = some g → v0.ownBlock = some g ∨ w0.heap.size ≤ g
theorem Gr.start {B : Nat} {w0 : World} {v0 : Value} {xs : List Int} {c : Int} (h : OwnI B w0 v0 xs) : Gr B w0 v0 xs c 0 v0 w0 :=
  ⟨by simpa [gro] using h, Cu.refl _ _ _, fun g h => .inl h⟩
theorem Gr.add {B : Nat} {w0 : World} {v0 : Value} {xs : List Int} {c : Int} {k : Nat} {v v' : Value} {y w' : World} {o : Obj} (h : Gr B w0 v0 xs c k v y) (hB : B ≤ w0.heap.size) (a : App1 B v (gro xs c k).length (rowI (gro xs c k)) (.int .i64 c) v' (y.alloc o) w') : Gr B w0 v0 xs c (k + 1) v' w' := by
  have hs := h.cu.low.size
  have hz : w0.heap.size ≤ (y.alloc o).heap.size := by simp; omega
  refine ⟨?_, (h.cu.trans (Cu.of_below (below1 y o) (by omega))).trans (a.cu.mono fun g j hg hF => ?_), fun g hg => ?_⟩
  · have := OwnI.add a
    unfold gro at this ⊢
    rw [List.append_assoc, ← List.replicate_succ'] at this
    exact this
  · rcases h.new g hF.1 with h1 | h1
    · exact .inl ⟨h1, by have := hF.2; simp [gro] at this; omega⟩
    · exact .inr h1
  · rcases a.new g hg with h1 | h1
    · exact h.new g h1
    · exact .inr (by omega)
theorem Gr.fin {B : Nat} {w0 : World} {v0 : Value} {xs : List Int} {c : Int} {k : Nat} {v : Value} {y : World} (h : Gr B w0 v0 xs c k v y) (hk : 0 < k) : ∃ g cap, v = .slice (some ⟨g, 0, none⟩) (xs.length + k) cap ∧ g < y.heap.size ∧ (v0.ownBlock = some g ∨ w0.heap.size ≤ g) ∧ ∀ j, xs.length ≤ j → j < xs.length + k → y.cell? ⟨g, j, none⟩ = some (.int .i64 c) := by
  have ho := h.own
  have hl : (gro xs c k).length = xs.length + k := by simp [gro]
  rcases ho.2 with ⟨_, h0⟩ | ⟨g, cap, cur, hv, _, hg, _⟩
  · rw [hl] at h0; omega
  · rw [hl] at hv
    refine ⟨g, cap, hv, heap_lt hg, h.new g (by rw [hv]; rfl), fun j h1 h2 => ?_⟩
    have := World.ownsRow.cells (g := g) ho (by rw [hv]; rfl) j (.int .i64 c) (rowI_at _ j c (by unfold gro; rw [List.getElem?_append_right h1, List.getElem?_replicate, if_pos (by omega)]))
    rw [Addr.add_lit, Nat.zero_add] at this
    exact this
theorem OwnI.set {B : Nat} {w : World} {g n cap : Nat} {xs : List Int} (h : OwnI B w (.slice (some ⟨g, 0, none⟩) n cap) xs) (k : Nat) (z : Int) : OwnI B (w.setCell ⟨g, k, none⟩ (.int .i64 z)) (.slice (some ⟨g, 0, none⟩) n cap) (xs.set k z) := by
  obtain ⟨h1, h2⟩ := h
  rcases h2 with ⟨h0, _⟩ | ⟨g', cap', cur, hv, hb, hg, hn, hm, hs, ht⟩
  · simp at h0
  · simp at hv
    obtain ⟨rfl, hn', rfl⟩ := hv
    refine ⟨by simp [rowI_len], .inr ⟨g, cap, cur.setIfInBounds k (.int .i64 z), by simp [hn'], hb, heap_setCell_same w g k cur _ _ hg, by simpa using hn, hm, by simpa using hs, ?_⟩⟩
    rw [Array.toList_setIfInBounds, List.take_set, List.length_set, ht]
    simp [rowI, List.map_set]
theorem OwnI.at {B : Nat} {w : World} {g n cap : Nat} {xs : List Int} (h : OwnI B w (.slice (some ⟨g, 0, none⟩) n cap) xs) (k : Nat) (hk : k < xs.length) : (∃ z, w.cell? ⟨g, k, none⟩ = some (.int .i64 z)) ∧ w.frozen? ⟨g, k, none⟩ = false ∧ B ≤ g := by
  obtain ⟨h1, h2⟩ := id h
  rcases h2 with ⟨h0, _⟩ | ⟨g', cap', cur, hv, hb, hg, hn, hm, hs, ht⟩
  · simp at h0
  · simp at hv
    obtain ⟨rfl, hn', rfl⟩ := hv
    have := World.ownsRow.cells (g := g) h (by simp [Value.ownBlock]) k (.int .i64 (xs[k])) (rowI_at _ k _ (List.getElem?_eq_getElem hk))
    rw [Addr.add_lit, Nat.zero_add] at this
    exact ⟨⟨_, this⟩, frozen_heap hg k, hb⟩
theorem OwnI.keep {B : Nat} {F : Nat → Nat → Prop} {x y : World} {v : Value} {l : List Int} (h : OwnI B x v l) (u : Cu B F x y) (hF : ∀ g j, v.ownBlock = some g → ¬ F g j) : OwnI B y v l := by
  refine ⟨h.1, ?_⟩
  rcases h.2 with h0 | ⟨g, cap, cur, hv, hb, hg, hr⟩
  · exact .inl h0
  · exact .inr ⟨g, cap, cur, hv, hb, (u.blk g (heap_lt hg) fun j => hF g j (by rw [hv]; rfl)).trans hg, hr⟩
/-- What lies elsewhere stays. -/
theorem LiesI.cu {B : Nat} {F : Nat → Nat → Prop} {x y : World} {sp : Option Addr} {l : List Int} (h : LiesI x sp l) (u : Cu B F x y) (hF : ∀ a j, sp = some a → j < l.length → a.off = 0 → ¬ F a.block j) (h0 : ∀ a, sp = some a → a.off = 0) : LiesI y sp l := fun j v hj => by
  obtain ⟨gb, ob, e, c⟩ := h j v hj
  have h1 : ob = 0 := h0 _ e
  subst h1
  refine ⟨gb, 0, e, (u.cell gb (0 + j) (World.block_lt_of_cell? x _ c) ?_).trans c⟩
  rw [Nat.zero_add]
  exact hF ⟨gb, 0, none⟩ j e (List.getElem?_eq_some_iff.1 hj).1 rfl
theorem OwnI.open {B : Nat} {w : World} {v : Value} {l : List Int} (h : OwnI B w v l) : ∃ sp cap, v = .slice sp l.length cap ∧ LiesI w sp l ∧ (∀ a, sp = some a → a.off = 0 ∧ a.spot = none ∧ B ≤ a.block ∧ a.block < w.heap.size) ∧ (∀ g, v.ownBlock = some g ↔ sp = some ⟨g, 0, none⟩) := by
  obtain ⟨sp, cap, hv, hl, hb⟩ := h.slice
  rcases h.2 with ⟨h0, _⟩ | ⟨g', cap', cur, hv', _⟩
  · subst hv
    have : sp = none := by simp at h0; exact h0.1
    subst this
    exact ⟨none, cap, rfl, hl, (fun a h => by cases h), (fun g => by simp [Value.ownBlock])⟩
  · subst hv
    have : sp = some ⟨g', 0, none⟩ := by simp at hv'; exact hv'.1
    subst this
    refine ⟨_, cap, rfl, hl, fun a h => ?_, fun g => by simp [Value.ownBlock]⟩
    have := hb a h
    cases h
    exact ⟨rfl, rfl, this⟩
theorem apart_any (w : World) (B : Nat) (hB : B ≤ w.heap.size) (va vb vc : Value) (l : List Int) (hl : l.length ≤ 16) (ha : OwnI B w va l) (hb : OwnI B w vb l) (hc : OwnI B w vc l)
    (hab : ∀ g, va.ownBlock = some g → vb.ownBlock ≠ some g) (hac : ∀ g, va.ownBlock = some g → vc.ownBlock ≠ some g) (hbc : ∀ g, vb.ownBlock = some g → vc.ownBlock ≠ some g) :
    Calls Try.prog 12 #[va, vb, vc] w fun e w' => e = .returned (.bool true) ∧ Below B w w' := by
  obtain ⟨pa, ca, rfl, la, aa, oa⟩ := ha.open
  obtain ⟨pb, cb, rfl, lb, ab, ob⟩ := hb.open
  obtain ⟨pc, cc, rfl, lc, ac, oc⟩ := hc.open
  have dab : Hid (∀ g, pa = some ⟨g, 0, none⟩ → pb ≠ some ⟨g, 0, none⟩) := fun g h1 h2 => hab g ((oa g).2 h1) ((ob g).2 h2)
  have dac : Hid (∀ g, pa = some ⟨g, 0, none⟩ → pc ≠ some ⟨g, 0, none⟩) := fun g h1 h2 => hac g ((oa g).2 h1) ((oc g).2 h2)
  have dbc : Hid (∀ g, pb = some ⟨g, 0, none⟩ → pc ≠ some ⟨g, 0, none⟩) := fun g h1 h2 => hbc g ((ob g).2 h1) ((oc g).2 h2)
  have SA : Hid (∀ x, LiesI x pa l → LiesI x pc l → Calls Try.prog 17 #[.slice pa l.length ca, .slice pc l.length cc] x fun e w' => e = .returned (.bool true) ∧ ∃ k, w' = x.drewN k) := fun x h1 h2 => same_true x pa pc ca cc l (by omega) h1 h2
  have SB : Hid (∀ x, LiesI x pb l → LiesI x pc l → Calls Try.prog 17 #[.slice pb l.length cb, .slice pc l.length cc] x fun e w' => e = .returned (.bool true) ∧ ∃ k, w' = x.drewN k) := fun x h1 h2 => same_true x pb pc cb cc l (by omega) h1 h2
  clear hab hac hbc oa ob oc
  have HA : Hid (OwnI B w (.slice pa l.length ca) l) := ha
  have HBo : Hid (OwnI B w (.slice pb l.length cb) l) := hb
  have HLa : Hid (LiesI w pa l) := la
  have HLb : Hid (LiesI w pb l) := lb
  have HLc : Hid (LiesI w pc l) := lc
  have Aa : Hid (∀ a, pa = some a → a.off = 0 ∧ a.spot = none ∧ B ≤ a.block ∧ a.block < w.heap.size) := aa
  have Ab : Hid (∀ a, pb = some a → a.off = 0 ∧ a.spot = none ∧ B ≤ a.block ∧ a.block < w.heap.size) := ab
  have Ac : Hid (∀ a, pc = some a → a.off = 0 ∧ a.spot = none ∧ B ≤ a.block ∧ a.block < w.heap.size) := ac
  have hB' : Hid (B ≤ w.heap.size) := hB
  obtain ⟨n, hn⟩ : ∃ n, l.length = n := ⟨_, rfl⟩
  rw [hn] at SA SB HA HBo hl ⊢
  have hn' : Hid (l.length = n) := hn
  have n16 : (n : Int) ≤ 16 := by omega
  have hnn : Hid (n ≤ 16) := hl
  clear ha hb hc la lb lc aa ab ac hB hn hl
  go_enter Try.func12, Try.ntmps12
  go_wp2_with (first
    | (go_at_call_of 17 (Value.slice pa n ca); refine (SA.out _ HLa.out HLc.out).mono ?_; rintro e w1 ⟨rfl, q, hq⟩; subst hq)
    | (go_at_call_of 17 (Value.slice pb n cb); refine (SB.out _ (show LiesI (w.drewN q) pb l from HLb.out) (show LiesI (w.drewN q) pc l from HLc.out)).mono ?_; rintro e w1 ⟨rfl, q2, hq⟩; subst hq))
  go_loopw [7] (fun i wz => ∃ (k : Nat) (wx : World) (xs : List Int), wx = wz ∧ k ≤ n ∧ i = .int .i64 (k : Int) ∧ Hid (xs.length = n ∧ OwnI B wx (.slice pa n ca) xs ∧ Cu B (fun g j => pa = some ⟨g, 0, none⟩) w wx)) (fun i _ => (n - intOf i).toNat)
  case atStart => exact ⟨0, _, l, rfl, by omega, rfl, ⟨hn'.out, HA.out, ⟨below_drewN (Below.refl _ _), fun _ _ _ _ => rfl, fun _ _ _ => rfl⟩⟩⟩
  case round =>
    obtain ⟨k, wx, xs, rfl, hk, rfl, HX⟩ := hrel
    clear SA HLa HA
    by_cases hlt : k < n
    · obtain ⟨hxl, hO, hC⟩ := HX.out
      obtain ⟨g, rfl⟩ : ∃ g, pa = some ⟨g, 0, none⟩ := by
        obtain ⟨sp, cap, hv, hL, hA, _⟩ := hO.open
        simp at hv
        obtain ⟨rfl, _, _⟩ := hv
        obtain ⟨gb, ob, e, _⟩ := hL k _ (List.getElem?_eq_getElem (by omega))
        have := (hA _ e).1
        simp at this
        subst this
        exact ⟨gb, e⟩
      obtain ⟨⟨z, cz⟩, fz, hbg⟩ := hO.at k (by omega)
      have ij := fun v => idxP (g := g) (off := 0) (len := n) (cap := ca) Try.underlying31 (s := 1) (by kernel_rfl) .i64 k v hlt
      simp only [Nat.zero_add, Nat.mul_one] at ij
      have fin : Hid ((xs.set k (-1)).length = n ∧ OwnI B (wx.setCell ⟨g, k, none⟩ (.int .i64 (-1))) (.slice (some ⟨g, 0, none⟩) n ca) (xs.set k (-1)) ∧ Cu B (fun g' j => (some ⟨g, 0, none⟩ : Option Addr) = some ⟨g', 0, none⟩) w (wx.setCell ⟨g, k, none⟩ (.int .i64 (-1)))) := by
        refine ⟨by simp [hxl], hO.set k (-1), hC.trans ⟨(Below.refl B wx).setCell (p := ⟨g, k, none⟩) hbg _, fun g' j _ hF => ?_, fun g' _ hF => ?_⟩⟩
        · exact World.cell?_of_block (w := wx) (a := ⟨g', j, none⟩) (heap_setCell_other wx ⟨g, k, none⟩ g' _ fun e => hF (by rw [show g' = g from e]))
        · exact heap_setCell_other wx ⟨g, k, none⟩ g' _ fun e => hF 0 (by rw [show g' = g from e])
      have hlt' : Hid (k < n) := hlt
      have hki : (k : Int) < n := by omega
      clear hO hC HX hxl hbg hlt hk
      go_wp2
      go_roundw
      case rel => exact ⟨k + 1, _, xs.set k (-1), rfl, by have := hlt'.out; omega, by simp, fin⟩
      case measure => have := hlt'.out; simp [intOf]; omega
    · have hke : k = n := by omega
      subst hke
      obtain ⟨hxl, hO, hC⟩ := HX.out
      have G0 : Hid (Gr B wx (.slice pa k ca) xs (-2) 0 (.slice pa k ca) wx) := Gr.start hO
      have hxl' : Hid (xs.length = k) := hxl
      have hBx : Hid (B ≤ wx.heap.size) := by have := hB'.out; have := hC.low.size; show B ≤ wx.heap.size; omega
      have hC' : Hid (Cu B (fun g j => pa = some ⟨g, 0, none⟩) w wx) := hC
      clear HX hO hC hxl hk hlt
      go_wp2
      go_loopw [8, 9] (fun x i wz => ∃ (j : Nat) (v : Value) (y : World), y = wz ∧ v = x ∧ j ≤ 20 ∧ i = .int .i64 (j : Int) ∧ Hid (Gr B wx (.slice pa k ca) xs (-2) j v y)) (fun _ i _ => (20 - intOf i).toNat)
      case atStart => exact ⟨0, _, _, rfl, rfl, by omega, rfl, G0⟩
      case round =>
        obtain ⟨j, xv, y, rfl, rfl, hj, rfl, G⟩ := hrel
        clear G0
        by_cases hlt : j < 20
        · have hlt' : Hid (j < 20) := hlt
          have hji : (j : Int) < 20 := by omega
          clear hlt hj
          go_wp2_with (at_builtin; refine at_app rfl (.tmp 37) (.tmp 38) rfl B xv (gro xs (-2) j).length (rowI (gro xs (-2) j)) rfl (G.out.own.alloc _) y.heap.size (.int .i64 (-2)) rfl (one_cell _ _) rfl ?a1 ?a2 ?_)
          case a1 => have := hxl'.out; have := hlt'.out; have := hnn.out; simp [gro]; omega
          case a2 => have := hBx.out; have := G.out.cu.low.size; simp; omega
          intro v' w' A
          have fin : Hid (Gr B wx (.slice pa k ca) xs (-2) (j + 1) v' w') := G.out.add hBx.out A.out
          clear A
          go_wp2
          go_roundw
          case rel => exact ⟨j + 1, _, _, rfl, rfl, by have := hlt'.out; omega, by simp, fin⟩
          case measure => have := hlt'.out; simp [intOf]; omega
        · have hje : j = 20 := by omega
          subst hje
          rw [show ((20 : Nat) : Int) = 20 from rfl]
          obtain ⟨gx, cx, rfl, hgx, hwh, hcx⟩ := G.out.fin (by omega)
          rw [hxl'.out] at hcx
          rw [hxl'.out] at G ⊢
          have U : Cu B (fun g j => pa = some ⟨g, 0, none⟩ ∨ w.heap.size ≤ g) w y := (hC'.out.mono fun g j _ h => .inl h).trans (G.out.cu.mono fun g j hg hF => by
            have hw := hC'.out.low.size
            rcases hF with ⟨h1, _⟩ | h1
            · cases pa with
              | none => simp [Value.ownBlock] at h1
              | some ad =>
                simp [Value.ownBlock] at h1
                have := Aa.out ad rfl
                obtain ⟨b0, o0, s0⟩ := ad
                simp at this h1
                obtain ⟨rfl, rfl, _⟩ := this
                subst h1
                exact .inl rfl
            · exact .inr (by omega))
          have kb : ∀ (g j : Nat), pb = some ⟨g, 0, none⟩ → ¬ (pa = some ⟨g, 0, none⟩ ∨ w.heap.size ≤ g) := fun g j h1 h2 => by
            rcases h2 with h2 | h2
            · exact dab.out g h2 h1
            · have := (Ab.out _ h1).2.2.2; simp at this; omega
          have kc : ∀ (g j : Nat), pc = some ⟨g, 0, none⟩ → ¬ (pa = some ⟨g, 0, none⟩ ∨ w.heap.size ≤ g) := fun g j h1 h2 => by
            rcases h2 with h2 | h2
            · exact dac.out g h2 h1
            · have := (Ac.out _ h1).2.2.2; simp at this; omega
          have fb : ∀ g, (Value.slice pb k cb).ownBlock = some g → pb = some ⟨g, 0, none⟩ := fun g h => by
            cases pb with
            | none => simp [Value.ownBlock] at h
            | some ad =>
              simp [Value.ownBlock] at h
              have := Ab.out ad rfl
              obtain ⟨b0, o0, s0⟩ := ad
              simp at this h
              obtain ⟨rfl, rfl, _⟩ := this
              subst h
              rfl
          have OB : OwnI B y (.slice pb k cb) l := HBo.out.keep U fun g j h => kb g j (fb g h)
          have LB : LiesI y pb l := HLb.out.cu U (fun a j e _ h0 => by have := (Ab.out a e).2.1; obtain ⟨b0, o0, s0⟩ := a; simp at h0 this; subst h0 this; exact kb b0 j e) (fun a e => (Ab.out a e).1)
          have LC : LiesI y pc l := HLc.out.cu U (fun a j e _ h0 => by have := (Ac.out a e).2.1; obtain ⟨b0, o0, s0⟩ := a; simp at h0 this; subst h0 this; exact kc b0 j e) (fun a e => (Ac.out a e).1)
          have hBy : Hid (B ≤ y.heap.size) := by have := hB'.out; have := U.low.size; show B ≤ y.heap.size; omega
          have X2 : Hid (gx < y.heap.size ∧ pb ≠ some ⟨gx, 0, none⟩ ∧ ∀ j, k ≤ j → j < k + 20 → y.cell? ⟨gx, j, none⟩ = some (.int .i64 (-2))) := by
            refine ⟨hgx, fun h => ?_, hcx⟩
            rcases hwh with h1 | h1
            · cases pa with
              | none => simp [Value.ownBlock] at h1
              | some ad =>
                simp [Value.ownBlock] at h1
                have := Aa.out ad rfl
                obtain ⟨b0, o0, s0⟩ := ad
                simp at this h1
                obtain ⟨rfl, rfl, _⟩ := this
                subst h1
                exact dab.out _ rfl h
            · have := (Ab.out _ h).2.2.2
              have hw := hC'.out.low.size
              simp at this
              omega
          have LB' : Hid (LiesI y pb l) := LB
          have LC' : Hid (LiesI y pc l) := LC
          have U' : Hid (Below B w y) := U.low
          have H0 : Hid (Gr B y (.slice pb k cb) l (-3) 0 (.slice pb k cb) y) := Gr.start OB
          have fb' : Hid (∀ g, (Value.slice pb k cb).ownBlock = some g → pb = some ⟨g, 0, none⟩) := fb
          have AbY : Hid (∀ a, pb = some a → a.off = 0 ∧ a.spot = none ∧ a.block < y.heap.size) := fun a e => ⟨(Ab.out a e).1, (Ab.out a e).2.1, by have := (Ab.out a e).2.2.2; have := U.low.size; omega⟩
          have AcY : Hid (∀ a, pc = some a → a.off = 0 ∧ a.spot = none ∧ a.block < y.heap.size) := fun a e => ⟨(Ac.out a e).1, (Ac.out a e).2.1, by have := (Ac.out a e).2.2.2; have := U.low.size; omega⟩
          clear OB LB LC U kb kc fb hgx hwh hcx G hj hlt
          go_wp2
          go_loopw [10, 11] (fun x i wz => ∃ (j : Nat) (v : Value) (z : World), z = wz ∧ v = x ∧ j ≤ 20 ∧ i = .int .i64 (j : Int) ∧ Hid (Gr B y (.slice pb k cb) l (-3) j v z)) (fun _ i _ => (20 - intOf i).toNat)
          case atStart => exact ⟨0, _, _, rfl, rfl, by omega, rfl, H0⟩
          case round =>
            obtain ⟨j, yv, z, rfl, rfl, hj, rfl, G⟩ := hrel
            clear H0
            by_cases hlt : j < 20
            · have hlt' : Hid (j < 20) := hlt
              have hji : (j : Int) < 20 := by omega
              clear hlt hj
              go_wp2_with (at_builtin; refine at_app rfl (.tmp 45) (.tmp 46) rfl B yv (gro l (-3) j).length (rowI (gro l (-3) j)) rfl (G.out.own.alloc _) z.heap.size (.int .i64 (-3)) rfl (one_cell _ _) rfl ?a1 ?a2 ?_)
              case a1 => have := hn'.out; have := hlt'.out; have := hnn.out; simp [gro]; omega
              case a2 => have := hBy.out; have := G.out.cu.low.size; simp; omega
              intro v' w' A
              have fin : Hid (Gr B y (.slice pb k cb) l (-3) (j + 1) v' w') := G.out.add hBy.out A.out
              clear A
              go_wp2
              go_roundw
              case rel => exact ⟨j + 1, _, _, rfl, rfl, by have := hlt'.out; omega, by simp, fin⟩
              case measure => have := hlt'.out; simp [intOf]; omega
            · have hje : j = 20 := by omega
              subst hje
              rw [show ((20 : Nat) : Int) = 20 from rfl]
              obtain ⟨gy, cy, rfl, hgy, hwy, hcy⟩ := G.out.fin (by omega)
              rw [hn'.out] at hcy ⊢
              have U := G.out.cu
              rw [hn'.out] at U
              have LB : Hid (LiesI z pb l) := LB'.out.cu U (fun a i e hi h0 hF => by
                rcases hF with h1 | h1
                · rw [hn'.out] at hi; omega
                · have := (AbY.out a e).2.2; omega) (fun a e => (AbY.out a e).1)
              have LC : Hid (LiesI z pc l) := LC'.out.cu U (fun a i e hi h0 hF => by
                rcases hF with h1 | h1
                · have h3 := fb'.out _ h1.1
                  have := (AcY.out a e).2.1
                  obtain ⟨b0, o0, s0⟩ := a
                  simp at h0 this h3
                  subst h0 this
                  exact dbc.out _ h3 e
                · have := (AcY.out a e).2.2; omega) (fun a e => (AcY.out a e).1)
              have X3 : Hid (∀ j, k ≤ j → j < k + 20 → z.cell? ⟨gx, j, none⟩ = some (.int .i64 (-2)) ∧ z.cell? ⟨gy, j, none⟩ = some (.int .i64 (-3))) := fun j h1 h2 => ⟨(U.cell gx j X2.out.1 fun hF => by
                rcases hF with h3 | h3
                · exact X2.out.2.1 (fb'.out _ h3.1)
                · have := X2.out.1; omega).trans (X2.out.2.2 j h1 h2), hcy j h1 h2⟩
              have U4 : Hid (Below B w z) := U'.out.trans U.low
              clear U hgy hwy hcy G hj hlt X2 LB' LC' U' AbY AcY fb'
              go_wp2
              go_loopw [12] (fun i wz => ∃ j : Nat, k ≤ j ∧ j ≤ k + 20 ∧ i = .int .i64 (j : Int) ∧ z = wz) (fun i _ => (k + 20 - intOf i).toNat)
              case atStart => exact ⟨k, by omega, by omega, rfl, rfl⟩
              case round =>
                obtain ⟨j, hj1, hj2, rfl, hz⟩ := hrel
                subst hz
                by_cases hlt : j < k + 20
                · obtain ⟨c8, c9⟩ := X3.out j hj1 hlt
                  have ij := fun v => idxP (g := gx) (off := 0) (len := k + 20) (cap := cx) Try.underlying31 (s := 1) (by kernel_rfl) .i64 j v hlt
                  have il := fun v => idxP (g := gy) (off := 0) (len := k + 20) (cap := cy) Try.underlying31 (s := 1) (by kernel_rfl) .i64 j v hlt
                  simp only [Nat.zero_add, Nat.mul_one] at ij il
                  have hki : (j : Int) < (k : Int) + 20 := by omega
                  have hlt' : Hid (k ≤ j ∧ j < k + 20) := ⟨hj1, hlt⟩
                  clear hj1 hj2 hlt
                  go_wp2
                  go_roundw
                  case rel => exact ⟨j + 1, by have := hlt'.out; omega, by have := hlt'.out; omega, by simp, by first | rfl | trivial⟩
                  case measure => have := hlt'.out; simp [intOf]; omega
                · have hke : j = k + 20 := by omega
                  subst hke
                  clear hj1 hj2 hlt X3
                  go_wp2_with (go_at_call_of 17 (Value.slice pb k cb); refine (SB.out _ LB.out LC.out).mono ?_; rintro e w1 ⟨rfl, q4, hq⟩; subst hq)
                  go_ret
                  exact ⟨by first | rfl | simp, below_drewN U4.out⟩
end Go.Proofs.Ytabhhmkbcnabmaa
