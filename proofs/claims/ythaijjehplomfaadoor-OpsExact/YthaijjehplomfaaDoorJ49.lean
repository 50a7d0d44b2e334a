/- Two rows of bytes side by side; a text's bytes put behind a row; whether two rows are the same. The law's book, whole: each row that was told is what is wanted, and is written over. -/
import Derived.Test.YthaijjehplomfaaDoorJ48
import Derived.Test.YthaijjehplomfaaDoorJ34
import Derived.Lib.AppendStr
import Derived.Test.YthaijjehplomfaaDoorJ47
namespace Go.Proofs.YthaijjehplomfaaDoor
open Go Go.RowKit
set_option linter.unusedVariables false
set_option maxHeartbeats 1000000
set_option maxRecDepth 20000

/-- A row of bytes in memory, one by one. -/
theorem byte_at {w : World} {sp : Option Addr} {l : List UInt8} (h : LiesL 1 cU w sp l) (k : Nat) (b : UInt8) (hk : l[k]? = some b) : ∃ g o, sp = some ⟨g, o, none⟩ ∧ w.cell? ⟨g, o + k, none⟩ = some (byV b) := by
  obtain ⟨g, o, e, h1⟩ := h k b hk
  refine ⟨g, o, e, ?_⟩
  have h2 := h1 0 (byV b) rfl
  rwa [Nat.mul_one, Nat.add_zero] at h2
theorem same16_true (w : World) (spa spb : Option Addr) (ca cb n : Nat) (l : List UInt8) (hl : Hid (l.length = n)) (hn : (n : Int) ≤ 4000000000) (ha : Hid (LiesL 1 cU w spa l)) (hb : Hid (LiesL 1 cU w spb l)) :
    Calls Tryd.prog 16 #[.slice spa n ca, .slice spb n cb] w fun e w' => e = .returned (.bool true) ∧ Below w.heap.size w w' := by
  have q1 : ((n : Int) != (n : Int)) = false := by simp
  go_enter Tryd.func16, Tryd.ntmps16
  go_wp2
  go_loopw [5] (fun i wz => ∃ (k : Nat) (y : World), y = wz ∧ k ≤ n ∧ i = .int .i64 (k : Int) ∧ Hid (Below w.heap.size w y)) (fun i _ => (n - intOf i).toNat)
  case atStart => exact ⟨0, w, rfl, Nat.zero_le _, rfl, Below.refl _ _⟩
  case round =>
    obtain ⟨k, y, rfl, hk, rfl, K⟩ := hrel
    by_cases hlt : k < n
    · have hki : (k : Int) < n := by omega
      obtain ⟨b, hkb⟩ : ∃ b, l[k]? = some b := ⟨_, List.getElem?_eq_getElem (by rw [hl.out]; exact hlt)⟩
      obtain ⟨ga, oa, rfl, c1⟩ := byte_at ha.out k b hkb
      obtain ⟨gb, ob, rfl, c2⟩ := byte_at hb.out k b hkb
      replace c1 := (K.out.cell (World.block_lt_of_cell? w _ c1)).trans c1
      replace c2 := (K.out.cell (World.block_lt_of_cell? w _ c2)).trans c2
      unfold byV at c1 c2
      obtain ⟨bn, hbn⟩ : ∃ bn : Int, (b.toNat : Int) = bn := ⟨_, rfl⟩
      rw [hbn] at c1 c2
      have ia := fun v => idxP (P := Tryd.prog) (t := 45) (e := 5) (s := 1) (g := ga) (off := oa) (len := n) (cap := ca) Tryd.underlying45 (by kernel_rfl) .i64 k v hlt
      have ib := fun v => idxP (P := Tryd.prog) (t := 45) (e := 5) (s := 1) (g := gb) (off := ob) (len := n) (cap := cb) Tryd.underlying45 (by kernel_rfl) .i64 k v hlt
      have q2 : (bn != bn) = false := by simp
      have hlt' : Hid (k < n) := hlt
      have K2 : Hid (Below w.heap.size w y) := K
      rw [Nat.mul_one] at ia ib
      clear hlt hkb hbn ha hb
      go_wp2
      go_quiet (fail)
      go_wp2
      go_roundw
      case rel => exact ⟨k + 1, _, rfl, hlt'.out, by simp, by first | exact K2.out.trans (below_drewN (Below.refl _ _)) | exact below_drewN K2.out | exact K2.out⟩
      case measure => have := hlt'.out; simp [intOf]; omega
    · have hke : k = n := by omega
      subst hke
      clear hlt
      go_wp2
      go_ret
      exact ⟨rfl, K.out⟩
end Go.Proofs.YthaijjehplomfaaDoor

namespace Go.Proofs.YthaijjehplomfaaDoor
open Go Go.RowKit
set_option linter.unusedVariables false
set_option maxHeartbeats 1000000
set_option maxRecDepth 20000

theorem slAll (sx : Option Addr) (n cap : Nat) (hs : ∀ a, sx = some a → a.spot = none) (v : World) : (Instr.sliceAt 45 (.slice sx n cap) none (some (.int .i64 (cap : Int))) none).run Tryd.prog v = .ok (.slice sx cap cap) v := by
  have hu : Tryd.prog.underlying 45 = some (.slice (Tryd.prog.elem 45)) := by kernel_rfl
  rw [run_sliceAt_slice v _ _ _ _ _ hu, run_slice_h v _ _ _ _ hu .i64 (cap : Int) (by omega) (by omega)]
  have hz : ∀ v, (sizeOf (Tryd.prog.elem 45)).run Tryd.prog v = .ok 1 v := fun v => by kernel_rfl
  rw [hz]
  simp only [Result.andThen_ok, sliced, Int.toNat_natCast, Nat.sub_zero]
  have e : sx.map (·.add (0 * 1)) = sx := by
    rcases sx with _ | ⟨g, o, sp⟩
    · rfl
    · have := hs _ rfl
      simp only at this
      subst this
      rfl
  rw [e]
  split <;> rfl
theorem own_block {B : Nat} {z : World} {sx : Option Addr} {lx cx : Nat} {l : List UInt8} (h : OwnL 5 1 cU B z (.slice sx lx cx) l) : lx = l.length ∧ ((sx = none → cx = 0) ∧ cx ≤ 9223372036854775807) ∧ ∀ a, sx = some a → a = ⟨a.block, 0, none⟩ ∧ B ≤ a.block ∧ ∃ cur, Bx z a.block cur 5 ∧ cur.size = cx := by
  rcases h.2 with ⟨e, hn⟩ | ⟨g, cap, cur, e, hb, hg, hle, hm, hs, ht⟩
  · injection e with e1 e2 e3
    subst e1 e2 e3
    exact ⟨hn.symm, ⟨fun _ => rfl, by decide⟩, fun a h => (by cases h)⟩
  · injection e with e1 e2 e3
    subst e1 e3
    refine ⟨e2, ⟨fun h => (by cases h), by unfold maxLen at hm; omega⟩, fun a ha => ?_⟩
    injection ha with ha
    subst ha
    exact ⟨rfl, hb, cur, hg, by rw [hs, Nat.mul_one]⟩
theorem idxB0 (g len cap k : Nat) (h : k < len) (v : World) : (Instr.indexAt 24 (.slice (some ⟨g, 0, none⟩) len cap) (.int .i64 (k : Int))).run Tryd.prog v = .ok (.pointer (some ⟨g, k, none⟩)) v := by
  have := idxP (P := Tryd.prog) (g := g) (off := 0) (len := len) (cap := cap) Tryd.underlying24 (s := 1) (by kernel_rfl) .i64 k v h
  rw [Nat.mul_one, Nat.zero_add] at this
  exact this
/-- What lies at a place of the heads. -/
theorem head_at {B : Nat} {z : World} {v : Value} {l : List Sl6} (h : OwnL 45 1 (fun x => [slV x]) B z v l) {j : Nat} {x : Sl6} (hj : l[j]? = some x) : ∃ g c, v = .slice (some ⟨g, 0, none⟩) l.length c ∧ z.cell? ⟨g, j, none⟩ = some (slV x) := by
  obtain ⟨sp, c, e, hl, hp, _⟩ := OwnL.open (c := fun x => [slV x]) (s := 1) (fun _ => rfl) h
  obtain ⟨g, o, e1, h1⟩ := hl j x hj
  have hp := hp _ e1
  have h2 := h1 0 (slV x) rfl
  have ho : o = 0 := hp.1
  subst ho
  subst e1
  rw [Nat.mul_one, Nat.zero_add, Nat.add_zero] at h2
  exact ⟨g, c, e, h2⟩
/-- A told row that is being written over. -/
structure Ov (w : World) (sx : Option Addr) (lx cx : Nat) (y q : World) : Prop where
  low : Below w.heap.size y q
  oth : ∀ g, (slV (sx, lx, cx)).ownBlock ≠ some g → q.heap[g]? = y.heap[g]?
  bx : ∀ a, sx = some a → a = ⟨a.block, 0, none⟩ ∧ w.heap.size ≤ a.block ∧ ∃ cur, Bx q a.block cur 5 ∧ cur.size = cx
theorem Ov.put {w : World} {g lx cx : Nat} {y q : World} (h : Ov w (some ⟨g, 0, none⟩) lx cx y q) (k : Nat) (hk : k < cx) : (∃ v, q.cell? ⟨g, k, none⟩ = some v) ∧ q.frozen? ⟨g, k, none⟩ = false ∧ Ov w (some ⟨g, 0, none⟩) lx cx y (q.setCell ⟨g, k, none⟩ (.int .u8 165)) := by
  obtain ⟨_, hw, cur, hcur, hs⟩ := h.bx _ rfl
  refine ⟨⟨_, hcur.c k _ (Array.getElem?_eq_getElem (by omega))⟩, hcur.fz k, h.low.trans ((Below.refl _ q).setCell (p := ⟨g, k, none⟩) hw _), fun g' hg' => ?_, fun a ha => ?_⟩
  · have hne : g' ≠ g := fun e => hg' (by rw [e]; rfl)
    exact (heap_setCell_other q ⟨g, k, none⟩ g' _ hne).trans (h.oth g' hg')
  · injection ha with ha
    subst ha
    exact ⟨rfl, hw, _, heap_setCell_same q g k _ _ _ hcur, by rw [Array.size_setIfInBounds]; exact hs⟩
theorem whole_any (w z : World) (K : Nat) (vT vW : Value) (T W : List Rw6) (n : Nat) (hn : Hid (T.length = n)) (hn2 : (n : Int) ≤ 2147483647) (hl : Hid (∀ x ∈ T, x.2.length ≤ 1000000)) (he : Hid (T.map (·.2) = W.map (·.2))) (h : Hid (Bk6 w K vT vW (T.map (·.1)) (W.map (·.1)) 0 T W z)) :
    Calls Tryd.prog 5 #[.pointer (some ⟨K, 0, none⟩)] z fun e w' => e = .returned (.bool true) ∧ Below w.heap.size w w' := by
  have hnW : W.length = n := by
    have h1 := congrArg List.length he.out
    rw [List.length_map, List.length_map, hn.out] at h1
    exact h1.symm
  obtain ⟨sT, cT, hvT, -⟩ := OwnL.open (c := fun x => [slV x]) (s := 1) (fun _ => rfl) h.out.oT
  obtain ⟨sW, cW, hvW, -⟩ := OwnL.open (c := fun x => [slV x]) (s := 1) (fun _ => rfl) h.out.oW
  rw [List.length_map, hn.out] at hvT
  rw [List.length_map, hnW] at hvW
  subst hvT
  subst hvW
  go_enter Tryd.func5, Tryd.ntmps5
  go_wp2
  go_loopw [3] (fun iv wz => ∃ (i : Nat) (u : World), u = wz ∧ iv = .int .i64 (i : Int) ∧ i ≤ n ∧ Hid (Bk6 w K (.slice sT n cT) (.slice sW n cW) (T.map (·.1)) (W.map (·.1)) i T W u)) (fun iv _ => (n - intOf iv).toNat)
  case atStart => exact ⟨0, z, rfl, rfl, Nat.zero_le _, h⟩
  case round =>
    obtain ⟨i, u, rfl, rfl, hi, J⟩ := hrel
    have k0 := J.out.box.c 0 (.slice sT n cT) rfl
    by_cases hlt : i < n
    · have hii : (i : Int) < n := by omega
      have hlt' : Hid (i < n) := hlt
      obtain ⟨⟨⟨sx, lx, cx⟩, l⟩, hx⟩ : ∃ x, T[i]? = some x := ⟨_, List.getElem?_eq_getElem (by rw [hn.out]; exact hlt)⟩
      obtain ⟨⟨⟨sy, ly, cy⟩, l'⟩, hy⟩ : ∃ x, W[i]? = some x := ⟨_, List.getElem?_eq_getElem (by rw [hnW]; exact hlt)⟩
      have hll : l' = l := by
        have h1 := congrArg (fun q => q[i]?) he.out
        simp only [List.getElem?_map, hx, hy, Option.map_some] at h1
        injection h1 with h1
        exact h1.symm
      subst hll
      have ox := J.out.rT i _ (Nat.le_refl _) hx
      have oy := J.out.rW i _ hy
      obtain ⟨hlx, hcx, hbx⟩ := own_block ox
      obtain ⟨hly, -, hby⟩ := own_block oy
      simp only at hlx hly
      subst hly
      obtain ⟨gT, cT', eT, dT⟩ := head_at J.out.oT (j := i) (x := (sx, lx, cx)) (by rw [List.getElem?_map, hx]; rfl)
      obtain ⟨gW, cW', eW, dW⟩ := head_at J.out.oW (j := i) (x := (sy, l'.length, cy)) (by rw [List.getElem?_map, hy]; rfl)
      replace eT : sT = some ⟨gT, 0, none⟩ := by injection eT
      replace eW : sW = some ⟨gW, 0, none⟩ := by injection eW
      subst eT
      subst eW
      subst hlx
      have hxx : Hid (T[i]? = some ((sx, l'.length, cx), l')) := hx
      have hl1 : Hid (l'.length ≤ 1000000) := hl.out _ (List.mem_of_getElem? hx)
      have lx' : Hid (∀ v, Below u.heap.size u v → LiesL 1 cU v sx l') := fun v hv => by
        obtain ⟨s1, c1, e1, h1, _⟩ := ox.open kU.len
        injection e1 with e1
        subst e1
        exact h1.below hv
      have ly' : Hid (∀ v, Below u.heap.size u v → LiesL 1 cU v sy l') := fun v hv => by
        obtain ⟨s1, c1, e1, h1, _⟩ := oy.open kU.len
        injection e1 with e1
        subst e1
        exact h1.below hv
      obtain ⟨lx, hlx⟩ : ∃ n, Hid (l'.length = n) := ⟨_, (rfl : l'.length = _)⟩
      rw [hlx.out] at dT dW hxx hl1
      have hlxi : (lx : Int) ≤ 4000000000 := by have := hl1.out; omega
      have ixT := fun v => idxB0 gT n cT i hlt v
      have ixW := fun v => idxB0 gW n cW i hlt v
      have hsl := slAll sx lx cx (fun a ha => by rw [(hbx a ha).1])
      have hbx' : Hid (∀ a, sx = some a → a = ⟨a.block, 0, none⟩ ∧ w.heap.size ≤ a.block ∧ ∃ cur, Bx u a.block cur 5 ∧ cur.size = cx) := hbx
      have hcx' : Hid ((sx = none → cx = 0) ∧ cx ≤ 9223372036854775807) := hcx
      have hc : Hid (∀ v, Bk6 w K (.slice (some ⟨gT, 0, none⟩) n cT) (.slice (some ⟨gW, 0, none⟩) n cW) (T.map (·.1)) (W.map (·.1)) i T W v → v.cell? ⟨K, 0, none⟩ = some (.slice (some ⟨gT, 0, none⟩) n cT) ∧ v.cell? ⟨K, 1, none⟩ = some (.slice (some ⟨gW, 0, none⟩) n cW) ∧ v.cell? ⟨gT, i, none⟩ = some (.slice sx lx cx) ∧ v.cell? ⟨gW, i, none⟩ = some (.slice sy lx cy)) := fun v hv => by
        refine ⟨hv.box.c 0 _ rfl, hv.box.c 1 _ rfl, ?_, ?_⟩
        · obtain ⟨g', c', e', d'⟩ := head_at hv.oT (j := i) (x := (sx, lx, cx)) (by rw [List.getElem?_map, hxx.out]; rfl)
          injection e' with e'
          injection e' with e'
          injection e' with e'
          rw [e']
          exact d'
        · obtain ⟨g', c', e', d'⟩ := head_at hv.oW (j := i) (x := (sy, lx, cy)) (by rw [List.getElem?_map, hy, ← hlx.out]; rfl)
          injection e' with e'
          injection e' with e'
          injection e' with e'
          rw [e']
          exact d'
      clear hx hy ox oy hbx hby hcx hlt dT dW hi
      go_wp2
      have Jd : Hid (Bk6 w K (.slice (some ⟨gT, 0, none⟩) n cT) (.slice (some ⟨gW, 0, none⟩) n cW) (T.map (·.1)) (W.map (·.1)) i T W u.drew) := J.out.keep (below_drew (Below.refl _ _))
      refine wp_region_held_drew (S := Bk6 w K (.slice (some ⟨gT, 0, none⟩) n cT) (.slice (some ⟨gW, 0, none⟩) n cW) (T.map (·.1)) (W.map (·.1)) i T W) (by kernel_rfl) Jd.out (fun hH => ?_)
      have lxd := lx'.out u.drew (below_drew (Below.refl _ _))
      have lyd := ly'.out u.drew (below_drew (Below.refl _ _))
      have bud : Hid (∀ g, g < u.heap.size → u.drew.heap[g]? = u.heap[g]?) := fun g _ => rfl
      have sud : Hid (u.heap.size ≤ u.drew.heap.size) := Nat.le_refl _
      have lxd : Hid (LiesL 1 cU u.drew sx l') := lxd
      have lyd : Hid (LiesL 1 cU u.drew sy l') := lyd
      generalize u.drew = z0 at hH Jd lxd lyd bud sud ⊢
      refine wpAnyH_take (oi := ⟨some 16, _, _, _, _, _⟩) (i := 0) (v := .pointer (some ⟨K, 0, none⟩)) rfl (by kernel_rfl) (by kernel_rfl) (by kernel_rfl) (fun _ _ _ h => h) (.inl ⟨by kernel_rfl, fun u' hu => by go_simp⟩) hH ?_
      try simp only [Act.put, List.setIfInBounds_toArray, List.set_cons_zero, List.set_cons_succ]
      refine wpAnyH_take (oi := ⟨some 17, _, _, _, _, _⟩) (i := 1) (v := .pointer (some ⟨K, 0, none⟩)) rfl (by kernel_rfl) (by kernel_rfl) (by kernel_rfl) (fun _ _ _ h => h) (.inl ⟨by kernel_rfl, fun u' hu => by go_simp⟩) hH ?_
      try simp only [Act.put, List.setIfInBounds_toArray, List.set_cons_zero, List.set_cons_succ]
      refine wpAnyH_take (oi := ⟨some 18, _, _, _, _, _⟩) (i := 2) (v := .pointer (some ⟨K, 0, none⟩)) rfl (by kernel_rfl) (by kernel_rfl) (by kernel_rfl) (fun _ _ _ h => h) (.inl ⟨by kernel_rfl, fun u' hu => by go_simp⟩) hH ?_
      try simp only [Act.put, List.setIfInBounds_toArray, List.set_cons_zero, List.set_cons_succ]
      refine wpAnyH_take (oi := ⟨some 19, _, _, _, _, _⟩) (i := 3) (v := .slice (some ⟨gT, 0, none⟩) n cT) rfl (by kernel_rfl) (by kernel_rfl) (by kernel_rfl) (fun _ _ _ h => h) (.inl ⟨by kernel_rfl, fun u' hu => by obtain ⟨c1, c2, c3, c4⟩ := hc.out u' hu; go_simp⟩) hH ?_
      try simp only [Act.put, List.setIfInBounds_toArray, List.set_cons_zero, List.set_cons_succ]
      refine wpAnyH_take (oi := ⟨some 20, _, _, _, _, _⟩) (i := 4) (v := .int .i64 (i : Int)) rfl (by kernel_rfl) (by kernel_rfl) (by kernel_rfl) (fun _ _ _ h => h) (.inl ⟨by kernel_rfl, fun u' hu => by go_simp⟩) hH ?_
      try simp only [Act.put, List.setIfInBounds_toArray, List.set_cons_zero, List.set_cons_succ]
      refine wpAnyH_take (oi := ⟨some 21, _, _, _, _, _⟩) (i := 5) (v := .pointer (some ⟨gT, i, none⟩)) rfl (by kernel_rfl) (by kernel_rfl) (by kernel_rfl) (fun _ _ _ h => h) (.inl ⟨by kernel_rfl, fun u' hu => by go_simp⟩) hH ?_
      try simp only [Act.put, List.setIfInBounds_toArray, List.set_cons_zero, List.set_cons_succ]
      refine wpAnyH_take (oi := ⟨some 22, _, _, _, _, _⟩) (i := 6) (v := .slice sx lx cx) rfl (by kernel_rfl) (by kernel_rfl) (by kernel_rfl) (fun _ _ _ h => h) (.inl ⟨by kernel_rfl, fun u' hu => by obtain ⟨c1, c2, c3, c4⟩ := hc.out u' hu; go_simp⟩) hH ?_
      try simp only [Act.put, List.setIfInBounds_toArray, List.set_cons_zero, List.set_cons_succ]
      refine wpAnyH_take (oi := ⟨some 23, _, _, _, _, _⟩) (i := 7) (v := .pointer (some ⟨K, 0, none⟩)) rfl (by kernel_rfl) (by kernel_rfl) (by kernel_rfl) (fun _ _ _ h => h) (.inl ⟨by kernel_rfl, fun u' hu => by go_simp⟩) hH ?_
      try simp only [Act.put, List.setIfInBounds_toArray, List.set_cons_zero, List.set_cons_succ]
      refine wpAnyH_take (oi := ⟨some 24, _, _, _, _, _⟩) (i := 8) (v := .pointer (some ⟨K, 0, none⟩)) rfl (by kernel_rfl) (by kernel_rfl) (by kernel_rfl) (fun _ _ _ h => h) (.inl ⟨by kernel_rfl, fun u' hu => by go_simp⟩) hH ?_
      try simp only [Act.put, List.setIfInBounds_toArray, List.set_cons_zero, List.set_cons_succ]
      refine wpAnyH_take (oi := ⟨some 25, _, _, _, _, _⟩) (i := 9) (v := .pointer (some ⟨K, 1, none⟩)) rfl (by kernel_rfl) (by kernel_rfl) (by kernel_rfl) (fun _ _ _ h => h) (.inl ⟨by kernel_rfl, fun u' hu => by go_simp⟩) hH ?_
      try simp only [Act.put, List.setIfInBounds_toArray, List.set_cons_zero, List.set_cons_succ]
      refine wpAnyH_take (oi := ⟨some 26, _, _, _, _, _⟩) (i := 10) (v := .slice (some ⟨gW, 0, none⟩) n cW) rfl (by kernel_rfl) (by kernel_rfl) (by kernel_rfl) (fun _ _ _ h => h) (.inl ⟨by kernel_rfl, fun u' hu => by obtain ⟨c1, c2, c3, c4⟩ := hc.out u' hu; go_simp⟩) hH ?_
      try simp only [Act.put, List.setIfInBounds_toArray, List.set_cons_zero, List.set_cons_succ]
      refine wpAnyH_take (oi := ⟨some 27, _, _, _, _, _⟩) (i := 11) (v := .int .i64 (i : Int)) rfl (by kernel_rfl) (by kernel_rfl) (by kernel_rfl) (fun _ _ _ h => h) (.inl ⟨by kernel_rfl, fun u' hu => by go_simp⟩) hH ?_
      try simp only [Act.put, List.setIfInBounds_toArray, List.set_cons_zero, List.set_cons_succ]
      refine wpAnyH_take (oi := ⟨some 28, _, _, _, _, _⟩) (i := 12) (v := .pointer (some ⟨gW, i, none⟩)) rfl (by kernel_rfl) (by kernel_rfl) (by kernel_rfl) (fun _ _ _ h => h) (.inl ⟨by kernel_rfl, fun u' hu => by go_simp⟩) hH ?_
      try simp only [Act.put, List.setIfInBounds_toArray, List.set_cons_zero, List.set_cons_succ]
      refine wpAnyH_take (oi := ⟨some 29, _, _, _, _, _⟩) (i := 13) (v := .slice sy lx cy) rfl (by kernel_rfl) (by kernel_rfl) (by kernel_rfl) (fun _ _ _ h => h) (.inl ⟨by kernel_rfl, fun u' hu => by obtain ⟨c1, c2, c3, c4⟩ := hc.out u' hu; go_simp⟩) hH ?_
      try simp only [Act.put, List.setIfInBounds_toArray, List.set_cons_zero, List.set_cons_succ]
      refine wpAnyH_ready (rs := [14]) (by kernel_rfl) (by simp) (fun i9 hi9 => ?_)
      obtain rfl := List.mem_singleton.1 hi9
      clear hi9
      refine wpOp_list (o := ⟨some 30, _, _, _, _, _⟩) rfl ?_
      go_wp2_with (go_at_call 16; refine (same16_true _ sx sy cx cy lx l' hlx hlxi lxd lyd).mono ?_; rintro e z1 ⟨rfl, b1⟩; have hb1 : Hid (Below z0.heap.size z0 z1) := b1; clear b1)
      replace hH := hH.keep hb1.out
      refine ⟨hH, ?_⟩
      try simp only [Act.put, List.setIfInBounds_toArray, List.set_cons_zero, List.set_cons_succ]
      refine wpAnyH_take (oi := ⟨some 4, _, _, _, _, _⟩) (i := 15) (v := .bool true) rfl (by kernel_rfl) (by kernel_rfl) (by kernel_rfl) (fun _ _ _ h => h) (.inl ⟨by kernel_rfl, fun u' hu => by go_simp⟩) hH ?_
      try simp only [Act.put, List.setIfInBounds_toArray, List.set_cons_zero, List.set_cons_succ]
      refine wpAnyH_done (by kernel_rfl) ?_ _
      have J1 : Hid (Bk6 w K (.slice (some ⟨gT, 0, none⟩) n cT) (.slice (some ⟨gW, 0, none⟩) n cW) (T.map (·.1)) (W.map (·.1)) i T W z1) := hH
      clear hH
      go_wp2
      have J2 : Hid (Bk6 w K (.slice (some ⟨gT, 0, none⟩) n cT) (.slice (some ⟨gW, 0, none⟩) n cW) (T.map (·.1)) (W.map (·.1)) i T W z1.drew) := J1.out.keep (below_drew (Below.refl _ _))
      refine wp_region_held_drew (S := Bk6 w K (.slice (some ⟨gT, 0, none⟩) n cT) (.slice (some ⟨gW, 0, none⟩) n cW) (T.map (·.1)) (W.map (·.1)) i T W) (by kernel_rfl) J2.out (fun hH => ?_)
      have b2 : Hid (Below z0.heap.size z0 z1.drew) := below_drew hb1.out
      generalize z1.drew = z2 at hH J2 b2 ⊢
      refine wpAnyH_take (oi := ⟨some 33, _, _, _, _, _⟩) (i := 0) (v := .pointer (some ⟨K, 0, none⟩)) rfl (by kernel_rfl) (by kernel_rfl) (by kernel_rfl) (fun _ _ _ h => h) (.inl ⟨by kernel_rfl, fun u' hu => by go_simp⟩) hH ?_
      try simp only [Act.put, List.setIfInBounds_toArray, List.set_cons_zero, List.set_cons_succ]
      refine wpAnyH_take (oi := ⟨some 34, _, _, _, _, _⟩) (i := 1) (v := .pointer (some ⟨K, 0, none⟩)) rfl (by kernel_rfl) (by kernel_rfl) (by kernel_rfl) (fun _ _ _ h => h) (.inl ⟨by kernel_rfl, fun u' hu => by go_simp⟩) hH ?_
      try simp only [Act.put, List.setIfInBounds_toArray, List.set_cons_zero, List.set_cons_succ]
      refine wpAnyH_take (oi := ⟨some 35, _, _, _, _, _⟩) (i := 2) (v := .pointer (some ⟨K, 0, none⟩)) rfl (by kernel_rfl) (by kernel_rfl) (by kernel_rfl) (fun _ _ _ h => h) (.inl ⟨by kernel_rfl, fun u' hu => by go_simp⟩) hH ?_
      try simp only [Act.put, List.setIfInBounds_toArray, List.set_cons_zero, List.set_cons_succ]
      refine wpAnyH_take (oi := ⟨some 36, _, _, _, _, _⟩) (i := 3) (v := .slice (some ⟨gT, 0, none⟩) n cT) rfl (by kernel_rfl) (by kernel_rfl) (by kernel_rfl) (fun _ _ _ h => h) (.inl ⟨by kernel_rfl, fun u' hu => by obtain ⟨c1, c2, c3, c4⟩ := hc.out u' hu; go_simp⟩) hH ?_
      try simp only [Act.put, List.setIfInBounds_toArray, List.set_cons_zero, List.set_cons_succ]
      refine wpAnyH_take (oi := ⟨some 37, _, _, _, _, _⟩) (i := 4) (v := .int .i64 (i : Int)) rfl (by kernel_rfl) (by kernel_rfl) (by kernel_rfl) (fun _ _ _ h => h) (.inl ⟨by kernel_rfl, fun u' hu => by go_simp⟩) hH ?_
      try simp only [Act.put, List.setIfInBounds_toArray, List.set_cons_zero, List.set_cons_succ]
      refine wpAnyH_take (oi := ⟨some 38, _, _, _, _, _⟩) (i := 5) (v := .pointer (some ⟨gT, i, none⟩)) rfl (by kernel_rfl) (by kernel_rfl) (by kernel_rfl) (fun _ _ _ h => h) (.inl ⟨by kernel_rfl, fun u' hu => by go_simp⟩) hH ?_
      try simp only [Act.put, List.setIfInBounds_toArray, List.set_cons_zero, List.set_cons_succ]
      refine wpAnyH_take (oi := ⟨some 39, _, _, _, _, _⟩) (i := 6) (v := .slice sx lx cx) rfl (by kernel_rfl) (by kernel_rfl) (by kernel_rfl) (fun _ _ _ h => h) (.inl ⟨by kernel_rfl, fun u' hu => by obtain ⟨c1, c2, c3, c4⟩ := hc.out u' hu; go_simp⟩) hH ?_
      try simp only [Act.put, List.setIfInBounds_toArray, List.set_cons_zero, List.set_cons_succ]
      refine wpAnyH_take (oi := ⟨some 40, _, _, _, _, _⟩) (i := 7) (v := .pointer (some ⟨K, 0, none⟩)) rfl (by kernel_rfl) (by kernel_rfl) (by kernel_rfl) (fun _ _ _ h => h) (.inl ⟨by kernel_rfl, fun u' hu => by go_simp⟩) hH ?_
      try simp only [Act.put, List.setIfInBounds_toArray, List.set_cons_zero, List.set_cons_succ]
      refine wpAnyH_take (oi := ⟨some 41, _, _, _, _, _⟩) (i := 8) (v := .pointer (some ⟨K, 0, none⟩)) rfl (by kernel_rfl) (by kernel_rfl) (by kernel_rfl) (fun _ _ _ h => h) (.inl ⟨by kernel_rfl, fun u' hu => by go_simp⟩) hH ?_
      try simp only [Act.put, List.setIfInBounds_toArray, List.set_cons_zero, List.set_cons_succ]
      refine wpAnyH_take (oi := ⟨some 42, _, _, _, _, _⟩) (i := 9) (v := .pointer (some ⟨K, 0, none⟩)) rfl (by kernel_rfl) (by kernel_rfl) (by kernel_rfl) (fun _ _ _ h => h) (.inl ⟨by kernel_rfl, fun u' hu => by go_simp⟩) hH ?_
      try simp only [Act.put, List.setIfInBounds_toArray, List.set_cons_zero, List.set_cons_succ]
      refine wpAnyH_take (oi := ⟨some 43, _, _, _, _, _⟩) (i := 10) (v := .slice (some ⟨gT, 0, none⟩) n cT) rfl (by kernel_rfl) (by kernel_rfl) (by kernel_rfl) (fun _ _ _ h => h) (.inl ⟨by kernel_rfl, fun u' hu => by obtain ⟨c1, c2, c3, c4⟩ := hc.out u' hu; go_simp⟩) hH ?_
      try simp only [Act.put, List.setIfInBounds_toArray, List.set_cons_zero, List.set_cons_succ]
      refine wpAnyH_take (oi := ⟨some 44, _, _, _, _, _⟩) (i := 11) (v := .int .i64 (i : Int)) rfl (by kernel_rfl) (by kernel_rfl) (by kernel_rfl) (fun _ _ _ h => h) (.inl ⟨by kernel_rfl, fun u' hu => by go_simp⟩) hH ?_
      try simp only [Act.put, List.setIfInBounds_toArray, List.set_cons_zero, List.set_cons_succ]
      refine wpAnyH_take (oi := ⟨some 45, _, _, _, _, _⟩) (i := 12) (v := .pointer (some ⟨gT, i, none⟩)) rfl (by kernel_rfl) (by kernel_rfl) (by kernel_rfl) (fun _ _ _ h => h) (.inl ⟨by kernel_rfl, fun u' hu => by go_simp⟩) hH ?_
      try simp only [Act.put, List.setIfInBounds_toArray, List.set_cons_zero, List.set_cons_succ]
      refine wpAnyH_take (oi := ⟨some 46, _, _, _, _, _⟩) (i := 13) (v := .slice sx lx cx) rfl (by kernel_rfl) (by kernel_rfl) (by kernel_rfl) (fun _ _ _ h => h) (.inl ⟨by kernel_rfl, fun u' hu => by obtain ⟨c1, c2, c3, c4⟩ := hc.out u' hu; go_simp⟩) hH ?_
      try simp only [Act.put, List.setIfInBounds_toArray, List.set_cons_zero, List.set_cons_succ]
      refine wpAnyH_take (oi := ⟨some 47, _, _, _, _, _⟩) (i := 14) (v := .int .i64 (cx : Int)) rfl (by kernel_rfl) (by kernel_rfl) (by kernel_rfl) (fun _ _ _ h => h) (.inl ⟨by kernel_rfl, fun u' hu => by go_simp⟩) hH ?_
      try simp only [Act.put, List.setIfInBounds_toArray, List.set_cons_zero, List.set_cons_succ]
      refine wpAnyH_take (oi := ⟨some 48, _, _, _, _, _⟩) (i := 15) (v := .slice sx cx cx) rfl (by kernel_rfl) (by kernel_rfl) (by kernel_rfl) (fun _ _ _ h => h) (.inl ⟨by kernel_rfl, fun u' hu => by go_simp⟩) hH ?_
      try simp only [Act.put, List.setIfInBounds_toArray, List.set_cons_zero, List.set_cons_succ]
      refine wpAnyH_take (oi := ⟨some 5, _, _, _, _, _⟩) (i := 16) (v := .slice sx cx cx) rfl (by kernel_rfl) (by kernel_rfl) (by kernel_rfl) (fun _ _ _ h => h) (.inl ⟨by kernel_rfl, fun u' hu => by go_simp⟩) hH ?_
      try simp only [Act.put, List.setIfInBounds_toArray, List.set_cons_zero, List.set_cons_succ]
      refine wpAnyH_done (by kernel_rfl) ?_ _
      clear hH
      go_wp2
      go_loopw [6] (fun kv wz => ∃ (k : Nat) (q : World), q = wz ∧ kv = .int .i64 (k : Int) ∧ k ≤ cx ∧ Hid (Ov w sx lx cx z2 q)) (fun kv _ => (cx - intOf kv).toNat)
      case atStart =>
        refine ⟨0, z2, rfl, rfl, Nat.zero_le _, Below.refl _ _, fun _ _ => rfl, (own_block (J2.out.rT i _ (Nat.le_refl _) hxx.out)).2.2⟩
      case round =>
        obtain ⟨k, q, rfl, rfl, hk, O⟩ := hrel
        by_cases hkl : k < cx
        · have hki : (k : Int) < cx := by omega
          have hkl' : Hid (k < cx) := hkl
          rcases sx with _ | a
          · have := hcx'.out.1 rfl
            omega
          · obtain ⟨ea, -⟩ := O.out.bx a rfl
            obtain ⟨g, og, sg⟩ := a
            injection ea with e0 e1 e2
            clear e0
            subst e1
            subst e2
            obtain ⟨⟨v0, c9⟩, f9, o9⟩ := O.out.put k hkl
            have O9 : Hid (Ov w (some ⟨g, 0, none⟩) lx cx z2 (q.setCell ⟨g, k, none⟩ (.int .u8 165))) := o9
            clear o9
            have ix9 := fun v => idxU g cx cx k hkl v
            have w9 : IntKind.i64.wrap ((k : Int) + 1) = ((k + 1 : Nat) : Int) := by have := hcx'.out.2; rw [IntKind.wrap_i64]; omega
            clear hkl O k0 J lx' ly' lxd lyd hsl ixT ixW
            go_wp2
            go_roundw
            case rel => exact ⟨k + 1, _, rfl, by simp, hkl'.out, O9⟩
            case measure => have := hkl'.out; simp [intOf]; omega
        · have hke : ¬ (k : Int) < cx := by omega
          clear hkl
          go_wp2
          go_roundw
          case rel => exact ⟨i + 1, _, rfl, by simp, hlt'.out, J2.out.over hxx.out O.out.oth O.out.low⟩
          case measure => have := hlt'.out; simp [intOf]; omega
    · have hni : ¬ (i : Int) < n := by omega
      clear hlt
      go_wp2
      go_ret
      exact ⟨rfl, J.out.low⟩
end Go.Proofs.YthaijjehplomfaaDoor
