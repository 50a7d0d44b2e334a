/- store: Clone. -/
import Derived.Test.YthjpghnmnbhaiaaCopy
import Derived.Deep.RegionLaw
namespace Go.Proofs.Ythjpghnmnbhaiaa
open Go Go.RowKit
set_option linter.unusedVariables false
set_option maxHeartbeats 400000
set_option maxRecDepth 20000

/-- The zero value of a store. -/
theorem zero53 : ∃ Z : Array Value, Z.size = 33282 ∧ (∀ v : World, (zeroValue 53).run Try.prog v = .ok (.agg Z) v) ∧ ∀ (n : Nat) (b : Bool), Cel ((Z.setIfInBounds 32768 (.int .i64 (n : Int))).setIfInBounds 33281 (.bool b)) (St.fresh n b) := by
  obtain ⟨it, z, hi, hz, hc⟩ := info53
  have hl : z.cells.size = 33282 := by rw [← Array.length_toList]; exact hc.len
  obtain ⟨Z, hZ⟩ : ∃ Z, z.cells = Z := ⟨_, rfl⟩
  have hza : z = .agg Z := by
    cases z <;> simp [Value.cells] at hZ hl
    rw [hZ]
  rw [hZ] at hc hl
  refine ⟨Z, hl, fun v => ?_, fun n b => ?_⟩
  · simp [zeroValue, typeInfo, hi, hz, hza]
  · have g : ∀ k, Z[k]? = Z.toList[k]? := fun k => Array.getElem?_toList.symm
    refine ⟨by simpa using hl, fun k hk => ?_, ?_, fun k hk => ?_, ?_⟩
    · rw [Array.getElem?_setIfInBounds_ne (by omega), Array.getElem?_setIfInBounds_ne (by omega), g, hc.ramAt k hk]; rfl
    · rw [Array.getElem?_setIfInBounds_ne (by omega)]; simp [hl, St.fresh]
    · rw [Array.getElem?_setIfInBounds_ne (by omega), Array.getElem?_setIfInBounds_ne (by omega), g, hc.romAt k hk]; rfl
    · simp [hl, St.fresh]

theorem step_copy_upd {P : Program} {ops : Array Oper} {o : Oper} {a : Act} {w : World} {K : Act → World → Prop} {Q : Exit → Act → World → Prop} {E : Prop} (hgd : o.guard = none) (d s : Operand) (dT sT : TypeId)
    (ho : o.op = .call { callee := .builtin .copy, args := #[d, s], argTypes := #[dT, sT] }) (elem : TypeId) (hu : P.underlying dT = some (.slice elem)) (hsz : (P.info? elem).map (·.size) = some 1)
    (dp sp : Option Addr) (dLen dCap sLen sCap : Nat) (hd : a.eval d = .slice dp dLen dCap) (hs : a.eval s = .slice sp sLen sCap)
    (g off : Nat) (cur : List Value) (t : TypeId) (hg : w.heap[g]? = some (.cells cur.toArray t (0, 0))) (cs : List Value) (hn : cs.length = Nat.min sLen dLen)
    (hpos : 0 < cs.length → dp = some ⟨g, off, none⟩ ∧ ∃ ad, sp = some ad ∧ ∀ j v, cs[j]? = some v → w.cell? (ad.add j) = some v)
    (hfit : off + cs.length ≤ cur.length) (h1 : ∀ v ∈ cs, v.oneCell' = true)
    (h : ∀ w', Hid (w'.heap[g]? = some (.cells (splice cur off cs).toArray t (0, 0)) ∧ Upd (· = g) w w') → K (a.put o.dst (goInt cs.length)) w') :
    if Region.wanted o (yielded ops a.tmps) = true then Oper.wp P o a w K Q else E := by
  have hw : Region.wanted o (yielded ops a.tmps) = true := by simp [Region.wanted, hgd]
  rw [if_pos hw]
  by_cases h0 : cs.length = 0
  · obtain rfl : cs = [] := List.eq_nil_of_length_eq_zero h0
    have hrun := run_copy_none (P := P) w dT sT o.type elem dp sp dLen dCap sLen sCap hu hsz (by simpa using hn.symm)
    unfold Oper.wp
    simp [execOp, ho, resolve, invoke, builtin, hd, hs, hrun, Result.andThen]
    exact h w ⟨show _ = _ by simpa [splice] using hg, Upd.refl _ _⟩
  · obtain ⟨rfl, ad, rfl, hsrc⟩ := hpos (by omega)
    have hrun := run_copy_row (P := P) w dT sT o.type elem g off dLen dCap ad sLen sCap cur.toArray t cs hu hsz hg hn hsrc (by simpa using hfit) h1
    unfold Oper.wp
    simp [execOp, ho, resolve, invoke, builtin, hd, hs, hrun, Result.andThen]
    exact h _ ⟨show _ = _ by simpa [splice] using setRow_heap w g _ _ t _ hg, Upd.setRow _⟩

def St.trim (S : St) : St := { (St.fresh S.n S.on).lay 0 S.n S.ram with rom := S.rom }
theorem St.ok.trim {S : St} (ok : S.ok) : S.trim.ok := ⟨ok.lo, ok.hi, ok.st, fun k => (by show 0 ≤ (if 0 ≤ k ∧ k < 0 + S.n then S.ram (k - 0) else 0) ∧ (if 0 ≤ k ∧ k < 0 + S.n then S.ram (k - 0) else 0) < 256; split <;> first | exact ok.ram _ | decide), ok.rom⟩

/-- A row that can be copied from. -/
def SrcOk (x : World) (p : Option Addr) (G : Nat) (q : Option Addr) (R : List Value) : Prop := 0 < R.length → p = some ⟨G, 32769, none⟩ ∧ ∃ ad, q = some ad ∧ ∀ j v, R[j]? = some v → x.cell? (ad.add j) = some v

theorem clone_any (w : World) (g : Nat) (S : St) (ok : S.ok) (h : Sto w g S) :
    Calls Try.prog 14 #[.pointer (some ⟨g, 0, none⟩)] w fun e w' => e = .returned (.pointer (some ⟨w.heap.size, 0, none⟩)) ∧ Sto w' w.heap.size S.trim ∧ Below w.heap.size w w' := by
  obtain ⟨Z, hZ, hz, cel⟩ := zero53
  have c0 := h.n
  have c1 := h.on
  obtain ⟨n, hn⟩ : ∃ n, Hid (S.n = n) := ⟨_, (rfl : S.n = S.n)⟩
  obtain ⟨on, ho⟩ : ∃ n, Hid (S.on = n) := ⟨_, (rfl : S.on = S.on)⟩
  rw [hn.out] at c0
  rw [ho.out] at c1
  have cel' : Hid (Cel ((Z.setIfInBounds 32768 (.int .i64 (n : Int))).setIfInBounds 33281 (.bool on)) (St.fresh n on)) := cel n on
  have hh : Hid (Sto w g S) := h
  have hok : Hid S.ok := ok
  clear cel h ok
  go_enter Try.func14, Try.ntmps14
  go_wp2
  go_region
  obtain ⟨C, hC⟩ : ∃ C, (Z.setIfInBounds 32768 (.int .i64 (n : Int))).setIfInBounds 33281 (.bool on) = C := ⟨_, rfl⟩
  rw [hC] at cel' ⊢
  obtain ⟨y, hy⟩ : ∃ y, (w.alloc (.cells C 53)).drew = y := ⟨_, rfl⟩
  rw [hy]
  have B0 : Below w.heap.size w y := by rw [← hy]; exact ((Below.refl _ _).alloc (Nat.le_refl _) _).drew
  have hG : Hid (y.heap[w.heap.size]? = some (.cells C 53 (0, 0))) := by rw [← hy]; exact alloc_last' w _
  have hs : Hid (Sto y g S) := by rw [← hy]; exact hh.out.keep (F := fun _ => False) (Upd.of_below ((Below.refl _ _).alloc (Nat.le_refl _) _).drew) fun h => h
  have hgl : Hid (g < w.heap.size) := hh.out.lt
  have hn2 : Hid (2048 ≤ n ∧ n ≤ 32768 ∧ n % 2048 = 0) := by rw [← hn.out]; exact ⟨hok.out.lo, hok.out.hi, hok.out.st⟩
  have k1 := cells_any y w.heap.size (St.fresh n on) ⟨hn2.out.1, hn2.out.2.1, hn2.out.2.2, fun _ => by simp [St.fresh], fun _ => by simp [St.fresh]⟩ ⟨C, hG.out, cel'.out⟩
  have k2 := fun k => cells_any (y.drewN k) g S hok.out hs.out.drewN
  rw [hn.out] at k2
  have e1 : (St.fresh n on).n = n := rfl
  rw [e1] at k1
  have x1 := cutRom g
  have x2 := cutRom w.heap.size
  clear hC hy hz hZ c0 c1 hh e1
  go_wp2_with (first
    | (go_at_call_of 34 (Value.pointer (some ⟨w.heap.size, 0, none⟩)); refine k1.mono ?_; rintro e w1 ⟨rfl, k, rfl⟩)
    | (go_at_call_of 34 (Value.pointer (some ⟨g, 0, none⟩)); refine (k2 _).mono ?_; rintro e w1 ⟨rfl, k', rfl⟩)
    | (refine wpList_copy_upd rfl (.tmp 17) (.tmp 19) 23 23 rfl 5 Try.underlying23 (by kernel_rfl) (some ⟨w.heap.size, 0, none⟩) (some ⟨g, 0, none⟩) n 32768 n 32768 rfl rfl w.heap.size 0 C.toList 53 ?g1 (rowOf n S.ram) ?g2 ?g3 ?g4 (rowOf_one _ _) ?_))
  case g1 => rw [Array.toArray_toList]; exact hG.out
  case g2 => rw [rowOf_len]; show n = min n n; omega
  case g3 =>
    intro hp
    rw [rowOf_len] at hp
    have hli : Lies y (some ⟨g, 0, none⟩) n S.ram := fun j hj => ⟨g, 0, rfl, by rw [Nat.zero_add]; exact hs.out.ram j (by have := hn2.out; omega)⟩
    obtain ⟨ad, e, hc⟩ := hli.src (Nat.le_refl _) hp
    cases e
    intro j v hv
    have := hc j v hv
    rw [addN, Nat.zero_add] at this
    exact this
  case g4 => rw [rowOf_len, Array.length_toList, cel'.out.len]; have := hn2.out; omega
  intro w1 hw1
  have cel1 : Hid (Cel (splice C.toList 0 (rowOf n S.ram)).toArray ((St.fresh n on).lay 0 n S.ram)) := cel'.out.lay 0 n S.ram (by have := hn2.out; omega)
  obtain ⟨D, hD⟩ : ∃ D, (splice C.toList 0 (rowOf n S.ram)).toArray = D := ⟨_, rfl⟩
  rw [hD] at hw1 cel1
  have U1 : Upd (· = w.heap.size) y w1 := hw1.out.2.of_drewN
  have hD1 : Hid (w1.heap[w.heap.size]? = some (.cells D 53 (0, 0))) := hw1.out.1
  have hs1 : Hid (Sto w1 g S) := hs.out.keep U1 (by have := hgl.out; omega)
  have B1 : Hid (Below w.heap.size w w1) := B0.trans (U1.below B0.size (fun k hk => by omega))
  have F3 : Hid (∀ x : World, x.heap = w1.heap → SrcOk x (some ⟨w.heap.size, 32769, none⟩) w.heap.size (some ⟨g, 32769, none⟩) (rowOf 512 S.rom)) := fun x hx _ => by
    refine ⟨rfl, ⟨g, 32769, none⟩, rfl, fun j v hv => ?_⟩
    obtain ⟨hj, rfl⟩ := rowOf_lt _ _ _ _ hv
    rw [addN]
    have := hs1.out.rom j hj
    unfold World.cell? at this ⊢
    rw [hx]
    exact this
  have F2 : Hid ((rowOf 512 S.rom).length = Nat.min 512 512) := rowOf_len _ _
  have F4 : Hid (32769 + (rowOf 512 S.rom).length ≤ D.toList.length) := by
    have a := rowOf_len 512 S.rom
    have b := cel1.out.len
    show 32769 + (rowOf 512 S.rom).length ≤ D.toList.length
    rw [a, Array.length_toList, b]
    omega
  have F1 : Hid (∀ x : World, x.heap = w1.heap → x.heap[w.heap.size]? = some (.cells D.toList.toArray 53 (0, 0))) := fun x hx => by rw [hx, Array.toArray_toList]; exact hD1.out
  have F5 : Hid (∀ v ∈ rowOf 512 S.rom, v.oneCell' = true) := rowOf_one _ _
  have F6 : Hid (∀ j, j < 512 → (rowOf 512 S.rom)[j]? = some (.int .u8 (S.rom j))) := fun j hj => rowOf_at _ _ _ hj
  obtain ⟨R, hR⟩ : ∃ R, rowOf 512 S.rom = R := ⟨_, rfl⟩
  rw [hR] at F2 F3 F4 F5 F6
  have F7 : Hid (R.length = 512) := F2.out
  clear hw1 hD U1 k1 k2 cel' hG B0 hs hD1 hs1 hR
  go_wp2
  go_region_law (refine step_copy_upd rfl (.tmp 24) (.tmp 28) 23 23 rfl 5 Try.underlying23 (by kernel_rfl) (some ⟨w.heap.size, 32769, none⟩) (some ⟨g, 32769, none⟩) 512 512 512 512 (by kernel_rfl) (by kernel_rfl) w.heap.size 32769 D.toList 53 (F1.out w1.drew rfl) R F2.out (F3.out w1.drew rfl) F4.out F5.out ?_
                 intro w2 hw2)
  all_goals
    have fin : Hid (Sto w2 w.heap.size S.trim ∧ Below w.heap.size w w2) := by
      refine ⟨⟨_, hw2.out.1, ?_⟩, B1.out.trans (Upd.below (F := (· = w.heap.size)) ⟨hw2.out.2.os, hw2.out.2.tape, hw2.out.2.output, hw2.out.2.size, hw2.out.2.block⟩ B1.out.size (fun k hk => by omega))⟩
      have := cel1.out.laid R S.rom F7.out F6.out
      unfold St.trim
      rw [hn.out, ho.out]
      exact this
    clear hw2 cel1 B1 hn ho F1 F2 F3 F4 F5 F6 F7
    go_wp2
    go_ret
    exact ⟨rfl, fin.out⟩
end Go.Proofs.Ythjpghnmnbhaiaa
