/- Asks that came in as an argument, opened. OpsExact: the law's walk. -/
import Derived.Test.YthaijjehplomfaaDoorJ50
import Derived.Test.YthaijjehplomfaaDoorJ14
import Derived.ChangeSlices
import Derived.Deep.Slices
namespace Go.Proofs.YthaijjehplomfaaDoor
open Go Go.RowKit Go.ChangeShapes Go.WideShapes
set_option linter.unusedVariables false
set_option maxHeartbeats 1000000
set_option maxRecDepth 20000

/-- An ask. -/
structure As where
  k : Int
  wd : Nat
  o : Od
  s : ByteArray
def askL (x : As) : List Value := (askA x.k x.wd x.o x.s).toList
theorem list9 {α : Type} {l : List α} (h : l.length = 9) : ∃ a b c d e f g h' i, l = [a, b, c, d, e, f, g, h', i] := by
  match l, h with
  | [a, b, c, d, e, f, g, h', i], _ => exact ⟨a, b, c, d, e, f, g, h', i, rfl⟩
theorem list4 {α : Type} {l : List α} (h : l.length = 4) : ∃ a b c d, l = [a, b, c, d] := by
  match l, h with
  | [a, b, c, d], _ => exact ⟨a, b, c, d, rfl⟩
theorem addM (g off i : Nat) : (⟨g, off, none⟩ : Addr).add i = ⟨g, off + i, none⟩ := by unfold Addr.add; split <;> simp_all
section
variable {H : Type} {enc : TypeId × Value → H} {w : World}
theorem rows_list {α : Type} {s : Nat} {c : α → List Value} {Q : α → Prop} {sp : Option Addr} : ∀ (len : Nat), (∀ k, k < len → ∃ (gb ob : Nat) (a : α), sp = some ⟨gb, ob, none⟩ ∧ w.rangeAt gb (ob + k * s) (c a) ∧ Q a) → ∃ l : List α, l.length = len ∧ LiesL s c w sp l ∧ ∀ a ∈ l, Q a
  | 0, _ => ⟨[], rfl, fun j a hj => by simp at hj, fun a ha => by cases ha⟩
  | len + 1, h => by
    obtain ⟨l, h1, h2, h3⟩ := rows_list len (fun k hk => h k (by omega))
    obtain ⟨gb, ob, a, e, hc, hq⟩ := h len (by omega)
    refine ⟨l ++ [a], by simp [h1], fun j t hj => ?_, fun x hx => ?_⟩
    · rcases Nat.lt_or_ge j l.length with hlt | hge
      · rw [List.getElem?_append_left hlt] at hj
        exact h2 j t hj
      · rw [List.getElem?_append_right hge] at hj
        have hj0 : j = len := by
          have := (List.getElem?_eq_some_iff.1 hj).1
          simp at this
          omega
        subst hj0
        rw [h1, Nat.sub_self] at hj
        simp at hj
        subst hj
        exact ⟨gb, ob, e, hc⟩
    · rcases List.mem_append.1 hx with hx | hx
      · exact h3 x hx
      · rw [List.mem_singleton.1 hx]
        exact hq
/-- A row that came in: what lies there, how long it is. -/
theorem rows_open {α : Type} {T t : TypeId} {s : Nat} {c : α → List Value} {Q : α → Prop} (u : Tryd.prog.underlying T = some (.slice t)) (len6 : ∀ x, (c x).length = s) (hs0 : 0 < s) (hC : Tryd.prog.cellsOf t = s) (ho : ∀ (m : Nat) (cs : List Value) (x : DataW H × List MemPlace), DataW.trod enc Tryd.prog w 0 (fun _ => true) true m t cs = some x → ∃ a, cs = c a ∧ Q a)
    {m : Nat} {a : Option Addr} {len cap : Nat} {x : DataW H × List MemPlace} (h : DataW.trod enc Tryd.prog w 0 (fun _ => true) true m T [.slice a len cap] = some x) : len ≤ maxLen ∧ len ≤ cap ∧ (a = none → cap = 0) ∧ ∃ l : List α, l.length = len ∧ LiesL s c w a l ∧ ∀ x ∈ l, Q x := by
  rcases Go.Deep.open_slice u h with ⟨hcs, _⟩ | ⟨ad, len', cap', M, n, D, Pl, hcs, _, hl, hm, hM, rfl, hx⟩
  · simp at hcs
    obtain ⟨rfl, rfl, rfl⟩ := hcs
    exact ⟨Nat.zero_le _, Nat.zero_le _, fun _ => rfl, [], rfl, fun j a hj => by simp at hj, fun a ha => by cases ha⟩
  · simp at hcs
    obtain ⟨rfl, rfl, rfl⟩ := hcs
    simp at hM
    subst hM
    rw [hC] at hx
    refine ⟨by omega, by omega, (fun h => by cases h), rows_list len fun k hk => ?_⟩
    obtain ⟨g, off, spot⟩ := ad
    have each : ∀ j, j < len → ∃ a : α, (∀ i v, (c a)[i]? = some v → w.cell? ((⟨g, off, spot⟩ : Addr).add (j * s + i)) = some v) ∧ Q a := fun j hj => by
      obtain ⟨cs, h1, h2⟩ := hx j (by omega)
      obtain ⟨a, rfl, hq⟩ := ho _ _ _ h2
      obtain ⟨_, _, hc⟩ := World.cells?_some h1
      refine ⟨a, fun i v hv => ?_, hq⟩
      have hi : i < s := by
        have := (List.getElem?_eq_some_iff.1 hv).1
        rw [len6] at this
        exact this
      rw [← Go.Deep.add_add, hc i hi, hv]
    have hs : spot = none := by
      obtain ⟨a, ho, _⟩ := each 0 (by omega)
      obtain ⟨v, hv⟩ := some_of (len6 a) hs0
      have c0 := ho 0 v hv
      rw [show (⟨g, off, spot⟩ : Addr).add (0 * s + 0) = ⟨g, off, spot⟩ from by rw [Nat.zero_mul]; rfl] at c0
      cases spot with
      | none => rfl
      | some s =>
        exfalso
        unfold World.cell? at c0
        split at c0 <;> simp at c0
    subst hs
    obtain ⟨a, ho, hq⟩ := each k hk
    exact ⟨g, off, a, rfl, fun i v hv => by have := ho i v hv; rw [addM, ← Nat.add_assoc] at this; exact this, hq⟩
/-- What is read is of no more than an address space holds. -/
def WOk (t : TypeId) (d : DataW H) : Prop := ∀ v ∈ DataW.weights Tryd.prog t d, v ≤ reachBytes
theorem w_all {e : TypeId} : ∀ (l : List (DataW H)) (d : DataW H), d ∈ l → ∀ v ∈ DataW.weights Tryd.prog e d, v ∈ DataW.weightsAll Tryd.prog e l
  | [], d, h, _, _ => by cases h
  | x :: l, d, h, v, hv => by
    rw [DataW.weightsAll]
    rcases List.mem_cons.1 h with rfl | h
    · exact List.mem_append_left _ hv
    · exact List.mem_append_right _ (w_all l d h v hv)
theorem w_slice {T t : TypeId} (u : Tryd.prog.underlying T = some (.slice t)) {e s : List (DataW H)} (h : WOk T (.slice e s)) : (e.length + s.length) * Tryd.prog.bytesOf t ≤ reachBytes ∧ ∀ d ∈ e, WOk t d := by
  unfold WOk at h
  rw [DataW.weights, u] at h
  simp only at h
  refine ⟨h _ (by simp), fun d hd v hv => h v ?_⟩
  exact List.mem_cons_of_mem _ (List.mem_append_left _ (w_all e d hd v hv))
theorem openAs {m : Nat} {cs : List Value} {x : DataW H × List MemPlace} (h : DataW.trod enc Tryd.prog w 0 (fun _ => true) true m 32 cs = some x) : ∃ X : As, cs = askL X ∧ X.wd < 65536 ∧ OdR X.o := by
  obtain ⟨xs, n, _, rfl, hl, hxl, hf⟩ := DataW.trod_struct Tryd.underlying32 h
  obtain ⟨c0, c1, c2, c3, c4, c5, c6, c7, c8, rfl⟩ := list9 (hl.trans (by kernel_rfl))
  have kI : Tryd.prog.cellsOf 3 = 1 := by kernel_rfl
  have kU : Tryd.prog.cellsOf 27 = 1 := by kernel_rfl
  have kO : Tryd.prog.cellsOf 30 = 6 := by kernel_rfl
  have kS : Tryd.prog.cellsOf 9 = 1 := by kernel_rfl
  have g0 := hf 0 _ rfl
  have g1 := hf 1 _ rfl
  have g2 := hf 2 _ rfl
  have g3 := hf 3 _ rfl
  simp [kI] at g0
  simp [kU] at g1
  simp [kO] at g2
  simp [kS] at g3
  obtain ⟨y0, e0⟩ := some_of (show xs.length = 4 from hxl) (show 0 < 4 by decide)
  obtain ⟨z0, q0, _, w0⟩ := DataW.trod_int Tryd.underlying3 (g0.trans e0)
  simp at q0
  subst q0
  obtain ⟨y1, e1⟩ := some_of (show xs.length = 4 from hxl) (show 1 < 4 by decide)
  obtain ⟨z1, q1, _, w1⟩ := DataW.trod_int Tryd.underlying27 (g1.trans e1)
  simp at q1
  subst q1
  obtain ⟨y2, e2⟩ := some_of (show xs.length = 4 from hxl) (show 2 < 4 by decide)
  obtain ⟨X, hX, e⟩ := openOd (g2.trans e2)
  obtain ⟨y3, e3⟩ := some_of (show xs.length = 4 from hxl) (show 3 < 4 by decide)
  obtain ⟨z3, q3, _, w3⟩ := DataW.trod_string Tryd.underlying9 (g3.trans e3)
  simp at q3
  subst q3
  have b1 := wf_u16 w1
  refine ⟨⟨z0, z1.toNat, X, z3⟩, ?_, by show z1.toNat < 65536; omega, hX⟩
  have e' : [c2, c3, c4, c5, c6, c7] = [Value.int .u8 X.op, .int .u8 X.x, .int .u8 X.y, .int .u8 X.n, .int .u8 X.b, .int .u16 X.a] := e
  simp only [List.cons.injEq, and_true] at e'
  obtain ⟨rfl, rfl, rfl, rfl, rfl, rfl⟩ := e'
  show _ = [Value.int .i64 z0, .int .u16 ((z1.toNat : Nat) : Int), _, _, _, _, _, _, _]
  rw [Int.toNat_of_nonneg b1.1]
theorem asks_open {m : Nat} {a : Option Addr} {len cap : Nat} {x : DataW H × List MemPlace} (h : DataW.trod enc Tryd.prog w 0 (fun _ => true) true m 22 [.slice a len cap] = some x) : len ≤ maxLen ∧ len ≤ cap ∧ (a = none → cap = 0) ∧ ∃ L : List As, L.length = len ∧ LiesL 9 askL w a L ∧ ∀ x ∈ L, x.wd < 65536 ∧ OdR x.o :=
  rows_open (s := 9) (c := askL) (Q := fun x => x.wd < 65536 ∧ OdR x.o) Tryd.underlying22 (fun _ => rfl) (by decide) (by kernel_rfl) (fun _ _ _ h => openAs h) h
theorem w_ask {m : Nat} {r : As} {x : DataW H × List MemPlace} (h : DataW.trod enc Tryd.prog w 0 (fun _ => true) true m 32 (askL r) = some x) (hw : WOk 32 x.1) : r.s.size ≤ reachBytes := by
  obtain ⟨xs, n, _, rfl, hl, hxl, hf⟩ := DataW.trod_struct Tryd.underlying32 h
  have kS : Tryd.prog.cellsOf 9 = 1 := by kernel_rfl
  have g3 := hf 3 _ rfl
  simp [kS, askL, askA] at g3
  obtain ⟨x0, x1, x2, x3, rfl⟩ := list4 (show xs.length = 4 from hxl)
  simp at g3
  obtain ⟨s3, q3, e3, _⟩ := DataW.trod_string Tryd.underlying9 g3
  simp at q3
  subst q3 e3
  unfold WOk at hw
  simp only [List.map_cons, List.map_nil] at hw
  rw [DataW.weights, Tryd.underlying32] at hw
  simp only [List.map_cons, List.map_nil, DataW.weightsEach] at hw
  have e3 : DataW.weights Tryd.prog 9 (.lit (.string r.s.data.toList) : DataW H) = [r.s.size] := by rw [DataW.weights]; exact congrArg (fun k => [k]) (strL_len r.s)
  rw [e3] at hw
  exact hw _ (by simp)
/-- A list of asks: no text is longer than an address space. -/
theorem asks_near {m : Nat} {a : Option Addr} {len cap : Nat} {x : DataW H × List MemPlace} {l : List As} (h : DataW.trod enc Tryd.prog w 0 (fun _ => true) true m 22 [.slice a len cap] = some x) (hl : LiesL 9 askL w a l) (hn : l.length = len) (hw : WOk 22 x.1) : ∀ r ∈ l, r.s.size ≤ 140737488351232 := by
  have hr : reachBytes = 140737488351232 := by decide
  rcases Go.Deep.open_slice Tryd.underlying22 h with ⟨hcs, rfl⟩ | ⟨ad, len', cap', M, n, D, Pl, hcs, _, hl', hm, hM, rfl, hx⟩
  · simp at hcs
    obtain ⟨rfl, rfl, rfl⟩ := hcs
    have : l = [] := List.length_eq_zero_iff.1 hn
    subst this
    intro r h
    cases h
  · simp at hcs
    obtain ⟨rfl, rfl, rfl⟩ := hcs
    have hd := (w_slice Tryd.underlying22 hw).2
    intro r hr0
    obtain ⟨k, hk0, hk1⟩ := List.getElem_of_mem hr0
    have hk : l[k]? = some r := by rw [List.getElem?_eq_getElem hk0, hk1]
    obtain ⟨cs, h1, h2⟩ := hx k (by simp at hM; omega)
    obtain ⟨g, o, e, hc⟩ := hl k r hk
    have e9 : Tryd.prog.cellsOf 32 = 9 := by kernel_rfl
    injection e with e
    subst e
    rw [e9, addM] at h1
    obtain ⟨_, hlen, hcc⟩ := World.cells?_some h1
    have ecs : cs = askL r := by
      apply List.ext_getElem?
      intro i
      by_cases hi : i < 9
      · have h3 := hcc i hi
        rw [addM] at h3
        obtain ⟨v, hv⟩ := some_of (show (askL r).length = 9 from rfl) hi
        rw [hv, ← hc i v hv]
        exact h3.symm
      · rw [List.getElem?_eq_none (by omega), List.getElem?_eq_none (by show 9 ≤ i; omega)]
    subst ecs
    have := w_ask (x := (D k, Pl k)) h2 (hd (D k) (List.mem_map_of_mem (by simp; omega)))
    rw [hr] at this
    exact this
end
end Go.Proofs.YthaijjehplomfaaDoor

namespace Go.Proofs.YthaijjehplomfaaDoor
open Go Go.RowKit
set_option linter.unusedVariables false
set_option maxHeartbeats 1000000
set_option maxRecDepth 20000

/-- The book as it stands behind some calls. -/
def Bkx (w : World) (K n : Nat) (z : World) : Prop := ∃ (T W : List Rw6) (sT sW : Option Addr) (cT cW : Nat), T.length ≤ n ∧ T.map (·.2) = W.map (·.2) ∧ (∀ x ∈ T, x.2.length ≤ 1000000) ∧ Bk6 w K (.slice sT T.length cT) (.slice sW W.length cW) (T.map (·.1)) (W.map (·.1)) 0 T W z
theorem Bkx.keep {w : World} {K n : Nat} {z z' : World} (h : Bkx w K n z) (hb : Below z.heap.size z z') : Bkx w K n z' := by
  obtain ⟨T, W, sT, sW, cT, cW, h1, h2, h3, h4⟩ := h
  exact ⟨T, W, sT, sW, cT, cW, h1, h2, h3, h4.keep hb⟩
theorem Bkx.more {w : World} {K n : Nat} {z : World} (h : Bkx w K n z) : Bkx w K (n + 1) z := by
  obtain ⟨T, W, sT, sW, cT, cW, h1, h⟩ := h
  exact ⟨T, W, sT, sW, cT, cW, by omega, h⟩
theorem Bkx.low {w : World} {K n : Nat} {z : World} (h : Bkx w K n z) : Below w.heap.size w z := by
  obtain ⟨T, W, sT, sW, cT, cW, h1, h2, h3, h4⟩ := h
  exact h4.low
theorem step_any (w z : World) (K n : Nat) (mx : Int) (hT : Hid (Tm mx z)) (x : As) (hwd : x.wd < 65536) (ho : OdR x.o) (hs : x.s.size ≤ 4294967280) (hn : n ≤ 4000000000) (h : Hid (Bkx w K n z)) :
    Calls Tryd.prog 4 #[.pointer (some ⟨K, 0, none⟩), .agg (askA x.k x.wd x.o x.s)] z fun e z' => e = .returned (.bool true) ∧ Bkx w K (n + 1) z' := by
  obtain ⟨k, wd, o, s⟩ := x
  simp only at hwd ho hs ⊢
  have old : ∀ {e : Ending} {z' : World}, (e = .returned (.bool true) ∧ Below z.heap.size z z') → e = .returned (.bool true) ∧ Bkx w K (n + 1) z' := fun h' => ⟨h'.1, (h.out.keep h'.2).more⟩
  by_cases h1 : k = 1
  · subst h1
    exact (step_1 z K wd hwd o s).mono fun _ _ h' => old h'
  · by_cases h2 : k = 2
    · subst h2
      exact (step_2 z K wd o ho s).mono fun _ _ h' => old h'
    · by_cases h3 : k = 3
      · subst h3
        exact (step_3 z K wd o ho s).mono fun _ _ h' => old h'
      · by_cases h4 : k = 4
        · subst h4
          exact (step_4 z K mx hT wd o s hs).mono fun _ _ h' => old h'
        · by_cases h5 : k = 5
          · subst h5
            obtain ⟨T, W, sT, sW, cT, cW, q1, q2, q3, q4⟩ := h.out
            have hWl : W.length = T.length := by
              have h1 := congrArg List.length q2
              rw [List.length_map, List.length_map] at h1
              exact h1.symm
            refine (step_5 w z K sT sW cT cW T W mx hT wd o s hs (by show _ ≤ _; omega) (by show _ ≤ _; omega) q4).mono fun e z' h' => ⟨h'.1, ?_⟩
            obtain ⟨vT, vW, a, b, hk⟩ := h'.2
            obtain ⟨sT', cT', eT, -⟩ := hk.oT.open kT1.len
            obtain ⟨sW', cW', eW, -⟩ := hk.oW.open kT1.len
            rw [List.length_map] at eT eW
            rw [eT, eW] at hk
            refine ⟨_, _, sT', sW', cT', cW', ?_, ?_, fun y hy => ?_, hk⟩
            · rw [List.length_append]
              show _ + 1 ≤ _
              omega
            · rw [List.map_append, List.map_append, q2]
              rfl
            · rcases List.mem_append.1 hy with hy | hy
              · exact q3 y hy
              · rw [List.mem_singleton.1 hy]
                have := prX_len (strL s)
                show (prX (progD (strL s))).1.length ≤ _
                omega
          · exact (step_0 z K k wd o s (by simpa using h1) (by simpa using h2) (by simpa using h3) (by simpa using h4) (by simpa using h5)).mono fun _ _ h' => old h'
theorem rtK : Rt Tryd.prog 32 9 := ⟨⟨_, Tryd.underlying32, rfl⟩, by kernel_rfl⟩
theorem exact_walk (w : World) (mx : Int) (hT : Hid (Tm mx w)) (sp : Option Addr) (m cap : Nat) (L : List As) (hm : Hid (L.length = m)) (hL : Hid (LiesL 9 askL w sp L)) (hq : Hid (∀ x ∈ L, x.wd < 65536 ∧ OdR x.o)) (hr : Hid (∀ x ∈ L, x.s.size ≤ 140737488351232)) :
    Calls Tryd.prog 3 #[.slice sp m cap] w fun e w' => e = .returned (.bool true) ∧ Below w.heap.size w w' := by
  by_cases hbig : 2147483647 < m
  · have q : (2147483647 : Int) < m := by omega
    go_enter Tryd.func3, Tryd.ntmps3
    go_wp2
    go_ret
    exact ⟨rfl, Below.refl _ _⟩
  · have q : ¬ (2147483647 : Int) < m := by omega
    have hm2 : Hid (m ≤ 2147483647) := by show _ ≤ _; omega
    clear hbig
    go_enter Tryd.func3, Tryd.ntmps3
    go_wp2
    go_loopw [4, 5] (fun nv iv wz => ∃ (i N : Nat) (u : World), u = wz ∧ nv = .int .i64 (N : Int) ∧ iv = .int .i64 (i : Int) ∧ i ≤ m ∧ N ≤ 2147483647 ∧ Hid (Bkx w w.heap.size i u)) (fun _ iv _ => (m - intOf iv).toNat)
    case atStart => exact ⟨0, m, _, rfl, rfl, rfl, Nat.zero_le _, hm2.out, ⟨[], [], none, none, 0, 0, Nat.le_refl _, rfl, fun x h => by simp at h, Bk6.nil w⟩⟩
    case round =>
      obtain ⟨i, N, u, rfl, rfl, rfl, hi, hN, J⟩ := hrel
      by_cases hlt : i < m
      · have hii : (i : Int) < m := by omega
        have hlt' : Hid (i < m) := hlt
        obtain ⟨x, hx⟩ : ∃ x, L[i]? = some x := ⟨_, List.getElem?_eq_getElem (by rw [hm.out]; exact hlt)⟩
        have hxm := List.mem_of_getElem? hx
        have hxs := hr.out x hxm
        obtain ⟨hxw, hxo⟩ := hq.out x hxm
        obtain ⟨g, og, rfl, hrg⟩ := hL.out i x hx
        obtain ⟨p, hp⟩ : ∃ p, og + i * 9 = p := ⟨_, rfl⟩
        rw [hp] at hrg
        have ix := fun v => idxP (P := Tryd.prog) (g := g) (off := og) (len := m) (cap := cap) Tryd.underlying22 (s := 9) (by kernel_rfl) .i64 i v hlt
        rw [hp] at ix
        have hrgu : Hid (u.rangeAt g p (askA x.k x.wd x.o x.s).toList) := range_keep hrg J.out.low
        have c8 : u.cell? ⟨g, p + 8, none⟩ = some (.string x.s) := hrgu.out 8 _ rfl
        have hTu : Hid (Tm mx u) := hT.out.below J.out.low
        by_cases hov : 2147483647 < N + x.s.size
        · have w1 : IntKind.i64.wrap ((N : Int) + (x.s.size : Int)) = (N : Int) + (x.s.size : Int) := by rw [IntKind.wrap_i64]; omega
          have q2 : (2147483647 : Int) < (N : Int) + (x.s.size : Int) := by omega
          have fin : Hid (Below w.heap.size w u) := J.out.low
          clear hov hlt hp hrg hx hxm hxs
          go_wp2
          go_ret
          exact ⟨rfl, fin.out⟩
        · have w1 : IntKind.i64.wrap ((N : Int) + (x.s.size : Int)) = ((N + x.s.size : Nat) : Int) := by rw [IntKind.wrap_i64]; omega
          have q2 : ¬ (2147483647 : Int) < ((N + x.s.size : Nat) : Int) := by omega
          have w2 : IntKind.i64.wrap ((i : Int) + 1) = ((i + 1 : Nat) : Int) := by have := hm2.out; rw [IntKind.wrap_i64]; omega
          have hov' : Hid (N + x.s.size ≤ 2147483647) := by show _ ≤ _; omega
          have hSt := fun v (hv : Hid (Tm mx v)) (hb : Hid (Bkx w w.heap.size i v)) => step_any w v w.heap.size i mx hv x hxw hxo (by omega) (by have := hm2.out; omega) hb
          clear hov hlt hp hrg hx hxm hxs
          go_wp2_with (first
            | (go_at_call 4; refine (hSt _ hTu J).mono ?_; rintro e z ⟨rfl, hb⟩; have J2 : Hid (Bkx w w.heap.size (i + 1) z) := hb; clear hb)
            | ((with_reducible refine at_loadm rtK g p (askA x.k x.wd x.o x.s) ?_ ?_ (.tmp 33) ?_ ?_ ?_ ?_); exact hrgu.out; rfl; rfl; rfl; rfl))
          go_roundw
          case rel => exact ⟨i + 1, N + x.s.size, _, rfl, by simp, by simp, hlt'.out, hov'.out, J2⟩
          case measure => have := hlt'.out; simp [intOf]; omega
      · have hni : ¬ (i : Int) < m := by omega
        obtain ⟨T, W, sT, sW, cT, cW, q1, q2, q3, q4⟩ := J.out
        have hWh := whole_any w u w.heap.size _ _ T W T.length rfl (by have := hm2.out; omega) q3 q2 q4
        clear hlt q1 q2 q3 q4
        go_wp2_with (go_at_call 5; refine hWh.mono ?_; rintro e z ⟨rfl, hz⟩; have hz : Hid (Below w.heap.size w z) := hz)
        go_ret
        exact ⟨rfl, hz.out⟩
end Go.Proofs.YthaijjehplomfaaDoor
