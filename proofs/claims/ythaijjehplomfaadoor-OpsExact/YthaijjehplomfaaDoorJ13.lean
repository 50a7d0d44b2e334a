/- The order whose line has these words: read. -/
import Derived.Test.YthaijjehplomfaaDoorJ12
import Derived.WalkMore
namespace Go.Proofs.YthaijjehplomfaaDoor
open Go Go.RowKit
set_option linter.unusedVariables false
set_option maxHeartbeats 1500000
set_option maxRecDepth 20000

/-- Words in memory. -/
def strC (s : ByteArray) : List Value := [.string s]
/-- Fields read one behind the other. -/
def rdF : List Nat → List (List UInt8) → Od → Option Od
  | [], _, o => some o
  | _ :: _, [], _ => none
  | k :: fs, s :: ws, o => match rdK k s with | none => none | some v => rdF fs ws (putK k o v)
def rdP (ws : List (List UInt8)) (i : Nat) : Bool := nmR i == ws.headD [] && (fsR i).length == ws.length - 1
def rdO (ws : List (List UInt8)) : Option Od := match fstI (rdP ws) 31 with
  | none => none
  | some i => match rdF (fsR i) ws.tail ⟨opR i, 0, 0, 0, 0, 0⟩ with
    | none => none
    | some o => if (encW o).isSome then some o else none
/-- What read answers. -/
def RdE (w : World) (ws : List (List UInt8)) (e : Ending) (w' : World) : Prop := Below w.heap.size w w' ∧ ((∃ o, rdO ws = some o ∧ e = .returned (.tuple #[.agg (o6 o), .bool true])) ∨ (rdO ws = none ∧ ∃ X, e = .returned (.tuple #[.agg (o6 X), .bool false])))
theorem numK_lt {s : List UInt8} {d v : Nat} (hd : d ≤ 3) (h : numK s d = some v) : v < 65536 := by
  unfold numK at h
  split at h
  · rename_i hl
    rcases hx : numGo s 0 with _ | x
    · rw [hx] at h; cases h
    · rw [hx] at h
      simp at h
      have hb := numGo_le s 0 x (by omega) hx
      have hp : (16 : Int) ^ s.length ≤ 4096 := by
        rw [hl]
        rcases (show d = 0 ∨ d = 1 ∨ d = 2 ∨ d = 3 by omega) with e | e | e | e <;> subst e <;> decide
      omega
  · cases h
theorem rdK_lt {k v : Nat} {s : List UInt8} (h : rdK k s = some v) : v < 65536 := by
  unfold rdK at h
  split at h
  · exact numK_lt (digK_bd k).2 h
  · cases h
theorem OdR.put {o : Od} (h : OdR o) (k v : Nat) (hv : v < 65536) : OdR (putK k o v) := by
  unfold putK
  split
  · exact ⟨h.op, Nat.mod_lt _ (by decide), h.y, h.n, h.b, h.a⟩
  · split
    · exact ⟨h.op, h.x, Nat.mod_lt _ (by decide), h.n, h.b, h.a⟩
    · split
      · exact ⟨h.op, h.x, h.y, Nat.mod_lt _ (by decide), h.b, h.a⟩
      · split
        · exact ⟨h.op, h.x, h.y, h.n, Nat.mod_lt _ (by decide), h.a⟩
        · exact ⟨h.op, h.x, h.y, h.n, h.b, hv⟩
theorem OdR.zero (op : Nat) (h : op < 256) : OdR ⟨op, 0, 0, 0, 0, 0⟩ := ⟨h, (by decide : 0 < 256), (by decide : 0 < 256), (by decide : 0 < 256), (by decide : 0 < 256), (by decide : 0 < 65536)⟩
theorem rdF_step (fs : List Nat) (ws : List (List UInt8)) (o : Od) (q k : Nat) (s : List UInt8) (hk : fs[q]? = some k) (hs : ws[q]? = some s) :
    rdF (fs.drop q) (ws.drop q) o = match rdK k s with | none => none | some v => rdF (fs.drop (q + 1)) (ws.drop (q + 1)) (putK k o v) := by
  obtain ⟨h1, e1⟩ := List.getElem?_eq_some_iff.1 hk
  obtain ⟨h2, e2⟩ := List.getElem?_eq_some_iff.1 hs
  rw [List.drop_eq_getElem_cons h1, List.drop_eq_getElem_cons h2, e1, e2, rdF]
theorem idxW {g off len cap : Nat} (i : Nat) (w : World) (h : i < len) : (Instr.indexAt 70 (.slice (some ⟨g, off, none⟩) len cap) (.int .i64 (i : Int))).run Tryd.prog w = .ok (.pointer (some ⟨g, off + i, none⟩)) w := by
  have h := idxP (P := Tryd.prog) (t := 70) (e := 9) (s := 1) (g := g) (off := off) (len := len) (cap := cap) Tryd.underlying70 (by kernel_rfl) .i64 i w h
  rwa [Nat.mul_one] at h
theorem word_at {w : World} {g off : Nat} {ws : List ByteArray} (h : LiesL 1 strC w (some ⟨g, off, none⟩) ws) (j : Nat) (s : ByteArray) (hj : ws[j]? = some s) : w.cell? ⟨g, off + j, none⟩ = some (.string s) := by
  obtain ⟨gb, ob, e, k⟩ := h j s hj
  injection e with e
  injection e with e1 e2
  subst e1
  subst e2
  have := k 0 (.string s) rfl
  rwa [Nat.mul_one] at this
theorem read_any (w : World) (gw ow cap : Nat) (ws : List ByteArray) (m : Nat) (hm : Hid (ws.length = m)) (hm1 : 1 ≤ m) (hm2 : (m : Int) ≤ 4294967296) (hw : Hid (LiesL 1 strC w (some ⟨gw, ow, none⟩) ws)) (hsz : Hid (∀ s ∈ ws, s.size ≤ maxLen)) :
    Calls Tryd.prog 27 #[.slice (some ⟨gw, ow, none⟩) m cap] w (RdE w (ws.map (·.data.toList))) := by
  obtain ⟨s0, hs0⟩ : ∃ s0, ws[0]? = some s0 := ⟨_, List.getElem?_eq_getElem (by rw [hm.out]; omega)⟩
  have c0 : Hid (w.cell? ⟨gw, ow, none⟩ = some (.string s0)) := word_at hw.out 0 s0 hs0
  have hgw : Hid (gw < w.heap.size) := World.block_lt_of_cell? w _ c0.out
  have hhd : Hid ((ws.map (·.data.toList)).headD [] = s0.data.toList) := by
    show _ = _
    rcases ws with _ | ⟨a, r⟩
    · simp at hs0
    · simp at hs0
      subst hs0
      rfl
  have hB : Hid (Fm w [(w.heap.size, o6 od0, 30), (w.heap.size + 1, o6 od0, 30)] ((w.alloc (.cells #[.int .u8 0, .int .u8 0, .int .u8 0, .int .u8 0, .int .u8 0, .int .u16 0] 30)).alloc (.cells #[.int .u8 0, .int .u8 0, .int .u8 0, .int .u8 0, .int .u8 0, .int .u16 0] 30))) := Fm.two w _ _ _ _
  have hrw := fun z => rows_any z
  clear hs0
  go_enter Tryd.func27, Tryd.ntmps27
  go_wp2
  go_step3
  go_wp2
  go_step3
  go_wp2_with (go_at_call 36; refine (hrw _).mono ?_; rintro e y ⟨⟨v, rfl, g, sp, hg, rfl, hx, hl⟩, hb⟩)
  have K1 : Hid (Fm w [(w.heap.size, o6 od0, 30), (w.heap.size + 1, o6 od0, 30), (g, (rowL (rwC sp) (List.range 31)).toArray, 51)] y) := hB.out.more hb g _ _ hg hx
  have hl : Hid (∀ i, i < 31 → FsL y (sp i) (fsR i)) := hl
  clear hB hb hg hx hrw
  go_loopw [15] (fun j wz => ∃ p : Nat, p ≤ 31 ∧ j = .int .i64 (p : Int) ∧ Hid (∀ j, j < p → rdP (ws.map (·.data.toList)) j = false) ∧ Hid (Below y.heap.size y wz) ∧ Hid (Fm w [(w.heap.size, o6 od0, 30), (w.heap.size + 1, o6 od0, 30), (g, (rowL (rwC sp) (List.range 31)).toArray, 51)] wz)) (fun j _ => (31 - intOf j).toNat)
  case atStart => exact ⟨0, by omega, rfl, (fun j h => absurd h (by omega) : ∀ j, j < 0 → rdP (ws.map (·.data.toList)) j = false), (Below.refl _ _ : Below y.heap.size y y), K1⟩
  case round =>
    obtain ⟨p, hpn, rfl, hq, hy, K⟩ := hrel
    by_cases hlt : p < 31
    · have hix : ∀ w', (Instr.indexAt 91 (.slice (some ⟨g, 0, none⟩) 31 31) (.int .i64 (p : Int))).run Tryd.prog w' = .ok (.pointer (some ⟨g, p * 4, none⟩)) w' := fun w' => by
        have h := idxP (P := Tryd.prog) (t := 91) (e := 51) (s := 4) (g := g) (off := 0) (len := 31) (cap := 31) Tryd.underlying91 (by kernel_rfl) .i64 p w' hlt
        rwa [Nat.zero_add] at h
      have hr0 : wr.rangeAt g (p * 4) (rwC sp p) := rows_lies (K.out.bx 2 _ _ _ rfl) p hlt
      have hpi : (p : Int) < 31 := by omega
      have hlt' : Hid (p < 31) := hlt
      have hS0 : FsL y (sp p) (fsR p) := hl.out p hlt
      have hn3 := fs_len p hlt
      unfold rwC at hr0
      obtain ⟨op, hop⟩ : ∃ x, Hid (opR p = x) := ⟨_, (rfl : opR p = opR p)⟩
      obtain ⟨wd, hwd⟩ : ∃ x, Hid (wdR p = x) := ⟨_, (rfl : wdR p = wdR p)⟩
      obtain ⟨nm, hnm⟩ : ∃ x : ByteArray, Hid ((⟨(nmR p).toArray⟩ : ByteArray) = x) := ⟨_, (rfl : (⟨(nmR p).toArray⟩ : ByteArray) = _)⟩
      obtain ⟨S, hS⟩ : ∃ x, Hid (sp p = x) := ⟨_, (rfl : sp p = sp p)⟩
      obtain ⟨n, hn⟩ : ∃ x, Hid ((fsR p).length = x) := ⟨_, (rfl : (fsR p).length = _)⟩
      rw [hop.out, hwd.out, hnm.out, hS.out, hn.out] at hr0
      rw [hS.out] at hS0
      rw [hn.out] at hn3
      have hr' : Hid (wr.rangeAt g (p * 4) #[.int .u8 (op : Int), .int .u16 (wd : Int), .string nm, .slice S n n].toList) := hr0
      have hSy : Hid (FsL y S (fsR p)) := hS0
      have hi0 := fun z => idxW (g := gw) (off := ow) (len := m) (cap := cap) 0 z (by omega)
      simp only [Int.ofNat_zero, Nat.add_zero] at hi0
      have hne : Hid (nm.data.toList = nmR p) := by show _ = _; rw [← hnm.out]
      clear hlt hr0 hS0
      have M : Hid (Fm w [(w.heap.size, o6 od0, 30), (w.heap.size + 1, o6 od0, 30), (g, (rowL (rwC sp) (List.range 31)).toArray, 51), (wr.heap.size, #[.int .u8 (op : Int), .int .u16 (wd : Int), .string nm, .slice S n n], 51)] (wr.alloc (.cells #[.int .u8 (op : Int), .int .u16 (wd : Int), .string nm, .slice S n n] 51)) ∧ Below wr.heap.size wr (wr.alloc (.cells #[.int .u8 (op : Int), .int .u16 (wd : Int), .string nm, .slice S n n] 51))) := ⟨K.out.new _ _, below1 wr _⟩
      have d0 : wr.cell? ⟨gw, ow, none⟩ = some (.string s0) := (K.out.low.cell hgw.out).trans c0.out
      have hgl : gw < wr.heap.size := Nat.lt_of_lt_of_le hgw.out K.out.low.size
      by_cases hname : nm = s0
      · have hb1 : (nm.toList == s0.toList) = true := str_eq hname
        have hb1' : (nm.toList != s0.toList) = false := by rw [bne, hb1]; rfl
        have hw1 : IntKind.i64.wrap ((m : Int) - 1) = (m : Int) - 1 := by rw [IntKind.wrap_i64]; omega
        by_cases hlen : n = m - 1
        · have hP : Hid (rdP (ws.map (·.data.toList)) p = true) := by
            show _ = _
            unfold rdP
            rw [hhd.out, ← hne.out, hname, List.length_map, hm.out, hn.out, hlen]
            simp
          have hR : Hid (fstI (rdP (ws.map (·.data.toList))) 31 = some p) := fstI_some hlt'.out hP.out hq.out
          have hb2 : ((n : Int) != (m : Int) - 1) = false := by rw [bne_eq_false_iff_eq]; omega
          have hlen' : Hid (n = m - 1) := hlen
          have hop6 : Hid (op < 256) := by rw [← hop.out]; exact Nat.lt_of_le_of_lt (op_bnd p hlt'.out).2 (by decide)
          clear hname hlen hP
          go_wp2_with (((with_reducible refine at_loadm rtR g (p * 4) #[.int .u8 (op : Int), .int .u16 (wd : Int), .string nm, .slice S n n] ?_ ?_ (.tmp 17) ?_ ?_ ?_ ?_); exact hr'.out; rfl; rfl; rfl; rfl))
          go_quiet (fail)
          have M1 : Hid (Fm w [(w.heap.size, o6 od0, 30), (w.heap.size + 1, o6 od0, 30), (g, (rowL (rwC sp) (List.range 31)).toArray, 51), (wr.heap.size, #[.int .u8 (op : Int), .int .u16 (wd : Int), .string nm, .slice S n n], 51)] ((wr.alloc (.cells #[.int .u8 (op : Int), .int .u16 (wd : Int), .string nm, .slice S n n] 51)).drewN nq) ∧ FsL ((wr.alloc (.cells #[.int .u8 (op : Int), .int .u16 (wd : Int), .string nm, .slice S n n] 51)).drewN nq) S (fsR p)) := ⟨M.out.1.below ⟨rfl, rfl, rfl, Nat.le_refl _, fun _ _ => rfl⟩, (hSy.out.below (hy.out.trans (M.out.2.mono hy.out.size))).below ⟨rfl, rfl, rfl, Nat.le_refl _, fun _ _ => rfl⟩⟩
          clear M d0 hgl hix hr' hi0 hb1 hb1' hb2 hy K
          generalize (wr.alloc (.cells #[.int .u8 (op : Int), .int .u16 (wd : Int), .string nm, .slice S n n] 51)).drewN nq = z1 at M1 ⊢
          generalize wr.heap.size = bR at M1 ⊢
          have e0 := (M1.out.1.bx 1 _ _ _ rfl).c 0 (.int .u8 0) rfl
          have e1 := (M1.out.1.bx 1 _ _ _ rfl).fz 0
          have e2 := (M1.out.1.bx 3 _ _ _ rfl).c 0 (.int .u8 (op : Int)) rfl
          go_wp2_with ((with_reducible refine gen_world (z1.setCell ⟨w.heap.size + 1, 0, none⟩ (.int .u8 (op : Int))) (fun x => Fm w [(w.heap.size, o6 od0, 30), (w.heap.size + 1, o6 ⟨op, 0, 0, 0, 0, 0⟩, 30), (g, (rowL (rwC sp) (List.range 31)).toArray, 51), (bR, #[.int .u8 (op : Int), .int .u16 (wd : Int), .string nm, .slice S n n], 51)] x ∧ FsL x S (fsR p)) ?_ ?_); exact ⟨M1.out.1.setCell 1 _ _ _ _ rfl 0 _ rfl, M1.out.2.off (M1.out.1.bx 1 _ _ _ rfl) (by decide) (fun q hq => heap_setCell_other z1 ⟨w.heap.size + 1, 0, none⟩ q _ hq)⟩; intro z2 M2; have e3 := (M2.out.1.bx 3 _ _ _ rfl).c 3 (.slice S n n) rfl)
          clear e0 e1 e2 e3
          obtain ⟨wsT, hwsT⟩ : ∃ x, Hid ((ws.map (·.data.toList)).tail = x) := ⟨_, (rfl : (ws.map (·.data.toList)).tail = _)⟩
          go_loopw [40] (fun j wz => ∃ (q : Nat) (OO : Od), q ≤ n ∧ j = .int .i64 (q : Int) ∧ Hid (rdF (fsR p) wsT ⟨op, 0, 0, 0, 0, 0⟩ = rdF ((fsR p).drop q) (wsT.drop q) OO) ∧ Hid (OdR OO) ∧ Hid (Fm w [(w.heap.size, o6 od0, 30), (w.heap.size + 1, o6 OO, 30), (g, (rowL (rwC sp) (List.range 31)).toArray, 51), (bR, #[.int .u8 (op : Int), .int .u16 (wd : Int), .string nm, .slice S n n], 51)] wz) ∧ Hid (FsL wz S (fsR p))) (fun j _ => (n - intOf j).toNat)
          case atStart => exact ⟨0, ⟨op, 0, 0, 0, 0, 0⟩, by omega, rfl, (rfl : rdF (fsR p) wsT ⟨op, 0, 0, 0, 0, 0⟩ = _), OdR.zero op hop6.out, M2.out.1, M2.out.2⟩
          case round =>
            obtain ⟨q, OO, hqn, rfl, hrd, hoR, Ki, hli⟩ := hrel
            by_cases hqlt : q < n
            · obtain ⟨k, hpk⟩ : ∃ k, (fsR p)[q]? = some k := ⟨_, List.getElem?_eq_getElem (by rw [hn.out]; exact hqlt)⟩
              obtain ⟨s, hps⟩ : ∃ s, ws[q + 1]? = some s := ⟨_, List.getElem?_eq_getElem (by rw [hm.out]; have := hlen'.out; omega)⟩
              have hsT : Hid (wsT[q]? = some s.data.toList) := by
                show _ = _
                rw [← hwsT.out, List.getElem?_tail, List.getElem?_map, hps]
                rfl
              have hk5 : Hid (k < 5) := fs_lt p hlt'.out k (List.mem_of_getElem? hpk)
              have hss : s.size ≤ maxLen := hsz.out s (List.mem_of_getElem? hps)
              have hcs : Hid (w.cell? ⟨gw, ow + (q + 1), none⟩ = some (.string s)) := word_at hw.out (q + 1) s hps
              obtain ⟨gb, ob, hSe, hr⟩ := hli.out.lies q k hpk
              subst hSe
              have hr' : Hid (wr.rangeAt gb (ob + q * 5) (fdC k)) := hr
              have hix := fun w' => idxP (P := Tryd.prog) (t := 49) (e := 59) (s := 5) (g := gb) (off := ob) (len := n) (cap := n) Tryd.underlying49 (by kernel_rfl) .i64 q w' hqlt
              have hi1 : ∀ z, (Instr.indexAt 70 (.slice (some ⟨gw, ow, none⟩) m cap) (.int .i64 ((q : Int) + 1))).run Tryd.prog z = .ok (.pointer (some ⟨gw, ow + (q + 1), none⟩)) z := fun z => idxW (g := gw) (off := ow) (len := m) (cap := cap) (q + 1) z (by have := hlen'.out; omega)
              have hqi : (q : Int) < n := by omega
              have hq0 : (0 : Int) ≤ q := by omega
              have hqw : IntKind.i64.wrap ((q : Int) + 1) = (q : Int) + 1 := by rw [IntKind.wrap_i64]; omega
              have hstep := rdF_step (fsR p) wsT OO q k s.data.toList hpk hsT.out
              have hF := fun z => fread_any k s hss z
              have hqlt' : Hid (q < n) := hqlt
              have Lf : Hid (Below w.heap.size w wr) := Ki.out.low
              clear hqlt hr hpk hps hss
              rcases hv : rdK k s.data.toList with _ | v
              · rw [hv] at hF hstep
                have hnone : Hid (rdO (ws.map (·.data.toList)) = none) := by
                  show _ = _
                  unfold rdO
                  rw [hR.out]
                  dsimp only
                  rw [hwsT.out, hop.out, hrd.out, hstep]
                simp only [Option.getD_none, Option.isSome_none] at hF
                clear hstep hv
                go_wp2_with (first
                  | ((with_reducible refine at_st rtF wr.heap.size #[.string ⟨#[]⟩, .int .i64 0, .int .i64 0, .nilFunc, .nilFunc] (fdC k).toArray ?_ ?_ ?_ ?_ (.tmp 8) (.tmp 44) ?_ ?_ ?_ ?_ ?_); exact N1.out.1.bx 4 _ _ _ rfl; rfl; rfl; simp [fdC, Value.oneCell']; rfl; rfl; rfl; rfl; intro x2 hx2; have N2 : Hid (Fm w [(w.heap.size, o6 od0, 30), (w.heap.size + 1, o6 OO, 30), (g, (rowL (rwC sp) (List.range 31)).toArray, 51), (bR, #[.int .u8 (op : Int), .int .u16 (wd : Int), .string nm, .slice (some ⟨gb, ob, none⟩) n n], 51), (wr.heap.size, (fdC k).toArray, 59)] x2) := N1.out.1.put 4 _ _ _ _ rfl hx2.out; have hl2 : Hid (FsL x2 (some ⟨gb, ob, none⟩) (fsR p)) := hli.out.below (N1.out.2.trans (hx2.out.2.1 _ (Nat.le_refl _))))
                  | ((with_reducible refine gen_world (wr.alloc (.cells #[.string ⟨#[]⟩, .int .i64 0, .int .i64 0, .nilFunc, .nilFunc] 59)) (fun x => Fm w [(w.heap.size, o6 od0, 30), (w.heap.size + 1, o6 OO, 30), (g, (rowL (rwC sp) (List.range 31)).toArray, 51), (bR, #[.int .u8 (op : Int), .int .u16 (wd : Int), .string nm, .slice (some ⟨gb, ob, none⟩) n n], 51), (wr.heap.size, #[.string ⟨#[]⟩, .int .i64 0, .int .i64 0, .nilFunc, .nilFunc], 59)] x ∧ Below wr.heap.size wr x) ?_ ?_); exact ⟨Ki.out.new _ _, below1 wr _⟩; intro x1 N1)
                  | ((with_reducible refine at_loadm rtF gb (ob + q * 5) (fdC k).toArray ?_ ?_ (.tmp 43) ?_ ?_ ?_ ?_); exact hr'.out; rfl; rfl; rfl; rfl))
                refine region_class_tail 11 (fun x => Fm w [(w.heap.size, o6 od0, 30), (w.heap.size + 1, o6 OO, 30), (g, (rowL (rwC sp) (List.range 31)).toArray, 51), (bR, #[.int .u8 (op : Int), .int .u16 (wd : Int), .string nm, .slice (some ⟨gb, ob, none⟩) n n], 51), (wr.heap.size, (fdC k).toArray, 59)] x ∧ FsL x (some ⟨gb, ob, none⟩) (fsR p)) (by kernel_rfl) (by kernel_rfl) ⟨N2.out.drew, hl2.out.below ⟨rfl, rfl, rfl, Nat.le_refl _, fun _ _ => rfl⟩⟩ ?_
                simp only [List.take_succ_cons, List.take_zero, List.drop_succ_cons, List.drop_zero]
                with_reducible refine quiet_one (.agg (fdC k).toArray) ?_ ?_ ?_
                · kernel_rfl
                · intro u hy
                  generalize ha : Act.mk _ _ = a
                  have hx : a.eval (.tmp 8) = .pointer (some ⟨wr.heap.size, 0, none⟩) := by rw [← ha]; go_simp
                  clear ha
                  exact q_load rtF wr.heap.size (fdC k).toArray (fun u' h' => h'.1.bx 4 _ _ _ rfl) rfl (.tmp 8) rfl hx u hy
                with_reducible refine quiet_one (.slice (some ⟨gw, ow, none⟩) m cap) ?_ ?_ ?_
                · kernel_rfl
                · intro u hy
                  go_simp
                with_reducible refine quiet_one (.int .i64 (q : Int)) ?_ ?_ ?_
                · kernel_rfl
                · intro u hy
                  go_simp
                with_reducible refine quiet_one (.int .i64 ((q : Int) + 1)) ?_ ?_ ?_
                · kernel_rfl
                · intro u hy
                  go_simp
                with_reducible refine quiet_one (.pointer (some ⟨gw, ow + (q + 1), none⟩)) ?_ ?_ ?_
                · kernel_rfl
                · intro u hy
                  go_simp
                with_reducible refine quiet_one (.string s) ?_ ?_ ?_
                · kernel_rfl
                · intro u hy
                  have x := (hy.1.low.cell (World.block_lt_of_cell? w _ hcs.out)).trans hcs.out
                  go_simp
                with_reducible refine quiet_one (.tuple #[.int .u16 0, .bool false]) ?_ ?_ ?_
                · kernel_rfl
                · intro u hy
                  go_simp
                  exact (hF u).mono fun e u' h' => ⟨h'.1, hy.1.below h'.2, hy.2.below h'.2⟩
                with_reducible refine quiet_one (.tuple #[.int .u16 0, .bool false]) ?_ ?_ ?_
                · kernel_rfl
                · intro u hy
                  go_simp
                with_reducible refine quiet_one (.int .u16 0) ?_ ?_ ?_
                · kernel_rfl
                · intro u hy
                  go_simp
                with_reducible refine quiet_one (.bool false) ?_ ?_ ?_
                · kernel_rfl
                · intro u hy
                  go_simp
                with_reducible refine quiet_one (.int .u16 0) ?_ ?_ ?_
                · kernel_rfl
                · intro u hy
                  go_simp
                refine wpQuiet_nil ?_
                intro x3 N3
                have hl3 : Hid (FsL x3 (some ⟨gb, ob, none⟩) (fsR p)) := N3.2
                have N3 : Hid (Fm w [(w.heap.size, o6 od0, 30), (w.heap.size + 1, o6 OO, 30), (g, (rowL (rwC sp) (List.range 31)).toArray, 51), (bR, #[.int .u8 (op : Int), .int .u16 (wd : Int), .string nm, .slice (some ⟨gb, ob, none⟩) n n], 51), (wr.heap.size, (fdC k).toArray, 59)] x3) := N3.1
                go_simp
                go_wp2_with ((with_reducible refine at_st rtO w.heap.size (o6 od0) #[.int .u8 0, .int .u8 0, .int .u8 0, .int .u8 0, .int .u8 0, .int .u16 0] ?_ ?_ ?_ ?_ (.tmp 2) (.tmp 72) ?_ ?_ ?_ ?_ ?_); exact N3.out.bx 0 _ _ _ rfl; rfl; rfl; simp [Value.oneCell']; rfl; rfl; rfl; rfl; intro z9 hw9; have K9 : Hid (Fm w [(w.heap.size, o6 od0, 30), (w.heap.size + 1, o6 OO, 30), (g, (rowL (rwC sp) (List.range 31)).toArray, 51), (bR, #[.int .u8 (op : Int), .int .u16 (wd : Int), .string nm, .slice (some ⟨gb, ob, none⟩) n n], 51), (wr.heap.size, (fdC k).toArray, 59)] z9) := N3.out.put 0 _ _ _ _ rfl hw9.out)
                (try rw [Exit.noGoto_ret])
                refine ret_two (v := .bool false) rtO rfl rfl rfl (K9.out.bx 0 _ _ _ rfl) rfl rfl ⟨K9.out.low, .inr ⟨hnone.out, od0, rfl⟩⟩
              · rw [hv] at hF hstep
                simp only [Option.getD_some, Option.isSome_some] at hF
                have hv6 : v < 65536 := rdK_lt hv
                have hnext : Hid (rdF (fsR p) wsT ⟨op, 0, 0, 0, 0, 0⟩ = rdF ((fsR p).drop (q + 1)) (wsT.drop (q + 1)) (putK k OO v)) := hrd.out.trans hstep
                have hoR2 : Hid (OdR (putK k OO v)) := hoR.out.put k v hv6
                have hW := fun z => with_any k hk5.out OO v hv6 z
                have ew := ent_wt k hk5.out
                generalize putK k OO v = O2 at hnext hoR2 hW
                clear hstep hv hv6
                go_wp2_with (first
                  | ((with_reducible refine at_st rtF wr.heap.size #[.string ⟨#[]⟩, .int .i64 0, .int .i64 0, .nilFunc, .nilFunc] (fdC k).toArray ?_ ?_ ?_ ?_ (.tmp 8) (.tmp 44) ?_ ?_ ?_ ?_ ?_); exact N1.out.1.bx 4 _ _ _ rfl; rfl; rfl; simp [fdC, Value.oneCell']; rfl; rfl; rfl; rfl; intro x2 hx2; have N2 : Hid (Fm w [(w.heap.size, o6 od0, 30), (w.heap.size + 1, o6 OO, 30), (g, (rowL (rwC sp) (List.range 31)).toArray, 51), (bR, #[.int .u8 (op : Int), .int .u16 (wd : Int), .string nm, .slice (some ⟨gb, ob, none⟩) n n], 51), (wr.heap.size, (fdC k).toArray, 59)] x2) := N1.out.1.put 4 _ _ _ _ rfl hx2.out; have hl2 : Hid (FsL x2 (some ⟨gb, ob, none⟩) (fsR p)) := hli.out.below (N1.out.2.trans (hx2.out.2.1 _ (Nat.le_refl _))))
                  | ((with_reducible refine gen_world (wr.alloc (.cells #[.string ⟨#[]⟩, .int .i64 0, .int .i64 0, .nilFunc, .nilFunc] 59)) (fun x => Fm w [(w.heap.size, o6 od0, 30), (w.heap.size + 1, o6 OO, 30), (g, (rowL (rwC sp) (List.range 31)).toArray, 51), (bR, #[.int .u8 (op : Int), .int .u16 (wd : Int), .string nm, .slice (some ⟨gb, ob, none⟩) n n], 51), (wr.heap.size, #[.string ⟨#[]⟩, .int .i64 0, .int .i64 0, .nilFunc, .nilFunc], 59)] x ∧ Below wr.heap.size wr x) ?_ ?_); exact ⟨Ki.out.new _ _, below1 wr _⟩; intro x1 N1)
                  | ((with_reducible refine at_loadm rtF gb (ob + q * 5) (fdC k).toArray ?_ ?_ (.tmp 43) ?_ ?_ ?_ ?_); exact hr'.out; rfl; rfl; rfl; rfl))
                refine region_class_tail 11 (fun x => Fm w [(w.heap.size, o6 od0, 30), (w.heap.size + 1, o6 OO, 30), (g, (rowL (rwC sp) (List.range 31)).toArray, 51), (bR, #[.int .u8 (op : Int), .int .u16 (wd : Int), .string nm, .slice (some ⟨gb, ob, none⟩) n n], 51), (wr.heap.size, (fdC k).toArray, 59)] x ∧ FsL x (some ⟨gb, ob, none⟩) (fsR p)) (by kernel_rfl) (by kernel_rfl) ⟨N2.out.drew, hl2.out.below ⟨rfl, rfl, rfl, Nat.le_refl _, fun _ _ => rfl⟩⟩ ?_
                simp only [List.take_succ_cons, List.take_zero, List.drop_succ_cons, List.drop_zero]
                with_reducible refine quiet_one (.agg (fdC k).toArray) ?_ ?_ ?_
                · kernel_rfl
                · intro u hy
                  generalize ha : Act.mk _ _ = a
                  have hx : a.eval (.tmp 8) = .pointer (some ⟨wr.heap.size, 0, none⟩) := by rw [← ha]; go_simp
                  clear ha
                  exact q_load rtF wr.heap.size (fdC k).toArray (fun u' h' => h'.1.bx 4 _ _ _ rfl) rfl (.tmp 8) rfl hx u hy
                with_reducible refine quiet_one (.slice (some ⟨gw, ow, none⟩) m cap) ?_ ?_ ?_
                · kernel_rfl
                · intro u hy
                  go_simp
                with_reducible refine quiet_one (.int .i64 (q : Int)) ?_ ?_ ?_
                · kernel_rfl
                · intro u hy
                  go_simp
                with_reducible refine quiet_one (.int .i64 ((q : Int) + 1)) ?_ ?_ ?_
                · kernel_rfl
                · intro u hy
                  go_simp
                with_reducible refine quiet_one (.pointer (some ⟨gw, ow + (q + 1), none⟩)) ?_ ?_ ?_
                · kernel_rfl
                · intro u hy
                  go_simp
                with_reducible refine quiet_one (.string s) ?_ ?_ ?_
                · kernel_rfl
                · intro u hy
                  have x := (hy.1.low.cell (World.block_lt_of_cell? w _ hcs.out)).trans hcs.out
                  go_simp
                with_reducible refine quiet_one (.tuple #[.int .u16 (v : Int), .bool true]) ?_ ?_ ?_
                · kernel_rfl
                · intro u hy
                  go_simp
                  exact (hF u).mono fun e u' h' => ⟨h'.1, hy.1.below h'.2, hy.2.below h'.2⟩
                with_reducible refine quiet_one (.tuple #[.int .u16 (v : Int), .bool true]) ?_ ?_ ?_
                · kernel_rfl
                · intro u hy
                  go_simp
                with_reducible refine quiet_one (.int .u16 (v : Int)) ?_ ?_ ?_
                · kernel_rfl
                · intro u hy
                  go_simp
                with_reducible refine quiet_one (.bool true) ?_ ?_ ?_
                · kernel_rfl
                · intro u hy
                  go_simp
                with_reducible refine quiet_one (.int .u16 (v : Int)) ?_ ?_ ?_
                · kernel_rfl
                · intro u hy
                  go_simp
                refine wpQuiet_nil ?_
                intro x3 N3
                have hl3 : Hid (FsL x3 (some ⟨gb, ob, none⟩) (fsR p)) := N3.2
                have N3 : Hid (Fm w [(w.heap.size, o6 od0, 30), (w.heap.size + 1, o6 OO, 30), (g, (rowL (rwC sp) (List.range 31)).toArray, 51), (bR, #[.int .u8 (op : Int), .int .u16 (wd : Int), .string nm, .slice (some ⟨gb, ob, none⟩) n n], 51), (wr.heap.size, (fdC k).toArray, 59)] x3) := N3.1
                go_simp
                have f4 := (N3.out.bx 4 _ _ _ rfl).c 4 (.func (.func (wtF k)) #[] #[]) rfl
                go_wp2_with (first
                  | ((with_reducible refine at_st rtO (w.heap.size + 1) (o6 OO) (o6 O2) ?_ ?_ ?_ ?_ (.tmp 4) (.tmp 61) ?_ ?_ ?_ ?_ ?_); exact N4.out.bx 1 _ _ _ rfl; rfl; rfl; exact o6_one _; rfl; rfl; rfl; rfl; intro x5 hx5; have N5 : Hid (Fm w [(w.heap.size, o6 od0, 30), (w.heap.size + 1, o6 O2, 30), (g, (rowL (rwC sp) (List.range 31)).toArray, 51), (bR, #[.int .u8 (op : Int), .int .u16 (wd : Int), .string nm, .slice (some ⟨gb, ob, none⟩) n n], 51), (wr.heap.size, (fdC k).toArray, 59)] x5) := N4.out.put 1 _ _ _ _ rfl hx5.out)
                  | ((with_reducible show Calls _ (wtF k) _ _ _); refine (hW _).mono ?_; rintro e x4 ⟨rfl, hb4⟩; have N4 : Hid (Fm w [(w.heap.size, o6 od0, 30), (w.heap.size + 1, o6 OO, 30), (g, (rowL (rwC sp) (List.range 31)).toArray, 51), (bR, #[.int .u8 (op : Int), .int .u16 (wd : Int), .string nm, .slice (some ⟨gb, ob, none⟩) n n], 51), (wr.heap.size, (fdC k).toArray, 59)] x4) := N3.out.below hb4; have hl4 : Hid (FsL x4 (some ⟨gb, ob, none⟩) (fsR p)) := hl3.out.below hb4)
                  | ((with_reducible refine at_load rtO (w.heap.size + 1) (o6 OO) ?_ ?_ (.tmp 4) ?_ ?_ ?_ ?_); exact N3.out.bx 1 _ _ _ rfl; rfl; rfl; rfl; rfl))
                go_roundw
                case rel => exact ⟨q + 1, O2, by have := hqlt'.out; omega, by simp [], hnext, hoR2, N5.out.pre (l' := [_]), hl4.out.off (N4.out.bx 1 _ _ _ rfl) (by decide) hx5.out.2.2⟩
                case measure => have := hqlt'.out; simp [intOf]; omega
            · have hqe : q = n := by omega
              have hfin : Hid (rdF (fsR p) wsT ⟨op, 0, 0, 0, 0, 0⟩ = some OO) := by
                show _ = _
                rw [hrd.out, hqe, List.drop_eq_nil_of_le (by rw [hn.out]; exact Nat.le_refl _)]
                rfl
              have hEn := fun z => encode_any z OO hoR.out
              have hans : Hid (rdO (ws.map (·.data.toList)) = if (encW OO).isSome then some OO else none) := by
                show _ = _
                unfold rdO
                rw [hR.out]
                dsimp only
                rw [hwsT.out, hop.out, hfin.out]
              subst hqe
              rcases hE : encW OO with _ | x
              · rw [hE] at hEn hans
                simp only [Option.getD_none, Option.isSome_none, Bool.false_eq_true, if_false] at hEn hans
                clear hE
                go_wp2_with (first
                  | ((with_reducible refine at_st rtO w.heap.size (o6 od0) (o6 OO) ?_ ?_ ?_ ?_ (.tmp 2) (.tmp 68) ?_ ?_ ?_ ?_ ?_); exact N1.out.bx 0 _ _ _ rfl; rfl; rfl; exact o6_one _; rfl; rfl; rfl; rfl; intro z9 hw9; have K9 : Hid (Fm w [(w.heap.size, o6 OO, 30), (w.heap.size + 1, o6 OO, 30), (g, (rowL (rwC sp) (List.range 31)).toArray, 51), (bR, #[.int .u8 (op : Int), .int .u16 (wd : Int), .string nm, .slice S q q], 51)] z9) := N1.out.put 0 _ _ _ _ rfl hw9.out)
                  | ((with_reducible refine at_load rtO (w.heap.size + 1) (o6 OO) ?_ ?_ (.tmp 4) ?_ ?_ ?_ ?_); exact N1.out.bx 1 _ _ _ rfl; rfl; rfl; rfl; rfl)
                  | (go_at_call 8; refine (hEn _).mono ?_; rintro e x1 ⟨rfl, hb1⟩; have N1 : Hid (Fm w [(w.heap.size, o6 od0, 30), (w.heap.size + 1, o6 OO, 30), (g, (rowL (rwC sp) (List.range 31)).toArray, 51), (bR, #[.int .u8 (op : Int), .int .u16 (wd : Int), .string nm, .slice S q q], 51)] x1) := Ki.out.below hb1)
                  | ((with_reducible refine at_load rtO (w.heap.size + 1) (o6 OO) ?_ ?_ (.tmp 4) ?_ ?_ ?_ ?_); exact Ki.out.bx 1 _ _ _ rfl; rfl; rfl; rfl; rfl))
                (try rw [Exit.noGoto_ret])
                refine ret_two (v := .bool false) rtO rfl rfl rfl (K9.out.bx 0 _ _ _ rfl) rfl rfl ⟨K9.out.low, .inr ⟨hans.out, OO, rfl⟩⟩
              · rw [hE] at hEn hans
                simp only [Option.getD_some, Option.isSome_some, if_true] at hEn hans
                clear hE
                go_wp2_with (first
                  | ((with_reducible refine at_st rtO w.heap.size (o6 od0) (o6 OO) ?_ ?_ ?_ ?_ (.tmp 2) (.tmp 68) ?_ ?_ ?_ ?_ ?_); exact N1.out.bx 0 _ _ _ rfl; rfl; rfl; exact o6_one _; rfl; rfl; rfl; rfl; intro z9 hw9; have K9 : Hid (Fm w [(w.heap.size, o6 OO, 30), (w.heap.size + 1, o6 OO, 30), (g, (rowL (rwC sp) (List.range 31)).toArray, 51), (bR, #[.int .u8 (op : Int), .int .u16 (wd : Int), .string nm, .slice S q q], 51)] z9) := N1.out.put 0 _ _ _ _ rfl hw9.out)
                  | ((with_reducible refine at_load rtO (w.heap.size + 1) (o6 OO) ?_ ?_ (.tmp 4) ?_ ?_ ?_ ?_); exact N1.out.bx 1 _ _ _ rfl; rfl; rfl; rfl; rfl)
                  | (go_at_call 8; refine (hEn _).mono ?_; rintro e x1 ⟨rfl, hb1⟩; have N1 : Hid (Fm w [(w.heap.size, o6 od0, 30), (w.heap.size + 1, o6 OO, 30), (g, (rowL (rwC sp) (List.range 31)).toArray, 51), (bR, #[.int .u8 (op : Int), .int .u16 (wd : Int), .string nm, .slice S q q], 51)] x1) := Ki.out.below hb1)
                  | ((with_reducible refine at_load rtO (w.heap.size + 1) (o6 OO) ?_ ?_ (.tmp 4) ?_ ?_ ?_ ?_); exact Ki.out.bx 1 _ _ _ rfl; rfl; rfl; rfl; rfl))
                (try rw [Exit.noGoto_ret])
                refine ret_two (v := .bool true) rtO rfl rfl rfl (K9.out.bx 0 _ _ _ rfl) rfl rfl ⟨K9.out.low, .inl ⟨OO, hans.out, rfl⟩⟩
        · have hP : Hid (rdP (ws.map (·.data.toList)) p = false) := by
            show _ = _
            unfold rdP
            rw [hhd.out, ← hne.out, hname, List.length_map, hm.out, hn.out]
            simp
            exact hlen
          have hb2 : ((n : Int) != (m : Int) - 1) = true := by rw [bne_iff_ne]; omega
          clear hname hlen
          go_wp2_with (((with_reducible refine at_loadm rtR g (p * 4) #[.int .u8 (op : Int), .int .u16 (wd : Int), .string nm, .slice S n n] ?_ ?_ (.tmp 17) ?_ ?_ ?_ ?_); exact hr'.out; rfl; rfl; rfl; rfl))
          go_quiet (fail)
          go_wp2
          go_roundw
          case rel => exact ⟨p + 1, by have := hlt'.out; omega, by simp, (fun j hj => by
            rcases Nat.lt_succ_iff_lt_or_eq.1 hj with h | h
            · exact hq.out j h
            · rw [h]; exact hP.out : ∀ j, j < p + 1 → rdP (ws.map (·.data.toList)) j = false), (hy.out.trans (M.out.2.mono hy.out.size)).trans ⟨rfl, rfl, rfl, Nat.le_refl _, fun _ _ => rfl⟩, Fm.pre (l := [(w.heap.size, o6 od0, 30), (w.heap.size + 1, o6 od0, 30), (g, (rowL (rwC sp) (List.range 31)).toArray, 51)]) (l' := [(wr.heap.size, #[.int .u8 (op : Int), .int .u16 (wd : Int), .string nm, .slice S n n], 51)]) (M.out.1.below ⟨rfl, rfl, rfl, Nat.le_refl _, fun _ _ => rfl⟩)⟩
          case measure => have := hlt'.out; simp [intOf]; omega
      · have hP : Hid (rdP (ws.map (·.data.toList)) p = false) := by
          show _ = _
          unfold rdP
          rw [hhd.out, ← hne.out, Bool.and_eq_false_iff]
          left
          rw [beq_eq_false_iff_ne]
          intro e
          apply hname
          cases nm
          cases s0
          simp at e
          rw [e]
        have hb1 : (nm.toList == s0.toList) = false := str_ne hname
        have hb1' : (nm.toList != s0.toList) = true := by rw [bne, hb1]; rfl
        clear hname
        go_wp2_with (((with_reducible refine at_loadm rtR g (p * 4) #[.int .u8 (op : Int), .int .u16 (wd : Int), .string nm, .slice S n n] ?_ ?_ (.tmp 17) ?_ ?_ ?_ ?_); exact hr'.out; rfl; rfl; rfl; rfl))
        go_quiet (fail)
        go_wp2
        go_roundw
        case rel => exact ⟨p + 1, by have := hlt'.out; omega, by simp, (fun j hj => by
          rcases Nat.lt_succ_iff_lt_or_eq.1 hj with h | h
          · exact hq.out j h
          · rw [h]; exact hP.out : ∀ j, j < p + 1 → rdP (ws.map (·.data.toList)) j = false), (hy.out.trans (M.out.2.mono hy.out.size)).trans ⟨rfl, rfl, rfl, Nat.le_refl _, fun _ _ => rfl⟩, Fm.pre (l := [(w.heap.size, o6 od0, 30), (w.heap.size + 1, o6 od0, 30), (g, (rowL (rwC sp) (List.range 31)).toArray, 51)]) (l' := [(wr.heap.size, #[.int .u8 (op : Int), .int .u16 (wd : Int), .string nm, .slice S n n], 51)]) (M.out.1.below ⟨rfl, rfl, rfl, Nat.le_refl _, fun _ _ => rfl⟩)⟩
        case measure => have := hlt'.out; simp [intOf]; omega
    · have hpe : p = 31 := by omega
      subst hpe
      have hnone : Hid (rdO (ws.map (·.data.toList)) = none) := by
        show _ = _
        unfold rdO
        rw [fstI_none hq.out]
      go_wp2_with ((with_reducible refine at_st rtO w.heap.size (o6 od0) #[.int .u8 0, .int .u8 0, .int .u8 0, .int .u8 0, .int .u8 0, .int .u16 0] ?_ ?_ ?_ ?_ (.tmp 2) (.tmp 72) ?_ ?_ ?_ ?_ ?_); exact K.out.bx 0 _ _ _ rfl; rfl; rfl; simp [Value.oneCell']; rfl; rfl; rfl; rfl; intro z9 hw9; have K9 : Hid (Fm w [(w.heap.size, o6 od0, 30), (w.heap.size + 1, o6 od0, 30), (g, (rowL (rwC sp) (List.range 31)).toArray, 51)] z9) := K.out.put 0 _ _ _ _ rfl hw9.out)
      (try rw [Exit.noGoto_ret])
      refine ret_two (v := .bool false) rtO rfl rfl rfl (K9.out.bx 0 _ _ _ rfl) rfl rfl ⟨K9.out.low, .inr ⟨hnone.out, od0, rfl⟩⟩
end Go.Proofs.YthaijjehplomfaaDoor
