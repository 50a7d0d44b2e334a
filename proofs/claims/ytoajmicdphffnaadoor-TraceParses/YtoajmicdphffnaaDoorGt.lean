/- A trace as text: the program's. A trace as text: the program's face. -/
import Derived.Test.YtoajmicdphffnaaDoorGr
import Derived.Test.YtoajmicdphffnaaDoorGd
import Derived.Test.YtoajmicdphffnaaDoorRv
namespace Go.Proofs.YtoajmicdphffnaaDoor
open Go Go.RowKit
set_option linter.unusedVariables false
set_option maxHeartbeats 4000000
set_option maxRecDepth 20000

theorem catchS (p q : Nat) (v x : Value) (older : List PanicEntry) (w : World) (hp : Bx w p #[v] 9) (hq : Bx w q #[x] 25) (hne : q ≠ p) :
    CallsD Tryd.prog 25 #[.pointer (some ⟨p, 0, none⟩), .pointer (some ⟨q, 0, none⟩)] (.panicking ({ v := pv, recovered := false } :: older)) w fun e' u' w' =>
      e' = .returned (.tuple #[]) ∧ u' = .panicking ({ v := pv, recovered := true } :: older) ∧ w' = (w.setCell ⟨p, 0, none⟩ (.string ⟨#[]⟩)).setCell ⟨q, 0, none⟩ (.int .i64 1) := by
  have hp0 := hp.c 0 _ rfl
  have fp := hp.fz 0
  have hq0 : (w.setCell ⟨p, 0, none⟩ (.string ⟨#[]⟩)).cell? ⟨q, 0, none⟩ = some x := (World.cell?_of_block (w := w) (a := ⟨q, 0, none⟩) (heap_setCell_other w ⟨p, 0, none⟩ q _ hne)).trans (hq.c 0 _ rfl)
  have fq : (w.setCell ⟨p, 0, none⟩ (.string ⟨#[]⟩)).frozen? ⟨q, 0, none⟩ = false := (World.frozen?_of_block (w := w) (a := ⟨q, 0, none⟩) (heap_setCell_other w ⟨p, 0, none⟩ q _ hne)).trans (hq.fz 0)
  clear hp hq hne
  refine callsD_of_wpS Tryd.func25 rfl fun c₀ cs hu => ?_
  rw [show (#[.pointer (some ⟨p, 0, none⟩), .pointer (some ⟨q, 0, none⟩)] ++ Array.replicate (Tryd.f25.ntmps - (#[.pointer (some ⟨p, 0, none⟩), .pointer (some ⟨q, 0, none⟩)] : Array Value).size) undef : Array Value) = #[.pointer (some ⟨p, 0, none⟩), .pointer (some ⟨q, 0, none⟩), undef, undef] from by rw [Tryd.ntmps25]; rfl]
  refine wpS_rec (v := pv) (cs' := { c₀ with mode := .panicking ({ v := pv, recovered := true } :: older) } :: cs) rfl (by kernel_rfl) (by rfl) (.inl (by simp [recoverD, hu, pv])) ?_
  unfold pv
  go_simp
  go_wp2
  exact ⟨rfl, _, rfl, .tuple #[], by simp [results, Tryd.results25], rfl, rfl, rfl⟩
theorem restS (p q : Nat) (w : World) :
    CallsD Tryd.prog 25 #[.pointer (some ⟨p, 0, none⟩), .pointer (some ⟨q, 0, none⟩)] .returning w fun e' u' w' => e' = .returned (.tuple #[]) ∧ u' = .returning ∧ w' = w := by
  refine callsD_of_wpS Tryd.func25 rfl fun c₀ cs hu => ?_
  rw [show (#[.pointer (some ⟨p, 0, none⟩), .pointer (some ⟨q, 0, none⟩)] ++ Array.replicate (Tryd.f25.ntmps - (#[.pointer (some ⟨p, 0, none⟩), .pointer (some ⟨q, 0, none⟩)] : Array Value).size) undef : Array Value) = #[.pointer (some ⟨p, 0, none⟩), .pointer (some ⟨q, 0, none⟩), undef, undef] from by rw [Tryd.ntmps25]; rfl]
  refine wpS_rec (v := .nilIface) (cs' := c₀ :: cs) rfl (by kernel_rfl) (by rfl) (.inr ⟨by simp [recoverD, hu], rfl, rfl⟩) ?_
  go_simp
  go_wp2
  refine ⟨rfl, .returning, ?_, .tuple #[], by simp [results, Tryd.results25], rfl, rfl, rfl⟩
  cases c₀
  simp_all
theorem copy_keep (B b : Nat) (bs : List Value) (w : World) (h : Lib.IsBuilder 49 5 B b bs w) :
    Calls Tryd.prog 67 #[.pointer (some ⟨b, 0, none⟩)] w fun e w' => e = .returned (.tuple #[]) ∧ (Lib.BuilderAt 49 5 B b (.pointer (some ⟨b, 0, none⟩)) bs w' ∧ Below B w w') ∧ (∀ q cs t, t ≠ 49 → t ≠ 5 → Bx w q cs t → Bx w' q cs t) := by
  rcases h with h | h
  · refine (copy_fresh b w h.cell0 h.shape h.frozen0).mono ?_
    rintro e w' ⟨rfl, rfl⟩
    refine ⟨rfl, ⟨h.used _, (Below.refl B w).setCell (p := ⟨b, 0, none⟩) h.1 _⟩, fun q cs t ht _ hx => ?_⟩
    obtain ⟨_, v, hbk, _⟩ := h
    exact hx.setO _ fun e => by
      subst e
      unfold Bx at hx
      rw [hbk] at hx
      injection hx with hx
      injection hx with _ h2 _
      exact ht h2.symm
  · refine (copy_used b w h.cell0).mono ?_
    rintro e w' ⟨rfl, rfl⟩
    exact ⟨rfl, ⟨h, Below.refl B _⟩, fun q cs t _ _ hx => hx⟩
theorem write_keep (B b : Nat) (bs : List Value) (s : ByteArray) (w : World) (h : Lib.IsBuilder 49 5 B b bs w) (hlen : bs.length + s.size ≤ 140737488355328) (hBw : B ≤ w.heap.size) :
    Calls Tryd.prog 28 #[.pointer (some ⟨b, 0, none⟩), .string s] w fun e w' => e = .returned (.tuple #[.int .i64 s.size, .nilIface]) ∧ (Lib.BuilderAt 49 5 B b (.pointer (some ⟨b, 0, none⟩)) (bs ++ Lib.strCells s) w' ∧ Below B w w') ∧ (∀ q cs t, t ≠ 49 → t ≠ 5 → Bx w q cs t → Bx w' q cs t) := by
  obtain ⟨i0, hi, hz0, hz1, hz2⟩ := info_parts infoBy
  go_enter Tryd.func28, Tryd.ntmps28
  go_wp2_with (go_at_call 67; refine (copy_keep B b bs _ h).mono ?_)
  rintro e w1 ⟨rfl, ⟨h1, hb1⟩, hk1⟩
  obtain ⟨hB, v, hbk, hown, hne⟩ := h1
  have c0 : w1.cell? ⟨b, 0, none⟩ = some (.pointer (some ⟨b, 0, none⟩)) := by rw [Lib.cell_of_heap hbk]; rfl
  have c1 : w1.cell? ⟨b, 1, none⟩ = some v := by rw [Lib.cell_of_heap hbk]; rfl
  go_wp2_with (at_builtin; refine Lib.wpList_append_own_string _ rfl _ _ 34 9 rfl B 5 i0 Tryd.underlying34 Tryd.underlying9 hi hz0 hz1 hz2 _ _ _ rfl hown s rfl ?c3 ?c4 ?c5 ?_)
  case c3 => unfold maxLen; omega
  case c4 => omega
  case c5 => have := hb1.size; omega
  intro v' w2 hown' hgrow _
  have hlt : b < w1.heap.size := by
    rcases Nat.lt_or_ge b w1.heap.size with h' | h'
    · exact h'
    · simp [Array.getElem?_eq_none h'] at hbk
  have hb2 : w2.heap[b]? = some (.cells #[.pointer (some ⟨b, 0, none⟩), v] 49 (0, 0)) := by
    rw [hgrow.block b hlt (fun e => hne e.symm)]
    exact hbk
  have d0 : w2.cell? ⟨b, 0, none⟩ = some (.pointer (some ⟨b, 0, none⟩)) := by rw [Lib.cell_of_heap hb2]; rfl
  have d1 : w2.cell? ⟨b, 1, none⟩ = some v := by rw [Lib.cell_of_heap hb2]; rfl
  have f1 : w2.frozen? ⟨b, 1, none⟩ = false := Lib.frozen_of_heap hb2 1
  obtain ⟨ao, n', cap, rfl⟩ : ∃ ao n' cap, v' = .slice ao n' cap := by
    rcases hown'.2 with ⟨hv, _⟩ | ⟨g, cap, cur, hv, _⟩
    · exact ⟨_, _, _, hv⟩
    · exact ⟨_, _, _, hv⟩
  go_wp2
  go_ret2
  refine ⟨rfl, ⟨?_, ?_⟩, fun q cs t ht hu hx => ?_⟩
  · exact Lib.BuilderAt.put (T := 49) (e := 5) hB hb2 (bs' := bs ++ Lib.strCells s) (by simpa [Lib.strCells_length] using hown') (by decide)
  · exact (hb1.grown hgrow (by have := hb1.size; omega) (fun k hk => (hown.lt k hk).1)).setCell (p := ⟨b, 1, none⟩) hB _
  · have hx1 := hk1 q cs t ht hu hx
    have hqb : q ≠ b := fun e => by
      subst e
      unfold Bx at hx1
      rw [hbk] at hx1
      injection hx1 with hx1
      injection hx1 with _ h2 _
      exact ht h2.symm
    have hqv : some q ≠ v.ownBlock := fun e => by
      rcases hown.2 with ⟨h0, _⟩ | ⟨g, cap, cur, hv, _, hg, _⟩
      · rw [h0] at e; cases e
      · rw [hv] at e
        have : q = g := by simpa [Value.ownBlock] using e
        subst this
        unfold Bx at hx1
        rw [hx1] at hg
        injection hg with hg
        injection hg with _ h2 _
        exact hu h2
    exact (heap_setCell_other w2 ⟨b, 1, none⟩ q _ hqb).trans ((hgrow.block q (heap_lt hx1) hqv).trans hx1)
/-- A builder and the rows beside it. -/
structure PP (x : World) (g p1 f1 p2 f2 p3 f3 : Nat) (B : List UInt8) (y : World) : Prop where
  bd : Bd x B y
  ra : RwA y g p1 f1 p2 f2 p3 f3
theorem PP.below {x y z : World} {g p1 f1 p2 f2 p3 f3 : Nat} {B : List UInt8} (h : PP x g p1 f1 p2 f2 p3 f3 B y) (hb : Below y.heap.size y z) : PP x g p1 f1 p2 f2 p3 f3 B z := ⟨h.bd.below hb, h.ra.below hb⟩
theorem PP.write {x y z : World} {g p1 f1 p2 f2 p3 f3 : Nat} {B : List UInt8} {st : ByteArray} (h : PP x g p1 f1 p2 f2 p3 f3 B y) (k : (Lib.BuilderAt 49 5 x.heap.size x.heap.size (.pointer (some ⟨x.heap.size, 0, none⟩)) (Lib.byteCells B ++ Lib.strCells st) z ∧ Below x.heap.size y z) ∧ (∀ q cs t, t ≠ 49 → t ≠ 5 → Bx y q cs t → Bx z q cs t)) : PP x g p1 f1 p2 f2 p3 f3 (B ++ strL st) z :=
  ⟨⟨by rw [← cells_app]; exact .inr k.1.1, h.bd.low.trans k.1.2⟩, ⟨k.2 _ _ _ (by decide) (by decide) h.ra.tab, k.2 _ _ _ (by decide) (by decide) h.ra.s1, k.2 _ _ _ (by decide) (by decide) h.ra.g1, k.2 _ _ _ (by decide) (by decide) h.ra.s2, k.2 _ _ _ (by decide) (by decide) h.ra.g2, k.2 _ _ _ (by decide) (by decide) h.ra.s3, k.2 _ _ _ (by decide) (by decide) h.ra.g3⟩⟩
end Go.Proofs.YtoajmicdphffnaaDoor

namespace Go.Proofs.YtoajmicdphffnaaDoor
open Go Go.RowKit
set_option linter.unusedVariables false
set_option maxHeartbeats 4000000
set_option maxRecDepth 20000

theorem two_set {w y : World} {st : ByteArray} {e : Int} (h : Fm w [(w.heap.size, #[.string st], 9), (w.heap.size + 1, #[.int .i64 e], 25)] y) (st' : ByteArray) (e' : Int) : Fm w [(w.heap.size, #[.string st'], 9), (w.heap.size + 1, #[.int .i64 e'], 25)] ((y.setCell ⟨w.heap.size, 0, none⟩ (.string st')).setCell ⟨w.heap.size + 1, 0, none⟩ (.int .i64 e')) := (h.setCell 0 _ _ #[.string st'] _ rfl 0 _ rfl).setCell 1 _ _ #[.int .i64 e'] _ rfl 0 _ rfl
theorem two_mid {w y : World} {st : ByteArray} {e : Int} (h : Fm w [(w.heap.size, #[.string st], 9), (w.heap.size + 1, #[.int .i64 e], 25)] y) (st' : ByteArray) : Fm w [(w.heap.size, #[.string st'], 9), (w.heap.size + 1, #[.int .i64 e], 25)] (y.setCell ⟨w.heap.size, 0, none⟩ (.string st')) := h.setCell 0 _ _ #[.string st'] _ rfl 0 _ rfl
theorem pprint_any (w : World) (tb : Hid (Tp w)) (sp : Option Addr) (cap : Nat) (l : List Rc) (hl : Hid (LiesR w sp l)) (hn : l.length ≤ 9223372036854775807) (hk : Hid (AllG l)) :
    Calls Tryd.prog 11 #[.slice sp l.length cap] w fun e w' => e = .returned (.tuple #[.string (printB l), .int .i64 (printE l)]) ∧ Hid (Below w.heap.size w w') := by
  have hmf : ∀ (fn : Fn) (first cap : Array Value) (w : World), (Instr.makeFunc fn first cap).run Tryd.prog w = .ok (.func fn first cap) w := fun _ _ _ _ => rfl
  have hS : Hid (Fm w [(w.heap.size, #[.string ⟨#[]⟩], 9), (w.heap.size + 1, #[.int .i64 0], 25)] ((w.alloc (.cells #[.string ⟨#[]⟩] 9)).alloc (.cells #[.int .i64 0] 25))) := Fm.two w _ _ _ _
  obtain ⟨n, hn'⟩ : ∃ n, l.length = n := ⟨_, rfl⟩
  have ni : (n : Int) ≤ 9223372036854775807 := by omega
  by_cases hbig : 4194304 < n
  · have e0 : checkR l = 2 := by unfold checkR; rw [if_pos (by omega)]
    have e1 : printE l = 2 := by unfold printE; rw [e0, if_pos (by decide)]
    have e2 : printB l = ⟨#[]⟩ := by unfold printB; rw [e1, if_neg (by decide)]
    rw [e1, e2, hn']
    have q : decide ((4194304 : Int) < n) = true := by simp; omega
    clear hbig hn hn' e0 e1 e2
    go_enter_defers Tryd.func11, Tryd.ntmps11
    go_wp2
    refine leaves_cons (f := 25) (args := #[.pointer (some ⟨w.heap.size, 0, none⟩), .pointer (some ⟨w.heap.size + 1, 0, none⟩)]) (by simp) (by simp [go_sem]) ?_
    refine (restS _ _ _).mono ?_
    rintro e u' w' ⟨rfl, rfl, rfl⟩
    have F := Fm.two w #[.string ⟨#[]⟩] #[.int .i64 2] 9 25
    have h1 := (F.bx 0 _ _ _ rfl).c 0 _ rfl
    have h2 := (F.bx 1 _ _ _ rfl).c 0 _ rfl
    have fin : Hid (Below w.heap.size w ((w.alloc (.cells #[.string ⟨#[]⟩] 9)).alloc (.cells #[.int .i64 2] 25))) := F.low
    generalize (w.alloc (.cells #[.string ⟨#[]⟩] 9)).alloc (.cells #[.int .i64 2] 25) = W at h1 h2 fin ⊢
    clear F
    simp [Leaves, settle, results, Tryd.results11, go_sem, h1, h2]
    exact fin
  have q : decide ((4194304 : Int) < n) = false := by simp; omega
  have ni4 : (n : Int) ≤ 4194304 := by omega
  have hl' : Hid (l.length = n) := hn'
  have hlS : ∀ y, Below w.heap.size w y → Hid (LiesR y sp l) := fun y hb => hl.out.below hb
  by_cases hall : allM l = true
  · have h0 : checkR l = 0 := by unfold checkR; rw [if_neg (by omega), if_pos hall]
    obtain ⟨PL, hPL⟩ : ∃ x, printR l = x := ⟨_, rfl⟩
    have hPL' : Hid (printR l = PL) := hPL
    obtain ⟨PE, hPE⟩ : ∃ x, printE l = x := ⟨_, rfl⟩
    obtain ⟨PB, hPB⟩ : ∃ x, printB l = x := ⟨_, rfl⟩
    have hPE' : Hid (PE = if 65536 < PL.length then 2 else 0) := by show PE = _; rw [← hPE, ← hPL]; unfold printE; rw [if_neg (by simpa using h0)]
    have hPB' : Hid (PB = if PE = 0 then ⟨PL.toArray⟩ else ⟨#[]⟩) := by show PB = _; rw [← hPB, ← hPE, ← hPL]; rfl
    have hgood : Hid (∀ s ∈ l, Rr s ∧ mayR s = true) := fun s hs => ⟨hk.out s hs, allM_mem hall s hs⟩
    have hN : Hid (∀ y, Below w.heap.size w y → Calls Tryd.prog 26 #[.slice sp n cap] y fun e w' => e = .returned (.tuple #[]) ∧ Below y.heap.size y w') := fun y hb => by
      have := all_ok y sp cap l (hlS y hb) (by omega) hall
      rw [hn'] at this
      exact this
    have zz := zeroV_R
    have zb := zeroVB
    rw [hPE, hPB, hn']
    replace hlS : Hid _ := hlS
    clear hbig hn hn' hall hPL hPE hPB h0
    go_enter_defers Tryd.func11, Tryd.ntmps11
    go_wp2_with (first
      | (go_at_call 27; refine (rows_any y3).mono ?_; rintro e y4 ⟨g, p1, f1, p2, f2, p3, f3, rfl, H4⟩; have P4 : Hid (PP x g p1 f1 p2 f2 p3 f3 [] y4) := ⟨K3.out.below H4.out.2, H4.out.1⟩; clear H4)
      | ((with_reducible refine gen_world (x.alloc (.cells #[.pointer none, .slice none 0 0] 49)) (Bd x []) (Bd.new x) ?_); intro y3 K3)
      | (go_at_call 26; refine (hN.out _ hS.out.low).mono ?_; rintro e x ⟨rfl, hb2⟩; have K2 : Hid (Fm w [(w.heap.size, #[.string ⟨#[]⟩], 9), (w.heap.size + 1, #[.int .i64 0], 25)] x) := hS.out.below hb2; clear hb2))
    have tbx : Hid (Tp x) := tb.out.below K2.out.low
    have KX : Hid (Fm w [(w.heap.size, #[.string ⟨#[]⟩], 9), (w.heap.size + 1, #[.int .i64 0], 25)] x) := K2
    clear K3
    go_loopw [17] (fun t wz => ∃ (i : Nat) (B : List UInt8) (y : World), y = wz ∧ t = .int .i64 (i : Int) ∧ Hid (i ≤ n ∧ B.length ≤ 65536 ∧ PL = B ++ printR (l.drop i)) ∧ Hid (PP x g p1 f1 p2 f2 p3 f3 B y)) (fun t _ => (n - intOf t).toNat)
    case atStart => exact ⟨0, [], _, rfl, rfl, ⟨Nat.zero_le _, Nat.zero_le _, hPL'.out.symm⟩, P4⟩
    case round =>
      obtain ⟨i, B, y, rfl, rfl, J, K⟩ := hrel
      have hwy : Hid (Fm w [(w.heap.size, #[.string ⟨#[]⟩], 9), (w.heap.size + 1, #[.int .i64 0], 25)] y) := K2.out.below K.out.bd.low
      by_cases hlt : i < n
      · obtain ⟨s, hs, hdrop⟩ := at_list hl'.out hlt
        obtain ⟨gb, ob, hsp, hR⟩ := hl.out i s hs
        subst hsp
        have hR : Hid (y.rangeAt gb (ob + i * 8) (rcC s).toList) := range_keep hR hwy.out.low
        have ij := fun v => idxP (g := gb) (off := ob) (len := n) (cap := cap) Tryd.underlying23 (s := 8) (by kernel_rfl) .i64 i v hlt
        have hji : (i : Int) < n := by omega
        have hi' : Hid (i < n) := hlt
        have gs := hgood.out s (List.mem_of_getElem? hs)
        have hcall : Hid (∀ z, Tp z → RwA z g p1 f1 p2 f2 p3 f3 → Calls Tryd.prog 29 #[.slice (some ⟨g, 0, none⟩) 8 8, .agg (rcC s)] z fun e w' => ∃ st, e = .returned (.string st) ∧ Hid (strL st = lineR s ++ [10] ∧ st.size ≤ 26 ∧ Below z.heap.size z w')) := fun z h1 h2 => line_any z h1 g p1 f1 p2 f2 p3 f3 h2 s gs.1 gs.2
        have J2 : Hid (PL = (B ++ (lineR s ++ [10])) ++ printR (l.drop (i + 1))) := by
          have h1 := J.out
          rw [hdrop] at h1
          show PL = _
          rw [h1.2.2]
          simp [printR]
        have hBl : Hid (B.length ≤ 65536) := J.out.2.1
        obtain ⟨m, hm⟩ : ∃ m, (B ++ (lineR s ++ [10])).length = m := ⟨_, rfl⟩
        have hm' : Hid ((B ++ (lineR s ++ [10])).length = m) := hm
        have hm0 : m ≤ 65562 := by rw [← hm]; have h1 := hBl.out; have h2 := (line_facts gs.1 gs.2).2.1; simp only [List.length_append, List.length_cons, List.length_nil]; omega
        replace hs : Hid _ := hs
        replace hdrop : Hid _ := hdrop
        replace gs : Hid _ := gs
        clear hlt hm
        by_cases hbg : 65536 < m
        · have qb : decide ((65536 : Int) < m) = true := by simp; omega
          have fin : Hid (PB = ⟨#[]⟩ ∧ PE = 2) := by
            have h2 : 65536 < PL.length := by
              have h1 := congrArg List.length J2.out
              rw [List.length_append, hm'.out] at h1
              omega
            have e : PE = 2 := by rw [hPE'.out, if_pos h2]
            exact ⟨by rw [hPB'.out, e]; rfl, e⟩
          clear hbg
          go_wp2_with (first
          | ((with_reducible refine at_loadm rtR gb (ob + i * 8) (rcC s) ?_ ?_ (.tmp 19) ?_ ?_ ?_ ?_); exact hR.out; rfl; kernel_rfl; rfl; rfl)
          | ((with_reducible refine gen_world (y.alloc (.cells (rcC zR) 45)) (Fm y [(y.heap.size, rcC zR, 45)]) ?_ ?_); exact Fm.one y _ _; intro z1 K1)
          | ((with_reducible refine at_st rtR y.heap.size (rcC zR) (rcC s) ?_ ?_ ?_ ?_ (.tmp 7) (.tmp 20) ?_ ?_ ?_ ?_ ?_); exact K1.out.bx 0 _ _ _ rfl; rfl; rfl; exact rcC_one _; rfl; rfl; rfl; rfl; intro z2 hw2; have K2 : Hid (Fm y [(y.heap.size, rcC s, 45)] z2) := K1.out.put 0 _ _ _ _ rfl hw2.out; have P2 : Hid (PP x g p1 f1 p2 f2 p3 f3 B z2) := K.out.below K2.out.low)
          | ((with_reducible refine at_load rtR y.heap.size (rcC s) ?_ ?_ (.tmp 7) ?_ ?_ ?_ ?_); exact K2.out.bx 0 _ _ _ rfl; rfl; kernel_rfl; rfl; rfl)
          | (go_at_call 29; refine (hcall.out z2 (tbx.out.below P2.out.bd.low) P2.out.ra).mono ?_; rintro e z3 ⟨st, rfl, H3⟩; have P3 : Hid (PP x g p1 f1 p2 f2 p3 f3 B z3) := P2.out.below H3.out.2.2)
          | (go_at_call 28; refine (write_keep x.heap.size x.heap.size (Lib.byteCells B) st z3 P3.out.bd.bu ?_ P3.out.bd.low.size).mono ?_; (have h1 := hBl.out; have h2 := H3.out.2.1; rw [Lib.byteCells_length]; omega); rintro e z4 ⟨rfl, H4⟩; have P4 : Hid (PP x g p1 f1 p2 f2 p3 f3 (B ++ strL st) z4) := P3.out.write H4; clear H4; have hL4 := Tryd.Builder_Len x.heap.size x.heap.size _ z4 P4.out.bd.bu; rw [Lib.byteCells_length] at hL4; have lenE : (B ++ strL st).length = m := (by rw [← hm'.out, H3.out.1]); rw [lenE] at hL4; have W4 : Hid (Fm w [(w.heap.size, #[.string ⟨#[]⟩], 9), (w.heap.size + 1, #[.int .i64 0], 25)] z4) := KX.out.below P4.out.bd.low; have c0 := (W4.out.bx 0 _ _ _ rfl).c 0 _ rfl; have f0 := (W4.out.bx 0 _ _ _ rfl).fz 0; have c1 := ((two_mid W4.out ⟨#[]⟩).bx 1 _ _ _ rfl).c 0 _ rfl; have f1 := ((two_mid W4.out ⟨#[]⟩).bx 1 _ _ _ rfl).fz 0)
          | (go_at_call 30; refine hL4.mono ?_; rintro e z5 ⟨rfl, h5⟩; replace h5 := h5.symm; subst h5))
          have FF := two_set W4.out ⟨#[]⟩ 2
          have r1 := (FF.bx 0 _ _ _ rfl).c 0 _ rfl
          have r2 := (FF.bx 1 _ _ _ rfl).c 0 _ rfl
          have fin2 : Hid (Below w.heap.size w ((z4.setCell ⟨w.heap.size, 0, none⟩ (.string ⟨#[]⟩)).setCell ⟨w.heap.size + 1, 0, none⟩ (.int .i64 2))) := FF.low
          rw [fin.out.1, fin.out.2]
          refine leaves_cons (f := 25) (args := #[.pointer (some ⟨w.heap.size, 0, none⟩), .pointer (some ⟨w.heap.size + 1, 0, none⟩)]) (by simp) (by simp [go_sem]) ?_
          refine (restS _ _ _).mono ?_
          rintro e u' w' ⟨rfl, rfl, rfl⟩
          simp [Leaves, settle, results, Tryd.results11, go_sem, r1, r2]
          exact fin2
        · have qb : decide ((65536 : Int) < m) = false := by simp; omega
          have hms : Hid (m ≤ 65536) := Nat.le_of_not_lt hbg
          clear hbg
          go_wp2_with (first
          | ((with_reducible refine at_loadm rtR gb (ob + i * 8) (rcC s) ?_ ?_ (.tmp 19) ?_ ?_ ?_ ?_); exact hR.out; rfl; kernel_rfl; rfl; rfl)
          | ((with_reducible refine gen_world (y.alloc (.cells (rcC zR) 45)) (Fm y [(y.heap.size, rcC zR, 45)]) ?_ ?_); exact Fm.one y _ _; intro z1 K1)
          | ((with_reducible refine at_st rtR y.heap.size (rcC zR) (rcC s) ?_ ?_ ?_ ?_ (.tmp 7) (.tmp 20) ?_ ?_ ?_ ?_ ?_); exact K1.out.bx 0 _ _ _ rfl; rfl; rfl; exact rcC_one _; rfl; rfl; rfl; rfl; intro z2 hw2; have K2 : Hid (Fm y [(y.heap.size, rcC s, 45)] z2) := K1.out.put 0 _ _ _ _ rfl hw2.out; have P2 : Hid (PP x g p1 f1 p2 f2 p3 f3 B z2) := K.out.below K2.out.low)
          | ((with_reducible refine at_load rtR y.heap.size (rcC s) ?_ ?_ (.tmp 7) ?_ ?_ ?_ ?_); exact K2.out.bx 0 _ _ _ rfl; rfl; kernel_rfl; rfl; rfl)
          | (go_at_call 29; refine (hcall.out z2 (tbx.out.below P2.out.bd.low) P2.out.ra).mono ?_; rintro e z3 ⟨st, rfl, H3⟩; have P3 : Hid (PP x g p1 f1 p2 f2 p3 f3 B z3) := P2.out.below H3.out.2.2)
          | (go_at_call 28; refine (write_keep x.heap.size x.heap.size (Lib.byteCells B) st z3 P3.out.bd.bu ?_ P3.out.bd.low.size).mono ?_; (have h1 := hBl.out; have h2 := H3.out.2.1; rw [Lib.byteCells_length]; omega); rintro e z4 ⟨rfl, H4⟩; have P4 : Hid (PP x g p1 f1 p2 f2 p3 f3 (B ++ strL st) z4) := P3.out.write H4; clear H4; have hL4 := Tryd.Builder_Len x.heap.size x.heap.size _ z4 P4.out.bd.bu; rw [Lib.byteCells_length] at hL4; have lenE : (B ++ strL st).length = m := (by rw [← hm'.out, H3.out.1]); rw [lenE] at hL4; have W4 : Hid (Fm w [(w.heap.size, #[.string ⟨#[]⟩], 9), (w.heap.size + 1, #[.int .i64 0], 25)] z4) := KX.out.below P4.out.bd.low; have c0 := (W4.out.bx 0 _ _ _ rfl).c 0 _ rfl; have f0 := (W4.out.bx 0 _ _ _ rfl).fz 0; have c1 := ((two_mid W4.out ⟨#[]⟩).bx 1 _ _ _ rfl).c 0 _ rfl; have f1 := ((two_mid W4.out ⟨#[]⟩).bx 1 _ _ _ rfl).fz 0)
          | (go_at_call 30; refine hL4.mono ?_; rintro e z5 ⟨rfl, h5⟩; replace h5 := h5.symm; subst h5))
          go_roundw
          case rel => exact ⟨i + 1, _, _, rfl, by simp, ⟨hi'.out, by rw [lenE]; exact hms.out, by rw [J2.out, ← H3.out.1]⟩, P4⟩
          case measure => have := hi'.out; simp [intOf]; omega
      · have hin : i = n := by have := J.out.1; omega
        subst hin
        have hB : B = PL := by
          have h1 := J.out.2.2
          rw [List.drop_eq_nil_of_le (by rw [hl'.out]; exact Nat.le_refl _), show printR [] = [] from rfl, List.append_nil] at h1
          exact h1.symm
        have fin : Hid (PB = ⟨B.toArray⟩ ∧ PE = 0) := by
          have e : PE = 0 := by rw [hPE'.out, ← hB, if_neg (by have := J.out.2.1; omega)]
          exact ⟨by rw [hPB'.out, e, ← hB]; rfl, e⟩
        have hSt := Tryd.Builder_String_any x.heap.size x.heap.size B y K.out.bd.bu K.out.bd.low.size
        clear hlt hB
        go_wp2_with (go_at_call 31; refine hSt.mono ?_; rintro e z6 ⟨rfl, H6⟩; have W6 : Hid (Fm w [(w.heap.size, #[.string ⟨#[]⟩], 9), (w.heap.size + 1, #[.int .i64 0], 25)] z6) := K2.out.below (K.out.bd.low.trans H6); have c0 := (W6.out.bx 0 _ _ _ rfl).c 0 _ rfl; have f0 := (W6.out.bx 0 _ _ _ rfl).fz 0; have c1 := ((two_mid W6.out ⟨B.toArray⟩).bx 1 _ _ _ rfl).c 0 _ rfl; have f1 := ((two_mid W6.out ⟨B.toArray⟩).bx 1 _ _ _ rfl).fz 0)
        have FF := two_set W6.out ⟨B.toArray⟩ 0
        have r1 := (FF.bx 0 _ _ _ rfl).c 0 _ rfl
        have r2 := (FF.bx 1 _ _ _ rfl).c 0 _ rfl
        have fin2 : Hid (Below w.heap.size w ((z6.setCell ⟨w.heap.size, 0, none⟩ (.string ⟨B.toArray⟩)).setCell ⟨w.heap.size + 1, 0, none⟩ (.int .i64 0))) := FF.low
        rw [fin.out.1, fin.out.2]
        refine leaves_cons (f := 25) (args := #[.pointer (some ⟨w.heap.size, 0, none⟩), .pointer (some ⟨w.heap.size + 1, 0, none⟩)]) (by simp) (by simp [go_sem]) ?_
        refine (restS _ _ _).mono ?_
        rintro e u' w' ⟨rfl, rfl, rfl⟩
        simp [Leaves, settle, results, Tryd.results11, go_sem, r1, r2]
        exact fin2
  · have h0 : checkR l = 1 := by unfold checkR; rw [if_neg (by omega), if_neg hall]
    have e1 : printE l = 1 := by unfold printE; rw [h0, if_pos (by decide)]
    have e2 : printB l = ⟨#[]⟩ := by unfold printB; rw [e1, if_neg (by decide)]
    have hN : Hid (∀ y, Below w.heap.size w y → Calls Tryd.prog 26 #[.slice sp n cap] y fun e w' => e = .panicked [{ v := pv, recovered := false }] ∧ Below y.heap.size y w') := fun y hb => by
      have := all_no y sp cap l (hlS y hb) (by omega) (show allM l = false by simpa using hall)
      rw [hn'] at this
      exact this
    rw [e1, e2, hn']
    replace hlS : Hid _ := hlS
    clear hbig hn hn' hall h0 e1 e2
    go_enter_defers Tryd.func11, Tryd.ntmps11
    go_wp2_with (go_at_call 26; refine (hN.out _ hS.out.low).mono ?_; rintro e y2 ⟨rfl, hb2⟩; have K2 : Hid (Fm w [(w.heap.size, #[.string ⟨#[]⟩], 9), (w.heap.size + 1, #[.int .i64 0], 25)] y2) := hS.out.below hb2; clear hb2)
    refine leaves_cons (f := 25) (args := #[.pointer (some ⟨w.heap.size, 0, none⟩), .pointer (some ⟨w.heap.size + 1, 0, none⟩)]) (by simp) (by simp [go_sem]) ?_
    refine (catchS w.heap.size (w.heap.size + 1) _ _ [] _ (K2.out.bx 0 _ _ _ rfl) (K2.out.bx 1 _ _ _ rfl) (by omega)).mono ?_
    rintro e u' w' ⟨rfl, rfl, rfl⟩
    have FF := two_set K2.out ⟨#[]⟩ 1
    have r1 := (FF.bx 0 _ _ _ rfl).c 0 _ rfl
    have r2 := (FF.bx 1 _ _ _ rfl).c 0 _ rfl
    have fin2 : Hid (Below w.heap.size w ((y2.setCell ⟨w.heap.size, 0, none⟩ (.string ⟨#[]⟩)).setCell ⟨w.heap.size + 1, 0, none⟩ (.int .i64 1))) := FF.low
    simp [Leaves, settle, results, Tryd.results11, go_sem, r1, r2]
    exact fin2
end Go.Proofs.YtoajmicdphffnaaDoor
