/- AsmTwo: the statement's own walk. -/
import Derived.Test.YthbdpceobnkflaaDoorJ33
import Derived.Test.YthbdpceobnkflaaDoorJ32
import Derived.Deep.CutRange
namespace Go.Proofs.YthbdpceobnkflaaDoor
open Go Go.RowKit
set_option linter.unusedVariables false
set_option maxHeartbeats 40000000
set_option maxRecDepth 20000

theorem own_emptyI (B : Nat) (w : World) (h : B ≤ w.heap.size) : OwnL 40 6 c6 B (w.alloc (.cells #[] 40)) (.slice (some ⟨w.heap.size, 0, none⟩) 0 0) [] := World.ownsRow_lit w #[] 0 h (by unfold maxLen; omega) rfl
/-- An item that names a place. -/
def atR (t : Int) : Ri := ⟨4, ⟨#[]⟩, t, ⟨#[]⟩, 0, none, 0, 0⟩
/-- What stands behind the two sources, whatever else is made. -/
structure Tw (sa : Option Addr) (A : List Itm) (sb : Option Addr) (R : List Itm) (o p : Oo) (b8 b11 : Nat) (z : World) : Prop where
  t : Tabs z
  la : LiesL 6 c6 z sa (A.map (·.1))
  ga : ∀ x ∈ A, LB8 z x.1.sp x.2 ∧ x.2.length = x.1.m
  lb : LiesL 6 c6 z sb (R.map (·.1))
  gb : ∀ x ∈ R, LB8 z x.1.sp x.2 ∧ x.2.length = x.1.m
  ho : Lco z o
  hp : Lco z p
  bo : Bx z b8 (oC o) 29
  bp : Bx z b11 (oC p) 29
/-- The three objects and the memory. -/
structure Tz (o p q : Oo) (b8 b11 b16 g : Nat) (z : World) : Prop where
  ho : Lo z o
  hp : Lo z p
  hq : Lo z q
  bo : Bx z b8 (oC o) 29
  bp : Bx z b11 (oC p) 29
  bq : Bx z b16 (oC q) 29
  m : Bx z g (rU (bytL q 0 65536)) 5
theorem Tz.below {o p q : Oo} {b8 b11 b16 g : Nat} {z z' : World} (h : Tz o p q b8 b11 b16 g z) (k : Below z.heap.size z z') : Tz o p q b8 b11 b16 g z' :=
  ⟨h.ho.below k, h.hp.below k, h.hq.below k, h.bo.below k, h.bp.below k, h.bq.below k, h.m.below k⟩
theorem ObA.sum_le {L : List Itm} {x : Oo} (h : ObA L x) : sumK x.B ≤ 268435456 := by
  have h1 := (h.h.end h.b h.l h.g).1
  have h2 := h.h.sz_le L.length (Nat.le_refl _)
  have h3 := h.h.few
  rw [h1] at h2
  have h4 : L.length * 65536 ≤ 4096 * 65536 := Nat.mul_le_mul_right _ h3
  omega
theorem assemble_two (w : World) (Tb : Hid (Tabs w)) (n : Nat) (L : List Itm) (hn : L.length = n) (hn2 : n ≤ 9223372036854775807) (hg : Hid (∀ x ∈ L, LB8 w x.1.sp x.2 ∧ x.2.length = x.1.m)) (sp : Option Addr) (cap : Nat) (y : World) (hy : Below w.heap.size w y) (hl : LiesL 6 c6 y sp (L.map (·.1))) :
    Calls Tryd.prog 8 #[.slice sp n cap] y (AsT y L) := by
  have := assemble_one y (Tb.out.below hy) sp cap L hl (fun x hx => ⟨(hg.out x hx).1.below hy, (hg.out x hx).2⟩) (by omega)
  rw [hn] at this
  exact this
theorem q_obj {C : World → Prop} {o : Oper} {a : Act} (b : Nat) (q : Oo) (x : Operand) (ho : o.op = .load 29 x) (hx : a.eval x = .pointer (some ⟨b, 0, none⟩)) (h : ∀ w, C w → Bx w b (oC q) 29) : ∀ w, C w → o.quietAt Tryd.prog a C w (.agg (oC q)) := q_load rtO b (oC q) h rfl x ho hx
theorem two_walk (w : World) (Tb : Hid (Tabs w)) (sa : Option Addr) (ca : Nat) (A : List Itm) (hla : Hid (LiesL 6 c6 w sa (A.map (·.1)))) (hga : Hid (∀ x ∈ A, LB8 w x.1.sp x.2 ∧ x.2.length = x.1.m)) (hna : A.length ≤ 140737488355328) (hma : ∀ x ∈ A, x.1.m ≤ 140737488355328)
    (sb : Option Addr) (cb : Nat) (B : List Itm) (hlb : Hid (LiesL 6 c6 w sb (B.map (·.1)))) (hgb : Hid (∀ x ∈ B, LB8 w x.1.sp x.2 ∧ x.2.length = x.1.m)) (hnb : B.length ≤ 140737488355328) (hmb : ∀ x ∈ B, x.1.m ≤ 140737488355328) (hcb : B.length ≤ cb) (t : Int) (ht : 0 ≤ t ∧ t ≤ 65535) :
    Calls Tryd.prog 5 #[.slice sa A.length ca, .slice sb B.length cb, .int .u16 t] w fun e w' => e = .returned (.bool true) ∧ Below w.heap.size w w' := by
  obtain ⟨nA, hA'⟩ : ∃ n, A.length = n := ⟨_, rfl⟩
  obtain ⟨nB, hB'⟩ : ∃ n, B.length = n := ⟨_, rfl⟩
  have hnn : Hid (A.length = nA ∧ B.length = nB) := ⟨hA', hB'⟩
  have hVa : Hid (Calls Tryd.prog 6 #[.slice sa nA ca] w (VsE w (A.map (·.1)))) := by
    have := vast14_any w sa ca (A.map fun x : Itm => x.1) hla (by rw [List.length_map]; exact hna) (fun r hr => by obtain ⟨x, hx, rfl⟩ := List.mem_map.1 hr; exact hma x hx)
    rw [List.length_map, hA'] at this
    exact this
  have hVb : Hid (∀ y, Below w.heap.size w y → Calls Tryd.prog 6 #[.slice sb nB cb] y (VsE y (B.map (·.1)))) := fun y hy => by
    have := vast14_any y sb cb (B.map fun x : Itm => x.1) (hlb.out.below hy) (by rw [List.length_map]; exact hnb) (fun r hr => by obtain ⟨x, hx, rfl⟩ := List.mem_map.1 hr; exact hmb x hx)
    rw [List.length_map, hB'] at this
    exact this
  have hAw : Hid (∀ y, Below w.heap.size w y → Calls Tryd.prog 7 #[] y fun e w' => e = .returned (.bool true) ∧ Hid (Below y.heap.size y w')) := fun y hy => awake14_any y (Tb.out.below hy)
  have hA1 : Hid (∀ y, Below w.heap.size w y → Calls Tryd.prog 8 #[.slice sa nA ca] y (AsT y A)) := fun y hy => assemble_two w Tb nA A hA' (by omega) hga sa ca y hy (hla.out.below hy)
  obtain ⟨R, hR⟩ : ∃ R : List Itm, R = (atR t, []) :: B := ⟨_, rfl⟩
  have hRR : Hid (R = (atR t, []) :: B) := hR
  have hgr : Hid (∀ x ∈ R, LB8 w x.1.sp x.2 ∧ x.2.length = x.1.m) := fun x hx => by
    rw [hR] at hx
    rcases List.mem_cons.1 hx with rfl | hx
    · exact ⟨fun j b hj => by simp at hj, rfl⟩
    · exact hgb.out x hx
  have hA2 : Hid (∀ sp cap y, Below w.heap.size w y → LiesL 6 c6 y sp (R.map (·.1)) → Calls Tryd.prog 8 #[.slice sp (nB + 1) cap] y (AsT y R)) := fun sp cap y hy hl => assemble_two w Tb (nB + 1) R (by rw [hR, List.length_cons, hB']) (by omega) hgr sp cap y hy hl
  rw [hA', hB']
  have nA1 : (nA : Int) ≤ 140737488355328 := by omega
  have nB1 : (nB : Int) ≤ 140737488355328 := by omega
  have wl : IntKind.i64.wrap ((nA : Int) + (nB : Int)) = (nA : Int) + (nB : Int) := by rw [IntKind.wrap_i64]; omega
  have wt : IntKind.i64.wrap t = t := by rw [IntKind.wrap_i64]; omega
  have hcb' : Hid (nB ≤ cb) := by rw [← hB']; exact hcb
  clear hna hma hnb hmb hA' hB' hR hcb
  go_enter Tryd.func5, Tryd.ntmps5
  go_wp2_with (go_at_call 6; refine hVa.out.mono ?_; rintro e y1 ⟨bb, rfl, H1⟩; clear hVa; refine stopAt ?_)
  cases bb
  case true =>
    refine Stop.go ?_
    go_wp2
    go_ret
    exact ⟨rfl, H1.out.1⟩
  refine Stop.go ?_
  go_wp2_with (go_at_call 6; refine (hVb.out _ H1.out.1).mono ?_; rintro e y2 ⟨bb, rfl, H2⟩; clear hVb; refine stopAt ?_)
  have K2 : Hid (Below w.heap.size w y2) := of_below H1.out.1 H2.out.1
  cases bb
  case true =>
    refine Stop.go ?_
    go_wp2
    go_ret
    exact ⟨rfl, K2.out⟩
  by_cases h8 : (8192 : Int) < (nA : Int) + (nB : Int)
  · refine Stop.go ?_
    go_wp2
    go_ret
    exact ⟨rfl, K2.out⟩
  have h8' : (nA : Int) + (nB : Int) ≤ 8192 := by omega
  have hPt : Hid (∀ y, Below w.heap.size w y → Calls Tryd.prog 16 #[.slice sb nB cb, .int .i64 0, .agg #[.int .u8 4, .string ⟨#[]⟩, .int .i64 t, .string ⟨#[]⟩, .int .u8 0, .slice none 0 0]] y fun e z => ∃ sp cap, e = .returned (.slice sp (nB + 1) cap) ∧ Hid (Below y.heap.size y z ∧ LiesL 6 c6 z sp (R.map (·.1)))) := fun y hy => by
    have hl := hlb.out.below hy
    have hle : (B.map (·.1)).length = nB := by rw [List.length_map]; exact hnn.out.2
    have := put_any y sb cb (B.map fun x : Itm => x.1) hl (by rw [hle]; exact hcb'.out) (by rw [hle]; omega) 0 (Nat.zero_le _) (atR t)
    rw [hle, List.take_zero, List.drop_zero, List.nil_append] at this
    refine this.mono fun e z h => ?_
    obtain ⟨sp, cap, rfl, h⟩ := h
    refine ⟨sp, cap, by rw [List.length_append, hle, Nat.add_comm]; rfl, h.out.1, ?_⟩
    rw [hRR.out]
    exact h.out.2
  clear h8
  refine Stop.go ?_
  go_wp2_with (first
    | (go_at_call 7; refine (hAw.out _ K2.out).mono ?_; rintro e y3 ⟨rfl, H3⟩; have K3 : Hid (Below w.heap.size w y3) := of_below K2.out H3.out; clear H3 hAw)
    | (go_at_call 16; refine (hPt.out _ K3.out).mono ?_; rintro e y4 ⟨sb2, cb2, rfl, H4⟩; clear hPt; have K4 : Hid (Below w.heap.size w y4) := of_below K3.out H4.out.1; have S4 : Hid (LiesL 6 c6 y4 sb2 (R.map (·.1))) := H4.out.2; clear H4)
    | (go_at_call 8; refine (hA1.out _ K4.out).mono ?_; rintro e y5 ⟨o, E1, k1, rfl, H5⟩; clear hA1; have K5 : Hid (Below w.heap.size w y5) := of_below K4.out H5.out.1)
    | ((with_reducible refine gen_world (y5.alloc (.cells #[.slice none 0 0, .slice none 0 0, .slice none 0 0] 29)) (fun y => Fm y5 [(y5.heap.size, oC zO, 29)] y) ?_ ?_); exact Fm.one _ _ _; intro y6 K6)
    | ((with_reducible refine at_st rtO y5.heap.size (oC zO) (oC o) ?_ ?_ ?_ ?_ (.tmp 8) (.tmp 46) ?_ ?_ ?_ ?_ ?_); exact K6.out.bx 0 _ _ _ rfl; rfl; rfl; exact oneO _; rfl; rfl; rfl; rfl; intro y7 hw7; have K7 : Hid (Fm y5 [(y5.heap.size, oC o, 29)] y7) := K6.out.put 0 _ _ _ _ rfl hw7.out; clear hw7 K6; have L7 : Hid (Below w.heap.size w y7 ∧ Below y4.heap.size y4 y7) := ⟨of_below K5.out K7.out.low, of_below H5.out.1 K7.out.low⟩)
    | (go_at_call 8; refine (hA2.out sb2 cb2 _ L7.out.1 (S4.out.below L7.out.2)).mono ?_; rintro e y8 ⟨p, E2, k2, rfl, H8⟩; clear hA2; have K8 : Hid (Below w.heap.size w y8) := of_below L7.out.1 H8.out.1)
    | ((with_reducible refine gen_world (y8.alloc (.cells #[.slice none 0 0, .slice none 0 0, .slice none 0 0] 29)) (fun y => Fm y8 [(y8.heap.size, oC zO, 29)] y) ?_ ?_); exact Fm.one _ _ _; intro y9 K9)
    | ((with_reducible refine at_st rtO y8.heap.size (oC zO) (oC p) ?_ ?_ ?_ ?_ (.tmp 11) (.tmp 52) ?_ ?_ ?_ ?_ ?_); exact K9.out.bx 0 _ _ _ rfl; rfl; rfl; exact oneO _; rfl; rfl; rfl; rfl; intro y10 hw10; have K10 : Hid (Fm y8 [(y8.heap.size, oC p, 29)] y10) := K9.out.put 0 _ _ _ _ rfl hw10.out; clear hw10 K9; refine stopAt ?_))
  have low10 : Hid (Below w.heap.size w y10) := of_below K8.out K10.out.low
  rcases H5.out.2 with ⟨hE, rfl⟩ | ⟨rfl, hLc, hOk, hB, hM, hL⟩
  · have e0 : (E1 != 0) = true := by rw [bne_iff_ne]; exact hE
    clear hE
    refine Stop.go ?_
    go_wp2
    go_ret
    exact ⟨rfl, low10.out⟩
  have hO : Hid (ObA A o) := ⟨hOk, hB, hM, hL, fun q hq => (hLc.lo.g q hq).2⟩
  have hOl : Hid (Lco y5 o) := hLc
  clear hLc hOk hB hM hL
  rcases H8.out.2 with ⟨hE, rfl⟩ | ⟨rfl, hLc, hOk, hB, hM, hL⟩
  · have e0 : (E2 != 0) = true := by rw [bne_iff_ne]; exact hE
    clear hE
    refine Stop.go ?_
    go_wp2
    go_ret
    exact ⟨rfl, low10.out⟩
  have hP : Hid (ObA R p) := ⟨hOk, hB, hM, hL, fun q hq => (hLc.lo.g q hq).2⟩
  have b810 : Hid (Below y8.heap.size y8 y10) := K10.out.low
  have b710 : Hid (Below y7.heap.size y7 y10) := of_below H8.out.1 b810.out
  have b510 : Hid (Below y5.heap.size y5 y10) := of_below K7.out.low b710.out
  have b410 : Hid (Below y4.heap.size y4 y10) := of_below H5.out.1 b510.out
  have Z0 : Hid (Tw sa A sb2 R o p y5.heap.size y8.heap.size y10) := ⟨Tb.out.below low10.out, hla.out.below low10.out, fun x hx => ⟨(hga.out x hx).1.below low10.out, (hga.out x hx).2⟩, S4.out.below b410.out, fun x hx => ⟨(hgr.out x hx).1.below low10.out, (hgr.out x hx).2⟩, hOl.out.below b510.out, hLc.below b810.out, (K7.out.bx 0 _ _ _ rfl).below b710.out, K10.out.bx 0 _ _ _ rfl⟩
  clear hLc hOk hB hM hL hOl b410 b510 b710 b810 K10 K7 L7 H8 H5 S4 K4 K3 K2 H2 H1 K5 K8
  have hla9 : Hid (LiesL 6 c6 y10 sa (A.map (·.1))) := Z0.out.la
  refine Stop.go ?_
  go_wp2
  go_loopw [14, 15] (fun s u wz => ∃ (f : Bool) (i : Nat), y10 = wz ∧ s = .bool f ∧ u = .int .i64 (i : Int) ∧ Hid (i ≤ nA ∧ (f = true → ∀ x ∈ A.take i, x.1.k ≠ 4))) (fun _ u _ => (nA - intOf u).toNat)
  case atStart => exact ⟨true, 0, rfl, rfl, rfl, Nat.zero_le _, fun _ x hx => by simp at hx⟩
  case round =>
    obtain ⟨f, i, rfl, rfl, rfl, J⟩ := hrel
    by_cases hlt : i < nA
    · obtain ⟨x, hx⟩ : ∃ x, A[i]? = some x := ⟨_, List.getElem?_eq_getElem (by rw [hnn.out.1]; exact hlt)⟩
      obtain ⟨gi, oi, rfl, hcx⟩ := hla9.out i x.1 (by rw [List.getElem?_map, hx]; rfl)
      have c0 := hcx 0 (.int .u8 x.1.k) rfl
      rw [Nat.add_zero] at c0
      have ij := fun w => idxP (P := Tryd.prog) (g := gi) (off := oi) (len := nA) (cap := ca) Tryd.underlying22 (s := 6) (by kernel_rfl) .i64 i w hlt
      have hii : (i : Int) < nA := by omega
      have hlt' : Hid (i < nA) := hlt
      obtain ⟨q, hq⟩ : ∃ q, (x.1.k != 4) = q := ⟨_, rfl⟩
      have J9 : Hid ((i + 1 ≤ nA ∧ (false = true → ∀ x ∈ A.take (i + 1), x.1.k ≠ 4)) ∧ (f = true → i + 1 ≤ nA ∧ (q = true → ∀ x ∈ A.take (i + 1), x.1.k ≠ 4))) := by
        refine ⟨⟨hlt, fun e => by cases e⟩, fun hf => ⟨hlt, fun hq2 y hy => ?_⟩⟩
        rw [List.take_add_one, hx] at hy
        rcases List.mem_append.1 hy with hy | hy
        · exact J.out.2 hf y hy
        · simp at hy
          subst hy
          rw [← hq, bne_iff_ne] at hq2
          exact hq2
      clear hlt hx hcx J
      cases f
      · go_wp2
        go_roundw
        case rel => exact ⟨false, i + 1, by simp, by simp, by simp, J9.out.1⟩
        case measure => have := hlt'.out; simp [intOf]; omega
      · go_wp2
        go_roundw
        case rel => exact ⟨q, i + 1, by simp, by simp, by simp, J9.out.2 rfl⟩
        case measure => have := hlt'.out; simp [intOf]; omega
    · have hie : i = nA := by have := J.out.1; omega
      subst hie
      obtain ⟨nb, hnb⟩ : ∃ q, o.B.length = q := ⟨_, rfl⟩
      obtain ⟨bp, hbp⟩ : ∃ q, o.bp = q := ⟨_, rfl⟩
      obtain ⟨bc, hbc⟩ : ∃ q, o.bc = q := ⟨_, rfl⟩
      have e0 := Z0.out.bo.c 0 (.slice o.bp o.B.length o.bc) rfl
      rw [hbp, hnb, hbc] at e0
      have hlo : Hid (LiesL 2 cK y10 bp (o.B.map (·.1))) := by rw [← hbp]; exact Z0.out.ho.lo.b
      have hnb' : Hid (o.B.length = nb) := hnb
      have hfr : Hid (f = true → o.B.length ≤ 1 ∧ ∀ b ∈ o.B, b.1.a = 0) := fun hf => hO.out.whole fun x hx => J.out.2 hf x (by rw [List.take_of_length_le (by rw [hnn.out.1]; exact Nat.le_refl _)]; exact hx)
      clear hlt J hnb hbp hbc
      go_upto_region 14 with (fail)
      go_cut [101] from 81 to 101 (fun b wz => y10 = wz ∧ b = .bool false)
      case first =>
        cases f
        · go_wp2
          go_meet
          exact ⟨rfl, rfl⟩
        · obtain ⟨h1, h0⟩ := hfr.out rfl
          rw [hnb'.out] at h1
          have hc : nb = 0 ∨ nb = 1 := by omega
          rcases hc with rfl | rfl
          · clear h1 h0
            go_wp2
            go_meet
            exact ⟨rfl, rfl⟩
          · obtain ⟨x, hx⟩ : ∃ x, o.B[0]? = some x := ⟨_, List.getElem?_eq_getElem (by rw [hnb'.out]; decide)⟩
            obtain ⟨gi, oi, rfl, hcx⟩ := hlo.out 0 x.1 (by rw [List.getElem?_map, hx]; rfl)
            have c0 := hcx 0 (.int .i64 x.1.a) rfl
            rw [h0 x (List.mem_of_getElem? hx), Nat.zero_mul, Nat.add_zero] at c0
            have ij : ∀ w, (Instr.indexAt 25 (.slice (some ⟨gi, oi, none⟩) 1 bc) (.int .i64 0)).run Tryd.prog w = .ok (.pointer (some ⟨gi, oi, none⟩)) w := fun w => by
              have := idxP (P := Tryd.prog) (g := gi) (off := oi) (len := 1) (cap := bc) Tryd.underlying25 (s := 2) (by kernel_rfl) .i64 0 w (by decide)
              exact this
            clear h1 h0 hx hcx
            go_wp2
            go_meet
            exact ⟨rfl, rfl⟩
      case rest =>
        obtain ⟨rfl, rfl⟩ := hcut
        clear e0 hlo hnb' hfr
        have O0 : Hid (OwnL 40 6 c6 y10.heap.size (y10.alloc (.cells #[] 40)) (.slice (some ⟨y10.heap.size, 0, none⟩) 0 0) [] ∧ Below y10.heap.size y10 (y10.alloc (.cells #[] 40))) := ⟨own_emptyI _ _ (Nat.le_refl _), below1 _ _⟩
        have hA3 : Hid (∀ v u, OwnL 40 6 c6 y10.heap.size u v ([] ++ A.map (·.1) ++ R.map (·.1)) → Below y10.heap.size y10 u → Calls Tryd.prog 8 #[v] u (AsT u (A ++ R))) := fun v u hv hu => by
          obtain ⟨sp, cap, rfl, h9, _⟩ := hv.open kIt.len
          rw [List.nil_append, ← List.map_append] at h9 ⊢
          have := assemble_one u (Z0.out.t.below hu) sp cap (A ++ R) h9 (fun x hx => by
            rcases List.mem_append.1 hx with hx | hx
            · exact ⟨(Z0.out.ga x hx).1.below hu, (Z0.out.ga x hx).2⟩
            · exact ⟨(Z0.out.gb x hx).1.below hu, (Z0.out.gb x hx).2⟩) (by rw [List.length_append, hnn.out.1, hRR.out, List.length_cons, hnn.out.2]; omega)
          rw [List.length_map]
          exact this
        have hns : Hid ((A.map (·.1)).length = i ∧ (R.map (·.1)).length = nB + 1 ∧ i + nB ≤ 8192) := ⟨by rw [List.length_map]; exact hnn.out.1, by rw [List.length_map, hRR.out, List.length_cons, hnn.out.2], by omega⟩
        go_wp2_with (first
          | (at_builtin; refine at_appA kIt rfl (.tmp 103) (.tmp 104) rfl y10.heap.size (.slice (some ⟨y10.heap.size, 0, none⟩) 0 0) [] rfl O0.out.1 sa i ca (A.map (·.1)) ?_ rfl (Z0.out.la.below O0.out.2) ?_ ?_ ?_; exact hns.out.1; (have := hns.out; simp; omega); (simp); intro v1 u1 H1; have P1 : Hid (OwnL 40 6 c6 y10.heap.size u1 v1 ([] ++ A.map (·.1)) ∧ Below y10.heap.size y10 u1) := ⟨H1.out.own, O0.out.2.trans H1.out.cu.low⟩; clear H1 O0)
          | (at_builtin; refine at_appA kIt rfl (.tmp 105) (.tmp 106) rfl y10.heap.size v1 ([] ++ A.map (·.1)) rfl P1.out.1 sb2 (nB + 1) cb2 (R.map (·.1)) ?_ rfl (Z0.out.lb.below P1.out.2) ?_ ?_ ?_; exact hns.out.2.1; (have h7 := hns.out; have h6 := hnn.out.1; simp; omega); (exact P1.out.2.size); intro v2 u2 H2; have P2 : Hid (OwnL 40 6 c6 y10.heap.size u2 v2 ([] ++ A.map (·.1) ++ R.map (·.1)) ∧ Below y10.heap.size y10 u2) := ⟨H2.out.own, P1.out.2.trans H2.out.cu.low⟩; clear H2)
          | (go_at_call 8; refine (hA3.out _ _ P2.out.1 P2.out.2).mono ?_; rintro e u3 ⟨q, E3, k3, rfl, H3⟩; clear hA3; have K3 : Hid (Below y10.heap.size y10 u3) := of_below P2.out.2 H3.out.1)
          | ((with_reducible refine gen_world (u3.alloc (.cells #[.slice none 0 0, .slice none 0 0, .slice none 0 0] 29)) (fun y => Fm u3 [(u3.heap.size, oC zO, 29)] y) ?_ ?_); exact Fm.one _ _ _; intro u4 K4)
          | ((with_reducible refine at_st rtO u3.heap.size (oC zO) (oC q) ?_ ?_ ?_ ?_ (.tmp 16) (.tmp 109) ?_ ?_ ?_ ?_ ?_); exact K4.out.bx 0 _ _ _ rfl; rfl; rfl; exact oneO _; rfl; rfl; rfl; rfl; intro u5 hw5; have K5 : Hid (Fm u3 [(u3.heap.size, oC q, 29)] u5) := K4.out.put 0 _ _ _ _ rfl hw5.out; clear hw5 K4; refine stopAt ?_))
        have b5 : Hid (Below y10.heap.size y10 u5) := of_below K3.out K5.out.low
        rcases H3.out.2 with ⟨hE, rfl⟩ | ⟨rfl, hLc, hOk, hB, hM, hL⟩
        · have c0 := (K5.out.bx 0 _ _ _ rfl).c 0 (.slice none 0 0) rfl
          have c2 := (K5.out.bx 0 _ _ _ rfl).c 2 (.slice none 0 0) rfl
          have e0 : (E3 != 0) = true := by rw [bne_iff_ne]; exact hE
          clear hE
          refine Stop.go ?_
          go_wp2
          go_ret
          exact ⟨rfl, of_below low10.out b5.out⟩
        · have hQ : Hid (ObA (A ++ R) q) := ⟨hOk, hB, hM, hL, fun q hq => (hLc.lo.g q hq).2⟩
          have hTw : Hid (TwoE A R o p q) := by
            have h9 := hP.out
            have h8 := hQ.out
            rw [hRR.out] at h9 h8
            have := two_all (x0 := (atR t, [])) rfl hO.out h9 h8
            rw [hRR.out]
            exact this
          have hBy : Hid (∀ v, Below u5.heap.size u5 v → Calls Tryd.prog 9 #[.agg (oC q), .int .i64 0, .int .i64 65536] v (MmE v (bytL q 0 65536))) := fun v hv => bytes_all hQ.out.h hQ.out.b hQ.out.m hQ.out.l v (Z0.out.t.below (of_below b5.out hv)) (hLc.below (of_below K5.out.low hv))
          have hQl : Hid (Lco u5 q) := hLc.below K5.out.low
          clear hLc hOk hB hM hL
          refine Stop.go ?_
          go_wp2_with (first
            | ((with_reducible refine at_load rtO u3.heap.size (oC q) ?_ ?_ (.tmp 16) ?_ ?_ ?_ ?_); exact K5.out.bx 0 _ _ _ rfl; rfl; (first | rfl | kernel_rfl); rfl; rfl)
            | (go_at_call 9; refine (hBy.out _ (Below.refl _ _)).mono ?_; rintro e z ⟨g, rfl, H6⟩; clear hBy))
          have bz : Hid (Below y10.heap.size y10 z) := of_below b5.out H6.out.1
          have Z : Hid (Tz o p q y5.heap.size y8.heap.size u3.heap.size g z) := ⟨(Z0.out.ho.below bz.out).lo, (Z0.out.hp.below bz.out).lo, (hQl.out.below H6.out.1).lo, Z0.out.bo.below bz.out, Z0.out.bp.below bz.out, (K5.out.bx 0 _ _ _ rfl).below H6.out.1, H6.out.2⟩
          obtain ⟨SO, hSO⟩ : ∃ S, sumK o.B = S := ⟨_, rfl⟩
          obtain ⟨SP, hSP⟩ : ∃ S, sumK p.B = S := ⟨_, rfl⟩
          obtain ⟨SQ, hSQ⟩ : ∃ S, sumK q.B = S := ⟨_, rfl⟩
          obtain ⟨nO, hnO⟩ : ∃ S, o.L.length = S := ⟨_, rfl⟩
          obtain ⟨nP, hnP⟩ : ∃ S, p.L.length = S := ⟨_, rfl⟩
          obtain ⟨nQ, hnQ⟩ : ∃ S, q.L.length = S := ⟨_, rfl⟩
          have hC1 : Hid (∀ u, Below z.heap.size z u → Calls Tryd.prog 18 #[.agg (oC o)] u fun e w' => e = .returned (.int .i64 (SO : Int)) ∧ Hid (Below u.heap.size u w')) := fun u hu => by rw [← hSO]; exact count_any u o (Z.out.below hu).ho
          have hC2 : Hid (∀ u, Below z.heap.size z u → Calls Tryd.prog 18 #[.agg (oC p)] u fun e w' => e = .returned (.int .i64 (SP : Int)) ∧ Hid (Below u.heap.size u w')) := fun u hu => by rw [← hSP]; exact count_any u p (Z.out.below hu).hp
          have hC3 : Hid (∀ u, Below z.heap.size z u → Calls Tryd.prog 18 #[.agg (oC q)] u fun e w' => e = .returned (.int .i64 (SQ : Int)) ∧ Hid (Below u.heap.size u w')) := fun u hu => by rw [← hSQ]; exact count_any u q (Z.out.below hu).hq
          have hc2 : Hid (∀ u, Below z.heap.size z u → u.cell? ⟨u3.heap.size, 2, none⟩ = some (.slice q.lp nQ q.lc) ∧ u.cell? ⟨y5.heap.size, 2, none⟩ = some (.slice o.lp nO o.lc) ∧ u.cell? ⟨y8.heap.size, 2, none⟩ = some (.slice p.lp nP p.lc)) := fun u hu => by
            have h9 := Z.out.below hu
            rw [← hnO, ← hnP, ← hnQ]
            exact ⟨h9.bq.c 2 _ rfl, h9.bo.c 2 _ rfl, h9.bp.c 2 _ rfl⟩
          have hS1 : Hid (∀ u, Below z.heap.size z u → Calls Tryd.prog 19 #[.agg (oC o), .slice (some ⟨g, 0, none⟩) 65536 65536] u fun e w' => e = .returned (.bool true) ∧ Hid (Below u.heap.size u w')) := fun u hu => stands_true u o (Z.out.below hu).ho g _ (Z.out.below hu).m hTw.out.a
          have hS2 : Hid (∀ u, Below z.heap.size z u → Calls Tryd.prog 19 #[.agg (oC p), .slice (some ⟨g, 0, none⟩) 65536 65536] u fun e w' => e = .returned (.bool true) ∧ Hid (Below u.heap.size u w')) := fun u hu => stands_true u p (Z.out.below hu).hp g _ (Z.out.below hu).m hTw.out.b
          have w1 : IntKind.i64.wrap ((SO : Int) + (SP : Int)) = (SO : Int) + (SP : Int) := by
            have h1 := hO.out.sum_le
            have h2 := hP.out.sum_le
            rw [IntKind.wrap_i64]; omega
          have w2 : IntKind.i64.wrap ((nO : Int) + (nP : Int)) = (nO : Int) + (nP : Int) := by
            have h1 := Z.out.ho.n.2.2
            have h2 := Z.out.hp.n.2.2
            rw [IntKind.wrap_i64]; omega
          have eS : (SQ : Int) = (SO : Int) + (SP : Int) := by have := hTw.out.c; omega
          have eN : (nQ : Int) = (nO : Int) + (nP : Int) := by have := hTw.out.l; omega
          have q1 : ((SQ : Int) != (SO : Int) + (SP : Int)) = false := by rw [eS]; simp
          have q2 : ((nQ : Int) != (nO : Int) + (nP : Int)) = false := by rw [eN]; simp
          clear hSO hSP hSQ hnO hnP hnQ eS eN H6
          refine wp_region_quiet (C := fun x => Below z.heap.size z x) (by kernel_rfl) (by kernel_rfl) ⟨rfl, rfl, rfl, Nat.le_refl _, fun _ _ => rfl⟩ ?_
          simp only []
          with_reducible refine quiet_one (.int .i64 0) ?_ ?_ ?_
          · kernel_rfl
          · intro u9 hy
            go_simp
          with_reducible refine quiet_one (.bool false) ?_ ?_ ?_
          · kernel_rfl
          · intro u9 hy
            go_simp
          with_reducible refine quiet_one (.bool false) ?_ ?_ ?_
          · kernel_rfl
          · intro u9 hy
            go_simp
          with_reducible refine quiet_one (.slice (some ⟨g, 0, none⟩) 65536 65536) ?_ ?_ ?_
          · kernel_rfl
          · intro u9 hy
            go_simp
          with_reducible refine quiet_one (.int .i64 65536) ?_ ?_ ?_
          · kernel_rfl
          · intro u9 hy
            go_simp
          with_reducible refine quiet_one (.bool false) ?_ ?_ ?_
          · kernel_rfl
          · intro u9 hy
            go_simp
          with_reducible refine quiet_one (.bool false) ?_ ?_ ?_
          · kernel_rfl
          · intro u9 hy
            go_simp
          with_reducible refine quiet_one (.bool false) ?_ ?_ ?_
          · kernel_rfl
          · intro u9 hy
            go_simp
          with_reducible refine quiet_one (.agg (oC q)) ?_ ?_ ?_
          · kernel_rfl
          · with_reducible refine q_obj u3.heap.size q (.tmp 16) ?_ ?_ ?_
            · rfl
            · kernel_rfl
            · intro u hu
              exact (Z.out.below hu).bq
          with_reducible refine quiet_one (.int .i64 (SQ : Int)) ?_ ?_ ?_
          · kernel_rfl
          · intro u9 hy
            have d := (hC3.out u9 hy).mono fun e w' (h : _ ∧ _) => And.intro h.1 (Below.trans hy (h.2.out.mono hy.size))
            go_simp
            all_goals exact d
          with_reducible refine quiet_one (.agg (oC o)) ?_ ?_ ?_
          · kernel_rfl
          · with_reducible refine q_obj y5.heap.size o (.tmp 8) ?_ ?_ ?_
            · rfl
            · kernel_rfl
            · intro u hu
              exact (Z.out.below hu).bo
          with_reducible refine quiet_one (.int .i64 (SO : Int)) ?_ ?_ ?_
          · kernel_rfl
          · intro u9 hy
            have d := (hC1.out u9 hy).mono fun e w' (h : _ ∧ _) => And.intro h.1 (Below.trans hy (h.2.out.mono hy.size))
            go_simp
            all_goals exact d
          with_reducible refine quiet_one (.agg (oC p)) ?_ ?_ ?_
          · kernel_rfl
          · with_reducible refine q_obj y8.heap.size p (.tmp 11) ?_ ?_ ?_
            · rfl
            · kernel_rfl
            · intro u hu
              exact (Z.out.below hu).bp
          with_reducible refine quiet_one (.int .i64 (SP : Int)) ?_ ?_ ?_
          · kernel_rfl
          · intro u9 hy
            have d := (hC2.out u9 hy).mono fun e w' (h : _ ∧ _) => And.intro h.1 (Below.trans hy (h.2.out.mono hy.size))
            go_simp
            all_goals exact d
          with_reducible refine quiet_one (.int .i64 ((SO : Int) + (SP : Int))) ?_ ?_ ?_
          · kernel_rfl
          · intro u9 hy
            go_simp
          with_reducible refine quiet_one (.bool false) ?_ ?_ ?_
          · kernel_rfl
          · intro u9 hy
            go_simp
          with_reducible refine quiet_one (.bool false) ?_ ?_ ?_
          · kernel_rfl
          · intro u9 hy
            go_simp
          with_reducible refine quiet_one (.bool false) ?_ ?_ ?_
          · kernel_rfl
          · intro u9 hy
            go_simp
          with_reducible refine quiet_one (.pointer (some ⟨u3.heap.size, 2, none⟩)) ?_ ?_ ?_
          · kernel_rfl
          · intro u9 hy
            go_simp
          with_reducible refine quiet_one (.slice q.lp nQ q.lc) ?_ ?_ ?_
          · kernel_rfl
          · intro u9 hy
            have x := hc2.out u9 hy; have x1 := x.1; have x2 := x.2.1; have x3 := x.2.2; clear x; go_simp
          with_reducible refine quiet_one (.int .i64 (nQ : Int)) ?_ ?_ ?_
          · kernel_rfl
          · intro u9 hy
            go_simp
          with_reducible refine quiet_one (.pointer (some ⟨y5.heap.size, 2, none⟩)) ?_ ?_ ?_
          · kernel_rfl
          · intro u9 hy
            go_simp
          with_reducible refine quiet_one (.slice o.lp nO o.lc) ?_ ?_ ?_
          · kernel_rfl
          · intro u9 hy
            have x := hc2.out u9 hy; have x1 := x.1; have x2 := x.2.1; have x3 := x.2.2; clear x; go_simp
          with_reducible refine quiet_one (.int .i64 (nO : Int)) ?_ ?_ ?_
          · kernel_rfl
          · intro u9 hy
            go_simp
          with_reducible refine quiet_one (.pointer (some ⟨y8.heap.size, 2, none⟩)) ?_ ?_ ?_
          · kernel_rfl
          · intro u9 hy
            go_simp
          with_reducible refine quiet_one (.slice p.lp nP p.lc) ?_ ?_ ?_
          · kernel_rfl
          · intro u9 hy
            have x := hc2.out u9 hy; have x1 := x.1; have x2 := x.2.1; have x3 := x.2.2; clear x; go_simp
          with_reducible refine quiet_one (.int .i64 (nP : Int)) ?_ ?_ ?_
          · kernel_rfl
          · intro u9 hy
            go_simp
          with_reducible refine quiet_one (.int .i64 ((nO : Int) + (nP : Int))) ?_ ?_ ?_
          · kernel_rfl
          · intro u9 hy
            go_simp
          with_reducible refine quiet_one (.bool false) ?_ ?_ ?_
          · kernel_rfl
          · intro u9 hy
            go_simp
          with_reducible refine quiet_one (.bool false) ?_ ?_ ?_
          · kernel_rfl
          · intro u9 hy
            go_simp
          refine wpQuiet_nil ?_
          intro z1 hz1
          have V1 : Hid (Below z.heap.size z z1) := hz1
          clear hz1 hC1 hC2 hC3 hc2
          go_simp
          go_wp2_with (first
            | ((with_reducible refine at_load rtO y5.heap.size (oC o) ?_ ?_ (.tmp 8) ?_ ?_ ?_ ?_); exact (Z.out.below V1.out).bo; rfl; (first | rfl | kernel_rfl); rfl; rfl)
            | (go_at_call 19; refine (hS1.out _ V1.out).mono ?_; rintro e z2 ⟨rfl, H7⟩; have V2 : Hid (Below z.heap.size z z2) := of_below V1.out H7.out; clear H7 hS1)
            | ((with_reducible refine at_load rtO y8.heap.size (oC p) ?_ ?_ (.tmp 11) ?_ ?_ ?_ ?_); exact (Z.out.below V2.out).bp; rfl; (first | rfl | kernel_rfl); rfl; rfl)
            | (go_at_call 19; refine (hS2.out _ V2.out).mono ?_; rintro e z3 ⟨rfl, H8⟩; have V3 : Hid (Below z.heap.size z z3) := of_below V2.out H8.out; clear H8 hS2))
          go_ret
          exact ⟨rfl, of_below low10.out (of_below bz.out V3.out)⟩
end Go.Proofs.YthbdpceobnkflaaDoor
