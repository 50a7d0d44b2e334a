/- A source with one item more: what its object is, by plain mathematics. The statements' own: a source with one item more. -/
import Derived.Test.YthbdpceobnkflaaDoorJ24
import Derived.Test.YthbdpceobnkflaaDoorJ17
import Derived.Test.YthbdpceobnkflaaDoorJ23
namespace Go.Proofs.YthbdpceobnkflaaDoor
open Go Go.RowKit
set_option linter.unusedVariables false
set_option maxHeartbeats 3000000
set_option maxRecDepth 20000

/-- An item that names a place; a label. -/
def atM (t : Int) : Ri := ⟨4, ⟨#[]⟩, t, ⟨#[]⟩, 0, none, 0, 0⟩
def lbM (s : ByteArray) : Ri := ⟨1, s, 0, ⟨#[]⟩, 0, none, 0, 0⟩
theorem may_atM {t : Int} (h0 : 0 ≤ t) (h1 : t ≤ 65535) : mayI (atM t) = true := by
  rw [may4 rfl]
  show (decide (0 ≤ t) && decide (t ≤ 65535) && emptyI (rA (atM t))) = true
  rw [decide_eq_true h0, decide_eq_true h1]
  rfl
theorem may_lbM {s : ByteArray} (h : isNm s = true) : mayI (lbM s) = true := by
  rw [may1 rfl]
  show (isNm s && emptyI (rN (lbM s))) = true
  rw [h]
  rfl
theorem check_ok {l : List Ri} (h1 : l.length ≤ 4096) (h2 : ∀ r ∈ l, mayI r = true) : checkE l = 0 := by
  have hb : badI l = none := by
    unfold badI
    rw [List.findIdx?_eq_none_iff]
    intro r hr
    rw [h2 r hr]
    rfl
  unfold checkE
  rw [if_neg (by omega), hb]
  rfl
theorem lay_app : ∀ (l m : List Ri) (s : Sh) (i : Nat), layE s l i = none → layE s (l ++ m) i = layE (layS s l) m (i + l.length)
  | [], m, s, i, _ => rfl
  | r :: l, m, s, i, h => by
    obtain ⟨h0, h1⟩ := lay_cons h
    show (if stE s r = 0 then layE (stS s r) (l ++ m) (i + 1) else some (stE s r, i)) = layE (layS (stS s r) l) m (i + (l.length + 1))
    rw [if_pos h0, lay_app l m _ _ h1, show i + 1 + l.length = i + (l.length + 1) from by omega]
theorem lay_left : ∀ (l m : List Ri) (s : Sh) (i : Nat), layE s (l ++ m) i = none → layE s l i = none
  | [], m, s, i, _ => rfl
  | r :: l, m, s, i, h => by
    obtain ⟨h0, h1⟩ := lay_cons (l := l ++ m) h
    show (if stE s r = 0 then layE (stS s r) l (i + 1) else some (stE s r, i)) = none
    rw [if_pos h0]
    exact lay_left l m _ _ h1
theorem lay_shift : ∀ (l : List Ri) (s : Sh) (i j : Nat), layE s l i = none → layE s l j = none
  | [], s, i, j, _ => rfl
  | r :: l, s, i, j, h => by
    obtain ⟨h0, h1⟩ := lay_cons h
    show (if stE s r = 0 then layE (stS s r) l (j + 1) else some (stE s r, j)) = none
    rw [if_pos h0]
    exact lay_shift l _ _ _ h1
theorem fil_all (N : List (ByteArray × Nat)) : ∀ (Z : List (Itm × Nat)) (i : Nat), (∀ z ∈ Z, flE N z.2 z.1.1 = 0) → filE N Z i = none
  | [], i, _ => rfl
  | y :: Z, i, h => by
    show (if flE N y.2 y.1.1 = 0 then filE N Z (i + 1) else some (flE N y.2 y.1.1, i)) = none
    rw [if_pos (h y (by simp))]
    exact fil_all N Z _ fun z hz => h z (by simp [hz])
theorem filM_app (N : List (ByteArray × Nat)) : ∀ (Z Y : List (Itm × Nat)) (M : List UInt8), filM N M (Z ++ Y) = filM N (filM N M Z) Y
  | [], Y, M => rfl
  | z :: Z, Y, M => filM_app N Z Y (splice M z.2 (flB N z.1))
theorem filM_same {N N' : List (ByteArray × Nat)} : ∀ (Z : List (Itm × Nat)) (M : List UInt8), (∀ z ∈ Z, flB N' z.1 = flB N z.1) → filM N' M Z = filM N M Z
  | [], M, _ => rfl
  | z :: Z, M, h => by
    show filM N' (splice M z.2 (flB N' z.1)) Z = filM N (splice M z.2 (flB N z.1)) Z
    rw [h z (by simp), filM_same Z _ fun y hy => h y (by simp [hy])]
theorem zip_two (A D : List Itm) : zipP (A ++ D) = A.zip (plcs sh0 (A.map (·.1))) ++ D.zip (plcs (layS sh0 (A.map (·.1))) (D.map (·.1))) := by
  unfold zipP
  rw [List.map_append, plcs_app]
  exact List.zip_append (by rw [plcs_len, List.length_map])
theorem zip_mid (A : List Itm) (x : Itm) (D : List Itm) (h : (stS (layS sh0 (A.map (·.1))) x.1).p = (layS sh0 (A.map (·.1))).p) : zipP (A ++ x :: D) = A.zip (plcs sh0 (A.map (·.1))) ++ (x, (layS sh0 (A.map (·.1))).p) :: D.zip (plcs (layS sh0 (A.map (·.1))) (D.map (·.1))) := by
  rw [zip_two]
  show _ ++ (x, (layS sh0 (A.map (·.1))).p) :: D.zip (plcs (stS (layS sh0 (A.map (·.1))) x.1) (D.map (·.1))) = _
  rw [plcs_same _ _ _ h]
theorem mem_zipD {A D : List Itm} {z : Itm × Nat} (h : z ∈ A.zip (plcs sh0 (A.map (·.1))) ++ D.zip (plcs (layS sh0 (A.map (·.1))) (D.map (·.1)))) : z.1 ∈ A ++ D := by
  rcases List.mem_append.1 h with h | h
  · exact List.mem_append_left _ (List.of_mem_zip h).1
  · exact List.mem_append_right _ (List.of_mem_zip h).1
section
variable {A D : List Itm} (H : AsmOk (A ++ D))
include H
theorem AsmOk.left : layE sh0 (A.map (·.1)) 0 = none := by
  have := H.l
  rw [List.map_append] at this
  exact lay_left _ _ _ _ this
theorem AsmOk.right : layE (layS sh0 (A.map (·.1))) (D.map (·.1)) (A.map (·.1)).length = none := by
  have := H.l
  rw [List.map_append, lay_app _ _ _ _ H.left, Nat.zero_add] at this
  exact this
theorem AsmOk.chk (hl : (A ++ D).length < 4096) (x : Itm) (hx : mayI x.1 = true) : checkE ((A ++ x :: D).map (·.1)) = 0 := by
  have hm := H.all
  refine check_ok (by rw [List.length_map, List.length_append, List.length_cons]; rw [List.length_append] at hl; omega) fun r hr => ?_
  rw [List.map_append, List.map_cons] at hr
  rw [List.map_append] at hm
  rcases List.mem_append.1 hr with hr | hr
  · exact hm r (List.mem_append_left _ hr)
  · rcases List.mem_cons.1 hr with rfl | hr
    · exact hx
    · exact hm r (List.mem_append_right _ hr)
theorem AsmOk.gg (x : Itm) (hx : x.2.length = x.1.m) : ∀ y ∈ A ++ x :: D, y.2.length = y.1.m := fun y hy => by
  rcases List.mem_append.1 hy with hy | hy
  · exact H.g y (List.mem_append_left _ hy)
  · rcases List.mem_cons.1 hy with rfl | hy
    · exact hx
    · exact H.g y (List.mem_append_right _ hy)
/-- An item that names the place that is the place already. -/
theorem AsmOk.moreAt (hl : (A ++ D).length < 4096) {p : Nat} (hp : p = (layS sh0 (A.map (·.1))).p) (h5 : p ≤ 65535) : AsmOk (A ++ (atM (p : Int), []) :: D) ∧ asmU (A ++ (atM (p : Int), []) :: D) = asmU (A ++ D) ∧ asmMem (A ++ (atM (p : Int), []) :: D) = asmMem (A ++ D) ∧ asmN (A ++ (atM (p : Int), []) :: D) = asmN (A ++ D) := by
  have hst : stS (layS sh0 (A.map (·.1))) (atM (p : Int)) = layS sh0 (A.map (·.1)) := by
    rw [st_four _ rfl]
    show (⟨((p : Int)).toNat, _, _⟩ : Sh) = _
    rw [Int.toNat_natCast, hp]
  have hS : layS sh0 ((A ++ (atM (p : Int), []) :: D).map (·.1)) = layS sh0 ((A ++ D).map (·.1)) := by
    rw [List.map_append, List.map_append, layS_app, layS_app, List.map_cons]
    show layS (stS (layS sh0 (A.map (·.1))) (atM (p : Int))) (D.map (·.1)) = _
    rw [hst]
  have hN : asmN (A ++ (atM (p : Int), []) :: D) = asmN (A ++ D) := by unfold asmN; rw [hS]
  have hZ := zip_mid A (atM (p : Int), []) D (by rw [hst])
  refine ⟨⟨H.chk hl _ (may_atM (by omega) (by omega)), ?_, ?_, H.gg _ rfl⟩, by unfold asmU; rw [hS], ?_, hN⟩
  · rw [List.map_append, lay_app _ _ _ _ H.left, List.map_cons]
    show (if stE (layS sh0 (A.map (·.1))) (atM (p : Int)) = 0 then layE (stS (layS sh0 (A.map (·.1))) (atM (p : Int))) (D.map (·.1)) _ else _) = none
    rw [if_pos (by unfold stE; rw [if_neg (show ¬ (atM (p : Int)).k = 1 from (by decide : ¬ (4 : Int) = 1)), if_pos (show (atM (p : Int)).k = 4 from rfl)]), hst]
    exact lay_shift _ _ _ _ H.right
  · rw [hN, hZ]
    refine fil_all _ _ _ fun z hz => ?_
    have h0 := fil_none _ _ 0 H.f
    rw [zip_two] at h0
    rcases List.mem_append.1 hz with hz | hz
    · exact h0 z (List.mem_append_left _ hz)
    · rcases List.mem_cons.1 hz with rfl | hz
      · rfl
      · exact h0 z (List.mem_append_right _ hz)
  · unfold asmMem
    rw [hN, hZ, zip_two, filM_app, filM_app]
    show filM _ (splice _ _ (flB _ (atM (p : Int), []))) _ = _
    rw [show flB (asmN (A ++ D)) (atM (p : Int), []) = [] from rfl, splice_nil]
end
/-- Two layings that know the same labels, but for one. -/
def RlN (nm : ByteArray) (s t : Sh) : Prop := s.p = t.p ∧ s.U = t.U ∧ ∀ n, n ≠ nm → lookN s.N n = lookN t.N n
theorem RlN.st {nm : ByteArray} {s t : Sh} (h : RlN nm s t) {r : Ri} (hr : r.n ≠ nm) : stE s r = stE t r ∧ RlN nm (stS s r) (stS t r) := by
  obtain ⟨h1, h2, h3⟩ := h
  unfold stE stS
  by_cases hk : r.k = 1
  · rw [if_pos hk, if_pos hk, if_pos hk, if_pos hk]
    refine ⟨?_, h1, h2, fun n hn => ?_⟩
    · unfold nmE
      rw [h1, h3 _ hr]
    · show lookN ((r.n, s.p) :: s.N) n = lookN ((r.n, t.p) :: t.N) n
      unfold lookN
      rw [h1, h3 n hn]
  · rw [if_neg hk, if_neg hk, if_neg hk, if_neg hk]
    by_cases h4 : r.k = 4
    · rw [if_pos h4, if_pos h4, if_pos h4, if_pos h4]
      exact ⟨rfl, rfl, h2, h3⟩
    · rw [if_neg h4, if_neg h4, if_neg h4, if_neg h4]
      refine ⟨?_, ?_, ?_, h3⟩
      · unfold clE
        rw [h1, h2]
      · show s.p + _ = t.p + _
        rw [h1]
      · show splice s.U s.p _ = splice t.U t.p _
        rw [h1, h2]
theorem RlN.lay {nm : ByteArray} : ∀ (l : List Ri) (s t : Sh) (i j : Nat), RlN nm s t → (∀ r ∈ l, r.n ≠ nm) → layE s l i = none → layE t l j = none ∧ RlN nm (layS s l) (layS t l)
  | [], s, t, i, j, h, _, _ => ⟨rfl, h⟩
  | r :: l, s, t, i, j, h, hr, hE => by
    obtain ⟨h0, h1⟩ := lay_cons hE
    obtain ⟨e, h'⟩ := h.st (hr r (by simp))
    obtain ⟨i1, i2⟩ := RlN.lay l _ _ (i + 1) (j + 1) h' (fun q hq => hr q (by simp [hq])) h1
    refine ⟨?_, i2⟩
    show (if stE t r = 0 then layE (stS t r) l (j + 1) else some (stE t r, j)) = none
    rw [if_pos (by rw [← e]; exact h0)]
    exact i1
theorem look_fl {N N' : List (ByteArray × Nat)} {x : Itm} {p : Nat} (h : lookN N x.1.l = lookN N' x.1.l) : flE N p x.1 = flE N' p x.1 ∧ flB N x = flB N' x := by
  constructor
  · unfold flE
    rw [h]
  · unfold flB tgtN
    rw [h]
theorem names_from : ∀ (l : List Ri) (s : Sh) (nm : ByteArray), (∀ y ∈ s.N, y.1 ≠ nm) → (∀ r ∈ l, r.n ≠ nm) → ∀ y ∈ (layS s l).N, y.1 ≠ nm
  | [], s, nm, h, _ => h
  | r :: l, s, nm, h, hr => by
    refine names_from l (stS s r) nm (fun y hy => ?_) (fun q hq => hr q (by simp [hq]))
    unfold stS at hy
    split at hy
    · rcases List.mem_cons.1 hy with rfl | hy
      · exact hr r (by simp)
      · exact h y hy
    · split at hy
      · exact h y hy
      · exact h y hy
theorem look_no {N : List (ByteArray × Nat)} {nm : ByteArray} (h : ∀ y ∈ N, y.1 ≠ nm) : lookN N nm = none := by
  induction N with
  | nil => rfl
  | cons x r ih =>
    unfold lookN
    rw [if_neg (fun e => h x (by simp) e.symm)]
    exact ih fun y hy => h y (by simp [hy])
section
variable {A D : List Itm} (H : AsmOk (A ++ D))
include H
theorem AsmOk.skOk : (layS sh0 (A.map (·.1))).Ok := by
  have hm := H.all
  rw [List.map_append] at hm
  exact lay_ok _ sh0 0 sh0_ok (fun r hr => hm r (List.mem_append_left _ hr)) H.left
/-- One label more, of a new name. -/
theorem AsmOk.moreLab (hl : (A ++ D).length < 4096) {p : Nat} (hp : p = (layS sh0 (A.map (·.1))).p) (h5 : p ≤ 65535) {nm : ByteArray} (hnm : isNm nm = true) (hf : ∀ y ∈ A ++ D, y.1.n ≠ nm ∧ y.1.l ≠ nm) :
    AsmOk (A ++ (lbM nm, []) :: D) ∧ asmU (A ++ (lbM nm, []) :: D) = asmU (A ++ D) ∧ asmMem (A ++ (lbM nm, []) :: D) = asmMem (A ++ D) ∧ (asmN (A ++ (lbM nm, []) :: D)).length = (asmN (A ++ D)).length + 1 ∧ (∀ y ∈ asmN (A ++ D), y ∈ asmN (A ++ (lbM nm, []) :: D)) ∧ AtJ (A ++ (lbM nm, []) :: D) A.length (lbM nm, []) p := by
  obtain ⟨s, hs⟩ : ∃ s, layS sh0 (A.map (·.1)) = s := ⟨_, rfl⟩
  have hst : stS s (lbM nm) = nmS s nm := by unfold stS; rw [if_pos (show (lbM nm).k = 1 from rfl)]; rfl
  have hfD : ∀ r ∈ D.map (·.1), r.n ≠ nm := fun r hr => by
    obtain ⟨y, hy, rfl⟩ := List.mem_map.1 hr
    exact (hf y (List.mem_append_right _ hy)).1
  have hfA : ∀ y ∈ s.N, y.1 ≠ nm := by
    rw [← hs]
    exact names_from _ sh0 nm (fun y hy => by cases hy) (fun r hr => by
      obtain ⟨y, hy, rfl⟩ := List.mem_map.1 hr
      exact (hf y (List.mem_append_left _ hy)).1)
  have hst0 : stE s (lbM nm) = 0 := by
    unfold stE
    rw [if_pos (show (lbM nm).k = 1 from rfl)]
    show nmE s nm = 0
    unfold nmE
    rw [← hs, ← hp, if_neg (by omega), hs, look_no hfA]
    rfl
  have hrel : RlN nm s (nmS s nm) := ⟨rfl, rfl, fun n hn => by
    show lookN s.N n = lookN ((nm, s.p) :: s.N) n
    rw [lookN, if_neg hn]⟩
  have hR := H.right
  rw [hs] at hR
  obtain ⟨hE, hRel⟩ := RlN.lay (D.map (·.1)) s (nmS s nm) _ (0 + (A.map (·.1)).length + 1) hrel hfD hR
  have hS' : layS sh0 ((A ++ (lbM nm, []) :: D).map (·.1)) = layS (nmS s nm) (D.map (·.1)) := by
    rw [List.map_append, layS_app, hs, List.map_cons]
    show layS (stS s (lbM nm)) (D.map (·.1)) = _
    rw [hst]
  have hS : layS sh0 ((A ++ D).map (·.1)) = layS s (D.map (·.1)) := by rw [List.map_append, layS_app, hs]
  obtain ⟨D', hN1, hN2⟩ := lay_N (D.map (·.1)) s (nmS s nm) rfl
  have hNa : asmN (A ++ D) = D' ++ s.N := by unfold asmN; rw [hS, hN1]
  have hNb : asmN (A ++ (lbM nm, []) :: D) = D' ++ (nm, s.p) :: s.N := by unfold asmN; rw [hS', hN2]; rfl
  have hlk : ∀ n, n ≠ nm → lookN (asmN (A ++ (lbM nm, []) :: D)) n = lookN (asmN (A ++ D)) n := fun n hn => by
    unfold asmN
    rw [hS', hS]
    exact (hRel.2.2 n hn).symm
  have hZ := zip_mid A (lbM nm, []) D (by rw [hs]; show (stS s (lbM nm)).p = s.p; rw [hst]; rfl)
  have h0 := fil_none _ _ 0 H.f
  rw [zip_two] at h0
  have hzl : ∀ z ∈ A.zip (plcs sh0 (A.map (·.1))) ++ D.zip (plcs (layS sh0 (A.map (·.1))) (D.map (·.1))), lookN (asmN (A ++ (lbM nm, []) :: D)) z.1.1.l = lookN (asmN (A ++ D)) z.1.1.l := fun z hz => hlk _ (hf z.1 (mem_zipD hz)).2
  have hfl : ∀ z ∈ A.zip (plcs sh0 (A.map (·.1))) ++ D.zip (plcs (layS sh0 (A.map (·.1))) (D.map (·.1))), flE (asmN (A ++ (lbM nm, []) :: D)) z.2 z.1.1 = 0 ∧ flB (asmN (A ++ (lbM nm, []) :: D)) z.1 = flB (asmN (A ++ D)) z.1 := fun z hz => by
    have h9 := look_fl (p := z.2) (hzl z hz)
    exact ⟨h9.1.trans (h0 z hz), h9.2⟩
  refine ⟨⟨H.chk hl _ (may_lbM hnm), ?_, ?_, H.gg _ rfl⟩, ?_, ?_, ?_, ?_, ?_⟩
  · rw [List.map_append, lay_app _ _ _ _ H.left, hs, List.map_cons]
    show (if stE s (lbM nm) = 0 then layE (stS s (lbM nm)) (D.map (·.1)) _ else _) = none
    rw [if_pos hst0, hst]
    exact hE
  · rw [hZ]
    refine fil_all _ _ _ fun z hz => ?_
    rcases List.mem_append.1 hz with hz | hz
    · exact (hfl z (List.mem_append_left _ hz)).1
    · rcases List.mem_cons.1 hz with rfl | hz
      · rfl
      · exact (hfl z (List.mem_append_right _ hz)).1
  · unfold asmU
    rw [hS', hS]
    exact hRel.2.1.symm
  · unfold asmMem
    rw [hZ, zip_two, filM_app, filM_app]
    show filM _ (splice _ _ (flB _ (lbM nm, []))) _ = _
    rw [show flB (asmN (A ++ (lbM nm, []) :: D)) (lbM nm, []) = [] from rfl, splice_nil, filM_same _ _ (fun z hz => (hfl z (List.mem_append_right _ hz)).2), filM_same _ _ (fun z hz => (hfl z (List.mem_append_left _ hz)).2)]
  · rw [hNa, hNb]
    simp
    omega
  · intro y hy
    rw [hNa] at hy
    rw [hNb]
    rcases List.mem_append.1 hy with hy | hy
    · exact List.mem_append_left _ hy
    · exact List.mem_append_right _ (List.mem_cons_of_mem _ hy)
  · refine ⟨by simp, ?_⟩
    rw [List.map_append, plcs_app, List.getElem?_append_right (by rw [plcs_len, List.length_map]; exact Nat.le_refl _), plcs_len, List.length_map, Nat.sub_self, List.map_cons, hp]
    rfl
/-- A label where no place is left. -/
theorem AsmOk.layHigh (h5 : 65535 < (layS sh0 (A.map (·.1))).p) (nm : ByteArray) : layE sh0 ((A ++ (lbM nm, []) :: D).map (·.1)) 0 = some (143, A.length) := by
  rw [List.map_append, lay_app _ _ _ _ H.left, List.map_cons]
  have e : stE (layS sh0 (A.map (·.1))) (lbM nm) = 143 := by
    unfold stE
    rw [if_pos (show (lbM nm).k = 1 from rfl)]
    unfold nmE
    rw [if_pos h5]
  show (if stE (layS sh0 (A.map (·.1))) (lbM nm) = 0 then _ else some (stE (layS sh0 (A.map (·.1))) (lbM nm), 0 + (A.map (·.1)).length)) = _
  rw [e, if_neg (by decide), Nat.zero_add, List.length_map]
theorem AsmOk.moreHigh (hl : (A ++ D).length < 4096) (h5 : 65535 < (layS sh0 (A.map (·.1))).p) {nm : ByteArray} (hnm : isNm nm = true) {E n : Int} (hb : BadA (A ++ (lbM nm, []) :: D) sh0 E n) : E = 143 ∧ n = (A.length : Int) := by
  have hc := H.chk hl (lbM nm, []) (may_lbM hnm)
  have hy := H.layHigh h5 nm
  rcases hb with ⟨h1, _⟩ | ⟨_, i, h1, h2⟩ | ⟨_, h1, _⟩
  · exact absurd hc h1
  · rw [hy] at h1
    simp at h1
    exact ⟨h1.1.symm, by rw [h2, ← h1.2]⟩
  · rw [hy] at h1
    cases h1
end
theorem AsmOk.notbad {L : List Itm} (H : AsmOk L) {E n : Int} (hb : BadA L sh0 E n) : False := by
  rcases hb with ⟨h1, _⟩ | ⟨_, i, h1, _⟩ | ⟨_, _, i, h1, _⟩
  · exact h1 H.c
  · rw [H.l] at h1
    cases h1
  · have := H.f
    unfold asmN zipP at this
    rw [this] at h1
    cases h1
theorem AsmOk.findOld {L L' : List Itm} (H : AsmOk L) (H' : AsmOk L') (hs : ∀ y ∈ asmN L, y ∈ asmN L') : ∀ y ∈ sortN (asmN L), findL (sortN (asmN L')) y.n = some y.a := fun y hy => by
  have hperm : (sortN (asmN L)).Perm ((asmN L).map toLa) := List.mergeSort_perm _ _
  obtain ⟨z, hz, rfl⟩ := List.mem_map.1 (hperm.mem_iff.1 hy)
  rw [H'.find]
  show Option.map _ (lookN (asmN L') z.1) = some ((z.2 : Nat) : Int)
  rw [(look_iff H'.pw z.1 z.2).2 (hs z hz)]
  rfl
end Go.Proofs.YthbdpceobnkflaaDoor

namespace Go.Proofs.YthbdpceobnkflaaDoor
open Go Go.RowKit
set_option linter.unusedVariables false
set_option maxHeartbeats 3000000
set_option maxRecDepth 20000

section
variable {α : Type} {T t : TypeId} {s bts : Nat} {c : α → List Value}
/-- Append of any list, also an empty one. -/
theorem at_appA (K : KdL T t s bts c) {ops : Array Oper} {rest : List Oper} {o : Oper} {a : Act} {w : World} {Q : Exit → Act → World → Prop} (hgd : o.guard = none) (sl x : Operand)
    (ho : o.op = .call { callee := .builtin .append, args := #[sl, x], argTypes := #[T, T] }) (B : Nat) (v : Value) (l : List α) (hs : a.eval sl = v) (hown : OwnL t s c B w v l)
    (p : Option Addr) (m cm : Nat) (us : List α) (hm : us.length = m) (hx : a.eval x = .slice p m cm) (hu : LiesL s c w p us) (hn : l.length + m ≤ 100000000000) (hB : B ≤ w.heap.size)
    (k : ∀ v' w', Hid (AppNL t s c B v l us v' w w') → wpList Tryd.prog ops Q rest (a.put o.dst v') w') : wpList Tryd.prog ops Q (o :: rest) a w := by
  by_cases h0 : m = 0
  · subst h0
    have hl0 : us = [] := List.eq_nil_of_length_eq_zero hm
    subst hl0
    refine wpList_plain hgd fun K' hK => ?_
    have hrun := run_app0 K w o.type B v l hown p cm
    unfold Oper.wp
    simp [execOp, ho, resolve, invoke, builtin, hs, hx, hrun, Result.andThen]
    exact hK _ _ (k v w ⟨by rw [List.append_nil]; exact hown, fun g hg => .inl hg, CuL.refl _ _ _⟩)
  · obtain ⟨gb, ob, rfl, _⟩ := hu 0 _ (List.getElem?_eq_getElem (by omega))
    exact at_appNL K hgd sl x ho B v l hs hown gb ob m cm us hm hx hu (by omega) hn hB k
end
theorem kIt : KdL (α := Ri) 22 40 6 80 c6 := by
  obtain ⟨i, hi, hz0, hz1, hz2⟩ := info_parts infoIt9
  exact ⟨Tryd.underlying22, ⟨i, _, hi, hz0, hz1, hz2, rfl⟩, fun x => rfl, fun x v hv => by
    have := one6 x
    rw [Array.all_eq_true'] at this
    exact this v (by unfold c6 at hv; simpa using hv), by decide, by decide⟩
/-- The items ahead of a place, and those from it on. -/
theorem slTake (sp : Option Addr) (n cap k : Nat) (h : k ≤ n) (hc : n ≤ cap) : ∃ sp1, (∀ v, (Instr.sliceAt 22 (.slice sp n cap) none (some (.int .i64 (k : Int))) none).run Tryd.prog v = .ok (.slice sp1 k cap) v) ∧ ∀ (w : World) (l : List Ri), LiesL 6 c6 w sp l → LiesL 6 c6 w sp1 (l.take k) := by
  refine ⟨if cap = 0 then sp else sp.map (·.add (0 * 6)), fun v => ?_, fun w l hl j r hj => ?_⟩
  · have hu : Tryd.prog.underlying 22 = some (.slice (Tryd.prog.elem 22)) := by kernel_rfl
    rw [run_sliceAt_slice v _ _ _ _ _ hu, run_slice_h v _ _ _ _ hu .i64 (k : Int) (by omega) (by omega)]
    have hz : ∀ v, (sizeOf (Tryd.prog.elem 22)).run Tryd.prog v = .ok 6 v := fun v => by kernel_rfl
    rw [hz]
    simp only [Result.andThen_ok, sliced, Int.toNat_natCast, Nat.sub_zero]
  · have hj' : l[j]? = some r := by
      rw [List.getElem?_take] at hj
      split at hj
      · exact hj
      · cases hj
    obtain ⟨g, o, rfl, hr⟩ := hl j r hj'
    refine ⟨g, o, ?_, hr⟩
    split
    · rfl
    · simp [Addr.add_lit]
theorem slDrop (sp : Option Addr) (n cap k : Nat) (h : k ≤ n) (hc : n ≤ cap) : ∃ sp1, (∀ v, (Instr.sliceAt 22 (.slice sp n cap) (some (.int .i64 (k : Int))) none none).run Tryd.prog v = .ok (.slice sp1 (n - k) (cap - k)) v) ∧ ∀ (w : World) (l : List Ri), l.length = n → LiesL 6 c6 w sp l → LiesL 6 c6 w sp1 (l.drop k) := by
  refine ⟨if cap = k then sp else sp.map (·.add (k * 6)), fun v => ?_, fun w l hn hl j r hj => ?_⟩
  · have hu : Tryd.prog.underlying 22 = some (.slice (Tryd.prog.elem 22)) := by kernel_rfl
    rw [run_sliceAt_slice v _ _ _ _ _ hu, run_slice_l v _ _ _ _ hu .i64 (k : Int) (by omega) (by omega)]
    have hz : ∀ v, (sizeOf (Tryd.prog.elem 22)).run Tryd.prog v = .ok 6 v := fun v => by kernel_rfl
    rw [hz]
    simp only [Result.andThen_ok, sliced, Int.toNat_natCast]
  · rw [List.getElem?_drop] at hj
    obtain ⟨g, o, rfl, hr⟩ := hl (k + j) r hj
    have hlt := (List.getElem?_eq_some_iff.1 hj).1
    refine ⟨g, o + k * 6, ?_, ?_⟩
    · rw [if_neg (by omega)]
      simp [Addr.add_lit]
    · rw [show o + k * 6 + j * 6 = o + (k + j) * 6 by omega]
      exact hr
theorem fill1 (r : Ri) : Instr.fill (fun i => some (i * 6, 6)) ((Array.range (1 * 6)).map ((Value.agg (i6 z0)).cells[· % (Value.agg (i6 z0)).cells.size]!)) [(0, .agg (i6 r))] = some (rowL c6 [r]).toArray := by kernel_rfl
theorem at_bs1 {ops : Array Oper} {rest : List Oper} {o : Oper} {a : Act} {w : World} {Q : Exit → Act → World → Prop} (r : Ri) (x0 : Operand) (hgd : o.guard = none) (ho : o.op = .buildSlice 22 1 #[(0, x0)]) (h0 : a.eval x0 = .agg (i6 r))
    (h : wpList Tryd.prog ops Q rest (a.put o.dst (.slice (some ⟨w.heap.size, 0, none⟩) 1 1)) (w.alloc (.cells (rowL c6 [r]).toArray 40))) : wpList Tryd.prog ops Q (o :: rest) a w := wpList_plain hgd fun _ hK => by
  obtain ⟨i, hi, hz0, hz1, hz2⟩ := info_parts infoIt9
  refine wp_buildSlice 22 40 1 #[(0, x0)] ho (rowL c6 [r]).toArray i _ Tryd.underlying22 hi hz0 (by rw [hz1]; decide) (by rw [hz1]; decide) ?_ (hK _ _ h)
  rw [hz1]
  have e : (#[(0, x0)].map fun (i, x) => (i, a.eval x)).toList = [(0, .agg (i6 r))] := by simp [h0]
  rw [e]
  exact fill1 r
def PuE (w : World) (l : List Ri) (e : Ending) (z : World) : Prop := ∃ sp cap, e = .returned (.slice sp l.length cap) ∧ Hid (Below w.heap.size w z ∧ LiesL 6 c6 z sp l)
theorem put_any (w : World) (sp : Option Addr) (cap : Nat) (l : List Ri) (hl : Hid (LiesL 6 c6 w sp l)) (hc : l.length ≤ cap) (hn : l.length ≤ 2147483647) (k : Nat) (hk : k ≤ l.length) (x : Ri) :
    Calls Tryd.prog 16 #[.slice sp l.length cap, .int .i64 (k : Int), .agg (i6 x)] w (PuE w (l.take k ++ [x] ++ l.drop k)) := by
  have K0 : Hid (Fm w [(w.heap.size, i6 x, 40)] (w.alloc (.cells (i6 x) 40))) := Fm.one w _ _
  obtain ⟨n, hn'⟩ : ∃ n, l.length = n := ⟨_, rfl⟩
  rw [hn'] at hc hn hk ⊢
  obtain ⟨sp1, e1, f1⟩ := slTake sp n cap k hk hc
  obtain ⟨sp2, e2, f2⟩ := slDrop sp n cap k hk hc
  have L1 : Hid (∀ z, Below w.heap.size w z → LiesL 6 c6 z sp1 (l.take k)) := fun z hz => f1 z l (hl.out.below hz)
  have L2 : Hid (∀ z, Below w.heap.size w z → LiesL 6 c6 z sp2 (l.drop k)) := fun z hz => f2 z l hn' (hl.out.below hz)
  have t1 : (l.take k).length = k := by rw [List.length_take]; omega
  have t2 : (l.drop k).length = n - k := by rw [List.length_drop, hn']
  have hT : Hid ((l.take k).length = k ∧ (l.drop k).length = n - k ∧ k ≤ n ∧ n ≤ 2147483647) := ⟨t1, t2, hk, hn⟩
  generalize l.take k = A at L1 hT ⊢
  generalize l.drop k = D at L2 hT ⊢
  clear f1 f2 t1 t2 hk hn hc hn'
  go_enter Tryd.func16, Tryd.ntmps16
  go_wp2_with (first
    | ((with_reducible refine gen_world (w.alloc (.cells (i6 x) 40)) (fun y => Fm w [(w.heap.size, i6 x, 40)] y ∧ y.heap.size = w.heap.size + 1) ?_ ?_); exact ⟨K0.out, (by simp : (w.alloc (.cells (i6 x) 40)).heap.size = w.heap.size + 1)⟩; intro y K1)
    | (at_builtin; refine at_appA kIt rfl (.tmp 8) (.tmp 11) rfl (w.heap.size + 1) (.slice none 0 0) [] rfl (OwnL.nil _ _) sp1 k cap A ?_ rfl (L1.out _ K1.out.1.low) ?_ ?_ ?_; exact hT.out.1; (have := hT.out; simp; omega); (rw [K1.out.2]; exact Nat.le_refl _); intro v1 u1 H1; have P1 : Hid (OwnL 40 6 c6 (w.heap.size + 1) u1 v1 ([] ++ A) ∧ Below (w.heap.size + 1) y u1 ∧ Fm w [(w.heap.size, i6 x, 40)] u1) := ⟨H1.out.own, H1.out.cu.low, K1.out.1.below (by rw [K1.out.2]; exact H1.out.cu.low)⟩; clear H1)
    | ((with_reducible refine at_load rt6 w.heap.size (i6 x) ?_ ?_ (.tmp 5) ?_ ?_ ?_ ?_); exact P1.out.2.2.bx 0 _ _ _ rfl; rfl; (first | rfl | kernel_rfl); rfl; rfl)
    | ((with_reducible refine at_bs1 x (.tmp 14) ?_ ?_ ?_ ?_); rfl; rfl; rfl)
    | (at_builtin; refine at_appA kIt rfl (.tmp 13) (.tmp 15) rfl (w.heap.size + 1) v1 ([] ++ A) rfl (P1.out.1.alloc _) (some ⟨u1.heap.size, 0, none⟩) 1 1 [x] rfl rfl (lies_new kIt.len _ _ _) ?_ ?_ ?_; (have := hT.out; simp; omega); (have h1 := P1.out.2.1.size; have h2 := K1.out.2; simp; omega); intro v2 u2 H2; have P2 : Hid (OwnL 40 6 c6 (w.heap.size + 1) u2 v2 ([] ++ A ++ [x]) ∧ Below w.heap.size w u2 ∧ w.heap.size + 1 ≤ u2.heap.size) := ⟨H2.out.own, P1.out.2.2.low.trans (((below1 u1 _).mono P1.out.2.2.low.size).trans (H2.out.cu.low.mono (Nat.le_succ _))), (by have h1 := P1.out.2.1.size; have h2 := K1.out.2; have h3 := H2.out.cu.low.size; simp at h3; omega)⟩; clear H2)
    | (at_builtin; refine at_appA kIt rfl (.tmp 17) (.tmp 20) rfl (w.heap.size + 1) v2 ([] ++ A ++ [x]) rfl P2.out.1 sp2 (n - k) (cap - k) D ?_ rfl (L2.out _ P2.out.2.1) ?_ ?_ ?_; exact hT.out.2.1; (have := hT.out; simp; omega); exact P2.out.2.2; intro v3 u3 H3; have P3 : Hid (OwnL 40 6 c6 (w.heap.size + 1) u3 v3 ([] ++ A ++ [x] ++ D) ∧ Below w.heap.size w u3) := ⟨H3.out.own, P2.out.2.1.trans (H3.out.cu.low.mono (Nat.le_succ _))⟩; clear H3))
  go_ret
  obtain ⟨sp9, cap9, rfl, h9, _⟩ := P3.out.1.open kIt.len
  rw [List.nil_append] at h9 ⊢
  exact ⟨sp9, cap9, rfl, P3.out.2, h9⟩
end Go.Proofs.YthbdpceobnkflaaDoor
