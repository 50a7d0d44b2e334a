/- The document's own: regions of a line, each of which puts something behind a row of the program's box. -/
import Derived.Test.YthaijjehplomfaaDoorJ39
import Derived.Test.YthaijjehplomfaaDoorJ40
namespace Go.Proofs.YthaijjehplomfaaDoor
open Go Go.RowKit
set_option linter.unusedVariables false
set_option maxHeartbeats 1000000
set_option maxRecDepth 20000

def OpB (ops : Array Oper) (i : Nat) (d : Option Nat) (p : Op) (on : List Nat) : Prop := ∃ o : Oper, ops[i]? = some o ∧ o.guard = none ∧ o.dst = d ∧ o.op = p ∧ (on.all fun q => aftB o q) = true
/-- A row of one made of a value. -/
def BsT (T t : TypeId) (cu : Value) : Prop := ∀ (ops : Array Oper) (rest : List Oper) (o : Oper) (a : Act) (w : World) (Q : Exit → Act → World → Prop) (x : Operand), o.guard = none → o.op = .buildSlice T 1 #[(0, x)] → a.eval x = cu →
  wpList Tryd.prog ops Q rest (a.put o.dst (.slice (some ⟨w.heap.size, 0, none⟩) 1 1)) (w.alloc (.cells #[cu] t)) → wpList Tryd.prog ops Q (o :: rest) a w
theorem bsS (s : ByteArray) : BsT 70 9 (.string s) := fun _ _ _ _ _ _ x h1 h2 h3 k => at_bsS1 s x h1 h2 h3 k
theorem bsI (p : Nat) : BsT 85 3 (.int .i64 (p : Int)) := fun _ _ _ _ _ _ x h1 h2 h3 k => at_bsI1 p x h1 h2 h3 k
theorem bsO (p : Nat) : BsT 86 28 (.int .u8 (p : Int)) := fun _ _ _ _ _ _ x h1 h2 h3 k => at_bsO1 p x h1 h2 h3 k
theorem bx_row {v : Nat → Value} {y : World} {P : Nat} (h : Bx y P (bxQ v) 88) (k : Nat) (hk : k < 7) : y.cell? ⟨P, k, none⟩ = some (v k) := by
  refine h.c k _ ?_
  match k, hk with
  | 0, _ => rfl
  | 1, _ => rfl
  | 2, _ => rfl
  | 3, _ => rfl
  | 4, _ => rfl
  | 5, _ => rfl
  | 6, _ => rfl
theorem Lq.drew {w : World} {P b : Nat} {v : Nat → Value} {vs : Nat → List Value} {sp : Option Addr} {c op : Nat} {lab asks : ByteArray} {d : List UInt8} {y : World} (h : Lq w P b v vs sp c op lab asks d y) : Lq w P b v vs sp c op lab asks d y.drew := h.keep ⟨rfl, rfl, rfl, Nat.le_refl _, fun _ _ => rfl⟩
/-- Several values put behind a row: what Lq.set asks. -/
theorem appN_q {α : Type} {t : TypeId} {c : α → Value} {B : Nat} {v v' : Value} {l us : List α} {y z : World} (A : AppNL t 1 (fun a => [c a]) B v l us v' y z) :
    OwnL t 1 one1 B z v' (l.map c ++ us.map c) ∧ (∀ g, v'.ownBlock = some g → v.ownBlock = some g ∨ y.heap.size ≤ g) ∧ (∀ g, g < y.heap.size → v.ownBlock ≠ some g → z.heap[g]? = y.heap[g]?) ∧ Below B y z := by
  refine ⟨?_, A.new, fun g hg hn => A.cu.blk g hg fun j hF => hn hF.1, A.cu.low⟩
  have h := OwnL.vals.1 A.own
  rw [List.map_append] at h
  exact h
def VF (P b k f : Nat) (vk cu : Value) : Nat → Option Value
  | 0 => some (.pointer (some ⟨P, 0, none⟩))
  | 1 => some (.pointer (some ⟨P, 0, none⟩))
  | 2 => some (.pointer (some ⟨P, 0, none⟩))
  | 3 => some (.pointer (some ⟨P, k, none⟩))
  | 4 => some (vk)
  | 5 => some (.pointer (some ⟨b, f, none⟩))
  | 6 => some (cu)
  | 9 => some (.pointer (some ⟨P, 0, none⟩))
  | 10 => some (.pointer (some ⟨P, k, none⟩))
  | _ => none
theorem ltF {i : Nat} (h : i < 11) : i = 0 ∨ i = 1 ∨ i = 2 ∨ i = 3 ∨ i = 4 ∨ i = 5 ∨ i = 6 ∨ i = 7 ∨ i = 8 ∨ i = 9 ∨ i = 10 := by omega
def EF (i : Nat) : Bool := Nat.beq i 4 || Nat.beq i 6
/-- A region in which one cell of the item put behind row k. -/
theorem regF {ops : Array Oper} {Q : Exit → Act → World → Prop} {id : Nat} {A : Act} {y0 : World} (w : World) (P b : Nat) (v : Nat → Value) (vs : Nat → List Value) (sp : Option Addr) (c op : Nat) (lab asks : ByteArray) (d : List UInt8) {α : Type} {T t : TypeId} {bts : Nat} {cc : α → Value} (K : KdL T t 1 bts (fun a => [cc a])) (hst : StT T) (hag : ∀ w, (isAgg T).run Tryd.prog w = .ok false w) (hat : ∀ w, (isAgg t).run Tryd.prog w = .ok false w) (u : α) (cu : Value) (hcu : cc u = cu) (BS : BsT T t cu) (k f : Nat) (hk : k < 7) (hf : f < 4) (hty : tyQ k = t) (l : List α) (hit : (it4 (.slice sp d.length c) lab asks op)[f]? = some cu)
    (hvs : vs k = l.map (cc)) (hl : l.length ≤ 1000000) (b0 : Nat) (hA : b0 + 11 ≤ A.tmps.size) (h8 : 8 < b0) (e0 : A.eval (.tmp 0) = .pointer (some ⟨P, 0, none⟩)) (e8 : A.eval (.tmp 8) = .pointer (some ⟨b, 0, none⟩)) (hsz : ops.size = 12) (hup : upB .any ops = true)
    (o0 : OpB ops 0 (some b0) (.move (.tmp 0)) [])
    (o1 : OpB ops 1 (some (b0 + 1)) (.move (.tmp 0)) [])
    (o2 : OpB ops 2 (some (b0 + 2)) (.nilCheck (.tmp (b0 + 1))) [1])
    (o3 : OpB ops 3 (some (b0 + 3)) (.fieldAddr 88 (.tmp (b0 + 2)) k) [2])
    (o4 : OpB ops 4 (some (b0 + 4)) (.load T (.tmp (b0 + 3))) [3])
    (o5 : OpB ops 5 (some (b0 + 5)) (.fieldAddr 111 (.tmp 8) f) [])
    (o6 : OpB ops 6 (some (b0 + 6)) (.load t (.tmp (b0 + 5))) [5])
    (o7 : OpB ops 7 (some (b0 + 7)) (.buildSlice T 1 #[(0, .tmp (b0 + 6))]) [6])
    (o8 : OpB ops 8 (some (b0 + 8)) (.call { callee := .builtin .append, args := #[.tmp (b0 + 4), .tmp (b0 + 7)], argTypes := #[T, T] }) [4, 7])
    (o9 : OpB ops 9 (some (b0 + 9)) (.nilCheck (.tmp b0)) [0])
    (o10 : OpB ops 10 (some (b0 + 10)) (.fieldAddr 88 (.tmp (b0 + 9)) k) [9])
    (o11 : OpB ops 11 none (.store T (.tmp (b0 + 10)) (.tmp (b0 + 8))) [10, 8])
    (a4 : ancB ops 12 8 4 = true)
    (a6 : ancB ops 12 8 6 = true)
    (aB : ancB ops 12 8 7 = true) (aC : ancB ops 12 11 8 = true)
    (h : Lq w P b v vs sp c op lab asks d y0) (fin : ∀ (vals : List Value) (z : World) (v' : Value), vals.length = 11 → Hid (Lq w P b (upQ v k v') (upQ vs k (l.map (cc) ++ [cu])) sp c op lab asks d z) → Q .normal (puts A b0 vals) z) : (Code.region id ops true).wp Tryd.prog Q A y0 := by
  have own : ∀ {y : World}, Lq w P b v vs sp c op lab asks d y → OwnL t 1 (fun a => [(cc) a]) w.heap.size y (v k) l := fun hh => OwnL.vals.2 (by have := hh.q.own k hk; rw [hvs, hty] at this; exact this)
  refine region_app (b := b0) (n := 11) (iB := 7) (iC := 8) (V := VF P b k f (v k) cu) (E := EF) (P0 := fun y => Lq w P b v vs sp c op lab asks d y) (P1 := fun v' y => ∃ g0, v' = .slice (some ⟨g0, 0, none⟩) 1 1 ∧ Bx y g0 #[cu] t ∧ Lq w P b v vs sp c op lab asks d y) (P2 := fun v' y => ∃ y1, Lq w P b v vs sp c op lab asks d y1 ∧ Hid (App1L t 1 (fun a => [(cc) a]) w.heap.size (v k) l u v' y1 y)) (P3 := fun z => ∃ v', Lq w P b (upQ v k v') (upQ vs k (l.map (cc) ++ [cu])) sp c op lab asks d z) (by kernel_rfl) hup hA ?_ h.drew (fun vals z hv hz => by obtain ⟨v', hz⟩ := hz; exact fin vals z v' hv hz)
  have q0 : ∀ {a : Act}, FrR b0 11 A a → a.eval (.tmp 0) = .pointer (some ⟨P, 0, none⟩) := fun hf' => (hf'.ev 0 (.inl (by omega))).trans e0
  have q8 : ∀ {a : Act}, FrR b0 11 A a → a.eval (.tmp 8) = .pointer (some ⟨b, 0, none⟩) := fun hf' => (hf'.ev 8 (.inl h8)).trans e8
  refine ⟨hsz, by decide, by decide, by decide, rfl, rfl, ?_, ?_, ?_, ⟨_, aB⟩, ⟨_, aC⟩, ?_, ?_, ?_, ?_⟩
  · intro i u hu
    match i, hu with
    | 0, _ => exact (by decide)
    | 1, _ => exact (by decide)
    | 2, _ => exact (by decide)
    | 3, _ => exact (by decide)
    | 4, _ => exact (by decide)
    | 5, _ => exact (by decide)
    | 6, _ => exact (by decide)
    | 9, _ => exact (by decide)
    | 10, _ => exact (by decide)
  · intro i hi h1 h2
    rcases ltF hi with rfl | rfl | rfl | rfl | rfl | rfl | rfl | rfl | rfl | rfl | rfl
    · rfl
    · rfl
    · rfl
    · rfl
    · rfl
    · rfl
    · rfl
    · exact absurd rfl h1
    · exact absurd rfl h2
    · rfl
    · rfl
  · intro i hi
    unfold EF at hi
    simp only [Bool.or_eq_true] at hi
    rcases hi with hi | hi
    · have : i = 4 := Nat.eq_of_beq_eq_true hi
      subst this
      exact ⟨_, a4⟩
    · have : i = 6 := Nat.eq_of_beq_eq_true hi
      subst this
      exact ⟨_, a6⟩
  · intro i u hu
    match i, hu with
    | 0, hu =>
      obtain ⟨o, ho, hg, hd, hp, hw⟩ := o0
      injection hu with hu
      subst hu
      refine ⟨o, ho, hg, hd, fun a y hf' hn he => ?_⟩
      exact ex_move hp (q0 hf')
    | 1, hu =>
      obtain ⟨o, ho, hg, hd, hp, hw⟩ := o1
      injection hu with hu
      subst hu
      refine ⟨o, ho, hg, hd, fun a y hf' hn he => ?_⟩
      exact ex_move hp (q0 hf')
    | 2, hu =>
      obtain ⟨o, ho, hg, hd, hp, hw⟩ := o2
      injection hu with hu
      subst hu
      simp only [List.all_cons, List.all_nil, Bool.and_true] at hw
      refine ⟨o, ho, hg, hd, fun a y hf' hn he => ?_⟩
      exact ex_nil hp (hn 1 _ rfl hw)
    | 3, hu =>
      obtain ⟨o, ho, hg, hd, hp, hw⟩ := o3
      injection hu with hu
      subst hu
      simp only [List.all_cons, List.all_nil, Bool.and_true] at hw
      refine ⟨o, ho, hg, hd, fun a y hf' hn he => ?_⟩
      exact ex_fldP P k hk hp (hn 2 _ rfl hw)
    | 4, hu =>
      obtain ⟨o, ho, hg, hd, hp, hw⟩ := o4
      injection hu with hu
      subst hu
      simp only [List.all_cons, List.all_nil, Bool.and_true] at hw
      refine ⟨o, ho, hg, hd, fun a y hf' hn he => ?_⟩
      exact ex_ld hag hp (hn 3 _ rfl hw) (bx_row ((show Lq w P b v vs sp c op lab asks d y from by rcases he rfl with hq | ⟨_, hq⟩; exact hq; exact hq.choose_spec.2.2)).q.box k hk)
    | 5, hu =>
      obtain ⟨o, ho, hg, hd, hp, hw⟩ := o5
      injection hu with hu
      subst hu
      refine ⟨o, ho, hg, hd, fun a y hf' hn he => ?_⟩
      exact ex_fldI b f hf hp (q8 hf')
    | 6, hu =>
      obtain ⟨o, ho, hg, hd, hp, hw⟩ := o6
      injection hu with hu
      subst hu
      simp only [List.all_cons, List.all_nil, Bool.and_true] at hw
      refine ⟨o, ho, hg, hd, fun a y hf' hn he => ?_⟩
      exact ex_ld hat hp (hn 5 _ rfl hw) (((show Lq w P b v vs sp c op lab asks d y from by rcases he rfl with hq | ⟨_, hq⟩; exact hq; exact hq.choose_spec.2.2)).x.c f _ hit)
    | 9, hu =>
      obtain ⟨o, ho, hg, hd, hp, hw⟩ := o9
      injection hu with hu
      subst hu
      simp only [List.all_cons, List.all_nil, Bool.and_true] at hw
      refine ⟨o, ho, hg, hd, fun a y hf' hn he => ?_⟩
      exact ex_nil hp (hn 0 _ rfl hw)
    | 10, hu =>
      obtain ⟨o, ho, hg, hd, hp, hw⟩ := o10
      injection hu with hu
      subst hu
      simp only [List.all_cons, List.all_nil, Bool.and_true] at hw
      refine ⟨o, ho, hg, hd, fun a y hf' hn he => ?_⟩
      exact ex_fldP P k hk hp (hn 9 _ rfl hw)
  · obtain ⟨o, ho, hg, hd, hp, hw⟩ := o7
    simp only [List.all_cons, List.all_nil, Bool.and_true] at hw
    refine ⟨o, ho, fun a y K' hf' hn h0 k' => ?_⟩
    refine wpOp_list ho ((BS) _ _ _ _ _ _ _ hg hp (hn 6 _ rfl hw) ?_)
    rw [hd]
    exact k' _ _ ⟨y.heap.size, rfl, alloc_last' y _, h0.keep (below1 y _)⟩
  · obtain ⟨o, ho, hg, hd, hp, hw⟩ := o8
    simp only [List.all_cons, List.all_nil, Bool.and_true, Bool.and_eq_true] at hw
    refine ⟨o, ho, fun a y K' hf' hn h1 k' => ?_⟩
    obtain ⟨g0, e1, hb, h2⟩ := h1
    refine wpOp_list ho (at_appL K hg _ _ hp w.heap.size (v k) l (hn 4 _ rfl hw.1) (own h2) g0 u e1 (by rw [← hcu] at hb; exact hb) (by omega) h2.q.low.size fun v' z AA => ?_)
    rw [hd]
    exact k' _ _ ⟨y, h2, AA⟩
  · obtain ⟨o, ho, hg, hd, hp, hw⟩ := o11
    simp only [List.all_cons, List.all_nil, Bool.and_true, Bool.and_eq_true] at hw
    refine ⟨o, ho, fun a y K' hf' hn h2 k' => ?_⟩
    obtain ⟨y1, hL, AA⟩ := h2
    obtain ⟨r1, r2, r3, r4⟩ := app1_q AA.out
    obtain ⟨sp2, c2, e2, _⟩ := AA.out.own.open K.len
    rw [hcu] at r1
    have hset := hL.set hk (by rw [hty]; exact r1) r2 r3 r4
    refine wpOp_skip ho hg (ex_st hst hp (hn 10 _ rfl hw.1) e2 (bx_row hset.1 k hk) (hset.1.fz k)) ?_
    rw [hd]
    refine k' _ ⟨a.eval (.tmp (b0 + 8)), ?_⟩
    rw [← e2]
    exact hset.2.2.2
def VG (P nb cb : Nat) (sb : Option Addr) (vk : Value) : Nat → Option Value
  | 0 => some (.pointer (some ⟨P, 0, none⟩))
  | 1 => some (.pointer (some ⟨P, 0, none⟩))
  | 2 => some (.pointer (some ⟨P, 0, none⟩))
  | 3 => some (.pointer (some ⟨P, 2, none⟩))
  | 4 => some (vk)
  | 5 => some (.pointer (some ⟨P, 0, none⟩))
  | 6 => some (.pointer (some ⟨P, 0, none⟩))
  | 7 => some (.pointer (some ⟨P, 0, none⟩))
  | 8 => some (.slice sb nb cb)
  | 9 => some (.int .i64 (nb : Int))
  | 10 => some (.int .i64 ((512 + nb : Nat) : Int))
  | 13 => some (.pointer (some ⟨P, 0, none⟩))
  | 14 => some (.pointer (some ⟨P, 2, none⟩))
  | _ => none
theorem ltG {i : Nat} (h : i < 15) : i = 0 ∨ i = 1 ∨ i = 2 ∨ i = 3 ∨ i = 4 ∨ i = 5 ∨ i = 6 ∨ i = 7 ∨ i = 8 ∨ i = 9 ∨ i = 10 ∨ i = 11 ∨ i = 12 ∨ i = 13 ∨ i = 14 := by omega
def EG (i : Nat) : Bool := Nat.beq i 4 || Nat.beq i 8
/-- A region in which an address put behind the third row. -/
theorem regG {ops : Array Oper} {Q : Exit → Act → World → Prop} {id : Nat} {A : Act} {y0 : World} (w : World) (P b : Nat) (v : Nat → Value) (vs : Nat → List Value) (sp : Option Addr) (c op : Nat) (lab asks : ByteArray) (d : List UInt8) (sb : Option Addr) (nb cb : Nat) (l : List Nat) (hb0v : v 0 = .slice sb nb cb) (hnb : nb ≤ 1000000)
    (hvs : vs 2 = l.map (fun a : Nat => Value.int .i64 (a : Int))) (hl : l.length ≤ 1000000) (b0 : Nat) (hA : b0 + 15 ≤ A.tmps.size) (h8 : 8 < b0) (e0 : A.eval (.tmp 0) = .pointer (some ⟨P, 0, none⟩)) (e8 : A.eval (.tmp 8) = .pointer (some ⟨b, 0, none⟩)) (hsz : ops.size = 16) (hup : upB .any ops = true)
    (o0 : OpB ops 0 (some b0) (.move (.tmp 0)) [])
    (o1 : OpB ops 1 (some (b0 + 1)) (.move (.tmp 0)) [])
    (o2 : OpB ops 2 (some (b0 + 2)) (.nilCheck (.tmp (b0 + 1))) [1])
    (o3 : OpB ops 3 (some (b0 + 3)) (.fieldAddr 88 (.tmp (b0 + 2)) 2) [2])
    (o4 : OpB ops 4 (some (b0 + 4)) (.load 85 (.tmp (b0 + 3))) [3])
    (o5 : OpB ops 5 (some (b0 + 5)) (.move (.tmp 0)) [])
    (o6 : OpB ops 6 (some (b0 + 6)) (.nilCheck (.tmp (b0 + 5))) [5])
    (o7 : OpB ops 7 (some (b0 + 7)) (.fieldAddr 88 (.tmp (b0 + 6)) 0) [6])
    (o8 : OpB ops 8 (some (b0 + 8)) (.load 45 (.tmp (b0 + 7))) [7])
    (o9 : OpB ops 9 (some (b0 + 9)) (.call { callee := .builtin .len, args := #[.tmp (b0 + 8)], argTypes := #[45] }) [8])
    (o10 : OpB ops 10 (some (b0 + 10)) (.binOp .add 3 (.const (.int .i64 512)) (.tmp (b0 + 9)) 3) [9])
    (o11 : OpB ops 11 (some (b0 + 11)) (.buildSlice 85 1 #[(0, .tmp (b0 + 10))]) [10])
    (o12 : OpB ops 12 (some (b0 + 12)) (.call { callee := .builtin .append, args := #[.tmp (b0 + 4), .tmp (b0 + 11)], argTypes := #[85, 85] }) [4, 11])
    (o13 : OpB ops 13 (some (b0 + 13)) (.nilCheck (.tmp b0)) [0])
    (o14 : OpB ops 14 (some (b0 + 14)) (.fieldAddr 88 (.tmp (b0 + 13)) 2) [13])
    (o15 : OpB ops 15 none (.store 85 (.tmp (b0 + 14)) (.tmp (b0 + 12))) [14, 12])
    (a4 : ancB ops 16 12 4 = true)
    (a8 : ancB ops 16 12 8 = true)
    (aB : ancB ops 16 12 11 = true) (aC : ancB ops 16 15 12 = true)
    (h : Lq w P b v vs sp c op lab asks d y0) (fin : ∀ (vals : List Value) (z : World) (v' : Value), vals.length = 15 → Hid (Lq w P b (upQ v 2 v') (upQ vs 2 (l.map (fun a : Nat => Value.int .i64 (a : Int)) ++ [.int .i64 ((512 + nb : Nat) : Int)])) sp c op lab asks d z) → Q .normal (puts A b0 vals) z) : (Code.region id ops true).wp Tryd.prog Q A y0 := by
  have own : ∀ {y : World}, Lq w P b v vs sp c op lab asks d y → OwnL 3 1 (fun a => [(fun a : Nat => Value.int .i64 (a : Int)) a]) w.heap.size y (v 2) l := fun hh => OwnL.vals.2 (by have := hh.q.own 2 (by decide); rw [hvs, show tyQ 2 = 3 from rfl] at this; exact this)
  refine region_app (b := b0) (n := 15) (iB := 11) (iC := 12) (V := VG P nb cb sb (v 2)) (E := EG) (P0 := fun y => Lq w P b v vs sp c op lab asks d y) (P1 := fun v' y => ∃ g0, v' = .slice (some ⟨g0, 0, none⟩) 1 1 ∧ Bx y g0 #[(.int .i64 ((512 + nb : Nat) : Int))] 3 ∧ Lq w P b v vs sp c op lab asks d y) (P2 := fun v' y => ∃ y1, Lq w P b v vs sp c op lab asks d y1 ∧ Hid (App1L 3 1 (fun a => [(fun a : Nat => Value.int .i64 (a : Int)) a]) w.heap.size (v 2) l (512 + nb) v' y1 y)) (P3 := fun z => ∃ v', Lq w P b (upQ v 2 v') (upQ vs 2 (l.map (fun a : Nat => Value.int .i64 (a : Int)) ++ [.int .i64 ((512 + nb : Nat) : Int)])) sp c op lab asks d z) (by kernel_rfl) hup hA ?_ h.drew (fun vals z hv hz => by obtain ⟨v', hz⟩ := hz; exact fin vals z v' hv hz)
  have q0 : ∀ {a : Act}, FrR b0 15 A a → a.eval (.tmp 0) = .pointer (some ⟨P, 0, none⟩) := fun hf' => (hf'.ev 0 (.inl (by omega))).trans e0
  have q8 : ∀ {a : Act}, FrR b0 15 A a → a.eval (.tmp 8) = .pointer (some ⟨b, 0, none⟩) := fun hf' => (hf'.ev 8 (.inl h8)).trans e8
  refine ⟨hsz, by decide, by decide, by decide, rfl, rfl, ?_, ?_, ?_, ⟨_, aB⟩, ⟨_, aC⟩, ?_, ?_, ?_, ?_⟩
  · intro i u hu
    match i, hu with
    | 0, _ => exact (by decide)
    | 1, _ => exact (by decide)
    | 2, _ => exact (by decide)
    | 3, _ => exact (by decide)
    | 4, _ => exact (by decide)
    | 5, _ => exact (by decide)
    | 6, _ => exact (by decide)
    | 7, _ => exact (by decide)
    | 8, _ => exact (by decide)
    | 9, _ => exact (by decide)
    | 10, _ => exact (by decide)
    | 13, _ => exact (by decide)
    | 14, _ => exact (by decide)
  · intro i hi h1 h2
    rcases ltG hi with rfl | rfl | rfl | rfl | rfl | rfl | rfl | rfl | rfl | rfl | rfl | rfl | rfl | rfl | rfl
    · rfl
    · rfl
    · rfl
    · rfl
    · rfl
    · rfl
    · rfl
    · rfl
    · rfl
    · rfl
    · rfl
    · exact absurd rfl h1
    · exact absurd rfl h2
    · rfl
    · rfl
  · intro i hi
    unfold EG at hi
    simp only [Bool.or_eq_true] at hi
    rcases hi with hi | hi
    · have : i = 4 := Nat.eq_of_beq_eq_true hi
      subst this
      exact ⟨_, a4⟩
    · have : i = 8 := Nat.eq_of_beq_eq_true hi
      subst this
      exact ⟨_, a8⟩
  · intro i u hu
    match i, hu with
    | 0, hu =>
      obtain ⟨o, ho, hg, hd, hp, hw⟩ := o0
      injection hu with hu
      subst hu
      refine ⟨o, ho, hg, hd, fun a y hf' hn he => ?_⟩
      exact ex_move hp (q0 hf')
    | 1, hu =>
      obtain ⟨o, ho, hg, hd, hp, hw⟩ := o1
      injection hu with hu
      subst hu
      refine ⟨o, ho, hg, hd, fun a y hf' hn he => ?_⟩
      exact ex_move hp (q0 hf')
    | 2, hu =>
      obtain ⟨o, ho, hg, hd, hp, hw⟩ := o2
      injection hu with hu
      subst hu
      simp only [List.all_cons, List.all_nil, Bool.and_true] at hw
      refine ⟨o, ho, hg, hd, fun a y hf' hn he => ?_⟩
      exact ex_nil hp (hn 1 _ rfl hw)
    | 3, hu =>
      obtain ⟨o, ho, hg, hd, hp, hw⟩ := o3
      injection hu with hu
      subst hu
      simp only [List.all_cons, List.all_nil, Bool.and_true] at hw
      refine ⟨o, ho, hg, hd, fun a y hf' hn he => ?_⟩
      exact ex_fldP P 2 (by decide) hp (hn 2 _ rfl hw)
    | 4, hu =>
      obtain ⟨o, ho, hg, hd, hp, hw⟩ := o4
      injection hu with hu
      subst hu
      simp only [List.all_cons, List.all_nil, Bool.and_true] at hw
      refine ⟨o, ho, hg, hd, fun a y hf' hn he => ?_⟩
      exact ex_ld agI8 hp (hn 3 _ rfl hw) (bx_row ((show Lq w P b v vs sp c op lab asks d y from by rcases he rfl with hq | ⟨_, hq⟩; exact hq; exact hq.choose_spec.2.2)).q.box 2 (by decide))
    | 5, hu =>
      obtain ⟨o, ho, hg, hd, hp, hw⟩ := o5
      injection hu with hu
      subst hu
      refine ⟨o, ho, hg, hd, fun a y hf' hn he => ?_⟩
      exact ex_move hp (q0 hf')
    | 6, hu =>
      obtain ⟨o, ho, hg, hd, hp, hw⟩ := o6
      injection hu with hu
      subst hu
      simp only [List.all_cons, List.all_nil, Bool.and_true] at hw
      refine ⟨o, ho, hg, hd, fun a y hf' hn he => ?_⟩
      exact ex_nil hp (hn 5 _ rfl hw)
    | 7, hu =>
      obtain ⟨o, ho, hg, hd, hp, hw⟩ := o7
      injection hu with hu
      subst hu
      simp only [List.all_cons, List.all_nil, Bool.and_true] at hw
      refine ⟨o, ho, hg, hd, fun a y hf' hn he => ?_⟩
      exact ex_fldP P 0 (by decide) hp (hn 6 _ rfl hw)
    | 8, hu =>
      obtain ⟨o, ho, hg, hd, hp, hw⟩ := o8
      injection hu with hu
      subst hu
      simp only [List.all_cons, List.all_nil, Bool.and_true] at hw
      refine ⟨o, ho, hg, hd, fun a y hf' hn he => ?_⟩
      exact ex_ld agU8 hp (hn 7 _ rfl hw) (hb0v ▸ bx_row ((show Lq w P b v vs sp c op lab asks d y from by rcases he rfl with hq | ⟨_, hq⟩; exact hq; exact hq.choose_spec.2.2)).q.box 0 (by decide))
    | 9, hu =>
      obtain ⟨o, ho, hg, hd, hp, hw⟩ := o9
      injection hu with hu
      subst hu
      simp only [List.all_cons, List.all_nil, Bool.and_true] at hw
      refine ⟨o, ho, hg, hd, fun a y hf' hn he => ?_⟩
      exact ex_len hp (hn 8 _ rfl hw)
    | 10, hu =>
      obtain ⟨o, ho, hg, hd, hp, hw⟩ := o10
      injection hu with hu
      subst hu
      simp only [List.all_cons, List.all_nil, Bool.and_true] at hw
      refine ⟨o, ho, hg, hd, fun a y hf' hn he => ?_⟩
      exact ex_add hnb hp (hn 9 _ rfl hw)
    | 13, hu =>
      obtain ⟨o, ho, hg, hd, hp, hw⟩ := o13
      injection hu with hu
      subst hu
      simp only [List.all_cons, List.all_nil, Bool.and_true] at hw
      refine ⟨o, ho, hg, hd, fun a y hf' hn he => ?_⟩
      exact ex_nil hp (hn 0 _ rfl hw)
    | 14, hu =>
      obtain ⟨o, ho, hg, hd, hp, hw⟩ := o14
      injection hu with hu
      subst hu
      simp only [List.all_cons, List.all_nil, Bool.and_true] at hw
      refine ⟨o, ho, hg, hd, fun a y hf' hn he => ?_⟩
      exact ex_fldP P 2 (by decide) hp (hn 13 _ rfl hw)
  · obtain ⟨o, ho, hg, hd, hp, hw⟩ := o11
    simp only [List.all_cons, List.all_nil, Bool.and_true] at hw
    refine ⟨o, ho, fun a y K' hf' hn h0 k' => ?_⟩
    refine wpOp_list ho ((bsI (512 + nb)) _ _ _ _ _ _ _ hg hp (hn 10 _ rfl hw) ?_)
    rw [hd]
    exact k' _ _ ⟨y.heap.size, rfl, alloc_last' y _, h0.keep (below1 y _)⟩
  · obtain ⟨o, ho, hg, hd, hp, hw⟩ := o12
    simp only [List.all_cons, List.all_nil, Bool.and_true, Bool.and_eq_true] at hw
    refine ⟨o, ho, fun a y K' hf' hn h1 k' => ?_⟩
    obtain ⟨g0, e1, hb, h2⟩ := h1
    refine wpOp_list ho (at_appL kI1 hg _ _ hp w.heap.size (v 2) l (hn 4 _ rfl hw.1) (own h2) g0 (512 + nb) e1 hb (by omega) h2.q.low.size fun v' z AA => ?_)
    rw [hd]
    exact k' _ _ ⟨y, h2, AA⟩
  · obtain ⟨o, ho, hg, hd, hp, hw⟩ := o15
    simp only [List.all_cons, List.all_nil, Bool.and_true, Bool.and_eq_true] at hw
    refine ⟨o, ho, fun a y K' hf' hn h2 k' => ?_⟩
    obtain ⟨y1, hL, AA⟩ := h2
    obtain ⟨r1, r2, r3, r4⟩ := app1_q AA.out
    obtain ⟨sp2, c2, e2, _⟩ := AA.out.own.open kI1.len
    have hset := hL.set (by decide) (by rw [show tyQ 2 = 3 from rfl]; exact r1) r2 r3 r4
    refine wpOp_skip ho hg (ex_st stI hp (hn 14 _ rfl hw.1) e2 (bx_row hset.1 2 (by decide)) (hset.1.fz 2)) ?_
    rw [hd]
    refine k' _ ⟨a.eval (.tmp (b0 + 12)), ?_⟩
    rw [← e2]
    exact hset.2.2.2
def VH (P nb cb : Nat) (sb : Option Addr) (vk : Value) : Nat → Option Value
  | 0 => some (.pointer (some ⟨P, 0, none⟩))
  | 1 => some (.pointer (some ⟨P, 0, none⟩))
  | 2 => some (.pointer (some ⟨P, 0, none⟩))
  | 3 => some (.pointer (some ⟨P, 5, none⟩))
  | 4 => some (vk)
  | 5 => some (.pointer (some ⟨P, 0, none⟩))
  | 6 => some (.pointer (some ⟨P, 0, none⟩))
  | 7 => some (.pointer (some ⟨P, 0, none⟩))
  | 8 => some (.slice sb nb cb)
  | 9 => some (.int .i64 (nb : Int))
  | 12 => some (.pointer (some ⟨P, 0, none⟩))
  | 13 => some (.pointer (some ⟨P, 5, none⟩))
  | _ => none
theorem ltH {i : Nat} (h : i < 14) : i = 0 ∨ i = 1 ∨ i = 2 ∨ i = 3 ∨ i = 4 ∨ i = 5 ∨ i = 6 ∨ i = 7 ∨ i = 8 ∨ i = 9 ∨ i = 10 ∨ i = 11 ∨ i = 12 ∨ i = 13 := by omega
def EH (i : Nat) : Bool := Nat.beq i 4 || Nat.beq i 8
/-- A region in which a place put behind the sixth row. -/
theorem regH {ops : Array Oper} {Q : Exit → Act → World → Prop} {id : Nat} {A : Act} {y0 : World} (w : World) (P b : Nat) (v : Nat → Value) (vs : Nat → List Value) (sp : Option Addr) (c op : Nat) (lab asks : ByteArray) (d : List UInt8) (sb : Option Addr) (nb cb : Nat) (l : List Nat) (hb0v : v 0 = .slice sb nb cb)
    (hvs : vs 5 = l.map (fun a : Nat => Value.int .i64 (a : Int))) (hl : l.length ≤ 1000000) (b0 : Nat) (hA : b0 + 14 ≤ A.tmps.size) (h8 : 8 < b0) (e0 : A.eval (.tmp 0) = .pointer (some ⟨P, 0, none⟩)) (e8 : A.eval (.tmp 8) = .pointer (some ⟨b, 0, none⟩)) (hsz : ops.size = 15) (hup : upB .any ops = true)
    (o0 : OpB ops 0 (some b0) (.move (.tmp 0)) [])
    (o1 : OpB ops 1 (some (b0 + 1)) (.move (.tmp 0)) [])
    (o2 : OpB ops 2 (some (b0 + 2)) (.nilCheck (.tmp (b0 + 1))) [1])
    (o3 : OpB ops 3 (some (b0 + 3)) (.fieldAddr 88 (.tmp (b0 + 2)) 5) [2])
    (o4 : OpB ops 4 (some (b0 + 4)) (.load 85 (.tmp (b0 + 3))) [3])
    (o5 : OpB ops 5 (some (b0 + 5)) (.move (.tmp 0)) [])
    (o6 : OpB ops 6 (some (b0 + 6)) (.nilCheck (.tmp (b0 + 5))) [5])
    (o7 : OpB ops 7 (some (b0 + 7)) (.fieldAddr 88 (.tmp (b0 + 6)) 0) [6])
    (o8 : OpB ops 8 (some (b0 + 8)) (.load 45 (.tmp (b0 + 7))) [7])
    (o9 : OpB ops 9 (some (b0 + 9)) (.call { callee := .builtin .len, args := #[.tmp (b0 + 8)], argTypes := #[45] }) [8])
    (o10 : OpB ops 10 (some (b0 + 10)) (.buildSlice 85 1 #[(0, .tmp (b0 + 9))]) [9])
    (o11 : OpB ops 11 (some (b0 + 11)) (.call { callee := .builtin .append, args := #[.tmp (b0 + 4), .tmp (b0 + 10)], argTypes := #[85, 85] }) [4, 10])
    (o12 : OpB ops 12 (some (b0 + 12)) (.nilCheck (.tmp b0)) [0])
    (o13 : OpB ops 13 (some (b0 + 13)) (.fieldAddr 88 (.tmp (b0 + 12)) 5) [12])
    (o14 : OpB ops 14 none (.store 85 (.tmp (b0 + 13)) (.tmp (b0 + 11))) [13, 11])
    (a4 : ancB ops 15 11 4 = true)
    (a8 : ancB ops 15 11 8 = true)
    (aB : ancB ops 15 11 10 = true) (aC : ancB ops 15 14 11 = true)
    (h : Lq w P b v vs sp c op lab asks d y0) (fin : ∀ (vals : List Value) (z : World) (v' : Value), vals.length = 14 → Hid (Lq w P b (upQ v 5 v') (upQ vs 5 (l.map (fun a : Nat => Value.int .i64 (a : Int)) ++ [.int .i64 (nb : Int)])) sp c op lab asks d z) → Q .normal (puts A b0 vals) z) : (Code.region id ops true).wp Tryd.prog Q A y0 := by
  have own : ∀ {y : World}, Lq w P b v vs sp c op lab asks d y → OwnL 3 1 (fun a => [(fun a : Nat => Value.int .i64 (a : Int)) a]) w.heap.size y (v 5) l := fun hh => OwnL.vals.2 (by have := hh.q.own 5 (by decide); rw [hvs, show tyQ 5 = 3 from rfl] at this; exact this)
  refine region_app (b := b0) (n := 14) (iB := 10) (iC := 11) (V := VH P nb cb sb (v 5)) (E := EH) (P0 := fun y => Lq w P b v vs sp c op lab asks d y) (P1 := fun v' y => ∃ g0, v' = .slice (some ⟨g0, 0, none⟩) 1 1 ∧ Bx y g0 #[(.int .i64 (nb : Int))] 3 ∧ Lq w P b v vs sp c op lab asks d y) (P2 := fun v' y => ∃ y1, Lq w P b v vs sp c op lab asks d y1 ∧ Hid (App1L 3 1 (fun a => [(fun a : Nat => Value.int .i64 (a : Int)) a]) w.heap.size (v 5) l nb v' y1 y)) (P3 := fun z => ∃ v', Lq w P b (upQ v 5 v') (upQ vs 5 (l.map (fun a : Nat => Value.int .i64 (a : Int)) ++ [.int .i64 (nb : Int)])) sp c op lab asks d z) (by kernel_rfl) hup hA ?_ h.drew (fun vals z hv hz => by obtain ⟨v', hz⟩ := hz; exact fin vals z v' hv hz)
  have q0 : ∀ {a : Act}, FrR b0 14 A a → a.eval (.tmp 0) = .pointer (some ⟨P, 0, none⟩) := fun hf' => (hf'.ev 0 (.inl (by omega))).trans e0
  have q8 : ∀ {a : Act}, FrR b0 14 A a → a.eval (.tmp 8) = .pointer (some ⟨b, 0, none⟩) := fun hf' => (hf'.ev 8 (.inl h8)).trans e8
  refine ⟨hsz, by decide, by decide, by decide, rfl, rfl, ?_, ?_, ?_, ⟨_, aB⟩, ⟨_, aC⟩, ?_, ?_, ?_, ?_⟩
  · intro i u hu
    match i, hu with
    | 0, _ => exact (by decide)
    | 1, _ => exact (by decide)
    | 2, _ => exact (by decide)
    | 3, _ => exact (by decide)
    | 4, _ => exact (by decide)
    | 5, _ => exact (by decide)
    | 6, _ => exact (by decide)
    | 7, _ => exact (by decide)
    | 8, _ => exact (by decide)
    | 9, _ => exact (by decide)
    | 12, _ => exact (by decide)
    | 13, _ => exact (by decide)
  · intro i hi h1 h2
    rcases ltH hi with rfl | rfl | rfl | rfl | rfl | rfl | rfl | rfl | rfl | rfl | rfl | rfl | rfl | rfl
    · rfl
    · rfl
    · rfl
    · rfl
    · rfl
    · rfl
    · rfl
    · rfl
    · rfl
    · rfl
    · exact absurd rfl h1
    · exact absurd rfl h2
    · rfl
    · rfl
  · intro i hi
    unfold EH at hi
    simp only [Bool.or_eq_true] at hi
    rcases hi with hi | hi
    · have : i = 4 := Nat.eq_of_beq_eq_true hi
      subst this
      exact ⟨_, a4⟩
    · have : i = 8 := Nat.eq_of_beq_eq_true hi
      subst this
      exact ⟨_, a8⟩
  · intro i u hu
    match i, hu with
    | 0, hu =>
      obtain ⟨o, ho, hg, hd, hp, hw⟩ := o0
      injection hu with hu
      subst hu
      refine ⟨o, ho, hg, hd, fun a y hf' hn he => ?_⟩
      exact ex_move hp (q0 hf')
    | 1, hu =>
      obtain ⟨o, ho, hg, hd, hp, hw⟩ := o1
      injection hu with hu
      subst hu
      refine ⟨o, ho, hg, hd, fun a y hf' hn he => ?_⟩
      exact ex_move hp (q0 hf')
    | 2, hu =>
      obtain ⟨o, ho, hg, hd, hp, hw⟩ := o2
      injection hu with hu
      subst hu
      simp only [List.all_cons, List.all_nil, Bool.and_true] at hw
      refine ⟨o, ho, hg, hd, fun a y hf' hn he => ?_⟩
      exact ex_nil hp (hn 1 _ rfl hw)
    | 3, hu =>
      obtain ⟨o, ho, hg, hd, hp, hw⟩ := o3
      injection hu with hu
      subst hu
      simp only [List.all_cons, List.all_nil, Bool.and_true] at hw
      refine ⟨o, ho, hg, hd, fun a y hf' hn he => ?_⟩
      exact ex_fldP P 5 (by decide) hp (hn 2 _ rfl hw)
    | 4, hu =>
      obtain ⟨o, ho, hg, hd, hp, hw⟩ := o4
      injection hu with hu
      subst hu
      simp only [List.all_cons, List.all_nil, Bool.and_true] at hw
      refine ⟨o, ho, hg, hd, fun a y hf' hn he => ?_⟩
      exact ex_ld agI8 hp (hn 3 _ rfl hw) (bx_row ((show Lq w P b v vs sp c op lab asks d y from by rcases he rfl with hq | ⟨_, hq⟩; exact hq; exact hq.choose_spec.2.2)).q.box 5 (by decide))
    | 5, hu =>
      obtain ⟨o, ho, hg, hd, hp, hw⟩ := o5
      injection hu with hu
      subst hu
      refine ⟨o, ho, hg, hd, fun a y hf' hn he => ?_⟩
      exact ex_move hp (q0 hf')
    | 6, hu =>
      obtain ⟨o, ho, hg, hd, hp, hw⟩ := o6
      injection hu with hu
      subst hu
      simp only [List.all_cons, List.all_nil, Bool.and_true] at hw
      refine ⟨o, ho, hg, hd, fun a y hf' hn he => ?_⟩
      exact ex_nil hp (hn 5 _ rfl hw)
    | 7, hu =>
      obtain ⟨o, ho, hg, hd, hp, hw⟩ := o7
      injection hu with hu
      subst hu
      simp only [List.all_cons, List.all_nil, Bool.and_true] at hw
      refine ⟨o, ho, hg, hd, fun a y hf' hn he => ?_⟩
      exact ex_fldP P 0 (by decide) hp (hn 6 _ rfl hw)
    | 8, hu =>
      obtain ⟨o, ho, hg, hd, hp, hw⟩ := o8
      injection hu with hu
      subst hu
      simp only [List.all_cons, List.all_nil, Bool.and_true] at hw
      refine ⟨o, ho, hg, hd, fun a y hf' hn he => ?_⟩
      exact ex_ld agU8 hp (hn 7 _ rfl hw) (hb0v ▸ bx_row ((show Lq w P b v vs sp c op lab asks d y from by rcases he rfl with hq | ⟨_, hq⟩; exact hq; exact hq.choose_spec.2.2)).q.box 0 (by decide))
    | 9, hu =>
      obtain ⟨o, ho, hg, hd, hp, hw⟩ := o9
      injection hu with hu
      subst hu
      simp only [List.all_cons, List.all_nil, Bool.and_true] at hw
      refine ⟨o, ho, hg, hd, fun a y hf' hn he => ?_⟩
      exact ex_len hp (hn 8 _ rfl hw)
    | 12, hu =>
      obtain ⟨o, ho, hg, hd, hp, hw⟩ := o12
      injection hu with hu
      subst hu
      simp only [List.all_cons, List.all_nil, Bool.and_true] at hw
      refine ⟨o, ho, hg, hd, fun a y hf' hn he => ?_⟩
      exact ex_nil hp (hn 0 _ rfl hw)
    | 13, hu =>
      obtain ⟨o, ho, hg, hd, hp, hw⟩ := o13
      injection hu with hu
      subst hu
      simp only [List.all_cons, List.all_nil, Bool.and_true] at hw
      refine ⟨o, ho, hg, hd, fun a y hf' hn he => ?_⟩
      exact ex_fldP P 5 (by decide) hp (hn 12 _ rfl hw)
  · obtain ⟨o, ho, hg, hd, hp, hw⟩ := o10
    simp only [List.all_cons, List.all_nil, Bool.and_true] at hw
    refine ⟨o, ho, fun a y K' hf' hn h0 k' => ?_⟩
    refine wpOp_list ho ((bsI nb) _ _ _ _ _ _ _ hg hp (hn 9 _ rfl hw) ?_)
    rw [hd]
    exact k' _ _ ⟨y.heap.size, rfl, alloc_last' y _, h0.keep (below1 y _)⟩
  · obtain ⟨o, ho, hg, hd, hp, hw⟩ := o11
    simp only [List.all_cons, List.all_nil, Bool.and_true, Bool.and_eq_true] at hw
    refine ⟨o, ho, fun a y K' hf' hn h1 k' => ?_⟩
    obtain ⟨g0, e1, hb, h2⟩ := h1
    refine wpOp_list ho (at_appL kI1 hg _ _ hp w.heap.size (v 5) l (hn 4 _ rfl hw.1) (own h2) g0 nb e1 hb (by omega) h2.q.low.size fun v' z AA => ?_)
    rw [hd]
    exact k' _ _ ⟨y, h2, AA⟩
  · obtain ⟨o, ho, hg, hd, hp, hw⟩ := o14
    simp only [List.all_cons, List.all_nil, Bool.and_true, Bool.and_eq_true] at hw
    refine ⟨o, ho, fun a y K' hf' hn h2 k' => ?_⟩
    obtain ⟨y1, hL, AA⟩ := h2
    obtain ⟨r1, r2, r3, r4⟩ := app1_q AA.out
    obtain ⟨sp2, c2, e2, _⟩ := AA.out.own.open kI1.len
    have hset := hL.set (by decide) (by rw [show tyQ 5 = 3 from rfl]; exact r1) r2 r3 r4
    refine wpOp_skip ho hg (ex_st stI hp (hn 13 _ rfl hw.1) e2 (bx_row hset.1 5 (by decide)) (hset.1.fz 5)) ?_
    rw [hd]
    refine k' _ ⟨a.eval (.tmp (b0 + 11)), ?_⟩
    rw [← e2]
    exact hset.2.2.2
def VJ (P b : Nat) (vk : Value) : Nat → Option Value
  | 0 => some (.pointer (some ⟨P, 0, none⟩))
  | 1 => some (.pointer (some ⟨P, 0, none⟩))
  | 2 => some (.pointer (some ⟨P, 0, none⟩))
  | 3 => some (.pointer (some ⟨P, 0, none⟩))
  | 4 => some (vk)
  | 5 => some (.pointer (some ⟨b, 0, none⟩))
  | 8 => some (.pointer (some ⟨P, 0, none⟩))
  | 9 => some (.pointer (some ⟨P, 0, none⟩))
  | _ => none
theorem ltJ {i : Nat} (h : i < 10) : i = 0 ∨ i = 1 ∨ i = 2 ∨ i = 3 ∨ i = 4 ∨ i = 5 ∨ i = 6 ∨ i = 7 ∨ i = 8 ∨ i = 9 := by omega
def EJ (i : Nat) : Bool := Nat.beq i 4
/-- A region in which the item's bytes put behind the first row. -/
theorem regJ {ops : Array Oper} {Q : Exit → Act → World → Prop} {id : Nat} {A : Act} {y0 : World} (w : World) (P b : Nat) (v : Nat → Value) (vs : Nat → List Value) (sp : Option Addr) (c op : Nat) (lab asks : ByteArray) (d : List UInt8) (l : List UInt8) (hdl : d.length ≤ 1000000)
    (hvs : vs 0 = l.map (byV)) (hl : l.length ≤ 1000000) (b0 : Nat) (hA : b0 + 10 ≤ A.tmps.size) (h8 : 8 < b0) (e0 : A.eval (.tmp 0) = .pointer (some ⟨P, 0, none⟩)) (e8 : A.eval (.tmp 8) = .pointer (some ⟨b, 0, none⟩)) (hsz : ops.size = 11) (hup : upB .any ops = true)
    (o0 : OpB ops 0 (some b0) (.move (.tmp 0)) [])
    (o1 : OpB ops 1 (some (b0 + 1)) (.move (.tmp 0)) [])
    (o2 : OpB ops 2 (some (b0 + 2)) (.nilCheck (.tmp (b0 + 1))) [1])
    (o3 : OpB ops 3 (some (b0 + 3)) (.fieldAddr 88 (.tmp (b0 + 2)) 0) [2])
    (o4 : OpB ops 4 (some (b0 + 4)) (.load 45 (.tmp (b0 + 3))) [3])
    (o5 : OpB ops 5 (some (b0 + 5)) (.fieldAddr 111 (.tmp 8) 0) [])
    (o6 : OpB ops 6 (some (b0 + 6)) (.load 45 (.tmp (b0 + 5))) [5])
    (o7 : OpB ops 7 (some (b0 + 7)) (.call { callee := .builtin .append, args := #[.tmp (b0 + 4), .tmp (b0 + 6)], argTypes := #[45, 45] }) [4, 6])
    (o8 : OpB ops 8 (some (b0 + 8)) (.nilCheck (.tmp b0)) [0])
    (o9 : OpB ops 9 (some (b0 + 9)) (.fieldAddr 88 (.tmp (b0 + 8)) 0) [8])
    (o10 : OpB ops 10 none (.store 45 (.tmp (b0 + 9)) (.tmp (b0 + 7))) [9, 7])
    (a4 : ancB ops 11 7 4 = true)
    (aB : ancB ops 11 7 6 = true) (aC : ancB ops 11 10 7 = true)
    (h : Lq w P b v vs sp c op lab asks d y0) (fin : ∀ (vals : List Value) (z : World) (v' : Value), vals.length = 10 → Hid (Lq w P b (upQ v 0 v') (upQ vs 0 (l.map (byV) ++ d.map byV)) sp c op lab asks d z) → Q .normal (puts A b0 vals) z) : (Code.region id ops true).wp Tryd.prog Q A y0 := by
  have own : ∀ {y : World}, Lq w P b v vs sp c op lab asks d y → OwnL 5 1 (fun a => [(byV) a]) w.heap.size y (v 0) l := fun hh => OwnL.vals.2 (by have := hh.q.own 0 (by decide); rw [hvs, show tyQ 0 = 5 from rfl] at this; exact this)
  refine region_app (b := b0) (n := 10) (iB := 6) (iC := 7) (V := VJ P b (v 0)) (E := EJ) (P0 := fun y => Lq w P b v vs sp c op lab asks d y) (P1 := fun v' y => v' = .slice sp d.length c ∧ Lq w P b v vs sp c op lab asks d y) (P2 := fun v' y => ∃ y1, Lq w P b v vs sp c op lab asks d y1 ∧ Hid (AppNL 5 1 cU w.heap.size (v 0) l d v' y1 y)) (P3 := fun z => ∃ v', Lq w P b (upQ v 0 v') (upQ vs 0 (l.map (byV) ++ d.map byV)) sp c op lab asks d z) (by kernel_rfl) hup hA ?_ h.drew (fun vals z hv hz => by obtain ⟨v', hz⟩ := hz; exact fin vals z v' hv hz)
  have q0 : ∀ {a : Act}, FrR b0 10 A a → a.eval (.tmp 0) = .pointer (some ⟨P, 0, none⟩) := fun hf' => (hf'.ev 0 (.inl (by omega))).trans e0
  have q8 : ∀ {a : Act}, FrR b0 10 A a → a.eval (.tmp 8) = .pointer (some ⟨b, 0, none⟩) := fun hf' => (hf'.ev 8 (.inl h8)).trans e8
  refine ⟨hsz, by decide, by decide, by decide, rfl, rfl, ?_, ?_, ?_, ⟨_, aB⟩, ⟨_, aC⟩, ?_, ?_, ?_, ?_⟩
  · intro i u hu
    match i, hu with
    | 0, _ => exact (by decide)
    | 1, _ => exact (by decide)
    | 2, _ => exact (by decide)
    | 3, _ => exact (by decide)
    | 4, _ => exact (by decide)
    | 5, _ => exact (by decide)
    | 8, _ => exact (by decide)
    | 9, _ => exact (by decide)
  · intro i hi h1 h2
    rcases ltJ hi with rfl | rfl | rfl | rfl | rfl | rfl | rfl | rfl | rfl | rfl
    · rfl
    · rfl
    · rfl
    · rfl
    · rfl
    · rfl
    · exact absurd rfl h1
    · exact absurd rfl h2
    · rfl
    · rfl
  · intro i hi
    unfold EJ at hi
    have : i = 4 := Nat.eq_of_beq_eq_true hi
    subst this
    exact ⟨_, a4⟩
  · intro i u hu
    match i, hu with
    | 0, hu =>
      obtain ⟨o, ho, hg, hd, hp, hw⟩ := o0
      injection hu with hu
      subst hu
      refine ⟨o, ho, hg, hd, fun a y hf' hn he => ?_⟩
      exact ex_move hp (q0 hf')
    | 1, hu =>
      obtain ⟨o, ho, hg, hd, hp, hw⟩ := o1
      injection hu with hu
      subst hu
      refine ⟨o, ho, hg, hd, fun a y hf' hn he => ?_⟩
      exact ex_move hp (q0 hf')
    | 2, hu =>
      obtain ⟨o, ho, hg, hd, hp, hw⟩ := o2
      injection hu with hu
      subst hu
      simp only [List.all_cons, List.all_nil, Bool.and_true] at hw
      refine ⟨o, ho, hg, hd, fun a y hf' hn he => ?_⟩
      exact ex_nil hp (hn 1 _ rfl hw)
    | 3, hu =>
      obtain ⟨o, ho, hg, hd, hp, hw⟩ := o3
      injection hu with hu
      subst hu
      simp only [List.all_cons, List.all_nil, Bool.and_true] at hw
      refine ⟨o, ho, hg, hd, fun a y hf' hn he => ?_⟩
      exact ex_fldP P 0 (by decide) hp (hn 2 _ rfl hw)
    | 4, hu =>
      obtain ⟨o, ho, hg, hd, hp, hw⟩ := o4
      injection hu with hu
      subst hu
      simp only [List.all_cons, List.all_nil, Bool.and_true] at hw
      refine ⟨o, ho, hg, hd, fun a y hf' hn he => ?_⟩
      exact ex_ld agU8 hp (hn 3 _ rfl hw) (bx_row ((show Lq w P b v vs sp c op lab asks d y from by rcases he rfl with hq | ⟨_, hq⟩; exact hq; exact hq.2)).q.box 0 (by decide))
    | 5, hu =>
      obtain ⟨o, ho, hg, hd, hp, hw⟩ := o5
      injection hu with hu
      subst hu
      refine ⟨o, ho, hg, hd, fun a y hf' hn he => ?_⟩
      exact ex_fldI b 0 (by decide) hp (q8 hf')
    | 8, hu =>
      obtain ⟨o, ho, hg, hd, hp, hw⟩ := o8
      injection hu with hu
      subst hu
      simp only [List.all_cons, List.all_nil, Bool.and_true] at hw
      refine ⟨o, ho, hg, hd, fun a y hf' hn he => ?_⟩
      exact ex_nil hp (hn 0 _ rfl hw)
    | 9, hu =>
      obtain ⟨o, ho, hg, hd, hp, hw⟩ := o9
      injection hu with hu
      subst hu
      simp only [List.all_cons, List.all_nil, Bool.and_true] at hw
      refine ⟨o, ho, hg, hd, fun a y hf' hn he => ?_⟩
      exact ex_fldP P 0 (by decide) hp (hn 8 _ rfl hw)
  · obtain ⟨o, ho, hg, hd, hp, hw⟩ := o6
    simp only [List.all_cons, List.all_nil, Bool.and_true] at hw
    refine ⟨o, ho, fun a y K' hf' hn h0 k' => ?_⟩
    refine wpOp_val (.slice sp d.length c) ho hg (ex_ld agU8 hp (hn 5 _ rfl hw) (h0.x.c 0 _ rfl)) ?_
    rw [hd]
    exact k' _ _ ⟨rfl, h0⟩
  · obtain ⟨o, ho, hg, hd, hp, hw⟩ := o7
    simp only [List.all_cons, List.all_nil, Bool.and_true, Bool.and_eq_true] at hw
    refine ⟨o, ho, fun a y K' hf' hn h1 k' => ?_⟩
    obtain ⟨e1, h2⟩ := h1
    refine wpOp_list ho (at_appA kU hg _ _ hp w.heap.size (v 0) l (hn 4 _ rfl hw.1) (own h2) sp d.length c d rfl e1 h2.d (by omega) h2.q.low.size fun v' z AA => ?_)
    rw [hd]
    exact k' _ _ ⟨y, h2, AA⟩
  · obtain ⟨o, ho, hg, hd, hp, hw⟩ := o10
    simp only [List.all_cons, List.all_nil, Bool.and_true, Bool.and_eq_true] at hw
    refine ⟨o, ho, fun a y K' hf' hn h2 k' => ?_⟩
    obtain ⟨y1, hL, AA⟩ := h2
    obtain ⟨r1, r2, r3, r4⟩ := appN_q AA.out
    obtain ⟨sp2, c2, e2, _⟩ := AA.out.own.open kU.len
    have hset := hL.set (by decide) (by rw [show tyQ 0 = 5 from rfl]; exact r1) r2 r3 r4
    refine wpOp_skip ho hg (ex_st stU hp (hn 9 _ rfl hw.1) e2 (bx_row hset.1 0 (by decide)) (hset.1.fz 0)) ?_
    rw [hd]
    refine k' _ ⟨a.eval (.tmp (b0 + 7)), ?_⟩
    rw [← e2]
    exact hset.2.2.2
section
variable {a : Act} {o : Oper} {y : World} {x z : Operand}
theorem ex_add2 {j i n m : Nat} (hs : IntKind.i64.wrap ((n : Int) + (m : Int)) = (n : Int) + (m : Int)) (ho : o.op = .binOp .add 3 (.tmp j) (.tmp i) 3) (hx : a.eval (.tmp j) = .int .i64 (n : Int)) (hz : a.eval (.tmp i) = .int .i64 (m : Int)) : (execOp a.eval o).run Tryd.prog y = .ok (.value (.int .i64 ((n : Int) + (m : Int)))) y := by
  simp only [Act.eval, Array.getD_eq_getD_getElem?] at hx hz
  unfold execOp
  simp only [ho]
  go_simp
theorem ex_gtr {j : Nat} {X : Int} {G : Bool} (hG : decide (3232 < X) = G) (ho : o.op = .binOp .gtr 3 (.tmp j) (.const (.int .i64 3232)) 3) (hx : a.eval (.tmp j) = .int .i64 X) : (execOp a.eval o).run Tryd.prog y = .ok (.value (.bool G)) y := by
  simp only [Act.eval, Array.getD_eq_getD_getElem?] at hx
  subst hG
  unfold execOp
  simp only [ho]
  go_simp
end
def VM (P b nb cb nd c : Nat) (sb sp : Option Addr) (G : Bool) : Nat → Option Value
  | 0 => some (.pointer (some ⟨P, 0, none⟩))
  | 1 => some (.pointer (some ⟨P, 0, none⟩))
  | 2 => some (.pointer (some ⟨P, 0, none⟩))
  | 3 => some (.slice sb nb cb)
  | 4 => some (.int .i64 (nb : Int))
  | 5 => some (.pointer (some ⟨b, 0, none⟩))
  | 6 => some (.slice sp nd c)
  | 7 => some (.int .i64 (nd : Int))
  | 8 => some (.int .i64 ((nb : Int) + (nd : Int)))
  | 9 => some (.bool G)
  | _ => none
theorem ltM {i : Nat} (h : i < 10) : i = 0 ∨ i = 1 ∨ i = 2 ∨ i = 3 ∨ i = 4 ∨ i = 5 ∨ i = 6 ∨ i = 7 ∨ i = 8 ∨ i = 9 := by omega
theorem regM {ops : Array Oper} {Q : Exit → Act → World → Prop} {id : Nat} {A : Act} {y0 : World} (P b nb cb nd c : Nat) (sb sp : Option Addr) (G : Bool) (hs : IntKind.i64.wrap ((nb : Int) + (nd : Int)) = (nb : Int) + (nd : Int)) (hG : decide (3232 < (nb : Int) + (nd : Int)) = G) (b0 : Nat) (hA : b0 + 10 ≤ A.tmps.size) (h8 : 8 < b0) (e0 : A.eval (.tmp 0) = .pointer (some ⟨P, 0, none⟩)) (e8 : A.eval (.tmp 8) = .pointer (some ⟨b, 0, none⟩)) (hsz : ops.size = 10) (hup : upB .any ops = true)
    (o0 : OpB ops 0 (some b0) (.move (.tmp 0)) [])
    (o1 : OpB ops 1 (some (b0 + 1)) (.nilCheck (.tmp b0)) [0])
    (o2 : OpB ops 2 (some (b0 + 2)) (.fieldAddr 88 (.tmp (b0 + 1)) 0) [1])
    (o3 : OpB ops 3 (some (b0 + 3)) (.load 45 (.tmp (b0 + 2))) [2])
    (o4 : OpB ops 4 (some (b0 + 4)) (.call { callee := .builtin .len, args := #[.tmp (b0 + 3)], argTypes := #[45] }) [3])
    (o5 : OpB ops 5 (some (b0 + 5)) (.fieldAddr 111 (.tmp 8) 0) [])
    (o6 : OpB ops 6 (some (b0 + 6)) (.load 45 (.tmp (b0 + 5))) [5])
    (o7 : OpB ops 7 (some (b0 + 7)) (.call { callee := .builtin .len, args := #[.tmp (b0 + 6)], argTypes := #[45] }) [6])
    (o8 : OpB ops 8 (some (b0 + 8)) (.binOp .add 3 (.tmp (b0 + 4)) (.tmp (b0 + 7)) 3) [4, 7])
    (o9 : OpB ops 9 (some (b0 + 9)) (.binOp .gtr 3 (.tmp (b0 + 8)) (.const (.int .i64 3232)) 3) [8])
    (hp : y0.drew.cell? ⟨P, 0, none⟩ = some (.slice sb nb cb)) (hx : y0.drew.cell? ⟨b, 0, none⟩ = some (.slice sp nd c)) (fin : Q .normal (puts A b0 [.pointer (some ⟨P, 0, none⟩), .pointer (some ⟨P, 0, none⟩), .pointer (some ⟨P, 0, none⟩), .slice sb nb cb, .int .i64 (nb : Int), .pointer (some ⟨b, 0, none⟩), .slice sp nd c, .int .i64 (nd : Int), .int .i64 ((nb : Int) + (nd : Int)), .bool G]) y0.drew) : (Code.region id ops true).wp Tryd.prog Q A y0 := by
  have q0 : ∀ {a : Act}, FrR b0 10 A a → a.eval (.tmp 0) = .pointer (some ⟨P, 0, none⟩) := fun hf' => (hf'.ev 0 (.inl (by omega))).trans e0
  have q8 : ∀ {a : Act}, FrR b0 10 A a → a.eval (.tmp 8) = .pointer (some ⟨b, 0, none⟩) := fun hf' => (hf'.ev 8 (.inl h8)).trans e8
  refine region_pure (b := b0) (n := 10) (V := VM P b nb cb nd c sb sp G) (by kernel_rfl) hup hA hsz ?_ ?_ fin
  · intro i u hu
    match i, hu with
    | 0, hu =>
      obtain ⟨o, ho, hg, hd, hp', hw⟩ := o0
      injection hu with hu
      subst hu
      refine ⟨by decide, o, ho, hg, hd, fun a hf' hn => ?_⟩
      exact ex_move hp' (q0 hf')
    | 1, hu =>
      obtain ⟨o, ho, hg, hd, hp', hw⟩ := o1
      injection hu with hu
      subst hu
      simp only [List.all_cons, List.all_nil, Bool.and_true] at hw
      refine ⟨by decide, o, ho, hg, hd, fun a hf' hn => ?_⟩
      exact ex_nil hp' (hn 0 _ rfl hw)
    | 2, hu =>
      obtain ⟨o, ho, hg, hd, hp', hw⟩ := o2
      injection hu with hu
      subst hu
      simp only [List.all_cons, List.all_nil, Bool.and_true] at hw
      refine ⟨by decide, o, ho, hg, hd, fun a hf' hn => ?_⟩
      exact ex_fldP P 0 (by decide) hp' (hn 1 _ rfl hw)
    | 3, hu =>
      obtain ⟨o, ho, hg, hd, hp', hw⟩ := o3
      injection hu with hu
      subst hu
      simp only [List.all_cons, List.all_nil, Bool.and_true] at hw
      refine ⟨by decide, o, ho, hg, hd, fun a hf' hn => ?_⟩
      exact ex_ld agU8 hp' (hn 2 _ rfl hw) hp
    | 4, hu =>
      obtain ⟨o, ho, hg, hd, hp', hw⟩ := o4
      injection hu with hu
      subst hu
      simp only [List.all_cons, List.all_nil, Bool.and_true] at hw
      refine ⟨by decide, o, ho, hg, hd, fun a hf' hn => ?_⟩
      exact ex_len hp' (hn 3 _ rfl hw)
    | 5, hu =>
      obtain ⟨o, ho, hg, hd, hp', hw⟩ := o5
      injection hu with hu
      subst hu
      refine ⟨by decide, o, ho, hg, hd, fun a hf' hn => ?_⟩
      exact ex_fldI b 0 (by decide) hp' (q8 hf')
    | 6, hu =>
      obtain ⟨o, ho, hg, hd, hp', hw⟩ := o6
      injection hu with hu
      subst hu
      simp only [List.all_cons, List.all_nil, Bool.and_true] at hw
      refine ⟨by decide, o, ho, hg, hd, fun a hf' hn => ?_⟩
      exact ex_ld agU8 hp' (hn 5 _ rfl hw) hx
    | 7, hu =>
      obtain ⟨o, ho, hg, hd, hp', hw⟩ := o7
      injection hu with hu
      subst hu
      simp only [List.all_cons, List.all_nil, Bool.and_true] at hw
      refine ⟨by decide, o, ho, hg, hd, fun a hf' hn => ?_⟩
      exact ex_len hp' (hn 6 _ rfl hw)
    | 8, hu =>
      obtain ⟨o, ho, hg, hd, hp', hw⟩ := o8
      injection hu with hu
      subst hu
      simp only [List.all_cons, List.all_nil, Bool.and_true, Bool.and_eq_true] at hw
      refine ⟨by decide, o, ho, hg, hd, fun a hf' hn => ?_⟩
      exact ex_add2 hs hp' (hn 4 _ rfl hw.1) (hn 7 _ rfl hw.2)
    | 9, hu =>
      obtain ⟨o, ho, hg, hd, hp', hw⟩ := o9
      injection hu with hu
      subst hu
      simp only [List.all_cons, List.all_nil, Bool.and_true] at hw
      refine ⟨by decide, o, ho, hg, hd, fun a hf' hn => ?_⟩
      exact ex_gtr hG hp' (hn 8 _ rfl hw)
  · intro i hi
    rcases ltM hi with rfl | rfl | rfl | rfl | rfl | rfl | rfl | rfl | rfl | rfl <;> rfl
end Go.Proofs.YthaijjehplomfaaDoor
