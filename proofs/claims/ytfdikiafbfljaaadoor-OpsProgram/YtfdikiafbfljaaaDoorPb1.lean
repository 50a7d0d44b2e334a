/- What a program has so far: its bytes, labels and uses in memory; data taken up. -/
import Derived.Test.YtfdikiafbfljaaaDoorPb0
import Derived.Test.YtfdikiafbfljaaaDoorPa5
import Derived.Test.YtfdikiafbfljaaaDoorNg
import Derived.Test.YtfdikiafbfljaaaDoorLn
namespace Go.Proofs.YtfdikiafbfljaaaDoor
open Go Go.RowKit
set_option linter.unusedVariables false
set_option maxHeartbeats 1000000
set_option maxRecDepth 20000

def byV (b : UInt8) : Value := .int .u8 (b.toNat : Int)
def cU (b : UInt8) : List Value := [byV b]
theorem info_parts {P : Program} {t : TypeId} {z : Option Value} {s b : Nat} (h : (P.info? t).map (fun i => (i.zero, i.size, i.bytes)) = some (z, s, b)) : ∃ i, P.info? t = some i ∧ i.zero = z ∧ i.size = s ∧ i.bytes = b := by
  obtain ⟨i, h1, h2⟩ := Option.map_eq_some_iff.1 h
  simp at h2
  exact ⟨i, h1, h2.1, h2.2.1, h2.2.2⟩
theorem infoU : (Tryd.prog.info? 5).map (fun i => (i.zero, i.size, i.bytes)) = some (some (.int .u8 0), 1, 1) := by kernel_rfl
theorem kU : KdL (α := UInt8) 37 5 1 1 cU := by
  obtain ⟨i, hi, hz0, hz1, hz2⟩ := info_parts infoU
  exact ⟨Tryd.underlying37, ⟨i, _, hi, hz0, hz1, hz2, rfl⟩, fun _ => rfl, fun x v hv => by simp [cU, byV] at hv; subst hv; rfl, by decide, by decide⟩
/-- An order that names a label: its line, its place, the order, the label. -/
structure Us where
  ln : Nat
  pl : Nat
  o : Od
  lb : ByteArray
def usC (u : Us) : List Value := [.int .i64 (u.ln : Int), .int .i64 (u.pl : Int), .int .u8 u.o.op, .int .u8 u.o.x, .int .u8 u.o.y, .int .u8 u.o.n, .int .u8 u.o.b, .int .u16 u.o.a, .string u.lb]
/-- What a program has so far. -/
structure Pg (w : World) (P g : Nat) (vb vu : Value) (bs : List UInt8) (F : ByteArray → Option Nat) (us : List Us) (y : World) : Prop where
  box : Bx y P #[vb, .map (some g), vu] 70
  bs : OwnL 5 1 cU w.heap.size y vb bs
  mp : MapF y g (fun s => (F s).map fun a => .int .u16 (a : Int))
  us : OwnL 105 9 usC w.heap.size y vu us
  geP : w.heap.size ≤ P
  geg : w.heap.size ≤ g
  low : Below w.heap.size w y
/-- What is left alone. -/
def isRec : Obj → Bool
  | .loop _ => true
  | .deferred _ => true
  | _ => false
structure Kp (y y' : World) : Prop where
  sz : y.heap.size ≤ y'.heap.size
  rc : ∀ (q : Nat) (o : Obj), y.heap[q]? = some o → isRec o = true → y'.heap[q]? = some o
  ty : ∀ q cs t, Bx y q cs t → t ≠ 5 → t ≠ 105 → t ≠ 70 → Bx y' q cs t
theorem Kp.refl (y : World) : Kp y y := ⟨Nat.le_refl _, fun _ _ h _ => h, fun _ _ _ h _ _ _ => h⟩
theorem Kp.trans {x y z : World} (h : Kp x y) (k : Kp y z) : Kp x z := ⟨Nat.le_trans h.sz k.sz, fun q o hx hr => k.rc q o (h.rc q o hx hr) hr, fun q cs t hx a b c => k.ty q cs t (h.ty q cs t hx a b c) a b c⟩
theorem Kp.of_below {y z : World} (h : Below y.heap.size y z) : Kp y z := ⟨h.size, fun q o hx _ => (h.block q (Array.getElem?_eq_some_iff.1 hx).1).trans hx, fun q cs t hx _ _ _ => (h.block q (heap_lt hx)).trans hx⟩
theorem Pg.below {w : World} {P g : Nat} {vb vu : Value} {bs : List UInt8} {F : ByteArray → Option Nat} {us : List Us} {y z : World} (h : Pg w P g vb vu bs F us y) (hb : Below y.heap.size y z) : Pg w P g vb vu bs F us z :=
  ⟨(hb.block P (heap_lt h.box)).trans h.box, h.bs.below hb, h.mp.keep (hb.block g h.mp.lt), h.us.below hb, h.geP, h.geg, h.low.trans (hb.mono h.low.size)⟩
theorem map_ne {y : World} {g b t : Nat} {F : ByteArray → Option Value} {cs : Array Value} (h : MapF y g F) (hx : Bx y b cs t) : g ≠ b := fun e => by
  obtain ⟨es, ck, hm⟩ := h.block
  subst e
  unfold Bx at hx
  rw [hm] at hx
  cases hx
theorem rec_ne {y : World} {q b t : Nat} {o : Obj} {cs : Array Value} (ho : y.heap[q]? = some o) (hr : isRec o = true) (hx : Bx y b cs t) : q ≠ b := fun e => by
  subst e
  unfold Bx at hx
  rw [hx] at ho
  cases ho
  cases hr
theorem rec_nm {y : World} {q g : Nat} {o : Obj} {F : ByteArray → Option Value} (ho : y.heap[q]? = some o) (hr : isRec o = true) (h : MapF y g F) : q ≠ g := fun e => by
  obtain ⟨es, ck, hm⟩ := h.block
  subst e
  rw [hm] at ho
  cases ho
  cases hr
/-- Bytes put behind, the box not yet written. -/
theorem Pg.app {w : World} {P g : Nat} {vb vu : Value} {bs : List UInt8} {F : ByteArray → Option Nat} {us : List Us} {y z : World} {v' : Value} {us' : List UInt8} (h : Pg w P g vb vu bs F us y) (A : AppNL 5 1 cU w.heap.size vb bs us' v' y z) :
    Bx z P #[vb, .map (some g), vu] 70 ∧ OwnL 5 1 cU w.heap.size z v' (bs ++ us') ∧ MapF z g (fun s => (F s).map fun a => .int .u16 (a : Int)) ∧ OwnL 105 9 usC w.heap.size z vu us ∧ Below w.heap.size w z ∧ Kp y z := by
  have off : ∀ q cs t, Bx y q cs t → t ≠ 5 → z.heap[q]? = y.heap[q]? := fun q cs t hx ht => A.cu.blk q (heap_lt hx) fun j hF => by
    obtain ⟨cs', hx'⟩ := h.bs.ty q hF.1
    exact Bx.unlike hx hx' ht rfl
  refine ⟨(off P _ _ h.box (by decide)).trans h.box, A.own, h.mp.keep (A.cu.blk g h.mp.lt fun j hF => ?_), h.us.keepB fun q e => ?_, h.low.trans A.cu.low, A.cu.low.size |> fun _ => ⟨?_, fun q o hx hr => ?_, fun q cs t hx a _ _ => (off q cs t hx a).trans hx⟩⟩
  · obtain ⟨cs', hx'⟩ := h.bs.ty g hF.1
    exact map_ne h.mp hx' rfl
  · obtain ⟨cs, hx⟩ := h.us.ty q e
    exact off q cs _ hx (by decide)
  · exact A.cu.low.size
  · refine (A.cu.blk q (Array.getElem?_eq_some_iff.1 hx).1 fun j hF => ?_).trans hx
    obtain ⟨cs', hx'⟩ := h.bs.ty q hF.1
    exact rec_ne hx hr hx' rfl
/-- The box written. -/
theorem Pg.put {w : World} {P g : Nat} {vb vu vb' : Value} {bs : List UInt8} {F : ByteArray → Option Nat} {us : List Us} {z x : World} (hbox : Bx z P #[vb, .map (some g), vu] 70) (hb : OwnL 5 1 cU w.heap.size z vb' bs) (hm : MapF z g (fun s => (F s).map fun a => .int .u16 (a : Int))) (hu : OwnL 105 9 usC w.heap.size z vu us) (gP : w.heap.size ≤ P) (gg : w.heap.size ≤ g) (low : Below w.heap.size w z)
    (hx : x = z.setCell ⟨P, 0, none⟩ vb') : Pg w P g vb' vu bs F us x ∧ Kp z x := by
  subst hx
  have oth : ∀ q, q ≠ P → (z.setCell ⟨P, 0, none⟩ vb').heap[q]? = z.heap[q]? := fun q hq => heap_setCell_other z ⟨P, 0, none⟩ q vb' hq
  refine ⟨⟨heap_setCell_same z P 0 _ _ vb' hbox, hb.keepB fun q e => oth q fun e' => ?_, hm.keep (oth g (map_ne hm hbox)), hu.keepB fun q e => oth q fun e' => ?_, gP, gg, low.trans ((Below.refl _ z).setCell (p := ⟨P, 0, none⟩) gP vb')⟩, by simp, fun q o hx hr => (oth q (rec_ne hx hr hbox)).trans hx, fun q cs t hx _ _ hp => (oth q (Bx.unlike hx hbox hp)).trans hx⟩
  · obtain ⟨cs, hx⟩ := hb.ty q e
    subst e'
    exact Bx.unlike hx hbox (by decide) rfl
  · obtain ⟨cs, hx⟩ := hu.ty q e
    subst e'
    exact Bx.unlike hx hbox (by decide) rfl
/-- Words in a row of strings, from some place on. -/
def WdsAt (y : World) (gw ow : Nat) (ws : List ByteArray) : Prop := ∃ cs, Bx y gw cs 9 ∧ ∀ j s, ws[j]? = some s → cs[ow + j]? = some (.string s)
theorem WdsAt.kp {y z : World} {gw ow : Nat} {ws : List ByteArray} (h : WdsAt y gw ow ws) (k : Kp y z) : WdsAt z gw ow ws := by
  obtain ⟨cs, hx, hc⟩ := h
  exact ⟨cs, k.ty _ _ _ hx (by decide) (by decide) (by decide), hc⟩
theorem WdsAt.cell {y : World} {gw ow : Nat} {ws : List ByteArray} (h : WdsAt y gw ow ws) (j : Nat) (s : ByteArray) (hj : ws[j]? = some s) : y.cell? ⟨gw, ow + j, none⟩ = some (.string s) := by
  obtain ⟨cs, hx, hc⟩ := h
  exact hx.c _ _ (hc j s hj)
theorem WdsAt.lies {y : World} {gw ow : Nat} {ws : List ByteArray} (h : WdsAt y gw ow ws) : LiesL 1 strC y (some ⟨gw, ow, none⟩) ws := fun j s hj => ⟨gw, ow, rfl, fun i v hv => by
  have hi : i < 1 := (List.getElem?_eq_some_iff.1 hv).1
  have e : i = 0 := by omega
  subst e
  have ev : v = .string s := by simpa [strC] using hv.symm
  subst ev
  have := h.cell j s hj
  rw [Nat.mul_one, Nat.add_zero]
  exact this⟩
/-- The bytes that words tell. -/
def datW : List ByteArray → Option (List UInt8)
  | [] => some []
  | s :: ws => match numK s.data.toList 2 with | none => none | some v => (datW ws).map (UInt8.ofNat v :: ·)
def TdE (w : World) (P g : Nat) (vu : Value) (bs : List UInt8) (F : ByteArray → Option Nat) (us : List Us) (y : World) (ws : List ByteArray) (e : Ending) (z : World) : Prop :=
  (∃ vb' d, e = .returned (.bool true) ∧ datW ws = some d ∧ ws ≠ [] ∧ Pg w P g vb' vu (bs ++ d) F us z ∧ Kp y z) ∨ (e = .returned (.bool false) ∧ (datW ws = none ∨ ws = []) ∧ Below w.heap.size w z ∧ Kp y z)
end Go.Proofs.YtfdikiafbfljaaaDoor
