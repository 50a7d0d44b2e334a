/- The first row of which something is so; Decode's and Encode's own questions. The row of a word, the row of an order; a word as an order: Decode. -/
import Derived.Test.YthaijjehplomfaaDoorJ6
namespace Go.Proofs.YthaijjehplomfaaDoor
open Go Go.RowKit
set_option linter.unusedVariables false
set_option maxHeartbeats 1000000
set_option maxRecDepth 20000

theorem ret_two {P : Program} {a : Act} {w : World} {t : TypeId} {n : Nat} {fn : Func} {R' : Ending → World → Prop} {p u : Tmp} {b : Nat} {cs : Array Value} {v : Value} (R : Rt P t n) (hr : fn.results = #[.cell p t, .tmp u]) (hp : a.tmps.getD p undef = .pointer (some ⟨b, 0, none⟩)) (hu : a.tmps.getD u undef = v) (h : Bx w b cs t) (hs : cs.size = n) (hd : a.defers = []) (hR : R' (.returned (.tuple #[.agg cs, v])) w) : bodyPost P fn R' .ret a w := by
  obtain ⟨d, hu9, hd'⟩ := R.u
  refine bodyPost_ret ?_ hd hR
  have hl := run_loadVar_row (P := P) w b t t cs (0, 0) d h hu9 (by cases d <;> first | rfl | exact hd') (by rw [hs]; exact R.i)
  have hp9 : a.tmps[p]?.getD undef = .pointer (some ⟨b, 0, none⟩) := by simpa using hp
  have hu9 : a.tmps[u]?.getD undef = v := by simpa using hu
  simp [results, hr, hp9, hu9, asAddr, hl, Result.andThen]
/-- One block more that a call has made. -/
theorem Fm.more {w : World} {l : List (Nat × Array Value × TypeId)} {y y' : World} (h : Fm w l y) (hb : Below y.heap.size y y') (g : Nat) (cs : Array Value) (t : TypeId) (hg : y.heap.size ≤ g) (hx : Bx y' g cs t) : Fm w (l ++ [(g, cs, t)]) y' := by
  have hb' := h.below hb
  have key : ∀ (i b : Nat) (cs' : Array Value) (t' : TypeId), (l ++ [(g, cs, t)])[i]? = some (b, cs', t') → l[i]? = some (b, cs', t') ∧ i < l.length ∨ i = l.length ∧ b = g ∧ cs' = cs ∧ t' = t := by
    intro i b cs' t' e
    rcases Nat.lt_or_ge i l.length with hi | hi
    · rw [List.getElem?_append_left hi] at e; exact .inl ⟨e, hi⟩
    · rw [List.getElem?_append_right hi] at e
      rcases Nat.eq_or_lt_of_le hi with h0 | h0
      · rw [← h0, Nat.sub_self] at e
        simp at e
        exact .inr ⟨h0.symm, e.1.symm, e.2.1.symm, e.2.2.symm⟩
      · rw [List.getElem?_eq_none (by simp; omega)] at e; cases e
  refine ⟨fun i b cs' t' e => ?_, fun i b cs' t' e => ?_, fun i j b c1 c2 t1 t2 e1 e2 => ?_, hb'.low⟩
  · rcases key i b cs' t' e with ⟨k, _⟩ | ⟨_, rfl, rfl, rfl⟩
    · exact hb'.get i b cs' t' k
    · exact hx
  · rcases key i b cs' t' e with ⟨k, _⟩ | ⟨_, rfl, rfl, rfl⟩
    · exact h.ge i b cs' t' k
    · exact Nat.le_trans h.low.size hg
  · rcases key i b c1 t1 e1 with ⟨k1, l1⟩ | ⟨k1, kb, _⟩ <;> rcases key j b c2 t2 e2 with ⟨k2, l2⟩ | ⟨k2, kb2, _⟩
    · exact h.ne i j b c1 c2 t1 t2 k1 k2
    · exact absurd (heap_lt (h.get i b c1 t1 k1)) (by omega)
    · exact absurd (heap_lt (h.get j b c2 t2 k2)) (by omega)
    · omega
def zR : Array Value := #[.int .u8 0, .int .u16 0, .string ⟨#[]⟩, .slice none 0 0]
theorem rwC_one (sp : Nat → Option Addr) (i : Nat) : (rwC sp i).toArray.all (·.oneCell') = true := by simp [rwC, Value.oneCell']
theorem rows_lies {y : World} {g : Nat} {sp : Nat → Option Addr} (h : Bx y g (rowL (rwC sp) (List.range 31)).toArray 51) (p : Nat) (hp : p < 31) : y.rangeAt g (p * 4) (rwC sp p) := fun i v hv => by
  have hi : i < 4 := (List.getElem?_eq_some_iff.1 hv).1
  refine h.c (p * 4 + i) v ?_
  rw [List.getElem?_toArray, rowL_at (s := 4) (fun _ => rfl) (List.range 31) p i p (by rw [List.getElem?_range hp]) hi]
  exact hv
/-- What find answers. -/
def FdE (w : World) (q : Nat → Bool) (e : Ending) (w' : World) : Prop := Below w.heap.size w w' ∧ ((∃ i sp, fstI q 31 = some i ∧ i < 31 ∧ e = .returned (.tuple #[.agg (rwC sp i).toArray, .bool true]) ∧ FsL w' (sp i) (fsR i)) ∨ (fstI q 31 = none ∧ e = .returned (.tuple #[.agg zR, .bool false])))
theorem find_any (w : World) (cb : Nat) (lb : Array Value) (q : Nat → Bool) (ecb : ∀ args w, (callFunc cb args).run Tryd.prog w = .ok (.enter cb args) w)
    (hcb : Hid (∀ i, i < 31 → ∀ (sp : Nat → Option Addr) (y : World), Below w.heap.size w y → LiesL 5 fdC y (sp i) (fsR i) → Calls Tryd.prog cb (#[.agg (rwC sp i).toArray] ++ lb) y fun e y' => e = .returned (.bool (q i)) ∧ Below y.heap.size y y')) :
    Calls Tryd.prog 17 #[.func (.func cb) #[] lb] w (FdE w q) := by
  have hB : Hid (Fm w [(w.heap.size, zR, 51)] (w.alloc (.cells #[.int .u8 0, .int .u16 0, .string ⟨#[]⟩, .slice none 0 0] 51))) := Fm.one w _ _
  have hrw := fun z => rows_any z
  go_enter Tryd.func17, Tryd.ntmps17
  go_wp2_with (go_at_call 36; refine (hrw _).mono ?_; rintro e y ⟨⟨v, rfl, g, sp, hg, rfl, hx, hl⟩, hb⟩)
  have K1 : Hid (Fm w [(w.heap.size, zR, 51), (g, (rowL (rwC sp) (List.range 31)).toArray, 51)] y) := hB.out.more hb g _ _ hg hx
  have hl : Hid (∀ i, i < 31 → FsL y (sp i) (fsR i)) := hl
  clear hB hb hg hx hrw
  go_loopw [8] (fun j wz => ∃ p : Nat, p ≤ 31 ∧ j = .int .i64 (p : Int) ∧ Hid (∀ j, j < p → q j = false) ∧ Hid (Below y.heap.size y wz) ∧ Hid (Fm w [(w.heap.size, zR, 51), (g, (rowL (rwC sp) (List.range 31)).toArray, 51)] wz)) (fun j _ => (31 - intOf j).toNat)
  case atStart => exact ⟨0, by omega, rfl, (fun j h => absurd h (by omega) : ∀ j, j < 0 → q j = false), (Below.refl _ _ : Below y.heap.size y y), K1⟩
  case round =>
    obtain ⟨p, hpn, rfl, hq, hy, K⟩ := hrel
    by_cases hlt : p < 31
    · have hix : ∀ w', (Instr.indexAt 91 (.slice (some ⟨g, 0, none⟩) 31 31) (.int .i64 (p : Int))).run Tryd.prog w' = .ok (.pointer (some ⟨g, p * 4, none⟩)) w' := fun w' => by
        have h := idxP (P := Tryd.prog) (t := 91) (e := 51) (s := 4) (g := g) (off := 0) (len := 31) (cap := 31) Tryd.underlying91 (by kernel_rfl) .i64 p w' hlt
        rwa [Nat.zero_add] at h
      have hr' : Hid (wr.rangeAt g (p * 4) (rwC sp p).toArray.toList) := rows_lies (K.out.bx 1 _ _ _ rfl) p hlt
      have hpi : (p : Int) < 31 := by omega
      have hlt' : Hid (p < 31) := hlt
      have hC : Hid (∀ y' : World, Below w.heap.size w y' → Below wr.heap.size wr y' → Calls Tryd.prog cb (#[.agg (rwC sp p).toArray] ++ lb) y' fun e y2 => e = .returned (.bool (q p)) ∧ Below y'.heap.size y' y2) := fun y' h1 h2 => hcb.out p hlt sp y' h1 ((hl.out p hlt).below (hy.out.trans (h2.mono hy.out.size))).lies
      obtain ⟨b, hbq⟩ : ∃ b, Hid (q p = b) := ⟨_, (rfl : q p = q p)⟩
      rw [hbq.out] at hC
      have hsz : Hid ((rwC sp p).toArray.size = 4) := (rfl : (rwC sp p).toArray.size = 4)
      have hone : Hid ((rwC sp p).toArray.all (·.oneCell') = true) := rwC_one sp p
      obtain ⟨C, hCe⟩ : ∃ C, Hid ((rwC sp p).toArray = C) := ⟨_, (rfl : (rwC sp p).toArray = (rwC sp p).toArray)⟩
      rw [hCe.out] at hr' hC hsz hone
      clear hlt
      cases b
      · go_wp2_with (first
          | ((with_reducible show Calls _ cb _ _ _); refine (hC.out z2 K2.out.low (((below1 wr _).mono (Nat.le_refl _)).trans hzz.out)).mono ?_; rintro e z3 ⟨rfl, hb3⟩; have K3 : Hid (Fm w [(w.heap.size, zR, 51), (g, (rowL (rwC sp) (List.range 31)).toArray, 51), (wr.heap.size, C, 51)] z3) := K2.out.below hb3; have hy3 : Hid (Below y.heap.size y z3) := (hy.out.trans (((below1 wr _).trans hzz.out).mono hy.out.size)).trans (hb3.mono (Nat.le_trans hy.out.size ((below1 wr _).trans hzz.out).size)))
          | ((with_reducible refine at_load rtR wr.heap.size C ?_ ?_ (.tmp 5) ?_ ?_ ?_ ?_); exact K2.out.bx 2 _ _ _ rfl; exact hsz.out; rfl; rfl; rfl)
          | ((with_reducible refine at_st rtR wr.heap.size #[.int .u8 0, .int .u16 0, .string ⟨#[]⟩, .slice none 0 0] C ?_ ?_ ?_ ?_ (.tmp 5) (.tmp 11) ?_ ?_ ?_ ?_ ?_); exact M.out.1.bx 2 _ _ _ rfl; rfl; exact hsz.out; exact hone.out; rfl; rfl; rfl; rfl; intro z2 hw2; have K2 : Hid (Fm w [(w.heap.size, zR, 51), (g, (rowL (rwC sp) (List.range 31)).toArray, 51), (wr.heap.size, C, 51)] z2) := M.out.1.put 2 _ _ _ _ rfl hw2.out; have hzz : Hid (Below wr.heap.size (wr.alloc (.cells #[.int .u8 0, .int .u16 0, .string ⟨#[]⟩, .slice none 0 0] 51)) z2) := by (rw [← M.out.2]; exact hw2.out.2.1 _ (Nat.le_refl _)))
          | ((with_reducible refine gen_world (wr.alloc (.cells #[.int .u8 0, .int .u16 0, .string ⟨#[]⟩, .slice none 0 0] 51)) (fun x => Fm w [(w.heap.size, zR, 51), (g, (rowL (rwC sp) (List.range 31)).toArray, 51), (wr.heap.size, #[.int .u8 0, .int .u16 0, .string ⟨#[]⟩, .slice none 0 0], 51)] x ∧ x = wr.alloc (.cells #[.int .u8 0, .int .u16 0, .string ⟨#[]⟩, .slice none 0 0] 51)) ?_ ?_); exact ⟨K.out.new _ _, rfl⟩; intro z M)
          | ((with_reducible refine at_loadm rtR g (p * 4) C ?_ ?_ (.tmp 10) ?_ ?_ ?_ ?_); exact hr'.out; exact hsz.out; rfl; rfl; rfl))
        go_roundw
        case rel => exact ⟨p + 1, by have := hlt'.out; omega, by simp, (fun j hj => by
          rcases Nat.lt_succ_iff_lt_or_eq.1 hj with h | h
          · exact hq.out j h
          · rw [h]; exact hbq.out : ∀ j, j < p + 1 → q j = false), hy3, K3.out.pre (l' := [_])⟩
        case measure => have := hlt'.out; simp [intOf]; omega
      · go_wp2_with (first
          | ((with_reducible refine at_load rtR wr.heap.size C ?_ ?_ (.tmp 5) ?_ ?_ ?_ ?_); exact K3.out.bx 2 _ _ _ rfl; exact hsz.out; rfl; rfl; rfl)
          | ((with_reducible refine at_st rtR w.heap.size zR C ?_ ?_ ?_ ?_ (.tmp 2) (.tmp 15) ?_ ?_ ?_ ?_ ?_); exact K3.out.bx 0 _ _ _ rfl; rfl; exact hsz.out; exact hone.out; rfl; rfl; rfl; rfl; intro z4 hw4; have K4 : Hid (Fm w [(w.heap.size, C, 51), (g, (rowL (rwC sp) (List.range 31)).toArray, 51), (wr.heap.size, C, 51)] z4) := K3.out.put 0 _ _ _ _ rfl hw4.out)

          | ((with_reducible show Calls _ cb _ _ _); refine (hC.out z2 K2.out.low (((below1 wr _).mono (Nat.le_refl _)).trans hzz.out)).mono ?_; rintro e z3 ⟨rfl, hb3⟩; have K3 : Hid (Fm w [(w.heap.size, zR, 51), (g, (rowL (rwC sp) (List.range 31)).toArray, 51), (wr.heap.size, C, 51)] z3) := K2.out.below hb3; have hy3 : Hid (Below y.heap.size y z3) := (hy.out.trans (((below1 wr _).trans hzz.out).mono hy.out.size)).trans (hb3.mono (Nat.le_trans hy.out.size ((below1 wr _).trans hzz.out).size)))
          | ((with_reducible refine at_load rtR wr.heap.size C ?_ ?_ (.tmp 5) ?_ ?_ ?_ ?_); exact K2.out.bx 2 _ _ _ rfl; exact hsz.out; rfl; rfl; rfl)
          | ((with_reducible refine at_st rtR wr.heap.size #[.int .u8 0, .int .u16 0, .string ⟨#[]⟩, .slice none 0 0] C ?_ ?_ ?_ ?_ (.tmp 5) (.tmp 11) ?_ ?_ ?_ ?_ ?_); exact M.out.1.bx 2 _ _ _ rfl; rfl; exact hsz.out; exact hone.out; rfl; rfl; rfl; rfl; intro z2 hw2; have K2 : Hid (Fm w [(w.heap.size, zR, 51), (g, (rowL (rwC sp) (List.range 31)).toArray, 51), (wr.heap.size, C, 51)] z2) := M.out.1.put 2 _ _ _ _ rfl hw2.out; have hzz : Hid (Below wr.heap.size (wr.alloc (.cells #[.int .u8 0, .int .u16 0, .string ⟨#[]⟩, .slice none 0 0] 51)) z2) := by (rw [← M.out.2]; exact hw2.out.2.1 _ (Nat.le_refl _)))
          | ((with_reducible refine gen_world (wr.alloc (.cells #[.int .u8 0, .int .u16 0, .string ⟨#[]⟩, .slice none 0 0] 51)) (fun x => Fm w [(w.heap.size, zR, 51), (g, (rowL (rwC sp) (List.range 31)).toArray, 51), (wr.heap.size, #[.int .u8 0, .int .u16 0, .string ⟨#[]⟩, .slice none 0 0], 51)] x ∧ x = wr.alloc (.cells #[.int .u8 0, .int .u16 0, .string ⟨#[]⟩, .slice none 0 0] 51)) ?_ ?_); exact ⟨K.out.new _ _, rfl⟩; intro z M)
          | ((with_reducible refine at_loadm rtR g (p * 4) C ?_ ?_ (.tmp 10) ?_ ?_ ?_ ?_); exact hr'.out; exact hsz.out; rfl; rfl; rfl))
        refine ret_two (v := .bool true) rtR rfl rfl rfl (K4.out.bx 0 _ _ _ rfl) hsz.out rfl ⟨K4.out.low, .inl ⟨p, sp, fstI_some hlt'.out hbq.out hq.out, hlt'.out, by rw [hCe.out], ((hl.out p hlt'.out).below hy3.out).off (K3.out.bx 0 _ _ _ rfl) (by decide) hw4.out.2.2⟩⟩
    · have hpe : p = 31 := by omega
      subst hpe
      go_wp2_with (first
        | ((with_reducible refine at_bu #[] [] zR ?_ ?_ ?_ builtR0 ?_); rfl; rfl; rfl)
        | ((with_reducible refine at_st rtR w.heap.size zR zR ?_ ?_ ?_ ?_ (.tmp 2) (.tmp 17) ?_ ?_ ?_ ?_ ?_); exact K.out.bx 0 _ _ _ rfl; rfl; rfl; kernel_rfl; rfl; rfl; rfl; rfl; intro z2 hw2; have K2 : Hid (Fm w [(w.heap.size, zR, 51), (g, (rowL (rwC sp) (List.range 31)).toArray, 51)] z2) := K.out.put 0 _ _ _ _ rfl hw2.out))
      refine ret_two rtR rfl rfl rfl (K2.out.bx 0 _ _ _ rfl) rfl rfl ⟨K2.out.low, .inr ⟨fstI_none hq.out, rfl⟩⟩
end Go.Proofs.YthaijjehplomfaaDoor

namespace Go.Proofs.YthaijjehplomfaaDoor
open Go Go.RowKit
set_option linter.unusedVariables false
set_option maxHeartbeats 1000000
set_option maxRecDepth 20000

theorem bvn16 (q : Nat) : BitVec.ofInt 16 (q : Int) = BitVec.ofNat 16 q := by
  apply BitVec.eq_of_toNat_eq
  rw [BitVec.toNat_ofInt, BitVec.toNat_ofNat]
  omega
theorem wrapn16 (q : Nat) (h : q < 65536) : IntKind.u16.wrap (q : Int) = (q : Int) := by
  unfold IntKind.wrap
  simp [IntKind.bits, IntKind.signed]
  omega
theorem andN (x y : Nat) (hx : x < 65536) (hy : y < 65536) : bits .and .u16 (x : Int) (y : Int) = ((x &&& y : Nat) : Int) := by
  show IntKind.u16.wrap ((BitVec.ofInt 16 (x : Int) &&& BitVec.ofInt 16 (y : Int)).toNat : Int) = _
  rw [bvn16, bvn16, BitVec.toNat_and, BitVec.toNat_ofNat, BitVec.toNat_ofNat, Nat.mod_eq_of_lt (by simpa using hx), Nat.mod_eq_of_lt (by simpa using hy)]
  exact wrapn16 _ (Nat.lt_of_le_of_lt Nat.and_le_left hx)
theorem orNN (x y : Nat) (hx : x < 65536) (hy : y < 65536) : bits .or .u16 (x : Int) (y : Int) = ((x ||| y : Nat) : Int) := by
  show IntKind.u16.wrap ((BitVec.ofInt 16 (x : Int) ||| BitVec.ofInt 16 (y : Int)).toNat : Int) = _
  rw [bvn16, bvn16, BitVec.toNat_or, BitVec.toNat_ofNat, BitVec.toNat_ofNat, Nat.mod_eq_of_lt (by simpa using hx), Nat.mod_eq_of_lt (by simpa using hy)]
  have : x ||| y < 2 ^ 16 := Nat.or_lt_two_pow (by simpa using hx) (by simpa using hy)
  exact wrapn16 _ (by simpa using this)
theorem shrN (m k : Nat) (hk : k ≤ 16) : Op.shift .shr .u16 (m : Int) .i64 (k : Int) = pure (.int .u16 ((m >>> k : Nat) : Int)) := by
  unfold Op.shift
  rw [if_neg (by omega), Nat.shiftRight_eq_div_pow]
  have e : ((k : Int)).toNat = k := by omega
  simp only [e, IntKind.bits, Nat.min_eq_left hk]
  rw [Int.fdiv_eq_ediv_of_nonneg _ (Int.pow_nonneg (by decide))]
  push_cast
  rfl
theorem shlN (m k : Nat) (hk : k ≤ 16) : Op.shift .shl .u16 (m : Int) .i64 (k : Int) = pure (.int .u16 (((m <<< k) % 65536 : Nat) : Int)) := by
  unfold Op.shift
  rw [if_neg (by omega), Nat.shiftLeft_eq]
  have e : ((k : Int)).toNat = k := by omega
  simp only [e, IntKind.bits, Nat.min_eq_left hk]
  have e2 : (m : Int) * 2 ^ k = ((m * 2 ^ k : Nat) : Int) := by rw [Int.natCast_mul, Int.natCast_pow]; rfl
  rw [e2, IntKind.wrap_u16]
  generalize m * 2 ^ k = x
  rw [show ((x : Nat) : Int) % 65536 = ((x % 65536 : Nat) : Int) by omega]

/-- A row as a value, its parts by letters. -/
def RwLit (y : World) (i op wd : Nat) (nm : ByteArray) (S : Option Addr) (n : Nat) : Prop := i < 31 ∧ op = opR i ∧ wd = wdR i ∧ nm = ⟨(nmR i).toArray⟩ ∧ (fsR i).length = n ∧ FsL y S (fsR i)
theorem RwLit.below {x y : World} {i op wd : Nat} {nm : ByteArray} {S : Option Addr} {n : Nat} (h : RwLit x i op wd nm S n) (hb : Below x.heap.size x y) : RwLit y i op wd nm S n := ⟨h.1, h.2.1, h.2.2.1, h.2.2.2.1, h.2.2.2.2.1, h.2.2.2.2.2.below hb⟩
theorem RwLit.off {x y : World} {i op wd : Nat} {nm : ByteArray} {S : Option Addr} {n b t : Nat} {cs : Array Value} (h : RwLit x i op wd nm S n) (hx : Bx x b cs t) (ht : 59 ≠ t) (hk : ∀ q, q ≠ b → y.heap[q]? = x.heap[q]?) : RwLit y i op wd nm S n := ⟨h.1, h.2.1, h.2.2.1, h.2.2.2.1, h.2.2.2.2.1, h.2.2.2.2.2.off hx ht hk⟩
def FdY (w : World) (i : Nat) (e : Ending) (w' : World) : Prop := Below w.heap.size w w' ∧ ∃ (op wd : Nat) (nm : ByteArray) (S : Option Addr) (n : Nat), e = .returned (.tuple #[.agg #[.int .u8 (op : Int), .int .u16 (wd : Int), .string nm, .slice S n n], .bool true]) ∧ RwLit w' i op wd nm S n
def FdN (w : World) (e : Ending) (w' : World) : Prop := Below w.heap.size w w' ∧ e = .returned (.tuple #[.agg #[.int .u8 0, .int .u16 0, .string ⟨#[]⟩, .slice none 0 0], .bool false])
theorem FdE.yes {w : World} {q : Nat → Bool} {e : Ending} {w' : World} (h : FdE w q e w') {i : Nat} (hi : fstI q 31 = some i) : FdY w i e w' := by
  obtain ⟨hb, ⟨j, sp, hj, hj31, he, hl⟩ | ⟨hj, _⟩⟩ := h
  · rw [hi] at hj
    injection hj with hj
    subst hj
    exact ⟨hb, opR i, wdR i, ⟨(nmR i).toArray⟩, sp i, (fsR i).length, he, hj31, rfl, rfl, rfl, rfl, hl⟩
  · rw [hi] at hj
    cases hj
theorem FdE.no {w : World} {q : Nat → Bool} {e : Ending} {w' : World} (h : FdE w q e w') (hi : fstI q 31 = none) : FdN w e w' := by
  obtain ⟨hb, ⟨j, sp, hj, hj31, he, hl⟩ | ⟨hj, he⟩⟩ := h
  · rw [hi] at hj
    cases hj
  · exact ⟨hb, he⟩

theorem dec1_any (i : Nat) (hi : i < 31) (sp : Nat → Option Addr) (v : Nat) (hv : v < 65536) (b : Nat) (w : World) (hbx : w.cell? ⟨b, 0, none⟩ = some (.int .u16 (v : Int))) (hl : LiesL 5 fdC w (sp i) (fsR i)) :
    Calls Tryd.prog 18 #[.agg (rwC sp i).toArray, .pointer (some ⟨b, 0, none⟩)] w fun e w' => e = .returned (.bool (takR i v)) ∧ Below w.heap.size w w' := by
  have ht := fun z (hz : LiesL 5 fdC z (sp i) (fsR i)) => takes_any i hi sp v hv z hz
  have hsz : Hid ((rwC sp i).toArray.size = 4) := (rfl : (rwC sp i).toArray.size = 4)
  generalize (rwC sp i).toArray = C at ht hsz ⊢
  have hB : Hid (Fm w [(w.heap.size, C, 51)] (w.alloc (.cells C 51))) := Fm.one w _ _
  have hl' : Hid (LiesL 5 fdC w (sp i) (fsR i)) := hl
  have hb : Hid (b < w.heap.size) := World.block_lt_of_cell? w _ hbx
  have hbx' : Hid (w.cell? ⟨b, 0, none⟩ = some (.int .u16 (v : Int))) := hbx
  clear hl hbx hv
  go_enter Tryd.func18, Tryd.ntmps18
  go_wp2_with (first
    | (go_at_call 19; refine (ht _ (hl'.out.below K1.out.low)).mono ?_; rintro e z2 ⟨rfl, hb2⟩; have K2 : Hid (Fm w [(w.heap.size, C, 51)] z2) := K1.out.below hb2)
    | ((with_reducible refine at_load rtR w.heap.size C ?_ ?_ (.tmp 2) ?_ ?_ ?_ ?_); exact K1.out.bx 0 _ _ _ rfl; exact hsz.out; rfl; rfl; rfl)
    | ((with_reducible refine gen_world (w.alloc (.cells C 51)) (Fm w [(w.heap.size, C, 51)]) hB.out ?_); intro z K1; have d1 : z.cell? ⟨b, 0, none⟩ = some (.int .u16 (v : Int)) := (K1.out.low.cell hb.out).trans hbx'.out))
  go_ret
  exact ⟨rfl, K2.out.low⟩
theorem row1_any (i : Nat) (hi : i < 31) (sp : Nat → Option Addr) (o : Od) (b : Nat) (w : World) (hbx : w.cell? ⟨b, 0, none⟩ = some (.int .u8 (o.op : Int))) :
    Calls Tryd.prog 38 #[.agg (rwC sp i).toArray, .pointer (some ⟨b, 0, none⟩)] w fun e w' => e = .returned (.bool (opR i == o.op)) ∧ Below w.heap.size w w' := by
  obtain ⟨P, hP⟩ : ∃ P, Hid (P = (opR i == o.op)) := ⟨_, (rfl : _ = (opR i == o.op))⟩
  rw [← hP.out]
  have fin : Hid (((opR i : Int) == (o.op : Int)) = P) := by
    show _ = _
    rw [hP.out, Bool.eq_iff_iff]
    simp
    omega
  have hsz : Hid ((rwC sp i).toArray[0]? = some (.int .u8 (opR i : Int))) := (rfl : (rwC sp i).toArray[0]? = some (.int .u8 (opR i : Int)))
  generalize (rwC sp i).toArray = C at hsz ⊢
  generalize opR i = x at hsz fin hP
  have hB : Hid (Fm w [(w.heap.size, C, 51)] (w.alloc (.cells C 51))) := Fm.one w _ _
  have hb : Hid (b < w.heap.size) := World.block_lt_of_cell? w _ hbx
  have hbx' : Hid (w.cell? ⟨b, 0, none⟩ = some (.int .u8 (o.op : Int))) := hbx
  clear hbx
  go_enter Tryd.func38, Tryd.ntmps38
  go_wp2_with ((with_reducible refine gen_world (w.alloc (.cells C 51)) (Fm w [(w.heap.size, C, 51)]) hB.out ?_); intro z K1; have d1 : z.cell? ⟨b, 0, none⟩ = some (.int .u8 (o.op : Int)) := (K1.out.low.cell hb.out).trans hbx'.out; have d0 := (K1.out.bx 0 _ _ _ rfl).c 0 (.int .u8 (x : Int)) hsz.out)
  go_ret
  exact ⟨fn_bool fin.out, K1.out.low⟩
theorem ent_dec1 (args : Array Value) (w : World) : (callFunc 18 args).run Tryd.prog w = .ok (.enter 18 args) w := by kernel_rfl
theorem ent_row1 (args : Array Value) (w : World) : (callFunc 38 args).run Tryd.prog w = .ok (.enter 38 args) w := by kernel_rfl
/-- find at Decode's question. -/
theorem find_dec (w : World) (b v : Nat) (hv : v < 65536) (hbx : w.cell? ⟨b, 0, none⟩ = some (.int .u16 (v : Int))) : Calls Tryd.prog 17 #[.func (.func 18) #[] #[.pointer (some ⟨b, 0, none⟩)]] w (FdE w (takR · v)) :=
  find_any w _ _ _ ent_dec1 (fun i hi sp y hy hl => dec1_any i hi sp v hv b y ((hy.cell (World.block_lt_of_cell? w _ hbx)).trans hbx) hl)
theorem find_row (w : World) (b : Nat) (o : Od) (hbx : w.cell? ⟨b, 0, none⟩ = some (.int .u8 (o.op : Int))) : Calls Tryd.prog 17 #[.func (.func 38) #[] #[.pointer (some ⟨b, 0, none⟩)]] w (FdE w (fun i => opR i == o.op)) :=
  find_any w _ _ _ ent_row1 (fun i hi sp y hy hl => row1_any i hi sp o b y ((hy.cell (World.block_lt_of_cell? w _ hbx)).trans hbx))
/-- The row of an order. -/
theorem rowOf_any (o : Od) (w : World) : Calls Tryd.prog 24 #[.agg (o6 o)] w fun e w' => match rowO o with | some i => FdY w i e w' | none => FdN w e w' := by
  have hF : Hid (Fm w [(w.heap.size, o6 o, 30), (w.heap.size + 1, #[.int .u8 0, .int .u16 0, .string ⟨#[]⟩, .slice none 0 0], 51)] ((w.alloc (.cells (o6 o) 30)).alloc (.cells #[.int .u8 0, .int .u16 0, .string ⟨#[]⟩, .slice none 0 0] 51))) := Fm.two w _ _ _ _
  rcases hr : rowO o with _ | i
  · have hf := fun (z : World) (h : z.cell? ⟨w.heap.size, 0, none⟩ = some (.int .u8 (o.op : Int))) => (find_row z w.heap.size o h).mono (fun e y (x : FdE z (fun i => opR i == o.op) e y) => x.no hr)
    dsimp only
    go_enter Tryd.func24, Tryd.ntmps24
    go_wp2_with (first
      | ((with_reducible refine at_st rtR (w.heap.size + 1) #[.int .u8 0, .int .u16 0, .string ⟨#[]⟩, .slice none 0 0] #[.int .u8 0, .int .u16 0, .string ⟨#[]⟩, .slice none 0 0] ?_ ?_ ?_ ?_ (.tmp 2) (.tmp 6) ?_ ?_ ?_ ?_ ?_); exact K1.out.bx 1 _ _ _ rfl; rfl; rfl; kernel_rfl; rfl; rfl; rfl; rfl; intro z2 hw2; have K2 : Hid (Fm w [(w.heap.size, o6 o, 30), (w.heap.size + 1, #[.int .u8 0, .int .u16 0, .string ⟨#[]⟩, .slice none 0 0], 51)] z2) := K1.out.put 1 _ _ _ _ rfl hw2.out)
      | (go_at_call 17; refine (hf _ ((hF.out.bx 0 _ _ _ rfl).c 0 _ rfl)).mono ?_; rintro e z1 ⟨hb1, rfl⟩; have K1 : Hid (Fm w [(w.heap.size, o6 o, 30), (w.heap.size + 1, #[.int .u8 0, .int .u16 0, .string ⟨#[]⟩, .slice none 0 0], 51)] z1) := hF.out.below hb1))
    refine ret_two (v := .bool false) rtR rfl rfl rfl (K2.out.bx 1 _ _ _ rfl) rfl rfl ⟨K2.out.low, rfl⟩
  · have hf := fun (z : World) (h : z.cell? ⟨w.heap.size, 0, none⟩ = some (.int .u8 (o.op : Int))) => (find_row z w.heap.size o h).mono (fun e y (x : FdE z (fun i => opR i == o.op) e y) => x.yes hr)
    dsimp only
    go_enter Tryd.func24, Tryd.ntmps24
    go_wp2_with (first
      | ((with_reducible refine at_st rtR (w.heap.size + 1) #[.int .u8 0, .int .u16 0, .string ⟨#[]⟩, .slice none 0 0] #[.int .u8 (op : Int), .int .u16 (wd : Int), .string nm, .slice S n n] ?_ ?_ ?_ ?_ (.tmp 2) (.tmp 6) ?_ ?_ ?_ ?_ ?_); exact K1.out.bx 1 _ _ _ rfl; rfl; rfl; simp [Value.oneCell']; rfl; rfl; rfl; rfl; intro z2 hw2; have K2 : Hid (Fm w [(w.heap.size, o6 o, 30), (w.heap.size + 1, #[.int .u8 (op : Int), .int .u16 (wd : Int), .string nm, .slice S n n], 51)] z2) := K1.out.put 1 _ _ _ _ rfl hw2.out)
      | (go_at_call 17; refine (hf _ ((hF.out.bx 0 _ _ _ rfl).c 0 _ rfl)).mono ?_; rintro e z1 ⟨hb1, op, wd, nm, S, n, rfl, hL⟩; have hL : Hid (RwLit z1 i op wd nm S n) := hL; have K1 : Hid (Fm w [(w.heap.size, o6 o, 30), (w.heap.size + 1, #[.int .u8 0, .int .u16 0, .string ⟨#[]⟩, .slice none 0 0], 51)] z1) := hF.out.below hb1))
    refine ret_two (v := .bool true) rtR rfl rfl rfl (K2.out.bx 1 _ _ _ rfl) rfl rfl ⟨K2.out.low, op, wd, nm, S, n, rfl, hL.out.off (K1.out.bx 1 _ _ _ rfl) (by decide) hw2.out.2.2⟩
end Go.Proofs.YthaijjehplomfaaDoor
