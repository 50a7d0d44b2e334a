/- The row of a word, the row of an order; a word as an order: Decode. -/
import Derived.Test.YtfdikiafbfljaaaDoorP5
namespace Go.Proofs.YtfdikiafbfljaaaDoor
open Go Go.RowKit
set_option linter.unusedVariables false
set_option maxHeartbeats 1000000
set_option maxRecDepth 20000

theorem bvn16 (q : Nat) : BitVec.ofInt 16 (q : Int) = BitVec.ofNat 16 q := by
  apply BitVec.eq_of_toNat_eq
  rw [BitVec.toNat_ofInt, BitVec.toNat_ofNat]
  omega
theorem wrapn16 (q : Nat) (h : q < 65536) : IntKind.u16.wrap (q : Int) = (q : Int) := by
  unfold IntKind.wrap
  simp [IntKind.bits, IntKind.signed]
  omega
theorem andN (x y : Nat) (hx : x < 65536) (hy : y < 65536) : bits .and .u16 (x : Int) (y : Int) = ((x &&& y : Nat) : Int) := by
  show IntKind.u16.wrap ((BitVec.ofInt 16 (x : Int) &&& BitVec.ofInt 16 (y : Int)).toNat : Int) = _
  rw [bvn16, bvn16, BitVec.toNat_and, BitVec.toNat_ofNat, BitVec.toNat_ofNat, Nat.mod_eq_of_lt (by simpa using hx), Nat.mod_eq_of_lt (by simpa using hy)]
  exact wrapn16 _ (Nat.lt_of_le_of_lt Nat.and_le_left hx)
theorem orNN (x y : Nat) (hx : x < 65536) (hy : y < 65536) : bits .or .u16 (x : Int) (y : Int) = ((x ||| y : Nat) : Int) := by
  show IntKind.u16.wrap ((BitVec.ofInt 16 (x : Int) ||| BitVec.ofInt 16 (y : Int)).toNat : Int) = _
  rw [bvn16, bvn16, BitVec.toNat_or, BitVec.toNat_ofNat, BitVec.toNat_ofNat, Nat.mod_eq_of_lt (by simpa using hx), Nat.mod_eq_of_lt (by simpa using hy)]
  have : x ||| y < 2 ^ 16 := Nat.or_lt_two_pow (by simpa using hx) (by simpa using hy)
  exact wrapn16 _ (by simpa using this)
theorem shrN (m k : Nat) (hk : k ≤ 16) : Op.shift .shr .u16 (m : Int) .i64 (k : Int) = pure (.int .u16 ((m >>> k : Nat) : Int)) := by
  unfold Op.shift
  rw [if_neg (by omega), Nat.shiftRight_eq_div_pow]
  have e : ((k : Int)).toNat = k := by omega
  simp only [e, IntKind.bits, Nat.min_eq_left hk]
  rw [Int.fdiv_eq_ediv_of_nonneg _ (Int.pow_nonneg (by decide))]
  push_cast
  rfl
theorem shlN (m k : Nat) (hk : k ≤ 16) : Op.shift .shl .u16 (m : Int) .i64 (k : Int) = pure (.int .u16 (((m <<< k) % 65536 : Nat) : Int)) := by
  unfold Op.shift
  rw [if_neg (by omega), Nat.shiftLeft_eq]
  have e : ((k : Int)).toNat = k := by omega
  simp only [e, IntKind.bits, Nat.min_eq_left hk]
  have e2 : (m : Int) * 2 ^ k = ((m * 2 ^ k : Nat) : Int) := by rw [Int.natCast_mul, Int.natCast_pow]; rfl
  rw [e2, IntKind.wrap_u16]
  generalize m * 2 ^ k = x
  rw [show ((x : Nat) : Int) % 65536 = ((x % 65536 : Nat) : Int) by omega]

/-- A row as a value, its parts by letters. -/
def RwLit (y : World) (i op wd : Nat) (nm : ByteArray) (S : Option Addr) (n : Nat) : Prop := i < 31 ∧ op = opR i ∧ wd = wdR i ∧ nm = ⟨(nmR i).toArray⟩ ∧ (fsR i).length = n ∧ FsL y S (fsR i)
theorem RwLit.below {x y : World} {i op wd : Nat} {nm : ByteArray} {S : Option Addr} {n : Nat} (h : RwLit x i op wd nm S n) (hb : Below x.heap.size x y) : RwLit y i op wd nm S n := ⟨h.1, h.2.1, h.2.2.1, h.2.2.2.1, h.2.2.2.2.1, h.2.2.2.2.2.below hb⟩
theorem RwLit.off {x y : World} {i op wd : Nat} {nm : ByteArray} {S : Option Addr} {n b t : Nat} {cs : Array Value} (h : RwLit x i op wd nm S n) (hx : Bx x b cs t) (ht : 62 ≠ t) (hk : ∀ q, q ≠ b → y.heap[q]? = x.heap[q]?) : RwLit y i op wd nm S n := ⟨h.1, h.2.1, h.2.2.1, h.2.2.2.1, h.2.2.2.2.1, h.2.2.2.2.2.off hx ht hk⟩
def FdY (w : World) (i : Nat) (e : Ending) (w' : World) : Prop := Below w.heap.size w w' ∧ ∃ (op wd : Nat) (nm : ByteArray) (S : Option Addr) (n : Nat), e = .returned (.tuple #[.agg #[.int .u8 (op : Int), .int .u16 (wd : Int), .string nm, .slice S n n], .bool true]) ∧ RwLit w' i op wd nm S n
def FdN (w : World) (e : Ending) (w' : World) : Prop := Below w.heap.size w w' ∧ e = .returned (.tuple #[.agg #[.int .u8 0, .int .u16 0, .string ⟨#[]⟩, .slice none 0 0], .bool false])
theorem FdE.yes {w : World} {q : Nat → Bool} {e : Ending} {w' : World} (h : FdE w q e w') {i : Nat} (hi : fstI q 31 = some i) : FdY w i e w' := by
  obtain ⟨hb, ⟨j, sp, hj, hj31, he, hl⟩ | ⟨hj, _⟩⟩ := h
  · rw [hi] at hj
    injection hj with hj
    subst hj
    exact ⟨hb, opR i, wdR i, ⟨(nmR i).toArray⟩, sp i, (fsR i).length, he, hj31, rfl, rfl, rfl, rfl, hl⟩
  · rw [hi] at hj
    cases hj
theorem FdE.no {w : World} {q : Nat → Bool} {e : Ending} {w' : World} (h : FdE w q e w') (hi : fstI q 31 = none) : FdN w e w' := by
  obtain ⟨hb, ⟨j, sp, hj, hj31, he, hl⟩ | ⟨hj, he⟩⟩ := h
  · rw [hi] at hj
    cases hj
  · exact ⟨hb, he⟩

theorem dec1_any (i : Nat) (hi : i < 31) (sp : Nat → Option Addr) (v : Nat) (hv : v < 65536) (b : Nat) (w : World) (hbx : w.cell? ⟨b, 0, none⟩ = some (.int .u16 (v : Int))) (hl : LiesL 5 fdC w (sp i) (fsR i)) :
    Calls Tryd.prog 20 #[.agg (rwC sp i).toArray, .pointer (some ⟨b, 0, none⟩)] w fun e w' => e = .returned (.bool (takR i v)) ∧ Below w.heap.size w w' := by
  have ht := fun z (hz : LiesL 5 fdC z (sp i) (fsR i)) => takes_any i hi sp v hv z hz
  have hsz : Hid ((rwC sp i).toArray.size = 4) := (rfl : (rwC sp i).toArray.size = 4)
  generalize (rwC sp i).toArray = C at ht hsz ⊢
  have hB : Hid (Fm w [(w.heap.size, C, 54)] (w.alloc (.cells C 54))) := Fm.one w _ _
  have hl' : Hid (LiesL 5 fdC w (sp i) (fsR i)) := hl
  have hb : Hid (b < w.heap.size) := World.block_lt_of_cell? w _ hbx
  have hbx' : Hid (w.cell? ⟨b, 0, none⟩ = some (.int .u16 (v : Int))) := hbx
  clear hl hbx hv
  go_enter Tryd.func20, Tryd.ntmps20
  go_wp2_with (first
    | (go_at_call 21; refine (ht _ (hl'.out.below K1.out.low)).mono ?_; rintro e z2 ⟨rfl, hb2⟩; have K2 : Hid (Fm w [(w.heap.size, C, 54)] z2) := K1.out.below hb2)
    | ((with_reducible refine at_load rtR w.heap.size C ?_ ?_ (.tmp 2) ?_ ?_ ?_ ?_); exact K1.out.bx 0 _ _ _ rfl; exact hsz.out; rfl; rfl; rfl)
    | ((with_reducible refine gen_world (w.alloc (.cells C 54)) (Fm w [(w.heap.size, C, 54)]) hB.out ?_); intro z K1; have d1 : z.cell? ⟨b, 0, none⟩ = some (.int .u16 (v : Int)) := (K1.out.low.cell hb.out).trans hbx'.out))
  go_ret
  exact ⟨rfl, K2.out.low⟩
theorem row1_any (i : Nat) (hi : i < 31) (sp : Nat → Option Addr) (o : Od) (b : Nat) (w : World) (hbx : w.cell? ⟨b, 0, none⟩ = some (.int .u8 (o.op : Int))) :
    Calls Tryd.prog 39 #[.agg (rwC sp i).toArray, .pointer (some ⟨b, 0, none⟩)] w fun e w' => e = .returned (.bool (opR i == o.op)) ∧ Below w.heap.size w w' := by
  obtain ⟨P, hP⟩ : ∃ P, Hid (P = (opR i == o.op)) := ⟨_, (rfl : _ = (opR i == o.op))⟩
  rw [← hP.out]
  have fin : Hid (((opR i : Int) == (o.op : Int)) = P) := by
    show _ = _
    rw [hP.out, Bool.eq_iff_iff]
    simp
    omega
  have hsz : Hid ((rwC sp i).toArray[0]? = some (.int .u8 (opR i : Int))) := (rfl : (rwC sp i).toArray[0]? = some (.int .u8 (opR i : Int)))
  generalize (rwC sp i).toArray = C at hsz ⊢
  generalize opR i = x at hsz fin hP
  have hB : Hid (Fm w [(w.heap.size, C, 54)] (w.alloc (.cells C 54))) := Fm.one w _ _
  have hb : Hid (b < w.heap.size) := World.block_lt_of_cell? w _ hbx
  have hbx' : Hid (w.cell? ⟨b, 0, none⟩ = some (.int .u8 (o.op : Int))) := hbx
  clear hbx
  go_enter Tryd.func39, Tryd.ntmps39
  go_wp2_with ((with_reducible refine gen_world (w.alloc (.cells C 54)) (Fm w [(w.heap.size, C, 54)]) hB.out ?_); intro z K1; have d1 : z.cell? ⟨b, 0, none⟩ = some (.int .u8 (o.op : Int)) := (K1.out.low.cell hb.out).trans hbx'.out; have d0 := (K1.out.bx 0 _ _ _ rfl).c 0 (.int .u8 (x : Int)) hsz.out)
  go_ret
  exact ⟨fn_bool fin.out, K1.out.low⟩
theorem ent_dec1 (args : Array Value) (w : World) : (callFunc 20 args).run Tryd.prog w = .ok (.enter 20 args) w := by kernel_rfl
theorem ent_row1 (args : Array Value) (w : World) : (callFunc 39 args).run Tryd.prog w = .ok (.enter 39 args) w := by kernel_rfl
/-- find at Decode's question. -/
theorem find_dec (w : World) (b v : Nat) (hv : v < 65536) (hbx : w.cell? ⟨b, 0, none⟩ = some (.int .u16 (v : Int))) : Calls Tryd.prog 19 #[.func (.func 20) #[] #[.pointer (some ⟨b, 0, none⟩)]] w (FdE w (takR · v)) :=
  find_any w _ _ _ ent_dec1 (fun i hi sp y hy hl => dec1_any i hi sp v hv b y ((hy.cell (World.block_lt_of_cell? w _ hbx)).trans hbx) hl)
theorem find_row (w : World) (b : Nat) (o : Od) (hbx : w.cell? ⟨b, 0, none⟩ = some (.int .u8 (o.op : Int))) : Calls Tryd.prog 19 #[.func (.func 39) #[] #[.pointer (some ⟨b, 0, none⟩)]] w (FdE w (fun i => opR i == o.op)) :=
  find_any w _ _ _ ent_row1 (fun i hi sp y hy hl => row1_any i hi sp o b y ((hy.cell (World.block_lt_of_cell? w _ hbx)).trans hbx))
/-- The row of an order. -/
theorem rowOf_any (o : Od) (w : World) : Calls Tryd.prog 23 #[.agg (o6 o)] w fun e w' => match rowO o with | some i => FdY w i e w' | none => FdN w e w' := by
  have hF : Hid (Fm w [(w.heap.size, o6 o, 30), (w.heap.size + 1, #[.int .u8 0, .int .u16 0, .string ⟨#[]⟩, .slice none 0 0], 54)] ((w.alloc (.cells (o6 o) 30)).alloc (.cells #[.int .u8 0, .int .u16 0, .string ⟨#[]⟩, .slice none 0 0] 54))) := Fm.two w _ _ _ _
  rcases hr : rowO o with _ | i
  · have hf := fun (z : World) (h : z.cell? ⟨w.heap.size, 0, none⟩ = some (.int .u8 (o.op : Int))) => (find_row z w.heap.size o h).mono (fun e y (x : FdE z (fun i => opR i == o.op) e y) => x.no hr)
    dsimp only
    go_enter Tryd.func23, Tryd.ntmps23
    go_wp2_with (first
      | ((with_reducible refine at_st rtR (w.heap.size + 1) #[.int .u8 0, .int .u16 0, .string ⟨#[]⟩, .slice none 0 0] #[.int .u8 0, .int .u16 0, .string ⟨#[]⟩, .slice none 0 0] ?_ ?_ ?_ ?_ (.tmp 2) (.tmp 6) ?_ ?_ ?_ ?_ ?_); exact K1.out.bx 1 _ _ _ rfl; rfl; rfl; kernel_rfl; rfl; rfl; rfl; rfl; intro z2 hw2; have K2 : Hid (Fm w [(w.heap.size, o6 o, 30), (w.heap.size + 1, #[.int .u8 0, .int .u16 0, .string ⟨#[]⟩, .slice none 0 0], 54)] z2) := K1.out.put 1 _ _ _ _ rfl hw2.out)
      | (go_at_call 19; refine (hf _ ((hF.out.bx 0 _ _ _ rfl).c 0 _ rfl)).mono ?_; rintro e z1 ⟨hb1, rfl⟩; have K1 : Hid (Fm w [(w.heap.size, o6 o, 30), (w.heap.size + 1, #[.int .u8 0, .int .u16 0, .string ⟨#[]⟩, .slice none 0 0], 54)] z1) := hF.out.below hb1))
    refine ret_two (v := .bool false) rtR rfl rfl rfl (K2.out.bx 1 _ _ _ rfl) rfl rfl ⟨K2.out.low, rfl⟩
  · have hf := fun (z : World) (h : z.cell? ⟨w.heap.size, 0, none⟩ = some (.int .u8 (o.op : Int))) => (find_row z w.heap.size o h).mono (fun e y (x : FdE z (fun i => opR i == o.op) e y) => x.yes hr)
    dsimp only
    go_enter Tryd.func23, Tryd.ntmps23
    go_wp2_with (first
      | ((with_reducible refine at_st rtR (w.heap.size + 1) #[.int .u8 0, .int .u16 0, .string ⟨#[]⟩, .slice none 0 0] #[.int .u8 (op : Int), .int .u16 (wd : Int), .string nm, .slice S n n] ?_ ?_ ?_ ?_ (.tmp 2) (.tmp 6) ?_ ?_ ?_ ?_ ?_); exact K1.out.bx 1 _ _ _ rfl; rfl; rfl; simp [Value.oneCell']; rfl; rfl; rfl; rfl; intro z2 hw2; have K2 : Hid (Fm w [(w.heap.size, o6 o, 30), (w.heap.size + 1, #[.int .u8 (op : Int), .int .u16 (wd : Int), .string nm, .slice S n n], 54)] z2) := K1.out.put 1 _ _ _ _ rfl hw2.out)
      | (go_at_call 19; refine (hf _ ((hF.out.bx 0 _ _ _ rfl).c 0 _ rfl)).mono ?_; rintro e z1 ⟨hb1, op, wd, nm, S, n, rfl, hL⟩; have hL : Hid (RwLit z1 i op wd nm S n) := hL; have K1 : Hid (Fm w [(w.heap.size, o6 o, 30), (w.heap.size + 1, #[.int .u8 0, .int .u16 0, .string ⟨#[]⟩, .slice none 0 0], 54)] z1) := hF.out.below hb1))
    refine ret_two (v := .bool true) rtR rfl rfl rfl (K2.out.bx 1 _ _ _ rfl) rfl rfl ⟨K2.out.low, op, wd, nm, S, n, rfl, hL.out.off (K1.out.bx 1 _ _ _ rfl) (by decide) hw2.out.2.2⟩
end Go.Proofs.YtfdikiafbfljaaaDoor
