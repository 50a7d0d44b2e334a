/- Labels that pieces ask for; the bytes of pieces. Rows cut from the front; whether bytes are whole instructions. The marks of all blocks: the program's look; the document's look at blocks. The document's look at marks. Objects that may be, and their labels: the program's answers and the document's. An object's bytes: the program's answer. -/
import Derived.Test.YthbdpceobnkflaaDoorJ10
import Derived.Test.YthbdpceobnkflaaDoorJ7
import Derived.Test.YthbdpceobnkflaaDoorJ2
import Derived.Test.YthbdpceobnkflaaDoorJ4
import Derived.BigQuiet
import Derived.Test.YthbdpceobnkflaaDoorJ1
import Derived.Deep.MidRow
namespace Go.Proofs.YthbdpceobnkflaaDoor
open Go Go.RowKit
set_option linter.unusedVariables false
set_option maxHeartbeats 3000000
set_option maxRecDepth 20000

def fdE (N : List (ByteArray × Nat)) (n : ByteArray) : Int := if (lookN N n).isSome then 0 else 141
theorem find_any (q : Nu) (p : Nat) (vl : Value) (N : List (ByteArray × Nat)) (y : World) (hs : Hid (Bx y q.s (sC q p vl) 70)) (hm : Hid (MapE y q.m N)) (n : ByteArray) :
    Calls Tryd.prog 49 #[.pointer (some ⟨q.s, 0, none⟩), .string n] y fun e z => e = .returned (.tuple #[.int .i64 (((lookN N n).getD 0 : Nat) : Int), .int .i64 (fdE N n)]) ∧ z = y := by
  have c4 : y.cell? ⟨q.s, 4, none⟩ = some (.map (some q.m)) := hs.out.c 4 _ rfl
  have hlk := hm.out.toF.look (P := Tryd.prog) mapUL strUL n (.int .i64 0) (by kernel_rfl)
  unfold mapN at hlk
  unfold fdE
  rcases hf : lookN N n with _ | t
  · rw [hf] at hlk
    simp only [Option.map_none, Option.getD_none, Option.isSome_none] at hlk ⊢
    go_enter Tryd.func49, Tryd.ntmps49
    go_wp2
    go_ret2
    exact ⟨rfl, rfl⟩
  · rw [hf] at hlk
    simp only [Option.map_some, Option.getD_some, Option.isSome_some] at hlk ⊢
    go_enter Tryd.func49, Tryd.ntmps49
    go_wp2
    go_ret2
    exact ⟨rfl, rfl⟩
theorem leaves_any (X : ByteArray) (F : Int) (L : Nat) (cy : Int) (n : ByteArray) (p : Int) (a t : Nat) (ha : a ≤ 65536) (ht : t ≤ 65535) (y : World) :
    Calls Tryd.prog 50 #[.agg (lbC X F L cy n p), .int .i64 (a : Int), .int .i64 (t : Int)] y fun e z => e = .returned (.bool (decide (F = 5 ∧ t / 256 ≠ (a + 1) / 256))) ∧ Below y.heap.size y z := by
  have b1 : Hid (Below y.heap.size y (y.alloc (.cells (lbC X F L cy n p) 103))) := below1 y _
  have cc := (one_bxL y (lbC X F L cy n p) 103).c 1 (.int .u8 F) rfl
  have wa : IntKind.i64.wrap ((a : Int) + 1) = (a : Int) + 1 := by rw [IntKind.wrap_i64]; omega
  by_cases hF : F = 5
  · have h5 : (F == 5) = true := by rw [beq_iff_eq]; exact hF
    have fin : Hid (decide (F = 5 ∧ t / 256 ≠ (a + 1) / 256) = ((t : Int) / 256 != ((a : Int) + 1) / 256)) := by
      show _ = _
      rw [Bool.eq_iff_iff]
      simp [hF]
      omega
    rw [fin.out]
    clear hF ha ht
    go_enter Tryd.func50, Tryd.ntmps50
    go_wp2
    go_ret
    exact ⟨rfl, b1.out⟩
  · have h5 : (F == 5) = false := by rw [beq_eq_false_iff_ne]; exact hF
    rw [decide_eq_false (fun h => hF h.1)]
    clear hF ha ht
    go_enter Tryd.func50, Tryd.ntmps50
    go_wp2
    go_ret
    exact ⟨rfl, b1.out⟩
theorem and255 (t : Nat) (ht : t ≤ 65535) : bits .and .i64 (t : Int) 255 = ((t % 256 : Nat) : Int) := by
  show IntKind.i64.wrap ((BitVec.ofInt 64 (t : Int) &&& BitVec.ofInt 64 ((255 : Nat) : Int)).toNat : Int) = _
  rw [BitVec.ofInt_natCast, BitVec.ofInt_natCast, BitVec.toNat_and, BitVec.toNat_ofNat, BitVec.toNat_ofNat, Nat.mod_eq_of_lt (by omega), Nat.mod_eq_of_lt (by omega), show 255 = 2 ^ 8 - 1 from rfl, Nat.and_two_pow_sub_one_eq_mod, IntKind.wrap_i64]
  omega
def opF (F p : Int) (t : Nat) : Nat := if p = 2 then t / 256 else if p = 3 ∨ F = 5 then t % 256 else t
theorem operand_any (X : ByteArray) (F : Int) (L : Nat) (cy : Int) (n : ByteArray) (p : Int) (t : Nat) (ht : t ≤ 65535) (y : World) :
    Calls Tryd.prog 112 #[.agg (lbC X F L cy n p), .int .i64 (t : Int)] y fun e z => e = .returned (.int .i64 (opF F p t : Nat)) ∧ Below y.heap.size y z := by
  have b1 : Hid (Below y.heap.size y (y.alloc (.cells (lbC X F L cy n p) 103))) := below1 y _
  have c1 := (one_bxL y (lbC X F L cy n p) 103).c 1 (.int .u8 F) rfl
  have c2 := (one_bxL y (lbC X F L cy n p) 103).c 5 (.int .u8 p) rfl
  have ha := and255 t ht
  unfold opF
  by_cases h2 : p = 2
  · have e2 : (p == 2) = true := by rw [beq_iff_eq]; exact h2
    rw [if_pos h2]
    clear h2
    go_enter Tryd.func112, Tryd.ntmps112
    go_wp2
    go_ret
    exact ⟨by first | rfl | (congr 2; omega), b1.out⟩
  · have e2 : (p == 2) = false := by rw [beq_eq_false_iff_ne]; exact h2
    rw [if_neg h2]
    by_cases h3 : p = 3
    · have e3 : (p == 3) = true := by rw [beq_iff_eq]; exact h3
      rw [if_pos (.inl h3)]
      clear h2 h3
      go_enter Tryd.func112, Tryd.ntmps112
      go_wp2
      go_ret
      exact ⟨by first | rfl | (congr 2; omega), b1.out⟩
    · have e3 : (p == 3) = false := by rw [beq_eq_false_iff_ne]; exact h3
      by_cases h5 : F = 5
      · have e5 : (F == 5) = true := by rw [beq_iff_eq]; exact h5
        rw [if_pos (.inr h5)]
        clear h2 h3 h5
        go_enter Tryd.func112, Tryd.ntmps112
        go_wp2
        go_ret
        exact ⟨by first | rfl | (congr 2; omega), b1.out⟩
      · have e5 : (F == 5) = false := by rw [beq_eq_false_iff_ne]; exact h5
        rw [if_neg (fun h => h.elim h3 h5)]
        clear h2 h3 h5
        go_enter Tryd.func112, Tryd.ntmps112
        go_wp2
        go_ret
        exact ⟨rfl, b1.out⟩
/-- Bytes that lie somewhere. -/
def BtE (y : World) (L : List UInt8) (e : Ending) (z : World) : Prop := ∃ sp cap, e = .returned (.slice sp L.length cap) ∧ Hid (LB8 z sp L ∧ Below y.heap.size y z)
theorem lb_nil (z : World) (sp : Option Addr) : LB8 z sp [] := fun j b h => by simp at h
theorem lb_bx {z : World} {g : Nat} {L : List UInt8} {t : TypeId} (h : Bx z g (rU L) t) : LB8 z (some ⟨g, 0, none⟩) L := fun j b hj => ⟨g, 0, rfl, by rw [Nat.zero_add]; exact h.c j _ (rU_get _ _ _ hj)⟩
theorem bytes_label (y : World) (n : ByteArray) (t : Int) : Calls Tryd.prog 99 #[.agg #[.string n], .int .i64 t] y (BtE y []) := by
  have b1 : Hid (Below y.heap.size y (y.alloc (.cells #[.string n] 93))) := below1 y _
  go_enter Tryd.func99, Tryd.ntmps99
  go_wp2
  go_ret
  exact ⟨none, 0, rfl, lb_nil _ _, b1.out⟩
theorem bytes_move (y : World) (n : Int) (t : Int) : Calls Tryd.prog 102 #[.agg #[.int .i64 n], .int .i64 t] y (BtE y []) := by
  have b1 : Hid (Below y.heap.size y (y.alloc (.cells #[.int .i64 n] 95))) := below1 y _
  go_enter Tryd.func102, Tryd.ntmps102
  go_wp2
  go_ret
  exact ⟨none, 0, rfl, lb_nil _ _, b1.out⟩
theorem bytes_data (y : World) (sp : Option Addr) (m cap : Nat) (L : List UInt8) (hm : L.length = m) (hL : LB8 y sp L) (t : Int) : Calls Tryd.prog 104 #[.agg #[.slice sp m cap], .int .i64 t] y (BtE y L) := by
  have b1 : Hid (Below y.heap.size y (y.alloc (.cells #[.slice sp m cap] 97))) := below1 y _
  have hL' : Hid (LB8 y sp L ∧ L.length = m) := ⟨hL, hm⟩
  have cc := (one_bxL y #[.slice sp m cap] 97).c 0 (.slice sp m cap) rfl
  clear hL hm
  go_enter Tryd.func104, Tryd.ntmps104
  go_wp2
  go_ret
  exact ⟨sp, cap, by rw [hL'.out.2]; rfl, hL'.out.1.below b1.out, b1.out⟩
theorem bytes_plain (y : World) (sp : Option Addr) (m cap : Nat) (L : List UInt8) (hm : L.length = m) (hL : LB8 y sp L) (t : Int) : Calls Tryd.prog 109 #[.agg #[.slice sp m cap], .int .i64 t] y (BtE y L) := by
  have b1 : Hid (Below y.heap.size y (y.alloc (.cells #[.slice sp m cap] 101))) := below1 y _
  have hL' : Hid (LB8 y sp L ∧ L.length = m) := ⟨hL, hm⟩
  have cc := (one_bxL y #[.slice sp m cap] 101).c 0 (.slice sp m cap) rfl
  clear hL hm
  go_enter Tryd.func109, Tryd.ntmps109
  go_wp2
  go_ret
  exact ⟨sp, cap, by rw [hL'.out.2]; rfl, hL'.out.1.below b1.out, b1.out⟩
theorem bytes_address (y : World) (n : ByteArray) (t : Nat) (ht : t ≤ 65535) : Calls Tryd.prog 107 #[.agg #[.string n], .int .i64 (t : Int)] y (BtE y [UInt8.ofNat (t / 256), UInt8.ofNat t]) := by
  have b1 : Hid (Below y.heap.size y (y.alloc (.cells #[.string n] 99))) := below1 y _
  have fin : Hid (#[Value.int .u8 ((t : Int) / 256 % 256), .int .u8 ((t : Int) % 256)] = rU [UInt8.ofNat (t / 256), UInt8.ofNat t]) := by
    show _ = _
    unfold rU byV
    simp [UInt8.toNat_ofNat']
  clear ht
  go_enter Tryd.func107, Tryd.ntmps107
  go_wp2
  go_ret
  refine ⟨some ⟨y.heap.size + 1, 0, none⟩, 2, rfl, ?_, below2 y _ _⟩
  have h9 := one_bxL (y.alloc (.cells #[.string n] 99)) #[.int .u8 ((t : Int) / 256 % 256), .int .u8 ((t : Int) % 256)] 5
  rw [fin.out] at h9
  rw [show (y.alloc (.cells #[.string n] 99)).heap.size = y.heap.size + 1 by simp] at h9
  rw [fin.out]
  exact lb_bx h9
theorem rtLb : Rt Tryd.prog 103 6 := ⟨⟨_, Tryd.underlying103, rfl⟩, by kernel_rfl⟩
theorem bytes_labelled (y : World) (T : Hid (Tabs y)) (X : ByteArray) (F : Int) (L : Nat) (cy : Int) (n : ByteArray) (p : Int) (t : Nat) (ht : t ≤ 65535) (k : Nat) (ho : opOf X = some k) (hm : may k (opF F p t : Nat)) :
    Calls Tryd.prog 111 #[.agg (lbC X F L cy n p), .int .i64 (t : Int)] y (BtE y (encL X (opF F p t : Nat))) := by
  have b1 : Hid (Below y.heap.size y (y.alloc (.cells (lbC X F L cy n p) 103))) := below1 y _
  have h1 : Hid (Bx (y.alloc (.cells (lbC X F L cy n p) 103)) y.heap.size (lbC X F L cy n p) 103) := one_bxL _ _ _
  have hO := fun u => operand_any X F L cy n p t ht u
  have hE : Hid (∀ u, Below y.heap.size y u → Calls Tryd.prog 33 #[.string X, .int .i64 ((opF F p t : Nat) : Int)] u (NewB u (encL X (opF F p t : Nat)))) := fun u hu => encode_any X (opF F p t : Nat) k ho hm u (T.out.below hu)
  generalize ((opF F p t : Nat) : Int) = A at hO hE ⊢
  generalize encL X A = R at hE ⊢
  obtain ⟨y1, hy1⟩ : ∃ z, y.alloc (.cells (lbC X F L cy n p) 103) = z := ⟨_, rfl⟩
  have K0 : Hid (Fm y [(y.heap.size, lbC X F L cy n p, 103)] (y.alloc (.cells (lbC X F L cy n p) 103))) := Fm.one y _ _
  clear ho hm ht hy1 h1 b1
  go_enter Tryd.func111, Tryd.ntmps111
  go_wp2
  refine region_class_tail 6 (Fm y [(y.heap.size, lbC X F L cy n p, 103)]) (by kernel_rfl) (by kernel_rfl) (K0.out.below (below_drew (Below.refl _ _))) ?_
  simp only [List.take_succ_cons, List.take_zero, List.drop_succ_cons, List.drop_zero]
  refine quiet_one (.pointer (some ⟨y.heap.size, 0, none⟩)) rfl (fun u hu => by go_simp) ?_
  refine quiet_one (.pointer (some ⟨y.heap.size, 0, none⟩)) rfl (fun u hu => by go_simp) ?_
  refine quiet_one (.string X) rfl (fun u hu => by have d : u.cell? ⟨y.heap.size, 0, none⟩ = some (.string X) := (hu.bx 0 _ _ _ rfl).c 0 _ rfl; go_simp) ?_
  refine quiet_one (.agg (lbC X F L cy n p)) rfl (q_load rtLb y.heap.size (lbC X F L cy n p) (fun u hu => hu.bx 0 _ _ _ rfl) rfl (.tmp 2) rfl (by go_simp)) ?_
  refine quiet_one (.int .i64 (t : Int)) rfl (fun u hu => by go_simp) ?_
  refine quiet_one (.int .i64 A) rfl (fun u hu => by
    have d := (hO u).mono fun e w' (h : _ ∧ _) => And.intro h.1 (hu.below h.2)
    go_simp
    all_goals exact d) ?_
  refine wpQuiet_nil ?_
  intro z K3
  replace K3 : Hid _ := K3
  go_wp2_with (go_at_call 33; refine (hE.out _ K3.out.low).mono ?_; rintro e z1 ⟨g, rfl, H⟩)
  go_ret
  exact ⟨_, _, rfl, lb_bx H.out.2.1, of_below K3.out.low H.out.2.2⟩
theorem rtLp : Rt Tryd.prog 72 2 := ⟨⟨_, Tryd.underlying72, rfl⟩, by kernel_rfl⟩
theorem tn_label (n : ByteArray) (w : World) : (Instr.typeAssert (.iface 93 (.agg #[.string n])) 64 99 true).run Tryd.prog w = .ok (.tuple #[.agg #[.string ⟨#[]⟩], .bool false]) w := by kernel_rfl
theorem tm_label (n : ByteArray) (w : World) : (Instr.typeAssert (.iface 93 (.agg #[.string n])) 64 103 true).run Tryd.prog w = .ok (.tuple #[.agg (lbC ⟨#[]⟩ 0 0 0 ⟨#[]⟩ 0), .bool false]) w := by kernel_rfl
theorem tn_move (n : Int) (w : World) : (Instr.typeAssert (.iface 95 (.agg #[.int .i64 n])) 64 99 true).run Tryd.prog w = .ok (.tuple #[.agg #[.string ⟨#[]⟩], .bool false]) w := by kernel_rfl
theorem tm_move (n : Int) (w : World) : (Instr.typeAssert (.iface 95 (.agg #[.int .i64 n])) 64 103 true).run Tryd.prog w = .ok (.tuple #[.agg (lbC ⟨#[]⟩ 0 0 0 ⟨#[]⟩ 0), .bool false]) w := by kernel_rfl
theorem tn_data (sp : Option Addr) (m cap : Nat) (w : World) : (Instr.typeAssert (.iface 97 (.agg #[.slice sp m cap])) 64 99 true).run Tryd.prog w = .ok (.tuple #[.agg #[.string ⟨#[]⟩], .bool false]) w := by kernel_rfl
theorem tm_data (sp : Option Addr) (m cap : Nat) (w : World) : (Instr.typeAssert (.iface 97 (.agg #[.slice sp m cap])) 64 103 true).run Tryd.prog w = .ok (.tuple #[.agg (lbC ⟨#[]⟩ 0 0 0 ⟨#[]⟩ 0), .bool false]) w := by kernel_rfl
theorem tn_plain (sp : Option Addr) (m cap : Nat) (w : World) : (Instr.typeAssert (.iface 101 (.agg #[.slice sp m cap])) 64 99 true).run Tryd.prog w = .ok (.tuple #[.agg #[.string ⟨#[]⟩], .bool false]) w := by kernel_rfl
theorem tm_plain (sp : Option Addr) (m cap : Nat) (w : World) : (Instr.typeAssert (.iface 101 (.agg #[.slice sp m cap])) 64 103 true).run Tryd.prog w = .ok (.tuple #[.agg (lbC ⟨#[]⟩ 0 0 0 ⟨#[]⟩ 0), .bool false]) w := by kernel_rfl
theorem ta_address (n : ByteArray) (w : World) : (Instr.typeAssert (.iface 99 (.agg #[.string n])) 64 99 true).run Tryd.prog w = .ok (.tuple #[.agg #[.string n], .bool true]) w := by kernel_rfl
theorem tn_labelled (X : ByteArray) (F : Int) (L : Nat) (cy : Int) (n : ByteArray) (p : Int) (w : World) : (Instr.typeAssert (.iface 103 (.agg (lbC X F L cy n p))) 64 99 true).run Tryd.prog w = .ok (.tuple #[.agg #[.string ⟨#[]⟩], .bool false]) w := by kernel_rfl
theorem tb_labelled (X : ByteArray) (F : Int) (L : Nat) (cy : Int) (n : ByteArray) (p : Int) (w : World) : (Instr.typeAssert (.iface 103 (.agg (lbC X F L cy n p))) 64 103 true).run Tryd.prog w = .ok (.tuple #[.agg (lbC X F L cy n p), .bool true]) w := by kernel_rfl
theorem target_label (q : Nu) (y : World) (n : ByteArray) (a : Nat) : Calls Tryd.prog 34 #[.pointer (some ⟨q.s, 0, none⟩), .agg (lpA ⟨93, .agg #[.string n], a⟩)] y fun e z => e = .returned (.tuple #[.int .i64 0, .int .i64 0]) ∧ Below y.heap.size y z := by
  have b1 : Hid (Below y.heap.size y (y.alloc (.cells (lpA ⟨93, .agg #[.string n], a⟩) 72))) := below1 y _
  have cc := (one_bxL y (lpA ⟨93, .agg #[.string n], a⟩) 72).c 0 (.iface 93 (.agg #[.string n])) rfl
  have t1 := tn_label n
  have t2 := tm_label n
  go_enter Tryd.func34, Tryd.ntmps34
  go_wp2
  go_ret2
  exact ⟨rfl, b1.out⟩
theorem target_move (q : Nu) (y : World) (n : Int) (a : Nat) : Calls Tryd.prog 34 #[.pointer (some ⟨q.s, 0, none⟩), .agg (lpA ⟨95, .agg #[.int .i64 n], a⟩)] y fun e z => e = .returned (.tuple #[.int .i64 0, .int .i64 0]) ∧ Below y.heap.size y z := by
  have b1 : Hid (Below y.heap.size y (y.alloc (.cells (lpA ⟨95, .agg #[.int .i64 n], a⟩) 72))) := below1 y _
  have cc := (one_bxL y (lpA ⟨95, .agg #[.int .i64 n], a⟩) 72).c 0 (.iface 95 (.agg #[.int .i64 n])) rfl
  have t1 := tn_move n
  have t2 := tm_move n
  go_enter Tryd.func34, Tryd.ntmps34
  go_wp2
  go_ret2
  exact ⟨rfl, b1.out⟩
theorem target_data (q : Nu) (y : World) (sp : Option Addr) (m cap : Nat) (a : Nat) : Calls Tryd.prog 34 #[.pointer (some ⟨q.s, 0, none⟩), .agg (lpA ⟨97, .agg #[.slice sp m cap], a⟩)] y fun e z => e = .returned (.tuple #[.int .i64 0, .int .i64 0]) ∧ Below y.heap.size y z := by
  have b1 : Hid (Below y.heap.size y (y.alloc (.cells (lpA ⟨97, .agg #[.slice sp m cap], a⟩) 72))) := below1 y _
  have cc := (one_bxL y (lpA ⟨97, .agg #[.slice sp m cap], a⟩) 72).c 0 (.iface 97 (.agg #[.slice sp m cap])) rfl
  have t1 := tn_data sp m cap
  have t2 := tm_data sp m cap
  go_enter Tryd.func34, Tryd.ntmps34
  go_wp2
  go_ret2
  exact ⟨rfl, b1.out⟩
theorem target_plain (q : Nu) (y : World) (sp : Option Addr) (m cap : Nat) (a : Nat) : Calls Tryd.prog 34 #[.pointer (some ⟨q.s, 0, none⟩), .agg (lpA ⟨101, .agg #[.slice sp m cap], a⟩)] y fun e z => e = .returned (.tuple #[.int .i64 0, .int .i64 0]) ∧ Below y.heap.size y z := by
  have b1 : Hid (Below y.heap.size y (y.alloc (.cells (lpA ⟨101, .agg #[.slice sp m cap], a⟩) 72))) := below1 y _
  have cc := (one_bxL y (lpA ⟨101, .agg #[.slice sp m cap], a⟩) 72).c 0 (.iface 101 (.agg #[.slice sp m cap])) rfl
  have t1 := tn_plain sp m cap
  have t2 := tm_plain sp m cap
  go_enter Tryd.func34, Tryd.ntmps34
  go_wp2
  go_ret2
  exact ⟨rfl, b1.out⟩
theorem rtAd : Rt Tryd.prog 99 1 := ⟨⟨_, Tryd.underlying99, rfl⟩, by kernel_rfl⟩
theorem target_address (q : Nu) (p : Nat) (vl : Value) (N : List (ByteArray × Nat)) (y : World) (hs : Hid (Bx y q.s (sC q p vl) 70)) (hm : Hid (MapE y q.m N)) (n : ByteArray) (a : Nat) : Calls Tryd.prog 34 #[.pointer (some ⟨q.s, 0, none⟩), .agg (lpA ⟨99, .agg #[.string n], a⟩)] y fun e z => e = .returned (.tuple #[.int .i64 (((lookN N n).getD 0 : Nat) : Int), .int .i64 (fdE N n)]) ∧ Below y.heap.size y z := by
  have K0 : Hid (Fm y [(y.heap.size, lpA ⟨99, .agg #[.string n], a⟩, 72)] (y.alloc (.cells (lpA ⟨99, .agg #[.string n], a⟩) 72))) := Fm.one y _ _
  have cc := (one_bxL y (lpA ⟨99, .agg #[.string n], a⟩) 72).c 0 (.iface 99 (.agg #[.string n])) rfl
  have t1 := ta_address n
  have hF : Hid (∀ u, Below y.heap.size y u → Calls Tryd.prog 49 #[.pointer (some ⟨q.s, 0, none⟩), .string n] u fun e z => e = .returned (.tuple #[.int .i64 (((lookN N n).getD 0 : Nat) : Int), .int .i64 (fdE N n)]) ∧ z = u) := fun u hu => find_any q p vl N u (hs.out.below hu) (hm.out.keep (hu.block _ hm.out.lt)) n
  generalize (((lookN N n).getD 0 : Nat) : Int) = A at hF ⊢
  generalize fdE N n = E at hF ⊢
  go_enter Tryd.func34, Tryd.ntmps34
  go_wp2_with (first
    | ((with_reducible refine gen_world ((y.alloc (.cells (lpA ⟨99, .agg #[.string n], a⟩) 72)).alloc (.cells #[.string ⟨#[]⟩] 99)) (Fm y [(y.heap.size, lpA ⟨99, .agg #[.string n], a⟩, 72), (y.heap.size + 1, #[.string ⟨#[]⟩], 99)]) ?_ ?_); exact Fm.two y _ _ _ _; intro z1 K2)
    | ((with_reducible refine at_st rtAd (y.heap.size + 1) #[.string ⟨#[]⟩] #[.string n] ?_ ?_ ?_ ?_ (.tmp 6) (.tmp 14) ?_ ?_ ?_ ?_ ?_); exact K2.out.bx 1 _ _ _ rfl; rfl; rfl; simp [Value.oneCell']; rfl; rfl; rfl; rfl; intro z2 hw2; have K3 : Hid (Fm y [(y.heap.size, lpA ⟨99, .agg #[.string n], a⟩, 72), (y.heap.size + 1, #[.string n], 99)] z2) := K2.out.put 1 _ _ _ _ rfl hw2.out; clear hw2 K2; have d3 := (K3.out.bx 1 _ _ _ rfl).c 0 (.string n) rfl)
    | (go_at_call 49; refine (hF.out _ K3.out.low).mono ?_; rintro e z9 ⟨rfl, rfl⟩))
  go_ret2
  exact ⟨rfl, K3.out.low⟩
/-- What target answers to a branch. -/
def tgE (N : List (ByteArray × Nat)) (a : Nat) (F : Int) (n : ByteArray) : Int := match lookN N n with | none => 141 | some t => if F = 5 ∧ t / 256 ≠ (a + 1) / 256 then 142 else 0
theorem target_labelled (q : Nu) (p9 : Nat) (vl : Value) (N : List (ByteArray × Nat)) (hN : ∀ x ∈ N, x.2 ≤ 65535) (y : World) (hs : Hid (Bx y q.s (sC q p9 vl) 70)) (hm : Hid (MapE y q.m N)) (X : ByteArray) (F : Int) (L : Nat) (cy : Int) (n : ByteArray) (p : Int) (a : Nat) (ha : a ≤ 65536) : Calls Tryd.prog 34 #[.pointer (some ⟨q.s, 0, none⟩), .agg (lpA ⟨103, .agg (lbC X F L cy n p), a⟩)] y fun e z => ∃ g : Int, e = .returned (.tuple #[.int .i64 g, .int .i64 (tgE N a F n)]) ∧ Hid ((tgE N a F n = 0 → g = (((lookN N n).getD 0 : Nat) : Int)) ∧ Below y.heap.size y z) := by
  have K0 : Hid (Fm y [(y.heap.size, lpA ⟨103, .agg (lbC X F L cy n p), a⟩, 72)] (y.alloc (.cells (lpA ⟨103, .agg (lbC X F L cy n p), a⟩) 72))) := Fm.one y _ _
  have cc := (one_bxL y (lpA ⟨103, .agg (lbC X F L cy n p), a⟩) 72).c 0 (.iface 103 (.agg (lbC X F L cy n p))) rfl
  have t1 := tn_labelled X F L cy n p
  have t2 := tb_labelled X F L cy n p
  have hF : Hid (∀ u, Below y.heap.size y u → Calls Tryd.prog 49 #[.pointer (some ⟨q.s, 0, none⟩), .string n] u fun e z => e = .returned (.tuple #[.int .i64 (((lookN N n).getD 0 : Nat) : Int), .int .i64 (fdE N n)]) ∧ z = u) := fun u hu => find_any q p9 vl N u (hs.out.below hu) (hm.out.keep (hu.block _ hm.out.lt)) n
  unfold tgE
  unfold fdE at hF
  rcases hf : lookN N n with _ | t
  · rw [hf] at hF
    simp only [Option.getD_none, Option.isSome_none] at hF ⊢
    rw [show (if false = true then (0 : Int) else 141) = 141 from rfl] at hF
    go_enter Tryd.func34, Tryd.ntmps34
    go_wp2_with (first
    | ((with_reducible refine gen_world ((y.alloc (.cells (lpA ⟨103, .agg (lbC X F L cy n p), a⟩) 72)).alloc (.cells #[.string ⟨#[]⟩, .int .u8 0, .int .i64 0, .int .i64 0, .string ⟨#[]⟩, .int .u8 0] 103)) (Fm y [(y.heap.size, lpA ⟨103, .agg (lbC X F L cy n p), a⟩, 72), (y.heap.size + 1, #[.string ⟨#[]⟩, .int .u8 0, .int .i64 0, .int .i64 0, .string ⟨#[]⟩, .int .u8 0], 103)]) ?_ ?_); exact Fm.two y _ _ _ _; intro z1 K2)
    | ((with_reducible refine at_st rtLb (y.heap.size + 1) #[.string ⟨#[]⟩, .int .u8 0, .int .i64 0, .int .i64 0, .string ⟨#[]⟩, .int .u8 0] (lbC X F L cy n p) ?_ ?_ ?_ ?_ (.tmp 7) (.tmp 23) ?_ ?_ ?_ ?_ ?_); exact K2.out.bx 1 _ _ _ rfl; rfl; rfl; simp [lbC, Value.oneCell']; rfl; rfl; rfl; rfl; intro z2 hw2; have K3 : Hid (Fm y [(y.heap.size, lpA ⟨103, .agg (lbC X F L cy n p), a⟩, 72), (y.heap.size + 1, lbC X F L cy n p, 103)] z2) := K2.out.put 1 _ _ _ _ rfl hw2.out; clear hw2 K2; have d3 := (K3.out.bx 1 _ _ _ rfl).c 4 (.string n) rfl; have d4 := (K3.out.bx 0 _ _ _ rfl).c 1 (.int .i64 (a : Int)) rfl)
    | (go_at_call 49; refine (hF.out _ K3.out.low).mono ?_; rintro e z9 ⟨rfl, rfl⟩))
    go_ret2
    exact ⟨_, rfl, fun h => absurd h (by decide), K3.out.low⟩
  · rw [hf] at hF
    simp only [Option.getD_some, Option.isSome_some] at hF ⊢
    rw [if_pos trivial] at hF
    have hL := fun u => leaves_any X F L cy n p a t ha (look_le hN hf) u
    by_cases hb : F = 5 ∧ t / 256 ≠ (a + 1) / 256
    · rw [decide_eq_true hb] at hL
      rw [if_pos hb]
      clear hb hf ha hN
      go_enter Tryd.func34, Tryd.ntmps34
      go_wp2_with (first
    | ((with_reducible refine gen_world ((y.alloc (.cells (lpA ⟨103, .agg (lbC X F L cy n p), a⟩) 72)).alloc (.cells #[.string ⟨#[]⟩, .int .u8 0, .int .i64 0, .int .i64 0, .string ⟨#[]⟩, .int .u8 0] 103)) (Fm y [(y.heap.size, lpA ⟨103, .agg (lbC X F L cy n p), a⟩, 72), (y.heap.size + 1, #[.string ⟨#[]⟩, .int .u8 0, .int .i64 0, .int .i64 0, .string ⟨#[]⟩, .int .u8 0], 103)]) ?_ ?_); exact Fm.two y _ _ _ _; intro z1 K2)
    | ((with_reducible refine at_st rtLb (y.heap.size + 1) #[.string ⟨#[]⟩, .int .u8 0, .int .i64 0, .int .i64 0, .string ⟨#[]⟩, .int .u8 0] (lbC X F L cy n p) ?_ ?_ ?_ ?_ (.tmp 7) (.tmp 23) ?_ ?_ ?_ ?_ ?_); exact K2.out.bx 1 _ _ _ rfl; rfl; rfl; simp [lbC, Value.oneCell']; rfl; rfl; rfl; rfl; intro z2 hw2; have K3 : Hid (Fm y [(y.heap.size, lpA ⟨103, .agg (lbC X F L cy n p), a⟩, 72), (y.heap.size + 1, lbC X F L cy n p, 103)] z2) := K2.out.put 1 _ _ _ _ rfl hw2.out; clear hw2 K2; have d3 := (K3.out.bx 1 _ _ _ rfl).c 4 (.string n) rfl; have d4 := (K3.out.bx 0 _ _ _ rfl).c 1 (.int .i64 (a : Int)) rfl)
    | (go_at_call 49; refine (hF.out _ K3.out.low).mono ?_; rintro e z9 ⟨rfl, rfl⟩)
    | ((with_reducible refine at_load rtLb (y.heap.size + 1) (lbC X F L cy n p) ?_ ?_ (.tmp 7) ?_ ?_ ?_ ?_); exact K3.out.bx 1 _ _ _ rfl; rfl; rfl; rfl; rfl)
    | (go_at_call 50; refine (hL _).mono ?_; rintro e z8 ⟨rfl, H8⟩; replace H8 : Hid _ := of_below K3.out.low H8))
      go_ret2
      exact ⟨_, rfl, fun h => absurd h (by decide), H8.out⟩
    · rw [decide_eq_false hb] at hL
      rw [if_neg hb]
      clear hb hf ha hN
      go_enter Tryd.func34, Tryd.ntmps34
      go_wp2_with (first
    | ((with_reducible refine gen_world ((y.alloc (.cells (lpA ⟨103, .agg (lbC X F L cy n p), a⟩) 72)).alloc (.cells #[.string ⟨#[]⟩, .int .u8 0, .int .i64 0, .int .i64 0, .string ⟨#[]⟩, .int .u8 0] 103)) (Fm y [(y.heap.size, lpA ⟨103, .agg (lbC X F L cy n p), a⟩, 72), (y.heap.size + 1, #[.string ⟨#[]⟩, .int .u8 0, .int .i64 0, .int .i64 0, .string ⟨#[]⟩, .int .u8 0], 103)]) ?_ ?_); exact Fm.two y _ _ _ _; intro z1 K2)
    | ((with_reducible refine at_st rtLb (y.heap.size + 1) #[.string ⟨#[]⟩, .int .u8 0, .int .i64 0, .int .i64 0, .string ⟨#[]⟩, .int .u8 0] (lbC X F L cy n p) ?_ ?_ ?_ ?_ (.tmp 7) (.tmp 23) ?_ ?_ ?_ ?_ ?_); exact K2.out.bx 1 _ _ _ rfl; rfl; rfl; simp [lbC, Value.oneCell']; rfl; rfl; rfl; rfl; intro z2 hw2; have K3 : Hid (Fm y [(y.heap.size, lpA ⟨103, .agg (lbC X F L cy n p), a⟩, 72), (y.heap.size + 1, lbC X F L cy n p, 103)] z2) := K2.out.put 1 _ _ _ _ rfl hw2.out; clear hw2 K2; have d3 := (K3.out.bx 1 _ _ _ rfl).c 4 (.string n) rfl; have d4 := (K3.out.bx 0 _ _ _ rfl).c 1 (.int .i64 (a : Int)) rfl)
    | (go_at_call 49; refine (hF.out _ K3.out.low).mono ?_; rintro e z9 ⟨rfl, rfl⟩)
    | ((with_reducible refine at_load rtLb (y.heap.size + 1) (lbC X F L cy n p) ?_ ?_ (.tmp 7) ?_ ?_ ?_ ?_); exact K3.out.bx 1 _ _ _ rfl; rfl; rfl; rfl; rfl)
    | (go_at_call 50; refine (hL _).mono ?_; rintro e z8 ⟨rfl, H8⟩; replace H8 : Hid _ := of_below K3.out.low H8))
      go_ret2
      exact ⟨_, rfl, fun _ => rfl, H8.out⟩
end Go.Proofs.YthbdpceobnkflaaDoor

namespace Go.Proofs.YthbdpceobnkflaaDoor
open Go Go.RowKit
set_option linter.unusedVariables false
set_option maxHeartbeats 1000000
set_option maxRecDepth 20000

theorem lb_cell {w : World} {g o : Nat} {l : List UInt8} (h : LB8 w (some ⟨g, o, none⟩) l) (j : Nat) (b : UInt8) (hj : l[j]? = some b) : w.cell? ⟨g, o + j, none⟩ = some (.int .u8 (b.toNat : Int)) := by
  obtain ⟨g', o', e, c⟩ := h j b hj
  cases e
  exact c
end Go.Proofs.YthbdpceobnkflaaDoor

namespace Go.Proofs.YthbdpceobnkflaaDoor
open Go Go.RowKit
set_option linter.unusedVariables false
set_option maxHeartbeats 3000000
set_option maxRecDepth 20000

abbrev plB (B : List Bb) : List (Int × List UInt8) := B.map fun x => (x.1.a, x.2)
end Go.Proofs.YthbdpceobnkflaaDoor

namespace Go.Proofs.YthbdpceobnkflaaDoor
open Go Go.RowKit
set_option linter.unusedVariables false
set_option maxHeartbeats 3000000
set_option maxRecDepth 20000

theorem slB2 (g o n cap l h : Nat) (L H : Int) (hL : L = (l : Int)) (hH : H = (h : Int)) (h1 : l ≤ h) (h2 : h ≤ n) (hc : n ≤ cap) : ∃ sp1, (∀ v, (Instr.sliceAt 33 (.slice (some ⟨g, o, none⟩) n cap) (some (.int .i64 L)) (some (.int .i64 H)) none).run Tryd.prog v = .ok (.slice sp1 (h - l) (cap - l)) v) ∧ (l < h → sp1 = some ⟨g, o + l, none⟩) := by
  subst hL hH
  refine ⟨if cap = l then some ⟨g, o, none⟩ else (some (⟨g, o, none⟩ : Addr)).map (·.add (l * 1)), fun v => ?_, fun h => ?_⟩
  · have hu : Tryd.prog.underlying 33 = some (.slice (Tryd.prog.elem 33)) := by kernel_rfl
    rw [run_sliceAt_slice v _ _ _ _ _ hu, run_slice_lh v _ _ _ _ hu .i64 .i64 (l : Int) (h : Int) (by omega) (by omega) (by omega)]
    have hz : ∀ v, (sizeOf (Tryd.prog.elem 33)).run Tryd.prog v = .ok 1 v := fun v => by kernel_rfl
    rw [hz]
    simp only [Result.andThen_ok, sliced, Int.toNat_natCast]
  · rw [if_neg (by omega)]
    simp [Addr.add_lit]
end Go.Proofs.YthbdpceobnkflaaDoor

namespace Go.Proofs.YthbdpceobnkflaaDoor
open Go Go.RowKit
set_option linter.unusedVariables false
set_option maxHeartbeats 3000000
set_option maxRecDepth 20000

/-- An object whose lists have their room. -/
structure Lco (w : World) (ob : Oo) : Prop where
  lo : Lo w ob
  cb : ∀ x ∈ ob.B, x.1.m ≤ x.1.cap
  cm : ob.M.length ≤ ob.mc
theorem Lco.below {w y : World} {ob : Oo} (h : Lco w ob) (hb : Below w.heap.size w y) : Lco y ob := ⟨h.lo.below hb, h.cb, h.cm⟩
end Go.Proofs.YthbdpceobnkflaaDoor

namespace Go.Proofs.YthbdpceobnkflaaDoor
open Go Go.RowKit
set_option linter.unusedVariables false
set_option maxHeartbeats 3000000
set_option maxRecDepth 20000

theorem run_copyO (w : World) (ty : TypeId) (g od dLen dCap : Nat) (ad : Addr) (sLen sCap : Nat) (cur : Array Value) (cs : List Value)
    (hg : w.heap[g]? = some (.cells cur 5 (0, 0))) (hn : cs.length = sLen) (hle : sLen ≤ dLen)
    (hsrc : ∀ j v, cs[j]? = some v → w.cell? (ad.add j) = some v) (hfit : od + cs.length ≤ cur.size) (h1 : ∀ v ∈ cs, v.oneCell' = true) :
    (Builtin.copy_ #[33, 33] ty #[.slice (some ⟨g, od, none⟩) dLen dCap, .slice (some ad) sLen sCap]).run Tryd.prog w = .ok (goInt sLen) (w.setRow g (splice cur.toList od cs).toArray) := by
  obtain ⟨i, z, hi, hz0, hz1, hz2, hz3⟩ := kU.i
  have hl := run_loadCells_list (P := Tryd.prog) w ad cs hsrc
  have hst := run_storeCells_at Tryd.prog g od 5 cs 0 cur w hg (by simpa using hfit) h1
  rw [hn] at hl
  have hm : Nat.min sLen dLen = sLen := Nat.min_eq_left hle
  simp [Builtin.copy_, run_underlying kU.u, Builtin.lenOf, Builtin.firstCells, sizeOf, typeInfo, hi, hz1, hm, hl, hst, splice]
end Go.Proofs.YthbdpceobnkflaaDoor
