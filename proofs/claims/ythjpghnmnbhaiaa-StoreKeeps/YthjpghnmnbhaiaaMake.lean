/- store: New. -/
import Derived.Test.YthjpghnmnbhaiaaCel
namespace Go.Proofs.Ythjpghnmnbhaiaa
open Go Go.RowKit
set_option linter.unusedVariables false
set_option maxHeartbeats 1000000
set_option maxRecDepth 20000

theorem at_build53 {ops : Array Oper} {rest : List Oper} {o : Oper} {a : Act} {w : World} {Q : Exit → Act → World → Prop} (n : Nat) (b : Bool) (C : Array Value) (hC : Hid (Try.prog.built 53 [(1, .int .i64 (n : Int)), (3, .bool b)] = some C)) (x y : Operand) (hg : o.guard = none) (ho : o.op = .build 53 #[(1, x), (3, y)]) (hx : a.eval x = .int .i64 (n : Int)) (hy : a.eval y = .bool b) (d : Option Tmp) (hd : o.dst = d)
    (h : wpList Try.prog ops Q rest (a.put d (.agg C)) w) : wpList Try.prog ops Q (o :: rest) a w := by
  refine wpList_buildTo hg 53 _ ho d hd C ?_ h
  have e : ((#[(1, x), (3, y)] : Array (Nat × Operand)).map fun (i, x) => (i, a.eval x)).toList = [(1, .int .i64 (n : Int)), (3, .bool b)] := by simp [hx, hy]
  rw [e]
  exact hC.out

/-- copy into a block: that block alone is turned. -/
theorem wpList_copy_upd {P : Program} {w : World} {ops : Array Oper} {rest : List Oper} {o : Oper} {a : Act} {Q : Exit → Act → World → Prop} (hgd : o.guard = none) (d s : Operand) (dT sT : TypeId)
    (ho : o.op = .call { callee := .builtin .copy, args := #[d, s], argTypes := #[dT, sT] }) (elem : TypeId) (hu : P.underlying dT = some (.slice elem)) (hsz : (P.info? elem).map (·.size) = some 1)
    (dp sp : Option Addr) (dLen dCap sLen sCap : Nat) (hd : a.eval d = .slice dp dLen dCap) (hs : a.eval s = .slice sp sLen sCap)
    (g off : Nat) (cur : List Value) (t : TypeId) (hg : w.heap[g]? = some (.cells cur.toArray t (0, 0))) (cs : List Value) (hn : cs.length = Nat.min sLen dLen)
    (hpos : 0 < cs.length → dp = some ⟨g, off, none⟩ ∧ ∃ ad, sp = some ad ∧ ∀ j v, cs[j]? = some v → w.cell? (ad.add j) = some v)
    (hfit : off + cs.length ≤ cur.length) (h1 : ∀ v ∈ cs, v.oneCell' = true)
    (h : ∀ w', Hid (w'.heap[g]? = some (.cells (splice cur off cs).toArray t (0, 0)) ∧ Upd (· = g) w w') → wpList P ops Q rest (a.put o.dst (goInt cs.length)) w') :
    wpList P ops Q (o :: rest) a w := by
  by_cases h0 : cs.length = 0
  · obtain rfl : cs = [] := List.eq_nil_of_length_eq_zero h0
    refine wpList_copy_nothing hgd d s dT sT ho elem hu hsz dp sp dLen dCap sLen sCap hd hs (by simpa using hn.symm) ?_
    exact h w ⟨show _ = _ by simpa [splice] using hg, Upd.refl _ _⟩
  · obtain ⟨rfl, ad, rfl, hsrc⟩ := hpos (by omega)
    refine wpList_copy_own hgd d s dT sT ho elem hu hsz g off dLen dCap ad sLen sCap hd hs cur.toArray t hg cs hn hsrc (by simpa using hfit) h1 ?_
    exact h _ ⟨show _ = _ by simpa [splice] using setRow_heap w g _ _ t _ hg, Upd.setRow _⟩

theorem new_some (w : World) (n : Nat) (h1 : 2048 ≤ n) (h2 : n ≤ 32768) (h3 : n % 2048 = 0) (sp : Option Addr) (cap : Nat) (Y : Nat → Int) (hY : Hid (Lies w sp 512 Y)) :
    Calls Try.prog 11 #[.int .i64 (n : Int), .slice sp 512 cap] w fun e w' => e = .returned (.tuple #[.pointer (some ⟨w.heap.size, 0, none⟩), .int .i64 0]) ∧ Sto w' w.heap.size { St.fresh n true with rom := Y } ∧ Below w.heap.size w w' := by
  obtain ⟨C, hC, cel⟩ := built53 n true
  have cel' : Hid (Cel C (St.fresh n true)) := cel
  have h1'' : decide ((n : Int) < 2048) = false := by simp; omega
  have h2'' : decide ((32768 : Int) < n) = false := by simp; omega
  have h3' : (n : Int).tmod 2048 = 0 := by rw [Int.tmod_eq_emod_of_nonneg (by omega)]; omega
  have cut := cutRom w.heap.size
  have HB0 : Below w.heap.size w (w.alloc (.cells C 53)) := (Below.refl _ _).alloc (Nat.le_refl _) _
  have hlen : Hid (C.size = 33282) := cel.len
  clear cel h1 h2 h3
  go_enter Try.func11, Try.ntmps11
  go_wp2_with (first
    | (refine at_build53 n true C hC (.tmp 21) (.const (.bool true)) rfl rfl rfl rfl _ rfl ?_)
    | (refine Great.wpList_boxTo rfl 53 (.tmp 22) rfl _ rfl w.heap.size rfl C rfl ?_)
    | (refine wpList_copy_splice rfl (.tmp 27) (.tmp 28) 23 23 rfl 5 Try.underlying23 (by kernel_rfl) (some ⟨w.heap.size, 32769, none⟩) sp 512 512 512 cap rfl rfl w.heap.size 32769 C.toList 53 ?g1 (rowOf 512 Y) ?g2 ?g3 ?g4 (rowOf_one _ _) w.heap.size w HB0 (Nat.le_refl _) ?_))
  case g1 => rw [Array.toArray_toList]; exact alloc_last' w _
  case g2 => rw [rowOf_len]; rfl
  case g3 =>
    intro _
    obtain ⟨ad, e, hc⟩ := (hY.out.below HB0).src (Nat.le_refl _) (by decide)
    first | exact ⟨ad, e, hc⟩ | exact ⟨rfl, ad, e, hc⟩
  case g4 => rw [rowOf_len, Array.length_toList, hlen.out]; decide
  intro w1 hw1 HB1
  have fin : Hid (Sto w1 w.heap.size { St.fresh n true with rom := Y }) := ⟨_, hw1.out, cel'.out.laid _ Y (rowOf_len _ _) fun j hj => rowOf_at _ _ _ hj⟩
  clear hw1 hC cel' hlen HB0 cut
  go_wp2
  go_returns
  exact ⟨rfl, fin.out, HB1⟩

theorem new_size (w : World) (n : Int) (hn : ¬ (2048 ≤ n ∧ n ≤ 32768 ∧ n.tmod 2048 = 0)) (sp : Option Addr) (len cap : Nat) :
    Calls Try.prog 11 #[.int .i64 n, .slice sp len cap] w fun e w' => e = .returned (.tuple #[.pointer none, .int .i64 30]) ∧ w' = w := by
  by_cases h1 : n < 2048
  · clear hn
    go_enter Try.func11, Try.ntmps11
    go_wp2
    go_returns
    exact ⟨rfl, rfl⟩
  by_cases h2 : 32768 < n
  · have h1' : decide (n < 2048) = false := by simpa using h1
    clear hn h1
    go_enter Try.func11, Try.ntmps11
    go_wp2
    go_returns
    exact ⟨rfl, rfl⟩
  · have h1' : decide (n < 2048) = false := by simpa using h1
    have h2' : decide (32768 < n) = false := by simpa using h2
    have h3' : (n.tmod 2048 != 0) = true := by simp; omega
    clear hn h1 h2
    go_enter Try.func11, Try.ntmps11
    go_wp2
    go_returns
    exact ⟨rfl, rfl⟩
theorem new_rom (w : World) (n : Nat) (h1 : 2048 ≤ n) (h2 : n ≤ 32768) (h3 : n % 2048 = 0) (sp : Option Addr) (len cap : Nat) (hl : len ≠ 512) :
    Calls Try.prog 11 #[.int .i64 (n : Int), .slice sp len cap] w fun e w' => e = .returned (.tuple #[.pointer none, .int .i64 31]) ∧ w' = w := by
  have h1'' : decide ((n : Int) < 2048) = false := by simp; omega
  have h2'' : decide ((32768 : Int) < n) = false := by simp; omega
  have h3' : (n : Int).tmod 2048 = 0 := by rw [Int.tmod_eq_emod_of_nonneg (by omega)]; omega
  have h4 : ((len : Int) != 512) = true := by simp; omega
  clear h1 h2 h3 hl
  go_enter Try.func11, Try.ntmps11
  go_wp2
  go_returns
  exact ⟨rfl, rfl⟩
end Go.Proofs.Ythjpghnmnbhaiaa
