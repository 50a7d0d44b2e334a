/- Contracts of Go's library, laid at this program: each is one application of a contract that holds of any program. When two texts are the same. A number in just so many digits; a field read from a word. -/
import Derived.Shelf.Small.Wraps
import Derived.Shelf.Strings.Cut
import Derived.Shelf.Strings.Prefix
import Derived.Shelf.LaysM
import Derived.Shelf.Strings.SplitShaped
import Derived.Shelf.Strings.FieldsFuncAny
import Derived.Test.YthaijjehplomfaaDoorProg
import Derived.WalkKit
import Derived.Test.YthaijjehplomfaaDoorJ10
import Derived.Test.YthaijjehplomfaaDoorJ11
namespace Go.Proofs.YthaijjehplomfaaDoor
set_option linter.unusedVariables false
open Go.Shelf
open Go.RowKit in
def Tryd.lays103_ren : Go.Shelf.Ren := ⟨fun | 103 => 64 | 210 => 76 | 206 => 85 | n => n, fun | 9 => 9 | 4 => 4 | 24 => 102 | 3 => 3 | n => n, fun | n => n⟩
theorem Tryd.lays103 : Go.Proofs.Lays.n103 Tryd.prog Tryd.lays103_ren := {
  mixed := by kernel_rfl
  f103 := Tryd.func64.trans (congrArg some (by kernel_rfl))
  f206 := Tryd.func85.trans (congrArg some (by kernel_rfl))
  f210 := Tryd.func76.trans (congrArg some (by kernel_rfl))
  t3 := Tryd.underlying3
  a3 := Tryd.isAgg3
  z3 := Tryd.sizeOf3
  v3 := Tryd.zeroValue3
  t4 := Tryd.underlying4
  a4 := Tryd.isAgg4
  z4 := Tryd.sizeOf4
  v4 := Tryd.zeroValue4
  t9 := Tryd.underlying9
  a9 := Tryd.isAgg9
  z9 := Tryd.sizeOf9
  v9 := Tryd.zeroValue9
  t24 := Tryd.underlying102
  a24 := Tryd.isAgg102
  z24 := Tryd.sizeOf102
  v24 := Tryd.zeroValue102 }
open Go.RowKit in
theorem Tryd.strings_CutPrefix (s p : ByteArray) (w : World) :
    Calls Tryd.prog 64 #[.string s, .string p] w fun e w' => e = .returned (.tuple #[.string ⟨(Lib.trimPrefix s.data.toList p.data.toList).toArray⟩, .bool (Lib.hasPrefix s.data.toList p.data.toList)]) ∧ w' = w := Any.strings_CutPrefix Tryd.lays103 s p w
open Go.RowKit in
def Tryd.lays104_ren : Go.Shelf.Ren := ⟨fun | 104 => 47 | 211 => 73 | 207 => 82 | n => n, fun | 9 => 9 | 4 => 4 | 24 => 102 | 3 => 3 | n => n, fun | n => n⟩
theorem Tryd.lays104 : Go.Proofs.Lays.n104 Tryd.prog Tryd.lays104_ren := {
  mixed := by kernel_rfl
  f104 := Tryd.func47.trans (congrArg some (by kernel_rfl))
  f207 := Tryd.func82.trans (congrArg some (by kernel_rfl))
  f211 := Tryd.func73.trans (congrArg some (by kernel_rfl))
  t3 := Tryd.underlying3
  a3 := Tryd.isAgg3
  z3 := Tryd.sizeOf3
  v3 := Tryd.zeroValue3
  t4 := Tryd.underlying4
  a4 := Tryd.isAgg4
  z4 := Tryd.sizeOf4
  v4 := Tryd.zeroValue4
  t9 := Tryd.underlying9
  a9 := Tryd.isAgg9
  z9 := Tryd.sizeOf9
  v9 := Tryd.zeroValue9
  t24 := Tryd.underlying102
  a24 := Tryd.isAgg102
  z24 := Tryd.sizeOf102
  v24 := Tryd.zeroValue102 }
open Go.RowKit in
theorem Tryd.strings_CutSuffix (s p : ByteArray) (w : World) (hs : s.size ≤ 9223372036854775807) :
    Calls Tryd.prog 47 #[.string s, .string p] w fun e w' => e = .returned (.tuple #[.string ⟨(Lib.trimSuffix s.data.toList p.data.toList).toArray⟩, .bool (Lib.hasSuffix s.data.toList p.data.toList)]) ∧ w' = w := Any.strings_CutSuffix Tryd.lays104 s p w hs
open Go.RowKit Go.Lib in
def Tryd.lays145_ren : Go.Shelf.Ren := ⟨fun | 145 => 44 | 220 => 70 | 219 => 81 | 217 => 88 | 225 => 89 | 224 => 90 | 267 => 91 | 266 => 92 | 314 => 93 | n => n, fun | 9 => 9 | 4 => 4 | 59 => 99 | 3 => 3 | 5 => 5 | 46 => 94 | 146 => 136 | 51 => 135 | n => n, fun | 1 => 0 | n => n⟩
theorem Tryd.lays145 : Go.Proofs.Lays.n145 Tryd.prog Tryd.lays145_ren := {
  mixed := by kernel_rfl
  f145 := Tryd.func44.trans (congrArg some (by kernel_rfl))
  f217 := Tryd.func88.trans (congrArg some (by kernel_rfl))
  f219 := Tryd.func81.trans (congrArg some (by kernel_rfl))
  f220 := Tryd.func70.trans (congrArg some (by kernel_rfl))
  f224 := Tryd.func90.trans (congrArg some (by kernel_rfl))
  f225 := Tryd.func89.trans (congrArg some (by kernel_rfl))
  f266 := Tryd.func92.trans (congrArg some (by kernel_rfl))
  f267 := Tryd.func91.trans (congrArg some (by kernel_rfl))
  f314 := Tryd.func93.trans (congrArg some (by kernel_rfl))
  t3 := Tryd.underlying3
  a3 := Tryd.isAgg3
  z3 := Tryd.sizeOf3
  v3 := Tryd.zeroValue3
  t4 := Tryd.underlying4
  a4 := Tryd.isAgg4
  z4 := Tryd.sizeOf4
  v4 := Tryd.zeroValue4
  t5 := Tryd.underlying5
  a5 := Tryd.isAgg5
  z5 := Tryd.sizeOf5
  v5 := Tryd.zeroValue5
  t9 := Tryd.underlying9
  a9 := Tryd.isAgg9
  z9 := Tryd.sizeOf9
  v9 := Tryd.zeroValue9
  t46 := Tryd.underlying94
  a46 := Tryd.isAgg94
  z46 := Tryd.sizeOf94
  v46 := Tryd.zeroValue94
  t51 := Tryd.underlying135
  a51 := Tryd.isAgg135
  z51 := Tryd.sizeOf135
  v51 := Tryd.zeroValue135
  t59 := Tryd.underlying99
  a59 := Tryd.isAgg99
  z59 := Tryd.sizeOf99
  v59 := Tryd.zeroValue99
  t146 := Tryd.underlying136
  a146 := Tryd.isAgg136
  z146 := Tryd.sizeOf136
  v146 := Tryd.zeroValue136
  g1 := by kernel_rfl }
open Go.RowKit Go.Lib in
theorem Tryd.strings_Cut (s sep : ByteArray) (m : Int) (w : World) (hs : s.size < 4294967281) (hm : w.cell? ⟨0, 0, none⟩ = some (.int .i64 m)) :
    Calls Tryd.prog 44 #[.string s, .string sep] w fun e w' => e = .returned (.tuple #[.string ⟨(Lib.cut s.data.toList sep.data.toList).1.toArray⟩, .string ⟨(Lib.cut s.data.toList sep.data.toList).2.1.toArray⟩, .bool (Lib.cut s.data.toList sep.data.toList).2.2]) ∧ ∃ n, w' = w.drewN n := Any.strings_Cut Tryd.lays145 s sep m w hs hm
open Go.RowKit Go.Lib in
open Go.RowKit Go.Lib in
def Tryd.laysM147_ren : Go.Shelf.Ren := ⟨fun | 147 => 28 | 221 => 41 | 268 => 66 | 138 => 67 | 143 => 68 | 195 => 78 | 197 => 79 | 218 => 80 | 219 => 81 | 260 => 87 | 217 => 88 | 225 => 89 | 224 => 90 | 267 => 91 | 266 => 92 | 314 => 93 | n => n, fun | 9 => 9 | 3 => 3 | 31 => 70 | 4 => 4 | 0 => 0 | 105 => 122 | 21 => 21 | 5 => 5 | 46 => 94 | 119 => 131 | 139 => 134 | 138 => 133 | 146 => 136 | 51 => 135 | n => n, fun | 1 => 0 | 3 => 1 | 4 => 2 | n => n⟩
theorem Tryd.laysM147 : Go.Proofs.LaysM.n147 Tryd.prog Tryd.laysM147_ren := {
  mixed := by kernel_rfl
  f138 := Tryd.func67.trans (congrArg some (by kernel_rfl))
  f143 := Tryd.func68.trans (congrArg some (by kernel_rfl))
  f147 := Tryd.func28.trans (congrArg some (by kernel_rfl))
  f195 := Tryd.func78.trans (congrArg some (by kernel_rfl))
  f197 := Tryd.func79.trans (congrArg some (by kernel_rfl))
  f217 := Tryd.func88.trans (congrArg some (by kernel_rfl))
  f218 := Tryd.func80.trans (congrArg some (by kernel_rfl))
  f219 := Tryd.func81.trans (congrArg some (by kernel_rfl))
  f221 := Tryd.func41.trans (congrArg some (by kernel_rfl))
  f224 := Tryd.func90.trans (congrArg some (by kernel_rfl))
  f225 := Tryd.func89.trans (congrArg some (by kernel_rfl))
  f260 := Tryd.func87.trans (congrArg some (by kernel_rfl))
  f266 := Tryd.func92.trans (congrArg some (by kernel_rfl))
  f267 := Tryd.func91.trans (congrArg some (by kernel_rfl))
  f268 := Tryd.func66.trans (congrArg some (by kernel_rfl))
  f314 := Tryd.func93.trans (congrArg some (by kernel_rfl))
  t0 := Tryd.underlying0
  a0 := Tryd.isAgg0
  z0 := Tryd.sizeOf0
  v0 := Tryd.zeroValue0
  t3 := Tryd.underlying3
  a3 := Tryd.isAgg3
  z3 := Tryd.sizeOf3
  v3 := Tryd.zeroValue3
  t4 := Tryd.underlying4
  a4 := Tryd.isAgg4
  z4 := Tryd.sizeOf4
  v4 := Tryd.zeroValue4
  t5 := Tryd.underlying5
  a5 := Tryd.isAgg5
  z5 := Tryd.sizeOf5
  v5 := Tryd.zeroValue5
  t9 := Tryd.underlying9
  a9 := Tryd.isAgg9
  z9 := Tryd.sizeOf9
  v9 := Tryd.zeroValue9
  t21 := Tryd.underlying21
  a21 := Tryd.isAgg21
  z21 := Tryd.sizeOf21
  v21 := Tryd.zeroValue21
  t31 := Tryd.underlying70
  a31 := Tryd.isAgg70
  z31 := Tryd.sizeOf70
  v31 := Tryd.zeroValue70
  t46 := Tryd.underlying94
  a46 := Tryd.isAgg94
  z46 := Tryd.sizeOf94
  v46 := Tryd.zeroValue94
  t51 := Tryd.underlying135
  a51 := Tryd.isAgg135
  z51 := Tryd.sizeOf135
  v51 := Tryd.zeroValue135
  t105 := Tryd.underlying122
  a105 := Tryd.isAgg122
  z105 := Tryd.sizeOf122
  v105 := Tryd.zeroValue122
  t119 := Tryd.underlying131
  a119 := Tryd.isAgg131
  z119 := Tryd.sizeOf131
  t138 := Tryd.underlying133
  a138 := Tryd.isAgg133
  z138 := Tryd.sizeOf133
  v138 := Tryd.zeroValue133
  t139 := Tryd.underlying134
  a139 := Tryd.isAgg134
  z139 := Tryd.sizeOf134
  v139 := Tryd.zeroValue134
  t146 := Tryd.underlying136
  a146 := Tryd.isAgg136
  z146 := Tryd.sizeOf136
  v146 := Tryd.zeroValue136
  g1 := by kernel_rfl
  g3 := by kernel_rfl
  g4 := by kernel_rfl
  i0 := by kernel_rfl
  i3 := by kernel_rfl
  i4 := by kernel_rfl
  i5 := by kernel_rfl
  i9 := by kernel_rfl
  i21 := by kernel_rfl
  i31 := by kernel_rfl
  i46 := by kernel_rfl
  i51 := by kernel_rfl
  i105 := by kernel_rfl
  i138 := by kernel_rfl
  i139 := by kernel_rfl
  i146 := by kernel_rfl
  m1 := by kernel_rfl
  s1_3 := fun w h => Go.Proofs.cell_of_shapedOpen_int (zero := #[.int .i64 0]) (t := 3) h (of_decide_eq_true (by kernel_rfl)) (by kernel_rfl) rfl (by kernel_rfl) (by kernel_rfl) Tryd.underlying3
  m3 := by kernel_rfl
  m4 := by kernel_rfl }
open Go.RowKit Go.Lib in
def Tryd.lays229_ren : Go.Shelf.Ren := ⟨fun | 229 => 71 | n => n, fun | 9 => 9 | 40 => 119 | 31 => 70 | 152 => 125 | 3 => 3 | 0 => 0 | 4 => 4 | 21 => 21 | 154 => 127 | n => n, fun | n => n⟩
theorem Tryd.lays229 : Go.Proofs.Lays.n229 Tryd.prog Tryd.lays229_ren := {
  mixed := by kernel_rfl
  f229 := Tryd.func71.trans (congrArg some (by kernel_rfl))
  t0 := Tryd.underlying0
  a0 := Tryd.isAgg0
  z0 := Tryd.sizeOf0
  v0 := Tryd.zeroValue0
  t3 := Tryd.underlying3
  a3 := Tryd.isAgg3
  z3 := Tryd.sizeOf3
  v3 := Tryd.zeroValue3
  t4 := Tryd.underlying4
  a4 := Tryd.isAgg4
  z4 := Tryd.sizeOf4
  v4 := Tryd.zeroValue4
  t9 := Tryd.underlying9
  a9 := Tryd.isAgg9
  z9 := Tryd.sizeOf9
  v9 := Tryd.zeroValue9
  t21 := Tryd.underlying21
  a21 := Tryd.isAgg21
  z21 := Tryd.sizeOf21
  v21 := Tryd.zeroValue21
  t31 := Tryd.underlying70
  a31 := Tryd.isAgg70
  z31 := Tryd.sizeOf70
  v31 := Tryd.zeroValue70
  t40 := Tryd.underlying119
  a40 := Tryd.isAgg119
  z40 := Tryd.sizeOf119
  v40 := Tryd.zeroValue119
  t152 := Tryd.underlying125
  a152 := Tryd.isAgg125
  z152 := Tryd.sizeOf125
  v152 := Tryd.zeroValue125
  t154 := Tryd.underlying127
  a154 := Tryd.isAgg127
  z154 := Tryd.sizeOf127
  v154 := Tryd.zeroValue127 }
open Go.RowKit Go.Lib in
theorem Tryd.strings_FieldsFunc_runes (g : Nat) (lb : Array Value) (eg : ∀ args w, (callFunc g args).run Tryd.prog w = .ok (.enter g args) w) (p : Nat → Bool) (s : ByteArray) (w : World) (hs : s.size ≤ 4294967296) (hp : PredAtRunes Tryd.prog g lb p w) :
    Calls Tryd.prog 71 #[.string s, .func (.func g) #[] lb] w fun e w' => ∃ A, e = .returned (.slice (some ⟨A, 0, none⟩) (Lib.goFieldsP p s).length (Lib.goFieldsP p s).length) ∧ w.heap.size ≤ A ∧
      w'.ownsRow w.heap.size 9 1 (.slice (some ⟨A, 0, none⟩) (Lib.goFieldsP p s).length (Lib.goFieldsP p s).length) (Lib.goFieldsP p s).length ((Lib.goFieldsP p s).map Value.string) ∧ Below w.heap.size w w' := Any.strings_FieldsFunc_runes Tryd.lays229 g lb eg p s w hs hp (by kernel_rfl) (by kernel_rfl)
end Go.Proofs.YthaijjehplomfaaDoor

namespace Go.Proofs.YthaijjehplomfaaDoor
theorem loop_eq (b : ByteArray) : ∀ (k i : Nat) (r : List UInt8), b.size - i = k → ByteArray.toList.loop b i r = r.reverse ++ b.data.toList.drop i
  | 0, i, r, h => by
    unfold ByteArray.toList.loop
    rw [if_neg (by omega), List.drop_eq_nil_of_le (by simpa using (by omega : b.size ≤ i))]
    simp
  | k + 1, i, r, h => by
    have hi : i < b.size := by omega
    unfold ByteArray.toList.loop
    rw [if_pos hi, loop_eq b k (i + 1) _ (by omega)]
    have e : b.data.toList.drop i = b.data.toList[i]'(by simpa using hi) :: b.data.toList.drop (i + 1) := List.drop_eq_getElem_cons _
    rw [e]
    simp only [List.reverse_cons, List.append_assoc, List.singleton_append]
    congr 2
    unfold ByteArray.get!
    simp
    rw [getElem!_pos b.data i (by simpa using hi)]
theorem toList_eq (b : ByteArray) : b.toList = b.data.toList := by
  unfold ByteArray.toList
  rw [loop_eq b _ 0 [] rfl]
  simp
theorem str_ne {a b : ByteArray} (h : ¬ a = b) : (a.toList == b.toList) = false := by
  rw [toList_eq, toList_eq]
  rw [beq_eq_false_iff_ne]
  intro e
  apply h
  cases a; cases b
  simp at e
  rw [e]
theorem str_eq {a b : ByteArray} (h : a = b) : (a.toList == b.toList) = true := by rw [h]; simp
end Go.Proofs.YthaijjehplomfaaDoor

namespace Go.Proofs.YthaijjehplomfaaDoor
open Go Go.RowKit
set_option linter.unusedVariables false
set_option maxHeartbeats 1000000
set_option maxRecDepth 20000

/-- What just so many digits tell. -/
def numK (s : List UInt8) (d : Nat) : Option Nat := if s.length = d then (numGo s 0).map Int.toNat else none
theorem sz_list (s : ByteArray) : s.data.toList.length = s.size := by rw [Array.length_toList]; rfl
theorem onum_any (s : ByteArray) (d : Nat) (h1 : 1 ≤ d) (h3 : d ≤ 3) (hs : s.size ≤ maxLen) (w : World) : Calls Tryd.prog 65 #[.string s, .int .i64 (d : Int)] w fun e w' => e = .returned (.tuple #[.int .u16 (((numK s.data.toList d).getD 0 : Nat) : Int), .bool (numK s.data.toList d).isSome]) ∧ Below w.heap.size w w' := by
  have hN := fun z => number_any s z hs
  have hsz := sz_list s
  rcases hn : numOf s with _ | x
  · obtain ⟨e1, e2⟩ := num_none s hn
    have hk : numK s.data.toList d = none := by
      unfold numK
      split
      · rename_i h
        unfold numOf at hn
        rw [if_pos (by omega)] at hn
        rw [hn]
        rfl
      · rfl
    rw [hk]
    rw [e1, e2] at hN
    simp only [Option.getD_none, Option.isSome_none]
    clear hn e1 e2 hk hsz hs
    go_enter Tryd.func65, Tryd.ntmps65
    go_wp2_with (go_at_call 77; refine (hN _).mono ?_; rintro e z ⟨rfl, hz⟩)
    go_ret2
    exact ⟨rfl, hz⟩
  · obtain ⟨e1, e2⟩ := num_some s x hn
    have hx : numGo s.data.toList 0 = some x := by
      unfold numOf at hn
      split at hn
      · exact hn
      · cases hn
    rw [e1, e2] at hN
    by_cases hd : s.size = d
    · have hb := numGo_le s.data.toList 0 x (by omega) hx
      have hk : numK s.data.toList d = some x.toNat := by
        unfold numK
        rw [if_pos (by omega), hx]
        rfl
      have hp : (16 : Int) ^ s.data.toList.length ≤ 4096 := by
        rw [hsz, hd]
        rcases (show d = 1 ∨ d = 2 ∨ d = 3 by omega) with e | e | e <;> subst e <;> decide
      obtain ⟨n, rfl⟩ : ∃ n : Nat, x = (n : Int) := ⟨x.toNat, by omega⟩
      have hn4 : (n : Int) < 4096 := by have := hb.2; omega
      have hcv : ∀ z, (convert 3 27 (.int .i64 (n : Int))).run Tryd.prog z = .ok (.int .u16 (n : Int)) z := fun z => by go_simp; rw [IntKind.wrap_u16]; omega
      have hne : ((s.size : Int) != (d : Int)) = false := by rw [bne_eq_false_iff_eq, hd]
      rw [hk]
      simp only [Option.getD_some, Option.isSome_some, Int.toNat_natCast]
      clear hn e1 e2 hk hsz hs hx hb hp hd hn4
      go_enter Tryd.func65, Tryd.ntmps65
      go_wp2_with (go_at_call 77; refine (hN _).mono ?_; rintro e z ⟨rfl, hz⟩)
      go_ret2
      exact ⟨rfl, hz⟩
    · have hk : numK s.data.toList d = none := by
        unfold numK
        rw [if_neg (by omega)]
      have hne : ((s.size : Int) != (d : Int)) = true := by rw [bne_iff_ne]; omega
      rw [hk]
      simp only [Option.getD_none, Option.isSome_none]
      clear hn e1 e2 hk hsz hs hx hd
      go_enter Tryd.func65, Tryd.ntmps65
      go_wp2_with (go_at_call 77; refine (hN _).mono ?_; rintro e z ⟨rfl, hz⟩)
      go_ret2
      exact ⟨rfl, hz⟩
/-- A field read from a word. -/
def rdK (k : Nat) (s : List UInt8) : Option Nat := if Lib.hasPrefix s (ledK k) then numK (s.drop (ledK k).length) (digK k) else none
theorem digK_bd (k : Nat) : 1 ≤ digK k ∧ digK k ≤ 3 := by
  unfold digK
  (repeat' split) <;> decide
theorem fread_any (k : Nat) (s : ByteArray) (hs : s.size ≤ maxLen) (w : World) : Calls Tryd.prog 40 #[.agg (fdC k).toArray, .string s] w fun e w' => e = .returned (.tuple #[.int .u16 (((rdK k s.data.toList).getD 0 : Nat) : Int), .bool (rdK k s.data.toList).isSome]) ∧ Below w.heap.size w w' := by
  have hB : Hid (Fm w [(w.heap.size, (fdC k).toArray, 59)] (w.alloc (.cells (fdC k).toArray 59))) := Fm.one w _ _
  have hC := fun z => Tryd.strings_CutPrefix s ⟨(ledK k).toArray⟩ z
  have c0 : Hid ((fdC k).toArray[0]? = some (.string ⟨(ledK k).toArray⟩)) := (rfl : (fdC k).toArray[0]? = some (.string ⟨(ledK k).toArray⟩))
  have c1 : Hid ((fdC k).toArray[1]? = some (.int .i64 (digK k : Int))) := (rfl : (fdC k).toArray[1]? = some (.int .i64 (digK k : Int)))
  have hled : (⟨(ledK k).toArray⟩ : ByteArray).data.toList = ledK k := rfl
  rw [hled] at hC
  rcases hp : Lib.hasPrefix s.data.toList (ledK k) with _ | _
  · have e : rdK k s.data.toList = none := by unfold rdK; rw [hp]; rfl
    rw [e]
    rw [hp] at hC
    simp only [Option.getD_none, Option.isSome_none]
    generalize (⟨(Lib.trimPrefix s.data.toList (ledK k)).toArray⟩ : ByteArray) = T at hC
    generalize (⟨(ledK k).toArray⟩ : ByteArray) = ld at hC c0
    generalize (fdC k).toArray = C at hB c0 c1 ⊢
    clear e hp hs hled
    go_enter Tryd.func40, Tryd.ntmps40
    go_wp2_with (first
      | (go_at_call 64; refine (hC _).mono ?_; rintro e z ⟨rfl, rfl⟩)
      | ((with_reducible refine gen_world (w.alloc (.cells C 59)) (Fm w [(w.heap.size, C, 59)]) hB.out ?_); intro y K1; have d0 := (K1.out.bx 0 _ _ _ rfl).c 0 (.string ld) c0.out; have d1 := (K1.out.bx 0 _ _ _ rfl).c 1 (.int .i64 (digK k : Int)) c1.out))
    go_ret2
    exact ⟨rfl, K1.out.low⟩
  · have et : (⟨(Lib.trimPrefix s.data.toList (ledK k)).toArray⟩ : ByteArray).data.toList = s.data.toList.drop (ledK k).length := by
      show Lib.trimPrefix s.data.toList (ledK k) = _
      unfold Lib.trimPrefix
      rw [hp]
      rfl
    have e : rdK k s.data.toList = numK (s.data.toList.drop (ledK k).length) (digK k) := by unfold rdK; rw [hp]; rfl
    rw [e, ← et]
    rw [hp] at hC
    have hts : (⟨(Lib.trimPrefix s.data.toList (ledK k)).toArray⟩ : ByteArray).size ≤ maxLen := by
      rw [← sz_list, et, List.length_drop, sz_list]
      omega
    have hN := fun z => onum_any ⟨(Lib.trimPrefix s.data.toList (ledK k)).toArray⟩ (digK k) (digK_bd k).1 (digK_bd k).2 hts z
    generalize (⟨(Lib.trimPrefix s.data.toList (ledK k)).toArray⟩ : ByteArray) = T at hC hN ⊢
    generalize (⟨(ledK k).toArray⟩ : ByteArray) = ld at hC c0
    generalize (fdC k).toArray = C at hB c0 c1 ⊢
    generalize (numK T.data.toList (digK k)) = nk at hN ⊢
    clear e hp hs hled hts et
    go_enter Tryd.func40, Tryd.ntmps40
    go_wp2_with (first
      | (go_at_call 65; refine (hN _).mono ?_; rintro e z2 ⟨rfl, hb2⟩; have K2 : Hid (Fm w [(w.heap.size, C, 59)] z2) := K1.out.below hb2)
      | (go_at_call 64; refine (hC _).mono ?_; rintro e z ⟨rfl, rfl⟩)
      | ((with_reducible refine gen_world (w.alloc (.cells C 59)) (Fm w [(w.heap.size, C, 59)]) hB.out ?_); intro y K1; have d0 := (K1.out.bx 0 _ _ _ rfl).c 0 (.string ld) c0.out; have d1 := (K1.out.bx 0 _ _ _ rfl).c 1 (.int .i64 (digK k : Int)) c1.out))
    go_ret2
    exact ⟨rfl, K2.out.low⟩
end Go.Proofs.YthaijjehplomfaaDoor
