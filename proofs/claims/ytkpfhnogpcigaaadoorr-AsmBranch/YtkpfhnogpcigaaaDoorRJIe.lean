/- Strings as lists of bytes, rows of strings and of bytes in memory. -/
import Derived.Test.YtkpfhnogpcigaaaDoorRJLw
import Derived.Test.YtkpfhnogpcigaaaDoorRJHex
import Derived.Laws.AppendOwn
import Derived.Lib.AppendStr
namespace Go.Proofs.YtkpfhnogpcigaaaDoorR
open Go Go.RowKit
set_option linter.unusedVariables false
set_option maxHeartbeats 3000000
set_option maxRecDepth 20000

theorem infoT : (Tryd.prog.info? 9).map (fun i => (i.zero, i.size, i.bytes)) = some (some (.string ⟨#[]⟩), 1, 16) := by kernel_rfl
def strL (s : ByteArray) : List UInt8 := s.data.toList
theorem strL_len (s : ByteArray) : (strL s).length = s.size := by unfold strL; rw [Array.length_toList]; rfl
theorem strL_get (s : ByteArray) (p : Nat) (h : p < s.size) : (strL s)[p]? = some (s[p]'h) := by
  unfold strL
  rw [Array.getElem?_toList, Array.getElem?_eq_getElem (show p < s.data.size from h)]
  rfl
theorem strL_extract (s : ByteArray) (a b : Nat) (h : a ≤ b) (hb : b ≤ s.size) : strL (s.extract a b) = ((strL s).drop a).take (b - a) := by
  unfold strL
  rw [ByteArray.data_extract, Array.toList_extract]
def KT (w : World) (v : Value) (O : List ByteArray) (y : World) : Prop := y.ownsRow w.heap.size 9 1 v O.length (O.map .string) ∧ Below w.heap.size w y
theorem KT.add {w y w' : World} {v v' : Value} {O : List ByteArray} {x : ByteArray} {o : Obj} (h : KT w v O y) (ho : w'.ownsRow w.heap.size 9 1 v' (O.length + 1) (O.map .string ++ [.string x])) (hg : (y.alloc o).grownBy w' v.ownBlock) : KT w v' (O ++ [x]) w' := by
  refine ⟨by rw [List.length_append, List.map_append]; exact ho, Below.grown (h.2.alloc h.2.size o) hg (by have := h.2.size; simp; omega) (fun q hq => ((h.1.alloc o).lt q hq).1)⟩
theorem one_str (x : World) (s : ByteArray) : ∀ (j : Nat) (u : Value), [Value.string s][j]? = some u → (x.alloc (.cells #[.string s] 9)).cell? ((⟨x.heap.size, 0, none⟩ : Addr).add j) = some u := fun j u hu => by
  cases j with
  | zero => simp at hu; subst hu; unfold World.cell? World.alloc Addr.add; simp
  | succ j => simp at hu
theorem cutL_at {l : List UInt8} {q p : Nat} {b : UInt8} (h : q ≤ p) (hp : l[p]? = some b) : l.drop q = (l.drop q).take (p - q) ++ b :: l.drop (p + 1) := by
  have h1 : (l.drop q).drop (p - q) = b :: l.drop (p + 1) := by
    rw [List.drop_drop, show q + (p - q) = p by omega]
    have hl := (List.getElem?_eq_some_iff.1 hp)
    rw [List.drop_eq_getElem_cons hl.1, hl.2]
  rw [← h1, List.take_append_drop]
/-- Strings that lie in a row. -/
def LiesT (x : World) (sp : Option Addr) (ws : List ByteArray) : Prop := ∀ j s, ws[j]? = some s → ∃ g, sp = some ⟨g, 0, none⟩ ∧ x.cell? ⟨g, j, none⟩ = some (.string s)
theorem LiesT.below {x y : World} {sp : Option Addr} {ws : List ByteArray} (h : LiesT x sp ws) (hb : Below x.heap.size x y) : LiesT y sp ws := fun j s hj => by
  obtain ⟨g, e, c⟩ := h j s hj
  exact ⟨g, e, (hb.cell (p := ⟨g, j, none⟩) (World.block_lt_of_cell? x _ c)).trans c⟩
theorem KT.open {w y : World} {v : Value} {ws : List ByteArray} (h : KT w v ws y) : ∃ sp cap, v = .slice sp ws.length cap ∧ LiesT y sp ws := by
  have h0 := h.1
  rcases h0.2 with ⟨rfl, hn⟩ | ⟨g, cap, cur, rfl, _, hg, _⟩
  · refine ⟨none, 0, by rw [hn], fun j s hj => ?_⟩
    have := (List.getElem?_eq_some_iff.1 hj).1
    omega
  · refine ⟨some ⟨g, 0, none⟩, cap, rfl, fun j s hj => ⟨g, rfl, ?_⟩⟩
    have := World.ownsRow.cells (g := g) h0 rfl j (.string s) (by simp [hj])
    rw [Addr.add_lit, Nat.zero_add] at this
    exact this
theorem idxT (g n cap k : Nat) (h : k < n) (v : World) : (Instr.indexAt 45 (.slice (some ⟨g, 0, none⟩) n cap) (.int .i64 (k : Int))).run Tryd.prog v = .ok (.pointer (some ⟨g, k, none⟩)) v := by
  have := idxP (g := g) (off := 0) (len := n) (cap := cap) Tryd.underlying45 (s := 1) (by kernel_rfl) .i64 k v h
  rw [Nat.zero_add, Nat.mul_one] at this
  exact this
theorem strL_mk (s : ByteArray) : (⟨(strL s).toArray⟩ : ByteArray) = s := by cases s; simp [strL]
theorem strL_app (a b : ByteArray) : strL (a ++ b) = strL a ++ strL b := by unfold strL; simp
theorem str_size (a : ByteArray) (l : List UInt8) (h : strL a = l) : a.size = l.length := by rw [← h, strL_len]
theorem hexS_L (D N : Nat) : strL (hexS D N) = hexL D N := by simp [strL, hexS]
theorem hexOf_small (n : Int) (D : Nat) (h0 : 0 ≤ n) (h1 : n < 16 ^ D) (hD : 1 ≤ D ∧ D ≤ 8) : strL (hexOf n (D : Int)) = hexL D n.toNat ∧ (hexOf n (D : Int)).size = D := by
  have e : hexOf n (D : Int) = hexS D n.toNat := by
    unfold hexOf
    rw [if_pos ⟨by omega, by omega, h0, by rw [Int.toNat_natCast]; exact Int.ediv_eq_zero_of_lt h0 h1⟩, Int.toNat_natCast]
  rw [e, hexS_L]
  exact ⟨rfl, by rw [← strL_len, hexS_L, hexL_len]⟩
theorem loop_list (b : ByteArray) : ∀ (k i : Nat) (r : List UInt8), b.size - i = k → ByteArray.toList.loop b i r = r.reverse ++ b.data.toList.drop i
  | 0, i, r, h => by
    unfold ByteArray.toList.loop
    rw [if_neg (by omega), List.drop_eq_nil_of_le (by simpa using (by omega : b.size ≤ i))]
    simp
  | k + 1, i, r, h => by
    have hi : i < b.size := by omega
    unfold ByteArray.toList.loop
    rw [if_pos hi, loop_list b k (i + 1) _ (by omega)]
    have e : b.data.toList.drop i = b.data.toList[i]'(by simpa using hi) :: b.data.toList.drop (i + 1) := List.drop_eq_getElem_cons _
    rw [e]
    simp only [List.reverse_cons, List.append_assoc, List.singleton_append]
    congr 2
    unfold ByteArray.get!
    simp
    rw [getElem!_pos b.data i (by simpa using hi)]
theorem toL (b : ByteArray) : b.toList = strL b := by
  unfold ByteArray.toList strL
  rw [loop_list b _ 0 [] rfl]
  simp
theorem ret_row2 {P : Program} {a : Act} {w : World} {t : TypeId} {n : Nat} {fn : Func} {R' : Ending → World → Prop} {p u : Tmp} {b : Nat} {cs : Array Value} {v : Value} (R : Rt P t n) (hr : fn.results = #[.cell p t, .tmp u]) (hp : a.tmps.getD p undef = .pointer (some ⟨b, 0, none⟩)) (hu : a.tmps.getD u undef = v) (h : Bx w b cs t) (hs : cs.size = n) (hd : a.defers = []) (hR : R' (.returned (.tuple #[.agg cs, v])) w) : bodyPost P fn R' .ret a w := by
  obtain ⟨d, hu', hd'⟩ := R.u
  refine bodyPost_ret ?_ hd hR
  rw [results_cell_tmp hr, hp, hu]
  have hl := run_loadVar_row (P := P) w b t t cs (0, 0) d h hu' (by cases d <;> first | rfl | exact hd') (by rw [hs]; exact R.i)
  simp [asAddr, hl, Result.andThen]
theorem infoB : (Tryd.prog.info? 5).map (fun i => (i.zero, i.size, i.bytes)) = some (some (.int .u8 0), 1, 1) := by kernel_rfl
def byV (b : UInt8) : Value := .int .u8 (b.toNat : Int)
/-- Bytes that are owned. -/
def KB (w : World) (v : Value) (l : List UInt8) (y : World) : Prop := y.ownsRow w.heap.size 5 1 v l.length (l.map byV) ∧ Below w.heap.size w y
theorem KB.nil (w : World) : KB w (.slice none 0 0) [] w := ⟨World.ownsRow_nil _ _ _ 1, Below.refl _ _⟩
theorem KB.below {w y z : World} {v : Value} {l : List UInt8} (h : KB w v l y) (hb : Below y.heap.size y z) : KB w v l z := by
  refine ⟨⟨h.1.1, ?_⟩, h.2.trans (hb.mono h.2.size)⟩
  rcases h.1.2 with h0 | ⟨g, cap, cur, hv, hb', hg, hr⟩
  · exact .inl h0
  · exact .inr ⟨g, cap, cur, hv, hb', (hb.block g (heap_lt hg)).trans hg, hr⟩
theorem KB.str {w y w' : World} {v v' : Value} {l : List UInt8} {s : ByteArray} (h : KB w v l y) (ho : w'.ownsRow w.heap.size 5 1 v' (l.length + s.size) (l.map byV ++ Lib.strCells s)) (hg : y.grownBy w' v.ownBlock) : KB w v' (l ++ strL s) w' := by
  refine ⟨by rw [List.length_append, List.map_append, strL_len]; exact ho, Below.grown h.2 hg h.2.size (fun q hq => (h.1.lt q hq).1)⟩
theorem KB.one {w y w' : World} {v v' : Value} {l : List UInt8} {b : UInt8} {o : Obj} (h : KB w v l y) (ho : w'.ownsRow w.heap.size 5 1 v' (l.length + 1) (l.map byV ++ [byV b])) (hg : (y.alloc o).grownBy w' v.ownBlock) : KB w v' (l ++ [b]) w' := by
  refine ⟨by rw [List.length_append, List.map_append]; exact ho, Below.grown (h.2.alloc h.2.size o) hg (by have := h.2.size; simp; omega) (fun q hq => ((h.1.alloc o).lt q hq).1)⟩
theorem one_byt (x : World) (v : Value) : ∀ (j : Nat) (u : Value), [v][j]? = some u → (x.alloc (.cells #[v] 5)).cell? ((⟨x.heap.size, 0, none⟩ : Addr).add j) = some u := fun j u hu => by
  cases j with
  | zero => simp at hu; subst hu; unfold World.cell? World.alloc Addr.add; simp
  | succ j => simp at hu
theorem KB.open {w y : World} {v : Value} {l : List UInt8} (h : KB w v l y) : (∃ sp cap, v = .slice sp l.length cap) ∧ (convert 33 9 v).run Tryd.prog y = .ok (.string ⟨l.toArray⟩) y := by
  rcases h.1.2 with ⟨h0, h1⟩ | ⟨g, cap, cur, hv, hb, hg, hr⟩
  · have : l = [] := by cases l with | nil => rfl | cons a b => simp at h1
    subst this
    subst h0
    exact ⟨⟨none, 0, rfl⟩, by kernel_rfl⟩
  · subst hv
    refine ⟨⟨_, cap, rfl⟩, ?_⟩
    have hc := h.1.cells (g := g) rfl
    have h2 := run_convert_bytes_back (P := Tryd.prog) y 33 9 5 ⟨g, 0, none⟩ cap l Tryd.underlying33 Tryd.underlying5 Tryd.underlying9 (fun j hj => by
      rw [hc j (byV l[j]) (by simp [hj])]
      rfl)
    exact h2
end Go.Proofs.YtkpfhnogpcigaaaDoorR
