/- A new store's cells; bytes that lie in a row. -/
import Derived.Test.YthjpghnmnbhaiaaRead
import Derived.Great.Ranges
namespace Go.Proofs.Ythjpghnmnbhaiaa
open Go Go.RowKit
set_option linter.unusedVariables false
set_option maxHeartbeats 1000000
set_option maxRecDepth 20000

theorem zbyte_eq {v : Value} (h : zbyte v = true) : v = .int .u8 0 := by
  unfold zbyte at h
  split at h
  · rename_i z
    obtain rfl : z = 0 := of_decide_eq_true h
    rfl
  · cases h
theorem IsZed.ramAt {zs : List Value} (h : IsZed zs) (k : Nat) (hk : k < 32768) : zs[k]? = some (.int .u8 0) := by
  have hl := h.len
  have hm : zs[k]'(by omega) ∈ zs.take 32768 := by
    rw [List.mem_take_iff_getElem]
    exact ⟨k, by omega, rfl⟩
  rw [List.getElem?_eq_getElem (by omega), zbyte_eq (List.all_eq_true.1 h.all _ hm)]
theorem IsZed.romAt {zs : List Value} (h : IsZed zs) (k : Nat) (hk : k < 512) : zs[32769 + k]? = some (.int .u8 0) := by
  have hl := h.len
  have hm : zs[32769 + k]'(by omega) ∈ (zs.drop 32769).take 512 := by
    rw [List.mem_take_iff_getElem]
    refine ⟨k, by simp; omega, ?_⟩
    simp
  rw [List.getElem?_eq_getElem (by omega), zbyte_eq (List.all_eq_true.1 h.rom _ hm)]
def St.fresh (n : Nat) (b : Bool) : St := ⟨fun _ => 0, n, fun _ => 0, b⟩
theorem places53 : ∃ fields, Try.prog.underlying 53 = some (.struct fields) ∧ fields.toList.mapM (fun f => (Try.prog.info? f.type).map fun i => (f.offset, i.size)) = some [(0, 32768), (32768, 1), (32769, 512), (33281, 1)] := ⟨_, Try.underlying53, by kernel_rfl⟩
theorem info53 : ∃ it z, Try.prog.info? 53 = some it ∧ it.zero = some z ∧ IsZed z.cells.toList := by
  have h1 : ((Try.prog.info? 53).bind (·.zero)).isSome = true := by kernel_rfl
  obtain ⟨z, hz⟩ := Option.isSome_iff_exists.1 h1
  obtain ⟨it, h2, h3⟩ := Option.bind_eq_some_iff.1 hz
  refine ⟨it, z, h2, h3, ?_⟩
  have h4 := zed_is
  rw [hz] at h4
  exact h4
theorem built53 (n : Nat) (b : Bool) : ∃ C, Hid (Try.prog.built 53 [(1, .int .i64 (n : Int)), (3, .bool b)] = some C) ∧ Cel C (St.fresh n b) := by
  obtain ⟨fs, hu, hp⟩ := places53
  obtain ⟨it, z, hi, hz, hc⟩ := info53
  have hl : z.cells.size = 33282 := by rw [← Array.length_toList]; exact hc.len
  obtain ⟨Z, hZ⟩ : ∃ Z, z.cells = Z := ⟨_, rfl⟩
  rw [hZ] at hc hl
  refine ⟨(Z.setIfInBounds 32768 (.int .i64 (n : Int))).setIfInBounds 33281 (.bool b), ?_, ?_⟩
  · show Try.prog.built 53 _ = _
    unfold Program.built
    simp only [hi, hu, hz, hp, hZ]
    simp [Instr.fill, Value.cells, hl]
  · have g : ∀ k, Z[k]? = Z.toList[k]? := fun k => Array.getElem?_toList.symm
    refine ⟨by simpa using hl, fun k hk => ?_, ?_, fun k hk => ?_, ?_⟩
    · rw [Array.getElem?_setIfInBounds_ne (by omega), Array.getElem?_setIfInBounds_ne (by omega), g, hc.ramAt k hk]; rfl
    · rw [Array.getElem?_setIfInBounds_ne (by omega)]; simp [hl, St.fresh]
    · rw [Array.getElem?_setIfInBounds_ne (by omega), Array.getElem?_setIfInBounds_ne (by omega), g, hc.romAt k hk]; rfl
    · simp [hl, St.fresh]

theorem Cel.laid {C : Array Value} {S : St} (h : Cel C S) (Z : List Value) (R : Nat → Int) (hZ : Z.length = 512) (hR : ∀ j, j < 512 → Z[j]? = some (.int .u8 (R j))) : Cel (splice C.toList 32769 Z).toArray { S with rom := R } := by
  have hl := h.len
  have hs := length_splice C.toList 32769 Z (by rw [hZ]; simp; omega)
  have lt : ∀ k, k < 32769 → (splice C.toList 32769 Z)[k]? = C[k]? := fun k hk => by
    unfold splice
    rw [List.getElem?_append_left (by simp; omega), List.getElem?_take, if_pos hk]
    simp
  have md : ∀ k, k < 512 → (splice C.toList 32769 Z)[32769 + k]? = Z[k]? := fun k hk => by
    unfold splice
    rw [List.getElem?_append_right (by simp; omega), List.getElem?_append_left (by simp; omega)]
    congr 1
    simp
    omega
  have gt : (splice C.toList 32769 Z)[33281]? = C[33281]? := by
    unfold splice
    rw [List.getElem?_append_right (by simp; omega), List.getElem?_append_right (by simp; omega), List.getElem?_drop]
    simp [hZ]
    congr 1
    omega
  refine ⟨by simpa using hs.trans (by simpa using hl), fun k hk => ?_, ?_, fun k hk => ?_, ?_⟩
  · rw [List.getElem?_toArray, lt k (by omega)]; exact h.ram k hk
  · rw [List.getElem?_toArray, lt _ (by omega)]; exact h.n
  · rw [List.getElem?_toArray, md k hk]; exact hR k hk
  · rw [List.getElem?_toArray, gt]; exact h.on

/-- Bytes that lie in a row. -/
def Lies (x : World) (sp : Option Addr) (len : Nat) (Y : Nat → Int) : Prop := ∀ j, j < len → ∃ gb ob, sp = some ⟨gb, ob, none⟩ ∧ x.cell? ⟨gb, ob + j, none⟩ = some (.int .u8 (Y j))
theorem Lies.upd {F : Nat → Prop} {x y : World} {sp : Option Addr} {len : Nat} {Y : Nat → Int} (h : Lies x sp len Y) (u : Upd F x y) (hF : ∀ a, sp = some a → ¬ F a.block) : Lies y sp len Y := fun j hj => by
  obtain ⟨gb, ob, e, c⟩ := h j hj
  exact ⟨gb, ob, e, u.cell c (hF ⟨gb, ob, none⟩ e)⟩
theorem Lies.below {x y : World} {sp : Option Addr} {len : Nat} {Y : Nat → Int} (h : Lies x sp len Y) (hb : Below x.heap.size x y) : Lies y sp len Y := h.upd (F := fun _ => False) (Upd.of_below hb) fun _ _ h => h
/-- The cells of a row. -/
def rowOf (len : Nat) (Y : Nat → Int) : List Value := (List.range len).map fun j => .int .u8 (Y j)
theorem rowOf_len (len : Nat) (Y : Nat → Int) : (rowOf len Y).length = len := by simp [rowOf]
theorem rowOf_at (len : Nat) (Y : Nat → Int) (j : Nat) (h : j < len) : (rowOf len Y)[j]? = some (.int .u8 (Y j)) := by simp [rowOf, h]
theorem rowOf_lt (len : Nat) (Y : Nat → Int) (j : Nat) (v : Value) (h : (rowOf len Y)[j]? = some v) : j < len ∧ v = .int .u8 (Y j) := by
  rcases Nat.lt_or_ge j len with hj | hj
  · rw [rowOf_at len Y j hj] at h
    exact ⟨hj, (Option.some.inj h).symm⟩
  · rw [List.getElem?_eq_none (by rw [rowOf_len]; exact hj)] at h; cases h
theorem rowOf_one (len : Nat) (Y : Nat → Int) : ∀ v ∈ rowOf len Y, v.oneCell' = true := by
  intro v hv
  simp [rowOf] at hv
  obtain ⟨j, _, rfl⟩ := hv
  rfl
theorem Lies.src {x : World} {sp : Option Addr} {len : Nat} {Y : Nat → Int} (h : Lies x sp len Y) {m : Nat} (hm : m ≤ len) (hp : 0 < m) : ∃ ad, sp = some ad ∧ ∀ j v, (rowOf m Y)[j]? = some v → x.cell? (ad.add j) = some v := by
  obtain ⟨gb, ob, e, c⟩ := h 0 (by omega)
  refine ⟨_, e, fun j v hv => ?_⟩
  obtain ⟨hj, rfl⟩ := rowOf_lt _ _ _ _ hv
  obtain ⟨gb', ob', e', c'⟩ := h j (by omega)
  rw [e] at e'
  simp at e'
  obtain ⟨rfl, rfl⟩ := e'
  rw [addN]
  exact c'

end Go.Proofs.Ythjpghnmnbhaiaa
