/- The tables that stand, and what the program calls of Go's library. -/
import Derived.Test.YthpahpfnpapoiaaDoorQa
import Derived.Test.YthpahpfnpapoiaaDoorXr0
import Derived.Test.YthpahpfnpapoiaaDoorSh
import Derived.Lib.SmallJoins
import Derived.Lib.AppendStr
namespace Go.Proofs.YthpahpfnpapoiaaDoor
open Go Go.RowKit Go.Shelf
set_option linter.unusedVariables false
set_option maxHeartbeats 1000000
set_option maxRecDepth 20000

/-- What the table of parts holds. -/
def partC : Array Value := #[.string ⟨#[107, 101, 121, 115]⟩, .int .i64 4, .string ⟨#[116, 97, 112, 101]⟩, .int .i64 0, .string ⟨#[102, 108, 97, 103]⟩, .int .i64 0, .string ⟨#[105, 110]⟩, .int .i64 0, .string ⟨#[111, 117, 116]⟩, .int .i64 0, .string ⟨#[105, 110, 116]⟩, .int .i64 0, .string ⟨#[99, 108, 101, 97, 114]⟩, .int .i64 0, .string ⟨#[119, 97, 105, 116]⟩, .int .i64 0, .string ⟨#[98, 117, 115]⟩, .int .i64 2]
/-- The tables of the program and of what it calls stand. -/
structure Tp (w : World) : Prop where
  pow : Lib.TabIs Tryd.prog w "internal/strconv.uint64pow10" .u64 Lib.pow10Tab
  big : ∃ m, w.cell? ⟨1, 0, none⟩ = some (.int .i64 m)
  syn : ∃ te pe, w.cell? ⟨3, 0, none⟩ = some (.iface te pe)
  rng : ∃ te pe, w.cell? ⟨4, 0, none⟩ = some (.iface te pe)
  part : ∀ i v, partC[i]? = some v → w.cell? ⟨0, i, none⟩ = some v
theorem Tp.below {w w' : World} (h : Tp w) (hb : Below w.heap.size w w') : Tp w' := by
  obtain ⟨h1, ⟨m, h2⟩, ⟨a, b, h3⟩, ⟨c, d, h4⟩, h5⟩ := h
  have keep : ∀ g i v, w.cell? ⟨g, i, none⟩ = some v → w'.cell? ⟨g, i, none⟩ = some v := fun g i v hv => (hb.cell (p := ⟨g, i, none⟩) (World.block_lt_of_cell? w _ hv)).trans hv
  exact ⟨Joins.tab_stays (g := 2) (by kernel_rfl) h1 hb (Nat.le_refl _), ⟨m, keep _ _ _ h2⟩, ⟨a, b, keep _ _ _ h3⟩, ⟨c, d, keep _ _ _ h4⟩, fun i v hv => keep _ _ _ (h5 i v hv)⟩
theorem itoa_any (n : Int) (h0 : -9223372036854775808 ≤ n) (h1 : n ≤ 9223372036854775807) (w : World) (tb : Tp w) :
    Calls Tryd.prog 46 #[.int .i64 n] w fun e w' => e = .returned (.string ⟨(Lib.itoa n).toArray⟩) ∧ Below w.heap.size w w' := by
  refine (Tryd.strconv_Itoa n h0 h1 w tb.pow).mono ?_
  rintro e w' ⟨rfl, k, os, rfl⟩
  exact ⟨rfl, ⟨rfl, rfl, rfl, by simp [Sort.grow], fun k hk => by simp [Sort.grow, Array.getElem?_append, hk]⟩⟩
theorem index_any (s : ByteArray) (w : World) :
    Calls Tryd.prog 51 #[.string s, .int .u8 10] w fun e w' => e = .returned (.int .i64 (Lib.indexByte (strL s) 10)) ∧ w' = w := Tryd.strings_IndexByte s 10 w
theorem cutsuf_any (s : ByteArray) (w : World) (hs : s.size ≤ 9223372036854775807) :
    Calls Tryd.prog 52 #[.string s, .string ⟨#[10]⟩] w fun e w' => e = .returned (.tuple #[.string ⟨(Lib.trimSuffix (strL s) [10]).toArray⟩, .bool (Lib.hasSuffix (strL s) [10])]) ∧ w' = w := Tryd.strings_CutSuffix s ⟨#[10]⟩ w hs
theorem split_any (w : World) (tb : Tp w) (s : ByteArray) (hs : s.size ≤ 1000000) :
    Calls Tryd.prog 53 #[.string s, .string ⟨#[32]⟩] w fun e w' => ∃ ws : List ByteArray, e = .returned (.slice (some ⟨w.heap.size, 0, none⟩) ws.length ws.length) ∧ w' = w.alloc (.cells (ws.map Value.string).toArray 9) ∧ ws.map strL = splitW (strL s) := by
  obtain ⟨m, hm⟩ := tb.big
  refine (Tryd.strings_Split s ⟨#[32]⟩ m w (by omega) hm (by decide)).mono ?_
  rintro e w' ⟨rfl, rfl⟩
  have hd := split_bytes s
  have hl : (Lib.splitB ⟨#[32]⟩ 0 (Lib.countB s ⟨#[32]⟩) s).length = Lib.countB s ⟨#[32]⟩ + 1 := by
    have h1 := congrArg List.length hd
    rw [List.length_map] at h1
    rw [h1]
    have key : ∀ l : List UInt8, (splitW l).length = Lib.count l [32] + 1 := by
      intro l
      have hne : ([32] : List UInt8) ≠ [] := by simp
      rw [← split_lib l]
      have gen : ∀ (f : Nat) (l : List UInt8), l.length < f → (Lib.splitK [32] 0 (Lib.count l [32]) l).length = Lib.count l [32] + 1 := by
        intro f
        induction f with
        | zero => intro l h; omega
        | succ f ih =>
          intro l h
          by_cases hm : Lib.index l [32] = -1
          · rw [Lib.count_miss hm]; rfl
          · have hg := Lib.index_ge l [32]
            obtain ⟨i, hj⟩ : ∃ i : Nat, Lib.index l [32] = i := ⟨(Lib.index l [32]).toNat, by omega⟩
            have hr := Lib.index_room l [32] (by omega)
            rw [Lib.count_hit hne hj, Nat.add_comm 1]
            unfold Lib.splitK
            rw [if_neg (by rw [hj]; simp), hj, Int.toNat_natCast, List.length_cons, ih _ (by rw [List.length_drop]; simp at hr ⊢; omega)]
      exact gen _ l (Nat.lt_succ_self _)
    exact key _
  exact ⟨Lib.splitB ⟨#[32]⟩ 0 (Lib.countB s ⟨#[32]⟩) s, by rw [hl], rfl, hd⟩
theorem atoi_any (w : World) (tb : Tp w) (s : ByteArray) (hs : s.size ≤ 1000000) :
    Calls Tryd.prog 64 #[.string s] w fun e w' => ∃ n er, e = .returned (.tuple #[.int .i64 n, er]) ∧ Below w.heap.size w w' ∧ ((Lib.atoiAll (strL s) = .ok n ∧ er = .nilIface) ∨ ((∀ v, Lib.atoiAll (strL s) ≠ .ok v) ∧ ∃ te pe, er = .iface te pe)) := by
  cases h : Lib.atoiAll (strL s) with
  | ok v =>
    refine (Tryd.strconv_Atoi_ok s (by omega) v h w).mono ?_
    rintro e w' ⟨rfl, hw⟩
    refine ⟨v, .nilIface, rfl, ?_, .inl ⟨rfl, rfl⟩⟩
    rcases hw with rfl | ⟨t, rfl⟩
    · exact Below.refl _ _
    · exact Joins.below_bytesWorld _ w _ t (Nat.le_refl _)
  | «syntax» =>
    obtain ⟨te, pe, hv⟩ := tb.syn
    refine (Tryd.strconv_Atoi_syntax s (by omega) h _ w hv (.inr ⟨te, pe, rfl⟩)).mono ?_
    rintro e w' ⟨N, rfl, _, _, hb⟩
    exact ⟨_, _, rfl, hb, .inr ⟨fun v hv => by simp at hv, _, _, rfl⟩⟩
  | range =>
    obtain ⟨te, pe, hv⟩ := tb.rng
    refine (Tryd.strconv_Atoi_range s (by omega) h _ w hv (.inr ⟨te, pe, rfl⟩)).mono ?_
    rintro e w' ⟨N, rfl, _, _, hb⟩
    exact ⟨_, _, rfl, hb, .inr ⟨fun v hv => by simp at hv, _, _, rfl⟩⟩
end Go.Proofs.YthpahpfnpapoiaaDoor
