/- The program's own: what the rows read. -/
import Derived.Test.YtehnhjdjjalifaaGreatDoorQ12
namespace Go.Proofs.YtehnhjdjjalifaaGreatDoor
open Go Go.RowKit Go.Shelf
set_option linter.unusedVariables false
set_option maxHeartbeats 4000000
set_option maxRecDepth 20000

theorem slTakeB (sp : Option Addr) (n cap k : Nat) (h : k ≤ n) (hc : n ≤ cap) : ∃ sp1, (∀ v, (Instr.sliceAt 31 (.slice sp n cap) none (some (.int .i64 (k : Int))) none).run Tryz.prog v = .ok (.slice sp1 k cap) v) ∧ (∀ (w : World) (l : List UInt8), LB w sp l → LB w sp1 (l.take k)) ∧ ∀ a, sp1 = some a → ∃ a0, sp = some a0 ∧ a.block = a0.block := by
  refine ⟨if cap = 0 then sp else sp.map (·.add (0 * 1)), fun v => ?_, fun w l hl j r hj => ?_, fun a ha => ?_⟩
  · have hu : Tryz.prog.underlying 31 = some (.slice (Tryz.prog.elem 31)) := by kernel_rfl
    rw [run_sliceAt_slice v _ _ _ _ _ hu, run_slice_h v _ _ _ _ hu .i64 (k : Int) (by omega) (by omega)]
    have hz : ∀ v, (sizeOf (Tryz.prog.elem 31)).run Tryz.prog v = .ok 1 v := fun v => by kernel_rfl
    rw [hz]
    simp only [Result.andThen_ok, sliced, Int.toNat_natCast, Nat.sub_zero]
  · have hj' : l[j]? = some r := by
      rw [List.getElem?_take] at hj
      split at hj
      · exact hj
      · cases hj
    obtain ⟨g, o, rfl, hr⟩ := hl j r hj'
    refine ⟨g, o, ?_, hr⟩
    split
    · rfl
    · simp [Addr.add_lit]
  · split at ha
    · exact ⟨a, ha, rfl⟩
    · cases sp with
      | none => cases ha
      | some a0 =>
        refine ⟨a0, rfl, ?_⟩
        simp only [Option.map_some, Option.some.injEq] at ha
        rw [← ha, Nat.zero_mul]
        rfl
theorem szR_le (i : Nat) (hi : i < 37) (n : Nat) (hn : n < 65536) : szR i n ≤ 65536 := by
  rcases (show i = 0 ∨ i = 1 ∨ i = 2 ∨ i = 3 ∨ i = 4 ∨ i = 5 ∨ i = 6 ∨ i = 7 ∨ i = 8 ∨ i = 9 ∨ i = 10 ∨ i = 11 ∨ i = 12 ∨ i = 13 ∨ i = 14 ∨ i = 15 ∨ i = 16 ∨ i = 17 ∨ i = 18 ∨ i = 19 ∨ i = 20 ∨ i = 21 ∨ i = 22 ∨ i = 23 ∨ i = 24 ∨ i = 25 ∨ i = 26 ∨ i = 27 ∨ i = 28 ∨ i = 29 ∨ i = 30 ∨ i = 31 ∨ i = 32 ∨ i = 33 ∨ i = 34 ∨ i = 35 ∨ i = 36 by omega) with rfl | rfl | rfl | rfl | rfl | rfl | rfl | rfl | rfl | rfl | rfl | rfl | rfl | rfl | rfl | rfl | rfl | rfl | rfl | rfl | rfl | rfl | rfl | rfl | rfl | rfl | rfl | rfl | rfl | rfl | rfl | rfl | rfl | rfl | rfl | rfl | rfl
  · show 4 ≤ 65536; omega
  · show 2 ≤ 65536; omega
  · show 2 ≤ 65536; omega
  · show 2 ≤ 65536; omega
  · show 2 ≤ 65536; omega
  · show 2 ≤ 65536; omega
  · show 2 ≤ 65536; omega
  · show 2 ≤ 65536; omega
  · show 2 ≤ 65536; omega
  · show 2 ≤ 65536; omega
  · show 2 ≤ 65536; omega
  · show 2 ≤ 65536; omega
  · show 2 ≤ 65536; omega
  · show 2 ≤ 65536; omega
  · show 2 ≤ 65536; omega
  · show 2 ≤ 65536; omega
  · show 2 ≤ 65536; omega
  · show 1 ≤ 65536; omega
  · show 1 ≤ 65536; omega
  · show 1 ≤ 65536; omega
  · show 1 ≤ 65536; omega
  · show 1 ≤ 65536; omega
  · show 1 ≤ 65536; omega
  · show 1 ≤ 65536; omega
  · show 1 ≤ 65536; omega
  · show 1 ≤ 65536; omega
  · show 1 ≤ 65536; omega
  · show 2 ≤ 65536; omega
  · show 1 ≤ 65536; omega
  · show 1 ≤ 65536; omega
  · show 1 ≤ 65536; omega
  · show 1 ≤ 65536; omega
  · show 1 ≤ 65536; omega
  · show 8 ≤ 65536; omega
  · show 2 ≤ 65536; omega
  · show n ≤ 65536; omega
  · show 512 ≤ 65536; omega
theorem Addr.add_block (a : Addr) (k : Nat) : (a.add k).block = a.block := by unfold Addr.add; split <;> rfl
theorem slDropB (sp : Option Addr) (n cap k : Nat) (h : k ≤ n) (hc : n ≤ cap) : ∃ sp1, (∀ v, (Instr.sliceAt 31 (.slice sp n cap) (some (.int .i64 (k : Int))) none none).run Tryz.prog v = .ok (.slice sp1 (n - k) (cap - k)) v) ∧ (∀ (w : World) (l : List UInt8), l.length = n → LB w sp l → LB w sp1 (l.drop k)) ∧ ∀ a, sp1 = some a → ∃ a0, sp = some a0 ∧ a.block = a0.block := by
  refine ⟨if cap = k then sp else sp.map (·.add (k * 1)), fun v => ?_, fun w l hn hl j r hj => ?_, fun a ha => ?_⟩
  · have hu : Tryz.prog.underlying 31 = some (.slice (Tryz.prog.elem 31)) := by kernel_rfl
    rw [run_sliceAt_slice v _ _ _ _ _ hu, run_slice_l v _ _ _ _ hu .i64 (k : Int) (by omega) (by omega)]
    have hz : ∀ v, (sizeOf (Tryz.prog.elem 31)).run Tryz.prog v = .ok 1 v := fun v => by kernel_rfl
    rw [hz]
    simp only [Result.andThen_ok, sliced, Int.toNat_natCast]
  · rw [List.getElem?_drop] at hj
    obtain ⟨g, o, rfl, hr⟩ := hl (k + j) r hj
    have hlt := (List.getElem?_eq_some_iff.1 hj).1
    refine ⟨g, o + k * 1, ?_, ?_⟩
    · rw [if_neg (by omega)]
      simp [Addr.add_lit]
    · rw [show o + k * 1 + j * 1 = o + (k + j) * 1 by omega]
      exact hr
  · split at ha
    · exact ⟨a, ha, rfl⟩
    · cases sp with
      | none => cases ha
      | some a0 =>
        refine ⟨a0, rfl, ?_⟩
        simp only [Option.map_some, Option.some.injEq] at ha
        rw [← ha, Addr.add_block]
theorem ret_row3 {P : Program} {a : Act} {w : World} {t : TypeId} {n : Nat} {fn : Func} {R' : Ending → World → Prop} {p u u' : Tmp} {b : Nat} {cs : Array Value} {v v' : Value} (R : Rt P t n) (hr : fn.results = #[.cell p t, .tmp u, .tmp u']) (hp : a.tmps.getD p undef = .pointer (some ⟨b, 0, none⟩)) (hu : a.tmps.getD u undef = v) (hu' : a.tmps.getD u' undef = v') (h : Bx w b cs t) (hs : cs.size = n) (hd : a.defers = []) (hR : R' (.returned (.tuple #[.agg cs, v, v'])) w) : bodyPost P fn R' .ret a w := by
  obtain ⟨d, hu9, hd'⟩ := R.u
  refine bodyPost_ret ?_ hd hR
  have hl := run_loadVar_row (P := P) w b t t cs (0, 0) d h hu9 (by cases d <;> first | rfl | exact hd') (by rw [hs]; exact R.i)
  have hp9 : a.tmps[p]?.getD undef = .pointer (some ⟨b, 0, none⟩) := by simpa using hp
  have hu9 : a.tmps[u]?.getD undef = v := by simpa using hu
  have hu8 : a.tmps[u']?.getD undef = v' := by simpa using hu'
  simp [results, hr, hp9, hu9, hu8, asAddr, hl, Result.andThen]
theorem bCs_one (s : Bd) (sR sO : Option Addr) (nR cR nO cO : Nat) : (bCs s (.slice sR nR cR) (.slice sO nO cO)).all (·.oneCell') = true := by kernel_rfl
/-- A machine whose bytes lie in blocks of its own. -/
def MOk (w : World) (l : List UInt8) (M : Array Value) (y : World) : Prop := ∃ g g', M = bCs (bdOf l) (.slice (some ⟨g, 0, none⟩) (bdOf l).ram.length (bdOf l).ram.length) (.slice (some ⟨g', 0, none⟩) (bdOf l).rom.length (bdOf l).rom.length) ∧ Bx y g (rowL cB (bdOf l).ram).toArray 5 ∧ Bx y g' (rowL cB (bdOf l).rom).toArray 5 ∧ w.heap.size ≤ g ∧ w.heap.size ≤ g' ∧ g ≠ g'
theorem MOk.below {w : World} {l : List UInt8} {M : Array Value} {y z : World} (h : MOk w l M y) (hb : Below y.heap.size y z) : MOk w l M z := by
  obtain ⟨g, g', e, a, b, c⟩ := h
  exact ⟨g, g', e, (hb.block g (heap_lt a)).trans a, (hb.block g' (heap_lt b)).trans b, c⟩
/-- What the rows read. -/
def RrE (w : World) (l : List UInt8) (e : Ending) (w' : World) : Prop := (wholeB l = true ∧ ∃ M sp n cap, e = .returned (.tuple #[.agg M, .slice sp n cap, .bool true]) ∧ Hid (Below w.heap.size w w' ∧ LB w' sp (l.drop (575 + ramN l)) ∧ 575 + ramN l + n = l.length ∧ n ≤ cap ∧ MOk w l M w')) ∨ (wholeB l = false ∧ e = .returned (.tuple #[.agg zBd, .slice none 0 0, .bool false]) ∧ Hid (Below w.heap.size w w'))
/-- Reading under way. -/
structure RJ (w y2 : World) (l : List UInt8) (i : Nat) (sp : Option Addr) (n cap : Nat) (M : Array Value) (y : World) : Prop where
  off : offR i (ramN l) + n = l.length
  cap : n ≤ cap
  lies : LB y sp (l.drop (offR i (ramN l)))
  blk : ∀ a, 0 < l.length → sp = some a → a.block < w.heap.size
  box : Bx y w.heap.size M 34
  good : GoodM l i (w.heap.size + 1) M y
  ok : ∀ k, k < i → okR k (plR l k) = true
  sto : Sto w.heap.size y2 y
theorem rrow_any (w : World) (sp : Option Addr) (cap : Nat) (l : List UInt8) (hl : Hid (LB w sp l)) (hn : l.length ≤ 4000000000) (hcap : l.length ≤ cap) : Calls Tryz.prog 23 #[.slice sp l.length cap] w (RrE w l) := by
  obtain ⟨n, hn'⟩ : ∃ n, l.length = n := ⟨_, rfl⟩
  have hnn : Hid (l.length = n ∧ n ≤ 4000000000 ∧ n ≤ cap) := ⟨hn', by omega, by omega⟩
  rw [hn'] at hn hcap ⊢
  have hblk : Hid (∀ a, 0 < l.length → sp = some a → a.block < w.heap.size) := fun a h0 ha => by
    obtain ⟨g, o, e⟩ := lb_some hl.out h0
    have c := lb_at (by rw [← e]; exact hl.out) 0 h0
    rw [ha] at e
    cases e
    exact World.block_lt_of_cell? w _ c
  have hRN : ramN l < 65536 := ramN_lt l
  obtain ⟨RN, hRN'⟩ : ∃ z, ramN l = z := ⟨_, rfl⟩
  have hR6 : Hid (ramN l = RN ∧ RN < 65536) := ⟨hRN', by omega⟩
  have hFin : Hid (∀ M y, GoodM l 37 (w.heap.size + 1) M y → wholeB l = true → MOk w l M y) := fun M y h hw => by
    obtain ⟨g, g', e, a, b, c, d, f⟩ := h.fin hw
    exact ⟨g, g', e, a, b, by omega, by omega, f⟩
  clear hn hcap hn' hRN hRN'
  go_enter Tryz.func23, Tryz.ntmps23
  go_wp2_with (first
    | ((with_reducible refine gen_world (w.alloc (.cells #[.int .u16 0, .int .u16 0, .int .u16 0, .int .u16 0, .int .u16 0, .int .u16 0, .int .u16 0, .int .u16 0, .int .u16 0, .int .u16 0, .int .u16 0, .int .u16 0, .int .u16 0, .int .u16 0, .int .u16 0, .int .u16 0, .int .u8 0, .bool false, .int .u8 0, .int .u8 0, .int .u8 0, .bool false, .bool false, .int .u8 0, .int .u8 0, .int .u8 0, .int .i64 0, .int .i64 0, .bool false, .int .i64 0, .int .u8 0, .bool false, .slice none 0 0, .slice none 0 0, .int .u64 0] 34)) (fun z => Bx z w.heap.size zBd 34 ∧ Below w.heap.size w z) ?_ ?_); exact ⟨one_bxL _ _ _, below1 w _⟩; intro y0 K0)
    | (go_at_call 16; refine (rows_any y0).mono ?_; rintro e y2 ⟨vr, lr, rfl, H⟩; obtain ⟨sv, cv, hvr, hli⟩ := H.out.1.own.open kRow.len; rw [H.out.2] at hvr; subst hvr; have K2 : Hid (LiesL 3 c3 y2 sv lr ∧ lr.length = 37 ∧ (∀ i x, lr[i]? = some x → RwK i x y2) ∧ (∀ a, sv = some a → w.heap.size < a.block ∧ a.block < y2.heap.size) ∧ Bx y2 w.heap.size zBd 34 ∧ Below w.heap.size w y2) := ⟨hli.1, H.out.2, fun i x hi => H.out.1.rw i x (by rw [List.append_nil]; exact hi), fun a ha => ⟨Nat.lt_of_lt_of_le (heap_lt K0.out.1) (hli.2.1 a ha).2.2.1, (hli.2.1 a ha).2.2.2⟩, (H.out.1.low.block _ (heap_lt K0.out.1)).trans K0.out.1, K0.out.2.trans (H.out.1.low.mono K0.out.2.size)⟩; clear H hli))
  clear K0
  have J0 : Hid (RJ w y2 l 0 sp n cap zBd y2) := ⟨by rw [hnn.out.1]; exact Nat.zero_add _, hnn.out.2.2, hl.out.below K2.out.2.2.2.2.2, hblk.out, K2.out.2.2.2.2.1, ⟨rfl, fun k _ h => absurd h (Nat.not_lt_zero _), fun h => absurd h (by decide), fun h => absurd h (by decide)⟩, fun k h => absurd h (Nat.not_lt_zero _), Sto.refl _ _⟩
  go_loopw [0, 10] (fun bv tv wz => ∃ (i : Nat) (spi : Option Addr) (ni ci : Nat) (M : Array Value) (y : World), y = wz ∧ i ≤ 37 ∧ bv = .slice spi ni ci ∧ tv = .int .i64 (i : Int) ∧ Hid (RJ w y2 l i spi ni ci M y)) (fun _ tv _ => (37 - intOf tv).toNat)
  case atStart => exact ⟨0, sp, n, cap, zBd, y2, rfl, by decide, rfl, rfl, J0⟩
  case round =>
    obtain ⟨i, spi, ni, ci, M, y, rfl, hi, rfl, rfl, J⟩ := hrel
    clear J0
    have hMs : Hid (M.size = 35) := J.out.good.size
    have hlow : Hid (∀ u, Sto w.heap.size y2 u → Below w.heap.size w u) := fun u hu => K2.out.2.2.2.2.2.trans hu.low
    by_cases hlt : i < 37
    · have hii : (i : Int) < 37 := by omega
      have hlt' : Hid (i < 37) := hlt
      obtain ⟨x, hx⟩ : ∃ x, lr[i]? = some x := ⟨_, List.getElem?_eq_getElem (by rw [K2.out.2.1]; exact hlt)⟩
      have hKx := K2.out.2.2.1 i x hx
      obtain ⟨gr, orr, hsv, hrg⟩ := K2.out.1 i x hx
      have hgr := K2.out.2.2.2.1 _ hsv
      have ix := fun u => idxP (P := Tryz.prog) (g := gr) (off := orr) (len := 37) (cap := cv) Tryz.underlying49 (s := 3) (by kernel_rfl) .i64 i u hlt
      obtain ⟨ks, hks⟩ : ∃ z, x.ks = z := ⟨_, rfl⟩
      obtain ⟨cs, hcs⟩ : ∃ z, x.cs = z := ⟨_, rfl⟩
      obtain ⟨kr, hkr⟩ : ∃ z, x.kr = z := ⟨_, rfl⟩
      obtain ⟨cr, hcr⟩ : ∃ z, x.cr = z := ⟨_, rfl⟩
      obtain ⟨X, hX⟩ : ∃ z : Array Value, (c3 x).toArray = z := ⟨_, rfl⟩
      have hXs : Hid (X.size = 3 ∧ X.all (·.oneCell') = true ∧ X[0]? = some (.func (.func ks) #[] cs) ∧ X[2]? = some (.func (.func kr) #[] cr)) := by
        rw [← hX, ← hks, ← hcs, ← hkr, ← hcr]
        exact ⟨rfl, c3_one x, rfl, rfl⟩
      have hrg2 : Hid (∀ u, Sto w.heap.size y2 u → u.rangeAt gr (orr + i * 3) X.toList) := fun u hu => by
        rw [← hX]
        intro j v hv
        have c := hrg j v hv
        exact (World.cell_of_block (hu.oth gr (by have h9 : w.heap.size < gr := hgr.1; show gr ≠ w.heap.size; omega) (World.block_lt_of_cell? y2 _ c))).trans c
      have hK9 : Hid (∀ u, Sto w.heap.size y2 u → RwK i x u) := fun u hu => hKx.keep hlt (KpT.of_sto hu K2.out.2.2.2.2.1)
      obtain ⟨sz, hsz⟩ : ∃ z, szR i RN = z := ⟨_, rfl⟩
      have hsz' : Hid (szR i RN = sz ∧ sz ≤ 65536) := by
        refine ⟨hsz, ?_⟩
        rw [← hsz]
        exact szR_le i hlt RN hR6.out.2
      have hsi : (sz : Int) ≤ 65536 := by have := hsz'.out.2; omega
      have hSz : Hid (∀ u, Sto w.heap.size y2 u → (∀ args w, (callFunc ks args).run Tryz.prog w = .ok (.enter ks args) w) ∧ Calls Tryz.prog ks (#[.agg M] ++ cs) u fun e w' => e = .returned (.int .i64 (sz : Int)) ∧ Below u.heap.size u w') := fun u hu => by
        rw [← hks, ← hcs, ← hsz]
        by_cases h35 : i = 35
        · obtain ⟨g, hg⟩ := J.out.good.cnt h35
          have := row_size i hlt x u (hK9.out u hu) M (some ⟨g, 0, none⟩) (ramN l) (ramN l) (fun _ => hg)
          rw [hR6.out.1] at this
          exact this
        · exact row_size i hlt x u (hK9.out u hu) M none RN 0 (fun e => absurd e h35)
      have ekS := (hSz.out y J.out.sto).1
      have hoff : Hid (offR (i + 1) (ramN l) = offR i (ramN l) + sz) := by show _ = _; rw [offR_succ i _ hlt, hR6.out.1, hsz]
      by_cases hfit : sz ≤ ni
      · have hfit' : Hid (sz ≤ ni) := hfit
        have qf : decide (ni < sz) = false := decide_eq_false (by omega)
        obtain ⟨sp1, hsl1, hlb1, hbk1⟩ := slTakeB spi ni ci sz hfit J.out.cap
        obtain ⟨sp2, hsl2, hlb2, hbk2⟩ := slDropB spi ni ci sz hfit J.out.cap
        have hw : Hid (offR (i + 1) (ramN l) ≤ l.length) := by show _ ≤ _; rw [hoff.out]; have := J.out.off; omega
        have hl0 : Hid (0 < l.length) := by
          show 0 < _
          have h1 := offR_mono (ramN l) (show 1 ≤ i + 1 by omega) (show i + 1 ≤ 37 by omega)
          have h2 : offR 1 (ramN l) = 4 := rfl
          have := hw.out
          omega
        have epl : Hid ((l.drop (offR i (ramN l))).take sz = plR l i) := by
          show _ = _
          unfold plR
          rw [hR6.out.1, hsz]
        have hpl : Hid ((plR l i).length = sz) := by show _ = _; rw [plR_len l i hlt hw.out, hR6.out.1, hsz]
        obtain ⟨okI, hokI⟩ : ∃ z, okR i (plR l i) = z := ⟨_, rfl⟩
        have hRd : Hid (∀ u, Sto w.heap.size y2 u → Below y.heap.size y u → (∀ args w, (callFunc kr args).run Tryz.prog w = .ok (.enter kr args) w) ∧ Calls Tryz.prog kr (#[.pointer (some ⟨w.heap.size, 0, none⟩), .slice sp1 sz ci] ++ cr) u fun e w' => e = .returned (.bool okI) ∧ RdR i w.heap.size (plR l i) u M w') := fun u hu hyu => by
          have := row_read i hlt x u (hK9.out u hu) w.heap.size M ((hyu.block _ (heap_lt J.out.box)).trans J.out.box) hMs.out sp1 ci RN hR6.out.2 (plR l i) (by rw [← epl.out]; exact hlb1 u _ (J.out.lies.below hyu)) (by rw [hpl.out, hsz]) (fun a ha => by
            obtain ⟨a0, e1, e2⟩ := hbk1 a ha
            rw [e2]
            exact J.out.blk a0 hl0.out e1)
          rw [hkr, hcr, hpl.out, hokI] at this
          exact this
        have ekR := (hRd.out y J.out.sto (Below.refl _ _)).1
        have hokI' : Hid (okR i (plR l i) = okI) := hokI
        have hNext : Hid (∀ u w' M', Sto w.heap.size y2 u → Below y.heap.size y u → okI = true → Bx w' w.heap.size M' 34 → Sto w.heap.size u w' → StpR i (plR l i) u M M' w' → RJ w y2 l (i + 1) sp2 (ni - sz) (ci - sz) M' w') := fun u w' M' hu hyu hok hbx hst hsp => by
          have hlu : LB u spi (l.drop (offR i (ramN l))) := J.out.lies.below hyu
          have hlw : LB w' spi (l.drop (offR i (ramN l))) := fun j a hj => by
            obtain ⟨g, o, e, hc⟩ := hlu j a hj
            refine ⟨g, o, e, fun q v hv => ?_⟩
            have c := hc q v hv
            have hg := J.out.blk ⟨g, o, none⟩ hl0.out e
            exact (World.cell_of_block (hst.oth g (Nat.ne_of_lt hg) (World.block_lt_of_cell? u _ c))).trans c
          refine ⟨?_, ?_, ?_, fun a h0 ha => ?_, hbx, J.out.good.step hlt hw.out hyu (by have := heap_lt J.out.box; have := hyu.size; omega) hsp hst (by omega), fun k hk => ?_, hu.trans hst⟩
          · rw [hoff.out]
            have := J.out.off
            omega
          · have := J.out.cap
            omega
          · rw [hoff.out, ← List.drop_drop]
            exact hlb2 w' _ (by rw [List.length_drop]; have := J.out.off; omega) hlw
          · obtain ⟨a0, e1, e2⟩ := hbk2 a ha
            rw [e2]
            exact J.out.blk a0 h0 e1
          · rcases Nat.lt_or_ge k i with h1 | h1
            · exact J.out.ok k h1
            · obtain rfl : k = i := by omega
              rw [hokI, hok]
        subst hsv
        clear hX hks hcs hkr hcr hKx hx hrg hi hlt hsz hlb1 hbk1 hlb2 hbk2 hgr hfit hokI
        go_wp2_with (first
          | ((with_reducible refine at_loadm rtRw gr (orr + i * 3) X ?_ ?_ (.tmp 12) ?_ ?_ ?_ ?_); exact hrg2.out y J.out.sto; exact hXs.out.1; kernel_rfl; rfl; rfl)
          | ((with_reducible refine gen_world (y.alloc (.cells #[.nilFunc, .nilFunc, .nilFunc] 55)) (fun z => Bx z y.heap.size #[.nilFunc, .nilFunc, .nilFunc] 55 ∧ Below y.heap.size y z) ?_ ?_); exact ⟨one_bxL _ _ _, below1 y _⟩; intro y3 K3)
          | ((with_reducible refine at_st rtRw y.heap.size #[.nilFunc, .nilFunc, .nilFunc] X ?_ ?_ ?_ ?_ (.tmp 6) (.tmp 13) ?_ ?_ ?_ ?_ ?_); exact K3.out.1; rfl; exact hXs.out.1; exact hXs.out.2.1; rfl; rfl; rfl; rfl; intro y4 h4; have K4 : Hid (Bx y4 y.heap.size X 55 ∧ Below y.heap.size y y4 ∧ Sto w.heap.size y2 y4) := ⟨h4.out.1, K3.out.2.trans (h4.out.2.1 _ (Nat.le_refl _)), J.out.sto.trans (Sto.of_below (K3.out.2.trans (h4.out.2.1 _ (Nat.le_refl _))) (Nat.le_of_lt (heap_lt J.out.box)))⟩; have c1 := K4.out.1.c 0 _ hXs.out.2.2.1; clear h4 K3)
          | ((with_reducible refine at_load rtBd w.heap.size M ?_ ?_ (.tmp 2) ?_ ?_ ?_ ?_); exact (K4.out.2.1.block _ (heap_lt J.out.box)).trans J.out.box; exact hMs.out; kernel_rfl; rfl; rfl)
          | (go_at_fn ks; refine (hSz.out y4 K4.out.2.2).2.mono ?_; rintro e y5 ⟨rfl, H⟩; have K5 : Hid (Bx y5 y.heap.size X 55 ∧ Below y.heap.size y y5 ∧ Sto w.heap.size y2 y5) := ⟨(H.block _ (heap_lt K4.out.1)).trans K4.out.1, K4.out.2.1.trans (H.mono K4.out.2.1.size), K4.out.2.2.trans (Sto.of_below H (by have := heap_lt J.out.box; have := K4.out.2.1.size; omega))⟩; have c2 := K5.out.1.c 2 _ hXs.out.2.2.2; clear H))
        refine region_class_tail 10 (fun u => ∃ n, u = y5.drewN n) (by kernel_rfl) (by kernel_rfl) ⟨1, rfl⟩ ?_
        dsimp only [List.take, List.drop]
        repeat (go_big_quiet_step (fail))
        refine wpQuiet_nil ?_
        rintro _ ⟨nq, rfl⟩
        have hcall := (hRd.out (y5.drewN nq) (K5.out.2.2.trans (Sto.of_below (below_drewN (Below.refl _ y5)) (by have := heap_lt J.out.box; have := K5.out.2.1.size; omega))) (below_drewN K5.out.2.1)).2
        obtain ⟨u5, hu5⟩ : ∃ z, y5.drewN nq = z := ⟨_, rfl⟩
        have K6 : Hid (Sto w.heap.size y2 u5 ∧ Below y.heap.size y u5) := by
          rw [← hu5]
          exact ⟨K5.out.2.2.trans (Sto.of_below (below_drewN (Below.refl _ y5)) (by have := heap_lt J.out.box; have := K5.out.2.1.size; omega)), below_drewN K5.out.2.1⟩
        rw [hu5] at hcall ⊢
        have hcall' : Hid (Calls Tryz.prog kr (#[.pointer (some ⟨w.heap.size, 0, none⟩), .slice sp1 sz ci] ++ cr) u5 fun e w' => e = .returned (.bool okI) ∧ RdR i w.heap.size (plR l i) u5 M w') := hcall
        clear hu5 hcall c1 c2
        cases okI
        · have hbad : Hid (wholeB l = false) := wholeB_not i hlt'.out (fun h => by rw [hokI'.out] at h; cases h.2)
          go_wp2_with (first
            | (go_at_fn kr; refine hcall'.out.mono ?_; rintro e y7 ⟨rfl, M7, H⟩; have K7 : Hid (Bx y7 w.heap.size M7 34 ∧ Sto w.heap.size u5 y7 ∧ M7.size = 35) := ⟨H.out.1, H.out.2.1, H.out.2.2.size⟩; clear H)
            | ((with_reducible refine at_st rtBd w.heap.size M7 zBd ?_ ?_ ?_ ?_ (.tmp 2) (.tmp 31) ?_ ?_ ?_ ?_ ?_); exact K7.out.1; exact K7.out.2.2; rfl; exact zBd_one; rfl; rfl; rfl; rfl; intro y9 h9; have K9 : Hid (Bx y9 w.heap.size zBd 34 ∧ Below w.heap.size w y9) := ⟨h9.out.1, (hlow.out _ (K6.out.1.trans K7.out.2.1)).trans (h9.out.2.1 _ (Nat.le_refl _))⟩; clear h9))
          exact ret_row3 rtBd rfl rfl rfl rfl K9.out.1 rfl rfl (.inr ⟨hbad.out, rfl, K9.out.2⟩)
        · go_wp2_with (first
            | (go_at_fn kr; refine hcall'.out.mono ?_; rintro e y7 ⟨rfl, M7, H⟩; have K7 : Hid (RJ w y2 l (i + 1) sp2 (ni - sz) (ci - sz) M7 y7) := hNext.out u5 y7 M7 K6.out.1 K6.out.2 rfl H.out.1 H.out.2.1 H.out.2.2; clear H))
          go_roundw
          case rel => exact ⟨i + 1, sp2, ni - sz, ci - sz, M7, y7, rfl, hlt'.out, rfl, by simp, K7⟩
          case measure => have := hlt'.out; simp [intOf]; omega
      · have qf : decide (ni < sz) = true := decide_eq_true (by omega)
        have hbad : Hid (wholeB l = false) := wholeB_not i hlt (fun h => by
          have h1 := h.1
          rw [hoff.out] at h1
          have := J.out.off
          omega)
        subst hsv
        clear hX hks hcs hkr hcr hKx hx hrg hi hlt hsz hgr hfit
        go_wp2_with (first
          | ((with_reducible refine at_loadm rtRw gr (orr + i * 3) X ?_ ?_ (.tmp 12) ?_ ?_ ?_ ?_); exact hrg2.out y J.out.sto; exact hXs.out.1; kernel_rfl; rfl; rfl)
          | ((with_reducible refine gen_world (y.alloc (.cells #[.nilFunc, .nilFunc, .nilFunc] 55)) (fun z => Bx z y.heap.size #[.nilFunc, .nilFunc, .nilFunc] 55 ∧ Below y.heap.size y z) ?_ ?_); exact ⟨one_bxL _ _ _, below1 y _⟩; intro y3 K3)
          | ((with_reducible refine at_st rtRw y.heap.size #[.nilFunc, .nilFunc, .nilFunc] X ?_ ?_ ?_ ?_ (.tmp 6) (.tmp 13) ?_ ?_ ?_ ?_ ?_); exact K3.out.1; rfl; exact hXs.out.1; exact hXs.out.2.1; rfl; rfl; rfl; rfl; intro y4 h4; have K4 : Hid (Bx y4 y.heap.size X 55 ∧ Below y.heap.size y y4 ∧ Sto w.heap.size y2 y4) := ⟨h4.out.1, K3.out.2.trans (h4.out.2.1 _ (Nat.le_refl _)), J.out.sto.trans (Sto.of_below (K3.out.2.trans (h4.out.2.1 _ (Nat.le_refl _))) (Nat.le_of_lt (heap_lt J.out.box)))⟩; have c1 := K4.out.1.c 0 _ hXs.out.2.2.1; clear h4 K3)
          | ((with_reducible refine at_load rtBd w.heap.size M ?_ ?_ (.tmp 2) ?_ ?_ ?_ ?_); exact (K4.out.2.1.block _ (heap_lt J.out.box)).trans J.out.box; exact hMs.out; kernel_rfl; rfl; rfl)
          | (go_at_fn ks; refine (hSz.out y4 K4.out.2.2).2.mono ?_; rintro e y5 ⟨rfl, H⟩; have K5 : Hid (Bx y5 w.heap.size M 34 ∧ Below w.heap.size w y5) := ⟨(H.block _ (Nat.lt_of_lt_of_le (heap_lt J.out.box) K4.out.2.1.size)).trans ((K4.out.2.1.block _ (heap_lt J.out.box)).trans J.out.box), (hlow.out _ K4.out.2.2).trans (H.mono (by have := heap_lt J.out.box; have := K4.out.2.1.size; omega))⟩; clear H))
        go_quiet (fail)
        rename_i nq
        have K6 : Hid (Bx (y5.drewN nq) w.heap.size M 34 ∧ Below w.heap.size w (y5.drewN nq)) := ⟨K5.out.1, below_drewN K5.out.2⟩
        obtain ⟨u5, hu5⟩ : ∃ z, y5.drewN nq = z := ⟨_, rfl⟩
        rw [hu5] at K6 ⊢
        clear hu5 c1
        go_wp2_with (first
          | ((with_reducible refine at_st rtBd w.heap.size M zBd ?_ ?_ ?_ ?_ (.tmp 2) (.tmp 31) ?_ ?_ ?_ ?_ ?_); exact K6.out.1; exact hMs.out; rfl; exact zBd_one; rfl; rfl; rfl; rfl; intro y9 h9; have K9 : Hid (Bx y9 w.heap.size zBd 34 ∧ Below w.heap.size w y9) := ⟨h9.out.1, K6.out.2.trans (h9.out.2.1 _ (Nat.le_refl _))⟩; clear h9))
        exact ret_row3 rtBd rfl rfl rfl rfl K9.out.1 rfl rfl (.inr ⟨hbad.out, rfl, K9.out.2⟩)
    · obtain rfl : i = 37 := by omega
      have hgood : Hid (wholeB l = true) := wholeB_of fun k hk => ⟨by
        have := offR_mono (ramN l) (show k + 1 ≤ 37 by omega) (Nat.le_refl _)
        have := J.out.off
        omega, J.out.ok k hk⟩
      have hMo := hFin.out M y J.out.good hgood.out
      have hM1 : Hid (M.all (·.oneCell') = true) := by
        obtain ⟨g, g', e, _⟩ := hMo
        rw [e]
        exact bCs_one _ _ _ _ _ _ _
      have hMo' : Hid (MOk w l M y) := hMo
      have hbl : Hid (∀ u, u.heap[w.heap.size]? = some (.cells M 34 (0, 0)) → (∀ q, q ≠ w.heap.size → u.heap[q]? = y.heap[q]?) → MOk w l M u ∧ LB u spi (l.drop (575 + ramN l))) := fun u h1 h2 => by
        obtain ⟨g, g', e, a, b, c, d, f⟩ := hMo'.out
        have ty : ∀ q (N : Array Value), Bx y q N 5 → q ≠ w.heap.size := fun q N hq e => by
          rw [e] at hq
          have := Option.some.inj (hq.symm.trans J.out.box)
          injection this with _ e2
          exact absurd e2 (by decide)
        refine ⟨⟨g, g', e, (h2 g (ty g _ a)).trans a, (h2 g' (ty g' _ b)).trans b, c, d, f⟩, fun j v hj => ?_⟩
        obtain ⟨q, o, e, hc⟩ := J.out.lies j v hj
        have hg := J.out.blk ⟨q, o, none⟩ (by have := J.out.off; rw [offR_37] at this; omega) e
        exact ⟨q, o, e, fun r v hv => (World.cell_of_block (h2 q (Nat.ne_of_lt hg))).trans (hc r v hv)⟩
      clear hi hlt hMo
      go_wp2_with (first
        | ((with_reducible refine at_load rtBd w.heap.size M ?_ ?_ (.tmp 2) ?_ ?_ ?_ ?_); exact J.out.box; exact hMs.out; kernel_rfl; rfl; rfl)
        | ((with_reducible refine at_st rtBd w.heap.size M M ?_ ?_ ?_ ?_ (.tmp 2) (.tmp 36) ?_ ?_ ?_ ?_ ?_); exact J.out.box; exact hMs.out; exact hMs.out; exact hM1.out; rfl; rfl; rfl; rfl; intro y9 h9; have K9 : Hid (Bx y9 w.heap.size M 34 ∧ Below w.heap.size w y9 ∧ MOk w l M y9 ∧ LB y9 spi (l.drop (575 + ramN l))) := ⟨h9.out.1, (hlow.out _ J.out.sto).trans (h9.out.2.1 _ (Nat.le_refl _)), hbl.out y9 h9.out.1 h9.out.2.2⟩; clear h9))
      exact ret_row3 rtBd rfl rfl rfl rfl K9.out.1 hMs.out rfl (.inl ⟨hgood.out, M, spi, ni, ci, rfl, K9.out.2.1, K9.out.2.2.2, J.out.off, J.out.cap, K9.out.2.2.1⟩)
end Go.Proofs.YtehnhjdjjalifaaGreatDoor
