/- The statements' own: a label's name that stands nowhere in a source. A region that draws its order, by an invariant over what is done: each operation keeps it, whenever it comes. A region that draws its order, by an invariant, each operation told that it is not done yet. -/
import Derived.Test.YthbdpceobnkflaaDoorJ25
import Derived.Test.YthbdpceobnkflaaDoorJ24
import Derived.Test.YthbdpceobnkflaaDoorJ4
import Derived.Test.YthbdpceobnkflaaDoorJ1
namespace Go.Proofs.YthbdpceobnkflaaDoor
open Go Go.RowKit
set_option linter.unusedVariables false
set_option maxHeartbeats 3000000
set_option maxRecDepth 20000

/-- The names that are tried. -/
def dgF (n k : Nat) : UInt8 := UInt8.ofNat (48 + n / k % 10)
def nmL (n : Nat) : List UInt8 := [dgF n 100000, dgF n 10000, dgF n 1000, dgF n 100, dgF n 10, dgF n 1]
def nmF (n : Nat) : ByteArray := ⟨(110 :: nmL n).toArray⟩
theorem dgF_nat (n k : Nat) : (dgF n k).toNat = 48 + n / k % 10 := by
  unfold dgF
  rw [UInt8.toNat_ofNat']
  omega
theorem dgF_nmc (n k : Nat) : nmc (dgF n k) = true := by
  unfold nmc
  rw [dgF_nat]
  exact decide_eq_true (by omega)
theorem nmF_app (n : Nat) : (⟨#[110]⟩ ++ ⟨(nmL n).toArray⟩ : ByteArray) = nmF n := by
  unfold nmF
  apply ByteArray.ext
  rw [ByteArray.data_append]
  simp
theorem nmF_nm (n : Nat) : isNm (nmF n) = true := by
  unfold isNm
  refine decide_eq_true ⟨(by decide : 0 < 7), (by decide : 7 ≤ 16), ⟨(by decide : 0 < 7), (by decide : 97 ≤ (110 : UInt8).toNat ∧ (110 : UInt8).toNat ≤ 122)⟩, fun j h => ?_⟩
  have hj : j < 7 := h
  have : j = 0 ∨ j = 1 ∨ j = 2 ∨ j = 3 ∨ j = 4 ∨ j = 5 ∨ j = 6 := by omega
  rcases this with rfl | rfl | rfl | rfl | rfl | rfl | rfl
  · rfl
  · exact dgF_nmc n 100000
  · exact dgF_nmc n 10000
  · exact dgF_nmc n 1000
  · exact dgF_nmc n 100
  · exact dgF_nmc n 10
  · exact dgF_nmc n 1
/-- The number that a name tells. -/
def valF (s : ByteArray) : Nat := (s.data.toList.drop 1).foldl (fun a c => a * 10 + (c.toNat - 48)) 0
theorem valF_nm (n : Nat) (h : n < 1000000) : valF (nmF n) = n := by
  show (nmL n).foldl (fun a c => a * 10 + (c.toNat - 48)) 0 = n
  unfold nmL
  simp only [List.foldl_cons, List.foldl_nil, dgF_nat]
  omega
theorem sub_len {α : Type} [DecidableEq α] : ∀ (l m : List α), l.Nodup → (∀ x ∈ l, x ∈ m) → l.length ≤ m.length
  | [], m, _, _ => Nat.zero_le _
  | a :: l, m, hd, hs => by
    have ha := hs a (by simp)
    obtain ⟨h1, h2⟩ := List.nodup_cons.1 hd
    have ih := sub_len l (m.erase a) h2 fun x hx => (List.mem_erase_of_ne (fun e => h1 (by rw [← e]; exact hx))).2 (hs x (by simp [hx]))
    rw [List.length_erase_of_mem ha] at ih
    have := List.length_pos_of_mem ha
    rw [List.length_cons]
    omega
theorem met_few (l : List Ri) (K : Nat) (hK : K ≤ 1000000) (h : ∀ m, m < K → ∃ r ∈ l, r.n = nmF m ∨ r.l = nmF m) : K ≤ l.length + l.length := by
  have := sub_len (List.range K) (l.map (fun r => valF r.n) ++ l.map (fun r => valF r.l)) List.nodup_range fun x hx => by
    have hx' := List.mem_range.1 hx
    obtain ⟨r, hr, e⟩ := h x hx'
    rcases e with e | e
    · exact List.mem_append_left _ (List.mem_map.2 ⟨r, hr, by rw [e, valF_nm x (by omega)]⟩)
    · exact List.mem_append_right _ (List.mem_map.2 ⟨r, hr, by rw [e, valF_nm x (by omega)]⟩)
  rw [List.length_range, List.length_append, List.length_map, List.length_map] at this
  exact this
theorem infoB8 : (Tryd.prog.info? 5).map (fun i => (i.zero, i.size, i.bytes)) = some (some (.int .u8 0), 1, 1) := by kernel_rfl
def six (a0 a1 a2 a3 a4 a5 : Int) : Array Value := #[.int .u8 a0, .int .u8 a1, .int .u8 a2, .int .u8 a3, .int .u8 a4, .int .u8 a5]
theorem fillS (a0 a1 a2 a3 a4 a5 : Int) : Instr.fill (fun i => some (i * 1, 1)) ((Array.range (6 * 1)).map ((Value.int .u8 0).cells[· % (Value.int .u8 0).cells.size]!)) [(0, .int .u8 a0), (1, .int .u8 a1), (2, .int .u8 a2), (3, .int .u8 a3), (4, .int .u8 a4), (5, .int .u8 a5)] = some (six a0 a1 a2 a3 a4 a5) := by kernel_rfl
theorem at_bs6 {ops : Array Oper} {rest : List Oper} {o : Oper} {a : Act} {w : World} {Q : Exit → Act → World → Prop} (a0 a1 a2 a3 a4 a5 : Int) (x0 x1 x2 x3 x4 x5 : Operand) (hgd : o.guard = none) (ho : o.op = .buildSlice 33 6 #[(0, x0), (1, x1), (2, x2), (3, x3), (4, x4), (5, x5)]) (h0 : a.eval x0 = .int .u8 a0) (h1 : a.eval x1 = .int .u8 a1) (h2 : a.eval x2 = .int .u8 a2) (h3 : a.eval x3 = .int .u8 a3) (h4 : a.eval x4 = .int .u8 a4) (h5 : a.eval x5 = .int .u8 a5)
    (h : wpList Tryd.prog ops Q rest (a.put o.dst (.slice (some ⟨w.heap.size, 0, none⟩) 6 6)) (w.alloc (.cells (six a0 a1 a2 a3 a4 a5) 5))) : wpList Tryd.prog ops Q (o :: rest) a w := wpList_plain hgd fun _ hK => by
  obtain ⟨i, hi, hz0, hz1, hz2⟩ := info_parts infoB8
  refine wp_buildSlice 33 5 6 #[(0, x0), (1, x1), (2, x2), (3, x3), (4, x4), (5, x5)] ho (six a0 a1 a2 a3 a4 a5) i _ Tryd.underlying33 hi hz0 (by rw [hz1]; decide) (by rw [hz1]; decide) ?_ (hK _ _ h)
  rw [hz1]
  have e : (#[(0, x0), (1, x1), (2, x2), (3, x3), (4, x4), (5, x5)].map fun (i, x) => (i, a.eval x)).toList = [(0, .int .u8 a0), (1, .int .u8 a1), (2, .int .u8 a2), (3, .int .u8 a3), (4, .int .u8 a4), (5, .int .u8 a5)] := by simp [h0, h1, h2, h3, h4, h5]
  rw [e]
  exact fillS a0 a1 a2 a3 a4 a5
/-- The six digits. -/
theorem six_lb {z : World} {g : Nat} {n : Nat} {c5 c4 c3 c2 c1 c0 : Nat} (h5 : c5 = n / 100000 % 10) (h4 : c4 = n / 10000 % 10) (h3 : c3 = n / 1000 % 10) (h2 : c2 = n / 100 % 10) (h1 : c1 = n / 10 % 10) (h0 : c0 = n % 10) (h : Bx z g (six (48 + (c5 : Int)) (48 + (c4 : Int)) (48 + (c3 : Int)) (48 + (c2 : Int)) (48 + (c1 : Int)) (48 + (c0 : Int))) 5) : LB8 z (some ⟨g, 0, none⟩) (nmL n) := fun j b hj => by
  refine ⟨g, 0, rfl, ?_⟩
  rw [Nat.zero_add]
  have hj' : j < 6 := (List.getElem?_eq_some_iff.1 hj).1
  refine h.c j (byV b) ?_
  have key : ∀ (k c : Nat), c = n / k % 10 → Value.int .u8 (48 + (c : Int)) = byV (dgF n k) := fun k c hc => by
    unfold byV
    rw [dgF_nat, hc]
    congr 1
  have : j = 0 ∨ j = 1 ∨ j = 2 ∨ j = 3 ∨ j = 4 ∨ j = 5 := by omega
  rcases this with rfl | rfl | rfl | rfl | rfl | rfl <;> simp [nmL] at hj <;> subst hj
  · exact congrArg some (key _ _ h5)
  · exact congrArg some (key _ _ h4)
  · exact congrArg some (key _ _ h3)
  · exact congrArg some (key _ _ h2)
  · exact congrArg some (key _ _ h1)
  · exact congrArg some (key 1 _ (by rw [Nat.div_one]; exact h0))
def FrE (w : World) (l : List Ri) (e : Ending) (z : World) : Prop := ∃ nm, e = .returned (.string nm) ∧ Hid (Below w.heap.size w z ∧ isNm nm = true ∧ ∀ r ∈ l, r.n ≠ nm ∧ r.l ≠ nm)
theorem fresh_any (w : World) (sp : Option Addr) (cap : Nat) (l : List Ri) (hl : Hid (LiesL 6 c6 w sp l)) (hn : l.length ≤ 4096) :
    Calls Tryd.prog 15 #[.slice sp l.length cap] w (FrE w l) := by
  obtain ⟨N, hN'⟩ : ∃ n, l.length = n := ⟨_, rfl⟩
  have hNN : Hid (l.length = N) := hN'
  rw [hN'] at hn ⊢
  have n1 : (N : Int) ≤ 4096 := by omega
  clear hn hN'
  go_enter Tryd.func15, Tryd.ntmps15
  go_wp2
  go_loopw [3] (fun t wz => ∃ (n : Nat) (y : World), y = wz ∧ t = .int .i64 (n : Int) ∧ Hid (n ≤ 1000000 ∧ ∀ m, m < n → ∃ r ∈ l, r.n = nmF m ∨ r.l = nmF m) ∧ Hid (Below w.heap.size w y)) (fun t _ => (1000000 - intOf t).toNat)
  case atStart => exact ⟨0, _, rfl, rfl, ⟨Nat.zero_le _, fun m hm => absurd hm (Nat.not_lt_zero _)⟩, Below.refl _ _⟩
  case round =>
    obtain ⟨n, y, rfl, rfl, J, U⟩ := hrel
    by_cases hlt : n < 1000000
    · obtain ⟨q5, hq5⟩ : ∃ q : Nat, q = n / 100000 := ⟨_, rfl⟩
      obtain ⟨q4, hq4⟩ : ∃ q : Nat, q = n / 10000 := ⟨_, rfl⟩
      obtain ⟨q3, hq3⟩ : ∃ q : Nat, q = n / 1000 := ⟨_, rfl⟩
      obtain ⟨q2, hq2⟩ : ∃ q : Nat, q = n / 100 := ⟨_, rfl⟩
      obtain ⟨q1, hq1⟩ : ∃ q : Nat, q = n / 10 := ⟨_, rfl⟩
      obtain ⟨c5, hc5⟩ : ∃ c : Nat, c = q5 % 10 := ⟨_, rfl⟩
      obtain ⟨c4, hc4⟩ : ∃ c : Nat, c = q4 % 10 := ⟨_, rfl⟩
      obtain ⟨c3, hc3⟩ : ∃ c : Nat, c = q3 % 10 := ⟨_, rfl⟩
      obtain ⟨c2, hc2⟩ : ∃ c : Nat, c = q2 % 10 := ⟨_, rfl⟩
      obtain ⟨c1, hc1⟩ : ∃ c : Nat, c = q1 % 10 := ⟨_, rfl⟩
      obtain ⟨c0, hc0⟩ : ∃ c : Nat, c = n % 10 := ⟨_, rfl⟩
      have t5 : (n : Int).tdiv 100000 = (q5 : Int) := by rw [Int.tdiv_eq_ediv_of_nonneg (by omega)]; omega
      have m5 : (q5 : Int).tmod 10 = (c5 : Int) := by rw [Int.tmod_eq_emod_of_nonneg (by omega)]; omega
      have b5 : (q5 : Int) ≤ 1000000 := by omega
      have t4 : (n : Int).tdiv 10000 = (q4 : Int) := by rw [Int.tdiv_eq_ediv_of_nonneg (by omega)]; omega
      have m4 : (q4 : Int).tmod 10 = (c4 : Int) := by rw [Int.tmod_eq_emod_of_nonneg (by omega)]; omega
      have b4 : (q4 : Int) ≤ 1000000 := by omega
      have t3 : (n : Int).tdiv 1000 = (q3 : Int) := by rw [Int.tdiv_eq_ediv_of_nonneg (by omega)]; omega
      have m3 : (q3 : Int).tmod 10 = (c3 : Int) := by rw [Int.tmod_eq_emod_of_nonneg (by omega)]; omega
      have b3 : (q3 : Int) ≤ 1000000 := by omega
      have t2 : (n : Int).tdiv 100 = (q2 : Int) := by rw [Int.tdiv_eq_ediv_of_nonneg (by omega)]; omega
      have m2 : (q2 : Int).tmod 10 = (c2 : Int) := by rw [Int.tmod_eq_emod_of_nonneg (by omega)]; omega
      have b2 : (q2 : Int) ≤ 1000000 := by omega
      have t1 : (n : Int).tdiv 10 = (q1 : Int) := by rw [Int.tdiv_eq_ediv_of_nonneg (by omega)]; omega
      have m1 : (q1 : Int).tmod 10 = (c1 : Int) := by rw [Int.tmod_eq_emod_of_nonneg (by omega)]; omega
      have b1 : (q1 : Int) ≤ 1000000 := by omega
      have m0 : (n : Int).tmod 10 = (c0 : Int) := by rw [Int.tmod_eq_emod_of_nonneg (by omega)]; omega
      have d5 : (c5 : Int) ≤ 9 := by omega
      have d4 : (c4 : Int) ≤ 9 := by omega
      have d3 : (c3 : Int) ≤ 9 := by omega
      have d2 : (c2 : Int) ≤ 9 := by omega
      have d1 : (c1 : Int) ≤ 9 := by omega
      have d0 : (c0 : Int) ≤ 9 := by omega
      have hni : (n : Int) < 1000000 := by omega
      have hlt' : Hid (n < 1000000) := hlt
      have hcv : Hid (∀ z, Bx z y.heap.size (six (48 + (c5 : Int)) (48 + (c4 : Int)) (48 + (c3 : Int)) (48 + (c2 : Int)) (48 + (c1 : Int)) (48 + (c0 : Int))) 5 → (convert 33 9 (.slice (some ⟨y.heap.size, 0, none⟩) 6 6)).run Tryd.prog z = .ok (.string ⟨(nmL n).toArray⟩) z) := fun z hz =>
        lb8_conv (six_lb (by rw [hc5, hq5]) (by rw [hc4, hq4]) (by rw [hc3, hq3]) (by rw [hc2, hq2]) (by rw [hc1, hq1]) hc0 hz) (by unfold nmL; simp) 6
      have happ := nmF_app n
      obtain ⟨Sg, hSg⟩ : ∃ s : ByteArray, (⟨(nmL n).toArray⟩ : ByteArray) = s := ⟨_, rfl⟩
      obtain ⟨S, hS⟩ : ∃ s, nmF n = s := ⟨_, rfl⟩
      have hsz : Sg.size = 6 := by rw [← hSg]; rfl
      rw [hSg] at hcv happ
      rw [hS] at happ
      have cat1 : ∀ w, (Op.stringOp .add ⟨#[110]⟩ Sg).run Tryd.prog w = .ok (.string S) w := fun w => by
        rw [← happ]
        exact cat_run Tryd.prog ⟨#[110]⟩ Sg w (by rw [hsz]; decide)
      clear happ hsz
      have hSS : Hid (nmF n = S) := hS
      clear hlt hq5 hq4 hq3 hq2 hq1 hc5 hc4 hc3 hc2 hc1 hc0 hSg hS
      go_wp2_with (first
        | ((with_reducible refine at_bs6 (48 + (c5 : Int)) (48 + (c4 : Int)) (48 + (c3 : Int)) (48 + (c2 : Int)) (48 + (c1 : Int)) (48 + (c0 : Int)) (.tmp 15) (.tmp 20) (.tmp 25) (.tmp 30) (.tmp 35) (.tmp 39) ?_ ?_ ?_ ?_ ?_ ?_ ?_ ?_ ?_); rfl; rfl; rfl; rfl; rfl; rfl; rfl; rfl)
        | ((with_reducible refine gen_world (y.alloc (.cells (six (48 + (c5 : Int)) (48 + (c4 : Int)) (48 + (c3 : Int)) (48 + (c2 : Int)) (48 + (c1 : Int)) (48 + (c0 : Int))) 5)) (Fm y [(y.heap.size, six (48 + (c5 : Int)) (48 + (c4 : Int)) (48 + (c3 : Int)) (48 + (c2 : Int)) (48 + (c1 : Int)) (48 + (c0 : Int)), 5)]) ?_ ?_); exact Fm.one y _ _; intro y1 K1; have hc1 := hcv.out y1 (K1.out.bx 0 _ _ _ rfl)))
      clear cat1 t5 t4 t3 t2 t1 m5 m4 m3 m2 m1 m0 b5 b4 b3 b2 b1 d5 d4 d3 d2 d1 d0 hc1
      have U1 : Hid (Below w.heap.size w y1) := of_below U.out K1.out.low
      have hl1 : Hid (LiesL 6 c6 y1 sp l) := hl.out.below U1.out
      clear hcv K1
      go_loopw [5, 6] (fun s t wz => ∃ (m : Bool) (i : Nat), y1 = wz ∧ s = .bool m ∧ t = .int .i64 (i : Int) ∧ Hid (i ≤ N ∧ m = (l.take i).any (fun r => decide (r.n = S ∨ r.l = S)))) (fun _ t _ => (N - intOf t).toNat)
      case atStart => exact ⟨false, 0, rfl, rfl, rfl, Nat.zero_le _, rfl⟩
      case round =>
        obtain ⟨m, i, rfl, rfl, rfl, J1⟩ := hrel
        by_cases hlt2 : i < N
        · obtain ⟨r, hr⟩ : ∃ r, l[i]? = some r := ⟨_, List.getElem?_eq_getElem (by rw [hNN.out]; exact hlt2)⟩
          have hii : (i : Int) < N := by omega
          have htk : (l.take (i + 1)).any (fun r => decide (r.n = S ∨ r.l = S)) = ((l.take i).any (fun r => decide (r.n = S ∨ r.l = S)) || decide (r.n = S ∨ r.l = S)) := by
            rw [List.take_add_one, hr]
            simp
          cases m
          · obtain ⟨gi, oi, rfl, hcx⟩ := hl1.out i r hr
            have c1 := hcx 1 (.string r.n) rfl
            have c3 := hcx 3 (.string r.l) rfl
            have ij := fun w => idxP (P := Tryd.prog) (g := gi) (off := oi) (len := N) (cap := cap) Tryd.underlying22 (s := 6) (by kernel_rfl) .i64 i w hlt2
            have hlt3 : Hid (i < N) := hlt2
            rw [← J1.out.2, Bool.false_or] at htk
            have htk' : Hid (i + 1 ≤ N ∧ (l.take (i + 1)).any (fun r => decide (r.n = S ∨ r.l = S)) = decide (r.n = S ∨ r.l = S)) := ⟨hlt2, htk⟩
            obtain ⟨rn, hrn⟩ : ∃ q, r.n = q := ⟨_, rfl⟩
            obtain ⟨rl, hrl⟩ : ∃ q, r.l = q := ⟨_, rfl⟩
            rw [hrn] at c1 htk'
            rw [hrl] at c3 htk'
            clear hlt2 hcx hr htk J1 hrn hrl
            by_cases he : rn = S
            · have qe : (rn.toList == S.toList) = true := str_eq he
              have J9 : Hid (i + 1 ≤ N ∧ true = (l.take (i + 1)).any (fun r => decide (r.n = S ∨ r.l = S))) := ⟨htk'.out.1, by rw [htk'.out.2]; exact (decide_eq_true (.inl he)).symm⟩
              clear he htk'
              go_wp2
              go_roundw
              case rel => exact ⟨true, i + 1, by simp, by simp, by simp, J9⟩
              case measure => have := hlt3.out; simp [intOf]; omega
            · have qe : (rn.toList == S.toList) = false := str_ne he
              by_cases he2 : rl = S
              · have qe2 : (rl.toList == S.toList) = true := str_eq he2
                have J9 : Hid (i + 1 ≤ N ∧ true = (l.take (i + 1)).any (fun r => decide (r.n = S ∨ r.l = S))) := ⟨htk'.out.1, by rw [htk'.out.2]; exact (decide_eq_true (.inr he2)).symm⟩
                clear he he2 htk'
                go_wp2
                go_roundw
                case rel => exact ⟨true, i + 1, by simp, by simp, by simp, J9⟩
                case measure => have := hlt3.out; simp [intOf]; omega
              · have qe2 : (rl.toList == S.toList) = false := str_ne he2
                have J9 : Hid (i + 1 ≤ N ∧ false = (l.take (i + 1)).any (fun r => decide (r.n = S ∨ r.l = S))) := ⟨htk'.out.1, by rw [htk'.out.2]; exact (decide_eq_false (fun h => h.elim he he2)).symm⟩
                clear he he2 htk'
                go_wp2
                go_roundw
                case rel => exact ⟨false, i + 1, by simp, by simp, by simp, J9⟩
                case measure => have := hlt3.out; simp [intOf]; omega
          · have J9 : Hid (n + 1 ≤ 1000000 ∧ ∀ m, m < n + 1 → ∃ r ∈ l, r.n = nmF m ∨ r.l = nmF m) := by
              refine ⟨hlt'.out, fun m hm => ?_⟩
              by_cases hmn : m = n
              · have h1 := J1.out.2.symm
                rw [List.any_eq_true] at h1
                obtain ⟨r, hr, h2⟩ := h1
                rw [hmn, hSS.out]
                exact ⟨r, List.mem_of_mem_take hr, of_decide_eq_true h2⟩
              · exact J.out.2 m (by omega)
            clear hlt2 hr htk J1
            go_wp2
            go_roundw
            case rel => exact ⟨n + 1, _, rfl, by simp, J9, U1⟩
            case measure => have := hlt'.out; simp [intOf]; omega
        · have hie : i = N := by have := J1.out.1; omega
          subst hie
          have h1 := J1.out.2
          rw [List.take_of_length_le (by rw [hNN.out]; exact Nat.le_refl _)] at h1
          cases m
          · have hF : Hid (isNm S = true ∧ ∀ r ∈ l, r.n ≠ S ∧ r.l ≠ S) := by
              refine ⟨by rw [← hSS.out]; exact nmF_nm n, fun r hr => ?_⟩
              have h2 := h1.symm
              rw [List.any_eq_false] at h2
              have h3 := h2 r hr
              simp at h3
              exact h3
            clear hlt2 h1 J1
            go_wp2
            go_ret
            exact ⟨S, rfl, U1.out, hF.out⟩
          · have J9 : Hid (n + 1 ≤ 1000000 ∧ ∀ m, m < n + 1 → ∃ r ∈ l, r.n = nmF m ∨ r.l = nmF m) := by
              refine ⟨hlt'.out, fun m hm => ?_⟩
              by_cases hmn : m = n
              · have h2 := h1.symm
                rw [List.any_eq_true] at h2
                obtain ⟨r, hr, h2⟩ := h2
                rw [hmn, hSS.out]
                exact ⟨r, hr, of_decide_eq_true h2⟩
              · exact J.out.2 m (by omega)
            clear hlt2 h1 J1
            go_wp2
            go_roundw
            case rel => exact ⟨n + 1, _, rfl, by simp, J9, U1⟩
            case measure => have := hlt'.out; simp [intOf]; omega
    · exfalso
      have h1 := J.out.1
      have := met_few l n (by omega) J.out.2
      have := hNN.out
      omega
end Go.Proofs.YthbdpceobnkflaaDoor

namespace Go.Proofs.YthbdpceobnkflaaDoor
open Go Go.RowKit
set_option linter.unusedVariables false
set_option maxHeartbeats 400000
set_option maxRecDepth 20000

section
variable {P : Program} {ops : Array Oper} {md : Region.Mode} {Q : Exit → Act → World → Prop}

/-- Each operation waits for earlier ones alone. -/
def upB (md : Region.Mode) (ops : Array Oper) : Bool := (List.range ops.size).all fun i => (ops[i]?.map fun o => o.after.all fun e => !Region.binds md e || decide (e.on < i)).getD false
theorem all_done (hu : upB md ops = true) {s : Array Bool} (hs : s.size = ops.size) (hr : Region.ready md ops s = []) : ∀ i, i < ops.size → s.getD i false = true := by
  intro i
  induction i using Nat.strongRecOn with
  | _ i ih =>
    intro hi
    have h1 := List.all_eq_true.1 hu i (List.mem_range.2 hi)
    rw [Array.getElem?_eq_getElem hi] at h1
    simp only [Option.map_some, Option.getD_some] at h1
    have hsi : i < s.size := by omega
    rcases hb : s[i] with _ | _
    · exfalso
      have hm : i ∈ Region.ready md ops s := by
        unfold Region.ready
        rw [List.mem_filter]
        refine ⟨List.mem_range.2 hi, ?_⟩
        rw [Array.getElem?_eq_getElem hi]
        simp only [Option.map_some, Option.getD_some, Bool.and_eq_true]
        refine ⟨by simp [Array.getD, hsi, hb], ?_⟩
        rw [Array.all_eq_true] at h1 ⊢
        intro j hj
        have h2 := h1 j hj
        rw [Bool.or_eq_true] at h2 ⊢
        rcases h2 with h2 | h2
        · exact .inl h2
        · have h3 : ops[i].after[j].on < i := of_decide_eq_true h2
          exact .inr (ih _ h3 (by omega))
      rw [hr] at hm
      cases hm
    · simp [Array.getD, hsi, hb]
theorem getD_set (s : Array Bool) (i j : Nat) (hi : i < s.size) : (s.setIfInBounds i true).getD j false = if j = i then true else s.getD j false := by
  rw [Array.getD_eq_getD_getElem?, Array.getD_eq_getD_getElem?, Array.getElem?_setIfInBounds]
  by_cases h : i = j
  · subst h
    simp [hi]
  · rw [if_neg h, if_neg (fun e => h e.symm)]
end
end Go.Proofs.YthbdpceobnkflaaDoor

namespace Go.Proofs.YthbdpceobnkflaaDoor
open Go Go.RowKit
set_option linter.unusedVariables false
set_option maxHeartbeats 400000

section
variable {P : Program} {ops : Array Oper} {Q : Exit → Act → World → Prop} {md : Region.Mode}
theorem wpAny_inv2 (I : Array Bool → Act → World → Prop) (hu : upB md ops = true) (hs : ∀ s a w, I s a w → s.size = ops.size)
    (step : ∀ s a w i o, I s a w → ops[i]? = some o → s.getD i false = false → (∀ e ∈ o.after, Region.binds md e = true → s.getD e.on false = true) → wpOp P ops Q i (I (s.setIfInBounds i true)) a w)
    (fin : ∀ s a w, I s a w → (∀ i, i < ops.size → s.getD i false = true) → Q .normal a w) :
    ∀ (fuel : Nat) (s : Array Bool) (a : Act) (w : World), I s a w → s.toList.countP (! ·) ≤ fuel → wpAny P md ops Q fuel s a w := by
  intro fuel
  induction fuel with
  | zero =>
    intro s a w hI hc
    have hall : ∀ i, i < ops.size → s.getD i false = true := fun i hi => by
      have hsi : i < s.size := by rw [hs s a w hI]; exact hi
      rcases hb : s[i] with _ | _
      · have : 0 < s.toList.countP (! ·) := List.countP_pos_iff.2 ⟨s[i], by simp, by rw [hb]; rfl⟩
        omega
      · simp [Array.getD, hsi, hb]
    refine ⟨?_, fin s a w hI hall⟩
    rcases hr : Region.ready md ops s with _ | ⟨i, r⟩
    · rfl
    · have hm : i ∈ Region.ready md ops s := by rw [hr]; simp
      obtain ⟨h1, o, h2, _⟩ := mem_ready.1 hm
      have hi : i < ops.size := (Array.getElem?_eq_some_iff.1 h2).1
      have hsi : i < s.size := by rw [hs s a w hI]; exact hi
      have := hall i hi
      simp only [Array.getD, hsi, dif_pos] at this h1
      rw [this] at h1
      cases h1
  | succ fuel ih =>
    intro s a w hI hc
    refine ⟨fun hr => fin s a w hI (all_done hu (hs s a w hI) hr), fun i hm => ?_⟩
    obtain ⟨h1, o, h2, h3⟩ := mem_ready.1 hm
    have hi : i < ops.size := (Array.getElem?_eq_some_iff.1 h2).1
    have hsi : i < s.size := by rw [hs s a w hI]; exact hi
    have hb : s[i] = false := by simpa [Array.getD, hsi] using h1
    refine wpOp_mono (fun a' w' h' => ih _ a' w' h' ?_) (step s a w i o hI h2 (by simp [Array.getD, hsi, hb]) fun e he hbd => h3 e he hbd)
    rw [Array.toList_setIfInBounds, List.countP_set (by simpa using hsi)]
    have hpos : 0 < s.toList.countP (! ·) := List.countP_pos_iff.2 ⟨s[i], by simp, by rw [hb]; rfl⟩
    have e1 : (!(s.toList[i]'(by simpa using hsi))) = true := by rw [Array.getElem_toList, hb]; rfl
    simp only [e1, if_true]
    rw [if_neg (by decide)]
    omega
theorem region_inv2 {id : Nat} {a : Act} {w : World} (I : Array Bool → Act → World → Prop) (hm : P.follows .mixedOrders = true) (hu : upB .any ops = true) (hs : ∀ s a w, I s a w → s.size = ops.size)
    (start : I (Array.replicate ops.size false) a w.drew)
    (step : ∀ s a w i o, I s a w → ops[i]? = some o → s.getD i false = false → (∀ e ∈ o.after, Region.binds .any e = true → s.getD e.on false = true) → wpOp P ops Q i (I (s.setIfInBounds i true)) a w)
    (fin : ∀ s a w, I s a w → (∀ i, i < ops.size → s.getD i false = true) → Q .normal a w) : (Code.region id ops true).wp P Q a w :=
  wp_region_any hm (wpAny_inv2 I hu hs step fin ops.size _ a _ start (by rw [Array.toList_replicate]; exact Nat.le_trans List.countP_le_length (by simp)))
/-- An operation by itself, as a list of one. -/
def only (Q : Exit → Act → World → Prop) (K : Act → World → Prop) : Exit → Act → World → Prop
  | .normal => K
  | e => Q e
theorem wp_swap {o : Oper} {K : Act → World → Prop} {a : Act} {w : World} (h : o.wp P a w K (only Q K)) : o.wp P a w K Q := by
  unfold Oper.wp at *
  generalize (execOp a.eval o).run P w = r at *
  cases r with
  | ok n w' =>
    cases n <;> simp only [Oper.upon] at h ⊢ <;>
      first
        | exact h
        | exact Calls.mono h (fun e w'' he => by cases e <;> exact he)
  | halt x w' => cases x <;> simp only [Oper.upon] at h ⊢ <;> exact h
theorem wpOp_list {i : Nat} {o : Oper} {K : Act → World → Prop} {a : Act} {w : World} (ho : ops[i]? = some o) (h : wpList P ops (only Q K) [o] a w) : wpOp P ops Q i K a w := by
  unfold wpOp
  rw [ho]
  show if Region.wanted o (yielded ops a.tmps) = true then o.wp P a w K Q ∨ (o.asks P a w ∧ LetsOut Q) else K (a.put o.dst undef) w
  have h' : if Region.wanted o (yielded ops a.tmps) = true then o.wp P a w K (only Q K) ∨ (o.asks P a w ∧ LetsOut Q) else K (a.put o.dst undef) w := h
  split
  · rename_i hw
    rw [if_pos hw] at h'
    exact h'.imp wp_swap id
  · rename_i hw
    rw [if_neg hw] at h'
    exact h'
/-- An operation whose value is known. -/
theorem wpOp_val {i : Nat} {o : Oper} {K : Act → World → Prop} {a : Act} {w : World} (v : Value) (ho : ops[i]? = some o) (hg : o.guard = none) (h : (execOp a.eval o).run P w = .ok (.value v) w) (k : K (a.put o.dst v) w) : wpOp P ops Q i K a w := by
  unfold wpOp
  rw [ho]
  simp only [Region.wanted, hg, if_true]
  left
  unfold Oper.wp
  rw [h]
  exact k
/-- A call of a function that is known. -/
theorem wpOp_call {i : Nat} {o : Oper} {K : Act → World → Prop} {a : Act} {w : World} (f : Nat) (args : Array Value) (R : Ending → World → Prop) (ho : ops[i]? = some o) (hg : o.guard = none) (h : (execOp a.eval o).run P w = .ok (.enter f args) w) (hc : Calls P f args w R) (k : ∀ e w', R e w' → ∃ v, e = .returned v ∧ K (a.put o.dst v) w') : wpOp P ops Q i K a w := by
  unfold wpOp
  rw [ho]
  simp only [Region.wanted, hg, if_true]
  left
  unfold Oper.wp
  rw [h]
  refine hc.mono fun e w' he => ?_
  obtain ⟨v, rfl, hk⟩ := k e w' he
  exact hk
end
end Go.Proofs.YthbdpceobnkflaaDoor
