/- OpsProgram: the law's walk. -/
import Derived.Test.YtfdikiafbfljaaaDoorPc5
import Derived.Test.YtfdikiafbfljaaaDoorIw
namespace Go.Proofs.YtfdikiafbfljaaaDoor
open Go Go.RowKit
set_option linter.unusedVariables false
set_option maxHeartbeats 1000000
set_option maxRecDepth 20000

/-- Words that came in. -/
def cW16 (w : Nat) : List Value := [.int .u16 (w : Int)]
theorem word16_at {w : World} {sp : Option Addr} {l : List Nat} (h : LiesL 1 cW16 w sp l) (k b : Nat) (hk : l[k]? = some b) : ∃ g o, sp = some ⟨g, o, none⟩ ∧ w.cell? ⟨g, o + k, none⟩ = some (.int .u16 (b : Int)) := by
  obtain ⟨g, o, e, h1⟩ := h k b hk
  refine ⟨g, o, e, ?_⟩
  have h2 := h1 0 (.int .u16 (b : Int)) rfl
  rwa [Nat.mul_one, Nat.add_zero] at h2
/-- What a remark keeps. -/
def noteL (r : List UInt8) (k : Nat) : List UInt8 := (r.take k).filter (· != 10)
theorem noteL_no (r : List UInt8) (k : Nat) : ∀ c ∈ noteL r k, c ≠ 10 := fun c h => by
  have := (List.mem_filter.1 h).2
  simpa using this
theorem noteL_len (r : List UInt8) (k : Nat) : (noteL r k).length ≤ k := by
  unfold noteL
  have h1 := List.length_filter_le (· != 10) (r.take k)
  rw [List.length_take] at h1
  omega
theorem noteL_step (r : List UInt8) (k : Nat) (b : UInt8) (hk : r[k]? = some b) : noteL r (k + 1) = if b = 10 then noteL r k else noteL r k ++ [b] := by
  unfold noteL
  rw [List.take_add_one, hk, Option.toList_some, List.filter_append]
  by_cases h : b = 10
  · rw [if_pos h, h]; simp
  · rw [if_neg h, List.filter_cons_of_pos (by simpa using h)]; simp
theorem ordL_len (w : Nat) (nt : List UInt8) : (ordL w nt).length ≤ 43 + nt.length := by
  have h := lineB_sz (decO w)
  have e : (lineB (decO w)).data.toList.length = (lineB (decO w)).size := strL_len _
  unfold ordL
  simp only [List.length_cons, List.length_append, e]
  omega
theorem Tw.box {w : World} {vT vW : Value} {tx wt : List UInt8} {y y' : World} {b t : Nat} {cs cs' : Array Value} (h : Tw w vT vW tx wt y) (hx : Bx y b cs t) (ht : t ≠ 5) (hb : w.heap.size ≤ b) (k : y'.heap[b]? = some (.cells cs' t (0, 0)) ∧ (∀ B, B ≤ b → Below B y y') ∧ ∀ q, q ≠ b → y'.heap[q]? = y.heap[q]?) : Tw w vT vW tx wt y' :=
  ⟨h.ot.keepB fun g e => by
    obtain ⟨cs2, h2⟩ := h.ot.ty g e
    exact k.2.2 g (h2.unlike hx (fun e => ht e.symm)), h.ow.keepB fun g e => by
    obtain ⟨cs2, h2⟩ := h.ow.ty g e
    exact k.2.2 g (h2.unlike hx (fun e => ht e.symm)), h.ne, h.low.trans (k.2.1 _ hb)⟩
theorem str_at (s : ByteArray) (k : Nat) (h : k < s.size) : strL (s.extract k (k + 1)) = [s[k]'h] := by
  rw [strL_extract s k (k + 1) (by omega) (by omega), show k + 1 - k = 1 by omega, drop_at (strL_get s k h)]
  rfl
theorem strL_app (a b : ByteArray) : strL (a ++ b) = strL a ++ strL b := by
  unfold strL
  rw [ByteArray.data_append, Array.toList_append]
theorem shr16 (m : Nat) : Op.shift .shr .u16 (m : Int) .u64 8 = pure (.int .u16 ((m / 256 : Nat) : Int)) := by
  unfold Op.shift
  rw [if_neg (by omega)]
  simp only [IntKind.bits]
  rw [Int.fdiv_eq_ediv_of_nonneg _ (Int.pow_nonneg (by decide))]
  rfl
theorem conv16 {w : World} {sp : Option Addr} {l : List UInt8} (h : LiesL 1 cU w sp l) (cap : Nat) : (convert 37 9 (.slice sp l.length cap)).run Tryd.prog w = .ok (.string (mkB l)) w := by
  have key : ∀ a : Addr, (∀ j (hj : j < l.length), w.cell? (a.add j) = some (.int .u8 (l[j].toNat : Int))) → (convert 37 9 (.slice (some a) l.length cap)).run Tryd.prog w = .ok (.string (mkB l)) w := fun a hc =>
    run_convert_bytes_back (P := Tryd.prog) w 37 9 5 a cap l Tryd.underlying37 Tryd.underlying5 Tryd.underlying9 (fun j hj => hc j hj)
  cases sp with
  | none =>
    have : l = [] := by
      cases l with
      | nil => rfl
      | cons a r => obtain ⟨g, o, e, _⟩ := h 0 a rfl; cases e
    subst this
    show (convert 37 9 (.slice none 0 cap)).run Tryd.prog w = _
    rw [run_convert_bytes_string w 37 9 5 none 0 cap Tryd.underlying37 Tryd.underlying5 Tryd.underlying9]
    first | rfl | simp [loadCells, mkB, go_sem]
  | some a =>
    refine key a fun j hj => ?_
    obtain ⟨g, o, e, hc⟩ := byte_at h j l[j] (List.getElem?_eq_getElem hj)
    injection e with e
    subst e
    rw [Addr.add_lit]
    exact hc
theorem own_lies {w : World} {B n cap : Nat} {sp : Option Addr} {l : List UInt8} (h : OwnL 5 1 cU B w (.slice sp n cap) l) : LiesL 1 cU w sp l := by
  obtain ⟨sp', cap', e, hl, _⟩ := h.open kU.len
  injection e with e1
  subst e1
  exact hl
theorem two_lies (z : World) (hi lo : Nat) (h1 : hi < 256) (h2 : lo < 256) : LiesL 1 cU (z.alloc (.cells #[.int .u8 (hi : Int), .int .u8 (lo : Int)] 5)) (some ⟨z.heap.size, 0, none⟩) [UInt8.ofNat hi, UInt8.ofNat lo] := fun j b hj => by
  have hx : Bx (z.alloc (.cells #[.int .u8 (hi : Int), .int .u8 (lo : Int)] 5)) z.heap.size #[.int .u8 (hi : Int), .int .u8 (lo : Int)] 5 := World.alloc_heap_new z _
  have e : ∀ n, n < 256 → byV (UInt8.ofNat n) = .int .u8 (n : Int) := fun n hn => by
    unfold byV
    congr 1
    simp
    omega
  refine ⟨z.heap.size, 0, rfl, fun i u hu => ?_⟩
  have hi' : i = 0 := by have := (List.getElem?_eq_some_iff.1 hu).1; simp [cU] at this; exact this
  subst hi'
  have hu : byV b = u := by simpa [cU] using hu
  rw [← hu]
  rcases j with _ | _ | j
  · simp at hj; rw [← hj, e hi h1]; exact hx.c 0 _ rfl
  · simp at hj; rw [← hj, e lo h2]; exact hx.c 1 _ rfl
  · simp at hj
theorem program_walk (w : World) (mx : Int) (T : Hid (Tm mx w)) (sp : Option Addr) (len cap : Nat) (ws : List Nat) (hws : Hid (ws.length = len)) (hlc : len ≤ cap) (hL : Hid (LiesL 1 cW16 w sp ws)) (hB : Hid (∀ x ∈ ws, x < 65536)) (hlen : len ≤ 9223372036854775807)
    (rk : ByteArray) (hrk : rk.size ≤ 9223372036854775807) (bt : Int) :
    Calls Tryd.prog 4 #[.slice sp len cap, .string rk, .int .i64 bt] w fun e w' => e = .returned (.bool true) ∧ Below w.heap.size w w' := by
  have hlc' : Hid (len ≤ cap) := hlc
  go_enter Tryd.func4, Tryd.ntmps4
  go_upto_if 25 with (fail)
  go_cut [0] from 23 to 27 (fun v wz => ∃ n : Nat, w = wz ∧ v = .slice sp n cap ∧ Hid (n ≤ 2000 ∧ n ≤ len))
  case first =>
    by_cases h : 2000 < len
    · have q : (2000 : Int) < len := by omega
      have hz : (2000 : Int) ≤ cap := by omega
      have hsl : ∀ v : World, (Instr.sliceAt 36 (.slice sp len cap) none (some (.int .i64 2000)) none).run Tryd.prog v = .ok (.slice sp 2000 cap) v := fun v => by
        first | (go_simp; done) | (simp [go_sem]; done)
      have hn : Hid (2000 ≤ 2000 ∧ 2000 ≤ len) := ⟨by omega, by omega⟩
      clear h hlc
      go_wp2
      go_meet
      case rel => exact ⟨2000, rfl, rfl, hn⟩
    · have q : ¬ (2000 : Int) < len := by omega
      have hn : Hid (len ≤ 2000 ∧ len ≤ len) := ⟨by omega, by omega⟩
      clear h hlc
      go_wp2
      go_meet
      case rel => exact ⟨len, rfl, rfl, hn⟩
  case rest =>
    obtain ⟨n, hwc, rfl, hn⟩ := hcut
    subst hwc
    clear hlc hlen
    refine Stop.go ?_
    go_wp2
    go_loopw [7, 8] (fun f g wz => ∃ (k : Nat) (S : ByteArray), w = wz ∧ f = .string S ∧ g = .int .i64 (k : Int) ∧ Hid (strL S = noteL (strL rk) k) ∧ k ≤ 10) (fun _ g _ => (11 - intOf g).toNat)
    case atStart => exact ⟨0, ⟨#[]⟩, rfl, rfl, rfl, (rfl : strL ⟨#[]⟩ = noteL (strL rk) 0), by omega⟩
    case round =>
      obtain ⟨k, S, hwc, rfl, rfl, hS, hk10⟩ := hrel
      subst hwc
      have hSs : Hid (S.size ≤ 10) := by
        show S.size ≤ 10
        have h1 := noteL_len (strL rk) k
        rw [← hS.out, strL_len] at h1
        omega
      by_cases hlt : k < rk.size ∧ k < 10
      · obtain ⟨h1, h2⟩ := hlt
        have q1 : (k : Int) < rk.size := by omega
        have q2 : (k : Int) < 10 := by omega
        obtain ⟨b, hb⟩ : ∃ b, rk[k]'h1 = b := ⟨_, rfl⟩
        have hgb : (strL rk)[k]? = some b := by rw [strL_get rk k h1, hb]
        have ixs : ∀ v, (Instr.index 9 (.string rk) (.int .i64 (k : Int))).run Tryd.prog v = .ok (.int .u8 (b.toNat : Int)) v := fun v => by
          rw [run_index_string v _ rk _ _ Tryd.underlying9, dif_pos ⟨by omega, by omega⟩, ← hb]
          congr 3
        have hst := noteL_step (strL rk) k b hgb
        have hw1 : IntKind.i64.wrap ((k : Int) + 1) = ((k + 1 : Nat) : Int) := by rw [IntKind.wrap_i64]; omega
        obtain ⟨k1, hk1⟩ : ∃ k1, Hid (k + 1 = k1) := ⟨_, (rfl : k + 1 = _)⟩
        rw [hk1.out] at hw1
        have hkk : Hid (k < 10) := h2
        by_cases hb10 : b = 10
        · rw [if_pos hb10] at hst
          have hn1 : Hid (strL S = noteL (strL rk) k1) := by show _ = _; rw [← hk1.out, hst, hS.out]
          have e1 : ((b.toNat : Int) != 10) = false := by rw [hb10]; rfl
          obtain ⟨bn, hbn⟩ : ∃ bn : Int, (b.toNat : Int) = bn := ⟨_, rfl⟩
          rw [hbn] at e1 ixs
          clear hb hgb hst hb10 hbn h1 h2 hS
          go_wp2
          go_roundw
          case rel => exact ⟨k1, S, by first | rfl | trivial, rfl, rfl, hn1, by have := hk1.out; have := hkk.out; omega⟩
          case measure => have := hk1.out; have := hkk.out; simp [intOf]; omega
        · rw [if_neg hb10] at hst
          have hcat : ∀ z, (Op.stringOp .add S (rk.extract k (k + 1))).run Tryd.prog z = .ok (.string (S ++ rk.extract k (k + 1))) z := fun z => cat_run Tryd.prog _ _ z (by have := hSs.out; rw [ByteArray.size_extract]; omega)
          have hn1 : Hid (strL (S ++ rk.extract k (k + 1)) = noteL (strL rk) k1) := by show _ = _; rw [← hk1.out, hst, ← hS.out, strL_app, str_at rk k h1, hb]
          have hsl : ∀ z, (Instr.sliceAt 9 (.string rk) (some (.int .i64 (k : Int))) (some (.int .i64 (k1 : Int))) none).run Tryd.prog z = .ok (.string (rk.extract k (k + 1))) z := fun z => by
            rw [← hk1.out, run_sliceAt_string z _ _ _ _ _ Tryd.underlying9, run_slice_string z _ rk .i64 .i64 (k : Int) ((k + 1 : Nat) : Int) Tryd.underlying9 (by omega) (by omega) (by omega)]
            rfl
          generalize S ++ rk.extract k (k + 1) = S2 at hcat hn1
          generalize rk.extract k (k + 1) = X at hcat hsl
          have e1 : ((b.toNat : Int) != 10) = true := by
            have : b.toNat ≠ 10 := fun e => hb10 (UInt8.toNat_inj.1 e)
            simp
            omega
          obtain ⟨bn, hbn⟩ : ∃ bn : Int, (b.toNat : Int) = bn := ⟨_, rfl⟩
          rw [hbn] at e1 ixs
          clear hb hgb hst hb10 hbn h1 h2 hS
          go_wp2
          go_roundw
          case rel => exact ⟨k1, S2, by first | rfl | trivial, rfl, rfl, hn1, by have := hk1.out; have := hkk.out; omega⟩
          case measure => have := hk1.out; have := hkk.out; simp [intOf]; omega
      · have hno : Hid (S.size ≤ 10 ∧ ∀ c ∈ strL S, c ≠ 10) := ⟨hSs.out, by rw [hS.out]; exact noteL_no _ _⟩
        by_cases q1 : (k : Int) < rk.size
        · have q2 : ¬ (k : Int) < 10 := by omega
          clear hlt hk10 hS hSs
          go_wp2
          have hS0 : Hid (S.size ≤ 10 ∧ ∀ c ∈ strL S, c ≠ 10) := hno
          go_loopw [13, 9, 10, 11, 12] (fun fi ft fw fl fo wz => ∃ (i : Nat) (tx wt : List UInt8) (ln ov : Nat) (vT vW : Value) (y : World), y = wz ∧ i ≤ n ∧ fi = .int .i64 (i : Int) ∧ vT = ft ∧ vW = fw ∧ fl = .int .i64 (ln : Int) ∧ fo = .int .i64 (ov : Int) ∧ Hid (∃ F, Bok ⟨tx, wt, ln, ov⟩ F ∧ ((i : Int) ≤ bt → F = fun _ => none)) ∧ Hid (Tw w vT vW tx wt y) ∧ Hid (tx.length ≤ 80 * i ∧ wt.length ≤ 2 * i ∧ ln ≤ 3 * i ∧ ov ≤ 3 * i)) (fun fi _ _ _ _ _ => (n - intOf fi).toNat)
          case atStart => exact ⟨0, [], [], 0, 0, .slice none 0 0, .slice none 0 0, w, rfl, by omega, rfl, rfl, rfl, rfl, rfl, ⟨_, Bok.zero, fun _ => rfl⟩, Tw.nil w, by show 0 ≤ _ ∧ 0 ≤ _ ∧ _; omega⟩
          case round =>
            obtain ⟨i, tx, wt, ln, ov, vT, vW, y, rfl, hin, rfl, rfl, rfl, rfl, rfl, hok, K, hb9⟩ := hrel
            by_cases hlt : i < n
            · have hi0 : Hid (i < n ∧ n ≤ 2000 ∧ n ≤ len) := ⟨hlt, hn.out.1, hn.out.2⟩
              obtain ⟨v, hkv⟩ : ∃ v, ws[i]? = some v := ⟨_, List.getElem?_eq_getElem (by rw [hws.out]; have := hn.out; omega)⟩
              have hv : v < 65536 := hB.out v (List.mem_of_getElem? hkv)
              obtain ⟨gl, ol, hsp, cw0⟩ := word16_at hL.out i v hkv
              subst hsp
              have cw : Hid (w.cell? ⟨gl, ol + i, none⟩ = some (.int .u16 (v : Int))) := cw0
              have cy := (K.out.low.cell (World.block_lt_of_cell? w _ cw0)).trans cw0
              have ix := fun u => idxP (P := Tryd.prog) (t := 36) (e := 27) (s := 1) (g := gl) (off := ol) (len := n) (cap := cap) Tryd.underlying36 (by kernel_rfl) .i64 i u hlt
              rw [Nat.mul_one] at ix
              have hii : (i : Int) < n := by omega
              obtain ⟨i1, hi1⟩ : ∃ i1, Hid (i + 1 = i1) := ⟨_, (rfl : i + 1 = _)⟩
              have hw1 : IntKind.i64.wrap ((i : Int) + 1) = (i1 : Int) := by rw [← hi1.out, IntKind.wrap_i64]; have := hi0.out; omega
              have hDe := fun z => decode_any z v hv
              clear cw0 hkv hlt hin
              by_cases hd : decB v = true
              · have hen := enc_dec v hv hd
                rw [hd] at hDe
                have hPr := fun z => print_any z (decO v) (enc_R hen)
                rw [hen] at hPr
                simp only [Option.isSome_some, if_true] at hPr
                obtain ⟨LB, hLBe⟩ : ∃ LB, lineB (decO v) = LB := ⟨_, rfl⟩
                rw [hLBe] at hPr
                have hLB : Hid (ordL v (strL S) = 32 :: (strL LB ++ 32 :: 59 :: strL S) ∧ LB.size ≤ 40) := ⟨by rw [← hLBe]; rfl, by rw [← hLBe]; exact lineB_sz _⟩
                obtain ⟨O, hO⟩ : ∃ O, decO v = O := ⟨_, rfl⟩
                rw [hO] at hDe hPr
                have nxt : ∀ b : Bool, ((b = true) ↔ (i : Int) = bt) → ∃ F, Bok (ordB (strL S) v (hereB b ⟨tx, wt, ln, ov⟩)) F ∧ ((i1 : Int) ≤ bt → F = fun _ => none) := fun b hb => by
                  obtain ⟨F, h1, h2⟩ := hok.out
                  cases b with
                  | true =>
                    have e := hb.1 rfl
                    have e2 := h2 (by omega)
                    subst e2
                    obtain ⟨F', h3, _⟩ := h1.here true
                    exact ⟨F', h3.ord v hv hd _ hS0.out.2, fun h => by have := hi1.out; omega⟩
                  | false => exact ⟨F, h1.ord v hv hd _ hS0.out.2, fun h => h2 (by have := hi1.out; omega)⟩
                obtain ⟨hi, hhi⟩ : ∃ hi, v / 256 = hi := ⟨_, rfl⟩
                obtain ⟨lo, hlo⟩ : ∃ lo, v % 256 = lo := ⟨_, rfl⟩
                have hhl : Hid (hi < 256 ∧ lo < 256) := ⟨by omega, by omega⟩
                have hsh : Op.shift .shr .u16 (v : Int) .u64 8 = pure (.int .u16 (hi : Int)) := by rw [← hhi]; exact shr16 v
                have hcv1 : ∀ z, (convert 27 5 (.int .u16 (hi : Int))).run Tryd.prog z = .ok (.int .u8 (hi : Int)) z := fun z => by go_simp; rw [IntKind.wrap_u8]; omega
                have hcv2 : ∀ z, (convert 27 5 (.int .u16 (v : Int))).run Tryd.prog z = .ok (.int .u8 (lo : Int)) z := fun z => by go_simp; rw [IntKind.wrap_u8]; omega
                obtain ⟨WT, eW⟩ : ∃ WT, Hid (wt ++ [UInt8.ofNat hi, UInt8.ofNat lo] = WT) := ⟨_, (rfl : wt ++ [UInt8.ofNat hi, UInt8.ofNat lo] = _)⟩
                have hov : ∀ (b : Bool) (T0 T5 : List UInt8) (ln2 ln3 : Nat), hereB b ⟨tx, wt, ln, ov⟩ = ⟨T0, wt, ln2, ov⟩ → T0 ++ (ordL v (strL S) ++ [10]) = T5 → ln2 + 1 = ln3 → ordB (strL S) v (hereB b ⟨tx, wt, ln, ov⟩) = ⟨T5, WT, ln3, if ov = 0 ∧ 3232 < WT.length then ln3 else ov⟩ := fun b T0 T5 ln2 ln3 h1 h2 h3 => by
                  rw [h1]
                  unfold ordB
                  dsimp only
                  rw [h2, h3, hhi, hlo, eW.out]
                have hchain : ∀ (T0 T1 T2 T3 T4 T5 : List UInt8), T0 ++ [32] = T1 → T1 ++ strL LB = T2 → T2 ++ strL ⟨#[32, 59]⟩ = T3 → T3 ++ strL S = T4 → T4 ++ [10] = T5 → T0 ++ (ordL v (strL S) ++ [10]) = T5 ∧ T5.length ≤ T0.length + 54 := fun T0 T1 T2 T3 T4 T5 h1 h2 h3 h4 h5 => by
                  have q1 := strL_len LB
                  have q2 := strL_len S
                  have q3 := hLB.out.2
                  have q4 := hS0.out.1
                  rw [hLB.out.1, ← h5, ← h4, ← h3, ← h2, ← h1]
                  refine ⟨by simp [strL, List.append_assoc], ?_⟩
                  have q5 : (strL ⟨#[32, 59]⟩).length = 2 := rfl
                  simp only [List.length_append, List.length_cons, List.length_nil]
                  omega
                have hWl : Hid (WT.length = wt.length + 2) := by show _ = _; rw [← eW.out]; simp
                clear hO hLBe hen hhi hlo hv hd
                by_cases hbt : (i : Int) = bt
                · have r1 : ((i : Int) == bt) = true := by rw [hbt]; simp
                  have hn1 := nxt true ⟨fun _ => hbt, fun _ => rfl⟩
                  clear hbt
                  obtain ⟨T0, e0⟩ : ∃ T, Hid (tx ++ strL ⟨#[104, 101, 114, 101, 58, 10, 10]⟩ = T) := ⟨_, (rfl : tx ++ strL ⟨#[104, 101, 114, 101, 58, 10, 10]⟩ = _)⟩
                  obtain ⟨ln2, hl2⟩ : ∃ ln2, ln + 2 = ln2 := ⟨_, rfl⟩
                  have w2 : IntKind.i64.wrap ((ln : Int) + 2) = (ln2 : Int) := by rw [← hl2, IntKind.wrap_i64]; have := hb9.out.2.2.1; have := hi0.out; omega
                  have h0 : hereB true ⟨tx, wt, ln, ov⟩ = ⟨T0, wt, ln2, ov⟩ := by rw [← e0.out, ← hl2]; rfl
                  have hT0 : T0.length = tx.length + 7 := by rw [← e0.out]; simp [strL]
                  have hlnA : ln2 ≤ ln + 2 := by omega
                  obtain ⟨T1, e1⟩ : ∃ T, Hid (T0 ++ [32] = T) := ⟨_, (rfl : T0 ++ [32] = _)⟩
                  obtain ⟨T2, e2⟩ : ∃ T, Hid (T1 ++ strL LB = T) := ⟨_, (rfl : T1 ++ strL LB = _)⟩
                  obtain ⟨T3, e3⟩ : ∃ T, Hid (T2 ++ strL ⟨#[32, 59]⟩ = T) := ⟨_, (rfl : T2 ++ strL ⟨#[32, 59]⟩ = _)⟩
                  obtain ⟨T4, e4⟩ : ∃ T, Hid (T3 ++ strL S = T) := ⟨_, (rfl : T3 ++ strL S = _)⟩
                  obtain ⟨T5, e5⟩ : ∃ T, Hid (T4 ++ [10] = T) := ⟨_, (rfl : T4 ++ [10] = _)⟩
                  obtain ⟨ln3, hl3⟩ : ∃ ln3, ln2 + 1 = ln3 := ⟨_, rfl⟩
                  have w3 : IntKind.i64.wrap ((ln2 : Int) + 1) = (ln3 : Int) := by rw [← hl3, IntKind.wrap_i64]; have := hb9.out.2.2.1; have := hi0.out; omega
                  have hlens : Hid (T0.length ≤ 170000 ∧ T1.length ≤ 170000 ∧ T2.length ≤ 170000 ∧ T3.length ≤ 170000 ∧ T4.length ≤ 170000 ∧ T5.length ≤ 80 * i + 61 ∧ WT.length = wt.length + 2) := by
                    have g1 := congrArg List.length e1.out
                    have g2 := congrArg List.length e2.out
                    have g3 := congrArg List.length e3.out
                    have g4 := congrArg List.length e4.out
                    have g5 := congrArg List.length e5.out
                    have q1 := strL_len LB
                    have q2 := strL_len S
                    have q3 := hLB.out.2
                    have q4 := hS0.out.1
                    have q5 : (strL ⟨#[32, 59]⟩).length = 2 := rfl
                    have q6 := hb9.out.1
                    have q7 := hi0.out
                    have q8 := hWl.out
                    simp only [List.length_append, List.length_cons, List.length_nil] at g1 g2 g3 g4 g5
                    show _ ∧ _
                    omega
                  have hln : Hid (ln3 ≤ ln + 3) := by show _ ≤ _; omega
                  have hn2 : Hid (∃ F, Bok ⟨T5, WT, ln3, if ov = 0 ∧ 3232 < WT.length then ln3 else ov⟩ F ∧ ((i1 : Int) ≤ bt → F = fun _ => none)) := by
                    rw [hov true T0 T5 ln2 ln3 h0 (hchain _ _ _ _ _ _ e1.out e2.out e3.out e4.out e5.out).1 hl3] at hn1
                    exact hn1
                  clear hn1 h0 hT0 hlnA hl3 nxt hov hchain hl2
                  go_wp2_with (first
                                | (at_builtin; refine at_appL kU rfl (.tmp 90) (.tmp 91) rfl w.heap.size v9 T4 rfl (K9.out.ot.alloc _) y9.heap.size 10 rfl ?_ ?_ ?_ ?_; (show Bx _ _ _ _; exact World.alloc_heap_new y9 _); (have h1 := hlens.out.2.2.2.2.1; omega); (have h1 := K9.out.low.size; simp; omega); intro v10 y10 h10; have K10 : Hid (Tw w v10 vW T5 wt y10) := (by have h := (K9.out.below (below1 _ _)).add1 h10.out; rw [e5.out] at h; exact h))
                                | (at_builtin; refine at_appS rfl (.tmp 87) (.tmp 88) rfl w.heap.size v8 T3 rfl K8.out.ot S rfl ?_ ?_ ?_; (have h1 := hlens.out.2.2.2.1; have h2 := hno.out.1; omega); exact K8.out.low.size; intro v9 y9 h9; have K9 : Hid (Tw w v9 vW T4 wt y9) := (by have h := K8.out.addS h9.out; rw [e4.out] at h; exact h))
                                | (at_builtin; refine at_appS rfl (.tmp 85) (.const (.string ⟨#[32, 59]⟩)) rfl w.heap.size v7 T2 rfl K7.out.ot ⟨#[32, 59]⟩ rfl ?_ ?_ ?_; (have h1 := hlens.out.2.2.1; have h2 : (⟨#[32, 59]⟩ : ByteArray).size = 2 := rfl; omega); exact K7.out.low.size; intro v8 y8 h8; have K8 : Hid (Tw w v8 vW T3 wt y8) := (by have h := K7.out.addS h8.out; rw [e3.out] at h; exact h))
                                | (at_builtin; refine at_appS rfl (.tmp 82) (.tmp 83) rfl w.heap.size v6 T1 rfl K6.out.ot LB rfl ?_ ?_ ?_; (have h1 := hlens.out.2.1; have h2 := hLB.out.2; omega); exact K6.out.low.size; intro v7 y7 h7; have K7 : Hid (Tw w v7 vW T2 wt y7) := (by have h := K6.out.addS h7.out; rw [e2.out] at h; exact h))
                                | (at_builtin; refine at_appL kU rfl (.tmp 79) (.tmp 80) rfl w.heap.size v5 T0 rfl (K5.out.ot.alloc _) y5.heap.size 32 rfl ?_ ?_ ?_ ?_; (show Bx _ _ _ _; exact World.alloc_heap_new y5 _); (have h1 := hlens.out.1; omega); (have h1 := K5.out.low.size; simp; omega); intro v6 y6 h6; have K6 : Hid (Tw w v6 vW T1 wt y6) := (by have h := (K5.out.below (below1 _ _)).add1 h6.out; rw [e1.out] at h; exact h))
                                | (at_builtin; refine at_appS rfl (.tmp 75) (.const (.string ⟨#[104, 101, 114, 101, 58, 10, 10]⟩)) rfl w.heap.size vT tx rfl K4.out.ot ⟨#[104, 101, 114, 101, 58, 10, 10]⟩ rfl ?_ ?_ ?_; (have h1 := hb9.out.1; have h3 := hi0.out.2.1; have h4 := hi0.out.1; have h2 : (⟨#[104, 101, 114, 101, 58, 10, 10]⟩ : ByteArray).size = 7 := rfl; omega); exact K4.out.low.size; intro v5 y5 h5; have K5 : Hid (Tw w v5 vW T0 wt y5) := (by have h := K4.out.addS h5.out; rw [e0.out] at h; exact h))
                                | (go_at_call 8; refine (hPr _).mono ?_; rintro e y4 ⟨rfl, hb4⟩; have K4 : Hid (Tw w vT vW tx wt y4) := K3.out.2.below hb4)
                                | ((with_reducible refine at_load rtO y1.heap.size (o6 O) ?_ ?_ (.tmp 14) ?_ ?_ ?_ ?_); exact K3.out.1.bx 0 _ _ _ rfl; rfl; kernel_rfl; rfl; rfl)
                                | ((with_reducible refine at_st rtO y1.heap.size (o6 od0) (o6 O) ?_ ?_ ?_ ?_ (.tmp 14) (.tmp 61) ?_ ?_ ?_ ?_ ?_); exact K2.out.1.bx 0 _ _ _ rfl; rfl; rfl; exact o6_one _; rfl; rfl; rfl; rfl; intro y3 hw3; have K3 : Hid (Fm y1 [(y1.heap.size, o6 O, 30)] y3 ∧ Tw w vT vW tx wt y3) := ⟨K2.out.1.put 0 _ _ _ _ rfl hw3.out, K2.out.2.box (K2.out.1.bx 0 _ _ _ rfl) (by decide) K1.out.low.size hw3.out⟩)
                                | ((with_reducible refine gen_world (y1.alloc (.cells #[.int .u8 0, .int .u8 0, .int .u8 0, .int .u8 0, .int .u8 0, .int .u16 0] 30)) (fun z => Fm y1 [(y1.heap.size, o6 od0, 30)] z ∧ Tw w vT vW tx wt z) ?_ ?_); exact ⟨Fm.one y1 _ _, K1.out.below (below1 _ _)⟩; intro y2 K2)
                                | (go_at_call 7; refine (hDe _).mono ?_; rintro e y1 ⟨rfl, hb1⟩; have K1 : Hid (Tw w vT vW tx wt y1) := K.out.below hb1; clear hb1))
                  have hc10 : y10.cell? ⟨gl, ol + i, none⟩ = some (.int .u16 (v : Int)) := (K10.out.low.cell (World.block_lt_of_cell? w _ cw.out)).trans cw.out
                  have K10 : Hid (Tw w v10 vW T5 wt y10.drew) := K10.out.below ⟨rfl, rfl, rfl, Nat.le_refl _, fun _ _ => rfl⟩
                  refine wp_region_held_drew (S := fun z => z.cell? ⟨gl, ol + i, none⟩ = some (.int .u16 (v : Int))) (by kernel_rfl) hc10 (fun hH => ?_)
                  generalize y10.drew = z10 at hH K10 ⊢
                  clear hc10
                  refine wpAnyH_take (oi := ⟨some 95, _, _, _, _, _⟩) (i := 0) (v := vW) rfl (by kernel_rfl) (by kernel_rfl) (by kernel_rfl) (fun _ _ _ h => h) (.inl ⟨by kernel_rfl, fun u hu => by go_simp⟩) hH ?_
                  try simp only [Act.put, List.setIfInBounds_toArray, List.set_cons_zero, List.set_cons_succ]
                  refine wpAnyH_take (oi := ⟨some 96, _, _, _, _, _⟩) (i := 1) (v := .slice (some ⟨gl, ol, none⟩) n cap) rfl (by kernel_rfl) (by kernel_rfl) (by kernel_rfl) (fun _ _ _ h => h) (.inl ⟨by kernel_rfl, fun u hu => by go_simp⟩) hH ?_
                  try simp only [Act.put, List.setIfInBounds_toArray, List.set_cons_zero, List.set_cons_succ]
                  refine wpAnyH_take (oi := ⟨some 97, _, _, _, _, _⟩) (i := 2) (v := .int .i64 (i : Int)) rfl (by kernel_rfl) (by kernel_rfl) (by kernel_rfl) (fun _ _ _ h => h) (.inl ⟨by kernel_rfl, fun u hu => by go_simp⟩) hH ?_
                  try simp only [Act.put, List.setIfInBounds_toArray, List.set_cons_zero, List.set_cons_succ]
                  refine wpAnyH_take (oi := ⟨some 98, _, _, _, _, _⟩) (i := 3) (v := .pointer (some ⟨gl, ol + i, none⟩)) rfl (by kernel_rfl) (by kernel_rfl) (by kernel_rfl) (fun _ _ _ h => h) (.inl ⟨by kernel_rfl, fun u hu => by go_simp⟩) hH ?_
                  try simp only [Act.put, List.setIfInBounds_toArray, List.set_cons_zero, List.set_cons_succ]
                  refine wpAnyH_take (oi := ⟨some 99, _, _, _, _, _⟩) (i := 4) (v := .int .u16 (v : Int)) rfl (by kernel_rfl) (by kernel_rfl) (by kernel_rfl) (fun _ _ _ h => h) (.inl ⟨by kernel_rfl, fun u hu => by have x := hu; go_simp⟩) hH ?_
                  try simp only [Act.put, List.setIfInBounds_toArray, List.set_cons_zero, List.set_cons_succ]
                  refine wpAnyH_take (oi := ⟨some 100, _, _, _, _, _⟩) (i := 5) (v := .int .u16 (hi : Int)) rfl (by kernel_rfl) (by kernel_rfl) (by kernel_rfl) (fun _ _ _ h => h) (.inl ⟨by kernel_rfl, fun u hu => by go_simp⟩) hH ?_
                  try simp only [Act.put, List.setIfInBounds_toArray, List.set_cons_zero, List.set_cons_succ]
                  refine wpAnyH_take (oi := ⟨some 101, _, _, _, _, _⟩) (i := 6) (v := .int .u8 (hi : Int)) rfl (by kernel_rfl) (by kernel_rfl) (by kernel_rfl) (fun _ _ _ h => h) (.inl ⟨by kernel_rfl, fun u hu => by go_simp⟩) hH ?_
                  try simp only [Act.put, List.setIfInBounds_toArray, List.set_cons_zero, List.set_cons_succ]
                  refine wpAnyH_take (oi := ⟨some 102, _, _, _, _, _⟩) (i := 7) (v := .slice (some ⟨gl, ol, none⟩) n cap) rfl (by kernel_rfl) (by kernel_rfl) (by kernel_rfl) (fun _ _ _ h => h) (.inl ⟨by kernel_rfl, fun u hu => by go_simp⟩) hH ?_
                  try simp only [Act.put, List.setIfInBounds_toArray, List.set_cons_zero, List.set_cons_succ]
                  refine wpAnyH_take (oi := ⟨some 103, _, _, _, _, _⟩) (i := 8) (v := .int .i64 (i : Int)) rfl (by kernel_rfl) (by kernel_rfl) (by kernel_rfl) (fun _ _ _ h => h) (.inl ⟨by kernel_rfl, fun u hu => by go_simp⟩) hH ?_
                  try simp only [Act.put, List.setIfInBounds_toArray, List.set_cons_zero, List.set_cons_succ]
                  refine wpAnyH_take (oi := ⟨some 104, _, _, _, _, _⟩) (i := 9) (v := .pointer (some ⟨gl, ol + i, none⟩)) rfl (by kernel_rfl) (by kernel_rfl) (by kernel_rfl) (fun _ _ _ h => h) (.inl ⟨by kernel_rfl, fun u hu => by go_simp⟩) hH ?_
                  try simp only [Act.put, List.setIfInBounds_toArray, List.set_cons_zero, List.set_cons_succ]
                  refine wpAnyH_take (oi := ⟨some 105, _, _, _, _, _⟩) (i := 10) (v := .int .u16 (v : Int)) rfl (by kernel_rfl) (by kernel_rfl) (by kernel_rfl) (fun _ _ _ h => h) (.inl ⟨by kernel_rfl, fun u hu => by have x := hu; go_simp⟩) hH ?_
                  try simp only [Act.put, List.setIfInBounds_toArray, List.set_cons_zero, List.set_cons_succ]
                  refine wpAnyH_take (oi := ⟨some 106, _, _, _, _, _⟩) (i := 11) (v := .int .u8 (lo : Int)) rfl (by kernel_rfl) (by kernel_rfl) (by kernel_rfl) (fun _ _ _ h => h) (.inl ⟨by kernel_rfl, fun u hu => by go_simp⟩) hH ?_
                  try simp only [Act.put, List.setIfInBounds_toArray, List.set_cons_zero, List.set_cons_succ]
                  have hL12 : Hid (LiesL 1 cU (z10.alloc (.cells #[.int .u8 (hi : Int), .int .u8 (lo : Int)] 5)) (some ⟨z10.heap.size, 0, none⟩) [UInt8.ofNat hi, UInt8.ofNat lo]) := two_lies z10 hi lo hhl.out.1 hhl.out.2
                  have K11 : Hid (Tw w v10 vW T5 wt (z10.alloc (.cells #[.int .u8 (hi : Int), .int .u8 (lo : Int)] 5))) := K10.out.below (below1 _ _)
                  have hc11 : (z10.alloc (.cells #[.int .u8 (hi : Int), .int .u8 (lo : Int)] 5)).cell? ⟨gl, ol + i, none⟩ = some (.int .u16 (v : Int)) := ((below1 z10 _).cell (World.block_lt_of_cell? z10 _ hH)).trans hH
                  refine wpAnyH_ready (rs := [12]) (by kernel_rfl) (by simp) (fun j hj => ?_)
                  obtain rfl := List.mem_singleton.1 hj
                  clear hj
                  refine wpOp_list rfl ?_
                  go_wp2
                  refine ⟨hc11, ?_⟩
                  generalize hz11 : z10.alloc (.cells #[.int .u8 (hi : Int), .int .u8 (lo : Int)] 5) = z11 at hL12 K11 hc11 ⊢
                  clear hz11
                  obtain ⟨gb, hgb⟩ : ∃ gb, z10.heap.size = gb := ⟨_, rfl⟩
                  rw [hgb] at hL12 ⊢
                  clear hgb
                  replace hH := hc11
                  try simp only [Act.put, List.setIfInBounds_toArray, List.set_cons_zero, List.set_cons_succ]
                  refine wpAnyH_ready (rs := [13]) (by kernel_rfl) (by simp) (fun j hj => ?_)
                  obtain rfl := List.mem_singleton.1 hj
                  clear hj
                  refine wpOp_list (o := ⟨some 108, _, _, _, _, _⟩) rfl ?_
                  go_wp2_with (at_builtin; refine at_appNL kU rfl (.tmp 95) (.tmp 107) rfl w.heap.size vW wt rfl K11.out.ow gb 0 2 2 [UInt8.ofNat hi, UInt8.ofNat lo] rfl rfl hL12.out (by decide) ?_ ?_ ?_; (have h1 := hb9.out.2.1; have h2 := hi0.out.2.1; omega); exact K11.out.low.size; intro v12 z12 h12; have K12 : Hid (Tw w v10 v12 T5 WT z12) := (by have h := (K11.out.swap.addN h12.out).swap; rw [eW.out] at h; exact h))
                  obtain ⟨sw, mw, cw2, hvw, hmw⟩ : ∃ sp m cap, v12 = .slice sp m cap ∧ Hid (WT.length = m) := by
                    obtain ⟨sp, cap, h, _⟩ := K12.out.ow.open kU.len
                    exact ⟨sp, _, cap, h, rfl⟩
                  subst hvw
                  have hc12 : z12.cell? ⟨gl, ol + i, none⟩ = some (.int .u16 (v : Int)) := (K12.out.low.cell (World.block_lt_of_cell? w _ cw.out)).trans cw.out
                  refine ⟨hc12, ?_⟩
                  replace hH := hc12
                  try simp only [Act.put, List.setIfInBounds_toArray, List.set_cons_zero, List.set_cons_succ]
                  refine wpAnyH_take (oi := ⟨some 10, _, _, _, _, _⟩) (i := 14) (v := .slice sw mw cw2) rfl (by kernel_rfl) (by kernel_rfl) (by kernel_rfl) (fun _ _ _ h => h) (.inl ⟨by kernel_rfl, fun u hu => by go_simp⟩) hH ?_
                  try simp only [Act.put, List.setIfInBounds_toArray]
                  refine wpAnyH_done (by kernel_rfl) ?_ _
                  clear hH hc11 hc12
                  have hfin : ∀ ov2 : Nat, (if ov = 0 ∧ 3232 < mw then ln3 else ov) = ov2 → Hid (∃ F, Bok ⟨T5, WT, ln3, ov2⟩ F ∧ ((i1 : Int) ≤ bt → F = fun _ => none)) := fun ov2 h => by
                    have h1 := hn2.out
                    rw [hmw.out, h] at h1
                    exact h1
                  by_cases ho : ov = 0
                  · subst ho
                    by_cases hm : 3232 < mw
                    · have q3 : (3232 : Int) < mw := by omega
                      have h9 := hfin ln3 (if_pos ⟨rfl, hm⟩)
                      clear hm hfin
                      go_wp2
                      go_roundw
                      case rel => exact ⟨i1, T5, WT, ln3, ln3, v10, _, z12, rfl, by have := hi0.out; have := hi1.out; omega, rfl, rfl, rfl, rfl, rfl, h9, K12, by have h1 := hb9.out; have h2 := hi1.out; have h3 := hlens.out; have h4 := hln.out; show _ ∧ _; omega⟩
                      case measure => have := hi0.out; have := hi1.out; simp [intOf]; omega
                    · have q3 : ¬ (3232 : Int) < mw := by omega
                      have h9 := hfin 0 (if_neg fun h => hm h.2)
                      clear hm hfin
                      go_wp2
                      go_roundw
                      case rel => exact ⟨i1, T5, WT, ln3, 0, v10, _, z12, rfl, by have := hi0.out; have := hi1.out; omega, rfl, rfl, rfl, rfl, rfl, h9, K12, by have h1 := hb9.out; have h2 := hi1.out; have h3 := hlens.out; have h4 := hln.out; show _ ∧ _; omega⟩
                      case measure => have := hi0.out; have := hi1.out; simp [intOf]; omega
                  · have q4 : ((ov : Int) == 0) = false := by simp; omega
                    have h9 := hfin ov (if_neg fun h => ho h.1)
                    clear ho hfin
                    go_wp2
                    go_roundw
                    case rel => exact ⟨i1, T5, WT, ln3, ov, v10, _, z12, rfl, by have := hi0.out; have := hi1.out; omega, rfl, rfl, rfl, rfl, rfl, h9, K12, by have h1 := hb9.out; have h2 := hi1.out; have h3 := hlens.out; have h4 := hln.out; show _ ∧ _; omega⟩
                    case measure => have := hi0.out; have := hi1.out; simp [intOf]; omega
                · have r1 : ((i : Int) == bt) = false := by simpa using hbt
                  have hn1 := nxt false ⟨fun h => (by cases h), fun h => absurd h hbt⟩
                  clear hbt
                  obtain ⟨T0, rfl⟩ : ∃ T, tx = T := ⟨_, rfl⟩
                  obtain ⟨ln2, rfl⟩ : ∃ ln2, ln = ln2 := ⟨_, rfl⟩
                  have h0 : hereB false ⟨tx, wt, ln, ov⟩ = ⟨tx, wt, ln, ov⟩ := rfl
                  have hT0 : tx.length ≤ tx.length + 7 := by omega
                  have hlnA : ln ≤ ln + 2 := by omega
                  obtain ⟨T1, e1⟩ : ∃ T, Hid (tx ++ [32] = T) := ⟨_, (rfl : tx ++ [32] = _)⟩
                  obtain ⟨T2, e2⟩ : ∃ T, Hid (T1 ++ strL LB = T) := ⟨_, (rfl : T1 ++ strL LB = _)⟩
                  obtain ⟨T3, e3⟩ : ∃ T, Hid (T2 ++ strL ⟨#[32, 59]⟩ = T) := ⟨_, (rfl : T2 ++ strL ⟨#[32, 59]⟩ = _)⟩
                  obtain ⟨T4, e4⟩ : ∃ T, Hid (T3 ++ strL S = T) := ⟨_, (rfl : T3 ++ strL S = _)⟩
                  obtain ⟨T5, e5⟩ : ∃ T, Hid (T4 ++ [10] = T) := ⟨_, (rfl : T4 ++ [10] = _)⟩
                  obtain ⟨ln3, hl3⟩ : ∃ ln3, ln + 1 = ln3 := ⟨_, rfl⟩
                  have w3 : IntKind.i64.wrap ((ln : Int) + 1) = (ln3 : Int) := by rw [← hl3, IntKind.wrap_i64]; have := hb9.out.2.2.1; have := hi0.out; omega
                  have hlens : Hid (tx.length ≤ 170000 ∧ T1.length ≤ 170000 ∧ T2.length ≤ 170000 ∧ T3.length ≤ 170000 ∧ T4.length ≤ 170000 ∧ T5.length ≤ 80 * i + 61 ∧ WT.length = wt.length + 2) := by
                    have g1 := congrArg List.length e1.out
                    have g2 := congrArg List.length e2.out
                    have g3 := congrArg List.length e3.out
                    have g4 := congrArg List.length e4.out
                    have g5 := congrArg List.length e5.out
                    have q1 := strL_len LB
                    have q2 := strL_len S
                    have q3 := hLB.out.2
                    have q4 := hS0.out.1
                    have q5 : (strL ⟨#[32, 59]⟩).length = 2 := rfl
                    have q6 := hb9.out.1
                    have q7 := hi0.out
                    have q8 := hWl.out
                    simp only [List.length_append, List.length_cons, List.length_nil] at g1 g2 g3 g4 g5
                    show _ ∧ _
                    omega
                  have hln : Hid (ln3 ≤ ln + 3) := by show _ ≤ _; omega
                  have hn2 : Hid (∃ F, Bok ⟨T5, WT, ln3, if ov = 0 ∧ 3232 < WT.length then ln3 else ov⟩ F ∧ ((i1 : Int) ≤ bt → F = fun _ => none)) := by
                    rw [hov false tx T5 ln ln3 h0 (hchain _ _ _ _ _ _ e1.out e2.out e3.out e4.out e5.out).1 hl3] at hn1
                    exact hn1
                  clear hn1 h0 hT0 hlnA hl3 nxt hov hchain
                  go_wp2_with (first
                                | (at_builtin; refine at_appL kU rfl (.tmp 90) (.tmp 91) rfl w.heap.size v9 T4 rfl (K9.out.ot.alloc _) y9.heap.size 10 rfl ?_ ?_ ?_ ?_; (show Bx _ _ _ _; exact World.alloc_heap_new y9 _); (have h1 := hlens.out.2.2.2.2.1; omega); (have h1 := K9.out.low.size; simp; omega); intro v10 y10 h10; have K10 : Hid (Tw w v10 vW T5 wt y10) := (by have h := (K9.out.below (below1 _ _)).add1 h10.out; rw [e5.out] at h; exact h))
                                | (at_builtin; refine at_appS rfl (.tmp 87) (.tmp 88) rfl w.heap.size v8 T3 rfl K8.out.ot S rfl ?_ ?_ ?_; (have h1 := hlens.out.2.2.2.1; have h2 := hno.out.1; omega); exact K8.out.low.size; intro v9 y9 h9; have K9 : Hid (Tw w v9 vW T4 wt y9) := (by have h := K8.out.addS h9.out; rw [e4.out] at h; exact h))
                                | (at_builtin; refine at_appS rfl (.tmp 85) (.const (.string ⟨#[32, 59]⟩)) rfl w.heap.size v7 T2 rfl K7.out.ot ⟨#[32, 59]⟩ rfl ?_ ?_ ?_; (have h1 := hlens.out.2.2.1; have h2 : (⟨#[32, 59]⟩ : ByteArray).size = 2 := rfl; omega); exact K7.out.low.size; intro v8 y8 h8; have K8 : Hid (Tw w v8 vW T3 wt y8) := (by have h := K7.out.addS h8.out; rw [e3.out] at h; exact h))
                                | (at_builtin; refine at_appS rfl (.tmp 82) (.tmp 83) rfl w.heap.size v6 T1 rfl K6.out.ot LB rfl ?_ ?_ ?_; (have h1 := hlens.out.2.1; have h2 := hLB.out.2; omega); exact K6.out.low.size; intro v7 y7 h7; have K7 : Hid (Tw w v7 vW T2 wt y7) := (by have h := K6.out.addS h7.out; rw [e2.out] at h; exact h))
                                | (at_builtin; refine at_appL kU rfl (.tmp 79) (.tmp 80) rfl w.heap.size vT tx rfl (K4.out.ot.alloc _) y4.heap.size 32 rfl ?_ ?_ ?_ ?_; (show Bx _ _ _ _; exact World.alloc_heap_new y4 _); (have h1 := hlens.out.1; omega); (have h1 := K4.out.low.size; simp; omega); intro v6 y6 h6; have K6 : Hid (Tw w v6 vW T1 wt y6) := (by have h := (K4.out.below (below1 _ _)).add1 h6.out; rw [e1.out] at h; exact h))
                                | (go_at_call 8; refine (hPr _).mono ?_; rintro e y4 ⟨rfl, hb4⟩; have K4 : Hid (Tw w vT vW tx wt y4) := K3.out.2.below hb4)
                                | ((with_reducible refine at_load rtO y1.heap.size (o6 O) ?_ ?_ (.tmp 14) ?_ ?_ ?_ ?_); exact K3.out.1.bx 0 _ _ _ rfl; rfl; kernel_rfl; rfl; rfl)
                                | ((with_reducible refine at_st rtO y1.heap.size (o6 od0) (o6 O) ?_ ?_ ?_ ?_ (.tmp 14) (.tmp 61) ?_ ?_ ?_ ?_ ?_); exact K2.out.1.bx 0 _ _ _ rfl; rfl; rfl; exact o6_one _; rfl; rfl; rfl; rfl; intro y3 hw3; have K3 : Hid (Fm y1 [(y1.heap.size, o6 O, 30)] y3 ∧ Tw w vT vW tx wt y3) := ⟨K2.out.1.put 0 _ _ _ _ rfl hw3.out, K2.out.2.box (K2.out.1.bx 0 _ _ _ rfl) (by decide) K1.out.low.size hw3.out⟩)
                                | ((with_reducible refine gen_world (y1.alloc (.cells #[.int .u8 0, .int .u8 0, .int .u8 0, .int .u8 0, .int .u8 0, .int .u16 0] 30)) (fun z => Fm y1 [(y1.heap.size, o6 od0, 30)] z ∧ Tw w vT vW tx wt z) ?_ ?_); exact ⟨Fm.one y1 _ _, K1.out.below (below1 _ _)⟩; intro y2 K2)
                                | (go_at_call 7; refine (hDe _).mono ?_; rintro e y1 ⟨rfl, hb1⟩; have K1 : Hid (Tw w vT vW tx wt y1) := K.out.below hb1; clear hb1))
                  have hc10 : y10.cell? ⟨gl, ol + i, none⟩ = some (.int .u16 (v : Int)) := (K10.out.low.cell (World.block_lt_of_cell? w _ cw.out)).trans cw.out
                  have K10 : Hid (Tw w v10 vW T5 wt y10.drew) := K10.out.below ⟨rfl, rfl, rfl, Nat.le_refl _, fun _ _ => rfl⟩
                  refine wp_region_held_drew (S := fun z => z.cell? ⟨gl, ol + i, none⟩ = some (.int .u16 (v : Int))) (by kernel_rfl) hc10 (fun hH => ?_)
                  generalize y10.drew = z10 at hH K10 ⊢
                  clear hc10
                  refine wpAnyH_take (oi := ⟨some 95, _, _, _, _, _⟩) (i := 0) (v := vW) rfl (by kernel_rfl) (by kernel_rfl) (by kernel_rfl) (fun _ _ _ h => h) (.inl ⟨by kernel_rfl, fun u hu => by go_simp⟩) hH ?_
                  try simp only [Act.put, List.setIfInBounds_toArray, List.set_cons_zero, List.set_cons_succ]
                  refine wpAnyH_take (oi := ⟨some 96, _, _, _, _, _⟩) (i := 1) (v := .slice (some ⟨gl, ol, none⟩) n cap) rfl (by kernel_rfl) (by kernel_rfl) (by kernel_rfl) (fun _ _ _ h => h) (.inl ⟨by kernel_rfl, fun u hu => by go_simp⟩) hH ?_
                  try simp only [Act.put, List.setIfInBounds_toArray, List.set_cons_zero, List.set_cons_succ]
                  refine wpAnyH_take (oi := ⟨some 97, _, _, _, _, _⟩) (i := 2) (v := .int .i64 (i : Int)) rfl (by kernel_rfl) (by kernel_rfl) (by kernel_rfl) (fun _ _ _ h => h) (.inl ⟨by kernel_rfl, fun u hu => by go_simp⟩) hH ?_
                  try simp only [Act.put, List.setIfInBounds_toArray, List.set_cons_zero, List.set_cons_succ]
                  refine wpAnyH_take (oi := ⟨some 98, _, _, _, _, _⟩) (i := 3) (v := .pointer (some ⟨gl, ol + i, none⟩)) rfl (by kernel_rfl) (by kernel_rfl) (by kernel_rfl) (fun _ _ _ h => h) (.inl ⟨by kernel_rfl, fun u hu => by go_simp⟩) hH ?_
                  try simp only [Act.put, List.setIfInBounds_toArray, List.set_cons_zero, List.set_cons_succ]
                  refine wpAnyH_take (oi := ⟨some 99, _, _, _, _, _⟩) (i := 4) (v := .int .u16 (v : Int)) rfl (by kernel_rfl) (by kernel_rfl) (by kernel_rfl) (fun _ _ _ h => h) (.inl ⟨by kernel_rfl, fun u hu => by have x := hu; go_simp⟩) hH ?_
                  try simp only [Act.put, List.setIfInBounds_toArray, List.set_cons_zero, List.set_cons_succ]
                  refine wpAnyH_take (oi := ⟨some 100, _, _, _, _, _⟩) (i := 5) (v := .int .u16 (hi : Int)) rfl (by kernel_rfl) (by kernel_rfl) (by kernel_rfl) (fun _ _ _ h => h) (.inl ⟨by kernel_rfl, fun u hu => by go_simp⟩) hH ?_
                  try simp only [Act.put, List.setIfInBounds_toArray, List.set_cons_zero, List.set_cons_succ]
                  refine wpAnyH_take (oi := ⟨some 101, _, _, _, _, _⟩) (i := 6) (v := .int .u8 (hi : Int)) rfl (by kernel_rfl) (by kernel_rfl) (by kernel_rfl) (fun _ _ _ h => h) (.inl ⟨by kernel_rfl, fun u hu => by go_simp⟩) hH ?_
                  try simp only [Act.put, List.setIfInBounds_toArray, List.set_cons_zero, List.set_cons_succ]
                  refine wpAnyH_take (oi := ⟨some 102, _, _, _, _, _⟩) (i := 7) (v := .slice (some ⟨gl, ol, none⟩) n cap) rfl (by kernel_rfl) (by kernel_rfl) (by kernel_rfl) (fun _ _ _ h => h) (.inl ⟨by kernel_rfl, fun u hu => by go_simp⟩) hH ?_
                  try simp only [Act.put, List.setIfInBounds_toArray, List.set_cons_zero, List.set_cons_succ]
                  refine wpAnyH_take (oi := ⟨some 103, _, _, _, _, _⟩) (i := 8) (v := .int .i64 (i : Int)) rfl (by kernel_rfl) (by kernel_rfl) (by kernel_rfl) (fun _ _ _ h => h) (.inl ⟨by kernel_rfl, fun u hu => by go_simp⟩) hH ?_
                  try simp only [Act.put, List.setIfInBounds_toArray, List.set_cons_zero, List.set_cons_succ]
                  refine wpAnyH_take (oi := ⟨some 104, _, _, _, _, _⟩) (i := 9) (v := .pointer (some ⟨gl, ol + i, none⟩)) rfl (by kernel_rfl) (by kernel_rfl) (by kernel_rfl) (fun _ _ _ h => h) (.inl ⟨by kernel_rfl, fun u hu => by go_simp⟩) hH ?_
                  try simp only [Act.put, List.setIfInBounds_toArray, List.set_cons_zero, List.set_cons_succ]
                  refine wpAnyH_take (oi := ⟨some 105, _, _, _, _, _⟩) (i := 10) (v := .int .u16 (v : Int)) rfl (by kernel_rfl) (by kernel_rfl) (by kernel_rfl) (fun _ _ _ h => h) (.inl ⟨by kernel_rfl, fun u hu => by have x := hu; go_simp⟩) hH ?_
                  try simp only [Act.put, List.setIfInBounds_toArray, List.set_cons_zero, List.set_cons_succ]
                  refine wpAnyH_take (oi := ⟨some 106, _, _, _, _, _⟩) (i := 11) (v := .int .u8 (lo : Int)) rfl (by kernel_rfl) (by kernel_rfl) (by kernel_rfl) (fun _ _ _ h => h) (.inl ⟨by kernel_rfl, fun u hu => by go_simp⟩) hH ?_
                  try simp only [Act.put, List.setIfInBounds_toArray, List.set_cons_zero, List.set_cons_succ]
                  have hL12 : Hid (LiesL 1 cU (z10.alloc (.cells #[.int .u8 (hi : Int), .int .u8 (lo : Int)] 5)) (some ⟨z10.heap.size, 0, none⟩) [UInt8.ofNat hi, UInt8.ofNat lo]) := two_lies z10 hi lo hhl.out.1 hhl.out.2
                  have K11 : Hid (Tw w v10 vW T5 wt (z10.alloc (.cells #[.int .u8 (hi : Int), .int .u8 (lo : Int)] 5))) := K10.out.below (below1 _ _)
                  have hc11 : (z10.alloc (.cells #[.int .u8 (hi : Int), .int .u8 (lo : Int)] 5)).cell? ⟨gl, ol + i, none⟩ = some (.int .u16 (v : Int)) := ((below1 z10 _).cell (World.block_lt_of_cell? z10 _ hH)).trans hH
                  refine wpAnyH_ready (rs := [12]) (by kernel_rfl) (by simp) (fun j hj => ?_)
                  obtain rfl := List.mem_singleton.1 hj
                  clear hj
                  refine wpOp_list rfl ?_
                  go_wp2
                  refine ⟨hc11, ?_⟩
                  generalize hz11 : z10.alloc (.cells #[.int .u8 (hi : Int), .int .u8 (lo : Int)] 5) = z11 at hL12 K11 hc11 ⊢
                  clear hz11
                  obtain ⟨gb, hgb⟩ : ∃ gb, z10.heap.size = gb := ⟨_, rfl⟩
                  rw [hgb] at hL12 ⊢
                  clear hgb
                  replace hH := hc11
                  try simp only [Act.put, List.setIfInBounds_toArray, List.set_cons_zero, List.set_cons_succ]
                  refine wpAnyH_ready (rs := [13]) (by kernel_rfl) (by simp) (fun j hj => ?_)
                  obtain rfl := List.mem_singleton.1 hj
                  clear hj
                  refine wpOp_list (o := ⟨some 108, _, _, _, _, _⟩) rfl ?_
                  go_wp2_with (at_builtin; refine at_appNL kU rfl (.tmp 95) (.tmp 107) rfl w.heap.size vW wt rfl K11.out.ow gb 0 2 2 [UInt8.ofNat hi, UInt8.ofNat lo] rfl rfl hL12.out (by decide) ?_ ?_ ?_; (have h1 := hb9.out.2.1; have h2 := hi0.out.2.1; omega); exact K11.out.low.size; intro v12 z12 h12; have K12 : Hid (Tw w v10 v12 T5 WT z12) := (by have h := (K11.out.swap.addN h12.out).swap; rw [eW.out] at h; exact h))
                  obtain ⟨sw, mw, cw2, hvw, hmw⟩ : ∃ sp m cap, v12 = .slice sp m cap ∧ Hid (WT.length = m) := by
                    obtain ⟨sp, cap, h, _⟩ := K12.out.ow.open kU.len
                    exact ⟨sp, _, cap, h, rfl⟩
                  subst hvw
                  have hc12 : z12.cell? ⟨gl, ol + i, none⟩ = some (.int .u16 (v : Int)) := (K12.out.low.cell (World.block_lt_of_cell? w _ cw.out)).trans cw.out
                  refine ⟨hc12, ?_⟩
                  replace hH := hc12
                  try simp only [Act.put, List.setIfInBounds_toArray, List.set_cons_zero, List.set_cons_succ]
                  refine wpAnyH_take (oi := ⟨some 10, _, _, _, _, _⟩) (i := 14) (v := .slice sw mw cw2) rfl (by kernel_rfl) (by kernel_rfl) (by kernel_rfl) (fun _ _ _ h => h) (.inl ⟨by kernel_rfl, fun u hu => by go_simp⟩) hH ?_
                  try simp only [Act.put, List.setIfInBounds_toArray]
                  refine wpAnyH_done (by kernel_rfl) ?_ _
                  clear hH hc11 hc12
                  have hfin : ∀ ov2 : Nat, (if ov = 0 ∧ 3232 < mw then ln3 else ov) = ov2 → Hid (∃ F, Bok ⟨T5, WT, ln3, ov2⟩ F ∧ ((i1 : Int) ≤ bt → F = fun _ => none)) := fun ov2 h => by
                    have h1 := hn2.out
                    rw [hmw.out, h] at h1
                    exact h1
                  by_cases ho : ov = 0
                  · subst ho
                    by_cases hm : 3232 < mw
                    · have q3 : (3232 : Int) < mw := by omega
                      have h9 := hfin ln3 (if_pos ⟨rfl, hm⟩)
                      clear hm hfin
                      go_wp2
                      go_roundw
                      case rel => exact ⟨i1, T5, WT, ln3, ln3, v10, _, z12, rfl, by have := hi0.out; have := hi1.out; omega, rfl, rfl, rfl, rfl, rfl, h9, K12, by have h1 := hb9.out; have h2 := hi1.out; have h3 := hlens.out; have h4 := hln.out; show _ ∧ _; omega⟩
                      case measure => have := hi0.out; have := hi1.out; simp [intOf]; omega
                    · have q3 : ¬ (3232 : Int) < mw := by omega
                      have h9 := hfin 0 (if_neg fun h => hm h.2)
                      clear hm hfin
                      go_wp2
                      go_roundw
                      case rel => exact ⟨i1, T5, WT, ln3, 0, v10, _, z12, rfl, by have := hi0.out; have := hi1.out; omega, rfl, rfl, rfl, rfl, rfl, h9, K12, by have h1 := hb9.out; have h2 := hi1.out; have h3 := hlens.out; have h4 := hln.out; show _ ∧ _; omega⟩
                      case measure => have := hi0.out; have := hi1.out; simp [intOf]; omega
                  · have q4 : ((ov : Int) == 0) = false := by simp; omega
                    have h9 := hfin ov (if_neg fun h => ho h.1)
                    clear ho hfin
                    go_wp2
                    go_roundw
                    case rel => exact ⟨i1, T5, WT, ln3, ov, v10, _, z12, rfl, by have := hi0.out; have := hi1.out; omega, rfl, rfl, rfl, rfl, rfl, h9, K12, by have h1 := hb9.out; have h2 := hi1.out; have h3 := hlens.out; have h4 := hln.out; show _ ∧ _; omega⟩
                    case measure => have := hi0.out; have := hi1.out; simp [intOf]; omega
              · have hd : decB v = false := by simpa using hd
                rw [hd] at hDe
                obtain ⟨O, hO⟩ : ∃ O, decO v = O := ⟨_, rfl⟩
                rw [hO] at hDe
                have nxt : Hid (∃ F, Bok ⟨tx, wt, ln, ov⟩ F ∧ ((i1 : Int) ≤ bt → F = fun _ => none)) := by
                  obtain ⟨F, h1, h2⟩ := hok.out
                  exact ⟨F, h1, fun h => h2 (by have := hi1.out; omega)⟩
                clear hO hd hok hv
                go_wp2_with (first
                  | ((with_reducible refine at_st rtO y1.heap.size (o6 od0) (o6 O) ?_ ?_ ?_ ?_ (.tmp 14) (.tmp 61) ?_ ?_ ?_ ?_ ?_); exact K2.out.1.bx 0 _ _ _ rfl; rfl; rfl; exact o6_one _; rfl; rfl; rfl; rfl; intro y3 hw3; have K3 : Hid (Tw w vT vW tx wt y3) := K2.out.2.box (K2.out.1.bx 0 _ _ _ rfl) (by decide) K1.out.low.size hw3.out)
                  | ((with_reducible refine gen_world (y1.alloc (.cells #[.int .u8 0, .int .u8 0, .int .u8 0, .int .u8 0, .int .u8 0, .int .u16 0] 30)) (fun z => Fm y1 [(y1.heap.size, o6 od0, 30)] z ∧ Tw w vT vW tx wt z) ?_ ?_); exact ⟨Fm.one y1 _ _, K1.out.below (below1 _ _)⟩; intro y2 K2)
                  | (go_at_call 7; refine (hDe _).mono ?_; rintro e y1 ⟨rfl, hb1⟩; have K1 : Hid (Tw w vT vW tx wt y1) := K.out.below hb1; clear hb1))
                go_roundw
                case rel => exact ⟨i1, tx, wt, ln, ov, vT, vW, y3, rfl, by have := hi0.out; have := hi1.out; omega, rfl, rfl, rfl, rfl, rfl, nxt, K3, by have := hb9.out; have := hi1.out; show _ ∧ _; omega⟩
                case measure => have := hi0.out; have := hi1.out; simp [intOf]; omega
            · have hie : i = n := by omega
              obtain ⟨F, hBk, _⟩ := hok.out
              have hpr := hBk.prog
              dsimp only at hpr
              obtain ⟨spT, m, capT, hvT, hm⟩ : ∃ sp m cap, vT = .slice sp m cap ∧ Hid (tx.length = m) := by
                obtain ⟨sp, cap, h, _⟩ := K.out.ot.open kU.len
                exact ⟨sp, _, cap, h, rfl⟩
              obtain ⟨spW, mw, capW, hvW, hmw⟩ : ∃ sp m cap, vW = .slice sp m cap ∧ Hid (wt.length = m) := by
                obtain ⟨sp, cap, h, _⟩ := K.out.ow.open kU.len
                exact ⟨sp, _, cap, h, rfl⟩
              subst hvT
              subst hvW
              have hmle : Hid (m ≤ 160000 ∧ mw ≤ 4000) := by
                have h1 := hb9.out
                have h2 := hn.out
                have h3 := hm.out
                have h4 := hmw.out
                show _ ∧ _
                omega
              have hmi : (m : Int) ≤ 160000 := by have := hmle.out; omega
              have hwi : (mw : Int) ≤ 4000 := by have := hmle.out; omega
              have hstr : strL (mkB tx) = tx := mkB_data tx
              have hsz : (mkB tx).size = m := by rw [← strL_len, hstr, hm.out]
              have hPg : ∀ z, Tm mx z → Calls Tryd.prog 10 #[.string (mkB tx)] z (PrE z (mkB tx)) := fun z hz => program_any z mx hz (mkB tx) (by omega)
              have hA : Hid (∀ z, Tm mx z → Calls Tryd.prog 9 #[] z fun e w' => e = .returned (.bool true) ∧ Below z.heap.size z w') := fun z hz => awake_any z mx hz
              have hcv : Hid (∀ z, Tw w (.slice spT m capT) (.slice spW mw capW) tx wt z → ∀ z', Below z.heap.size z z' → (convert 37 9 (.slice spT m capT)).run Tryd.prog z' = .ok (.string (mkB tx)) z') := fun z hz z' hb => by
                have h := hz.below hb
                rw [← hm.out]
                obtain ⟨sp, cap, e, hl, _⟩ := h.ot.open kU.len
                injection e with e1 e2 e3
                subst e1
                exact conv16 hl capT
              unfold PrE at hPg
              rw [hstr, hpr, hm.out] at hPg
              generalize mkB tx = TX at hPg hcv
              clear hpr hstr hsz hok hBk hb9 hlt
              by_cases hA1 : 65536 < m
              · have q1 : (65536 : Int) < m := by omega
                have hP2 : Hid (∀ z, Tm mx z → Calls Tryd.prog 10 #[.string TX] z fun e w' => e = .returned (.tuple #[.slice none 0 0, .int .i64 2, .int .i64 0]) ∧ Below z.heap.size z w') := fun z hz => (hPg z hz).mono fun e w' h => by
                  rw [if_pos hA1] at h
                  rcases h with ⟨er, n, h1, h2, h3⟩ | ⟨bs, v, h1, _⟩
                  · injection h1 with h1
                    injection h1 with h1 h4
                    subst h1
                    subst h4
                    exact ⟨h2, h3⟩
                  · cases h1
                clear hA1 hPg
                go_wp2_with (first
                  | (go_at_call 10; refine (hP2.out y1 (T.out.below K1.out.low)).mono ?_; rintro e y2 ⟨rfl, hb2⟩; have K2 : Hid (Below w.heap.size w y2) := K1.out.low.trans (hb2.mono K1.out.low.size); clear hb2)
                  | (go_at_call 9; refine (hA.out y (T.out.below K.out.low)).mono ?_; rintro e y1 ⟨rfl, hb1⟩; have K1 : Hid (Tw w (.slice spT m capT) (.slice spW mw capW) tx wt y1) := K.out.below hb1; have hc1 := hcv.out y1 K1.out y1 (Below.refl _ _); clear hb1))
                go_ret
                exact ⟨rfl, K2.out⟩
              · have q1 : ¬ (65536 : Int) < m := by omega
                by_cases hB1 : 0 < ov
                · have q2 : (0 : Int) < ov := by omega
                  have q3 : ((ov : Int) == (ov : Int)) = true := by simp
                  have hP2 : Hid (∀ z, Tm mx z → Calls Tryd.prog 10 #[.string TX] z fun e w' => e = .returned (.tuple #[.slice none 0 0, .int .i64 2, .int .i64 (ov : Int)]) ∧ Below z.heap.size z w') := fun z hz => (hPg z hz).mono fun e w' h => by
                    rw [if_neg hA1, if_pos hB1] at h
                    rcases h with ⟨er, n, h1, h2, h3⟩ | ⟨bs, v, h1, _⟩
                    · injection h1 with h1
                      injection h1 with h1 h4
                      subst h1
                      subst h4
                      exact ⟨h2, h3⟩
                    · cases h1
                  clear hA1 hB1 hPg
                  go_wp2_with (first
                    | (go_at_call 10; refine (hP2.out y1 (T.out.below K1.out.low)).mono ?_; rintro e y2 ⟨rfl, hb2⟩; have K2 : Hid (Below w.heap.size w y2) := K1.out.low.trans (hb2.mono K1.out.low.size); clear hb2)
                    | (go_at_call 9; refine (hA.out y (T.out.below K.out.low)).mono ?_; rintro e y1 ⟨rfl, hb1⟩; have K1 : Hid (Tw w (.slice spT m capT) (.slice spW mw capW) tx wt y1) := K.out.below hb1; have hc1 := hcv.out y1 K1.out y1 (Below.refl _ _); clear hb1))
                  go_ret
                  exact ⟨rfl, K2.out⟩
                · have q2 : ¬ (0 : Int) < ov := by omega
                  have hP2 : Hid (∀ z, Tm mx z → Calls Tryd.prog 10 #[.string TX] z fun e w' => ∃ spB capB, e = .returned (.tuple #[.slice spB mw capB, .int .i64 0, .int .i64 0]) ∧ Hid (LiesL 1 cU w' spB wt ∧ Below z.heap.size z w')) := fun z hz => (hPg z hz).mono fun e w' h => by
                    rw [if_neg hA1, if_neg hB1] at h
                    rcases h with ⟨er, n, h1, _⟩ | ⟨bs, v, h1, h2, h3, h4⟩
                    · cases h1
                    · injection h1 with h1
                      subst h1
                      obtain ⟨sp, cap, rfl, hl, _⟩ := h3.open kU.len
                      rw [hmw.out] at h2
                      exact ⟨sp, cap, h2, hl, h4⟩
                  clear hA1 hB1 hPg
                  go_wp2_with (first
                    | (go_at_call 11; refine (same16_true y2 spB spW capB capW mw wt hmw (by omega) K2.out.1 K2.out.2.1).mono ?_; rintro e y3 ⟨rfl, hb3⟩; have K3 : Hid (Below w.heap.size w y3) := K2.out.2.2.trans (hb3.mono K2.out.2.2.size); clear hb3)
                    | (go_at_call 10; refine (hP2.out y1 (T.out.below K1.out.low)).mono ?_; rintro e y2 ⟨spB, capB, rfl, H2⟩; have K2 : Hid (LiesL 1 cU y2 spB wt ∧ LiesL 1 cU y2 spW wt ∧ Below w.heap.size w y2) := ⟨H2.out.1, own_lies (K1.out.below H2.out.2).ow, K1.out.low.trans (H2.out.2.mono K1.out.low.size)⟩; clear H2)
                    | (go_at_call 9; refine (hA.out y (T.out.below K.out.low)).mono ?_; rintro e y1 ⟨rfl, hb1⟩; have K1 : Hid (Tw w (.slice spT m capT) (.slice spW mw capW) tx wt y1) := K.out.below hb1; have hc1 := hcv.out y1 K1.out y1 (Below.refl _ _); clear hb1))
                  go_ret
                  exact ⟨rfl, K3.out⟩
        · clear hlt hk10 hS hSs
          go_wp2
          have hS0 : Hid (S.size ≤ 10 ∧ ∀ c ∈ strL S, c ≠ 10) := hno
          go_loopw [13, 9, 10, 11, 12] (fun fi ft fw fl fo wz => ∃ (i : Nat) (tx wt : List UInt8) (ln ov : Nat) (vT vW : Value) (y : World), y = wz ∧ i ≤ n ∧ fi = .int .i64 (i : Int) ∧ vT = ft ∧ vW = fw ∧ fl = .int .i64 (ln : Int) ∧ fo = .int .i64 (ov : Int) ∧ Hid (∃ F, Bok ⟨tx, wt, ln, ov⟩ F ∧ ((i : Int) ≤ bt → F = fun _ => none)) ∧ Hid (Tw w vT vW tx wt y) ∧ Hid (tx.length ≤ 80 * i ∧ wt.length ≤ 2 * i ∧ ln ≤ 3 * i ∧ ov ≤ 3 * i)) (fun fi _ _ _ _ _ => (n - intOf fi).toNat)
          case atStart => exact ⟨0, [], [], 0, 0, .slice none 0 0, .slice none 0 0, w, rfl, by omega, rfl, rfl, rfl, rfl, rfl, ⟨_, Bok.zero, fun _ => rfl⟩, Tw.nil w, by show 0 ≤ _ ∧ 0 ≤ _ ∧ _; omega⟩
          case round =>
            obtain ⟨i, tx, wt, ln, ov, vT, vW, y, rfl, hin, rfl, rfl, rfl, rfl, rfl, hok, K, hb9⟩ := hrel
            by_cases hlt : i < n
            · have hi0 : Hid (i < n ∧ n ≤ 2000 ∧ n ≤ len) := ⟨hlt, hn.out.1, hn.out.2⟩
              obtain ⟨v, hkv⟩ : ∃ v, ws[i]? = some v := ⟨_, List.getElem?_eq_getElem (by rw [hws.out]; have := hn.out; omega)⟩
              have hv : v < 65536 := hB.out v (List.mem_of_getElem? hkv)
              obtain ⟨gl, ol, hsp, cw0⟩ := word16_at hL.out i v hkv
              subst hsp
              have cw : Hid (w.cell? ⟨gl, ol + i, none⟩ = some (.int .u16 (v : Int))) := cw0
              have cy := (K.out.low.cell (World.block_lt_of_cell? w _ cw0)).trans cw0
              have ix := fun u => idxP (P := Tryd.prog) (t := 36) (e := 27) (s := 1) (g := gl) (off := ol) (len := n) (cap := cap) Tryd.underlying36 (by kernel_rfl) .i64 i u hlt
              rw [Nat.mul_one] at ix
              have hii : (i : Int) < n := by omega
              obtain ⟨i1, hi1⟩ : ∃ i1, Hid (i + 1 = i1) := ⟨_, (rfl : i + 1 = _)⟩
              have hw1 : IntKind.i64.wrap ((i : Int) + 1) = (i1 : Int) := by rw [← hi1.out, IntKind.wrap_i64]; have := hi0.out; omega
              have hDe := fun z => decode_any z v hv
              clear cw0 hkv hlt hin
              by_cases hd : decB v = true
              · have hen := enc_dec v hv hd
                rw [hd] at hDe
                have hPr := fun z => print_any z (decO v) (enc_R hen)
                rw [hen] at hPr
                simp only [Option.isSome_some, if_true] at hPr
                obtain ⟨LB, hLBe⟩ : ∃ LB, lineB (decO v) = LB := ⟨_, rfl⟩
                rw [hLBe] at hPr
                have hLB : Hid (ordL v (strL S) = 32 :: (strL LB ++ 32 :: 59 :: strL S) ∧ LB.size ≤ 40) := ⟨by rw [← hLBe]; rfl, by rw [← hLBe]; exact lineB_sz _⟩
                obtain ⟨O, hO⟩ : ∃ O, decO v = O := ⟨_, rfl⟩
                rw [hO] at hDe hPr
                have nxt : ∀ b : Bool, ((b = true) ↔ (i : Int) = bt) → ∃ F, Bok (ordB (strL S) v (hereB b ⟨tx, wt, ln, ov⟩)) F ∧ ((i1 : Int) ≤ bt → F = fun _ => none) := fun b hb => by
                  obtain ⟨F, h1, h2⟩ := hok.out
                  cases b with
                  | true =>
                    have e := hb.1 rfl
                    have e2 := h2 (by omega)
                    subst e2
                    obtain ⟨F', h3, _⟩ := h1.here true
                    exact ⟨F', h3.ord v hv hd _ hS0.out.2, fun h => by have := hi1.out; omega⟩
                  | false => exact ⟨F, h1.ord v hv hd _ hS0.out.2, fun h => h2 (by have := hi1.out; omega)⟩
                obtain ⟨hi, hhi⟩ : ∃ hi, v / 256 = hi := ⟨_, rfl⟩
                obtain ⟨lo, hlo⟩ : ∃ lo, v % 256 = lo := ⟨_, rfl⟩
                have hhl : Hid (hi < 256 ∧ lo < 256) := ⟨by omega, by omega⟩
                have hsh : Op.shift .shr .u16 (v : Int) .u64 8 = pure (.int .u16 (hi : Int)) := by rw [← hhi]; exact shr16 v
                have hcv1 : ∀ z, (convert 27 5 (.int .u16 (hi : Int))).run Tryd.prog z = .ok (.int .u8 (hi : Int)) z := fun z => by go_simp; rw [IntKind.wrap_u8]; omega
                have hcv2 : ∀ z, (convert 27 5 (.int .u16 (v : Int))).run Tryd.prog z = .ok (.int .u8 (lo : Int)) z := fun z => by go_simp; rw [IntKind.wrap_u8]; omega
                obtain ⟨WT, eW⟩ : ∃ WT, Hid (wt ++ [UInt8.ofNat hi, UInt8.ofNat lo] = WT) := ⟨_, (rfl : wt ++ [UInt8.ofNat hi, UInt8.ofNat lo] = _)⟩
                have hov : ∀ (b : Bool) (T0 T5 : List UInt8) (ln2 ln3 : Nat), hereB b ⟨tx, wt, ln, ov⟩ = ⟨T0, wt, ln2, ov⟩ → T0 ++ (ordL v (strL S) ++ [10]) = T5 → ln2 + 1 = ln3 → ordB (strL S) v (hereB b ⟨tx, wt, ln, ov⟩) = ⟨T5, WT, ln3, if ov = 0 ∧ 3232 < WT.length then ln3 else ov⟩ := fun b T0 T5 ln2 ln3 h1 h2 h3 => by
                  rw [h1]
                  unfold ordB
                  dsimp only
                  rw [h2, h3, hhi, hlo, eW.out]
                have hchain : ∀ (T0 T1 T2 T3 T4 T5 : List UInt8), T0 ++ [32] = T1 → T1 ++ strL LB = T2 → T2 ++ strL ⟨#[32, 59]⟩ = T3 → T3 ++ strL S = T4 → T4 ++ [10] = T5 → T0 ++ (ordL v (strL S) ++ [10]) = T5 ∧ T5.length ≤ T0.length + 54 := fun T0 T1 T2 T3 T4 T5 h1 h2 h3 h4 h5 => by
                  have q1 := strL_len LB
                  have q2 := strL_len S
                  have q3 := hLB.out.2
                  have q4 := hS0.out.1
                  rw [hLB.out.1, ← h5, ← h4, ← h3, ← h2, ← h1]
                  refine ⟨by simp [strL, List.append_assoc], ?_⟩
                  have q5 : (strL ⟨#[32, 59]⟩).length = 2 := rfl
                  simp only [List.length_append, List.length_cons, List.length_nil]
                  omega
                have hWl : Hid (WT.length = wt.length + 2) := by show _ = _; rw [← eW.out]; simp
                clear hO hLBe hen hhi hlo hv hd
                by_cases hbt : (i : Int) = bt
                · have r1 : ((i : Int) == bt) = true := by rw [hbt]; simp
                  have hn1 := nxt true ⟨fun _ => hbt, fun _ => rfl⟩
                  clear hbt
                  obtain ⟨T0, e0⟩ : ∃ T, Hid (tx ++ strL ⟨#[104, 101, 114, 101, 58, 10, 10]⟩ = T) := ⟨_, (rfl : tx ++ strL ⟨#[104, 101, 114, 101, 58, 10, 10]⟩ = _)⟩
                  obtain ⟨ln2, hl2⟩ : ∃ ln2, ln + 2 = ln2 := ⟨_, rfl⟩
                  have w2 : IntKind.i64.wrap ((ln : Int) + 2) = (ln2 : Int) := by rw [← hl2, IntKind.wrap_i64]; have := hb9.out.2.2.1; have := hi0.out; omega
                  have h0 : hereB true ⟨tx, wt, ln, ov⟩ = ⟨T0, wt, ln2, ov⟩ := by rw [← e0.out, ← hl2]; rfl
                  have hT0 : T0.length = tx.length + 7 := by rw [← e0.out]; simp [strL]
                  have hlnA : ln2 ≤ ln + 2 := by omega
                  obtain ⟨T1, e1⟩ : ∃ T, Hid (T0 ++ [32] = T) := ⟨_, (rfl : T0 ++ [32] = _)⟩
                  obtain ⟨T2, e2⟩ : ∃ T, Hid (T1 ++ strL LB = T) := ⟨_, (rfl : T1 ++ strL LB = _)⟩
                  obtain ⟨T3, e3⟩ : ∃ T, Hid (T2 ++ strL ⟨#[32, 59]⟩ = T) := ⟨_, (rfl : T2 ++ strL ⟨#[32, 59]⟩ = _)⟩
                  obtain ⟨T4, e4⟩ : ∃ T, Hid (T3 ++ strL S = T) := ⟨_, (rfl : T3 ++ strL S = _)⟩
                  obtain ⟨T5, e5⟩ : ∃ T, Hid (T4 ++ [10] = T) := ⟨_, (rfl : T4 ++ [10] = _)⟩
                  obtain ⟨ln3, hl3⟩ : ∃ ln3, ln2 + 1 = ln3 := ⟨_, rfl⟩
                  have w3 : IntKind.i64.wrap ((ln2 : Int) + 1) = (ln3 : Int) := by rw [← hl3, IntKind.wrap_i64]; have := hb9.out.2.2.1; have := hi0.out; omega
                  have hlens : Hid (T0.length ≤ 170000 ∧ T1.length ≤ 170000 ∧ T2.length ≤ 170000 ∧ T3.length ≤ 170000 ∧ T4.length ≤ 170000 ∧ T5.length ≤ 80 * i + 61 ∧ WT.length = wt.length + 2) := by
                    have g1 := congrArg List.length e1.out
                    have g2 := congrArg List.length e2.out
                    have g3 := congrArg List.length e3.out
                    have g4 := congrArg List.length e4.out
                    have g5 := congrArg List.length e5.out
                    have q1 := strL_len LB
                    have q2 := strL_len S
                    have q3 := hLB.out.2
                    have q4 := hS0.out.1
                    have q5 : (strL ⟨#[32, 59]⟩).length = 2 := rfl
                    have q6 := hb9.out.1
                    have q7 := hi0.out
                    have q8 := hWl.out
                    simp only [List.length_append, List.length_cons, List.length_nil] at g1 g2 g3 g4 g5
                    show _ ∧ _
                    omega
                  have hln : Hid (ln3 ≤ ln + 3) := by show _ ≤ _; omega
                  have hn2 : Hid (∃ F, Bok ⟨T5, WT, ln3, if ov = 0 ∧ 3232 < WT.length then ln3 else ov⟩ F ∧ ((i1 : Int) ≤ bt → F = fun _ => none)) := by
                    rw [hov true T0 T5 ln2 ln3 h0 (hchain _ _ _ _ _ _ e1.out e2.out e3.out e4.out e5.out).1 hl3] at hn1
                    exact hn1
                  clear hn1 h0 hT0 hlnA hl3 nxt hov hchain hl2
                  go_wp2_with (first
                                | (at_builtin; refine at_appL kU rfl (.tmp 90) (.tmp 91) rfl w.heap.size v9 T4 rfl (K9.out.ot.alloc _) y9.heap.size 10 rfl ?_ ?_ ?_ ?_; (show Bx _ _ _ _; exact World.alloc_heap_new y9 _); (have h1 := hlens.out.2.2.2.2.1; omega); (have h1 := K9.out.low.size; simp; omega); intro v10 y10 h10; have K10 : Hid (Tw w v10 vW T5 wt y10) := (by have h := (K9.out.below (below1 _ _)).add1 h10.out; rw [e5.out] at h; exact h))
                                | (at_builtin; refine at_appS rfl (.tmp 87) (.tmp 88) rfl w.heap.size v8 T3 rfl K8.out.ot S rfl ?_ ?_ ?_; (have h1 := hlens.out.2.2.2.1; have h2 := hno.out.1; omega); exact K8.out.low.size; intro v9 y9 h9; have K9 : Hid (Tw w v9 vW T4 wt y9) := (by have h := K8.out.addS h9.out; rw [e4.out] at h; exact h))
                                | (at_builtin; refine at_appS rfl (.tmp 85) (.const (.string ⟨#[32, 59]⟩)) rfl w.heap.size v7 T2 rfl K7.out.ot ⟨#[32, 59]⟩ rfl ?_ ?_ ?_; (have h1 := hlens.out.2.2.1; have h2 : (⟨#[32, 59]⟩ : ByteArray).size = 2 := rfl; omega); exact K7.out.low.size; intro v8 y8 h8; have K8 : Hid (Tw w v8 vW T3 wt y8) := (by have h := K7.out.addS h8.out; rw [e3.out] at h; exact h))
                                | (at_builtin; refine at_appS rfl (.tmp 82) (.tmp 83) rfl w.heap.size v6 T1 rfl K6.out.ot LB rfl ?_ ?_ ?_; (have h1 := hlens.out.2.1; have h2 := hLB.out.2; omega); exact K6.out.low.size; intro v7 y7 h7; have K7 : Hid (Tw w v7 vW T2 wt y7) := (by have h := K6.out.addS h7.out; rw [e2.out] at h; exact h))
                                | (at_builtin; refine at_appL kU rfl (.tmp 79) (.tmp 80) rfl w.heap.size v5 T0 rfl (K5.out.ot.alloc _) y5.heap.size 32 rfl ?_ ?_ ?_ ?_; (show Bx _ _ _ _; exact World.alloc_heap_new y5 _); (have h1 := hlens.out.1; omega); (have h1 := K5.out.low.size; simp; omega); intro v6 y6 h6; have K6 : Hid (Tw w v6 vW T1 wt y6) := (by have h := (K5.out.below (below1 _ _)).add1 h6.out; rw [e1.out] at h; exact h))
                                | (at_builtin; refine at_appS rfl (.tmp 75) (.const (.string ⟨#[104, 101, 114, 101, 58, 10, 10]⟩)) rfl w.heap.size vT tx rfl K4.out.ot ⟨#[104, 101, 114, 101, 58, 10, 10]⟩ rfl ?_ ?_ ?_; (have h1 := hb9.out.1; have h3 := hi0.out.2.1; have h4 := hi0.out.1; have h2 : (⟨#[104, 101, 114, 101, 58, 10, 10]⟩ : ByteArray).size = 7 := rfl; omega); exact K4.out.low.size; intro v5 y5 h5; have K5 : Hid (Tw w v5 vW T0 wt y5) := (by have h := K4.out.addS h5.out; rw [e0.out] at h; exact h))
                                | (go_at_call 8; refine (hPr _).mono ?_; rintro e y4 ⟨rfl, hb4⟩; have K4 : Hid (Tw w vT vW tx wt y4) := K3.out.2.below hb4)
                                | ((with_reducible refine at_load rtO y1.heap.size (o6 O) ?_ ?_ (.tmp 14) ?_ ?_ ?_ ?_); exact K3.out.1.bx 0 _ _ _ rfl; rfl; kernel_rfl; rfl; rfl)
                                | ((with_reducible refine at_st rtO y1.heap.size (o6 od0) (o6 O) ?_ ?_ ?_ ?_ (.tmp 14) (.tmp 61) ?_ ?_ ?_ ?_ ?_); exact K2.out.1.bx 0 _ _ _ rfl; rfl; rfl; exact o6_one _; rfl; rfl; rfl; rfl; intro y3 hw3; have K3 : Hid (Fm y1 [(y1.heap.size, o6 O, 30)] y3 ∧ Tw w vT vW tx wt y3) := ⟨K2.out.1.put 0 _ _ _ _ rfl hw3.out, K2.out.2.box (K2.out.1.bx 0 _ _ _ rfl) (by decide) K1.out.low.size hw3.out⟩)
                                | ((with_reducible refine gen_world (y1.alloc (.cells #[.int .u8 0, .int .u8 0, .int .u8 0, .int .u8 0, .int .u8 0, .int .u16 0] 30)) (fun z => Fm y1 [(y1.heap.size, o6 od0, 30)] z ∧ Tw w vT vW tx wt z) ?_ ?_); exact ⟨Fm.one y1 _ _, K1.out.below (below1 _ _)⟩; intro y2 K2)
                                | (go_at_call 7; refine (hDe _).mono ?_; rintro e y1 ⟨rfl, hb1⟩; have K1 : Hid (Tw w vT vW tx wt y1) := K.out.below hb1; clear hb1))
                  have hc10 : y10.cell? ⟨gl, ol + i, none⟩ = some (.int .u16 (v : Int)) := (K10.out.low.cell (World.block_lt_of_cell? w _ cw.out)).trans cw.out
                  have K10 : Hid (Tw w v10 vW T5 wt y10.drew) := K10.out.below ⟨rfl, rfl, rfl, Nat.le_refl _, fun _ _ => rfl⟩
                  refine wp_region_held_drew (S := fun z => z.cell? ⟨gl, ol + i, none⟩ = some (.int .u16 (v : Int))) (by kernel_rfl) hc10 (fun hH => ?_)
                  generalize y10.drew = z10 at hH K10 ⊢
                  clear hc10
                  refine wpAnyH_take (oi := ⟨some 95, _, _, _, _, _⟩) (i := 0) (v := vW) rfl (by kernel_rfl) (by kernel_rfl) (by kernel_rfl) (fun _ _ _ h => h) (.inl ⟨by kernel_rfl, fun u hu => by go_simp⟩) hH ?_
                  try simp only [Act.put, List.setIfInBounds_toArray, List.set_cons_zero, List.set_cons_succ]
                  refine wpAnyH_take (oi := ⟨some 96, _, _, _, _, _⟩) (i := 1) (v := .slice (some ⟨gl, ol, none⟩) n cap) rfl (by kernel_rfl) (by kernel_rfl) (by kernel_rfl) (fun _ _ _ h => h) (.inl ⟨by kernel_rfl, fun u hu => by go_simp⟩) hH ?_
                  try simp only [Act.put, List.setIfInBounds_toArray, List.set_cons_zero, List.set_cons_succ]
                  refine wpAnyH_take (oi := ⟨some 97, _, _, _, _, _⟩) (i := 2) (v := .int .i64 (i : Int)) rfl (by kernel_rfl) (by kernel_rfl) (by kernel_rfl) (fun _ _ _ h => h) (.inl ⟨by kernel_rfl, fun u hu => by go_simp⟩) hH ?_
                  try simp only [Act.put, List.setIfInBounds_toArray, List.set_cons_zero, List.set_cons_succ]
                  refine wpAnyH_take (oi := ⟨some 98, _, _, _, _, _⟩) (i := 3) (v := .pointer (some ⟨gl, ol + i, none⟩)) rfl (by kernel_rfl) (by kernel_rfl) (by kernel_rfl) (fun _ _ _ h => h) (.inl ⟨by kernel_rfl, fun u hu => by go_simp⟩) hH ?_
                  try simp only [Act.put, List.setIfInBounds_toArray, List.set_cons_zero, List.set_cons_succ]
                  refine wpAnyH_take (oi := ⟨some 99, _, _, _, _, _⟩) (i := 4) (v := .int .u16 (v : Int)) rfl (by kernel_rfl) (by kernel_rfl) (by kernel_rfl) (fun _ _ _ h => h) (.inl ⟨by kernel_rfl, fun u hu => by have x := hu; go_simp⟩) hH ?_
                  try simp only [Act.put, List.setIfInBounds_toArray, List.set_cons_zero, List.set_cons_succ]
                  refine wpAnyH_take (oi := ⟨some 100, _, _, _, _, _⟩) (i := 5) (v := .int .u16 (hi : Int)) rfl (by kernel_rfl) (by kernel_rfl) (by kernel_rfl) (fun _ _ _ h => h) (.inl ⟨by kernel_rfl, fun u hu => by go_simp⟩) hH ?_
                  try simp only [Act.put, List.setIfInBounds_toArray, List.set_cons_zero, List.set_cons_succ]
                  refine wpAnyH_take (oi := ⟨some 101, _, _, _, _, _⟩) (i := 6) (v := .int .u8 (hi : Int)) rfl (by kernel_rfl) (by kernel_rfl) (by kernel_rfl) (fun _ _ _ h => h) (.inl ⟨by kernel_rfl, fun u hu => by go_simp⟩) hH ?_
                  try simp only [Act.put, List.setIfInBounds_toArray, List.set_cons_zero, List.set_cons_succ]
                  refine wpAnyH_take (oi := ⟨some 102, _, _, _, _, _⟩) (i := 7) (v := .slice (some ⟨gl, ol, none⟩) n cap) rfl (by kernel_rfl) (by kernel_rfl) (by kernel_rfl) (fun _ _ _ h => h) (.inl ⟨by kernel_rfl, fun u hu => by go_simp⟩) hH ?_
                  try simp only [Act.put, List.setIfInBounds_toArray, List.set_cons_zero, List.set_cons_succ]
                  refine wpAnyH_take (oi := ⟨some 103, _, _, _, _, _⟩) (i := 8) (v := .int .i64 (i : Int)) rfl (by kernel_rfl) (by kernel_rfl) (by kernel_rfl) (fun _ _ _ h => h) (.inl ⟨by kernel_rfl, fun u hu => by go_simp⟩) hH ?_
                  try simp only [Act.put, List.setIfInBounds_toArray, List.set_cons_zero, List.set_cons_succ]
                  refine wpAnyH_take (oi := ⟨some 104, _, _, _, _, _⟩) (i := 9) (v := .pointer (some ⟨gl, ol + i, none⟩)) rfl (by kernel_rfl) (by kernel_rfl) (by kernel_rfl) (fun _ _ _ h => h) (.inl ⟨by kernel_rfl, fun u hu => by go_simp⟩) hH ?_
                  try simp only [Act.put, List.setIfInBounds_toArray, List.set_cons_zero, List.set_cons_succ]
                  refine wpAnyH_take (oi := ⟨some 105, _, _, _, _, _⟩) (i := 10) (v := .int .u16 (v : Int)) rfl (by kernel_rfl) (by kernel_rfl) (by kernel_rfl) (fun _ _ _ h => h) (.inl ⟨by kernel_rfl, fun u hu => by have x := hu; go_simp⟩) hH ?_
                  try simp only [Act.put, List.setIfInBounds_toArray, List.set_cons_zero, List.set_cons_succ]
                  refine wpAnyH_take (oi := ⟨some 106, _, _, _, _, _⟩) (i := 11) (v := .int .u8 (lo : Int)) rfl (by kernel_rfl) (by kernel_rfl) (by kernel_rfl) (fun _ _ _ h => h) (.inl ⟨by kernel_rfl, fun u hu => by go_simp⟩) hH ?_
                  try simp only [Act.put, List.setIfInBounds_toArray, List.set_cons_zero, List.set_cons_succ]
                  have hL12 : Hid (LiesL 1 cU (z10.alloc (.cells #[.int .u8 (hi : Int), .int .u8 (lo : Int)] 5)) (some ⟨z10.heap.size, 0, none⟩) [UInt8.ofNat hi, UInt8.ofNat lo]) := two_lies z10 hi lo hhl.out.1 hhl.out.2
                  have K11 : Hid (Tw w v10 vW T5 wt (z10.alloc (.cells #[.int .u8 (hi : Int), .int .u8 (lo : Int)] 5))) := K10.out.below (below1 _ _)
                  have hc11 : (z10.alloc (.cells #[.int .u8 (hi : Int), .int .u8 (lo : Int)] 5)).cell? ⟨gl, ol + i, none⟩ = some (.int .u16 (v : Int)) := ((below1 z10 _).cell (World.block_lt_of_cell? z10 _ hH)).trans hH
                  refine wpAnyH_ready (rs := [12]) (by kernel_rfl) (by simp) (fun j hj => ?_)
                  obtain rfl := List.mem_singleton.1 hj
                  clear hj
                  refine wpOp_list rfl ?_
                  go_wp2
                  refine ⟨hc11, ?_⟩
                  generalize hz11 : z10.alloc (.cells #[.int .u8 (hi : Int), .int .u8 (lo : Int)] 5) = z11 at hL12 K11 hc11 ⊢
                  clear hz11
                  obtain ⟨gb, hgb⟩ : ∃ gb, z10.heap.size = gb := ⟨_, rfl⟩
                  rw [hgb] at hL12 ⊢
                  clear hgb
                  replace hH := hc11
                  try simp only [Act.put, List.setIfInBounds_toArray, List.set_cons_zero, List.set_cons_succ]
                  refine wpAnyH_ready (rs := [13]) (by kernel_rfl) (by simp) (fun j hj => ?_)
                  obtain rfl := List.mem_singleton.1 hj
                  clear hj
                  refine wpOp_list (o := ⟨some 108, _, _, _, _, _⟩) rfl ?_
                  go_wp2_with (at_builtin; refine at_appNL kU rfl (.tmp 95) (.tmp 107) rfl w.heap.size vW wt rfl K11.out.ow gb 0 2 2 [UInt8.ofNat hi, UInt8.ofNat lo] rfl rfl hL12.out (by decide) ?_ ?_ ?_; (have h1 := hb9.out.2.1; have h2 := hi0.out.2.1; omega); exact K11.out.low.size; intro v12 z12 h12; have K12 : Hid (Tw w v10 v12 T5 WT z12) := (by have h := (K11.out.swap.addN h12.out).swap; rw [eW.out] at h; exact h))
                  obtain ⟨sw, mw, cw2, hvw, hmw⟩ : ∃ sp m cap, v12 = .slice sp m cap ∧ Hid (WT.length = m) := by
                    obtain ⟨sp, cap, h, _⟩ := K12.out.ow.open kU.len
                    exact ⟨sp, _, cap, h, rfl⟩
                  subst hvw
                  have hc12 : z12.cell? ⟨gl, ol + i, none⟩ = some (.int .u16 (v : Int)) := (K12.out.low.cell (World.block_lt_of_cell? w _ cw.out)).trans cw.out
                  refine ⟨hc12, ?_⟩
                  replace hH := hc12
                  try simp only [Act.put, List.setIfInBounds_toArray, List.set_cons_zero, List.set_cons_succ]
                  refine wpAnyH_take (oi := ⟨some 10, _, _, _, _, _⟩) (i := 14) (v := .slice sw mw cw2) rfl (by kernel_rfl) (by kernel_rfl) (by kernel_rfl) (fun _ _ _ h => h) (.inl ⟨by kernel_rfl, fun u hu => by go_simp⟩) hH ?_
                  try simp only [Act.put, List.setIfInBounds_toArray]
                  refine wpAnyH_done (by kernel_rfl) ?_ _
                  clear hH hc11 hc12
                  have hfin : ∀ ov2 : Nat, (if ov = 0 ∧ 3232 < mw then ln3 else ov) = ov2 → Hid (∃ F, Bok ⟨T5, WT, ln3, ov2⟩ F ∧ ((i1 : Int) ≤ bt → F = fun _ => none)) := fun ov2 h => by
                    have h1 := hn2.out
                    rw [hmw.out, h] at h1
                    exact h1
                  by_cases ho : ov = 0
                  · subst ho
                    by_cases hm : 3232 < mw
                    · have q3 : (3232 : Int) < mw := by omega
                      have h9 := hfin ln3 (if_pos ⟨rfl, hm⟩)
                      clear hm hfin
                      go_wp2
                      go_roundw
                      case rel => exact ⟨i1, T5, WT, ln3, ln3, v10, _, z12, rfl, by have := hi0.out; have := hi1.out; omega, rfl, rfl, rfl, rfl, rfl, h9, K12, by have h1 := hb9.out; have h2 := hi1.out; have h3 := hlens.out; have h4 := hln.out; show _ ∧ _; omega⟩
                      case measure => have := hi0.out; have := hi1.out; simp [intOf]; omega
                    · have q3 : ¬ (3232 : Int) < mw := by omega
                      have h9 := hfin 0 (if_neg fun h => hm h.2)
                      clear hm hfin
                      go_wp2
                      go_roundw
                      case rel => exact ⟨i1, T5, WT, ln3, 0, v10, _, z12, rfl, by have := hi0.out; have := hi1.out; omega, rfl, rfl, rfl, rfl, rfl, h9, K12, by have h1 := hb9.out; have h2 := hi1.out; have h3 := hlens.out; have h4 := hln.out; show _ ∧ _; omega⟩
                      case measure => have := hi0.out; have := hi1.out; simp [intOf]; omega
                  · have q4 : ((ov : Int) == 0) = false := by simp; omega
                    have h9 := hfin ov (if_neg fun h => ho h.1)
                    clear ho hfin
                    go_wp2
                    go_roundw
                    case rel => exact ⟨i1, T5, WT, ln3, ov, v10, _, z12, rfl, by have := hi0.out; have := hi1.out; omega, rfl, rfl, rfl, rfl, rfl, h9, K12, by have h1 := hb9.out; have h2 := hi1.out; have h3 := hlens.out; have h4 := hln.out; show _ ∧ _; omega⟩
                    case measure => have := hi0.out; have := hi1.out; simp [intOf]; omega
                · have r1 : ((i : Int) == bt) = false := by simpa using hbt
                  have hn1 := nxt false ⟨fun h => (by cases h), fun h => absurd h hbt⟩
                  clear hbt
                  obtain ⟨T0, rfl⟩ : ∃ T, tx = T := ⟨_, rfl⟩
                  obtain ⟨ln2, rfl⟩ : ∃ ln2, ln = ln2 := ⟨_, rfl⟩
                  have h0 : hereB false ⟨tx, wt, ln, ov⟩ = ⟨tx, wt, ln, ov⟩ := rfl
                  have hT0 : tx.length ≤ tx.length + 7 := by omega
                  have hlnA : ln ≤ ln + 2 := by omega
                  obtain ⟨T1, e1⟩ : ∃ T, Hid (tx ++ [32] = T) := ⟨_, (rfl : tx ++ [32] = _)⟩
                  obtain ⟨T2, e2⟩ : ∃ T, Hid (T1 ++ strL LB = T) := ⟨_, (rfl : T1 ++ strL LB = _)⟩
                  obtain ⟨T3, e3⟩ : ∃ T, Hid (T2 ++ strL ⟨#[32, 59]⟩ = T) := ⟨_, (rfl : T2 ++ strL ⟨#[32, 59]⟩ = _)⟩
                  obtain ⟨T4, e4⟩ : ∃ T, Hid (T3 ++ strL S = T) := ⟨_, (rfl : T3 ++ strL S = _)⟩
                  obtain ⟨T5, e5⟩ : ∃ T, Hid (T4 ++ [10] = T) := ⟨_, (rfl : T4 ++ [10] = _)⟩
                  obtain ⟨ln3, hl3⟩ : ∃ ln3, ln + 1 = ln3 := ⟨_, rfl⟩
                  have w3 : IntKind.i64.wrap ((ln : Int) + 1) = (ln3 : Int) := by rw [← hl3, IntKind.wrap_i64]; have := hb9.out.2.2.1; have := hi0.out; omega
                  have hlens : Hid (tx.length ≤ 170000 ∧ T1.length ≤ 170000 ∧ T2.length ≤ 170000 ∧ T3.length ≤ 170000 ∧ T4.length ≤ 170000 ∧ T5.length ≤ 80 * i + 61 ∧ WT.length = wt.length + 2) := by
                    have g1 := congrArg List.length e1.out
                    have g2 := congrArg List.length e2.out
                    have g3 := congrArg List.length e3.out
                    have g4 := congrArg List.length e4.out
                    have g5 := congrArg List.length e5.out
                    have q1 := strL_len LB
                    have q2 := strL_len S
                    have q3 := hLB.out.2
                    have q4 := hS0.out.1
                    have q5 : (strL ⟨#[32, 59]⟩).length = 2 := rfl
                    have q6 := hb9.out.1
                    have q7 := hi0.out
                    have q8 := hWl.out
                    simp only [List.length_append, List.length_cons, List.length_nil] at g1 g2 g3 g4 g5
                    show _ ∧ _
                    omega
                  have hln : Hid (ln3 ≤ ln + 3) := by show _ ≤ _; omega
                  have hn2 : Hid (∃ F, Bok ⟨T5, WT, ln3, if ov = 0 ∧ 3232 < WT.length then ln3 else ov⟩ F ∧ ((i1 : Int) ≤ bt → F = fun _ => none)) := by
                    rw [hov false tx T5 ln ln3 h0 (hchain _ _ _ _ _ _ e1.out e2.out e3.out e4.out e5.out).1 hl3] at hn1
                    exact hn1
                  clear hn1 h0 hT0 hlnA hl3 nxt hov hchain
                  go_wp2_with (first
                                | (at_builtin; refine at_appL kU rfl (.tmp 90) (.tmp 91) rfl w.heap.size v9 T4 rfl (K9.out.ot.alloc _) y9.heap.size 10 rfl ?_ ?_ ?_ ?_; (show Bx _ _ _ _; exact World.alloc_heap_new y9 _); (have h1 := hlens.out.2.2.2.2.1; omega); (have h1 := K9.out.low.size; simp; omega); intro v10 y10 h10; have K10 : Hid (Tw w v10 vW T5 wt y10) := (by have h := (K9.out.below (below1 _ _)).add1 h10.out; rw [e5.out] at h; exact h))
                                | (at_builtin; refine at_appS rfl (.tmp 87) (.tmp 88) rfl w.heap.size v8 T3 rfl K8.out.ot S rfl ?_ ?_ ?_; (have h1 := hlens.out.2.2.2.1; have h2 := hno.out.1; omega); exact K8.out.low.size; intro v9 y9 h9; have K9 : Hid (Tw w v9 vW T4 wt y9) := (by have h := K8.out.addS h9.out; rw [e4.out] at h; exact h))
                                | (at_builtin; refine at_appS rfl (.tmp 85) (.const (.string ⟨#[32, 59]⟩)) rfl w.heap.size v7 T2 rfl K7.out.ot ⟨#[32, 59]⟩ rfl ?_ ?_ ?_; (have h1 := hlens.out.2.2.1; have h2 : (⟨#[32, 59]⟩ : ByteArray).size = 2 := rfl; omega); exact K7.out.low.size; intro v8 y8 h8; have K8 : Hid (Tw w v8 vW T3 wt y8) := (by have h := K7.out.addS h8.out; rw [e3.out] at h; exact h))
                                | (at_builtin; refine at_appS rfl (.tmp 82) (.tmp 83) rfl w.heap.size v6 T1 rfl K6.out.ot LB rfl ?_ ?_ ?_; (have h1 := hlens.out.2.1; have h2 := hLB.out.2; omega); exact K6.out.low.size; intro v7 y7 h7; have K7 : Hid (Tw w v7 vW T2 wt y7) := (by have h := K6.out.addS h7.out; rw [e2.out] at h; exact h))
                                | (at_builtin; refine at_appL kU rfl (.tmp 79) (.tmp 80) rfl w.heap.size vT tx rfl (K4.out.ot.alloc _) y4.heap.size 32 rfl ?_ ?_ ?_ ?_; (show Bx _ _ _ _; exact World.alloc_heap_new y4 _); (have h1 := hlens.out.1; omega); (have h1 := K4.out.low.size; simp; omega); intro v6 y6 h6; have K6 : Hid (Tw w v6 vW T1 wt y6) := (by have h := (K4.out.below (below1 _ _)).add1 h6.out; rw [e1.out] at h; exact h))
                                | (go_at_call 8; refine (hPr _).mono ?_; rintro e y4 ⟨rfl, hb4⟩; have K4 : Hid (Tw w vT vW tx wt y4) := K3.out.2.below hb4)
                                | ((with_reducible refine at_load rtO y1.heap.size (o6 O) ?_ ?_ (.tmp 14) ?_ ?_ ?_ ?_); exact K3.out.1.bx 0 _ _ _ rfl; rfl; kernel_rfl; rfl; rfl)
                                | ((with_reducible refine at_st rtO y1.heap.size (o6 od0) (o6 O) ?_ ?_ ?_ ?_ (.tmp 14) (.tmp 61) ?_ ?_ ?_ ?_ ?_); exact K2.out.1.bx 0 _ _ _ rfl; rfl; rfl; exact o6_one _; rfl; rfl; rfl; rfl; intro y3 hw3; have K3 : Hid (Fm y1 [(y1.heap.size, o6 O, 30)] y3 ∧ Tw w vT vW tx wt y3) := ⟨K2.out.1.put 0 _ _ _ _ rfl hw3.out, K2.out.2.box (K2.out.1.bx 0 _ _ _ rfl) (by decide) K1.out.low.size hw3.out⟩)
                                | ((with_reducible refine gen_world (y1.alloc (.cells #[.int .u8 0, .int .u8 0, .int .u8 0, .int .u8 0, .int .u8 0, .int .u16 0] 30)) (fun z => Fm y1 [(y1.heap.size, o6 od0, 30)] z ∧ Tw w vT vW tx wt z) ?_ ?_); exact ⟨Fm.one y1 _ _, K1.out.below (below1 _ _)⟩; intro y2 K2)
                                | (go_at_call 7; refine (hDe _).mono ?_; rintro e y1 ⟨rfl, hb1⟩; have K1 : Hid (Tw w vT vW tx wt y1) := K.out.below hb1; clear hb1))
                  have hc10 : y10.cell? ⟨gl, ol + i, none⟩ = some (.int .u16 (v : Int)) := (K10.out.low.cell (World.block_lt_of_cell? w _ cw.out)).trans cw.out
                  have K10 : Hid (Tw w v10 vW T5 wt y10.drew) := K10.out.below ⟨rfl, rfl, rfl, Nat.le_refl _, fun _ _ => rfl⟩
                  refine wp_region_held_drew (S := fun z => z.cell? ⟨gl, ol + i, none⟩ = some (.int .u16 (v : Int))) (by kernel_rfl) hc10 (fun hH => ?_)
                  generalize y10.drew = z10 at hH K10 ⊢
                  clear hc10
                  refine wpAnyH_take (oi := ⟨some 95, _, _, _, _, _⟩) (i := 0) (v := vW) rfl (by kernel_rfl) (by kernel_rfl) (by kernel_rfl) (fun _ _ _ h => h) (.inl ⟨by kernel_rfl, fun u hu => by go_simp⟩) hH ?_
                  try simp only [Act.put, List.setIfInBounds_toArray, List.set_cons_zero, List.set_cons_succ]
                  refine wpAnyH_take (oi := ⟨some 96, _, _, _, _, _⟩) (i := 1) (v := .slice (some ⟨gl, ol, none⟩) n cap) rfl (by kernel_rfl) (by kernel_rfl) (by kernel_rfl) (fun _ _ _ h => h) (.inl ⟨by kernel_rfl, fun u hu => by go_simp⟩) hH ?_
                  try simp only [Act.put, List.setIfInBounds_toArray, List.set_cons_zero, List.set_cons_succ]
                  refine wpAnyH_take (oi := ⟨some 97, _, _, _, _, _⟩) (i := 2) (v := .int .i64 (i : Int)) rfl (by kernel_rfl) (by kernel_rfl) (by kernel_rfl) (fun _ _ _ h => h) (.inl ⟨by kernel_rfl, fun u hu => by go_simp⟩) hH ?_
                  try simp only [Act.put, List.setIfInBounds_toArray, List.set_cons_zero, List.set_cons_succ]
                  refine wpAnyH_take (oi := ⟨some 98, _, _, _, _, _⟩) (i := 3) (v := .pointer (some ⟨gl, ol + i, none⟩)) rfl (by kernel_rfl) (by kernel_rfl) (by kernel_rfl) (fun _ _ _ h => h) (.inl ⟨by kernel_rfl, fun u hu => by go_simp⟩) hH ?_
                  try simp only [Act.put, List.setIfInBounds_toArray, List.set_cons_zero, List.set_cons_succ]
                  refine wpAnyH_take (oi := ⟨some 99, _, _, _, _, _⟩) (i := 4) (v := .int .u16 (v : Int)) rfl (by kernel_rfl) (by kernel_rfl) (by kernel_rfl) (fun _ _ _ h => h) (.inl ⟨by kernel_rfl, fun u hu => by have x := hu; go_simp⟩) hH ?_
                  try simp only [Act.put, List.setIfInBounds_toArray, List.set_cons_zero, List.set_cons_succ]
                  refine wpAnyH_take (oi := ⟨some 100, _, _, _, _, _⟩) (i := 5) (v := .int .u16 (hi : Int)) rfl (by kernel_rfl) (by kernel_rfl) (by kernel_rfl) (fun _ _ _ h => h) (.inl ⟨by kernel_rfl, fun u hu => by go_simp⟩) hH ?_
                  try simp only [Act.put, List.setIfInBounds_toArray, List.set_cons_zero, List.set_cons_succ]
                  refine wpAnyH_take (oi := ⟨some 101, _, _, _, _, _⟩) (i := 6) (v := .int .u8 (hi : Int)) rfl (by kernel_rfl) (by kernel_rfl) (by kernel_rfl) (fun _ _ _ h => h) (.inl ⟨by kernel_rfl, fun u hu => by go_simp⟩) hH ?_
                  try simp only [Act.put, List.setIfInBounds_toArray, List.set_cons_zero, List.set_cons_succ]
                  refine wpAnyH_take (oi := ⟨some 102, _, _, _, _, _⟩) (i := 7) (v := .slice (some ⟨gl, ol, none⟩) n cap) rfl (by kernel_rfl) (by kernel_rfl) (by kernel_rfl) (fun _ _ _ h => h) (.inl ⟨by kernel_rfl, fun u hu => by go_simp⟩) hH ?_
                  try simp only [Act.put, List.setIfInBounds_toArray, List.set_cons_zero, List.set_cons_succ]
                  refine wpAnyH_take (oi := ⟨some 103, _, _, _, _, _⟩) (i := 8) (v := .int .i64 (i : Int)) rfl (by kernel_rfl) (by kernel_rfl) (by kernel_rfl) (fun _ _ _ h => h) (.inl ⟨by kernel_rfl, fun u hu => by go_simp⟩) hH ?_
                  try simp only [Act.put, List.setIfInBounds_toArray, List.set_cons_zero, List.set_cons_succ]
                  refine wpAnyH_take (oi := ⟨some 104, _, _, _, _, _⟩) (i := 9) (v := .pointer (some ⟨gl, ol + i, none⟩)) rfl (by kernel_rfl) (by kernel_rfl) (by kernel_rfl) (fun _ _ _ h => h) (.inl ⟨by kernel_rfl, fun u hu => by go_simp⟩) hH ?_
                  try simp only [Act.put, List.setIfInBounds_toArray, List.set_cons_zero, List.set_cons_succ]
                  refine wpAnyH_take (oi := ⟨some 105, _, _, _, _, _⟩) (i := 10) (v := .int .u16 (v : Int)) rfl (by kernel_rfl) (by kernel_rfl) (by kernel_rfl) (fun _ _ _ h => h) (.inl ⟨by kernel_rfl, fun u hu => by have x := hu; go_simp⟩) hH ?_
                  try simp only [Act.put, List.setIfInBounds_toArray, List.set_cons_zero, List.set_cons_succ]
                  refine wpAnyH_take (oi := ⟨some 106, _, _, _, _, _⟩) (i := 11) (v := .int .u8 (lo : Int)) rfl (by kernel_rfl) (by kernel_rfl) (by kernel_rfl) (fun _ _ _ h => h) (.inl ⟨by kernel_rfl, fun u hu => by go_simp⟩) hH ?_
                  try simp only [Act.put, List.setIfInBounds_toArray, List.set_cons_zero, List.set_cons_succ]
                  have hL12 : Hid (LiesL 1 cU (z10.alloc (.cells #[.int .u8 (hi : Int), .int .u8 (lo : Int)] 5)) (some ⟨z10.heap.size, 0, none⟩) [UInt8.ofNat hi, UInt8.ofNat lo]) := two_lies z10 hi lo hhl.out.1 hhl.out.2
                  have K11 : Hid (Tw w v10 vW T5 wt (z10.alloc (.cells #[.int .u8 (hi : Int), .int .u8 (lo : Int)] 5))) := K10.out.below (below1 _ _)
                  have hc11 : (z10.alloc (.cells #[.int .u8 (hi : Int), .int .u8 (lo : Int)] 5)).cell? ⟨gl, ol + i, none⟩ = some (.int .u16 (v : Int)) := ((below1 z10 _).cell (World.block_lt_of_cell? z10 _ hH)).trans hH
                  refine wpAnyH_ready (rs := [12]) (by kernel_rfl) (by simp) (fun j hj => ?_)
                  obtain rfl := List.mem_singleton.1 hj
                  clear hj
                  refine wpOp_list rfl ?_
                  go_wp2
                  refine ⟨hc11, ?_⟩
                  generalize hz11 : z10.alloc (.cells #[.int .u8 (hi : Int), .int .u8 (lo : Int)] 5) = z11 at hL12 K11 hc11 ⊢
                  clear hz11
                  obtain ⟨gb, hgb⟩ : ∃ gb, z10.heap.size = gb := ⟨_, rfl⟩
                  rw [hgb] at hL12 ⊢
                  clear hgb
                  replace hH := hc11
                  try simp only [Act.put, List.setIfInBounds_toArray, List.set_cons_zero, List.set_cons_succ]
                  refine wpAnyH_ready (rs := [13]) (by kernel_rfl) (by simp) (fun j hj => ?_)
                  obtain rfl := List.mem_singleton.1 hj
                  clear hj
                  refine wpOp_list (o := ⟨some 108, _, _, _, _, _⟩) rfl ?_
                  go_wp2_with (at_builtin; refine at_appNL kU rfl (.tmp 95) (.tmp 107) rfl w.heap.size vW wt rfl K11.out.ow gb 0 2 2 [UInt8.ofNat hi, UInt8.ofNat lo] rfl rfl hL12.out (by decide) ?_ ?_ ?_; (have h1 := hb9.out.2.1; have h2 := hi0.out.2.1; omega); exact K11.out.low.size; intro v12 z12 h12; have K12 : Hid (Tw w v10 v12 T5 WT z12) := (by have h := (K11.out.swap.addN h12.out).swap; rw [eW.out] at h; exact h))
                  obtain ⟨sw, mw, cw2, hvw, hmw⟩ : ∃ sp m cap, v12 = .slice sp m cap ∧ Hid (WT.length = m) := by
                    obtain ⟨sp, cap, h, _⟩ := K12.out.ow.open kU.len
                    exact ⟨sp, _, cap, h, rfl⟩
                  subst hvw
                  have hc12 : z12.cell? ⟨gl, ol + i, none⟩ = some (.int .u16 (v : Int)) := (K12.out.low.cell (World.block_lt_of_cell? w _ cw.out)).trans cw.out
                  refine ⟨hc12, ?_⟩
                  replace hH := hc12
                  try simp only [Act.put, List.setIfInBounds_toArray, List.set_cons_zero, List.set_cons_succ]
                  refine wpAnyH_take (oi := ⟨some 10, _, _, _, _, _⟩) (i := 14) (v := .slice sw mw cw2) rfl (by kernel_rfl) (by kernel_rfl) (by kernel_rfl) (fun _ _ _ h => h) (.inl ⟨by kernel_rfl, fun u hu => by go_simp⟩) hH ?_
                  try simp only [Act.put, List.setIfInBounds_toArray]
                  refine wpAnyH_done (by kernel_rfl) ?_ _
                  clear hH hc11 hc12
                  have hfin : ∀ ov2 : Nat, (if ov = 0 ∧ 3232 < mw then ln3 else ov) = ov2 → Hid (∃ F, Bok ⟨T5, WT, ln3, ov2⟩ F ∧ ((i1 : Int) ≤ bt → F = fun _ => none)) := fun ov2 h => by
                    have h1 := hn2.out
                    rw [hmw.out, h] at h1
                    exact h1
                  by_cases ho : ov = 0
                  · subst ho
                    by_cases hm : 3232 < mw
                    · have q3 : (3232 : Int) < mw := by omega
                      have h9 := hfin ln3 (if_pos ⟨rfl, hm⟩)
                      clear hm hfin
                      go_wp2
                      go_roundw
                      case rel => exact ⟨i1, T5, WT, ln3, ln3, v10, _, z12, rfl, by have := hi0.out; have := hi1.out; omega, rfl, rfl, rfl, rfl, rfl, h9, K12, by have h1 := hb9.out; have h2 := hi1.out; have h3 := hlens.out; have h4 := hln.out; show _ ∧ _; omega⟩
                      case measure => have := hi0.out; have := hi1.out; simp [intOf]; omega
                    · have q3 : ¬ (3232 : Int) < mw := by omega
                      have h9 := hfin 0 (if_neg fun h => hm h.2)
                      clear hm hfin
                      go_wp2
                      go_roundw
                      case rel => exact ⟨i1, T5, WT, ln3, 0, v10, _, z12, rfl, by have := hi0.out; have := hi1.out; omega, rfl, rfl, rfl, rfl, rfl, h9, K12, by have h1 := hb9.out; have h2 := hi1.out; have h3 := hlens.out; have h4 := hln.out; show _ ∧ _; omega⟩
                      case measure => have := hi0.out; have := hi1.out; simp [intOf]; omega
                  · have q4 : ((ov : Int) == 0) = false := by simp; omega
                    have h9 := hfin ov (if_neg fun h => ho h.1)
                    clear ho hfin
                    go_wp2
                    go_roundw
                    case rel => exact ⟨i1, T5, WT, ln3, ov, v10, _, z12, rfl, by have := hi0.out; have := hi1.out; omega, rfl, rfl, rfl, rfl, rfl, h9, K12, by have h1 := hb9.out; have h2 := hi1.out; have h3 := hlens.out; have h4 := hln.out; show _ ∧ _; omega⟩
                    case measure => have := hi0.out; have := hi1.out; simp [intOf]; omega
              · have hd : decB v = false := by simpa using hd
                rw [hd] at hDe
                obtain ⟨O, hO⟩ : ∃ O, decO v = O := ⟨_, rfl⟩
                rw [hO] at hDe
                have nxt : Hid (∃ F, Bok ⟨tx, wt, ln, ov⟩ F ∧ ((i1 : Int) ≤ bt → F = fun _ => none)) := by
                  obtain ⟨F, h1, h2⟩ := hok.out
                  exact ⟨F, h1, fun h => h2 (by have := hi1.out; omega)⟩
                clear hO hd hok hv
                go_wp2_with (first
                  | ((with_reducible refine at_st rtO y1.heap.size (o6 od0) (o6 O) ?_ ?_ ?_ ?_ (.tmp 14) (.tmp 61) ?_ ?_ ?_ ?_ ?_); exact K2.out.1.bx 0 _ _ _ rfl; rfl; rfl; exact o6_one _; rfl; rfl; rfl; rfl; intro y3 hw3; have K3 : Hid (Tw w vT vW tx wt y3) := K2.out.2.box (K2.out.1.bx 0 _ _ _ rfl) (by decide) K1.out.low.size hw3.out)
                  | ((with_reducible refine gen_world (y1.alloc (.cells #[.int .u8 0, .int .u8 0, .int .u8 0, .int .u8 0, .int .u8 0, .int .u16 0] 30)) (fun z => Fm y1 [(y1.heap.size, o6 od0, 30)] z ∧ Tw w vT vW tx wt z) ?_ ?_); exact ⟨Fm.one y1 _ _, K1.out.below (below1 _ _)⟩; intro y2 K2)
                  | (go_at_call 7; refine (hDe _).mono ?_; rintro e y1 ⟨rfl, hb1⟩; have K1 : Hid (Tw w vT vW tx wt y1) := K.out.below hb1; clear hb1))
                go_roundw
                case rel => exact ⟨i1, tx, wt, ln, ov, vT, vW, y3, rfl, by have := hi0.out; have := hi1.out; omega, rfl, rfl, rfl, rfl, rfl, nxt, K3, by have := hb9.out; have := hi1.out; show _ ∧ _; omega⟩
                case measure => have := hi0.out; have := hi1.out; simp [intOf]; omega
            · have hie : i = n := by omega
              obtain ⟨F, hBk, _⟩ := hok.out
              have hpr := hBk.prog
              dsimp only at hpr
              obtain ⟨spT, m, capT, hvT, hm⟩ : ∃ sp m cap, vT = .slice sp m cap ∧ Hid (tx.length = m) := by
                obtain ⟨sp, cap, h, _⟩ := K.out.ot.open kU.len
                exact ⟨sp, _, cap, h, rfl⟩
              obtain ⟨spW, mw, capW, hvW, hmw⟩ : ∃ sp m cap, vW = .slice sp m cap ∧ Hid (wt.length = m) := by
                obtain ⟨sp, cap, h, _⟩ := K.out.ow.open kU.len
                exact ⟨sp, _, cap, h, rfl⟩
              subst hvT
              subst hvW
              have hmle : Hid (m ≤ 160000 ∧ mw ≤ 4000) := by
                have h1 := hb9.out
                have h2 := hn.out
                have h3 := hm.out
                have h4 := hmw.out
                show _ ∧ _
                omega
              have hmi : (m : Int) ≤ 160000 := by have := hmle.out; omega
              have hwi : (mw : Int) ≤ 4000 := by have := hmle.out; omega
              have hstr : strL (mkB tx) = tx := mkB_data tx
              have hsz : (mkB tx).size = m := by rw [← strL_len, hstr, hm.out]
              have hPg : ∀ z, Tm mx z → Calls Tryd.prog 10 #[.string (mkB tx)] z (PrE z (mkB tx)) := fun z hz => program_any z mx hz (mkB tx) (by omega)
              have hA : Hid (∀ z, Tm mx z → Calls Tryd.prog 9 #[] z fun e w' => e = .returned (.bool true) ∧ Below z.heap.size z w') := fun z hz => awake_any z mx hz
              have hcv : Hid (∀ z, Tw w (.slice spT m capT) (.slice spW mw capW) tx wt z → ∀ z', Below z.heap.size z z' → (convert 37 9 (.slice spT m capT)).run Tryd.prog z' = .ok (.string (mkB tx)) z') := fun z hz z' hb => by
                have h := hz.below hb
                rw [← hm.out]
                obtain ⟨sp, cap, e, hl, _⟩ := h.ot.open kU.len
                injection e with e1 e2 e3
                subst e1
                exact conv16 hl capT
              unfold PrE at hPg
              rw [hstr, hpr, hm.out] at hPg
              generalize mkB tx = TX at hPg hcv
              clear hpr hstr hsz hok hBk hb9 hlt
              by_cases hA1 : 65536 < m
              · have q1 : (65536 : Int) < m := by omega
                have hP2 : Hid (∀ z, Tm mx z → Calls Tryd.prog 10 #[.string TX] z fun e w' => e = .returned (.tuple #[.slice none 0 0, .int .i64 2, .int .i64 0]) ∧ Below z.heap.size z w') := fun z hz => (hPg z hz).mono fun e w' h => by
                  rw [if_pos hA1] at h
                  rcases h with ⟨er, n, h1, h2, h3⟩ | ⟨bs, v, h1, _⟩
                  · injection h1 with h1
                    injection h1 with h1 h4
                    subst h1
                    subst h4
                    exact ⟨h2, h3⟩
                  · cases h1
                clear hA1 hPg
                go_wp2_with (first
                  | (go_at_call 10; refine (hP2.out y1 (T.out.below K1.out.low)).mono ?_; rintro e y2 ⟨rfl, hb2⟩; have K2 : Hid (Below w.heap.size w y2) := K1.out.low.trans (hb2.mono K1.out.low.size); clear hb2)
                  | (go_at_call 9; refine (hA.out y (T.out.below K.out.low)).mono ?_; rintro e y1 ⟨rfl, hb1⟩; have K1 : Hid (Tw w (.slice spT m capT) (.slice spW mw capW) tx wt y1) := K.out.below hb1; have hc1 := hcv.out y1 K1.out y1 (Below.refl _ _); clear hb1))
                go_ret
                exact ⟨rfl, K2.out⟩
              · have q1 : ¬ (65536 : Int) < m := by omega
                by_cases hB1 : 0 < ov
                · have q2 : (0 : Int) < ov := by omega
                  have q3 : ((ov : Int) == (ov : Int)) = true := by simp
                  have hP2 : Hid (∀ z, Tm mx z → Calls Tryd.prog 10 #[.string TX] z fun e w' => e = .returned (.tuple #[.slice none 0 0, .int .i64 2, .int .i64 (ov : Int)]) ∧ Below z.heap.size z w') := fun z hz => (hPg z hz).mono fun e w' h => by
                    rw [if_neg hA1, if_pos hB1] at h
                    rcases h with ⟨er, n, h1, h2, h3⟩ | ⟨bs, v, h1, _⟩
                    · injection h1 with h1
                      injection h1 with h1 h4
                      subst h1
                      subst h4
                      exact ⟨h2, h3⟩
                    · cases h1
                  clear hA1 hB1 hPg
                  go_wp2_with (first
                    | (go_at_call 10; refine (hP2.out y1 (T.out.below K1.out.low)).mono ?_; rintro e y2 ⟨rfl, hb2⟩; have K2 : Hid (Below w.heap.size w y2) := K1.out.low.trans (hb2.mono K1.out.low.size); clear hb2)
                    | (go_at_call 9; refine (hA.out y (T.out.below K.out.low)).mono ?_; rintro e y1 ⟨rfl, hb1⟩; have K1 : Hid (Tw w (.slice spT m capT) (.slice spW mw capW) tx wt y1) := K.out.below hb1; have hc1 := hcv.out y1 K1.out y1 (Below.refl _ _); clear hb1))
                  go_ret
                  exact ⟨rfl, K2.out⟩
                · have q2 : ¬ (0 : Int) < ov := by omega
                  have hP2 : Hid (∀ z, Tm mx z → Calls Tryd.prog 10 #[.string TX] z fun e w' => ∃ spB capB, e = .returned (.tuple #[.slice spB mw capB, .int .i64 0, .int .i64 0]) ∧ Hid (LiesL 1 cU w' spB wt ∧ Below z.heap.size z w')) := fun z hz => (hPg z hz).mono fun e w' h => by
                    rw [if_neg hA1, if_neg hB1] at h
                    rcases h with ⟨er, n, h1, _⟩ | ⟨bs, v, h1, h2, h3, h4⟩
                    · cases h1
                    · injection h1 with h1
                      subst h1
                      obtain ⟨sp, cap, rfl, hl, _⟩ := h3.open kU.len
                      rw [hmw.out] at h2
                      exact ⟨sp, cap, h2, hl, h4⟩
                  clear hA1 hB1 hPg
                  go_wp2_with (first
                    | (go_at_call 11; refine (same16_true y2 spB spW capB capW mw wt hmw (by omega) K2.out.1 K2.out.2.1).mono ?_; rintro e y3 ⟨rfl, hb3⟩; have K3 : Hid (Below w.heap.size w y3) := K2.out.2.2.trans (hb3.mono K2.out.2.2.size); clear hb3)
                    | (go_at_call 10; refine (hP2.out y1 (T.out.below K1.out.low)).mono ?_; rintro e y2 ⟨spB, capB, rfl, H2⟩; have K2 : Hid (LiesL 1 cU y2 spB wt ∧ LiesL 1 cU y2 spW wt ∧ Below w.heap.size w y2) := ⟨H2.out.1, own_lies (K1.out.below H2.out.2).ow, K1.out.low.trans (H2.out.2.mono K1.out.low.size)⟩; clear H2)
                    | (go_at_call 9; refine (hA.out y (T.out.below K.out.low)).mono ?_; rintro e y1 ⟨rfl, hb1⟩; have K1 : Hid (Tw w (.slice spT m capT) (.slice spW mw capW) tx wt y1) := K.out.below hb1; have hc1 := hcv.out y1 K1.out y1 (Below.refl _ _); clear hb1))
                  go_ret
                  exact ⟨rfl, K3.out⟩
end Go.Proofs.YtfdikiafbfljaaaDoor
