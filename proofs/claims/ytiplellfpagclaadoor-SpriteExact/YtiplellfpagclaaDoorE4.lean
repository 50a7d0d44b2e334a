/- A page's text, and a text read: the document's. -/
import Derived.Test.YtiplellfpagclaaDoorE3
import Derived.Test.YtiplellfpagclaaDoorD6
namespace Go.Proofs.YtiplellfpagclaaDoor
open Go Go.RowKit Go.Shelf
set_option linter.unusedVariables false
set_option maxHeartbeats 1000000
set_option maxRecDepth 20000

theorem bx1 (z : World) (cs : Array Value) (t : TypeId) : Bx (z.alloc (.cells cs t)) z.heap.size cs t := alloc_last' z _
theorem conv_own {B : Nat} {w : World} {sp : Option Addr} {n cap : Nat} {l : List UInt8} (h : OwnL 5 1 cB B w (.slice sp n cap) l) (h0 : 0 < l.length) : (convert 25 9 (.slice sp n cap)).run Tryd.prog w = .ok (.string (strB l)) w := by
  obtain ⟨s2, c2, e, hl, _⟩ := OwnL.open kByte.len h
  injection e with e1 e2 e3
  subst e1 e2 e3
  obtain ⟨g, o, rfl⟩ := lb_some hl h0
  exact run_convert_bytes_back (P := Tryd.prog) w 25 9 5 ⟨g, o, none⟩ cap l Tryd.underlying25 Tryd.underlying5 Tryd.underlying9 (fun j hj => by
    have := lb_at hl j hj
    rw [Addr.add_lit, this]
    simp [List.getD, hj])
/-- What the lines before and so many signs of this one are. -/
def lineS (p : List UInt8) (j i : Nat) : List UInt8 := showS p (64 * j) ++ (List.range i).map fun d => signS p (64 * j + d)
theorem line_zero (p : List UInt8) (j : Nat) : lineS p j 0 = showS p (64 * j) := by simp [lineS]
theorem line_succ (p : List UInt8) (j i : Nat) : lineS p j (i + 1) = lineS p j i ++ [signS p (64 * j + i)] := by simp [lineS, List.range_succ]
theorem line_end (p : List UInt8) (j : Nat) : lineS p j 64 ++ [10] = showS p (64 * (j + 1)) := (show_line p j).symm
theorem line_len (p : List UInt8) (j i : Nat) (hj : j < 32) (hi : i ≤ 64) : (lineS p j i).length ≤ 10000 := by
  unfold lineS
  rw [List.length_append, show_len, List.length_map, List.length_range]
  omega
theorem rshow_any (w : World) (sp : Option Addr) (cap : Nat) (p : List UInt8) (hl : Hid (LB w sp p)) :
    Calls Tryd.prog 14 #[.slice sp p.length cap] w fun e w' => e = .returned (.tuple #[.string (strB (showA p).1), .int .i64 (showA p).2]) ∧ Below w.heap.size w w' := by
  obtain ⟨n, hn⟩ : ∃ n, p.length = n := ⟨_, rfl⟩
  unfold showA
  rw [hn]
  by_cases h1 : n = 256
  · rw [if_pos h1]
    dsimp only
    subst h1
    have hp : Hid (p.length = 256) := hn
    have cOn : Hid (∀ (u : World) (i j : Nat), i < 64 → j < 32 → Below w.heap.size w u → Calls Tryd.prog 21 #[.slice sp 256 cap, .int .i64 (i : Int), .int .i64 (j : Int)] u fun e w' => e = .returned (.bool (bitP p (64 * j + i))) ∧ Below u.heap.size u w') := fun u i j hi hj hb => on_any u sp cap p i j hp.out hi hj (hl.out.below hb)
    obtain ⟨T, hT⟩ : ∃ T, strB (showS p 2048) = T := ⟨_, rfl⟩
    rw [hT]
    have hT : Hid (strB (showS p 2048) = T) := hT
    clear hn
    go_enter Tryd.func14, Tryd.ntmps14
    go_wp2
    go_loopw [4, 5] (fun ov jv wz => ∃ (j : Nat) (u : World) (s : Option Addr) (k c : Nat), u = wz ∧ j ≤ 32 ∧ ov = .slice s k c ∧ jv = .int .i64 (j : Int) ∧ Hid (KL 5 1 cB w (.slice s k c) (showS p (64 * j)) u)) (fun _ jv _ => (32 - intOf jv).toNat)
    case atStart => exact ⟨0, w, none, 0, 0, rfl, by omega, rfl, rfl, KL.nil w⟩
    case round =>
      obtain ⟨j, u, s, k, c, rfl, hj, rfl, rfl, K⟩ := hrel
      by_cases hlt : j < 32
      · have hji : (j : Int) < 32 := by omega
        have hlt' : Hid (j < 32) := hlt
        clear hj hlt
        go_wp2
        go_loopw [4, 6] (fun ov iv wz => ∃ (i : Nat) (v : World) (s : Option Addr) (k c : Nat), v = wz ∧ i ≤ 64 ∧ ov = .slice s k c ∧ iv = .int .i64 (i : Int) ∧ Hid (KL 5 1 cB w (.slice s k c) (lineS p j i) v)) (fun _ iv _ => (64 - intOf iv).toNat)
        case atStart => exact ⟨0, u, s, k, c, rfl, by omega, rfl, rfl, by rw [line_zero]; exact K⟩
        case round =>
          obtain ⟨i, v, s, k, c, rfl, hi, rfl, rfl, L⟩ := hrel
          clear K
          by_cases hi64 : i < 64
          · have hii : (i : Int) < 64 := by omega
            have hon := cOn.out v i j hi64 hlt'.out L.out.low
            have hll : Hid ((lineS p j i).length ≤ 10000) := line_len p j i hlt'.out (by omega)
            have hi' : Hid (i < 64) := hi64
            have hsg : Hid (lineS p j (i + 1) = lineS p j i ++ [if bitP p (64 * j + i) then 35 else 46]) := line_succ p j i
            obtain ⟨b, hb⟩ : ∃ b, bitP p (64 * j + i) = b := ⟨_, rfl⟩
            rw [hb] at hon hsg
            obtain ⟨l, hl2⟩ : ∃ l, lineS p j i = l := ⟨_, rfl⟩
            rw [hl2] at hsg L hll
            clear hi hi64 hb hl2
            cases b
            · go_wp2_with (first
                | (go_at_call 21; refine hon.mono ?_; rintro e v1 ⟨rfl, H1⟩; have L1 : Hid (KL 5 1 cB w (.slice s k c) l v1) := L.out.below H1)
                | ((refine at_appL kByte rfl (.tmp 25) (.tmp 26) rfl w.heap.size (.slice s k c) l rfl (L1.out.own.alloc _) v1.heap.size 46 rfl (bx1 v1 _ _) ?_ ?_ ?_); (have := hll.out; omega); (have := L1.out.low.size; simp; omega); intro v2 u2 H2; have L2 : Hid (KL 5 1 cB w v2 (l ++ [46]) u2) := L1.out.add H2.out; obtain ⟨s2, c2, e2, _⟩ := OwnL.open kByte.len L2.out.own; obtain ⟨k2, hk2⟩ : ∃ k2, (l ++ [(46 : UInt8)]).length = k2 := ⟨_, rfl⟩; rw [hk2] at e2; subst e2))
              go_roundw
              case rel => exact ⟨i + 1, u2, s2, k2, c2, rfl, hi'.out, rfl, by simp, by rw [hsg.out]; exact L2⟩
              case measure => have := hi'.out; simp [intOf]; omega
            · go_wp2_with (first
                | (go_at_call 21; refine hon.mono ?_; rintro e v1 ⟨rfl, H1⟩; have L1 : Hid (KL 5 1 cB w (.slice s k c) l v1) := L.out.below H1)
                | ((refine at_appL kByte rfl (.tmp 22) (.tmp 23) rfl w.heap.size (.slice s k c) l rfl (L1.out.own.alloc _) v1.heap.size 35 rfl (bx1 v1 _ _) ?_ ?_ ?_); (have := hll.out; omega); (have := L1.out.low.size; simp; omega); intro v2 u2 H2; have L2 : Hid (KL 5 1 cB w v2 (l ++ [35]) u2) := L1.out.add H2.out; obtain ⟨s2, c2, e2, _⟩ := OwnL.open kByte.len L2.out.own; obtain ⟨k2, hk2⟩ : ∃ k2, (l ++ [(35 : UInt8)]).length = k2 := ⟨_, rfl⟩; rw [hk2] at e2; subst e2))
              go_roundw
              case rel => exact ⟨i + 1, u2, s2, k2, c2, rfl, hi'.out, rfl, by simp, by rw [hsg.out]; exact L2⟩
              case measure => have := hi'.out; simp [intOf]; omega
          · have hie : i = 64 := by omega
            subst hie
            have hll : Hid ((lineS p j 64).length ≤ 10000) := line_len p j 64 hlt'.out (by omega)
            have hsg : Hid (lineS p j 64 ++ [10] = showS p (64 * (j + 1))) := line_end p j
            obtain ⟨l, hl2⟩ : ∃ l, lineS p j 64 = l := ⟨_, rfl⟩
            rw [hl2] at hsg L hll
            clear hi hi64 hl2
            go_wp2_with ((refine at_appL kByte rfl (.tmp 28) (.tmp 29) rfl w.heap.size (.slice s k c) l rfl (L.out.own.alloc _) v.heap.size 10 rfl (bx1 v _ _) ?_ ?_ ?_); (have := hll.out; omega); (have := L.out.low.size; simp; omega); intro v2 u2 H2; have L2 : Hid (KL 5 1 cB w v2 (l ++ [10]) u2) := L.out.add H2.out; obtain ⟨s2, c2, e2, _⟩ := OwnL.open kByte.len L2.out.own; obtain ⟨k2, hk2⟩ : ∃ k2, (l ++ [(10 : UInt8)]).length = k2 := ⟨_, rfl⟩; rw [hk2] at e2; subst e2)
            go_roundw
            case rel => exact ⟨j + 1, u2, s2, k2, c2, rfl, hlt'.out, rfl, by simp, by rw [← hsg.out]; exact L2⟩
            case measure => have := hlt'.out; simp [intOf]; omega
      · have hje : j = 32 := by omega
        subst hje
        have K' : Hid (KL 5 1 cB w (.slice s k c) (showS p 2048) u) := K
        have hcv := conv_own K'.out.own (by rw [show_size]; decide)
        rw [hT.out] at hcv
        clear hj hlt K
        go_wp2
        go_ret2
        exact ⟨rfl, K'.out.low⟩
  · rw [if_neg h1]
    dsimp only
    have q1 : ((n : Int) != 256) = true := by simp; omega
    clear h1 hn
    go_enter Tryd.func14, Tryd.ntmps14
    go_wp2
    go_ret2
    exact ⟨rfl, Below.refl _ _⟩
end Go.Proofs.YtiplellfpagclaaDoor
