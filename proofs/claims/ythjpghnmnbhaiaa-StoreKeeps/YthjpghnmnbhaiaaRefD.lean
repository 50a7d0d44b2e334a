/- The document's store: Clone. -/
import Derived.Test.YthjpghnmnbhaiaaRefC
namespace Go.Proofs.Ythjpghnmnbhaiaa
open Go Go.RowKit
set_option linter.unusedVariables false
set_option maxHeartbeats 1000000
set_option maxRecDepth 20000

theorem rbytes_in (w : World) (sp : Option Addr) (len cap : Nat) (hlen : len ≤ 140000000000000) (Y : Nat → Int) (hY : Hid (Lies w sp len Y)) (x : World) (hx : Below w.heap.size w x) :
    Calls Try.prog 33 #[.slice sp len cap] x fun e w' => ∃ b, e = .returned (.slice (some ⟨b, 0, none⟩) len len) ∧ Hid (x.heap.size ≤ b ∧ Blk w' b len Y ∧ Below w.heap.size w w' ∧ Below x.heap.size x w') :=
  (rbytes_any x sp len cap hlen Y (hY.out.below hx)).mono fun e w' ⟨h1, h2, h3⟩ => ⟨_, h1, Nat.le_refl _, h2, hx.trans (h3.mono hx.size), h3⟩

theorem rclone_any (w : World) (r m f : Nat) (S : St) (ok : S.ok) (h : Ref w r m f S) :
    Calls Try.prog 15 #[.pointer (some ⟨r, 0, none⟩)] w fun e w' => ∃ r' m' f', e = .returned (.pointer (some ⟨r', 0, none⟩)) ∧ w.heap.size ≤ r' ∧ w.heap.size ≤ m' ∧ w.heap.size ≤ f' ∧ Ref w' r' m' f' S ∧ Below w.heap.size w w' := by
  have hm := rbytes_in w (some ⟨m, 0, none⟩) S.n S.n (by have := ok.hi; omega) S.ram h.mem.lies
  have hf := rbytes_in w (some ⟨f, 0, none⟩) 512 512 (by omega) S.rom h.fix.lies
  have c0 := h.c0
  have c1 := h.c1
  have c2 := h.c2
  have hl : r < w.heap.size := heap_lt h.box
  obtain ⟨n, hn⟩ : ∃ n, Hid (S.n = n) := ⟨_, (rfl : S.n = S.n)⟩
  obtain ⟨on, ho⟩ : ∃ n, Hid (S.on = n) := ⟨_, (rfl : S.on = S.on)⟩
  rw [hn.out] at c0 hm
  rw [ho.out] at c2
  have P0 : Below w.heap.size w w := Below.refl _ _
  clear h ok
  go_enter Try.func15, Try.ntmps15
  go_wp2
  go_region_held3 (fun w' => w'.cell? ⟨r, 0, none⟩ = some (.slice (some ⟨m, 0, none⟩) n n) ∧ w'.cell? ⟨r, 1, none⟩ = some (.slice (some ⟨f, 0, none⟩) 512 512) ∧ w'.cell? ⟨r, 2, none⟩ = some (.bool on)) (first | go_keep | exact ⟨q0, q1, q2⟩)
   (first
    | (go_at_call_of 33 (Value.slice (some ⟨m, 0, none⟩) n n); refine (hm _ (by first | exact P1 | exact P0 | exact below_drew P1 | exact below_drew P0)).mono ?_; rintro e v1 ⟨b1, rfl, hb1⟩; have P1 : Below w.heap.size w v1 := hb1.out.2.2.1; have q0 := (P1.cell (p := ⟨r, 0, none⟩) hl).trans c0; have q1 := (P1.cell (p := ⟨r, 1, none⟩) hl).trans c1; have q2 := (P1.cell (p := ⟨r, 2, none⟩) hl).trans c2)
    | (go_at_call_of 33 (Value.slice (some ⟨f, 0, none⟩) 512 512); refine (hf _ (by first | exact P1 | exact P0 | exact below_drew P1 | exact below_drew P0)).mono ?_; rintro e v2 ⟨b2, rfl, hb2⟩; have P2 : Below w.heap.size w v2 := hb2.out.2.2.1; have q0 := (P2.cell (p := ⟨r, 0, none⟩) hl).trans c0; have q1 := (P2.cell (p := ⟨r, 1, none⟩) hl).trans c1; have q2 := (P2.cell (p := ⟨r, 2, none⟩) hl).trans c2))
  have fin : Hid (w.heap.size ≤ v2.heap.size ∧ w.heap.size ≤ b1 ∧ w.heap.size ≤ b2 ∧ Ref (v2.alloc (.cells #[.slice (some ⟨b1, 0, none⟩) n n, .slice (some ⟨b2, 0, none⟩) 512 512, .bool on] 56)) v2.heap.size b1 b2 S ∧ Below w.heap.size w (v2.alloc (.cells #[.slice (some ⟨b1, 0, none⟩) n n, .slice (some ⟨b2, 0, none⟩) 512 512, .bool on] 56))) := by
    have k1 : w.heap.size ≤ b1 := hb1.out.1
    have k2 := hb2.out.1
    have k3 := hb1.out.2.1.lt
    have k4 := P1.size
    refine ⟨P2.size, k1, by omega, ?_, P2.alloc P2.size _⟩
    have := ref_of (x := v2) (m := b1) (f := b2) (S := S) (by rw [hn.out]; exact hb1.out.2.1.below hb2.out.2.2.2) hb2.out.2.1 (by omega)
    rw [hn.out, ho.out] at this
    exact this
  clear hb1 hb2 hm hf P0 P1 P2 c0 c1 c2 q0 q1 q2 hn ho
  go_wp2
  go_ret
  exact ⟨_, _, _, rfl, fin.out⟩
end Go.Proofs.Ythjpghnmnbhaiaa
