/- A label taken up: takeLabel. -/
import Derived.Test.YtfdikiafbfljaaaDoorPb2
namespace Go.Proofs.YtfdikiafbfljaaaDoor
open Go Go.RowKit
set_option linter.unusedVariables false
set_option maxHeartbeats 1000000
set_option maxRecDepth 20000

def putN (F : ByteArray → Option Nat) (s : ByteArray) (a : Nat) : ByteArray → Option Nat := fun t => if t = s then some a else F t
theorem putN_map (F : ByteArray → Option Nat) (s : ByteArray) (a : Nat) : putF (fun t => (F t).map fun x => Value.int .u16 (x : Int)) s (.int .u16 (a : Int)) = fun t => (putN F s a t).map fun x => Value.int .u16 (x : Int) := by
  funext t
  unfold putF putN
  split <;> rfl
theorem Pg.putMap {w : World} {P g : Nat} {vb vu : Value} {bs : List UInt8} {F : ByteArray → Option Nat} {us : List Us} {y z : World} (h : Pg w P g vb vu bs F us y) (s : ByteArray) (a : Nat)
    (k : MapF z g (putF (fun t => (F t).map fun x => Value.int .u16 (x : Int)) s (.int .u16 (a : Int))) ∧ (∀ q, q ≠ g → z.heap[q]? = y.heap[q]?) ∧ ∀ B, B ≤ g → Below B y z) : Pg w P g vb vu bs (putN F s a) us z ∧ Kp y z := by
  obtain ⟨k1, k2, k3⟩ := k
  rw [putN_map] at k1
  have ne : ∀ q cs t, Bx y q cs t → q ≠ g := fun q cs t hx e => map_ne h.mp hx e.symm
  refine ⟨⟨(k2 P (ne _ _ _ h.box)).trans h.box, h.bs.keepB fun q e => ?_, k1, h.us.keepB fun q e => ?_, h.geP, h.geg, h.low.trans (k3 _ h.geg)⟩, (k3 0 (Nat.zero_le _)).size, fun q o hx hr => (k2 q (rec_nm hx hr h.mp)).trans hx, fun q cs t hx _ _ _ => (k2 q (ne q cs t hx)).trans hx⟩
  · obtain ⟨cs, hx⟩ := h.bs.ty q e
    exact k2 q (ne q cs _ hx)
  · obtain ⟨cs, hx⟩ := h.us.ty q e
    exact k2 q (ne q cs _ hx)
def TlE (w : World) (P g : Nat) (vb vu : Value) (bs : List UInt8) (F : ByteArray → Option Nat) (us : List Us) (y : World) (s : ByteArray) (e : Ending) (z : World) : Prop :=
  (e = .returned (.bool true) ∧ F s = none ∧ isNm s = true ∧ Pg w P g vb vu bs (putN F s (512 + bs.length)) us z ∧ Kp y z) ∨ (e = .returned (.bool false) ∧ ((F s).isSome = true ∨ isNm s = false) ∧ Below w.heap.size w z ∧ Kp y z)
theorem zeroU16 (w : World) : (zeroValue 27).run Tryd.prog w = .ok (.int .u16 0) w := by kernel_rfl
theorem label_any (w y : World) (P g : Nat) (vb vu : Value) (bs : List UInt8) (F : ByteArray → Option Nat) (us : List Us) (K : Hid (Pg w P g vb vu bs F us y)) (hbs : bs.length ≤ 3232) (s : ByteArray) :
    Calls Tryd.prog 45 #[.pointer (some ⟨P, 0, none⟩), .string s] y (TlE w P g vb vu bs F us y s) := by
  have hlk := K.out.mp.look (P := Tryd.prog) (mt := 67) (kt := 9) (et := 27) Tryd.underlying67 Tryd.underlying9 s (.int .u16 0) (zeroU16 y)
  have d1 := K.out.box.c 1 (.map (some g)) rfl
  have hI := fun z => pisname_any s z
  rcases hF : F s with _ | a
  · rw [hF] at hlk
    have hlk : (Instr.lookup 67 (.map (some g)) (.string s) true).run Tryd.prog y = .ok (.tuple #[.int .u16 0, .bool false]) y := hlk
    rcases hn : isNm s with _ | _
    · rw [hn] at hI
      clear hbs
      go_enter Tryd.func45, Tryd.ntmps45
      go_wp2_with (go_at_call 71; refine (hI _).mono ?_; rintro e y ⟨rfl, rfl⟩)
      go_ret
      exact .inr ⟨rfl, .inr hn, K.out.low, Kp.refl _⟩
    · rw [hn] at hI
      obtain ⟨spb, capb, hvb, _, _, _, _⟩ := K.out.bs.open kU.len
      obtain ⟨n, hn9⟩ : ∃ n, Hid (bs.length = n) := ⟨_, (rfl : bs.length = _)⟩
      rw [hn9.out] at hvb hbs
      subst hvb
      have d0 := K.out.box.c 0 (.slice spb n capb) rfl
      have hni : (n : Int) ≤ 3232 := by omega
      have hw1 : IntKind.i64.wrap (512 + (n : Int)) = 512 + (n : Int) := by rw [IntKind.wrap_i64]; omega
      have hcv : ∀ z, (convert 3 27 (.int .i64 (512 + (n : Int)))).run Tryd.prog z = .ok (.int .u16 ((512 + n : Nat) : Int)) z := fun z => by go_simp; rw [IntKind.wrap_u16]; omega
      clear hbs
      go_enter Tryd.func45, Tryd.ntmps45
      go_wp2_with (go_at_call 71; refine (hI _).mono ?_; rintro e y ⟨rfl, rfl⟩)
      refine region_class_tail 12 (fun x => Pg w P g (.slice spb n capb) vu bs F us x ∧ Kp y x) (by kernel_rfl) (by kernel_rfl) ⟨K.out.below ⟨rfl, rfl, rfl, Nat.le_refl _, fun _ _ => rfl⟩, Kp.of_below ⟨rfl, rfl, rfl, Nat.le_refl _, fun _ _ => rfl⟩⟩ ?_
      simp only [List.take_succ_cons, List.take_zero, List.drop_succ_cons, List.drop_zero]
      with_reducible refine quiet_one (.pointer (some ⟨P, 0, none⟩)) ?_ ?_ ?_
      · kernel_rfl
      · intro u hy
        go_simp
      with_reducible refine quiet_one (.pointer (some ⟨P, 0, none⟩)) ?_ ?_ ?_
      · kernel_rfl
      · intro u hy
        go_simp
      with_reducible refine quiet_one (.pointer (some ⟨P, 1, none⟩)) ?_ ?_ ?_
      · kernel_rfl
      · intro u hy
        go_simp
      with_reducible refine quiet_one (.map (some g)) ?_ ?_ ?_
      · kernel_rfl
      · intro u hy
        have x := hy.1.box.c 1 (.map (some g)) rfl
        go_simp
      with_reducible refine quiet_one (.string s) ?_ ?_ ?_
      · kernel_rfl
      · intro u hy
        go_simp
      with_reducible refine quiet_one (.pointer (some ⟨P, 0, none⟩)) ?_ ?_ ?_
      · kernel_rfl
      · intro u hy
        go_simp
      with_reducible refine quiet_one (.pointer (some ⟨P, 0, none⟩)) ?_ ?_ ?_
      · kernel_rfl
      · intro u hy
        go_simp
      with_reducible refine quiet_one (.pointer (some ⟨P, 0, none⟩)) ?_ ?_ ?_
      · kernel_rfl
      · intro u hy
        go_simp
      with_reducible refine quiet_one (.slice spb n capb) ?_ ?_ ?_
      · kernel_rfl
      · intro u hy
        have x := hy.1.box.c 0 (.slice spb n capb) rfl
        go_simp
      with_reducible refine quiet_one (.int .i64 (n : Int)) ?_ ?_ ?_
      · kernel_rfl
      · intro u hy
        go_simp
      with_reducible refine quiet_one (.int .i64 (512 + (n : Int))) ?_ ?_ ?_
      · kernel_rfl
      · intro u hy
        go_simp
        try exact hw1
      with_reducible refine quiet_one (.int .u16 ((512 + n : Nat) : Int)) ?_ ?_ ?_
      · kernel_rfl
      · intro u hy
        go_simp
      refine wpQuiet_nil ?_
      intro z0 K0
      have hk0 : Hid (Kp y z0) := K0.2
      have K0 : Hid (Pg w P g (.slice spb n capb) vu bs F us z0) := K0.1
      go_simp
      go_wp2_with ((with_reducible refine at_put (P := Tryd.prog) (mt := 67) (kt := 9) (et := 27) ?_ (.tmp 25) (.tmp 26) (.tmp 33) ?_ Tryd.underlying67 Tryd.underlying9 g (fun t => (F t).map fun x => Value.int .u16 (x : Int)) s (.int .u16 ((512 + n : Nat) : Int)) ?_ ?_ ?_ ?_ ?_); rfl; exact .inl rfl; exact K0.out.mp; rfl; rfl; rfl; intro z1 hz1; have K1 : Hid (Pg w P g (.slice spb n capb) vu bs (putN F s (512 + n)) us z1 ∧ Kp z0 z1) := K0.out.putMap s (512 + n) hz1.out)
      go_ret
      exact .inl ⟨rfl, hF, hn, by rw [hn9.out]; exact K1.out.1, hk0.out.trans K1.out.2⟩
  · rw [hF] at hlk
    have hlk : (Instr.lookup 67 (.map (some g)) (.string s) true).run Tryd.prog y = .ok (.tuple #[.int .u16 (a : Int), .bool true]) y := hlk
    clear hbs
    go_enter Tryd.func45, Tryd.ntmps45
    go_wp2
    go_ret
    exact .inr ⟨rfl, .inl (by rw [hF]; rfl), K.out.low, Kp.refl _⟩
end Go.Proofs.YtfdikiafbfljaaaDoor
