/- Data taken up: takeData. A label taken up: takeLabel. -/
import Derived.Test.YthaijjehplomfaaDoorJ17
namespace Go.Proofs.YthaijjehplomfaaDoor
open Go Go.RowKit
set_option linter.unusedVariables false
set_option maxHeartbeats 1000000
set_option maxRecDepth 20000

theorem datW_snoc (ws : List ByteArray) (s : ByteArray) (d : List UInt8) (h : datW ws = some d) : datW (ws ++ [s]) = match numK s.data.toList 2 with | none => none | some v => some (d ++ [UInt8.ofNat v]) := by
  induction ws generalizing d with
  | nil =>
    simp [datW] at h
    subst h
    show (match numK s.data.toList 2 with | none => none | some v => (datW []).map (UInt8.ofNat v :: ·)) = _
    rcases numK s.data.toList 2 with _ | v <;> rfl
  | cons x r ih =>
    show (match numK x.data.toList 2 with | none => none | some v => (datW (r ++ [s])).map (UInt8.ofNat v :: ·)) = _
    have h' : (match numK x.data.toList 2 with | none => none | some v => (datW r).map (UInt8.ofNat v :: ·)) = some d := h
    rcases hx : numK x.data.toList 2 with _ | v
    · rw [hx] at h'; cases h'
    · rw [hx] at h'
      dsimp only at h' ⊢
      obtain ⟨d', hd', rfl⟩ := Option.map_eq_some_iff.1 h'
      rw [ih d' hd']
      rcases numK s.data.toList 2 with _ | v' <;> rfl
theorem datW_none (ws r : List ByteArray) (h : datW ws = none) : datW (ws ++ r) = none := by
  induction ws with
  | nil => simp [datW] at h
  | cons x t ih =>
    have h' : (match numK x.data.toList 2 with | none => none | some v => (datW t).map (UInt8.ofNat v :: ·)) = none := h
    show (match numK x.data.toList 2 with | none => none | some v => (datW (t ++ r)).map (UInt8.ofNat v :: ·)) = none
    rcases hx : numK x.data.toList 2 with _ | v
    · rfl
    · rw [hx] at h'
      dsimp only at h' ⊢
      rw [ih (by simpa using h')]
      rfl
theorem datW_len (ws : List ByteArray) : ∀ d, datW ws = some d → d.length = ws.length := by
  induction ws with
  | nil => intro d h; simp [datW] at h; subst h; rfl
  | cons x t ih =>
    intro d h
    have h' : (match numK x.data.toList 2 with | none => none | some v => (datW t).map (UInt8.ofNat v :: ·)) = some d := h
    rcases hx : numK x.data.toList 2 with _ | v
    · rw [hx] at h'; cases h'
    · rw [hx] at h'
      obtain ⟨d', hd', rfl⟩ := Option.map_eq_some_iff.1 h'
      simp [ih d' hd']
theorem num2_lt {s : List UInt8} {v : Nat} (h : numK s 2 = some v) : v < 256 := by
  unfold numK at h
  split at h
  · rename_i hl
    rcases hx : numGo s 0 with _ | x
    · rw [hx] at h; cases h
    · rw [hx] at h
      simp at h
      have hb := numGo_le s 0 x (by omega) hx
      rw [hl] at hb
      omega
  · cases h
theorem data_any (w y : World) (P g : Nat) (vb vu : Value) (bs : List UInt8) (F : ByteArray → Option Nat) (us : List Us) (K : Hid (Pg w P g vb vu bs F us y)) (hbs : bs.length ≤ 3232)
    (gw ow cap m : Nat) (ws : List ByteArray) (hm : Hid (ws.length = m)) (hm2 : (m : Int) ≤ 65536) (hW : Hid (WdsAt y gw ow ws)) (hsz : Hid (∀ s ∈ ws, s.size ≤ maxLen)) :
    Calls Tryd.prog 46 #[.pointer (some ⟨P, 0, none⟩), .slice (some ⟨gw, ow, none⟩) m cap] y (TdE w P g vu bs F us y ws) := by
  have hbs' : Hid (bs.length ≤ 3232) := hbs
  clear hbs
  go_enter Tryd.func46, Tryd.ntmps46
  go_wp2
  go_loopw [11] (fun j wz => ∃ (p : Nat) (vb' : Value) (d : List UInt8), p ≤ m ∧ j = .int .i64 (p : Int) ∧ Hid (datW (ws.take p) = some d) ∧ Hid (Pg w P g vb' vu (bs ++ d) F us wz) ∧ Hid (Kp y wz)) (fun j _ => (m - intOf j).toNat)
  case atStart => exact ⟨0, vb, [], by omega, rfl, (rfl : datW [] = some []), (by rw [List.append_nil]; exact K.out : Pg w P g vb vu (bs ++ []) F us y), Kp.refl y⟩
  case round =>
    obtain ⟨p, vb', d, hpm, rfl, hd, K1, hk⟩ := hrel
    by_cases hlt : p < m
    · obtain ⟨s, hps⟩ : ∃ s, ws[p]? = some s := ⟨_, List.getElem?_eq_getElem (by rw [hm.out]; exact hlt)⟩
      have hss : s.size ≤ maxLen := hsz.out s (List.mem_of_getElem? hps)
      have dw : wr.cell? ⟨gw, ow + p, none⟩ = some (.string s) := (hW.out.kp hk.out).cell p s hps
      have hix := fun z => idxW (g := gw) (off := ow) (len := m) (cap := cap) p z hlt
      have hpi : (p : Int) < m := by omega
      have hN := fun z => onum_any s 2 (by decide) (by decide) hss z
      have htk : ws.take (p + 1) = ws.take p ++ [s] := by rw [List.take_add_one, hps]; rfl
      have hsn := datW_snoc (ws.take p) s d hd.out
      rw [← htk] at hsn
      have hlt' : Hid (p < m) := hlt
      rcases hv : numK s.data.toList 2 with _ | v
      · rw [hv] at hN hsn
        simp only [Option.getD_none, Option.isSome_none] at hN
        have hno : Hid (datW ws = none) := by
          show _ = _
          rw [← List.take_append_drop (p + 1) ws]
          exact datW_none _ _ hsn
        clear hv hsn htk hlt hps hss
        go_wp2_with (go_at_call 65; refine (hN _).mono ?_; rintro e z ⟨rfl, hb⟩; have K2 : Hid (Pg w P g vb' vu (bs ++ d) F us z) := K1.out.below hb; have hk2 : Hid (Kp y z) := hk.out.trans (Kp.of_below hb))
        go_ret
        exact .inr ⟨rfl, .inl hno.out, K2.out.low, hk2.out⟩
      · rw [hv] at hN hsn
        simp only [Option.getD_some, Option.isSome_some] at hN
        have hv6 := num2_lt hv
        have hsn' : Hid (datW (ws.take (p + 1)) = some (d ++ [UInt8.ofNat v])) := hsn
        have hvU : Hid ((UInt8.ofNat v).toNat = v) := by show _ = _; simp; omega
        have hvi : (v : Int) < 256 := by omega
        have hcv : ∀ z, (convert 27 5 (.int .u16 (v : Int))).run Tryd.prog z = .ok (.int .u8 (v : Int)) z := fun z => by go_simp; rw [IntKind.wrap_u8]; omega
        have hln : Hid ((bs ++ d).length ≤ 100000) := by
          show _ ≤ _
          rw [List.length_append, datW_len _ d hd.out, List.length_take]
          have := hbs'.out
          omega
        obtain ⟨spb, capb, rfl, _, _, _, _⟩ := K1.out.bs.open kU.len
        obtain ⟨nb, hnb⟩ : ∃ n, Hid ((bs ++ d).length = n) := ⟨_, (rfl : (bs ++ d).length = _)⟩
        rw [hnb.out] at K1
        clear hv hsn htk hlt hps hss hv6 hvi
        go_wp2_with (first
          | (at_builtin; refine at_appL kU rfl (.tmp 26) (.tmp 29) rfl w.heap.size (.slice spb nb capb) (bs ++ d) rfl (K2.out.bs.alloc _) z.heap.size (UInt8.ofNat v) rfl ?_ ?_ ?_ ?_; (show Bx _ _ (cU (UInt8.ofNat v)).toArray _; unfold cU byV; rw [hvU.out]; exact alloc_last' z _); (have := hln.out; omega); (have := K2.out.low.size; simp; omega); intro v' z2 A; have A2 := (K2.out.below (below1 z _)).app ⟨A.out.own, A.out.new, A.out.cu⟩; obtain ⟨spn, capn, hv', _, _, _, _⟩ := A2.2.1.open kU.len; obtain ⟨nn, hnn⟩ : ∃ n, Hid (((bs ++ d) ++ [UInt8.ofNat v]).length = n) := ⟨_, (rfl : ((bs ++ d) ++ [UInt8.ofNat v]).length = _)⟩; rw [hnn.out] at hv'; subst hv'; have d0 := A2.1.c 0 (.slice spb nb capb) rfl; have f0 := A2.1.fz 0; have A3 : Hid (Pg w P g (.slice spn nn capn) vu (bs ++ d ++ [UInt8.ofNat v]) F us (z2.setCell ⟨P, 0, none⟩ (.slice spn nn capn)) ∧ Kp y (z2.setCell ⟨P, 0, none⟩ (.slice spn nn capn))) := (Pg.put A2.1 A2.2.1 A2.2.2.1 A2.2.2.2.1 K2.out.geP K2.out.geg A2.2.2.2.2.1 rfl).imp id (fun k => (hk2.out.trans ((Kp.of_below (below1 z _)).trans A2.2.2.2.2.2)).trans k); clear A A2 K1)
          | (go_at_call 65; refine (hN _).mono ?_; rintro e z ⟨rfl, hb⟩; have K2 : Hid (Pg w P g (.slice spb nb capb) vu (bs ++ d) F us z) := K1.out.below hb; have hk2 : Hid (Kp y z) := hk.out.trans (Kp.of_below hb); have dB := K2.out.box.c 0 (.slice spb nb capb) rfl))
        go_roundw
        case rel => exact ⟨p + 1, _, d ++ [UInt8.ofNat v], by have := hlt'.out; omega, by simp, hsn', by rw [← List.append_assoc]; exact A3.out.1, A3.out.2⟩
        case measure => have := hlt'.out; simp [intOf]; omega
    · have hpe : p = m := by omega
      have hall : Hid (datW ws = some d) := by
        show _ = _
        have h := hd.out
        rwa [hpe, List.take_of_length_le (by rw [hm.out]; exact Nat.le_refl _)] at h
      clear hpm
      by_cases h0 : m = 0
      · have hw0 : Hid (ws = []) := List.eq_nil_of_length_eq_zero (by rw [hm.out]; exact h0)
        have hz : Hid (¬ 0 < m) := by show ¬ _; omega
        subst hpe
        clear hlt h0
        go_wp2
        go_ret
        exact .inr ⟨fn_bool (decide_eq_false hz.out), .inr hw0.out, K1.out.low, hk.out⟩
      · have hw0 : Hid (ws ≠ []) := fun e => h0 (by rw [← hm.out, e]; rfl)
        have hz : Hid (0 < m) := by show _ < _; omega
        subst hpe
        clear hlt h0
        go_wp2
        go_ret
        exact .inl ⟨vb', d, fn_bool (decide_eq_true hz.out), hall.out, hw0.out, K1.out, hk.out⟩
end Go.Proofs.YthaijjehplomfaaDoor

namespace Go.Proofs.YthaijjehplomfaaDoor
open Go Go.RowKit
set_option linter.unusedVariables false
set_option maxHeartbeats 1000000
set_option maxRecDepth 20000

def putN (F : ByteArray → Option Nat) (s : ByteArray) (a : Nat) : ByteArray → Option Nat := fun t => if t = s then some a else F t
theorem putN_map (F : ByteArray → Option Nat) (s : ByteArray) (a : Nat) : putF (fun t => (F t).map fun x => Value.int .u16 (x : Int)) s (.int .u16 (a : Int)) = fun t => (putN F s a t).map fun x => Value.int .u16 (x : Int) := by
  funext t
  unfold putF putN
  split <;> rfl
theorem Pg.putMap {w : World} {P g : Nat} {vb vu : Value} {bs : List UInt8} {F : ByteArray → Option Nat} {us : List Us} {y z : World} (h : Pg w P g vb vu bs F us y) (s : ByteArray) (a : Nat)
    (k : MapF z g (putF (fun t => (F t).map fun x => Value.int .u16 (x : Int)) s (.int .u16 (a : Int))) ∧ (∀ q, q ≠ g → z.heap[q]? = y.heap[q]?) ∧ ∀ B, B ≤ g → Below B y z) : Pg w P g vb vu bs (putN F s a) us z ∧ Kp y z := by
  obtain ⟨k1, k2, k3⟩ := k
  rw [putN_map] at k1
  have ne : ∀ q cs t, Bx y q cs t → q ≠ g := fun q cs t hx e => map_ne h.mp hx e.symm
  refine ⟨⟨(k2 P (ne _ _ _ h.box)).trans h.box, h.bs.keepB fun q e => ?_, k1, h.us.keepB fun q e => ?_, h.geP, h.geg, h.low.trans (k3 _ h.geg)⟩, (k3 0 (Nat.zero_le _)).size, fun q o hx hr => (k2 q (rec_nm hx hr h.mp)).trans hx, fun q cs t hx _ _ _ => (k2 q (ne q cs t hx)).trans hx⟩
  · obtain ⟨cs, hx⟩ := h.bs.ty q e
    exact k2 q (ne q cs _ hx)
  · obtain ⟨cs, hx⟩ := h.us.ty q e
    exact k2 q (ne q cs _ hx)
def TlE (w : World) (P g : Nat) (vb vu : Value) (bs : List UInt8) (F : ByteArray → Option Nat) (us : List Us) (y : World) (s : ByteArray) (e : Ending) (z : World) : Prop :=
  (e = .returned (.bool true) ∧ F s = none ∧ isNm s = true ∧ Pg w P g vb vu bs (putN F s (512 + bs.length)) us z ∧ Kp y z) ∨ (e = .returned (.bool false) ∧ ((F s).isSome = true ∨ isNm s = false) ∧ Below w.heap.size w z ∧ Kp y z)
theorem zeroU16 (w : World) : (zeroValue 27).run Tryd.prog w = .ok (.int .u16 0) w := by kernel_rfl
theorem label_any (w y : World) (P g : Nat) (vb vu : Value) (bs : List UInt8) (F : ByteArray → Option Nat) (us : List Us) (K : Hid (Pg w P g vb vu bs F us y)) (hbs : bs.length ≤ 3232) (s : ByteArray) :
    Calls Tryd.prog 48 #[.pointer (some ⟨P, 0, none⟩), .string s] y (TlE w P g vb vu bs F us y s) := by
  have hlk := K.out.mp.look (P := Tryd.prog) (mt := 74) (kt := 9) (et := 27) Tryd.underlying74 Tryd.underlying9 s (.int .u16 0) (zeroU16 y)
  have d1 := K.out.box.c 1 (.map (some g)) rfl
  have hI := fun z => pisname_any s z
  rcases hF : F s with _ | a
  · rw [hF] at hlk
    have hlk : (Instr.lookup 74 (.map (some g)) (.string s) true).run Tryd.prog y = .ok (.tuple #[.int .u16 0, .bool false]) y := hlk
    rcases hn : isNm s with _ | _
    · rw [hn] at hI
      clear hbs
      go_enter Tryd.func48, Tryd.ntmps48
      go_wp2_with (go_at_call 74; refine (hI _).mono ?_; rintro e y ⟨rfl, rfl⟩)
      go_ret
      exact .inr ⟨rfl, .inr hn, K.out.low, Kp.refl _⟩
    · rw [hn] at hI
      obtain ⟨spb, capb, hvb, _, _, _, _⟩ := K.out.bs.open kU.len
      obtain ⟨n, hn9⟩ : ∃ n, Hid (bs.length = n) := ⟨_, (rfl : bs.length = _)⟩
      rw [hn9.out] at hvb hbs
      subst hvb
      have d0 := K.out.box.c 0 (.slice spb n capb) rfl
      have hni : (n : Int) ≤ 3232 := by omega
      have hw1 : IntKind.i64.wrap (512 + (n : Int)) = 512 + (n : Int) := by rw [IntKind.wrap_i64]; omega
      have hcv : ∀ z, (convert 3 27 (.int .i64 (512 + (n : Int)))).run Tryd.prog z = .ok (.int .u16 ((512 + n : Nat) : Int)) z := fun z => by go_simp; rw [IntKind.wrap_u16]; omega
      clear hbs
      go_enter Tryd.func48, Tryd.ntmps48
      go_wp2_with (go_at_call 74; refine (hI _).mono ?_; rintro e y ⟨rfl, rfl⟩)
      refine region_class_tail 12 (fun x => Pg w P g (.slice spb n capb) vu bs F us x ∧ Kp y x) (by kernel_rfl) (by kernel_rfl) ⟨K.out.below ⟨rfl, rfl, rfl, Nat.le_refl _, fun _ _ => rfl⟩, Kp.of_below ⟨rfl, rfl, rfl, Nat.le_refl _, fun _ _ => rfl⟩⟩ ?_
      simp only [List.take_succ_cons, List.take_zero, List.drop_succ_cons, List.drop_zero]
      with_reducible refine quiet_one (.pointer (some ⟨P, 0, none⟩)) ?_ ?_ ?_
      · kernel_rfl
      · intro u hy
        go_simp
      with_reducible refine quiet_one (.pointer (some ⟨P, 0, none⟩)) ?_ ?_ ?_
      · kernel_rfl
      · intro u hy
        go_simp
      with_reducible refine quiet_one (.pointer (some ⟨P, 1, none⟩)) ?_ ?_ ?_
      · kernel_rfl
      · intro u hy
        go_simp
      with_reducible refine quiet_one (.map (some g)) ?_ ?_ ?_
      · kernel_rfl
      · intro u hy
        have x := hy.1.box.c 1 (.map (some g)) rfl
        go_simp
      with_reducible refine quiet_one (.string s) ?_ ?_ ?_
      · kernel_rfl
      · intro u hy
        go_simp
      with_reducible refine quiet_one (.pointer (some ⟨P, 0, none⟩)) ?_ ?_ ?_
      · kernel_rfl
      · intro u hy
        go_simp
      with_reducible refine quiet_one (.pointer (some ⟨P, 0, none⟩)) ?_ ?_ ?_
      · kernel_rfl
      · intro u hy
        go_simp
      with_reducible refine quiet_one (.pointer (some ⟨P, 0, none⟩)) ?_ ?_ ?_
      · kernel_rfl
      · intro u hy
        go_simp
      with_reducible refine quiet_one (.slice spb n capb) ?_ ?_ ?_
      · kernel_rfl
      · intro u hy
        have x := hy.1.box.c 0 (.slice spb n capb) rfl
        go_simp
      with_reducible refine quiet_one (.int .i64 (n : Int)) ?_ ?_ ?_
      · kernel_rfl
      · intro u hy
        go_simp
      with_reducible refine quiet_one (.int .i64 (512 + (n : Int))) ?_ ?_ ?_
      · kernel_rfl
      · intro u hy
        go_simp
        try exact hw1
      with_reducible refine quiet_one (.int .u16 ((512 + n : Nat) : Int)) ?_ ?_ ?_
      · kernel_rfl
      · intro u hy
        go_simp
      refine wpQuiet_nil ?_
      intro z0 K0
      have hk0 : Hid (Kp y z0) := K0.2
      have K0 : Hid (Pg w P g (.slice spb n capb) vu bs F us z0) := K0.1
      go_simp
      go_wp2_with ((with_reducible refine at_put (P := Tryd.prog) (mt := 74) (kt := 9) (et := 27) ?_ (.tmp 25) (.tmp 26) (.tmp 33) ?_ Tryd.underlying74 Tryd.underlying9 g (fun t => (F t).map fun x => Value.int .u16 (x : Int)) s (.int .u16 ((512 + n : Nat) : Int)) ?_ ?_ ?_ ?_ ?_); rfl; exact .inl rfl; exact K0.out.mp; rfl; rfl; rfl; intro z1 hz1; have K1 : Hid (Pg w P g (.slice spb n capb) vu bs (putN F s (512 + n)) us z1 ∧ Kp z0 z1) := K0.out.putMap s (512 + n) hz1.out)
      go_ret
      exact .inl ⟨rfl, hF, hn, by rw [hn9.out]; exact K1.out.1, hk0.out.trans K1.out.2⟩
  · rw [hF] at hlk
    have hlk : (Instr.lookup 74 (.map (some g)) (.string s) true).run Tryd.prog y = .ok (.tuple #[.int .u16 (a : Int), .bool true]) y := hlk
    clear hbs
    go_enter Tryd.func48, Tryd.ntmps48
    go_wp2
    go_ret
    exact .inr ⟨rfl, .inl (by rw [hF]; rfl), K.out.low, Kp.refl _⟩
end Go.Proofs.YthaijjehplomfaaDoor
