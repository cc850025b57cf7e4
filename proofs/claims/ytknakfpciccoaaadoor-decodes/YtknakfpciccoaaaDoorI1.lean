/- The walk of Is: is it a value? -/
import Derived.Test.YtknakfpciccoaaaDoorC2
import Derived.Test.YtknakfpciccoaaaDoorC3
import Derived.Test.YtknakfpciccoaaaDoorC14
import Derived.Test.YtknakfpciccoaaaDoorM3
namespace Go.Proofs.YtknakfpciccoaaaDoor
open Go.RowKit

set_option maxHeartbeats 1000000 in
set_option maxRecDepth 100000 in
theorem Is_any (f : Nat) (v : Value) (t : T) (w : World) (h : At w f v t) :
    Calls Tryd.prog 34 #[v] w fun e w' => e = .returned (.bool (isR f t)) ∧ Below w.heap.size w w' := by
  have HA := hid h
  obtain ⟨g, La, Ka, Lc, Kc, hg, rfl, hf, hl, hk⟩ := h.open
  clear h hf hl hk hg
  have HB1 : Hid (Below w.heap.size w (w.alloc (.cells #[.int .i64 (kindOf t), .int .i64 (nOf t), .string (sOf t), .slice La (nL t) Lc, .slice Ka (nK t) Kc] 26))) := (Below.refl _ _).alloc (Nat.le_refl _) _
  have HR : Hid (isR f t = (decide (0 ≤ roomT 14 t 1048576) && decide (deepT 16 t ≤ 12) && formT 15 t && !twiceT f t)) := rfl
  go_enter Tryd.func34, Tryd.ntmps34
  go_wp2_with fail
  rw [show (Value.int .i64 13) = .int .i64 (((14 : Nat) : Int) - 1) from rfl]
  refine (room_any 14 _ _ t 1048576 _ (HA.out.keep HB1.out) (by omega) (by omega) (by omega)).mono ?_
  rintro e w2 ⟨rfl, b2, x0, x1⟩
  have HB2 : Hid (Below (w.heap.size + 1) (w.alloc (.cells #[.int .i64 (kindOf t), .int .i64 (nOf t), .string (sOf t), .slice La (nL t) Lc, .slice Ka (nK t) Kc] 26)) w2) := b2.mono (by simp)
  obtain ⟨q0, q1, q2, q3, q4, hz, hbw⟩ := box_facts HB2.out
  have Hbw := hid hbw
  clear b2 hbw
  generalize hx : roomT 14 t 1048576 = x at x0 x1 ⊢
  have HX := hid hx
  clear hx
  by_cases hn : x < 0
  · have HE : Hid (isR f t = false) := by show _ = _; rw [HR.out, HX.out, decide_eq_false (by omega)]; rfl
    go_wp2_with fail
    go_ret
    exact ⟨ret_bool HE.out.symm, Hbw.out⟩
  have hd0 := deepT_le 16 t
  go_wp2_with fail
  refine (Deep_any _ _ t _ (HA.out.keep Hbw.out)).mono ?_
  rintro e w3 ⟨rfl, b3⟩
  have HB3 : Hid (Below (w.heap.size + 1) (w.alloc (.cells #[.int .i64 (kindOf t), .int .i64 (nOf t), .string (sOf t), .slice La (nL t) Lc, .slice Ka (nK t) Kc] 26)) w3) := HB2.out.trans (b3.mono (by omega))
  clear q0 q1 q2 q3 q4 hz b3 Hbw HB2
  obtain ⟨q0, q1, q2, q3, q4, hz, hbw⟩ := box_facts HB3.out
  have Hbw := hid hbw
  clear hbw
  generalize hy : deepT 16 t = y at hd0 ⊢
  have HY := hid hy
  clear hy
  by_cases hm : 12 < y
  · have HE : Hid (isR f t = false) := by show _ = _; rw [HR.out, HY.out, decide_eq_false (show ¬ y ≤ 12 by omega)]; simp
    go_wp2_with fail
    go_ret
    exact ⟨ret_bool HE.out.symm, Hbw.out⟩
  go_wp2_with fail
  rw [show (Value.int .i64 14) = .int .i64 (((15 : Nat) : Int) - 1) from rfl]
  refine (form_any 15 _ _ t _ (HA.out.keep Hbw.out) (by omega)).mono ?_
  rintro e w4 ⟨rfl, b4⟩
  have HB4 : Hid (Below (w.heap.size + 1) (w.alloc (.cells #[.int .i64 (kindOf t), .int .i64 (nOf t), .string (sOf t), .slice La (nL t) Lc, .slice Ka (nK t) Kc] 26)) w4) := HB3.out.trans (b4.mono (by omega))
  clear q0 q1 q2 q3 q4 hz b4 Hbw HB3
  obtain ⟨q0, q1, q2, q3, q4, hz, hbw⟩ := box_facts HB4.out
  have Hbw := hid hbw
  clear hbw
  cases hv : formT 15 t with
  | false =>
    have HE : Hid (isR f t = false) := by show _ = _; rw [HR.out, hv]; simp
    clear hv
    go_wp2_with fail
    go_ret
    exact ⟨ret_bool HE.out.symm, Hbw.out⟩
  | true =>
    have HE : Hid (isR f t = !twiceT f t) := by show _ = _; rw [HR.out, hv, HX.out, HY.out, decide_eq_true (show 0 ≤ x by omega), decide_eq_true (show y ≤ 12 by omega)]; rfl
    clear hv
    go_wp2_with fail
    refine (twice_any f _ t _ (HA.out.keep Hbw.out)).mono ?_
    rintro e w5 ⟨rfl, b5⟩
    have HB5 : Hid (Below w.heap.size w w5) := Hbw.out.trans (b5.mono (Nat.le_of_lt hz))
    clear b5
    go_wp2_with fail
    go_ret
    exact ⟨ret_bool HE.out.symm, HB5.out⟩

end Go.Proofs.YtknakfpciccoaaaDoor
