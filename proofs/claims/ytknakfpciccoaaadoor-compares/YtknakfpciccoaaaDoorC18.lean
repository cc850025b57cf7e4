/- The walks of Is, of the reference's Compare and of the program's. -/
import Derived.Test.YtknakfpciccoaaaDoorC2
import Derived.Test.YtknakfpciccoaaaDoorC3
import Derived.Test.YtknakfpciccoaaaDoorC10
import Derived.Test.YtknakfpciccoaaaDoorC14
import Derived.Test.YtknakfpciccoaaaDoorC15
import Derived.Test.YtknakfpciccoaaaDoorC17
import Derived.Test.YtknakfpciccoaaaDoorM3
namespace Go.Proofs.YtknakfpciccoaaaDoor
open Go.RowKit

set_option maxHeartbeats 1000000 in
set_option maxRecDepth 100000 in
theorem Is_any (f : Nat) (v : Value) (t : T) (w : World) (h : At w f v t) :
    Calls Tryd.prog 34 #[v] w fun e w' => e = .returned (.bool (isR f t)) ∧ Below w.heap.size w w' := by
  have HA := hid h
  obtain ⟨g, La, Ka, Lc, Kc, hg, rfl, hf, hl, hk⟩ := h.open
  clear h hf hl hk hg
  have HB1 : Hid (Below w.heap.size w (w.alloc (.cells #[.int .i64 (kindOf t), .int .i64 (nOf t), .string (sOf t), .slice La (nL t) Lc, .slice Ka (nK t) Kc] 26))) := (Below.refl _ _).alloc (Nat.le_refl _) _
  have HR : Hid (isR f t = (decide (0 ≤ roomT 14 t 1048576) && decide (deepT 16 t ≤ 12) && formT 15 t && !twiceT f t)) := rfl
  go_enter Tryd.func34, Tryd.ntmps34
  go_wp2_with fail
  rw [show (Value.int .i64 13) = .int .i64 (((14 : Nat) : Int) - 1) from rfl]
  refine (room_any 14 _ _ t 1048576 _ (HA.out.keep HB1.out) (by omega) (by omega) (by omega)).mono ?_
  rintro e w2 ⟨rfl, b2, x0, x1⟩
  have HB2 : Hid (Below (w.heap.size + 1) (w.alloc (.cells #[.int .i64 (kindOf t), .int .i64 (nOf t), .string (sOf t), .slice La (nL t) Lc, .slice Ka (nK t) Kc] 26)) w2) := b2.mono (by simp)
  obtain ⟨q0, q1, q2, q3, q4, hz, hbw⟩ := box_facts HB2.out
  have Hbw := hid hbw
  clear b2 hbw
  generalize hx : roomT 14 t 1048576 = x at x0 x1 ⊢
  have HX := hid hx
  clear hx
  by_cases hn : x < 0
  · have HE : Hid (isR f t = false) := by show _ = _; rw [HR.out, HX.out, decide_eq_false (by omega)]; rfl
    go_wp2_with fail
    go_ret
    exact ⟨ret_bool HE.out.symm, Hbw.out⟩
  have hd0 := deepT_le 16 t
  go_wp2_with fail
  refine (Deep_any _ _ t _ (HA.out.keep Hbw.out)).mono ?_
  rintro e w3 ⟨rfl, b3⟩
  have HB3 : Hid (Below (w.heap.size + 1) (w.alloc (.cells #[.int .i64 (kindOf t), .int .i64 (nOf t), .string (sOf t), .slice La (nL t) Lc, .slice Ka (nK t) Kc] 26)) w3) := HB2.out.trans (b3.mono (by omega))
  clear q0 q1 q2 q3 q4 hz b3 Hbw HB2
  obtain ⟨q0, q1, q2, q3, q4, hz, hbw⟩ := box_facts HB3.out
  have Hbw := hid hbw
  clear hbw
  generalize hy : deepT 16 t = y at hd0 ⊢
  have HY := hid hy
  clear hy
  by_cases hm : 12 < y
  · have HE : Hid (isR f t = false) := by show _ = _; rw [HR.out, HY.out, decide_eq_false (show ¬ y ≤ 12 by omega)]; simp
    go_wp2_with fail
    go_ret
    exact ⟨ret_bool HE.out.symm, Hbw.out⟩
  go_wp2_with fail
  rw [show (Value.int .i64 14) = .int .i64 (((15 : Nat) : Int) - 1) from rfl]
  refine (form_any 15 _ _ t _ (HA.out.keep Hbw.out) (by omega)).mono ?_
  rintro e w4 ⟨rfl, b4⟩
  have HB4 : Hid (Below (w.heap.size + 1) (w.alloc (.cells #[.int .i64 (kindOf t), .int .i64 (nOf t), .string (sOf t), .slice La (nL t) Lc, .slice Ka (nK t) Kc] 26)) w4) := HB3.out.trans (b4.mono (by omega))
  clear q0 q1 q2 q3 q4 hz b4 Hbw HB3
  obtain ⟨q0, q1, q2, q3, q4, hz, hbw⟩ := box_facts HB4.out
  have Hbw := hid hbw
  clear hbw
  cases hv : formT 15 t with
  | false =>
    have HE : Hid (isR f t = false) := by show _ = _; rw [HR.out, hv]; simp
    clear hv
    go_wp2_with fail
    go_ret
    exact ⟨ret_bool HE.out.symm, Hbw.out⟩
  | true =>
    have HE : Hid (isR f t = !twiceT f t) := by show _ = _; rw [HR.out, hv, HX.out, HY.out, decide_eq_true (show 0 ≤ x by omega), decide_eq_true (show y ≤ 12 by omega)]; rfl
    clear hv
    go_wp2_with fail
    refine (twice_any f _ t _ (HA.out.keep Hbw.out)).mono ?_
    rintro e w5 ⟨rfl, b5⟩
    have HB5 : Hid (Below w.heap.size w w5) := Hbw.out.trans (b5.mono (Nat.le_of_lt hz))
    clear b5
    go_wp2_with fail
    go_ret
    exact ⟨ret_bool HE.out.symm, HB5.out⟩

/-- What is answered: the order of two values, or the error. -/
def ansN (ok : Bool) (n : Int) : Int := if ok then n else 0
def ansE (ok : Bool) : Int := if ok then 0 else 5

set_option maxHeartbeats 1000000 in
set_option maxRecDepth 100000 in
theorem refCompare_any (f g : Nat) (va vb : Value) (a b : T) (w : World) (h : At w f va a) (h' : At w g vb b) :
    Calls Tryd.prog 18 #[va, vb] w fun e w' => e = .returned (.tuple #[.int .i64 (ansN (isR f a && isR g b) (ordT f a b)), .int .i64 (ansE (isR f a && isR g b))]) ∧ Below w.heap.size w w' := by
  have HA := hid h
  have HA' := hid h'
  have HS := hid h.shal
  have HS' := hid h'.shal
  obtain ⟨f1, La, Ka, Lc, Kc, hf1, rfl, hf, hl, hk⟩ := h.open
  obtain ⟨g1, Ma, Na, Mc, Nc, hg1, rfl, hf', hl', hk'⟩ := h'.open
  clear h h' hf hf' hf1 hg1 hl hk hl' hk'
  have HB1 : Hid (Below w.heap.size w ((w.alloc (.cells #[.int .i64 (kindOf a), .int .i64 (nOf a), .string (sOf a), .slice La (nL a) Lc, .slice Ka (nK a) Kc] 26)).alloc (.cells #[.int .i64 (kindOf b), .int .i64 (nOf b), .string (sOf b), .slice Ma (nL b) Mc, .slice Na (nK b) Nc] 26))) := ((Below.refl _ _).alloc (Nat.le_refl _) _).alloc (by simp) _
  go_enter Tryd.func18, Tryd.ntmps18
  go_wp2_with fail
  refine (Is_any f _ a _ (HA.out.keep HB1.out)).mono ?_
  rintro e w2 ⟨rfl, b2⟩
  have HB2 : Hid (Below (w.heap.size + 2) ((w.alloc (.cells #[.int .i64 (kindOf a), .int .i64 (nOf a), .string (sOf a), .slice La (nL a) Lc, .slice Ka (nK a) Kc] 26)).alloc (.cells #[.int .i64 (kindOf b), .int .i64 (nOf b), .string (sOf b), .slice Ma (nL b) Mc, .slice Na (nK b) Nc] 26)) w2) := b2.mono (by simp)
  obtain ⟨⟨q0, q1, q2, q3, q4⟩, ⟨r0, r1, r2, r3, r4⟩, hz, hbw⟩ := box2_facts HB2.out
  have Hbw := hid hbw
  clear b2 hbw
  go_wp2_with fail
  refine (Is_any g _ b _ (HA'.out.keep Hbw.out)).mono ?_
  rintro e w3 ⟨rfl, b3⟩
  have HB3 : Hid (Below (w.heap.size + 2) ((w.alloc (.cells #[.int .i64 (kindOf a), .int .i64 (nOf a), .string (sOf a), .slice La (nL a) Lc, .slice Ka (nK a) Kc] 26)).alloc (.cells #[.int .i64 (kindOf b), .int .i64 (nOf b), .string (sOf b), .slice Ma (nL b) Mc, .slice Na (nK b) Nc] 26)) w3) := HB2.out.trans (b3.mono (by omega))
  clear q0 q1 q2 q3 q4 r0 r1 r2 r3 r4 hz b3 Hbw HB2
  obtain ⟨⟨q0, q1, q2, q3, q4⟩, ⟨r0, r1, r2, r3, r4⟩, hz, hbw⟩ := box2_facts HB3.out
  have Hbw := hid hbw
  clear hbw
  cases hi : isR f a with
  | false =>
    have Hi := hid hi
    clear hi
    go_wp2_with fail
    go_ret2
    exact ⟨by rw [Hi.out]; rfl, Hbw.out⟩
  | true =>
    have Hi := hid hi
    clear hi
    cases hj : isR g b with
    | false =>
      have Hj := hid hj
      clear hj
      go_wp2_with fail
      go_ret2
      exact ⟨by rw [Hi.out, Hj.out]; rfl, Hbw.out⟩
    | true =>
      have Hj := hid hj
      clear hj
      go_wp2_with fail
      refine (Order_any f g _ _ a b _ (HA.out.keep Hbw.out) (HA'.out.keep Hbw.out) (good_okK f 12 a ((isR_iff f a HS.out).1 Hi.out).1) (good_okK f 12 b ((isR_iff g b HS'.out).1 Hj.out).1)).mono ?_
      rintro e w4 ⟨rfl, b4⟩
      have HB4 : Hid (Below w.heap.size w w4) := Hbw.out.trans (b4.mono (by omega))
      clear b4
      go_wp2_with fail
      go_ret2
      exact ⟨by rw [Hi.out, Hj.out]; rfl, HB4.out⟩

set_option maxHeartbeats 1000000 in
set_option maxRecDepth 100000 in
theorem tCompare_any {Tb : World → Prop} (hV : ValidSaid Tb) (hL : Lies Tb) (f g : Nat) (va vb : Value) (a b : T) (w : World) (h : At w f va a) (h' : At w g vb b) (hT : Tb w) :
    Calls Tryd.prog 15 #[va, vb] w fun e w' => e = .returned (.tuple #[.int .i64 (ansN (isV a && isV b) (cmpT f a b)), .int .i64 (ansE (isV a && isV b))]) ∧ Below w.heap.size w w' := by
  have HA := hid h
  have HA' := hid h'
  have HT := hid hT
  obtain ⟨f1, La, Ka, Lc, Kc, hf1, rfl, hf, hl, hk⟩ := h.open
  obtain ⟨g1, Ma, Na, Mc, Nc, hg1, rfl, hf', hl', hk'⟩ := h'.open
  clear h h' hf hf' hf1 hg1 hl hk hl' hk' hT
  have HB1 : Hid (Below w.heap.size w ((w.alloc (.cells #[.int .i64 (kindOf a), .int .i64 (nOf a), .string (sOf a), .slice La (nL a) Lc, .slice Ka (nK a) Kc] 26)).alloc (.cells #[.int .i64 (kindOf b), .int .i64 (nOf b), .string (sOf b), .slice Ma (nL b) Mc, .slice Na (nK b) Nc] 26))) := ((Below.refl _ _).alloc (Nat.le_refl _) _).alloc (by simp) _
  go_enter Tryd.func15, Tryd.ntmps15
  go_wp2_with fail
  refine (isValue_any hV hL f _ a _ (HA.out.keep HB1.out) (hL w HT.out _ _ HT.out HB1.out)).mono ?_
  rintro e w2 ⟨rfl, b2⟩
  have HB2 : Hid (Below (w.heap.size + 2) ((w.alloc (.cells #[.int .i64 (kindOf a), .int .i64 (nOf a), .string (sOf a), .slice La (nL a) Lc, .slice Ka (nK a) Kc] 26)).alloc (.cells #[.int .i64 (kindOf b), .int .i64 (nOf b), .string (sOf b), .slice Ma (nL b) Mc, .slice Na (nK b) Nc] 26)) w2) := b2.mono (by simp)
  obtain ⟨⟨q0, q1, q2, q3, q4⟩, ⟨r0, r1, r2, r3, r4⟩, hz, hbw⟩ := box2_facts HB2.out
  have Hbw := hid hbw
  clear b2 hbw
  cases hi : isV a with
  | false =>
    have Hi := hid hi
    clear hi
    go_wp2_with fail
    go_ret2
    exact ⟨by rw [Hi.out]; rfl, Hbw.out⟩
  | true =>
    have Hi := hid hi
    clear hi
    go_wp2_with fail
    refine (isValue_any hV hL g _ b _ (HA'.out.keep Hbw.out) (hL w HT.out _ _ HT.out Hbw.out)).mono ?_
    rintro e w3 ⟨rfl, b3⟩
    have HB3 : Hid (Below (w.heap.size + 2) ((w.alloc (.cells #[.int .i64 (kindOf a), .int .i64 (nOf a), .string (sOf a), .slice La (nL a) Lc, .slice Ka (nK a) Kc] 26)).alloc (.cells #[.int .i64 (kindOf b), .int .i64 (nOf b), .string (sOf b), .slice Ma (nL b) Mc, .slice Na (nK b) Nc] 26)) w3) := HB2.out.trans (b3.mono (by omega))
    clear q0 q1 q2 q3 q4 r0 r1 r2 r3 r4 hz b3 Hbw HB2
    obtain ⟨⟨q0, q1, q2, q3, q4⟩, ⟨r0, r1, r2, r3, r4⟩, hz, hbw⟩ := box2_facts HB3.out
    have Hbw := hid hbw
    clear hbw
    cases hj : isV b with
    | false =>
      have Hj := hid hj
      clear hj
      go_wp2_with fail
      go_ret2
      exact ⟨by rw [Hi.out, Hj.out]; rfl, Hbw.out⟩
    | true =>
      have Hj := hid hj
      clear hj
      go_wp2_with fail
      refine (compare_any f g _ _ a b _ (HA.out.keep Hbw.out) (HA'.out.keep Hbw.out) (good_okK f 12 a ((isV_iff a).1 Hi.out).1) (good_okK f 12 b ((isV_iff b).1 Hj.out).1)).mono ?_
      rintro e w4 ⟨rfl, b4⟩
      have HB4 : Hid (Below w.heap.size w w4) := Hbw.out.trans (b4.mono (by omega))
      clear b4
      go_wp2_with fail
      go_ret2
      exact ⟨by rw [Hi.out, Hj.out]; rfl, HB4.out⟩
end Go.Proofs.YtknakfpciccoaaaDoor
