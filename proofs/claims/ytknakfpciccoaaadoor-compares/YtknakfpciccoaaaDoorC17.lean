/- The walk of compare. -/
import Derived.Test.YtknakfpciccoaaaDoorC16
namespace Go.Proofs.YtknakfpciccoaaaDoor
open Go.RowKit

set_option maxHeartbeats 2000000 in
set_option maxRecDepth 100000 in
theorem compare_any (f : Nat) : CmpSaid f := by
  induction f with
  | zero => intro g va vb a b w h; exact h.elim
  | succ f ih =>
    intro g va vb a b w h h' ka kb
    have HA := hid h
    have HA' := hid h'
    obtain ⟨f1, La, Ka, Lc, Kc, hf1, rfl, hf, hl, hk⟩ := h.open
    obtain rfl : f = f1 := by omega
    obtain ⟨g1, Ma, Na, Mc, Nc, hg1, rfl, hf', hl', hk'⟩ := h'.open
    have hlen := hf.l1
    have hlen' := hf'.l1
    have HKa := hid ka
    have HKb := hid kb
    have Hih := hid ih
    have HB1 : Hid (Below w.heap.size w ((w.alloc (.cells #[.int .i64 (kindOf a), .int .i64 (nOf a), .string (sOf a), .slice La (nL a) Lc, .slice Ka (nK a) Kc] 26)).alloc (.cells #[.int .i64 (kindOf b), .int .i64 (nOf b), .string (sOf b), .slice Ma (nL b) Mc, .slice Na (nK b) Nc] 26))) := ((Below.refl _ _).alloc (Nat.le_refl _) _).alloc (by simp) _
    clear h h' hf hf' hf1 hg1 ka kb ih hk hk'
    by_cases k1 : kindOf a = kindOf b
    · have e1 : (kindOf a != kindOf b) = false := by simp [k1]
      by_cases k0 : kindOf a = 2
      · have HR : Hid (cmpT (f + 1) a b = cmpI (nOf a) (nOf b)) := by show cmpT (f + 1) a b = _; simp [cmpT, ← k1, k0]
        have g2 : (kindOf a == 2) = true := by rw [k0]; rfl
        have g3 : (kindOf a == 3) = false := by rw [k0]; rfl
        have g4 : (kindOf a == 4) = false := by rw [k0]; rfl
        have g5 : (kindOf a == 5) = false := by rw [k0]; rfl
        have g6 : (kindOf a == 6) = false := by rw [k0]; rfl
        clear k0 k1
        go_enter Tryd.func36, Tryd.ntmps36
        go_wp2_with fail
        refine (cmpInt64_any _ _ _).mono ?_
        rintro e w2 ⟨rfl, rfl⟩
        go_wp2_with fail
        go_ret
        exact ⟨ret_int (by rw [HR.out]), HB1.out⟩
      by_cases k0 : kindOf a = 3
      · have HR : Hid (cmpT (f + 1) a b = cmpI (nOf a) (nOf b)) := by show cmpT (f + 1) a b = _; simp [cmpT, ← k1, k0]
        have g2 : (kindOf a == 2) = false := by rw [k0]; rfl
        have g3 : (kindOf a == 3) = true := by rw [k0]; rfl
        have g4 : (kindOf a == 4) = false := by rw [k0]; rfl
        have g5 : (kindOf a == 5) = false := by rw [k0]; rfl
        have g6 : (kindOf a == 6) = false := by rw [k0]; rfl
        clear k0 k1
        go_enter Tryd.func36, Tryd.ntmps36
        go_wp2_with fail
        refine (cmpInt64_any _ _ _).mono ?_
        rintro e w2 ⟨rfl, rfl⟩
        go_wp2_with fail
        go_ret
        exact ⟨ret_int (by rw [HR.out]), HB1.out⟩
      by_cases k0 : kindOf a = 4
      · have HR : Hid (cmpT (f + 1) a b = cmpS (sOf a) (sOf b)) := by show cmpT (f + 1) a b = _; simp [cmpT, ← k1, k0]
        have g2 : (kindOf a == 2) = false := by rw [k0]; rfl
        have g3 : (kindOf a == 3) = false := by rw [k0]; rfl
        have g4 : (kindOf a == 4) = true := by rw [k0]; rfl
        have g5 : (kindOf a == 5) = false := by rw [k0]; rfl
        have g6 : (kindOf a == 6) = false := by rw [k0]; rfl
        clear k0 k1
        go_enter Tryd.func36, Tryd.ntmps36
        go_wp2_with fail
        refine (cmpString_any _ _ _).mono ?_
        rintro e w2 ⟨rfl, rfl⟩
        go_wp2_with fail
        go_ret
        exact ⟨ret_int (by rw [HR.out]), HB1.out⟩
      by_cases k0 : kindOf a = 5
      · have HR : Hid (cmpT (f + 1) a b = ordE (cmpT f) a b) := by show cmpT (f + 1) a b = _; simp [cmpT, ← k1, k0, isBox]
        have g2 : (kindOf a == 2) = false := by rw [k0]; rfl
        have g3 : (kindOf a == 3) = false := by rw [k0]; rfl
        have g4 : (kindOf a == 4) = false := by rw [k0]; rfl
        have g5 : (kindOf a == 5) = true := by rw [k0]; rfl
        have g6 : (kindOf a == 6) = false := by rw [k0]; rfl
        have K5 : Hid (kindOf a ≠ 6) := by show kindOf a ≠ 6; omega
        clear k0 k1
        go_enter Tryd.func36, Tryd.ntmps36
        go_wp2_with fail
        refine (CompareFunc_any f Hih.out _ La Ma Lc Mc a b _ (hl.out.keep HB1.out) (hl'.out.keep HB1.out) hlen hlen' K5.out HKa.out.2 HKb.out.2).mono ?_
        rintro e w2 ⟨rfl, hb2⟩
        have HB2 := hid (HB1.out.trans (hb2.mono HB1.out.size))
        clear hb2
        go_wp2_with fail
        go_ret
        exact ⟨ret_int (by rw [HR.out]), HB2.out⟩
      by_cases k0 : kindOf a = 6
      · have HR : Hid (cmpT (f + 1) a b = ordE (cmpT f) a b) := by show cmpT (f + 1) a b = _; simp [cmpT, ← k1, k0, isBox]
        have g2 : (kindOf a == 2) = false := by rw [k0]; rfl
        have g3 : (kindOf a == 3) = false := by rw [k0]; rfl
        have g4 : (kindOf a == 4) = false := by rw [k0]; rfl
        have g5 : (kindOf a == 5) = false := by rw [k0]; rfl
        have g6 : (kindOf a == 6) = true := by rw [k0]; rfl
        have K6 := hid k0
        have K6b : Hid (kindOf b = 6) := by show kindOf b = 6; omega
        clear k0 k1
        go_enter Tryd.func36, Tryd.ntmps36
        go_wp2_with fail
        refine (compareObjects_any f Hih.out _ _ _ a b _ (HA.out.keep HB1.out) (HA'.out.keep HB1.out) HKa.out HKb.out K6.out K6b.out).mono ?_
        rintro e w2 ⟨rfl, hb2⟩
        have HB2 := hid (HB1.out.trans (hb2.mono HB1.out.size))
        clear hb2
        go_wp2_with fail
        go_ret
        exact ⟨ret_int (by rw [HR.out]), HB2.out⟩
      have HR : Hid (cmpT (f + 1) a b = 0) := by
        show cmpT (f + 1) a b = _
        simp only [cmpT, isBox]
        rw [if_neg (by omega), if_neg (by omega), if_neg (by omega)]
        exact if_neg (by simp; omega)
      have g2 : (kindOf a == 2) = false := by simp; omega
      have g3 : (kindOf a == 3) = false := by simp; omega
      have g4 : (kindOf a == 4) = false := by simp; omega
      have g5 : (kindOf a == 5) = false := by simp; omega
      have g6 : (kindOf a == 6) = false := by simp; omega
      clear k1
      go_enter Tryd.func36, Tryd.ntmps36
      go_wp2_with fail
      go_ret
      exact ⟨ret_int (by rw [HR.out]), HB1.out⟩
    · have e1 : (kindOf a != kindOf b) = true := by simpa using k1
      have HR : Hid (cmpT (f + 1) a b = cmpI (kindOf a) (kindOf b)) := by show cmpT (f + 1) a b = _; simp only [cmpT]; rw [if_pos k1]
      clear k1
      go_enter Tryd.func36, Tryd.ntmps36
      go_wp2_with fail
      refine (cmpInt_any _ _ _).mono ?_
      rintro e w2 ⟨rfl, rfl⟩
      go_wp2_with fail
      go_ret
      exact ⟨ret_int (by rw [HR.out]), HB1.out⟩
end Go.Proofs.YtknakfpciccoaaaDoor
