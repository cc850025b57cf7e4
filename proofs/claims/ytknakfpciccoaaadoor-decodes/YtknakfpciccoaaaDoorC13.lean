/- The walk of form, kind by kind. -/
import Derived.Test.YtknakfpciccoaaaDoorC12
namespace Go.Proofs.YtknakfpciccoaaaDoor
open Go.RowKit

def FormSaid (m : Nat) : Prop := ∀ (f : Nat) (v : Value) (t : T) (w : World), At w f v t → m ≤ 100 →
    Calls Tryd.prog 61 #[v, .int .i64 ((m : Int) - 1)] w fun e w' => e = .returned (.bool (formT m t)) ∧ Below w.heap.size w w'

set_option maxHeartbeats 1000000 in
set_option maxRecDepth 100000 in
theorem form_k1 (m : Nat) (_ih : FormSaid m) (f : Nat) (v : Value) (t : T) (w : World) (h : At w f v t) (hm : m + 1 ≤ 100) (hk0 : kindOf t = 1) :
    Calls Tryd.prog 61 #[v, .int .i64 (((m + 1 : Nat) : Int) - 1)] w fun e w' => e = .returned (.bool (formT (m + 1) t)) ∧ Below w.heap.size w w' := by
  obtain ⟨f, La, Ka, Lc, Kc, rfl, rfl, hf, hl, hk⟩ := h.open
  have hlen := hf.l1
  have klen := hf.m1
  have slen := hf.s1
  clear h hf
  have em : (((m + 1 : Nat) : Int) - 1) = (m : Int) := by omega
  rw [em]
  have e0 : ¬ ((m : Int) < 0) := by omega
  have K0 := hid hk0
  have g1 : (kindOf t == 1) = true := by rw [hk0]; rfl
  have n1 : (kindOf t != 1) = false := by rw [hk0]; rfl
  have g2 : (kindOf t == 2) = false := by rw [hk0]; rfl
  have n2 : (kindOf t != 2) = true := by rw [hk0]; rfl
  have g3 : (kindOf t == 3) = false := by rw [hk0]; rfl
  have n3 : (kindOf t != 3) = true := by rw [hk0]; rfl
  have g4 : (kindOf t == 4) = false := by rw [hk0]; rfl
  have n4 : (kindOf t != 4) = true := by rw [hk0]; rfl
  have g5 : (kindOf t == 5) = false := by rw [hk0]; rfl
  have n5 : (kindOf t != 5) = true := by rw [hk0]; rfl
  have g6 : (kindOf t == 6) = false := by rw [hk0]; rfl
  have n6 : (kindOf t != 6) = true := by rw [hk0]; rfl
  clear hk0
  by_cases ca : nOf t = 0
  · have ea : (nOf t != 0) = false := by simp [ca]
    by_cases cb : noText t = true
    · have eb : (sOf t).toList.isEmpty = true := cb
      by_cases cc : nK t = 0
      · have ec : nK t = 0 := cc
        by_cases cd : nL t = 0
        · have ed : nL t = 0 := cd
          have Ca := hid ca
          have Cb := hid cb
          have Cc := hid cc
          have Cd := hid cd
          clear ca cb cc cd
          have HF : Hid (formT (m + 1) t = allL (formT m) t (nL t)) := by show formT (m + 1) t = _; simp only [formT]; rw [show headF t = true from by simp [headF, K0.out, Ca.out, Cb.out, Cc.out, Cd.out], show kindF t = true from by simp [kindF, K0.out]]; rfl
          go_enter Tryd.func61, Tryd.ntmps61
          go_wp2_with fail
          go_loopg [8] 1 (fun g i wr => i = .int .i64 0 ∧ wr = w.alloc (.cells #[.int .i64 (kindOf t), .int .i64 (nOf t), .string (sOf t), .slice La 0 Lc, .slice Ka 0 Kc] 26))
          case atStart => exact ⟨rfl, rfl⟩
          case round =>
            obtain ⟨rfl, rfl⟩ := hrel
            go_wp2_with fail
            go_ret
            exact ⟨ret_bool (by rw [HF.out, Cd.out]; rfl), (Below.refl _ _).alloc (Nat.le_refl _) _⟩
        · have ed : (0 : Int) < (nL t : Int) := by omega
          have HF : Hid (formT (m + 1) t = false) := formT_head (by simp [headF, K0.out, cd])
          go_enter Tryd.func61, Tryd.ntmps61
          go_wp2_with fail
          go_ret
          exact ⟨ret_bool HF.out.symm, (Below.refl _ _).alloc (Nat.le_refl _) _⟩
      · have ec : (0 : Int) < (nK t : Int) := by omega
        have HF : Hid (formT (m + 1) t = false) := formT_head (by simp [headF, K0.out, cc])
        go_enter Tryd.func61, Tryd.ntmps61
        go_wp2_with fail
        go_ret
        exact ⟨ret_bool HF.out.symm, (Below.refl _ _).alloc (Nat.le_refl _) _⟩
    · have eb : (sOf t).toList.isEmpty = false := by simpa [noText] using cb
      have HF : Hid (formT (m + 1) t = false) := formT_head (by simp [headF, K0.out, cb])
      go_enter Tryd.func61, Tryd.ntmps61
      go_wp2_with fail
      go_ret
      exact ⟨ret_bool HF.out.symm, (Below.refl _ _).alloc (Nat.le_refl _) _⟩
  · have ea : (nOf t != 0) = true := by simpa using ca
    have HF : Hid (formT (m + 1) t = false) := formT_head (by simp [headF, K0.out, ca])
    go_enter Tryd.func61, Tryd.ntmps61
    go_wp2_with fail
    go_ret
    exact ⟨ret_bool HF.out.symm, (Below.refl _ _).alloc (Nat.le_refl _) _⟩

set_option maxHeartbeats 1000000 in
set_option maxRecDepth 100000 in
theorem form_k2 (m : Nat) (_ih : FormSaid m) (f : Nat) (v : Value) (t : T) (w : World) (h : At w f v t) (hm : m + 1 ≤ 100) (hk0 : kindOf t = 2) :
    Calls Tryd.prog 61 #[v, .int .i64 (((m + 1 : Nat) : Int) - 1)] w fun e w' => e = .returned (.bool (formT (m + 1) t)) ∧ Below w.heap.size w w' := by
  obtain ⟨f, La, Ka, Lc, Kc, rfl, rfl, hf, hl, hk⟩ := h.open
  have hlen := hf.l1
  have klen := hf.m1
  have slen := hf.s1
  clear h hf
  have em : (((m + 1 : Nat) : Int) - 1) = (m : Int) := by omega
  rw [em]
  have e0 : ¬ ((m : Int) < 0) := by omega
  have K0 := hid hk0
  have g1 : (kindOf t == 1) = false := by rw [hk0]; rfl
  have n1 : (kindOf t != 1) = true := by rw [hk0]; rfl
  have g2 : (kindOf t == 2) = true := by rw [hk0]; rfl
  have n2 : (kindOf t != 2) = false := by rw [hk0]; rfl
  have g3 : (kindOf t == 3) = false := by rw [hk0]; rfl
  have n3 : (kindOf t != 3) = true := by rw [hk0]; rfl
  have g4 : (kindOf t == 4) = false := by rw [hk0]; rfl
  have n4 : (kindOf t != 4) = true := by rw [hk0]; rfl
  have g5 : (kindOf t == 5) = false := by rw [hk0]; rfl
  have n5 : (kindOf t != 5) = true := by rw [hk0]; rfl
  have g6 : (kindOf t == 6) = false := by rw [hk0]; rfl
  have n6 : (kindOf t != 6) = true := by rw [hk0]; rfl
  clear hk0
  by_cases cb : noText t = true
  · have eb : (sOf t).toList.isEmpty = true := cb
    by_cases cc : nK t = 0
    · have ec : nK t = 0 := cc
      by_cases cd : nL t = 0
      · have ed : nL t = 0 := cd
        have Cb := hid cb
        have Cc := hid cc
        have Cd := hid cd
        clear cb cc cd
        by_cases cn : nOf t = 0 ∨ nOf t = 1
        · have en : (nOf t != 0) = false ∨ (nOf t != 0) = true ∧ (nOf t != 1) = false := by rcases cn with h | h <;> simp [h]
          have HF : Hid (formT (m + 1) t = allL (formT m) t (nL t)) := by show formT (m + 1) t = _; simp only [formT]; rw [show headF t = true from by simp [headF, K0.out, Cb.out, Cc.out, Cd.out], show kindF t = true from by simp [kindF, K0.out, cn]]; rfl
          clear cn
          rcases en with en | ⟨en, en1⟩
          all_goals
            go_enter Tryd.func61, Tryd.ntmps61
            go_wp2_with fail
            go_loopg [8] 1 (fun g i wr => i = .int .i64 0 ∧ wr = w.alloc (.cells #[.int .i64 (kindOf t), .int .i64 (nOf t), .string (sOf t), .slice La 0 Lc, .slice Ka 0 Kc] 26))
            case atStart => exact ⟨rfl, rfl⟩
            case round =>
              obtain ⟨rfl, rfl⟩ := hrel
              go_wp2_with fail
              go_ret
              exact ⟨ret_bool (by rw [HF.out, Cd.out]; rfl), (Below.refl _ _).alloc (Nat.le_refl _) _⟩
        · have en : (nOf t != 0) = true := by simp; omega
          have en1 : (nOf t != 1) = true := by simp; omega
          have HF : Hid (formT (m + 1) t = false) := formT_kind (by simp [kindF, K0.out]; omega)
          clear cn
          go_enter Tryd.func61, Tryd.ntmps61
          go_wp2_with fail
          go_ret
          exact ⟨ret_bool HF.out.symm, (Below.refl _ _).alloc (Nat.le_refl _) _⟩
      · have ed : (0 : Int) < (nL t : Int) := by omega
        have HF : Hid (formT (m + 1) t = false) := formT_head (by simp [headF, K0.out, cd])
        go_enter Tryd.func61, Tryd.ntmps61
        go_wp2_with fail
        go_ret
        exact ⟨ret_bool HF.out.symm, (Below.refl _ _).alloc (Nat.le_refl _) _⟩
    · have ec : (0 : Int) < (nK t : Int) := by omega
      have HF : Hid (formT (m + 1) t = false) := formT_head (by simp [headF, K0.out, cc])
      go_enter Tryd.func61, Tryd.ntmps61
      go_wp2_with fail
      go_ret
      exact ⟨ret_bool HF.out.symm, (Below.refl _ _).alloc (Nat.le_refl _) _⟩
  · have eb : (sOf t).toList.isEmpty = false := by simpa [noText] using cb
    have HF : Hid (formT (m + 1) t = false) := formT_head (by simp [headF, K0.out, cb])
    go_enter Tryd.func61, Tryd.ntmps61
    go_wp2_with fail
    go_ret
    exact ⟨ret_bool HF.out.symm, (Below.refl _ _).alloc (Nat.le_refl _) _⟩

set_option maxHeartbeats 1000000 in
set_option maxRecDepth 100000 in
theorem form_k3 (m : Nat) (_ih : FormSaid m) (f : Nat) (v : Value) (t : T) (w : World) (h : At w f v t) (hm : m + 1 ≤ 100) (hk0 : kindOf t = 3) :
    Calls Tryd.prog 61 #[v, .int .i64 (((m + 1 : Nat) : Int) - 1)] w fun e w' => e = .returned (.bool (formT (m + 1) t)) ∧ Below w.heap.size w w' := by
  obtain ⟨f, La, Ka, Lc, Kc, rfl, rfl, hf, hl, hk⟩ := h.open
  have hlen := hf.l1
  have klen := hf.m1
  have slen := hf.s1
  clear h hf
  have em : (((m + 1 : Nat) : Int) - 1) = (m : Int) := by omega
  rw [em]
  have e0 : ¬ ((m : Int) < 0) := by omega
  have K0 := hid hk0
  have g1 : (kindOf t == 1) = false := by rw [hk0]; rfl
  have n1 : (kindOf t != 1) = true := by rw [hk0]; rfl
  have g2 : (kindOf t == 2) = false := by rw [hk0]; rfl
  have n2 : (kindOf t != 2) = true := by rw [hk0]; rfl
  have g3 : (kindOf t == 3) = true := by rw [hk0]; rfl
  have n3 : (kindOf t != 3) = false := by rw [hk0]; rfl
  have g4 : (kindOf t == 4) = false := by rw [hk0]; rfl
  have n4 : (kindOf t != 4) = true := by rw [hk0]; rfl
  have g5 : (kindOf t == 5) = false := by rw [hk0]; rfl
  have n5 : (kindOf t != 5) = true := by rw [hk0]; rfl
  have g6 : (kindOf t == 6) = false := by rw [hk0]; rfl
  have n6 : (kindOf t != 6) = true := by rw [hk0]; rfl
  clear hk0
  by_cases cb : noText t = true
  · have eb : (sOf t).toList.isEmpty = true := cb
    by_cases cc : nK t = 0
    · have ec : nK t = 0 := cc
      by_cases cd : nL t = 0
      · have ed : nL t = 0 := cd
        have Cb := hid cb
        have Cc := hid cc
        have Cd := hid cd
        clear cb cc cd
        have HF : Hid (formT (m + 1) t = allL (formT m) t (nL t)) := by show formT (m + 1) t = _; simp only [formT]; rw [show headF t = true from by simp [headF, K0.out, Cb.out, Cc.out, Cd.out], show kindF t = true from by simp [kindF, K0.out]]; rfl
        go_enter Tryd.func61, Tryd.ntmps61
        go_wp2_with fail
        go_loopg [8] 1 (fun g i wr => i = .int .i64 0 ∧ wr = w.alloc (.cells #[.int .i64 (kindOf t), .int .i64 (nOf t), .string (sOf t), .slice La 0 Lc, .slice Ka 0 Kc] 26))
        case atStart => exact ⟨rfl, rfl⟩
        case round =>
          obtain ⟨rfl, rfl⟩ := hrel
          go_wp2_with fail
          go_ret
          exact ⟨ret_bool (by rw [HF.out, Cd.out]; rfl), (Below.refl _ _).alloc (Nat.le_refl _) _⟩
      · have ed : (0 : Int) < (nL t : Int) := by omega
        have HF : Hid (formT (m + 1) t = false) := formT_head (by simp [headF, K0.out, cd])
        go_enter Tryd.func61, Tryd.ntmps61
        go_wp2_with fail
        go_ret
        exact ⟨ret_bool HF.out.symm, (Below.refl _ _).alloc (Nat.le_refl _) _⟩
    · have ec : (0 : Int) < (nK t : Int) := by omega
      have HF : Hid (formT (m + 1) t = false) := formT_head (by simp [headF, K0.out, cc])
      go_enter Tryd.func61, Tryd.ntmps61
      go_wp2_with fail
      go_ret
      exact ⟨ret_bool HF.out.symm, (Below.refl _ _).alloc (Nat.le_refl _) _⟩
  · have eb : (sOf t).toList.isEmpty = false := by simpa [noText] using cb
    have HF : Hid (formT (m + 1) t = false) := formT_head (by simp [headF, K0.out, cb])
    go_enter Tryd.func61, Tryd.ntmps61
    go_wp2_with fail
    go_ret
    exact ⟨ret_bool HF.out.symm, (Below.refl _ _).alloc (Nat.le_refl _) _⟩

set_option maxHeartbeats 1000000 in
set_option maxRecDepth 100000 in
theorem form_k0 (m : Nat) (_ih : FormSaid m) (f : Nat) (v : Value) (t : T) (w : World) (h : At w f v t) (hm : m + 1 ≤ 100) (hk0 : kindOf t ≠ 1 ∧ kindOf t ≠ 2 ∧ kindOf t ≠ 3 ∧ kindOf t ≠ 4 ∧ kindOf t ≠ 5 ∧ kindOf t ≠ 6) :
    Calls Tryd.prog 61 #[v, .int .i64 (((m + 1 : Nat) : Int) - 1)] w fun e w' => e = .returned (.bool (formT (m + 1) t)) ∧ Below w.heap.size w w' := by
  obtain ⟨f, La, Ka, Lc, Kc, rfl, rfl, hf, hl, hk⟩ := h.open
  have hlen := hf.l1
  have klen := hf.m1
  have slen := hf.s1
  clear h hf
  have em : (((m + 1 : Nat) : Int) - 1) = (m : Int) := by omega
  rw [em]
  have e0 : ¬ ((m : Int) < 0) := by omega
  obtain ⟨h1, h2, h3, h4, h5, h6⟩ := hk0
  have g1 : (kindOf t == 1) = false := by simpa using h1
  have n1 : (kindOf t != 1) = true := by simpa using h1
  have g2 : (kindOf t == 2) = false := by simpa using h2
  have n2 : (kindOf t != 2) = true := by simpa using h2
  have g3 : (kindOf t == 3) = false := by simpa using h3
  have n3 : (kindOf t != 3) = true := by simpa using h3
  have g4 : (kindOf t == 4) = false := by simpa using h4
  have n4 : (kindOf t != 4) = true := by simpa using h4
  have g5 : (kindOf t == 5) = false := by simpa using h5
  have n5 : (kindOf t != 5) = true := by simpa using h5
  have g6 : (kindOf t == 6) = false := by simpa using h6
  have n6 : (kindOf t != 6) = true := by simpa using h6
  by_cases ca : nOf t = 0
  · have ea : (nOf t != 0) = false := by simp [ca]
    by_cases cb : noText t = true
    · have eb : (sOf t).toList.isEmpty = true := cb
      by_cases cc : nK t = 0
      · have ec : nK t = 0 := cc
        by_cases cd : nL t = 0
        · have ed : nL t = 0 := cd
          have Ca := hid ca
          have Cb := hid cb
          have Cc := hid cc
          have Cd := hid cd
          clear ca cb cc cd
          have HF : Hid (formT (m + 1) t = false) := formT_kind (by simp [kindF, h1, h2, h3, h4, h5, h6])
          go_enter Tryd.func61, Tryd.ntmps61
          go_wp2_with fail
          go_ret
          exact ⟨ret_bool HF.out.symm, (Below.refl _ _).alloc (Nat.le_refl _) _⟩
        · have ed : (0 : Int) < (nL t : Int) := by omega
          have HF : Hid (formT (m + 1) t = false) := formT_head (by simp [headF, h2, h3, h4, h5, h6, cd])
          go_enter Tryd.func61, Tryd.ntmps61
          go_wp2_with fail
          go_ret
          exact ⟨ret_bool HF.out.symm, (Below.refl _ _).alloc (Nat.le_refl _) _⟩
      · have ec : (0 : Int) < (nK t : Int) := by omega
        have HF : Hid (formT (m + 1) t = false) := formT_head (by simp [headF, h2, h3, h4, h5, h6, cc])
        go_enter Tryd.func61, Tryd.ntmps61
        go_wp2_with fail
        go_ret
        exact ⟨ret_bool HF.out.symm, (Below.refl _ _).alloc (Nat.le_refl _) _⟩
    · have eb : (sOf t).toList.isEmpty = false := by simpa [noText] using cb
      have HF : Hid (formT (m + 1) t = false) := formT_head (by simp [headF, h2, h3, h4, h5, h6, cb])
      go_enter Tryd.func61, Tryd.ntmps61
      go_wp2_with fail
      go_ret
      exact ⟨ret_bool HF.out.symm, (Below.refl _ _).alloc (Nat.le_refl _) _⟩
  · have ea : (nOf t != 0) = true := by simpa using ca
    have HF : Hid (formT (m + 1) t = false) := formT_head (by simp [headF, h2, h3, h4, h5, h6, ca])
    go_enter Tryd.func61, Tryd.ntmps61
    go_wp2_with fail
    go_ret
    exact ⟨ret_bool HF.out.symm, (Below.refl _ _).alloc (Nat.le_refl _) _⟩
end Go.Proofs.YtknakfpciccoaaaDoor
