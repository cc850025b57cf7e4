import Derived.Test.YtknakfpciccoaaaDoorZO20
import Derived.Test.YtknakfpciccoaaaDoorZO19
import Derived.Test.YtknakfpciccoaaaDoorZO2
/- The walk of form, kind by kind. -/
namespace Go.Proofs.YtknakfpciccoaaaDoor
open Go.RowKit


set_option maxHeartbeats 1000000 in
set_option maxRecDepth 100000 in
theorem form_k4 (m : Nat) (_ih : FormSaid m) (f : Nat) (v : Value) (t : T) (w : World) (h : At w f v t) (hm : m + 1 ≤ 100) (hk0 : kindOf t = 4) :
    Calls Tryd.prog 61 #[v, .int .i64 (((m + 1 : Nat) : Int) - 1)] w fun e w' => e = .returned (.bool (formT (m + 1) t)) ∧ Below w.heap.size w w' := by
  obtain ⟨f, La, Ka, Lc, Kc, rfl, rfl, hf, hl, hk⟩ := h.open
  have hlen := hf.l1
  have klen := hf.m1
  have slen := hf.s1
  clear h hf
  have em : (((m + 1 : Nat) : Int) - 1) = (m : Int) := by omega
  rw [em]
  have e0 : ¬ ((m : Int) < 0) := by omega
  have K0 := hid hk0
  have g1 : (kindOf t == 1) = false := by rw [hk0]; rfl
  have n1 : (kindOf t != 1) = true := by rw [hk0]; rfl
  have g2 : (kindOf t == 2) = false := by rw [hk0]; rfl
  have n2 : (kindOf t != 2) = true := by rw [hk0]; rfl
  have g3 : (kindOf t == 3) = false := by rw [hk0]; rfl
  have n3 : (kindOf t != 3) = true := by rw [hk0]; rfl
  have g4 : (kindOf t == 4) = true := by rw [hk0]; rfl
  have n4 : (kindOf t != 4) = false := by rw [hk0]; rfl
  have g5 : (kindOf t == 5) = false := by rw [hk0]; rfl
  have n5 : (kindOf t != 5) = true := by rw [hk0]; rfl
  have g6 : (kindOf t == 6) = false := by rw [hk0]; rfl
  have n6 : (kindOf t != 6) = true := by rw [hk0]; rfl
  clear hk0
  by_cases ca : nOf t = 0
  · have ea : (nOf t != 0) = false := by simp [ca]
    by_cases cc : nK t = 0
    · have ec : nK t = 0 := cc
      by_cases cd : nL t = 0
      · have ed : nL t = 0 := cd
        have Ca := hid ca
        have Cc := hid cc
        have Cd := hid cd
        clear ca cc cd
        go_enter Tryd.func61, Tryd.ntmps61
        go_wp2_with fail
        refine (proper_any (sOf t) _ slen).mono ?_
        rintro e w2 ⟨rfl, rfl⟩
        cases hv : okS (sOf t) with
        | false =>
          have HF : Hid (formT (m + 1) t = false) := formT_kind (by simp [kindF, K0.out, hv])
          clear hv
          go_wp2_with fail
          go_ret
          exact ⟨ret_bool HF.out.symm, (Below.refl _ _).alloc (Nat.le_refl _) _⟩
        | true =>
          by_cases c4 : (sOf t).size ≤ 4000
          · have HF : Hid (formT (m + 1) t = allL (formT m) t (nL t)) := by show formT (m + 1) t = _; simp only [formT]; rw [show headF t = true from by simp [headF, K0.out, Ca.out, Cc.out, Cd.out], show kindF t = true from by simp [kindF, K0.out, hv, c4]]; rfl
            have ez : decide ((4000 : Int) < ((sOf t).size : Int)) = false := decide_eq_false (by omega)
            clear hv
            go_wp2_with fail
            go_loopg [8] 1 (fun g i wr => i = .int .i64 0 ∧ wr = w.alloc (.cells #[.int .i64 (kindOf t), .int .i64 (nOf t), .string (sOf t), .slice La 0 Lc, .slice Ka 0 Kc] 26))
            case atStart => exact ⟨rfl, rfl⟩
            case round =>
              obtain ⟨rfl, rfl⟩ := hrel
              go_wp2_with fail
              go_ret
              exact ⟨ret_bool (by rw [HF.out, Cd.out]; rfl), (Below.refl _ _).alloc (Nat.le_refl _) _⟩
          · have HF : Hid (formT (m + 1) t = false) := formT_kind (by simp [kindF, K0.out, c4])
            have ez : decide ((4000 : Int) < ((sOf t).size : Int)) = true := decide_eq_true (by omega)
            clear hv
            go_wp2_with fail
            go_ret
            exact ⟨ret_bool HF.out.symm, (Below.refl _ _).alloc (Nat.le_refl _) _⟩
      · have ed : (0 : Int) < (nL t : Int) := by omega
        have HF : Hid (formT (m + 1) t = false) := formT_head (by simp [headF, K0.out, cd])
        go_enter Tryd.func61, Tryd.ntmps61
        go_wp2_with fail
        go_ret
        exact ⟨ret_bool HF.out.symm, (Below.refl _ _).alloc (Nat.le_refl _) _⟩
    · have ec : (0 : Int) < (nK t : Int) := by omega
      have HF : Hid (formT (m + 1) t = false) := formT_head (by simp [headF, K0.out, cc])
      go_enter Tryd.func61, Tryd.ntmps61
      go_wp2_with fail
      go_ret
      exact ⟨ret_bool HF.out.symm, (Below.refl _ _).alloc (Nat.le_refl _) _⟩
  · have ea : (nOf t != 0) = true := by simpa using ca
    have HF : Hid (formT (m + 1) t = false) := formT_head (by simp [headF, K0.out, ca])
    go_enter Tryd.func61, Tryd.ntmps61
    go_wp2_with fail
    go_ret
    exact ⟨ret_bool HF.out.symm, (Below.refl _ _).alloc (Nat.le_refl _) _⟩

set_option maxHeartbeats 1000000 in
set_option maxRecDepth 100000 in
theorem form_k5 (m : Nat) (ih : FormSaid m) (f : Nat) (v : Value) (t : T) (w : World) (h : At w f v t) (hm : m + 1 ≤ 100) (hk0 : kindOf t = 5) :
    Calls Tryd.prog 61 #[v, .int .i64 (((m + 1 : Nat) : Int) - 1)] w fun e w' => e = .returned (.bool (formT (m + 1) t)) ∧ Below w.heap.size w w' := by
  obtain ⟨f, La, Ka, Lc, Kc, rfl, rfl, hf, hl, hk⟩ := h.open
  have hlen := hf.l1
  have klen := hf.m1
  have slen := hf.s1
  clear h hf
  have em : (((m + 1 : Nat) : Int) - 1) = (m : Int) := by omega
  rw [em]
  have e0 : ¬ ((m : Int) < 0) := by omega
  have K0 := hid hk0
  have g1 : (kindOf t == 1) = false := by rw [hk0]; rfl
  have n1 : (kindOf t != 1) = true := by rw [hk0]; rfl
  have g2 : (kindOf t == 2) = false := by rw [hk0]; rfl
  have n2 : (kindOf t != 2) = true := by rw [hk0]; rfl
  have g3 : (kindOf t == 3) = false := by rw [hk0]; rfl
  have n3 : (kindOf t != 3) = true := by rw [hk0]; rfl
  have g4 : (kindOf t == 4) = false := by rw [hk0]; rfl
  have n4 : (kindOf t != 4) = true := by rw [hk0]; rfl
  have g5 : (kindOf t == 5) = true := by rw [hk0]; rfl
  have n5 : (kindOf t != 5) = false := by rw [hk0]; rfl
  have g6 : (kindOf t == 6) = false := by rw [hk0]; rfl
  have n6 : (kindOf t != 6) = true := by rw [hk0]; rfl
  clear hk0
  by_cases ca : nOf t = 0
  · have ea : (nOf t != 0) = false := by simp [ca]
    by_cases cb : noText t = true
    · have eb : (sOf t).toList.isEmpty = true := cb
      by_cases cc : nK t = 0
      · have ec : nK t = 0 := cc
        have Ca := hid ca
        have Cb := hid cb
        have Cc := hid cc
        clear ca cb cc
        have HF : Hid (formT (m + 1) t = allL (formT m) t (nL t)) := by show formT (m + 1) t = _; simp only [formT]; rw [show headF t = true from by simp [headF, K0.out, Ca.out, Cb.out, Cc.out], show kindF t = true from by simp [kindF, K0.out]]; rfl
        go_enter Tryd.func61, Tryd.ntmps61
        go_wp2_with fail
        go_loopg [8] (nL t) (fun g i wr => ∃ k : Nat, g = nL t - k ∧ k ≤ nL t ∧ i = .int .i64 k ∧ Hid (allL (formT m) t k = true) ∧ Below (w.heap.size + 1) (w.alloc (.cells #[.int .i64 (kindOf t), .int .i64 (nOf t), .string (sOf t), .slice La (nL t) Lc, .slice Ka 0 Kc] 26)) wr)
        case atStart => exact ⟨0, rfl, Nat.zero_le _, rfl, rfl, Below.refl _ _⟩
        case round =>
          obtain ⟨k, rfl, hk1, rfl, HA, hb⟩ := hrel
          obtain ⟨q0, q1, q2, q3, q4, hz, hbw⟩ := box_facts hb
          have Hb := hid hb
          clear hb
          by_cases hlt : k < nL t
          · obtain ⟨b, o, c0, c1, c2, c3, c4, rfl, hbl, p0, p1, p2, p3, p4, Ha⟩ := hl.out.keep hbw k hlt
            go_wp2_with fail
            refine (ih _ _ _ _ Ha.out (by omega)).mono ?_
            rintro e w2 ⟨rfl, hb2⟩
            have hb3 := hid (Hb.out.trans (hb2.mono (by omega)))
            clear hb2
            cases hv : formT m (elt t k) with
            | true =>
              have Hv := hid hv
              clear hv
              go_wp2_with fail
              go_roundg (nL t - (k + 1))
              case rel => exact ⟨k + 1, rfl, by omega, by go_num, by show (allL (formT m) t k && formT m (elt t k)) = true; rw [HA.out, Hv.out]; rfl, hb3.out⟩
              case measure => omega
            | false =>
              have Hv := hid hv
              clear hv
              go_wp2_with fail
              go_ret
              exact ⟨ret_bool (by rw [HF.out, allL_at hlt Hv.out]), ((Below.refl _ _).alloc (Nat.le_refl _) _).trans (hb3.out.mono (by omega))⟩
          · obtain rfl : k = nL t := by omega
            go_wp2_with fail
            go_ret
            exact ⟨ret_bool (by rw [HF.out, HA.out]), hbw⟩
      · have ec : (0 : Int) < (nK t : Int) := by omega
        have HF : Hid (formT (m + 1) t = false) := formT_head (by simp [headF, K0.out, cc])
        go_enter Tryd.func61, Tryd.ntmps61
        go_wp2_with fail
        go_ret
        exact ⟨ret_bool HF.out.symm, (Below.refl _ _).alloc (Nat.le_refl _) _⟩
    · have eb : (sOf t).toList.isEmpty = false := by simpa [noText] using cb
      have HF : Hid (formT (m + 1) t = false) := formT_head (by simp [headF, K0.out, cb])
      go_enter Tryd.func61, Tryd.ntmps61
      go_wp2_with fail
      go_ret
      exact ⟨ret_bool HF.out.symm, (Below.refl _ _).alloc (Nat.le_refl _) _⟩
  · have ea : (nOf t != 0) = true := by simpa using ca
    have HF : Hid (formT (m + 1) t = false) := formT_head (by simp [headF, K0.out, ca])
    go_enter Tryd.func61, Tryd.ntmps61
    go_wp2_with fail
    go_ret
    exact ⟨ret_bool HF.out.symm, (Below.refl _ _).alloc (Nat.le_refl _) _⟩

set_option maxHeartbeats 1000000 in
set_option maxRecDepth 100000 in
theorem form_k6 (m : Nat) (ih : FormSaid m) (f : Nat) (v : Value) (t : T) (w : World) (h : At w f v t) (hm : m + 1 ≤ 100) (hk0 : kindOf t = 6) :
    Calls Tryd.prog 61 #[v, .int .i64 (((m + 1 : Nat) : Int) - 1)] w fun e w' => e = .returned (.bool (formT (m + 1) t)) ∧ Below w.heap.size w w' := by
  obtain ⟨f, La, Ka, Lc, Kc, rfl, rfl, hf, hl, hk⟩ := h.open
  have hlen := hf.l1
  have klen := hf.m1
  have slen := hf.s1
  clear h hf
  have em : (((m + 1 : Nat) : Int) - 1) = (m : Int) := by omega
  rw [em]
  have e0 : ¬ ((m : Int) < 0) := by omega
  have K0 := hid hk0
  have g1 : (kindOf t == 1) = false := by rw [hk0]; rfl
  have n1 : (kindOf t != 1) = true := by rw [hk0]; rfl
  have g2 : (kindOf t == 2) = false := by rw [hk0]; rfl
  have n2 : (kindOf t != 2) = true := by rw [hk0]; rfl
  have g3 : (kindOf t == 3) = false := by rw [hk0]; rfl
  have n3 : (kindOf t != 3) = true := by rw [hk0]; rfl
  have g4 : (kindOf t == 4) = false := by rw [hk0]; rfl
  have n4 : (kindOf t != 4) = true := by rw [hk0]; rfl
  have g5 : (kindOf t == 5) = false := by rw [hk0]; rfl
  have n5 : (kindOf t != 5) = true := by rw [hk0]; rfl
  have g6 : (kindOf t == 6) = true := by rw [hk0]; rfl
  have n6 : (kindOf t != 6) = false := by rw [hk0]; rfl
  clear hk0
  by_cases ca : nOf t = 0
  · have ea : (nOf t != 0) = false := by simp [ca]
    by_cases cb : noText t = true
    · have eb : (sOf t).toList.isEmpty = true := cb
      have Ca := hid ca
      have Cb := hid cb
      clear ca cb
      by_cases ck : nK t = nL t
      · have ek : ((nK t : Int) != (nL t : Int)) = false := by simp [ck]
        have HF : Hid (formT (m + 1) t = (namesF t (nK t) && allL (formT m) t (nL t))) := by show formT (m + 1) t = _; simp only [formT]; rw [show headF t = true from by simp [headF, K0.out, Ca.out, Cb.out], show kindF t = namesF t (nK t) from by simp [kindF, K0.out, ck]]; rfl
        clear ck
        go_enter Tryd.func61, Tryd.ntmps61
        go_wp2_with fail
        go_loopg [6] (nK t) (fun g i wr => ∃ k : Nat, g = nK t - k ∧ k ≤ nK t ∧ i = .int .i64 k ∧ Hid (namesF t k = true) ∧ Below (w.heap.size + 1) (w.alloc (.cells #[.int .i64 (kindOf t), .int .i64 (nOf t), .string (sOf t), .slice La (nL t) Lc, .slice Ka (nK t) Kc] 26)) wr)
        case atStart => exact ⟨0, rfl, Nat.zero_le _, rfl, rfl, Below.refl _ _⟩
        case round =>
          obtain ⟨j, rfl, hj1, rfl, HN, hbj⟩ := hrel
          obtain ⟨r0, r1, r2, r3, r4, hzj, hbwj⟩ := box_facts hbj
          have Hbj := hid hbj
          clear hbj
          by_cases hjl : j < nK t
          · obtain ⟨kb, ko, rfl, hkb, hks, hkc⟩ := hk.out.keep hbwj j hjl
            go_wp2_with fail
            refine (proper_any (nam t j) _ hks).mono ?_
            rintro e w2 ⟨rfl, rfl⟩
            cases hv : okS (nam t j) with
            | false =>
              have HN1 : Hid (namesF t (nK t) = false) := namesF_false (j := j + 1) hjl (by simp [namesF, hv])
              clear hv
              go_wp2_with fail
              go_ret
              exact ⟨ret_bool (by rw [HF.out, HN1.out]; rfl), hbwj⟩
            | true =>
              by_cases c4 : (nam t j).size ≤ 4000
              · have HN1 : Hid (namesF t (j + 1) = true) := by show (namesF t j && (okS (nam t j) && decide ((nam t j).size ≤ 4000))) = true; rw [HN.out, hv, decide_eq_true c4]; rfl
                have ez : decide ((4000 : Int) < ((nam t j).size : Int)) = false := decide_eq_false (by omega)
                clear hv
                go_wp2_with fail
                go_roundg (nK t - (j + 1))
                case rel => exact ⟨j + 1, rfl, by omega, by go_num, HN1, Hbj.out⟩
                case measure => omega
              · have HN1 : Hid (namesF t (nK t) = false) := namesF_false (j := j + 1) hjl (by simp [namesF, c4])
                have ez : decide ((4000 : Int) < ((nam t j).size : Int)) = true := decide_eq_true (by omega)
                clear hv
                go_wp2_with fail
                go_ret
                exact ⟨ret_bool (by rw [HF.out, HN1.out]; rfl), hbwj⟩
          · obtain rfl : j = nK t := by omega
            have HF0 := hid HF.out
            clear HF
            have HF : Hid (formT (m + 1) t = allL (formT m) t (nL t)) := by show formT (m + 1) t = _; rw [HF0.out, HN.out]; rfl

            go_wp2_with fail
            go_loopg [8] (nL t) (fun g i wr => ∃ k : Nat, g = nL t - k ∧ k ≤ nL t ∧ i = .int .i64 k ∧ Hid (allL (formT m) t k = true) ∧ Below (w.heap.size + 1) (w.alloc (.cells #[.int .i64 (kindOf t), .int .i64 (nOf t), .string (sOf t), .slice La (nL t) Lc, .slice Ka (nK t) Kc] 26)) wr)
            case atStart => exact ⟨0, rfl, Nat.zero_le _, rfl, rfl, Hbj.out⟩
            case round =>
              obtain ⟨k, rfl, hk1, rfl, HA, hb⟩ := hrel
              obtain ⟨q0, q1, q2, q3, q4, hz, hbw⟩ := box_facts hb
              have Hb := hid hb
              clear hb
              by_cases hlt : k < nL t
              · obtain ⟨b, o, c0, c1, c2, c3, c4, rfl, hbl, p0, p1, p2, p3, p4, Ha⟩ := hl.out.keep hbw k hlt
                go_wp2_with fail
                refine (ih _ _ _ _ Ha.out (by omega)).mono ?_
                rintro e w2 ⟨rfl, hb2⟩
                have hb3 := hid (Hb.out.trans (hb2.mono (by omega)))
                clear hb2
                cases hv : formT m (elt t k) with
                | true =>
                  have Hv := hid hv
                  clear hv
                  go_wp2_with fail
                  go_roundg (nL t - (k + 1))
                  case rel => exact ⟨k + 1, rfl, by omega, by go_num, by show (allL (formT m) t k && formT m (elt t k)) = true; rw [HA.out, Hv.out]; rfl, hb3.out⟩
                  case measure => omega
                | false =>
                  have Hv := hid hv
                  clear hv
                  go_wp2_with fail
                  go_ret
                  exact ⟨ret_bool (by rw [HF.out, allL_at hlt Hv.out]), ((Below.refl _ _).alloc (Nat.le_refl _) _).trans (hb3.out.mono (by omega))⟩
              · obtain rfl : k = nL t := by omega
                go_wp2_with fail
                go_ret
                exact ⟨ret_bool (by rw [HF.out, HA.out]), hbw⟩

      · have ek : ((nK t : Int) != (nL t : Int)) = true := by simp; omega
        have HF : Hid (formT (m + 1) t = false) := formT_kind (by simp [kindF, K0.out, ck])
        clear ck
        go_enter Tryd.func61, Tryd.ntmps61
        go_wp2_with fail
        go_ret
        exact ⟨ret_bool HF.out.symm, (Below.refl _ _).alloc (Nat.le_refl _) _⟩
    · have eb : (sOf t).toList.isEmpty = false := by simpa [noText] using cb
      have HF : Hid (formT (m + 1) t = false) := formT_head (by simp [headF, K0.out, cb])
      go_enter Tryd.func61, Tryd.ntmps61
      go_wp2_with fail
      go_ret
      exact ⟨ret_bool HF.out.symm, (Below.refl _ _).alloc (Nat.le_refl _) _⟩
  · have ea : (nOf t != 0) = true := by simpa using ca
    have HF : Hid (formT (m + 1) t = false) := formT_head (by simp [headF, K0.out, ca])
    go_enter Tryd.func61, Tryd.ntmps61
    go_wp2_with fail
    go_ret
    exact ⟨ret_bool HF.out.symm, (Below.refl _ _).alloc (Nat.le_refl _) _⟩

set_option maxHeartbeats 400000 in
set_option maxRecDepth 100000 in
theorem form_any (m : Nat) : FormSaid m := by
  induction m with
  | zero =>
    intro f v t w h _
    obtain ⟨f, La, Ka, Lc, Kc, rfl, rfl, hf, hl, hk⟩ := h.open
    clear h hf hl hk
    go_enter Tryd.func61, Tryd.ntmps61
    go_wp2_with fail
    go_ret
    exact ⟨rfl, (Below.refl _ _).alloc (Nat.le_refl _) _⟩
  | succ m ih =>
    intro f v t w h hm
    by_cases h1 : kindOf t = 1
    · exact form_k1 m ih f v t w h hm h1
    by_cases h2 : kindOf t = 2
    · exact form_k2 m ih f v t w h hm h2
    by_cases h3 : kindOf t = 3
    · exact form_k3 m ih f v t w h hm h3
    by_cases h4 : kindOf t = 4
    · exact form_k4 m ih f v t w h hm h4
    by_cases h5 : kindOf t = 5
    · exact form_k5 m ih f v t w h hm h5
    by_cases h6 : kindOf t = 6
    · exact form_k6 m ih f v t w h hm h6
    exact form_k0 m ih f v t w h hm ⟨h1, h2, h3, h4, h5, h6⟩
end Go.Proofs.YtknakfpciccoaaaDoor
/- The walk of Is: is it a value? -/
namespace Go.Proofs.YtknakfpciccoaaaDoor
open Go.RowKit

set_option maxHeartbeats 1000000 in
set_option maxRecDepth 100000 in
theorem Is_any (f : Nat) (v : Value) (t : T) (w : World) (h : At w f v t) :
    Calls Tryd.prog 34 #[v] w fun e w' => e = .returned (.bool (isR f t)) ∧ Below w.heap.size w w' := by
  have HA := hid h
  obtain ⟨g, La, Ka, Lc, Kc, hg, rfl, hf, hl, hk⟩ := h.open
  clear h hf hl hk hg
  have HB1 : Hid (Below w.heap.size w (w.alloc (.cells #[.int .i64 (kindOf t), .int .i64 (nOf t), .string (sOf t), .slice La (nL t) Lc, .slice Ka (nK t) Kc] 26))) := (Below.refl _ _).alloc (Nat.le_refl _) _
  have HR : Hid (isR f t = (decide (0 ≤ roomT 14 t 1048576) && decide (deepT 16 t ≤ 12) && formT 15 t && !twiceT f t)) := rfl
  go_enter Tryd.func34, Tryd.ntmps34
  go_wp2_with fail
  rw [show (Value.int .i64 13) = .int .i64 (((14 : Nat) : Int) - 1) from rfl]
  refine (room_any 14 _ _ t 1048576 _ (HA.out.keep HB1.out) (by omega) (by omega) (by omega)).mono ?_
  rintro e w2 ⟨rfl, b2, x0, x1⟩
  have HB2 : Hid (Below (w.heap.size + 1) (w.alloc (.cells #[.int .i64 (kindOf t), .int .i64 (nOf t), .string (sOf t), .slice La (nL t) Lc, .slice Ka (nK t) Kc] 26)) w2) := b2.mono (by simp)
  obtain ⟨q0, q1, q2, q3, q4, hz, hbw⟩ := box_facts HB2.out
  have Hbw := hid hbw
  clear b2 hbw
  generalize hx : roomT 14 t 1048576 = x at x0 x1 ⊢
  have HX := hid hx
  clear hx
  by_cases hn : x < 0
  · have HE : Hid (isR f t = false) := by show _ = _; rw [HR.out, HX.out, decide_eq_false (by omega)]; rfl
    go_wp2_with fail
    go_ret
    exact ⟨ret_bool HE.out.symm, Hbw.out⟩
  have hd0 := deepT_le 16 t
  go_wp2_with fail
  refine (Deep_any _ _ t _ (HA.out.keep Hbw.out)).mono ?_
  rintro e w3 ⟨rfl, b3⟩
  have HB3 : Hid (Below (w.heap.size + 1) (w.alloc (.cells #[.int .i64 (kindOf t), .int .i64 (nOf t), .string (sOf t), .slice La (nL t) Lc, .slice Ka (nK t) Kc] 26)) w3) := HB2.out.trans (b3.mono (by omega))
  clear q0 q1 q2 q3 q4 hz b3 Hbw HB2
  obtain ⟨q0, q1, q2, q3, q4, hz, hbw⟩ := box_facts HB3.out
  have Hbw := hid hbw
  clear hbw
  generalize hy : deepT 16 t = y at hd0 ⊢
  have HY := hid hy
  clear hy
  by_cases hm : 12 < y
  · have HE : Hid (isR f t = false) := by show _ = _; rw [HR.out, HY.out, decide_eq_false (show ¬ y ≤ 12 by omega)]; simp
    go_wp2_with fail
    go_ret
    exact ⟨ret_bool HE.out.symm, Hbw.out⟩
  go_wp2_with fail
  rw [show (Value.int .i64 14) = .int .i64 (((15 : Nat) : Int) - 1) from rfl]
  refine (form_any 15 _ _ t _ (HA.out.keep Hbw.out) (by omega)).mono ?_
  rintro e w4 ⟨rfl, b4⟩
  have HB4 : Hid (Below (w.heap.size + 1) (w.alloc (.cells #[.int .i64 (kindOf t), .int .i64 (nOf t), .string (sOf t), .slice La (nL t) Lc, .slice Ka (nK t) Kc] 26)) w4) := HB3.out.trans (b4.mono (by omega))
  clear q0 q1 q2 q3 q4 hz b4 Hbw HB3
  obtain ⟨q0, q1, q2, q3, q4, hz, hbw⟩ := box_facts HB4.out
  have Hbw := hid hbw
  clear hbw
  cases hv : formT 15 t with
  | false =>
    have HE : Hid (isR f t = false) := by show _ = _; rw [HR.out, hv]; simp
    clear hv
    go_wp2_with fail
    go_ret
    exact ⟨ret_bool HE.out.symm, Hbw.out⟩
  | true =>
    have HE : Hid (isR f t = !twiceT f t) := by show _ = _; rw [HR.out, hv, HX.out, HY.out, decide_eq_true (show 0 ≤ x by omega), decide_eq_true (show y ≤ 12 by omega)]; rfl
    clear hv
    go_wp2_with fail
    refine (twice_any f _ t _ (HA.out.keep Hbw.out)).mono ?_
    rintro e w5 ⟨rfl, b5⟩
    have HB5 : Hid (Below w.heap.size w w5) := Hbw.out.trans (b5.mono (Nat.le_of_lt hz))
    clear b5
    go_wp2_with fail
    go_ret
    exact ⟨ret_bool HE.out.symm, HB5.out⟩

end Go.Proofs.YtknakfpciccoaaaDoor
/- The walks of the reference's first, of all bytes, and Decode. -/
namespace Go.Proofs.YtknakfpciccoaaaDoor
open Go.RowKit

set_option maxHeartbeats 1000000 in
set_option maxRecDepth 100000 in
theorem first_0 (m : Nat) (s : ByteArray) (w : World) (h : s.size = 0) (_hm : m ≤ 13) : Calls Tryd.prog 33 #[.string s, .int .i64 m] w (FirstPost (m + 1) s w) := by
  have es := empty_of h
  subst es
  have HD : Hid (decR (m + 1) ⟨#[]⟩ = none) := by
    show _ = _
    rw [decR_eq, stepD_0 (by omega)]
  go_enter Tryd.func33, Tryd.ntmps33
  go_wp2_with fail
  refine bodyPost_ret (v := .tuple #[.agg #[.int .i64 0, .int .i64 0, .string ⟨#[]⟩, .slice none 0 0, .slice none 0 0], .string ⟨#[]⟩, .bool false]) (by simp [results, Tryd.results33, go_sem]) rfl ?_
  exact first_not HD.out ((Below.refl _ _).alloc (Nat.le_refl _) _)
set_option maxHeartbeats 1000000 in
set_option maxRecDepth 100000 in
theorem first_neg : FirstSaid 0 := by
  intro s w hs
  have e : ((0 : Nat) : Int) - 1 = -1 := rfl
  rw [e]
  by_cases h : s.size = 0
  · have es := empty_of h
    subst es
    go_enter Tryd.func33, Tryd.ntmps33
    go_wp2_with fail
    refine bodyPost_ret (v := .tuple #[.agg #[.int .i64 0, .int .i64 0, .string ⟨#[]⟩, .slice none 0 0, .slice none 0 0], .string ⟨#[]⟩, .bool false]) (by simp [results, Tryd.results33, go_sem]) rfl ?_
    exact ⟨(Below.refl _ _).alloc (Nat.le_refl _) _, Or.inr ⟨rfl, _, _, _, _, _, _, _, _, _, _, rfl⟩⟩
  · have hne := nonempty_of h
    go_enter Tryd.func33, Tryd.ntmps33
    go_wp2_with fail
    refine bodyPost_ret (v := .tuple #[.agg #[.int .i64 0, .int .i64 0, .string ⟨#[]⟩, .slice none 0 0, .slice none 0 0], .string ⟨#[]⟩, .bool false]) (by simp [results, Tryd.results33, go_sem]) rfl ?_
    exact ⟨(Below.refl _ _).alloc (Nat.le_refl _) _, Or.inr ⟨rfl, _, _, _, _, _, _, _, _, _, _, rfl⟩⟩
theorem first_step (m : Nat) (hm : m ≤ 13) (ih : FirstSaid m) : FirstSaid (m + 1) := by
  intro s w hs
  have e : ((m + 1 : Nat) : Int) - 1 = (m : Int) := by omega
  rw [e]
  by_cases h : s.size = 0
  · exact first_0 m s w h hm
  have h1 : 1 ≤ s.size := by omega
  by_cases n1 : numB (pre s 1) = 1
  · exact first_1 m hm s w hs h1 n1
  by_cases n2 : numB (pre s 1) = 2
  · exact first_2 m hm s w hs h1 n2
  by_cases n3 : numB (pre s 1) = 3
  · exact first_3 m hm s w hs h1 n3
  by_cases n4 : numB (pre s 1) = 4
  · exact first_4 m hm s w hs h1 n4
  by_cases n5 : numB (pre s 1) = 5
  · exact first_5 m hm ih s w hs h1 n5
  by_cases n6 : numB (pre s 1) = 6
  · exact first_6 m hm ih s w hs h1 n6
  exact first_7 m hm s w h1 (by omega)
theorem first_any : ∀ (m : Nat), m ≤ 14 → FirstSaid m
  | 0, _ => first_neg
  | m + 1, h => first_step m (by omega) (first_any m (by omega))
def RefPost (s : ByteArray) (w : World) (e : Ending) (w' : World) : Prop :=
  Below w.heap.size w w' ∧ ((∃ t A B C D, resT s = some t ∧ e = .returned (.tuple #[five t A B C D, .int .i64 0]) ∧ At w' 14 (five t A B C D) t) ∨ (resT s = none ∧ e = .returned (.tuple #[zeroV, .int .i64 6])))
theorem resT_R0 {s : ByteArray} (h : decR 14 s = none) : resT s = none := by unfold resT; rw [h]; rfl
theorem resT_R1 {s r : ByteArray} {t : T} (h : decR 14 s = some (t, r)) (hr : r.size ≠ 0) : resT s = none := by
  unfold resT
  rw [h]
  simp only [Option.bind_some, okT]
  rw [if_neg (fun h => hr h.1)]
theorem resT_R2 {s r : ByteArray} {t : T} (h : decR 14 s = some (t, r)) (hs : Shal 14 t) (hr : isR 14 t = false) : resT s = none := by
  unfold resT
  rw [h]
  simp only [Option.bind_some, okT]
  rw [if_neg (fun h => by rw [← isV_isR 14 t hs, h.2] at hr; cases hr)]
theorem resT_R3 {s r : ByteArray} {t : T} (h : decR 14 s = some (t, r)) (hs : Shal 14 t) (h0 : r.size = 0) (hr : isR 14 t = true) : resT s = some t := by
  unfold resT
  rw [h]
  simp only [Option.bind_some, okT]
  rw [if_pos ⟨h0, by rw [isV_isR 14 t hs]; exact hr⟩]
set_option maxHeartbeats 2000000 in
set_option maxRecDepth 100000 in
theorem refDecode_any (s : ByteArray) (w : World) (hs : s.size ≤ 140737488355328) : Calls Tryd.prog 14 #[.string s] w (RefPost s w) := by
  have HB0 : Hid (Below w.heap.size w (w.alloc (.cells #[.int .i64 0, .int .i64 0, .string ⟨#[]⟩, .slice none 0 0, .slice none 0 0] 26))) := (Below.refl _ _).alloc (Nat.le_refl _) _
  have HR0 : Hid (BoxAt w.heap.size (.int .i64 0) (.int .i64 0) (.string ⟨#[]⟩) (.slice none 0 0) (.slice none 0 0) (w.alloc (.cells #[.int .i64 0, .int .i64 0, .string ⟨#[]⟩, .slice none 0 0, .slice none 0 0] 26))) := box_new w _ _ _ _ _
  have Hz0 : Hid ((w.alloc (.cells #[.int .i64 0, .int .i64 0, .string ⟨#[]⟩, .slice none 0 0, .slice none 0 0] 26)).heap.size = w.heap.size + 1) := by
    show _ = _
    simp
  have hF := first_any 14 (by omega) s (w.alloc (.cells #[.int .i64 0, .int .i64 0, .string ⟨#[]⟩, .slice none 0 0, .slice none 0 0] 26)) hs
  have e13 : ((14 : Nat) : Int) - 1 = 13 := rfl
  rw [e13] at hF
  have HF0 := hid hF
  clear hF e13
  go_enter Tryd.func14, Tryd.ntmps14
  go_wp2_with fail
  refine HF0.out.mono ?_
  rintro e w1 ⟨hb1, ⟨t, r, es, A, B, C, D, hd, rfl, hF, hS⟩ | ⟨hd, kk, nn, ss, A, an, B, C, cn, D, r, rfl⟩⟩
  · have hl1 : w.heap.size + 1 ≤ w1.heap.size := by have := hb1.size; rw [Hz0.out] at this; exact this
    have hba : Below w1.heap.size w1 (w1.alloc (.cells #[.int .i64 (kindOf t), .int .i64 (nOf t), .string (sOf t), .slice A (nL t) B, .slice C (nK t) D] 26)) := (Below.refl _ _).alloc (Nat.le_refl _) _
    have HFa := hid (hF.keep hS hba)
    have HSa := hid (hS.keep hba.size)
    have HA := hid HFa.out.at
    have HW1 := hid (HB0.out.trans (hb1.mono (by rw [Hz0.out]; omega)))
    have HWa := hid (HW1.out.trans (hba.mono (by omega)))
    have HRa := hid ((HR0.out.move hb1.size (hb1.block _ HR0.out.lt)).move hba.size (hba.block _ (Nat.lt_of_lt_of_le HR0.out.lt hb1.size)))
    have HV := hid (box_new w1 (.int .i64 (kindOf t)) (.int .i64 (nOf t)) (.string (sOf t)) (.slice A (nL t) B) (.slice C (nK t) D))
    have Hd := hid hd
    have hsh := HA.out.shal
    have Hsh := hid hsh
    clear hb1 hF hS hba hd HF0 HB0 HR0 hsh
    have r0 := HRa.out.q0
    have r1 := HRa.out.q1
    have r2 := HRa.out.q2
    have r3 := HRa.out.q3
    have r4 := HRa.out.q4
    have s0 := HRa.out.f0
    have s1 := HRa.out.f1
    have s2 := HRa.out.f2
    have s3 := HRa.out.f3
    have s4 := HRa.out.f4
    by_cases h0 : r.size = 0
    · have er := empty_of h0
      subst er
      have HI := hid (Is_any 14 _ t _ HA.out)
      go_wp2_with fail
      refine HI.out.mono ?_
      rintro e w3 ⟨rfl, hb3⟩
      have HF3 := hid (HFa.out.keep HSa.out hb3)
      have HS3 := hid (HSa.out.keep hb3.size)
      have HR3 := hid (HRa.out.move hb3.size (hb3.block _ HRa.out.lt))
      have HV3 := hid (HV.out.move hb3.size (hb3.block _ HV.out.lt))
      have HW3 := hid (HWa.out.trans (hb3.mono (by have := HWa.out.size; omega)))
      clear hb3 HA HRa HV HI r0 r1 r2 r3 r4 s0 s1 s2 s3 s4
      have r0 := HR3.out.q0
      have r1 := HR3.out.q1
      have r2 := HR3.out.q2
      have r3 := HR3.out.q3
      have r4 := HR3.out.q4
      have s0 := HR3.out.f0
      have s1 := HR3.out.f1
      have s2 := HR3.out.f2
      have s3 := HR3.out.f3
      have s4 := HR3.out.f4
      have v0 := HV3.out.q0
      have v1 := HV3.out.q1
      have v2 := HV3.out.q2
      have v3 := HV3.out.q3
      have v4 := HV3.out.q4
      by_cases hv : isR 14 t = true
      · have HZ := hid (resT_R3 Hd.out Hsh.out h0 hv)
        go_wp2_with fail
        refine bodyPost_ret (v := .tuple #[five t A B C D, .int .i64 0]) (by simp [results, Tryd.results14, go_sem, five, *]) rfl ?_
        obtain ⟨p1, p2, p3⟩ := put_res2 HW3.out HF3.out HS3.out (Nat.le_refl _) (by rw [Hz0.out]; omega) (.int .i64 (kindOf t)) (.int .i64 (nOf t)) (.string (sOf t)) (.slice A (nL t) B) (.slice C (nK t) D)
        exact ⟨p1, Or.inl ⟨t, A, B, C, D, HZ.out, rfl, p2.at⟩⟩
      · have hv2 : isR 14 t = false := by simpa using hv
        have HZ := hid (resT_R2 Hd.out Hsh.out hv2)
        clear hv
        go_wp2_with fail
        refine bodyPost_ret (v := .tuple #[zeroV, .int .i64 6]) (by simp [results, Tryd.results14, go_sem, zeroV, *]) rfl ?_
        exact ⟨below_set5 HW3.out (Nat.le_refl _) _ _ _ _ _, Or.inr ⟨HZ.out, rfl⟩⟩
    · have hr := nonempty_of h0
      have HZ := hid (resT_R1 Hd.out h0)
      go_wp2_with fail
      refine bodyPost_ret (v := .tuple #[zeroV, .int .i64 6]) (by simp [results, Tryd.results14, go_sem, zeroV, *]) rfl ?_
      exact ⟨below_set5 HWa.out (Nat.le_refl _) _ _ _ _ _, Or.inr ⟨HZ.out, rfl⟩⟩
  · have hl1 : w.heap.size + 1 ≤ w1.heap.size := by have := hb1.size; rw [Hz0.out] at this; exact this
    have hba : Below w1.heap.size w1 (w1.alloc (.cells #[.int .i64 kk, .int .i64 nn, .string ss, .slice A an B, .slice C cn D] 26)) := (Below.refl _ _).alloc (Nat.le_refl _) _
    have HW1 := hid (HB0.out.trans (hb1.mono (by rw [Hz0.out]; omega)))
    have HWa := hid (HW1.out.trans (hba.mono (by omega)))
    have HRa := hid ((HR0.out.move hb1.size (hb1.block _ HR0.out.lt)).move hba.size (hba.block _ (Nat.lt_of_lt_of_le HR0.out.lt hb1.size)))
    have HZ := hid (resT_R0 hd)
    clear hb1 hba hd HF0 HB0 HR0
    have r0 := HRa.out.q0
    have r1 := HRa.out.q1
    have r2 := HRa.out.q2
    have r3 := HRa.out.q3
    have r4 := HRa.out.q4
    have s0 := HRa.out.f0
    have s1 := HRa.out.f1
    have s2 := HRa.out.f2
    have s3 := HRa.out.f3
    have s4 := HRa.out.f4
    go_wp2_with fail
    refine bodyPost_ret (v := .tuple #[zeroV, .int .i64 6]) (by simp [results, Tryd.results14, go_sem, zeroV, *]) rfl ?_
    exact ⟨below_set5 HWa.out (Nat.le_refl _) _ _ _ _ _, Or.inr ⟨HZ.out, rfl⟩⟩
end Go.Proofs.YtknakfpciccoaaaDoor
