/- The walk of form, kind by kind. -/
import Derived.Test.YtknakfpciccoaaaDoorC13
namespace Go.Proofs.YtknakfpciccoaaaDoor
open Go.RowKit


set_option maxHeartbeats 1000000 in
set_option maxRecDepth 100000 in
theorem form_k4 (m : Nat) (_ih : FormSaid m) (f : Nat) (v : Value) (t : T) (w : World) (h : At w f v t) (hm : m + 1 ≤ 100) (hk0 : kindOf t = 4) :
    Calls Tryd.prog 61 #[v, .int .i64 (((m + 1 : Nat) : Int) - 1)] w fun e w' => e = .returned (.bool (formT (m + 1) t)) ∧ Below w.heap.size w w' := by
  obtain ⟨f, La, Ka, Lc, Kc, rfl, rfl, hf, hl, hk⟩ := h.open
  have hlen := hf.l1
  have klen := hf.m1
  have slen := hf.s1
  clear h hf
  have em : (((m + 1 : Nat) : Int) - 1) = (m : Int) := by omega
  rw [em]
  have e0 : ¬ ((m : Int) < 0) := by omega
  have K0 := hid hk0
  have g1 : (kindOf t == 1) = false := by rw [hk0]; rfl
  have n1 : (kindOf t != 1) = true := by rw [hk0]; rfl
  have g2 : (kindOf t == 2) = false := by rw [hk0]; rfl
  have n2 : (kindOf t != 2) = true := by rw [hk0]; rfl
  have g3 : (kindOf t == 3) = false := by rw [hk0]; rfl
  have n3 : (kindOf t != 3) = true := by rw [hk0]; rfl
  have g4 : (kindOf t == 4) = true := by rw [hk0]; rfl
  have n4 : (kindOf t != 4) = false := by rw [hk0]; rfl
  have g5 : (kindOf t == 5) = false := by rw [hk0]; rfl
  have n5 : (kindOf t != 5) = true := by rw [hk0]; rfl
  have g6 : (kindOf t == 6) = false := by rw [hk0]; rfl
  have n6 : (kindOf t != 6) = true := by rw [hk0]; rfl
  clear hk0
  by_cases ca : nOf t = 0
  · have ea : (nOf t != 0) = false := by simp [ca]
    by_cases cc : nK t = 0
    · have ec : nK t = 0 := cc
      by_cases cd : nL t = 0
      · have ed : nL t = 0 := cd
        have Ca := hid ca
        have Cc := hid cc
        have Cd := hid cd
        clear ca cc cd
        go_enter Tryd.func61, Tryd.ntmps61
        go_wp2_with fail
        refine (proper_any (sOf t) _ slen).mono ?_
        rintro e w2 ⟨rfl, rfl⟩
        cases hv : okS (sOf t) with
        | false =>
          have HF : Hid (formT (m + 1) t = false) := formT_kind (by simp [kindF, K0.out, hv])
          clear hv
          go_wp2_with fail
          go_ret
          exact ⟨ret_bool HF.out.symm, (Below.refl _ _).alloc (Nat.le_refl _) _⟩
        | true =>
          by_cases c4 : (sOf t).size ≤ 4000
          · have HF : Hid (formT (m + 1) t = allL (formT m) t (nL t)) := by show formT (m + 1) t = _; simp only [formT]; rw [show headF t = true from by simp [headF, K0.out, Ca.out, Cc.out, Cd.out], show kindF t = true from by simp [kindF, K0.out, hv, c4]]; rfl
            have ez : decide ((4000 : Int) < ((sOf t).size : Int)) = false := decide_eq_false (by omega)
            clear hv
            go_wp2_with fail
            go_loopg [8] 1 (fun g i wr => i = .int .i64 0 ∧ wr = w.alloc (.cells #[.int .i64 (kindOf t), .int .i64 (nOf t), .string (sOf t), .slice La 0 Lc, .slice Ka 0 Kc] 26))
            case atStart => exact ⟨rfl, rfl⟩
            case round =>
              obtain ⟨rfl, rfl⟩ := hrel
              go_wp2_with fail
              go_ret
              exact ⟨ret_bool (by rw [HF.out, Cd.out]; rfl), (Below.refl _ _).alloc (Nat.le_refl _) _⟩
          · have HF : Hid (formT (m + 1) t = false) := formT_kind (by simp [kindF, K0.out, c4])
            have ez : decide ((4000 : Int) < ((sOf t).size : Int)) = true := decide_eq_true (by omega)
            clear hv
            go_wp2_with fail
            go_ret
            exact ⟨ret_bool HF.out.symm, (Below.refl _ _).alloc (Nat.le_refl _) _⟩
      · have ed : (0 : Int) < (nL t : Int) := by omega
        have HF : Hid (formT (m + 1) t = false) := formT_head (by simp [headF, K0.out, cd])
        go_enter Tryd.func61, Tryd.ntmps61
        go_wp2_with fail
        go_ret
        exact ⟨ret_bool HF.out.symm, (Below.refl _ _).alloc (Nat.le_refl _) _⟩
    · have ec : (0 : Int) < (nK t : Int) := by omega
      have HF : Hid (formT (m + 1) t = false) := formT_head (by simp [headF, K0.out, cc])
      go_enter Tryd.func61, Tryd.ntmps61
      go_wp2_with fail
      go_ret
      exact ⟨ret_bool HF.out.symm, (Below.refl _ _).alloc (Nat.le_refl _) _⟩
  · have ea : (nOf t != 0) = true := by simpa using ca
    have HF : Hid (formT (m + 1) t = false) := formT_head (by simp [headF, K0.out, ca])
    go_enter Tryd.func61, Tryd.ntmps61
    go_wp2_with fail
    go_ret
    exact ⟨ret_bool HF.out.symm, (Below.refl _ _).alloc (Nat.le_refl _) _⟩

set_option maxHeartbeats 1000000 in
set_option maxRecDepth 100000 in
theorem form_k5 (m : Nat) (ih : FormSaid m) (f : Nat) (v : Value) (t : T) (w : World) (h : At w f v t) (hm : m + 1 ≤ 100) (hk0 : kindOf t = 5) :
    Calls Tryd.prog 61 #[v, .int .i64 (((m + 1 : Nat) : Int) - 1)] w fun e w' => e = .returned (.bool (formT (m + 1) t)) ∧ Below w.heap.size w w' := by
  obtain ⟨f, La, Ka, Lc, Kc, rfl, rfl, hf, hl, hk⟩ := h.open
  have hlen := hf.l1
  have klen := hf.m1
  have slen := hf.s1
  clear h hf
  have em : (((m + 1 : Nat) : Int) - 1) = (m : Int) := by omega
  rw [em]
  have e0 : ¬ ((m : Int) < 0) := by omega
  have K0 := hid hk0
  have g1 : (kindOf t == 1) = false := by rw [hk0]; rfl
  have n1 : (kindOf t != 1) = true := by rw [hk0]; rfl
  have g2 : (kindOf t == 2) = false := by rw [hk0]; rfl
  have n2 : (kindOf t != 2) = true := by rw [hk0]; rfl
  have g3 : (kindOf t == 3) = false := by rw [hk0]; rfl
  have n3 : (kindOf t != 3) = true := by rw [hk0]; rfl
  have g4 : (kindOf t == 4) = false := by rw [hk0]; rfl
  have n4 : (kindOf t != 4) = true := by rw [hk0]; rfl
  have g5 : (kindOf t == 5) = true := by rw [hk0]; rfl
  have n5 : (kindOf t != 5) = false := by rw [hk0]; rfl
  have g6 : (kindOf t == 6) = false := by rw [hk0]; rfl
  have n6 : (kindOf t != 6) = true := by rw [hk0]; rfl
  clear hk0
  by_cases ca : nOf t = 0
  · have ea : (nOf t != 0) = false := by simp [ca]
    by_cases cb : noText t = true
    · have eb : (sOf t).toList.isEmpty = true := cb
      by_cases cc : nK t = 0
      · have ec : nK t = 0 := cc
        have Ca := hid ca
        have Cb := hid cb
        have Cc := hid cc
        clear ca cb cc
        have HF : Hid (formT (m + 1) t = allL (formT m) t (nL t)) := by show formT (m + 1) t = _; simp only [formT]; rw [show headF t = true from by simp [headF, K0.out, Ca.out, Cb.out, Cc.out], show kindF t = true from by simp [kindF, K0.out]]; rfl
        go_enter Tryd.func61, Tryd.ntmps61
        go_wp2_with fail
        go_loopg [8] (nL t) (fun g i wr => ∃ k : Nat, g = nL t - k ∧ k ≤ nL t ∧ i = .int .i64 k ∧ Hid (allL (formT m) t k = true) ∧ Below (w.heap.size + 1) (w.alloc (.cells #[.int .i64 (kindOf t), .int .i64 (nOf t), .string (sOf t), .slice La (nL t) Lc, .slice Ka 0 Kc] 26)) wr)
        case atStart => exact ⟨0, rfl, Nat.zero_le _, rfl, rfl, Below.refl _ _⟩
        case round =>
          obtain ⟨k, rfl, hk1, rfl, HA, hb⟩ := hrel
          obtain ⟨q0, q1, q2, q3, q4, hz, hbw⟩ := box_facts hb
          have Hb := hid hb
          clear hb
          by_cases hlt : k < nL t
          · obtain ⟨b, o, c0, c1, c2, c3, c4, rfl, hbl, p0, p1, p2, p3, p4, Ha⟩ := hl.out.keep hbw k hlt
            go_wp2_with fail
            refine (ih _ _ _ _ Ha.out (by omega)).mono ?_
            rintro e w2 ⟨rfl, hb2⟩
            have hb3 := hid (Hb.out.trans (hb2.mono (by omega)))
            clear hb2
            cases hv : formT m (elt t k) with
            | true =>
              have Hv := hid hv
              clear hv
              go_wp2_with fail
              go_roundg (nL t - (k + 1))
              case rel => exact ⟨k + 1, rfl, by omega, by go_num, by show (allL (formT m) t k && formT m (elt t k)) = true; rw [HA.out, Hv.out]; rfl, hb3.out⟩
              case measure => omega
            | false =>
              have Hv := hid hv
              clear hv
              go_wp2_with fail
              go_ret
              exact ⟨ret_bool (by rw [HF.out, allL_at hlt Hv.out]), ((Below.refl _ _).alloc (Nat.le_refl _) _).trans (hb3.out.mono (by omega))⟩
          · obtain rfl : k = nL t := by omega
            go_wp2_with fail
            go_ret
            exact ⟨ret_bool (by rw [HF.out, HA.out]), hbw⟩
      · have ec : (0 : Int) < (nK t : Int) := by omega
        have HF : Hid (formT (m + 1) t = false) := formT_head (by simp [headF, K0.out, cc])
        go_enter Tryd.func61, Tryd.ntmps61
        go_wp2_with fail
        go_ret
        exact ⟨ret_bool HF.out.symm, (Below.refl _ _).alloc (Nat.le_refl _) _⟩
    · have eb : (sOf t).toList.isEmpty = false := by simpa [noText] using cb
      have HF : Hid (formT (m + 1) t = false) := formT_head (by simp [headF, K0.out, cb])
      go_enter Tryd.func61, Tryd.ntmps61
      go_wp2_with fail
      go_ret
      exact ⟨ret_bool HF.out.symm, (Below.refl _ _).alloc (Nat.le_refl _) _⟩
  · have ea : (nOf t != 0) = true := by simpa using ca
    have HF : Hid (formT (m + 1) t = false) := formT_head (by simp [headF, K0.out, ca])
    go_enter Tryd.func61, Tryd.ntmps61
    go_wp2_with fail
    go_ret
    exact ⟨ret_bool HF.out.symm, (Below.refl _ _).alloc (Nat.le_refl _) _⟩

set_option maxHeartbeats 1000000 in
set_option maxRecDepth 100000 in
theorem form_k6 (m : Nat) (ih : FormSaid m) (f : Nat) (v : Value) (t : T) (w : World) (h : At w f v t) (hm : m + 1 ≤ 100) (hk0 : kindOf t = 6) :
    Calls Tryd.prog 61 #[v, .int .i64 (((m + 1 : Nat) : Int) - 1)] w fun e w' => e = .returned (.bool (formT (m + 1) t)) ∧ Below w.heap.size w w' := by
  obtain ⟨f, La, Ka, Lc, Kc, rfl, rfl, hf, hl, hk⟩ := h.open
  have hlen := hf.l1
  have klen := hf.m1
  have slen := hf.s1
  clear h hf
  have em : (((m + 1 : Nat) : Int) - 1) = (m : Int) := by omega
  rw [em]
  have e0 : ¬ ((m : Int) < 0) := by omega
  have K0 := hid hk0
  have g1 : (kindOf t == 1) = false := by rw [hk0]; rfl
  have n1 : (kindOf t != 1) = true := by rw [hk0]; rfl
  have g2 : (kindOf t == 2) = false := by rw [hk0]; rfl
  have n2 : (kindOf t != 2) = true := by rw [hk0]; rfl
  have g3 : (kindOf t == 3) = false := by rw [hk0]; rfl
  have n3 : (kindOf t != 3) = true := by rw [hk0]; rfl
  have g4 : (kindOf t == 4) = false := by rw [hk0]; rfl
  have n4 : (kindOf t != 4) = true := by rw [hk0]; rfl
  have g5 : (kindOf t == 5) = false := by rw [hk0]; rfl
  have n5 : (kindOf t != 5) = true := by rw [hk0]; rfl
  have g6 : (kindOf t == 6) = true := by rw [hk0]; rfl
  have n6 : (kindOf t != 6) = false := by rw [hk0]; rfl
  clear hk0
  by_cases ca : nOf t = 0
  · have ea : (nOf t != 0) = false := by simp [ca]
    by_cases cb : noText t = true
    · have eb : (sOf t).toList.isEmpty = true := cb
      have Ca := hid ca
      have Cb := hid cb
      clear ca cb
      by_cases ck : nK t = nL t
      · have ek : ((nK t : Int) != (nL t : Int)) = false := by simp [ck]
        have HF : Hid (formT (m + 1) t = (namesF t (nK t) && allL (formT m) t (nL t))) := by show formT (m + 1) t = _; simp only [formT]; rw [show headF t = true from by simp [headF, K0.out, Ca.out, Cb.out], show kindF t = namesF t (nK t) from by simp [kindF, K0.out, ck]]; rfl
        clear ck
        go_enter Tryd.func61, Tryd.ntmps61
        go_wp2_with fail
        go_loopg [6] (nK t) (fun g i wr => ∃ k : Nat, g = nK t - k ∧ k ≤ nK t ∧ i = .int .i64 k ∧ Hid (namesF t k = true) ∧ Below (w.heap.size + 1) (w.alloc (.cells #[.int .i64 (kindOf t), .int .i64 (nOf t), .string (sOf t), .slice La (nL t) Lc, .slice Ka (nK t) Kc] 26)) wr)
        case atStart => exact ⟨0, rfl, Nat.zero_le _, rfl, rfl, Below.refl _ _⟩
        case round =>
          obtain ⟨j, rfl, hj1, rfl, HN, hbj⟩ := hrel
          obtain ⟨r0, r1, r2, r3, r4, hzj, hbwj⟩ := box_facts hbj
          have Hbj := hid hbj
          clear hbj
          by_cases hjl : j < nK t
          · obtain ⟨kb, ko, rfl, hkb, hks, hkc⟩ := hk.out.keep hbwj j hjl
            go_wp2_with fail
            refine (proper_any (nam t j) _ hks).mono ?_
            rintro e w2 ⟨rfl, rfl⟩
            cases hv : okS (nam t j) with
            | false =>
              have HN1 : Hid (namesF t (nK t) = false) := namesF_false (j := j + 1) hjl (by simp [namesF, hv])
              clear hv
              go_wp2_with fail
              go_ret
              exact ⟨ret_bool (by rw [HF.out, HN1.out]; rfl), hbwj⟩
            | true =>
              by_cases c4 : (nam t j).size ≤ 4000
              · have HN1 : Hid (namesF t (j + 1) = true) := by show (namesF t j && (okS (nam t j) && decide ((nam t j).size ≤ 4000))) = true; rw [HN.out, hv, decide_eq_true c4]; rfl
                have ez : decide ((4000 : Int) < ((nam t j).size : Int)) = false := decide_eq_false (by omega)
                clear hv
                go_wp2_with fail
                go_roundg (nK t - (j + 1))
                case rel => exact ⟨j + 1, rfl, by omega, by go_num, HN1, Hbj.out⟩
                case measure => omega
              · have HN1 : Hid (namesF t (nK t) = false) := namesF_false (j := j + 1) hjl (by simp [namesF, c4])
                have ez : decide ((4000 : Int) < ((nam t j).size : Int)) = true := decide_eq_true (by omega)
                clear hv
                go_wp2_with fail
                go_ret
                exact ⟨ret_bool (by rw [HF.out, HN1.out]; rfl), hbwj⟩
          · obtain rfl : j = nK t := by omega
            have HF0 := hid HF.out
            clear HF
            have HF : Hid (formT (m + 1) t = allL (formT m) t (nL t)) := by show formT (m + 1) t = _; rw [HF0.out, HN.out]; rfl

            go_wp2_with fail
            go_loopg [8] (nL t) (fun g i wr => ∃ k : Nat, g = nL t - k ∧ k ≤ nL t ∧ i = .int .i64 k ∧ Hid (allL (formT m) t k = true) ∧ Below (w.heap.size + 1) (w.alloc (.cells #[.int .i64 (kindOf t), .int .i64 (nOf t), .string (sOf t), .slice La (nL t) Lc, .slice Ka (nK t) Kc] 26)) wr)
            case atStart => exact ⟨0, rfl, Nat.zero_le _, rfl, rfl, Hbj.out⟩
            case round =>
              obtain ⟨k, rfl, hk1, rfl, HA, hb⟩ := hrel
              obtain ⟨q0, q1, q2, q3, q4, hz, hbw⟩ := box_facts hb
              have Hb := hid hb
              clear hb
              by_cases hlt : k < nL t
              · obtain ⟨b, o, c0, c1, c2, c3, c4, rfl, hbl, p0, p1, p2, p3, p4, Ha⟩ := hl.out.keep hbw k hlt
                go_wp2_with fail
                refine (ih _ _ _ _ Ha.out (by omega)).mono ?_
                rintro e w2 ⟨rfl, hb2⟩
                have hb3 := hid (Hb.out.trans (hb2.mono (by omega)))
                clear hb2
                cases hv : formT m (elt t k) with
                | true =>
                  have Hv := hid hv
                  clear hv
                  go_wp2_with fail
                  go_roundg (nL t - (k + 1))
                  case rel => exact ⟨k + 1, rfl, by omega, by go_num, by show (allL (formT m) t k && formT m (elt t k)) = true; rw [HA.out, Hv.out]; rfl, hb3.out⟩
                  case measure => omega
                | false =>
                  have Hv := hid hv
                  clear hv
                  go_wp2_with fail
                  go_ret
                  exact ⟨ret_bool (by rw [HF.out, allL_at hlt Hv.out]), ((Below.refl _ _).alloc (Nat.le_refl _) _).trans (hb3.out.mono (by omega))⟩
              · obtain rfl : k = nL t := by omega
                go_wp2_with fail
                go_ret
                exact ⟨ret_bool (by rw [HF.out, HA.out]), hbw⟩

      · have ek : ((nK t : Int) != (nL t : Int)) = true := by simp; omega
        have HF : Hid (formT (m + 1) t = false) := formT_kind (by simp [kindF, K0.out, ck])
        clear ck
        go_enter Tryd.func61, Tryd.ntmps61
        go_wp2_with fail
        go_ret
        exact ⟨ret_bool HF.out.symm, (Below.refl _ _).alloc (Nat.le_refl _) _⟩
    · have eb : (sOf t).toList.isEmpty = false := by simpa [noText] using cb
      have HF : Hid (formT (m + 1) t = false) := formT_head (by simp [headF, K0.out, cb])
      go_enter Tryd.func61, Tryd.ntmps61
      go_wp2_with fail
      go_ret
      exact ⟨ret_bool HF.out.symm, (Below.refl _ _).alloc (Nat.le_refl _) _⟩
  · have ea : (nOf t != 0) = true := by simpa using ca
    have HF : Hid (formT (m + 1) t = false) := formT_head (by simp [headF, K0.out, ca])
    go_enter Tryd.func61, Tryd.ntmps61
    go_wp2_with fail
    go_ret
    exact ⟨ret_bool HF.out.symm, (Below.refl _ _).alloc (Nat.le_refl _) _⟩

set_option maxHeartbeats 400000 in
set_option maxRecDepth 100000 in
theorem form_any (m : Nat) : FormSaid m := by
  induction m with
  | zero =>
    intro f v t w h _
    obtain ⟨f, La, Ka, Lc, Kc, rfl, rfl, hf, hl, hk⟩ := h.open
    clear h hf hl hk
    go_enter Tryd.func61, Tryd.ntmps61
    go_wp2_with fail
    go_ret
    exact ⟨rfl, (Below.refl _ _).alloc (Nat.le_refl _) _⟩
  | succ m ih =>
    intro f v t w h hm
    by_cases h1 : kindOf t = 1
    · exact form_k1 m ih f v t w h hm h1
    by_cases h2 : kindOf t = 2
    · exact form_k2 m ih f v t w h hm h2
    by_cases h3 : kindOf t = 3
    · exact form_k3 m ih f v t w h hm h3
    by_cases h4 : kindOf t = 4
    · exact form_k4 m ih f v t w h hm h4
    by_cases h5 : kindOf t = 5
    · exact form_k5 m ih f v t w h hm h5
    by_cases h6 : kindOf t = 6
    · exact form_k6 m ih f v t w h hm h6
    exact form_k0 m ih f v t w h hm ⟨h1, h2, h3, h4, h5, h6⟩
end Go.Proofs.YtknakfpciccoaaaDoor
