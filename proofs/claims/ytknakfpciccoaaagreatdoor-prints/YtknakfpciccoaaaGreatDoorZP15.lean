import Derived.Test.YtknakfpciccoaaaGreatDoorZP14
import Derived.Test.YtknakfpciccoaaaGreatDoorZP13
import Derived.Test.YtknakfpciccoaaaGreatDoorZP2
import Derived.Test.YtknakfpciccoaaaGreatDoorZP7
import Derived.Test.YtknakfpciccoaaaGreatDoorZP11
/- The walk of form, kind by kind. -/
namespace Go.Proofs.YtknakfpciccoaaaGreatDoor
open Go.RowKit


set_option maxHeartbeats 1000000 in
set_option maxRecDepth 100000 in
theorem form_k4 (m : Nat) (_ih : FormSaid m) (f : Nat) (v : Value) (t : T) (w : World) (h : At w f v t) (hm : m + 1 ≤ 100) (hk0 : kindOf t = 4) :
    Calls Tryz.prog 82 #[v, .int .i64 (((m + 1 : Nat) : Int) - 1)] w fun e w' => e = .returned (.bool (formT (m + 1) t)) ∧ Below w.heap.size w w' := by
  obtain ⟨f, La, Ka, Lc, Kc, rfl, rfl, hf, hl, hk⟩ := h.open
  have hlen := hf.l1
  have klen := hf.m1
  have slen := hf.s1
  clear h hf
  have em : (((m + 1 : Nat) : Int) - 1) = (m : Int) := by omega
  rw [em]
  have e0 : ¬ ((m : Int) < 0) := by omega
  have K0 := hid hk0
  have g1 : (kindOf t == 1) = false := by rw [hk0]; rfl
  have n1 : (kindOf t != 1) = true := by rw [hk0]; rfl
  have g2 : (kindOf t == 2) = false := by rw [hk0]; rfl
  have n2 : (kindOf t != 2) = true := by rw [hk0]; rfl
  have g3 : (kindOf t == 3) = false := by rw [hk0]; rfl
  have n3 : (kindOf t != 3) = true := by rw [hk0]; rfl
  have g4 : (kindOf t == 4) = true := by rw [hk0]; rfl
  have n4 : (kindOf t != 4) = false := by rw [hk0]; rfl
  have g5 : (kindOf t == 5) = false := by rw [hk0]; rfl
  have n5 : (kindOf t != 5) = true := by rw [hk0]; rfl
  have g6 : (kindOf t == 6) = false := by rw [hk0]; rfl
  have n6 : (kindOf t != 6) = true := by rw [hk0]; rfl
  clear hk0
  by_cases ca : nOf t = 0
  · have ea : (nOf t != 0) = false := by simp [ca]
    by_cases cc : nK t = 0
    · have ec : nK t = 0 := cc
      by_cases cd : nL t = 0
      · have ed : nL t = 0 := cd
        have Ca := hid ca
        have Cc := hid cc
        have Cd := hid cd
        clear ca cc cd
        go_enter Tryz.func82, Tryz.ntmps82
        go_wp2_with fail
        refine (proper_any (sOf t) _ slen).mono ?_
        rintro e w2 ⟨rfl, rfl⟩
        cases hv : okS (sOf t) with
        | false =>
          have HF : Hid (formT (m + 1) t = false) := formT_kind (by simp [kindF, K0.out, hv])
          clear hv
          go_wp2_with fail
          go_ret
          exact ⟨ret_bool HF.out.symm, (Below.refl _ _).alloc (Nat.le_refl _) _⟩
        | true =>
          by_cases c4 : (sOf t).size ≤ 4000
          · have HF : Hid (formT (m + 1) t = allL (formT m) t (nL t)) := by show formT (m + 1) t = _; simp only [formT]; rw [show headF t = true from by simp [headF, K0.out, Ca.out, Cc.out, Cd.out], show kindF t = true from by simp [kindF, K0.out, hv, c4]]; rfl
            have ez : decide ((4000 : Int) < ((sOf t).size : Int)) = false := decide_eq_false (by omega)
            clear hv
            go_wp2_with fail
            go_loopg [8] 1 (fun g i wr => i = .int .i64 0 ∧ wr = w.alloc (.cells #[.int .i64 (kindOf t), .int .i64 (nOf t), .string (sOf t), .slice La 0 Lc, .slice Ka 0 Kc] 25))
            case atStart => exact ⟨rfl, rfl⟩
            case round =>
              obtain ⟨rfl, rfl⟩ := hrel
              go_wp2_with fail
              go_ret
              exact ⟨ret_bool (by rw [HF.out, Cd.out]; rfl), (Below.refl _ _).alloc (Nat.le_refl _) _⟩
          · have HF : Hid (formT (m + 1) t = false) := formT_kind (by simp [kindF, K0.out, c4])
            have ez : decide ((4000 : Int) < ((sOf t).size : Int)) = true := decide_eq_true (by omega)
            clear hv
            go_wp2_with fail
            go_ret
            exact ⟨ret_bool HF.out.symm, (Below.refl _ _).alloc (Nat.le_refl _) _⟩
      · have ed : (0 : Int) < (nL t : Int) := by omega
        have HF : Hid (formT (m + 1) t = false) := formT_head (by simp [headF, K0.out, cd])
        go_enter Tryz.func82, Tryz.ntmps82
        go_wp2_with fail
        go_ret
        exact ⟨ret_bool HF.out.symm, (Below.refl _ _).alloc (Nat.le_refl _) _⟩
    · have ec : (0 : Int) < (nK t : Int) := by omega
      have HF : Hid (formT (m + 1) t = false) := formT_head (by simp [headF, K0.out, cc])
      go_enter Tryz.func82, Tryz.ntmps82
      go_wp2_with fail
      go_ret
      exact ⟨ret_bool HF.out.symm, (Below.refl _ _).alloc (Nat.le_refl _) _⟩
  · have ea : (nOf t != 0) = true := by simpa using ca
    have HF : Hid (formT (m + 1) t = false) := formT_head (by simp [headF, K0.out, ca])
    go_enter Tryz.func82, Tryz.ntmps82
    go_wp2_with fail
    go_ret
    exact ⟨ret_bool HF.out.symm, (Below.refl _ _).alloc (Nat.le_refl _) _⟩

set_option maxHeartbeats 1000000 in
set_option maxRecDepth 100000 in
theorem form_k5 (m : Nat) (ih : FormSaid m) (f : Nat) (v : Value) (t : T) (w : World) (h : At w f v t) (hm : m + 1 ≤ 100) (hk0 : kindOf t = 5) :
    Calls Tryz.prog 82 #[v, .int .i64 (((m + 1 : Nat) : Int) - 1)] w fun e w' => e = .returned (.bool (formT (m + 1) t)) ∧ Below w.heap.size w w' := by
  obtain ⟨f, La, Ka, Lc, Kc, rfl, rfl, hf, hl, hk⟩ := h.open
  have hlen := hf.l1
  have klen := hf.m1
  have slen := hf.s1
  clear h hf
  have em : (((m + 1 : Nat) : Int) - 1) = (m : Int) := by omega
  rw [em]
  have e0 : ¬ ((m : Int) < 0) := by omega
  have K0 := hid hk0
  have g1 : (kindOf t == 1) = false := by rw [hk0]; rfl
  have n1 : (kindOf t != 1) = true := by rw [hk0]; rfl
  have g2 : (kindOf t == 2) = false := by rw [hk0]; rfl
  have n2 : (kindOf t != 2) = true := by rw [hk0]; rfl
  have g3 : (kindOf t == 3) = false := by rw [hk0]; rfl
  have n3 : (kindOf t != 3) = true := by rw [hk0]; rfl
  have g4 : (kindOf t == 4) = false := by rw [hk0]; rfl
  have n4 : (kindOf t != 4) = true := by rw [hk0]; rfl
  have g5 : (kindOf t == 5) = true := by rw [hk0]; rfl
  have n5 : (kindOf t != 5) = false := by rw [hk0]; rfl
  have g6 : (kindOf t == 6) = false := by rw [hk0]; rfl
  have n6 : (kindOf t != 6) = true := by rw [hk0]; rfl
  clear hk0
  by_cases ca : nOf t = 0
  · have ea : (nOf t != 0) = false := by simp [ca]
    by_cases cb : noText t = true
    · have eb : (sOf t).toList.isEmpty = true := cb
      by_cases cc : nK t = 0
      · have ec : nK t = 0 := cc
        have Ca := hid ca
        have Cb := hid cb
        have Cc := hid cc
        clear ca cb cc
        have HF : Hid (formT (m + 1) t = allL (formT m) t (nL t)) := by show formT (m + 1) t = _; simp only [formT]; rw [show headF t = true from by simp [headF, K0.out, Ca.out, Cb.out, Cc.out], show kindF t = true from by simp [kindF, K0.out]]; rfl
        go_enter Tryz.func82, Tryz.ntmps82
        go_wp2_with fail
        go_loopg [8] (nL t) (fun g i wr => ∃ k : Nat, g = nL t - k ∧ k ≤ nL t ∧ i = .int .i64 k ∧ Hid (allL (formT m) t k = true) ∧ Below (w.heap.size + 1) (w.alloc (.cells #[.int .i64 (kindOf t), .int .i64 (nOf t), .string (sOf t), .slice La (nL t) Lc, .slice Ka 0 Kc] 25)) wr)
        case atStart => exact ⟨0, rfl, Nat.zero_le _, rfl, rfl, Below.refl _ _⟩
        case round =>
          obtain ⟨k, rfl, hk1, rfl, HA, hb⟩ := hrel
          obtain ⟨q0, q1, q2, q3, q4, hz, hbw⟩ := box_facts hb
          have Hb := hid hb
          clear hb
          by_cases hlt : k < nL t
          · obtain ⟨b, o, c0, c1, c2, c3, c4, rfl, hbl, p0, p1, p2, p3, p4, Ha⟩ := hl.out.keep hbw k hlt
            go_wp2_with fail
            refine (ih _ _ _ _ Ha.out (by omega)).mono ?_
            rintro e w2 ⟨rfl, hb2⟩
            have hb3 := hid (Hb.out.trans (hb2.mono (by omega)))
            clear hb2
            cases hv : formT m (elt t k) with
            | true =>
              have Hv := hid hv
              clear hv
              go_wp2_with fail
              go_roundg (nL t - (k + 1))
              case rel => exact ⟨k + 1, rfl, by omega, by go_num, by show (allL (formT m) t k && formT m (elt t k)) = true; rw [HA.out, Hv.out]; rfl, hb3.out⟩
              case measure => omega
            | false =>
              have Hv := hid hv
              clear hv
              go_wp2_with fail
              go_ret
              exact ⟨ret_bool (by rw [HF.out, allL_at hlt Hv.out]), ((Below.refl _ _).alloc (Nat.le_refl _) _).trans (hb3.out.mono (by omega))⟩
          · obtain rfl : k = nL t := by omega
            go_wp2_with fail
            go_ret
            exact ⟨ret_bool (by rw [HF.out, HA.out]), hbw⟩
      · have ec : (0 : Int) < (nK t : Int) := by omega
        have HF : Hid (formT (m + 1) t = false) := formT_head (by simp [headF, K0.out, cc])
        go_enter Tryz.func82, Tryz.ntmps82
        go_wp2_with fail
        go_ret
        exact ⟨ret_bool HF.out.symm, (Below.refl _ _).alloc (Nat.le_refl _) _⟩
    · have eb : (sOf t).toList.isEmpty = false := by simpa [noText] using cb
      have HF : Hid (formT (m + 1) t = false) := formT_head (by simp [headF, K0.out, cb])
      go_enter Tryz.func82, Tryz.ntmps82
      go_wp2_with fail
      go_ret
      exact ⟨ret_bool HF.out.symm, (Below.refl _ _).alloc (Nat.le_refl _) _⟩
  · have ea : (nOf t != 0) = true := by simpa using ca
    have HF : Hid (formT (m + 1) t = false) := formT_head (by simp [headF, K0.out, ca])
    go_enter Tryz.func82, Tryz.ntmps82
    go_wp2_with fail
    go_ret
    exact ⟨ret_bool HF.out.symm, (Below.refl _ _).alloc (Nat.le_refl _) _⟩

set_option maxHeartbeats 1000000 in
set_option maxRecDepth 100000 in
theorem form_k6 (m : Nat) (ih : FormSaid m) (f : Nat) (v : Value) (t : T) (w : World) (h : At w f v t) (hm : m + 1 ≤ 100) (hk0 : kindOf t = 6) :
    Calls Tryz.prog 82 #[v, .int .i64 (((m + 1 : Nat) : Int) - 1)] w fun e w' => e = .returned (.bool (formT (m + 1) t)) ∧ Below w.heap.size w w' := by
  obtain ⟨f, La, Ka, Lc, Kc, rfl, rfl, hf, hl, hk⟩ := h.open
  have hlen := hf.l1
  have klen := hf.m1
  have slen := hf.s1
  clear h hf
  have em : (((m + 1 : Nat) : Int) - 1) = (m : Int) := by omega
  rw [em]
  have e0 : ¬ ((m : Int) < 0) := by omega
  have K0 := hid hk0
  have g1 : (kindOf t == 1) = false := by rw [hk0]; rfl
  have n1 : (kindOf t != 1) = true := by rw [hk0]; rfl
  have g2 : (kindOf t == 2) = false := by rw [hk0]; rfl
  have n2 : (kindOf t != 2) = true := by rw [hk0]; rfl
  have g3 : (kindOf t == 3) = false := by rw [hk0]; rfl
  have n3 : (kindOf t != 3) = true := by rw [hk0]; rfl
  have g4 : (kindOf t == 4) = false := by rw [hk0]; rfl
  have n4 : (kindOf t != 4) = true := by rw [hk0]; rfl
  have g5 : (kindOf t == 5) = false := by rw [hk0]; rfl
  have n5 : (kindOf t != 5) = true := by rw [hk0]; rfl
  have g6 : (kindOf t == 6) = true := by rw [hk0]; rfl
  have n6 : (kindOf t != 6) = false := by rw [hk0]; rfl
  clear hk0
  by_cases ca : nOf t = 0
  · have ea : (nOf t != 0) = false := by simp [ca]
    by_cases cb : noText t = true
    · have eb : (sOf t).toList.isEmpty = true := cb
      have Ca := hid ca
      have Cb := hid cb
      clear ca cb
      by_cases ck : nK t = nL t
      · have ek : ((nK t : Int) != (nL t : Int)) = false := by simp [ck]
        have HF : Hid (formT (m + 1) t = (namesF t (nK t) && allL (formT m) t (nL t))) := by show formT (m + 1) t = _; simp only [formT]; rw [show headF t = true from by simp [headF, K0.out, Ca.out, Cb.out], show kindF t = namesF t (nK t) from by simp [kindF, K0.out, ck]]; rfl
        clear ck
        go_enter Tryz.func82, Tryz.ntmps82
        go_wp2_with fail
        go_loopg [6] (nK t) (fun g i wr => ∃ k : Nat, g = nK t - k ∧ k ≤ nK t ∧ i = .int .i64 k ∧ Hid (namesF t k = true) ∧ Below (w.heap.size + 1) (w.alloc (.cells #[.int .i64 (kindOf t), .int .i64 (nOf t), .string (sOf t), .slice La (nL t) Lc, .slice Ka (nK t) Kc] 25)) wr)
        case atStart => exact ⟨0, rfl, Nat.zero_le _, rfl, rfl, Below.refl _ _⟩
        case round =>
          obtain ⟨j, rfl, hj1, rfl, HN, hbj⟩ := hrel
          obtain ⟨r0, r1, r2, r3, r4, hzj, hbwj⟩ := box_facts hbj
          have Hbj := hid hbj
          clear hbj
          by_cases hjl : j < nK t
          · obtain ⟨kb, ko, rfl, hkb, hks, hkc⟩ := hk.out.keep hbwj j hjl
            go_wp2_with fail
            refine (proper_any (nam t j) _ hks).mono ?_
            rintro e w2 ⟨rfl, rfl⟩
            cases hv : okS (nam t j) with
            | false =>
              have HN1 : Hid (namesF t (nK t) = false) := namesF_false (j := j + 1) hjl (by simp [namesF, hv])
              clear hv
              go_wp2_with fail
              go_ret
              exact ⟨ret_bool (by rw [HF.out, HN1.out]; rfl), hbwj⟩
            | true =>
              by_cases c4 : (nam t j).size ≤ 4000
              · have HN1 : Hid (namesF t (j + 1) = true) := by show (namesF t j && (okS (nam t j) && decide ((nam t j).size ≤ 4000))) = true; rw [HN.out, hv, decide_eq_true c4]; rfl
                have ez : decide ((4000 : Int) < ((nam t j).size : Int)) = false := decide_eq_false (by omega)
                clear hv
                go_wp2_with fail
                go_roundg (nK t - (j + 1))
                case rel => exact ⟨j + 1, rfl, by omega, by go_num, HN1, Hbj.out⟩
                case measure => omega
              · have HN1 : Hid (namesF t (nK t) = false) := namesF_false (j := j + 1) hjl (by simp [namesF, c4])
                have ez : decide ((4000 : Int) < ((nam t j).size : Int)) = true := decide_eq_true (by omega)
                clear hv
                go_wp2_with fail
                go_ret
                exact ⟨ret_bool (by rw [HF.out, HN1.out]; rfl), hbwj⟩
          · obtain rfl : j = nK t := by omega
            have HF0 := hid HF.out
            clear HF
            have HF : Hid (formT (m + 1) t = allL (formT m) t (nL t)) := by show formT (m + 1) t = _; rw [HF0.out, HN.out]; rfl

            go_wp2_with fail
            go_loopg [8] (nL t) (fun g i wr => ∃ k : Nat, g = nL t - k ∧ k ≤ nL t ∧ i = .int .i64 k ∧ Hid (allL (formT m) t k = true) ∧ Below (w.heap.size + 1) (w.alloc (.cells #[.int .i64 (kindOf t), .int .i64 (nOf t), .string (sOf t), .slice La (nL t) Lc, .slice Ka (nK t) Kc] 25)) wr)
            case atStart => exact ⟨0, rfl, Nat.zero_le _, rfl, rfl, Hbj.out⟩
            case round =>
              obtain ⟨k, rfl, hk1, rfl, HA, hb⟩ := hrel
              obtain ⟨q0, q1, q2, q3, q4, hz, hbw⟩ := box_facts hb
              have Hb := hid hb
              clear hb
              by_cases hlt : k < nL t
              · obtain ⟨b, o, c0, c1, c2, c3, c4, rfl, hbl, p0, p1, p2, p3, p4, Ha⟩ := hl.out.keep hbw k hlt
                go_wp2_with fail
                refine (ih _ _ _ _ Ha.out (by omega)).mono ?_
                rintro e w2 ⟨rfl, hb2⟩
                have hb3 := hid (Hb.out.trans (hb2.mono (by omega)))
                clear hb2
                cases hv : formT m (elt t k) with
                | true =>
                  have Hv := hid hv
                  clear hv
                  go_wp2_with fail
                  go_roundg (nL t - (k + 1))
                  case rel => exact ⟨k + 1, rfl, by omega, by go_num, by show (allL (formT m) t k && formT m (elt t k)) = true; rw [HA.out, Hv.out]; rfl, hb3.out⟩
                  case measure => omega
                | false =>
                  have Hv := hid hv
                  clear hv
                  go_wp2_with fail
                  go_ret
                  exact ⟨ret_bool (by rw [HF.out, allL_at hlt Hv.out]), ((Below.refl _ _).alloc (Nat.le_refl _) _).trans (hb3.out.mono (by omega))⟩
              · obtain rfl : k = nL t := by omega
                go_wp2_with fail
                go_ret
                exact ⟨ret_bool (by rw [HF.out, HA.out]), hbw⟩

      · have ek : ((nK t : Int) != (nL t : Int)) = true := by simp; omega
        have HF : Hid (formT (m + 1) t = false) := formT_kind (by simp [kindF, K0.out, ck])
        clear ck
        go_enter Tryz.func82, Tryz.ntmps82
        go_wp2_with fail
        go_ret
        exact ⟨ret_bool HF.out.symm, (Below.refl _ _).alloc (Nat.le_refl _) _⟩
    · have eb : (sOf t).toList.isEmpty = false := by simpa [noText] using cb
      have HF : Hid (formT (m + 1) t = false) := formT_head (by simp [headF, K0.out, cb])
      go_enter Tryz.func82, Tryz.ntmps82
      go_wp2_with fail
      go_ret
      exact ⟨ret_bool HF.out.symm, (Below.refl _ _).alloc (Nat.le_refl _) _⟩
  · have ea : (nOf t != 0) = true := by simpa using ca
    have HF : Hid (formT (m + 1) t = false) := formT_head (by simp [headF, K0.out, ca])
    go_enter Tryz.func82, Tryz.ntmps82
    go_wp2_with fail
    go_ret
    exact ⟨ret_bool HF.out.symm, (Below.refl _ _).alloc (Nat.le_refl _) _⟩

set_option maxHeartbeats 400000 in
set_option maxRecDepth 100000 in
theorem form_any (m : Nat) : FormSaid m := by
  induction m with
  | zero =>
    intro f v t w h _
    obtain ⟨f, La, Ka, Lc, Kc, rfl, rfl, hf, hl, hk⟩ := h.open
    clear h hf hl hk
    go_enter Tryz.func82, Tryz.ntmps82
    go_wp2_with fail
    go_ret
    exact ⟨rfl, (Below.refl _ _).alloc (Nat.le_refl _) _⟩
  | succ m ih =>
    intro f v t w h hm
    by_cases h1 : kindOf t = 1
    · exact form_k1 m ih f v t w h hm h1
    by_cases h2 : kindOf t = 2
    · exact form_k2 m ih f v t w h hm h2
    by_cases h3 : kindOf t = 3
    · exact form_k3 m ih f v t w h hm h3
    by_cases h4 : kindOf t = 4
    · exact form_k4 m ih f v t w h hm h4
    by_cases h5 : kindOf t = 5
    · exact form_k5 m ih f v t w h hm h5
    by_cases h6 : kindOf t = 6
    · exact form_k6 m ih f v t w h hm h6
    exact form_k0 m ih f v t w h hm ⟨h1, h2, h3, h4, h5, h6⟩
end Go.Proofs.YtknakfpciccoaaaGreatDoor
/- The walk of Is: is it a value? -/
namespace Go.Proofs.YtknakfpciccoaaaGreatDoor
open Go.RowKit

set_option maxHeartbeats 1000000 in
set_option maxRecDepth 100000 in
theorem Is_any (f : Nat) (v : Value) (t : T) (w : World) (h : At w f v t) :
    Calls Tryz.prog 44 #[v] w fun e w' => e = .returned (.bool (isR f t)) ∧ Below w.heap.size w w' := by
  have HA := hid h
  obtain ⟨g, La, Ka, Lc, Kc, hg, rfl, hf, hl, hk⟩ := h.open
  clear h hf hl hk hg
  have HB1 : Hid (Below w.heap.size w (w.alloc (.cells #[.int .i64 (kindOf t), .int .i64 (nOf t), .string (sOf t), .slice La (nL t) Lc, .slice Ka (nK t) Kc] 25))) := (Below.refl _ _).alloc (Nat.le_refl _) _
  have HR : Hid (isR f t = (decide (0 ≤ roomT 14 t 1048576) && decide (deepT 16 t ≤ 12) && formT 15 t && !twiceT f t)) := rfl
  go_enter Tryz.func44, Tryz.ntmps44
  go_wp2_with fail
  rw [show (Value.int .i64 13) = .int .i64 (((14 : Nat) : Int) - 1) from rfl]
  refine (room_any 14 _ _ t 1048576 _ (HA.out.keep HB1.out) (by omega) (by omega) (by omega)).mono ?_
  rintro e w2 ⟨rfl, b2, x0, x1⟩
  have HB2 : Hid (Below (w.heap.size + 1) (w.alloc (.cells #[.int .i64 (kindOf t), .int .i64 (nOf t), .string (sOf t), .slice La (nL t) Lc, .slice Ka (nK t) Kc] 25)) w2) := b2.mono (by simp)
  obtain ⟨q0, q1, q2, q3, q4, hz, hbw⟩ := box_facts HB2.out
  have Hbw := hid hbw
  clear b2 hbw
  generalize hx : roomT 14 t 1048576 = x at x0 x1 ⊢
  have HX := hid hx
  clear hx
  by_cases hn : x < 0
  · have HE : Hid (isR f t = false) := by show _ = _; rw [HR.out, HX.out, decide_eq_false (by omega)]; rfl
    go_wp2_with fail
    go_ret
    exact ⟨ret_bool HE.out.symm, Hbw.out⟩
  have hd0 := deepT_le 16 t
  go_wp2_with fail
  refine (Deep_any _ _ t _ (HA.out.keep Hbw.out)).mono ?_
  rintro e w3 ⟨rfl, b3⟩
  have HB3 : Hid (Below (w.heap.size + 1) (w.alloc (.cells #[.int .i64 (kindOf t), .int .i64 (nOf t), .string (sOf t), .slice La (nL t) Lc, .slice Ka (nK t) Kc] 25)) w3) := HB2.out.trans (b3.mono (by omega))
  clear q0 q1 q2 q3 q4 hz b3 Hbw HB2
  obtain ⟨q0, q1, q2, q3, q4, hz, hbw⟩ := box_facts HB3.out
  have Hbw := hid hbw
  clear hbw
  generalize hy : deepT 16 t = y at hd0 ⊢
  have HY := hid hy
  clear hy
  by_cases hm : 12 < y
  · have HE : Hid (isR f t = false) := by show _ = _; rw [HR.out, HY.out, decide_eq_false (show ¬ y ≤ 12 by omega)]; simp
    go_wp2_with fail
    go_ret
    exact ⟨ret_bool HE.out.symm, Hbw.out⟩
  go_wp2_with fail
  rw [show (Value.int .i64 14) = .int .i64 (((15 : Nat) : Int) - 1) from rfl]
  refine (form_any 15 _ _ t _ (HA.out.keep Hbw.out) (by omega)).mono ?_
  rintro e w4 ⟨rfl, b4⟩
  have HB4 : Hid (Below (w.heap.size + 1) (w.alloc (.cells #[.int .i64 (kindOf t), .int .i64 (nOf t), .string (sOf t), .slice La (nL t) Lc, .slice Ka (nK t) Kc] 25)) w4) := HB3.out.trans (b4.mono (by omega))
  clear q0 q1 q2 q3 q4 hz b4 Hbw HB3
  obtain ⟨q0, q1, q2, q3, q4, hz, hbw⟩ := box_facts HB4.out
  have Hbw := hid hbw
  clear hbw
  cases hv : formT 15 t with
  | false =>
    have HE : Hid (isR f t = false) := by show _ = _; rw [HR.out, hv]; simp
    clear hv
    go_wp2_with fail
    go_ret
    exact ⟨ret_bool HE.out.symm, Hbw.out⟩
  | true =>
    have HE : Hid (isR f t = !twiceT f t) := by show _ = _; rw [HR.out, hv, HX.out, HY.out, decide_eq_true (show 0 ≤ x by omega), decide_eq_true (show y ≤ 12 by omega)]; rfl
    clear hv
    go_wp2_with fail
    refine (twice_any f _ t _ (HA.out.keep Hbw.out)).mono ?_
    rintro e w5 ⟨rfl, b5⟩
    have HB5 : Hid (Below w.heap.size w w5) := Hbw.out.trans (b5.mono (Nat.le_of_lt hz))
    clear b5
    go_wp2_with fail
    go_ret
    exact ⟨ret_bool HE.out.symm, HB5.out⟩

end Go.Proofs.YtknakfpciccoaaaGreatDoor
/- The walks of written and of the reference's Print. -/
namespace Go.Proofs.YtknakfpciccoaaaGreatDoor
open Go.RowKit

theorem names_sz {t : T} : ∀ k, namesF t k = true → ∀ i, i < k → (nam t i).size ≤ 4000
  | 0, _, i, hi => absurd hi (by omega)
  | k + 1, h, i, hi => by
    simp only [namesF, Bool.and_eq_true, decide_eq_true_eq] at h
    by_cases e : i = k
    · subst e; exact h.2.2
    · exact names_sz k h.1 i (by omega)
theorem written_any : ∀ m, WtSaid m
  | 0 => by
    intro f v t w h hg hl
    obtain ⟨g, La, Ka, Lc, Kc, rfl, rfl, hf, _, _⟩ := h.open
    exact written_leaf t hg hf w La Ka Lc Kc
  | m + 1 => by
    intro f v t w h hg hl
    obtain ⟨g, La, Ka, Lc, Kc, rfl, rfl, hf, hl', hk'⟩ := h.open
    rcases hg with hg | ⟨_, _, he, hk⟩
    · obtain ⟨k5, k6⟩ := good_leafK hg
      rw [wrT_leaf k5 k6]
      exact written_leaf t hg hf w La Ka Lc Kc
    rcases hk with ⟨hk, _⟩ | ⟨hk, hnk, hnf, _⟩
    · have e : wrT (m + 1) t = 91 :: (joinL (wrT m) t (nL t) ++ [93]) := by rw [wrT, if_pos hk]
      rw [e] at hl ⊢
      exact written_list m (written_any m) g t w La Ka Lc Kc hl'.out hf.l1 he hk (by simp only [List.length_cons, List.length_append, List.length_nil] at hl; omega)
    · have e : wrT (m + 1) t = 123 :: (joinO (wrT m) t (nL t) ++ [125]) := by rw [wrT, if_neg (by omega), if_pos hk, hnk]
      rw [e] at hl ⊢
      simp only [List.length_cons, List.length_append, List.length_nil] at hl
      exact written_object m (written_any m) g t w La Ka Lc Kc hl'.out hk'.out hnk (fun i hi => Nat.le_trans (names_sz (nK t) hnf i hi) (by omega)) hf.l1 he hk (by omega)
set_option maxHeartbeats 4000000 in
set_option maxRecDepth 100000 in
theorem refPrint_any (f : Nat) (v : Value) (t : T) (w : World) (h : At w f v t) :
    Calls Tryz.prog 15 #[v] w fun e w' => e = .returned (.tuple #[.string (ansS (isR f t) (wrT 12 t)), .int .i64 (ansF (isR f t))]) ∧ Below w.heap.size w w' := by
  have HA := hid h
  have HSh := hid h.shal
  obtain ⟨f1, La, Ka, Lc, Kc, hf1, rfl, hf, hl, hk⟩ := h.open
  clear h hf hf1 hl hk
  have HB1 : Hid (Below w.heap.size w (w.alloc (.cells #[.int .i64 (kindOf t), .int .i64 (nOf t), .string (sOf t), .slice La (nL t) Lc, .slice Ka (nK t) Kc] 25))) := (Below.refl _ _).alloc (Nat.le_refl _) _
  have HI := hid (Is_any f _ t _ (HA.out.keep HB1.out))
  go_enter Tryz.func15, Tryz.ntmps15
  go_wp2_with fail
  refine HI.out.mono ?_
  rintro e w2 ⟨rfl, b2⟩
  have HB2 : Hid (Below (w.heap.size + 1) (w.alloc (.cells #[.int .i64 (kindOf t), .int .i64 (nOf t), .string (sOf t), .slice La (nL t) Lc, .slice Ka (nK t) Kc] 25)) w2) := b2.mono (by simp)
  obtain ⟨q0, q1, q2, q3, q4, hz, hbw⟩ := box_facts HB2.out
  have Hbw := hid hbw
  clear b2 hbw HI
  cases hi : isR f t with
  | false =>
    have Hi := hid hi
    clear hi
    go_wp2_with fail
    go_ret2
    exact ⟨by rw [Hi.out]; rfl, Hbw.out⟩
  | true =>
    have Hi := hid hi
    have HG := hid ((isV_iff t).1 (by have := isV_isR f t HSh.out; rw [hi] at this; exact this))
    have HA2 := hid (HA.out.keep Hbw.out)
    have HW := hid (wr_len 12 f _ t HA2.out HG.out.1)
    have HP := hid (written_any 12 f _ t w2 HA2.out HG.out.1 (by have := HW.out; have := HG.out.2; omega))
    clear hi
    generalize hS : baL (wrT 12 t) = s at HP
    have HSs := hid hS
    clear hS
    go_wp2_with fail
    refine HP.out.mono ?_
    rintro e w3 ⟨rfl, hb3⟩
    have HB3 := hid (Hbw.out.trans (hb3.mono (Nat.le_of_lt hz)))
    clear hb3 HP
    go_wp2_with fail
    go_ret2
    exact ⟨by rw [Hi.out, ← HSs.out]; rfl, HB3.out⟩
end Go.Proofs.YtknakfpciccoaaaGreatDoor
/- The walks of the program's parser: numbers, words. -/
namespace Go.Proofs.YtknakfpciccoaaaGreatDoor
open Go.RowKit

theorem sign_any (c : Nat) (s : ByteArray) (i : Nat) (w : World) (h : PL c s i w) (hs : s.size ≤ 4000) (hi : i ≤ s.size) :
    Calls Tryz.prog 179 #[.pointer (some ⟨c, 0, none⟩), .int .u8 45] w fun e w' => ∃ b, e = .returned (.bool b) ∧ But c w w' ∧ PL c s (sgn s i) w' := by
  by_cases h45 : cB s i = 45
  · refine (accept_yes c s i 45 w h hs (by omega) (by omega)).mono ?_
    rintro e w' ⟨rfl, hB, hL⟩
    refine ⟨_, rfl, hB, ?_⟩
    unfold sgn
    rw [if_pos h45]
    exact hL
  · refine (accept_no c s i 45 w h hi (by omega)).mono ?_
    rintro e w' ⟨rfl, hB, hL⟩
    refine ⟨_, rfl, hB, ?_⟩
    unfold sgn
    rw [if_neg h45]
    exact hL
theorem isD_pk (s : ByteArray) (k : Nat) : isD (pk s k) = isD (cB s k) := by
  unfold pk
  by_cases h : k < s.size
  · rw [if_pos h]
  · rw [if_neg h, cB_end (by omega)]
    rfl
theorem digitAt_any (s : ByteArray) (k : Nat) (w : World) : Calls Tryz.prog 184 #[.int .u8 (pk s k : Int)] w fun e w' => e = .returned (.bool (isD (cB s k))) ∧ w' = w := by
  refine (isDigit_nat (pk s k) w).mono ?_
  rintro e w' ⟨rfl, rfl⟩
  exact ⟨ret_bool (isD_pk s k), rfl⟩
def IntPost (c : Nat) (s : ByteArray) (i : Nat) (w : World) (e : Ending) (w' : World) : Prop :=
  But c w w' ∧ ((∃ v j, numS s i = some (v, j) ∧ e = .returned (.int .i64 v) ∧ PL c s j w') ∨ (numS s i = none ∧ e = refusedT 2))
theorem numS_zero {s : ByteArray} {i : Nat} (h : sgn s i + 1 < dg s (sgn s i)) (h2 : cB s (sgn s i) = 48) : numS s i = none := by
  unfold numS
  split
  · rfl
  · rw [if_pos ⟨h, h2⟩]
theorem extract_size {s : ByteArray} {i j : Nat} (h : j ≤ s.size) : (s.extract i j).size = j - i := by rw [ByteArray.size_extract]; omega
theorem int_ok {Tb : World → Prop} (hD : IntSaid Tb) {x : ByteArray} {w : World} (hs : x.size ≤ 4000) (hT : Tb w) {v : Int} (hv : Lib.parseIntB 64 x.data.toList = .ok v) :
    Calls Tryz.prog 226 #[.string x, .int .i64 10, .int .i64 64] w fun e w' => e = .returned (.tuple #[.int .i64 v, .nilIface]) ∧ Below w.heap.size w w' := by
  refine (hD x w hs hT).mono ?_
  rintro e w' ⟨hb, ⟨v', h1, rfl⟩ | ⟨h1, _⟩⟩
  · rw [hv] at h1; cases h1; exact ⟨rfl, hb⟩
  · rw [hv] at h1; rcases h1 with h1 | h1 <;> cases h1
theorem int_bad {Tb : World → Prop} (hD : IntSaid Tb) {x : ByteArray} {w : World} (hs : x.size ≤ 4000) (hT : Tb w) (hv : Lib.parseIntB 64 x.data.toList = .«syntax» ∨ Lib.parseIntB 64 x.data.toList = .range) :
    Calls Tryz.prog 226 #[.string x, .int .i64 10, .int .i64 64] w fun e w' => ∃ (v : Int) (t : TypeId) (p : Value), e = .returned (.tuple #[.int .i64 v, .iface t p]) ∧ Below w.heap.size w w' := by
  refine (hD x w hs hT).mono ?_
  rintro e w' ⟨hb, ⟨v', h1, _⟩ | ⟨_, v, t, p, rfl⟩⟩
  · rw [h1] at hv; rcases hv with hv | hv <;> cases hv
  · exact ⟨v, t, p, rfl, hb⟩
set_option maxHeartbeats 2000000 in
set_option maxRecDepth 100000 in
theorem int_any {Tb : World → Prop} (hD : IntSaid Tb) (c : Nat) (hS : Stays Tb c) (s : ByteArray) (i : Nat) (w : World) (h : PL c s i w) (hT : Tb w) (hs : s.size ≤ 4000) (hd : cB s i = 45 ∨ isD (cB s i) = true) :
    Calls Tryz.prog 185 #[.pointer (some ⟨c, 0, none⟩)] w (IntPost c s i w) := by
  have hc256 : cB s i < 256 := by
    rcases hd with h | h
    · omega
    · unfold isD at h
      simp at h
      omega
  have hlt : i < s.size := cB_in hc256
  have hsg : i ≤ sgn s i ∧ sgn s i ≤ s.size := by unfold sgn; split <;> omega
  have HL := hid h
  have HT := hid hT
  have HS := hid hS
  have HD := hid hD
  have Hd := hid hd
  have q1 := h.q1
  have HA := hid (sign_any c s i w h hs (by omega))
  have hcl := h.lt
  clear h hT hS hD hd hc256
  go_enter Tryz.func185, Tryz.ntmps185
  go_wp2_with fail
  refine HA.out.mono ?_
  rintro e w1 ⟨b, rfl, hB1, hL1⟩
  have HB1 := hid hB1
  have HL1 := hid hL1
  have r1 := hL1.q1
  clear hB1 hL1 HA q1 HL
  have Hdg : Hid (dg s (sgn s i) ≤ s.size ∧ sgn s i ≤ dg s (sgn s i)) := ⟨dg_le hsg.2, dg_ge _ _⟩
  have Hnp := hid (numS_parse Hd.out)
  have Hnz := hid (@numS_zero s i)
  generalize hd0 : sgn s i = d at *
  go_wp2_with fail
  go_loopg [] (s.size - d) (fun g wr => ∃ k : Nat, g = s.size - k ∧ d ≤ k ∧ k ≤ s.size ∧ Hid (PL c s k wr) ∧ Hid (But c w wr) ∧ Hid (dg s k = dg s d))
  case atStart => exact ⟨d, rfl, Nat.le_refl _, hsg.2, HL1, HB1, rfl⟩
  case round =>
    clear HL1 HB1 r1
    obtain ⟨k, rfl, hk1, hk2, HLk, HBk, HKk⟩ := hrel
    go_wp2_with fail
    refine (peek_any c s k wr HLk.out hk2).mono ?_
    rintro e w2 ⟨rfl, hb2⟩
    have HL2 := hid (HLk.out.keep hb2)
    have HB2 := hid (HBk.out.trans (But.of hb2))
    clear hb2 HLk HBk
    by_cases hdk : isD (cB s k) = true
    · have hkl : k < s.size := cB_in (by unfold isD at hdk; simp at hdk; omega)
      have HK2 : Hid (dg s (k + 1) = dg s d) := by
        show _ = _
        rw [← HKk.out]
        unfold dg
        rw [pass_step isD_end s k, if_pos hdk]
      have r1 := HL2.out.q1
      have r2 := HL2.out.f1
      go_wp2_with fail
      refine (digitAt_any s k w2).mono ?_
      rintro e w3 ⟨rfl, rfl⟩
      clear HKk
      go_wp2_with fail
      go_roundg (s.size - (k + 1))
      case rel => exact ⟨k + 1, rfl, by omega, by omega, HL2.out.set (k + 1), HB2.out.trans (But.set _ c 1 _), HK2⟩
      case measure => omega
    · have hdf : isD (cB s k) = false := by simpa using hdk
      have HK2 : Hid (dg s d = k) := by
        show _ = _
        rw [← HKk.out]
        unfold dg
        rw [pass_step isD_end s k, if_neg hdk]
      have r0 := HL2.out.q0
      have r1 := HL2.out.q1
      rw [HK2.out] at Hnp Hnz
      clear hdk HKk
      go_wp2_with fail
      refine (digitAt_any s k w2).mono ?_
      rintro e w3 ⟨rfl, rfl⟩
      have HT3 := hid (But.stays HS.out HT.out HB2.out (Nat.le_of_lt hcl))
      have HT3d := hid (HS.out _ _ HT3.out ((below_drew w3).mono (Nat.le_of_lt HL2.out.lt)))
      have HL3d := hid (HL2.out.keep (below_drew w3))
      have x1 : (i : Int) ≤ (k : Int) := by omega
      have x2 : (k : Int) ≤ (s.size : Int) := by omega
      have hxs : (s.extract i k).size ≤ 4000 := by rw [extract_size hk2]; omega
      have HSS : Hid (∀ wx : World, Below w3.drew.heap.size w3.drew wx → wx.cell? ⟨c, 0, none⟩ = some (.string s) ∧ wx.cell? ⟨c, 1, none⟩ = some (.int .i64 k)) := by
        intro wx hx
        have := HL3d.out.keep hx
        exact ⟨this.q0, this.q1⟩
      by_cases hz : d + 1 < k
      · have hdl : d < s.size := by omega
        obtain ⟨z, hzs, hzc⟩ := cB_get hdl
        have y1 : decide ((d : Int) + 1 < (k : Int)) = true := decide_eq_true (by omega)
        have y0 : (d : Int) < (s.size : Int) := by omega
        by_cases h48 : cB s d = 48
        · have HZ := hid (Hnz.out hz h48)
          have y2 : ((z.toNat : Int) == 48) = true := by rw [beq_iff_eq]; omega
          clear hzc h48 HSS
          go_wp2_with fail
          exact ⟨rfl, HB2.out, Or.inr ⟨HZ.out, rfl⟩⟩
        · have HP := hid (Hnp.out (fun h => h48 h.2))
          have y2 : ((z.toNat : Int) == 48) = false := by rw [beq_eq_false_iff_ne]; omega
          clear hzc h48
          rcases HP.out with ⟨v, hv, hn⟩ | ⟨hv, hn⟩
          · have HZ := hid hn
            have HDD := hid (int_ok HD.out hxs HT3d.out hv)
            clear hv hn HP
            go_wp2_with fail
            go_region_held (fun wx => wx.cell? ⟨c, 0, none⟩ = some (.string s) ∧ wx.cell? ⟨c, 1, none⟩ = some (.int .i64 k)) (go_keep) ((go_at_call 226; refine HDD.out.mono ?_; rintro e w4 ⟨rfl, hb4⟩; have hc4 := HSS.out _ hb4))
            have HL4 := hid (HL3d.out.keep hb4)
            have HB4 := hid (HB2.out.trans ((But.of (below_drew w3)).trans (But.of hb4)))
            clear hb4 hc4
            go_wp2_with fail
            go_ret
            exact ⟨HB4.out, Or.inl ⟨_, _, HZ.out, rfl, HL4.out⟩⟩
          · have HZ := hid hn
            have HDD := hid (int_bad HD.out hxs HT3d.out hv)
            clear hv hn HP
            go_wp2_with fail
            go_region_held (fun wx => wx.cell? ⟨c, 0, none⟩ = some (.string s) ∧ wx.cell? ⟨c, 1, none⟩ = some (.int .i64 k)) (go_keep) ((go_at_call 226; refine HDD.out.mono ?_; rintro e w4 ⟨v, tt, pp, rfl, hb4⟩; have hc4 := HSS.out _ hb4))
            have HB4 := hid (HB2.out.trans ((But.of (below_drew w3)).trans (But.of hb4)))
            clear hb4 hc4
            go_wp2_with fail
            exact ⟨rfl, HB4.out, Or.inr ⟨HZ.out, rfl⟩⟩
      · have HP := hid (Hnp.out (fun h => hz h.1))
        have y1 : decide ((d : Int) + 1 < (k : Int)) = false := decide_eq_false (by omega)
        clear hz
        rcases HP.out with ⟨v, hv, hn⟩ | ⟨hv, hn⟩
        · have HZ := hid hn
          have HDD := hid (int_ok HD.out hxs HT3d.out hv)
          clear hv hn HP
          go_wp2_with fail
          go_region_held (fun wx => wx.cell? ⟨c, 0, none⟩ = some (.string s) ∧ wx.cell? ⟨c, 1, none⟩ = some (.int .i64 k)) (go_keep) ((go_at_call 226; refine HDD.out.mono ?_; rintro e w4 ⟨rfl, hb4⟩; have hc4 := HSS.out _ hb4))
          have HL4 := hid (HL3d.out.keep hb4)
          have HB4 := hid (HB2.out.trans ((But.of (below_drew w3)).trans (But.of hb4)))
          clear hb4 hc4
          go_wp2_with fail
          go_ret
          exact ⟨HB4.out, Or.inl ⟨_, _, HZ.out, rfl, HL4.out⟩⟩
        · have HZ := hid hn
          have HDD := hid (int_bad HD.out hxs HT3d.out hv)
          clear hv hn HP
          go_wp2_with fail
          go_region_held (fun wx => wx.cell? ⟨c, 0, none⟩ = some (.string s) ∧ wx.cell? ⟨c, 1, none⟩ = some (.int .i64 k)) (go_keep) ((go_at_call 226; refine HDD.out.mono ?_; rintro e w4 ⟨v, tt, pp, rfl, hb4⟩; have hc4 := HSS.out _ hb4))
          have HB4 := hid (HB2.out.trans ((But.of (below_drew w3)).trans (But.of hb4)))
          clear hb4 hc4
          go_wp2_with fail
          exact ⟨rfl, HB4.out, Or.inr ⟨HZ.out, rfl⟩⟩
end Go.Proofs.YtknakfpciccoaaaGreatDoor
