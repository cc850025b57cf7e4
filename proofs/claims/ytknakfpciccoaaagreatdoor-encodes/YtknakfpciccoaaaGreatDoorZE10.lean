import Derived.Test.YtknakfpciccoaaaGreatDoorZE9
import Derived.Test.YtknakfpciccoaaaGreatDoorZE8
import Derived.Test.YtknakfpciccoaaaGreatDoorZE2
import Derived.Test.YtknakfpciccoaaaGreatDoorZE4
import Derived.Lib.ParseIntBTie
import Derived.Lib.Strings
import Derived.Test.YtknakfpciccoaaaGreatDoorZE1
/- The walk of form, kind by kind. -/
namespace Go.Proofs.YtknakfpciccoaaaGreatDoor
open Go.RowKit


set_option maxHeartbeats 1000000 in
set_option maxRecDepth 100000 in
theorem form_k4 (m : Nat) (_ih : FormSaid m) (f : Nat) (v : Value) (t : T) (w : World) (h : At w f v t) (hm : m + 1 ≤ 100) (hk0 : kindOf t = 4) :
    Calls Tryz.prog 82 #[v, .int .i64 (((m + 1 : Nat) : Int) - 1)] w fun e w' => e = .returned (.bool (formT (m + 1) t)) ∧ Below w.heap.size w w' := by
  obtain ⟨f, La, Ka, Lc, Kc, rfl, rfl, hf, hl, hk⟩ := h.open
  have hlen := hf.l1
  have klen := hf.m1
  have slen := hf.s1
  clear h hf
  have em : (((m + 1 : Nat) : Int) - 1) = (m : Int) := by omega
  rw [em]
  have e0 : ¬ ((m : Int) < 0) := by omega
  have K0 := hid hk0
  have g1 : (kindOf t == 1) = false := by rw [hk0]; rfl
  have n1 : (kindOf t != 1) = true := by rw [hk0]; rfl
  have g2 : (kindOf t == 2) = false := by rw [hk0]; rfl
  have n2 : (kindOf t != 2) = true := by rw [hk0]; rfl
  have g3 : (kindOf t == 3) = false := by rw [hk0]; rfl
  have n3 : (kindOf t != 3) = true := by rw [hk0]; rfl
  have g4 : (kindOf t == 4) = true := by rw [hk0]; rfl
  have n4 : (kindOf t != 4) = false := by rw [hk0]; rfl
  have g5 : (kindOf t == 5) = false := by rw [hk0]; rfl
  have n5 : (kindOf t != 5) = true := by rw [hk0]; rfl
  have g6 : (kindOf t == 6) = false := by rw [hk0]; rfl
  have n6 : (kindOf t != 6) = true := by rw [hk0]; rfl
  clear hk0
  by_cases ca : nOf t = 0
  · have ea : (nOf t != 0) = false := by simp [ca]
    by_cases cc : nK t = 0
    · have ec : nK t = 0 := cc
      by_cases cd : nL t = 0
      · have ed : nL t = 0 := cd
        have Ca := hid ca
        have Cc := hid cc
        have Cd := hid cd
        clear ca cc cd
        go_enter Tryz.func82, Tryz.ntmps82
        go_wp2_with fail
        refine (proper_any (sOf t) _ slen).mono ?_
        rintro e w2 ⟨rfl, rfl⟩
        cases hv : okS (sOf t) with
        | false =>
          have HF : Hid (formT (m + 1) t = false) := formT_kind (by simp [kindF, K0.out, hv])
          clear hv
          go_wp2_with fail
          go_ret
          exact ⟨ret_bool HF.out.symm, (Below.refl _ _).alloc (Nat.le_refl _) _⟩
        | true =>
          by_cases c4 : (sOf t).size ≤ 4000
          · have HF : Hid (formT (m + 1) t = allL (formT m) t (nL t)) := by show formT (m + 1) t = _; simp only [formT]; rw [show headF t = true from by simp [headF, K0.out, Ca.out, Cc.out, Cd.out], show kindF t = true from by simp [kindF, K0.out, hv, c4]]; rfl
            have ez : decide ((4000 : Int) < ((sOf t).size : Int)) = false := decide_eq_false (by omega)
            clear hv
            go_wp2_with fail
            go_loopg [8] 1 (fun g i wr => i = .int .i64 0 ∧ wr = w.alloc (.cells #[.int .i64 (kindOf t), .int .i64 (nOf t), .string (sOf t), .slice La 0 Lc, .slice Ka 0 Kc] 25))
            case atStart => exact ⟨rfl, rfl⟩
            case round =>
              obtain ⟨rfl, rfl⟩ := hrel
              go_wp2_with fail
              go_ret
              exact ⟨ret_bool (by rw [HF.out, Cd.out]; rfl), (Below.refl _ _).alloc (Nat.le_refl _) _⟩
          · have HF : Hid (formT (m + 1) t = false) := formT_kind (by simp [kindF, K0.out, c4])
            have ez : decide ((4000 : Int) < ((sOf t).size : Int)) = true := decide_eq_true (by omega)
            clear hv
            go_wp2_with fail
            go_ret
            exact ⟨ret_bool HF.out.symm, (Below.refl _ _).alloc (Nat.le_refl _) _⟩
      · have ed : (0 : Int) < (nL t : Int) := by omega
        have HF : Hid (formT (m + 1) t = false) := formT_head (by simp [headF, K0.out, cd])
        go_enter Tryz.func82, Tryz.ntmps82
        go_wp2_with fail
        go_ret
        exact ⟨ret_bool HF.out.symm, (Below.refl _ _).alloc (Nat.le_refl _) _⟩
    · have ec : (0 : Int) < (nK t : Int) := by omega
      have HF : Hid (formT (m + 1) t = false) := formT_head (by simp [headF, K0.out, cc])
      go_enter Tryz.func82, Tryz.ntmps82
      go_wp2_with fail
      go_ret
      exact ⟨ret_bool HF.out.symm, (Below.refl _ _).alloc (Nat.le_refl _) _⟩
  · have ea : (nOf t != 0) = true := by simpa using ca
    have HF : Hid (formT (m + 1) t = false) := formT_head (by simp [headF, K0.out, ca])
    go_enter Tryz.func82, Tryz.ntmps82
    go_wp2_with fail
    go_ret
    exact ⟨ret_bool HF.out.symm, (Below.refl _ _).alloc (Nat.le_refl _) _⟩

set_option maxHeartbeats 1000000 in
set_option maxRecDepth 100000 in
theorem form_k5 (m : Nat) (ih : FormSaid m) (f : Nat) (v : Value) (t : T) (w : World) (h : At w f v t) (hm : m + 1 ≤ 100) (hk0 : kindOf t = 5) :
    Calls Tryz.prog 82 #[v, .int .i64 (((m + 1 : Nat) : Int) - 1)] w fun e w' => e = .returned (.bool (formT (m + 1) t)) ∧ Below w.heap.size w w' := by
  obtain ⟨f, La, Ka, Lc, Kc, rfl, rfl, hf, hl, hk⟩ := h.open
  have hlen := hf.l1
  have klen := hf.m1
  have slen := hf.s1
  clear h hf
  have em : (((m + 1 : Nat) : Int) - 1) = (m : Int) := by omega
  rw [em]
  have e0 : ¬ ((m : Int) < 0) := by omega
  have K0 := hid hk0
  have g1 : (kindOf t == 1) = false := by rw [hk0]; rfl
  have n1 : (kindOf t != 1) = true := by rw [hk0]; rfl
  have g2 : (kindOf t == 2) = false := by rw [hk0]; rfl
  have n2 : (kindOf t != 2) = true := by rw [hk0]; rfl
  have g3 : (kindOf t == 3) = false := by rw [hk0]; rfl
  have n3 : (kindOf t != 3) = true := by rw [hk0]; rfl
  have g4 : (kindOf t == 4) = false := by rw [hk0]; rfl
  have n4 : (kindOf t != 4) = true := by rw [hk0]; rfl
  have g5 : (kindOf t == 5) = true := by rw [hk0]; rfl
  have n5 : (kindOf t != 5) = false := by rw [hk0]; rfl
  have g6 : (kindOf t == 6) = false := by rw [hk0]; rfl
  have n6 : (kindOf t != 6) = true := by rw [hk0]; rfl
  clear hk0
  by_cases ca : nOf t = 0
  · have ea : (nOf t != 0) = false := by simp [ca]
    by_cases cb : noText t = true
    · have eb : (sOf t).toList.isEmpty = true := cb
      by_cases cc : nK t = 0
      · have ec : nK t = 0 := cc
        have Ca := hid ca
        have Cb := hid cb
        have Cc := hid cc
        clear ca cb cc
        have HF : Hid (formT (m + 1) t = allL (formT m) t (nL t)) := by show formT (m + 1) t = _; simp only [formT]; rw [show headF t = true from by simp [headF, K0.out, Ca.out, Cb.out, Cc.out], show kindF t = true from by simp [kindF, K0.out]]; rfl
        go_enter Tryz.func82, Tryz.ntmps82
        go_wp2_with fail
        go_loopg [8] (nL t) (fun g i wr => ∃ k : Nat, g = nL t - k ∧ k ≤ nL t ∧ i = .int .i64 k ∧ Hid (allL (formT m) t k = true) ∧ Below (w.heap.size + 1) (w.alloc (.cells #[.int .i64 (kindOf t), .int .i64 (nOf t), .string (sOf t), .slice La (nL t) Lc, .slice Ka 0 Kc] 25)) wr)
        case atStart => exact ⟨0, rfl, Nat.zero_le _, rfl, rfl, Below.refl _ _⟩
        case round =>
          obtain ⟨k, rfl, hk1, rfl, HA, hb⟩ := hrel
          obtain ⟨q0, q1, q2, q3, q4, hz, hbw⟩ := box_facts hb
          have Hb := hid hb
          clear hb
          by_cases hlt : k < nL t
          · obtain ⟨b, o, c0, c1, c2, c3, c4, rfl, hbl, p0, p1, p2, p3, p4, Ha⟩ := hl.out.keep hbw k hlt
            go_wp2_with fail
            refine (ih _ _ _ _ Ha.out (by omega)).mono ?_
            rintro e w2 ⟨rfl, hb2⟩
            have hb3 := hid (Hb.out.trans (hb2.mono (by omega)))
            clear hb2
            cases hv : formT m (elt t k) with
            | true =>
              have Hv := hid hv
              clear hv
              go_wp2_with fail
              go_roundg (nL t - (k + 1))
              case rel => exact ⟨k + 1, rfl, by omega, by go_num, by show (allL (formT m) t k && formT m (elt t k)) = true; rw [HA.out, Hv.out]; rfl, hb3.out⟩
              case measure => omega
            | false =>
              have Hv := hid hv
              clear hv
              go_wp2_with fail
              go_ret
              exact ⟨ret_bool (by rw [HF.out, allL_at hlt Hv.out]), ((Below.refl _ _).alloc (Nat.le_refl _) _).trans (hb3.out.mono (by omega))⟩
          · obtain rfl : k = nL t := by omega
            go_wp2_with fail
            go_ret
            exact ⟨ret_bool (by rw [HF.out, HA.out]), hbw⟩
      · have ec : (0 : Int) < (nK t : Int) := by omega
        have HF : Hid (formT (m + 1) t = false) := formT_head (by simp [headF, K0.out, cc])
        go_enter Tryz.func82, Tryz.ntmps82
        go_wp2_with fail
        go_ret
        exact ⟨ret_bool HF.out.symm, (Below.refl _ _).alloc (Nat.le_refl _) _⟩
    · have eb : (sOf t).toList.isEmpty = false := by simpa [noText] using cb
      have HF : Hid (formT (m + 1) t = false) := formT_head (by simp [headF, K0.out, cb])
      go_enter Tryz.func82, Tryz.ntmps82
      go_wp2_with fail
      go_ret
      exact ⟨ret_bool HF.out.symm, (Below.refl _ _).alloc (Nat.le_refl _) _⟩
  · have ea : (nOf t != 0) = true := by simpa using ca
    have HF : Hid (formT (m + 1) t = false) := formT_head (by simp [headF, K0.out, ca])
    go_enter Tryz.func82, Tryz.ntmps82
    go_wp2_with fail
    go_ret
    exact ⟨ret_bool HF.out.symm, (Below.refl _ _).alloc (Nat.le_refl _) _⟩

set_option maxHeartbeats 1000000 in
set_option maxRecDepth 100000 in
theorem form_k6 (m : Nat) (ih : FormSaid m) (f : Nat) (v : Value) (t : T) (w : World) (h : At w f v t) (hm : m + 1 ≤ 100) (hk0 : kindOf t = 6) :
    Calls Tryz.prog 82 #[v, .int .i64 (((m + 1 : Nat) : Int) - 1)] w fun e w' => e = .returned (.bool (formT (m + 1) t)) ∧ Below w.heap.size w w' := by
  obtain ⟨f, La, Ka, Lc, Kc, rfl, rfl, hf, hl, hk⟩ := h.open
  have hlen := hf.l1
  have klen := hf.m1
  have slen := hf.s1
  clear h hf
  have em : (((m + 1 : Nat) : Int) - 1) = (m : Int) := by omega
  rw [em]
  have e0 : ¬ ((m : Int) < 0) := by omega
  have K0 := hid hk0
  have g1 : (kindOf t == 1) = false := by rw [hk0]; rfl
  have n1 : (kindOf t != 1) = true := by rw [hk0]; rfl
  have g2 : (kindOf t == 2) = false := by rw [hk0]; rfl
  have n2 : (kindOf t != 2) = true := by rw [hk0]; rfl
  have g3 : (kindOf t == 3) = false := by rw [hk0]; rfl
  have n3 : (kindOf t != 3) = true := by rw [hk0]; rfl
  have g4 : (kindOf t == 4) = false := by rw [hk0]; rfl
  have n4 : (kindOf t != 4) = true := by rw [hk0]; rfl
  have g5 : (kindOf t == 5) = false := by rw [hk0]; rfl
  have n5 : (kindOf t != 5) = true := by rw [hk0]; rfl
  have g6 : (kindOf t == 6) = true := by rw [hk0]; rfl
  have n6 : (kindOf t != 6) = false := by rw [hk0]; rfl
  clear hk0
  by_cases ca : nOf t = 0
  · have ea : (nOf t != 0) = false := by simp [ca]
    by_cases cb : noText t = true
    · have eb : (sOf t).toList.isEmpty = true := cb
      have Ca := hid ca
      have Cb := hid cb
      clear ca cb
      by_cases ck : nK t = nL t
      · have ek : ((nK t : Int) != (nL t : Int)) = false := by simp [ck]
        have HF : Hid (formT (m + 1) t = (namesF t (nK t) && allL (formT m) t (nL t))) := by show formT (m + 1) t = _; simp only [formT]; rw [show headF t = true from by simp [headF, K0.out, Ca.out, Cb.out], show kindF t = namesF t (nK t) from by simp [kindF, K0.out, ck]]; rfl
        clear ck
        go_enter Tryz.func82, Tryz.ntmps82
        go_wp2_with fail
        go_loopg [6] (nK t) (fun g i wr => ∃ k : Nat, g = nK t - k ∧ k ≤ nK t ∧ i = .int .i64 k ∧ Hid (namesF t k = true) ∧ Below (w.heap.size + 1) (w.alloc (.cells #[.int .i64 (kindOf t), .int .i64 (nOf t), .string (sOf t), .slice La (nL t) Lc, .slice Ka (nK t) Kc] 25)) wr)
        case atStart => exact ⟨0, rfl, Nat.zero_le _, rfl, rfl, Below.refl _ _⟩
        case round =>
          obtain ⟨j, rfl, hj1, rfl, HN, hbj⟩ := hrel
          obtain ⟨r0, r1, r2, r3, r4, hzj, hbwj⟩ := box_facts hbj
          have Hbj := hid hbj
          clear hbj
          by_cases hjl : j < nK t
          · obtain ⟨kb, ko, rfl, hkb, hks, hkc⟩ := hk.out.keep hbwj j hjl
            go_wp2_with fail
            refine (proper_any (nam t j) _ hks).mono ?_
            rintro e w2 ⟨rfl, rfl⟩
            cases hv : okS (nam t j) with
            | false =>
              have HN1 : Hid (namesF t (nK t) = false) := namesF_false (j := j + 1) hjl (by simp [namesF, hv])
              clear hv
              go_wp2_with fail
              go_ret
              exact ⟨ret_bool (by rw [HF.out, HN1.out]; rfl), hbwj⟩
            | true =>
              by_cases c4 : (nam t j).size ≤ 4000
              · have HN1 : Hid (namesF t (j + 1) = true) := by show (namesF t j && (okS (nam t j) && decide ((nam t j).size ≤ 4000))) = true; rw [HN.out, hv, decide_eq_true c4]; rfl
                have ez : decide ((4000 : Int) < ((nam t j).size : Int)) = false := decide_eq_false (by omega)
                clear hv
                go_wp2_with fail
                go_roundg (nK t - (j + 1))
                case rel => exact ⟨j + 1, rfl, by omega, by go_num, HN1, Hbj.out⟩
                case measure => omega
              · have HN1 : Hid (namesF t (nK t) = false) := namesF_false (j := j + 1) hjl (by simp [namesF, c4])
                have ez : decide ((4000 : Int) < ((nam t j).size : Int)) = true := decide_eq_true (by omega)
                clear hv
                go_wp2_with fail
                go_ret
                exact ⟨ret_bool (by rw [HF.out, HN1.out]; rfl), hbwj⟩
          · obtain rfl : j = nK t := by omega
            have HF0 := hid HF.out
            clear HF
            have HF : Hid (formT (m + 1) t = allL (formT m) t (nL t)) := by show formT (m + 1) t = _; rw [HF0.out, HN.out]; rfl

            go_wp2_with fail
            go_loopg [8] (nL t) (fun g i wr => ∃ k : Nat, g = nL t - k ∧ k ≤ nL t ∧ i = .int .i64 k ∧ Hid (allL (formT m) t k = true) ∧ Below (w.heap.size + 1) (w.alloc (.cells #[.int .i64 (kindOf t), .int .i64 (nOf t), .string (sOf t), .slice La (nL t) Lc, .slice Ka (nK t) Kc] 25)) wr)
            case atStart => exact ⟨0, rfl, Nat.zero_le _, rfl, rfl, Hbj.out⟩
            case round =>
              obtain ⟨k, rfl, hk1, rfl, HA, hb⟩ := hrel
              obtain ⟨q0, q1, q2, q3, q4, hz, hbw⟩ := box_facts hb
              have Hb := hid hb
              clear hb
              by_cases hlt : k < nL t
              · obtain ⟨b, o, c0, c1, c2, c3, c4, rfl, hbl, p0, p1, p2, p3, p4, Ha⟩ := hl.out.keep hbw k hlt
                go_wp2_with fail
                refine (ih _ _ _ _ Ha.out (by omega)).mono ?_
                rintro e w2 ⟨rfl, hb2⟩
                have hb3 := hid (Hb.out.trans (hb2.mono (by omega)))
                clear hb2
                cases hv : formT m (elt t k) with
                | true =>
                  have Hv := hid hv
                  clear hv
                  go_wp2_with fail
                  go_roundg (nL t - (k + 1))
                  case rel => exact ⟨k + 1, rfl, by omega, by go_num, by show (allL (formT m) t k && formT m (elt t k)) = true; rw [HA.out, Hv.out]; rfl, hb3.out⟩
                  case measure => omega
                | false =>
                  have Hv := hid hv
                  clear hv
                  go_wp2_with fail
                  go_ret
                  exact ⟨ret_bool (by rw [HF.out, allL_at hlt Hv.out]), ((Below.refl _ _).alloc (Nat.le_refl _) _).trans (hb3.out.mono (by omega))⟩
              · obtain rfl : k = nL t := by omega
                go_wp2_with fail
                go_ret
                exact ⟨ret_bool (by rw [HF.out, HA.out]), hbw⟩

      · have ek : ((nK t : Int) != (nL t : Int)) = true := by simp; omega
        have HF : Hid (formT (m + 1) t = false) := formT_kind (by simp [kindF, K0.out, ck])
        clear ck
        go_enter Tryz.func82, Tryz.ntmps82
        go_wp2_with fail
        go_ret
        exact ⟨ret_bool HF.out.symm, (Below.refl _ _).alloc (Nat.le_refl _) _⟩
    · have eb : (sOf t).toList.isEmpty = false := by simpa [noText] using cb
      have HF : Hid (formT (m + 1) t = false) := formT_head (by simp [headF, K0.out, cb])
      go_enter Tryz.func82, Tryz.ntmps82
      go_wp2_with fail
      go_ret
      exact ⟨ret_bool HF.out.symm, (Below.refl _ _).alloc (Nat.le_refl _) _⟩
  · have ea : (nOf t != 0) = true := by simpa using ca
    have HF : Hid (formT (m + 1) t = false) := formT_head (by simp [headF, K0.out, ca])
    go_enter Tryz.func82, Tryz.ntmps82
    go_wp2_with fail
    go_ret
    exact ⟨ret_bool HF.out.symm, (Below.refl _ _).alloc (Nat.le_refl _) _⟩

set_option maxHeartbeats 400000 in
set_option maxRecDepth 100000 in
theorem form_any (m : Nat) : FormSaid m := by
  induction m with
  | zero =>
    intro f v t w h _
    obtain ⟨f, La, Ka, Lc, Kc, rfl, rfl, hf, hl, hk⟩ := h.open
    clear h hf hl hk
    go_enter Tryz.func82, Tryz.ntmps82
    go_wp2_with fail
    go_ret
    exact ⟨rfl, (Below.refl _ _).alloc (Nat.le_refl _) _⟩
  | succ m ih =>
    intro f v t w h hm
    by_cases h1 : kindOf t = 1
    · exact form_k1 m ih f v t w h hm h1
    by_cases h2 : kindOf t = 2
    · exact form_k2 m ih f v t w h hm h2
    by_cases h3 : kindOf t = 3
    · exact form_k3 m ih f v t w h hm h3
    by_cases h4 : kindOf t = 4
    · exact form_k4 m ih f v t w h hm h4
    by_cases h5 : kindOf t = 5
    · exact form_k5 m ih f v t w h hm h5
    by_cases h6 : kindOf t = 6
    · exact form_k6 m ih f v t w h hm h6
    exact form_k0 m ih f v t w h hm ⟨h1, h2, h3, h4, h5, h6⟩
end Go.Proofs.YtknakfpciccoaaaGreatDoor
/- The walk of Is: is it a value? -/
namespace Go.Proofs.YtknakfpciccoaaaGreatDoor
open Go.RowKit

set_option maxHeartbeats 1000000 in
set_option maxRecDepth 100000 in
theorem Is_any (f : Nat) (v : Value) (t : T) (w : World) (h : At w f v t) :
    Calls Tryz.prog 44 #[v] w fun e w' => e = .returned (.bool (isR f t)) ∧ Below w.heap.size w w' := by
  have HA := hid h
  obtain ⟨g, La, Ka, Lc, Kc, hg, rfl, hf, hl, hk⟩ := h.open
  clear h hf hl hk hg
  have HB1 : Hid (Below w.heap.size w (w.alloc (.cells #[.int .i64 (kindOf t), .int .i64 (nOf t), .string (sOf t), .slice La (nL t) Lc, .slice Ka (nK t) Kc] 25))) := (Below.refl _ _).alloc (Nat.le_refl _) _
  have HR : Hid (isR f t = (decide (0 ≤ roomT 14 t 1048576) && decide (deepT 16 t ≤ 12) && formT 15 t && !twiceT f t)) := rfl
  go_enter Tryz.func44, Tryz.ntmps44
  go_wp2_with fail
  rw [show (Value.int .i64 13) = .int .i64 (((14 : Nat) : Int) - 1) from rfl]
  refine (room_any 14 _ _ t 1048576 _ (HA.out.keep HB1.out) (by omega) (by omega) (by omega)).mono ?_
  rintro e w2 ⟨rfl, b2, x0, x1⟩
  have HB2 : Hid (Below (w.heap.size + 1) (w.alloc (.cells #[.int .i64 (kindOf t), .int .i64 (nOf t), .string (sOf t), .slice La (nL t) Lc, .slice Ka (nK t) Kc] 25)) w2) := b2.mono (by simp)
  obtain ⟨q0, q1, q2, q3, q4, hz, hbw⟩ := box_facts HB2.out
  have Hbw := hid hbw
  clear b2 hbw
  generalize hx : roomT 14 t 1048576 = x at x0 x1 ⊢
  have HX := hid hx
  clear hx
  by_cases hn : x < 0
  · have HE : Hid (isR f t = false) := by show _ = _; rw [HR.out, HX.out, decide_eq_false (by omega)]; rfl
    go_wp2_with fail
    go_ret
    exact ⟨ret_bool HE.out.symm, Hbw.out⟩
  have hd0 := deepT_le 16 t
  go_wp2_with fail
  refine (Deep_any _ _ t _ (HA.out.keep Hbw.out)).mono ?_
  rintro e w3 ⟨rfl, b3⟩
  have HB3 : Hid (Below (w.heap.size + 1) (w.alloc (.cells #[.int .i64 (kindOf t), .int .i64 (nOf t), .string (sOf t), .slice La (nL t) Lc, .slice Ka (nK t) Kc] 25)) w3) := HB2.out.trans (b3.mono (by omega))
  clear q0 q1 q2 q3 q4 hz b3 Hbw HB2
  obtain ⟨q0, q1, q2, q3, q4, hz, hbw⟩ := box_facts HB3.out
  have Hbw := hid hbw
  clear hbw
  generalize hy : deepT 16 t = y at hd0 ⊢
  have HY := hid hy
  clear hy
  by_cases hm : 12 < y
  · have HE : Hid (isR f t = false) := by show _ = _; rw [HR.out, HY.out, decide_eq_false (show ¬ y ≤ 12 by omega)]; simp
    go_wp2_with fail
    go_ret
    exact ⟨ret_bool HE.out.symm, Hbw.out⟩
  go_wp2_with fail
  rw [show (Value.int .i64 14) = .int .i64 (((15 : Nat) : Int) - 1) from rfl]
  refine (form_any 15 _ _ t _ (HA.out.keep Hbw.out) (by omega)).mono ?_
  rintro e w4 ⟨rfl, b4⟩
  have HB4 : Hid (Below (w.heap.size + 1) (w.alloc (.cells #[.int .i64 (kindOf t), .int .i64 (nOf t), .string (sOf t), .slice La (nL t) Lc, .slice Ka (nK t) Kc] 25)) w4) := HB3.out.trans (b4.mono (by omega))
  clear q0 q1 q2 q3 q4 hz b4 Hbw HB3
  obtain ⟨q0, q1, q2, q3, q4, hz, hbw⟩ := box_facts HB4.out
  have Hbw := hid hbw
  clear hbw
  cases hv : formT 15 t with
  | false =>
    have HE : Hid (isR f t = false) := by show _ = _; rw [HR.out, hv]; simp
    clear hv
    go_wp2_with fail
    go_ret
    exact ⟨ret_bool HE.out.symm, Hbw.out⟩
  | true =>
    have HE : Hid (isR f t = !twiceT f t) := by show _ = _; rw [HR.out, hv, HX.out, HY.out, decide_eq_true (show 0 ≤ x by omega), decide_eq_true (show y ≤ 12 by omega)]; rfl
    clear hv
    go_wp2_with fail
    refine (twice_any f _ t _ (HA.out.keep Hbw.out)).mono ?_
    rintro e w5 ⟨rfl, b5⟩
    have HB5 : Hid (Below w.heap.size w w5) := Hbw.out.trans (b5.mono (Nat.le_of_lt hz))
    clear b5
    go_wp2_with fail
    go_ret
    exact ⟨ret_bool HE.out.symm, HB5.out⟩

end Go.Proofs.YtknakfpciccoaaaGreatDoor
/- Texts as values: numbers, tokens, depth. -/
namespace Go.Proofs.YtknakfpciccoaaaGreatDoor
open Go.RowKit

def decL (a : Nat) (l : List UInt8) : Nat := l.foldl (fun n c => n * 10 + (c.toNat - 48)) a
theorem decL_cons (a : Nat) (c : UInt8) (r : List UInt8) : decL a (c :: r) = decL (a * 10 + (c.toNat - 48)) r := List.foldl_cons ..
theorem decL_nil (a : Nat) : decL a [] = a := List.foldl_nil ..
theorem decL_append (a : Nat) (x y : List UInt8) : decL a (x ++ y) = decL (decL a x) y := by
  induction x generalizing a with
  | nil => rw [decL_nil, List.nil_append]
  | cons c x ih => rw [List.cons_append, decL_cons, decL_cons]; exact ih _
theorem decL_ge (l : List UInt8) : ∀ (a : Nat), a ≤ decL a l := by
  induction l with
  | nil => intro a; rw [decL_nil]; exact Nat.le_refl _
  | cons c r ih =>
    intro a
    have := ih (a * 10 + (c.toNat - 48))
    rw [decL_cons]
    omega
def Digits (l : List UInt8) : Prop := ∀ c ∈ l, 48 ≤ c.toNat ∧ c.toNat ≤ 57
theorem parse_digits (l : List UInt8) : ∀ (a : Nat), Digits l → a < 18446744073709551616 → Lib.parseUint10 a l = if decL a l < 18446744073709551616 then .ok (decL a l) else .range := by
  induction l with
  | nil =>
    intro a _ ha
    rw [Lib.parseUint10, decL_nil, if_pos ha]
  | cons c r ih =>
    intro a h ha
    have hc := h c (by simp)
    have hr : Digits r := fun x hx => h x (by simp [hx])
    have hg := decL_ge r (a * 10 + (c.toNat - 48))
    rw [Lib.parseUint10, decL_cons, if_pos hc]
    generalize hd : c.toNat - 48 = d at *
    by_cases h1 : 1844674407370955162 ≤ a
    · rw [if_pos h1, if_neg (by omega)]
    · rw [if_neg h1]
      by_cases h2 : 18446744073709551616 ≤ a * 10 + d
      · rw [if_pos h2, if_neg (by omega)]
      · rw [if_neg h2]
        exact ih _ hr (by omega)
theorem cut_succ (s : ByteArray) (d k : Nat) (h : d + k < s.size) : (s.data.toList.drop d).take (k + 1) = (s.data.toList.drop d).take k ++ [s.data.toList[d + k]'h] := by
  have hl : k < (s.data.toList.drop d).length := by
    rw [List.length_drop]
    have : s.data.toList.length = s.size := rfl
    omega
  rw [List.take_succ_eq_append_getElem hl, List.getElem_drop]
theorem bt_at (s : ByteArray) (i : Nat) (h : i < s.size) : (s.data.toList[i]'h).toNat = bt s i := by
  rw [bt_list]
  have hl : i < s.data.toList.length := h
  rw [List.getD_eq_getElem?_getD, List.getElem?_eq_getElem hl]
  rfl
theorem dv_list (s : ByteArray) (d : Nat) : ∀ k, d + k ≤ s.size → decL 0 ((s.data.toList.drop d).take k) = dv s d k
  | 0, _ => by rw [List.take_zero, decL_nil, dv]
  | k + 1, h => by
    rw [cut_succ s d k (by omega), decL_append, dv_list s d k (by omega), dv, cB_bt (by omega)]
    rw [decL_cons, decL_nil, bt_at]
theorem digits_list {s : ByteArray} {d : Nat} : ∀ k, d + k ≤ s.size → (∀ j, d ≤ j → j < d + k → isD (cB s j) = true) → Digits ((s.data.toList.drop d).take k)
  | 0, _, _ => by intro c hc; simp at hc
  | k + 1, h, hd => by
    rw [cut_succ s d k (by omega)]
    intro c hc
    rw [List.mem_append] at hc
    rcases hc with hc | hc
    · exact digits_list k (by omega) (fun j h1 h2 => hd j h1 (by omega)) c hc
    · simp only [List.mem_singleton] at hc
      subst hc
      have h1 := hd (d + k) (by omega) (by omega)
      rw [cB_bt (by omega)] at h1
      rw [bt_at]
      unfold isD at h1
      simp at h1
      exact h1
/-- What Go's own reader of numbers makes of it. -/
theorem numS_parse {s : ByteArray} {i : Nat} (hi : cB s i = 45 ∨ isD (cB s i) = true) (hz : ¬ (sgn s i + 1 < dg s (sgn s i) ∧ cB s (sgn s i) = 48)) :
    (∃ v, Lib.parseIntB 64 (s.extract i (dg s (sgn s i))).data.toList = .ok v ∧ numS s i = some (v, dg s (sgn s i))) ∨ ((Lib.parseIntB 64 (s.extract i (dg s (sgn s i))).data.toList = .«syntax» ∨ Lib.parseIntB 64 (s.extract i (dg s (sgn s i))).data.toList = .range) ∧ numS s i = none) := by
  have hc : cB s i < 256 := by
    rcases hi with h | h
    · omega
    · unfold isD at h
      simp at h
      omega
  have hi0 := cB_in hc
  have hs : sgn s i ≤ s.size ∧ i ≤ sgn s i := by unfold sgn; split <;> omega
  have h1 := dg_ge s (sgn s i)
  have h2 := dg_le hs.1
  have hall : ∀ j, sgn s i ≤ j → j < dg s (sgn s i) → isD (cB s j) = true := fun j a b => pass_all isD_end s _ _ j (Nat.le_refl _) a b
  rw [Lib.parseIntB_64]
  have hl : (s.extract i (dg s (sgn s i))).data.toList = (s.data.toList.drop i).take (dg s (sgn s i) - i) := by
    have e : dg s (sgn s i) = i + (dg s (sgn s i) - i) := by omega
    rw [e, cut_list]
    congr 1
    omega
  rw [hl]
  have hdig := digits_list (s := s) (d := sgn s i) (dg s (sgn s i) - sgn s i) (by omega) (fun j a b => hall j a (by omega))
  have hdv := dv_list s (sgn s i) (dg s (sgn s i) - sgn s i) (by omega)
  have hx : (s.data.toList[i]'hi0).toNat = cB s i := by rw [bt_at, cB_bt hi0]
  unfold numS
  by_cases h45 : cB s i = 45
  · have e1 : sgn s i = i + 1 := by unfold sgn; rw [if_pos h45]
    have hcons : (s.data.toList.drop i).take (dg s (sgn s i) - i) = s.data.toList[i]'hi0 :: (s.data.toList.drop (sgn s i)).take (dg s (sgn s i) - sgn s i) := by
      have e2 : dg s (sgn s i) - i = (dg s (sgn s i) - sgn s i) + 1 := by omega
      rw [e2, List.drop_eq_getElem_cons (h := hi0), List.take_succ_cons, e1]
    rw [hcons]
    simp only [Lib.atoiAll, hx]
    rw [if_pos (Or.inr h45)]
    by_cases h0 : dg s (sgn s i) = sgn s i
    · rw [if_pos h0]
      have e3 : dg s (sgn s i) - sgn s i = 0 := by omega
      rw [e3]
      right
      simp [Lib.parseMag]
    · rw [if_neg h0, if_neg hz, if_pos h45]
      have hne : (s.data.toList.drop (sgn s i)).take (dg s (sgn s i) - sgn s i) ≠ [] := by
        intro e
        have := congrArg List.length e
        rw [List.length_take, List.length_drop] at this
        have hl : s.data.toList.length = s.size := rfl
        simp only [List.length_nil] at this
        omega
      simp only [Lib.parseMag]
      rw [if_neg hne, parse_digits _ _ hdig (by omega), hdv]
      generalize dv s (sgn s i) (dg s (sgn s i) - sgn s i) = m
      by_cases hm : m < 18446744073709551616
      · rw [if_pos hm]
        simp only [h45, not_true_eq_false, false_and, if_false, true_and, if_true]
        by_cases hm2 : m ≤ 9223372036854775808
        · rw [if_neg (by omega), if_pos hm2]
          exact .inl ⟨_, rfl, rfl⟩
        · rw [if_pos (by omega), if_neg hm2]
          exact .inr ⟨.inr rfl, rfl⟩
      · rw [if_neg hm, if_neg (by omega)]
        exact .inr ⟨.inr rfl, rfl⟩
  · have hd : isD (cB s i) = true := by
      rcases hi with h | h
      · exact absurd h h45
      · exact h
    have e1 : sgn s i = i := by unfold sgn; rw [if_neg h45]
    rw [e1] at hdig hdv hz h1 h2 ⊢
    have h0 : dg s i ≠ i := by
      unfold dg
      rw [pass_step isD_end, if_pos hd]
      have := pass_ge isD s (i + 1)
      omega
    have hne : (s.data.toList.drop i).take (dg s i - i) ≠ [] := by
      intro e
      have := congrArg List.length e
      rw [List.length_take, List.length_drop] at this
      have hl : s.data.toList.length = s.size := rfl
      simp only [List.length_nil] at this
      omega
    obtain ⟨rest, hcons⟩ : ∃ rest, (s.data.toList.drop i).take (dg s i - i) = s.data.toList[i]'hi0 :: rest := by
      obtain ⟨q, hq⟩ : ∃ q, dg s i - i = q + 1 := ⟨dg s i - i - 1, by omega⟩
      rw [hq, List.drop_eq_getElem_cons (h := hi0), List.take_succ_cons]
      exact ⟨_, rfl⟩
    rw [hcons] at hdig hdv hne ⊢
    simp only [Lib.atoiAll, hx]
    have hn : ¬ (cB s i = 43 ∨ cB s i = 45) := by
      unfold isD at hd
      simp at hd
      omega
    rw [if_neg hn, if_neg h0, if_neg hz, if_neg h45]
    simp only [Lib.parseMag]
    rw [if_neg hne, parse_digits _ _ hdig (by omega), hdv]
    generalize dv s i (dg s i - i) = m
    by_cases hm : m < 18446744073709551616
    · rw [if_pos hm]
      simp only [h45, not_false_eq_true, true_and, false_and, if_false]
      by_cases hm2 : m < 9223372036854775808
      · rw [if_neg (by omega), if_pos hm2]
        exact .inl ⟨_, rfl, rfl⟩
      · rw [if_pos (by omega), if_neg hm2]
        exact .inr ⟨.inr rfl, rfl⟩
    · rw [if_neg hm, if_neg (by omega)]
      exact .inr ⟨.inr rfl, rfl⟩

theorem ba_ext {a b : ByteArray} (h : a.data.toList = b.data.toList) : a = b := by
  cases a
  cases b
  simp only [ByteArray.mk.injEq]
  exact Array.toList_inj.1 h
theorem pfx_list (s : ByteArray) (i : Nat) (t : ByteArray) (hi : i ≤ s.size) : Lib.hasPrefix (suf s i).data.toList t.data.toList = pfx s i t := by
  rw [← Lib.hasPrefix_of_take, suf_list]
  unfold pfx
  have ht : t.data.toList.length = t.size := rfl
  have hs : (s.data.toList.drop i).length = s.size - i := by rw [List.length_drop]; rfl
  rw [ht, hs]
  have e1 : decide (t.size ≤ s.size - i) = decide (i + t.size ≤ s.size) := by
    apply decide_eq_decide.2
    omega
  rw [e1, ← cut_list]
  congr 1
  by_cases e : s.extract i (i + t.size) = t
  · rw [e]; simp
  · have h1 : decide (s.extract i (i + t.size) = t) = false := by simpa using e
    rw [h1]
    apply beq_false_of_ne
    exact fun h => e (ba_ext h)
theorem pfx_one (s : ByteArray) (i : Nat) (c : UInt8) : pfx s i ⟨#[c]⟩ = decide (cB s i = c.toNat) := by
  unfold pfx
  have hz : (ByteArray.mk #[c]).size = 1 := rfl
  rw [hz]
  by_cases h : i < s.size
  · have e1 : decide (i + 1 ≤ s.size) = true := by simp; omega
    rw [e1, Bool.true_and]
    apply decide_eq_decide.2
    have hl : (s.extract i (i + 1)).data.toList = [s.data.toList[i]'h] := by
      rw [cut_list, cut_succ s i 0 (by omega)]
      simp
    rw [cB_bt h, ← bt_at s i h]
    constructor
    · intro e
      rw [e] at hl
      simp only [List.cons.injEq, and_true] at hl
      rw [← hl]
    · intro e
      apply ba_ext
      rw [hl]
      simp only [List.cons.injEq, and_true]
      exact UInt8.toNat_inj.1 e
  · have e1 : decide (i + 1 ≤ s.size) = false := by simp; omega
    rw [e1, Bool.false_and, cB_end (by omega)]
    have := c.toNat_lt
    symm
    simp
    omega
/-- A word begins with its first byte. -/
theorem pfx_head {s : ByteArray} {i : Nat} {t : ByteArray} {c : UInt8} {r : List UInt8} (ht : t.data.toList = c :: r) (h : pfx s i t = true) : cB s i = c.toNat := by
  unfold pfx at h
  simp only [Bool.and_eq_true, decide_eq_true_eq] at h
  have hz : t.size = r.length + 1 := by
    have : t.data.toList.length = t.size := rfl
    rw [ht] at this
    simpa using this.symm
  have hi : i < s.size := by omega
  have hl := congrArg (fun x => x.data.toList) h.2
  rw [cut_list, ht, hz, List.drop_eq_getElem_cons (h := hi), List.take_succ_cons] at hl
  simp only [List.cons.injEq] at hl
  rw [cB_bt hi, ← bt_at s i hi, hl.1]

/-- How deep: whatever the bound. -/
theorem deepT_min : ∀ (f m : Nat) (t : T), Shal f t → deepT m t = min m (deepT f t)
  | 0, m, t, h => h.elim
  | f + 1, 0, t, _ => by simp [deepT]
  | f + 1, m + 1, t, h => by
    have key : ∀ k, k ≤ nL t → deepL (deepT m) t k = min m (deepL (deepT f) t k) := by
      intro k
      induction k with
      | zero => intro _; simp [deepL]
      | succ k ih =>
        intro hk
        rw [deepL, deepL, ih (by omega), deepT_min f m (elt t k) (h k (by omega))]
        omega
    rw [deepT, deepT]
    split
    · rw [key _ (Nat.le_refl _)]
      omega
    · omega

def fullJ (s : ByteArray) : Option T := (valN s (s.size + 1) 0).bind fun p => if sk s p.2 = s.size then some p.1 else none
def eJ (s : ByteArray) : Int := if 4000 < s.size then 1 else ((fullJ s).map fun t => if 12 < deepT (s.size + 1) t then (3 : Int) else if twiceT (s.size + 1) t = true then 4 else 0).getD 2
def tJ (s : ByteArray) : T := if eJ s = 0 then (fullJ s).getD (leafT 0 0 ByteArray.empty) else leafT 0 0 ByteArray.empty
end Go.Proofs.YtknakfpciccoaaaGreatDoor
/- A value whose lists are lent: where it lies, and what stands behind each list. -/
namespace Go.Proofs.YtknakfpciccoaaaGreatDoor
open Go.RowKit

/-- The value v reads as t in w, in blocks of a kind. -/
def AtP (p : Nat → Prop) (w : World) : Nat → Value → T → Prop
  | 0, _, _ => False
  | f + 1, v, t => ∃ (La Ka : Option Addr) (Lc Kc : Nat),
      v = .agg #[.int .i64 (kindOf t), .int .i64 (nOf t), .string (sOf t), .slice La (nL t) Lc, .slice Ka (nK t) Kc] ∧ Fits t ∧
      (∀ i, i < nL t → ∃ b o c0 c1 c2 c3 c4, La = some ⟨b, o, none⟩ ∧ (b < w.heap.size ∧ p b) ∧ w.cell? ⟨b, o + i * 5, none⟩ = some c0 ∧ w.cell? ⟨b, o + i * 5 + 1, none⟩ = some c1 ∧ w.cell? ⟨b, o + i * 5 + 2, none⟩ = some c2 ∧ w.cell? ⟨b, o + i * 5 + 3, none⟩ = some c3 ∧ w.cell? ⟨b, o + i * 5 + 4, none⟩ = some c4 ∧ AtP p w f (.agg #[c0, c1, c2, c3, c4]) (elt t i)) ∧
      (∀ i, i < nK t → ∃ b o, Ka = some ⟨b, o, none⟩ ∧ (b < w.heap.size ∧ p b) ∧ (nam t i).size ≤ 140737488355328 ∧ w.cell? ⟨b, o + i, none⟩ = some (.string (nam t i)))
theorem cell_of {w w' : World} {b : Nat} (h : w'.heap[b]? = w.heap[b]?) (o : Nat) : w'.cell? ⟨b, o, none⟩ = w.cell? ⟨b, o, none⟩ := World.cell?_of_block (w := w) h
theorem AtP.move {p q : Nat → Prop} {w w' : World} (hs : w.heap.size ≤ w'.heap.size) (hq : ∀ b, b < w.heap.size → p b → q b ∧ w'.heap[b]? = w.heap[b]?) : ∀ {f : Nat} {v : Value} {t : T}, AtP p w f v t → AtP q w' f v t := by
  intro f
  induction f with
  | zero => intro v t h; exact h
  | succ f ih =>
    rintro v t ⟨La, Ka, Lc, Kc, rfl, hf, hl, hk⟩
    refine ⟨La, Ka, Lc, Kc, rfl, hf, fun i hi => ?_, fun i hi => ?_⟩
    · obtain ⟨b, o, c0, c1, c2, c3, c4, h0, ⟨hb, hp⟩, q0, q1, q2, q3, q4, ha⟩ := hl i hi
      obtain ⟨hq1, hq2⟩ := hq b hb hp
      exact ⟨b, o, c0, c1, c2, c3, c4, h0, ⟨Nat.lt_of_lt_of_le hb hs, hq1⟩, (cell_of hq2 _).trans q0, (cell_of hq2 _).trans q1, (cell_of hq2 _).trans q2, (cell_of hq2 _).trans q3, (cell_of hq2 _).trans q4, ih ha⟩
    · obtain ⟨b, o, h0, ⟨hb, hp⟩, hz, q0⟩ := hk i hi
      obtain ⟨hq1, hq2⟩ := hq b hb hp
      exact ⟨b, o, h0, ⟨Nat.lt_of_lt_of_le hb hs, hq1⟩, hz, (cell_of hq2 _).trans q0⟩
theorem AtP.at {p : Nat → Prop} {w : World} : ∀ {f : Nat} {v : Value} {t : T}, AtP p w f v t → At w f v t := by
  intro f
  induction f with
  | zero => intro v t h; exact h
  | succ f ih =>
    rintro v t ⟨La, Ka, Lc, Kc, rfl, hf, hl, hk⟩
    refine ⟨La, Ka, Lc, Kc, rfl, hf, fun i hi => ?_, fun i hi => ?_⟩
    · obtain ⟨b, o, c0, c1, c2, c3, c4, h0, hb, q0, q1, q2, q3, q4, ha⟩ := hl i hi
      exact ⟨b, o, c0, c1, c2, c3, c4, h0, hb.1, q0, q1, q2, q3, q4, ih ha⟩
    · obtain ⟨b, o, h0, hb, hz, q0⟩ := hk i hi
      exact ⟨b, o, h0, hb.1, hz, q0⟩
theorem At.atP {w : World} : ∀ {f : Nat} {v : Value} {t : T}, At w f v t → AtP (fun b => b < w.heap.size) w f v t := by
  intro f
  induction f with
  | zero => intro v t h; exact h
  | succ f ih =>
    rintro v t ⟨La, Ka, Lc, Kc, rfl, hf, hl, hk⟩
    refine ⟨La, Ka, Lc, Kc, rfl, hf, fun i hi => ?_, fun i hi => ?_⟩
    · obtain ⟨b, o, c0, c1, c2, c3, c4, h0, hb, q0, q1, q2, q3, q4, ha⟩ := hl i hi
      exact ⟨b, o, c0, c1, c2, c3, c4, h0, ⟨hb, hb⟩, q0, q1, q2, q3, q4, ih ha⟩
    · obtain ⟨b, o, h0, hb, hz, q0⟩ := hk i hi
      exact ⟨b, o, h0, ⟨hb, hb⟩, hz, q0⟩

def mark3 : ByteArray := ⟨#[111, 119, 110]⟩
def tilde : ByteArray := ⟨#[126]⟩
/-- The five cells of a mark. -/
def MarkAt (w : World) (b o : Nat) : Prop := w.cell? ⟨b, o, none⟩ = some (.int .i64 (-77)) ∧ w.cell? ⟨b, o + 1, none⟩ = some (.int .i64 0) ∧ w.cell? ⟨b, o + 2, none⟩ = some (.string mark3) ∧ w.cell? ⟨b, o + 3, none⟩ = some (.slice none 0 0) ∧ w.cell? ⟨b, o + 4, none⟩ = some (.slice none 0 0)
/-- The five cells of an element. -/
def FiveAt (w : World) (b o : Nat) (t : T) (A : Option Addr) (B : Nat) (C : Option Addr) (D : Nat) : Prop := w.cell? ⟨b, o, none⟩ = some (.int .i64 (kindOf t)) ∧ w.cell? ⟨b, o + 1, none⟩ = some (.int .i64 (nOf t)) ∧ w.cell? ⟨b, o + 2, none⟩ = some (.string (sOf t)) ∧ w.cell? ⟨b, o + 3, none⟩ = some (.slice A (nL t) B) ∧ w.cell? ⟨b, o + 4, none⟩ = some (.slice C (nK t) D)
def five (t : T) (A : Option Addr) (B : Nat) (C : Option Addr) (D : Nat) : Value := .agg #[.int .i64 (kindOf t), .int .i64 (nOf t), .string (sOf t), .slice A (nL t) B, .slice C (nK t) D]
/-- A value that was lent, so deep. -/
def LentP (p : Nat → Prop) (w : World) : Nat → Nat → Value → T → Prop
  | 0, f, x, t => AtP p w f x t
  | m + 1, f, x, t => ∃ (bL bK g : Nat), f = g + 1 ∧ x = five t (some ⟨bL, 0, none⟩) (nL t + 8) (some ⟨bK, 0, none⟩) (nK t + 8) ∧ Fits t ∧ (bL < w.heap.size ∧ p bL) ∧ (bK < w.heap.size ∧ p bK) ∧
      (∀ i, i < nL t → ∃ A B C D, FiveAt w bL (i * 5) (elt t i) A B C D ∧ LentP p w m g (five (elt t i) A B C D) (elt t i)) ∧
      (∀ i, i < nK t → (nam t i).size ≤ 140737488355328 ∧ w.cell? ⟨bK, i, none⟩ = some (.string (nam t i))) ∧
      (∀ i, i < 8 → MarkAt w bL ((nL t + i) * 5)) ∧ (∀ i, i < 8 → w.cell? ⟨bK, nK t + i, none⟩ = some (.string tilde))
theorem FiveAt.move {w w' : World} {b : Nat} (h : w'.heap[b]? = w.heap[b]?) {o : Nat} {t : T} {A : Option Addr} {B : Nat} {C : Option Addr} {D : Nat} (hh : FiveAt w b o t A B C D) : FiveAt w' b o t A B C D := by
  obtain ⟨a, b, c, d, e⟩ := hh
  exact ⟨(cell_of h _).trans a, (cell_of h _).trans b, (cell_of h _).trans c, (cell_of h _).trans d, (cell_of h _).trans e⟩
theorem MarkAt.move {w w' : World} {b : Nat} (h : w'.heap[b]? = w.heap[b]?) {o : Nat} (hh : MarkAt w b o) : MarkAt w' b o := by
  obtain ⟨a, b, c, d, e⟩ := hh
  exact ⟨(cell_of h _).trans a, (cell_of h _).trans b, (cell_of h _).trans c, (cell_of h _).trans d, (cell_of h _).trans e⟩
theorem LentP.move {p q : Nat → Prop} {w w' : World} (hs : w.heap.size ≤ w'.heap.size) (hq : ∀ b, b < w.heap.size → p b → q b ∧ w'.heap[b]? = w.heap[b]?) : ∀ {m f : Nat} {v : Value} {t : T}, LentP p w m f v t → LentP q w' m f v t := by
  intro m
  induction m with
  | zero => intro f v t h; exact AtP.move hs hq h
  | succ m ih =>
    rintro f v t ⟨bL, bK, g, rfl, rfl, hf, ⟨h1, h2⟩, ⟨h3, h4⟩, he, hn, hm, ht⟩
    obtain ⟨a1, a2⟩ := hq bL h1 h2
    obtain ⟨a3, a4⟩ := hq bK h3 h4
    refine ⟨bL, bK, g, rfl, rfl, hf, ⟨Nat.lt_of_lt_of_le h1 hs, a1⟩, ⟨Nat.lt_of_lt_of_le h3 hs, a3⟩, fun i hi => ?_, fun i hi => ⟨(hn i hi).1, (cell_of a4 _).trans (hn i hi).2⟩, fun i hi => (hm i hi).move a2, fun i hi => (cell_of a4 _).trans (ht i hi)⟩
    obtain ⟨A, B, C, D, h5, h6⟩ := he i hi
    exact ⟨A, B, C, D, h5.move a2, ih h6⟩
theorem LentP.at {p : Nat → Prop} {w : World} : ∀ {m f : Nat} {v : Value} {t : T}, LentP p w m f v t → At w f v t := by
  intro m
  induction m with
  | zero => intro f v t h; exact AtP.at h
  | succ m ih =>
    rintro f v t ⟨bL, bK, g, rfl, rfl, hf, h1, h3, he, hn, _, _⟩
    refine ⟨some ⟨bL, 0, none⟩, some ⟨bK, 0, none⟩, nL t + 8, nK t + 8, rfl, hf, fun i hi => ?_, fun i hi => ⟨bK, 0, rfl, h3.1, (hn i hi).1, by rw [Nat.zero_add]; exact (hn i hi).2⟩⟩
    obtain ⟨A, B, C, D, ⟨e0, e1, e2, e3, e4⟩, h6⟩ := he i hi
    refine ⟨bL, 0, _, _, _, _, _, rfl, h1.1, ?_, ?_, ?_, ?_, ?_, ih h6⟩
    · rw [Nat.zero_add]; exact e0
    · rw [Nat.zero_add]; exact e1
    · rw [Nat.zero_add]; exact e2
    · rw [Nat.zero_add]; exact e3
    · rw [Nat.zero_add]; exact e4
/-- What is lent shows what it is. -/
theorem LentP.shape {p : Nat → Prop} {w : World} {m f : Nat} {v : Value} {t : T} (h : LentP p w m f v t) : ∃ A B C D, v = five t A B C D := by
  obtain ⟨g, A, C, B, D, _, hv, _⟩ := h.at.open
  exact ⟨A, B, C, D, hv⟩
/-- A row of so many cells that may be written. -/
def RowAt (w : World) (b n : Nat) : Prop := b < w.heap.size ∧ ∀ o, o < n → (w.cell? ⟨b, o, none⟩).isSome = true ∧ w.frozen? ⟨b, o, none⟩ = false
theorem RowAt.move {w w' : World} {b n : Nat} (h : RowAt w b n) (hs : w.heap.size ≤ w'.heap.size) (hb : w'.heap[b]? = w.heap[b]?) : RowAt w' b n :=
  ⟨Nat.lt_of_lt_of_le h.1 hs, fun o ho => ⟨by rw [cell_of hb]; exact (h.2 o ho).1, by rw [World.frozen?_of_block (w := w) (a := ⟨b, o, none⟩) hb]; exact (h.2 o ho).2⟩⟩
theorem RowAt.set {w : World} {b n : Nat} (h : RowAt w b n) (c o : Nat) (u : Value) : RowAt (w.setCell ⟨c, o, none⟩ u) b n := by
  refine ⟨by simp [World.setCell]; exact h.1, fun k hk => ⟨?_, by rw [World.frozen?_setCell]; exact (h.2 k hk).2⟩⟩
  by_cases e : (⟨c, o, none⟩ : Addr) = ⟨b, k, none⟩
  · obtain ⟨v, hv⟩ := Option.isSome_iff_exists.1 (h.2 k hk).1
    rw [← e] at hv ⊢
    rw [World.cell?_setCell_same _ _ _ hv]
    rfl
  · rw [World.cell?_setCell_other _ _ _ _ e]
    exact (h.2 k hk).1
theorem set_same {w : World} {b n o : Nat} (h : RowAt w b n) (ho : o < n) (u : Value) : (w.setCell ⟨b, o, none⟩ u).cell? ⟨b, o, none⟩ = some u := by
  obtain ⟨v, hv⟩ := Option.isSome_iff_exists.1 (h.2 o ho).1
  exact World.cell?_setCell_same _ _ _ hv
theorem set_other {w : World} {b c o k : Nat} (h : b ≠ c ∨ o ≠ k) (u : Value) : (w.setCell ⟨b, o, none⟩ u).cell? ⟨c, k, none⟩ = w.cell? ⟨c, k, none⟩ :=
  World.cell?_setCell_other _ _ _ _ (fun e => by simp only [Addr.mk.injEq] at e; rcases h with h | h; exact h e.1; exact h e.2.1)
/-- Five cells stored into a row. -/
def set5 (w : World) (b o : Nat) (c0 c1 c2 c3 c4 : Value) : World := ((((w.setCell ⟨b, o, none⟩ c0).setCell ⟨b, o + 1, none⟩ c1).setCell ⟨b, o + 2, none⟩ c2).setCell ⟨b, o + 3, none⟩ c3).setCell ⟨b, o + 4, none⟩ c4
theorem set5_row {w : World} {b n : Nat} (h : RowAt w b n) (c o : Nat) (c0 c1 c2 c3 c4 : Value) : RowAt (set5 w c o c0 c1 c2 c3 c4) b n := ((((h.set _ _ _).set _ _ _).set _ _ _).set _ _ _).set _ _ _
theorem set5_other {w : World} {b c o k : Nat} (h : b ≠ c ∨ k < o ∨ o + 5 ≤ k) (c0 c1 c2 c3 c4 : Value) : (set5 w b o c0 c1 c2 c3 c4).cell? ⟨c, k, none⟩ = w.cell? ⟨c, k, none⟩ := by
  unfold set5
  rw [set_other (by omega), set_other (by omega), set_other (by omega), set_other (by omega), set_other (by omega)]
theorem set5_at {w : World} {b n o : Nat} (h : RowAt w b n) (ho : o + 5 ≤ n) (c0 c1 c2 c3 c4 : Value) : (set5 w b o c0 c1 c2 c3 c4).cell? ⟨b, o, none⟩ = some c0 ∧ (set5 w b o c0 c1 c2 c3 c4).cell? ⟨b, o + 1, none⟩ = some c1 ∧ (set5 w b o c0 c1 c2 c3 c4).cell? ⟨b, o + 2, none⟩ = some c2 ∧ (set5 w b o c0 c1 c2 c3 c4).cell? ⟨b, o + 3, none⟩ = some c3 ∧ (set5 w b o c0 c1 c2 c3 c4).cell? ⟨b, o + 4, none⟩ = some c4 := by
  unfold set5
  refine ⟨?_, ?_, ?_, ?_, ?_⟩
  · rw [set_other (by omega), set_other (by omega), set_other (by omega), set_other (by omega), set_same h (by omega)]
  · rw [set_other (by omega), set_other (by omega), set_other (by omega), set_same (h.set _ _ _) (by omega)]
  · rw [set_other (by omega), set_other (by omega), set_same ((h.set _ _ _).set _ _ _) (by omega)]
  · rw [set_other (by omega), set_same (((h.set _ _ _).set _ _ _).set _ _ _) (by omega)]
  · rw [set_same ((((h.set _ _ _).set _ _ _).set _ _ _).set _ _ _) (by omega)]
theorem set5_but (w : World) (b o : Nat) (c0 c1 c2 c3 c4 : Value) : But b w (set5 w b o c0 c1 c2 c3 c4) :=
  ((((But.set _ _ _ _).trans (But.set _ _ _ _)).trans (But.set _ _ _ _)).trans (But.set _ _ _ _)).trans (But.set _ _ _ _)
end Go.Proofs.YtknakfpciccoaaaGreatDoor
