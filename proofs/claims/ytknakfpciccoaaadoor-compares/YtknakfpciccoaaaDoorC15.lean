/- The walk of Order. -/
import Derived.Test.YtknakfpciccoaaaDoorC2
import Derived.Test.YtknakfpciccoaaaDoorG
import Derived.Deep.RegionHeld
namespace Go.Proofs.YtknakfpciccoaaaDoor
open Go.RowKit

theorem sEq (a b : ByteArray) : (a.toList == b.toList) = true ↔ a = b := by rw [beq_iff_eq]; exact toList_eq_iff a b
set_option maxHeartbeats 1000000 in
set_option maxRecDepth 100000 in
theorem Order_any (f : Nat) : ∀ (g : Nat) (va vb : Value) (a b : T) (w : World), At w f va a → At w g vb b → okK f a → okK f b →
    Calls Tryd.prog 38 #[va, vb] w fun e w' => e = .returned (.int .i64 (ordT f a b)) ∧ Below w.heap.size w w' := by
  induction f with
  | zero => intro g va vb a b w h; exact h.elim
  | succ f ih =>
    intro g va vb a b w h h' ka kb
    obtain ⟨f1, La, Ka, Lc, Kc, hf1, rfl, hf, hl, hk⟩ := h.open
    obtain rfl : f = f1 := by omega
    obtain ⟨g1, Ma, Na, Mc, Nc, hg1, rfl, hf', hl', hk'⟩ := h'.open
    have hlen := hf.l1
    have hlen' := hf'.l1
    have HKa := hid ka
    have HKb := hid kb
    clear h h' hf hf' hf1 hg1 ka kb
    have Hih := hid ih
    clear ih
    by_cases k1 : kindOf a = kindOf b
    · have e1 : (kindOf a != kindOf b) = false := by simp [k1]
      by_cases k2 : nOf a = nOf b ∧ sOf a = sOf b
      · have e2 : (nOf a != nOf b) = false := by simp [k2.1]
        have e3 : ((sOf a).toList == (sOf b).toList) = true := by rw [k2.2]; simp
        have HR : Hid (ordT (f + 1) a b = ordE (ordT f) a b) := by show ordT (f + 1) a b = _; simp only [ordT]; rw [if_neg (by simp [k1]), if_neg (by simp [k2.1, k2.2])]
        have K1 := hid k1
        clear k1 k2
        go_enter Tryd.func38, Tryd.ntmps38
        go_wp2_with fail
        go_loopg [5] (nL a) (fun g i wr => ∃ k : Nat, g = nL a - k ∧ k ≤ nL a ∧ k ≤ nL b ∧ i = .int .i64 k ∧ Hid (ordL (ordT f) a b k = 0) ∧ Below (w.heap.size + 2) ((w.alloc (.cells #[.int .i64 (kindOf a), .int .i64 (nOf a), .string (sOf a), .slice La (nL a) Lc, .slice Ka (nK a) Kc] 26)).alloc (.cells #[.int .i64 (kindOf b), .int .i64 (nOf b), .string (sOf b), .slice Ma (nL b) Mc, .slice Na (nK b) Nc] 26)) wr)
        case atStart => exact ⟨0, rfl, Nat.zero_le _, Nat.zero_le _, rfl, rfl, Below.refl _ _⟩
        case round =>
          obtain ⟨k, rfl, hka, hkb, rfl, HO, hb⟩ := hrel
          obtain ⟨⟨q0, q1, q2, q3, q4⟩, ⟨r0, r1, r2, r3, r4⟩, hz, hbw⟩ := box2_facts hb
          have Hb := hid hb
          clear hb
          have hz0 : w.heap.size < wr.heap.size := by omega
          by_cases hlt : k < nL a
          · by_cases hlt' : k < nL b
            · obtain ⟨ba, oa, c0, c1, c2, c3, c4, rfl, hba, p0, p1, p2, p3, p4, Ha⟩ := hl.out.keep hbw k hlt
              obtain ⟨bb, ob, d0, d1, d2, d3, d4, rfl, hbb, t0, t1, t2, t3, t4, Hc⟩ := hl'.out.keep hbw k hlt'
              have x1 : (k : Int) < (nL a : Int) := by omega
              have x2 : (k : Int) < (nL b : Int) := by omega
              by_cases k6 : kindOf a = 6
              · have e6 : (kindOf a == 6) = true := by simpa using k6
                have HS := hid (ordL_step (g := ordT f) (b := b) HO.out)
                have na : k < nK a := by rw [HKa.out.1 k6]; exact hlt
                have nb : k < nK b := by rw [HKb.out.1 (K1.out ▸ k6)]; exact hlt'
                obtain ⟨ea, fa, rfl, hea, hsa, n0⟩ := hk.out.keep hbw k na
                obtain ⟨eb, fb, rfl, heb, hsb, m0⟩ := hk'.out.keep hbw k nb
                have x3 : (k : Int) < (nK a : Int) := by omega
                have x4 : (k : Int) < (nK b : Int) := by omega
                have K6 := hid k6
                have bc := cmpS_bd (nam a k) (nam b k)
                clear k6
                go_wp2_with fail
                go_quiet ((go_at_call 69; exact Calls.quiet_of_same (texts_any _ _ _)))
                generalize hcc : cmpS (nam a k) (nam b k) = c at bc ⊢
                have HCC := hid hcc
                clear hcc
                have Hbq : Hid (Below wr.heap.size wr (wr.drewN nq)) := below_drewN (Below.refl _ _) nq
                generalize wr.drewN nq = wq at Hbq ⊢
                have hzq := Hbq.out.size
                have y0 := (Hbq.out.cell (p := ⟨w.heap.size, 3, none⟩) hz0).trans q3
                have y1 := (Hbq.out.cell (p := ⟨w.heap.size + 1, 3, none⟩) hz).trans r3
                have u0 := (Hbq.out.cell (p := ⟨ba, oa + k * 5, none⟩) hba).trans p0
                have u1 := (Hbq.out.cell (p := ⟨ba, oa + k * 5 + 1, none⟩) hba).trans p1
                have u2 := (Hbq.out.cell (p := ⟨ba, oa + k * 5 + 2, none⟩) hba).trans p2
                have u3 := (Hbq.out.cell (p := ⟨ba, oa + k * 5 + 3, none⟩) hba).trans p3
                have u4 := (Hbq.out.cell (p := ⟨ba, oa + k * 5 + 4, none⟩) hba).trans p4
                have v0 := (Hbq.out.cell (p := ⟨bb, ob + k * 5, none⟩) hbb).trans t0
                have v1 := (Hbq.out.cell (p := ⟨bb, ob + k * 5 + 1, none⟩) hbb).trans t1
                have v2 := (Hbq.out.cell (p := ⟨bb, ob + k * 5 + 2, none⟩) hbb).trans t2
                have v3 := (Hbq.out.cell (p := ⟨bb, ob + k * 5 + 3, none⟩) hbb).trans t3
                have v4 := (Hbq.out.cell (p := ⟨bb, ob + k * 5 + 4, none⟩) hbb).trans t4
                have Hbq2 := hid (Hb.out.trans (Hbq.out.mono (by omega)))
                have hz0' : w.heap.size < wq.heap.size := Nat.lt_of_lt_of_le hz0 hzq
                have hz1' : w.heap.size + 1 < wq.heap.size := Nat.lt_of_lt_of_le hz hzq
                have hba' : ba < wq.heap.size := Nat.lt_of_lt_of_le hba hzq
                have hbb' : bb < wq.heap.size := Nat.lt_of_lt_of_le hbb hzq
                clear q0 q1 q2 q3 q4 r0 r1 r2 r3 r4 p0 p1 p2 p3 p4 t0 t1 t2 t3 t4 n0 m0
                by_cases hc0 : c = 0
                · subst hc0
                  have HC0 := HCC
                  go_wp2_with fail
                  have HA1 := hid (Ha.out.keep ((Hbq.out).trans ((below_drew wq).mono Hbq.out.size)))
                  have HC1 := hid (Hc.out.keep ((Hbq.out).trans ((below_drew wq).mono Hbq.out.size)))
                  have HOa := hid (HKa.out.2 k hlt)
                  have HOb := hid (HKb.out.2 k hlt')
                  have bd := ordT_bd f (elt a k) (elt b k)
                  have HSS : Hid (∀ wx : World, Below wq.drew.heap.size wq.drew wx → wx.cell? ⟨w.heap.size, 3, none⟩ = some (.slice (some ⟨ba, oa, none⟩) (nL a) Lc) ∧ wx.cell? ⟨w.heap.size + 1, 3, none⟩ = some (.slice (some ⟨bb, ob, none⟩) (nL b) Mc) ∧ wx.cell? ⟨ba, oa + k * 5, none⟩ = some c0 ∧ wx.cell? ⟨ba, oa + k * 5 + 1, none⟩ = some c1 ∧ wx.cell? ⟨ba, oa + k * 5 + 2, none⟩ = some c2 ∧ wx.cell? ⟨ba, oa + k * 5 + 3, none⟩ = some c3 ∧ wx.cell? ⟨ba, oa + k * 5 + 4, none⟩ = some c4 ∧ wx.cell? ⟨bb, ob + k * 5, none⟩ = some d0 ∧ wx.cell? ⟨bb, ob + k * 5 + 1, none⟩ = some d1 ∧ wx.cell? ⟨bb, ob + k * 5 + 2, none⟩ = some d2 ∧ wx.cell? ⟨bb, ob + k * 5 + 3, none⟩ = some d3 ∧ wx.cell? ⟨bb, ob + k * 5 + 4, none⟩ = some d4) := by
                    intro wx hx
                    have hh := (below_drew wq).trans hx
                    refine ⟨?_, ?_, ?_, ?_, ?_, ?_, ?_, ?_, ?_, ?_, ?_, ?_⟩
                    all_goals (rw [hh.cell (p := ⟨_, _, none⟩) (by first | assumption | omega)]; assumption)
                  go_region_held (fun wx => wx.cell? ⟨w.heap.size, 3, none⟩ = some (.slice (some ⟨ba, oa, none⟩) (nL a) Lc) ∧ wx.cell? ⟨w.heap.size + 1, 3, none⟩ = some (.slice (some ⟨bb, ob, none⟩) (nL b) Mc) ∧ wx.cell? ⟨ba, oa + k * 5, none⟩ = some c0 ∧ wx.cell? ⟨ba, oa + k * 5 + 1, none⟩ = some c1 ∧ wx.cell? ⟨ba, oa + k * 5 + 2, none⟩ = some c2 ∧ wx.cell? ⟨ba, oa + k * 5 + 3, none⟩ = some c3 ∧ wx.cell? ⟨ba, oa + k * 5 + 4, none⟩ = some c4 ∧ wx.cell? ⟨bb, ob + k * 5, none⟩ = some d0 ∧ wx.cell? ⟨bb, ob + k * 5 + 1, none⟩ = some d1 ∧ wx.cell? ⟨bb, ob + k * 5 + 2, none⟩ = some d2 ∧ wx.cell? ⟨bb, ob + k * 5 + 3, none⟩ = some d3 ∧ wx.cell? ⟨bb, ob + k * 5 + 4, none⟩ = some d4) (go_keep) ((go_at_call 38; refine (Hih.out _ _ _ _ _ _ HA1.out HC1.out HOa.out HOb.out).mono ?_; rintro e w2 ⟨rfl, hb2⟩; have hc2 := HSS.out _ hb2))
                  have HB2 := hid (Hbq2.out.trans (((below_drew wq).trans hb2).mono (by omega)))
                  clear hb2 hc2 HA1 HC1
                  generalize hx : ordT f (elt a k) (elt b k) = x at bd ⊢
                  have HS2 : Hid (ordL (ordT f) a b (k + 1) = x) := by show _ = _; rw [HS.out, if_neg (fun h => h.2 HC0.out), hx]
                  clear hx
                  by_cases hx0 : x = 0
                  · subst hx0
                    go_wp2_with fail
                    go_roundg (nL a - (k + 1))
                    case rel => exact ⟨k + 1, rfl, by omega, by omega, by go_num, HS2, HB2.out⟩
                    case measure => omega
                  · have ex : (x != 0) = true := by simpa using hx0
                    have HX := hid hx0
                    clear hx0
                    go_wp2_with fail
                    go_ret
                    refine ⟨ret_int ?_, (((Below.refl _ _).alloc (Nat.le_refl _) _).alloc (by simp) _).trans (HB2.out.mono (by omega))⟩
                    rw [HR.out, ordE, ordL_stop (j := k + 1) (by omega) (by rw [HS2.out]; exact HX.out), HS2.out, if_pos HX.out]
                · have ex : (c != 0) = true := by simpa using hc0
                  have HX := hid hc0
                  clear hc0
                  have HS2 : Hid (ordL (ordT f) a b (k + 1) = c) := by show _ = _; rw [HS.out, HCC.out, if_pos ⟨K6.out, HX.out⟩]
                  go_wp2_with fail
                  go_ret
                  refine ⟨ret_int ?_, (((Below.refl _ _).alloc (Nat.le_refl _) _).alloc (by simp) _).trans (Hbq2.out.mono (by omega))⟩
                  rw [HR.out, ordE, ordL_stop (j := k + 1) (by omega) (by rw [HS2.out]; exact HX.out), HS2.out, if_pos HX.out]
              · have e6 : (kindOf a == 6) = false := by simpa using k6
                have HS := hid (ordL_step HO.out)
                have K6 := hid k6
                clear k6
                go_wp2_with fail
                have HA1 := hid (Ha.out.keep (below_drew wr))
                have HC1 := hid (Hc.out.keep (below_drew wr))
                have HOa := hid (HKa.out.2 k hlt)
                have HOb := hid (HKb.out.2 k hlt')
                have bd := ordT_bd f (elt a k) (elt b k)
                have HSS : Hid (∀ wx : World, Below wr.drew.heap.size wr.drew wx → wx.cell? ⟨w.heap.size, 3, none⟩ = some (.slice (some ⟨ba, oa, none⟩) (nL a) Lc) ∧ wx.cell? ⟨w.heap.size + 1, 3, none⟩ = some (.slice (some ⟨bb, ob, none⟩) (nL b) Mc) ∧ wx.cell? ⟨ba, oa + k * 5, none⟩ = some c0 ∧ wx.cell? ⟨ba, oa + k * 5 + 1, none⟩ = some c1 ∧ wx.cell? ⟨ba, oa + k * 5 + 2, none⟩ = some c2 ∧ wx.cell? ⟨ba, oa + k * 5 + 3, none⟩ = some c3 ∧ wx.cell? ⟨ba, oa + k * 5 + 4, none⟩ = some c4 ∧ wx.cell? ⟨bb, ob + k * 5, none⟩ = some d0 ∧ wx.cell? ⟨bb, ob + k * 5 + 1, none⟩ = some d1 ∧ wx.cell? ⟨bb, ob + k * 5 + 2, none⟩ = some d2 ∧ wx.cell? ⟨bb, ob + k * 5 + 3, none⟩ = some d3 ∧ wx.cell? ⟨bb, ob + k * 5 + 4, none⟩ = some d4) := by
                  intro wx hx
                  have hh := (below_drew wr).trans hx
                  refine ⟨?_, ?_, ?_, ?_, ?_, ?_, ?_, ?_, ?_, ?_, ?_, ?_⟩
                  all_goals (rw [hh.cell (p := ⟨_, _, none⟩) (by first | assumption | omega)]; assumption)
                go_region_held (fun wx => wx.cell? ⟨w.heap.size, 3, none⟩ = some (.slice (some ⟨ba, oa, none⟩) (nL a) Lc) ∧ wx.cell? ⟨w.heap.size + 1, 3, none⟩ = some (.slice (some ⟨bb, ob, none⟩) (nL b) Mc) ∧ wx.cell? ⟨ba, oa + k * 5, none⟩ = some c0 ∧ wx.cell? ⟨ba, oa + k * 5 + 1, none⟩ = some c1 ∧ wx.cell? ⟨ba, oa + k * 5 + 2, none⟩ = some c2 ∧ wx.cell? ⟨ba, oa + k * 5 + 3, none⟩ = some c3 ∧ wx.cell? ⟨ba, oa + k * 5 + 4, none⟩ = some c4 ∧ wx.cell? ⟨bb, ob + k * 5, none⟩ = some d0 ∧ wx.cell? ⟨bb, ob + k * 5 + 1, none⟩ = some d1 ∧ wx.cell? ⟨bb, ob + k * 5 + 2, none⟩ = some d2 ∧ wx.cell? ⟨bb, ob + k * 5 + 3, none⟩ = some d3 ∧ wx.cell? ⟨bb, ob + k * 5 + 4, none⟩ = some d4) (go_keep) ((go_at_call 38; refine (Hih.out _ _ _ _ _ _ HA1.out HC1.out HOa.out HOb.out).mono ?_; rintro e w2 ⟨rfl, hb2⟩; have hc2 := HSS.out _ hb2))
                have HB2 := hid (Hb.out.trans (((below_drew wr).trans hb2).mono (by omega)))
                clear hb2 hc2 HA1 HC1
                generalize hx : ordT f (elt a k) (elt b k) = x at bd ⊢
                have HS2 : Hid (ordL (ordT f) a b (k + 1) = x) := by show _ = _; rw [HS.out, if_neg (fun h => K6.out h.1), hx]
                clear hx
                by_cases hx0 : x = 0
                · subst hx0
                  go_wp2_with fail
                  go_roundg (nL a - (k + 1))
                  case rel => exact ⟨k + 1, rfl, by omega, by omega, by go_num, HS2, HB2.out⟩
                  case measure => omega
                · have ex : (x != 0) = true := by simpa using hx0
                  have HX := hid hx0
                  clear hx0
                  go_wp2_with fail
                  go_ret
                  refine ⟨ret_int ?_, (((Below.refl _ _).alloc (Nat.le_refl _) _).alloc (by simp) _).trans (HB2.out.mono (by omega))⟩
                  rw [HR.out, ordE, ordL_stop (j := k + 1) (by omega) (by rw [HS2.out]; exact HX.out), HS2.out, if_pos HX.out]
            · have e6 : (nL b : Int) ≤ (k : Int) := by omega
              have HE : Hid (ordT (f + 1) a b = cmpI (nL a) (nL b)) := by
                show ordT (f + 1) a b = _
                rw [HR.out, ordE, show min (nL a) (nL b) = k from by omega, HO.out]
                rfl
              go_wp2_with fail
              refine (numbers_any _ _ _).mono ?_
              rintro e w2 ⟨rfl, rfl⟩
              go_wp2_with fail
              go_ret
              exact ⟨ret_int (by rw [HE.out]), hbw⟩
          · have e6 : (nL a : Int) ≤ (k : Int) := by omega
            have HE : Hid (ordT (f + 1) a b = cmpI (nL a) (nL b)) := by
              show ordT (f + 1) a b = _
              rw [HR.out, ordE, show min (nL a) (nL b) = k from by omega, HO.out]
              rfl
            go_wp2_with fail
            refine (numbers_any _ _ _).mono ?_
            rintro e w2 ⟨rfl, rfl⟩
            go_wp2_with fail
            go_ret
            exact ⟨ret_int (by rw [HE.out]), hbw⟩
      · have HR : Hid (ordT (f + 1) a b = cmpI (nOf a) (nOf b) + cmpS (sOf a) (sOf b)) := by
          show ordT (f + 1) a b = _
          simp only [ordT]
          rw [if_neg (by simp [k1]), if_pos (by by_cases h : nOf a = nOf b; exact Or.inr (fun h2 => k2 ⟨h, h2⟩); exact Or.inl h)]
        have b1 := cmpI_bd (nOf a) (nOf b)
        have b2 := cmpS_bd (sOf a) (sOf b)
        have cs : (nOf a != nOf b) = true ∨ (nOf a != nOf b) = false ∧ ((sOf a).toList == (sOf b).toList) = false := by
          by_cases h : nOf a = nOf b
          · right
            refine ⟨by simp [h], ?_⟩
            cases hc : ((sOf a).toList == (sOf b).toList) with
            | false => rfl
            | true => exact absurd ⟨h, (sEq _ _).1 hc⟩ k2
          · left; simpa using h
        clear k1 k2
        rcases cs with cs | ⟨cs, cs2⟩
        all_goals
          go_enter Tryd.func38, Tryd.ntmps38
          go_wp2_with fail
          go_quiet (first | (go_at_call 68; exact Calls.quiet_of_same (numbers_any _ _ _)) | (go_at_call 69; exact Calls.quiet_of_same (texts_any _ _ _)))
          go_wp2_with fail
          go_ret
          exact ⟨ret_int (by rw [HR.out]), below_drewN (((Below.refl _ _).alloc (Nat.le_refl _) _).alloc (by simp) _) _⟩
    · have e1 : (kindOf a != kindOf b) = true := by simpa using k1
      have HR : Hid (ordT (f + 1) a b = cmpI (kindOf a) (kindOf b)) := by show ordT (f + 1) a b = _; simp only [ordT]; rw [if_pos k1]
      clear k1
      go_enter Tryd.func38, Tryd.ntmps38
      go_wp2_with fail
      refine (numbers_any _ _ _).mono ?_
      rintro e w2 ⟨rfl, rfl⟩
      go_wp2_with fail
      go_ret
      exact ⟨ret_int (by rw [HR.out]), ((Below.refl _ _).alloc (Nat.le_refl _) _).alloc (by simp) _⟩
end Go.Proofs.YtknakfpciccoaaaDoor
