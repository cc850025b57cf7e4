/- The walks of slices.CompareFunc and compareObjects, over one another's contract. -/
import Derived.Test.YtknakfpciccoaaaDoorC4
import Derived.Test.YtknakfpciccoaaaDoorG
import Derived.BigQuiet
import Derived.Deep.QuietTactic
import Derived.Deep.RegionHeld
namespace Go.Proofs.YtknakfpciccoaaaDoor
open Go.RowKit

def CmpSaid (f : Nat) : Prop := ∀ (g : Nat) (va vb : Value) (a b : T) (w : World), At w f va a → At w g vb b → okK f a → okK f b →
    Calls Tryd.prog 36 #[va, vb] w fun e w' => e = .returned (.int .i64 (cmpT f a b)) ∧ Below w.heap.size w w'

theorem ordE_none {g : T → T → Int} {a b : T} {k : Nat} (h : min (nL a) (nL b) = k) (h0 : ordL g a b k = 0) : ordE g a b = cmpI (nL a) (nL b) := by
  rw [ordE, h, h0]; rfl
theorem ordE_some {g : T → T → Int} {a b : T} {k : Nat} {x : Int} (ha : k < nL a) (hb : k < nL b) (h : ordL g a b (k + 1) = x) (h0 : x ≠ 0) : ordE g a b = x := by
  rw [ordE, ordL_stop (j := k + 1) (by omega) (by rw [h]; exact h0), h, if_pos h0]

set_option maxHeartbeats 1000000 in
set_option maxRecDepth 100000 in
theorem CompareFunc_any (f : Nat) (hc : CmpSaid f) (g : Nat) (La Ma : Option Addr) (Lc Mc : Nat) (a b : T) (w : World) (hl : ElemsAt w f La a) (hl' : ElemsAt w g Ma b) (hlen : nL a ≤ 1759218604442) (_hlen' : nL b ≤ 1759218604442)
    (k5 : kindOf a ≠ 6) (oka : ∀ i, i < nL a → okK f (elt a i)) (okb : ∀ i, i < nL b → okK f (elt b i)) :
    Calls Tryd.prog 66 #[.slice La (nL a) Lc, .slice Ma (nL b) Mc, .func (Fn.func 36) #[] #[]] w fun e w' => e = .returned (.int .i64 (ordE (cmpT f) a b)) ∧ Below w.heap.size w w' := by
  have Hc := hid hc
  have Hl := hid hl
  have Hl' := hid hl'
  have K5 := hid k5
  have Hoa := hid oka
  have Hob := hid okb
  clear hc hl hl' k5 oka okb
  go_enter Tryd.func66, Tryd.ntmps66
  go_wp2_with fail
  go_loopg [13] (nL a) (fun g i wr => ∃ k : Nat, g = nL a - k ∧ k ≤ nL a ∧ k ≤ nL b ∧ i = .int .i64 k ∧ Hid (ordL (cmpT f) a b k = 0) ∧ Hid (Below w.heap.size w wr))
  case atStart => exact ⟨0, rfl, Nat.zero_le _, Nat.zero_le _, rfl, rfl, Below.refl _ _⟩
  case round =>
    obtain ⟨k, rfl, hka, hkb, rfl, HO, Hb⟩ := hrel
    by_cases hlt : k < nL a
    · obtain ⟨ba, oa, A, B, C, D, rfl, hba, p0, p1, p2, p3, p4, Ha⟩ := Hl.out.shape Hb.out k hlt
      by_cases hlt' : k < nL b
      · obtain ⟨bb, ob, P, Q, R, S, rfl, hbb, t0, t1, t2, t3, t4, Hd⟩ := Hl'.out.shape Hb.out k hlt'
        have x1 : (k : Int) < (nL a : Int) := by omega
        have x2 : (k : Int) < (nL b : Int) := by omega
        have hsz := Hb.out.size
        have s1 : ba < wr.heap.size := by omega
        have s2 : bb < wr.heap.size := by omega
        have HB1 : Hid (Below wr.heap.size wr ((wr.alloc (.cells #[.int .i64 (kindOf (elt a k)), .int .i64 (nOf (elt a k)), .string (sOf (elt a k)), .slice A (nL (elt a k)) B, .slice C (nK (elt a k)) D] 26)).alloc (.cells #[.int .i64 (kindOf (elt b k)), .int .i64 (nOf (elt b k)), .string (sOf (elt b k)), .slice P (nL (elt b k)) Q, .slice R (nK (elt b k)) S] 26))) := ((Below.refl _ _).alloc (Nat.le_refl _) _).alloc (by simp) _
        have bd := cmpT_bd f (elt a k) (elt b k)
        go_wp2_with fail
        refine (Hc.out _ _ _ _ _ _ (Ha.out.keep (Hb.out.trans (HB1.out.mono hsz))) (Hd.out.keep (Hb.out.trans (HB1.out.mono hsz))) (Hoa.out k hlt) (Hob.out k hlt')).mono ?_
        rintro e w2 ⟨rfl, hb2⟩
        have HB2 := hid (Hb.out.trans ((HB1.out.trans (hb2.mono HB1.out.size)).mono hsz))
        clear hb2
        have HS := hid (ordL_step (g := cmpT f) (b := b) HO.out)
        generalize hx : cmpT f (elt a k) (elt b k) = x at bd ⊢
        have HS2 : Hid (ordL (cmpT f) a b (k + 1) = x) := by show _ = _; rw [HS.out, if_neg (fun h => K5.out h.1), hx]
        clear hx
        by_cases hx0 : x = 0
        · subst hx0
          go_wp2_with fail
          go_roundg (nL a - (k + 1))
          case rel => exact ⟨k + 1, rfl, by omega, by omega, by go_num, HS2, HB2⟩
          case measure => omega
        · have ex : (x != 0) = true := by simpa using hx0
          have HX := hid hx0
          clear hx0
          go_wp2_with fail
          go_ret
          exact ⟨ret_int (ordE_some hlt hlt' HS2.out HX.out).symm, HB2.out⟩
      · have HE := hid (ordE_none (g := cmpT f) (k := k) (show min (nL a) (nL b) = k by omega) HO.out)
        have HE2 := hid (cmpI_gt (show (nL b : Int) < (nL a : Int) by omega))
        have s1 : ba < wr.heap.size := by have := Hb.out.size; omega
        go_wp2_with fail
        go_ret
        exact ⟨ret_int (by rw [HE.out, HE2.out]), Hb.out.trans (((Below.refl _ _).alloc (Nat.le_refl _) _).mono Hb.out.size)⟩
    · have HE := hid (ordE_none (g := cmpT f) (k := k) (show min (nL a) (nL b) = k by omega) HO.out)
      by_cases h3 : nL a < nL b
      · have HE2 := hid (cmpI_lt (show (nL a : Int) < (nL b : Int) by omega))
        go_wp2_with fail
        go_ret
        exact ⟨ret_int (by rw [HE.out, HE2.out]), Hb.out⟩
      · have HE2 := hid (cmpI_eq (show (nL b : Int) ≤ (nL a : Int) by omega) (show (nL a : Int) ≤ (nL b : Int) by omega))
        go_wp2_with fail
        go_ret
        exact ⟨ret_int (by rw [HE.out, HE2.out]), Hb.out⟩

set_option maxHeartbeats 1000000 in
set_option maxRecDepth 100000 in
theorem compareObjects_any (f : Nat) (hc : CmpSaid f) (g : Nat) (va vb : Value) (a b : T) (w : World) (h : At w (f + 1) va a) (h' : At w g vb b) (ka : okK (f + 1) a) (kb : okK (f + 1) b) (k6 : kindOf a = 6) (k6b : kindOf b = 6) :
    Calls Tryd.prog 67 #[va, vb] w fun e w' => e = .returned (.int .i64 (ordE (cmpT f) a b)) ∧ Below w.heap.size w w' := by
  obtain ⟨f1, La, Ka, Lc, Kc, hf1, rfl, hf, hl, hk⟩ := h.open
  obtain rfl : f = f1 := by omega
  obtain ⟨g1, Ma, Na, Mc, Nc, hg1, rfl, hf', hl', hk'⟩ := h'.open
  have hlen := hf.l1
  have hlen' := hf'.l1
  have HKa := hid ka
  have HKb := hid kb
  have K6 := hid k6
  have K6b := hid k6b
  have Hih := hid hc
  clear h h' hf hf' hf1 hg1 ka kb hc k6 k6b
  obtain ⟨M, HM, hMa, hMb, hcase⟩ : ∃ M : Nat, Hid (min (nL a) (nL b) = M) ∧ M ≤ nL a ∧ M ≤ nL b ∧ ((nL a : Int) ≤ (nL b : Int) ∧ Hid (M = nL a) ∨ (nL b : Int) < (nL a : Int) ∧ Hid (M = nL b)) := by
    by_cases hh : nL a ≤ nL b
    · exact ⟨nL a, by show min _ _ = _; omega, by omega, by omega, Or.inl ⟨by omega, rfl⟩⟩
    · exact ⟨nL b, by show min _ _ = _; omega, by omega, by omega, Or.inr ⟨by omega, rfl⟩⟩
  rcases hcase with ⟨hcs, HMM⟩ | ⟨hcs, HMM⟩
  all_goals
    have hmm := HMM.out
    go_enter Tryd.func67, Tryd.ntmps67
    go_wp2_with fail
    go_loopg [15] M (fun g i wr => ∃ k : Nat, g = M - k ∧ k ≤ M ∧ i = .int .i64 k ∧ Hid (ordL (cmpT f) a b k = 0) ∧ Below (w.heap.size + 2) ((w.alloc (.cells #[.int .i64 (kindOf a), .int .i64 (nOf a), .string (sOf a), .slice La (nL a) Lc, .slice Ka (nK a) Kc] 26)).alloc (.cells #[.int .i64 (kindOf b), .int .i64 (nOf b), .string (sOf b), .slice Ma (nL b) Mc, .slice Na (nK b) Nc] 26)) wr)
    case atStart => exact ⟨0, rfl, Nat.zero_le _, rfl, rfl, Below.refl _ _⟩
    case round =>
      obtain ⟨k, rfl, hkm, rfl, HO, hb⟩ := hrel
      obtain ⟨⟨q0, q1, q2, q3, q4⟩, ⟨r0, r1, r2, r3, r4⟩, hz, hbw⟩ := box2_facts hb
      have Hb := hid hb
      clear hb
      have hz0 : w.heap.size < wr.heap.size := by omega
      by_cases hlt : k < M
      · have hlta : k < nL a := by omega
        have hltb : k < nL b := by omega
        obtain ⟨ba, oa, c0, c1, c2, c3, c4, rfl, hba, p0, p1, p2, p3, p4, Ha⟩ := hl.out.keep hbw k hlta
        obtain ⟨bb, ob, d0, d1, d2, d3, d4, rfl, hbb, t0, t1, t2, t3, t4, Hc⟩ := hl'.out.keep hbw k hltb
        have x1 : (k : Int) < (nL a : Int) := by omega
        have x2 : (k : Int) < (nL b : Int) := by omega
        clear hmm
        have HS := hid (ordL_step (g := cmpT f) (b := b) HO.out)
        have na : k < nK a := by rw [HKa.out.1 K6.out]; exact hlta
        have nb : k < nK b := by rw [HKb.out.1 K6b.out]; exact hltb
        obtain ⟨ea, fa, rfl, hea, hsa, n0⟩ := hk.out.keep hbw k na
        obtain ⟨eb, fb, rfl, heb, hsb, m0⟩ := hk'.out.keep hbw k nb
        have x3 : (k : Int) < (nK a : Int) := by omega
        have x4 : (k : Int) < (nK b : Int) := by omega
        have bc := cmpS_bd (nam a k) (nam b k)
        go_wp2_with fail
        go_quiet ((go_at_call 65; exact Calls.quiet_of_same (cmpString_any _ _ _)))
        generalize hcc : cmpS (nam a k) (nam b k) = c at bc ⊢
        have HCC := hid hcc
        clear hcc
        have Hbq : Hid (Below wr.heap.size wr (wr.drewN nq)) := below_drewN (Below.refl _ _) nq
        generalize wr.drewN nq = wq at Hbq ⊢
        have hzq := Hbq.out.size
        have y0 := (Hbq.out.cell (p := ⟨w.heap.size, 3, none⟩) hz0).trans q3
        have y1 := (Hbq.out.cell (p := ⟨w.heap.size + 1, 3, none⟩) hz).trans r3
        have u0 := (Hbq.out.cell (p := ⟨ba, oa + k * 5, none⟩) hba).trans p0
        have u1 := (Hbq.out.cell (p := ⟨ba, oa + k * 5 + 1, none⟩) hba).trans p1
        have u2 := (Hbq.out.cell (p := ⟨ba, oa + k * 5 + 2, none⟩) hba).trans p2
        have u3 := (Hbq.out.cell (p := ⟨ba, oa + k * 5 + 3, none⟩) hba).trans p3
        have u4 := (Hbq.out.cell (p := ⟨ba, oa + k * 5 + 4, none⟩) hba).trans p4
        have v0 := (Hbq.out.cell (p := ⟨bb, ob + k * 5, none⟩) hbb).trans t0
        have v1 := (Hbq.out.cell (p := ⟨bb, ob + k * 5 + 1, none⟩) hbb).trans t1
        have v2 := (Hbq.out.cell (p := ⟨bb, ob + k * 5 + 2, none⟩) hbb).trans t2
        have v3 := (Hbq.out.cell (p := ⟨bb, ob + k * 5 + 3, none⟩) hbb).trans t3
        have v4 := (Hbq.out.cell (p := ⟨bb, ob + k * 5 + 4, none⟩) hbb).trans t4
        have Hbq2 := hid (Hb.out.trans (Hbq.out.mono (by omega)))
        have hz0' : w.heap.size < wq.heap.size := Nat.lt_of_lt_of_le hz0 hzq
        have hz1' : w.heap.size + 1 < wq.heap.size := Nat.lt_of_lt_of_le hz hzq
        have hba' : ba < wq.heap.size := Nat.lt_of_lt_of_le hba hzq
        have hbb' : bb < wq.heap.size := Nat.lt_of_lt_of_le hbb hzq
        clear q0 q1 q2 q3 q4 r0 r1 r2 r3 r4 p0 p1 p2 p3 p4 t0 t1 t2 t3 t4 n0 m0
        by_cases hc0 : c = 0
        · subst hc0
          have HC0 := HCC
          go_wp2_with fail
          have HA1 := hid (Ha.out.keep ((Hbq.out).trans ((below_drew wq).mono Hbq.out.size)))
          have HC1 := hid (Hc.out.keep ((Hbq.out).trans ((below_drew wq).mono Hbq.out.size)))
          have HOa := hid (HKa.out.2 k hlta)
          have HOb := hid (HKb.out.2 k hltb)
          have bd := cmpT_bd f (elt a k) (elt b k)
          have HSS : Hid (∀ wx : World, Below wq.drew.heap.size wq.drew wx → wx.cell? ⟨w.heap.size, 3, none⟩ = some (.slice (some ⟨ba, oa, none⟩) (nL a) Lc) ∧ wx.cell? ⟨w.heap.size + 1, 3, none⟩ = some (.slice (some ⟨bb, ob, none⟩) (nL b) Mc) ∧ wx.cell? ⟨ba, oa + k * 5, none⟩ = some c0 ∧ wx.cell? ⟨ba, oa + k * 5 + 1, none⟩ = some c1 ∧ wx.cell? ⟨ba, oa + k * 5 + 2, none⟩ = some c2 ∧ wx.cell? ⟨ba, oa + k * 5 + 3, none⟩ = some c3 ∧ wx.cell? ⟨ba, oa + k * 5 + 4, none⟩ = some c4 ∧ wx.cell? ⟨bb, ob + k * 5, none⟩ = some d0 ∧ wx.cell? ⟨bb, ob + k * 5 + 1, none⟩ = some d1 ∧ wx.cell? ⟨bb, ob + k * 5 + 2, none⟩ = some d2 ∧ wx.cell? ⟨bb, ob + k * 5 + 3, none⟩ = some d3 ∧ wx.cell? ⟨bb, ob + k * 5 + 4, none⟩ = some d4) := by
            intro wx hx
            have hh := (below_drew wq).trans hx
            refine ⟨?_, ?_, ?_, ?_, ?_, ?_, ?_, ?_, ?_, ?_, ?_, ?_⟩
            all_goals (rw [hh.cell (p := ⟨_, _, none⟩) (by first | assumption | omega)]; assumption)
          go_region_held (fun wx => wx.cell? ⟨w.heap.size, 3, none⟩ = some (.slice (some ⟨ba, oa, none⟩) (nL a) Lc) ∧ wx.cell? ⟨w.heap.size + 1, 3, none⟩ = some (.slice (some ⟨bb, ob, none⟩) (nL b) Mc) ∧ wx.cell? ⟨ba, oa + k * 5, none⟩ = some c0 ∧ wx.cell? ⟨ba, oa + k * 5 + 1, none⟩ = some c1 ∧ wx.cell? ⟨ba, oa + k * 5 + 2, none⟩ = some c2 ∧ wx.cell? ⟨ba, oa + k * 5 + 3, none⟩ = some c3 ∧ wx.cell? ⟨ba, oa + k * 5 + 4, none⟩ = some c4 ∧ wx.cell? ⟨bb, ob + k * 5, none⟩ = some d0 ∧ wx.cell? ⟨bb, ob + k * 5 + 1, none⟩ = some d1 ∧ wx.cell? ⟨bb, ob + k * 5 + 2, none⟩ = some d2 ∧ wx.cell? ⟨bb, ob + k * 5 + 3, none⟩ = some d3 ∧ wx.cell? ⟨bb, ob + k * 5 + 4, none⟩ = some d4) (go_keep) ((go_at_call 36; refine (Hih.out _ _ _ _ _ _ HA1.out HC1.out HOa.out HOb.out).mono ?_; rintro e w2 ⟨rfl, hb2⟩; have hc2 := HSS.out _ hb2))
          have HB2 := hid (Hbq2.out.trans (((below_drew wq).trans hb2).mono (by omega)))
          clear hb2 hc2 HA1 HC1
          generalize hx : cmpT f (elt a k) (elt b k) = x at bd ⊢
          have HS2 : Hid (ordL (cmpT f) a b (k + 1) = x) := by show _ = _; rw [HS.out, if_neg (fun h => h.2 HC0.out), hx]
          clear hx
          by_cases hx0 : x = 0
          · subst hx0
            go_wp2_with fail
            go_roundg (M - (k + 1))
            case rel => exact ⟨k + 1, rfl, by omega, by go_num, HS2, HB2.out⟩
            case measure => omega
          · have ex : (x != 0) = true := by simpa using hx0
            have HX := hid hx0
            clear hx0
            go_wp2_with fail
            go_ret
            refine ⟨ret_int ?_, (((Below.refl _ _).alloc (Nat.le_refl _) _).alloc (by simp) _).trans (HB2.out.mono (by omega))⟩
            exact (ordE_some hlta hltb HS2.out HX.out).symm
        · have ex : (c != 0) = true := by simpa using hc0
          have HX := hid hc0
          clear hc0
          have HS2 : Hid (ordL (cmpT f) a b (k + 1) = c) := by show _ = _; rw [HS.out, HCC.out, if_pos ⟨K6.out, HX.out⟩]
          go_wp2_with fail
          go_ret
          refine ⟨ret_int ?_, (((Below.refl _ _).alloc (Nat.le_refl _) _).alloc (by simp) _).trans (Hbq2.out.mono (by omega))⟩
          exact (ordE_some hlta hltb HS2.out HX.out).symm
      · have HE := hid (ordE_none (g := cmpT f) (k := k) (by rw [HM.out]; omega) HO.out)
        go_wp2_with fail
        refine (cmpInt_any _ _ _).mono ?_
        rintro e w2 ⟨rfl, rfl⟩
        go_wp2_with fail
        go_ret
        exact ⟨ret_int (by rw [HE.out]), hbw⟩
end Go.Proofs.YtknakfpciccoaaaDoor
