import Derived.Test.YtknakfpciccoaaaDoorZO6
import Derived.Test.YtknakfpciccoaaaDoorZO1
import Derived.BigQuiet
import Derived.Deep.QuietTactic
import Derived.Deep.RegionHeld
import Derived.Test.YtknakfpciccoaaaDoorZO19
import Derived.Test.YtknakfpciccoaaaDoorZO7
import Derived.Test.YtknakfpciccoaaaDoorZO21
import Derived.Test.YtknakfpciccoaaaDoorZO30
import Derived.Test.YtknakfpciccoaaaDoorZO2
import Derived.Test.YtknakfpciccoaaaDoorZO23
/- The walks of slices.CompareFunc and compareObjects, over one another's contract. -/
namespace Go.Proofs.YtknakfpciccoaaaDoor
open Go.RowKit

def CmpSaid (f : Nat) : Prop := ∀ (g : Nat) (va vb : Value) (a b : T) (w : World), At w f va a → At w g vb b → okK f a → okK f b →
    Calls Tryd.prog 36 #[va, vb] w fun e w' => e = .returned (.int .i64 (cmpT f a b)) ∧ Below w.heap.size w w'

theorem ordE_none {g : T → T → Int} {a b : T} {k : Nat} (h : min (nL a) (nL b) = k) (h0 : ordL g a b k = 0) : ordE g a b = cmpI (nL a) (nL b) := by
  rw [ordE, h, h0]; rfl
theorem ordE_some {g : T → T → Int} {a b : T} {k : Nat} {x : Int} (ha : k < nL a) (hb : k < nL b) (h : ordL g a b (k + 1) = x) (h0 : x ≠ 0) : ordE g a b = x := by
  rw [ordE, ordL_stop (j := k + 1) (by omega) (by rw [h]; exact h0), h, if_pos h0]

set_option maxHeartbeats 1000000 in
set_option maxRecDepth 100000 in
theorem CompareFunc_any (f : Nat) (hc : CmpSaid f) (g : Nat) (La Ma : Option Addr) (Lc Mc : Nat) (a b : T) (w : World) (hl : ElemsAt w f La a) (hl' : ElemsAt w g Ma b) (hlen : nL a ≤ 1759218604442) (_hlen' : nL b ≤ 1759218604442)
    (k5 : kindOf a ≠ 6) (oka : ∀ i, i < nL a → okK f (elt a i)) (okb : ∀ i, i < nL b → okK f (elt b i)) :
    Calls Tryd.prog 66 #[.slice La (nL a) Lc, .slice Ma (nL b) Mc, .func (Fn.func 36) #[] #[]] w fun e w' => e = .returned (.int .i64 (ordE (cmpT f) a b)) ∧ Below w.heap.size w w' := by
  have Hc := hid hc
  have Hl := hid hl
  have Hl' := hid hl'
  have K5 := hid k5
  have Hoa := hid oka
  have Hob := hid okb
  clear hc hl hl' k5 oka okb
  go_enter Tryd.func66, Tryd.ntmps66
  go_wp2_with fail
  go_loopg [13] (nL a) (fun g i wr => ∃ k : Nat, g = nL a - k ∧ k ≤ nL a ∧ k ≤ nL b ∧ i = .int .i64 k ∧ Hid (ordL (cmpT f) a b k = 0) ∧ Hid (Below w.heap.size w wr))
  case atStart => exact ⟨0, rfl, Nat.zero_le _, Nat.zero_le _, rfl, rfl, Below.refl _ _⟩
  case round =>
    obtain ⟨k, rfl, hka, hkb, rfl, HO, Hb⟩ := hrel
    by_cases hlt : k < nL a
    · obtain ⟨ba, oa, A, B, C, D, rfl, hba, p0, p1, p2, p3, p4, Ha⟩ := Hl.out.shape Hb.out k hlt
      by_cases hlt' : k < nL b
      · obtain ⟨bb, ob, P, Q, R, S, rfl, hbb, t0, t1, t2, t3, t4, Hd⟩ := Hl'.out.shape Hb.out k hlt'
        have x1 : (k : Int) < (nL a : Int) := by omega
        have x2 : (k : Int) < (nL b : Int) := by omega
        have hsz := Hb.out.size
        have s1 : ba < wr.heap.size := by omega
        have s2 : bb < wr.heap.size := by omega
        have HB1 : Hid (Below wr.heap.size wr ((wr.alloc (.cells #[.int .i64 (kindOf (elt a k)), .int .i64 (nOf (elt a k)), .string (sOf (elt a k)), .slice A (nL (elt a k)) B, .slice C (nK (elt a k)) D] 26)).alloc (.cells #[.int .i64 (kindOf (elt b k)), .int .i64 (nOf (elt b k)), .string (sOf (elt b k)), .slice P (nL (elt b k)) Q, .slice R (nK (elt b k)) S] 26))) := ((Below.refl _ _).alloc (Nat.le_refl _) _).alloc (by simp) _
        have bd := cmpT_bd f (elt a k) (elt b k)
        go_wp2_with fail
        refine (Hc.out _ _ _ _ _ _ (Ha.out.keep (Hb.out.trans (HB1.out.mono hsz))) (Hd.out.keep (Hb.out.trans (HB1.out.mono hsz))) (Hoa.out k hlt) (Hob.out k hlt')).mono ?_
        rintro e w2 ⟨rfl, hb2⟩
        have HB2 := hid (Hb.out.trans ((HB1.out.trans (hb2.mono HB1.out.size)).mono hsz))
        clear hb2
        have HS := hid (ordL_step (g := cmpT f) (b := b) HO.out)
        generalize hx : cmpT f (elt a k) (elt b k) = x at bd ⊢
        have HS2 : Hid (ordL (cmpT f) a b (k + 1) = x) := by show _ = _; rw [HS.out, if_neg (fun h => K5.out h.1), hx]
        clear hx
        by_cases hx0 : x = 0
        · subst hx0
          go_wp2_with fail
          go_roundg (nL a - (k + 1))
          case rel => exact ⟨k + 1, rfl, by omega, by omega, by go_num, HS2, HB2⟩
          case measure => omega
        · have ex : (x != 0) = true := by simpa using hx0
          have HX := hid hx0
          clear hx0
          go_wp2_with fail
          go_ret
          exact ⟨ret_int (ordE_some hlt hlt' HS2.out HX.out).symm, HB2.out⟩
      · have HE := hid (ordE_none (g := cmpT f) (k := k) (show min (nL a) (nL b) = k by omega) HO.out)
        have HE2 := hid (cmpI_gt (show (nL b : Int) < (nL a : Int) by omega))
        have s1 : ba < wr.heap.size := by have := Hb.out.size; omega
        go_wp2_with fail
        go_ret
        exact ⟨ret_int (by rw [HE.out, HE2.out]), Hb.out.trans (((Below.refl _ _).alloc (Nat.le_refl _) _).mono Hb.out.size)⟩
    · have HE := hid (ordE_none (g := cmpT f) (k := k) (show min (nL a) (nL b) = k by omega) HO.out)
      by_cases h3 : nL a < nL b
      · have HE2 := hid (cmpI_lt (show (nL a : Int) < (nL b : Int) by omega))
        go_wp2_with fail
        go_ret
        exact ⟨ret_int (by rw [HE.out, HE2.out]), Hb.out⟩
      · have HE2 := hid (cmpI_eq (show (nL b : Int) ≤ (nL a : Int) by omega) (show (nL a : Int) ≤ (nL b : Int) by omega))
        go_wp2_with fail
        go_ret
        exact ⟨ret_int (by rw [HE.out, HE2.out]), Hb.out⟩

set_option maxHeartbeats 1000000 in
set_option maxRecDepth 100000 in
theorem compareObjects_any (f : Nat) (hc : CmpSaid f) (g : Nat) (va vb : Value) (a b : T) (w : World) (h : At w (f + 1) va a) (h' : At w g vb b) (ka : okK (f + 1) a) (kb : okK (f + 1) b) (k6 : kindOf a = 6) (k6b : kindOf b = 6) :
    Calls Tryd.prog 67 #[va, vb] w fun e w' => e = .returned (.int .i64 (ordE (cmpT f) a b)) ∧ Below w.heap.size w w' := by
  obtain ⟨f1, La, Ka, Lc, Kc, hf1, rfl, hf, hl, hk⟩ := h.open
  obtain rfl : f = f1 := by omega
  obtain ⟨g1, Ma, Na, Mc, Nc, hg1, rfl, hf', hl', hk'⟩ := h'.open
  have hlen := hf.l1
  have hlen' := hf'.l1
  have HKa := hid ka
  have HKb := hid kb
  have K6 := hid k6
  have K6b := hid k6b
  have Hih := hid hc
  clear h h' hf hf' hf1 hg1 ka kb hc k6 k6b
  obtain ⟨M, HM, hMa, hMb, hcase⟩ : ∃ M : Nat, Hid (min (nL a) (nL b) = M) ∧ M ≤ nL a ∧ M ≤ nL b ∧ ((nL a : Int) ≤ (nL b : Int) ∧ Hid (M = nL a) ∨ (nL b : Int) < (nL a : Int) ∧ Hid (M = nL b)) := by
    by_cases hh : nL a ≤ nL b
    · exact ⟨nL a, by show min _ _ = _; omega, by omega, by omega, Or.inl ⟨by omega, rfl⟩⟩
    · exact ⟨nL b, by show min _ _ = _; omega, by omega, by omega, Or.inr ⟨by omega, rfl⟩⟩
  rcases hcase with ⟨hcs, HMM⟩ | ⟨hcs, HMM⟩
  all_goals
    have hmm := HMM.out
    go_enter Tryd.func67, Tryd.ntmps67
    go_wp2_with fail
    go_loopg [15] M (fun g i wr => ∃ k : Nat, g = M - k ∧ k ≤ M ∧ i = .int .i64 k ∧ Hid (ordL (cmpT f) a b k = 0) ∧ Below (w.heap.size + 2) ((w.alloc (.cells #[.int .i64 (kindOf a), .int .i64 (nOf a), .string (sOf a), .slice La (nL a) Lc, .slice Ka (nK a) Kc] 26)).alloc (.cells #[.int .i64 (kindOf b), .int .i64 (nOf b), .string (sOf b), .slice Ma (nL b) Mc, .slice Na (nK b) Nc] 26)) wr)
    case atStart => exact ⟨0, rfl, Nat.zero_le _, rfl, rfl, Below.refl _ _⟩
    case round =>
      obtain ⟨k, rfl, hkm, rfl, HO, hb⟩ := hrel
      obtain ⟨⟨q0, q1, q2, q3, q4⟩, ⟨r0, r1, r2, r3, r4⟩, hz, hbw⟩ := box2_facts hb
      have Hb := hid hb
      clear hb
      have hz0 : w.heap.size < wr.heap.size := by omega
      by_cases hlt : k < M
      · have hlta : k < nL a := by omega
        have hltb : k < nL b := by omega
        obtain ⟨ba, oa, c0, c1, c2, c3, c4, rfl, hba, p0, p1, p2, p3, p4, Ha⟩ := hl.out.keep hbw k hlta
        obtain ⟨bb, ob, d0, d1, d2, d3, d4, rfl, hbb, t0, t1, t2, t3, t4, Hc⟩ := hl'.out.keep hbw k hltb
        have x1 : (k : Int) < (nL a : Int) := by omega
        have x2 : (k : Int) < (nL b : Int) := by omega
        clear hmm
        have HS := hid (ordL_step (g := cmpT f) (b := b) HO.out)
        have na : k < nK a := by rw [HKa.out.1 K6.out]; exact hlta
        have nb : k < nK b := by rw [HKb.out.1 K6b.out]; exact hltb
        obtain ⟨ea, fa, rfl, hea, hsa, n0⟩ := hk.out.keep hbw k na
        obtain ⟨eb, fb, rfl, heb, hsb, m0⟩ := hk'.out.keep hbw k nb
        have x3 : (k : Int) < (nK a : Int) := by omega
        have x4 : (k : Int) < (nK b : Int) := by omega
        have bc := cmpS_bd (nam a k) (nam b k)
        go_wp2_with fail
        go_quiet ((go_at_call 65; exact Calls.quiet_of_same (cmpString_any _ _ _)))
        generalize hcc : cmpS (nam a k) (nam b k) = c at bc ⊢
        have HCC := hid hcc
        clear hcc
        have Hbq : Hid (Below wr.heap.size wr (wr.drewN nq)) := below_drewN (Below.refl _ _) nq
        generalize wr.drewN nq = wq at Hbq ⊢
        have hzq := Hbq.out.size
        have y0 := (Hbq.out.cell (p := ⟨w.heap.size, 3, none⟩) hz0).trans q3
        have y1 := (Hbq.out.cell (p := ⟨w.heap.size + 1, 3, none⟩) hz).trans r3
        have u0 := (Hbq.out.cell (p := ⟨ba, oa + k * 5, none⟩) hba).trans p0
        have u1 := (Hbq.out.cell (p := ⟨ba, oa + k * 5 + 1, none⟩) hba).trans p1
        have u2 := (Hbq.out.cell (p := ⟨ba, oa + k * 5 + 2, none⟩) hba).trans p2
        have u3 := (Hbq.out.cell (p := ⟨ba, oa + k * 5 + 3, none⟩) hba).trans p3
        have u4 := (Hbq.out.cell (p := ⟨ba, oa + k * 5 + 4, none⟩) hba).trans p4
        have v0 := (Hbq.out.cell (p := ⟨bb, ob + k * 5, none⟩) hbb).trans t0
        have v1 := (Hbq.out.cell (p := ⟨bb, ob + k * 5 + 1, none⟩) hbb).trans t1
        have v2 := (Hbq.out.cell (p := ⟨bb, ob + k * 5 + 2, none⟩) hbb).trans t2
        have v3 := (Hbq.out.cell (p := ⟨bb, ob + k * 5 + 3, none⟩) hbb).trans t3
        have v4 := (Hbq.out.cell (p := ⟨bb, ob + k * 5 + 4, none⟩) hbb).trans t4
        have Hbq2 := hid (Hb.out.trans (Hbq.out.mono (by omega)))
        have hz0' : w.heap.size < wq.heap.size := Nat.lt_of_lt_of_le hz0 hzq
        have hz1' : w.heap.size + 1 < wq.heap.size := Nat.lt_of_lt_of_le hz hzq
        have hba' : ba < wq.heap.size := Nat.lt_of_lt_of_le hba hzq
        have hbb' : bb < wq.heap.size := Nat.lt_of_lt_of_le hbb hzq
        clear q0 q1 q2 q3 q4 r0 r1 r2 r3 r4 p0 p1 p2 p3 p4 t0 t1 t2 t3 t4 n0 m0
        by_cases hc0 : c = 0
        · subst hc0
          have HC0 := HCC
          go_wp2_with fail
          have HA1 := hid (Ha.out.keep ((Hbq.out).trans ((below_drew wq).mono Hbq.out.size)))
          have HC1 := hid (Hc.out.keep ((Hbq.out).trans ((below_drew wq).mono Hbq.out.size)))
          have HOa := hid (HKa.out.2 k hlta)
          have HOb := hid (HKb.out.2 k hltb)
          have bd := cmpT_bd f (elt a k) (elt b k)
          have HSS : Hid (∀ wx : World, Below wq.drew.heap.size wq.drew wx → wx.cell? ⟨w.heap.size, 3, none⟩ = some (.slice (some ⟨ba, oa, none⟩) (nL a) Lc) ∧ wx.cell? ⟨w.heap.size + 1, 3, none⟩ = some (.slice (some ⟨bb, ob, none⟩) (nL b) Mc) ∧ wx.cell? ⟨ba, oa + k * 5, none⟩ = some c0 ∧ wx.cell? ⟨ba, oa + k * 5 + 1, none⟩ = some c1 ∧ wx.cell? ⟨ba, oa + k * 5 + 2, none⟩ = some c2 ∧ wx.cell? ⟨ba, oa + k * 5 + 3, none⟩ = some c3 ∧ wx.cell? ⟨ba, oa + k * 5 + 4, none⟩ = some c4 ∧ wx.cell? ⟨bb, ob + k * 5, none⟩ = some d0 ∧ wx.cell? ⟨bb, ob + k * 5 + 1, none⟩ = some d1 ∧ wx.cell? ⟨bb, ob + k * 5 + 2, none⟩ = some d2 ∧ wx.cell? ⟨bb, ob + k * 5 + 3, none⟩ = some d3 ∧ wx.cell? ⟨bb, ob + k * 5 + 4, none⟩ = some d4) := by
            intro wx hx
            have hh := (below_drew wq).trans hx
            refine ⟨?_, ?_, ?_, ?_, ?_, ?_, ?_, ?_, ?_, ?_, ?_, ?_⟩
            all_goals (rw [hh.cell (p := ⟨_, _, none⟩) (by first | assumption | omega)]; assumption)
          go_region_held (fun wx => wx.cell? ⟨w.heap.size, 3, none⟩ = some (.slice (some ⟨ba, oa, none⟩) (nL a) Lc) ∧ wx.cell? ⟨w.heap.size + 1, 3, none⟩ = some (.slice (some ⟨bb, ob, none⟩) (nL b) Mc) ∧ wx.cell? ⟨ba, oa + k * 5, none⟩ = some c0 ∧ wx.cell? ⟨ba, oa + k * 5 + 1, none⟩ = some c1 ∧ wx.cell? ⟨ba, oa + k * 5 + 2, none⟩ = some c2 ∧ wx.cell? ⟨ba, oa + k * 5 + 3, none⟩ = some c3 ∧ wx.cell? ⟨ba, oa + k * 5 + 4, none⟩ = some c4 ∧ wx.cell? ⟨bb, ob + k * 5, none⟩ = some d0 ∧ wx.cell? ⟨bb, ob + k * 5 + 1, none⟩ = some d1 ∧ wx.cell? ⟨bb, ob + k * 5 + 2, none⟩ = some d2 ∧ wx.cell? ⟨bb, ob + k * 5 + 3, none⟩ = some d3 ∧ wx.cell? ⟨bb, ob + k * 5 + 4, none⟩ = some d4) (go_keep) ((go_at_call 36; refine (Hih.out _ _ _ _ _ _ HA1.out HC1.out HOa.out HOb.out).mono ?_; rintro e w2 ⟨rfl, hb2⟩; have hc2 := HSS.out _ hb2))
          have HB2 := hid (Hbq2.out.trans (((below_drew wq).trans hb2).mono (by omega)))
          clear hb2 hc2 HA1 HC1
          generalize hx : cmpT f (elt a k) (elt b k) = x at bd ⊢
          have HS2 : Hid (ordL (cmpT f) a b (k + 1) = x) := by show _ = _; rw [HS.out, if_neg (fun h => h.2 HC0.out), hx]
          clear hx
          by_cases hx0 : x = 0
          · subst hx0
            go_wp2_with fail
            go_roundg (M - (k + 1))
            case rel => exact ⟨k + 1, rfl, by omega, by go_num, HS2, HB2.out⟩
            case measure => omega
          · have ex : (x != 0) = true := by simpa using hx0
            have HX := hid hx0
            clear hx0
            go_wp2_with fail
            go_ret
            refine ⟨ret_int ?_, (((Below.refl _ _).alloc (Nat.le_refl _) _).alloc (by simp) _).trans (HB2.out.mono (by omega))⟩
            exact (ordE_some hlta hltb HS2.out HX.out).symm
        · have ex : (c != 0) = true := by simpa using hc0
          have HX := hid hc0
          clear hc0
          have HS2 : Hid (ordL (cmpT f) a b (k + 1) = c) := by show _ = _; rw [HS.out, HCC.out, if_pos ⟨K6.out, HX.out⟩]
          go_wp2_with fail
          go_ret
          refine ⟨ret_int ?_, (((Below.refl _ _).alloc (Nat.le_refl _) _).alloc (by simp) _).trans (Hbq2.out.mono (by omega))⟩
          exact (ordE_some hlta hltb HS2.out HX.out).symm
      · have HE := hid (ordE_none (g := cmpT f) (k := k) (by rw [HM.out]; omega) HO.out)
        go_wp2_with fail
        refine (cmpInt_any _ _ _).mono ?_
        rintro e w2 ⟨rfl, rfl⟩
        go_wp2_with fail
        go_ret
        exact ⟨ret_int (by rw [HE.out]), hbw⟩
end Go.Proofs.YtknakfpciccoaaaDoor
/- The walk of compare. -/
namespace Go.Proofs.YtknakfpciccoaaaDoor
open Go.RowKit

set_option maxHeartbeats 2000000 in
set_option maxRecDepth 100000 in
theorem compare_any (f : Nat) : CmpSaid f := by
  induction f with
  | zero => intro g va vb a b w h; exact h.elim
  | succ f ih =>
    intro g va vb a b w h h' ka kb
    have HA := hid h
    have HA' := hid h'
    obtain ⟨f1, La, Ka, Lc, Kc, hf1, rfl, hf, hl, hk⟩ := h.open
    obtain rfl : f = f1 := by omega
    obtain ⟨g1, Ma, Na, Mc, Nc, hg1, rfl, hf', hl', hk'⟩ := h'.open
    have hlen := hf.l1
    have hlen' := hf'.l1
    have HKa := hid ka
    have HKb := hid kb
    have Hih := hid ih
    have HB1 : Hid (Below w.heap.size w ((w.alloc (.cells #[.int .i64 (kindOf a), .int .i64 (nOf a), .string (sOf a), .slice La (nL a) Lc, .slice Ka (nK a) Kc] 26)).alloc (.cells #[.int .i64 (kindOf b), .int .i64 (nOf b), .string (sOf b), .slice Ma (nL b) Mc, .slice Na (nK b) Nc] 26))) := ((Below.refl _ _).alloc (Nat.le_refl _) _).alloc (by simp) _
    clear h h' hf hf' hf1 hg1 ka kb ih hk hk'
    by_cases k1 : kindOf a = kindOf b
    · have e1 : (kindOf a != kindOf b) = false := by simp [k1]
      by_cases k0 : kindOf a = 2
      · have HR : Hid (cmpT (f + 1) a b = cmpI (nOf a) (nOf b)) := by show cmpT (f + 1) a b = _; simp [cmpT, ← k1, k0]
        have g2 : (kindOf a == 2) = true := by rw [k0]; rfl
        have g3 : (kindOf a == 3) = false := by rw [k0]; rfl
        have g4 : (kindOf a == 4) = false := by rw [k0]; rfl
        have g5 : (kindOf a == 5) = false := by rw [k0]; rfl
        have g6 : (kindOf a == 6) = false := by rw [k0]; rfl
        clear k0 k1
        go_enter Tryd.func36, Tryd.ntmps36
        go_wp2_with fail
        refine (cmpInt64_any _ _ _).mono ?_
        rintro e w2 ⟨rfl, rfl⟩
        go_wp2_with fail
        go_ret
        exact ⟨ret_int (by rw [HR.out]), HB1.out⟩
      by_cases k0 : kindOf a = 3
      · have HR : Hid (cmpT (f + 1) a b = cmpI (nOf a) (nOf b)) := by show cmpT (f + 1) a b = _; simp [cmpT, ← k1, k0]
        have g2 : (kindOf a == 2) = false := by rw [k0]; rfl
        have g3 : (kindOf a == 3) = true := by rw [k0]; rfl
        have g4 : (kindOf a == 4) = false := by rw [k0]; rfl
        have g5 : (kindOf a == 5) = false := by rw [k0]; rfl
        have g6 : (kindOf a == 6) = false := by rw [k0]; rfl
        clear k0 k1
        go_enter Tryd.func36, Tryd.ntmps36
        go_wp2_with fail
        refine (cmpInt64_any _ _ _).mono ?_
        rintro e w2 ⟨rfl, rfl⟩
        go_wp2_with fail
        go_ret
        exact ⟨ret_int (by rw [HR.out]), HB1.out⟩
      by_cases k0 : kindOf a = 4
      · have HR : Hid (cmpT (f + 1) a b = cmpS (sOf a) (sOf b)) := by show cmpT (f + 1) a b = _; simp [cmpT, ← k1, k0]
        have g2 : (kindOf a == 2) = false := by rw [k0]; rfl
        have g3 : (kindOf a == 3) = false := by rw [k0]; rfl
        have g4 : (kindOf a == 4) = true := by rw [k0]; rfl
        have g5 : (kindOf a == 5) = false := by rw [k0]; rfl
        have g6 : (kindOf a == 6) = false := by rw [k0]; rfl
        clear k0 k1
        go_enter Tryd.func36, Tryd.ntmps36
        go_wp2_with fail
        refine (cmpString_any _ _ _).mono ?_
        rintro e w2 ⟨rfl, rfl⟩
        go_wp2_with fail
        go_ret
        exact ⟨ret_int (by rw [HR.out]), HB1.out⟩
      by_cases k0 : kindOf a = 5
      · have HR : Hid (cmpT (f + 1) a b = ordE (cmpT f) a b) := by show cmpT (f + 1) a b = _; simp [cmpT, ← k1, k0, isBox]
        have g2 : (kindOf a == 2) = false := by rw [k0]; rfl
        have g3 : (kindOf a == 3) = false := by rw [k0]; rfl
        have g4 : (kindOf a == 4) = false := by rw [k0]; rfl
        have g5 : (kindOf a == 5) = true := by rw [k0]; rfl
        have g6 : (kindOf a == 6) = false := by rw [k0]; rfl
        have K5 : Hid (kindOf a ≠ 6) := by show kindOf a ≠ 6; omega
        clear k0 k1
        go_enter Tryd.func36, Tryd.ntmps36
        go_wp2_with fail
        refine (CompareFunc_any f Hih.out _ La Ma Lc Mc a b _ (hl.out.keep HB1.out) (hl'.out.keep HB1.out) hlen hlen' K5.out HKa.out.2 HKb.out.2).mono ?_
        rintro e w2 ⟨rfl, hb2⟩
        have HB2 := hid (HB1.out.trans (hb2.mono HB1.out.size))
        clear hb2
        go_wp2_with fail
        go_ret
        exact ⟨ret_int (by rw [HR.out]), HB2.out⟩
      by_cases k0 : kindOf a = 6
      · have HR : Hid (cmpT (f + 1) a b = ordE (cmpT f) a b) := by show cmpT (f + 1) a b = _; simp [cmpT, ← k1, k0, isBox]
        have g2 : (kindOf a == 2) = false := by rw [k0]; rfl
        have g3 : (kindOf a == 3) = false := by rw [k0]; rfl
        have g4 : (kindOf a == 4) = false := by rw [k0]; rfl
        have g5 : (kindOf a == 5) = false := by rw [k0]; rfl
        have g6 : (kindOf a == 6) = true := by rw [k0]; rfl
        have K6 := hid k0
        have K6b : Hid (kindOf b = 6) := by show kindOf b = 6; omega
        clear k0 k1
        go_enter Tryd.func36, Tryd.ntmps36
        go_wp2_with fail
        refine (compareObjects_any f Hih.out _ _ _ a b _ (HA.out.keep HB1.out) (HA'.out.keep HB1.out) HKa.out HKb.out K6.out K6b.out).mono ?_
        rintro e w2 ⟨rfl, hb2⟩
        have HB2 := hid (HB1.out.trans (hb2.mono HB1.out.size))
        clear hb2
        go_wp2_with fail
        go_ret
        exact ⟨ret_int (by rw [HR.out]), HB2.out⟩
      have HR : Hid (cmpT (f + 1) a b = 0) := by
        show cmpT (f + 1) a b = _
        simp only [cmpT, isBox]
        rw [if_neg (by omega), if_neg (by omega), if_neg (by omega)]
        exact if_neg (by simp; omega)
      have g2 : (kindOf a == 2) = false := by simp; omega
      have g3 : (kindOf a == 3) = false := by simp; omega
      have g4 : (kindOf a == 4) = false := by simp; omega
      have g5 : (kindOf a == 5) = false := by simp; omega
      have g6 : (kindOf a == 6) = false := by simp; omega
      clear k1
      go_enter Tryd.func36, Tryd.ntmps36
      go_wp2_with fail
      go_ret
      exact ⟨ret_int (by rw [HR.out]), HB1.out⟩
    · have e1 : (kindOf a != kindOf b) = true := by simpa using k1
      have HR : Hid (cmpT (f + 1) a b = cmpI (kindOf a) (kindOf b)) := by show cmpT (f + 1) a b = _; simp only [cmpT]; rw [if_pos k1]
      clear k1
      go_enter Tryd.func36, Tryd.ntmps36
      go_wp2_with fail
      refine (cmpInt_any _ _ _).mono ?_
      rintro e w2 ⟨rfl, rfl⟩
      go_wp2_with fail
      go_ret
      exact ⟨ret_int (by rw [HR.out]), HB1.out⟩
end Go.Proofs.YtknakfpciccoaaaDoor
/- The walks of Is, of the reference's Compare and of the program's. -/
namespace Go.Proofs.YtknakfpciccoaaaDoor
open Go.RowKit

/-- What is answered: the order of two values, or the error. -/
def ansN (ok : Bool) (n : Int) : Int := if ok then n else 0
def ansE (ok : Bool) : Int := if ok then 0 else 5

set_option maxHeartbeats 1000000 in
set_option maxRecDepth 100000 in
theorem refCompare_any (f g : Nat) (va vb : Value) (a b : T) (w : World) (h : At w f va a) (h' : At w g vb b) :
    Calls Tryd.prog 18 #[va, vb] w fun e w' => e = .returned (.tuple #[.int .i64 (ansN (isR f a && isR g b) (ordT f a b)), .int .i64 (ansE (isR f a && isR g b))]) ∧ Below w.heap.size w w' := by
  have HA := hid h
  have HA' := hid h'
  have HS := hid h.shal
  have HS' := hid h'.shal
  obtain ⟨f1, La, Ka, Lc, Kc, hf1, rfl, hf, hl, hk⟩ := h.open
  obtain ⟨g1, Ma, Na, Mc, Nc, hg1, rfl, hf', hl', hk'⟩ := h'.open
  clear h h' hf hf' hf1 hg1 hl hk hl' hk'
  have HB1 : Hid (Below w.heap.size w ((w.alloc (.cells #[.int .i64 (kindOf a), .int .i64 (nOf a), .string (sOf a), .slice La (nL a) Lc, .slice Ka (nK a) Kc] 26)).alloc (.cells #[.int .i64 (kindOf b), .int .i64 (nOf b), .string (sOf b), .slice Ma (nL b) Mc, .slice Na (nK b) Nc] 26))) := ((Below.refl _ _).alloc (Nat.le_refl _) _).alloc (by simp) _
  go_enter Tryd.func18, Tryd.ntmps18
  go_wp2_with fail
  refine (Is_any f _ a _ (HA.out.keep HB1.out)).mono ?_
  rintro e w2 ⟨rfl, b2⟩
  have HB2 : Hid (Below (w.heap.size + 2) ((w.alloc (.cells #[.int .i64 (kindOf a), .int .i64 (nOf a), .string (sOf a), .slice La (nL a) Lc, .slice Ka (nK a) Kc] 26)).alloc (.cells #[.int .i64 (kindOf b), .int .i64 (nOf b), .string (sOf b), .slice Ma (nL b) Mc, .slice Na (nK b) Nc] 26)) w2) := b2.mono (by simp)
  obtain ⟨⟨q0, q1, q2, q3, q4⟩, ⟨r0, r1, r2, r3, r4⟩, hz, hbw⟩ := box2_facts HB2.out
  have Hbw := hid hbw
  clear b2 hbw
  go_wp2_with fail
  refine (Is_any g _ b _ (HA'.out.keep Hbw.out)).mono ?_
  rintro e w3 ⟨rfl, b3⟩
  have HB3 : Hid (Below (w.heap.size + 2) ((w.alloc (.cells #[.int .i64 (kindOf a), .int .i64 (nOf a), .string (sOf a), .slice La (nL a) Lc, .slice Ka (nK a) Kc] 26)).alloc (.cells #[.int .i64 (kindOf b), .int .i64 (nOf b), .string (sOf b), .slice Ma (nL b) Mc, .slice Na (nK b) Nc] 26)) w3) := HB2.out.trans (b3.mono (by omega))
  clear q0 q1 q2 q3 q4 r0 r1 r2 r3 r4 hz b3 Hbw HB2
  obtain ⟨⟨q0, q1, q2, q3, q4⟩, ⟨r0, r1, r2, r3, r4⟩, hz, hbw⟩ := box2_facts HB3.out
  have Hbw := hid hbw
  clear hbw
  cases hi : isR f a with
  | false =>
    have Hi := hid hi
    clear hi
    go_wp2_with fail
    go_ret2
    exact ⟨by rw [Hi.out]; rfl, Hbw.out⟩
  | true =>
    have Hi := hid hi
    clear hi
    cases hj : isR g b with
    | false =>
      have Hj := hid hj
      clear hj
      go_wp2_with fail
      go_ret2
      exact ⟨by rw [Hi.out, Hj.out]; rfl, Hbw.out⟩
    | true =>
      have Hj := hid hj
      clear hj
      go_wp2_with fail
      refine (Order_any f g _ _ a b _ (HA.out.keep Hbw.out) (HA'.out.keep Hbw.out) (good_okK f 12 a ((isR_iff f a HS.out).1 Hi.out).1) (good_okK f 12 b ((isR_iff g b HS'.out).1 Hj.out).1)).mono ?_
      rintro e w4 ⟨rfl, b4⟩
      have HB4 : Hid (Below w.heap.size w w4) := Hbw.out.trans (b4.mono (by omega))
      clear b4
      go_wp2_with fail
      go_ret2
      exact ⟨by rw [Hi.out, Hj.out]; rfl, HB4.out⟩

set_option maxHeartbeats 1000000 in
set_option maxRecDepth 100000 in
theorem tCompare_any {Tb : World → Prop} (hV : ValidSaid Tb) (hL : Lies Tb) (f g : Nat) (va vb : Value) (a b : T) (w : World) (h : At w f va a) (h' : At w g vb b) (hT : Tb w) :
    Calls Tryd.prog 15 #[va, vb] w fun e w' => e = .returned (.tuple #[.int .i64 (ansN (isV a && isV b) (cmpT f a b)), .int .i64 (ansE (isV a && isV b))]) ∧ Below w.heap.size w w' := by
  have HA := hid h
  have HA' := hid h'
  have HT := hid hT
  obtain ⟨f1, La, Ka, Lc, Kc, hf1, rfl, hf, hl, hk⟩ := h.open
  obtain ⟨g1, Ma, Na, Mc, Nc, hg1, rfl, hf', hl', hk'⟩ := h'.open
  clear h h' hf hf' hf1 hg1 hl hk hl' hk' hT
  have HB1 : Hid (Below w.heap.size w ((w.alloc (.cells #[.int .i64 (kindOf a), .int .i64 (nOf a), .string (sOf a), .slice La (nL a) Lc, .slice Ka (nK a) Kc] 26)).alloc (.cells #[.int .i64 (kindOf b), .int .i64 (nOf b), .string (sOf b), .slice Ma (nL b) Mc, .slice Na (nK b) Nc] 26))) := ((Below.refl _ _).alloc (Nat.le_refl _) _).alloc (by simp) _
  go_enter Tryd.func15, Tryd.ntmps15
  go_wp2_with fail
  refine (isValue_any hV hL f _ a _ (HA.out.keep HB1.out) (hL w HT.out _ _ HT.out HB1.out)).mono ?_
  rintro e w2 ⟨rfl, b2⟩
  have HB2 : Hid (Below (w.heap.size + 2) ((w.alloc (.cells #[.int .i64 (kindOf a), .int .i64 (nOf a), .string (sOf a), .slice La (nL a) Lc, .slice Ka (nK a) Kc] 26)).alloc (.cells #[.int .i64 (kindOf b), .int .i64 (nOf b), .string (sOf b), .slice Ma (nL b) Mc, .slice Na (nK b) Nc] 26)) w2) := b2.mono (by simp)
  obtain ⟨⟨q0, q1, q2, q3, q4⟩, ⟨r0, r1, r2, r3, r4⟩, hz, hbw⟩ := box2_facts HB2.out
  have Hbw := hid hbw
  clear b2 hbw
  cases hi : isV a with
  | false =>
    have Hi := hid hi
    clear hi
    go_wp2_with fail
    go_ret2
    exact ⟨by rw [Hi.out]; rfl, Hbw.out⟩
  | true =>
    have Hi := hid hi
    clear hi
    go_wp2_with fail
    refine (isValue_any hV hL g _ b _ (HA'.out.keep Hbw.out) (hL w HT.out _ _ HT.out Hbw.out)).mono ?_
    rintro e w3 ⟨rfl, b3⟩
    have HB3 : Hid (Below (w.heap.size + 2) ((w.alloc (.cells #[.int .i64 (kindOf a), .int .i64 (nOf a), .string (sOf a), .slice La (nL a) Lc, .slice Ka (nK a) Kc] 26)).alloc (.cells #[.int .i64 (kindOf b), .int .i64 (nOf b), .string (sOf b), .slice Ma (nL b) Mc, .slice Na (nK b) Nc] 26)) w3) := HB2.out.trans (b3.mono (by omega))
    clear q0 q1 q2 q3 q4 r0 r1 r2 r3 r4 hz b3 Hbw HB2
    obtain ⟨⟨q0, q1, q2, q3, q4⟩, ⟨r0, r1, r2, r3, r4⟩, hz, hbw⟩ := box2_facts HB3.out
    have Hbw := hid hbw
    clear hbw
    cases hj : isV b with
    | false =>
      have Hj := hid hj
      clear hj
      go_wp2_with fail
      go_ret2
      exact ⟨by rw [Hi.out, Hj.out]; rfl, Hbw.out⟩
    | true =>
      have Hj := hid hj
      clear hj
      go_wp2_with fail
      refine (compare_any f g _ _ a b _ (HA.out.keep Hbw.out) (HA'.out.keep Hbw.out) (good_okK f 12 a ((isV_iff a).1 Hi.out).1) (good_okK f 12 b ((isV_iff b).1 Hj.out).1)).mono ?_
      rintro e w4 ⟨rfl, b4⟩
      have HB4 : Hid (Below w.heap.size w w4) := Hbw.out.trans (b4.mono (by omega))
      clear b4
      go_wp2_with fail
      go_ret2
      exact ⟨by rw [Hi.out, Hj.out]; rfl, HB4.out⟩
end Go.Proofs.YtknakfpciccoaaaDoor
/- The walk of Ordered. -/
namespace Go.Proofs.YtknakfpciccoaaaDoor
open Go.RowKit

theorem parse_v {Tb : World → Prop} (hD : DecSaid Tb) (hN : IntSaid Tb) (hL : Lies Tb) (s : ByteArray) (hs : IsV s) (w : World) (hT : Tb w) : Calls Tryd.prog 9 #[.string s] w fun e w' =>
    ∃ i A B C D, i < 36 ∧ Below w.heap.size w w' ∧ e = .returned (.tuple #[.agg #[.int .i64 (kindOf (tv i)), .int .i64 (nOf (tv i)), .string (sOf (tv i)), .slice A (nL (tv i)) B, .slice C (nK (tv i)) D], .int .i64 0]) ∧
      At w' 13 (.agg #[.int .i64 (kindOf (tv i)), .int .i64 (nOf (tv i)), .string (sOf (tv i)), .slice A (nL (tv i)) B, .slice C (nK (tv i)) D]) (tv i) := by
  obtain ⟨i, hi, rfl⟩ := hs
  have hv := vt_at hi
  have hz := vt_le hi
  refine (parse_u hD hN hL (vt i) w (by omega) hT).mono ?_
  rintro e w' ⟨hb, es, A, B, C, D, rfl, hF, _⟩
  rw [hv.1] at hF
  refine ⟨i, A, B, C, D, hi, hb, ?_, hF.at⟩
  rw [hv.1, hv.2]
theorem cmp_v {Tb : World → Prop} (hV : ValidSaid Tb) (hL : Lies Tb) (i j : Nat) (hi : i < 36) (hj : j < 36) (va vb : Value) (w : World) (h : At w 13 va (tv i)) (h' : At w 13 vb (tv j)) (hT : Tb w) :
    Calls Tryd.prog 15 #[va, vb] w fun e w' => ∃ p, Hid (p = cmpI i j) ∧ e = .returned (.tuple #[.int .i64 p, .int .i64 0]) ∧ Below w.heap.size w w' := by
  refine (tCompare_any hV hL 13 13 va vb (tv i) (tv j) w h h' hT).mono ?_
  rintro e w' ⟨rfl, hb⟩
  refine ⟨_, rfl, ?_, hb⟩
  rw [tv_ok hi, tv_ok hj, tv_ord hi hj]
  rfl
theorem two_isV : (isV (nT 2) && isV (nT 1)) = true := by kernel_rfl
theorem two_ord : cmpT 13 (nT 2) (nT 1) = 1 := by kernel_rfl
theorem cmp_two {Tb : World → Prop} (hV : ValidSaid Tb) (hL : Lies Tb) (w : World) (hT : Tb w) :
    Calls Tryd.prog 15 #[.agg #[.int .i64 3, .int .i64 2, .string ⟨#[]⟩, .slice none 0 0, .slice none 0 0], .agg #[.int .i64 3, .int .i64 1, .string ⟨#[]⟩, .slice none 0 0, .slice none 0 0]] w fun e w' => e = .returned (.tuple #[.int .i64 1, .int .i64 0]) ∧ Below w.heap.size w w' := by
  have h1 := (flat_leaf w 12 3 2 ByteArray.empty (by omega) (by omega) (by omega) (by omega) (by simp)).at
  have h2 := (flat_leaf w 12 3 1 ByteArray.empty (by omega) (by omega) (by omega) (by omega) (by simp)).at
  have := tCompare_any hV hL 13 13 _ _ (nT 2) (nT 1) w h1 h2 hT
  rw [two_isV, two_ord] at this
  exact this
theorem order3 (i j k : Nat) {p q r s : Int} (hp : p = cmpI i j) (hq : q = cmpI j i) (hr : r = cmpI j k) (hs : s = cmpI i k) :
    (p = -1 ∧ q = 1 ∧ ((r = -1 ∧ s = -1) ∨ (r = 0 ∧ s = -1) ∨ (r = 1 ∧ s = -1) ∨ (r = 1 ∧ s = 0) ∨ (r = 1 ∧ s = 1))) ∨ (p = 0 ∧ q = 0 ∧ ((r = -1 ∧ s = -1) ∨ (r = 0 ∧ s = 0) ∨ (r = 1 ∧ s = 1))) ∨ (p = 1 ∧ q = -1 ∧ ((r = -1 ∧ s = -1) ∨ (r = -1 ∧ s = 0) ∨ (r = -1 ∧ s = 1) ∨ (r = 0 ∧ s = 1) ∨ (r = 1 ∧ s = 1))) := by
  unfold cmpI at hp hq hr hs
  split at hp <;> split at hq <;> split at hr <;> split at hs <;> (try split at hp) <;> (try split at hq) <;> (try split at hr) <;> (try split at hs) <;> omega
theorem BoxAt.far {b : Nat} {c0 c1 c2 c3 c4 : Value} {w w' : World} (h : BoxAt b c0 c1 c2 c3 c4 w) (hb : Below w.heap.size w w') : BoxAt b c0 c1 c2 c3 c4 w' := h.move hb.size (hb.block _ h.lt)
set_option maxHeartbeats 8000000 in
set_option maxRecDepth 100000 in
theorem Ordered_any {Tb : World → Prop} (hI : ItoaSaid Tb) (hD : DecSaid Tb) (hN : IntSaid Tb) (hV : ValidSaid Tb) (hL : Lies Tb) (a b c : Int) (w : World) (a0 : -9223372036854775808 ≤ a) (a1 : a ≤ 9223372036854775807) (b0 : -9223372036854775808 ≤ b) (b1 : b ≤ 9223372036854775807) (c0 : -9223372036854775808 ≤ c) (c1 : c ≤ 9223372036854775807) (hT : Tb w) :
    Calls Tryd.prog 6 #[.int .i64 a, .int .i64 b, .int .i64 c] w fun e w' => e = .returned (.bool true) ∧ Below w.heap.size w w' := by
  have HT : Hid (∀ w' : World, Below w.heap.size w w' → Tb w') := fun w' hb => hL w hT w w' hT hb
  have HL := hid hL
  have HI := hid hI
  have HD := hid hD
  have HN := hid hN
  have HVs := hid hV
  have H1 := hid (value_any' hI hL a w a0 a1 hT)
  have Hb := hid (show _ ∧ _ from ⟨b0, b1⟩)
  have Hc := hid (show _ ∧ _ from ⟨c0, c1⟩)
  clear hT hI hD hN hV hL a0 a1 b0 b1 c0 c1
  go_enter Tryd.func6, Tryd.ntmps6
  go_wp2_with fail
  refine H1.out.mono ?_
  rintro e w1 ⟨sx, hsx, rfl, h1⟩
  have HB1 := hid h1
  have H2 := hid (parse_v HD.out HN.out HL.out sx hsx w1 (HT.out w1 h1))
  clear h1 H1 hsx
  go_wp2_with fail
  refine H2.out.mono ?_
  rintro e w2 ⟨i, Ax, Bx, Cx, Dx, hi, h2, rfl, hAx⟩
  have hb2 : Below w2.heap.size w2 (w2.alloc (.cells #[.int .i64 (kindOf (tv i)), .int .i64 (nOf (tv i)), .string (sOf (tv i)), .slice Ax (nL (tv i)) Bx, .slice Cx (nK (tv i)) Dx] 26)) := (Below.refl _ _).alloc (Nat.le_refl _) _
  have HX := hid (box_new w2 (.int .i64 (kindOf (tv i))) (.int .i64 (nOf (tv i))) (.string (sOf (tv i))) (.slice Ax (nL (tv i)) Bx) (.slice Cx (nK (tv i)) Dx))
  have HAx := hid (hAx.keep hb2)
  have HB2 := hid ((HB1.out.trans (h2.mono HB1.out.size)).trans (hb2.mono (Nat.le_trans HB1.out.size h2.size)))
  have H3 := hid (value_any' HI.out HL.out b _ Hb.out.1 Hb.out.2 (HT.out _ HB2.out))
  clear h2 hAx hb2 H2 HB1
  go_wp2_with fail
  refine H3.out.mono ?_
  clear H3
  generalize w2.alloc (.cells #[.int .i64 (kindOf (tv i)), .int .i64 (nOf (tv i)), .string (sOf (tv i)), .slice Ax (nL (tv i)) Bx, .slice Cx (nK (tv i)) Dx] 26) = v2 at HX HAx HB2 ⊢
  generalize w2.heap.size = bx at HX ⊢
  rintro e w3 ⟨sy, hsy, rfl, h3⟩
  have HX3 := hid (HX.out.far h3)
  have HAx3 := hid (HAx.out.keep h3)
  have HB3 := hid (HB2.out.trans (h3.mono HB2.out.size))
  have H4 := hid (parse_v HD.out HN.out HL.out sy hsy w3 (HT.out w3 HB3.out))
  clear h3 hsy HX HAx HB2
  go_wp2_with fail
  refine H4.out.mono ?_
  rintro e w4 ⟨j, Ay, By, Cy, Dy, hj, h4, rfl, hAy⟩
  have hb4 : Below w4.heap.size w4 (w4.alloc (.cells #[.int .i64 (kindOf (tv j)), .int .i64 (nOf (tv j)), .string (sOf (tv j)), .slice Ay (nL (tv j)) By, .slice Cy (nK (tv j)) Dy] 26)) := (Below.refl _ _).alloc (Nat.le_refl _) _
  have HY := hid (box_new w4 (.int .i64 (kindOf (tv j))) (.int .i64 (nOf (tv j))) (.string (sOf (tv j))) (.slice Ay (nL (tv j)) By) (.slice Cy (nK (tv j)) Dy))
  have HAy := hid (hAy.keep hb4)
  have HX4 := hid ((HX3.out.far h4).far hb4)
  have HAx4 := hid ((HAx3.out.keep h4).keep hb4)
  have HB4 := hid ((HB3.out.trans (h4.mono HB3.out.size)).trans (hb4.mono (Nat.le_trans HB3.out.size h4.size)))
  have H5 := hid (value_any' HI.out HL.out c _ Hc.out.1 Hc.out.2 (HT.out _ HB4.out))
  clear h4 hAy hb4 H4 HX3 HAx3 HB3
  go_wp2_with fail
  refine H5.out.mono ?_
  clear H5
  generalize w4.alloc (.cells #[.int .i64 (kindOf (tv j)), .int .i64 (nOf (tv j)), .string (sOf (tv j)), .slice Ay (nL (tv j)) By, .slice Cy (nK (tv j)) Dy] 26) = v4 at HX4 HAx4 HY HAy HB4 ⊢
  generalize w4.heap.size = by' at HY ⊢
  rintro e w5 ⟨sz, hsz, rfl, h5⟩
  have HX5 := hid (HX4.out.far h5)
  have HAx5 := hid (HAx4.out.keep h5)
  have HY5 := hid (HY.out.far h5)
  have HAy5 := hid (HAy.out.keep h5)
  have HB5 := hid (HB4.out.trans (h5.mono HB4.out.size))
  have H6 := hid (parse_v HD.out HN.out HL.out sz hsz w5 (HT.out w5 HB5.out))
  clear h5 hsz HX4 HAx4 HY HAy HB4
  go_wp2_with fail
  refine H6.out.mono ?_
  rintro e w6 ⟨k, Az, Bz, Cz, Dz, hk, h6, rfl, hAz⟩
  have hb6 : Below w6.heap.size w6 (w6.alloc (.cells #[.int .i64 (kindOf (tv k)), .int .i64 (nOf (tv k)), .string (sOf (tv k)), .slice Az (nL (tv k)) Bz, .slice Cz (nK (tv k)) Dz] 26)) := (Below.refl _ _).alloc (Nat.le_refl _) _
  have HZ := hid (box_new w6 (.int .i64 (kindOf (tv k))) (.int .i64 (nOf (tv k))) (.string (sOf (tv k))) (.slice Az (nL (tv k)) Bz) (.slice Cz (nK (tv k)) Dz))
  have HAz := hid (hAz.keep hb6)
  have HX6 := hid ((HX5.out.far h6).far hb6)
  have HAx6 := hid ((HAx5.out.keep h6).keep hb6)
  have HY6 := hid ((HY5.out.far h6).far hb6)
  have HAy6 := hid ((HAy5.out.keep h6).keep hb6)
  have HB6 := hid ((HB5.out.trans (h6.mono HB5.out.size)).trans (hb6.mono (Nat.le_trans HB5.out.size h6.size)))
  have H7 := hid (cmp_v HVs.out HL.out i j hi hj _ _ _ HAx6.out HAy6.out (HT.out _ HB6.out))
  clear h6 hAz hb6 H6 HX5 HAx5 HY5 HAy5 HB5
  have r0 := HX6.out.q0
  have r1 := HX6.out.q1
  have r2 := HX6.out.q2
  have r3 := HX6.out.q3
  have r4 := HX6.out.q4
  have t0 := HY6.out.q0
  have t1 := HY6.out.q1
  have t2 := HY6.out.q2
  have t3 := HY6.out.q3
  have t4 := HY6.out.q4
  go_wp2_with fail
  refine H7.out.mono ?_
  clear H7 r0 r1 r2 r3 r4 t0 t1 t2 t3 t4
  generalize w6.alloc (.cells #[.int .i64 (kindOf (tv k)), .int .i64 (nOf (tv k)), .string (sOf (tv k)), .slice Az (nL (tv k)) Bz, .slice Cz (nK (tv k)) Dz] 26) = v6 at HX6 HAx6 HY6 HAy6 HZ HAz HB6 ⊢
  generalize w6.heap.size = bz at HZ ⊢
  rintro e w7 ⟨p, Hp, rfl, h7⟩
  have HX7 := hid (HX6.out.far h7)
  have HAx7 := hid (HAx6.out.keep h7)
  have HY7 := hid (HY6.out.far h7)
  have HAy7 := hid (HAy6.out.keep h7)
  have HZ7 := hid (HZ.out.far h7)
  have HAz7 := hid (HAz.out.keep h7)
  have HB7 := hid (HB6.out.trans (h7.mono HB6.out.size))
  have H8 := hid (cmp_v HVs.out HL.out j i hj hi _ _ _ HAy7.out HAx7.out (HT.out _ HB7.out))
  clear h7 HX6 HAx6 HY6 HAy6 HZ HAz HB6
  have r0 := HX7.out.q0
  have r1 := HX7.out.q1
  have r2 := HX7.out.q2
  have r3 := HX7.out.q3
  have r4 := HX7.out.q4
  have t0 := HY7.out.q0
  have t1 := HY7.out.q1
  have t2 := HY7.out.q2
  have t3 := HY7.out.q3
  have t4 := HY7.out.q4
  go_wp2_with fail
  refine H8.out.mono ?_
  clear H8 r0 r1 r2 r3 r4 t0 t1 t2 t3 t4
  rintro e w8 ⟨q, Hq, rfl, h8⟩
  have HX8 := hid (HX7.out.far h8)
  have HAx8 := hid (HAx7.out.keep h8)
  have HY8 := hid (HY7.out.far h8)
  have HAy8 := hid (HAy7.out.keep h8)
  have HZ8 := hid (HZ7.out.far h8)
  have HAz8 := hid (HAz7.out.keep h8)
  have HB8 := hid (HB7.out.trans (h8.mono HB7.out.size))
  have H9 := hid (cmp_v HVs.out HL.out j k hj hk _ _ _ HAy8.out HAz8.out (HT.out _ HB8.out))
  clear h8 HX7 HAx7 HY7 HAy7 HZ7 HAz7 HB7
  have r0 := HY8.out.q0
  have r1 := HY8.out.q1
  have r2 := HY8.out.q2
  have r3 := HY8.out.q3
  have r4 := HY8.out.q4
  have t0 := HZ8.out.q0
  have t1 := HZ8.out.q1
  have t2 := HZ8.out.q2
  have t3 := HZ8.out.q3
  have t4 := HZ8.out.q4
  go_wp2_with fail
  refine H9.out.mono ?_
  clear H9 r0 r1 r2 r3 r4 t0 t1 t2 t3 t4
  rintro e w9 ⟨r, Hr, rfl, h9⟩
  have HX9 := hid (HX8.out.far h9)
  have HAx9 := hid (HAx8.out.keep h9)
  have HZ9 := hid (HZ8.out.far h9)
  have HAz9 := hid (HAz8.out.keep h9)
  have HB9 := hid (HB8.out.trans (h9.mono HB8.out.size))
  have H10 := hid (cmp_v HVs.out HL.out i k hi hk _ _ _ HAx9.out HAz9.out (HT.out _ HB9.out))
  clear h9 HX8 HAx8 HY8 HAy8 HZ8 HAz8 HB8
  have u0 := HX9.out.q0
  have u1 := HX9.out.q1
  have u2 := HX9.out.q2
  have u3 := HX9.out.q3
  have u4 := HX9.out.q4
  have t0 := HZ9.out.q0
  have t1 := HZ9.out.q1
  have t2 := HZ9.out.q2
  have t3 := HZ9.out.q3
  have t4 := HZ9.out.q4
  go_wp2_with fail
  refine H10.out.mono ?_
  clear H10 u0 u1 u2 u3 u4 t0 t1 t2 t3 t4
  rintro e w10 ⟨s, Hs, rfl, h10⟩
  have HX10 := hid (HX9.out.far h10)
  have HAx10 := hid (HAx9.out.keep h10)
  have HB10 := hid (HB9.out.trans (h10.mono HB9.out.size))
  have H11 := hid (cmp_v HVs.out HL.out i i hi hi _ _ _ HAx10.out HAx10.out (HT.out _ HB10.out))
  clear h10 HX9 HAx9 HZ9 HAz9 HB9
  have u0 := HX10.out.q0
  have u1 := HX10.out.q1
  have u2 := HX10.out.q2
  have u3 := HX10.out.q3
  have u4 := HX10.out.q4
  go_wp2_with fail
  refine H11.out.mono ?_
  clear H11 u0 u1 u2 u3 u4
  rintro e w11 ⟨t, Ht, rfl, h11⟩
  have HB11 := hid (HB10.out.trans (h11.mono HB10.out.size))
  have H12 := hid (cmp_two HVs.out HL.out w11 (HT.out _ HB11.out))
  clear h11 HX10 HAx10 HB10
  go_wp2_with fail
  refine H12.out.mono ?_
  clear H12
  rintro e w12 ⟨rfl, h12⟩
  have HB12 := hid (HB11.out.trans (h12.mono HB11.out.size))
  clear h12 HB11
  have ht : t = 0 := by rw [Ht.out]; exact cmpI_eq (Int.le_refl _) (Int.le_refl _)
  have ho := order3 i j k Hp.out Hq.out Hr.out Hs.out
  clear Hp Hq Hr Hs Ht
  subst ht
  rcases ho with ⟨rfl, rfl, ⟨rfl, rfl⟩ | ⟨rfl, rfl⟩ | ⟨rfl, rfl⟩ | ⟨rfl, rfl⟩ | ⟨rfl, rfl⟩⟩ | ⟨rfl, rfl, ⟨rfl, rfl⟩ | ⟨rfl, rfl⟩ | ⟨rfl, rfl⟩⟩ | ⟨rfl, rfl, ⟨rfl, rfl⟩ | ⟨rfl, rfl⟩ | ⟨rfl, rfl⟩ | ⟨rfl, rfl⟩ | ⟨rfl, rfl⟩⟩
  all_goals
    go_wp2_with fail
    go_ret
    exact ⟨rfl, HB12.out⟩
end Go.Proofs.YtknakfpciccoaaaDoor
