import Derived.Test.YtknakfpciccoaabGreatDoorZS1
import Derived.BigQuiet
import Derived.Deep.QuietTactic
import Derived.Deep.RegionHeld
/- The walks of slices.CompareFunc and compareObjects, over one another's contract. -/
namespace Go.Proofs.YtknakfpciccoaabGreatDoor
open Go.RowKit

def CmpSaid (f : Nat) : Prop := ∀ (g : Nat) (va vb : Value) (a b : T) (w : World), At w f va a → At w g vb b → okK f a → okK f b →
    Calls Tryz.prog 30 #[va, vb] w fun e w' => e = .returned (.int .i64 (cmpT f a b)) ∧ Below w.heap.size w w'

theorem ordE_none {g : T → T → Int} {a b : T} {k : Nat} (h : min (nL a) (nL b) = k) (h0 : ordL g a b k = 0) : ordE g a b = cmpI (nL a) (nL b) := by
  rw [ordE, h, h0]; rfl
theorem ordE_some {g : T → T → Int} {a b : T} {k : Nat} {x : Int} (ha : k < nL a) (hb : k < nL b) (h : ordL g a b (k + 1) = x) (h0 : x ≠ 0) : ordE g a b = x := by
  rw [ordE, ordL_stop (j := k + 1) (by omega) (by rw [h]; exact h0), h, if_pos h0]

set_option maxHeartbeats 1000000 in
set_option maxRecDepth 100000 in
theorem CompareFunc_any (f : Nat) (hc : CmpSaid f) (g : Nat) (La Ma : Option Addr) (Lc Mc : Nat) (a b : T) (w : World) (hl : ElemsAt w f La a) (hl' : ElemsAt w g Ma b) (hlen : nL a ≤ 1759218604442) (_hlen' : nL b ≤ 1759218604442)
    (k5 : kindOf a ≠ 6) (oka : ∀ i, i < nL a → okK f (elt a i)) (okb : ∀ i, i < nL b → okK f (elt b i)) :
    Calls Tryz.prog 51 #[.slice La (nL a) Lc, .slice Ma (nL b) Mc, .func (Fn.func 30) #[] #[]] w fun e w' => e = .returned (.int .i64 (ordE (cmpT f) a b)) ∧ Below w.heap.size w w' := by
  have Hc := hid hc
  have Hl := hid hl
  have Hl' := hid hl'
  have K5 := hid k5
  have Hoa := hid oka
  have Hob := hid okb
  clear hc hl hl' k5 oka okb
  go_enter Tryz.func51, Tryz.ntmps51
  go_wp2_with fail
  go_loopg [13] (nL a) (fun g i wr => ∃ k : Nat, g = nL a - k ∧ k ≤ nL a ∧ k ≤ nL b ∧ i = .int .i64 k ∧ Hid (ordL (cmpT f) a b k = 0) ∧ Hid (Below w.heap.size w wr))
  case atStart => exact ⟨0, rfl, Nat.zero_le _, Nat.zero_le _, rfl, rfl, Below.refl _ _⟩
  case round =>
    obtain ⟨k, rfl, hka, hkb, rfl, HO, Hb⟩ := hrel
    by_cases hlt : k < nL a
    · obtain ⟨ba, oa, A, B, C, D, rfl, hba, p0, p1, p2, p3, p4, Ha⟩ := Hl.out.shape Hb.out k hlt
      by_cases hlt' : k < nL b
      · obtain ⟨bb, ob, P, Q, R, S, rfl, hbb, t0, t1, t2, t3, t4, Hd⟩ := Hl'.out.shape Hb.out k hlt'
        have x1 : (k : Int) < (nL a : Int) := by omega
        have x2 : (k : Int) < (nL b : Int) := by omega
        have hsz := Hb.out.size
        have s1 : ba < wr.heap.size := by omega
        have s2 : bb < wr.heap.size := by omega
        have HB1 : Hid (Below wr.heap.size wr ((wr.alloc (.cells #[.int .i64 (kindOf (elt a k)), .int .i64 (nOf (elt a k)), .string (sOf (elt a k)), .slice A (nL (elt a k)) B, .slice C (nK (elt a k)) D] 36)).alloc (.cells #[.int .i64 (kindOf (elt b k)), .int .i64 (nOf (elt b k)), .string (sOf (elt b k)), .slice P (nL (elt b k)) Q, .slice R (nK (elt b k)) S] 36))) := ((Below.refl _ _).alloc (Nat.le_refl _) _).alloc (by simp) _
        have bd := cmpT_bd f (elt a k) (elt b k)
        go_wp2_with fail
        refine (Hc.out _ _ _ _ _ _ (Ha.out.keep (Hb.out.trans (HB1.out.mono hsz))) (Hd.out.keep (Hb.out.trans (HB1.out.mono hsz))) (Hoa.out k hlt) (Hob.out k hlt')).mono ?_
        rintro e w2 ⟨rfl, hb2⟩
        have HB2 := hid (Hb.out.trans ((HB1.out.trans (hb2.mono HB1.out.size)).mono hsz))
        clear hb2
        have HS := hid (ordL_step (g := cmpT f) (b := b) HO.out)
        generalize hx : cmpT f (elt a k) (elt b k) = x at bd ⊢
        have HS2 : Hid (ordL (cmpT f) a b (k + 1) = x) := by show _ = _; rw [HS.out, if_neg (fun h => K5.out h.1), hx]
        clear hx
        by_cases hx0 : x = 0
        · subst hx0
          go_wp2_with fail
          go_roundg (nL a - (k + 1))
          case rel => exact ⟨k + 1, rfl, by omega, by omega, by go_num, HS2, HB2⟩
          case measure => omega
        · have ex : (x != 0) = true := by simpa using hx0
          have HX := hid hx0
          clear hx0
          go_wp2_with fail
          go_ret
          exact ⟨ret_int (ordE_some hlt hlt' HS2.out HX.out).symm, HB2.out⟩
      · have HE := hid (ordE_none (g := cmpT f) (k := k) (show min (nL a) (nL b) = k by omega) HO.out)
        have HE2 := hid (cmpI_gt (show (nL b : Int) < (nL a : Int) by omega))
        have s1 : ba < wr.heap.size := by have := Hb.out.size; omega
        go_wp2_with fail
        go_ret
        exact ⟨ret_int (by rw [HE.out, HE2.out]), Hb.out.trans (((Below.refl _ _).alloc (Nat.le_refl _) _).mono Hb.out.size)⟩
    · have HE := hid (ordE_none (g := cmpT f) (k := k) (show min (nL a) (nL b) = k by omega) HO.out)
      by_cases h3 : nL a < nL b
      · have HE2 := hid (cmpI_lt (show (nL a : Int) < (nL b : Int) by omega))
        go_wp2_with fail
        go_ret
        exact ⟨ret_int (by rw [HE.out, HE2.out]), Hb.out⟩
      · have HE2 := hid (cmpI_eq (show (nL b : Int) ≤ (nL a : Int) by omega) (show (nL a : Int) ≤ (nL b : Int) by omega))
        go_wp2_with fail
        go_ret
        exact ⟨ret_int (by rw [HE.out, HE2.out]), Hb.out⟩

set_option maxHeartbeats 1000000 in
set_option maxRecDepth 100000 in
theorem compareObjects_any (f : Nat) (hc : CmpSaid f) (g : Nat) (va vb : Value) (a b : T) (w : World) (h : At w (f + 1) va a) (h' : At w g vb b) (ka : okK (f + 1) a) (kb : okK (f + 1) b) (k6 : kindOf a = 6) (k6b : kindOf b = 6) :
    Calls Tryz.prog 52 #[va, vb] w fun e w' => e = .returned (.int .i64 (ordE (cmpT f) a b)) ∧ Below w.heap.size w w' := by
  obtain ⟨f1, La, Ka, Lc, Kc, hf1, rfl, hf, hl, hk⟩ := h.open
  obtain rfl : f = f1 := by omega
  obtain ⟨g1, Ma, Na, Mc, Nc, hg1, rfl, hf', hl', hk'⟩ := h'.open
  have hlen := hf.l1
  have hlen' := hf'.l1
  have HKa := hid ka
  have HKb := hid kb
  have K6 := hid k6
  have K6b := hid k6b
  have Hih := hid hc
  clear h h' hf hf' hf1 hg1 ka kb hc k6 k6b
  obtain ⟨M, HM, hMa, hMb, hcase⟩ : ∃ M : Nat, Hid (min (nL a) (nL b) = M) ∧ M ≤ nL a ∧ M ≤ nL b ∧ ((nL a : Int) ≤ (nL b : Int) ∧ Hid (M = nL a) ∨ (nL b : Int) < (nL a : Int) ∧ Hid (M = nL b)) := by
    by_cases hh : nL a ≤ nL b
    · exact ⟨nL a, by show min _ _ = _; omega, by omega, by omega, Or.inl ⟨by omega, rfl⟩⟩
    · exact ⟨nL b, by show min _ _ = _; omega, by omega, by omega, Or.inr ⟨by omega, rfl⟩⟩
  rcases hcase with ⟨hcs, HMM⟩ | ⟨hcs, HMM⟩
  all_goals
    have hmm := HMM.out
    go_enter Tryz.func52, Tryz.ntmps52
    go_wp2_with fail
    go_loopg [15] M (fun g i wr => ∃ k : Nat, g = M - k ∧ k ≤ M ∧ i = .int .i64 k ∧ Hid (ordL (cmpT f) a b k = 0) ∧ Below (w.heap.size + 2) ((w.alloc (.cells #[.int .i64 (kindOf a), .int .i64 (nOf a), .string (sOf a), .slice La (nL a) Lc, .slice Ka (nK a) Kc] 36)).alloc (.cells #[.int .i64 (kindOf b), .int .i64 (nOf b), .string (sOf b), .slice Ma (nL b) Mc, .slice Na (nK b) Nc] 36)) wr)
    case atStart => exact ⟨0, rfl, Nat.zero_le _, rfl, rfl, Below.refl _ _⟩
    case round =>
      obtain ⟨k, rfl, hkm, rfl, HO, hb⟩ := hrel
      obtain ⟨⟨q0, q1, q2, q3, q4⟩, ⟨r0, r1, r2, r3, r4⟩, hz, hbw⟩ := box2_facts hb
      have Hb := hid hb
      clear hb
      have hz0 : w.heap.size < wr.heap.size := by omega
      by_cases hlt : k < M
      · have hlta : k < nL a := by omega
        have hltb : k < nL b := by omega
        obtain ⟨ba, oa, c0, c1, c2, c3, c4, rfl, hba, p0, p1, p2, p3, p4, Ha⟩ := hl.out.keep hbw k hlta
        obtain ⟨bb, ob, d0, d1, d2, d3, d4, rfl, hbb, t0, t1, t2, t3, t4, Hc⟩ := hl'.out.keep hbw k hltb
        have x1 : (k : Int) < (nL a : Int) := by omega
        have x2 : (k : Int) < (nL b : Int) := by omega
        clear hmm
        have HS := hid (ordL_step (g := cmpT f) (b := b) HO.out)
        have na : k < nK a := by rw [HKa.out.1 K6.out]; exact hlta
        have nb : k < nK b := by rw [HKb.out.1 K6b.out]; exact hltb
        obtain ⟨ea, fa, rfl, hea, hsa, n0⟩ := hk.out.keep hbw k na
        obtain ⟨eb, fb, rfl, heb, hsb, m0⟩ := hk'.out.keep hbw k nb
        have x3 : (k : Int) < (nK a : Int) := by omega
        have x4 : (k : Int) < (nK b : Int) := by omega
        have bc := cmpS_bd (nam a k) (nam b k)
        go_wp2_with fail
        go_quiet ((go_at_call 50; exact Calls.quiet_of_same (cmpString_any _ _ _)))
        generalize hcc : cmpS (nam a k) (nam b k) = c at bc ⊢
        have HCC := hid hcc
        clear hcc
        have Hbq : Hid (Below wr.heap.size wr (wr.drewN nq)) := below_drewN (Below.refl _ _) nq
        generalize wr.drewN nq = wq at Hbq ⊢
        have hzq := Hbq.out.size
        have y0 := (Hbq.out.cell (p := ⟨w.heap.size, 3, none⟩) hz0).trans q3
        have y1 := (Hbq.out.cell (p := ⟨w.heap.size + 1, 3, none⟩) hz).trans r3
        have u0 := (Hbq.out.cell (p := ⟨ba, oa + k * 5, none⟩) hba).trans p0
        have u1 := (Hbq.out.cell (p := ⟨ba, oa + k * 5 + 1, none⟩) hba).trans p1
        have u2 := (Hbq.out.cell (p := ⟨ba, oa + k * 5 + 2, none⟩) hba).trans p2
        have u3 := (Hbq.out.cell (p := ⟨ba, oa + k * 5 + 3, none⟩) hba).trans p3
        have u4 := (Hbq.out.cell (p := ⟨ba, oa + k * 5 + 4, none⟩) hba).trans p4
        have v0 := (Hbq.out.cell (p := ⟨bb, ob + k * 5, none⟩) hbb).trans t0
        have v1 := (Hbq.out.cell (p := ⟨bb, ob + k * 5 + 1, none⟩) hbb).trans t1
        have v2 := (Hbq.out.cell (p := ⟨bb, ob + k * 5 + 2, none⟩) hbb).trans t2
        have v3 := (Hbq.out.cell (p := ⟨bb, ob + k * 5 + 3, none⟩) hbb).trans t3
        have v4 := (Hbq.out.cell (p := ⟨bb, ob + k * 5 + 4, none⟩) hbb).trans t4
        have Hbq2 := hid (Hb.out.trans (Hbq.out.mono (by omega)))
        have hz0' : w.heap.size < wq.heap.size := Nat.lt_of_lt_of_le hz0 hzq
        have hz1' : w.heap.size + 1 < wq.heap.size := Nat.lt_of_lt_of_le hz hzq
        have hba' : ba < wq.heap.size := Nat.lt_of_lt_of_le hba hzq
        have hbb' : bb < wq.heap.size := Nat.lt_of_lt_of_le hbb hzq
        clear q0 q1 q2 q3 q4 r0 r1 r2 r3 r4 p0 p1 p2 p3 p4 t0 t1 t2 t3 t4 n0 m0
        by_cases hc0 : c = 0
        · subst hc0
          have HC0 := HCC
          go_wp2_with fail
          have HA1 := hid (Ha.out.keep ((Hbq.out).trans ((below_drew wq).mono Hbq.out.size)))
          have HC1 := hid (Hc.out.keep ((Hbq.out).trans ((below_drew wq).mono Hbq.out.size)))
          have HOa := hid (HKa.out.2 k hlta)
          have HOb := hid (HKb.out.2 k hltb)
          have bd := cmpT_bd f (elt a k) (elt b k)
          have HSS : Hid (∀ wx : World, Below wq.drew.heap.size wq.drew wx → wx.cell? ⟨w.heap.size, 3, none⟩ = some (.slice (some ⟨ba, oa, none⟩) (nL a) Lc) ∧ wx.cell? ⟨w.heap.size + 1, 3, none⟩ = some (.slice (some ⟨bb, ob, none⟩) (nL b) Mc) ∧ wx.cell? ⟨ba, oa + k * 5, none⟩ = some c0 ∧ wx.cell? ⟨ba, oa + k * 5 + 1, none⟩ = some c1 ∧ wx.cell? ⟨ba, oa + k * 5 + 2, none⟩ = some c2 ∧ wx.cell? ⟨ba, oa + k * 5 + 3, none⟩ = some c3 ∧ wx.cell? ⟨ba, oa + k * 5 + 4, none⟩ = some c4 ∧ wx.cell? ⟨bb, ob + k * 5, none⟩ = some d0 ∧ wx.cell? ⟨bb, ob + k * 5 + 1, none⟩ = some d1 ∧ wx.cell? ⟨bb, ob + k * 5 + 2, none⟩ = some d2 ∧ wx.cell? ⟨bb, ob + k * 5 + 3, none⟩ = some d3 ∧ wx.cell? ⟨bb, ob + k * 5 + 4, none⟩ = some d4) := by
            intro wx hx
            have hh := (below_drew wq).trans hx
            refine ⟨?_, ?_, ?_, ?_, ?_, ?_, ?_, ?_, ?_, ?_, ?_, ?_⟩
            all_goals (rw [hh.cell (p := ⟨_, _, none⟩) (by first | assumption | omega)]; assumption)
          go_region_held (fun wx => wx.cell? ⟨w.heap.size, 3, none⟩ = some (.slice (some ⟨ba, oa, none⟩) (nL a) Lc) ∧ wx.cell? ⟨w.heap.size + 1, 3, none⟩ = some (.slice (some ⟨bb, ob, none⟩) (nL b) Mc) ∧ wx.cell? ⟨ba, oa + k * 5, none⟩ = some c0 ∧ wx.cell? ⟨ba, oa + k * 5 + 1, none⟩ = some c1 ∧ wx.cell? ⟨ba, oa + k * 5 + 2, none⟩ = some c2 ∧ wx.cell? ⟨ba, oa + k * 5 + 3, none⟩ = some c3 ∧ wx.cell? ⟨ba, oa + k * 5 + 4, none⟩ = some c4 ∧ wx.cell? ⟨bb, ob + k * 5, none⟩ = some d0 ∧ wx.cell? ⟨bb, ob + k * 5 + 1, none⟩ = some d1 ∧ wx.cell? ⟨bb, ob + k * 5 + 2, none⟩ = some d2 ∧ wx.cell? ⟨bb, ob + k * 5 + 3, none⟩ = some d3 ∧ wx.cell? ⟨bb, ob + k * 5 + 4, none⟩ = some d4) (go_keep) ((go_at_call 30; refine (Hih.out _ _ _ _ _ _ HA1.out HC1.out HOa.out HOb.out).mono ?_; rintro e w2 ⟨rfl, hb2⟩; have hc2 := HSS.out _ hb2))
          have HB2 := hid (Hbq2.out.trans (((below_drew wq).trans hb2).mono (by omega)))
          clear hb2 hc2 HA1 HC1
          generalize hx : cmpT f (elt a k) (elt b k) = x at bd ⊢
          have HS2 : Hid (ordL (cmpT f) a b (k + 1) = x) := by show _ = _; rw [HS.out, if_neg (fun h => h.2 HC0.out), hx]
          clear hx
          by_cases hx0 : x = 0
          · subst hx0
            go_wp2_with fail
            go_roundg (M - (k + 1))
            case rel => exact ⟨k + 1, rfl, by omega, by go_num, HS2, HB2.out⟩
            case measure => omega
          · have ex : (x != 0) = true := by simpa using hx0
            have HX := hid hx0
            clear hx0
            go_wp2_with fail
            go_ret
            refine ⟨ret_int ?_, (((Below.refl _ _).alloc (Nat.le_refl _) _).alloc (by simp) _).trans (HB2.out.mono (by omega))⟩
            exact (ordE_some hlta hltb HS2.out HX.out).symm
        · have ex : (c != 0) = true := by simpa using hc0
          have HX := hid hc0
          clear hc0
          have HS2 : Hid (ordL (cmpT f) a b (k + 1) = c) := by show _ = _; rw [HS.out, HCC.out, if_pos ⟨K6.out, HX.out⟩]
          go_wp2_with fail
          go_ret
          refine ⟨ret_int ?_, (((Below.refl _ _).alloc (Nat.le_refl _) _).alloc (by simp) _).trans (Hbq2.out.mono (by omega))⟩
          exact (ordE_some hlta hltb HS2.out HX.out).symm
      · have HE := hid (ordE_none (g := cmpT f) (k := k) (by rw [HM.out]; omega) HO.out)
        go_wp2_with fail
        refine (cmpInt_any _ _ _).mono ?_
        rintro e w2 ⟨rfl, rfl⟩
        go_wp2_with fail
        go_ret
        exact ⟨ret_int (by rw [HE.out]), hbw⟩
end Go.Proofs.YtknakfpciccoaabGreatDoor
/- The walk of compare. -/
namespace Go.Proofs.YtknakfpciccoaabGreatDoor
open Go.RowKit

set_option maxHeartbeats 2000000 in
set_option maxRecDepth 100000 in
theorem compare_any (f : Nat) : CmpSaid f := by
  induction f with
  | zero => intro g va vb a b w h; exact h.elim
  | succ f ih =>
    intro g va vb a b w h h' ka kb
    have HA := hid h
    have HA' := hid h'
    obtain ⟨f1, La, Ka, Lc, Kc, hf1, rfl, hf, hl, hk⟩ := h.open
    obtain rfl : f = f1 := by omega
    obtain ⟨g1, Ma, Na, Mc, Nc, hg1, rfl, hf', hl', hk'⟩ := h'.open
    have hlen := hf.l1
    have hlen' := hf'.l1
    have HKa := hid ka
    have HKb := hid kb
    have Hih := hid ih
    have HB1 : Hid (Below w.heap.size w ((w.alloc (.cells #[.int .i64 (kindOf a), .int .i64 (nOf a), .string (sOf a), .slice La (nL a) Lc, .slice Ka (nK a) Kc] 36)).alloc (.cells #[.int .i64 (kindOf b), .int .i64 (nOf b), .string (sOf b), .slice Ma (nL b) Mc, .slice Na (nK b) Nc] 36))) := ((Below.refl _ _).alloc (Nat.le_refl _) _).alloc (by simp) _
    clear h h' hf hf' hf1 hg1 ka kb ih hk hk'
    by_cases k1 : kindOf a = kindOf b
    · have e1 : (kindOf a != kindOf b) = false := by simp [k1]
      by_cases k0 : kindOf a = 2
      · have HR : Hid (cmpT (f + 1) a b = cmpI (nOf a) (nOf b)) := by show cmpT (f + 1) a b = _; simp [cmpT, ← k1, k0]
        have g2 : (kindOf a == 2) = true := by rw [k0]; rfl
        have g3 : (kindOf a == 3) = false := by rw [k0]; rfl
        have g4 : (kindOf a == 4) = false := by rw [k0]; rfl
        have g5 : (kindOf a == 5) = false := by rw [k0]; rfl
        have g6 : (kindOf a == 6) = false := by rw [k0]; rfl
        clear k0 k1
        go_enter Tryz.func30, Tryz.ntmps30
        go_wp2_with fail
        refine (cmpInt64_any _ _ _).mono ?_
        rintro e w2 ⟨rfl, rfl⟩
        go_wp2_with fail
        go_ret
        exact ⟨ret_int (by rw [HR.out]), HB1.out⟩
      by_cases k0 : kindOf a = 3
      · have HR : Hid (cmpT (f + 1) a b = cmpI (nOf a) (nOf b)) := by show cmpT (f + 1) a b = _; simp [cmpT, ← k1, k0]
        have g2 : (kindOf a == 2) = false := by rw [k0]; rfl
        have g3 : (kindOf a == 3) = true := by rw [k0]; rfl
        have g4 : (kindOf a == 4) = false := by rw [k0]; rfl
        have g5 : (kindOf a == 5) = false := by rw [k0]; rfl
        have g6 : (kindOf a == 6) = false := by rw [k0]; rfl
        clear k0 k1
        go_enter Tryz.func30, Tryz.ntmps30
        go_wp2_with fail
        refine (cmpInt64_any _ _ _).mono ?_
        rintro e w2 ⟨rfl, rfl⟩
        go_wp2_with fail
        go_ret
        exact ⟨ret_int (by rw [HR.out]), HB1.out⟩
      by_cases k0 : kindOf a = 4
      · have HR : Hid (cmpT (f + 1) a b = cmpS (sOf a) (sOf b)) := by show cmpT (f + 1) a b = _; simp [cmpT, ← k1, k0]
        have g2 : (kindOf a == 2) = false := by rw [k0]; rfl
        have g3 : (kindOf a == 3) = false := by rw [k0]; rfl
        have g4 : (kindOf a == 4) = true := by rw [k0]; rfl
        have g5 : (kindOf a == 5) = false := by rw [k0]; rfl
        have g6 : (kindOf a == 6) = false := by rw [k0]; rfl
        clear k0 k1
        go_enter Tryz.func30, Tryz.ntmps30
        go_wp2_with fail
        refine (cmpString_any _ _ _).mono ?_
        rintro e w2 ⟨rfl, rfl⟩
        go_wp2_with fail
        go_ret
        exact ⟨ret_int (by rw [HR.out]), HB1.out⟩
      by_cases k0 : kindOf a = 5
      · have HR : Hid (cmpT (f + 1) a b = ordE (cmpT f) a b) := by show cmpT (f + 1) a b = _; simp [cmpT, ← k1, k0, isBox]
        have g2 : (kindOf a == 2) = false := by rw [k0]; rfl
        have g3 : (kindOf a == 3) = false := by rw [k0]; rfl
        have g4 : (kindOf a == 4) = false := by rw [k0]; rfl
        have g5 : (kindOf a == 5) = true := by rw [k0]; rfl
        have g6 : (kindOf a == 6) = false := by rw [k0]; rfl
        have K5 : Hid (kindOf a ≠ 6) := by show kindOf a ≠ 6; omega
        clear k0 k1
        go_enter Tryz.func30, Tryz.ntmps30
        go_wp2_with fail
        refine (CompareFunc_any f Hih.out _ La Ma Lc Mc a b _ (hl.out.keep HB1.out) (hl'.out.keep HB1.out) hlen hlen' K5.out HKa.out.2 HKb.out.2).mono ?_
        rintro e w2 ⟨rfl, hb2⟩
        have HB2 := hid (HB1.out.trans (hb2.mono HB1.out.size))
        clear hb2
        go_wp2_with fail
        go_ret
        exact ⟨ret_int (by rw [HR.out]), HB2.out⟩
      by_cases k0 : kindOf a = 6
      · have HR : Hid (cmpT (f + 1) a b = ordE (cmpT f) a b) := by show cmpT (f + 1) a b = _; simp [cmpT, ← k1, k0, isBox]
        have g2 : (kindOf a == 2) = false := by rw [k0]; rfl
        have g3 : (kindOf a == 3) = false := by rw [k0]; rfl
        have g4 : (kindOf a == 4) = false := by rw [k0]; rfl
        have g5 : (kindOf a == 5) = false := by rw [k0]; rfl
        have g6 : (kindOf a == 6) = true := by rw [k0]; rfl
        have K6 := hid k0
        have K6b : Hid (kindOf b = 6) := by show kindOf b = 6; omega
        clear k0 k1
        go_enter Tryz.func30, Tryz.ntmps30
        go_wp2_with fail
        refine (compareObjects_any f Hih.out _ _ _ a b _ (HA.out.keep HB1.out) (HA'.out.keep HB1.out) HKa.out HKb.out K6.out K6b.out).mono ?_
        rintro e w2 ⟨rfl, hb2⟩
        have HB2 := hid (HB1.out.trans (hb2.mono HB1.out.size))
        clear hb2
        go_wp2_with fail
        go_ret
        exact ⟨ret_int (by rw [HR.out]), HB2.out⟩
      have HR : Hid (cmpT (f + 1) a b = 0) := by
        show cmpT (f + 1) a b = _
        simp only [cmpT, isBox]
        rw [if_neg (by omega), if_neg (by omega), if_neg (by omega)]
        exact if_neg (by simp; omega)
      have g2 : (kindOf a == 2) = false := by simp; omega
      have g3 : (kindOf a == 3) = false := by simp; omega
      have g4 : (kindOf a == 4) = false := by simp; omega
      have g5 : (kindOf a == 5) = false := by simp; omega
      have g6 : (kindOf a == 6) = false := by simp; omega
      clear k1
      go_enter Tryz.func30, Tryz.ntmps30
      go_wp2_with fail
      go_ret
      exact ⟨ret_int (by rw [HR.out]), HB1.out⟩
    · have e1 : (kindOf a != kindOf b) = true := by simpa using k1
      have HR : Hid (cmpT (f + 1) a b = cmpI (kindOf a) (kindOf b)) := by show cmpT (f + 1) a b = _; simp only [cmpT]; rw [if_pos k1]
      clear k1
      go_enter Tryz.func30, Tryz.ntmps30
      go_wp2_with fail
      refine (cmpInt_any _ _ _).mono ?_
      rintro e w2 ⟨rfl, rfl⟩
      go_wp2_with fail
      go_ret
      exact ⟨ret_int (by rw [HR.out]), HB1.out⟩
end Go.Proofs.YtknakfpciccoaabGreatDoor
/- The walk of areDifferent. -/
namespace Go.Proofs.YtknakfpciccoaabGreatDoor
open Go.RowKit Go.Maps Go.WideMaps

theorem law9 : Keyed Tryz.prog 9 := string_keyed Tryz.underlying9
theorem make_hint (n : Int) (w : World) : (Instr.makeMap 153 (some (.int .i64 n))).run Tryz.prog w = .ok (.map (some w.heap.size)) (w.alloc (.map #[] 0)) := by kernel_rfl
set_option maxHeartbeats 400000 in
set_option maxRecDepth 100000 in
theorem different_any (Ka : Option Addr) (Kc : Nat) (t : T) (w : World) (hk : NamesAt w Ka t) (hn : nK t ≤ 8796093022208) :
    Calls Tryz.prog 73 #[.slice Ka (nK t) Kc] w fun e w' => e = .returned (.bool (!dupTo t (nK t))) ∧ Below w.heap.size w w' := by
  have hmm := make_hint (nK t)
  have hk' := hid hk
  clear hk
  have Hs := hid (size_Sn t)
  go_enter Tryz.func73, Tryz.ntmps73
  go_wp2_with fail
  go_loopg [11] (nK t) (fun g i wr => ∃ k : Nat, g = nK t - k ∧ k ≤ nK t ∧ i = .int .i64 k ∧ Hid (wr.ownsMap Tryz.prog 9 (unitElem (H := Unit)) w.heap.size k (Sn t k)) ∧ Hid (Below w.heap.size w wr))
  case atStart => exact ⟨0, rfl, Nat.zero_le _, rfl, by rw [Sn_zero]; exact World.ownsMap_made _ _ _ _, (Below.refl _ _).alloc (Nat.le_refl _) _⟩
  case round =>
    obtain ⟨k, rfl, hk1, rfl, Hown, Hnx⟩ := hrel
    by_cases hlt : k < nK t
    · obtain ⟨kb, ko, rfl, hkb, hks, hkc⟩ := hk'.out.keep Hnx.out k hlt
      have hkey : keyOf Tryz.prog 9 (.string (nam t k)) = some (keyAt t k) := keyOf_string_mk Tryz.underlying9 (by unfold maxLen; omega)
      go_wp2_with (first
        | (at_mapUpdate; refine wpList_mapUpdate_own _ rfl _ _ _ 153 rfl 9 154 law9 Tryz.underlying153 (unitElem (H := Unit)) w.heap.size k _ rfl Hown.out (by unfold maxLen; omega) _ _ _ rfl rfl hkey _ [] unitElem_mk ?_; intro w1 hown1 hgrow1)
        | fail)
      go_roundg (nK t - (k + 1))
      case rel => exact ⟨k + 1, rfl, by omega, by go_num, (Sn_succ t k).symm ▸ hown1, Hnx.out.grown hgrow1 Hnx.out.size (fun j hj => by cases hj; exact Nat.le_refl _)⟩
      case measure => omega
    · obtain rfl : k = nK t := by omega
      have hsz := (Hs.out (nK t)).1
      go_wp2_with (first
        | (at_len; refine wpList_len_own _ rfl _ 153 rfl 9 154 Tryz.underlying153 (unitElem (H := Unit)) w.heap.size (nK t) _ rfl Hown.out ?_)
        | fail)
      go_ret
      refine ⟨ret_bool ?_, Hnx.out⟩
      have := (Hs.out (nK t)).2
      cases hd : dupTo t (nK t) with
      | true =>
        rw [hd] at this
        simp
        intro e
        have := this.1 (by omega)
        cases this
      | false =>
        rw [hd] at this
        simp [this.2 rfl]
end Go.Proofs.YtknakfpciccoaabGreatDoor
/- The walks of the checker's parts: a text, names. -/
namespace Go.Proofs.YtknakfpciccoaabGreatDoor
open Go.RowKit

/-- What is asked of utf8.ValidString: her contract, where the tables lie as they must. -/
def ValidSaid (Tb : World → Prop) : Prop := ∀ (s : ByteArray) (w : World), s.size ≤ 9223372036854775807 → Tb w →
  Calls Tryz.prog 114 #[.string s] w fun e w' => e = .returned (.bool (okS s)) ∧ Below w.heap.size w w'
/-- The tables lie below a block. -/
def Stays (Tb : World → Prop) (c : Nat) : Prop := ∀ w w' : World, Tb w → Below c w w' → Tb w'

set_option maxHeartbeats 400000 in
theorem take2_any (c : Nat) (l n : Int) (w : World) (h : Holds c l w) (l0 : 0 ≤ l) (l1 : l ≤ 1048576) (n0 : 0 ≤ n) (n1 : n ≤ 1000000) :
    Calls Tryz.prog 75 #[.pointer (some ⟨c, 0, none⟩), .int .i64 n] w fun e w' => e = .returned (.bool (decide (n ≤ l))) ∧ Holds c (l - n) w' ∧ But c w w' := by
  refine (take_any c l n w h.cell h.free (by omega) l1 n0 n1).mono ?_
  rintro e w' ⟨rfl, rfl⟩
  exact ⟨rfl, (h.set _).1, (h.set _).2⟩

set_option maxHeartbeats 400000 in
theorem text_any {Tb : World → Prop} (hV : ValidSaid Tb) (c : Nat) (hS : Stays Tb c) (s : ByteArray) (l : Int) (w : World) (h : Holds c l w) (hT : Tb w) (l0 : 0 ≤ l) (l1 : l ≤ 1048576) (hs : s.size ≤ 140737488355328) :
    Calls Tryz.prog 76 #[.pointer (some ⟨c, 0, none⟩), .string s] w fun e w' => ChkPost c w (textO s l) e w' := by
  have H := hid h
  have HT := hid hT
  clear h hT
  by_cases h1 : s.size ≤ 4000
  · by_cases h2 : (s.size : Int) ≤ l
    · go_enter Tryz.func76, Tryz.ntmps76
      go_wp2_with fail
      refine (take2_any c l s.size w H.out l0 l1 (by omega) (by omega)).mono ?_
      rintro e w1 ⟨rfl, K1, B1⟩
      have HK1 := hid K1
      have HB1 := hid B1
      clear K1 B1
      go_wp2_with fail
      refine (hV s w1 (by omega) (hS _ _ HT.out (HB1.out.below (Nat.le_of_lt H.out.lt)))).mono ?_
      rintro e w2 ⟨rfl, B2⟩
      have HB2 := hid B2
      clear B2
      cases hv : okS s with
      | true =>
        have Hv := hid hv
        clear hv
        go_wp2_with fail
        go_ret
        exact ⟨HB1.out.trans (But.of HB2.out), l - s.size, HK1.out.keep HB2.out, Or.inl ⟨by unfold textO; rw [if_pos ⟨h1, h2, Hv.out⟩], by omega, by omega, rfl⟩⟩
      | false =>
        have Hv := hid hv
        clear hv
        go_wp2_with fail
        go_ret
        exact ⟨HB1.out.trans (But.of HB2.out), l - s.size, HK1.out.keep HB2.out, Or.inr ⟨by unfold textO; rw [if_neg (by rw [Hv.out]; simp)], rfl⟩⟩
    · go_enter Tryz.func76, Tryz.ntmps76
      go_wp2_with fail
      refine (take2_any c l s.size w H.out l0 l1 (by omega) (by omega)).mono ?_
      rintro e w1 ⟨rfl, K1, B1⟩
      have HK1 := hid K1
      have HB1 := hid B1
      clear K1 B1
      have hd : decide ((s.size : Int) ≤ l) = false := decide_eq_false (by omega)
      have H2 := hid h2
      clear h2
      go_wp2_with fail
      go_ret
      exact ⟨HB1.out, l - s.size, HK1.out, Or.inr ⟨by unfold textO; rw [if_neg (fun h => by have := H2.out; omega)], rfl⟩⟩
  · have H1 := hid h1
    have hd : decide ((s.size : Int) ≤ 4000) = false := decide_eq_false (by omega)
    clear h1
    go_enter Tryz.func76, Tryz.ntmps76
    go_wp2_with fail
    go_ret
    exact ⟨But.refl _ _, l, H.out, Or.inr ⟨by unfold textO; rw [if_neg (fun h => H1.out h.1)], rfl⟩⟩

set_option maxHeartbeats 1000000 in
theorem names_any {Tb : World → Prop} (hV : ValidSaid Tb) (c : Nat) (hS : Stays Tb c) (w0 : World) (hN : w0.heap.size ≤ c) (Ka : Option Addr) (Kc : Nat) (t : T) (l : Int) (w : World)
    (hk : NamesAt w0 Ka t) (hn : nK t ≤ 8796093022208) (hb0 : Below w0.heap.size w0 w) (h : Holds c l w) (hT : Tb w) (l0 : 0 ≤ l) (l1 : l ≤ 1048576) :
    Calls Tryz.prog 78 #[.pointer (some ⟨c, 0, none⟩), .slice Ka (nK t) Kc] w fun e w' => ChkPost c w (namesO t l) e w' := by
  have H := hid h
  have HT := hid hT
  have Hk := hid hk
  have Hb0 := hid hb0
  clear h hT hk hb0
  go_enter Tryz.func78, Tryz.ntmps78
  go_wp2_with fail
  go_loopg [9] (nK t) (fun g i wr => ∃ (k : Nat) (x : Int), g = nK t - k ∧ k ≤ nK t ∧ i = .int .i64 k ∧ 0 ≤ x ∧ x ≤ 1048576 ∧ Hid (namesL t k l = some x) ∧ Hid (Holds c x wr) ∧ Hid (But c w wr))
  case atStart => exact ⟨0, l, rfl, Nat.zero_le _, rfl, l0, l1, rfl, H, But.refl _ _⟩
  case round =>
    obtain ⟨k, x, rfl, hk1, rfl, x0, x1, HX, HH, HB⟩ := hrel
    have Hbr := hid (Hb0.out.trans ((HB.out.below (Nat.le_of_lt H.out.lt)).mono hN))
    by_cases hlt : k < nK t
    · obtain ⟨kb, ko, rfl, hkb, hks, hkc⟩ := Hk.out.keep Hbr.out k hlt
      go_wp2_with fail
      refine (take2_any c x 2 wr HH.out x0 x1 (by omega) (by omega)).mono ?_
      rintro e w1 ⟨rfl, K1, B1⟩
      have HK1 := hid K1
      have HB1 := hid B1
      clear K1 B1
      by_cases h2 : 2 ≤ x
      · go_wp2_with fail
        refine (text_any hV c hS (nam t k) (x - 2) w1 HK1.out (hS _ _ HT.out ((HB.out.trans HB1.out).below (Nat.le_of_lt H.out.lt))) (by omega) (by omega) hks).mono ?_
        rintro e w2 ⟨B2, l', K2, hr⟩
        have HB2 := hid B2
        have HK2 := hid K2
        clear B2 K2
        rcases hr with ⟨hr, y0, y1, rfl⟩ | ⟨hr, rfl⟩
        · have Hr := hid hr
          clear hr
          go_wp2_with fail
          go_roundg (nK t - (k + 1))
          case rel =>
            refine ⟨k + 1, l', rfl, by omega, by go_num, y0, y1, ?_, HK2, HB.out.trans (HB1.out.trans HB2.out)⟩
            show ((namesL t k l).bind fun x => (takeO 2 x).bind (textO (nam t k))) = _
            rw [HX.out]
            simp only [Option.bind_some, takeO, if_pos h2]
            exact Hr.out
          case measure => omega
        · have Hr := hid hr
          clear hr
          go_wp2_with fail
          go_ret
          refine ⟨HB.out.trans (HB1.out.trans HB2.out), l', HK2.out, Or.inr ⟨?_, rfl⟩⟩
          unfold namesO
          rw [namesL_none (j := k + 1) hlt]
          · rfl
          · show ((namesL t k l).bind fun x => (takeO 2 x).bind (textO (nam t k))) = _
            rw [HX.out]
            simp only [Option.bind_some, takeO, if_pos h2]
            exact Hr.out
      · have hd : decide ((2 : Int) ≤ x) = false := decide_eq_false h2
        have H2 := hid h2
        clear h2
        go_wp2_with fail
        go_ret
        refine ⟨HB.out.trans HB1.out, x - 2, HK1.out, Or.inr ⟨?_, rfl⟩⟩
        unfold namesO
        rw [namesL_none (j := k + 1) hlt]
        · rfl
        · show ((namesL t k l).bind fun x => (takeO 2 x).bind (textO (nam t k))) = _
          rw [HX.out]
          simp only [Option.bind_some, takeO]
          rw [if_neg (by have := H2.out; omega)]
          rfl
    · obtain rfl : k = nK t := by omega
      go_wp2_with fail
      refine (different_any Ka Kc t wr (Hk.out.keep Hbr.out) hn).mono ?_
      rintro e w1 ⟨rfl, B1⟩
      have HB1 := hid B1
      clear B1
      cases hd : dupTo t (nK t) with
      | true =>
        have Hd := hid hd
        clear hd
        go_wp2_with fail
        go_ret
        refine ⟨HB.out.trans (But.of HB1.out), x, HH.out.keep HB1.out, Or.inr ⟨?_, rfl⟩⟩
        unfold namesO
        rw [HX.out, Hd.out]
        rfl
      | false =>
        have Hd := hid hd
        clear hd
        go_wp2_with fail
        go_ret
        refine ⟨HB.out.trans (But.of HB1.out), x, HH.out.keep HB1.out, Or.inl ⟨?_, x0, x1, rfl⟩⟩
        unfold namesO
        rw [HX.out, Hd.out]
        rfl
end Go.Proofs.YtknakfpciccoaabGreatDoor
/- The walks of the checker: values, and a value. -/
namespace Go.Proofs.YtknakfpciccoaabGreatDoor
open Go.RowKit

/-- The contract of a value, so deep. -/
def ChkSaid (Tb : World → Prop) (c : Nat) (w0 : World) (m : Nat) : Prop := ∀ (f : Nat) (v : Value) (t : T) (l : Int) (w : World),
  At w0 f v t → Below w0.heap.size w0 w → Holds c l w → Tb w → 0 ≤ l → l ≤ 1048576 →
    Calls Tryz.prog 47 #[.pointer (some ⟨c, 0, none⟩), v, .int .i64 (12 - (m : Int))] w fun e w' => ChkPost c w (chkT m t l) e w'

set_option maxHeartbeats 1000000 in
theorem values_any {Tb : World → Prop} (c : Nat) (hS : Stays Tb c) (w0 : World) (hN : w0.heap.size ≤ c) (m : Nat) (ih : ChkSaid Tb c w0 m) (f : Nat) (La : Option Addr) (Lc : Nat) (t : T) (l : Int) (w : World)
    (hl : ElemsAt w0 f La t) (hn : nL t ≤ 1759218604442) (hb0 : Below w0.heap.size w0 w) (h : Holds c l w) (hT : Tb w) (l0 : 0 ≤ l) (l1 : l ≤ 1048576) :
    Calls Tryz.prog 77 #[.pointer (some ⟨c, 0, none⟩), .slice La (nL t) Lc, .int .i64 (12 - (m : Int))] w fun e w' => ChkPost c w (valuesL (chkT m) t (nL t) l) e w' := by
  have H := hid h
  have HT := hid hT
  have Hl := hid hl
  have Hb0 := hid hb0
  have Hih := hid ih
  clear h hT hl hb0 ih
  go_enter Tryz.func77, Tryz.ntmps77
  go_wp2_with fail
  go_loopg [11] (nL t) (fun g i wr => ∃ (k : Nat) (x : Int), g = nL t - k ∧ k ≤ nL t ∧ i = .int .i64 k ∧ 0 ≤ x ∧ x ≤ 1048576 ∧ Hid (valuesL (chkT m) t k l = some x) ∧ Hid (Holds c x wr) ∧ Hid (But c w wr))
  case atStart => exact ⟨0, l, rfl, Nat.zero_le _, rfl, l0, l1, rfl, H, But.refl _ _⟩
  case round =>
    obtain ⟨k, x, rfl, hk1, rfl, x0, x1, HX, HH, HB⟩ := hrel
    have Hbr := hid (Hb0.out.trans ((HB.out.below (Nat.le_of_lt H.out.lt)).mono hN))
    by_cases hlt : k < nL t
    · obtain ⟨b, o, A, B, C, D, rfl, hbl, p0, p1, p2, p3, p4, Ha⟩ := Hl.out.shape Hbr.out k hlt
      go_wp2_with fail
      have B1 : Below wr.heap.size wr (wr.alloc (.cells #[.int .i64 (kindOf (elt t k)), .int .i64 (nOf (elt t k)), .string (sOf (elt t k)), .slice A (nL (elt t k)) B, .slice C (nK (elt t k)) D] 36)) := (Below.refl _ _).alloc (Nat.le_refl _) _
      have HB1 := hid B1
      clear B1
      refine (Hih.out f _ (elt t k) x _ Ha.out (Hbr.out.trans (HB1.out.mono (Nat.le_trans hN (Nat.le_of_lt HH.out.lt)))) (HH.out.keep HB1.out) (hS _ _ (hS _ _ HT.out (HB.out.below (Nat.le_of_lt H.out.lt))) (HB1.out.mono (Nat.le_of_lt HH.out.lt))) x0 x1).mono ?_
      rintro e w2 ⟨B2, l', K2, hr⟩
      have HB2 := hid ((But.of HB1.out).trans B2)
      have HK2 := hid K2
      clear B2 K2
      have step : valuesL (chkT m) t (k + 1) l = chkT m (elt t k) x := by
        show (valuesL (chkT m) t k l).bind (chkT m (elt t k)) = _
        rw [HX.out]
        rfl
      have Hst := hid step
      clear step
      rcases hr with ⟨hr, y0, y1, rfl⟩ | ⟨hr, rfl⟩
      · have Hr := hid hr
        clear hr
        go_wp2_with fail
        go_roundg (nL t - (k + 1))
        case rel => exact ⟨k + 1, l', rfl, by omega, by go_num, y0, y1, Hst.out.trans Hr.out, HK2, HB.out.trans HB2.out⟩
        case measure => omega
      · have Hr := hid hr
        clear hr
        go_wp2_with fail
        go_ret
        exact ⟨HB.out.trans HB2.out, l', HK2.out, Or.inr ⟨valuesL_none hlt (Hst.out.trans Hr.out), rfl⟩⟩
    · obtain rfl : k = nL t := by omega
      go_wp2_with fail
      go_ret
      exact ⟨HB.out, x, HH.out, Or.inl ⟨HX.out, x0, x1, rfl⟩⟩
end Go.Proofs.YtknakfpciccoaabGreatDoor
