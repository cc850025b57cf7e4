import Derived.Test.YtknakfpciccoaaaGreatDoorZO28
import Derived.Test.YtknakfpciccoaaaGreatDoorZO32
import Derived.Test.YtknakfpciccoaaaGreatDoorZO30
import Derived.Test.YtknakfpciccoaaaGreatDoorZO16
/- The walk of Texts: it returns true. -/
namespace Go.Proofs.YtknakfpciccoaaaGreatDoor
open Go.RowKit

/-- A value that comes out, and a number. -/
def OutT (t : T) (n : Int) (w : World) (e : Ending) (w' : World) : Prop :=
  Below w.heap.size w w' ∧ ∃ A B C D, e = .returned (.tuple #[.agg #[.int .i64 (kindOf t), .int .i64 (nOf t), .string (sOf t), .slice A (nL t) B, .slice C (nK t) D], .int .i64 n]) ∧ At w' 13 (.agg #[.int .i64 (kindOf t), .int .i64 (nOf t), .string (sOf t), .slice A (nL t) B, .slice C (nK t) D]) t
theorem parse_o {Tb : World → Prop} (hD : DecSaid Tb) (hN : IntSaid Tb) (hL : Lies Tb) (s : ByteArray) (w : World) (hs : s.size ≤ 140737488355328) (hT : Tb w) : Calls Tryz.prog 22 #[.string s] w (OutT (tJ s) (eJ s) w) := by
  refine (parse_u hD hN hL s w hs hT).mono ?_
  rintro e w' ⟨hb, es, A, B, C, D, rfl, hF, _⟩
  exact ⟨hb, A, B, C, D, rfl, hF.at⟩
theorem decode_o {Tb : World → Prop} (hV : ValidSaid Tb) (hL : Lies Tb) (s : ByteArray) (w : World) (hs : s.size ≤ 140737488355328) (hT : Tb w) : Calls Tryz.prog 24 #[.string s] w (OutT (tD s) (eD s) w) := by
  refine (decode_u hV hL s w hs hT).mono ?_
  rintro e w' ⟨hb, es, A, B, C, D, rfl, hF, _⟩
  exact ⟨hb, A, B, C, D, rfl, hF.at⟩
theorem vt_print : ((List.range 36).all fun i => decide (wrT 12 (tv i) = (vt i).data.toList)) = true := by kernel_rfl
theorem vt_wr {i : Nat} (h : i < 36) : baL (wrT 12 (tv i)) = vt i := by
  have := of_decide_eq_true (List.all_eq_true.1 vt_print i (List.mem_range.2 h))
  rw [this, baL_self]
/-- What comes behind: bytes. -/
def BytesSay (b : ByteArray) (t : T) (n : Int) : Prop := (n = 6 ∧ kindOf t = 0) ∨ (n = 0 ∧ isV t = true ∧ baL (encT 12 t) = b)
theorem bytes_say (b : ByteArray) : BytesSay b (tD b) (eD b) := by
  unfold BytesSay tD eD
  cases h : resT b with
  | none => exact .inl ⟨rfl, rfl⟩
  | some t =>
    obtain ⟨h1, h2⟩ := res_dec h
    exact .inr ⟨rfl, h2, h1.symm⟩
theorem ordL_can2 {g : T → T → Int} {m : Nat} {t : T} : ∀ k, k ≤ nL t → (∀ i, i < k → g (canT m (elt t i)) (elt t i) = 0) → ordL g (canT (m + 1) t) t k = 0
  | 0, _, _ => rfl
  | k + 1, hk, h => by
    rw [ordL_step (ordL_can2 k (by omega) fun i hi => h i (by omega)), canT_nam, cmpS_self, canT_elt m t (by omega), h k (by omega)]
    simp
theorem can_cmp : ∀ (f m : Nat) (t : T), Good m t → cmpT f (canT m t) t = 0
  | 0, m, t, _ => rfl
  | f + 1, m, t, hg => by
    have hb : isBox t = true → ordE (cmpT f) (canT m t) t = 0 := fun hb => by
      have hk : kindOf t = 5 ∨ kindOf t = 6 := by simpa [isBox] using hb
      cases m with
      | zero =>
        obtain ⟨_, _, h⟩ := hg
        rcases h with ⟨h, _⟩ | ⟨h, _⟩ | ⟨h, _⟩ | ⟨h, _⟩ <;> omega
      | succ m =>
        rcases hg with ⟨_, _, h⟩ | ⟨_, _, he, _⟩
        · rcases h with ⟨h, _⟩ | ⟨h, _⟩ | ⟨h, _⟩ | ⟨h, _⟩ <;> omega
        · unfold ordE
          rw [canT_nL, Nat.min_self, ordL_can2 (nL t) (Nat.le_refl _) (fun i hi => can_cmp f m _ (he i hi)), cmpI_self]
          simp
    have hbx : isBox (canT m t) = isBox t := by unfold isBox; rw [canT_kind]
    unfold cmpT
    rw [canT_kind, canT_n, canT_s, hbx, if_neg (by simp)]
    split
    · exact cmpI_self _
    · split
      · exact cmpS_self _
      · split
        · exact hb ‹_›
        · rfl
set_option maxHeartbeats 8000000 in
set_option maxRecDepth 100000 in
theorem Texts_any {Tb : World → Prop} (hI : ItoaSaid Tb) (hD : DecSaid Tb) (hN : IntSaid Tb) (hV : ValidSaid Tb) (hF : FmtSaid Tb) (hL : Lies Tb) (s b : ByteArray) (c : Int) (w : World) (hs : s.size ≤ 140737488355328) (hb : b.size ≤ 140737488355328) (c0 : -9223372036854775808 ≤ c) (c1 : c ≤ 9223372036854775807) (hT : Tb w) :
    Calls Tryz.prog 7 #[.string s, .string b, .int .i64 c] w fun e w' => e = .returned (.bool true) ∧ Below w.heap.size w w' := by
  have HT : Hid (∀ w' : World, Below w.heap.size w w' → Tb w') := fun w' hb => hL w hT w w' hT hb
  have HPs : Hid (∀ w', Below w.heap.size w w' → ∀ x : ByteArray, x.size ≤ 140737488355328 → Calls Tryz.prog 22 #[.string x] w' (OutT (tJ x) (eJ x) w')) := fun w' hw x hx => parse_o hD hN hL x w' hx (HT.out w' hw)
  have HDc : Hid (∀ w', Below w.heap.size w w' → ∀ x : ByteArray, x.size ≤ 140737488355328 → Calls Tryz.prog 24 #[.string x] w' (OutT (tD x) (eD x) w')) := fun w' hw x hx => decode_o hV hL x w' hx (HT.out w' hw)
  have HPr : Hid (∀ w', Below w.heap.size w w' → ∀ v t, At w' 13 v t → Calls Tryz.prog 13 #[v] w' fun e w2 => e = .returned (.tuple #[.string (ansS (isV t) (wrT 12 t)), .int .i64 (ansF (isV t))]) ∧ Below w'.heap.size w' w2) := fun w' hw v t ha => tPrint_any hV hF hL 13 v t w' ha (HT.out w' hw)
  have HEn : Hid (∀ w', Below w.heap.size w w' → ∀ v t, At w' 13 v t → Calls Tryz.prog 18 #[v] w' fun e w2 => e = .returned (.tuple #[.string (encS (isV t) (encT 12 t)), .int .i64 (encF (isV t))]) ∧ Below w'.heap.size w' w2) := fun w' hw v t ha => tEncode_any hV hL 13 v t w' ha (HT.out w' hw)
  have HCm : Hid (∀ w', Below w.heap.size w w' → ∀ va vb x y, At w' 13 va x → At w' 13 vb y → Calls Tryz.prog 23 #[va, vb] w' fun e w2 => e = .returned (.tuple #[.int .i64 (ansN (isV x && isV y) (cmpT 13 x y)), .int .i64 (ansE (isV x && isV y))]) ∧ Below w'.heap.size w' w2) := fun w' hw va vb x y ha hb => tCompare_any hV hL 13 13 va vb x y w' ha hb (HT.out w' hw)
  have H1 := hid (value_any' hI hL c w c0 c1 hT)
  have HSz := hid hs
  have HBz := hid hb
  clear hT hI hD hN hV hF hL c0 c1 hs hb
  go_enter Tryz.func7, Tryz.ntmps7
  go_wp2_with fail
  refine H1.out.mono ?_
  rintro e w1 ⟨sv, ⟨i, hi, rfl⟩, rfl, b1⟩
  have HB1 := hid b1
  have HP1 := hid (HPs.out w1 b1 (vt i) (by have := vt_le hi; omega))
  obtain ⟨h1, h2⟩ := vt_at hi
  have h3 := tv_ok hi
  have h4 := vt_wr hi
  rw [h1, h2] at HP1
  obtain ⟨u, hu⟩ : ∃ u, u = tv i := ⟨_, rfl⟩
  obtain ⟨sv, hsv⟩ : ∃ sv, sv = vt i := ⟨_, rfl⟩
  rw [← hu] at HP1 h3 h4
  rw [← hsv] at HP1 h4 ⊢
  have Hu := hid h3
  have Hw := hid h4
  clear b1 H1 h1 h2 h3 h4 hu hsv hi
  go_wp2_with fail
  refine HP1.out.mono ?_
  rintro e w2 ⟨b2, A1, B1, C1, D1, rfl, ha1⟩
  have HB2 := hid (HB1.out.trans (b2.mono HB1.out.size))
  have HB3 := hid (HB2.out.trans ((below_alloc w2 (.cells #[.int .i64 (kindOf u), .int .i64 (nOf u), .string (sOf u), .slice A1 (nL u) B1, .slice C1 (nK u) D1] 25)).mono HB2.out.size))
  have HA3 := hid (ha1.keep (below_alloc w2 (.cells #[.int .i64 (kindOf u), .int .i64 (nOf u), .string (sOf u), .slice A1 (nL u) B1, .slice C1 (nK u) D1] 25)))
  have HQ3 := hid (HPr.out _ HB3.out _ _ HA3.out)
  rw [Hu.out] at HQ3
  simp only [ansS, ansF, if_true] at HQ3
  rw [Hw.out] at HQ3
  clear b2 ha1 HP1 HB1
  go_wp2_with fail
  refine HQ3.out.mono ?_
  rintro e w4 ⟨rfl, b4⟩
  have HB4 := hid (HB3.out.trans (b4.mono HB3.out.size))
  have HP4 := hid (HPs.out w4 HB4.out s HSz.out)
  clear b4 HQ3 HA3 HB2 HB3
  generalize hz : w2.heap.size = z2
  clear hz
  obtain ⟨v, hv⟩ : ∃ v, v = tJ s := ⟨_, rfl⟩
  obtain ⟨ev, hev⟩ : ∃ ev, ev = eJ s := ⟨_, rfl⟩
  have HVv : Hid (ev = 0 → isV v = true) := fun h => by rw [hv]; exact parsed_isV (by rw [← hev]; exact h)
  rw [← hv, ← hev] at HP4
  clear hv hev
  go_wp2_with fail
  refine HP4.out.mono ?_
  rintro e w5 ⟨b5, A2, B2, C2, D2, rfl, ha5⟩
  have HB5 := hid (HB4.out.trans (b5.mono HB4.out.size))
  have HB6 := hid (HB5.out.trans ((below_alloc w5 (.cells #[.int .i64 (kindOf v), .int .i64 (nOf v), .string (sOf v), .slice A2 (nL v) B2, .slice C2 (nK v) D2] 25)).mono HB5.out.size))
  have HA6 := hid (ha5.keep (below_alloc w5 (.cells #[.int .i64 (kindOf v), .int .i64 (nOf v), .string (sOf v), .slice A2 (nL v) B2, .slice C2 (nK v) D2] 25)))
  have HX6 : Hid (Box (w5.alloc (.cells #[.int .i64 (kindOf v), .int .i64 (nOf v), .string (sOf v), .slice A2 (nL v) B2, .slice C2 (nK v) D2] 25)) w5.heap.size (.int .i64 (kindOf v)) (.int .i64 (nOf v)) (.string (sOf v)) (.slice A2 (nL v) B2) (.slice C2 (nK v) D2)) := Box.made _ _ _ _ _ _
  clear b5 ha5 HP4 HB4 HB5
  by_cases h0 : ev = 0
  · have HVw := hid (HVv.out h0)
    subst h0
    have HGv := hid ((isV_iff v).1 HVw.out)
    have HQ6 := hid (HPr.out _ HB6.out _ _ HA6.out)
    have HWr := hid (parse_wr HA6.out HGv.out.1)
    have HWl := hid (wr_len 12 13 _ v HA6.out HGv.out.1)
    have HEc := hid (res_enc HA6.out HVw.out)
    rw [HVw.out] at HQ6
    simp only [ansS, ansF, if_true] at HQ6
    have hqs : (baL (wrT 12 v)).size ≤ 140737488355328 := by rw [baL_size]; have := HWl.out; have := HGv.out.2; omega
    have HQc : Hid (((baL (wrT 12 v)).size ≤ 4000 ∧ eJ (baL (wrT 12 v)) = 0 ∧ tJ (baL (wrT 12 v)) = canT 12 v) ∨ (4000 < (baL (wrT 12 v)).size ∧ eJ (baL (wrT 12 v)) = 1)) := by
      have := HWr.out
      show _ ∨ _
      rw [baL_size]
      rcases Nat.lt_or_ge 4000 (wrT 12 v).length with h | h
      · exact .inr ⟨h, this.1 h⟩
      · exact .inl ⟨h, this.2 h⟩
    have HQp : Hid (∀ w', Below w.heap.size w w' → Calls Tryz.prog 22 #[.string (baL (wrT 12 v))] w' (OutT (tJ (baL (wrT 12 v))) (eJ (baL (wrT 12 v))) w')) := fun w' hw => HPs.out w' hw _ hqs
    clear HWr HWl hqs HVv
    obtain ⟨tq, htq⟩ : ∃ tq, tq = tJ (baL (wrT 12 v)) := ⟨_, rfl⟩
    obtain ⟨eq, heq⟩ : ∃ eq, eq = eJ (baL (wrT 12 v)) := ⟨_, rfl⟩
    rw [← htq, ← heq] at HQc HQp
    clear htq heq
    generalize baL (wrT 12 v) = q at HQ6 HQc HQp
    have hxs : (baL (encT 12 v)).size ≤ 140737488355328 := by rw [baL_size, encT_len 12 v HGv.out.1]; have := HGv.out.2; omega
    have HXd : Hid (∀ w', Below w.heap.size w w' → Calls Tryz.prog 24 #[.string (baL (encT 12 v))] w' (OutT (canT 12 v) 0 w')) := fun w' hw => by
      have := HDc.out w' hw _ hxs
      have e1 : tD (baL (encT 12 v)) = canT 12 v := by unfold tD; rw [HEc.out]; rfl
      have e2 : eD (baL (encT 12 v)) = 0 := by unfold eD; rw [HEc.out]; rfl
      rw [e1, e2] at this
      exact this
    have HXe : Hid (∀ w', Below w.heap.size w w' → ∀ va, At w' 13 va v → Calls Tryz.prog 18 #[va] w' fun e w2 => e = .returned (.tuple #[.string (baL (encT 12 v)), .int .i64 0]) ∧ Below w'.heap.size w' w2) := fun w' hw va ha => by
      have := HEn.out w' hw va v ha
      rw [HVw.out] at this
      exact this
    clear hxs HEc
    generalize baL (encT 12 v) = x at HXd HXe
    have HY : Hid (isV (canT 12 v) = true ∧ cmpT 13 (canT 12 v) v = 0 ∧ cmpT 13 v (canT 12 v) = 0) := ⟨isV_can HVw.out, can_cmp 13 12 v HGv.out.1, cmp_can 13 12 v HGv.out.1⟩
    obtain ⟨y, hy⟩ : ∃ y, y = canT 12 v := ⟨_, rfl⟩
    rw [← hy] at HY HXd HQc
    clear hy HGv
    go_wp2_with fail
    refine HQ6.out.mono ?_
    rintro e w7 ⟨rfl, b7⟩
    have HB7 := hid (HB6.out.trans (b7.mono HB6.out.size))
    have HA7 := hid (HA6.out.keep b7)
    have HX7 := hid (HX6.out.keep b7)
    generalize w5.heap.size = bv at HX7 ⊢
    clear b7 HQ6 HA6 HX6 HB6
    go_wp2_with fail
    refine (HQp.out w7 HB7.out).mono ?_
    rintro e w8 ⟨b8, A3, B3, C3, D3, rfl, ha8⟩
    have HB8 := hid (HB7.out.trans (b8.mono HB7.out.size))
    have HB9 := hid (HB8.out.trans ((below_alloc w8 (.cells #[.int .i64 (kindOf tq), .int .i64 (nOf tq), .string (sOf tq), .slice A3 (nL tq) B3, .slice C3 (nK tq) D3] 25)).mono HB8.out.size))
    have HA9 := hid ((HA7.out.keep b8).keep (below_alloc w8 (.cells #[.int .i64 (kindOf tq), .int .i64 (nOf tq), .string (sOf tq), .slice A3 (nL tq) B3, .slice C3 (nK tq) D3] 25)))
    have HX9 := hid ((HX7.out.keep b8).keep (below_alloc w8 (.cells #[.int .i64 (kindOf tq), .int .i64 (nOf tq), .string (sOf tq), .slice A3 (nL tq) B3, .slice C3 (nK tq) D3] 25)))
    have Hq9 := hid (ha8.keep (below_alloc w8 (.cells #[.int .i64 (kindOf tq), .int .i64 (nOf tq), .string (sOf tq), .slice A3 (nL tq) B3, .slice C3 (nK tq) D3] 25)))
    have HC9 := hid (HCm.out _ HB9.out _ _ _ _ HA9.out Hq9.out)
    have HN9 : Hid (eq = 0 → ansN (isV v && isV tq) (cmpT 13 v tq) = 0 ∧ ansE (isV v && isV tq) = 0) := fun h => by
      rcases HQc.out with ⟨_, _, h3⟩ | ⟨_, h3⟩
      · rw [h3, HVw.out, HY.out.1, HY.out.2.2]; exact ⟨rfl, rfl⟩
      · omega
    generalize ansN (isV v && isV tq) (cmpT 13 v tq) = n9 at HC9 HN9
    generalize ansE (isV v && isV tq) = j9 at HC9 HN9
    obtain ⟨⟨x0, x1, x2, x3, x4⟩, hx⟩ := HX9.out
    clear b8 ha8 HB7 HA7 HX7 HB8 Hq9 HQp
    go_wp2_with fail
    refine HC9.out.mono ?_
    rintro e wd ⟨rfl, bd⟩
    have HBd := hid (HB9.out.trans (bd.mono HB9.out.size))
    have HAd := hid (HA9.out.keep bd)
    have HXd9 := hid (HX9.out.keep bd)
    generalize w8.heap.size = bq at HXd9 ⊢
    clear bd HC9 HB9 HA9 HX9 x0 x1 x2 x3 x4 hx
    obtain ⟨⟨x0, x1, x2, x3, x4⟩, hx⟩ := HXd9.out
    go_wp2_with fail
    refine (HXe.out wd HBd.out _ HAd.out).mono ?_
    rintro e we ⟨rfl, be⟩
    have HBe := hid (HBd.out.trans (be.mono HBd.out.size))
    have HAe := hid (HAd.out.keep be)
    have HXe9 := hid (HXd9.out.keep be)
    clear be HBd HAd HXd9 x0 x1 x2 x3 x4 hx HXe
    go_wp2_with fail
    refine (HXd.out we HBe.out).mono ?_
    rintro e wf ⟨bf, A4, B4, C4, D4, rfl, haf⟩
    have HBf := hid (HBe.out.trans (bf.mono HBe.out.size))
    have HBg := hid (HBf.out.trans ((below_alloc wf (.cells #[.int .i64 (kindOf y), .int .i64 (nOf y), .string (sOf y), .slice A4 (nL y) B4, .slice C4 (nK y) D4] 25)).mono HBf.out.size))
    have HAg := hid ((HAe.out.keep bf).keep (below_alloc wf (.cells #[.int .i64 (kindOf y), .int .i64 (nOf y), .string (sOf y), .slice A4 (nL y) B4, .slice C4 (nK y) D4] 25)))
    have HXg := hid ((HXe9.out.keep bf).keep (below_alloc wf (.cells #[.int .i64 (kindOf y), .int .i64 (nOf y), .string (sOf y), .slice A4 (nL y) B4, .slice C4 (nK y) D4] 25)))
    have Hyg := hid (haf.keep (below_alloc wf (.cells #[.int .i64 (kindOf y), .int .i64 (nOf y), .string (sOf y), .slice A4 (nL y) B4, .slice C4 (nK y) D4] 25)))
    have HCg := hid (HCm.out _ HBg.out _ _ _ _ Hyg.out HAg.out)
    rw [HVw.out, HY.out.1, HY.out.2.1] at HCg
    simp only [ansN, ansE, Bool.and_self, if_true] at HCg
    obtain ⟨⟨x0, x1, x2, x3, x4⟩, hx⟩ := HXg.out
    clear bf haf HBe HAe HXe9 HBf Hyg HXd
    rcases HQc.out with ⟨hq1, hq2, hq3⟩ | ⟨hq1, hq2⟩
    · obtain ⟨h1, h2⟩ := HN9.out hq2
      subst hq2
      subst h1
      subst h2
      clear hq1 hq3 HQc
      go_wp2_with fail
      refine HCg.out.mono ?_
      rintro e wh ⟨rfl, bh⟩
      have HBt := hid (HBg.out.trans (bh.mono HBg.out.size))
      clear bh HCg HBg HAg HXg x0 x1 x2 x3 x4 hx
      have HDb := hid (HDc.out _ HBt.out b HBz.out)
      have HSay := hid (bytes_say b)
      generalize tD b = tb at HDb HSay
      generalize eD b = eb at HDb HSay
      go_wp2_with fail
      refine HDb.out.mono ?_
      rintro e wa ⟨ba, A9, B9, C9, D9, rfl, ha9⟩
      have HBa := hid (HBt.out.trans (ba.mono HBt.out.size))
      have HBb := hid (HBa.out.trans ((below_alloc wa (.cells #[.int .i64 (kindOf tb), .int .i64 (nOf tb), .string (sOf tb), .slice A9 (nL tb) B9, .slice C9 (nK tb) D9] 25)).mono HBa.out.size))
      have HAb := hid (ha9.keep (below_alloc wa (.cells #[.int .i64 (kindOf tb), .int .i64 (nOf tb), .string (sOf tb), .slice A9 (nL tb) B9, .slice C9 (nK tb) D9] 25)))
      clear ba ha9 HDb
      rcases HSay.out with ⟨hn, hk⟩ | ⟨hn, hv9, hw9⟩
      · subst hn
        have hk0 : (kindOf tb == 0) = true := by simp [hk]
        clear hk
        go_wp2_with fail
        go_ret
        exact ⟨rfl, HBb.out⟩
      · subst hn
        have HE9 := hid (HEn.out _ HBb.out _ _ HAb.out)
        rw [hv9] at HE9
        simp only [encS, encF, if_true] at HE9
        rw [hw9] at HE9
        clear hv9 hw9
        go_wp2_with fail
        refine HE9.out.mono ?_
        rintro e wc ⟨rfl, bc⟩
        have HBc := hid (HBb.out.trans (bc.mono HBb.out.size))
        clear bc HE9
        go_wp2_with fail
        go_ret
        exact ⟨rfl, HBc.out⟩
    · subst hq2
      have hq4 : (4000 : Int) < (q.size : Int) := by omega
      clear HQc
      go_wp2_with fail
      refine HCg.out.mono ?_
      rintro e wh ⟨rfl, bh⟩
      have HBt := hid (HBg.out.trans (bh.mono HBg.out.size))
      clear bh HCg HBg HAg HXg x0 x1 x2 x3 x4 hx
      have HDb := hid (HDc.out _ HBt.out b HBz.out)
      have HSay := hid (bytes_say b)
      generalize tD b = tb at HDb HSay
      generalize eD b = eb at HDb HSay
      go_wp2_with fail
      refine HDb.out.mono ?_
      rintro e wa ⟨ba, A9, B9, C9, D9, rfl, ha9⟩
      have HBa := hid (HBt.out.trans (ba.mono HBt.out.size))
      have HBb := hid (HBa.out.trans ((below_alloc wa (.cells #[.int .i64 (kindOf tb), .int .i64 (nOf tb), .string (sOf tb), .slice A9 (nL tb) B9, .slice C9 (nK tb) D9] 25)).mono HBa.out.size))
      have HAb := hid (ha9.keep (below_alloc wa (.cells #[.int .i64 (kindOf tb), .int .i64 (nOf tb), .string (sOf tb), .slice A9 (nL tb) B9, .slice C9 (nK tb) D9] 25)))
      clear ba ha9 HDb
      rcases HSay.out with ⟨hn, hk⟩ | ⟨hn, hv9, hw9⟩
      · subst hn
        have hk0 : (kindOf tb == 0) = true := by simp [hk]
        clear hk
        go_wp2_with fail
        go_ret
        exact ⟨rfl, HBb.out⟩
      · subst hn
        have HE9 := hid (HEn.out _ HBb.out _ _ HAb.out)
        rw [hv9] at HE9
        simp only [encS, encF, if_true] at HE9
        rw [hw9] at HE9
        clear hv9 hw9
        go_wp2_with fail
        refine HE9.out.mono ?_
        rintro e wc ⟨rfl, bc⟩
        have HBc := hid (HBb.out.trans (bc.mono HBb.out.size))
        clear bc HE9
        go_wp2_with fail
        go_ret
        exact ⟨rfl, HBc.out⟩
  · have e0 : (ev == 0) = false := by simpa using h0
    have HBt := hid HB6.out
    clear h0 HVv
    have HDb := hid (HDc.out _ HBt.out b HBz.out)
    have HSay := hid (bytes_say b)
    generalize tD b = tb at HDb HSay
    generalize eD b = eb at HDb HSay
    go_wp2_with fail
    refine HDb.out.mono ?_
    rintro e wa ⟨ba, A9, B9, C9, D9, rfl, ha9⟩
    have HBa := hid (HBt.out.trans (ba.mono HBt.out.size))
    have HBb := hid (HBa.out.trans ((below_alloc wa (.cells #[.int .i64 (kindOf tb), .int .i64 (nOf tb), .string (sOf tb), .slice A9 (nL tb) B9, .slice C9 (nK tb) D9] 25)).mono HBa.out.size))
    have HAb := hid (ha9.keep (below_alloc wa (.cells #[.int .i64 (kindOf tb), .int .i64 (nOf tb), .string (sOf tb), .slice A9 (nL tb) B9, .slice C9 (nK tb) D9] 25)))
    clear ba ha9 HDb
    rcases HSay.out with ⟨hn, hk⟩ | ⟨hn, hv9, hw9⟩
    · subst hn
      have hk0 : (kindOf tb == 0) = true := by simp [hk]
      clear hk
      go_wp2_with fail
      go_ret
      exact ⟨rfl, HBb.out⟩
    · subst hn
      have HE9 := hid (HEn.out _ HBb.out _ _ HAb.out)
      rw [hv9] at HE9
      simp only [encS, encF, if_true] at HE9
      rw [hw9] at HE9
      clear hv9 hw9
      go_wp2_with fail
      refine HE9.out.mono ?_
      rintro e wc ⟨rfl, bc⟩
      have HBc := hid (HBb.out.trans (bc.mono HBb.out.size))
      clear bc HE9
      go_wp2_with fail
      go_ret
      exact ⟨rfl, HBc.out⟩
end Go.Proofs.YtknakfpciccoaaaGreatDoor
/- document. -/
namespace Go.Proofs.YtknakfpciccoaaaGreatDoor
open Go.RowKit

/-- The text of a document that the statements make. -/
def docA (id : Int) (i : Nat) : ByteArray := ((⟨#[123, 34, 95, 105, 100, 34, 58]⟩ ++ baL (Lib.itoa id)) ++ ⟨#[44, 34, 97, 34, 58]⟩) ++ vt i
def docS (id : Int) (i : Nat) (o : Option Nat) : ByteArray := (match o with | none => docA id i | some j => (docA id i ++ ⟨#[44, 34, 99, 34, 58]⟩) ++ vt j) ++ ⟨#[125]⟩
theorem itoa30 {n : Int} (h0 : 0 ≤ n) (h1 : n < 30) : (baL (Lib.itoa n)).size ≤ 2 := by
  obtain ⟨k, rfl⟩ : ∃ k : Nat, n = (k : Int) := ⟨n.toNat, by omega⟩
  have h : ((List.range 30).all fun k => decide ((baL (Lib.itoa ((k : Nat) : Int))).size ≤ 2)) = true := by kernel_rfl
  exact of_decide_eq_true (List.all_eq_true.1 h k (List.mem_range.2 (by omega)))
set_option maxHeartbeats 4000000 in
set_option maxRecDepth 100000 in
theorem document_any {Tb : World → Prop} (hI : ItoaSaid Tb) (hL : Lies Tb) (id c d : Int) (w : World) (i0 : 0 ≤ id) (i1 : id < 30) (c0 : -9223372036854775808 ≤ c) (c1 : c ≤ 9223372036854775807) (d0 : -9223372036854775808 ≤ d) (d1 : d ≤ 9223372036854775807) (hT : Tb w) :
    Calls Tryz.prog 61 #[.int .i64 id, .int .i64 c, .int .i64 d] w fun e w' => Below w.heap.size w w' ∧ ∃ i o, i < 36 ∧ (∀ j, o = some j → j < 36) ∧ e = .returned (.string (docS id i o)) := by
  have HI := hid (hI id w (by omega) (by omega) hT)
  have HT : Hid (∀ w' : World, Below w.heap.size w w' → Tb w') := fun w' hb => hL w hT w w' hT hb
  have HV : Hid (∀ (c : Int) (w : World), -9223372036854775808 ≤ c → c ≤ 9223372036854775807 → Tb w → Calls Tryz.prog 21 #[.int .i64 c] w (ValPostV w)) := fun c w h0 h1 ht => value_any' hI hL c w h0 h1 ht
  have HP : Hid (∀ w, Calls Tryz.prog 53 #[.int .i64 d, .int .i64 3] w fun e w' => e = .returned (.int .i64 (absZ d % 3)) ∧ w' = w) := fun w => pick_any d 3 w d0 d1 (by omega) (by omega)
  have HQ : Hid (-9223372036854775808 ≤ d.tdiv 3 ∧ d.tdiv 3 ≤ 9223372036854775807) := by
    show _ ∧ _
    have h1 := Int.tdiv_mul_add_tmod d 3
    by_cases h : 0 ≤ d
    · rw [Int.tdiv_eq_ediv_of_nonneg h]; omega
    · have : d.tdiv 3 = -((-d).tdiv 3) := by rw [Int.neg_tdiv]; simp
      rw [this, Int.tdiv_eq_ediv_of_nonneg (by omega)]; omega
  have hq : IntKind.i64.wrap (d.tdiv 3) = d.tdiv 3 := by rw [IntKind.wrap_i64]; have := HQ.out; omega
  have Hz := hid (itoa30 i0 i1)
  have Hc := hid (And.intro c0 c1)
  clear hT hI hL
  obtain ⟨a1, e1, z1, r1⟩ := cat_run ⟨#[123, 34, 95, 105, 100, 34, 58]⟩ (baL (Lib.itoa id)) 7 (baL (Lib.itoa id)).size rfl rfl (by have := Hz.out; omega)
  obtain ⟨a2, e2, z2, r2⟩ := cat_run a1 ⟨#[44, 34, 97, 34, 58]⟩ a1.size 5 rfl rfl (by have := Hz.out; omega)
  have E2 := hid (And.intro e1 e2)
  have Z2 : Hid (a2.size ≤ 14) := by show _ ≤ _; have := Hz.out; omega
  clear e1 e2 z1 z2 Hz
  generalize hbi : baL (Lib.itoa id) = bi at HI r1 E2
  have Hbi := hid hbi
  clear hbi
  go_enter Tryz.func61, Tryz.ntmps61
  go_wp2_with fail
  refine HI.out.mono ?_
  rintro e w1 ⟨rfl, b1⟩
  have HB1 := hid b1
  have HV1 := hid (HV.out c w1 Hc.out.1 Hc.out.2 (HT.out _ b1))
  clear b1 HI
  go_wp2_with fail
  refine HV1.out.mono ?_
  rintro e w2 ⟨sv, ⟨i, hi, rfl⟩, rfl, b2⟩
  have HB2 := hid (HB1.out.trans (b2.mono HB1.out.size))
  have Hi := hid hi
  obtain ⟨a3, e3, z3, r3⟩ := cat_run a2 (vt i) a2.size (vt i).size rfl rfl (by have := Z2.out; have := vt_le hi; omega)
  have E3 : Hid (a3 = docA id i) := by show _ = _; rw [e3, E2.out.2, E2.out.1, ← Hbi.out]; rfl
  have Z3 : Hid (a3.size ≤ 24) := by show _ ≤ _; have := Z2.out; have := vt_le hi; omega
  clear b2 hi HV1 e3 z3
  generalize vt i = si at *
  go_wp2_with fail
  refine (HP.out w2).mono ?_
  rintro e w3 ⟨rfl, rfl⟩
  by_cases hp : 0 < absZ d % 3
  · have HV2 := hid (HV.out (d.tdiv 3) w3 HQ.out.1 HQ.out.2 (HT.out _ HB2.out))
    obtain ⟨a4, e4, z4, r4⟩ := cat_run a3 ⟨#[44, 34, 99, 34, 58]⟩ a3.size 5 rfl rfl (by have := Z3.out; omega)
    have E4 := hid e4
    have Z4 : Hid (a4.size ≤ 29) := by show _ ≤ _; have := Z3.out; omega
    clear e4 z4
    go_wp2_with fail
    refine HV2.out.mono ?_
    rintro e w4 ⟨sv2, ⟨j, hj, rfl⟩, rfl, b4⟩
    have HB4 := hid (HB2.out.trans (b4.mono HB2.out.size))
    have Hj := hid hj
    obtain ⟨a5, e5, z5, r5⟩ := cat_run a4 (vt j) a4.size (vt j).size rfl rfl (by have := Z4.out; have := vt_le hj; omega)
    obtain ⟨a6, e6, z6, r6⟩ := cat_run a5 ⟨#[125]⟩ a5.size 1 rfl rfl (by have := Z4.out; have := vt_le hj; omega)
    have E6 : Hid (a6 = docS id i (some j)) := by show _ = _; rw [e6, e5, E4.out, E3.out]; rfl
    clear b4 hj HV2 e5 z5 e6 z6
    generalize vt j = sj at *
    go_wp2_with fail
    go_ret
    exact ⟨HB4.out, i, some j, Hi.out, fun j' hj' => by cases hj'; exact Hj.out, by rw [E6.out]; rfl⟩
  · obtain ⟨a6, e6, z6, r6⟩ := cat_run a3 ⟨#[125]⟩ a3.size 1 rfl rfl (by have := Z3.out; omega)
    have E6 : Hid (a6 = docS id i none) := by show _ = _; rw [e6, E3.out]; rfl
    clear e6 z6
    go_wp2_with fail
    go_ret
    exact ⟨HB2.out, i, none, Hi.out, (fun j' hj' => by cases hj'), by rw [E6.out]; rfl⟩
end Go.Proofs.YtknakfpciccoaaaGreatDoor
/- The documents that the statements make, as trees. -/
namespace Go.Proofs.YtknakfpciccoaaaGreatDoor
open Go.RowKit

def docT (id : Int) (i : Nat) (o : Option Nat) : T := match o with
  | none => mkT 6 0 ByteArray.empty [nT id, tv i] [⟨#[95, 105, 100]⟩, ⟨#[97]⟩]
  | some j => mkT 6 0 ByteArray.empty [nT id, tv i, tv j] [⟨#[95, 105, 100]⟩, ⟨#[97]⟩, ⟨#[99]⟩]
theorem vt_print11 : ((List.range 36).all fun i => decide (wrT 11 (tv i) = (vt i).data.toList)) = true := by kernel_rfl
theorem vt_wr11 {i : Nat} (h : i < 36) : wrT 11 (tv i) = (vt i).data.toList := of_decide_eq_true (List.all_eq_true.1 vt_print11 i (List.mem_range.2 h))
theorem nT_wr (n : Int) : wrT 11 (nT n) = Lib.itoa n := by
  rw [wrT_leaf (by show (3 : Int) ≠ 5; decide) (by show (3 : Int) ≠ 6; decide)]
  rfl
theorem ba_list {s : ByteArray} {l : List UInt8} (h : s.data.toList = l) : s = baL l := by
  apply (data_eq_iff _ _).1
  rw [h]
  simp [baL]
theorem app_list (a b : ByteArray) : (a ++ b).data.toList = a.data.toList ++ b.data.toList := by simp
theorem qId : quoL ⟨#[95, 105, 100]⟩ = [34, 95, 105, 100, 34] := by kernel_rfl
theorem qA : quoL ⟨#[97]⟩ = [34, 97, 34] := by kernel_rfl
theorem qC : quoL ⟨#[99]⟩ = [34, 99, 34] := by kernel_rfl
theorem docS_wr {id : Int} {i : Nat} {o : Option Nat} (hi : i < 36) (ho : ∀ j, o = some j → j < 36) : docS id i o = baL (wrT 12 (docT id i o)) := by
  apply ba_list
  cases o with
  | none =>
    have e : wrT 12 (docT id i none) = 123 :: ((([] ++ ([] ++ (quoL ⟨#[95, 105, 100]⟩ ++ (58 :: wrT 11 (nT id))))) ++ ([44] ++ (quoL ⟨#[97]⟩ ++ (58 :: wrT 11 (tv i))))) ++ [125]) := rfl
    rw [e, vt_wr11 hi, nT_wr, qId, qA]
    unfold docS docA
    simp only [app_list]
    simp [baL]
  | some j =>
    have e : wrT 12 (docT id i (some j)) = 123 :: (((([] ++ ([] ++ (quoL ⟨#[95, 105, 100]⟩ ++ (58 :: wrT 11 (nT id))))) ++ ([44] ++ (quoL ⟨#[97]⟩ ++ (58 :: wrT 11 (tv i))))) ++ ([44] ++ (quoL ⟨#[99]⟩ ++ (58 :: wrT 11 (tv j))))) ++ [125]) := rfl
    rw [e, vt_wr11 hi, vt_wr11 (ho j rfl), nT_wr, qId, qA, qC]
    unfold docS docA
    simp only [app_list]
    simp [baL]
/-- Numbers and lengths fit, as a test. -/
def fitB : Nat → T → Bool
  | 0, _ => false
  | f + 1, t => (decide (-9223372036854775808 ≤ kindOf t) && decide (kindOf t ≤ 9223372036854775807) && decide (-9223372036854775808 ≤ nOf t) && decide (nOf t ≤ 9223372036854775807) && decide ((sOf t).size ≤ 140737488355328) && decide (nL t ≤ 1759218604442) && decide (nK t ≤ 8796093022208)) && ((List.range (nL t)).all fun i => fitB f (elt t i)) && ((List.range (nK t)).all fun i => decide ((nam t i).size ≤ 140737488355328))
theorem fitB_fit : ∀ (f : Nat) (t : T), fitB f t = true → FitT f t
  | 0, _, h => by cases h
  | f + 1, t, h => by
    unfold fitB at h
    simp only [Bool.and_eq_true, decide_eq_true_eq, List.all_eq_true, List.mem_range] at h
    obtain ⟨⟨⟨⟨⟨⟨⟨⟨h1, h2⟩, h3⟩, h4⟩, h5⟩, h6⟩, h7⟩, h8⟩, h9⟩ := h
    exact ⟨⟨h1, h2, h3, h4, h5, h6, h7⟩, fun i hi => fitB_fit f _ (h8 i hi), h9⟩
theorem tv_fitB : ((List.range 36).all fun i => fitB 3 (tv i)) = true := by kernel_rfl
theorem tv_fit {i : Nat} (h : i < 36) : FitT 3 (tv i) := fitB_fit 3 _ (List.all_eq_true.1 tv_fitB i (List.mem_range.2 h))
theorem tv_good11B : ((List.range 36).all fun i => (chkT 11 (tv i) 1048576).isSome) = true := by kernel_rfl
theorem tv_good11 {i : Nat} (h : i < 36) : Good 11 (tv i) := by
  have h1 := List.all_eq_true.1 tv_good11B i (List.mem_range.2 h)
  rcases chk_says 11 (tv i) 1048576 (by omega) with ⟨_, h2, _⟩ | ⟨h3, _⟩
  · exact h2
  · rw [h3] at h1; cases h1
theorem tv_can : (List.range 36).map (fun i => canT 11 (tv i)) = (List.range 36).map tv := by kernel_rfl
theorem tv_can11 {i : Nat} (h : i < 36) : canT 11 (tv i) = tv i := by
  have := congrArg (fun l => l[i]?) tv_can
  simpa [h] using this
theorem nT_good (n : Int) (m : Nat) : Good m (nT n) := by
  have h : leafGood (nT n) := ⟨rfl, rfl, .inr (.inr (.inl ⟨rfl, noText_mk 3 n [] []⟩))⟩
  cases m with
  | zero => exact h
  | succ m => exact .inl h
theorem nT_fit {n : Int} (h0 : -9223372036854775808 ≤ n) (h1 : n ≤ 9223372036854775807) : FitT 3 (nT n) :=
  ⟨⟨by show -9223372036854775808 ≤ (3 : Int); omega, by show (3 : Int) ≤ 9223372036854775807; omega, h0, h1, by show (0 : Nat) ≤ _; omega, by show (0 : Nat) ≤ _; omega, by show (0 : Nat) ≤ _; omega⟩, fun i hi => absurd hi (Nat.not_lt_zero i), fun i hi => absurd hi (Nat.not_lt_zero i)⟩
theorem docT_elt {id : Int} {i : Nat} {o : Option Nat} (ho : ∀ j, o = some j → j < 36) (hi : i < 36) {k : Nat} (hk : k < nL (docT id i o)) : elt (docT id i o) k = nT id ∨ ∃ j, j < 36 ∧ elt (docT id i o) k = tv j := by
  cases o with
  | none =>
    have hk' : k < 2 := hk
    match k, hk' with
    | 0, _ => exact .inl rfl
    | 1, _ => exact .inr ⟨i, hi, rfl⟩
  | some j =>
    have hk' : k < 3 := hk
    match k, hk' with
    | 0, _ => exact .inl rfl
    | 1, _ => exact .inr ⟨i, hi, rfl⟩
    | 2, _ => exact .inr ⟨j, ho j rfl, rfl⟩
theorem docT_good {id : Int} {i : Nat} {o : Option Nat} (hi : i < 36) (ho : ∀ j, o = some j → j < 36) : Good 12 (docT id i o) := by
  refine .inr ⟨by cases o <;> rfl, by cases o <;> exact noText_mk _ _ _ _, fun k hk => ?_, .inr ⟨by cases o <;> rfl, by cases o <;> rfl, by cases o <;> kernel_rfl, by cases o <;> kernel_rfl⟩⟩
  rcases docT_elt ho hi hk with e | ⟨j, hj, e⟩
  · rw [e]; exact nT_good id 11
  · rw [e]; exact tv_good11 hj
theorem docT_fit {id : Int} {i : Nat} {o : Option Nat} (h0 : -9223372036854775808 ≤ id) (h1 : id ≤ 9223372036854775807) (hi : i < 36) (ho : ∀ j, o = some j → j < 36) : FitT 4 (docT id i o) := by
  have hF : Fits (docT id i o) := by
    cases o with
    | none => exact ⟨by show (-9223372036854775808 : Int) ≤ 6; omega, by show (6 : Int) ≤ 9223372036854775807; omega, by show (-9223372036854775808 : Int) ≤ 0; omega, by show (0 : Int) ≤ 9223372036854775807; omega, by show (0 : Nat) ≤ _; omega, by show (2 : Nat) ≤ _; omega, by show (2 : Nat) ≤ _; omega⟩
    | some j => exact ⟨by show (-9223372036854775808 : Int) ≤ 6; omega, by show (6 : Int) ≤ 9223372036854775807; omega, by show (-9223372036854775808 : Int) ≤ 0; omega, by show (0 : Int) ≤ 9223372036854775807; omega, by show (0 : Nat) ≤ _; omega, by show (3 : Nat) ≤ _; omega, by show (3 : Nat) ≤ _; omega⟩
  refine ⟨hF, fun k hk => ?_, fun k hk => ?_⟩
  · rcases docT_elt ho hi hk with e | ⟨j, hj, e⟩
    · rw [e]; exact nT_fit h0 h1
    · rw [e]; exact tv_fit hj
  · cases o with
    | none =>
      have hk' : k < 2 := hk
      match k, hk' with
      | 0, _ => show (3 : Nat) ≤ _; omega
      | 1, _ => show (1 : Nat) ≤ _; omega
    | some j =>
      have hk' : k < 3 := hk
      match k, hk' with
      | 0, _ => show (3 : Nat) ≤ _; omega
      | 1, _ => show (1 : Nat) ≤ _; omega
      | 2, _ => show (1 : Nat) ≤ _; omega
theorem docT_can {id : Int} {i : Nat} {o : Option Nat} (hi : i < 36) (ho : ∀ j, o = some j → j < 36) : canT 12 (docT id i o) = docT id i o := by
  have hn : canT 11 (nT id) = nT id := rfl
  cases o with
  | none =>
    show mkT 6 0 ByteArray.empty [canT 11 (nT id), canT 11 (tv i)] _ = _
    rw [hn, tv_can11 hi]; rfl
  | some j =>
    show mkT 6 0 ByteArray.empty [canT 11 (nT id), canT 11 (tv i), canT 11 (tv j)] _ = _
    rw [hn, tv_can11 hi, tv_can11 (ho j rfl)]; rfl
theorem docS_size {id : Int} {i : Nat} {o : Option Nat} (h0 : 0 ≤ id) (h1 : id < 30) (hi : i < 36) (ho : ∀ j, o = some j → j < 36) : (docS id i o).size ≤ 40 := by
  have h2 := itoa30 h0 h1
  have h3 := vt_le hi
  cases o with
  | none => unfold docS docA; simp only [ByteArray.size_append]; have : (⟨#[123, 34, 95, 105, 100, 34, 58]⟩ : ByteArray).size = 7 := rfl; have : (⟨#[44, 34, 97, 34, 58]⟩ : ByteArray).size = 5 := rfl; have : (⟨#[125]⟩ : ByteArray).size = 1 := rfl; omega
  | some j => have h4 := vt_le (ho j rfl); unfold docS docA; simp only [ByteArray.size_append]; have : (⟨#[123, 34, 95, 105, 100, 34, 58]⟩ : ByteArray).size = 7 := rfl; have : (⟨#[44, 34, 97, 34, 58]⟩ : ByteArray).size = 5 := rfl; have : (⟨#[44, 34, 99, 34, 58]⟩ : ByteArray).size = 5 := rfl; have : (⟨#[125]⟩ : ByteArray).size = 1 := rfl; omega
/-- A document's text is read as the document. -/
theorem doc_parse {id : Int} {i : Nat} {o : Option Nat} (h0 : 0 ≤ id) (h1 : id < 30) (hi : i < 36) (ho : ∀ j, o = some j → j < 36) : eJ (docS id i o) = 0 ∧ tJ (docS id i o) = docT id i o := by
  have hw := docS_wr (id := id) hi ho
  have hz := docS_size h0 h1 hi ho
  rw [hw, baL_size] at hz
  have hp := parse_tree (docT_fit (id := id) (by omega) (by omega) hi ho) (docT_good hi ho) (by omega)
  rw [docT_can hi ho] at hp
  rw [hw]
  exact hp
end Go.Proofs.YtknakfpciccoaaaGreatDoor
/- What the documents of the statements are: they may be inserted; their numbers. -/
namespace Go.Proofs.YtknakfpciccoaaaGreatDoor
open Go.RowKit

theorem docT_isDoc (id : Int) (i : Nat) (o : Option Nat) : isDoc (docT id i o) = true := by cases o <;> kernel_rfl
theorem docT_id (id : Int) (i : Nat) (o : Option Nat) : idT (docT id i o) = nT id := by cases o <;> kernel_rfl
theorem tv_bytesB : ((List.range 36).all fun i => decide (bytesT 11 (tv i) ≤ 100)) = true := by kernel_rfl
theorem tv_bytes {i : Nat} (h : i < 36) : bytesT 11 (tv i) ≤ 100 := of_decide_eq_true (List.all_eq_true.1 tv_bytesB i (List.mem_range.2 h))
theorem nT_bytes (n : Int) : bytesT 11 (nT n) = 9 := by kernel_rfl
theorem docT_bytes {id : Int} {i : Nat} {o : Option Nat} (hi : i < 36) (ho : ∀ j, o = some j → j < 36) : bytesT 12 (docT id i o) ≤ 300 := by
  have h1 := tv_bytes hi
  have h2 := nT_bytes id
  cases o with
  | none =>
    have e : bytesT 12 (docT id i none) = 5 + sumK (docT id i none) 2 + (((0 + bytesT 11 (nT id)) + bytesT 11 (tv i))) := rfl
    have k : sumK (docT id i none) 2 ≤ 50 := by
      have : sumK (docT id i none) 2 = sumK (docT 0 0 none) 2 := rfl
      rw [this]; decide
    omega
  | some j =>
    have h3 := tv_bytes (ho j rfl)
    have e : bytesT 12 (docT id i (some j)) = 5 + sumK (docT id i (some j)) 3 + ((((0 + bytesT 11 (nT id)) + bytesT 11 (tv i))) + bytesT 11 (tv j)) := rfl
    have k : sumK (docT id i (some j)) 3 ≤ 50 := by
      have : sumK (docT id i (some j)) 3 = sumK (docT 0 0 (some 0)) 3 := rfl
      rw [this]; decide
    omega
theorem docT_isV {id : Int} {i : Nat} {o : Option Nat} (hi : i < 36) (ho : ∀ j, o = some j → j < 36) : isV (docT id i o) = true := (isV_iff _).2 ⟨docT_good hi ho, by have := docT_bytes (id := id) hi ho; omega⟩
theorem docT_small {id : Int} {i : Nat} {o : Option Nat} (hi : i < 36) (ho : ∀ j, o = some j → j < 36) : tooBig (docT id i o) = false := by
  unfold tooBig
  rw [docT_isV hi ho]
  have h1 := encT_len 12 _ (docT_good (id := id) hi ho)
  have h2 := docT_bytes (id := id) hi ho
  have h3 : (encS true (encT 12 (docT id i o))).size = (encT 12 (docT id i o)).length := baL_size _
  rw [h3]
  simp
  omega
theorem doc_in {id : Int} {i : Nat} {o : Option Nat} (h0 : 0 ≤ id) (h1 : id < 30) (hi : i < 36) (ho : ∀ j, o = some j → j < 36) : inErr (docS id i o) = none := by
  obtain ⟨h2, h3⟩ := doc_parse h0 h1 hi ho
  unfold inErr
  rw [h2, h3, docT_isDoc, docT_small hi ho]
  simp
theorem nT_cmp (a b : Int) : (cmpT 16 (nT a) (nT b) == 0) = (a == b) := by
  have e : cmpT 16 (nT a) (nT b) = cmpI a b := by
    have ka : kindOf (nT a) = 3 := rfl
    have kb : kindOf (nT b) = 3 := rfl
    rw [cmpT, ka, kb, if_neg (by simp), if_pos (.inr rfl)]
    rfl
  rw [e]
  by_cases h1 : a < b
  · rw [cmpI_lt h1, beq_eq_false_iff_ne.2 (by omega : a ≠ b)]; rfl
  · by_cases h2 : b < a
    · rw [cmpI_gt h2, beq_eq_false_iff_ne.2 (by omega : a ≠ b)]; rfl
    · obtain rfl : a = b := by omega
      rw [cmpI_eq (Int.le_refl _) (Int.le_refl _)]; simp
theorem doc_same (a b : Int) (i : Nat) (o : Option Nat) : sameId (nT a) (docT b i o) = (b == a) := by
  unfold sameId
  rw [docT_id, nT_cmp]
end Go.Proofs.YtknakfpciccoaaaGreatDoor
/- quoted, path. -/
namespace Go.Proofs.YtknakfpciccoaaaGreatDoor
open Go.RowKit

set_option maxHeartbeats 4000000 in
set_option maxRecDepth 100000 in
theorem quoted_any (s : ByteArray) (w : World) (hs : s.size ≤ 1000) : Calls Tryz.prog 28 #[.string s] w fun e w' => e = .returned (.string ((⟨#[34]⟩ ++ s) ++ ⟨#[34]⟩)) ∧ w' = w := by
  obtain ⟨a1, e1, z1, r1⟩ := cat_run ⟨#[34]⟩ s 1 s.size rfl rfl (by omega)
  obtain ⟨a2, e2, z2, r2⟩ := cat_run a1 ⟨#[34]⟩ a1.size 1 rfl rfl (by omega)
  have E : Hid (a2 = (⟨#[34]⟩ ++ s) ++ ⟨#[34]⟩) := by show _ = _; rw [e2, e1]
  clear e1 e2 z1 z2
  go_enter Tryz.func28, Tryz.ntmps28
  go_wp2_with fail
  go_ret
  exact ⟨by rw [← E.out]; rfl, rfl⟩
/-- The paths that the statements make. -/
def pthL : List ByteArray := [⟨#[97]⟩, ⟨#[99]⟩, ⟨#[97, 46, 98]⟩, ⟨#[97, 46, 49]⟩, ⟨#[95, 105, 100]⟩, ⟨#[99, 46, 48]⟩]
def pth (k : Nat) : ByteArray := pthL.getD k ByteArray.empty
def pthN (c : Int) : Nat := (absZ c % 6).toNat
theorem pthN_lt (c : Int) : pthN c < 6 := by unfold pthN; omega
set_option maxHeartbeats 4000000 in
set_option maxRecDepth 100000 in
theorem path_any (c : Int) (w : World) (h0 : -9223372036854775808 ≤ c) (h1 : c ≤ 9223372036854775807) : Calls Tryz.prog 29 #[.int .i64 c] w fun e w' => e = .returned (.string (pth (pthN c))) ∧ Below w.heap.size w w' := by
  have HP : Hid (∀ w, Calls Tryz.prog 53 #[.int .i64 c, .int .i64 6] w fun e w' => e = .returned (.int .i64 (absZ c % 6)) ∧ w' = w) := fun w => pick_any c 6 w h0 h1 (by omega) (by omega)
  have HN : Hid (pthN c = (absZ c % 6).toNat) := rfl
  have hb : 0 ≤ absZ c % 6 ∧ absZ c % 6 < 6 := by omega
  generalize pthN c = pn at *
  obtain ⟨m, hm⟩ : ∃ m, absZ c % 6 = m := ⟨_, rfl⟩
  rw [hm] at HP HN hb
  clear hm h0 h1
  obtain h | h | h | h | h | h : m = 0 ∨ m = 1 ∨ m = 2 ∨ m = 3 ∨ m = 4 ∨ m = 5 := by omega
  all_goals
    subst h
    have hn := HN.out
    simp at hn
    subst hn
    clear HN hb
    go_enter Tryz.func29, Tryz.ntmps29
    go_wp2_with fail
    refine (HP.out _).mono ?_
    rintro e w2 ⟨rfl, rfl⟩
    go_wp2_with fail
    go_ret
    exact ⟨rfl, (Below.refl _ _).alloc (Nat.le_refl _) _⟩
end Go.Proofs.YtknakfpciccoaaaGreatDoor
