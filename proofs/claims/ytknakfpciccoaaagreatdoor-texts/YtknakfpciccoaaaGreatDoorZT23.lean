import Derived.Test.YtknakfpciccoaaaGreatDoorZT19
import Derived.Test.YtknakfpciccoaaaGreatDoorZT20
import Derived.Test.YtknakfpciccoaaaGreatDoorZT21
import Derived.Test.YtknakfpciccoaaaGreatDoorZT22
/- The walk of Texts: it returns true. -/
namespace Go.Proofs.YtknakfpciccoaaaGreatDoor
open Go.RowKit

/-- A value that comes out, and a number. -/
def OutT (t : T) (n : Int) (w : World) (e : Ending) (w' : World) : Prop :=
  Below w.heap.size w w' ∧ ∃ A B C D, e = .returned (.tuple #[.agg #[.int .i64 (kindOf t), .int .i64 (nOf t), .string (sOf t), .slice A (nL t) B, .slice C (nK t) D], .int .i64 n]) ∧ At w' 13 (.agg #[.int .i64 (kindOf t), .int .i64 (nOf t), .string (sOf t), .slice A (nL t) B, .slice C (nK t) D]) t
theorem parse_o {Tb : World → Prop} (hD : DecSaid Tb) (hN : IntSaid Tb) (hL : Lies Tb) (s : ByteArray) (w : World) (hs : s.size ≤ 140737488355328) (hT : Tb w) : Calls Tryz.prog 22 #[.string s] w (OutT (tJ s) (eJ s) w) := by
  refine (parse_u hD hN hL s w hs hT).mono ?_
  rintro e w' ⟨hb, es, A, B, C, D, rfl, hF, _⟩
  exact ⟨hb, A, B, C, D, rfl, hF.at⟩
theorem decode_o {Tb : World → Prop} (hV : ValidSaid Tb) (hL : Lies Tb) (s : ByteArray) (w : World) (hs : s.size ≤ 140737488355328) (hT : Tb w) : Calls Tryz.prog 24 #[.string s] w (OutT (tD s) (eD s) w) := by
  refine (decode_u hV hL s w hs hT).mono ?_
  rintro e w' ⟨hb, es, A, B, C, D, rfl, hF, _⟩
  exact ⟨hb, A, B, C, D, rfl, hF.at⟩
theorem vt_print : ((List.range 36).all fun i => decide (wrT 12 (tv i) = (vt i).data.toList)) = true := by kernel_rfl
theorem vt_wr {i : Nat} (h : i < 36) : baL (wrT 12 (tv i)) = vt i := by
  have := of_decide_eq_true (List.all_eq_true.1 vt_print i (List.mem_range.2 h))
  rw [this, baL_self]
/-- What comes behind: bytes. -/
def BytesSay (b : ByteArray) (t : T) (n : Int) : Prop := (n = 6 ∧ kindOf t = 0) ∨ (n = 0 ∧ isV t = true ∧ baL (encT 12 t) = b)
theorem bytes_say (b : ByteArray) : BytesSay b (tD b) (eD b) := by
  unfold BytesSay tD eD
  cases h : resT b with
  | none => exact .inl ⟨rfl, rfl⟩
  | some t =>
    obtain ⟨h1, h2⟩ := res_dec h
    exact .inr ⟨rfl, h2, h1.symm⟩
theorem ordL_can2 {g : T → T → Int} {m : Nat} {t : T} : ∀ k, k ≤ nL t → (∀ i, i < k → g (canT m (elt t i)) (elt t i) = 0) → ordL g (canT (m + 1) t) t k = 0
  | 0, _, _ => rfl
  | k + 1, hk, h => by
    rw [ordL_step (ordL_can2 k (by omega) fun i hi => h i (by omega)), canT_nam, cmpS_self, canT_elt m t (by omega), h k (by omega)]
    simp
theorem can_cmp : ∀ (f m : Nat) (t : T), Good m t → cmpT f (canT m t) t = 0
  | 0, m, t, _ => rfl
  | f + 1, m, t, hg => by
    have hb : isBox t = true → ordE (cmpT f) (canT m t) t = 0 := fun hb => by
      have hk : kindOf t = 5 ∨ kindOf t = 6 := by simpa [isBox] using hb
      cases m with
      | zero =>
        obtain ⟨_, _, h⟩ := hg
        rcases h with ⟨h, _⟩ | ⟨h, _⟩ | ⟨h, _⟩ | ⟨h, _⟩ <;> omega
      | succ m =>
        rcases hg with ⟨_, _, h⟩ | ⟨_, _, he, _⟩
        · rcases h with ⟨h, _⟩ | ⟨h, _⟩ | ⟨h, _⟩ | ⟨h, _⟩ <;> omega
        · unfold ordE
          rw [canT_nL, Nat.min_self, ordL_can2 (nL t) (Nat.le_refl _) (fun i hi => can_cmp f m _ (he i hi)), cmpI_self]
          simp
    have hbx : isBox (canT m t) = isBox t := by unfold isBox; rw [canT_kind]
    unfold cmpT
    rw [canT_kind, canT_n, canT_s, hbx, if_neg (by simp)]
    split
    · exact cmpI_self _
    · split
      · exact cmpS_self _
      · split
        · exact hb ‹_›
        · rfl
set_option maxHeartbeats 8000000 in
set_option maxRecDepth 100000 in
theorem Texts_any {Tb : World → Prop} (hI : ItoaSaid Tb) (hD : DecSaid Tb) (hN : IntSaid Tb) (hV : ValidSaid Tb) (hF : FmtSaid Tb) (hL : Lies Tb) (s b : ByteArray) (c : Int) (w : World) (hs : s.size ≤ 140737488355328) (hb : b.size ≤ 140737488355328) (c0 : -9223372036854775808 ≤ c) (c1 : c ≤ 9223372036854775807) (hT : Tb w) :
    Calls Tryz.prog 7 #[.string s, .string b, .int .i64 c] w fun e w' => e = .returned (.bool true) ∧ Below w.heap.size w w' := by
  have HT : Hid (∀ w' : World, Below w.heap.size w w' → Tb w') := fun w' hb => hL w hT w w' hT hb
  have HPs : Hid (∀ w', Below w.heap.size w w' → ∀ x : ByteArray, x.size ≤ 140737488355328 → Calls Tryz.prog 22 #[.string x] w' (OutT (tJ x) (eJ x) w')) := fun w' hw x hx => parse_o hD hN hL x w' hx (HT.out w' hw)
  have HDc : Hid (∀ w', Below w.heap.size w w' → ∀ x : ByteArray, x.size ≤ 140737488355328 → Calls Tryz.prog 24 #[.string x] w' (OutT (tD x) (eD x) w')) := fun w' hw x hx => decode_o hV hL x w' hx (HT.out w' hw)
  have HPr : Hid (∀ w', Below w.heap.size w w' → ∀ v t, At w' 13 v t → Calls Tryz.prog 13 #[v] w' fun e w2 => e = .returned (.tuple #[.string (ansS (isV t) (wrT 12 t)), .int .i64 (ansF (isV t))]) ∧ Below w'.heap.size w' w2) := fun w' hw v t ha => tPrint_any hV hF hL 13 v t w' ha (HT.out w' hw)
  have HEn : Hid (∀ w', Below w.heap.size w w' → ∀ v t, At w' 13 v t → Calls Tryz.prog 18 #[v] w' fun e w2 => e = .returned (.tuple #[.string (encS (isV t) (encT 12 t)), .int .i64 (encF (isV t))]) ∧ Below w'.heap.size w' w2) := fun w' hw v t ha => tEncode_any hV hL 13 v t w' ha (HT.out w' hw)
  have HCm : Hid (∀ w', Below w.heap.size w w' → ∀ va vb x y, At w' 13 va x → At w' 13 vb y → Calls Tryz.prog 23 #[va, vb] w' fun e w2 => e = .returned (.tuple #[.int .i64 (ansN (isV x && isV y) (cmpT 13 x y)), .int .i64 (ansE (isV x && isV y))]) ∧ Below w'.heap.size w' w2) := fun w' hw va vb x y ha hb => tCompare_any hV hL 13 13 va vb x y w' ha hb (HT.out w' hw)
  have H1 := hid (value_any' hI hL c w c0 c1 hT)
  have HSz := hid hs
  have HBz := hid hb
  clear hT hI hD hN hV hF hL c0 c1 hs hb
  go_enter Tryz.func7, Tryz.ntmps7
  go_wp2_with fail
  refine H1.out.mono ?_
  rintro e w1 ⟨sv, ⟨i, hi, rfl⟩, rfl, b1⟩
  have HB1 := hid b1
  have HP1 := hid (HPs.out w1 b1 (vt i) (by have := vt_le hi; omega))
  obtain ⟨h1, h2⟩ := vt_at hi
  have h3 := tv_ok hi
  have h4 := vt_wr hi
  rw [h1, h2] at HP1
  obtain ⟨u, hu⟩ : ∃ u, u = tv i := ⟨_, rfl⟩
  obtain ⟨sv, hsv⟩ : ∃ sv, sv = vt i := ⟨_, rfl⟩
  rw [← hu] at HP1 h3 h4
  rw [← hsv] at HP1 h4 ⊢
  have Hu := hid h3
  have Hw := hid h4
  clear b1 H1 h1 h2 h3 h4 hu hsv hi
  go_wp2_with fail
  refine HP1.out.mono ?_
  rintro e w2 ⟨b2, A1, B1, C1, D1, rfl, ha1⟩
  have HB2 := hid (HB1.out.trans (b2.mono HB1.out.size))
  have HB3 := hid (HB2.out.trans ((below_alloc w2 (.cells #[.int .i64 (kindOf u), .int .i64 (nOf u), .string (sOf u), .slice A1 (nL u) B1, .slice C1 (nK u) D1] 25)).mono HB2.out.size))
  have HA3 := hid (ha1.keep (below_alloc w2 (.cells #[.int .i64 (kindOf u), .int .i64 (nOf u), .string (sOf u), .slice A1 (nL u) B1, .slice C1 (nK u) D1] 25)))
  have HQ3 := hid (HPr.out _ HB3.out _ _ HA3.out)
  rw [Hu.out] at HQ3
  simp only [ansS, ansF, if_true] at HQ3
  rw [Hw.out] at HQ3
  clear b2 ha1 HP1 HB1
  go_wp2_with fail
  refine HQ3.out.mono ?_
  rintro e w4 ⟨rfl, b4⟩
  have HB4 := hid (HB3.out.trans (b4.mono HB3.out.size))
  have HP4 := hid (HPs.out w4 HB4.out s HSz.out)
  clear b4 HQ3 HA3 HB2 HB3
  generalize hz : w2.heap.size = z2
  clear hz
  obtain ⟨v, hv⟩ : ∃ v, v = tJ s := ⟨_, rfl⟩
  obtain ⟨ev, hev⟩ : ∃ ev, ev = eJ s := ⟨_, rfl⟩
  have HVv : Hid (ev = 0 → isV v = true) := fun h => by rw [hv]; exact parsed_isV (by rw [← hev]; exact h)
  rw [← hv, ← hev] at HP4
  clear hv hev
  go_wp2_with fail
  refine HP4.out.mono ?_
  rintro e w5 ⟨b5, A2, B2, C2, D2, rfl, ha5⟩
  have HB5 := hid (HB4.out.trans (b5.mono HB4.out.size))
  have HB6 := hid (HB5.out.trans ((below_alloc w5 (.cells #[.int .i64 (kindOf v), .int .i64 (nOf v), .string (sOf v), .slice A2 (nL v) B2, .slice C2 (nK v) D2] 25)).mono HB5.out.size))
  have HA6 := hid (ha5.keep (below_alloc w5 (.cells #[.int .i64 (kindOf v), .int .i64 (nOf v), .string (sOf v), .slice A2 (nL v) B2, .slice C2 (nK v) D2] 25)))
  have HX6 : Hid (Box (w5.alloc (.cells #[.int .i64 (kindOf v), .int .i64 (nOf v), .string (sOf v), .slice A2 (nL v) B2, .slice C2 (nK v) D2] 25)) w5.heap.size (.int .i64 (kindOf v)) (.int .i64 (nOf v)) (.string (sOf v)) (.slice A2 (nL v) B2) (.slice C2 (nK v) D2)) := Box.made _ _ _ _ _ _
  clear b5 ha5 HP4 HB4 HB5
  by_cases h0 : ev = 0
  · have HVw := hid (HVv.out h0)
    subst h0
    have HGv := hid ((isV_iff v).1 HVw.out)
    have HQ6 := hid (HPr.out _ HB6.out _ _ HA6.out)
    have HWr := hid (parse_wr HA6.out HGv.out.1)
    have HWl := hid (wr_len 12 13 _ v HA6.out HGv.out.1)
    have HEc := hid (res_enc HA6.out HVw.out)
    rw [HVw.out] at HQ6
    simp only [ansS, ansF, if_true] at HQ6
    have hqs : (baL (wrT 12 v)).size ≤ 140737488355328 := by rw [baL_size]; have := HWl.out; have := HGv.out.2; omega
    have HQc : Hid (((baL (wrT 12 v)).size ≤ 4000 ∧ eJ (baL (wrT 12 v)) = 0 ∧ tJ (baL (wrT 12 v)) = canT 12 v) ∨ (4000 < (baL (wrT 12 v)).size ∧ eJ (baL (wrT 12 v)) = 1)) := by
      have := HWr.out
      show _ ∨ _
      rw [baL_size]
      rcases Nat.lt_or_ge 4000 (wrT 12 v).length with h | h
      · exact .inr ⟨h, this.1 h⟩
      · exact .inl ⟨h, this.2 h⟩
    have HQp : Hid (∀ w', Below w.heap.size w w' → Calls Tryz.prog 22 #[.string (baL (wrT 12 v))] w' (OutT (tJ (baL (wrT 12 v))) (eJ (baL (wrT 12 v))) w')) := fun w' hw => HPs.out w' hw _ hqs
    clear HWr HWl hqs HVv
    obtain ⟨tq, htq⟩ : ∃ tq, tq = tJ (baL (wrT 12 v)) := ⟨_, rfl⟩
    obtain ⟨eq, heq⟩ : ∃ eq, eq = eJ (baL (wrT 12 v)) := ⟨_, rfl⟩
    rw [← htq, ← heq] at HQc HQp
    clear htq heq
    generalize baL (wrT 12 v) = q at HQ6 HQc HQp
    have hxs : (baL (encT 12 v)).size ≤ 140737488355328 := by rw [baL_size, encT_len 12 v HGv.out.1]; have := HGv.out.2; omega
    have HXd : Hid (∀ w', Below w.heap.size w w' → Calls Tryz.prog 24 #[.string (baL (encT 12 v))] w' (OutT (canT 12 v) 0 w')) := fun w' hw => by
      have := HDc.out w' hw _ hxs
      have e1 : tD (baL (encT 12 v)) = canT 12 v := by unfold tD; rw [HEc.out]; rfl
      have e2 : eD (baL (encT 12 v)) = 0 := by unfold eD; rw [HEc.out]; rfl
      rw [e1, e2] at this
      exact this
    have HXe : Hid (∀ w', Below w.heap.size w w' → ∀ va, At w' 13 va v → Calls Tryz.prog 18 #[va] w' fun e w2 => e = .returned (.tuple #[.string (baL (encT 12 v)), .int .i64 0]) ∧ Below w'.heap.size w' w2) := fun w' hw va ha => by
      have := HEn.out w' hw va v ha
      rw [HVw.out] at this
      exact this
    clear hxs HEc
    generalize baL (encT 12 v) = x at HXd HXe
    have HY : Hid (isV (canT 12 v) = true ∧ cmpT 13 (canT 12 v) v = 0 ∧ cmpT 13 v (canT 12 v) = 0) := ⟨isV_can HVw.out, can_cmp 13 12 v HGv.out.1, cmp_can 13 12 v HGv.out.1⟩
    obtain ⟨y, hy⟩ : ∃ y, y = canT 12 v := ⟨_, rfl⟩
    rw [← hy] at HY HXd HQc
    clear hy HGv
    go_wp2_with fail
    refine HQ6.out.mono ?_
    rintro e w7 ⟨rfl, b7⟩
    have HB7 := hid (HB6.out.trans (b7.mono HB6.out.size))
    have HA7 := hid (HA6.out.keep b7)
    have HX7 := hid (HX6.out.keep b7)
    generalize w5.heap.size = bv at HX7 ⊢
    clear b7 HQ6 HA6 HX6 HB6
    go_wp2_with fail
    refine (HQp.out w7 HB7.out).mono ?_
    rintro e w8 ⟨b8, A3, B3, C3, D3, rfl, ha8⟩
    have HB8 := hid (HB7.out.trans (b8.mono HB7.out.size))
    have HB9 := hid (HB8.out.trans ((below_alloc w8 (.cells #[.int .i64 (kindOf tq), .int .i64 (nOf tq), .string (sOf tq), .slice A3 (nL tq) B3, .slice C3 (nK tq) D3] 25)).mono HB8.out.size))
    have HA9 := hid ((HA7.out.keep b8).keep (below_alloc w8 (.cells #[.int .i64 (kindOf tq), .int .i64 (nOf tq), .string (sOf tq), .slice A3 (nL tq) B3, .slice C3 (nK tq) D3] 25)))
    have HX9 := hid ((HX7.out.keep b8).keep (below_alloc w8 (.cells #[.int .i64 (kindOf tq), .int .i64 (nOf tq), .string (sOf tq), .slice A3 (nL tq) B3, .slice C3 (nK tq) D3] 25)))
    have Hq9 := hid (ha8.keep (below_alloc w8 (.cells #[.int .i64 (kindOf tq), .int .i64 (nOf tq), .string (sOf tq), .slice A3 (nL tq) B3, .slice C3 (nK tq) D3] 25)))
    have HC9 := hid (HCm.out _ HB9.out _ _ _ _ HA9.out Hq9.out)
    have HN9 : Hid (eq = 0 → ansN (isV v && isV tq) (cmpT 13 v tq) = 0 ∧ ansE (isV v && isV tq) = 0) := fun h => by
      rcases HQc.out with ⟨_, _, h3⟩ | ⟨_, h3⟩
      · rw [h3, HVw.out, HY.out.1, HY.out.2.2]; exact ⟨rfl, rfl⟩
      · omega
    generalize ansN (isV v && isV tq) (cmpT 13 v tq) = n9 at HC9 HN9
    generalize ansE (isV v && isV tq) = j9 at HC9 HN9
    obtain ⟨⟨x0, x1, x2, x3, x4⟩, hx⟩ := HX9.out
    clear b8 ha8 HB7 HA7 HX7 HB8 Hq9 HQp
    go_wp2_with fail
    refine HC9.out.mono ?_
    rintro e wd ⟨rfl, bd⟩
    have HBd := hid (HB9.out.trans (bd.mono HB9.out.size))
    have HAd := hid (HA9.out.keep bd)
    have HXd9 := hid (HX9.out.keep bd)
    generalize w8.heap.size = bq at HXd9 ⊢
    clear bd HC9 HB9 HA9 HX9 x0 x1 x2 x3 x4 hx
    obtain ⟨⟨x0, x1, x2, x3, x4⟩, hx⟩ := HXd9.out
    go_wp2_with fail
    refine (HXe.out wd HBd.out _ HAd.out).mono ?_
    rintro e we ⟨rfl, be⟩
    have HBe := hid (HBd.out.trans (be.mono HBd.out.size))
    have HAe := hid (HAd.out.keep be)
    have HXe9 := hid (HXd9.out.keep be)
    clear be HBd HAd HXd9 x0 x1 x2 x3 x4 hx HXe
    go_wp2_with fail
    refine (HXd.out we HBe.out).mono ?_
    rintro e wf ⟨bf, A4, B4, C4, D4, rfl, haf⟩
    have HBf := hid (HBe.out.trans (bf.mono HBe.out.size))
    have HBg := hid (HBf.out.trans ((below_alloc wf (.cells #[.int .i64 (kindOf y), .int .i64 (nOf y), .string (sOf y), .slice A4 (nL y) B4, .slice C4 (nK y) D4] 25)).mono HBf.out.size))
    have HAg := hid ((HAe.out.keep bf).keep (below_alloc wf (.cells #[.int .i64 (kindOf y), .int .i64 (nOf y), .string (sOf y), .slice A4 (nL y) B4, .slice C4 (nK y) D4] 25)))
    have HXg := hid ((HXe9.out.keep bf).keep (below_alloc wf (.cells #[.int .i64 (kindOf y), .int .i64 (nOf y), .string (sOf y), .slice A4 (nL y) B4, .slice C4 (nK y) D4] 25)))
    have Hyg := hid (haf.keep (below_alloc wf (.cells #[.int .i64 (kindOf y), .int .i64 (nOf y), .string (sOf y), .slice A4 (nL y) B4, .slice C4 (nK y) D4] 25)))
    have HCg := hid (HCm.out _ HBg.out _ _ _ _ Hyg.out HAg.out)
    rw [HVw.out, HY.out.1, HY.out.2.1] at HCg
    simp only [ansN, ansE, Bool.and_self, if_true] at HCg
    obtain ⟨⟨x0, x1, x2, x3, x4⟩, hx⟩ := HXg.out
    clear bf haf HBe HAe HXe9 HBf Hyg HXd
    rcases HQc.out with ⟨hq1, hq2, hq3⟩ | ⟨hq1, hq2⟩
    · obtain ⟨h1, h2⟩ := HN9.out hq2
      subst hq2
      subst h1
      subst h2
      clear hq1 hq3 HQc
      go_wp2_with fail
      refine HCg.out.mono ?_
      rintro e wh ⟨rfl, bh⟩
      have HBt := hid (HBg.out.trans (bh.mono HBg.out.size))
      clear bh HCg HBg HAg HXg x0 x1 x2 x3 x4 hx
      have HDb := hid (HDc.out _ HBt.out b HBz.out)
      have HSay := hid (bytes_say b)
      generalize tD b = tb at HDb HSay
      generalize eD b = eb at HDb HSay
      go_wp2_with fail
      refine HDb.out.mono ?_
      rintro e wa ⟨ba, A9, B9, C9, D9, rfl, ha9⟩
      have HBa := hid (HBt.out.trans (ba.mono HBt.out.size))
      have HBb := hid (HBa.out.trans ((below_alloc wa (.cells #[.int .i64 (kindOf tb), .int .i64 (nOf tb), .string (sOf tb), .slice A9 (nL tb) B9, .slice C9 (nK tb) D9] 25)).mono HBa.out.size))
      have HAb := hid (ha9.keep (below_alloc wa (.cells #[.int .i64 (kindOf tb), .int .i64 (nOf tb), .string (sOf tb), .slice A9 (nL tb) B9, .slice C9 (nK tb) D9] 25)))
      clear ba ha9 HDb
      rcases HSay.out with ⟨hn, hk⟩ | ⟨hn, hv9, hw9⟩
      · subst hn
        have hk0 : (kindOf tb == 0) = true := by simp [hk]
        clear hk
        go_wp2_with fail
        go_ret
        exact ⟨rfl, HBb.out⟩
      · subst hn
        have HE9 := hid (HEn.out _ HBb.out _ _ HAb.out)
        rw [hv9] at HE9
        simp only [encS, encF, if_true] at HE9
        rw [hw9] at HE9
        clear hv9 hw9
        go_wp2_with fail
        refine HE9.out.mono ?_
        rintro e wc ⟨rfl, bc⟩
        have HBc := hid (HBb.out.trans (bc.mono HBb.out.size))
        clear bc HE9
        go_wp2_with fail
        go_ret
        exact ⟨rfl, HBc.out⟩
    · subst hq2
      have hq4 : (4000 : Int) < (q.size : Int) := by omega
      clear HQc
      go_wp2_with fail
      refine HCg.out.mono ?_
      rintro e wh ⟨rfl, bh⟩
      have HBt := hid (HBg.out.trans (bh.mono HBg.out.size))
      clear bh HCg HBg HAg HXg x0 x1 x2 x3 x4 hx
      have HDb := hid (HDc.out _ HBt.out b HBz.out)
      have HSay := hid (bytes_say b)
      generalize tD b = tb at HDb HSay
      generalize eD b = eb at HDb HSay
      go_wp2_with fail
      refine HDb.out.mono ?_
      rintro e wa ⟨ba, A9, B9, C9, D9, rfl, ha9⟩
      have HBa := hid (HBt.out.trans (ba.mono HBt.out.size))
      have HBb := hid (HBa.out.trans ((below_alloc wa (.cells #[.int .i64 (kindOf tb), .int .i64 (nOf tb), .string (sOf tb), .slice A9 (nL tb) B9, .slice C9 (nK tb) D9] 25)).mono HBa.out.size))
      have HAb := hid (ha9.keep (below_alloc wa (.cells #[.int .i64 (kindOf tb), .int .i64 (nOf tb), .string (sOf tb), .slice A9 (nL tb) B9, .slice C9 (nK tb) D9] 25)))
      clear ba ha9 HDb
      rcases HSay.out with ⟨hn, hk⟩ | ⟨hn, hv9, hw9⟩
      · subst hn
        have hk0 : (kindOf tb == 0) = true := by simp [hk]
        clear hk
        go_wp2_with fail
        go_ret
        exact ⟨rfl, HBb.out⟩
      · subst hn
        have HE9 := hid (HEn.out _ HBb.out _ _ HAb.out)
        rw [hv9] at HE9
        simp only [encS, encF, if_true] at HE9
        rw [hw9] at HE9
        clear hv9 hw9
        go_wp2_with fail
        refine HE9.out.mono ?_
        rintro e wc ⟨rfl, bc⟩
        have HBc := hid (HBb.out.trans (bc.mono HBb.out.size))
        clear bc HE9
        go_wp2_with fail
        go_ret
        exact ⟨rfl, HBc.out⟩
  · have e0 : (ev == 0) = false := by simpa using h0
    have HBt := hid HB6.out
    clear h0 HVv
    have HDb := hid (HDc.out _ HBt.out b HBz.out)
    have HSay := hid (bytes_say b)
    generalize tD b = tb at HDb HSay
    generalize eD b = eb at HDb HSay
    go_wp2_with fail
    refine HDb.out.mono ?_
    rintro e wa ⟨ba, A9, B9, C9, D9, rfl, ha9⟩
    have HBa := hid (HBt.out.trans (ba.mono HBt.out.size))
    have HBb := hid (HBa.out.trans ((below_alloc wa (.cells #[.int .i64 (kindOf tb), .int .i64 (nOf tb), .string (sOf tb), .slice A9 (nL tb) B9, .slice C9 (nK tb) D9] 25)).mono HBa.out.size))
    have HAb := hid (ha9.keep (below_alloc wa (.cells #[.int .i64 (kindOf tb), .int .i64 (nOf tb), .string (sOf tb), .slice A9 (nL tb) B9, .slice C9 (nK tb) D9] 25)))
    clear ba ha9 HDb
    rcases HSay.out with ⟨hn, hk⟩ | ⟨hn, hv9, hw9⟩
    · subst hn
      have hk0 : (kindOf tb == 0) = true := by simp [hk]
      clear hk
      go_wp2_with fail
      go_ret
      exact ⟨rfl, HBb.out⟩
    · subst hn
      have HE9 := hid (HEn.out _ HBb.out _ _ HAb.out)
      rw [hv9] at HE9
      simp only [encS, encF, if_true] at HE9
      rw [hw9] at HE9
      clear hv9 hw9
      go_wp2_with fail
      refine HE9.out.mono ?_
      rintro e wc ⟨rfl, bc⟩
      have HBc := hid (HBb.out.trans (bc.mono HBb.out.size))
      clear bc HE9
      go_wp2_with fail
      go_ret
      exact ⟨rfl, HBc.out⟩
end Go.Proofs.YtknakfpciccoaaaGreatDoor
