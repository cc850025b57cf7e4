import Derived.Test.YtknakfpciccoaaaGreatDoorZO35
/- The walk of filled. -/
namespace Go.Proofs.YtknakfpciccoaaaGreatDoor
open Go.RowKit

set_option maxHeartbeats 8000000 in
set_option maxRecDepth 100000 in
theorem filled_any {Tb : World → Prop} (hA : StoreSaid Tb) (v : Value) (n : Nat) (w : World) (hv : RawAt w v n) (hT : Tb w) :
    Calls Tryz.prog 25 #[v] w fun e w' => ∃ p l, e = .returned (.tuple #[.pointer (some ⟨p, 0, none⟩), .int .i64 (l.length : Nat)]) ∧ Below w.heap.size w w' ∧ DocsOf l ∧ l.length ≤ 30 ∧ StP w.heap.size w' p 2 (two (some l) (some l)) := by
  obtain ⟨A, cp, rfl, hn, hr⟩ := hv
  have HR := hid hr
  have HA := hid hA
  have HN := hid (new_any w)
  have HT : Hid (∀ w' : World, Below w.heap.size w w' → Tb w') := fun w' hb => hA.lies w hT w w' hT hb
  have HD : Hid (∀ (id c d : Int) (w : World), 0 ≤ id → id < 30 → -9223372036854775808 ≤ c → c ≤ 9223372036854775807 → -9223372036854775808 ≤ d → d ≤ 9223372036854775807 → Tb w → Calls Tryz.prog 61 #[.int .i64 id, .int .i64 c, .int .i64 d] w fun e w' => Below w.heap.size w w' ∧ ∃ i o, i < 36 ∧ (∀ j, o = some j → j < 36) ∧ e = .returned (.string (docS id i o))) := fun id c d w h1 h2 h3 h4 h5 h6 h7 => document_any hA.itoa hA.lies id c d w h1 h2 h3 h4 h5 h6 h7
  have HS0 := hid (StP.new w)
  have HB0 : Hid (Below w.heap.size w ((w.alloc (.map #[] 0)).alloc (.cells #[.map (some w.heap.size)] 102))) := ((Below.refl _ _).alloc (Nat.le_refl _) _).alloc (by simp) _
  clear hr hA hT
  go_enter Tryz.func25, Tryz.ntmps25
  go_wp2_with fail
  refine HN.out.mono ?_
  rintro e w1 ⟨rfl, rfl⟩
  generalize (w.alloc (.map #[] 0)).alloc (.cells #[.map (some w.heap.size)] 102) = w1 at HS0 HB0 ⊢
  generalize w.heap.size + 1 = p at HS0 ⊢
  have HC1 := hid (create_st HS0.out nX (by decide) (by omega) (by kernel_rfl) rfl)
  clear HN
  go_wp2_with fail
  refine HC1.out.mono ?_
  rintro e w2 ⟨rfl, b2, s2⟩
  have HB2 := hid (HB0.out.trans b2)
  have HC2 := hid (create_st s2 nY (by decide) (by omega) (by kernel_rfl) rfl)
  clear HC1 b2 s2 HS0 HB0
  go_wp2_with fail
  refine HC2.out.mono ?_
  rintro e w3 ⟨rfl, b3, s3⟩
  rw [one_two] at s3
  have HB3 := hid (HB2.out.trans b3)
  have HS3 := hid s3
  clear HC2 b3 s3 HB2
  go_wp2_with fail
  go_loopg [7, 8] 30 (fun g a i wr => ∃ (k q : Nat), g = 30 - k ∧ k ≤ 30 ∧ Hid (q = 2 * k) ∧ a = .int .i64 k ∧ i = .int .i64 q ∧ Hid (Below w.heap.size w wr) ∧ Hid (∃ l : List T, l.length = k ∧ DocsOf l ∧ StP w.heap.size wr p 2 (two (some l) (some l))))
  case atStart => exact ⟨0, 0, rfl, Nat.zero_le _, rfl, rfl, rfl, HB3, [], rfl, DocsOf.nil, HS3.out⟩
  case round =>
    clear HS3 HB3
    obtain ⟨k, q, rfl, hk, HQ, rfl, rfl, HB, HL⟩ := hrel
    have hq := HQ.out
    by_cases hlt : q + 1 < n ∧ k < 30
    · obtain ⟨h1, h2⟩ := hlt
      obtain ⟨b, o, z, hAe, hbl, c1, z0, z1⟩ := HR.out q (by omega)
      obtain ⟨b', o', z', hAe', _, c2, z0', z1'⟩ := HR.out (q + 1) (by omega)
      subst hAe
      simp only [Option.some.injEq, Addr.mk.injEq, and_true] at hAe'
      obtain ⟨rfl, rfl⟩ := hAe'
      have HSw : Hid (∀ w5 : World, Below wr.heap.size wr w5 → (w5.cell? ⟨b, o + q, none⟩ = some (.int .i64 z) ∧ w5.cell? ⟨b, o + (q + 1), none⟩ = some (.int .i64 z'))) := by
        intro w5 hh
        have hbw : b < wr.heap.size := Nat.lt_of_lt_of_le hbl HB.out.size
        exact ⟨(hh.cell (p := ⟨b, _, none⟩) hbw).trans ((HB.out.cell (p := ⟨b, _, none⟩) hbl).trans c1), (hh.cell (p := ⟨b, _, none⟩) hbw).trans ((HB.out.cell (p := ⟨b, _, none⟩) hbl).trans c2)⟩
      have HSd := hid (HSw.out wr.drew (below_drew wr))
      have HDk : Hid (∀ w5 : World, Below wr.heap.size wr w5 → Calls Tryz.prog 61 #[.int .i64 (k : Nat), .int .i64 z, .int .i64 z'] w5 fun e w' => Below w5.heap.size w5 w' ∧ ∃ i o, i < 36 ∧ (∀ j, o = some j → j < 36) ∧ e = .returned (.string (docS (k : Nat) i o))) := fun w5 hh => HD.out k z z' w5 (by omega) (by omega) z0 z1 z0' z1' (HT.out _ (HB.out.trans (hh.mono HB.out.size)))
      have x1 : (q : Int) + 1 < (n : Int) := by omega
      have x2 : (k : Int) < 30 := by omega
      have hw1 : IntKind.i64.wrap ((q : Int) + 1) = (q : Int) + 1 := by rw [IntKind.wrap_i64]; omega
      have y1 : (q : Int) < (n : Int) := by omega
      have y2 : (0 : Int) ≤ (q : Int) + 1 := by omega
      have y3 : ((q : Int) + 1).toNat = q + 1 := by omega
      have HX := hid (And.intro h1 h2)
      clear c1 c2 z0 z1 z0' z1' h1 h2 hq hbl
      go_wp2_with fail
      go_region_held3 (fun wx => wx.cell? ⟨b, o + q, none⟩ = some (.int .i64 z) ∧ wx.cell? ⟨b, o + (q + 1), none⟩ = some (.int .i64 z')) (first | exact hc5 | exact HSd.out) ((go_at_call 61; refine (HDk.out _ (below_drew wr)).mono ?_; rintro e5 w5 ⟨hb5, di, dq, hdi, hdq, rfl⟩; have hc5 := HSw.out _ ((below_drew wr).trans hb5)))
      have HB5 := hid (HB.out.trans (((below_drew wr).trans hb5).mono HB.out.size))
      have hkq : (k : Int) < 30 := x2
      obtain ⟨l, hll, hdo, hst⟩ := HL.out
      have HDo := hid hdo
      have Hll := hid hll
      have hz := docS_size (id := (k : Int)) (by omega) (by omega) hdi hdq
      have HPa := hid (doc_parse (id := (k : Int)) (by omega) (by omega) hdi hdq)
      have HIn := hid (doc_in (id := (k : Int)) (by omega) (by omega) hdi hdq)
      have HDi := hid (And.intro hdi hdq)
      generalize docS (k : Int) di dq = sd at *
      have HS1 := hid (hst.keep ((below_drew wr).trans hb5))
      have HFr : Hid (anyL (sameId (idT (tJ sd))) (mkT 5 0 ByteArray.empty l []) l.length = false) := by show _ = _; rw [HPa.out.2, ← hll]; exact hdo.fresh di dq
      have HI1 := hid (insert_st HA.out HS1.out nX sd l (by decide) (by omega) (two_x _ _) HIn.out HFr.out (by omega) (HT.out _ HB5.out))
      clear hb5 hc5 HSw HSd HDk hdo hst hll hdi hdq HL x1 y1 y2 y3 hw1 HB
      go_wp2_with fail
      refine HI1.out.mono ?_
      rintro e6 w6 ⟨rfl, b6, s6⟩
      rw [two_setx] at s6
      have HB6 := hid (HB5.out.trans b6)
      have HI2 := hid (insert_st HA.out s6 nY sd l (by decide) (by omega) (two_y _ _) HIn.out HFr.out (by have := Hll.out; omega) (HT.out _ HB6.out))
      clear b6 s6 HI1 HS1 HB5
      go_wp2_with fail
      refine HI2.out.mono ?_
      rintro e7 w7 ⟨rfl, b7, s7⟩
      rw [two_sety] at s7
      have HB7 := hid (HB6.out.trans b7)
      have HS7 := hid s7
      clear b7 s7 HI2 HB6
      have hq2 : (q : Int) + 2 < 9223372036854775807 := by have := HX.out; omega
      go_wp2_with fail
      go_roundg (30 - (k + 1))
      case rel =>
        refine ⟨k + 1, q + 2, rfl, by omega, (by show _ = _; have := HQ.out; omega), by go_num, by go_num, HB7, l ++ [tJ sd], by rw [List.length_append, Hll.out]; rfl, ?_, HS7.out⟩
        rw [HPa.out.2, ← Hll.out]
        exact HDo.out.snoc HDi.out.1 HDi.out.2
      case measure => omega
    · obtain ⟨l, hll, hdo, hst⟩ := HL.out
      have Hll := hid hll
      have HDo := hid hdo
      have HSt := hid hst
      have Hlen := hid hk
      have HF1 := hid (find_st HA.out hst nX allS l (by decide) (by decide) (two_x _ _) (by omega) allS_e allS_ok (HT.out _ HB.out))
      rw [all_filter, hll] at HF1
      clear hdo hst HL HD HR hll
      have hw1 : IntKind.i64.wrap ((q : Int) + 1) = (q : Int) + 1 := by rw [IntKind.wrap_i64]; omega
      by_cases x1 : q + 1 < n
      · have x1' : (q : Int) + 1 < (n : Int) := by omega
        obtain rfl : k = 30 := by omega
        clear hlt hq x1
        go_wp2_with fail
        refine HF1.out.mono ?_
        rintro e8 w8 ⟨b8, A8, c8, rfl, _⟩
        have HB8 := hid (HB.out.trans (b8.mono HB.out.size))
        have HS8 := hid (HSt.out.keep b8)
        have HF2 := hid (find_none HA.out HS8.out ⟨#[122]⟩ allS (by decide) (by decide) (two_none _ _ (by decide) (by decide)) allS_e allS_ok (HT.out _ HB8.out))
        clear b8 HF1
        go_wp2_with fail
        refine HF2.out.mono ?_
        rintro e9 w9 ⟨b9, rfl⟩
        have HB9 := hid (HB8.out.trans (b9.mono HB8.out.size))
        have HS9 := hid (HS8.out.keep b9)
        clear b9 HF2
        go_wp2_with fail
        refine bodyPost_ret (v := .tuple #[.pointer (some ⟨p, 0, none⟩), .int .i64 ((30 : Nat) : Int)]) (by simp [results, Tryz.results25, go_sem, *]) rfl ?_
        exact ⟨p, l, by rw [Hll.out], HB9.out, HDo.out, by rw [Hll.out]; exact Hlen.out, HS9.out⟩
      · have x1' : ¬ ((q : Int) + 1 < (n : Int)) := by omega
        clear hlt hq x1
        go_wp2_with fail
        refine HF1.out.mono ?_
        rintro e8 w8 ⟨b8, A8, c8, rfl, _⟩
        have HB8 := hid (HB.out.trans (b8.mono HB.out.size))
        have HS8 := hid (HSt.out.keep b8)
        have HF2 := hid (find_none HA.out HS8.out ⟨#[122]⟩ allS (by decide) (by decide) (two_none _ _ (by decide) (by decide)) allS_e allS_ok (HT.out _ HB8.out))
        clear b8 HF1
        go_wp2_with fail
        refine HF2.out.mono ?_
        rintro e9 w9 ⟨b9, rfl⟩
        have HB9 := hid (HB8.out.trans (b9.mono HB8.out.size))
        have HS9 := hid (HS8.out.keep b9)
        clear b9 HF2
        go_wp2_with fail
        refine bodyPost_ret (v := .tuple #[.pointer (some ⟨p, 0, none⟩), .int .i64 (k : Nat)]) (by simp [results, Tryz.results25, go_sem, *]) rfl ?_
        exact ⟨p, l, by rw [Hll.out], HB9.out, HDo.out, by rw [Hll.out]; exact Hlen.out, HS9.out⟩
end Go.Proofs.YtknakfpciccoaaaGreatDoor
/- The walk of Opposite. -/
namespace Go.Proofs.YtknakfpciccoaaaGreatDoor
open Go.RowKit

theorem cnt_not {α : Type} (p q : α → Bool) (h : ∀ x, q x = !(p x)) : ∀ l : List α, (l.filter p).length + (l.filter q).length = l.length
  | [] => rfl
  | x :: l => by
    have ih := cnt_not p q h l
    simp only [List.filter_cons, h x, List.length_cons]
    cases p x <;> simp <;> omega
theorem cnt_and_or {α : Type} (p q r s : α → Bool) (h : ∀ x, r x = (p x && q x)) (k : ∀ x, s x = (p x || q x)) : ∀ l : List α, (l.filter r).length + (l.filter s).length = (l.filter p).length + (l.filter q).length
  | [] => rfl
  | x :: l => by
    have ih := cnt_and_or p q r s h k l
    simp only [List.filter_cons, h x, k x]
    cases p x <;> cases q x <;> simp <;> omega
theorem wrap_small {a b : Nat} (ha : a ≤ 1000) (hb : b ≤ 1000) {k : Nat} (h : a + b = k) : IntKind.i64.wrap ((a : Int) + (b : Int)) = (k : Int) := by
  rw [IntKind.wrap_i64]
  omega
set_option maxHeartbeats 8000000 in
set_option maxRecDepth 100000 in
theorem Opposite_any {Tb : World → Prop} (hA : StoreSaid Tb) (v : Value) (n : Nat) (a b c d : Int) (w : World) (hv : RawAt w v n) (a0 : -9223372036854775808 ≤ a) (a1 : a ≤ 9223372036854775807) (b0 : -9223372036854775808 ≤ b) (b1 : b ≤ 9223372036854775807) (c0 : -9223372036854775808 ≤ c) (c1 : c ≤ 9223372036854775807) (d0 : -9223372036854775808 ≤ d) (d1 : d ≤ 9223372036854775807) (hT : Tb w) :
    Calls Tryz.prog 8 #[v, .int .i64 a, .int .i64 b, .int .i64 c, .int .i64 d] w fun e w' => e = .returned (.bool true) ∧ Below w.heap.size w w' := by
  have HFi := hid (filled_any hA v n w hv hT)
  have HT : Hid (∀ w' : World, Below w.heap.size w w' → Tb w') := fun w' hb => hA.lies w hT w w' hT hb
  have HFa := hid (fun w (ht : Tb w) => filterK_any hA.itoa hA.lies a b w a0 a1 b0 b1 ht)
  have HFc := hid (fun w (ht : Tb w) => filterK_any hA.itoa hA.lies c d w c0 c1 d0 d1 ht)
  have HPa := hid (fun w => path_any a w a0 a1)
  have HPx := hid (pth_r (pthN_lt a))
  have HTs := hid (fun w (ht : Tb w) => test_any hA.itoa hA.lies b w b0 b1 ht)
  obtain ⟨op, j, htr⟩ := tst_rep b
  have Htr := hid htr
  have hzt := htr.size
  have HA := hid hA
  clear htr hv hT a0 a1 b0 b1 c0 c1 d0 d1 hA
  generalize tstS b = st at HTs Htr hzt
  obtain ⟨px, hpx⟩ : ∃ px, pth (pthN a) = px := ⟨_, rfl⟩
  rw [hpx] at HPa HPx
  have hzx := HPx.out.small
  have HQu := hid (fun w => quoted_any px w (by omega))
  obtain ⟨qx, hqx⟩ : ∃ qx, (⟨#[34]⟩ ++ px) ++ ⟨#[34]⟩ = qx := ⟨_, rfl⟩
  rw [hqx] at HQu
  have hqz : qx.size ≤ 5 := by
    rw [← hqx]
    simp only [ByteArray.size_append]
    have : (⟨#[34]⟩ : ByteArray).size = 1 := rfl
    omega
  obtain ⟨o1, oe1, oz1, or1⟩ := cat_run ⟨#[123]⟩ qx 1 qx.size rfl rfl (by omega)
  obtain ⟨o2, oe2, oz2, or2⟩ := cat_run o1 ⟨#[58, 123]⟩ o1.size 2 rfl rfl (by omega)
  obtain ⟨o3, oe3, oz3, or3⟩ := cat_run o2 st o2.size st.size rfl rfl (by omega)
  obtain ⟨o4, oe4, oz4, or4⟩ := cat_run o3 ⟨#[125, 125]⟩ o3.size 2 rfl rfl (by omega)
  obtain ⟨t2, te2, tz2, tr2⟩ := cat_run o1 ⟨#[58, 123, 34, 36, 110, 111, 116, 34, 58, 123]⟩ o1.size 10 rfl rfl (by omega)
  obtain ⟨t3, te3, tz3, tr3⟩ := cat_run t2 st t2.size st.size rfl rfl (by omega)
  obtain ⟨t4, te4, tz4, tr4⟩ := cat_run t3 ⟨#[125, 125, 125]⟩ t3.size 3 rfl rfl (by omega)
  have HOne : Hid (eJ o4 = 0 ∧ tJ o4 = mkT 6 0 ByteArray.empty [mkT 6 0 ByteArray.empty [j] [op]] [px]) := by
    have h := ent_tst HPx.out Htr.out (s := ((((⟨#[34]⟩ ++ px) ++ ⟨#[34]⟩) ++ ⟨#[58, 123]⟩) ++ st) ++ ⟨#[125]⟩) (by simp only [app_list]; simp)
    refine (h.rep o4 ?_ 12 (by omega) (by omega)).parse (by omega)
    rw [oe4, oe3, oe2, oe1, ← hqx]
    simp only [app_list]
    simp
  have HTwo : Hid (eJ t4 = 0 ∧ tJ t4 = mkT 6 0 ByteArray.empty [notT op j] [px]) := by
    refine (ent_not HPx.out Htr.out (s := ((((⟨#[34]⟩ ++ px) ++ ⟨#[34]⟩) ++ ⟨#[58, 123, 34, 36, 110, 111, 116, 34, 58, 123]⟩) ++ st) ++ ⟨#[125, 125]⟩) (by simp only [app_list]; simp) t4 ?_).parse (by omega)
    rw [te4, te3, te2, oe1, ← hqx]
    simp only [app_list]
    simp
  have HZ : Hid (o4.size ≤ 1000 ∧ t4.size ≤ 1000) := ⟨by omega, by omega⟩
  clear hqx hpx hzx oe1 oz1 oe2 oz2 oe3 oz3 oe4 oz4 te2 tz2 te3 tz3 te4 tz4 hzt hqz
  go_enter Tryz.func8, Tryz.ntmps8
  go_wp2_with fail
  refine HFi.out.mono ?_
  rintro e w1 ⟨p, l, rfl, b1, hdo, hl, hst⟩
  have HB1 := hid b1
  have HFind : Hid (∀ (s : ByteArray) (t : T) (w2 : World), Below w1.heap.size w1 w2 → s.size ≤ 1000 → eJ s = 0 ∧ tJ s = t → okFil 16 t = true → Calls Tryz.prog 27 #[.pointer (some ⟨p, 0, none⟩), .string nX, .string s] w2 fun e w' => Below w2.heap.size w2 w' ∧ ∃ A c m, e = .returned (.tuple #[.slice A m c, .int .i64 0]) ∧ m = (l.filter (evF 16 t)).length) := by
    intro s t w2 hb hs ⟨h1, h2⟩ hk
    subst h2
    refine (find_st HA.out (hst.keep hb) nX s l (by decide) (by omega) (two_x _ _) (by omega) h1 hk (HT.out _ (b1.trans (hb.mono b1.size)))).mono ?_
    rintro e w' ⟨h3, A, c, rfl, _⟩
    exact ⟨h3, A, c, _, rfl, rfl⟩
  have HT1 : Hid (∀ w' : World, Below w1.heap.size w1 w' → Tb w') := fun w' hb => HT.out _ (b1.trans (hb.mono b1.size))
  have HLe : Hid (∀ q : T → Bool, (l.filter q).length ≤ 30) := fun q => Nat.le_trans (List.length_filter_le _ _) hl
  clear hst hdo hl b1 HFi HT HA
  generalize hln : l.length = ln
  have Hln := hid hln
  clear hln
  go_wp2_with fail
  refine (HFa.out _ (HT1.out _ (Below.refl _ _))).mono ?_
  rintro e w2 ⟨b2, f, tf, rfl, hf⟩
  have HB2 := hid b2
  have Hf := hid hf
  have hzf := (hf.rep 12 (by omega) (by omega)).size
  clear b2 hf HFa
  go_wp2_with fail
  refine (HFc.out _ (HT1.out _ HB2.out)).mono ?_
  rintro e w3 ⟨b3, g, tg, rfl, hg⟩
  have HB3 := hid (HB2.out.trans (b3.mono HB2.out.size))
  have Hg := hid hg
  have hzg := (hg.rep 12 (by omega) (by omega)).size
  clear b3 hg HFc HB2
  obtain ⟨n1, ne1, nz1, nr1⟩ := cat_run ⟨#[123, 34, 36, 110, 111, 114, 34, 58, 91]⟩ f 9 f.size rfl rfl (by omega)
  obtain ⟨n2, ne2, nz2, nr2⟩ := cat_run n1 ⟨#[93, 125]⟩ n1.size 2 rfl rfl (by omega)
  obtain ⟨x1, xe1, xz1, xr1⟩ := cat_run ⟨#[123, 34, 36, 97, 110, 100, 34, 58, 91]⟩ f 9 f.size rfl rfl (by omega)
  obtain ⟨x2, xe2, xz2, xr2⟩ := cat_run x1 ⟨#[44]⟩ x1.size 1 rfl rfl (by omega)
  obtain ⟨x3, xe3, xz3, xr3⟩ := cat_run x2 g x2.size g.size rfl rfl (by omega)
  obtain ⟨x4, xe4, xz4, xr4⟩ := cat_run x3 ⟨#[93, 125]⟩ x3.size 2 rfl rfl (by omega)
  obtain ⟨y1, ye1, yz1, yr1⟩ := cat_run ⟨#[123, 34, 36, 111, 114, 34, 58, 91]⟩ f 8 f.size rfl rfl (by omega)
  obtain ⟨y2, ye2, yz2, yr2⟩ := cat_run y1 ⟨#[44]⟩ y1.size 1 rfl rfl (by omega)
  obtain ⟨y3, ye3, yz3, yr3⟩ := cat_run y2 g y2.size g.size rfl rfl (by omega)
  obtain ⟨y4, ye4, yz4, yr4⟩ := cat_run y3 ⟨#[93, 125]⟩ y3.size 2 rfl rfl (by omega)
  have HNor := hid (fil_nor Hf.out (s' := n2) (by rw [ne2, ne1]; simp only [app_list]; simp))
  have HAnd := hid (fil_two Hf.out Hg.out (op := opAnd) (Pln.mk' (by kernel_rfl)) (s' := x4) (by rw [xe4, xe3, xe2, xe1]; simp only [app_list]; simp; rfl))
  have HOr := hid (fil_two Hf.out Hg.out (op := opOr) (Pln.mk' (by kernel_rfl)) (s' := y4) (by rw [ye4, ye3, ye2, ye1]; simp only [app_list]; simp; rfl))
  have HZ2 : Hid (n2.size ≤ 1000 ∧ x4.size ≤ 1000 ∧ y4.size ≤ 1000 ∧ f.size ≤ 1000 ∧ g.size ≤ 1000) := ⟨by omega, by omega, by omega, by omega, by omega⟩
  clear ne1 nz1 ne2 nz2 xe1 xz1 xe2 xz2 xe3 xz3 xe4 xz4 ye1 yz1 ye2 yz2 ye3 yz3 ye4 yz4 hzf hzg
  go_wp2_with fail
  refine (HFind.out f tf _ HB3.out HZ2.out.2.2.2.1 ((Hf.out.rep 12 (by omega) (by omega)).parse (by omega)) (Hf.out.ok 14)).mono ?_
  rintro e w4 ⟨b4, A1, C1, m1, rfl, hm1⟩
  have HB4 := hid (HB3.out.trans (b4.mono HB3.out.size))
  have Hm1 := hid hm1
  clear b4 hm1 HB3
  go_wp2_with fail
  refine (HFind.out g tg _ HB4.out HZ2.out.2.2.2.2 ((Hg.out.rep 12 (by omega) (by omega)).parse (by omega)) (Hg.out.ok 14)).mono ?_
  rintro e w5 ⟨b5, A2, C2, m2, rfl, hm2⟩
  have HB5 := hid (HB4.out.trans (b5.mono HB4.out.size))
  have Hm2 := hid hm2
  clear b5 hm2 HB4
  go_wp2_with fail
  refine (HFind.out n2 _ _ HB5.out HZ2.out.1 HNor.out (by rw [okFil_one]; exact okC_one _ (.inr (.inr rfl)) (Hf.out.ok 13))).mono ?_
  rintro e w6 ⟨b6, A3, C3, m3, rfl, hm3⟩
  have HB6 := hid (HB5.out.trans (b6.mono HB5.out.size))
  have Hm3 := hid hm3
  clear b6 hm3 HB5
  go_wp2_with fail
  refine (HFind.out x4 _ _ HB6.out HZ2.out.2.1 HAnd.out (by rw [okFil_one]; exact okC_two _ (.inl rfl) (Hf.out.ok 13) (Hg.out.ok 13))).mono ?_
  rintro e w7 ⟨b7, A4, C4, m4, rfl, hm4⟩
  have HB7 := hid (HB6.out.trans (b7.mono HB6.out.size))
  have Hm4 := hid hm4
  clear b7 hm4 HB6
  go_wp2_with fail
  refine (HFind.out y4 _ _ HB7.out HZ2.out.2.2.1 HOr.out (by rw [okFil_one]; exact okC_two _ (.inr (.inl rfl)) (Hf.out.ok 13) (Hg.out.ok 13))).mono ?_
  rintro e w8 ⟨b8, A5, C5, m5, rfl, hm5⟩
  have HB8 := hid (HB7.out.trans (b8.mono HB7.out.size))
  have Hm5 := hid hm5
  clear b8 hm5 HB7
  go_wp2_with fail
  refine (HPa.out _).mono ?_
  rintro e w9 ⟨rfl, b9⟩
  have HB9 := hid (HB8.out.trans (b9.mono HB8.out.size))
  clear b9 HB8
  go_wp2_with fail
  refine (HQu.out _).mono ?_
  rintro e w9 ⟨rfl, rfl⟩
  go_wp2_with fail
  refine (HTs.out _ (HT1.out _ HB9.out)).mono ?_
  rintro e w10 ⟨rfl, b10⟩
  have HB10 := hid (HB9.out.trans (b10.mono HB9.out.size))
  clear b10 HB9
  go_wp2_with fail
  refine (HFind.out o4 _ _ HB10.out HZ.out.1 HOne.out ((ent_tst HPx.out Htr.out (s := ((((⟨#[34]⟩ ++ px) ++ ⟨#[34]⟩) ++ ⟨#[58, 123]⟩) ++ st) ++ ⟨#[125]⟩) (by simp only [app_list]; simp)).ok 15)).mono ?_
  rintro e w11 ⟨b11, A6, C6, m6, rfl, hm6⟩
  have HB11 := hid (HB10.out.trans (b11.mono HB10.out.size))
  have Hm6 := hid hm6
  clear b11 hm6 HB10
  go_wp2_with fail
  refine (HTs.out _ (HT1.out _ HB11.out)).mono ?_
  rintro e w12 ⟨rfl, b12⟩
  have HB12 := hid (HB11.out.trans (b12.mono HB11.out.size))
  clear b12 HB11
  go_wp2_with fail
  refine (HFind.out t4 _ _ HB12.out HZ.out.2 HTwo.out (not_ok HPx.out Htr.out 15)).mono ?_
  rintro e w13 ⟨b13, A7, C7, m7, rfl, hm7⟩
  have HB13 := hid (HB1.out.trans ((HB12.out.trans (b13.mono HB12.out.size)).mono HB1.out.size))
  have Hm7 := hid hm7
  clear b13 hm7 HB12
  have hw1 : IntKind.i64.wrap ((m1 : Int) + (m3 : Int)) = (ln : Int) := by
    have h := cnt_not (evF 16 tf) (evF 16 (mkT 6 0 ByteArray.empty [mkT 5 0 ByteArray.empty [tf] []] [opNor])) (fun x => by obtain ⟨q, hq⟩ := Hf.out.ev; rw [evF_one, evC_nor, hq 13, hq 14]) l
    have k1 := HLe.out (evF 16 tf)
    have k2 := HLe.out (evF 16 (mkT 6 0 ByteArray.empty [mkT 5 0 ByteArray.empty [tf] []] [opNor]))
    rw [← Hm1.out] at h k1
    rw [← Hm3.out, Hln.out] at h
    rw [← Hm3.out] at k2
    exact wrap_small (by omega) (by omega) h
  have hw2 : IntKind.i64.wrap ((m6 : Int) + (m7 : Int)) = (ln : Int) := by
    have h := cnt_not (evF 16 (mkT 6 0 ByteArray.empty [mkT 6 0 ByteArray.empty [j] [op]] [px])) (evF 16 (mkT 6 0 ByteArray.empty [notT op j] [px])) (fun x => not_ev HPx.out Htr.out 15 x) l
    have k1 := HLe.out (evF 16 (mkT 6 0 ByteArray.empty [mkT 6 0 ByteArray.empty [j] [op]] [px]))
    have k2 := HLe.out (evF 16 (mkT 6 0 ByteArray.empty [notT op j] [px]))
    rw [← Hm6.out] at h k1
    rw [← Hm7.out, Hln.out] at h
    rw [← Hm7.out] at k2
    exact wrap_small (by omega) (by omega) h
  have h12 : m1 ≤ 30 ∧ m2 ≤ 30 := ⟨by rw [Hm1.out]; exact HLe.out _, by rw [Hm2.out]; exact HLe.out _⟩
  obtain ⟨sm, hsm⟩ : ∃ sm, m1 + m2 = sm := ⟨_, rfl⟩
  have hw3 : IntKind.i64.wrap ((m1 : Int) + (m2 : Int)) = (sm : Int) := wrap_small (by omega) (by omega) hsm
  have hw4 : IntKind.i64.wrap ((m4 : Int) + (m5 : Int)) = (sm : Int) := by
    have h := cnt_and_or (evF 16 tf) (evF 16 tg) (evF 16 (mkT 6 0 ByteArray.empty [mkT 5 0 ByteArray.empty [tf, tg] []] [opAnd])) (evF 16 (mkT 6 0 ByteArray.empty [mkT 5 0 ByteArray.empty [tf, tg] []] [opOr]))
      (fun x => by obtain ⟨q, hq⟩ := Hf.out.ev; obtain ⟨r, hr⟩ := Hg.out.ev; rw [evF_one, evC_and, hq 13, hr 13, hq 14, hr 14]) (fun x => by obtain ⟨q, hq⟩ := Hf.out.ev; obtain ⟨r, hr⟩ := Hg.out.ev; rw [evF_one, evC_or, hq 13, hr 13, hq 14, hr 14]) l
    have k1 := HLe.out (evF 16 (mkT 6 0 ByteArray.empty [mkT 5 0 ByteArray.empty [tf, tg] []] [opAnd]))
    have k2 := HLe.out (evF 16 (mkT 6 0 ByteArray.empty [mkT 5 0 ByteArray.empty [tf, tg] []] [opOr]))
    rw [← Hm4.out, ← Hm5.out, ← Hm1.out, ← Hm2.out, hsm] at h
    rw [← Hm4.out] at k1
    rw [← Hm5.out] at k2
    exact wrap_small (by omega) (by omega) h
  clear h12 hsm Hm1 Hm2 Hm3 Hm4 Hm5 Hm6 Hm7
  go_wp2_with fail
  go_ret
  exact ⟨rfl, HB13.out⟩
end Go.Proofs.YtknakfpciccoaaaGreatDoor
