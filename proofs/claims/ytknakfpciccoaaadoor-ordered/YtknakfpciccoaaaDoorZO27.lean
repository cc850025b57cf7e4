import Derived.Test.YtknakfpciccoaaaDoorZO26
import Derived.Test.YtknakfpciccoaaaDoorZO19
import Derived.Test.YtknakfpciccoaaaDoorZO22
/- The walk of the reference's parser: a value that is a word, a list or an object. -/
namespace Go.Proofs.YtknakfpciccoaaaDoor
open Go.RowKit

def wd (k : Nat) : ByteArray := if k = 0 then wNull else if k = 1 then wFalse else wTrue
theorem wd_size (k : Nat) : (wd k).size ≤ 100 := by unfold wd; split <;> (try split) <;> decide
/-- Three words, in a row of their own. -/
structure W3 (b : Nat) (w : World) : Prop where
  q0 : w.cell? ⟨b, 0, none⟩ = some (.string wNull)
  q1 : w.cell? ⟨b, 1, none⟩ = some (.string wFalse)
  q2 : w.cell? ⟨b, 2, none⟩ = some (.string wTrue)
  lt : b < w.heap.size
theorem W3.move {b : Nat} {w w' : World} (h : W3 b w) (hs : w.heap.size ≤ w'.heap.size) (hb : w'.heap[b]? = w.heap[b]?) : W3 b w' :=
  ⟨(cell_of hb _).trans h.q0, (cell_of hb _).trans h.q1, (cell_of hb _).trans h.q2, Nat.lt_of_lt_of_le h.lt hs⟩
theorem w3_new (w : World) : W3 w.heap.size (w.alloc (.cells #[.string wNull, .string wFalse, .string wTrue] 9)) := by
  refine ⟨?_, ?_, ?_, ?_⟩ <;> simp [go_sem]
theorem bareV_rest {f : Nat → Option (T × Nat)} {s : ByteArray} {j : Nat} (h1 : cB s j ≠ 34) (h4 : ¬ (cB s j = 45 ∨ isD (cB s j) = true)) (h2 : cB s j ≠ 91) (h3 : cB s j ≠ 123) (w0 : pfx s j wNull = false) (w1 : pfx s j wFalse = false) (w2 : pfx s j wTrue = false) : bareV f s j = none := by
  unfold bareV
  rw [if_neg h1, if_neg h2, if_neg h3, if_neg h4, if_neg (by rw [w0]; simp), if_neg (by rw [w2]; simp), if_neg (by rw [w1]; simp)]
theorem bareV_null {f : Nat → Option (T × Nat)} {s : ByteArray} {j : Nat} (h : pfx s j wNull = true) : bareV f s j = some (leafT 1 0 ByteArray.empty, j + 4) := by
  have hc : cB s j = 110 := pfx_head (t := wNull) (c := 110) (r := [117, 108, 108]) rfl h
  unfold bareV
  rw [if_neg (by omega), if_neg (by omega), if_neg (by omega), if_neg (by unfold isD; simp; omega), if_pos h]
theorem bareV_true {f : Nat → Option (T × Nat)} {s : ByteArray} {j : Nat} (h : pfx s j wTrue = true) : bareV f s j = some (leafT 2 1 ByteArray.empty, j + 4) := by
  have hc : cB s j = 116 := pfx_head (t := wTrue) (c := 116) (r := [114, 117, 101]) rfl h
  have h0 : pfx s j wNull = false := by
    cases h0 : pfx s j wNull with
    | false => rfl
    | true => have := pfx_head (t := wNull) (c := 110) (r := [117, 108, 108]) rfl h0; rw [hc] at this; cases this
  unfold bareV
  rw [if_neg (by omega), if_neg (by omega), if_neg (by omega), if_neg (by unfold isD; simp; omega), if_neg (by rw [h0]; simp), if_pos h]
theorem bareV_false {f : Nat → Option (T × Nat)} {s : ByteArray} {j : Nat} (h : pfx s j wFalse = true) : bareV f s j = some (leafT 2 0 ByteArray.empty, j + 5) := by
  have hc : cB s j = 102 := pfx_head (t := wFalse) (c := 102) (r := [97, 108, 115, 101]) rfl h
  have h0 : pfx s j wNull = false := by
    cases h0 : pfx s j wNull with
    | false => rfl
    | true => have := pfx_head (t := wNull) (c := 110) (r := [117, 108, 108]) rfl h0; rw [hc] at this; cases this
  have h1 : pfx s j wTrue = false := by
    cases h1 : pfx s j wTrue with
    | false => rfl
    | true => have := pfx_head (t := wTrue) (c := 116) (r := [114, 117, 101]) rfl h1; rw [hc] at this; cases this
  unfold bareV
  rw [if_neg (by omega), if_neg (by omega), if_neg (by omega), if_neg (by unfold isD; simp; omega), if_neg (by rw [h0]; simp), if_neg (by rw [h1]; simp), if_pos h]
/-- What holds while the words are tried. -/
structure WI (c : Nat) (s : ByteArray) (j b k : Nat) (w wr : World) : Prop where
  rd : RL c s j false wr
  res : BoxAt w.heap.size (.int .i64 0) (.int .i64 0) (.string ⟨#[]⟩) (.slice none 0 0) (.slice none 0 0) wr
  row : W3 b wr
  but : But c w wr
  lc : c < w.heap.size
  lb : w.heap.size < b
  not : ∀ i, i < k → pfx s j (wd i) = false
theorem WI.next {c : Nat} {s : ByteArray} {j b k : Nat} {w wr w1 : World} (h : WI c s j b k w wr) (hB : But c wr w1) (hL : RL c s j false w1) (hp : pfx s j (wd k) = false) : WI c s j b (k + 1) w w1 := by
  have h1 := h.lc
  have h2 := h.lb
  refine ⟨hL, h.res.move hB.size (hB.block _ h.res.lt (by omega)), h.row.move hB.size (hB.block _ h.row.lt (by omega)), h.but.trans hB, h1, h2, fun i hi => ?_⟩
  by_cases e : i = k
  · subst e; exact hp
  · exact h.not i (by omega)
def RestPost (n c : Nat) (s : ByteArray) (i : Nat) (w : World) : Ending → World → Prop := RVPost (n + 1) c s (valN s (n + 1) i) w
set_option maxHeartbeats 8000000 in
set_option maxRecDepth 100000 in
theorem rval_rest (n c : Nat) (s : ByteArray) (ih : RSaid s n) (i : Nat) (w : World) (h : RL c s i false w) (hs : s.size ≤ 4000) (hi : i ≤ s.size) (hn : s.size < i + n + 1) (h34 : cB s (sk s i) ≠ 34) (h45 : ¬ (cB s (sk s i) = 45 ∨ isD (cB s (sk s i)) = true)) :
    Calls Tryd.prog 21 #[.pointer (some ⟨c, 0, none⟩)] w (RestPost n c s i w) := by
  have HB0 : Hid (Below w.heap.size w (w.alloc (.cells #[.int .i64 0, .int .i64 0, .string ⟨#[]⟩, .slice none 0 0, .slice none 0 0] 26))) := (Below.refl _ _).alloc (Nat.le_refl _) _
  have HR0 : Hid (BoxAt w.heap.size (.int .i64 0) (.int .i64 0) (.string ⟨#[]⟩) (.slice none 0 0) (.slice none 0 0) (w.alloc (.cells #[.int .i64 0, .int .i64 0, .string ⟨#[]⟩, .slice none 0 0, .slice none 0 0] 26))) := box_new w _ _ _ _ _
  have hlc := h.lt
  have HK := hid (blanks_any c s i false _ (h.keep HB0.out) hs (by omega))
  have hle := sk_le hi
  have hge := sk_ge s i
  have Hid2 := hid (sk_idem s i)
  have HX : Hid (valN s (n + 1) i = bareV (valN s n) s (sk s i)) := by show _ = _; rw [valN]
  have H34 := hid h34
  have H45 := hid h45
  have HI := hid ih
  have p1 : ((pk s (sk s i) : Int) == 34) = false := by have := pk_ne h34 (by omega); rw [beq_eq_false_iff_ne]; omega
  have p4 : ((pk s (sk s i) : Int) == 45) = false := by have := pk_ne (s := s) (j := sk s i) (a := 45) (fun e => h45 (Or.inl e)) (by omega); rw [beq_eq_false_iff_ne]; omega
  have p5 : isD (pk s (sk s i)) = false := by rw [isD_pk]; simpa using fun e => h45 (Or.inr e)
  clear h h34 h45 ih
  generalize sk s i = j at *
  obtain ⟨a, ha⟩ : ∃ a, pk s j = a := ⟨_, rfl⟩
  rw [ha] at p1 p4 p5
  go_enter Tryd.func21, Tryd.ntmps21
  go_wp2_with fail
  refine HK.out.mono ?_
  rintro e w1 ⟨rfl, B1, L1⟩
  have HL1 := hid L1
  have HR1 := hid (HR0.out.move B1.size (B1.block _ HR0.out.lt (by omega)))
  have HW1 := hid ((But.of (c := c) HB0.out).trans B1)
  have HP := hid (rpeek_any c s j false w1 L1)
  rw [ha] at HP
  clear B1 L1 HK HR0 HB0 ha
  go_wp2_with fail
  refine HP.out.mono ?_
  rintro e w2 ⟨rfl, b2⟩
  have HL2 := hid (HL1.out.keep b2)
  have HR2 := hid (HR1.out.keepB b2)
  have HW2 := hid (HW1.out.trans (But.of b2))
  have HDg := hid (rdigit_any a w2)
  rw [p5] at HDg
  have hlo := HR2.out.lt
  clear b2 HP HL1 HR1 HW1 p5
  have q2 := HL2.out.q2
  go_wp2_with fail
  refine HDg.out.mono ?_
  rintro e w2 ⟨rfl, rfl⟩
  have HI2 : Hid (WI c s j w2.heap.size 0 w (w2.alloc (.cells #[.string wNull, .string wFalse, .string wTrue] 9))) := by
    have hb : Below w2.heap.size w2 (w2.alloc (.cells #[.string wNull, .string wFalse, .string wTrue] 9)) := (Below.refl _ _).alloc (Nat.le_refl _) _
    exact ⟨HL2.out.keep hb, HR2.out.keepB hb, w3_new w2, HW2.out.trans (But.of hb), hlc, hlo, fun i hi => by omega⟩
  clear HDg HL2 HR2 HW2 q2
  generalize hbk : w2.heap.size = bk at HI2 hlo
  go_wp2_with fail
  clear hbk p1 p4
  have HI2' : Hid (WI c s j bk 0 w (w2.alloc (.cells #[.string ⟨#[110, 117, 108, 108]⟩, .string ⟨#[102, 97, 108, 115, 101]⟩, .string ⟨#[116, 114, 117, 101]⟩] 9))) := HI2
  clear HI2
  go_loopg [5] 3 (fun g v wr => ∃ k : Nat, g = 3 - k ∧ k ≤ 3 ∧ v = .int .i64 (k : Int) ∧ Hid (WI c s j bk k w wr))
  case atStart => exact ⟨0, rfl, by omega, rfl, HI2'⟩
  case round =>
    clear HI2'
    obtain ⟨k, rfl, hk, rfl, HWk⟩ := hrel
    by_cases hk3 : k < 3
    · have HH := hid (has_any c s j (wd k) wr HWk.out.rd hs hle (wd_size k))
      rw [Hid2.out] at HH
      have t0 := HWk.out.row.q0
      have t1 := HWk.out.row.q1
      have t2 := HWk.out.row.q2
      cases hp : pfx s j (wd k) with
      | false =>
        rw [hp, if_neg (by simp)] at HH
        have Hp := hid hp
        clear hp
        obtain rfl | rfl | rfl : k = 0 ∨ k = 1 ∨ k = 2 := by omega
        all_goals
          go_wp2_with fail
          refine HH.out.mono ?_
          rintro e w3 ⟨rfl, B3, L3⟩
          have HW3 := hid (HWk.out.next B3 L3 Hp.out)
          clear B3 L3 HH t0 t1 t2 HWk
          go_wp2_with fail
        · go_roundg (3 - 1)
          case rel => exact ⟨1, rfl, by omega, rfl, HW3⟩
          case measure => omega
        · go_roundg (3 - 2)
          case rel => exact ⟨2, rfl, by omega, rfl, HW3⟩
          case measure => omega
        · go_roundg (3 - 3)
          case rel => exact ⟨3, rfl, by omega, rfl, HW3⟩
          case measure => omega
      | true =>
        rw [hp, if_pos rfl] at HH
        have Hp := hid hp
        clear hp
        obtain rfl | rfl | rfl : k = 0 ∨ k = 1 ∨ k = 2 := by omega
        all_goals
          go_wp2_with fail
          refine HH.out.mono ?_
          rintro e w3 ⟨rfl, B3, L3⟩
          have HR3 := hid (HWk.out.res.move B3.size (B3.block _ HWk.out.res.lt (by omega)))
          have HB3 := hid (HWk.out.but.trans B3)
          have HL3 := hid L3
          clear B3 L3 HH t0 t1 t2 HWk
          have r0 := HR3.out.q0
          have r1 := HR3.out.q1
          have r2 := HR3.out.q2
          have r3 := HR3.out.q3
          have r4 := HR3.out.q4
          have s0 := HR3.out.f0
          have s1 := HR3.out.f1
          have s2 := HR3.out.f2
          have s3 := HR3.out.f3
          have s4 := HR3.out.f4
          go_wp2_with fail
        · refine bodyPost_ret (v := .agg #[.int .i64 1, .int .i64 0, .string ⟨#[]⟩, .slice none 0 0, .slice none 0 0]) (by simp [results, Tryd.results21, go_sem, *]) rfl ?_
          exact fin_r 1 0 ByteArray.empty (by omega) (by omega) (by omega) (by simp) (HX.out.trans (bareV_null Hp.out)) HB3.out hlc HL3.out
        · refine bodyPost_ret (v := .agg #[.int .i64 2, .int .i64 0, .string ⟨#[]⟩, .slice none 0 0, .slice none 0 0]) (by simp [results, Tryd.results21, go_sem, *]) rfl ?_
          exact fin_r 2 0 ByteArray.empty (by omega) (by omega) (by omega) (by simp) (HX.out.trans (bareV_false Hp.out)) HB3.out hlc HL3.out
        · refine bodyPost_ret (v := .agg #[.int .i64 2, .int .i64 1, .string ⟨#[]⟩, .slice none 0 0, .slice none 0 0]) (by simp [results, Tryd.results21, go_sem, *]) rfl ?_
          exact fin_r 2 1 ByteArray.empty (by omega) (by omega) (by omega) (by simp) (HX.out.trans (bareV_true Hp.out)) HB3.out hlc HL3.out
    · obtain rfl : k = 3 := by omega
      have hlo2 := HWk.out.res.lt
      by_cases h91 : cB s j = 91
      · have hjl : j < s.size := cB_in (by omega)
        have HY : Hid (valN s (n + 1) i = (boxS (valN s n) s false (j + 1)).map fun r => (mkT ((5 : Nat) : Int) 0 ByteArray.empty r.1.2 r.1.1, r.2)) := by show _ = _; rw [HX.out]; unfold bareV; rw [if_neg H34.out, if_pos h91]; rfl
        have HO := hid (one_yes c s j 91 wr HWk.out.rd hs hle (by rw [Hid2.out]; exact h91))
        rw [Hid2.out] at HO
        clear h91
        go_wp2_with fail
        refine HO.out.mono ?_
        rintro e w3 ⟨rfl, B3, L3⟩
        have HR3 := hid (HWk.out.res.move B3.size (B3.block _ HWk.out.res.lt (by omega)))
        have HB3 := hid (HWk.out.but.trans B3)
        have HC := hid (rlist_any n s HI.out c (j + 1) w3 L3 hs (by omega) (by omega))
        have hlo3 := HR3.out.lt
        clear B3 L3 HO HWk
        go_wp2_with fail
        refine HC.out.mono ?_
        intro e w4 hpost
        unfold RLPost at hpost
        rw [← HY.out] at hpost
        obtain ⟨t, A, B, C, D, rfl, hbox, hfin⟩ := fin_rv (m := n + 1) HB3.out hlc hlo3 hpost rfl
        have HR4 := hid (hbox HR3.out)
        have HFin := hid hfin
        clear hpost hbox hfin HC HR3
        have r0 := HR4.out.q0
        have r1 := HR4.out.q1
        have r2 := HR4.out.q2
        have r3 := HR4.out.q3
        have r4 := HR4.out.q4
        have s0 := HR4.out.f0
        have s1 := HR4.out.f1
        have s2 := HR4.out.f2
        have s3 := HR4.out.f3
        have s4 := HR4.out.f4
        go_wp2_with fail
        refine bodyPost_ret (v := .agg #[.int .i64 (kindOf t), .int .i64 (nOf t), .string (sOf t), .slice A (nL t) B, .slice C (nK t) D]) (by simp [results, Tryd.results21, go_sem, *]) rfl ?_
        exact HFin.out
      · have HO := hid (one_no c s j 91 wr HWk.out.rd hs hle (by rw [Hid2.out]; exact h91))
        rw [Hid2.out] at HO
        have H91 := hid h91
        have H0 := hid (HWk.out.not 0 (by omega))
        have H1 := hid (HWk.out.not 1 (by omega))
        have H2 := hid (HWk.out.not 2 (by omega))
        clear h91
        go_wp2_with fail
        refine HO.out.mono ?_
        rintro e w3 ⟨rfl, B3, L3⟩
        have HR3 := hid (HWk.out.res.move B3.size (B3.block _ HWk.out.res.lt (by omega)))
        have HB3 := hid (HWk.out.but.trans B3)
        have HL3 := hid L3
        clear B3 L3 HO HWk
        have HC : Hid (∀ w4, But c w w4 → w.heap.size < w4.heap.size → (∃ j', (cB s j = 123 ∧ j' = j + 1 ∧ RL c s j' false w4) ∨ (cB s j ≠ 123 ∧ RB c s w4)) → Calls Tryd.prog 48 #[.pointer (some ⟨c, 0, none⟩)] w4 (RVPost (n + 1) c s (valN s (n + 1) i) w4)) := by
          rintro w4 _ _ ⟨j', ⟨h1, rfl, h2⟩ | ⟨h1, h2⟩⟩
          · have hjl : j < s.size := cB_in (by omega)
            have := robject_any n s HI.out c (j + 1) w4 h2 hs (by omega) (by omega)
            unfold RLPost at this
            have HY : valN s (n + 1) i = (boxS (valN s n) s true (j + 1)).map fun r => (mkT ((6 : Nat) : Int) 0 ByteArray.empty r.1.2 r.1.1, r.2) := by rw [HX.out]; unfold bareV; rw [if_neg H34.out, if_neg H91.out, if_pos h1]; rfl
            rw [HY]
            exact this
          · have HY : valN s (n + 1) i = none := HX.out.trans (bareV_rest H34.out H45.out H91.out h1 H0.out H1.out H2.out)
            rw [HY]
            exact robject_bad n c s w4 h2 hs
        have HM : Hid (Calls Tryd.prog 47 #[.pointer (some ⟨c, 0, none⟩), .string ⟨#[123]⟩] w3 fun e w' => e = .returned (.tuple #[]) ∧ But c w3 w' ∧ ∃ j', (cB s j = 123 ∧ j' = j + 1 ∧ RL c s j' false w') ∨ (cB s j ≠ 123 ∧ RB c s w')) := by
          by_cases h123 : cB s j = 123
          · have := must1_yes c s j 123 w3 HL3.out hs hle (by rw [Hid2.out]; exact h123)
            rw [Hid2.out] at this
            exact this.mono fun e w' ⟨h1, h2, h3⟩ => ⟨h1, h2, j + 1, Or.inl ⟨h123, rfl, h3⟩⟩
          · exact (must1_no c s j 123 w3 HL3.out hs hle (by rw [Hid2.out]; exact h123)).mono fun e w' ⟨h1, h2, h3⟩ => ⟨h1, h2, 0, Or.inr ⟨h123, h3⟩⟩
        go_wp2_with fail
        refine HM.out.mono ?_
        rintro e w4 ⟨rfl, B4, hst⟩
        have HR4 := hid (HR3.out.move B4.size (B4.block _ HR3.out.lt (by omega)))
        have HB4 := hid (HB3.out.trans B4)
        have hlo4 := HR4.out.lt
        have HC4 := hid (HC.out w4 HB4.out hlo4 hst)
        clear B4 hst HM HC HR3 HB3 HL3
        go_wp2_with fail
        refine HC4.out.mono ?_
        intro e w5 hpost
        obtain ⟨t, A, B, C, D, rfl, hbox, hfin⟩ := fin_rv (m := n + 1) HB4.out hlc hlo4 hpost rfl
        have HR5 := hid (hbox HR4.out)
        have HFin := hid hfin
        clear hpost hbox hfin HC4 HR4
        have r0 := HR5.out.q0
        have r1 := HR5.out.q1
        have r2 := HR5.out.q2
        have r3 := HR5.out.q3
        have r4 := HR5.out.q4
        have s0 := HR5.out.f0
        have s1 := HR5.out.f1
        have s2 := HR5.out.f2
        have s3 := HR5.out.f3
        have s4 := HR5.out.f4
        go_wp2_with fail
        refine bodyPost_ret (v := .agg #[.int .i64 (kindOf t), .int .i64 (nOf t), .string (sOf t), .slice A (nL t) B, .slice C (nK t) D]) (by simp [results, Tryd.results21, go_sem, *]) rfl ?_
        exact HFin.out
theorem rv_step (n : Nat) (s : ByteArray) (hs : s.size ≤ 4000) (ih : RSaid s n) : RSaid s (n + 1) := by
  intro c i w h hi hn
  by_cases h34 : cB s (sk s i) = 34
  · exact rval_text n c s i w h hs hi h34
  by_cases h45 : cB s (sk s i) = 45 ∨ isD (cB s (sk s i)) = true
  · exact rval_num n c s i w h hs hi h45
  · exact rval_rest n c s ih i w h hs hi (by omega) h34 h45
theorem rv_any (s : ByteArray) (hs : s.size ≤ 4000) : ∀ n, RSaid s n
  | 0 => fun c i w _ hi hn => by omega
  | n + 1 => rv_step n s hs (rv_any s hs n)
end Go.Proofs.YtknakfpciccoaaaDoor
/- The walk of the reference's Parse. -/
namespace Go.Proofs.YtknakfpciccoaaaDoor
open Go.RowKit

theorem rl_new (w : World) (s : ByteArray) : RL w.heap.size s 0 false (w.alloc (.cells #[.string s, .int .i64 0, .bool false] 47)) := by
  refine ⟨?_, ?_, ?_, ?_, ?_, ?_⟩ <;> simp [go_sem]
theorem put_zero {w wr : World} {s : ByteArray} {n : Int} (hW : Below w.heap.size w wr) (h0 : eJ s = n) (hn : n ≠ 0) :
    ParsePost s w (.returned (.tuple #[.agg #[.int .i64 0, .int .i64 0, .string ⟨#[]⟩, .slice none 0 0, .slice none 0 0], .int .i64 n])) (((((wr.setCell ⟨w.heap.size, 0, none⟩ (.int .i64 0)).setCell ⟨w.heap.size, 1, none⟩ (.int .i64 0)).setCell ⟨w.heap.size, 2, none⟩ (.string ⟨#[]⟩)).setCell ⟨w.heap.size, 3, none⟩ (.slice none 0 0)).setCell ⟨w.heap.size, 4, none⟩ (.slice none 0 0)) := by
  refine ⟨((((hW.setCell (Nat.le_refl _) _).setCell (Nat.le_refl _) _).setCell (Nat.le_refl _) _).setCell (Nat.le_refl _) _).setCell (Nat.le_refl _) _, Or.inr ⟨by rw [h0]; exact hn, by rw [h0]; rfl⟩⟩
set_option maxHeartbeats 8000000 in
set_option maxRecDepth 100000 in
theorem refParse_any (s : ByteArray) (w : World) :
    Calls Tryd.prog 8 #[.string s] w (ParsePost s w) := by
  have HB0 : Hid (Below w.heap.size w (w.alloc (.cells #[.int .i64 0, .int .i64 0, .string ⟨#[]⟩, .slice none 0 0, .slice none 0 0] 26))) := (Below.refl _ _).alloc (Nat.le_refl _) _
  have HR0 : Hid (BoxAt w.heap.size (.int .i64 0) (.int .i64 0) (.string ⟨#[]⟩) (.slice none 0 0) (.slice none 0 0) (w.alloc (.cells #[.int .i64 0, .int .i64 0, .string ⟨#[]⟩, .slice none 0 0, .slice none 0 0] 26))) := box_new w _ _ _ _ _
  by_cases hlong : 4000 < s.size
  · have HZ := hid (eJ_long hlong)
    have x1 : decide ((4000 : Int) < (s.size : Int)) = true := decide_eq_true (by omega)
    have r0 := HR0.out.q0
    have r1 := HR0.out.q1
    have r2 := HR0.out.q2
    have r3 := HR0.out.q3
    have r4 := HR0.out.q4
    have s0 := HR0.out.f0
    have s1 := HR0.out.f1
    have s2 := HR0.out.f2
    have s3 := HR0.out.f3
    have s4 := HR0.out.f4
    clear hlong
    go_enter Tryd.func8, Tryd.ntmps8
    go_wp2_with fail
    refine bodyPost_ret (v := .tuple #[.agg #[.int .i64 0, .int .i64 0, .string ⟨#[]⟩, .slice none 0 0, .slice none 0 0], .int .i64 1]) (by simp [results, Tryd.results8, go_sem, *]) rfl ?_
    exact ⟨HB0.out, Or.inr ⟨by rw [HZ.out]; omega, by rw [HZ.out]; rfl⟩⟩
  · have hs : s.size ≤ 4000 := by omega
    have x1 : decide ((4000 : Int) < (s.size : Int)) = false := decide_eq_false (by omega)
    clear hlong
    obtain ⟨c, hc⟩ : ∃ c, c = w.heap.size + 1 := ⟨_, rfl⟩
    have HB1 : Hid (Below w.heap.size w ((w.alloc (.cells #[.int .i64 0, .int .i64 0, .string ⟨#[]⟩, .slice none 0 0, .slice none 0 0] 26)).alloc (.cells #[.string s, .int .i64 0, .bool false] 47))) := HB0.out.alloc (by simp) _
    have HR1 : Hid (BoxAt w.heap.size (.int .i64 0) (.int .i64 0) (.string ⟨#[]⟩) (.slice none 0 0) (.slice none 0 0) ((w.alloc (.cells #[.int .i64 0, .int .i64 0, .string ⟨#[]⟩, .slice none 0 0, .slice none 0 0] 26)).alloc (.cells #[.string s, .int .i64 0, .bool false] 47))) := HR0.out.keepB ((Below.refl _ _).alloc (Nat.le_refl _) _)
    have HL1 : Hid (RL c s 0 false ((w.alloc (.cells #[.int .i64 0, .int .i64 0, .string ⟨#[]⟩, .slice none 0 0, .slice none 0 0] 26)).alloc (.cells #[.string s, .int .i64 0, .bool false] 47))) := by
      have := rl_new (w.alloc (.cells #[.int .i64 0, .int .i64 0, .string ⟨#[]⟩, .slice none 0 0, .slice none 0 0] 26)) s
      have e : (w.alloc (.cells #[.int .i64 0, .int .i64 0, .string ⟨#[]⟩, .slice none 0 0, .slice none 0 0] 26)).heap.size = c := by rw [hc]; simp
      rw [e] at this
      exact this
    have Hz : Hid (((w.alloc (.cells #[.int .i64 0, .int .i64 0, .string ⟨#[]⟩, .slice none 0 0, .slice none 0 0] 26)).alloc (.cells #[.string s, .int .i64 0, .bool false] 47)).heap.size = c + 1) := by show _ = _; rw [hc]; simp
    have HV := hid (rv_any s hs (s.size + 1) c 0 _ HL1.out (by omega) (by omega))
    clear HB0 HR0
    go_enter Tryd.func8, Tryd.ntmps8
    go_wp2_with fail
    rw [← hc]
    have hcw : w.heap.size < c := by omega
    clear hc
    refine HV.out.mono ?_
    rintro e w1 ⟨B1, ⟨t, j, es, A, B, C, D, hd, rfl, hF, hS, L1⟩ | ⟨hd, ⟨t, es, A, B, C, D, rfl, hF, hS⟩, R1⟩⟩
    · have hl1 : c + 1 ≤ w1.heap.size := by have := B1.size; rw [Hz.out] at this; exact this
      have HW1 := hid (HB1.out.trans ((B1.below (by rw [Hz.out]; omega)).mono (by omega)))
      have HR2 := hid (HR1.out.move B1.size (B1.block _ HR1.out.lt (by omega)))
      have hcnt := valN_cnt _ _ _ _ (by omega) hd
      have hadv := valN_adv _ _ _ _ (by omega) hd
      have Htame := hid hcnt.2
      have Hd := hid hd
      have HBa : Hid (Below w1.heap.size w1 (w1.alloc (.cells #[.int .i64 (kindOf t), .int .i64 (nOf t), .string (sOf t), .slice A (nL t) B, .slice C (nK t) D] 26))) := (Below.refl _ _).alloc (Nat.le_refl _) _
      have HF := hid (hF.keep hS HBa.out)
      have HS : Hid (Sep (c + 1) (w1.alloc (.cells #[.int .i64 (kindOf t), .int .i64 (nOf t), .string (sOf t), .slice A (nL t) B, .slice C (nK t) D] 26)) es) := by
        have := hS.keep HBa.out.size
        rw [Hz.out] at this
        exact this
      have HV1 := hid (box_new w1 (.int .i64 (kindOf t)) (.int .i64 (nOf t)) (.string (sOf t)) (.slice A (nL t) B) (.slice C (nK t) D))
      have HLa := hid (L1.keep HBa.out)
      have HRa := hid (HR2.out.keepB HBa.out)
      have HWa := hid (HW1.out.trans (HBa.out.mono (by omega)))
      have HK := hid (blanks_any c s j false _ HLa.out hs (by omega))
      have hskl := sk_le hadv.2
      clear B1 L1 hF hS hd HV HR1 HB1 hcnt HR2 HW1 HBa
      unfold five at HF ⊢
      go_wp2_with fail
      refine HK.out.mono ?_
      rintro e w2 ⟨rfl, B2, L2⟩
      have hz1 : (w1.alloc (.cells #[.int .i64 (kindOf t), .int .i64 (nOf t), .string (sOf t), .slice A (nL t) B, .slice C (nK t) D] 26)).heap.size = w1.heap.size + 1 := by simp
      have HL2 := hid L2
      have HF2 := hid (HF.out.move fun b hb => B2.block b (HS.out.lies b hb).2 (by have := (HS.out.lies b hb).1; omega))
      have HS2 := hid (HS.out.keep B2.size)
      have HV2 := hid (HV1.out.move B2.size (B2.block _ HV1.out.lt (by omega)))
      have HR3 := hid (HRa.out.move B2.size (B2.block _ HRa.out.lt (by omega)))
      have HW2 := hid (HWa.out.trans ((B2.below (by omega)).mono (by omega)))
      clear B2 L2 HK HF HS HV1 HRa HWa HLa hz1
      have q1 := HL2.out.q1
      have q2 := HL2.out.q2
      by_cases h0 : sk s j = s.size
      · have Hfull := hid (full_some Hd.out h0)
        have HeJ := hid (eJ_some hs Hfull.out)
        have x2 : ((sk s j : Int) == (s.size : Int)) = true := by rw [beq_iff_eq]; omega
        have HI := hid (Deep_any (s.size + 1) _ t _ HF2.out.at)
        have hmin := deepT_min (s.size + 1) 16 t HF2.out.at.shal
        have hdeep : 12 < deepT 16 t ↔ 12 < deepT (s.size + 1) t := by rw [hmin]; omega
        have h16 := deepT_le 16 t
        clear h0 hmin
        have v0 := HV2.out.q0
        have v1 := HV2.out.q1
        have v2 := HV2.out.q2
        have v3 := HV2.out.q3
        have v4 := HV2.out.q4
        go_wp2_with fail
        refine HI.out.mono ?_
        rintro e w3 ⟨rfl, hb3⟩
        have HF3 := hid (HF2.out.keep HS2.out hb3)
        have HS3 := hid (HS2.out.keep hb3.size)
        have HV3 := hid (HV2.out.keepB hb3)
        have HR4 := hid (HR3.out.keepB hb3)
        have HW3 := hid (HW2.out.trans (hb3.mono HW2.out.size))
        clear hb3 HF2 HS2 HV2 HR3 HW2 HI v0 v1 v2 v3 v4 q1 q2 x2
        by_cases hdp : 12 < deepT 16 t
        · have HZ : Hid (eJ s = 3) := by show _ = _; rw [HeJ.out, if_pos (hdeep.1 hdp)]
          have x3 : decide ((12 : Int) < (deepT 16 t : Int)) = true := decide_eq_true (by omega)
          clear hdp hdeep h16
          have r0 := HR4.out.q0
          have r1 := HR4.out.q1
          have r2 := HR4.out.q2
          have r3 := HR4.out.q3
          have r4 := HR4.out.q4
          have s0 := HR4.out.f0
          have s1 := HR4.out.f1
          have s2 := HR4.out.f2
          have s3 := HR4.out.f3
          have s4 := HR4.out.f4
          go_wp2_with fail
          refine bodyPost_ret (v := .tuple #[.agg #[.int .i64 0, .int .i64 0, .string ⟨#[]⟩, .slice none 0 0, .slice none 0 0], .int .i64 3]) (by simp [results, Tryd.results8, go_sem, *]) rfl ?_
          exact put_zero HW3.out HZ.out (by omega)
        · have x3 : decide ((12 : Int) < (deepT 16 t : Int)) = false := decide_eq_false (by omega)
          have Hdp : Hid (deepT (s.size + 1) t ≤ 12) := by show _ ≤ _; omega
          have HeJ2 : Hid (eJ s = if twiceT (s.size + 1) t = true then 4 else 0) := by show _ = _; rw [HeJ.out, if_neg (fun h => hdp (hdeep.2 h))]
          have HI2 := hid (twice_any (s.size + 1) _ t _ HF3.out.at)
          clear hdp hdeep HeJ
          have v0 := HV3.out.q0
          have v1 := HV3.out.q1
          have v2 := HV3.out.q2
          have v3 := HV3.out.q3
          have v4 := HV3.out.q4
          go_wp2_with fail
          refine HI2.out.mono ?_
          rintro e w4 ⟨rfl, hb4⟩
          have HF4 := hid (flat_cut (HF3.out.keep HS3.out hb4) Htame.out Hdp.out)
          have HS4 := hid (HS3.out.keep hb4.size)
          have HV4 := hid (HV3.out.keepB hb4)
          have HR5 := hid (HR4.out.keepB hb4)
          have HW4 := hid (HW3.out.trans (hb4.mono HW3.out.size))
          clear hb4 HF3 HS3 HV3 HR4 HW3 HI2 v0 v1 v2 v3 v4
          have r0 := HR5.out.q0
          have r1 := HR5.out.q1
          have r2 := HR5.out.q2
          have r3 := HR5.out.q3
          have r4 := HR5.out.q4
          have s0 := HR5.out.f0
          have s1 := HR5.out.f1
          have s2 := HR5.out.f2
          have s3 := HR5.out.f3
          have s4 := HR5.out.f4
          by_cases htw : twiceT (s.size + 1) t = true
          · have HZ : Hid (eJ s = 4) := by show _ = _; rw [HeJ2.out, if_pos htw]
            rw [htw]
            go_wp2_with fail
            refine bodyPost_ret (v := .tuple #[.agg #[.int .i64 0, .int .i64 0, .string ⟨#[]⟩, .slice none 0 0, .slice none 0 0], .int .i64 4]) (by simp [results, Tryd.results8, go_sem, *]) rfl ?_
            exact put_zero HW4.out HZ.out (by omega)
          · have htw2 : twiceT (s.size + 1) t = false := by simpa using htw
            have HZ : Hid (Okj s t) := by
              have h0 : eJ s = 0 := by rw [HeJ2.out, if_neg htw]
              exact ⟨h0, tJ_some h0 Hfull.out⟩
            rw [htw2]
            clear htw htw2
            have v0 := HV4.out.q0
            have v1 := HV4.out.q1
            have v2 := HV4.out.q2
            have v3 := HV4.out.q3
            have v4 := HV4.out.q4
            go_wp2_with fail
            refine bodyPost_ret (v := .tuple #[.agg #[.int .i64 (kindOf t), .int .i64 (nOf t), .string (sOf t), .slice A (nL t) B, .slice C (nK t) D], .int .i64 0]) (by simp [results, Tryd.results8, go_sem, *]) rfl ?_
            obtain ⟨p1, p2, p3⟩ := put_res2 HW4.out HF4.out HS4.out (Nat.le_refl _) (by omega) (.int .i64 (kindOf t)) (.int .i64 (nOf t)) (.string (sOf t)) (.slice A (nL t) B) (.slice C (nK t) D)
            exact ⟨p1, Or.inl ⟨t, es, A, B, C, D, HZ.out, rfl, p2, p3⟩⟩
      · have HZ := hid (eJ_none hs (full_rest Hd.out h0))
        have x2 : ((sk s j : Int) == (s.size : Int)) = false := by rw [beq_eq_false_iff_ne]; omega
        clear h0
        have r0 := HR3.out.q0
        have r1 := HR3.out.q1
        have r2 := HR3.out.q2
        have r3 := HR3.out.q3
        have r4 := HR3.out.q4
        have s0 := HR3.out.f0
        have s1 := HR3.out.f1
        have s2 := HR3.out.f2
        have s3 := HR3.out.f3
        have s4 := HR3.out.f4
        go_wp2_with fail
        refine bodyPost_ret (v := .tuple #[.agg #[.int .i64 0, .int .i64 0, .string ⟨#[]⟩, .slice none 0 0, .slice none 0 0], .int .i64 2]) (by simp [results, Tryd.results8, go_sem, *]) rfl ?_
        exact put_zero HW2.out HZ.out (by omega)
    · have hl1 : c + 1 ≤ w1.heap.size := by have := B1.size; rw [Hz.out] at this; exact this
      have HW1 := hid (HB1.out.trans ((B1.below (by rw [Hz.out]; omega)).mono (by omega)))
      have HR2 := hid (HR1.out.move B1.size (B1.block _ HR1.out.lt (by omega)))
      have HZ := hid (eJ_none hs (full_none hd))
      have HBa : Hid (Below w1.heap.size w1 (w1.alloc (.cells #[.int .i64 (kindOf t), .int .i64 (nOf t), .string (sOf t), .slice A (nL t) B, .slice C (nK t) D] 26))) := (Below.refl _ _).alloc (Nat.le_refl _) _
      obtain ⟨jb, hjb, Lb⟩ := R1
      have HLa := hid (Lb.keep HBa.out)
      have HRa := hid (HR2.out.keepB HBa.out)
      have HWa := hid (HW1.out.trans (HBa.out.mono (by omega)))
      have HK := hid (blanks_any c s jb true _ HLa.out hs hjb)
      clear B1 Lb hF hS hd HV HR1 HB1 HR2 HW1 HBa
      unfold five
      go_wp2_with fail
      refine HK.out.mono ?_
      rintro e w2 ⟨rfl, B2, L2⟩
      have hz1 : (w1.alloc (.cells #[.int .i64 (kindOf t), .int .i64 (nOf t), .string (sOf t), .slice A (nL t) B, .slice C (nK t) D] 26)).heap.size = w1.heap.size + 1 := by simp
      have HR3 := hid (HRa.out.move B2.size (B2.block _ HRa.out.lt (by omega)))
      have HW2 := hid (HWa.out.trans ((B2.below (by omega)).mono (by omega)))
      have q2 := L2.q2
      clear B2 L2 HK HRa HWa HLa hz1
      have r0 := HR3.out.q0
      have r1 := HR3.out.q1
      have r2 := HR3.out.q2
      have r3 := HR3.out.q3
      have r4 := HR3.out.q4
      have s0 := HR3.out.f0
      have s1 := HR3.out.f1
      have s2 := HR3.out.f2
      have s3 := HR3.out.f3
      have s4 := HR3.out.f4
      go_wp2_with fail
      refine bodyPost_ret (v := .tuple #[.agg #[.int .i64 0, .int .i64 0, .string ⟨#[]⟩, .slice none 0 0, .slice none 0 0], .int .i64 2]) (by simp [results, Tryd.results8, go_sem, *]) rfl ?_
      exact put_zero HW2.out HZ.out (by omega)
end Go.Proofs.YtknakfpciccoaaaDoor
/- The walk of lists: all lists of a value. -/
namespace Go.Proofs.YtknakfpciccoaaaDoor
open Go.RowKit

def ListsSaid (f : Nat) : Prop := ∀ (b : Nat) (v : Value) (t : T) (es : List Ent) (n : Int) (vs ns : Value) (E : List Ent) (w : World), Flat w f v t es → (∀ x ∈ blks es, x < b) → OwnR b vs ns n E w → E.length + es.length ≤ 1073741824 →
    Calls Tryd.prog 28 #[.pointer (some ⟨b, 0, none⟩), v] w fun e w' => e = .returned (.tuple #[]) ∧ ∃ vs' ns', OwnR b vs' ns' n (E ++ es) w' ∧ Keep3 b vs ns w w' ∧ NewOr w vs vs' ∧ NewOr w ns ns'
theorem cat_le (s : Nat → List Ent) {j k : Nat} (h : j ≤ k) : (catE s j).length ≤ (catE s k).length := by
  induction h with
  | refl => exact Nat.le_refl _
  | step _ ih => rw [catE, List.length_append]; omega
/-- What holds at the loop's head. -/
structure LI (b c : Nat) (vs ns : Value) (n : Int) (E : List Ent) (c0 c1 c2 c3 c4 : Value) (w1 : World) (vs' ns' : Value) (wr : World) : Prop where
  own : OwnR b vs' ns' n E wr
  kp : Keep3 b vs ns w1 wr
  nv : NewOr w1 vs vs'
  nn : NewOr w1 ns ns'
  box : BoxAt c c0 c1 c2 c3 c4 wr
  blk : wr.heap[c]? = some (.cells #[c0, c1, c2, c3, c4] 26 (0, 0))
  ne : c ≠ b
section
variable {b c : Nat} {vs ns : Value} {n : Int} {E : List Ent} {c0 c1 c2 c3 c4 : Value} {w1 : World} {vs' ns' : Value} {wr : World}
theorem LI.step (h : LI b c vs ns n E c0 c1 c2 c3 c4 w1 vs' ns' wr) {E' : List Ent} {vs2 ns2 : Value} {w2 : World} (hO : OwnR b vs2 ns2 n E' w2) (hK : Keep3 b vs' ns' wr w2) (hv : NewOr wr vs' vs2) (hn : NewOr wr ns' ns2) : LI b c vs ns n E' c0 c1 c2 c3 c4 w1 vs2 ns2 w2 := by
  have e := hK.block c h.box.lt h.ne (own_block h.own.rowL h.blk (by decide)) (own_block h.own.rowK h.blk (by decide))
  exact ⟨hO, h.kp.trans hK h.nv h.nn, h.nv.trans hv h.kp.size, h.nn.trans hn h.kp.size, h.box.move hK.size e, e.trans h.blk, h.ne⟩
theorem LI.drew (h : LI b c vs ns n E c0 c1 c2 c3 c4 w1 vs' ns' wr) : LI b c vs ns n E c0 c1 c2 c3 c4 w1 vs' ns' wr.drew :=
  h.step (h.own.keep (below_drew wr)) (Keep3.of (below_drew wr)) (NewOr.refl _ _) (NewOr.refl _ _)
/-- Between the two. -/
structure LM (b c : Nat) (vs ns : Value) (n : Int) (E : List Ent) (x : Ent) (c0 c1 c2 c3 c4 : Value) (w1 : World) (vs' ns' : Value) (wr : World) : Prop where
  own : OwnB b vs' ns' n wr
  rowL : wr.ownsRow (b + 1) 23 1 vs' (E ++ [x]).length ((E ++ [x]).map fun x => x.l)
  rowK : wr.ownsRow (b + 1) 24 1 ns' E.length (E.map fun x => x.k)
  kp : Keep3 b vs ns w1 wr
  nv : NewOr w1 vs vs'
  nn : NewOr w1 ns ns'
  box : BoxAt c c0 c1 c2 c3 c4 wr
theorem LI.mid (h : LI b c vs ns n E c0 c1 c2 c3 c4 w1 vs' ns' wr) {w6 : World} {g cap : Nat} (o : Obj) (x : Ent)
    (hO : w6.ownsRow (b + 1) 23 1 (.slice (some ⟨g, 0, none⟩) (E.length + 1) cap) (E.length + 1) ((E.map fun x => x.l) ++ [x.l])) (hG : (wr.alloc o).grownBy w6 vs'.ownBlock) (hat : vs'.ownBlock = some g ∨ g = wr.heap.size + 1) :
    LM b c vs ns n E x c0 c1 c2 c3 c4 w1 (.slice (some ⟨g, 0, none⟩) (E.length + 1) cap) ns' (w6.setCell ⟨b, 0, none⟩ (.slice (some ⟨g, 0, none⟩) (E.length + 1) cap)) := by
  obtain ⟨h1, h2, h3, h4, h5⟩ := h.own.addL o x.l hO hG hat
  have e := h4.block c h.box.lt h.ne (own_block h.own.rowL h.blk (by decide)) (own_block h.own.rowK h.blk (by decide))
  refine ⟨h1, ?_, h3, h.kp.trans h4 h.nv h.nn, h.nv.trans h5 h.kp.size, h.nn, h.box.move h4.size e⟩
  rw [List.length_append, List.map_append]
  exact h2
theorem LM.keep {x : Ent} (h : LM b c vs ns n E x c0 c1 c2 c3 c4 w1 vs' ns' wr) {w2 : World} (hb : Below wr.heap.size wr w2) : LM b c vs ns n E x c0 c1 c2 c3 c4 w1 vs' ns' w2 :=
  ⟨h.own.move hb.size (hb.block _ h.own.lt), own_move h.rowL fun g e => hb.block g (h.rowL.lt g e).2, own_move h.rowK fun g e => hb.block g (h.rowK.lt g e).2, h.kp.trans (Keep3.of hb) h.nv h.nn, h.nv, h.nn, h.box.move hb.size (hb.block _ h.box.lt)⟩
theorem LM.fin {x : Ent} (h : LM b c vs ns n E x c0 c1 c2 c3 c4 w1 vs' ns' wr) {w6 : World} {g cap : Nat} (o : Obj)
    (hO : w6.ownsRow (b + 1) 24 1 (.slice (some ⟨g, 0, none⟩) (E.length + 1) cap) (E.length + 1) ((E.map fun x => x.k) ++ [x.k])) (hG : (wr.alloc o).grownBy w6 ns'.ownBlock) (hat : ns'.ownBlock = some g ∨ g = wr.heap.size + 1) :
    OwnR b vs' (.slice (some ⟨g, 0, none⟩) (E.length + 1) cap) n (E ++ [x]) (w6.setCell ⟨b, 1, none⟩ (.slice (some ⟨g, 0, none⟩) (E.length + 1) cap)) ∧ Keep3 b vs ns w1 (w6.setCell ⟨b, 1, none⟩ (.slice (some ⟨g, 0, none⟩) (E.length + 1) cap)) ∧ NewOr w1 vs vs' ∧ NewOr w1 ns (.slice (some ⟨g, 0, none⟩) (E.length + 1) cap) := by
  obtain ⟨h1, h2, h3, h4, h5⟩ := OwnR.addK h.own h.rowL h.rowK o x.k hO hG hat
  refine ⟨⟨h1, h3, ?_⟩, h.kp.trans h4 h.nv h.nn, h.nv, h.nn.trans h5 h.kp.size⟩
  rw [List.length_append, List.map_append]
  exact h2
end
set_option maxHeartbeats 4000000 in
set_option maxRecDepth 100000 in
theorem lists_step (f : Nat) (ih : ListsSaid f) : ListsSaid (f + 1) := by
  intro b v t es n vs ns E w h hlt hR hlen
  obtain ⟨Lv, Kv, xs, sub, rfl, hf, hl, hk, hc, hn, rfl⟩ := h
  obtain ⟨iL, hiL, zL0, zL1, zL2⟩ := info_parts infoL
  obtain ⟨iN, hiN, zN0, zN1, zN2⟩ := info_parts infoN
  obtain ⟨A, B, rfl⟩ := own_shape hl
  obtain ⟨C, D, rfl⟩ := own_shape hk
  have hl1 := hf.l1
  have HF : Hid (∀ wr : World, Below b w wr → wr.ownsRow 0 eV 5 (.slice A (nL t) B) (nL t) xs ∧ ∀ i, i < nL t → Flat wr f (fv xs i) (elt t i) (sub i)) := by
    intro wr hB
    have hm : ∀ x ∈ blks (catE sub (nL t) ++ [⟨.slice A (nL t) B, nL t, .slice C (nK t) D, nK t⟩]), wr.heap[x]? = w.heap[x]? := fun x hx => hB.block x (hlt x hx)
    refine ⟨own_move hl fun x e => hm x ?_, fun i hi => (hc i hi).move fun x hx => hm x ?_⟩
    · rw [blks_append, blks_one]
      exact List.mem_append_right _ (by simp [blk, e])
    · rw [blks_append]
      exact List.mem_append_left _ (mem_catE hi hx)
  have HS : Hid (∀ i, i < nL t → ∀ x ∈ blks (sub i), x < b) := fun i hi x hx => hlt x (by rw [blks_append]; exact List.mem_append_left _ (mem_catE hi hx))
  have hlen2 : E.length + (catE sub (nL t)).length + 1 ≤ 1073741824 := by
    rw [List.length_append, List.length_singleton] at hlen
    omega
  have hrb := hR.box.lt
  have HRw := hid hR
  have HL0 : Hid (LI b w.heap.size vs ns n (E ++ catE sub 0) (.int .i64 (kindOf t)) (.int .i64 (nOf t)) (.string (sOf t)) (.slice A (nL t) B) (.slice C (nK t) D) (w.alloc (.cells #[.int .i64 (kindOf t), .int .i64 (nOf t), .string (sOf t), .slice A (nL t) B, .slice C (nK t) D] 26)) vs ns (w.alloc (.cells #[.int .i64 (kindOf t), .int .i64 (nOf t), .string (sOf t), .slice A (nL t) B, .slice C (nK t) D] 26))) := by
    refine ⟨?_, Keep3.refl _ _ _ _, NewOr.refl _ _, NewOr.refl _ _, box_new w _ _ _ _ _, heap_alloc_new w _, by omega⟩
    rw [catE, List.append_nil]
    exact hR.keep ((Below.refl _ _).alloc (Nat.le_refl _) _)
  have HB0 : Hid (Below w.heap.size w (w.alloc (.cells #[.int .i64 (kindOf t), .int .i64 (nOf t), .string (sOf t), .slice A (nL t) B, .slice C (nK t) D] 26))) := (Below.refl _ _).alloc (Nat.le_refl _) _
  have HRa := hid (hR.keep HB0.out)
  have HI := hid ih
  clear hl hk hc hn hlt hR hlen ih hf
  go_enter Tryd.func28, Tryd.ntmps28
  go_wp2_with fail
  go_loopg [4] (nL t) (fun g i wr => ∃ (k : Nat) (vs' ns' : Value), g = nL t - k ∧ k ≤ nL t ∧ i = .int .i64 k ∧ Hid (LI b w.heap.size vs ns n (E ++ catE sub k) (.int .i64 (kindOf t)) (.int .i64 (nOf t)) (.string (sOf t)) (.slice A (nL t) B) (.slice C (nK t) D) (w.alloc (.cells #[.int .i64 (kindOf t), .int .i64 (nOf t), .string (sOf t), .slice A (nL t) B, .slice C (nK t) D] 26)) vs' ns' wr))
  case atStart => exact ⟨0, vs, ns, rfl, Nat.zero_le _, rfl, HL0⟩
  case round =>
    clear HL0
    obtain ⟨k, vs', ns', rfl, hk1, rfl, HL⟩ := hrel
    have HBb : Hid (Below b w wr) := (HB0.out.mono (by omega)).trans (HL.out.kp.below HRa.out)
    have b3 := HL.out.box.q3
    by_cases hltk : k < nL t
    · obtain ⟨hrow, hfl⟩ := HF.out wr HBb.out
      obtain ⟨g, cap, eg, hg, _, _, hcell, _⟩ := own_cell hrow (by omega)
      simp only [Value.slice.injEq, true_and] at eg
      obtain ⟨rfl, rfl⟩ := eg
      have p0 := hcell (k * 5) (by omega)
      have p1 := hcell (k * 5 + 1) (by omega)
      have p2 := hcell (k * 5 + 2) (by omega)
      have p3 := hcell (k * 5 + 3) (by omega)
      have p4 := hcell (k * 5 + 4) (by omega)
      have hcl := cat_le sub (show k + 1 ≤ nL t by omega)
      rw [catE, List.length_append] at hcl
      have HC := hid (HI.out b (fv xs k) (elt t k) (sub k) n vs' ns' (E ++ catE sub k) wr (hfl k hltk) (HS.out k hltk) HL.out.own (by rw [List.length_append]; omega))
      have x1 : (k : Int) < (nL t : Int) := by omega
      clear hrow hfl hcell hg
      unfold fv at HC
      go_wp2_with fail
      refine HC.out.mono ?_
      rintro e w2 ⟨rfl, vs2, ns2, hO, hK, hv, hn⟩
      have HL2 := hid (HL.out.step hO hK hv hn)
      clear hO hK hv hn HC p0 p1 p2 p3 p4
      go_wp2_with fail
      go_roundg (nL t - (k + 1))
      case rel =>
        refine ⟨k + 1, vs2, ns2, rfl, by omega, by go_num, ?_⟩
        rw [catE, ← List.append_assoc]
        exact HL2
      case measure => omega
    · have hkn : k = nL t := by omega
      subst hkn
      have x1 : ¬ ((nL t : Int) < (nL t : Int)) := by omega
      have hEl : (E ++ catE sub (nL t)).length ≤ 1073741823 := by rw [List.length_append]; omega
      generalize hEE : E ++ catE sub (nL t) = EE at HL hEl
      have HEE := hid hEE
      clear hEE
      go_wp2_with fail
      have a0 := HL.out.own.box.q0
      have a0a := (HL.out.own.keep ((Below.refl wr.heap.size wr).alloc (Nat.le_refl _) (.cells #[.slice A (nL t) B] 23))).box.q0
      have b3a := (HL.out.box.move (w' := wr.alloc (.cells #[.slice A (nL t) B] 23)) (by simp) (Below.heap_alloc _ _ _ HL.out.box.lt)).q3
      have HOa := hid ((HL.out.own.keep ((Below.refl wr.heap.size wr).alloc (Nat.le_refl _) (.cells #[.slice A (nL t) B] 23))).keep (below_drew _))
      go_region_law (refine step_append_lies _ (by rfl) _ _ _ (by rfl) (b + 1) 23 iL _ 1 24 Tryd.underlying31 hiL zL0 zL1 zL2 rfl (by omega) vs' EE.length (EE.map fun x => x.l) (by rfl) HOa.out.rowL ⟨wr.heap.size, 0, none⟩ 1 1 [.slice A (nL t) B] (by rfl) (by rfl) (World.news_of_block (cs := #[.slice A (nL t) B]) (t := 23) (fr := (0, 0)) (heap_alloc_new wr _)) (by simp [Value.oneCell']) (by omega) (by unfold maxLen; omega) (by omega) (by have := HOa.out.box.lt; omega) (wr.heap.size + 1) (by simp) ?_; intro g cap w6 hown6 hgrow6 hat6 hlt6; have HZ6 := hid (HOa.out.box.move hgrow6.size (hgrow6.block _ HOa.out.box.lt (fun e => by have := (HOa.out.rowL.lt b e.symm).1; omega))); have hc6 := HZ6.out.q0; have hf6 := HZ6.out.f0)
      all_goals
        have HM := hid (HL.out.drew.mid (.cells #[.slice A (nL t) B] 23) ⟨.slice A (nL t) B, nL t, .slice C (nK t) D, nK t⟩ hown6 hgrow6 hat6)
        clear hown6 hgrow6 hat6 hlt6 HZ6 hc6 hf6 HOa a0 a0a b3a
        generalize (w6.setCell ⟨b, 0, none⟩ (.slice (some ⟨g, 0, none⟩) (EE.length + 1) cap)) = w7 at HM ⊢
        go_wp2_with fail
        have a0 := HM.out.own.q1
        have b4 := HM.out.box.q4
        have HMa := hid (HM.out.keep ((Below.refl w7.heap.size w7).alloc (Nat.le_refl _) (.cells #[.slice C (nK t) D] 24)))
        have a0a := HMa.out.own.q1
        have b4a := HMa.out.box.q4
        have HMb := hid (HMa.out.keep (below_drew _))
        go_region_law (refine step_append_lies _ (by rfl) _ _ _ (by rfl) (b + 1) 24 iN _ 1 24 Tryd.underlying32 hiN zN0 zN1 zN2 rfl (by omega) ns' EE.length (EE.map fun x => x.k) (by rfl) HMb.out.rowK ⟨w7.heap.size, 0, none⟩ 1 1 [.slice C (nK t) D] (by rfl) (by rfl) (World.news_of_block (cs := #[.slice C (nK t) D]) (t := 24) (fr := (0, 0)) (heap_alloc_new w7 _)) (by simp [Value.oneCell']) (by omega) (by unfold maxLen; omega) (by omega) (by have := HMb.out.own.lt; omega) (w7.heap.size + 1) (by simp) ?_; intro g8 cap8 w8 hown8 hgrow8 hat8 hlt8; have HZ8 := hid (HMb.out.own.move hgrow8.size (hgrow8.block _ HMb.out.own.lt (fun e => by have := (HMb.out.rowK.lt b e.symm).1; omega))); have hc8 := HZ8.out.q1; have hf8 := HZ8.out.f1)
        all_goals
          have HFin := hid ((HM.out.keep (below_drew _)).fin (.cells #[.slice C (nK t) D] 24) hown8 hgrow8 hat8)
          clear hown8 hgrow8 hat8 hlt8 HZ8 hc8 hf8 HMa HMb a0 a0a b4 b4a
          go_wp2_with fail
          refine bodyPost_end (v := .tuple #[]) (by simp [results, Tryd.results28, go_sem]) rfl ⟨rfl, .slice (some ⟨g, 0, none⟩) (EE.length + 1) cap, .slice (some ⟨g8, 0, none⟩) (EE.length + 1) cap8, ?_, ?_, ?_, ?_⟩
          · rw [← List.append_assoc, HEE.out]; exact HFin.out.1
          · exact (Keep3.of HB0.out).trans HFin.out.2.1 (NewOr.refl _ _) (NewOr.refl _ _)
          · exact (NewOr.refl w vs).trans HFin.out.2.2.1 HB0.out.size
          · exact (NewOr.refl w ns).trans HFin.out.2.2.2 HB0.out.size
theorem lists_any : ∀ f, ListsSaid f
  | 0 => fun _ _ _ _ _ _ _ _ _ h => h.elim
  | f + 1 => lists_step f (lists_any f)
end Go.Proofs.YtknakfpciccoaaaDoor
