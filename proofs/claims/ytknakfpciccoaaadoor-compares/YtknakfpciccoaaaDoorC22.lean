/- The walk of Compares: it returns true. -/
import Derived.Test.YtknakfpciccoaaaDoorC18
import Derived.Test.YtknakfpciccoaaaDoorC19
import Derived.Test.YtknakfpciccoaaaDoorC21
namespace Go.Proofs.YtknakfpciccoaaaDoor
open Go.RowKit

def smallT (k : Int) : T := mkT k 0 ⟨#[]⟩ [] []
theorem small_nL (k : Int) : nL (smallT k) = 0 := rfl
theorem small_nK (k : Int) : nK (smallT k) = 0 := by unfold nK smallT; rw [kOf_mk]; rfl
theorem small_at (w : World) (k : Int) (h0 : 0 ≤ k) (h1 : k ≤ 10) : At w 1 (.agg #[.int .i64 k, .int .i64 0, .string ⟨#[]⟩, .slice none 0 0, .slice none 0 0]) (smallT k) := by
  have hs : (sOf (smallT k)).size = 0 := rfl
  have hk : kindOf (smallT k) = k := rfl
  refine ⟨none, none, 0, 0, ?_, ⟨by rw [hk]; omega, by rw [hk]; omega, by show (-9223372036854775808 : Int) ≤ 0; omega, by show (0 : Int) ≤ 9223372036854775807; omega, by rw [hs]; omega, by rw [small_nL]; omega, by rw [small_nK]; omega⟩, fun i hi => ?_, fun i hi => ?_⟩
  · rw [small_nL, small_nK]; rfl
  · rw [small_nL] at hi; omega
  · rw [small_nK] at hi; omega
theorem small_isV (k : Int) (h : k = 1 ∨ k = 2) : isV (smallT k) = true := by
  have hk : kindOf (smallT k) = k := rfl
  have hn : nOf (smallT k) = 0 := rfl
  have ht : noText (smallT k) = true := by unfold noText; rw [ByteArray.toList_eq]; rfl
  refine (isV_iff _).2 ⟨Or.inl ⟨small_nL k, small_nK k, ?_⟩, ?_⟩
  · rcases h with rfl | rfl
    · exact Or.inl ⟨hk, hn, ht⟩
    · exact Or.inr (Or.inl ⟨hk, Or.inl hn, ht⟩)
  · rcases h with rfl | rfl
    · simp [bytesT, leafBytes, hk]
    · simp [bytesT, leafBytes, hk]
theorem small_ans : ansN (isV (smallT 1) && isV (smallT 2)) (cmpT 1 (smallT 1) (smallT 2)) = -1 ∧ ansE (isV (smallT 1) && isV (smallT 2)) = 0 := by
  rw [small_isV 1 (Or.inl rfl), small_isV 2 (Or.inr rfl)]
  constructor
  · rfl
  · rfl

/-- Five cells of a block. -/
def Box (w : World) (b : Nat) (c0 c1 c2 c3 c4 : Value) : Prop := (w.cell? ⟨b, 0, none⟩ = some c0 ∧ w.cell? ⟨b, 1, none⟩ = some c1 ∧ w.cell? ⟨b, 2, none⟩ = some c2 ∧ w.cell? ⟨b, 3, none⟩ = some c3 ∧ w.cell? ⟨b, 4, none⟩ = some c4) ∧ b < w.heap.size
theorem Box.keep {w w' : World} {b : Nat} {c0 c1 c2 c3 c4 : Value} (h : Box w b c0 c1 c2 c3 c4) (hb : Below w.heap.size w w') : Box w' b c0 c1 c2 c3 c4 := by
  obtain ⟨⟨a0, a1, a2, a3, a4⟩, hl⟩ := h
  exact ⟨⟨(hb.cell (p := ⟨b, 0, none⟩) hl).trans a0, (hb.cell (p := ⟨b, 1, none⟩) hl).trans a1, (hb.cell (p := ⟨b, 2, none⟩) hl).trans a2, (hb.cell (p := ⟨b, 3, none⟩) hl).trans a3, (hb.cell (p := ⟨b, 4, none⟩) hl).trans a4⟩, Nat.lt_of_lt_of_le hl hb.size⟩
theorem Box.made (w : World) (c0 c1 c2 c3 c4 : Value) : Box (w.alloc (.cells #[c0, c1, c2, c3, c4] 26)) w.heap.size c0 c1 c2 c3 c4 := by
  refine ⟨⟨?_, ?_, ?_, ?_, ?_⟩, by simp⟩ <;> simp [go_sem]
theorem below_alloc (w : World) (o : Obj) : Below w.heap.size w (w.alloc o) := (Below.refl _ _).alloc (Nat.le_refl _) _

set_option maxHeartbeats 2000000 in
set_option maxRecDepth 100000 in
theorem Compares_any {Tb : World → Prop} (hV : ValidSaid Tb) (hL : Lies Tb) (f g : Nat) (va vb : Value) (a b : T) (w : World) (h : At w f va a) (h' : At w g vb b) (hT : Tb w) :
    Calls Tryd.prog 5 #[va, vb] w fun e w' => e = .returned (.bool true) ∧ Below w.heap.size w w' := by
  have HA := hid h
  have HA' := hid h'
  have HT := hid hT
  have HE : Hid (isV a = isR f a) := isV_isR f a h.shal
  have HE' : Hid (isV b = isR g b) := isV_isR g b h'.shal
  obtain ⟨f1, La, Ka, Lc, Kc, hf1, rfl, hf, hl, hk⟩ := h.open
  obtain ⟨g1, Ma, Na, Mc, Nc, hg1, rfl, hf', hl', hk'⟩ := h'.open
  clear h h' hf hf' hf1 hg1 hl hk hl' hk' hT
  have HB0 : Hid (Below w.heap.size w ((w.alloc (.cells #[.int .i64 (kindOf a), .int .i64 (nOf a), .string (sOf a), .slice La (nL a) Lc, .slice Ka (nK a) Kc] 26)).alloc (.cells #[.int .i64 (kindOf b), .int .i64 (nOf b), .string (sOf b), .slice Ma (nL b) Mc, .slice Na (nK b) Nc] 26))) := ((Below.refl _ _).alloc (Nat.le_refl _) _).alloc (by simp) _
  have HX0 : Hid (Box ((w.alloc (.cells #[.int .i64 (kindOf a), .int .i64 (nOf a), .string (sOf a), .slice La (nL a) Lc, .slice Ka (nK a) Kc] 26)).alloc (.cells #[.int .i64 (kindOf b), .int .i64 (nOf b), .string (sOf b), .slice Ma (nL b) Mc, .slice Na (nK b) Nc] 26)) w.heap.size (.int .i64 (kindOf a)) (.int .i64 (nOf a)) (.string (sOf a)) (.slice La (nL a) Lc) (.slice Ka (nK a) Kc)) := (Box.made _ _ _ _ _ _).keep (below_alloc _ _)
  have HY0 : Hid (Box ((w.alloc (.cells #[.int .i64 (kindOf a), .int .i64 (nOf a), .string (sOf a), .slice La (nL a) Lc, .slice Ka (nK a) Kc] 26)).alloc (.cells #[.int .i64 (kindOf b), .int .i64 (nOf b), .string (sOf b), .slice Ma (nL b) Mc, .slice Na (nK b) Nc] 26)) (w.heap.size + 1) (.int .i64 (kindOf b)) (.int .i64 (nOf b)) (.string (sOf b)) (.slice Ma (nL b) Mc) (.slice Na (nK b) Nc)) := by
    show Box _ _ _ _ _ _ _
    have := Box.made (w.alloc (.cells #[.int .i64 (kindOf a), .int .i64 (nOf a), .string (sOf a), .slice La (nL a) Lc, .slice Ka (nK a) Kc] 26)) (.int .i64 (kindOf b)) (.int .i64 (nOf b)) (.string (sOf b)) (.slice Ma (nL b) Mc) (.slice Na (nK b) Nc); simpa using this
  go_enter Tryd.func5, Tryd.ntmps5
  go_wp2_with fail
  refine (tCompare_any hV hL 1 1 _ _ (smallT 1) (smallT 2) _ (small_at _ 1 (by omega) (by omega)) (small_at _ 2 (by omega) (by omega)) (hL w HT.out _ _ HT.out HB0.out)).mono ?_
  rintro e w1 ⟨rfl, b1⟩
  rw [small_ans.1, small_ans.2]
  have HB1 := hid (HB0.out.trans (b1.mono HB0.out.size))
  have HX1 := hid (HX0.out.keep b1)
  have HY1 := hid (HY0.out.keep b1)
  clear b1 HB0 HX0 HY0
  obtain ⟨⟨x0, x1, x2, x3, x4⟩, hx⟩ := HX1.out
  go_wp2_with fail
  refine (vast_any f _ a _ (HA.out.keep HB1.out)).mono ?_
  rintro e w2 ⟨rfl, b2⟩
  have HB2 := hid (HB1.out.trans (b2.mono HB1.out.size))
  have HX2 := hid (HX1.out.keep b2)
  have HY2 := hid (HY1.out.keep b2)
  clear b2 HB1 HX1 HY1 x0 x1 x2 x3 x4 hx
  obtain ⟨⟨y0, y1, y2, y3, y4⟩, hy⟩ := HY2.out
  go_wp2_with fail
  refine (vast_any g _ b _ (HA'.out.keep HB2.out)).mono ?_
  rintro e w3 ⟨rfl, b3⟩
  have HB3 := hid (HB2.out.trans (b3.mono HB2.out.size))
  have HX3 := hid (HX2.out.keep b3)
  have HY3 := hid (HY2.out.keep b3)
  clear b3 HB2 HX2 HY2 y0 y1 y2 y3 y4 hy
  obtain ⟨⟨x0, x1, x2, x3, x4⟩, hx⟩ := HX3.out
  obtain ⟨⟨y0, y1, y2, y3, y4⟩, hy⟩ := HY3.out
  by_cases hv : vastT a = true ∨ vastT b = true
  · have HN : Hid ((isV a && isV b) = false) := by
      show (isV a && isV b) = false
      rcases hv with hv | hv
      · have : isV a = false := vast_none a (of_decide_eq_true hv)
        rw [this]; rfl
      · have : isV b = false := vast_none b (of_decide_eq_true hv)
        rw [this, Bool.and_false]
    have hc : vastT a = true ∨ vastT a = false ∧ vastT b = true := by
      cases hva : vastT a with
      | true => exact Or.inl rfl
      | false => rw [hva] at hv; rcases hv with hv | hv; cases hv; exact Or.inr ⟨rfl, hv⟩
    clear hv
    rcases hc with hc | ⟨hc, hc2⟩
    all_goals
      go_wp2_with fail
      refine (tCompare_any hV hL f g _ _ a b _ (HA.out.keep HB3.out) (HA'.out.keep HB3.out) (hL w HT.out _ _ HT.out HB3.out)).mono ?_
      rintro e w4 ⟨rfl, b4⟩
      rw [HN.out]
      have HB4 := hid (HB3.out.trans (b4.mono HB3.out.size))
      clear b4
      simp only [ansN, ansE, Bool.false_eq_true, if_false]
      go_wp2_with fail
      go_ret
      exact ⟨rfl, HB4.out⟩
  · have hva : vastT a = false := by cases h : vastT a with | true => exact absurd (Or.inl h) hv | false => rfl
    have hvb : vastT b = false := by cases h : vastT b with | true => exact absurd (Or.inr h) hv | false => rfl
    clear hv
    go_wp2_with fail
    rw [show (Value.int .i64 16) = .int .i64 ((16 : Nat) : Int) from rfl]
    refine (lent_any 16 (by omega) f _ _ a _ (HA.out.keep HB3.out).atP (Nat.le_refl _)).mono ?_
    rintro e w4 ⟨x, rfl, hx4, b4⟩
    obtain ⟨A, B, C, D, rfl⟩ := hx4.shape
    have HL4 := hid hx4
    have HB4 := hid (HB3.out.trans (b4.mono HB3.out.size))
    have HX4 := hid (HX3.out.keep b4)
    have HY4 := hid (HY3.out.keep b4)
    clear b4 hx4 HB3 HX3 HY3 x0 x1 x2 x3 x4 hx y0 y1 y2 y3 y4 hy
    have HQ : Hid (Box (w4.alloc (.cells #[.int .i64 (kindOf a), .int .i64 (nOf a), .string (sOf a), .slice A (nL a) B, .slice C (nK a) D] 26)) w4.heap.size (.int .i64 (kindOf a)) (.int .i64 (nOf a)) (.string (sOf a)) (.slice A (nL a) B) (.slice C (nK a) D)) := Box.made _ _ _ _ _ _
    have HB5 := hid (HB4.out.trans ((below_alloc w4 (.cells #[.int .i64 (kindOf a), .int .i64 (nOf a), .string (sOf a), .slice A (nL a) B, .slice C (nK a) D] 26)).mono HB4.out.size))
    have HX5 := hid (HX4.out.keep (below_alloc w4 (.cells #[.int .i64 (kindOf a), .int .i64 (nOf a), .string (sOf a), .slice A (nL a) B, .slice C (nK a) D] 26)))
    have HY5 := hid (HY4.out.keep (below_alloc w4 (.cells #[.int .i64 (kindOf a), .int .i64 (nOf a), .string (sOf a), .slice A (nL a) B, .slice C (nK a) D] 26)))
    obtain ⟨⟨y0, y1, y2, y3, y4⟩, hy⟩ := HY4.out
    unfold five at HL4 ⊢
    go_wp2_with fail
    rw [show (Value.int .i64 16) = .int .i64 ((16 : Nat) : Int) from rfl]
    have HL5 := hid (LentP.move (q := fun _ => True) (below_alloc w4 (.cells #[.int .i64 (kindOf a), .int .i64 (nOf a), .string (sOf a), .slice A (nL a) B, .slice C (nK a) D] 26)).size (fun b hb _ => ⟨trivial, (below_alloc w4 (.cells #[.int .i64 (kindOf a), .int .i64 (nOf a), .string (sOf a), .slice A (nL a) B, .slice C (nK a) D] 26)).block b hb⟩) HL4.out)
    clear HL4
    refine (lent_any 16 (by omega) g _ _ b _ (HA'.out.keep HB5.out).atP (Nat.le_refl _)).mono ?_
    rintro e w5 ⟨x, rfl, hx5, b5⟩
    obtain ⟨P, Q, R, S, rfl⟩ := hx5.shape
    have HM5 := hid hx5
    have HB6 := hid (HB5.out.trans (b5.mono HB5.out.size))
    have HX6 := hid (HX5.out.keep b5)
    have HY6 := hid (HY5.out.keep b5)
    have HQ6 := hid (HQ.out.keep b5)
    have HL6 := hid (LentP.move (q := fun _ => True) b5.size (fun b hb _ => ⟨trivial, b5.block b hb⟩) HL5.out)
    clear b5 hx5 HB4 HX4 HY4 HB5 HX5 HY5 HQ HL5 y0 y1 y2 y3 y4 hy
    have HR : Hid (Box (w5.alloc (.cells #[.int .i64 (kindOf b), .int .i64 (nOf b), .string (sOf b), .slice P (nL b) Q, .slice R (nK b) S] 26)) w5.heap.size (.int .i64 (kindOf b)) (.int .i64 (nOf b)) (.string (sOf b)) (.slice P (nL b) Q) (.slice R (nK b) S)) := Box.made _ _ _ _ _ _
    have b6 := below_alloc w5 (.cells #[.int .i64 (kindOf b), .int .i64 (nOf b), .string (sOf b), .slice P (nL b) Q, .slice R (nK b) S] 26)
    have HB7 := hid (HB6.out.trans (b6.mono HB6.out.size))
    have HX7 := hid (HX6.out.keep b6)
    have HY7 := hid (HY6.out.keep b6)
    have HQ7 := hid (HQ6.out.keep b6)
    have HL7 := hid (LentP.move (q := fun _ => True) b6.size (fun b hb _ => ⟨trivial, b6.block b hb⟩) HL6.out)
    have HM7 := hid (LentP.move (q := fun _ => True) b6.size (fun b hb _ => ⟨trivial, b6.block b hb⟩) HM5.out)
    obtain ⟨⟨z0, z1, z2, z3, z4⟩, hz⟩ := HQ6.out
    clear b6 HB6 HX6 HY6 HQ6 HL6 HM5
    unfold five at HM7 ⊢
    generalize w4.heap.size = bq at HQ7 z0 z1 z2 z3 z4 hz ⊢
    go_wp2_with fail
    refine (tCompare_any hV hL f g _ _ a b _ HL7.out.at HM7.out.at (hL w HT.out _ _ HT.out HB7.out)).mono ?_
    rintro e w7 ⟨rfl, b7⟩
    have HB8 := hid (HB7.out.trans (b7.mono HB7.out.size))
    have HX8 := hid (HX7.out.keep b7)
    have HY8 := hid (HY7.out.keep b7)
    have HQ8 := hid (HQ7.out.keep b7)
    have HR8 := hid (HR.out.keep b7)
    have HL8 := hid (LentP.move (q := fun _ => True) b7.size (fun b hb _ => ⟨trivial, b7.block b hb⟩) HL7.out)
    have HM8 := hid (LentP.move (q := fun _ => True) b7.size (fun b hb _ => ⟨trivial, b7.block b hb⟩) HM7.out)
    clear b7 HB7 HX7 HY7 HQ7 HR HL7 HM7 z0 z1 z2 z3 z4 hz
    generalize w5.heap.size = br at HR8 ⊢
    have HN1 : Hid (ansN (isV a && isV b) (cmpT f a b) = ansN (isR f a && isR g b) (ordT f a b)) := by
      show ansN (isV a && isV b) (cmpT f a b) = _
      rw [HE.out, HE'.out]
      cases hi : (isR f a && isR g b) with
      | false => rfl
      | true =>
        rw [Bool.and_eq_true] at hi
        exact cmp_ord f 12 12 a b ((isV_iff a).1 (HE.out.trans hi.1)).1 ((isV_iff b).1 (HE'.out.trans hi.2)).1
    have HN2 : Hid (ansE (isV a && isV b) = ansE (isR f a && isR g b)) := by show ansE (isV a && isV b) = _; rw [HE.out, HE'.out]
    obtain ⟨rn, hrn⟩ : ∃ rn, ansN (isR f a && isR g b) (ordT f a b) = rn := ⟨_, rfl⟩
    obtain ⟨re, hre⟩ : ∃ re, ansE (isR f a && isR g b) = re := ⟨_, rfl⟩
    have Hrn := hid hrn
    have Hre := hid hre
    rw [HN1.out, HN2.out, hrn, hre]
    clear hrn hre HN1 HN2 HE HE'
    obtain ⟨⟨x0, x1, x2, x3, x4⟩, hx⟩ := HX8.out
    obtain ⟨⟨y0, y1, y2, y3, y4⟩, hy⟩ := HY8.out
    go_wp2_with fail
    refine (refCompare_any f g _ _ a b _ (HA.out.keep HB8.out) (HA'.out.keep HB8.out)).mono ?_
    rintro e w8 ⟨rfl, b8⟩
    rw [Hrn.out, Hre.out]
    have HB9 := hid (HB8.out.trans (b8.mono HB8.out.size))
    have HX9 := hid (HX8.out.keep b8)
    have HY9 := hid (HY8.out.keep b8)
    have HQ9 := hid (HQ8.out.keep b8)
    have HR9 := hid (HR8.out.keep b8)
    have HL9 := hid (LentP.move (q := fun _ => True) b8.size (fun b hb _ => ⟨trivial, b8.block b hb⟩) HL8.out)
    have HM9 := hid (LentP.move (q := fun _ => True) b8.size (fun b hb _ => ⟨trivial, b8.block b hb⟩) HM8.out)
    clear b8 HB8 HX8 HY8 HQ8 HR8 HL8 HM8 x0 x1 x2 x3 x4 hx y0 y1 y2 y3 y4 hy Hrn Hre
    obtain ⟨⟨x0, x1, x2, x3, x4⟩, hx⟩ := HX9.out
    obtain ⟨⟨z0, z1, z2, z3, z4⟩, hz⟩ := HQ9.out
    go_wp2_with fail
    rw [show (Value.int .i64 16) = .int .i64 ((16 : Nat) : Int) from rfl]
    refine (same_any 16 (by omega) f f _ _ a _ HL9.out.at (HA.out.keep HB9.out)).mono ?_
    rintro e w9 ⟨rfl, b9⟩
    have HBa := hid (HB9.out.trans (b9.mono HB9.out.size))
    have HYa := hid (HY9.out.keep b9)
    have HQa := hid (HQ9.out.keep b9)
    have HRa := hid (HR9.out.keep b9)
    have HLa := hid (LentP.move (q := fun _ => True) b9.size (fun b hb _ => ⟨trivial, b9.block b hb⟩) HL9.out)
    have HMa := hid (LentP.move (q := fun _ => True) b9.size (fun b hb _ => ⟨trivial, b9.block b hb⟩) HM9.out)
    clear b9 HB9 HX9 HY9 HQ9 HR9 HL9 HM9 x0 x1 x2 x3 x4 hx z0 z1 z2 z3 z4 hz
    obtain ⟨⟨y0, y1, y2, y3, y4⟩, hy⟩ := HYa.out
    obtain ⟨⟨z0, z1, z2, z3, z4⟩, hz⟩ := HRa.out
    go_wp2_with fail
    rw [show (Value.int .i64 16) = .int .i64 ((16 : Nat) : Int) from rfl]
    refine (same_any 16 (by omega) g g _ _ b _ HMa.out.at (HA'.out.keep HBa.out)).mono ?_
    rintro e wa ⟨rfl, ba⟩
    have HBb := hid (HBa.out.trans (ba.mono HBa.out.size))
    have HQb := hid (HQa.out.keep ba)
    have HRb := hid (HRa.out.keep ba)
    have HLb := hid (LentP.move (q := fun _ => True) ba.size (fun b hb _ => ⟨trivial, ba.block b hb⟩) HLa.out)
    have HMb := hid (LentP.move (q := fun _ => True) ba.size (fun b hb _ => ⟨trivial, ba.block b hb⟩) HMa.out)
    clear ba HBa HYa HQa HRa HLa HMa y0 y1 y2 y3 y4 hy z0 z1 z2 z3 z4 hz
    obtain ⟨⟨z0, z1, z2, z3, z4⟩, hz⟩ := HQb.out
    go_wp2_with fail
    rw [show (Value.int .i64 16) = .int .i64 ((16 : Nat) : Int) from rfl]
    refine (spare_any 16 (by omega) _ f _ a _ HLb.out).mono ?_
    rintro e wb ⟨rfl, bb⟩
    have HBc := hid (HBb.out.trans (bb.mono HBb.out.size))
    have HRc := hid (HRb.out.keep bb)
    have HMc := hid (LentP.move (q := fun _ => True) bb.size (fun b hb _ => ⟨trivial, bb.block b hb⟩) HMb.out)
    clear bb HBb HQb HRb HLb HMb z0 z1 z2 z3 z4 hz
    obtain ⟨⟨z0, z1, z2, z3, z4⟩, hz⟩ := HRc.out
    go_wp2_with fail
    rw [show (Value.int .i64 16) = .int .i64 ((16 : Nat) : Int) from rfl]
    refine (spare_any 16 (by omega) _ g _ b _ HMc.out).mono ?_
    rintro e wc ⟨rfl, bc⟩
    have HBd := hid (HBc.out.trans (bc.mono HBc.out.size))
    clear bc HBc HRc HMc z0 z1 z2 z3 z4 hz
    go_wp2_with fail
    go_ret
    exact ⟨rfl, HBd.out⟩
end Go.Proofs.YtknakfpciccoaaaDoor
