/- The walk of the reference's first: Bools. -/
import Derived.Test.YtknakfpciccoaaaDoorQ3
namespace Go.Proofs.YtknakfpciccoaaaDoor
open Go.RowKit

set_option maxHeartbeats 2000000 in
set_option maxRecDepth 100000 in
theorem first_2 (m : Nat) (_hm : m ≤ 13) (s : ByteArray) (w : World) (hs : s.size ≤ 140737488355328) (h1 : 1 ≤ s.size) (hnum : numB (pre s 1) = 2) : Calls Tryd.prog 33 #[.string s, .int .i64 m] w (FirstPost (m + 1) s w) := by
  have e1 : ((s[0]'h1).toNat : Int) = 2 := by rw [← byte_0 h1, hnum]; rfl
  have Hnum := hid hnum
  have hne := nonempty_of (show s.size ≠ 0 by omega)
  have hsz := suf_size s 1
  clear hnum
  have HB0 : Hid (Below w.heap.size w ((w.alloc (.cells #[.int .i64 0, .int .i64 0, .string ⟨#[]⟩, .slice none 0 0, .slice none 0 0] 26)).alloc (.cells #[.int .i64 2, .int .i64 0, .string ⟨#[]⟩, .slice none 0 0, .slice none 0 0] 26))) := ((Below.refl _ _).alloc (Nat.le_refl _) _).alloc (by simp) _
  have HR0 : Hid (BoxAt w.heap.size (.int .i64 0) (.int .i64 0) (.string ⟨#[]⟩) (.slice none 0 0) (.slice none 0 0) ((w.alloc (.cells #[.int .i64 0, .int .i64 0, .string ⟨#[]⟩, .slice none 0 0, .slice none 0 0] 26)).alloc (.cells #[.int .i64 2, .int .i64 0, .string ⟨#[]⟩, .slice none 0 0, .slice none 0 0] 26))) := (box_new w _ _ _ _ _).move (by simp) (Below.heap_alloc _ _ _ (by simp))
  have HV0 : Hid (BoxAt (w.heap.size + 1) (.int .i64 2) (.int .i64 0) (.string ⟨#[]⟩) (.slice none 0 0) (.slice none 0 0) ((w.alloc (.cells #[.int .i64 0, .int .i64 0, .string ⟨#[]⟩, .slice none 0 0, .slice none 0 0] 26)).alloc (.cells #[.int .i64 2, .int .i64 0, .string ⟨#[]⟩, .slice none 0 0, .slice none 0 0] 26))) := by
    have := box_new (w.alloc (.cells #[.int .i64 0, .int .i64 0, .string ⟨#[]⟩, .slice none 0 0, .slice none 0 0] 26)) (.int .i64 2) (.int .i64 0) (.string ⟨#[]⟩) (.slice none 0 0) (.slice none 0 0)
    show BoxAt _ _ _ _ _ _ _
    simpa using this
  have Hz0 : Hid (((w.alloc (.cells #[.int .i64 0, .int .i64 0, .string ⟨#[]⟩, .slice none 0 0, .slice none 0 0] 26)).alloc (.cells #[.int .i64 2, .int .i64 0, .string ⟨#[]⟩, .slice none 0 0, .slice none 0 0] 26)).heap.size = w.heap.size + 2) := by
    show _ = _
    simp
  have HC := hid (cut_any (suf s 1) 1 ((w.alloc (.cells #[.int .i64 0, .int .i64 0, .string ⟨#[]⟩, .slice none 0 0, .slice none 0 0] 26)).alloc (.cells #[.int .i64 2, .int .i64 0, .string ⟨#[]⟩, .slice none 0 0, .slice none 0 0] 26)) (by omega) (by omega))
  go_enter Tryd.func33, Tryd.ntmps33
  go_wp2_with fail
  refine HC.out.mono ?_
  rintro e w1 ⟨hb1, ⟨h2, rfl⟩ | ⟨h2, rfl⟩⟩
  · have HR1 := hid (HR0.out.move hb1.size (hb1.block _ HR0.out.lt))
    have HV1 := hid (HV0.out.move hb1.size (hb1.block _ HV0.out.lt))
    have HW1 := hid (HB0.out.trans (hb1.mono (by rw [Hz0.out]; omega)))
    have hN := numberR_any (pre (suf s 1) 1) w1 (by rw [pre_size h2]; omega)
    have hlt := numB_lt (pre (suf s 1) 1)
    rw [pre_size h2] at hlt
    have ew : IntKind.i64.wrap (numB (pre (suf s 1) 1) : Int) = (numB (pre (suf s 1) 1) : Int) := by rw [IntKind.wrap_i64]; omega
    rw [ew] at hN
    obtain ⟨x, hx⟩ : ∃ x : Nat, numB (pre (suf s 1) 1) = x := ⟨_, rfl⟩
    rw [hx] at hN hlt
    have HN := hid hN
    have HD : Hid (decR (m + 1) s = if 2 ≤ x then none else some (leafT 2 x ⟨#[]⟩, suf (suf s 1) 1)) := by
      show _ = _
      rw [decR_eq, stepD_2 h1 Hnum.out, if_neg (by omega), hx]
      simp
      rfl
    clear hb1 HC HR0 HV0 HB0 hx ew hN
    have r0 := HR1.out.q0
    have r1 := HR1.out.q1
    have r2 := HR1.out.q2
    have r3 := HR1.out.q3
    have r4 := HR1.out.q4
    have s0 := HR1.out.f0
    have s1 := HR1.out.f1
    have s2 := HR1.out.f2
    have s3 := HR1.out.f3
    have s4 := HR1.out.f4
    have v0 := HV1.out.q0
    have v1 := HV1.out.q1
    have v2 := HV1.out.q2
    have v3 := HV1.out.q3
    have v4 := HV1.out.q4
    have u1 := HV1.out.f1
    have u2 := HV1.out.f2
    have u3 := HV1.out.f3
    have u4 := HV1.out.f4
    go_wp2_with fail
    refine HN.out.mono ?_
    rintro e w2 ⟨rfl, rfl⟩
    by_cases h2x : 2 ≤ x
    · have hi : ¬ ((x : Int) < 2) := by omega
      go_wp2_with fail
      go_region
      all_goals (try go_wp2)
      all_goals (refine bodyPost_ret (v := .tuple #[.agg #[.int .i64 2, .int .i64 x, .string ⟨#[]⟩, .slice none 0 0, .slice none 0 0], .string (suf (suf s 1) 1), .bool false]) (by simp [results, Tryd.results33, go_sem, *]) rfl ?_)
      all_goals (exact first_not (by rw [HD.out, if_pos h2x]) (below_set5 (HW1.out.setCell (show w.heap.size ≤ w.heap.size + 1 by omega) _) (Nat.le_refl _) _ _ _ _ _).drew)
    · have hi : (x : Int) < 2 := by omega
      go_wp2_with fail
      go_region
      all_goals (try go_wp2)
      all_goals (refine bodyPost_ret (v := .tuple #[.agg #[.int .i64 2, .int .i64 x, .string ⟨#[]⟩, .slice none 0 0, .slice none 0 0], .string (suf (suf s 1) 1), .bool true]) (by simp [results, Tryd.results33, go_sem, *]) rfl ?_)
      all_goals (exact first_fin 2 x ⟨#[]⟩ (by omega) (by omega) (by omega) empty_size (by rw [HD.out, if_neg h2x]) (below_set5 (HW1.out.setCell (show w.heap.size ≤ w.heap.size + 1 by omega) _) (Nat.le_refl _) _ _ _ _ _).drew)
  · have HR1 := hid (HR0.out.move hb1.size (hb1.block _ HR0.out.lt))
    have HV1 := hid (HV0.out.move hb1.size (hb1.block _ HV0.out.lt))
    have HW1 := hid (HB0.out.trans (hb1.mono (by rw [Hz0.out]; omega)))
    have HN := hid (numberR_any ⟨#[]⟩ w1 (by show (0 : Nat) ≤ _; omega))
    have HD : Hid (decR (m + 1) s = none) := by
      show _ = _
      rw [decR_eq, stepD_2 h1 Hnum.out, if_pos h2]
    clear hb1 HC HR0 HV0 HB0
    have r0 := HR1.out.q0
    have r1 := HR1.out.q1
    have r2 := HR1.out.q2
    have r3 := HR1.out.q3
    have r4 := HR1.out.q4
    have s0 := HR1.out.f0
    have s1 := HR1.out.f1
    have s2 := HR1.out.f2
    have s3 := HR1.out.f3
    have s4 := HR1.out.f4
    have v0 := HV1.out.q0
    have v1 := HV1.out.q1
    have v2 := HV1.out.q2
    have v3 := HV1.out.q3
    have v4 := HV1.out.q4
    have u1 := HV1.out.f1
    have u2 := HV1.out.f2
    have u3 := HV1.out.f3
    have u4 := HV1.out.f4
    go_wp2_with fail
    refine HN.out.mono ?_
    rintro e w2 ⟨rfl, rfl⟩
    generalize IntKind.i64.wrap (numB ⟨#[]⟩ : Int) = z
    go_wp2_with fail
    go_region
    all_goals (try go_wp2)
    all_goals (refine bodyPost_ret (v := .tuple #[.agg #[.int .i64 2, .int .i64 z, .string ⟨#[]⟩, .slice none 0 0, .slice none 0 0], .string ⟨#[]⟩, .bool false]) (by simp [results, Tryd.results33, go_sem, *]) rfl ?_)
    all_goals (exact first_not HD.out (below_set5 (HW1.out.setCell (show w.heap.size ≤ w.heap.size + 1 by omega) _) (Nat.le_refl _) _ _ _ _ _).drew)
end Go.Proofs.YtknakfpciccoaaaDoor
/- The walk of the reference's first: lists. -/
namespace Go.Proofs.YtknakfpciccoaaaDoor
open Go.RowKit

set_option maxHeartbeats 2000000 in
set_option maxRecDepth 100000 in
theorem first_5 (m : Nat) (hm : m ≤ 13) (ih : FirstSaid m) (s : ByteArray) (w : World) (hs : s.size ≤ 140737488355328) (h1 : 1 ≤ s.size) (hnum : numB (pre s 1) = 5) : Calls Tryd.prog 33 #[.string s, .int .i64 m] w (FirstPost (m + 1) s w) := by
  have e1 : ((s[0]'h1).toNat : Int) = 5 := by rw [← byte_0 h1, hnum]; rfl
  have Hnum := hid hnum
  have hne := nonempty_of (show s.size ≠ 0 by omega)
  have hsz := suf_size s 1
  clear hnum
  have HB0 : Hid (Below w.heap.size w ((w.alloc (.cells #[.int .i64 0, .int .i64 0, .string ⟨#[]⟩, .slice none 0 0, .slice none 0 0] 26)).alloc (.cells #[.int .i64 5, .int .i64 0, .string ⟨#[]⟩, .slice none 0 0, .slice none 0 0] 26))) := ((Below.refl _ _).alloc (Nat.le_refl _) _).alloc (by simp) _
  have HR0 : Hid (BoxAt w.heap.size (.int .i64 0) (.int .i64 0) (.string ⟨#[]⟩) (.slice none 0 0) (.slice none 0 0) ((w.alloc (.cells #[.int .i64 0, .int .i64 0, .string ⟨#[]⟩, .slice none 0 0, .slice none 0 0] 26)).alloc (.cells #[.int .i64 5, .int .i64 0, .string ⟨#[]⟩, .slice none 0 0, .slice none 0 0] 26))) := (box_new w _ _ _ _ _).move (by simp) (Below.heap_alloc _ _ _ (by simp))
  have HV0 : Hid (BoxAt (w.heap.size + 1) (.int .i64 5) (.int .i64 0) (.string ⟨#[]⟩) (.slice none 0 0) (.slice none 0 0) ((w.alloc (.cells #[.int .i64 0, .int .i64 0, .string ⟨#[]⟩, .slice none 0 0, .slice none 0 0] 26)).alloc (.cells #[.int .i64 5, .int .i64 0, .string ⟨#[]⟩, .slice none 0 0, .slice none 0 0] 26))) := by
    have := box_new (w.alloc (.cells #[.int .i64 0, .int .i64 0, .string ⟨#[]⟩, .slice none 0 0, .slice none 0 0] 26)) (.int .i64 5) (.int .i64 0) (.string ⟨#[]⟩) (.slice none 0 0) (.slice none 0 0)
    show BoxAt _ _ _ _ _ _ _
    simpa using this
  have Hz0 : Hid (((w.alloc (.cells #[.int .i64 0, .int .i64 0, .string ⟨#[]⟩, .slice none 0 0, .slice none 0 0] 26)).alloc (.cells #[.int .i64 5, .int .i64 0, .string ⟨#[]⟩, .slice none 0 0, .slice none 0 0] 26)).heap.size = w.heap.size + 2) := by
    show _ = _
    simp
  have HC := hid (sized_any (suf s 1) 4 ((w.alloc (.cells #[.int .i64 0, .int .i64 0, .string ⟨#[]⟩, .slice none 0 0, .slice none 0 0] 26)).alloc (.cells #[.int .i64 5, .int .i64 0, .string ⟨#[]⟩, .slice none 0 0, .slice none 0 0] 26)) (by omega) (by omega))
  have HI := hid ih
  clear ih
  go_enter Tryd.func33, Tryd.ntmps33
  go_wp2_with fail
  refine HC.out.mono ?_
  rintro e w1 ⟨hb1, ⟨x, r, h2, rfl⟩ | ⟨h2, rfl⟩⟩
  · have HR1 := hid (HR0.out.move hb1.size (hb1.block _ HR0.out.lt))
    have HV1 := hid (HV0.out.move hb1.size (hb1.block _ HV0.out.lt))
    have HW1 := hid (HB0.out.trans (hb1.mono (by rw [Hz0.out]; omega)))
    have hl1 : w.heap.size + 2 ≤ w1.heap.size := by have := hb1.size; rw [Hz0.out] at this; exact this
    have hx := szB_size h2
    have hx4 : x.size < 4294967296 := by omega
    have HN := hid (inner_any m hm HI.out 5 (by omega) x w1 hx4)
    have HD : Hid (decR (m + 1) s = (ents (decR m) ((5 : Int) == 6) x.size x).bind fun q => some (mkT 5 0 ByteArray.empty q.2 q.1, r)) := by
      show _ = _
      rw [decR_eq, stepD_56 h1 (by rw [Hnum.out]; omega), Hnum.out]
      simp only [Option.bind_some, h2]
      rfl
    clear hb1 HC HR0 HV0 HB0
    have r0 := HR1.out.q0
    have r1 := HR1.out.q1
    have r2 := HR1.out.q2
    have r3 := HR1.out.q3
    have r4 := HR1.out.q4
    have s0 := HR1.out.f0
    have s1 := HR1.out.f1
    have s2 := HR1.out.f2
    have s3 := HR1.out.f3
    have s4 := HR1.out.f4
    have v0 := HV1.out.q0
    have v1 := HV1.out.q1
    have v2 := HV1.out.q2
    have v3 := HV1.out.q3
    have v4 := HV1.out.q4
    have u1 := HV1.out.f1
    have u2 := HV1.out.f2
    have u3 := HV1.out.f3
    have u4 := HV1.out.f4
    go_wp2_with fail
    refine HN.out.mono ?_
    rintro e w2 ⟨hb2, ⟨ks, ls, es, A, B, C, D, he, rfl, hF, hS⟩ | ⟨he, A, an, B, C, cn, D, rfl⟩⟩
    · have HR2 := hid (HR1.out.move hb2.size (hb2.block _ HR1.out.lt))
      have HW2 := hid (HW1.out.trans (hb2.mono (by omega)))
      have hba : Below w2.heap.size w2 (w2.alloc (.cells #[.int .i64 5, .int .i64 0, .string ⟨#[]⟩, .slice A ls.length B, .slice C ks.length D] 26)) := (Below.refl _ _).alloc (Nat.le_refl _) _
      have HF := hid (hF.keep hS hba)
      have HS := hid (hS.keep hba.size)
      have HWa := hid (HW2.out.trans (hba.mono (by have := HW2.out.size; omega)))
      have HRa := hid (HR2.out.move hba.size (hba.block _ HR2.out.lt))
      have HD2 := hid (HD.out.trans (by rw [he]; rfl : _ = some (mkT 5 0 ByteArray.empty ls ks, r)))
      clear hb2 HN HR1 HV1 HW1 hF hS he hba r0 r1 r2 r3 r4 s0 s1 s2 s3 s4 v0 v1 v2 v3 v4 u1 u2 u3 u4
      have r0 := HRa.out.q0
      have r1 := HRa.out.q1
      have r2 := HRa.out.q2
      have r3 := HRa.out.q3
      have r4 := HRa.out.q4
      have s0 := HRa.out.f0
      have s1 := HRa.out.f1
      have s2 := HRa.out.f2
      have s3 := HRa.out.f3
      have s4 := HRa.out.f4
      go_wp2_with fail
      refine bodyPost_ret (v := .tuple #[.agg #[.int .i64 5, .int .i64 0, .string ⟨#[]⟩, .slice A ls.length B, .slice C ks.length D], .string r, .bool true]) (by simp [results, Tryd.results33, go_sem, *]) rfl ?_
      obtain ⟨p1, p2, p3⟩ := put_res2 HWa.out HF.out HS.out (Nat.le_refl _) (by omega) (.int .i64 5) (.int .i64 0) (.string ⟨#[]⟩) (.slice A ls.length B) (.slice C ks.length D)
      exact ⟨p1, Or.inl ⟨mkT 5 0 ByteArray.empty ls ks, r, es, A, B, C, D, HD2.out, by rw [kindOf_mk, nOf_mk, sOf_mk, nL_mk, nK_mk]; rfl, by rw [kindOf_mk, nOf_mk, sOf_mk, nL_mk, nK_mk]; exact p2, p3⟩⟩
    · have HR2 := hid (HR1.out.move hb2.size (hb2.block _ HR1.out.lt))
      have HW2 := hid (HW1.out.trans (hb2.mono (by omega)))
      have hba : Below w2.heap.size w2 (w2.alloc (.cells #[.int .i64 5, .int .i64 0, .string ⟨#[]⟩, .slice A an B, .slice C cn D] 26)) := (Below.refl _ _).alloc (Nat.le_refl _) _
      have HWa := hid (HW2.out.trans (hba.mono (by have := HW2.out.size; omega)))
      have HRa := hid (HR2.out.move hba.size (hba.block _ HR2.out.lt))
      have HD2 := hid (HD.out.trans (by rw [he]; rfl : _ = none))
      clear hb2 HN HR1 HV1 HW1 he hba r0 r1 r2 r3 r4 s0 s1 s2 s3 s4 v0 v1 v2 v3 v4 u1 u2 u3 u4
      have r0 := HRa.out.q0
      have r1 := HRa.out.q1
      have r2 := HRa.out.q2
      have r3 := HRa.out.q3
      have r4 := HRa.out.q4
      have s0 := HRa.out.f0
      have s1 := HRa.out.f1
      have s2 := HRa.out.f2
      have s3 := HRa.out.f3
      have s4 := HRa.out.f4
      go_wp2_with fail
      refine bodyPost_ret (v := .tuple #[.agg #[.int .i64 5, .int .i64 0, .string ⟨#[]⟩, .slice A an B, .slice C cn D], .string r, .bool false]) (by simp [results, Tryd.results33, go_sem, *]) rfl ?_
      exact first_not HD2.out (below_set5 HWa.out (Nat.le_refl _) _ _ _ _ _)
  · have HR1 := hid (HR0.out.move hb1.size (hb1.block _ HR0.out.lt))
    have HV1 := hid (HV0.out.move hb1.size (hb1.block _ HV0.out.lt))
    have HW1 := hid (HB0.out.trans (hb1.mono (by rw [Hz0.out]; omega)))
    have hl1 : w.heap.size + 2 ≤ w1.heap.size := by have := hb1.size; rw [Hz0.out] at this; exact this
    have HN := hid (inner_any m hm HI.out 5 (by omega) ⟨#[]⟩ w1 (by show (0 : Nat) < _; omega))
    have HD : Hid (decR (m + 1) s = none) := by
      show _ = _
      rw [decR_eq, stepD_56 h1 (by rw [Hnum.out]; omega), h2]
      rfl
    clear hb1 HC HR0 HV0 HB0
    have r0 := HR1.out.q0
    have r1 := HR1.out.q1
    have r2 := HR1.out.q2
    have r3 := HR1.out.q3
    have r4 := HR1.out.q4
    have s0 := HR1.out.f0
    have s1 := HR1.out.f1
    have s2 := HR1.out.f2
    have s3 := HR1.out.f3
    have s4 := HR1.out.f4
    have v0 := HV1.out.q0
    have v1 := HV1.out.q1
    have v2 := HV1.out.q2
    have v3 := HV1.out.q3
    have v4 := HV1.out.q4
    have u1 := HV1.out.f1
    have u2 := HV1.out.f2
    have u3 := HV1.out.f3
    have u4 := HV1.out.f4
    go_wp2_with fail
    refine HN.out.mono ?_
    rintro e w2 ⟨hb2, ⟨ks, ls, es, A, B, C, D, he, rfl, hF, hS⟩ | ⟨he, A, an, B, C, cn, D, rfl⟩⟩
    · have HR2 := hid (HR1.out.move hb2.size (hb2.block _ HR1.out.lt))
      have HW2 := hid (HW1.out.trans (hb2.mono (by omega)))
      have hba : Below w2.heap.size w2 (w2.alloc (.cells #[.int .i64 5, .int .i64 0, .string ⟨#[]⟩, .slice A ls.length B, .slice C ks.length D] 26)) := (Below.refl _ _).alloc (Nat.le_refl _) _
      have HWa := hid (HW2.out.trans (hba.mono (by have := HW2.out.size; omega)))
      have HRa := hid (HR2.out.move hba.size (hba.block _ HR2.out.lt))
      clear hb2 HN HR1 HV1 HW1 hF hS he hba r0 r1 r2 r3 r4 s0 s1 s2 s3 s4 v0 v1 v2 v3 v4 u1 u2 u3 u4
      have r0 := HRa.out.q0
      have r1 := HRa.out.q1
      have r2 := HRa.out.q2
      have r3 := HRa.out.q3
      have r4 := HRa.out.q4
      have s0 := HRa.out.f0
      have s1 := HRa.out.f1
      have s2 := HRa.out.f2
      have s3 := HRa.out.f3
      have s4 := HRa.out.f4
      go_wp2_with fail
      refine bodyPost_ret (v := .tuple #[.agg #[.int .i64 5, .int .i64 0, .string ⟨#[]⟩, .slice A ls.length B, .slice C ks.length D], .string ⟨#[]⟩, .bool false]) (by simp [results, Tryd.results33, go_sem, *]) rfl ?_
      exact first_not HD.out (below_set5 HWa.out (Nat.le_refl _) _ _ _ _ _)
    · exact absurd he (by rw [ents_empty _ _ _ _ rfl]; simp)
end Go.Proofs.YtknakfpciccoaaaDoor
/- The walk of the reference's first: objects. -/
namespace Go.Proofs.YtknakfpciccoaaaDoor
open Go.RowKit

set_option maxHeartbeats 2000000 in
set_option maxRecDepth 100000 in
theorem first_6 (m : Nat) (hm : m ≤ 13) (ih : FirstSaid m) (s : ByteArray) (w : World) (hs : s.size ≤ 140737488355328) (h1 : 1 ≤ s.size) (hnum : numB (pre s 1) = 6) : Calls Tryd.prog 33 #[.string s, .int .i64 m] w (FirstPost (m + 1) s w) := by
  have e1 : ((s[0]'h1).toNat : Int) = 6 := by rw [← byte_0 h1, hnum]; rfl
  have Hnum := hid hnum
  have hne := nonempty_of (show s.size ≠ 0 by omega)
  have hsz := suf_size s 1
  clear hnum
  have HB0 : Hid (Below w.heap.size w ((w.alloc (.cells #[.int .i64 0, .int .i64 0, .string ⟨#[]⟩, .slice none 0 0, .slice none 0 0] 26)).alloc (.cells #[.int .i64 6, .int .i64 0, .string ⟨#[]⟩, .slice none 0 0, .slice none 0 0] 26))) := ((Below.refl _ _).alloc (Nat.le_refl _) _).alloc (by simp) _
  have HR0 : Hid (BoxAt w.heap.size (.int .i64 0) (.int .i64 0) (.string ⟨#[]⟩) (.slice none 0 0) (.slice none 0 0) ((w.alloc (.cells #[.int .i64 0, .int .i64 0, .string ⟨#[]⟩, .slice none 0 0, .slice none 0 0] 26)).alloc (.cells #[.int .i64 6, .int .i64 0, .string ⟨#[]⟩, .slice none 0 0, .slice none 0 0] 26))) := (box_new w _ _ _ _ _).move (by simp) (Below.heap_alloc _ _ _ (by simp))
  have HV0 : Hid (BoxAt (w.heap.size + 1) (.int .i64 6) (.int .i64 0) (.string ⟨#[]⟩) (.slice none 0 0) (.slice none 0 0) ((w.alloc (.cells #[.int .i64 0, .int .i64 0, .string ⟨#[]⟩, .slice none 0 0, .slice none 0 0] 26)).alloc (.cells #[.int .i64 6, .int .i64 0, .string ⟨#[]⟩, .slice none 0 0, .slice none 0 0] 26))) := by
    have := box_new (w.alloc (.cells #[.int .i64 0, .int .i64 0, .string ⟨#[]⟩, .slice none 0 0, .slice none 0 0] 26)) (.int .i64 6) (.int .i64 0) (.string ⟨#[]⟩) (.slice none 0 0) (.slice none 0 0)
    show BoxAt _ _ _ _ _ _ _
    simpa using this
  have Hz0 : Hid (((w.alloc (.cells #[.int .i64 0, .int .i64 0, .string ⟨#[]⟩, .slice none 0 0, .slice none 0 0] 26)).alloc (.cells #[.int .i64 6, .int .i64 0, .string ⟨#[]⟩, .slice none 0 0, .slice none 0 0] 26)).heap.size = w.heap.size + 2) := by
    show _ = _
    simp
  have HC := hid (sized_any (suf s 1) 4 ((w.alloc (.cells #[.int .i64 0, .int .i64 0, .string ⟨#[]⟩, .slice none 0 0, .slice none 0 0] 26)).alloc (.cells #[.int .i64 6, .int .i64 0, .string ⟨#[]⟩, .slice none 0 0, .slice none 0 0] 26)) (by omega) (by omega))
  have HI := hid ih
  clear ih
  go_enter Tryd.func33, Tryd.ntmps33
  go_wp2_with fail
  refine HC.out.mono ?_
  rintro e w1 ⟨hb1, ⟨x, r, h2, rfl⟩ | ⟨h2, rfl⟩⟩
  · have HR1 := hid (HR0.out.move hb1.size (hb1.block _ HR0.out.lt))
    have HV1 := hid (HV0.out.move hb1.size (hb1.block _ HV0.out.lt))
    have HW1 := hid (HB0.out.trans (hb1.mono (by rw [Hz0.out]; omega)))
    have hl1 : w.heap.size + 2 ≤ w1.heap.size := by have := hb1.size; rw [Hz0.out] at this; exact this
    have hx := szB_size h2
    have hx4 : x.size < 4294967296 := by omega
    have HN := hid (inner_any m hm HI.out 6 (by omega) x w1 hx4)
    have HD : Hid (decR (m + 1) s = (ents (decR m) ((6 : Int) == 6) x.size x).bind fun q => some (mkT 6 0 ByteArray.empty q.2 q.1, r)) := by
      show _ = _
      rw [decR_eq, stepD_56 h1 (by rw [Hnum.out]; omega), Hnum.out]
      simp only [Option.bind_some, h2]
      rfl
    clear hb1 HC HR0 HV0 HB0
    have r0 := HR1.out.q0
    have r1 := HR1.out.q1
    have r2 := HR1.out.q2
    have r3 := HR1.out.q3
    have r4 := HR1.out.q4
    have s0 := HR1.out.f0
    have s1 := HR1.out.f1
    have s2 := HR1.out.f2
    have s3 := HR1.out.f3
    have s4 := HR1.out.f4
    have v0 := HV1.out.q0
    have v1 := HV1.out.q1
    have v2 := HV1.out.q2
    have v3 := HV1.out.q3
    have v4 := HV1.out.q4
    have u1 := HV1.out.f1
    have u2 := HV1.out.f2
    have u3 := HV1.out.f3
    have u4 := HV1.out.f4
    go_wp2_with fail
    refine HN.out.mono ?_
    rintro e w2 ⟨hb2, ⟨ks, ls, es, A, B, C, D, he, rfl, hF, hS⟩ | ⟨he, A, an, B, C, cn, D, rfl⟩⟩
    · have HR2 := hid (HR1.out.move hb2.size (hb2.block _ HR1.out.lt))
      have HW2 := hid (HW1.out.trans (hb2.mono (by omega)))
      have hba : Below w2.heap.size w2 (w2.alloc (.cells #[.int .i64 6, .int .i64 0, .string ⟨#[]⟩, .slice A ls.length B, .slice C ks.length D] 26)) := (Below.refl _ _).alloc (Nat.le_refl _) _
      have HF := hid (hF.keep hS hba)
      have HS := hid (hS.keep hba.size)
      have HWa := hid (HW2.out.trans (hba.mono (by have := HW2.out.size; omega)))
      have HRa := hid (HR2.out.move hba.size (hba.block _ HR2.out.lt))
      have HD2 := hid (HD.out.trans (by rw [he]; rfl : _ = some (mkT 6 0 ByteArray.empty ls ks, r)))
      clear hb2 HN HR1 HV1 HW1 hF hS he hba r0 r1 r2 r3 r4 s0 s1 s2 s3 s4 v0 v1 v2 v3 v4 u1 u2 u3 u4
      have r0 := HRa.out.q0
      have r1 := HRa.out.q1
      have r2 := HRa.out.q2
      have r3 := HRa.out.q3
      have r4 := HRa.out.q4
      have s0 := HRa.out.f0
      have s1 := HRa.out.f1
      have s2 := HRa.out.f2
      have s3 := HRa.out.f3
      have s4 := HRa.out.f4
      go_wp2_with fail
      refine bodyPost_ret (v := .tuple #[.agg #[.int .i64 6, .int .i64 0, .string ⟨#[]⟩, .slice A ls.length B, .slice C ks.length D], .string r, .bool true]) (by simp [results, Tryd.results33, go_sem, *]) rfl ?_
      obtain ⟨p1, p2, p3⟩ := put_res2 HWa.out HF.out HS.out (Nat.le_refl _) (by omega) (.int .i64 6) (.int .i64 0) (.string ⟨#[]⟩) (.slice A ls.length B) (.slice C ks.length D)
      exact ⟨p1, Or.inl ⟨mkT 6 0 ByteArray.empty ls ks, r, es, A, B, C, D, HD2.out, by rw [kindOf_mk, nOf_mk, sOf_mk, nL_mk, nK_mk]; rfl, by rw [kindOf_mk, nOf_mk, sOf_mk, nL_mk, nK_mk]; exact p2, p3⟩⟩
    · have HR2 := hid (HR1.out.move hb2.size (hb2.block _ HR1.out.lt))
      have HW2 := hid (HW1.out.trans (hb2.mono (by omega)))
      have hba : Below w2.heap.size w2 (w2.alloc (.cells #[.int .i64 6, .int .i64 0, .string ⟨#[]⟩, .slice A an B, .slice C cn D] 26)) := (Below.refl _ _).alloc (Nat.le_refl _) _
      have HWa := hid (HW2.out.trans (hba.mono (by have := HW2.out.size; omega)))
      have HRa := hid (HR2.out.move hba.size (hba.block _ HR2.out.lt))
      have HD2 := hid (HD.out.trans (by rw [he]; rfl : _ = none))
      clear hb2 HN HR1 HV1 HW1 he hba r0 r1 r2 r3 r4 s0 s1 s2 s3 s4 v0 v1 v2 v3 v4 u1 u2 u3 u4
      have r0 := HRa.out.q0
      have r1 := HRa.out.q1
      have r2 := HRa.out.q2
      have r3 := HRa.out.q3
      have r4 := HRa.out.q4
      have s0 := HRa.out.f0
      have s1 := HRa.out.f1
      have s2 := HRa.out.f2
      have s3 := HRa.out.f3
      have s4 := HRa.out.f4
      go_wp2_with fail
      refine bodyPost_ret (v := .tuple #[.agg #[.int .i64 6, .int .i64 0, .string ⟨#[]⟩, .slice A an B, .slice C cn D], .string r, .bool false]) (by simp [results, Tryd.results33, go_sem, *]) rfl ?_
      exact first_not HD2.out (below_set5 HWa.out (Nat.le_refl _) _ _ _ _ _)
  · have HR1 := hid (HR0.out.move hb1.size (hb1.block _ HR0.out.lt))
    have HV1 := hid (HV0.out.move hb1.size (hb1.block _ HV0.out.lt))
    have HW1 := hid (HB0.out.trans (hb1.mono (by rw [Hz0.out]; omega)))
    have hl1 : w.heap.size + 2 ≤ w1.heap.size := by have := hb1.size; rw [Hz0.out] at this; exact this
    have HN := hid (inner_any m hm HI.out 6 (by omega) ⟨#[]⟩ w1 (by show (0 : Nat) < _; omega))
    have HD : Hid (decR (m + 1) s = none) := by
      show _ = _
      rw [decR_eq, stepD_56 h1 (by rw [Hnum.out]; omega), h2]
      rfl
    clear hb1 HC HR0 HV0 HB0
    have r0 := HR1.out.q0
    have r1 := HR1.out.q1
    have r2 := HR1.out.q2
    have r3 := HR1.out.q3
    have r4 := HR1.out.q4
    have s0 := HR1.out.f0
    have s1 := HR1.out.f1
    have s2 := HR1.out.f2
    have s3 := HR1.out.f3
    have s4 := HR1.out.f4
    have v0 := HV1.out.q0
    have v1 := HV1.out.q1
    have v2 := HV1.out.q2
    have v3 := HV1.out.q3
    have v4 := HV1.out.q4
    have u1 := HV1.out.f1
    have u2 := HV1.out.f2
    have u3 := HV1.out.f3
    have u4 := HV1.out.f4
    go_wp2_with fail
    refine HN.out.mono ?_
    rintro e w2 ⟨hb2, ⟨ks, ls, es, A, B, C, D, he, rfl, hF, hS⟩ | ⟨he, A, an, B, C, cn, D, rfl⟩⟩
    · have HR2 := hid (HR1.out.move hb2.size (hb2.block _ HR1.out.lt))
      have HW2 := hid (HW1.out.trans (hb2.mono (by omega)))
      have hba : Below w2.heap.size w2 (w2.alloc (.cells #[.int .i64 6, .int .i64 0, .string ⟨#[]⟩, .slice A ls.length B, .slice C ks.length D] 26)) := (Below.refl _ _).alloc (Nat.le_refl _) _
      have HWa := hid (HW2.out.trans (hba.mono (by have := HW2.out.size; omega)))
      have HRa := hid (HR2.out.move hba.size (hba.block _ HR2.out.lt))
      clear hb2 HN HR1 HV1 HW1 hF hS he hba r0 r1 r2 r3 r4 s0 s1 s2 s3 s4 v0 v1 v2 v3 v4 u1 u2 u3 u4
      have r0 := HRa.out.q0
      have r1 := HRa.out.q1
      have r2 := HRa.out.q2
      have r3 := HRa.out.q3
      have r4 := HRa.out.q4
      have s0 := HRa.out.f0
      have s1 := HRa.out.f1
      have s2 := HRa.out.f2
      have s3 := HRa.out.f3
      have s4 := HRa.out.f4
      go_wp2_with fail
      refine bodyPost_ret (v := .tuple #[.agg #[.int .i64 6, .int .i64 0, .string ⟨#[]⟩, .slice A ls.length B, .slice C ks.length D], .string ⟨#[]⟩, .bool false]) (by simp [results, Tryd.results33, go_sem, *]) rfl ?_
      exact first_not HD.out (below_set5 HWa.out (Nat.le_refl _) _ _ _ _ _)
    · exact absurd he (by rw [ents_empty _ _ _ _ rfl]; simp)
end Go.Proofs.YtknakfpciccoaaaDoor
