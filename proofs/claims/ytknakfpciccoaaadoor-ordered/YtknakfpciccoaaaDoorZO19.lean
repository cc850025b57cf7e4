import Derived.Test.YtknakfpciccoaaaDoorZO18
import Derived.Test.YtknakfpciccoaaaDoorZO6
import Derived.BigQuiet
import Derived.Deep.QuietTactic
/- The walk of the reference's first: Bools. -/
namespace Go.Proofs.YtknakfpciccoaaaDoor
open Go.RowKit

set_option maxHeartbeats 2000000 in
set_option maxRecDepth 100000 in
theorem first_2 (m : Nat) (_hm : m ≤ 13) (s : ByteArray) (w : World) (hs : s.size ≤ 140737488355328) (h1 : 1 ≤ s.size) (hnum : numB (pre s 1) = 2) : Calls Tryd.prog 33 #[.string s, .int .i64 m] w (FirstPost (m + 1) s w) := by
  have e1 : ((s[0]'h1).toNat : Int) = 2 := by rw [← byte_0 h1, hnum]; rfl
  have Hnum := hid hnum
  have hne := nonempty_of (show s.size ≠ 0 by omega)
  have hsz := suf_size s 1
  clear hnum
  have HB0 : Hid (Below w.heap.size w ((w.alloc (.cells #[.int .i64 0, .int .i64 0, .string ⟨#[]⟩, .slice none 0 0, .slice none 0 0] 26)).alloc (.cells #[.int .i64 2, .int .i64 0, .string ⟨#[]⟩, .slice none 0 0, .slice none 0 0] 26))) := ((Below.refl _ _).alloc (Nat.le_refl _) _).alloc (by simp) _
  have HR0 : Hid (BoxAt w.heap.size (.int .i64 0) (.int .i64 0) (.string ⟨#[]⟩) (.slice none 0 0) (.slice none 0 0) ((w.alloc (.cells #[.int .i64 0, .int .i64 0, .string ⟨#[]⟩, .slice none 0 0, .slice none 0 0] 26)).alloc (.cells #[.int .i64 2, .int .i64 0, .string ⟨#[]⟩, .slice none 0 0, .slice none 0 0] 26))) := (box_new w _ _ _ _ _).move (by simp) (Below.heap_alloc _ _ _ (by simp))
  have HV0 : Hid (BoxAt (w.heap.size + 1) (.int .i64 2) (.int .i64 0) (.string ⟨#[]⟩) (.slice none 0 0) (.slice none 0 0) ((w.alloc (.cells #[.int .i64 0, .int .i64 0, .string ⟨#[]⟩, .slice none 0 0, .slice none 0 0] 26)).alloc (.cells #[.int .i64 2, .int .i64 0, .string ⟨#[]⟩, .slice none 0 0, .slice none 0 0] 26))) := by
    have := box_new (w.alloc (.cells #[.int .i64 0, .int .i64 0, .string ⟨#[]⟩, .slice none 0 0, .slice none 0 0] 26)) (.int .i64 2) (.int .i64 0) (.string ⟨#[]⟩) (.slice none 0 0) (.slice none 0 0)
    show BoxAt _ _ _ _ _ _ _
    simpa using this
  have Hz0 : Hid (((w.alloc (.cells #[.int .i64 0, .int .i64 0, .string ⟨#[]⟩, .slice none 0 0, .slice none 0 0] 26)).alloc (.cells #[.int .i64 2, .int .i64 0, .string ⟨#[]⟩, .slice none 0 0, .slice none 0 0] 26)).heap.size = w.heap.size + 2) := by
    show _ = _
    simp
  have HC := hid (cut_any (suf s 1) 1 ((w.alloc (.cells #[.int .i64 0, .int .i64 0, .string ⟨#[]⟩, .slice none 0 0, .slice none 0 0] 26)).alloc (.cells #[.int .i64 2, .int .i64 0, .string ⟨#[]⟩, .slice none 0 0, .slice none 0 0] 26)) (by omega) (by omega))
  go_enter Tryd.func33, Tryd.ntmps33
  go_wp2_with fail
  refine HC.out.mono ?_
  rintro e w1 ⟨hb1, ⟨h2, rfl⟩ | ⟨h2, rfl⟩⟩
  · have HR1 := hid (HR0.out.move hb1.size (hb1.block _ HR0.out.lt))
    have HV1 := hid (HV0.out.move hb1.size (hb1.block _ HV0.out.lt))
    have HW1 := hid (HB0.out.trans (hb1.mono (by rw [Hz0.out]; omega)))
    have hN := numberR_any (pre (suf s 1) 1) w1 (by rw [pre_size h2]; omega)
    have hlt := numB_lt (pre (suf s 1) 1)
    rw [pre_size h2] at hlt
    have ew : IntKind.i64.wrap (numB (pre (suf s 1) 1) : Int) = (numB (pre (suf s 1) 1) : Int) := by rw [IntKind.wrap_i64]; omega
    rw [ew] at hN
    obtain ⟨x, hx⟩ : ∃ x : Nat, numB (pre (suf s 1) 1) = x := ⟨_, rfl⟩
    rw [hx] at hN hlt
    have HN := hid hN
    have HD : Hid (decR (m + 1) s = if 2 ≤ x then none else some (leafT 2 x ⟨#[]⟩, suf (suf s 1) 1)) := by
      show _ = _
      rw [decR_eq, stepD_2 h1 Hnum.out, if_neg (by omega), hx]
      simp
      rfl
    clear hb1 HC HR0 HV0 HB0 hx ew hN
    have r0 := HR1.out.q0
    have r1 := HR1.out.q1
    have r2 := HR1.out.q2
    have r3 := HR1.out.q3
    have r4 := HR1.out.q4
    have s0 := HR1.out.f0
    have s1 := HR1.out.f1
    have s2 := HR1.out.f2
    have s3 := HR1.out.f3
    have s4 := HR1.out.f4
    have v0 := HV1.out.q0
    have v1 := HV1.out.q1
    have v2 := HV1.out.q2
    have v3 := HV1.out.q3
    have v4 := HV1.out.q4
    have u1 := HV1.out.f1
    have u2 := HV1.out.f2
    have u3 := HV1.out.f3
    have u4 := HV1.out.f4
    go_wp2_with fail
    refine HN.out.mono ?_
    rintro e w2 ⟨rfl, rfl⟩
    by_cases h2x : 2 ≤ x
    · have hi : ¬ ((x : Int) < 2) := by omega
      go_wp2_with fail
      go_region
      all_goals (try go_wp2)
      all_goals (refine bodyPost_ret (v := .tuple #[.agg #[.int .i64 2, .int .i64 x, .string ⟨#[]⟩, .slice none 0 0, .slice none 0 0], .string (suf (suf s 1) 1), .bool false]) (by simp [results, Tryd.results33, go_sem, *]) rfl ?_)
      all_goals (exact first_not (by rw [HD.out, if_pos h2x]) (below_set5 (HW1.out.setCell (show w.heap.size ≤ w.heap.size + 1 by omega) _) (Nat.le_refl _) _ _ _ _ _).drew)
    · have hi : (x : Int) < 2 := by omega
      go_wp2_with fail
      go_region
      all_goals (try go_wp2)
      all_goals (refine bodyPost_ret (v := .tuple #[.agg #[.int .i64 2, .int .i64 x, .string ⟨#[]⟩, .slice none 0 0, .slice none 0 0], .string (suf (suf s 1) 1), .bool true]) (by simp [results, Tryd.results33, go_sem, *]) rfl ?_)
      all_goals (exact first_fin 2 x ⟨#[]⟩ (by omega) (by omega) (by omega) empty_size (by rw [HD.out, if_neg h2x]) (below_set5 (HW1.out.setCell (show w.heap.size ≤ w.heap.size + 1 by omega) _) (Nat.le_refl _) _ _ _ _ _).drew)
  · have HR1 := hid (HR0.out.move hb1.size (hb1.block _ HR0.out.lt))
    have HV1 := hid (HV0.out.move hb1.size (hb1.block _ HV0.out.lt))
    have HW1 := hid (HB0.out.trans (hb1.mono (by rw [Hz0.out]; omega)))
    have HN := hid (numberR_any ⟨#[]⟩ w1 (by show (0 : Nat) ≤ _; omega))
    have HD : Hid (decR (m + 1) s = none) := by
      show _ = _
      rw [decR_eq, stepD_2 h1 Hnum.out, if_pos h2]
    clear hb1 HC HR0 HV0 HB0
    have r0 := HR1.out.q0
    have r1 := HR1.out.q1
    have r2 := HR1.out.q2
    have r3 := HR1.out.q3
    have r4 := HR1.out.q4
    have s0 := HR1.out.f0
    have s1 := HR1.out.f1
    have s2 := HR1.out.f2
    have s3 := HR1.out.f3
    have s4 := HR1.out.f4
    have v0 := HV1.out.q0
    have v1 := HV1.out.q1
    have v2 := HV1.out.q2
    have v3 := HV1.out.q3
    have v4 := HV1.out.q4
    have u1 := HV1.out.f1
    have u2 := HV1.out.f2
    have u3 := HV1.out.f3
    have u4 := HV1.out.f4
    go_wp2_with fail
    refine HN.out.mono ?_
    rintro e w2 ⟨rfl, rfl⟩
    generalize IntKind.i64.wrap (numB ⟨#[]⟩ : Int) = z
    go_wp2_with fail
    go_region
    all_goals (try go_wp2)
    all_goals (refine bodyPost_ret (v := .tuple #[.agg #[.int .i64 2, .int .i64 z, .string ⟨#[]⟩, .slice none 0 0, .slice none 0 0], .string ⟨#[]⟩, .bool false]) (by simp [results, Tryd.results33, go_sem, *]) rfl ?_)
    all_goals (exact first_not HD.out (below_set5 (HW1.out.setCell (show w.heap.size ≤ w.heap.size + 1 by omega) _) (Nat.le_refl _) _ _ _ _ _).drew)
end Go.Proofs.YtknakfpciccoaaaDoor
/- The walk of the reference's first: lists. -/
namespace Go.Proofs.YtknakfpciccoaaaDoor
open Go.RowKit

set_option maxHeartbeats 2000000 in
set_option maxRecDepth 100000 in
theorem first_5 (m : Nat) (hm : m ≤ 13) (ih : FirstSaid m) (s : ByteArray) (w : World) (hs : s.size ≤ 140737488355328) (h1 : 1 ≤ s.size) (hnum : numB (pre s 1) = 5) : Calls Tryd.prog 33 #[.string s, .int .i64 m] w (FirstPost (m + 1) s w) := by
  have e1 : ((s[0]'h1).toNat : Int) = 5 := by rw [← byte_0 h1, hnum]; rfl
  have Hnum := hid hnum
  have hne := nonempty_of (show s.size ≠ 0 by omega)
  have hsz := suf_size s 1
  clear hnum
  have HB0 : Hid (Below w.heap.size w ((w.alloc (.cells #[.int .i64 0, .int .i64 0, .string ⟨#[]⟩, .slice none 0 0, .slice none 0 0] 26)).alloc (.cells #[.int .i64 5, .int .i64 0, .string ⟨#[]⟩, .slice none 0 0, .slice none 0 0] 26))) := ((Below.refl _ _).alloc (Nat.le_refl _) _).alloc (by simp) _
  have HR0 : Hid (BoxAt w.heap.size (.int .i64 0) (.int .i64 0) (.string ⟨#[]⟩) (.slice none 0 0) (.slice none 0 0) ((w.alloc (.cells #[.int .i64 0, .int .i64 0, .string ⟨#[]⟩, .slice none 0 0, .slice none 0 0] 26)).alloc (.cells #[.int .i64 5, .int .i64 0, .string ⟨#[]⟩, .slice none 0 0, .slice none 0 0] 26))) := (box_new w _ _ _ _ _).move (by simp) (Below.heap_alloc _ _ _ (by simp))
  have HV0 : Hid (BoxAt (w.heap.size + 1) (.int .i64 5) (.int .i64 0) (.string ⟨#[]⟩) (.slice none 0 0) (.slice none 0 0) ((w.alloc (.cells #[.int .i64 0, .int .i64 0, .string ⟨#[]⟩, .slice none 0 0, .slice none 0 0] 26)).alloc (.cells #[.int .i64 5, .int .i64 0, .string ⟨#[]⟩, .slice none 0 0, .slice none 0 0] 26))) := by
    have := box_new (w.alloc (.cells #[.int .i64 0, .int .i64 0, .string ⟨#[]⟩, .slice none 0 0, .slice none 0 0] 26)) (.int .i64 5) (.int .i64 0) (.string ⟨#[]⟩) (.slice none 0 0) (.slice none 0 0)
    show BoxAt _ _ _ _ _ _ _
    simpa using this
  have Hz0 : Hid (((w.alloc (.cells #[.int .i64 0, .int .i64 0, .string ⟨#[]⟩, .slice none 0 0, .slice none 0 0] 26)).alloc (.cells #[.int .i64 5, .int .i64 0, .string ⟨#[]⟩, .slice none 0 0, .slice none 0 0] 26)).heap.size = w.heap.size + 2) := by
    show _ = _
    simp
  have HC := hid (sized_any (suf s 1) 4 ((w.alloc (.cells #[.int .i64 0, .int .i64 0, .string ⟨#[]⟩, .slice none 0 0, .slice none 0 0] 26)).alloc (.cells #[.int .i64 5, .int .i64 0, .string ⟨#[]⟩, .slice none 0 0, .slice none 0 0] 26)) (by omega) (by omega))
  have HI := hid ih
  clear ih
  go_enter Tryd.func33, Tryd.ntmps33
  go_wp2_with fail
  refine HC.out.mono ?_
  rintro e w1 ⟨hb1, ⟨x, r, h2, rfl⟩ | ⟨h2, rfl⟩⟩
  · have HR1 := hid (HR0.out.move hb1.size (hb1.block _ HR0.out.lt))
    have HV1 := hid (HV0.out.move hb1.size (hb1.block _ HV0.out.lt))
    have HW1 := hid (HB0.out.trans (hb1.mono (by rw [Hz0.out]; omega)))
    have hl1 : w.heap.size + 2 ≤ w1.heap.size := by have := hb1.size; rw [Hz0.out] at this; exact this
    have hx := szB_size h2
    have hx4 : x.size < 4294967296 := by omega
    have HN := hid (inner_any m hm HI.out 5 (by omega) x w1 hx4)
    have HD : Hid (decR (m + 1) s = (ents (decR m) ((5 : Int) == 6) x.size x).bind fun q => some (mkT 5 0 ByteArray.empty q.2 q.1, r)) := by
      show _ = _
      rw [decR_eq, stepD_56 h1 (by rw [Hnum.out]; omega), Hnum.out]
      simp only [Option.bind_some, h2]
      rfl
    clear hb1 HC HR0 HV0 HB0
    have r0 := HR1.out.q0
    have r1 := HR1.out.q1
    have r2 := HR1.out.q2
    have r3 := HR1.out.q3
    have r4 := HR1.out.q4
    have s0 := HR1.out.f0
    have s1 := HR1.out.f1
    have s2 := HR1.out.f2
    have s3 := HR1.out.f3
    have s4 := HR1.out.f4
    have v0 := HV1.out.q0
    have v1 := HV1.out.q1
    have v2 := HV1.out.q2
    have v3 := HV1.out.q3
    have v4 := HV1.out.q4
    have u1 := HV1.out.f1
    have u2 := HV1.out.f2
    have u3 := HV1.out.f3
    have u4 := HV1.out.f4
    go_wp2_with fail
    refine HN.out.mono ?_
    rintro e w2 ⟨hb2, ⟨ks, ls, es, A, B, C, D, he, rfl, hF, hS⟩ | ⟨he, A, an, B, C, cn, D, rfl⟩⟩
    · have HR2 := hid (HR1.out.move hb2.size (hb2.block _ HR1.out.lt))
      have HW2 := hid (HW1.out.trans (hb2.mono (by omega)))
      have hba : Below w2.heap.size w2 (w2.alloc (.cells #[.int .i64 5, .int .i64 0, .string ⟨#[]⟩, .slice A ls.length B, .slice C ks.length D] 26)) := (Below.refl _ _).alloc (Nat.le_refl _) _
      have HF := hid (hF.keep hS hba)
      have HS := hid (hS.keep hba.size)
      have HWa := hid (HW2.out.trans (hba.mono (by have := HW2.out.size; omega)))
      have HRa := hid (HR2.out.move hba.size (hba.block _ HR2.out.lt))
      have HD2 := hid (HD.out.trans (by rw [he]; rfl : _ = some (mkT 5 0 ByteArray.empty ls ks, r)))
      clear hb2 HN HR1 HV1 HW1 hF hS he hba r0 r1 r2 r3 r4 s0 s1 s2 s3 s4 v0 v1 v2 v3 v4 u1 u2 u3 u4
      have r0 := HRa.out.q0
      have r1 := HRa.out.q1
      have r2 := HRa.out.q2
      have r3 := HRa.out.q3
      have r4 := HRa.out.q4
      have s0 := HRa.out.f0
      have s1 := HRa.out.f1
      have s2 := HRa.out.f2
      have s3 := HRa.out.f3
      have s4 := HRa.out.f4
      go_wp2_with fail
      refine bodyPost_ret (v := .tuple #[.agg #[.int .i64 5, .int .i64 0, .string ⟨#[]⟩, .slice A ls.length B, .slice C ks.length D], .string r, .bool true]) (by simp [results, Tryd.results33, go_sem, *]) rfl ?_
      obtain ⟨p1, p2, p3⟩ := put_res2 HWa.out HF.out HS.out (Nat.le_refl _) (by omega) (.int .i64 5) (.int .i64 0) (.string ⟨#[]⟩) (.slice A ls.length B) (.slice C ks.length D)
      exact ⟨p1, Or.inl ⟨mkT 5 0 ByteArray.empty ls ks, r, es, A, B, C, D, HD2.out, by rw [kindOf_mk, nOf_mk, sOf_mk, nL_mk, nK_mk]; rfl, by rw [kindOf_mk, nOf_mk, sOf_mk, nL_mk, nK_mk]; exact p2, p3⟩⟩
    · have HR2 := hid (HR1.out.move hb2.size (hb2.block _ HR1.out.lt))
      have HW2 := hid (HW1.out.trans (hb2.mono (by omega)))
      have hba : Below w2.heap.size w2 (w2.alloc (.cells #[.int .i64 5, .int .i64 0, .string ⟨#[]⟩, .slice A an B, .slice C cn D] 26)) := (Below.refl _ _).alloc (Nat.le_refl _) _
      have HWa := hid (HW2.out.trans (hba.mono (by have := HW2.out.size; omega)))
      have HRa := hid (HR2.out.move hba.size (hba.block _ HR2.out.lt))
      have HD2 := hid (HD.out.trans (by rw [he]; rfl : _ = none))
      clear hb2 HN HR1 HV1 HW1 he hba r0 r1 r2 r3 r4 s0 s1 s2 s3 s4 v0 v1 v2 v3 v4 u1 u2 u3 u4
      have r0 := HRa.out.q0
      have r1 := HRa.out.q1
      have r2 := HRa.out.q2
      have r3 := HRa.out.q3
      have r4 := HRa.out.q4
      have s0 := HRa.out.f0
      have s1 := HRa.out.f1
      have s2 := HRa.out.f2
      have s3 := HRa.out.f3
      have s4 := HRa.out.f4
      go_wp2_with fail
      refine bodyPost_ret (v := .tuple #[.agg #[.int .i64 5, .int .i64 0, .string ⟨#[]⟩, .slice A an B, .slice C cn D], .string r, .bool false]) (by simp [results, Tryd.results33, go_sem, *]) rfl ?_
      exact first_not HD2.out (below_set5 HWa.out (Nat.le_refl _) _ _ _ _ _)
  · have HR1 := hid (HR0.out.move hb1.size (hb1.block _ HR0.out.lt))
    have HV1 := hid (HV0.out.move hb1.size (hb1.block _ HV0.out.lt))
    have HW1 := hid (HB0.out.trans (hb1.mono (by rw [Hz0.out]; omega)))
    have hl1 : w.heap.size + 2 ≤ w1.heap.size := by have := hb1.size; rw [Hz0.out] at this; exact this
    have HN := hid (inner_any m hm HI.out 5 (by omega) ⟨#[]⟩ w1 (by show (0 : Nat) < _; omega))
    have HD : Hid (decR (m + 1) s = none) := by
      show _ = _
      rw [decR_eq, stepD_56 h1 (by rw [Hnum.out]; omega), h2]
      rfl
    clear hb1 HC HR0 HV0 HB0
    have r0 := HR1.out.q0
    have r1 := HR1.out.q1
    have r2 := HR1.out.q2
    have r3 := HR1.out.q3
    have r4 := HR1.out.q4
    have s0 := HR1.out.f0
    have s1 := HR1.out.f1
    have s2 := HR1.out.f2
    have s3 := HR1.out.f3
    have s4 := HR1.out.f4
    have v0 := HV1.out.q0
    have v1 := HV1.out.q1
    have v2 := HV1.out.q2
    have v3 := HV1.out.q3
    have v4 := HV1.out.q4
    have u1 := HV1.out.f1
    have u2 := HV1.out.f2
    have u3 := HV1.out.f3
    have u4 := HV1.out.f4
    go_wp2_with fail
    refine HN.out.mono ?_
    rintro e w2 ⟨hb2, ⟨ks, ls, es, A, B, C, D, he, rfl, hF, hS⟩ | ⟨he, A, an, B, C, cn, D, rfl⟩⟩
    · have HR2 := hid (HR1.out.move hb2.size (hb2.block _ HR1.out.lt))
      have HW2 := hid (HW1.out.trans (hb2.mono (by omega)))
      have hba : Below w2.heap.size w2 (w2.alloc (.cells #[.int .i64 5, .int .i64 0, .string ⟨#[]⟩, .slice A ls.length B, .slice C ks.length D] 26)) := (Below.refl _ _).alloc (Nat.le_refl _) _
      have HWa := hid (HW2.out.trans (hba.mono (by have := HW2.out.size; omega)))
      have HRa := hid (HR2.out.move hba.size (hba.block _ HR2.out.lt))
      clear hb2 HN HR1 HV1 HW1 hF hS he hba r0 r1 r2 r3 r4 s0 s1 s2 s3 s4 v0 v1 v2 v3 v4 u1 u2 u3 u4
      have r0 := HRa.out.q0
      have r1 := HRa.out.q1
      have r2 := HRa.out.q2
      have r3 := HRa.out.q3
      have r4 := HRa.out.q4
      have s0 := HRa.out.f0
      have s1 := HRa.out.f1
      have s2 := HRa.out.f2
      have s3 := HRa.out.f3
      have s4 := HRa.out.f4
      go_wp2_with fail
      refine bodyPost_ret (v := .tuple #[.agg #[.int .i64 5, .int .i64 0, .string ⟨#[]⟩, .slice A ls.length B, .slice C ks.length D], .string ⟨#[]⟩, .bool false]) (by simp [results, Tryd.results33, go_sem, *]) rfl ?_
      exact first_not HD.out (below_set5 HWa.out (Nat.le_refl _) _ _ _ _ _)
    · exact absurd he (by rw [ents_empty _ _ _ _ rfl]; simp)
end Go.Proofs.YtknakfpciccoaaaDoor
/- The walk of the reference's first: objects. -/
namespace Go.Proofs.YtknakfpciccoaaaDoor
open Go.RowKit

set_option maxHeartbeats 2000000 in
set_option maxRecDepth 100000 in
theorem first_6 (m : Nat) (hm : m ≤ 13) (ih : FirstSaid m) (s : ByteArray) (w : World) (hs : s.size ≤ 140737488355328) (h1 : 1 ≤ s.size) (hnum : numB (pre s 1) = 6) : Calls Tryd.prog 33 #[.string s, .int .i64 m] w (FirstPost (m + 1) s w) := by
  have e1 : ((s[0]'h1).toNat : Int) = 6 := by rw [← byte_0 h1, hnum]; rfl
  have Hnum := hid hnum
  have hne := nonempty_of (show s.size ≠ 0 by omega)
  have hsz := suf_size s 1
  clear hnum
  have HB0 : Hid (Below w.heap.size w ((w.alloc (.cells #[.int .i64 0, .int .i64 0, .string ⟨#[]⟩, .slice none 0 0, .slice none 0 0] 26)).alloc (.cells #[.int .i64 6, .int .i64 0, .string ⟨#[]⟩, .slice none 0 0, .slice none 0 0] 26))) := ((Below.refl _ _).alloc (Nat.le_refl _) _).alloc (by simp) _
  have HR0 : Hid (BoxAt w.heap.size (.int .i64 0) (.int .i64 0) (.string ⟨#[]⟩) (.slice none 0 0) (.slice none 0 0) ((w.alloc (.cells #[.int .i64 0, .int .i64 0, .string ⟨#[]⟩, .slice none 0 0, .slice none 0 0] 26)).alloc (.cells #[.int .i64 6, .int .i64 0, .string ⟨#[]⟩, .slice none 0 0, .slice none 0 0] 26))) := (box_new w _ _ _ _ _).move (by simp) (Below.heap_alloc _ _ _ (by simp))
  have HV0 : Hid (BoxAt (w.heap.size + 1) (.int .i64 6) (.int .i64 0) (.string ⟨#[]⟩) (.slice none 0 0) (.slice none 0 0) ((w.alloc (.cells #[.int .i64 0, .int .i64 0, .string ⟨#[]⟩, .slice none 0 0, .slice none 0 0] 26)).alloc (.cells #[.int .i64 6, .int .i64 0, .string ⟨#[]⟩, .slice none 0 0, .slice none 0 0] 26))) := by
    have := box_new (w.alloc (.cells #[.int .i64 0, .int .i64 0, .string ⟨#[]⟩, .slice none 0 0, .slice none 0 0] 26)) (.int .i64 6) (.int .i64 0) (.string ⟨#[]⟩) (.slice none 0 0) (.slice none 0 0)
    show BoxAt _ _ _ _ _ _ _
    simpa using this
  have Hz0 : Hid (((w.alloc (.cells #[.int .i64 0, .int .i64 0, .string ⟨#[]⟩, .slice none 0 0, .slice none 0 0] 26)).alloc (.cells #[.int .i64 6, .int .i64 0, .string ⟨#[]⟩, .slice none 0 0, .slice none 0 0] 26)).heap.size = w.heap.size + 2) := by
    show _ = _
    simp
  have HC := hid (sized_any (suf s 1) 4 ((w.alloc (.cells #[.int .i64 0, .int .i64 0, .string ⟨#[]⟩, .slice none 0 0, .slice none 0 0] 26)).alloc (.cells #[.int .i64 6, .int .i64 0, .string ⟨#[]⟩, .slice none 0 0, .slice none 0 0] 26)) (by omega) (by omega))
  have HI := hid ih
  clear ih
  go_enter Tryd.func33, Tryd.ntmps33
  go_wp2_with fail
  refine HC.out.mono ?_
  rintro e w1 ⟨hb1, ⟨x, r, h2, rfl⟩ | ⟨h2, rfl⟩⟩
  · have HR1 := hid (HR0.out.move hb1.size (hb1.block _ HR0.out.lt))
    have HV1 := hid (HV0.out.move hb1.size (hb1.block _ HV0.out.lt))
    have HW1 := hid (HB0.out.trans (hb1.mono (by rw [Hz0.out]; omega)))
    have hl1 : w.heap.size + 2 ≤ w1.heap.size := by have := hb1.size; rw [Hz0.out] at this; exact this
    have hx := szB_size h2
    have hx4 : x.size < 4294967296 := by omega
    have HN := hid (inner_any m hm HI.out 6 (by omega) x w1 hx4)
    have HD : Hid (decR (m + 1) s = (ents (decR m) ((6 : Int) == 6) x.size x).bind fun q => some (mkT 6 0 ByteArray.empty q.2 q.1, r)) := by
      show _ = _
      rw [decR_eq, stepD_56 h1 (by rw [Hnum.out]; omega), Hnum.out]
      simp only [Option.bind_some, h2]
      rfl
    clear hb1 HC HR0 HV0 HB0
    have r0 := HR1.out.q0
    have r1 := HR1.out.q1
    have r2 := HR1.out.q2
    have r3 := HR1.out.q3
    have r4 := HR1.out.q4
    have s0 := HR1.out.f0
    have s1 := HR1.out.f1
    have s2 := HR1.out.f2
    have s3 := HR1.out.f3
    have s4 := HR1.out.f4
    have v0 := HV1.out.q0
    have v1 := HV1.out.q1
    have v2 := HV1.out.q2
    have v3 := HV1.out.q3
    have v4 := HV1.out.q4
    have u1 := HV1.out.f1
    have u2 := HV1.out.f2
    have u3 := HV1.out.f3
    have u4 := HV1.out.f4
    go_wp2_with fail
    refine HN.out.mono ?_
    rintro e w2 ⟨hb2, ⟨ks, ls, es, A, B, C, D, he, rfl, hF, hS⟩ | ⟨he, A, an, B, C, cn, D, rfl⟩⟩
    · have HR2 := hid (HR1.out.move hb2.size (hb2.block _ HR1.out.lt))
      have HW2 := hid (HW1.out.trans (hb2.mono (by omega)))
      have hba : Below w2.heap.size w2 (w2.alloc (.cells #[.int .i64 6, .int .i64 0, .string ⟨#[]⟩, .slice A ls.length B, .slice C ks.length D] 26)) := (Below.refl _ _).alloc (Nat.le_refl _) _
      have HF := hid (hF.keep hS hba)
      have HS := hid (hS.keep hba.size)
      have HWa := hid (HW2.out.trans (hba.mono (by have := HW2.out.size; omega)))
      have HRa := hid (HR2.out.move hba.size (hba.block _ HR2.out.lt))
      have HD2 := hid (HD.out.trans (by rw [he]; rfl : _ = some (mkT 6 0 ByteArray.empty ls ks, r)))
      clear hb2 HN HR1 HV1 HW1 hF hS he hba r0 r1 r2 r3 r4 s0 s1 s2 s3 s4 v0 v1 v2 v3 v4 u1 u2 u3 u4
      have r0 := HRa.out.q0
      have r1 := HRa.out.q1
      have r2 := HRa.out.q2
      have r3 := HRa.out.q3
      have r4 := HRa.out.q4
      have s0 := HRa.out.f0
      have s1 := HRa.out.f1
      have s2 := HRa.out.f2
      have s3 := HRa.out.f3
      have s4 := HRa.out.f4
      go_wp2_with fail
      refine bodyPost_ret (v := .tuple #[.agg #[.int .i64 6, .int .i64 0, .string ⟨#[]⟩, .slice A ls.length B, .slice C ks.length D], .string r, .bool true]) (by simp [results, Tryd.results33, go_sem, *]) rfl ?_
      obtain ⟨p1, p2, p3⟩ := put_res2 HWa.out HF.out HS.out (Nat.le_refl _) (by omega) (.int .i64 6) (.int .i64 0) (.string ⟨#[]⟩) (.slice A ls.length B) (.slice C ks.length D)
      exact ⟨p1, Or.inl ⟨mkT 6 0 ByteArray.empty ls ks, r, es, A, B, C, D, HD2.out, by rw [kindOf_mk, nOf_mk, sOf_mk, nL_mk, nK_mk]; rfl, by rw [kindOf_mk, nOf_mk, sOf_mk, nL_mk, nK_mk]; exact p2, p3⟩⟩
    · have HR2 := hid (HR1.out.move hb2.size (hb2.block _ HR1.out.lt))
      have HW2 := hid (HW1.out.trans (hb2.mono (by omega)))
      have hba : Below w2.heap.size w2 (w2.alloc (.cells #[.int .i64 6, .int .i64 0, .string ⟨#[]⟩, .slice A an B, .slice C cn D] 26)) := (Below.refl _ _).alloc (Nat.le_refl _) _
      have HWa := hid (HW2.out.trans (hba.mono (by have := HW2.out.size; omega)))
      have HRa := hid (HR2.out.move hba.size (hba.block _ HR2.out.lt))
      have HD2 := hid (HD.out.trans (by rw [he]; rfl : _ = none))
      clear hb2 HN HR1 HV1 HW1 he hba r0 r1 r2 r3 r4 s0 s1 s2 s3 s4 v0 v1 v2 v3 v4 u1 u2 u3 u4
      have r0 := HRa.out.q0
      have r1 := HRa.out.q1
      have r2 := HRa.out.q2
      have r3 := HRa.out.q3
      have r4 := HRa.out.q4
      have s0 := HRa.out.f0
      have s1 := HRa.out.f1
      have s2 := HRa.out.f2
      have s3 := HRa.out.f3
      have s4 := HRa.out.f4
      go_wp2_with fail
      refine bodyPost_ret (v := .tuple #[.agg #[.int .i64 6, .int .i64 0, .string ⟨#[]⟩, .slice A an B, .slice C cn D], .string r, .bool false]) (by simp [results, Tryd.results33, go_sem, *]) rfl ?_
      exact first_not HD2.out (below_set5 HWa.out (Nat.le_refl _) _ _ _ _ _)
  · have HR1 := hid (HR0.out.move hb1.size (hb1.block _ HR0.out.lt))
    have HV1 := hid (HV0.out.move hb1.size (hb1.block _ HV0.out.lt))
    have HW1 := hid (HB0.out.trans (hb1.mono (by rw [Hz0.out]; omega)))
    have hl1 : w.heap.size + 2 ≤ w1.heap.size := by have := hb1.size; rw [Hz0.out] at this; exact this
    have HN := hid (inner_any m hm HI.out 6 (by omega) ⟨#[]⟩ w1 (by show (0 : Nat) < _; omega))
    have HD : Hid (decR (m + 1) s = none) := by
      show _ = _
      rw [decR_eq, stepD_56 h1 (by rw [Hnum.out]; omega), h2]
      rfl
    clear hb1 HC HR0 HV0 HB0
    have r0 := HR1.out.q0
    have r1 := HR1.out.q1
    have r2 := HR1.out.q2
    have r3 := HR1.out.q3
    have r4 := HR1.out.q4
    have s0 := HR1.out.f0
    have s1 := HR1.out.f1
    have s2 := HR1.out.f2
    have s3 := HR1.out.f3
    have s4 := HR1.out.f4
    have v0 := HV1.out.q0
    have v1 := HV1.out.q1
    have v2 := HV1.out.q2
    have v3 := HV1.out.q3
    have v4 := HV1.out.q4
    have u1 := HV1.out.f1
    have u2 := HV1.out.f2
    have u3 := HV1.out.f3
    have u4 := HV1.out.f4
    go_wp2_with fail
    refine HN.out.mono ?_
    rintro e w2 ⟨hb2, ⟨ks, ls, es, A, B, C, D, he, rfl, hF, hS⟩ | ⟨he, A, an, B, C, cn, D, rfl⟩⟩
    · have HR2 := hid (HR1.out.move hb2.size (hb2.block _ HR1.out.lt))
      have HW2 := hid (HW1.out.trans (hb2.mono (by omega)))
      have hba : Below w2.heap.size w2 (w2.alloc (.cells #[.int .i64 6, .int .i64 0, .string ⟨#[]⟩, .slice A ls.length B, .slice C ks.length D] 26)) := (Below.refl _ _).alloc (Nat.le_refl _) _
      have HWa := hid (HW2.out.trans (hba.mono (by have := HW2.out.size; omega)))
      have HRa := hid (HR2.out.move hba.size (hba.block _ HR2.out.lt))
      clear hb2 HN HR1 HV1 HW1 hF hS he hba r0 r1 r2 r3 r4 s0 s1 s2 s3 s4 v0 v1 v2 v3 v4 u1 u2 u3 u4
      have r0 := HRa.out.q0
      have r1 := HRa.out.q1
      have r2 := HRa.out.q2
      have r3 := HRa.out.q3
      have r4 := HRa.out.q4
      have s0 := HRa.out.f0
      have s1 := HRa.out.f1
      have s2 := HRa.out.f2
      have s3 := HRa.out.f3
      have s4 := HRa.out.f4
      go_wp2_with fail
      refine bodyPost_ret (v := .tuple #[.agg #[.int .i64 6, .int .i64 0, .string ⟨#[]⟩, .slice A ls.length B, .slice C ks.length D], .string ⟨#[]⟩, .bool false]) (by simp [results, Tryd.results33, go_sem, *]) rfl ?_
      exact first_not HD.out (below_set5 HWa.out (Nat.le_refl _) _ _ _ _ _)
    · exact absurd he (by rw [ents_empty _ _ _ _ rfl]; simp)
end Go.Proofs.YtknakfpciccoaaaDoor
/- The walks of texts, Deep and twice. -/
namespace Go.Proofs.YtknakfpciccoaaaDoor
open Go.RowKit

set_option maxHeartbeats 400000 in
theorem texts_any (a b : ByteArray) (w : World) :
    Calls Tryd.prog 69 #[.string a, .string b] w fun e w' => e = .returned (.int .i64 (cmpS a b)) ∧ w' = w := by
  go_enter Tryd.func69, Tryd.ntmps69
  go_wp2
  all_goals (go_ret; refine ⟨?_, rfl⟩)
  · exact ret_int (cmpS_lt (by assumption)).symm
  · exact ret_int (cmpS_gt (by assumption) (by assumption)).symm
  · exact ret_int (cmpS_eq (by assumption) (by assumption)).symm

set_option maxHeartbeats 400000 in
theorem Deep_any (f : Nat) (v : Value) (t : T) (w : World) (h : At w f v t) :
    Calls Tryd.prog 23 #[v] w fun e w' => e = .returned (.int .i64 (deepT 16 t)) ∧ Below w.heap.size w w' := by
  obtain ⟨f, La, Ka, Lc, Kc, rfl, rfl, hf, hl, hk⟩ := h.open
  have H := hid h
  clear h
  go_enter Tryd.func23, Tryd.ntmps23
  go_wp2_with fail
  have hb : Below w.heap.size w (w.alloc (.cells #[.int .i64 (kindOf t), .int .i64 (nOf t), .string (sOf t), .slice La (nL t) Lc, .slice Ka (nK t) Kc] 26)) := (Below.refl _ _).alloc (Nat.le_refl _) _
  refine (deep_any 16 _ _ _ _ (H.out.keep hb) (by omega)).mono ?_
  rintro e w2 ⟨rfl, hb2⟩
  go_wp2_with fail
  go_ret
  exact ⟨rfl, hb.trans (hb2.mono (by simp))⟩

set_option maxHeartbeats 400000 in
theorem twice_any (f : Nat) : ∀ (v : Value) (t : T) (w : World), At w f v t →
    Calls Tryd.prog 24 #[v] w fun e w' => e = .returned (.bool (twiceT f t)) ∧ Below w.heap.size w w' := by
  induction f with
  | zero => intro v t w h; exact h.elim
  | succ f ih =>
    intro v t w h
    obtain ⟨g, La, Ka, Lc, Kc, hg, rfl, hf, hl, hk⟩ := h.open
    obtain rfl : f = g := by omega
    have hlen := hf.l1
    have klen := hf.m1
    clear h hf
    go_enter Tryd.func24, Tryd.ntmps24
    go_wp2_with fail
    go_loopg [3, 4] (nK t) (fun g i z wr => ∃ k : Nat, g = nK t - k ∧ k ≤ nK t ∧ i = .int .i64 k ∧ Hid (dupTo t k = false) ∧ Below (w.heap.size + 1) (w.alloc (.cells #[.int .i64 (kindOf t), .int .i64 (nOf t), .string (sOf t), .slice La (nL t) Lc, .slice Ka (nK t) Kc] 26)) wr)
    case atStart => exact ⟨0, rfl, Nat.zero_le _, rfl, rfl, Below.refl _ _⟩
    case round =>
      obtain ⟨k, rfl, hk1, rfl, hd, hb⟩ := hrel
      obtain ⟨q0, q1, q2, q3, q4, hz, hbw⟩ := box_facts hb
      have Hb := hid hb
      clear hb
      by_cases hlt : k < nK t
      · obtain ⟨kb, ko, rfl, hkb, hks, hkc⟩ := hk.out.keep hbw k hlt
        go_wp2_with fail
        go_loopg [4] k (fun g z wx => ∃ j : Nat, g = k - j ∧ j ≤ k ∧ z = .int .i64 j ∧ Hid (dupIn t k j = false) ∧ Below (w.heap.size + 1) (w.alloc (.cells #[.int .i64 (kindOf t), .int .i64 (nOf t), .string (sOf t), .slice La (nL t) Lc, .slice (some ⟨kb, ko, none⟩) (nK t) Kc] 26)) wx)
        case atStart => exact ⟨0, rfl, Nat.zero_le _, rfl, rfl, Hb.out⟩
        case round =>
          obtain ⟨j, rfl, hj, rfl, hdj, hbx⟩ := hrel
          obtain ⟨x0, x1, x2, x3, x4, hzx, hbxw⟩ := box_facts hbx
          have Hbx := hid hbx
          clear hbx
          by_cases hjl : j < k
          · obtain ⟨kb1, ko1, e1, hkb1, hks1, hkc1⟩ := hk.out.keep hbxw k hlt
            obtain ⟨kb2, ko2, e2, hkb2, hks2, hkc2⟩ := hk.out.keep hbxw j (by omega)
            cases e1
            cases e2
            have b1 : (j : Int) < (nK t : Int) := by omega
            have b2 : (k : Int) < (nK t : Int) := by omega
            go_wp2_with fail
            go_quiet (fail)
            go_wp2_with fail
            · rename_i hq
              go_ret
              refine ⟨ret_bool ?_, ?_⟩
              · show true = (dupTo t (nK t) || anyL (twiceT f) t (nL t))
                rw [dup_found hlt hjl hq]
                rfl
              · exact below_drewN hbxw _
            · rename_i hq
              go_roundg (k - (j + 1))
              case rel =>
                refine ⟨j + 1, rfl, by omega, by go_num, ?_, below_drewN Hbx.out _⟩
                show (dupIn t k j || ((nam t k).toList == (nam t j).toList)) = false
                rw [hdj.out]
                simpa using hq
              case measure => omega
          · go_wp2_with fail
            obtain rfl : j = k := by omega
            go_roundg (nK t - (j + 1))
            case rel =>
              refine ⟨j + 1, rfl, by omega, by go_num, ?_, Hbx.out⟩
              show (dupTo t j || dupIn t j j) = false
              rw [hd.out, hdj.out]
              rfl
            case measure => omega
      · go_wp2_with fail
        obtain rfl : k = nK t := by omega
        go_loopg [5, 6] (nL t) (fun g i z wx => ∃ k : Nat, g = nL t - k ∧ k ≤ nL t ∧ i = .int .i64 k ∧ Hid (anyL (twiceT f) t k = false) ∧ Below (w.heap.size + 1) (w.alloc (.cells #[.int .i64 (kindOf t), .int .i64 (nOf t), .string (sOf t), .slice La (nL t) Lc, .slice Ka (nK t) Kc] 26)) wx)
        case atStart => exact ⟨0, rfl, Nat.zero_le _, rfl, rfl, Hb.out⟩
        case round =>
          obtain ⟨k, rfl, hk2, rfl, hd2, hbx⟩ := hrel
          obtain ⟨x0, x1, x2, x3, x4, hzx, hbxw⟩ := box_facts hbx
          have Hbx := hid hbx
          clear hbx
          by_cases hlt2 : k < nL t
          · obtain ⟨b, o, c0, c1, c2, c3, c4, rfl, hbl, p0, p1, p2, p3, p4, Ha⟩ := hl.out.keep hbxw k hlt2
            go_wp2_with fail
            refine (ih _ _ _ Ha.out).mono ?_
            rintro e w2 ⟨rfl, hb2⟩
            have hb3 := hid (Hbx.out.trans (hb2.mono (by omega)))
            cases hv : twiceT f (elt t k) with
            | true =>
              go_wp2_with fail
              go_ret
              refine ⟨ret_bool ?_, ((Below.refl _ _).alloc (Nat.le_refl _) _).trans (hb3.out.mono (by omega))⟩
              show true = (dupTo t (nK t) || anyL (twiceT f) t (nL t))
              rw [anyL_at hlt2 hv, Bool.or_true]
            | false =>
              go_wp2_with fail
              go_roundg (nL t - (k + 1))
              case rel =>
                refine ⟨k + 1, rfl, by omega, by go_num, ?_, hb3.out⟩
                show (anyL (twiceT f) t k || twiceT f (elt t k)) = false
                rw [hd2.out, hv]
                rfl
              case measure => omega
          · go_wp2_with fail
            obtain rfl : k = nL t := by omega
            go_ret
            refine ⟨ret_bool ?_, hbxw⟩
            show false = (dupTo t (nK t) || anyL (twiceT f) t (nL t))
            rw [hd.out, hd2.out]
            rfl
end Go.Proofs.YtknakfpciccoaaaDoor
/- The walks of cells, vast and room. -/
namespace Go.Proofs.YtknakfpciccoaaaDoor
open Go.RowKit

set_option maxHeartbeats 400000 in
theorem cells_any (m : Nat) : ∀ (f : Nat) (v : Value) (t : T) (l : Int) (w : World), At w f v t → m ≤ 100 → 0 ≤ l → l ≤ 1048576 →
    Calls Tryd.prog 37 #[v, .int .i64 l, .int .i64 m] w fun e w' => e = .returned (.int .i64 (cellsT m t l)) ∧ Below w.heap.size w w' ∧ -17592186044416 ≤ cellsT m t l ∧ cellsT m t l ≤ 1048576 := by
  induction m with
  | zero =>
    intro f v t l w h _ hl0 hl1
    obtain ⟨f, La, Ka, Lc, Kc, rfl, rfl, hf, hl, hk⟩ := h.open
    have hlen := hf.l1
    have klen := hf.m1
    clear h hf hl hk
    go_enter Tryd.func37, Tryd.ntmps37
    go_wp2_with fail
    go_loopg [1, 7] 1 (fun g x i wr => x = .int .i64 (l - nL t - nK t) ∧ i = .int .i64 0 ∧ wr = (w.alloc (.cells #[.int .i64 (kindOf t), .int .i64 (nOf t), .string (sOf t), .slice La (nL t) Lc, .slice Ka (nK t) Kc] 26)))
    case atStart => exact ⟨rfl, rfl, rfl⟩
    case round =>
      obtain ⟨rfl, rfl, rfl⟩ := hrel
      by_cases h1 : 0 < nL t
      · by_cases h2 : 0 ≤ l - nL t - nK t
        · go_wp2_with fail
          go_ret
          exact ⟨rfl, (Below.refl _ _).alloc (Nat.le_refl _) _, by simp only [cellsT]; omega, by simp only [cellsT]; omega⟩
        · go_wp2_with fail
          go_ret
          exact ⟨rfl, (Below.refl _ _).alloc (Nat.le_refl _) _, by simp only [cellsT]; omega, by simp only [cellsT]; omega⟩
      · go_wp2_with fail
        go_ret
        exact ⟨rfl, (Below.refl _ _).alloc (Nat.le_refl _) _, by simp only [cellsT]; omega, by simp only [cellsT]; omega⟩
  | succ m ih =>
    intro f v t l w h hm hl0 hl1
    obtain ⟨f, La, Ka, Lc, Kc, rfl, rfl, hf, hl, hk⟩ := h.open
    have hlen := hf.l1
    have klen := hf.m1
    clear h hf hk
    have hm1 : (0 : Int) < (m : Int) + 1 := by omega
    have em : ((m : Int) + 1 - 1) = (m : Int) := by omega
    have H0 : Hid (cellsT (m + 1) t l = cellsL (cellsT m) t (nL t) (l - nL t - nK t)) := rfl
    go_enter Tryd.func37, Tryd.ntmps37
    go_wp2_with fail
    go_loopg [1, 7] (nL t) (fun g y i wr => ∃ (k : Nat) (x : Int), g = nL t - k ∧ k ≤ nL t ∧ y = .int .i64 x ∧ i = .int .i64 k ∧ Hid (cellsL (cellsT m) t k (l - nL t - nK t) = x) ∧ -17592186044416 ≤ x ∧ x ≤ 1048576 ∧ Below (w.heap.size + 1) (w.alloc (.cells #[.int .i64 (kindOf t), .int .i64 (nOf t), .string (sOf t), .slice La (nL t) Lc, .slice Ka (nK t) Kc] 26)) wr)
    case atStart => exact ⟨0, _, rfl, Nat.zero_le _, rfl, rfl, rfl, by omega, by omega, Below.refl _ _⟩
    case round =>
      obtain ⟨k, x, rfl, hk, rfl, rfl, HX, hx0, hx1, hb⟩ := hrel
      obtain ⟨q0, q1, q2, q3, q4, hz, hbw⟩ := box_facts hb
      have Hb := hid hb
      clear hb
      by_cases hlt : k < nL t
      · by_cases hge : 0 ≤ x
        · obtain ⟨b, o, c0, c1, c2, c3, c4, rfl, hbl, p0, p1, p2, p3, p4, Ha⟩ := hl.out.keep hbw k hlt
          go_wp2_with fail
          refine (ih _ _ _ _ _ Ha.out (by omega) hge hx1).mono ?_
          rintro e w2 ⟨rfl, hb2, y0, y1⟩
          have hb3 := hid (Hb.out.trans (hb2.mono (by omega)))
          go_wp2_with fail
          go_roundg (nL t - (k + 1))
          case rel =>
            refine ⟨k + 1, _, rfl, by omega, rfl, by go_num, ?_, y0, y1, hb3.out⟩
            show (if 0 ≤ cellsL (cellsT m) t k (l - nL t - nK t) then cellsT m (elt t k) (cellsL (cellsT m) t k (l - nL t - nK t)) else cellsL (cellsT m) t k (l - nL t - nK t)) = _
            rw [HX.out, if_pos hge]
          case measure => omega
        · go_wp2_with fail
          go_ret
          have e : cellsT (m + 1) t l = x := by rw [H0.out, cellsL_stop hk (by rw [HX.out]; omega), HX.out]
          exact ⟨ret_int e.symm, hbw, by rw [e]; exact hx0, by rw [e]; exact hx1⟩
      · go_wp2_with fail
        go_ret
        have e : cellsT (m + 1) t l = x := by rw [H0.out, ← HX.out]; congr 1; omega
        exact ⟨ret_int e.symm, hbw, by rw [e]; exact hx0, by rw [e]; exact hx1⟩

def vastT (t : T) : Bool := decide (cellsT 16 t 1048576 < 0)
set_option maxHeartbeats 400000 in
theorem vast_any (f : Nat) (v : Value) (t : T) (w : World) (h : At w f v t) :
    Calls Tryd.prog 16 #[v] w fun e w' => e = .returned (.bool (vastT t)) ∧ Below w.heap.size w w' := by
  obtain ⟨f, La, Ka, Lc, Kc, rfl, rfl, hf, hl, hk⟩ := h.open
  have H := hid h
  clear h
  go_enter Tryd.func16, Tryd.ntmps16
  go_wp2_with fail
  have hb : Below w.heap.size w (w.alloc (.cells #[.int .i64 (kindOf t), .int .i64 (nOf t), .string (sOf t), .slice La (nL t) Lc, .slice Ka (nK t) Kc] 26)) := (Below.refl _ _).alloc (Nat.le_refl _) _
  refine (cells_any 16 _ _ _ _ _ (H.out.keep hb) (by omega) (by omega) (by omega)).mono ?_
  rintro e w2 ⟨rfl, hb2, y0, y1⟩
  have hb3 := hid (hb.trans (hb2.mono (by simp)))
  generalize hv : cellsT 16 t 1048576 = X at y0 y1 ⊢
  have Hv := hid hv
  clear hv
  go_wp2_with fail
  go_ret
  exact ⟨ret_bool (by unfold vastT; rw [Hv.out]), hb3.out⟩

set_option maxHeartbeats 400000 in
theorem room_any (m : Nat) : ∀ (f : Nat) (v : Value) (t : T) (l : Int) (w : World), At w f v t → m ≤ 100 → -140737488355330 ≤ l → l ≤ 1048576 →
    Calls Tryd.prog 60 #[v, .int .i64 l, .int .i64 ((m : Int) - 1)] w fun e w' => e = .returned (.int .i64 (roomT m t l)) ∧ Below w.heap.size w w' ∧ -281474976710700 ≤ roomT m t l ∧ roomT m t l ≤ 1048576 := by
  induction m with
  | zero =>
    intro f v t l w h _ hl0 hl1
    obtain ⟨f, La, Ka, Lc, Kc, rfl, rfl, hf, hl, hk⟩ := h.open
    clear h hf hl hk
    go_enter Tryd.func60, Tryd.ntmps60
    go_wp2_with fail
    go_ret
    exact ⟨rfl, (Below.refl _ _).alloc (Nat.le_refl _) _, by simp [roomT], by simp [roomT]⟩
  | succ m ih =>
    intro f v t l w h hm hl0 hl1
    obtain ⟨f, La, Ka, Lc, Kc, rfl, rfl, hf, hl, hk⟩ := h.open
    have hlen := hf.l1
    have klen := hf.m1
    have slen := hf.s1
    clear h hf
    have em : (((m + 1 : Nat) : Int) - 1) = (m : Int) := by omega
    rw [em]
    have e0 : ¬ ((m : Int) < 0) := by omega
    by_cases k2 : kindOf t = 2
    · have g2 : (kindOf t == 2) = true := by simp [k2]
      have H0 : Hid (roomT (m + 1) t l = l - 2) := by show roomT (m + 1) t l = _; simp only [roomT, k2, if_true]
      clear k2
      go_enter Tryd.func60, Tryd.ntmps60
      go_wp2_with fail
      go_ret
      refine ⟨ret_int (by rw [H0.out]; omega), (Below.refl _ _).alloc (Nat.le_refl _) _, by rw [H0.out]; omega, by rw [H0.out]; omega⟩
    by_cases k3 : kindOf t = 3
    · have g2 : (kindOf t == 2) = false := by simp [k3]
      have g3 : (kindOf t == 3) = true := by simp [k3]
      have H0 : Hid (roomT (m + 1) t l = l - 9) := by show roomT (m + 1) t l = _; simp [roomT, k3]
      clear k2 k3
      go_enter Tryd.func60, Tryd.ntmps60
      go_wp2_with fail
      go_ret
      refine ⟨ret_int (by rw [H0.out]; omega), (Below.refl _ _).alloc (Nat.le_refl _) _, by rw [H0.out]; omega, by rw [H0.out]; omega⟩
    by_cases k4 : kindOf t = 4
    · have g2 : (kindOf t == 2) = false := by simp [k4]
      have g3 : (kindOf t == 3) = false := by simp [k4]
      have g4 : (kindOf t == 4) = true := by simp [k4]
      have H0 : Hid (roomT (m + 1) t l = l - 5 - (sOf t).size) := by show roomT (m + 1) t l = _; simp [roomT, k4]
      clear k2 k3 k4
      go_enter Tryd.func60, Tryd.ntmps60
      go_wp2_with fail
      go_ret
      refine ⟨ret_int (by rw [H0.out]; omega), (Below.refl _ _).alloc (Nat.le_refl _) _, by rw [H0.out]; omega, by rw [H0.out]; omega⟩
    by_cases k5 : isBox t = true
    · have g2 : (kindOf t == 2) = false := by simp [k2]
      have g3 : (kindOf t == 3) = false := by simp [k3]
      have g4 : (kindOf t == 4) = false := by simp [k4]
      have H0 : Hid (roomT (m + 1) t l = roomL (roomT m) t (nL t) (l - 5)) := by show roomT (m + 1) t l = _; simp [roomT, k2, k3, k4, k5]
      have K6 : Hid (kindOf t = 6 ↔ (kindOf t == 6) = true) := by simp [Hid]
      have g5 : (kindOf t == 5) = true ∧ (kindOf t == 6) = false ∨ (kindOf t == 5) = false ∧ (kindOf t == 6) = true := by
        simp only [isBox, Bool.or_eq_true, beq_iff_eq] at k5
        rcases k5 with h5 | h5 <;> simp [h5]
      clear k2 k3 k4 k5
      rcases g5 with ⟨g5, g6⟩ | ⟨g5, g6⟩
      all_goals
        go_enter Tryd.func60, Tryd.ntmps60
        go_wp2_with fail
        go_loopg [1, 7] (nL t) (fun g y i wr => ∃ (k : Nat) (x : Int), g = nL t - k ∧ k ≤ nL t ∧ y = .int .i64 x ∧ i = .int .i64 k ∧ Hid (roomL (roomT m) t k (l - 5) = x) ∧ -281474976710700 ≤ x ∧ x ≤ 1048576 ∧ Below (w.heap.size + 1) (w.alloc (.cells #[.int .i64 (kindOf t), .int .i64 (nOf t), .string (sOf t), .slice La (nL t) Lc, .slice Ka (nK t) Kc] 26)) wr)
        case atStart => exact ⟨0, l - 5, rfl, Nat.zero_le _, by go_num, rfl, rfl, by omega, by omega, Below.refl _ _⟩
        case round =>
          obtain ⟨k, x, rfl, hk1, rfl, rfl, HX, hx0, hx1, hb⟩ := hrel
          obtain ⟨q0, q1, q2, q3, q4, hz, hbw⟩ := box_facts hb
          have Hb := hid hb
          clear hb
          by_cases hlt : k < nL t
          · by_cases hge : 0 ≤ x
            · obtain ⟨b, o, c0, c1, c2, c3, c4, rfl, hbl, p0, p1, p2, p3, p4, Ha⟩ := hl.out.keep hbw k hlt
              have fin : ∀ (y : Int), Hid (x - nameCost t k = y) → Hid (roomL (roomT m) t (k + 1) (l - 5) = roomT m (elt t k) y) := by
                intro y hy
                show (if 0 ≤ roomL (roomT m) t k (l - 5) then roomT m (elt t k) (roomL (roomT m) t k (l - 5) - nameCost t k) else roomL (roomT m) t k (l - 5)) = _
                rw [HX.out, if_pos hge, hy.out]
              by_cases hkk : k < nK t
              · obtain ⟨kb, ko, rfl, hkb, hks, hkc⟩ := hk.out.keep hbw k hkk
                go_wp2_with fail
                refine (ih _ _ _ _ _ Ha.out (by omega) (by omega) (by omega)).mono ?_
                rintro e w2 ⟨rfl, hb2, y0, y1⟩
                have hb3 := hid (Hb.out.trans (hb2.mono (by omega)))
                go_wp2_with fail
                go_roundg (nL t - (k + 1))
                case rel =>
                  refine ⟨k + 1, _, rfl, by omega, rfl, by go_num, fin _ ?_, y0, y1, hb3.out⟩
                  show x - nameCost t k = _
                  unfold nameCost
                  first
                    | (rw [if_neg (fun h => by have := K6.out.1 h.1; rw [g6] at this; cases this)]; omega)
                    | (rw [if_pos ⟨K6.out.2 g6, hkk⟩]; omega)
                case measure => omega
              · go_wp2_with fail
                refine (ih _ _ _ _ _ Ha.out (by omega) (by omega) (by omega)).mono ?_
                rintro e w2 ⟨rfl, hb2, y0, y1⟩
                have hb3 := hid (Hb.out.trans (hb2.mono (by omega)))
                go_wp2_with fail
                go_roundg (nL t - (k + 1))
                case rel =>
                  refine ⟨k + 1, _, rfl, by omega, rfl, by go_num, fin _ ?_, y0, y1, hb3.out⟩
                  show x - nameCost t k = _
                  unfold nameCost
                  rw [if_neg (fun h => hkk h.2)]
                  omega
                case measure => omega
            · go_wp2_with fail
              go_ret
              have e : roomT (m + 1) t l = x := by rw [H0.out, roomL_stop hk1 (by rw [HX.out]; omega), HX.out]
              exact ⟨ret_int e.symm, hbw, by rw [e]; exact hx0, by rw [e]; exact hx1⟩
          · go_wp2_with fail
            go_ret
            have e : roomT (m + 1) t l = x := by rw [H0.out, ← HX.out]; congr 1; omega
            exact ⟨ret_int e.symm, hbw, by rw [e]; exact hx0, by rw [e]; exact hx1⟩
    · have g2 : (kindOf t == 2) = false := by simp [k2]
      have g3 : (kindOf t == 3) = false := by simp [k3]
      have g4 : (kindOf t == 4) = false := by simp [k4]
      have H0 : Hid (roomT (m + 1) t l = l - 1) := by show roomT (m + 1) t l = _; simp [roomT, k2, k3, k4, k5]
      have g5 : (kindOf t == 5) = false ∧ (kindOf t == 6) = false := by simp [isBox] at k5; simp; exact k5
      obtain ⟨g5, g6⟩ := g5
      clear k2 k3 k4 k5
      go_enter Tryd.func60, Tryd.ntmps60
      go_wp2_with fail
      go_ret
      refine ⟨ret_int (by rw [H0.out]), (Below.refl _ _).alloc (Nat.le_refl _) _, by rw [H0.out]; omega, by rw [H0.out]; omega⟩
end Go.Proofs.YtknakfpciccoaaaDoor
