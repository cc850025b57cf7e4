/- The walks of the reference's first, of all bytes, and Decode. -/
import Derived.Test.YtknakfpciccoaaaDoorQ6
import Derived.Test.YtknakfpciccoaaaDoorI1
namespace Go.Proofs.YtknakfpciccoaaaDoor
open Go.RowKit

set_option maxHeartbeats 1000000 in
set_option maxRecDepth 100000 in
theorem first_0 (m : Nat) (s : ByteArray) (w : World) (h : s.size = 0) (_hm : m ≤ 13) : Calls Tryd.prog 33 #[.string s, .int .i64 m] w (FirstPost (m + 1) s w) := by
  have es := empty_of h
  subst es
  have HD : Hid (decR (m + 1) ⟨#[]⟩ = none) := by
    show _ = _
    rw [decR_eq, stepD_0 (by omega)]
  go_enter Tryd.func33, Tryd.ntmps33
  go_wp2_with fail
  refine bodyPost_ret (v := .tuple #[.agg #[.int .i64 0, .int .i64 0, .string ⟨#[]⟩, .slice none 0 0, .slice none 0 0], .string ⟨#[]⟩, .bool false]) (by simp [results, Tryd.results33, go_sem]) rfl ?_
  exact first_not HD.out ((Below.refl _ _).alloc (Nat.le_refl _) _)
set_option maxHeartbeats 1000000 in
set_option maxRecDepth 100000 in
theorem first_neg : FirstSaid 0 := by
  intro s w hs
  have e : ((0 : Nat) : Int) - 1 = -1 := rfl
  rw [e]
  by_cases h : s.size = 0
  · have es := empty_of h
    subst es
    go_enter Tryd.func33, Tryd.ntmps33
    go_wp2_with fail
    refine bodyPost_ret (v := .tuple #[.agg #[.int .i64 0, .int .i64 0, .string ⟨#[]⟩, .slice none 0 0, .slice none 0 0], .string ⟨#[]⟩, .bool false]) (by simp [results, Tryd.results33, go_sem]) rfl ?_
    exact ⟨(Below.refl _ _).alloc (Nat.le_refl _) _, Or.inr ⟨rfl, _, _, _, _, _, _, _, _, _, _, rfl⟩⟩
  · have hne := nonempty_of h
    go_enter Tryd.func33, Tryd.ntmps33
    go_wp2_with fail
    refine bodyPost_ret (v := .tuple #[.agg #[.int .i64 0, .int .i64 0, .string ⟨#[]⟩, .slice none 0 0, .slice none 0 0], .string ⟨#[]⟩, .bool false]) (by simp [results, Tryd.results33, go_sem]) rfl ?_
    exact ⟨(Below.refl _ _).alloc (Nat.le_refl _) _, Or.inr ⟨rfl, _, _, _, _, _, _, _, _, _, _, rfl⟩⟩
theorem first_step (m : Nat) (hm : m ≤ 13) (ih : FirstSaid m) : FirstSaid (m + 1) := by
  intro s w hs
  have e : ((m + 1 : Nat) : Int) - 1 = (m : Int) := by omega
  rw [e]
  by_cases h : s.size = 0
  · exact first_0 m s w h hm
  have h1 : 1 ≤ s.size := by omega
  by_cases n1 : numB (pre s 1) = 1
  · exact first_1 m hm s w hs h1 n1
  by_cases n2 : numB (pre s 1) = 2
  · exact first_2 m hm s w hs h1 n2
  by_cases n3 : numB (pre s 1) = 3
  · exact first_3 m hm s w hs h1 n3
  by_cases n4 : numB (pre s 1) = 4
  · exact first_4 m hm s w hs h1 n4
  by_cases n5 : numB (pre s 1) = 5
  · exact first_5 m hm ih s w hs h1 n5
  by_cases n6 : numB (pre s 1) = 6
  · exact first_6 m hm ih s w hs h1 n6
  exact first_7 m hm s w h1 (by omega)
theorem first_any : ∀ (m : Nat), m ≤ 14 → FirstSaid m
  | 0, _ => first_neg
  | m + 1, h => first_step m (by omega) (first_any m (by omega))
def RefPost (s : ByteArray) (w : World) (e : Ending) (w' : World) : Prop :=
  Below w.heap.size w w' ∧ ((∃ t A B C D, resT s = some t ∧ e = .returned (.tuple #[five t A B C D, .int .i64 0]) ∧ At w' 14 (five t A B C D) t) ∨ (resT s = none ∧ e = .returned (.tuple #[zeroV, .int .i64 6])))
theorem resT_R0 {s : ByteArray} (h : decR 14 s = none) : resT s = none := by unfold resT; rw [h]; rfl
theorem resT_R1 {s r : ByteArray} {t : T} (h : decR 14 s = some (t, r)) (hr : r.size ≠ 0) : resT s = none := by
  unfold resT
  rw [h]
  simp only [Option.bind_some, okT]
  rw [if_neg (fun h => hr h.1)]
theorem resT_R2 {s r : ByteArray} {t : T} (h : decR 14 s = some (t, r)) (hs : Shal 14 t) (hr : isR 14 t = false) : resT s = none := by
  unfold resT
  rw [h]
  simp only [Option.bind_some, okT]
  rw [if_neg (fun h => by rw [← isV_isR 14 t hs, h.2] at hr; cases hr)]
theorem resT_R3 {s r : ByteArray} {t : T} (h : decR 14 s = some (t, r)) (hs : Shal 14 t) (h0 : r.size = 0) (hr : isR 14 t = true) : resT s = some t := by
  unfold resT
  rw [h]
  simp only [Option.bind_some, okT]
  rw [if_pos ⟨h0, by rw [isV_isR 14 t hs]; exact hr⟩]
set_option maxHeartbeats 2000000 in
set_option maxRecDepth 100000 in
theorem refDecode_any (s : ByteArray) (w : World) (hs : s.size ≤ 140737488355328) : Calls Tryd.prog 14 #[.string s] w (RefPost s w) := by
  have HB0 : Hid (Below w.heap.size w (w.alloc (.cells #[.int .i64 0, .int .i64 0, .string ⟨#[]⟩, .slice none 0 0, .slice none 0 0] 26))) := (Below.refl _ _).alloc (Nat.le_refl _) _
  have HR0 : Hid (BoxAt w.heap.size (.int .i64 0) (.int .i64 0) (.string ⟨#[]⟩) (.slice none 0 0) (.slice none 0 0) (w.alloc (.cells #[.int .i64 0, .int .i64 0, .string ⟨#[]⟩, .slice none 0 0, .slice none 0 0] 26))) := box_new w _ _ _ _ _
  have Hz0 : Hid ((w.alloc (.cells #[.int .i64 0, .int .i64 0, .string ⟨#[]⟩, .slice none 0 0, .slice none 0 0] 26)).heap.size = w.heap.size + 1) := by
    show _ = _
    simp
  have hF := first_any 14 (by omega) s (w.alloc (.cells #[.int .i64 0, .int .i64 0, .string ⟨#[]⟩, .slice none 0 0, .slice none 0 0] 26)) hs
  have e13 : ((14 : Nat) : Int) - 1 = 13 := rfl
  rw [e13] at hF
  have HF0 := hid hF
  clear hF e13
  go_enter Tryd.func14, Tryd.ntmps14
  go_wp2_with fail
  refine HF0.out.mono ?_
  rintro e w1 ⟨hb1, ⟨t, r, es, A, B, C, D, hd, rfl, hF, hS⟩ | ⟨hd, kk, nn, ss, A, an, B, C, cn, D, r, rfl⟩⟩
  · have hl1 : w.heap.size + 1 ≤ w1.heap.size := by have := hb1.size; rw [Hz0.out] at this; exact this
    have hba : Below w1.heap.size w1 (w1.alloc (.cells #[.int .i64 (kindOf t), .int .i64 (nOf t), .string (sOf t), .slice A (nL t) B, .slice C (nK t) D] 26)) := (Below.refl _ _).alloc (Nat.le_refl _) _
    have HFa := hid (hF.keep hS hba)
    have HSa := hid (hS.keep hba.size)
    have HA := hid HFa.out.at
    have HW1 := hid (HB0.out.trans (hb1.mono (by rw [Hz0.out]; omega)))
    have HWa := hid (HW1.out.trans (hba.mono (by omega)))
    have HRa := hid ((HR0.out.move hb1.size (hb1.block _ HR0.out.lt)).move hba.size (hba.block _ (Nat.lt_of_lt_of_le HR0.out.lt hb1.size)))
    have HV := hid (box_new w1 (.int .i64 (kindOf t)) (.int .i64 (nOf t)) (.string (sOf t)) (.slice A (nL t) B) (.slice C (nK t) D))
    have Hd := hid hd
    have hsh := HA.out.shal
    have Hsh := hid hsh
    clear hb1 hF hS hba hd HF0 HB0 HR0 hsh
    have r0 := HRa.out.q0
    have r1 := HRa.out.q1
    have r2 := HRa.out.q2
    have r3 := HRa.out.q3
    have r4 := HRa.out.q4
    have s0 := HRa.out.f0
    have s1 := HRa.out.f1
    have s2 := HRa.out.f2
    have s3 := HRa.out.f3
    have s4 := HRa.out.f4
    by_cases h0 : r.size = 0
    · have er := empty_of h0
      subst er
      have HI := hid (Is_any 14 _ t _ HA.out)
      go_wp2_with fail
      refine HI.out.mono ?_
      rintro e w3 ⟨rfl, hb3⟩
      have HF3 := hid (HFa.out.keep HSa.out hb3)
      have HS3 := hid (HSa.out.keep hb3.size)
      have HR3 := hid (HRa.out.move hb3.size (hb3.block _ HRa.out.lt))
      have HV3 := hid (HV.out.move hb3.size (hb3.block _ HV.out.lt))
      have HW3 := hid (HWa.out.trans (hb3.mono (by have := HWa.out.size; omega)))
      clear hb3 HA HRa HV HI r0 r1 r2 r3 r4 s0 s1 s2 s3 s4
      have r0 := HR3.out.q0
      have r1 := HR3.out.q1
      have r2 := HR3.out.q2
      have r3 := HR3.out.q3
      have r4 := HR3.out.q4
      have s0 := HR3.out.f0
      have s1 := HR3.out.f1
      have s2 := HR3.out.f2
      have s3 := HR3.out.f3
      have s4 := HR3.out.f4
      have v0 := HV3.out.q0
      have v1 := HV3.out.q1
      have v2 := HV3.out.q2
      have v3 := HV3.out.q3
      have v4 := HV3.out.q4
      by_cases hv : isR 14 t = true
      · have HZ := hid (resT_R3 Hd.out Hsh.out h0 hv)
        go_wp2_with fail
        refine bodyPost_ret (v := .tuple #[five t A B C D, .int .i64 0]) (by simp [results, Tryd.results14, go_sem, five, *]) rfl ?_
        obtain ⟨p1, p2, p3⟩ := put_res2 HW3.out HF3.out HS3.out (Nat.le_refl _) (by rw [Hz0.out]; omega) (.int .i64 (kindOf t)) (.int .i64 (nOf t)) (.string (sOf t)) (.slice A (nL t) B) (.slice C (nK t) D)
        exact ⟨p1, Or.inl ⟨t, A, B, C, D, HZ.out, rfl, p2.at⟩⟩
      · have hv2 : isR 14 t = false := by simpa using hv
        have HZ := hid (resT_R2 Hd.out Hsh.out hv2)
        clear hv
        go_wp2_with fail
        refine bodyPost_ret (v := .tuple #[zeroV, .int .i64 6]) (by simp [results, Tryd.results14, go_sem, zeroV, *]) rfl ?_
        exact ⟨below_set5 HW3.out (Nat.le_refl _) _ _ _ _ _, Or.inr ⟨HZ.out, rfl⟩⟩
    · have hr := nonempty_of h0
      have HZ := hid (resT_R1 Hd.out h0)
      go_wp2_with fail
      refine bodyPost_ret (v := .tuple #[zeroV, .int .i64 6]) (by simp [results, Tryd.results14, go_sem, zeroV, *]) rfl ?_
      exact ⟨below_set5 HWa.out (Nat.le_refl _) _ _ _ _ _, Or.inr ⟨HZ.out, rfl⟩⟩
  · have hl1 : w.heap.size + 1 ≤ w1.heap.size := by have := hb1.size; rw [Hz0.out] at this; exact this
    have hba : Below w1.heap.size w1 (w1.alloc (.cells #[.int .i64 kk, .int .i64 nn, .string ss, .slice A an B, .slice C cn D] 26)) := (Below.refl _ _).alloc (Nat.le_refl _) _
    have HW1 := hid (HB0.out.trans (hb1.mono (by rw [Hz0.out]; omega)))
    have HWa := hid (HW1.out.trans (hba.mono (by omega)))
    have HRa := hid ((HR0.out.move hb1.size (hb1.block _ HR0.out.lt)).move hba.size (hba.block _ (Nat.lt_of_lt_of_le HR0.out.lt hb1.size)))
    have HZ := hid (resT_R0 hd)
    clear hb1 hba hd HF0 HB0 HR0
    have r0 := HRa.out.q0
    have r1 := HRa.out.q1
    have r2 := HRa.out.q2
    have r3 := HRa.out.q3
    have r4 := HRa.out.q4
    have s0 := HRa.out.f0
    have s1 := HRa.out.f1
    have s2 := HRa.out.f2
    have s3 := HRa.out.f3
    have s4 := HRa.out.f4
    go_wp2_with fail
    refine bodyPost_ret (v := .tuple #[zeroV, .int .i64 6]) (by simp [results, Tryd.results14, go_sem, zeroV, *]) rfl ?_
    exact ⟨below_set5 HWa.out (Nat.le_refl _) _ _ _ _ _, Or.inr ⟨HZ.out, rfl⟩⟩
end Go.Proofs.YtknakfpciccoaaaDoor
