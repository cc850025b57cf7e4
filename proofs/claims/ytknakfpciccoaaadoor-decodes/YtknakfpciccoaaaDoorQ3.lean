/- The walk of the reference's first. -/
import Derived.Test.YtknakfpciccoaaaDoorQ2
namespace Go.Proofs.YtknakfpciccoaaaDoor
open Go.RowKit

theorem byte_0 {s : ByteArray} (h : 1 ≤ s.size) : numB (pre s 1) = (s[0]'h).toNat := by
  have hp := pre_size h
  have h2 := numTo_succ (pre s 1) 0 (by omega)
  have h3 := numTo_all (pre s 1)
  rw [hp] at h3
  rw [← h3, h2, numTo_zero]
  simp [pre, ByteArray.getElem_extract]
theorem first_fin {m : Nat} {s r : ByteArray} {w wr : World} (k n : Int) (x : ByteArray) (hk0 : 0 ≤ k) (hk1 : k ≤ 100) (hn : -9223372036854775808 ≤ n ∧ n ≤ 9223372036854775807) (hx : x.size ≤ 140737488355328) (hd : decR (m + 1) s = some (leafT k n x, r)) (hB : Below w.heap.size w wr) :
    FirstPost (m + 1) s w (.returned (.tuple #[.agg #[.int .i64 k, .int .i64 n, .string x, .slice none 0 0, .slice none 0 0], .string r, .bool true])) wr :=
  ⟨hB, Or.inl ⟨leafT k n x, r, _, none, 0, none, 0, hd, rfl, flat_leaf wr m k n x hk0 hk1 hn.1 hn.2 hx, sep_leaf _ _⟩⟩
theorem first_not {m : Nat} {s r : ByteArray} {w wr : World} {k n : Int} {x : ByteArray} {A C : Option Addr} {a c B D : Nat} (hd : decR (m + 1) s = none) (hB : Below w.heap.size w wr) :
    FirstPost (m + 1) s w (.returned (.tuple #[.agg #[.int .i64 k, .int .i64 n, .string x, .slice A a B, .slice C c D], .string r, .bool false])) wr :=
  ⟨hB, Or.inr ⟨hd, _, _, _, _, _, _, _, _, _, _, rfl⟩⟩
theorem decR_eq (m : Nat) : decR (m + 1) = stepD true (some (decR m)) := rfl
theorem empty_size : (⟨#[]⟩ : ByteArray).size ≤ 140737488355328 := by show (0 : Nat) ≤ _; omega
theorem below_set5 {w wr : World} (h : Below w.heap.size w wr) {b : Nat} (hb : w.heap.size ≤ b) (u0 u1 u2 u3 u4 : Value) : Below w.heap.size w (((((wr.setCell ⟨b, 0, none⟩ u0).setCell ⟨b, 1, none⟩ u1).setCell ⟨b, 2, none⟩ u2).setCell ⟨b, 3, none⟩ u3).setCell ⟨b, 4, none⟩ u4) :=
  ((((h.setCell hb _).setCell hb _).setCell hb _).setCell hb _).setCell hb _
set_option maxHeartbeats 2000000 in
set_option maxRecDepth 100000 in
theorem first_1 (m : Nat) (_hm : m ≤ 13) (s : ByteArray) (w : World) (hs : s.size ≤ 140737488355328) (h1 : 1 ≤ s.size) (hnum : numB (pre s 1) = 1) : Calls Tryd.prog 33 #[.string s, .int .i64 m] w (FirstPost (m + 1) s w) := by
  have e1 : ((s[0]'h1).toNat : Int) = 1 := by rw [← byte_0 h1, hnum]; rfl
  have Hnum := hid hnum
  have hne := nonempty_of (show s.size ≠ 0 by omega)
  have hsz := suf_size s 1
  clear hnum
  go_enter Tryd.func33, Tryd.ntmps33
  go_wp2_with fail
  refine bodyPost_ret (v := .tuple #[.agg #[.int .i64 1, .int .i64 0, .string ⟨#[]⟩, .slice none 0 0, .slice none 0 0], .string (suf s 1), .bool true]) (by simp [results, Tryd.results33, go_sem, suf]) rfl ?_
  have HD : decR (m + 1) s = some (leafT 1 0 ⟨#[]⟩, suf s 1) := by rw [decR_eq, stepD_1 h1 Hnum.out]; rfl
  exact first_fin 1 0 ⟨#[]⟩ (by omega) (by omega) (by omega) empty_size HD (((Below.refl _ _).alloc (Nat.le_refl _) _).alloc (by simp) _)
set_option maxHeartbeats 2000000 in
set_option maxRecDepth 100000 in
theorem first_7 (m : Nat) (_hm : m ≤ 13) (s : ByteArray) (w : World) (h1 : 1 ≤ s.size) (hnum : ¬ (1 ≤ numB (pre s 1) ∧ numB (pre s 1) ≤ 6)) : Calls Tryd.prog 33 #[.string s, .int .i64 m] w (FirstPost (m + 1) s w) := by
  obtain ⟨n, hn⟩ : ∃ n : Nat, numB (pre s 1) = n := ⟨_, rfl⟩
  have e1 : ((s[0]'h1).toNat : Int) = n := by rw [← byte_0 h1, hn]
  have hne := nonempty_of (show s.size ≠ 0 by omega)
  have hx := numB_lt (pre s 1)
  rw [pre_size h1, hn] at hx
  rw [hn] at hnum
  have HD : Hid (decR (m + 1) s = none) := by
    show _ = none
    rw [decR_eq, stepD_7 h1 (by rw [hn]; omega) (by rw [hn]; omega) (by rw [hn]; omega) (by rw [hn]; omega) (by rw [hn]; omega) (by rw [hn]; omega)]
  have g1 : ¬ ((n : Int) = 1) := by omega
  have g2 : ¬ ((n : Int) = 2) := by omega
  have g3 : ¬ ((n : Int) = 3) := by omega
  have g4 : ¬ ((n : Int) = 4) := by omega
  have g5 : ¬ ((n : Int) = 5) := by omega
  have g6 : ¬ ((n : Int) = 6) := by omega
  clear hn
  go_enter Tryd.func33, Tryd.ntmps33
  go_wp2_with fail
  refine bodyPost_ret (v := .tuple #[.agg #[.int .i64 n, .int .i64 0, .string ⟨#[]⟩, .slice none 0 0, .slice none 0 0], .string ⟨#[]⟩, .bool false]) (by simp [results, Tryd.results33, go_sem]) rfl ?_
  exact first_not HD.out (((Below.refl _ _).alloc (Nat.le_refl _) _).alloc (by simp) _)
set_option maxHeartbeats 2000000 in
set_option maxRecDepth 100000 in
theorem first_3 (m : Nat) (_hm : m ≤ 13) (s : ByteArray) (w : World) (hs : s.size ≤ 140737488355328) (h1 : 1 ≤ s.size) (hnum : numB (pre s 1) = 3) : Calls Tryd.prog 33 #[.string s, .int .i64 m] w (FirstPost (m + 1) s w) := by
  have e1 : ((s[0]'h1).toNat : Int) = 3 := by rw [← byte_0 h1, hnum]; rfl
  have Hnum := hid hnum
  have hne := nonempty_of (show s.size ≠ 0 by omega)
  have hsz := suf_size s 1
  clear hnum
  have HB0 : Hid (Below w.heap.size w ((w.alloc (.cells #[.int .i64 0, .int .i64 0, .string ⟨#[]⟩, .slice none 0 0, .slice none 0 0] 26)).alloc (.cells #[.int .i64 3, .int .i64 0, .string ⟨#[]⟩, .slice none 0 0, .slice none 0 0] 26))) := ((Below.refl _ _).alloc (Nat.le_refl _) _).alloc (by simp) _
  have HR0 : Hid (BoxAt w.heap.size (.int .i64 0) (.int .i64 0) (.string ⟨#[]⟩) (.slice none 0 0) (.slice none 0 0) ((w.alloc (.cells #[.int .i64 0, .int .i64 0, .string ⟨#[]⟩, .slice none 0 0, .slice none 0 0] 26)).alloc (.cells #[.int .i64 3, .int .i64 0, .string ⟨#[]⟩, .slice none 0 0, .slice none 0 0] 26))) := (box_new w _ _ _ _ _).move (by simp) (Below.heap_alloc _ _ _ (by simp))
  have HV0 : Hid (BoxAt (w.heap.size + 1) (.int .i64 3) (.int .i64 0) (.string ⟨#[]⟩) (.slice none 0 0) (.slice none 0 0) ((w.alloc (.cells #[.int .i64 0, .int .i64 0, .string ⟨#[]⟩, .slice none 0 0, .slice none 0 0] 26)).alloc (.cells #[.int .i64 3, .int .i64 0, .string ⟨#[]⟩, .slice none 0 0, .slice none 0 0] 26))) := by
    have := box_new (w.alloc (.cells #[.int .i64 0, .int .i64 0, .string ⟨#[]⟩, .slice none 0 0, .slice none 0 0] 26)) (.int .i64 3) (.int .i64 0) (.string ⟨#[]⟩) (.slice none 0 0) (.slice none 0 0)
    show BoxAt _ _ _ _ _ _ _
    simpa using this
  have Hz0 : Hid (((w.alloc (.cells #[.int .i64 0, .int .i64 0, .string ⟨#[]⟩, .slice none 0 0, .slice none 0 0] 26)).alloc (.cells #[.int .i64 3, .int .i64 0, .string ⟨#[]⟩, .slice none 0 0, .slice none 0 0] 26)).heap.size = w.heap.size + 2) := by
    show _ = _
    simp
  have HC := hid (cut_any (suf s 1) 8 ((w.alloc (.cells #[.int .i64 0, .int .i64 0, .string ⟨#[]⟩, .slice none 0 0, .slice none 0 0] 26)).alloc (.cells #[.int .i64 3, .int .i64 0, .string ⟨#[]⟩, .slice none 0 0, .slice none 0 0] 26)) (by omega) (by omega))
  go_enter Tryd.func33, Tryd.ntmps33
  go_wp2_with fail
  refine HC.out.mono ?_
  rintro e w1 ⟨hb1, ⟨h2, rfl⟩ | ⟨h2, rfl⟩⟩
  · have HR1 := hid (HR0.out.move hb1.size (hb1.block _ HR0.out.lt))
    have HV1 := hid (HV0.out.move hb1.size (hb1.block _ HV0.out.lt))
    have HW1 := hid (HB0.out.trans (hb1.mono (by rw [Hz0.out]; omega)))
    have HN := hid (numberR_any (pre (suf s 1) 8) w1 (by rw [pre_size h2]; omega))
    obtain ⟨z, hz⟩ : ∃ z : Int, IntKind.i64.wrap (numB (pre (suf s 1) 8) : Int) = z := ⟨_, rfl⟩
    have Hb := hid (wrap64_bd (numB (pre (suf s 1) 8) : Int))
    rw [hz] at HN Hb
    have HD : Hid (decR (m + 1) s = some (leafT 3 z ⟨#[]⟩, suf (suf s 1) 8)) := by
      show _ = _
      rw [decR_eq, stepD_3 h1 Hnum.out, if_neg (by omega), hz]
      rfl
    clear hb1 HC HR0 HV0 HB0 hz
    have r0 := HR1.out.q0
    have r1 := HR1.out.q1
    have r2 := HR1.out.q2
    have r3 := HR1.out.q3
    have r4 := HR1.out.q4
    have s0 := HR1.out.f0
    have s1 := HR1.out.f1
    have s2 := HR1.out.f2
    have s3 := HR1.out.f3
    have s4 := HR1.out.f4
    have v0 := HV1.out.q0
    have v1 := HV1.out.q1
    have v2 := HV1.out.q2
    have v3 := HV1.out.q3
    have v4 := HV1.out.q4
    have u1 := HV1.out.f1
    have u2 := HV1.out.f2
    have u3 := HV1.out.f3
    have u4 := HV1.out.f4
    go_wp2_with fail
    refine HN.out.mono ?_
    rintro e w2 ⟨rfl, rfl⟩
    go_wp2_with fail
    refine bodyPost_ret (v := .tuple #[.agg #[.int .i64 3, .int .i64 z, .string ⟨#[]⟩, .slice none 0 0, .slice none 0 0], .string (suf (suf s 1) 8), .bool true]) (by simp [results, Tryd.results33, go_sem, *]) rfl ?_
    exact first_fin 3 z ⟨#[]⟩ (by omega) (by omega) Hb.out empty_size HD.out (below_set5 (HW1.out.setCell (show w.heap.size ≤ w.heap.size + 1 by omega) _) (Nat.le_refl _) _ _ _ _ _)
  · have HR1 := hid (HR0.out.move hb1.size (hb1.block _ HR0.out.lt))
    have HV1 := hid (HV0.out.move hb1.size (hb1.block _ HV0.out.lt))
    have HW1 := hid (HB0.out.trans (hb1.mono (by rw [Hz0.out]; omega)))
    have HN := hid (numberR_any ⟨#[]⟩ w1 (by show (0 : Nat) ≤ _; omega))
    have HD : Hid (decR (m + 1) s = none) := by
      show _ = _
      rw [decR_eq, stepD_3 h1 Hnum.out, if_pos h2]
    clear hb1 HC HR0 HV0 HB0
    have r0 := HR1.out.q0
    have r1 := HR1.out.q1
    have r2 := HR1.out.q2
    have r3 := HR1.out.q3
    have r4 := HR1.out.q4
    have s0 := HR1.out.f0
    have s1 := HR1.out.f1
    have s2 := HR1.out.f2
    have s3 := HR1.out.f3
    have s4 := HR1.out.f4
    have v0 := HV1.out.q0
    have v1 := HV1.out.q1
    have v2 := HV1.out.q2
    have v3 := HV1.out.q3
    have v4 := HV1.out.q4
    have u1 := HV1.out.f1
    have u2 := HV1.out.f2
    have u3 := HV1.out.f3
    have u4 := HV1.out.f4
    go_wp2_with fail
    refine HN.out.mono ?_
    rintro e w2 ⟨rfl, rfl⟩
    generalize IntKind.i64.wrap (numB ⟨#[]⟩ : Int) = z
    go_wp2_with fail
    refine bodyPost_ret (v := .tuple #[.agg #[.int .i64 3, .int .i64 z, .string ⟨#[]⟩, .slice none 0 0, .slice none 0 0], .string ⟨#[]⟩, .bool false]) (by simp [results, Tryd.results33, go_sem, *]) rfl ?_
    exact first_not HD.out (below_set5 (HW1.out.setCell (show w.heap.size ≤ w.heap.size + 1 by omega) _) (Nat.le_refl _) _ _ _ _ _)
set_option maxHeartbeats 2000000 in
set_option maxRecDepth 100000 in
theorem first_4 (m : Nat) (_hm : m ≤ 13) (s : ByteArray) (w : World) (hs : s.size ≤ 140737488355328) (h1 : 1 ≤ s.size) (hnum : numB (pre s 1) = 4) : Calls Tryd.prog 33 #[.string s, .int .i64 m] w (FirstPost (m + 1) s w) := by
  have e1 : ((s[0]'h1).toNat : Int) = 4 := by rw [← byte_0 h1, hnum]; rfl
  have Hnum := hid hnum
  have hne := nonempty_of (show s.size ≠ 0 by omega)
  have hsz := suf_size s 1
  clear hnum
  have HB0 : Hid (Below w.heap.size w ((w.alloc (.cells #[.int .i64 0, .int .i64 0, .string ⟨#[]⟩, .slice none 0 0, .slice none 0 0] 26)).alloc (.cells #[.int .i64 4, .int .i64 0, .string ⟨#[]⟩, .slice none 0 0, .slice none 0 0] 26))) := ((Below.refl _ _).alloc (Nat.le_refl _) _).alloc (by simp) _
  have HR0 : Hid (BoxAt w.heap.size (.int .i64 0) (.int .i64 0) (.string ⟨#[]⟩) (.slice none 0 0) (.slice none 0 0) ((w.alloc (.cells #[.int .i64 0, .int .i64 0, .string ⟨#[]⟩, .slice none 0 0, .slice none 0 0] 26)).alloc (.cells #[.int .i64 4, .int .i64 0, .string ⟨#[]⟩, .slice none 0 0, .slice none 0 0] 26))) := (box_new w _ _ _ _ _).move (by simp) (Below.heap_alloc _ _ _ (by simp))
  have HV0 : Hid (BoxAt (w.heap.size + 1) (.int .i64 4) (.int .i64 0) (.string ⟨#[]⟩) (.slice none 0 0) (.slice none 0 0) ((w.alloc (.cells #[.int .i64 0, .int .i64 0, .string ⟨#[]⟩, .slice none 0 0, .slice none 0 0] 26)).alloc (.cells #[.int .i64 4, .int .i64 0, .string ⟨#[]⟩, .slice none 0 0, .slice none 0 0] 26))) := by
    have := box_new (w.alloc (.cells #[.int .i64 0, .int .i64 0, .string ⟨#[]⟩, .slice none 0 0, .slice none 0 0] 26)) (.int .i64 4) (.int .i64 0) (.string ⟨#[]⟩) (.slice none 0 0) (.slice none 0 0)
    show BoxAt _ _ _ _ _ _ _
    simpa using this
  have Hz0 : Hid (((w.alloc (.cells #[.int .i64 0, .int .i64 0, .string ⟨#[]⟩, .slice none 0 0, .slice none 0 0] 26)).alloc (.cells #[.int .i64 4, .int .i64 0, .string ⟨#[]⟩, .slice none 0 0, .slice none 0 0] 26)).heap.size = w.heap.size + 2) := by
    show _ = _
    simp
  have HC := hid (sized_any (suf s 1) 4 ((w.alloc (.cells #[.int .i64 0, .int .i64 0, .string ⟨#[]⟩, .slice none 0 0, .slice none 0 0] 26)).alloc (.cells #[.int .i64 4, .int .i64 0, .string ⟨#[]⟩, .slice none 0 0, .slice none 0 0] 26)) (by omega) (by omega))
  go_enter Tryd.func33, Tryd.ntmps33
  go_wp2_with fail
  refine HC.out.mono ?_
  rintro e w1 ⟨hb1, ⟨x, r, h2, rfl⟩ | ⟨h2, rfl⟩⟩
  · have HR1 := hid (HR0.out.move hb1.size (hb1.block _ HR0.out.lt))
    have HV1 := hid (HV0.out.move hb1.size (hb1.block _ HV0.out.lt))
    have HW1 := hid (HB0.out.trans (hb1.mono (by rw [Hz0.out]; omega)))
    have HD : Hid (decR (m + 1) s = some (leafT 4 0 x, r)) := by
      show _ = _
      rw [decR_eq, stepD_4 h1 Hnum.out, h2]
      rfl
    have hx := szB_size h2
    clear hb1 HC HR0 HV0 HB0
    have r0 := HR1.out.q0
    have r1 := HR1.out.q1
    have r2 := HR1.out.q2
    have r3 := HR1.out.q3
    have r4 := HR1.out.q4
    have s0 := HR1.out.f0
    have s1 := HR1.out.f1
    have s2 := HR1.out.f2
    have s3 := HR1.out.f3
    have s4 := HR1.out.f4
    have v0 := HV1.out.q0
    have v1 := HV1.out.q1
    have v2 := HV1.out.q2
    have v3 := HV1.out.q3
    have v4 := HV1.out.q4
    have u1 := HV1.out.f1
    have u2 := HV1.out.f2
    have u3 := HV1.out.f3
    have u4 := HV1.out.f4
    go_wp2_with fail
    refine bodyPost_ret (v := .tuple #[.agg #[.int .i64 4, .int .i64 0, .string x, .slice none 0 0, .slice none 0 0], .string r, .bool true]) (by simp [results, Tryd.results33, go_sem, *]) rfl ?_
    exact first_fin 4 0 x (by omega) (by omega) (by omega) (by omega) HD.out (below_set5 (HW1.out.setCell (show w.heap.size ≤ w.heap.size + 1 by omega) _) (Nat.le_refl _) _ _ _ _ _)
  · have HR1 := hid (HR0.out.move hb1.size (hb1.block _ HR0.out.lt))
    have HV1 := hid (HV0.out.move hb1.size (hb1.block _ HV0.out.lt))
    have HW1 := hid (HB0.out.trans (hb1.mono (by rw [Hz0.out]; omega)))
    have HD : Hid (decR (m + 1) s = none) := by
      show _ = _
      rw [decR_eq, stepD_4 h1 Hnum.out, h2]
      rfl
    clear hb1 HC HR0 HV0 HB0
    have r0 := HR1.out.q0
    have r1 := HR1.out.q1
    have r2 := HR1.out.q2
    have r3 := HR1.out.q3
    have r4 := HR1.out.q4
    have s0 := HR1.out.f0
    have s1 := HR1.out.f1
    have s2 := HR1.out.f2
    have s3 := HR1.out.f3
    have s4 := HR1.out.f4
    have v0 := HV1.out.q0
    have v1 := HV1.out.q1
    have v2 := HV1.out.q2
    have v3 := HV1.out.q3
    have v4 := HV1.out.q4
    have u1 := HV1.out.f1
    have u2 := HV1.out.f2
    have u3 := HV1.out.f3
    have u4 := HV1.out.f4
    go_wp2_with fail
    refine bodyPost_ret (v := .tuple #[.agg #[.int .i64 4, .int .i64 0, .string ⟨#[]⟩, .slice none 0 0, .slice none 0 0], .string ⟨#[]⟩, .bool false]) (by simp [results, Tryd.results33, go_sem, *]) rfl ?_
    exact first_not HD.out (below_set5 (HW1.out.setCell (show w.heap.size ≤ w.heap.size + 1 by omega) _) (Nat.le_refl _) _ _ _ _ _)
end Go.Proofs.YtknakfpciccoaaaDoor
