import Derived.Test.YtknakfpciccoaaaGreatDoorZO33
/- value: one text for each number, in whatever world. -/
namespace Go.Proofs.YtknakfpciccoaaaGreatDoor
open Go.RowKit

def valK (k P : Int) : ByteArray :=
  if k = 0 ∨ k = 1 ∨ k = 2 then baL (Lib.itoa (P / 8 % 9 - 4)) else if k = 3 then (⟨#[34]⟩ ++ ⟨#[byteZ (97 + P / 8 % 3)]⟩) ++ ⟨#[34]⟩ else if k = 4 then (((⟨#[91]⟩ ++ baL (Lib.itoa (P / 8 % 4))) ++ ⟨#[44]⟩) ++ baL (Lib.itoa (P / 8 / 4 % 4))) ++ ⟨#[93]⟩
  else if k = 5 then (⟨#[123, 34, 98, 34, 58]⟩ ++ baL (Lib.itoa (P / 8 % 4))) ++ ⟨#[125]⟩ else if k = 6 then (if P / 8 % 3 = 0 then vt 0 else if P / 8 % 3 = 1 then vt 2 else vt 1) else vt 15
def valS (c : Int) : ByteArray := valK (absZ c % 8) (absZ c % 1099511627776)
theorem valK6 {P m : Int} (h : P / 8 % 3 = m) : valK 6 P = if m = 0 then vt 0 else if m = 1 then vt 2 else vt 1 := by subst h; rfl
def ValPostD (c : Int) (w : World) (e : Ending) (w' : World) : Prop := ∃ s, (IsV s ∧ s = valS c) ∧ e = .returned (.string s) ∧ Below w.heap.size w w'
set_option maxHeartbeats 8000000 in
set_option maxRecDepth 100000 in
theorem value_det {Tb : World → Prop} (hI : ItoaSaid Tb) (hL : Lies Tb) (c : Int) (w : World) (h0 : -9223372036854775808 ≤ c) (h1 : c ≤ 9223372036854775807) (hT : Tb w) :
    Calls Tryz.prog 21 #[.int .i64 c] w (ValPostD c w) := by
  have HP1 := hid (pick_any c 1099511627776 w h0 h1 (by omega) (by omega))
  have HP2 := hid (pick_any c 8 w h0 h1 (by omega) (by omega))
  have hb := absZ_bd h0 h1
  obtain ⟨P, hP⟩ : ∃ P, absZ c % 1099511627776 = P := ⟨_, rfl⟩
  obtain ⟨k, hk⟩ : ∃ k, absZ c % 8 = k := ⟨_, rfl⟩
  have p0 : 0 ≤ P := by omega
  have p1 : P ≤ 1099511627776 := by omega
  have k8 : k = 0 ∨ k = 1 ∨ k = 2 ∨ k = 3 ∨ k = 4 ∨ k = 5 ∨ k = 6 ∨ k = 7 := by omega
  have HVS : Hid (valS c = valK k P) := by show _ = _; unfold valS; rw [hP, hk]
  rw [hP] at HP1
  rw [hk] at HP2
  clear hP hk hb h0 h1
  have HT := hid hT
  have HI := hid hI
  clear hT hI
  rcases k8 with rfl | rfl | rfl | rfl | rfl | rfl | rfl | rfl
  · go_enter Tryz.func21, Tryz.ntmps21
    go_wp2_with fail
    refine HP1.out.mono ?_
    rintro e w ⟨rfl, rfl⟩
    go_wp2_with fail
    refine HP2.out.mono ?_
    rintro e w ⟨rfl, rfl⟩
    have HC := hid (HI.out (P / 8 % 9 - 4) w (by omega) (by omega) HT.out)
    go_wp2_with fail
    refine HC.out.mono ?_
    rintro e w1 ⟨rfl, b1⟩
    have HB := hid b1
    clear b1
    go_wp2_with fail
    go_ret
    exact ⟨_, ⟨isV_num (P / 8), HVS.out.symm⟩, rfl, HB.out⟩
  · go_enter Tryz.func21, Tryz.ntmps21
    go_wp2_with fail
    refine HP1.out.mono ?_
    rintro e w ⟨rfl, rfl⟩
    go_wp2_with fail
    refine HP2.out.mono ?_
    rintro e w ⟨rfl, rfl⟩
    have HC := hid (HI.out (P / 8 % 9 - 4) w (by omega) (by omega) HT.out)
    go_wp2_with fail
    refine HC.out.mono ?_
    rintro e w1 ⟨rfl, b1⟩
    have HB := hid b1
    clear b1
    go_wp2_with fail
    go_ret
    exact ⟨_, ⟨isV_num (P / 8), HVS.out.symm⟩, rfl, HB.out⟩
  · go_enter Tryz.func21, Tryz.ntmps21
    go_wp2_with fail
    refine HP1.out.mono ?_
    rintro e w ⟨rfl, rfl⟩
    go_wp2_with fail
    refine HP2.out.mono ?_
    rintro e w ⟨rfl, rfl⟩
    have HC := hid (HI.out (P / 8 % 9 - 4) w (by omega) (by omega) HT.out)
    go_wp2_with fail
    refine HC.out.mono ?_
    rintro e w1 ⟨rfl, b1⟩
    have HB := hid b1
    clear b1
    go_wp2_with fail
    go_ret
    exact ⟨_, ⟨isV_num (P / 8), HVS.out.symm⟩, rfl, HB.out⟩
  · have hcv := conv1 w (97 + P / 8 % 3) (by omega)
    have e1 : IntKind.u8.wrap (97 + P / 8 % 3) = 97 + P / 8 % 3 := by rw [IntKind.wrap_u8]; omega
    go_enter Tryz.func21, Tryz.ntmps21
    go_wp2_with fail
    refine HP1.out.mono ?_
    rintro e w ⟨rfl, rfl⟩
    go_wp2_with fail
    refine HP2.out.mono ?_
    rintro e w ⟨rfl, rfl⟩
    go_wp2_with fail
    go_ret
    exact ⟨_, ⟨isV_txt (x := P / 8 % 3) (by omega) (by omega), HVS.out.symm⟩, rfl, (Below.refl _ _).alloc (Nat.le_refl _) _⟩
  · go_enter Tryz.func21, Tryz.ntmps21
    go_wp2_with fail
    refine HP1.out.mono ?_
    rintro e w ⟨rfl, rfl⟩
    go_wp2_with fail
    refine HP2.out.mono ?_
    rintro e w ⟨rfl, rfl⟩
    have HC := hid (HI.out (P / 8 % 4) w (by omega) (by omega) HT.out)
    have HV := hid (And.intro (isV_list (x := P / 8 % 4) (y := P / 8 / 4 % 4) (by omega) (by omega) (by omega) (by omega)) (show (((⟨#[91]⟩ ++ baL (Lib.itoa (P / 8 % 4))) ++ ⟨#[44]⟩) ++ baL (Lib.itoa (P / 8 / 4 % 4))) ++ ⟨#[93]⟩ = valS c from HVS.out.symm))
    have z1 := itoa_size (n := P / 8 % 4) (by omega) (by omega)
    have z2 := itoa_size (n := P / 8 / 4 % 4) (by omega) (by omega)
    have HC2 := hid (fun w1 b1 => HI.out (P / 8 / 4 % 4) w1 (by omega) (by omega) (hL w HT.out w w1 HT.out b1))
    generalize baL (Lib.itoa (P / 8 % 4)) = s1 at HC HV z1
    generalize baL (Lib.itoa (P / 8 / 4 % 4)) = s2 at HC2 HV z2
    obtain ⟨a1, e1, y1, g1⟩ := cat_run ⟨#[91]⟩ s1 1 1 rfl z1 (by omega)
    obtain ⟨a2, e2, y2, g2⟩ := cat_run a1 ⟨#[44]⟩ 2 1 y1 rfl (by omega)
    obtain ⟨a3, e3, y3, g3⟩ := cat_run a2 s2 3 1 y2 z2 (by omega)
    obtain ⟨a4, e4, y4, g4⟩ := cat_run a3 ⟨#[93]⟩ 4 1 y3 rfl (by omega)
    rw [← e1, ← e2, ← e3, ← e4] at HV
    clear e1 e2 e3 e4 y1 y2 y3 y4 z1 z2
    go_wp2_with fail
    refine HC.out.mono ?_
    rintro e w1 ⟨rfl, b1⟩
    have HB := hid b1
    have HC3 := hid (HC2.out w1 b1)
    clear b1
    go_wp2_with fail
    refine HC3.out.mono ?_
    rintro e w2 ⟨rfl, b2⟩
    have HB2 := hid (HB.out.trans (b2.mono HB.out.size))
    clear b2
    go_wp2_with fail
    go_ret
    exact ⟨_, HV.out, rfl, HB2.out⟩
  · go_enter Tryz.func21, Tryz.ntmps21
    go_wp2_with fail
    refine HP1.out.mono ?_
    rintro e w ⟨rfl, rfl⟩
    go_wp2_with fail
    refine HP2.out.mono ?_
    rintro e w ⟨rfl, rfl⟩
    have HC := hid (HI.out (P / 8 % 4) w (by omega) (by omega) HT.out)
    have HV := hid (And.intro (isV_obj (x := P / 8 % 4) (by omega) (by omega)) (show (⟨#[123, 34, 98, 34, 58]⟩ ++ baL (Lib.itoa (P / 8 % 4))) ++ ⟨#[125]⟩ = valS c from HVS.out.symm))
    have z1 := itoa_size (n := P / 8 % 4) (by omega) (by omega)
    generalize baL (Lib.itoa (P / 8 % 4)) = s1 at HC HV z1
    obtain ⟨a1, e1, y1, g1⟩ := cat_run ⟨#[123, 34, 98, 34, 58]⟩ s1 5 1 rfl z1 (by omega)
    obtain ⟨a2, e2, y2, g2⟩ := cat_run a1 ⟨#[125]⟩ 6 1 y1 rfl (by omega)
    rw [← e1, ← e2] at HV
    clear e1 e2 y1 y2 z1
    go_wp2_with fail
    refine HC.out.mono ?_
    rintro e w1 ⟨rfl, b1⟩
    have HB := hid b1
    clear b1
    go_wp2_with fail
    go_ret
    exact ⟨_, HV.out, rfl, HB.out⟩
  · obtain ⟨m, hm⟩ : ∃ m, P / 8 % 3 = m := ⟨_, rfl⟩
    obtain h | h | h : m = 0 ∨ m = 1 ∨ m = 2 := by omega
    all_goals
      subst h
      have HM := hid (valK6 hm)
      go_enter Tryz.func21, Tryz.ntmps21
      go_wp2_with fail
      refine HP1.out.mono ?_
      rintro e w ⟨rfl, rfl⟩
      go_wp2_with fail
      refine HP2.out.mono ?_
      rintro e w ⟨rfl, rfl⟩
      go_wp2_with fail
      go_ret
    · exact ⟨_, ⟨⟨0, by omega, rfl⟩, by rw [HVS.out, HM.out]; simp⟩, rfl, (Below.refl _ _).alloc (Nat.le_refl _) _⟩
    · exact ⟨_, ⟨⟨2, by omega, rfl⟩, by rw [HVS.out, HM.out]; simp⟩, rfl, (Below.refl _ _).alloc (Nat.le_refl _) _⟩
    · exact ⟨_, ⟨⟨1, by omega, rfl⟩, by rw [HVS.out, HM.out]; simp⟩, rfl, (Below.refl _ _).alloc (Nat.le_refl _) _⟩
  · go_enter Tryz.func21, Tryz.ntmps21
    go_wp2_with fail
    refine HP1.out.mono ?_
    rintro e w ⟨rfl, rfl⟩
    go_wp2_with fail
    refine HP2.out.mono ?_
    rintro e w ⟨rfl, rfl⟩
    go_wp2_with fail
    go_ret
    exact ⟨_, ⟨⟨15, by omega, rfl⟩, HVS.out.symm⟩, rfl, Below.refl _ _⟩
end Go.Proofs.YtknakfpciccoaaaGreatDoor
/- test of the statements. -/
namespace Go.Proofs.YtknakfpciccoaaaGreatDoor
open Go.RowKit

def opsL : List ByteArray := [⟨#[36, 101, 113]⟩, ⟨#[36, 110, 101]⟩, ⟨#[36, 103, 116]⟩, ⟨#[36, 103, 116, 101]⟩, ⟨#[36, 108, 116]⟩, ⟨#[36, 108, 116, 101]⟩]
def opS (k : Nat) : ByteArray := (⟨#[34]⟩ ++ opsL.getD k ByteArray.empty) ++ ⟨#[34]⟩
/-- The text of a test, by its kind and its number. -/
def tstK (k P : Int) : ByteArray :=
  if k = 6 then (((⟨#[34, 36, 105, 110, 34, 58, 91]⟩ ++ valS (P / 11)) ++ ⟨#[44]⟩) ++ valS (P / 11 / 16)) ++ ⟨#[93]⟩
  else if k = 7 then ⟨#[34, 36, 101, 120, 105, 115, 116, 115, 34, 58]⟩ ++ (if P / 11 % 2 = 0 then ⟨#[116, 114, 117, 101]⟩ else ⟨#[102, 97, 108, 115, 101]⟩)
  else if k = 8 then ⟨#[34, 36, 107, 105, 110, 100, 34, 58]⟩ ++ baL (Lib.itoa (1 + P / 11 % 6))
  else if k = 9 then (⟨#[34, 36, 97, 110, 121, 34, 58, 123, 34, 36, 103, 116, 34, 58]⟩ ++ baL (Lib.itoa (P / 11 % 4))) ++ ⟨#[125]⟩
  else if k = 10 then ⟨#[34, 36, 115, 105, 122, 101, 34, 58]⟩ ++ baL (Lib.itoa (P / 11 % 4))
  else (opS k.toNat ++ ⟨#[58]⟩) ++ valS (P / 11)
def tstS (c : Int) : ByteArray := tstK (absZ c % 11) (absZ c % 1099511627776)
theorem quoted_op (j : Nat) (hj : j < 6) (w : World) : Calls Tryz.prog 28 #[.string (opsL.getD j ByteArray.empty)] w fun e w' => ∃ q, e = .returned (.string q) ∧ q = opS j ∧ q.size ≤ 6 ∧ w' = w := by
  have hz : (opsL.getD j ByteArray.empty).size ≤ 4 := by
    match j, hj with
    | 0, _ => decide
    | 1, _ => decide
    | 2, _ => decide
    | 3, _ => decide
    | 4, _ => decide
    | 5, _ => decide
  refine (quoted_any _ w (by omega)).mono ?_
  rintro e w' ⟨rfl, rfl⟩
  refine ⟨_, rfl, rfl, ?_, rfl⟩
  simp only [ByteArray.size_append]
  have : (⟨#[34]⟩ : ByteArray).size = 1 := rfl
  omega
theorem itoa7 {n : Int} (h0 : 0 ≤ n) (h1 : n < 30) : (baL (Lib.itoa n)).size ≤ 2 := itoa30 h0 h1
set_option maxHeartbeats 8000000 in
set_option maxRecDepth 100000 in
theorem test_low {Tb : World → Prop} (hI : ItoaSaid Tb) (hL : Lies Tb) (c : Int) (w : World) (h0 : -9223372036854775808 ≤ c) (h1 : c ≤ 9223372036854775807) (hT : Tb w) (hk6 : absZ c % 11 < 6) :
    Calls Tryz.prog 30 #[.int .i64 c] w fun e w' => e = .returned (.string (tstS c)) ∧ Below w.heap.size w w' := by
  have HP1 := hid (fun w => pick_any c 1099511627776 w h0 h1 (by omega) (by omega))
  have HP2 := hid (fun w => pick_any c 11 w h0 h1 (by omega) (by omega))
  have HV : Hid (∀ (c : Int) (w : World), -9223372036854775808 ≤ c → c ≤ 9223372036854775807 → Tb w → Calls Tryz.prog 21 #[.int .i64 c] w (ValPostD c w)) := fun c w h0 h1 ht => value_det hI hL c w h0 h1 ht
  have HT : Hid (∀ w' : World, Below w.heap.size w w' → Tb w') := fun w' hb => hL w hT w w' hT hb
  have hb := absZ_bd h0 h1
  obtain ⟨P, hP⟩ : ∃ P, absZ c % 1099511627776 = P := ⟨_, rfl⟩
  obtain ⟨k, hk⟩ : ∃ k, absZ c % 11 = k := ⟨_, rfl⟩
  have p0 : 0 ≤ P := by omega
  have p1 : P ≤ 1099511627776 := by omega
  have k11 : k = 0 ∨ k = 1 ∨ k = 2 ∨ k = 3 ∨ k = 4 ∨ k = 5 := by omega
  have HVS : Hid (tstS c = tstK k P) := by show _ = _; unfold tstS; rw [hP, hk]
  rw [hP] at HP1
  rw [hk] at HP2
  have HI := hid hI
  clear hP hk hb h0 h1 hI hL hk6
  have HV1 := hid (HV.out (P / 11) w (by omega) (by omega) hT)
  clear hT
  rcases k11 with rfl | rfl | rfl | rfl | rfl | rfl
  iterate 6
    · go_enter Tryz.func30, Tryz.ntmps30
      go_wp2_with fail
      refine (HP1.out w).mono ?_
      rintro e w ⟨rfl, rfl⟩
      go_wp2_with fail
      refine HV1.out.mono ?_
      rintro e w1 ⟨sd, ⟨⟨i, hi, hiv⟩, hsd⟩, rfl, b1⟩
      have hz : sd.size ≤ 10 := by rw [hiv]; exact vt_le hi
      have Hsd := hid hsd
      have HB := hid b1
      clear hi hiv hsd b1 HV1
      go_wp2_with fail
      refine (HP2.out _).mono ?_
      rintro e w2 ⟨rfl, rfl⟩
      go_wp2_with fail
      refine (HP2.out _).mono ?_
      rintro e w2 ⟨rfl, rfl⟩
      go_wp2_with fail
      first
        | refine (quoted_op 0 (by omega) _).mono ?_
        | refine (quoted_op 1 (by omega) _).mono ?_
        | refine (quoted_op 2 (by omega) _).mono ?_
        | refine (quoted_op 3 (by omega) _).mono ?_
        | refine (quoted_op 4 (by omega) _).mono ?_
        | refine (quoted_op 5 (by omega) _).mono ?_
      rintro e w2 ⟨q, rfl, hq, hqz, rfl⟩
      obtain ⟨a1, e1, z1, r1⟩ := cat_run q ⟨#[58]⟩ q.size 1 rfl rfl (by omega)
      obtain ⟨a2, e2, z2, r2⟩ := cat_run a1 sd a1.size sd.size rfl rfl (by omega)
      have HE := hid (e2.trans (congrArg (· ++ sd) (e1.trans (congrArg (· ++ _) hq))))
      clear e1 e2 z1 z2 hq hqz hz
      go_wp2_with fail
      go_ret
      exact ⟨by rw [HVS.out]; show Ending.returned (.string a2) = _; rw [HE.out, Hsd.out]; rfl, HB.out.alloc HB.out.size _⟩
end Go.Proofs.YtknakfpciccoaaaGreatDoor
/- test of the statements: the other kinds. -/
namespace Go.Proofs.YtknakfpciccoaaaGreatDoor
open Go.RowKit

set_option maxHeartbeats 8000000 in
set_option maxRecDepth 100000 in
theorem test_high {Tb : World → Prop} (hI : ItoaSaid Tb) (hL : Lies Tb) (c : Int) (w : World) (h0 : -9223372036854775808 ≤ c) (h1 : c ≤ 9223372036854775807) (hT : Tb w) (hk6 : 6 ≤ absZ c % 11) :
    Calls Tryz.prog 30 #[.int .i64 c] w fun e w' => e = .returned (.string (tstS c)) ∧ Below w.heap.size w w' := by
  have HP1 := hid (fun w => pick_any c 1099511627776 w h0 h1 (by omega) (by omega))
  have HP2 := hid (fun w => pick_any c 11 w h0 h1 (by omega) (by omega))
  have HV : Hid (∀ (c : Int) (w : World), -9223372036854775808 ≤ c → c ≤ 9223372036854775807 → Tb w → Calls Tryz.prog 21 #[.int .i64 c] w (ValPostD c w)) := fun c w h0 h1 ht => value_det hI hL c w h0 h1 ht
  have HT : Hid (∀ w' : World, Below w.heap.size w w' → Tb w') := fun w' hb => hL w hT w w' hT hb
  have hb := absZ_bd h0 h1
  obtain ⟨P, hP⟩ : ∃ P, absZ c % 1099511627776 = P := ⟨_, rfl⟩
  obtain ⟨k, hk⟩ : ∃ k, absZ c % 11 = k := ⟨_, rfl⟩
  have p0 : 0 ≤ P := by omega
  have p1 : P ≤ 1099511627776 := by omega
  have k11 : k = 6 ∨ k = 7 ∨ k = 8 ∨ k = 9 ∨ k = 10 := by omega
  have HVS : Hid (tstS c = tstK k P) := by show _ = _; unfold tstS; rw [hP, hk]
  rw [hP] at HP1
  rw [hk] at HP2
  have HI := hid hI
  clear hP hk hb h0 h1 hI hL hk6
  have HV1 := hid (HV.out (P / 11) w (by omega) (by omega) hT)
  clear hT
  rcases k11 with rfl | rfl | rfl | rfl | rfl
  · go_enter Tryz.func30, Tryz.ntmps30
    go_wp2_with fail
    refine (HP1.out w).mono ?_
    rintro e w ⟨rfl, rfl⟩
    go_wp2_with fail
    refine HV1.out.mono ?_
    rintro e w1 ⟨sd, ⟨⟨i, hi, hiv⟩, hsd⟩, rfl, b1⟩
    have hz : sd.size ≤ 10 := by rw [hiv]; exact vt_le hi
    have Hsd := hid hsd
    have HB := hid b1
    clear hi hiv hsd b1 HV1
    have HV2 := hid (HV.out (P / 11 / 16) w1 (by omega) (by omega) (HT.out _ HB.out))
    obtain ⟨a1, e1, z1, r1⟩ := cat_run ⟨#[34, 36, 105, 110, 34, 58, 91]⟩ sd 7 sd.size rfl rfl (by omega)
    obtain ⟨a2, e2, z2, r2⟩ := cat_run a1 ⟨#[44]⟩ a1.size 1 rfl rfl (by omega)
    have HE := hid (And.intro e1 e2)
    have hz2 : a2.size ≤ 18 := by omega
    clear e1 z1 e2 z2 hz
    go_wp2_with fail
    refine (HP2.out _).mono ?_
    rintro e w2 ⟨rfl, rfl⟩
    go_wp2_with fail
    refine HV2.out.mono ?_
    rintro e w3 ⟨sv, ⟨⟨i2, hi2, hiv2⟩, hsv⟩, rfl, b3⟩
    have hz3 : sv.size ≤ 10 := by rw [hiv2]; exact vt_le hi2
    obtain ⟨a3, e3, z3, r3⟩ := cat_run a2 sv a2.size sv.size rfl rfl (by omega)
    obtain ⟨a4, e4, z4, r4⟩ := cat_run a3 ⟨#[93]⟩ a3.size 1 rfl rfl (by omega)
    have HB3 := hid (HB.out.trans (b3.mono HB.out.size))
    have HF : Hid (a4 = tstS c) := by show _ = _; rw [HVS.out, e4, e3, HE.out.2, HE.out.1, Hsd.out, hsv]; rfl
    clear b3 hi2 hiv2 hsv hz3 e3 z3 e4 z4 hz2 HV2
    go_wp2_with fail
    go_ret
    exact ⟨by rw [← HF.out]; rfl, HB3.out⟩
  · obtain ⟨m, hm⟩ : ∃ m, P / 11 % 2 = m := ⟨_, rfl⟩
    have HM : Hid (tstK 7 P = ⟨#[34, 36, 101, 120, 105, 115, 116, 115, 34, 58]⟩ ++ (if m = 0 then ⟨#[116, 114, 117, 101]⟩ else ⟨#[102, 97, 108, 115, 101]⟩)) := by show _ = _; subst hm; rfl
    obtain h | h : m = 0 ∨ m = 1 := by omega
    all_goals
      subst h
      go_enter Tryz.func30, Tryz.ntmps30
      go_wp2_with fail
      refine (HP1.out w).mono ?_
      rintro e w ⟨rfl, rfl⟩
      go_wp2_with fail
      refine HV1.out.mono ?_
      rintro e w1 ⟨sd, ⟨⟨i, hi, hiv⟩, hsd⟩, rfl, b1⟩
      have hz : sd.size ≤ 10 := by rw [hiv]; exact vt_le hi
      have Hsd := hid hsd
      have HB := hid b1
      clear hi hiv hsd b1 HV1
      go_wp2_with fail
      refine (HP2.out _).mono ?_
      rintro e w2 ⟨rfl, rfl⟩
      go_wp2_with fail
      go_ret
      exact ⟨by rw [HVS.out, HM.out]; rfl, HB.out.alloc HB.out.size _⟩
  · go_enter Tryz.func30, Tryz.ntmps30
    go_wp2_with fail
    refine (HP1.out w).mono ?_
    rintro e w ⟨rfl, rfl⟩
    go_wp2_with fail
    refine HV1.out.mono ?_
    rintro e w1 ⟨sd, ⟨⟨i, hi, hiv⟩, hsd⟩, rfl, b1⟩
    have hz : sd.size ≤ 10 := by rw [hiv]; exact vt_le hi
    have Hsd := hid hsd
    have HB := hid b1
    clear hi hiv hsd b1 HV1
    have HC := hid (HI.out (1 + P / 11 % 6) w1 (by omega) (by omega) (HT.out _ HB.out))
    have hiz := itoa7 (n := 1 + P / 11 % 6) (by omega) (by omega)
    generalize hg : baL (Lib.itoa (1 + P / 11 % 6)) = si at HC hiz
    have Hg := hid hg
    clear hg
    obtain ⟨a1, e1, z1, r1⟩ := cat_run ⟨#[34, 36, 107, 105, 110, 100, 34, 58]⟩ si 8 si.size rfl rfl (by omega)
    have HE := hid e1
    clear e1 z1 hiz hz
    go_wp2_with fail
    refine (HP2.out _).mono ?_
    rintro e w2 ⟨rfl, rfl⟩
    go_wp2_with fail
    refine HC.out.mono ?_
    rintro e w3 ⟨rfl, b3⟩
    have HB3 := hid (HB.out.trans (b3.mono HB.out.size))
    clear b3 HC
    go_wp2_with fail
    go_ret
    exact ⟨by rw [HVS.out]; show Ending.returned (.string a1) = _; rw [HE.out, ← Hg.out]; rfl, HB3.out⟩
  · go_enter Tryz.func30, Tryz.ntmps30
    go_wp2_with fail
    refine (HP1.out w).mono ?_
    rintro e w ⟨rfl, rfl⟩
    go_wp2_with fail
    refine HV1.out.mono ?_
    rintro e w1 ⟨sd, ⟨⟨i, hi, hiv⟩, hsd⟩, rfl, b1⟩
    have hz : sd.size ≤ 10 := by rw [hiv]; exact vt_le hi
    have Hsd := hid hsd
    have HB := hid b1
    clear hi hiv hsd b1 HV1
    have HC := hid (HI.out (P / 11 % 4) w1 (by omega) (by omega) (HT.out _ HB.out))
    have hiz := itoa7 (n := P / 11 % 4) (by omega) (by omega)
    generalize hg : baL (Lib.itoa (P / 11 % 4)) = si at HC hiz
    have Hg := hid hg
    clear hg
    obtain ⟨a1, e1, z1, r1⟩ := cat_run ⟨#[34, 36, 97, 110, 121, 34, 58, 123, 34, 36, 103, 116, 34, 58]⟩ si 14 si.size rfl rfl (by omega)
    obtain ⟨a2, e2, z2, r2⟩ := cat_run a1 ⟨#[125]⟩ a1.size 1 rfl rfl (by omega)
    have HE := hid (e2.trans (congrArg (· ++ _) e1))
    clear e1 z1 e2 z2 hiz hz
    go_wp2_with fail
    refine (HP2.out _).mono ?_
    rintro e w2 ⟨rfl, rfl⟩
    go_wp2_with fail
    refine HC.out.mono ?_
    rintro e w3 ⟨rfl, b3⟩
    have HB3 := hid (HB.out.trans (b3.mono HB.out.size))
    clear b3 HC
    go_wp2_with fail
    go_ret
    exact ⟨by rw [HVS.out]; show Ending.returned (.string a2) = _; rw [HE.out, ← Hg.out]; rfl, HB3.out⟩
  · go_enter Tryz.func30, Tryz.ntmps30
    go_wp2_with fail
    refine (HP1.out w).mono ?_
    rintro e w ⟨rfl, rfl⟩
    go_wp2_with fail
    refine HV1.out.mono ?_
    rintro e w1 ⟨sd, ⟨⟨i, hi, hiv⟩, hsd⟩, rfl, b1⟩
    have hz : sd.size ≤ 10 := by rw [hiv]; exact vt_le hi
    have Hsd := hid hsd
    have HB := hid b1
    clear hi hiv hsd b1 HV1
    have HC := hid (HI.out (P / 11 % 4) w1 (by omega) (by omega) (HT.out _ HB.out))
    have hiz := itoa7 (n := P / 11 % 4) (by omega) (by omega)
    generalize hg : baL (Lib.itoa (P / 11 % 4)) = si at HC hiz
    have Hg := hid hg
    clear hg
    obtain ⟨a1, e1, z1, r1⟩ := cat_run ⟨#[34, 36, 115, 105, 122, 101, 34, 58]⟩ si 8 si.size rfl rfl (by omega)
    have HE := hid e1
    clear e1 z1 hiz hz
    go_wp2_with fail
    refine (HP2.out _).mono ?_
    rintro e w2 ⟨rfl, rfl⟩
    go_wp2_with fail
    refine HC.out.mono ?_
    rintro e w3 ⟨rfl, b3⟩
    have HB3 := hid (HB.out.trans (b3.mono HB.out.size))
    clear b3 HC
    go_wp2_with fail
    go_ret
    exact ⟨by rw [HVS.out]; show Ending.returned (.string a1) = _; rw [HE.out, ← Hg.out]; rfl, HB3.out⟩
theorem test_any {Tb : World → Prop} (hI : ItoaSaid Tb) (hL : Lies Tb) (c : Int) (w : World) (h0 : -9223372036854775808 ≤ c) (h1 : c ≤ 9223372036854775807) (hT : Tb w) :
    Calls Tryz.prog 30 #[.int .i64 c] w fun e w' => e = .returned (.string (tstS c)) ∧ Below w.heap.size w w' := by
  by_cases h : absZ c % 11 < 6
  · exact test_low hI hL c w h0 h1 hT h
  · exact test_high hI hL c w h0 h1 hT (by omega)
end Go.Proofs.YtknakfpciccoaaaGreatDoor
/- Texts that are what is printed of a tree: how they are put together. -/
namespace Go.Proofs.YtknakfpciccoaaaGreatDoor
open Go.RowKit

/-- A text is what is printed of a tree, that is read as it is. -/
structure Rep (f : Nat) (t : T) (s : ByteArray) (n : Nat) : Prop where
  wr : s.data.toList = wrT f t
  fit : FitT (f + 1) t
  good : Good f t
  can : canT f t = t
  size : s.size ≤ n
theorem Rep.parse {t : T} {s : ByteArray} {n : Nat} (h : Rep 12 t s n) (hn : n ≤ 4000) : eJ s = 0 ∧ tJ s = t := by
  have e := ba_list h.wr
  have hz := h.size
  have h1 : s.size = (wrT 12 t).length := by rw [← h.wr]; rfl
  have hp := parse_tree h.fit h.good (by omega)
  rw [h.can] at hp
  rw [e]
  exact hp
theorem Rep.le {f : Nat} {t : T} {s : ByteArray} {n m : Nat} (h : Rep f t s n) (hm : n ≤ m) : Rep f t s m := ⟨h.wr, h.fit, h.good, h.can, Nat.le_trans h.size hm⟩
theorem fits_small {k : Int} (h0 : 0 ≤ k) (h1 : k ≤ 6) (l : List T) (ks : List ByteArray) (hl : l.length ≤ 100) (hk : ks.length ≤ 100) : Fits (mkT k 0 ByteArray.empty l ks) :=
  ⟨by rw [kindOf_mk]; omega, by rw [kindOf_mk]; omega, by rw [nOf_mk]; omega, by rw [nOf_mk]; omega, by rw [sOf_mk]; show (0 : Nat) ≤ _; omega, by rw [nL_mk]; omega, by rw [nK_mk]; omega⟩
/-- A name that is printed as it is. -/
structure Pln (k : ByteArray) : Prop where
  quo : quoL k = 34 :: (k.data.toList ++ [34])
  ok : okS k = true
  size : k.size ≤ 100
theorem Rep.obj {f : Nat} {t : T} {s : ByteArray} {n : Nat} (h : Rep f t s n) {k : ByteArray} (hk : Pln k) {s' : ByteArray} (hs : s'.data.toList = 123 :: 34 :: (k.data.toList ++ (34 :: 58 :: (s.data.toList ++ [125])))) : Rep (f + 1) (mkT 6 0 ByteArray.empty [t] [k]) s' (n + k.size + 5) := by
  have e : wrT (f + 1) (mkT 6 0 ByteArray.empty [t] [k]) = 123 :: (([] ++ ([] ++ (quoL k ++ (58 :: wrT f t)))) ++ [125]) := rfl
  refine ⟨?_, ⟨fits_small (by omega) (by omega) _ _ (by simp) (by simp), fun i hi => ?_, fun i hi => ?_⟩, .inr ⟨rfl, noText_mk _ _ _ _, fun i hi => ?_, .inr ⟨rfl, rfl, ?_, rfl⟩⟩, ?_, ?_⟩
  · rw [e, hs, hk.quo, h.wr]
    simp
  · obtain rfl : i = 0 := by rw [nL_mk] at hi; simpa using hi
    exact h.fit
  · obtain rfl : i = 0 := by rw [nK_mk] at hi; simpa using hi
    have := hk.size
    show k.size ≤ _
    omega
  · obtain rfl : i = 0 := by rw [nL_mk] at hi; simpa using hi
    exact h.good
  · show (true && (okS k && decide (k.size ≤ 4000))) = true
    have := hk.size
    rw [hk.ok, decide_eq_true (by omega)]
    rfl
  · show mkT 6 0 ByteArray.empty [canT f t] [k] = _
    rw [h.can]
  · have h1 : s'.size = s'.data.toList.length := rfl
    have h2 : s.size = s.data.toList.length := rfl
    have h3 : k.size = k.data.toList.length := rfl
    have h4 := h.size
    rw [h1, hs]
    simp only [List.length_cons, List.length_append, List.length_nil]
    omega
theorem Rep.lst1 {f : Nat} {t : T} {s : ByteArray} {n : Nat} (h : Rep f t s n) {s' : ByteArray} (hs : s'.data.toList = 91 :: (s.data.toList ++ [93])) : Rep (f + 1) (mkT 5 0 ByteArray.empty [t] []) s' (n + 2) := by
  have e : wrT (f + 1) (mkT 5 0 ByteArray.empty [t] []) = 91 :: (([] ++ ([] ++ wrT f t)) ++ [93]) := rfl
  refine ⟨?_, ⟨fits_small (by omega) (by omega) _ _ (by simp) (by simp), fun i hi => ?_, fun i hi => ?_⟩, .inr ⟨rfl, noText_mk _ _ _ _, fun i hi => ?_, .inl ⟨rfl, rfl⟩⟩, ?_, ?_⟩
  · rw [e, hs, h.wr]
    simp
  · obtain rfl : i = 0 := by rw [nL_mk] at hi; simpa using hi
    exact h.fit
  · rw [nK_mk] at hi; exact absurd hi (Nat.not_lt_zero i)
  · obtain rfl : i = 0 := by rw [nL_mk] at hi; simpa using hi
    exact h.good
  · show mkT 5 0 ByteArray.empty [canT f t] [] = _
    rw [h.can]
  · have h1 : s'.size = s'.data.toList.length := rfl
    have h2 : s.size = s.data.toList.length := rfl
    have h4 := h.size
    rw [h1, hs]
    simp only [List.length_cons, List.length_append, List.length_nil]
    omega
theorem Rep.lst2 {f : Nat} {t u : T} {s r : ByteArray} {n m : Nat} (h : Rep f t s n) (g : Rep f u r m) {s' : ByteArray} (hs : s'.data.toList = 91 :: (s.data.toList ++ (44 :: (r.data.toList ++ [93])))) : Rep (f + 1) (mkT 5 0 ByteArray.empty [t, u] []) s' (n + m + 3) := by
  have e : wrT (f + 1) (mkT 5 0 ByteArray.empty [t, u] []) = 91 :: ((([] ++ ([] ++ wrT f t)) ++ ([44] ++ wrT f u)) ++ [93]) := rfl
  have two : ∀ i, i < nL (mkT 5 0 ByteArray.empty [t, u] []) → i = 0 ∨ i = 1 := fun i hi => by rw [nL_mk] at hi; simp at hi; omega
  refine ⟨?_, ⟨fits_small (by omega) (by omega) _ _ (by simp) (by simp), fun i hi => ?_, fun i hi => ?_⟩, .inr ⟨rfl, noText_mk _ _ _ _, fun i hi => ?_, .inl ⟨rfl, rfl⟩⟩, ?_, ?_⟩
  · rw [e, hs, h.wr, g.wr]
    simp
  · rcases two i hi with rfl | rfl
    · exact h.fit
    · exact g.fit
  · rw [nK_mk] at hi; exact absurd hi (Nat.not_lt_zero i)
  · rcases two i hi with rfl | rfl
    · exact h.good
    · exact g.good
  · show mkT 5 0 ByteArray.empty [canT f t, canT f u] [] = _
    rw [h.can, g.can]
  · have h1 : s'.size = s'.data.toList.length := rfl
    have h2 : s.size = s.data.toList.length := rfl
    have h3 : r.size = r.data.toList.length := rfl
    have h4 := h.size
    have h5 := g.size
    rw [h1, hs]
    simp only [List.length_cons, List.length_append, List.length_nil]
    omega
/-- The values. -/
theorem tv_repB : ((List.range 13).all fun f => decide (f < 3) || (List.range 36).all fun i => decide (wrT f (tv i) = (vt i).data.toList) && fitB (f + 1) (tv i) && (chkT f (tv i) 1048576).isSome) = true := by kernel_rfl
theorem tv_canB : (List.range 10).map (fun f => (List.range 36).map (fun i => canT (f + 3) (tv i))) = (List.range 10).map (fun _ => (List.range 36).map tv) := by kernel_rfl
theorem tv_rep {i f : Nat} (hi : i < 36) (h3 : 3 ≤ f) (h12 : f ≤ 12) : Rep f (tv i) (vt i) 10 := by
  have h1 := List.all_eq_true.1 tv_repB f (List.mem_range.2 (by omega))
  rw [decide_eq_false (by omega), Bool.false_or] at h1
  have h2 := List.all_eq_true.1 h1 i (List.mem_range.2 hi)
  simp only [Bool.and_eq_true, decide_eq_true_eq] at h2
  obtain ⟨⟨a, b⟩, c⟩ := h2
  refine ⟨a.symm, fitB_fit _ _ b, ?_, ?_, vt_le hi⟩
  · rcases chk_says f (tv i) 1048576 (by omega) with ⟨_, h, _⟩ | ⟨h, _⟩
    · exact h
    · rw [h] at c; cases c
  · obtain ⟨g, rfl⟩ : ∃ g, f = g + 3 := ⟨f - 3, by omega⟩
    have h4 := congrArg (fun l => l[g]?) tv_canB
    simp only [List.getElem?_map, List.getElem?_range (show g < 10 by omega), Option.map_some, Option.some.injEq] at h4
    have h5 := congrArg (fun l => l[i]?) h4
    simpa [hi] using h5
theorem valS_isV (c : Int) : IsV (valS c) := by
  unfold valS
  have hk : absZ c % 8 = 0 ∨ absZ c % 8 = 1 ∨ absZ c % 8 = 2 ∨ absZ c % 8 = 3 ∨ absZ c % 8 = 4 ∨ absZ c % 8 = 5 ∨ absZ c % 8 = 6 ∨ absZ c % 8 = 7 := by omega
  generalize absZ c % 1099511627776 = P
  rcases hk with h | h | h | h | h | h | h | h <;> rw [h]
  · exact isV_num (P / 8)
  · exact isV_num (P / 8)
  · exact isV_num (P / 8)
  · exact isV_txt (x := P / 8 % 3) (by omega) (by omega)
  · exact isV_list (x := P / 8 % 4) (y := P / 8 / 4 % 4) (by omega) (by omega) (by omega) (by omega)
  · exact isV_obj (x := P / 8 % 4) (by omega) (by omega)
  · rw [valK6 rfl]
    split
    · exact ⟨0, by omega, rfl⟩
    · split
      · exact ⟨2, by omega, rfl⟩
      · exact ⟨1, by omega, rfl⟩
  · exact ⟨15, by omega, rfl⟩
theorem nT_rep {n : Int} (h0 : 0 ≤ n) (h1 : n < 30) (f : Nat) : Rep (f + 1) (nT n) (baL (Lib.itoa n)) 10 := by
  refine ⟨?_, ⟨⟨by show -9223372036854775808 ≤ (3 : Int); omega, by show (3 : Int) ≤ 9223372036854775807; omega, by show -9223372036854775808 ≤ n; omega, by show n ≤ 9223372036854775807; omega, by show (0 : Nat) ≤ _; omega, by show (0 : Nat) ≤ _; omega, by show (0 : Nat) ≤ _; omega⟩, fun i hi => absurd hi (Nat.not_lt_zero i), fun i hi => absurd hi (Nat.not_lt_zero i)⟩, nT_good n _, rfl, by have := itoa30 h0 h1; omega⟩
  rw [wrT_leaf (by show (3 : Int) ≠ 5; decide) (by show (3 : Int) ≠ 6; decide)]
  show (baL (Lib.itoa n)).data.toList = Lib.itoa n
  simp [baL]
end Go.Proofs.YtknakfpciccoaaaGreatDoor
/- The tests of the statements, as trees. -/
namespace Go.Proofs.YtknakfpciccoaaaGreatDoor
open Go.RowKit

/-- A text is a test: an operator and what it is held against. -/
structure TstR (op : ByteArray) (j : T) (s : ByteArray) : Prop where
  pln : Pln op
  txt : ∃ r : ByteArray, s.data.toList = 34 :: (op.data.toList ++ (34 :: 58 :: r.data.toList)) ∧ ∀ f, 5 ≤ f → f ≤ 12 → Rep f j r 30
  ok : ∀ m, okTs (m + 2) (mkT 6 0 ByteArray.empty [j] [op]) = true
  ev : ∃ p : T → Bool → Bool, ∀ m v th, evT (m + 2) (op, j) v th = p v th
  isop : isOp op = true
  small : op.size ≤ 10
theorem Pln.mk' {k : ByteArray} (h : (decide (quoL k = 34 :: (k.data.toList ++ [34])) && okS k && decide (k.size ≤ 100)) = true) : Pln k := by
  simp only [Bool.and_eq_true, decide_eq_true_eq] at h
  exact ⟨h.1.1, h.1.2, h.2⟩
theorem TstR.size {op : ByteArray} {j : T} {s : ByteArray} (h : TstR op j s) : s.size ≤ 44 := by
  obtain ⟨r, hr, hj⟩ := h.txt
  have h1 := (hj 5 (by omega) (by omega)).size
  have h2 : s.size = s.data.toList.length := rfl
  have h3 : r.size = r.data.toList.length := rfl
  have h4 : op.size = op.data.toList.length := rfl
  have h5 := h.small
  rw [h2, hr]
  simp only [List.length_cons, List.length_append]
  omega
/-- The test in braces. -/
theorem TstR.obj {op : ByteArray} {j : T} {s : ByteArray} (h : TstR op j s) {s' : ByteArray} (hs : s'.data.toList = 123 :: (s.data.toList ++ [125])) {f : Nat} (h5 : 6 ≤ f) (h12 : f ≤ 12) : Rep f (mkT 6 0 ByteArray.empty [j] [op]) s' 50 := by
  obtain ⟨r, hr, hj⟩ := h.txt
  obtain ⟨g, rfl⟩ : ∃ g, f = g + 1 := ⟨f - 1, by omega⟩
  refine ((hj g (by omega) (by omega)).obj h.pln (s' := s') ?_).le (by have := h.small; omega)
  rw [hs, hr]
  simp
theorem low_ok (op : ByteArray) (j : T) (h : plainOp op) (m : Nat) : okTs (m + 1) (mkT 6 0 ByteArray.empty [j] [op]) = true := by
  show (true && (true && okT1 (okTs m) op j)) = true
  unfold okT1
  rw [if_pos h]
  rfl
theorem one_okTs (op : ByteArray) (j : T) (m : Nat) : okTs (m + 1) (mkT 6 0 ByteArray.empty [j] [op]) = okT1 (okTs m) op j := by
  show (true && (true && okT1 (okTs m) op j)) = _
  simp
theorem tst_low {op : ByteArray} (h : op = opEq ∨ op = opNe ∨ op = opGt ∨ op = opGte ∨ op = opLt ∨ op = opLte) {i : Nat} (hi : i < 36) {s : ByteArray} (hs : s.data.toList = 34 :: (op.data.toList ++ (34 :: 58 :: (vt i).data.toList))) : TstR op (tv i) s := by
  refine ⟨?_, ⟨vt i, hs, fun f h3 h12 => (tv_rep hi (by omega) h12).le (by omega)⟩, fun m => low_ok op _ h _, ?_, ?_, ?_⟩
  · rcases h with rfl | rfl | rfl | rfl | rfl | rfl <;> exact Pln.mk' (by kernel_rfl)
  · refine ⟨fun v th => evT 2 (op, tv i) v th, fun m v th => ?_⟩
    rcases h with rfl | rfl | rfl | rfl | rfl | rfl <;> rfl
  · rcases h with rfl | rfl | rfl | rfl | rfl | rfl <;> kernel_rfl
  · rcases h with rfl | rfl | rfl | rfl | rfl | rfl <;> decide
theorem bool_list (b : Bool) : ∃ i, i < 36 ∧ kindOf (tv i) = 2 ∧ vt i = if b then ⟨#[116, 114, 117, 101]⟩ else ⟨#[102, 97, 108, 115, 101]⟩ := by
  cases b
  · exact ⟨1, by omega, by kernel_rfl, by kernel_rfl⟩
  · exact ⟨2, by omega, by kernel_rfl, by kernel_rfl⟩
theorem tst_rep (c : Int) : ∃ op j, TstR op j (tstS c) := by
  unfold tstS
  have hk : absZ c % 11 = 0 ∨ absZ c % 11 = 1 ∨ absZ c % 11 = 2 ∨ absZ c % 11 = 3 ∨ absZ c % 11 = 4 ∨ absZ c % 11 = 5 ∨ absZ c % 11 = 6 ∨ absZ c % 11 = 7 ∨ absZ c % 11 = 8 ∨ absZ c % 11 = 9 ∨ absZ c % 11 = 10 := by omega
  generalize absZ c % 1099511627776 = P
  obtain ⟨i, hi, hv⟩ := valS_isV (P / 11)
  obtain ⟨i2, hi2, hv2⟩ := valS_isV (P / 11 / 16)
  rcases hk with h | h | h | h | h | h | h | h | h | h | h <;> rw [h]
  · exact ⟨opEq, tv i, tst_low (.inl rfl) hi (by show ((opS 0 ++ ⟨#[58]⟩) ++ valS (P / 11)).data.toList = _; rw [hv, app_list, app_list]; rfl)⟩
  · exact ⟨opNe, tv i, tst_low (.inr (.inl rfl)) hi (by show ((opS 1 ++ ⟨#[58]⟩) ++ valS (P / 11)).data.toList = _; rw [hv, app_list, app_list]; rfl)⟩
  · exact ⟨opGt, tv i, tst_low (.inr (.inr (.inl rfl))) hi (by show ((opS 2 ++ ⟨#[58]⟩) ++ valS (P / 11)).data.toList = _; rw [hv, app_list, app_list]; rfl)⟩
  · exact ⟨opGte, tv i, tst_low (.inr (.inr (.inr (.inl rfl)))) hi (by show ((opS 3 ++ ⟨#[58]⟩) ++ valS (P / 11)).data.toList = _; rw [hv, app_list, app_list]; rfl)⟩
  · exact ⟨opLt, tv i, tst_low (.inr (.inr (.inr (.inr (.inl rfl))))) hi (by show ((opS 4 ++ ⟨#[58]⟩) ++ valS (P / 11)).data.toList = _; rw [hv, app_list, app_list]; rfl)⟩
  · exact ⟨opLte, tv i, tst_low (.inr (.inr (.inr (.inr (.inr rfl))))) hi (by show ((opS 5 ++ ⟨#[58]⟩) ++ valS (P / 11)).data.toList = _; rw [hv, app_list, app_list]; rfl)⟩
  · refine ⟨opIn, mkT 5 0 ByteArray.empty [tv i, tv i2] [], Pln.mk' (by kernel_rfl), ⟨((⟨#[91]⟩ ++ vt i) ++ ⟨#[44]⟩) ++ vt i2 ++ ⟨#[93]⟩, ?_, fun f h5 h12 => ?_⟩, fun m => ?_, ⟨fun v th => evT 2 (opIn, mkT 5 0 ByteArray.empty [tv i, tv i2] []) v th, fun m v th => rfl⟩, by kernel_rfl, by decide⟩
    · show ((((⟨#[34, 36, 105, 110, 34, 58, 91]⟩ ++ valS (P / 11)) ++ ⟨#[44]⟩) ++ valS (P / 11 / 16)) ++ ⟨#[93]⟩ : ByteArray).data.toList = _
      rw [hv, hv2]
      simp only [app_list]
      rfl
    · obtain ⟨g, rfl⟩ : ∃ g, f = g + 1 := ⟨f - 1, by omega⟩
      refine ((tv_rep hi (f := g) (by omega) (by omega)).lst2 (tv_rep hi2 (by omega) (by omega)) ?_).le (by omega)
      simp only [app_list]
      simp
    · rw [one_okTs]; kernel_rfl
  · obtain ⟨k, hk, hkk, hkt⟩ := bool_list (decide (P / 11 % 2 = 0))
    refine ⟨opExists, tv k, Pln.mk' (by kernel_rfl), ⟨vt k, ?_, fun f h5 h12 => (tv_rep hk (by omega) h12).le (by omega)⟩, fun m => ?_, ⟨fun v th => evT 2 (opExists, tv k) v th, fun m v th => rfl⟩, by kernel_rfl, by decide⟩
    · show (⟨#[34, 36, 101, 120, 105, 115, 116, 115, 34, 58]⟩ ++ (if P / 11 % 2 = 0 then ⟨#[116, 114, 117, 101]⟩ else ⟨#[102, 97, 108, 115, 101]⟩) : ByteArray).data.toList = _
      rw [hkt, app_list]
      simp only [decide_eq_true_eq]
      rfl
    · rw [one_okTs]
      show (kindOf (tv k) == 2) = true
      rw [hkk]
      rfl
  · refine ⟨opKind, nT (1 + P / 11 % 6), Pln.mk' (by kernel_rfl), ⟨baL (Lib.itoa (1 + P / 11 % 6)), ?_, fun f h5 h12 => ?_⟩, fun m => ?_, ⟨fun v th => evT 2 (opKind, nT (1 + P / 11 % 6)) v th, fun m v th => rfl⟩, by kernel_rfl, by decide⟩
    · show (⟨#[34, 36, 107, 105, 110, 100, 34, 58]⟩ ++ baL (Lib.itoa (1 + P / 11 % 6)) : ByteArray).data.toList = _
      rw [app_list]
      rfl
    · obtain ⟨g, rfl⟩ : ∃ g, f = g + 1 := ⟨f - 1, by omega⟩
      exact (nT_rep (by omega) (by omega) g).le (by omega)
    · rw [one_okTs]
      show ((true && decide (1 ≤ 1 + P / 11 % 6)) && decide (1 + P / 11 % 6 ≤ 6)) = true
      rw [decide_eq_true (by omega), decide_eq_true (by omega)]
      rfl
  · refine ⟨opAny, mkT 6 0 ByteArray.empty [nT (P / 11 % 4)] [opGt], Pln.mk' (by kernel_rfl), ⟨(⟨#[123, 34, 36, 103, 116, 34, 58]⟩ ++ baL (Lib.itoa (P / 11 % 4))) ++ ⟨#[125]⟩, ?_, fun f h5 h12 => ?_⟩, fun m => ?_, ⟨fun v th => evT 2 (opAny, mkT 6 0 ByteArray.empty [nT (P / 11 % 4)] [opGt]) v th, fun m v th => rfl⟩, by kernel_rfl, by decide⟩
    · show ((⟨#[34, 36, 97, 110, 121, 34, 58, 123, 34, 36, 103, 116, 34, 58]⟩ ++ baL (Lib.itoa (P / 11 % 4))) ++ ⟨#[125]⟩ : ByteArray).data.toList = _
      simp only [app_list]
      rfl
    · obtain ⟨g, rfl⟩ : ∃ g, f = g + 1 + 1 := ⟨f - 2, by omega⟩
      refine ((nT_rep (n := P / 11 % 4) (by omega) (by omega) g).obj (k := opGt) (Pln.mk' (by kernel_rfl)) ?_).le (by have : opGt.size = 3 := rfl; omega)
      simp only [app_list]
      rfl
    · rw [one_okTs]
      show okTs (m + 1) (mkT 6 0 ByteArray.empty [nT (P / 11 % 4)] [opGt]) = true
      exact low_ok _ _ (.inr (.inr (.inl rfl))) m
  · refine ⟨opSize, nT (P / 11 % 4), Pln.mk' (by kernel_rfl), ⟨baL (Lib.itoa (P / 11 % 4)), ?_, fun f h5 h12 => ?_⟩, fun m => ?_, ⟨fun v th => evT 2 (opSize, nT (P / 11 % 4)) v th, fun m v th => rfl⟩, by kernel_rfl, by decide⟩
    · show (⟨#[34, 36, 115, 105, 122, 101, 34, 58]⟩ ++ baL (Lib.itoa (P / 11 % 4)) : ByteArray).data.toList = _
      rw [app_list]
      rfl
    · obtain ⟨g, rfl⟩ : ∃ g, f = g + 1 := ⟨f - 1, by omega⟩
      exact (nT_rep (by omega) (by omega) g).le (by omega)
    · rw [one_okTs]
      show (true && decide (0 ≤ P / 11 % 4)) = true
      rw [decide_eq_true (by omega)]
      rfl
end Go.Proofs.YtknakfpciccoaaaGreatDoor
