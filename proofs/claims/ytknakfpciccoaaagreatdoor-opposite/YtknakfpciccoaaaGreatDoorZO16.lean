import Derived.Test.YtknakfpciccoaaaGreatDoorZO8
import Derived.Test.YtknakfpciccoaaaGreatDoorZO15
import Derived.Test.YtknakfpciccoaaaGreatDoorZO2
import Derived.Test.YtknakfpciccoaaaGreatDoorZO3
import Derived.Test.YtknakfpciccoaaaGreatDoorZO4
import Derived.Test.YtknakfpciccoaaaGreatDoorZO1
/- The walks of pick and value. -/
namespace Go.Proofs.YtknakfpciccoaaaGreatDoor
open Go.RowKit

def ItoaSaid (Tb : World → Prop) : Prop := ∀ (n : Int) (w : World), -9223372036854775808 ≤ n → n ≤ 9223372036854775807 → Tb w → Calls Tryz.prog 54 #[.int .i64 n] w fun e w' => e = .returned (.string (baL (Lib.itoa n))) ∧ Below w.heap.size w w'
def absZ (c : Int) : Int := if c < 0 then -(c + 1) else c
theorem absZ_bd {c : Int} (h0 : -9223372036854775808 ≤ c) (h1 : c ≤ 9223372036854775807) : 0 ≤ absZ c ∧ absZ c ≤ 9223372036854775807 := by unfold absZ; split <;> omega
set_option maxHeartbeats 4000000 in
set_option maxRecDepth 100000 in
theorem pick_any (c n : Int) (w : World) (h0 : -9223372036854775808 ≤ c) (h1 : c ≤ 9223372036854775807) (hn : 0 < n) (hn2 : n ≤ 1099511627776) :
    Calls Tryz.prog 53 #[.int .i64 c, .int .i64 n] w fun e w' => e = .returned (.int .i64 (absZ c % n)) ∧ w' = w := by
  have hz : (n == 0) = false := by rw [beq_eq_false_iff_ne]; omega
  have hz2 : n ≠ 0 := by omega
  by_cases hc : c < 0
  · have HX : Hid (absZ c = -(c + 1)) := by show _ = _; unfold absZ; rw [if_pos hc]
    have hx : 0 ≤ -(c + 1) := by omega
    go_enter Tryz.func53, Tryz.ntmps53
    go_wp2_with fail
    go_ret
    exact ⟨ret_int (by rw [HX.out, ← Int.neg_tmod, Int.tmod_eq_emod_of_nonneg hx]), rfl⟩
  · have HX : Hid (absZ c = c) := by show _ = _; unfold absZ; rw [if_neg hc]
    have hx : 0 ≤ c := by omega
    go_enter Tryz.func53, Tryz.ntmps53
    go_wp2_with fail
    go_ret
    exact ⟨ret_int (by rw [HX.out]), rfl⟩
theorem itoa_small {n : Int} (h0 : 0 ≤ n) (h1 : n < 4) : ∃ k : Nat, k < 4 ∧ (k : Int) = n ∧ Lib.itoa n = [(k + 48).toUInt8] := by
  refine ⟨n.toNat, by omega, by omega, ?_⟩
  have := itoa_pos n.toNat (by omega)
  rw [Int.toNat_of_nonneg h0] at this
  exact this
theorem isV_list {x y : Int} (hx : 0 ≤ x) (hx4 : x < 4) (hy : 0 ≤ y) (hy4 : y < 4) : IsV ((((⟨#[91]⟩ ++ baL (Lib.itoa x)) ++ ⟨#[44]⟩) ++ baL (Lib.itoa y)) ++ ⟨#[93]⟩) := by
  obtain ⟨a, ha, _, ea⟩ := itoa_small hx hx4
  obtain ⟨b, hb, _, eb⟩ := itoa_small hy hy4
  rw [ea, eb]
  refine ⟨16 + 4 * a + b, by omega, ?_⟩
  obtain rfl | rfl | rfl | rfl : a = 0 ∨ a = 1 ∨ a = 2 ∨ a = 3 := by omega
  all_goals
    obtain rfl | rfl | rfl | rfl : b = 0 ∨ b = 1 ∨ b = 2 ∨ b = 3 := by omega
    all_goals kernel_rfl
theorem isV_obj {x : Int} (hx : 0 ≤ x) (hx4 : x < 4) : IsV ((⟨#[123, 34, 98, 34, 58]⟩ ++ baL (Lib.itoa x)) ++ ⟨#[125]⟩) := by
  obtain ⟨a, ha, _, ea⟩ := itoa_small hx hx4
  rw [ea]
  refine ⟨32 + a, by omega, ?_⟩
  obtain rfl | rfl | rfl | rfl : a = 0 ∨ a = 1 ∨ a = 2 ∨ a = 3 := by omega
  all_goals kernel_rfl
theorem isV_txt {x : Int} (hx : 0 ≤ x) (hx3 : x < 3) : IsV ((⟨#[34]⟩ ++ ⟨#[byteZ (97 + x)]⟩) ++ ⟨#[34]⟩) := by
  obtain rfl | rfl | rfl : x = 0 ∨ x = 1 ∨ x = 2 := by omega
  · exact ⟨12, by omega, by kernel_rfl⟩
  · exact ⟨13, by omega, by kernel_rfl⟩
  · exact ⟨14, by omega, by kernel_rfl⟩
/-- Two texts, one behind the other. -/
theorem cat_run (a b : ByteArray) (n m : Nat) (ha : a.size = n) (hb : b.size = m) (h : n + m ≤ 1000000) : ∃ c : ByteArray, c = a ++ b ∧ c.size = n + m ∧ ∀ w : World, (Op.stringOp .add a b).run Tryz.prog w = .ok (.string c) w :=
  ⟨a ++ b, rfl, by rw [ByteArray.size_append]; omega, fun w => run_string_add_sum w a b (by omega)⟩
theorem itoa_size {n : Int} (h0 : 0 ≤ n) (h1 : n < 4) : (baL (Lib.itoa n)).size = 1 := by
  obtain ⟨k, _, _, e⟩ := itoa_small h0 h1
  rw [e]
  rfl
def ValPostV (w : World) (e : Ending) (w' : World) : Prop := ∃ s, IsV s ∧ e = .returned (.string s) ∧ Below w.heap.size w w'
set_option maxHeartbeats 8000000 in
set_option maxRecDepth 100000 in
theorem value_any' {Tb : World → Prop} (hI : ItoaSaid Tb) (hL : Lies Tb) (c : Int) (w : World) (h0 : -9223372036854775808 ≤ c) (h1 : c ≤ 9223372036854775807) (hT : Tb w) :
    Calls Tryz.prog 21 #[.int .i64 c] w (ValPostV w) := by
  have HP1 := hid (pick_any c 1099511627776 w h0 h1 (by omega) (by omega))
  have HP2 := hid (pick_any c 8 w h0 h1 (by omega) (by omega))
  have hb := absZ_bd h0 h1
  obtain ⟨P, hP⟩ : ∃ P, absZ c % 1099511627776 = P := ⟨_, rfl⟩
  obtain ⟨k, hk⟩ : ∃ k, absZ c % 8 = k := ⟨_, rfl⟩
  have p0 : 0 ≤ P := by omega
  have p1 : P ≤ 1099511627776 := by omega
  have k8 : k = 0 ∨ k = 1 ∨ k = 2 ∨ k = 3 ∨ k = 4 ∨ k = 5 ∨ k = 6 ∨ k = 7 := by omega
  rw [hP] at HP1
  rw [hk] at HP2
  clear hP hk hb h0 h1
  have HT := hid hT
  have HI := hid hI
  clear hT hI
  rcases k8 with rfl | rfl | rfl | rfl | rfl | rfl | rfl | rfl
  · go_enter Tryz.func21, Tryz.ntmps21
    go_wp2_with fail
    refine HP1.out.mono ?_
    rintro e w ⟨rfl, rfl⟩
    go_wp2_with fail
    refine HP2.out.mono ?_
    rintro e w ⟨rfl, rfl⟩
    have HC := hid (HI.out (P / 8 % 9 - 4) w (by omega) (by omega) HT.out)
    go_wp2_with fail
    refine HC.out.mono ?_
    rintro e w1 ⟨rfl, b1⟩
    have HB := hid b1
    clear b1
    go_wp2_with fail
    go_ret
    exact ⟨_, isV_num (P / 8), rfl, HB.out⟩
  · go_enter Tryz.func21, Tryz.ntmps21
    go_wp2_with fail
    refine HP1.out.mono ?_
    rintro e w ⟨rfl, rfl⟩
    go_wp2_with fail
    refine HP2.out.mono ?_
    rintro e w ⟨rfl, rfl⟩
    have HC := hid (HI.out (P / 8 % 9 - 4) w (by omega) (by omega) HT.out)
    go_wp2_with fail
    refine HC.out.mono ?_
    rintro e w1 ⟨rfl, b1⟩
    have HB := hid b1
    clear b1
    go_wp2_with fail
    go_ret
    exact ⟨_, isV_num (P / 8), rfl, HB.out⟩
  · go_enter Tryz.func21, Tryz.ntmps21
    go_wp2_with fail
    refine HP1.out.mono ?_
    rintro e w ⟨rfl, rfl⟩
    go_wp2_with fail
    refine HP2.out.mono ?_
    rintro e w ⟨rfl, rfl⟩
    have HC := hid (HI.out (P / 8 % 9 - 4) w (by omega) (by omega) HT.out)
    go_wp2_with fail
    refine HC.out.mono ?_
    rintro e w1 ⟨rfl, b1⟩
    have HB := hid b1
    clear b1
    go_wp2_with fail
    go_ret
    exact ⟨_, isV_num (P / 8), rfl, HB.out⟩
  · have hcv := conv1 w (97 + P / 8 % 3) (by omega)
    have e1 : IntKind.u8.wrap (97 + P / 8 % 3) = 97 + P / 8 % 3 := by rw [IntKind.wrap_u8]; omega
    go_enter Tryz.func21, Tryz.ntmps21
    go_wp2_with fail
    refine HP1.out.mono ?_
    rintro e w ⟨rfl, rfl⟩
    go_wp2_with fail
    refine HP2.out.mono ?_
    rintro e w ⟨rfl, rfl⟩
    go_wp2_with fail
    go_ret
    exact ⟨_, isV_txt (x := P / 8 % 3) (by omega) (by omega), rfl, (Below.refl _ _).alloc (Nat.le_refl _) _⟩
  · go_enter Tryz.func21, Tryz.ntmps21
    go_wp2_with fail
    refine HP1.out.mono ?_
    rintro e w ⟨rfl, rfl⟩
    go_wp2_with fail
    refine HP2.out.mono ?_
    rintro e w ⟨rfl, rfl⟩
    have HC := hid (HI.out (P / 8 % 4) w (by omega) (by omega) HT.out)
    have HV := hid (isV_list (x := P / 8 % 4) (y := P / 8 / 4 % 4) (by omega) (by omega) (by omega) (by omega))
    have z1 := itoa_size (n := P / 8 % 4) (by omega) (by omega)
    have z2 := itoa_size (n := P / 8 / 4 % 4) (by omega) (by omega)
    have HC2 := hid (fun w1 b1 => HI.out (P / 8 / 4 % 4) w1 (by omega) (by omega) (hL w HT.out w w1 HT.out b1))
    generalize baL (Lib.itoa (P / 8 % 4)) = s1 at HC HV z1
    generalize baL (Lib.itoa (P / 8 / 4 % 4)) = s2 at HC2 HV z2
    obtain ⟨a1, e1, y1, g1⟩ := cat_run ⟨#[91]⟩ s1 1 1 rfl z1 (by omega)
    obtain ⟨a2, e2, y2, g2⟩ := cat_run a1 ⟨#[44]⟩ 2 1 y1 rfl (by omega)
    obtain ⟨a3, e3, y3, g3⟩ := cat_run a2 s2 3 1 y2 z2 (by omega)
    obtain ⟨a4, e4, y4, g4⟩ := cat_run a3 ⟨#[93]⟩ 4 1 y3 rfl (by omega)
    rw [← e1, ← e2, ← e3, ← e4] at HV
    clear e1 e2 e3 e4 y1 y2 y3 y4 z1 z2
    go_wp2_with fail
    refine HC.out.mono ?_
    rintro e w1 ⟨rfl, b1⟩
    have HB := hid b1
    have HC3 := hid (HC2.out w1 b1)
    clear b1
    go_wp2_with fail
    refine HC3.out.mono ?_
    rintro e w2 ⟨rfl, b2⟩
    have HB2 := hid (HB.out.trans (b2.mono HB.out.size))
    clear b2
    go_wp2_with fail
    go_ret
    exact ⟨_, HV.out, rfl, HB2.out⟩
  · go_enter Tryz.func21, Tryz.ntmps21
    go_wp2_with fail
    refine HP1.out.mono ?_
    rintro e w ⟨rfl, rfl⟩
    go_wp2_with fail
    refine HP2.out.mono ?_
    rintro e w ⟨rfl, rfl⟩
    have HC := hid (HI.out (P / 8 % 4) w (by omega) (by omega) HT.out)
    have HV := hid (isV_obj (x := P / 8 % 4) (by omega) (by omega))
    have z1 := itoa_size (n := P / 8 % 4) (by omega) (by omega)
    generalize baL (Lib.itoa (P / 8 % 4)) = s1 at HC HV z1
    obtain ⟨a1, e1, y1, g1⟩ := cat_run ⟨#[123, 34, 98, 34, 58]⟩ s1 5 1 rfl z1 (by omega)
    obtain ⟨a2, e2, y2, g2⟩ := cat_run a1 ⟨#[125]⟩ 6 1 y1 rfl (by omega)
    rw [← e1, ← e2] at HV
    clear e1 e2 y1 y2 z1
    go_wp2_with fail
    refine HC.out.mono ?_
    rintro e w1 ⟨rfl, b1⟩
    have HB := hid b1
    clear b1
    go_wp2_with fail
    go_ret
    exact ⟨_, HV.out, rfl, HB.out⟩
  · obtain ⟨m, hm⟩ : ∃ m, P / 8 % 3 = m := ⟨_, rfl⟩
    obtain h | h | h : m = 0 ∨ m = 1 ∨ m = 2 := by omega
    all_goals
      subst h
      go_enter Tryz.func21, Tryz.ntmps21
      go_wp2_with fail
      refine HP1.out.mono ?_
      rintro e w ⟨rfl, rfl⟩
      go_wp2_with fail
      refine HP2.out.mono ?_
      rintro e w ⟨rfl, rfl⟩
      go_wp2_with fail
      go_ret
    · exact ⟨_, ⟨0, by omega, rfl⟩, rfl, (Below.refl _ _).alloc (Nat.le_refl _) _⟩
    · exact ⟨_, ⟨2, by omega, rfl⟩, rfl, (Below.refl _ _).alloc (Nat.le_refl _) _⟩
    · exact ⟨_, ⟨1, by omega, rfl⟩, rfl, (Below.refl _ _).alloc (Nat.le_refl _) _⟩
  · go_enter Tryz.func21, Tryz.ntmps21
    go_wp2_with fail
    refine HP1.out.mono ?_
    rintro e w ⟨rfl, rfl⟩
    go_wp2_with fail
    refine HP2.out.mono ?_
    rintro e w ⟨rfl, rfl⟩
    go_wp2_with fail
    go_ret
    exact ⟨_, ⟨15, by omega, rfl⟩, rfl, Below.refl _ _⟩
end Go.Proofs.YtknakfpciccoaaaGreatDoor
/- Places in values: slices.Index of names, elementOf, placeOf; order.Equal. -/
namespace Go.Proofs.YtknakfpciccoaaaGreatDoor
open Go.RowKit

/-- No list is long, however deep. -/
def smK : Nat → T → Prop
  | 0, _ => True
  | f + 1, t => nK t ≤ 1048576 ∧ nL t ≤ 1048576 ∧ (∀ i, i < nK t → (nam t i).size ≤ 4000) ∧ ∀ i, i < nL t → smK f (elt t i)
/-- Objects have a name for each entry, and no list is long, however deep. -/
def okA (t : T) : Prop := (∀ f, okK f t) ∧ ∀ f, smK f t
theorem okA.elt {t : T} (h : okA t) {i : Nat} (hi : i < nL t) : okA (elt t i) := ⟨fun f => (h.1 (f + 1)).2 i hi, fun f => (h.2 (f + 1)).2.2.2 i hi⟩
theorem okA.names {t : T} (h : okA t) (k : kindOf t = 6) : nK t = nL t := (h.1 1).1 k
theorem okA.small {t : T} (h : okA t) : nK t ≤ 1048576 ∧ nL t ≤ 1048576 := ⟨(h.2 1).1, (h.2 1).2.1⟩
theorem okA.nam {t : T} (h : okA t) {i : Nat} (hi : i < nK t) : (nam t i).size ≤ 4000 := (h.2 1).2.2.1 i hi
theorem nam_leA {t : T} : ∀ k, namesF t k = true → ∀ i, i < k → (nam t i).size ≤ 4000
  | 0, _, i, hi => absurd hi (by omega)
  | k + 1, h, i, hi => by
    simp only [namesF, Bool.and_eq_true, decide_eq_true_eq] at h
    by_cases e : i = k
    · subst e; exact h.2.2
    · exact nam_leA k h.1 i (by omega)
theorem bytes_posA : ∀ (m : Nat) (t : T), 1 ≤ bytesT m t := by
  have hl : ∀ t, 1 ≤ leafBytes t := fun t => by
    unfold leafBytes
    split
    · exact Nat.le_refl _
    · split
      · omega
      · split <;> omega
  intro m t
  cases m with
  | zero => exact hl t
  | succ m =>
    unfold bytesT
    split
    · omega
    · split
      · omega
      · exact hl t
theorem sumL_geA {g : T → Nat} {t : T} (hg : ∀ x, 1 ≤ g x) : ∀ k, k ≤ sumL g t k
  | 0 => Nat.zero_le _
  | k + 1 => by have := sumL_geA hg (t := t) k; have := hg (elt t k); rw [sumL]; omega
theorem sumL_oneA {g : T → Nat} {t : T} {i : Nat} : ∀ k, i < k → g (elt t i) ≤ sumL g t k
  | 0, h => by omega
  | k + 1, h => by
    rw [sumL]
    by_cases e : i = k
    · subst e; omega
    · have := sumL_oneA (g := g) (t := t) k (show i < k by omega); omega
theorem good_smK : ∀ (f m : Nat) (t : T), Good m t → bytesT m t ≤ 1048576 → smK f t
  | 0, _, _, _, _ => trivial
  | f + 1, 0, t, h, _ => ⟨by rw [h.2.1]; omega, by rw [h.1]; omega, fun i hi => by rw [h.2.1] at hi; omega, fun i hi => by rw [h.1] at hi; omega⟩
  | f + 1, m + 1, t, h, hb => by
    rcases h with h | ⟨_, _, he, hk⟩
    · exact ⟨by rw [h.2.1]; omega, by rw [h.1]; omega, fun i hi => by rw [h.2.1] at hi; omega, fun i hi => by rw [h.1] at hi; omega⟩
    · have hs := sumL_geA (g := bytesT m) (t := t) (bytes_posA m) (nL t)
      have hsum : sumL (bytesT m) t (nL t) ≤ 1048576 := by
        unfold bytesT at hb
        rcases hk with ⟨hk, _⟩ | ⟨hk, _⟩
        · rw [if_pos hk] at hb; omega
        · rw [if_neg (by omega), if_pos hk] at hb; omega
      refine ⟨?_, by omega, fun i hi => ?_, fun i hi => good_smK f m _ (he i hi) ?_⟩
      · rcases hk with ⟨_, hk⟩ | ⟨_, hk, _⟩ <;> omega
      · rcases hk with ⟨_, hk⟩ | ⟨_, _, hk, _⟩
        · omega
        · exact nam_leA _ hk i hi
      · have := sumL_oneA (g := bytesT m) (t := t) (nL t) hi; omega
theorem good_okA {m : Nat} {t : T} (h : Good m t) (hb : bytesT m t ≤ 1048576) : okA t := ⟨fun f => good_okK f m t h, fun f => good_smK f m t h hb⟩
/-- Texts in memory, one behind the other. -/
def StrsAt (w : World) (v : Value) (l : List ByteArray) : Prop :=
  ∃ (A : Option Addr) (c : Nat), v = .slice A l.length c ∧ l.length ≤ 8796093022208 ∧ ∀ i, i < l.length → ∃ b o, A = some ⟨b, o, none⟩ ∧ b < w.heap.size ∧ (l.getD i ByteArray.empty).size ≤ 140737488355328 ∧ w.cell? ⟨b, o + i, none⟩ = some (.string (l.getD i ByteArray.empty))
theorem StrsAt.keep {w w' : World} {v : Value} {l : List ByteArray} (h : StrsAt w v l) (hb : Below w.heap.size w w') : StrsAt w' v l := by
  obtain ⟨A, c, hv, hl, h⟩ := h
  refine ⟨A, c, hv, hl, fun i hi => ?_⟩
  obtain ⟨b, o, h0, h1, h2, h3⟩ := h i hi
  exact ⟨b, o, h0, Nat.lt_of_lt_of_le h1 hb.size, h2, (hb.cell (p := ⟨b, o + i, none⟩) h1).trans h3⟩
theorem names_strs {w : World} {Ka : Option Addr} {t : T} {Kc : Nat} (h : NamesAt w Ka t) (hn : nK t ≤ 8796093022208) : StrsAt w (.slice Ka (nK t) Kc) (kOf t) := ⟨Ka, Kc, rfl, hn, h⟩
/-- Where a text is first. -/
def idxL (x : ByteArray) : List ByteArray → Option Nat
  | [] => none
  | y :: l => if x = y then some 0 else (idxL x l).map (· + 1)
def idxI (o : Option Nat) : Int := match o with | some k => (k : Int) | none => -1
theorem idxL_lt {x : ByteArray} : ∀ {l : List ByteArray} {k : Nat}, idxL x l = some k → k < l.length
  | [], k, h => by cases h
  | y :: l, k, h => by
    rw [idxL] at h
    split at h
    · simp only [Option.some.injEq] at h; subst h; simp
    · cases hi : idxL x l with
      | none => rw [hi] at h; cases h
      | some j =>
        rw [hi] at h
        simp only [Option.map_some, Option.some.injEq] at h
        have := idxL_lt hi
        simp only [List.length_cons]
        omega
theorem idxL_drop_eq {x : ByteArray} {l : List ByteArray} {k : Nat} (h : k < l.length) (e : x = l.getD k ByteArray.empty) : idxL x (l.drop k) = some 0 := by
  rw [List.drop_eq_getElem_cons h, idxL, if_pos (by rw [e]; simp [List.getD_eq_getElem?_getD, h])]
theorem idxL_drop_ne {x : ByteArray} {l : List ByteArray} {k : Nat} (h : k < l.length) (e : x ≠ l.getD k ByteArray.empty) : idxL x (l.drop k) = (idxL x (l.drop (k + 1))).map (· + 1) := by
  rw [List.drop_eq_getElem_cons h, idxL, if_neg (by intro e2; apply e; rw [e2]; simp [List.getD_eq_getElem?_getD, h])]
theorem str_beq (a b : ByteArray) : (a.toList == b.toList) = decide (a = b) := by
  by_cases h : a = b
  · subst h; simp
  · rw [decide_eq_false h, beq_eq_false_iff_ne]
    exact fun e => h ((toList_eq_iff a b).1 e)
set_option maxHeartbeats 4000000 in
set_option maxRecDepth 100000 in
theorem index_any (v : Value) (l : List ByteArray) (x : ByteArray) (w : World) (h : StrsAt w v l) :
    Calls Tryz.prog 159 #[v, .string x] w fun e w' => e = .returned (.int .i64 (idxI (idxL x l))) ∧ w' = w := by
  obtain ⟨A, c, rfl, hl, h⟩ := h
  have H := hid h
  clear h
  go_enter Tryz.func159, Tryz.ntmps159
  go_wp2_with fail
  go_loopg [8] (l.length) (fun g i wr => ∃ k : Nat, g = l.length - k ∧ k ≤ l.length ∧ i = .int .i64 k ∧ wr = w ∧ Hid (idxL x l = (idxL x (l.drop k)).map (· + k)))
  case atStart => exact ⟨0, rfl, Nat.zero_le _, rfl, rfl, by show _ = _; simp⟩
  case round =>
    obtain ⟨k, rfl, hk, rfl, rfl, HE⟩ := hrel
    by_cases hlt : k < l.length
    · obtain ⟨b, o, rfl, hb, hs, hc⟩ := H.out k hlt
      by_cases he : x = l.getD k ByteArray.empty
      · have HD := hid (idxL_drop_eq hlt he)
        have HR : Hid (idxL x l = some k) := by show _ = _; rw [HE.out, HD.out]; simp
        rw [← he] at hc
        clear he hs
        go_wp2_with fail
        go_ret
        exact ⟨ret_int (by rw [HR.out]; rfl), rfl⟩
      · have HD := hid (idxL_drop_ne hlt he)
        have e0 : (x.toList == (l.getD k ByteArray.empty).toList) = false := by rw [str_beq]; exact decide_eq_false he
        generalize l.getD k ByteArray.empty = y at hc e0
        clear he hs
        go_wp2_with fail
        go_roundg (l.length - (k + 1))
        case rel => exact ⟨k + 1, rfl, by omega, by go_num, rfl, by show _ = _; rw [HE.out, HD.out, Option.map_map]; congr 1; funext j; show j + 1 + k = j + (k + 1); omega⟩
        case measure => omega
    · obtain rfl : k = l.length := by omega
      have HR : Hid (idxL x l = none) := by show _ = _; rw [HE.out, List.drop_length]; rfl
      go_wp2_with fail
      go_ret
      exact ⟨ret_int (by rw [HR.out]; rfl), rfl⟩
/-- strconv.Atoi, of any text. -/
def AtoiSaid (Tb : World → Prop) : Prop := ∀ (s : ByteArray) (w : World), s.size ≤ 140737488355328 → Tb w → Calls Tryz.prog 345 #[.string s] w fun e w' => Below w.heap.size w w' ∧ ((∃ v : Int, Lib.atoiAll s.data.toList = .ok v ∧ e = .returned (.tuple #[.int .i64 v, .nilIface])) ∨ ((∀ v, Lib.atoiAll s.data.toList ≠ .ok v) ∧ ∃ n te pe, e = .returned (.tuple #[.int .i64 n, .iface te pe])))
def elN (x : ByteArray) (n : Nat) : Option Nat := match Lib.atoiAll x.data.toList with
  | .ok v => if 0 ≤ v ∧ v < n ∧ baL (Lib.itoa v) = x then some v.toNat else none
  | _ => none
theorem elN_ok {x : ByteArray} {n : Nat} {v : Int} (h : Lib.atoiAll x.data.toList = .ok v) : elN x n = if 0 ≤ v ∧ v < n ∧ baL (Lib.itoa v) = x then some v.toNat else none := by unfold elN; rw [h]
theorem elN_no {x : ByteArray} {n : Nat} (h : ∀ v, Lib.atoiAll x.data.toList ≠ .ok v) : elN x n = none := by
  unfold elN
  cases ha : Lib.atoiAll x.data.toList with
  | ok v => exact absurd ha (h v)
  | «syntax» => rfl
  | range => rfl
theorem elN_lt {x : ByteArray} {n k : Nat} (h : elN x n = some k) : k < n := by
  unfold elN at h
  split at h
  · split at h
    · simp only [Option.some.injEq] at h; omega
    · cases h
  · cases h
set_option maxHeartbeats 4000000 in
set_option maxRecDepth 100000 in
theorem elementOf_any {Tb : World → Prop} (hA : AtoiSaid Tb) (hI : ItoaSaid Tb) (hL : Lies Tb) (x : ByteArray) (n : Nat) (w : World) (hx : x.size ≤ 140737488355328) (hn : n ≤ 1759218604442) (hT : Tb w) :
    Calls Tryz.prog 341 #[.string x, .int .i64 n] w fun e w' => e = .returned (.int .i64 (idxI (elN x n))) ∧ Below w.heap.size w w' := by
  have HA := hid (hA x w hx hT)
  have HI := hid hI
  have HT := hid hT
  have HL := hid hL
  clear hA hI hT hL
  go_enter Tryz.func341, Tryz.ntmps341
  go_wp2_with fail
  refine HA.out.mono ?_
  rintro e w1 ⟨b1, ⟨v, hv, rfl⟩ | ⟨hv, m, te, pe, rfl⟩⟩
  · have HB := hid b1
    have HE := hid (elN_ok (n := n) hv)
    clear b1 HA hv
    by_cases h0 : v < 0
    · have HR : Hid (elN x n = none) := by show _ = _; rw [HE.out, if_neg (by omega)]
      go_wp2_with fail
      go_ret
      exact ⟨ret_int (by rw [HR.out]; rfl), HB.out⟩
    · by_cases h1 : (n : Int) ≤ v
      · have HR : Hid (elN x n = none) := by show _ = _; rw [HE.out, if_neg (by omega)]
        have h0' : (0 : Int) ≤ v := by omega
        clear h0
        go_wp2_with fail
        go_ret
        exact ⟨ret_int (by rw [HR.out]; rfl), HB.out⟩
      · have h0' : (0 : Int) ≤ v := by omega
        have h1' : v < (n : Int) := by omega
        have HC := hid (HI.out v w1 (by omega) (by omega) (HL.out w HT.out _ _ HT.out HB.out))
        clear h0 h1
        by_cases h2 : baL (Lib.itoa v) = x
        · have HR : Hid (elN x n = some v.toNat) := by show _ = _; rw [HE.out, if_pos ⟨h0', h1', h2⟩]
          rw [h2] at HC
          clear h2
          go_wp2_with fail
          refine HC.out.mono ?_
          rintro e w2 ⟨rfl, b2⟩
          have HB2 := hid (HB.out.trans (b2.mono HB.out.size))
          clear b2
          go_wp2_with fail
          go_ret
          exact ⟨ret_int (by rw [HR.out]; show v = (v.toNat : Int); omega), HB2.out⟩
        · have HR : Hid (elN x n = none) := by show _ = _; rw [HE.out, if_neg (fun h => h2 h.2.2)]
          have e2 : ((baL (Lib.itoa v)).toList == x.toList) = false := by rw [str_beq]; exact decide_eq_false h2
          generalize baL (Lib.itoa v) = y at HC e2 h2
          clear h2
          go_wp2_with fail
          refine HC.out.mono ?_
          rintro e w2 ⟨rfl, b2⟩
          have HB2 := hid (HB.out.trans (b2.mono HB.out.size))
          clear b2
          go_wp2_with fail
          go_ret
          exact ⟨ret_int (by rw [HR.out]; rfl), HB2.out⟩
  · have HB := hid b1
    have HR := hid (elN_no (n := n) hv)
    clear b1 HA hv
    go_wp2_with fail
    go_ret
    exact ⟨ret_int (by rw [HR.out]; rfl), HB.out⟩
/-- Where a value goes on by a name. -/
def plc (x : ByteArray) (t : T) : Option Nat := if kindOf t = 6 then idxL x (kOf t) else if kindOf t = 5 then elN x (nL t) else none
set_option maxHeartbeats 4000000 in
set_option maxRecDepth 100000 in
theorem placeOf_any {Tb : World → Prop} (hA : AtoiSaid Tb) (hI : ItoaSaid Tb) (hL : Lies Tb) (x : ByteArray) (f : Nat) (v : Value) (t : T) (w : World) (hx : x.size ≤ 140737488355328) (h : At w f v t) (hT : Tb w) :
    Calls Tryz.prog 338 #[.string x, v] w fun e w' => e = .returned (.int .i64 (idxI (plc x t))) ∧ Below w.heap.size w w' := by
  obtain ⟨g, La, Ka, Lc, Kc, rfl, rfl, hf, hl, hk⟩ := h.open
  have HB1 : Hid (Below w.heap.size w (w.alloc (.cells #[.int .i64 (kindOf t), .int .i64 (nOf t), .string (sOf t), .slice La (nL t) Lc, .slice Ka (nK t) Kc] 25))) := (Below.refl _ _).alloc (Nat.le_refl _) _
  have HS := hid ((names_strs (Kc := Kc) hk.out hf.m1).keep HB1.out)
  have HE := hid (elementOf_any hA hI hL x (nL t) _ hx hf.l1 (hL w hT _ _ hT HB1.out))
  clear h hf hl hk hT hA hI hL
  by_cases k6 : kindOf t = 6
  · have e6 : (kindOf t == 6) = true := by simpa using k6
    have HP : Hid (plc x t = idxL x (kOf t)) := by show _ = _; unfold plc; rw [if_pos k6]
    clear k6
    go_enter Tryz.func338, Tryz.ntmps338
    go_wp2_with fail
    refine (index_any _ _ x _ HS.out).mono ?_
    rintro e w2 ⟨rfl, rfl⟩
    go_wp2_with fail
    go_ret
    exact ⟨ret_int (by rw [HP.out]), HB1.out⟩
  · have e6 : (kindOf t == 6) = false := by simpa using k6
    by_cases k5 : kindOf t = 5
    · have e5 : (kindOf t == 5) = true := by simpa using k5
      have HP : Hid (plc x t = elN x (nL t)) := by show _ = _; unfold plc; rw [if_neg k6, if_pos k5]
      clear k5 k6
      go_enter Tryz.func338, Tryz.ntmps338
      go_wp2_with fail
      refine HE.out.mono ?_
      rintro e w2 ⟨rfl, b2⟩
      have HB2 := hid (HB1.out.trans (b2.mono HB1.out.size))
      clear b2
      go_wp2_with fail
      go_ret
      exact ⟨ret_int (by rw [HP.out]), HB2.out⟩
    · have e5 : (kindOf t == 5) = false := by simpa using k5
      have HP : Hid (plc x t = none) := by show _ = _; unfold plc; rw [if_neg k6, if_neg k5]
      clear k5 k6
      go_enter Tryz.func338, Tryz.ntmps338
      go_wp2_with fail
      go_ret
      exact ⟨ret_int (by rw [HP.out]; rfl), HB1.out⟩
set_option maxHeartbeats 4000000 in
set_option maxRecDepth 100000 in
theorem equal_any (f g : Nat) (va vb : Value) (a b : T) (w : World) (h : At w f va a) (h' : At w g vb b) (ka : okK f a) (kb : okK f b) :
    Calls Tryz.prog 158 #[va, vb] w fun e w' => e = .returned (.bool (cmpT f a b == 0)) ∧ Below w.heap.size w w' := by
  have HA := hid h
  have HA' := hid h'
  have HK := hid ka
  have HK' := hid kb
  obtain ⟨f1, La, Ka, Lc, Kc, hf1, rfl, hf, hl, hk⟩ := h.open
  obtain ⟨g1, Ma, Na, Mc, Nc, hg1, rfl, hf', hl', hk'⟩ := h'.open
  clear h h' hf hf' hf1 hg1 hl hk hl' hk' ka kb
  have HB1 : Hid (Below w.heap.size w ((w.alloc (.cells #[.int .i64 (kindOf a), .int .i64 (nOf a), .string (sOf a), .slice La (nL a) Lc, .slice Ka (nK a) Kc] 25)).alloc (.cells #[.int .i64 (kindOf b), .int .i64 (nOf b), .string (sOf b), .slice Ma (nL b) Mc, .slice Na (nK b) Nc] 25))) := ((Below.refl _ _).alloc (Nat.le_refl _) _).alloc (by simp) _
  have HC := hid (compare_any f g _ _ a b _ (HA.out.keep HB1.out) (HA'.out.keep HB1.out) HK.out HK'.out)
  generalize cmpT f a b = n at HC
  go_enter Tryz.func158, Tryz.ntmps158
  go_wp2_with fail
  refine HC.out.mono ?_
  rintro e w2 ⟨rfl, b2⟩
  have HB2 := hid (HB1.out.trans (b2.mono HB1.out.size))
  clear b2
  go_wp2_with fail
  go_ret
  exact ⟨rfl, HB2.out⟩
end Go.Proofs.YtknakfpciccoaaaGreatDoor
/- The walks of cells, vast and room. -/
namespace Go.Proofs.YtknakfpciccoaaaGreatDoor
open Go.RowKit

set_option maxHeartbeats 400000 in
theorem cells_any (m : Nat) : ∀ (f : Nat) (v : Value) (t : T) (l : Int) (w : World), At w f v t → m ≤ 100 → 0 ≤ l → l ≤ 1048576 →
    Calls Tryz.prog 39 #[v, .int .i64 l, .int .i64 m] w fun e w' => e = .returned (.int .i64 (cellsT m t l)) ∧ Below w.heap.size w w' ∧ -17592186044416 ≤ cellsT m t l ∧ cellsT m t l ≤ 1048576 := by
  induction m with
  | zero =>
    intro f v t l w h _ hl0 hl1
    obtain ⟨f, La, Ka, Lc, Kc, rfl, rfl, hf, hl, hk⟩ := h.open
    have hlen := hf.l1
    have klen := hf.m1
    clear h hf hl hk
    go_enter Tryz.func39, Tryz.ntmps39
    go_wp2_with fail
    go_loopg [1, 7] 1 (fun g x i wr => x = .int .i64 (l - nL t - nK t) ∧ i = .int .i64 0 ∧ wr = (w.alloc (.cells #[.int .i64 (kindOf t), .int .i64 (nOf t), .string (sOf t), .slice La (nL t) Lc, .slice Ka (nK t) Kc] 25)))
    case atStart => exact ⟨rfl, rfl, rfl⟩
    case round =>
      obtain ⟨rfl, rfl, rfl⟩ := hrel
      by_cases h1 : 0 < nL t
      · by_cases h2 : 0 ≤ l - nL t - nK t
        · go_wp2_with fail
          go_ret
          exact ⟨rfl, (Below.refl _ _).alloc (Nat.le_refl _) _, by simp only [cellsT]; omega, by simp only [cellsT]; omega⟩
        · go_wp2_with fail
          go_ret
          exact ⟨rfl, (Below.refl _ _).alloc (Nat.le_refl _) _, by simp only [cellsT]; omega, by simp only [cellsT]; omega⟩
      · go_wp2_with fail
        go_ret
        exact ⟨rfl, (Below.refl _ _).alloc (Nat.le_refl _) _, by simp only [cellsT]; omega, by simp only [cellsT]; omega⟩
  | succ m ih =>
    intro f v t l w h hm hl0 hl1
    obtain ⟨f, La, Ka, Lc, Kc, rfl, rfl, hf, hl, hk⟩ := h.open
    have hlen := hf.l1
    have klen := hf.m1
    clear h hf hk
    have hm1 : (0 : Int) < (m : Int) + 1 := by omega
    have em : ((m : Int) + 1 - 1) = (m : Int) := by omega
    have H0 : Hid (cellsT (m + 1) t l = cellsL (cellsT m) t (nL t) (l - nL t - nK t)) := rfl
    go_enter Tryz.func39, Tryz.ntmps39
    go_wp2_with fail
    go_loopg [1, 7] (nL t) (fun g y i wr => ∃ (k : Nat) (x : Int), g = nL t - k ∧ k ≤ nL t ∧ y = .int .i64 x ∧ i = .int .i64 k ∧ Hid (cellsL (cellsT m) t k (l - nL t - nK t) = x) ∧ -17592186044416 ≤ x ∧ x ≤ 1048576 ∧ Below (w.heap.size + 1) (w.alloc (.cells #[.int .i64 (kindOf t), .int .i64 (nOf t), .string (sOf t), .slice La (nL t) Lc, .slice Ka (nK t) Kc] 25)) wr)
    case atStart => exact ⟨0, _, rfl, Nat.zero_le _, rfl, rfl, rfl, by omega, by omega, Below.refl _ _⟩
    case round =>
      obtain ⟨k, x, rfl, hk, rfl, rfl, HX, hx0, hx1, hb⟩ := hrel
      obtain ⟨q0, q1, q2, q3, q4, hz, hbw⟩ := box_facts hb
      have Hb := hid hb
      clear hb
      by_cases hlt : k < nL t
      · by_cases hge : 0 ≤ x
        · obtain ⟨b, o, c0, c1, c2, c3, c4, rfl, hbl, p0, p1, p2, p3, p4, Ha⟩ := hl.out.keep hbw k hlt
          go_wp2_with fail
          refine (ih _ _ _ _ _ Ha.out (by omega) hge hx1).mono ?_
          rintro e w2 ⟨rfl, hb2, y0, y1⟩
          have hb3 := hid (Hb.out.trans (hb2.mono (by omega)))
          go_wp2_with fail
          go_roundg (nL t - (k + 1))
          case rel =>
            refine ⟨k + 1, _, rfl, by omega, rfl, by go_num, ?_, y0, y1, hb3.out⟩
            show (if 0 ≤ cellsL (cellsT m) t k (l - nL t - nK t) then cellsT m (elt t k) (cellsL (cellsT m) t k (l - nL t - nK t)) else cellsL (cellsT m) t k (l - nL t - nK t)) = _
            rw [HX.out, if_pos hge]
          case measure => omega
        · go_wp2_with fail
          go_ret
          have e : cellsT (m + 1) t l = x := by rw [H0.out, cellsL_stop hk (by rw [HX.out]; omega), HX.out]
          exact ⟨ret_int e.symm, hbw, by rw [e]; exact hx0, by rw [e]; exact hx1⟩
      · go_wp2_with fail
        go_ret
        have e : cellsT (m + 1) t l = x := by rw [H0.out, ← HX.out]; congr 1; omega
        exact ⟨ret_int e.symm, hbw, by rw [e]; exact hx0, by rw [e]; exact hx1⟩

def vastT (t : T) : Bool := decide (cellsT 16 t 1048576 < 0)
set_option maxHeartbeats 400000 in
theorem vast_any (f : Nat) (v : Value) (t : T) (w : World) (h : At w f v t) :
    Calls Tryz.prog 12 #[v] w fun e w' => e = .returned (.bool (vastT t)) ∧ Below w.heap.size w w' := by
  obtain ⟨f, La, Ka, Lc, Kc, rfl, rfl, hf, hl, hk⟩ := h.open
  have H := hid h
  clear h
  go_enter Tryz.func12, Tryz.ntmps12
  go_wp2_with fail
  have hb : Below w.heap.size w (w.alloc (.cells #[.int .i64 (kindOf t), .int .i64 (nOf t), .string (sOf t), .slice La (nL t) Lc, .slice Ka (nK t) Kc] 25)) := (Below.refl _ _).alloc (Nat.le_refl _) _
  refine (cells_any 16 _ _ _ _ _ (H.out.keep hb) (by omega) (by omega) (by omega)).mono ?_
  rintro e w2 ⟨rfl, hb2, y0, y1⟩
  have hb3 := hid (hb.trans (hb2.mono (by simp)))
  generalize hv : cellsT 16 t 1048576 = X at y0 y1 ⊢
  have Hv := hid hv
  clear hv
  go_wp2_with fail
  go_ret
  exact ⟨ret_bool (by unfold vastT; rw [Hv.out]), hb3.out⟩

set_option maxHeartbeats 400000 in
theorem room_any (m : Nat) : ∀ (f : Nat) (v : Value) (t : T) (l : Int) (w : World), At w f v t → m ≤ 100 → -140737488355330 ≤ l → l ≤ 1048576 →
    Calls Tryz.prog 80 #[v, .int .i64 l, .int .i64 ((m : Int) - 1)] w fun e w' => e = .returned (.int .i64 (roomT m t l)) ∧ Below w.heap.size w w' ∧ -281474976710700 ≤ roomT m t l ∧ roomT m t l ≤ 1048576 := by
  induction m with
  | zero =>
    intro f v t l w h _ hl0 hl1
    obtain ⟨f, La, Ka, Lc, Kc, rfl, rfl, hf, hl, hk⟩ := h.open
    clear h hf hl hk
    go_enter Tryz.func80, Tryz.ntmps80
    go_wp2_with fail
    go_ret
    exact ⟨rfl, (Below.refl _ _).alloc (Nat.le_refl _) _, by simp [roomT], by simp [roomT]⟩
  | succ m ih =>
    intro f v t l w h hm hl0 hl1
    obtain ⟨f, La, Ka, Lc, Kc, rfl, rfl, hf, hl, hk⟩ := h.open
    have hlen := hf.l1
    have klen := hf.m1
    have slen := hf.s1
    clear h hf
    have em : (((m + 1 : Nat) : Int) - 1) = (m : Int) := by omega
    rw [em]
    have e0 : ¬ ((m : Int) < 0) := by omega
    by_cases k2 : kindOf t = 2
    · have g2 : (kindOf t == 2) = true := by simp [k2]
      have H0 : Hid (roomT (m + 1) t l = l - 2) := by show roomT (m + 1) t l = _; simp only [roomT, k2, if_true]
      clear k2
      go_enter Tryz.func80, Tryz.ntmps80
      go_wp2_with fail
      go_ret
      refine ⟨ret_int (by rw [H0.out]; omega), (Below.refl _ _).alloc (Nat.le_refl _) _, by rw [H0.out]; omega, by rw [H0.out]; omega⟩
    by_cases k3 : kindOf t = 3
    · have g2 : (kindOf t == 2) = false := by simp [k3]
      have g3 : (kindOf t == 3) = true := by simp [k3]
      have H0 : Hid (roomT (m + 1) t l = l - 9) := by show roomT (m + 1) t l = _; simp [roomT, k3]
      clear k2 k3
      go_enter Tryz.func80, Tryz.ntmps80
      go_wp2_with fail
      go_ret
      refine ⟨ret_int (by rw [H0.out]; omega), (Below.refl _ _).alloc (Nat.le_refl _) _, by rw [H0.out]; omega, by rw [H0.out]; omega⟩
    by_cases k4 : kindOf t = 4
    · have g2 : (kindOf t == 2) = false := by simp [k4]
      have g3 : (kindOf t == 3) = false := by simp [k4]
      have g4 : (kindOf t == 4) = true := by simp [k4]
      have H0 : Hid (roomT (m + 1) t l = l - 5 - (sOf t).size) := by show roomT (m + 1) t l = _; simp [roomT, k4]
      clear k2 k3 k4
      go_enter Tryz.func80, Tryz.ntmps80
      go_wp2_with fail
      go_ret
      refine ⟨ret_int (by rw [H0.out]; omega), (Below.refl _ _).alloc (Nat.le_refl _) _, by rw [H0.out]; omega, by rw [H0.out]; omega⟩
    by_cases k5 : isBox t = true
    · have g2 : (kindOf t == 2) = false := by simp [k2]
      have g3 : (kindOf t == 3) = false := by simp [k3]
      have g4 : (kindOf t == 4) = false := by simp [k4]
      have H0 : Hid (roomT (m + 1) t l = roomL (roomT m) t (nL t) (l - 5)) := by show roomT (m + 1) t l = _; simp [roomT, k2, k3, k4, k5]
      have K6 : Hid (kindOf t = 6 ↔ (kindOf t == 6) = true) := by simp [Hid]
      have g5 : (kindOf t == 5) = true ∧ (kindOf t == 6) = false ∨ (kindOf t == 5) = false ∧ (kindOf t == 6) = true := by
        simp only [isBox, Bool.or_eq_true, beq_iff_eq] at k5
        rcases k5 with h5 | h5 <;> simp [h5]
      clear k2 k3 k4 k5
      rcases g5 with ⟨g5, g6⟩ | ⟨g5, g6⟩
      all_goals
        go_enter Tryz.func80, Tryz.ntmps80
        go_wp2_with fail
        go_loopg [1, 7] (nL t) (fun g y i wr => ∃ (k : Nat) (x : Int), g = nL t - k ∧ k ≤ nL t ∧ y = .int .i64 x ∧ i = .int .i64 k ∧ Hid (roomL (roomT m) t k (l - 5) = x) ∧ -281474976710700 ≤ x ∧ x ≤ 1048576 ∧ Below (w.heap.size + 1) (w.alloc (.cells #[.int .i64 (kindOf t), .int .i64 (nOf t), .string (sOf t), .slice La (nL t) Lc, .slice Ka (nK t) Kc] 25)) wr)
        case atStart => exact ⟨0, l - 5, rfl, Nat.zero_le _, by go_num, rfl, rfl, by omega, by omega, Below.refl _ _⟩
        case round =>
          obtain ⟨k, x, rfl, hk1, rfl, rfl, HX, hx0, hx1, hb⟩ := hrel
          obtain ⟨q0, q1, q2, q3, q4, hz, hbw⟩ := box_facts hb
          have Hb := hid hb
          clear hb
          by_cases hlt : k < nL t
          · by_cases hge : 0 ≤ x
            · obtain ⟨b, o, c0, c1, c2, c3, c4, rfl, hbl, p0, p1, p2, p3, p4, Ha⟩ := hl.out.keep hbw k hlt
              have fin : ∀ (y : Int), Hid (x - nameCost t k = y) → Hid (roomL (roomT m) t (k + 1) (l - 5) = roomT m (elt t k) y) := by
                intro y hy
                show (if 0 ≤ roomL (roomT m) t k (l - 5) then roomT m (elt t k) (roomL (roomT m) t k (l - 5) - nameCost t k) else roomL (roomT m) t k (l - 5)) = _
                rw [HX.out, if_pos hge, hy.out]
              by_cases hkk : k < nK t
              · obtain ⟨kb, ko, rfl, hkb, hks, hkc⟩ := hk.out.keep hbw k hkk
                go_wp2_with fail
                refine (ih _ _ _ _ _ Ha.out (by omega) (by omega) (by omega)).mono ?_
                rintro e w2 ⟨rfl, hb2, y0, y1⟩
                have hb3 := hid (Hb.out.trans (hb2.mono (by omega)))
                go_wp2_with fail
                go_roundg (nL t - (k + 1))
                case rel =>
                  refine ⟨k + 1, _, rfl, by omega, rfl, by go_num, fin _ ?_, y0, y1, hb3.out⟩
                  show x - nameCost t k = _
                  unfold nameCost
                  first
                    | (rw [if_neg (fun h => by have := K6.out.1 h.1; rw [g6] at this; cases this)]; omega)
                    | (rw [if_pos ⟨K6.out.2 g6, hkk⟩]; omega)
                case measure => omega
              · go_wp2_with fail
                refine (ih _ _ _ _ _ Ha.out (by omega) (by omega) (by omega)).mono ?_
                rintro e w2 ⟨rfl, hb2, y0, y1⟩
                have hb3 := hid (Hb.out.trans (hb2.mono (by omega)))
                go_wp2_with fail
                go_roundg (nL t - (k + 1))
                case rel =>
                  refine ⟨k + 1, _, rfl, by omega, rfl, by go_num, fin _ ?_, y0, y1, hb3.out⟩
                  show x - nameCost t k = _
                  unfold nameCost
                  rw [if_neg (fun h => hkk h.2)]
                  omega
                case measure => omega
            · go_wp2_with fail
              go_ret
              have e : roomT (m + 1) t l = x := by rw [H0.out, roomL_stop hk1 (by rw [HX.out]; omega), HX.out]
              exact ⟨ret_int e.symm, hbw, by rw [e]; exact hx0, by rw [e]; exact hx1⟩
          · go_wp2_with fail
            go_ret
            have e : roomT (m + 1) t l = x := by rw [H0.out, ← HX.out]; congr 1; omega
            exact ⟨ret_int e.symm, hbw, by rw [e]; exact hx0, by rw [e]; exact hx1⟩
    · have g2 : (kindOf t == 2) = false := by simp [k2]
      have g3 : (kindOf t == 3) = false := by simp [k3]
      have g4 : (kindOf t == 4) = false := by simp [k4]
      have H0 : Hid (roomT (m + 1) t l = l - 1) := by show roomT (m + 1) t l = _; simp [roomT, k2, k3, k4, k5]
      have g5 : (kindOf t == 5) = false ∧ (kindOf t == 6) = false := by simp [isBox] at k5; simp; exact k5
      obtain ⟨g5, g6⟩ := g5
      clear k2 k3 k4 k5
      go_enter Tryz.func80, Tryz.ntmps80
      go_wp2_with fail
      go_ret
      refine ⟨ret_int (by rw [H0.out]), (Below.refl _ _).alloc (Nat.le_refl _) _, by rw [H0.out]; omega, by rw [H0.out]; omega⟩
end Go.Proofs.YtknakfpciccoaaaGreatDoor
/- A box of a value in memory. -/
namespace Go.Proofs.YtknakfpciccoaaaGreatDoor
open Go.RowKit

/-- Five cells of a block. -/
def Box (w : World) (b : Nat) (c0 c1 c2 c3 c4 : Value) : Prop := (w.cell? ⟨b, 0, none⟩ = some c0 ∧ w.cell? ⟨b, 1, none⟩ = some c1 ∧ w.cell? ⟨b, 2, none⟩ = some c2 ∧ w.cell? ⟨b, 3, none⟩ = some c3 ∧ w.cell? ⟨b, 4, none⟩ = some c4) ∧ b < w.heap.size
theorem Box.keep {w w' : World} {b : Nat} {c0 c1 c2 c3 c4 : Value} (h : Box w b c0 c1 c2 c3 c4) (hb : Below w.heap.size w w') : Box w' b c0 c1 c2 c3 c4 := by
  obtain ⟨⟨a0, a1, a2, a3, a4⟩, hl⟩ := h
  exact ⟨⟨(hb.cell (p := ⟨b, 0, none⟩) hl).trans a0, (hb.cell (p := ⟨b, 1, none⟩) hl).trans a1, (hb.cell (p := ⟨b, 2, none⟩) hl).trans a2, (hb.cell (p := ⟨b, 3, none⟩) hl).trans a3, (hb.cell (p := ⟨b, 4, none⟩) hl).trans a4⟩, Nat.lt_of_lt_of_le hl hb.size⟩
theorem Box.made (w : World) (c0 c1 c2 c3 c4 : Value) : Box (w.alloc (.cells #[c0, c1, c2, c3, c4] 25)) w.heap.size c0 c1 c2 c3 c4 := by
  refine ⟨⟨?_, ?_, ?_, ?_, ?_⟩, by simp⟩ <;> simp [go_sem]
theorem below_alloc (w : World) (o : Obj) : Below w.heap.size w (w.alloc o) := (Below.refl _ _).alloc (Nat.le_refl _) _
end Go.Proofs.YtknakfpciccoaaaGreatDoor
