import Derived.Test.YtknakfpciccoaaaGreatDoorZD27
/- The documents that the statements make, as trees. -/
namespace Go.Proofs.YtknakfpciccoaaaGreatDoor
open Go.RowKit

def docT (id : Int) (i : Nat) (o : Option Nat) : T := match o with
  | none => mkT 6 0 ByteArray.empty [nT id, tv i] [⟨#[95, 105, 100]⟩, ⟨#[97]⟩]
  | some j => mkT 6 0 ByteArray.empty [nT id, tv i, tv j] [⟨#[95, 105, 100]⟩, ⟨#[97]⟩, ⟨#[99]⟩]
theorem vt_print11 : ((List.range 36).all fun i => decide (wrT 11 (tv i) = (vt i).data.toList)) = true := by kernel_rfl
theorem vt_wr11 {i : Nat} (h : i < 36) : wrT 11 (tv i) = (vt i).data.toList := of_decide_eq_true (List.all_eq_true.1 vt_print11 i (List.mem_range.2 h))
theorem nT_wr (n : Int) : wrT 11 (nT n) = Lib.itoa n := by
  rw [wrT_leaf (by show (3 : Int) ≠ 5; decide) (by show (3 : Int) ≠ 6; decide)]
  rfl
theorem ba_list {s : ByteArray} {l : List UInt8} (h : s.data.toList = l) : s = baL l := by
  apply (data_eq_iff _ _).1
  rw [h]
  simp [baL]
theorem app_list (a b : ByteArray) : (a ++ b).data.toList = a.data.toList ++ b.data.toList := by simp
theorem qId : quoL ⟨#[95, 105, 100]⟩ = [34, 95, 105, 100, 34] := by kernel_rfl
theorem qA : quoL ⟨#[97]⟩ = [34, 97, 34] := by kernel_rfl
theorem qC : quoL ⟨#[99]⟩ = [34, 99, 34] := by kernel_rfl
theorem docS_wr {id : Int} {i : Nat} {o : Option Nat} (hi : i < 36) (ho : ∀ j, o = some j → j < 36) : docS id i o = baL (wrT 12 (docT id i o)) := by
  apply ba_list
  cases o with
  | none =>
    have e : wrT 12 (docT id i none) = 123 :: ((([] ++ ([] ++ (quoL ⟨#[95, 105, 100]⟩ ++ (58 :: wrT 11 (nT id))))) ++ ([44] ++ (quoL ⟨#[97]⟩ ++ (58 :: wrT 11 (tv i))))) ++ [125]) := rfl
    rw [e, vt_wr11 hi, nT_wr, qId, qA]
    unfold docS docA
    simp only [app_list]
    simp [baL]
  | some j =>
    have e : wrT 12 (docT id i (some j)) = 123 :: (((([] ++ ([] ++ (quoL ⟨#[95, 105, 100]⟩ ++ (58 :: wrT 11 (nT id))))) ++ ([44] ++ (quoL ⟨#[97]⟩ ++ (58 :: wrT 11 (tv i))))) ++ ([44] ++ (quoL ⟨#[99]⟩ ++ (58 :: wrT 11 (tv j))))) ++ [125]) := rfl
    rw [e, vt_wr11 hi, vt_wr11 (ho j rfl), nT_wr, qId, qA, qC]
    unfold docS docA
    simp only [app_list]
    simp [baL]
/-- Numbers and lengths fit, as a test. -/
def fitB : Nat → T → Bool
  | 0, _ => false
  | f + 1, t => (decide (-9223372036854775808 ≤ kindOf t) && decide (kindOf t ≤ 9223372036854775807) && decide (-9223372036854775808 ≤ nOf t) && decide (nOf t ≤ 9223372036854775807) && decide ((sOf t).size ≤ 140737488355328) && decide (nL t ≤ 1759218604442) && decide (nK t ≤ 8796093022208)) && ((List.range (nL t)).all fun i => fitB f (elt t i)) && ((List.range (nK t)).all fun i => decide ((nam t i).size ≤ 140737488355328))
theorem fitB_fit : ∀ (f : Nat) (t : T), fitB f t = true → FitT f t
  | 0, _, h => by cases h
  | f + 1, t, h => by
    unfold fitB at h
    simp only [Bool.and_eq_true, decide_eq_true_eq, List.all_eq_true, List.mem_range] at h
    obtain ⟨⟨⟨⟨⟨⟨⟨⟨h1, h2⟩, h3⟩, h4⟩, h5⟩, h6⟩, h7⟩, h8⟩, h9⟩ := h
    exact ⟨⟨h1, h2, h3, h4, h5, h6, h7⟩, fun i hi => fitB_fit f _ (h8 i hi), h9⟩
theorem tv_fitB : ((List.range 36).all fun i => fitB 3 (tv i)) = true := by kernel_rfl
theorem tv_fit {i : Nat} (h : i < 36) : FitT 3 (tv i) := fitB_fit 3 _ (List.all_eq_true.1 tv_fitB i (List.mem_range.2 h))
theorem tv_good11B : ((List.range 36).all fun i => (chkT 11 (tv i) 1048576).isSome) = true := by kernel_rfl
theorem tv_good11 {i : Nat} (h : i < 36) : Good 11 (tv i) := by
  have h1 := List.all_eq_true.1 tv_good11B i (List.mem_range.2 h)
  rcases chk_says 11 (tv i) 1048576 (by omega) with ⟨_, h2, _⟩ | ⟨h3, _⟩
  · exact h2
  · rw [h3] at h1; cases h1
theorem tv_can : (List.range 36).map (fun i => canT 11 (tv i)) = (List.range 36).map tv := by kernel_rfl
theorem tv_can11 {i : Nat} (h : i < 36) : canT 11 (tv i) = tv i := by
  have := congrArg (fun l => l[i]?) tv_can
  simpa [h] using this
theorem nT_good (n : Int) (m : Nat) : Good m (nT n) := by
  have h : leafGood (nT n) := ⟨rfl, rfl, .inr (.inr (.inl ⟨rfl, noText_mk 3 n [] []⟩))⟩
  cases m with
  | zero => exact h
  | succ m => exact .inl h
theorem nT_fit {n : Int} (h0 : -9223372036854775808 ≤ n) (h1 : n ≤ 9223372036854775807) : FitT 3 (nT n) :=
  ⟨⟨by show -9223372036854775808 ≤ (3 : Int); omega, by show (3 : Int) ≤ 9223372036854775807; omega, h0, h1, by show (0 : Nat) ≤ _; omega, by show (0 : Nat) ≤ _; omega, by show (0 : Nat) ≤ _; omega⟩, fun i hi => absurd hi (Nat.not_lt_zero i), fun i hi => absurd hi (Nat.not_lt_zero i)⟩
theorem docT_elt {id : Int} {i : Nat} {o : Option Nat} (ho : ∀ j, o = some j → j < 36) (hi : i < 36) {k : Nat} (hk : k < nL (docT id i o)) : elt (docT id i o) k = nT id ∨ ∃ j, j < 36 ∧ elt (docT id i o) k = tv j := by
  cases o with
  | none =>
    have hk' : k < 2 := hk
    match k, hk' with
    | 0, _ => exact .inl rfl
    | 1, _ => exact .inr ⟨i, hi, rfl⟩
  | some j =>
    have hk' : k < 3 := hk
    match k, hk' with
    | 0, _ => exact .inl rfl
    | 1, _ => exact .inr ⟨i, hi, rfl⟩
    | 2, _ => exact .inr ⟨j, ho j rfl, rfl⟩
theorem docT_good {id : Int} {i : Nat} {o : Option Nat} (hi : i < 36) (ho : ∀ j, o = some j → j < 36) : Good 12 (docT id i o) := by
  refine .inr ⟨by cases o <;> rfl, by cases o <;> exact noText_mk _ _ _ _, fun k hk => ?_, .inr ⟨by cases o <;> rfl, by cases o <;> rfl, by cases o <;> kernel_rfl, by cases o <;> kernel_rfl⟩⟩
  rcases docT_elt ho hi hk with e | ⟨j, hj, e⟩
  · rw [e]; exact nT_good id 11
  · rw [e]; exact tv_good11 hj
theorem docT_fit {id : Int} {i : Nat} {o : Option Nat} (h0 : -9223372036854775808 ≤ id) (h1 : id ≤ 9223372036854775807) (hi : i < 36) (ho : ∀ j, o = some j → j < 36) : FitT 4 (docT id i o) := by
  have hF : Fits (docT id i o) := by
    cases o with
    | none => exact ⟨by show (-9223372036854775808 : Int) ≤ 6; omega, by show (6 : Int) ≤ 9223372036854775807; omega, by show (-9223372036854775808 : Int) ≤ 0; omega, by show (0 : Int) ≤ 9223372036854775807; omega, by show (0 : Nat) ≤ _; omega, by show (2 : Nat) ≤ _; omega, by show (2 : Nat) ≤ _; omega⟩
    | some j => exact ⟨by show (-9223372036854775808 : Int) ≤ 6; omega, by show (6 : Int) ≤ 9223372036854775807; omega, by show (-9223372036854775808 : Int) ≤ 0; omega, by show (0 : Int) ≤ 9223372036854775807; omega, by show (0 : Nat) ≤ _; omega, by show (3 : Nat) ≤ _; omega, by show (3 : Nat) ≤ _; omega⟩
  refine ⟨hF, fun k hk => ?_, fun k hk => ?_⟩
  · rcases docT_elt ho hi hk with e | ⟨j, hj, e⟩
    · rw [e]; exact nT_fit h0 h1
    · rw [e]; exact tv_fit hj
  · cases o with
    | none =>
      have hk' : k < 2 := hk
      match k, hk' with
      | 0, _ => show (3 : Nat) ≤ _; omega
      | 1, _ => show (1 : Nat) ≤ _; omega
    | some j =>
      have hk' : k < 3 := hk
      match k, hk' with
      | 0, _ => show (3 : Nat) ≤ _; omega
      | 1, _ => show (1 : Nat) ≤ _; omega
      | 2, _ => show (1 : Nat) ≤ _; omega
theorem docT_can {id : Int} {i : Nat} {o : Option Nat} (hi : i < 36) (ho : ∀ j, o = some j → j < 36) : canT 12 (docT id i o) = docT id i o := by
  have hn : canT 11 (nT id) = nT id := rfl
  cases o with
  | none =>
    show mkT 6 0 ByteArray.empty [canT 11 (nT id), canT 11 (tv i)] _ = _
    rw [hn, tv_can11 hi]; rfl
  | some j =>
    show mkT 6 0 ByteArray.empty [canT 11 (nT id), canT 11 (tv i), canT 11 (tv j)] _ = _
    rw [hn, tv_can11 hi, tv_can11 (ho j rfl)]; rfl
theorem docS_size {id : Int} {i : Nat} {o : Option Nat} (h0 : 0 ≤ id) (h1 : id < 30) (hi : i < 36) (ho : ∀ j, o = some j → j < 36) : (docS id i o).size ≤ 40 := by
  have h2 := itoa30 h0 h1
  have h3 := vt_le hi
  cases o with
  | none => unfold docS docA; simp only [ByteArray.size_append]; have : (⟨#[123, 34, 95, 105, 100, 34, 58]⟩ : ByteArray).size = 7 := rfl; have : (⟨#[44, 34, 97, 34, 58]⟩ : ByteArray).size = 5 := rfl; have : (⟨#[125]⟩ : ByteArray).size = 1 := rfl; omega
  | some j => have h4 := vt_le (ho j rfl); unfold docS docA; simp only [ByteArray.size_append]; have : (⟨#[123, 34, 95, 105, 100, 34, 58]⟩ : ByteArray).size = 7 := rfl; have : (⟨#[44, 34, 97, 34, 58]⟩ : ByteArray).size = 5 := rfl; have : (⟨#[44, 34, 99, 34, 58]⟩ : ByteArray).size = 5 := rfl; have : (⟨#[125]⟩ : ByteArray).size = 1 := rfl; omega
/-- A document's text is read as the document. -/
theorem doc_parse {id : Int} {i : Nat} {o : Option Nat} (h0 : 0 ≤ id) (h1 : id < 30) (hi : i < 36) (ho : ∀ j, o = some j → j < 36) : eJ (docS id i o) = 0 ∧ tJ (docS id i o) = docT id i o := by
  have hw := docS_wr (id := id) hi ho
  have hz := docS_size h0 h1 hi ho
  rw [hw, baL_size] at hz
  have hp := parse_tree (docT_fit (id := id) (by omega) (by omega) hi ho) (docT_good hi ho) (by omega)
  rw [docT_can hi ho] at hp
  rw [hw]
  exact hp
end Go.Proofs.YtknakfpciccoaaaGreatDoor
/- What the documents of the statements are: they may be inserted; their numbers. -/
namespace Go.Proofs.YtknakfpciccoaaaGreatDoor
open Go.RowKit

theorem docT_isDoc (id : Int) (i : Nat) (o : Option Nat) : isDoc (docT id i o) = true := by cases o <;> kernel_rfl
theorem docT_id (id : Int) (i : Nat) (o : Option Nat) : idT (docT id i o) = nT id := by cases o <;> kernel_rfl
theorem tv_bytesB : ((List.range 36).all fun i => decide (bytesT 11 (tv i) ≤ 100)) = true := by kernel_rfl
theorem tv_bytes {i : Nat} (h : i < 36) : bytesT 11 (tv i) ≤ 100 := of_decide_eq_true (List.all_eq_true.1 tv_bytesB i (List.mem_range.2 h))
theorem nT_bytes (n : Int) : bytesT 11 (nT n) = 9 := by kernel_rfl
theorem docT_bytes {id : Int} {i : Nat} {o : Option Nat} (hi : i < 36) (ho : ∀ j, o = some j → j < 36) : bytesT 12 (docT id i o) ≤ 300 := by
  have h1 := tv_bytes hi
  have h2 := nT_bytes id
  cases o with
  | none =>
    have e : bytesT 12 (docT id i none) = 5 + sumK (docT id i none) 2 + (((0 + bytesT 11 (nT id)) + bytesT 11 (tv i))) := rfl
    have k : sumK (docT id i none) 2 ≤ 50 := by
      have : sumK (docT id i none) 2 = sumK (docT 0 0 none) 2 := rfl
      rw [this]; decide
    omega
  | some j =>
    have h3 := tv_bytes (ho j rfl)
    have e : bytesT 12 (docT id i (some j)) = 5 + sumK (docT id i (some j)) 3 + ((((0 + bytesT 11 (nT id)) + bytesT 11 (tv i))) + bytesT 11 (tv j)) := rfl
    have k : sumK (docT id i (some j)) 3 ≤ 50 := by
      have : sumK (docT id i (some j)) 3 = sumK (docT 0 0 (some 0)) 3 := rfl
      rw [this]; decide
    omega
theorem docT_isV {id : Int} {i : Nat} {o : Option Nat} (hi : i < 36) (ho : ∀ j, o = some j → j < 36) : isV (docT id i o) = true := (isV_iff _).2 ⟨docT_good hi ho, by have := docT_bytes (id := id) hi ho; omega⟩
theorem docT_small {id : Int} {i : Nat} {o : Option Nat} (hi : i < 36) (ho : ∀ j, o = some j → j < 36) : tooBig (docT id i o) = false := by
  unfold tooBig
  rw [docT_isV hi ho]
  have h1 := encT_len 12 _ (docT_good (id := id) hi ho)
  have h2 := docT_bytes (id := id) hi ho
  have h3 : (encS true (encT 12 (docT id i o))).size = (encT 12 (docT id i o)).length := baL_size _
  rw [h3]
  simp
  omega
theorem doc_in {id : Int} {i : Nat} {o : Option Nat} (h0 : 0 ≤ id) (h1 : id < 30) (hi : i < 36) (ho : ∀ j, o = some j → j < 36) : inErr (docS id i o) = none := by
  obtain ⟨h2, h3⟩ := doc_parse h0 h1 hi ho
  unfold inErr
  rw [h2, h3, docT_isDoc, docT_small hi ho]
  simp
theorem nT_cmp (a b : Int) : (cmpT 16 (nT a) (nT b) == 0) = (a == b) := by
  have e : cmpT 16 (nT a) (nT b) = cmpI a b := by
    have ka : kindOf (nT a) = 3 := rfl
    have kb : kindOf (nT b) = 3 := rfl
    rw [cmpT, ka, kb, if_neg (by simp), if_pos (.inr rfl)]
    rfl
  rw [e]
  by_cases h1 : a < b
  · rw [cmpI_lt h1, beq_eq_false_iff_ne.2 (by omega : a ≠ b)]; rfl
  · by_cases h2 : b < a
    · rw [cmpI_gt h2, beq_eq_false_iff_ne.2 (by omega : a ≠ b)]; rfl
    · obtain rfl : a = b := by omega
      rw [cmpI_eq (Int.le_refl _) (Int.le_refl _)]; simp
theorem doc_same (a b : Int) (i : Nat) (o : Option Nat) : sameId (nT a) (docT b i o) = (b == a) := by
  unfold sameId
  rw [docT_id, nT_cmp]
end Go.Proofs.YtknakfpciccoaaaGreatDoor
/- quoted, path. -/
namespace Go.Proofs.YtknakfpciccoaaaGreatDoor
open Go.RowKit

set_option maxHeartbeats 4000000 in
set_option maxRecDepth 100000 in
theorem quoted_any (s : ByteArray) (w : World) (hs : s.size ≤ 1000) : Calls Tryz.prog 28 #[.string s] w fun e w' => e = .returned (.string ((⟨#[34]⟩ ++ s) ++ ⟨#[34]⟩)) ∧ w' = w := by
  obtain ⟨a1, e1, z1, r1⟩ := cat_run ⟨#[34]⟩ s 1 s.size rfl rfl (by omega)
  obtain ⟨a2, e2, z2, r2⟩ := cat_run a1 ⟨#[34]⟩ a1.size 1 rfl rfl (by omega)
  have E : Hid (a2 = (⟨#[34]⟩ ++ s) ++ ⟨#[34]⟩) := by show _ = _; rw [e2, e1]
  clear e1 e2 z1 z2
  go_enter Tryz.func28, Tryz.ntmps28
  go_wp2_with fail
  go_ret
  exact ⟨by rw [← E.out]; rfl, rfl⟩
/-- The paths that the statements make. -/
def pthL : List ByteArray := [⟨#[97]⟩, ⟨#[99]⟩, ⟨#[97, 46, 98]⟩, ⟨#[97, 46, 49]⟩, ⟨#[95, 105, 100]⟩, ⟨#[99, 46, 48]⟩]
def pth (k : Nat) : ByteArray := pthL.getD k ByteArray.empty
def pthN (c : Int) : Nat := (absZ c % 6).toNat
theorem pthN_lt (c : Int) : pthN c < 6 := by unfold pthN; omega
set_option maxHeartbeats 4000000 in
set_option maxRecDepth 100000 in
theorem path_any (c : Int) (w : World) (h0 : -9223372036854775808 ≤ c) (h1 : c ≤ 9223372036854775807) : Calls Tryz.prog 29 #[.int .i64 c] w fun e w' => e = .returned (.string (pth (pthN c))) ∧ Below w.heap.size w w' := by
  have HP : Hid (∀ w, Calls Tryz.prog 53 #[.int .i64 c, .int .i64 6] w fun e w' => e = .returned (.int .i64 (absZ c % 6)) ∧ w' = w) := fun w => pick_any c 6 w h0 h1 (by omega) (by omega)
  have HN : Hid (pthN c = (absZ c % 6).toNat) := rfl
  have hb : 0 ≤ absZ c % 6 ∧ absZ c % 6 < 6 := by omega
  generalize pthN c = pn at *
  obtain ⟨m, hm⟩ : ∃ m, absZ c % 6 = m := ⟨_, rfl⟩
  rw [hm] at HP HN hb
  clear hm h0 h1
  obtain h | h | h | h | h | h : m = 0 ∨ m = 1 ∨ m = 2 ∨ m = 3 ∨ m = 4 ∨ m = 5 := by omega
  all_goals
    subst h
    have hn := HN.out
    simp at hn
    subst hn
    clear HN hb
    go_enter Tryz.func29, Tryz.ntmps29
    go_wp2_with fail
    refine (HP.out _).mono ?_
    rintro e w2 ⟨rfl, rfl⟩
    go_wp2_with fail
    go_ret
    exact ⟨rfl, (Below.refl _ _).alloc (Nat.le_refl _) _⟩
end Go.Proofs.YtknakfpciccoaaaGreatDoor
/- value: one text for each number, in whatever world. -/
namespace Go.Proofs.YtknakfpciccoaaaGreatDoor
open Go.RowKit

def valK (k P : Int) : ByteArray :=
  if k = 0 ∨ k = 1 ∨ k = 2 then baL (Lib.itoa (P / 8 % 9 - 4)) else if k = 3 then (⟨#[34]⟩ ++ ⟨#[byteZ (97 + P / 8 % 3)]⟩) ++ ⟨#[34]⟩ else if k = 4 then (((⟨#[91]⟩ ++ baL (Lib.itoa (P / 8 % 4))) ++ ⟨#[44]⟩) ++ baL (Lib.itoa (P / 8 / 4 % 4))) ++ ⟨#[93]⟩
  else if k = 5 then (⟨#[123, 34, 98, 34, 58]⟩ ++ baL (Lib.itoa (P / 8 % 4))) ++ ⟨#[125]⟩ else if k = 6 then (if P / 8 % 3 = 0 then vt 0 else if P / 8 % 3 = 1 then vt 2 else vt 1) else vt 15
def valS (c : Int) : ByteArray := valK (absZ c % 8) (absZ c % 1099511627776)
theorem valK6 {P m : Int} (h : P / 8 % 3 = m) : valK 6 P = if m = 0 then vt 0 else if m = 1 then vt 2 else vt 1 := by subst h; rfl
def ValPostD (c : Int) (w : World) (e : Ending) (w' : World) : Prop := ∃ s, (IsV s ∧ s = valS c) ∧ e = .returned (.string s) ∧ Below w.heap.size w w'
set_option maxHeartbeats 8000000 in
set_option maxRecDepth 100000 in
theorem value_det {Tb : World → Prop} (hI : ItoaSaid Tb) (hL : Lies Tb) (c : Int) (w : World) (h0 : -9223372036854775808 ≤ c) (h1 : c ≤ 9223372036854775807) (hT : Tb w) :
    Calls Tryz.prog 21 #[.int .i64 c] w (ValPostD c w) := by
  have HP1 := hid (pick_any c 1099511627776 w h0 h1 (by omega) (by omega))
  have HP2 := hid (pick_any c 8 w h0 h1 (by omega) (by omega))
  have hb := absZ_bd h0 h1
  obtain ⟨P, hP⟩ : ∃ P, absZ c % 1099511627776 = P := ⟨_, rfl⟩
  obtain ⟨k, hk⟩ : ∃ k, absZ c % 8 = k := ⟨_, rfl⟩
  have p0 : 0 ≤ P := by omega
  have p1 : P ≤ 1099511627776 := by omega
  have k8 : k = 0 ∨ k = 1 ∨ k = 2 ∨ k = 3 ∨ k = 4 ∨ k = 5 ∨ k = 6 ∨ k = 7 := by omega
  have HVS : Hid (valS c = valK k P) := by show _ = _; unfold valS; rw [hP, hk]
  rw [hP] at HP1
  rw [hk] at HP2
  clear hP hk hb h0 h1
  have HT := hid hT
  have HI := hid hI
  clear hT hI
  rcases k8 with rfl | rfl | rfl | rfl | rfl | rfl | rfl | rfl
  · go_enter Tryz.func21, Tryz.ntmps21
    go_wp2_with fail
    refine HP1.out.mono ?_
    rintro e w ⟨rfl, rfl⟩
    go_wp2_with fail
    refine HP2.out.mono ?_
    rintro e w ⟨rfl, rfl⟩
    have HC := hid (HI.out (P / 8 % 9 - 4) w (by omega) (by omega) HT.out)
    go_wp2_with fail
    refine HC.out.mono ?_
    rintro e w1 ⟨rfl, b1⟩
    have HB := hid b1
    clear b1
    go_wp2_with fail
    go_ret
    exact ⟨_, ⟨isV_num (P / 8), HVS.out.symm⟩, rfl, HB.out⟩
  · go_enter Tryz.func21, Tryz.ntmps21
    go_wp2_with fail
    refine HP1.out.mono ?_
    rintro e w ⟨rfl, rfl⟩
    go_wp2_with fail
    refine HP2.out.mono ?_
    rintro e w ⟨rfl, rfl⟩
    have HC := hid (HI.out (P / 8 % 9 - 4) w (by omega) (by omega) HT.out)
    go_wp2_with fail
    refine HC.out.mono ?_
    rintro e w1 ⟨rfl, b1⟩
    have HB := hid b1
    clear b1
    go_wp2_with fail
    go_ret
    exact ⟨_, ⟨isV_num (P / 8), HVS.out.symm⟩, rfl, HB.out⟩
  · go_enter Tryz.func21, Tryz.ntmps21
    go_wp2_with fail
    refine HP1.out.mono ?_
    rintro e w ⟨rfl, rfl⟩
    go_wp2_with fail
    refine HP2.out.mono ?_
    rintro e w ⟨rfl, rfl⟩
    have HC := hid (HI.out (P / 8 % 9 - 4) w (by omega) (by omega) HT.out)
    go_wp2_with fail
    refine HC.out.mono ?_
    rintro e w1 ⟨rfl, b1⟩
    have HB := hid b1
    clear b1
    go_wp2_with fail
    go_ret
    exact ⟨_, ⟨isV_num (P / 8), HVS.out.symm⟩, rfl, HB.out⟩
  · have hcv := conv1 w (97 + P / 8 % 3) (by omega)
    have e1 : IntKind.u8.wrap (97 + P / 8 % 3) = 97 + P / 8 % 3 := by rw [IntKind.wrap_u8]; omega
    go_enter Tryz.func21, Tryz.ntmps21
    go_wp2_with fail
    refine HP1.out.mono ?_
    rintro e w ⟨rfl, rfl⟩
    go_wp2_with fail
    refine HP2.out.mono ?_
    rintro e w ⟨rfl, rfl⟩
    go_wp2_with fail
    go_ret
    exact ⟨_, ⟨isV_txt (x := P / 8 % 3) (by omega) (by omega), HVS.out.symm⟩, rfl, (Below.refl _ _).alloc (Nat.le_refl _) _⟩
  · go_enter Tryz.func21, Tryz.ntmps21
    go_wp2_with fail
    refine HP1.out.mono ?_
    rintro e w ⟨rfl, rfl⟩
    go_wp2_with fail
    refine HP2.out.mono ?_
    rintro e w ⟨rfl, rfl⟩
    have HC := hid (HI.out (P / 8 % 4) w (by omega) (by omega) HT.out)
    have HV := hid (And.intro (isV_list (x := P / 8 % 4) (y := P / 8 / 4 % 4) (by omega) (by omega) (by omega) (by omega)) (show (((⟨#[91]⟩ ++ baL (Lib.itoa (P / 8 % 4))) ++ ⟨#[44]⟩) ++ baL (Lib.itoa (P / 8 / 4 % 4))) ++ ⟨#[93]⟩ = valS c from HVS.out.symm))
    have z1 := itoa_size (n := P / 8 % 4) (by omega) (by omega)
    have z2 := itoa_size (n := P / 8 / 4 % 4) (by omega) (by omega)
    have HC2 := hid (fun w1 b1 => HI.out (P / 8 / 4 % 4) w1 (by omega) (by omega) (hL w HT.out w w1 HT.out b1))
    generalize baL (Lib.itoa (P / 8 % 4)) = s1 at HC HV z1
    generalize baL (Lib.itoa (P / 8 / 4 % 4)) = s2 at HC2 HV z2
    obtain ⟨a1, e1, y1, g1⟩ := cat_run ⟨#[91]⟩ s1 1 1 rfl z1 (by omega)
    obtain ⟨a2, e2, y2, g2⟩ := cat_run a1 ⟨#[44]⟩ 2 1 y1 rfl (by omega)
    obtain ⟨a3, e3, y3, g3⟩ := cat_run a2 s2 3 1 y2 z2 (by omega)
    obtain ⟨a4, e4, y4, g4⟩ := cat_run a3 ⟨#[93]⟩ 4 1 y3 rfl (by omega)
    rw [← e1, ← e2, ← e3, ← e4] at HV
    clear e1 e2 e3 e4 y1 y2 y3 y4 z1 z2
    go_wp2_with fail
    refine HC.out.mono ?_
    rintro e w1 ⟨rfl, b1⟩
    have HB := hid b1
    have HC3 := hid (HC2.out w1 b1)
    clear b1
    go_wp2_with fail
    refine HC3.out.mono ?_
    rintro e w2 ⟨rfl, b2⟩
    have HB2 := hid (HB.out.trans (b2.mono HB.out.size))
    clear b2
    go_wp2_with fail
    go_ret
    exact ⟨_, HV.out, rfl, HB2.out⟩
  · go_enter Tryz.func21, Tryz.ntmps21
    go_wp2_with fail
    refine HP1.out.mono ?_
    rintro e w ⟨rfl, rfl⟩
    go_wp2_with fail
    refine HP2.out.mono ?_
    rintro e w ⟨rfl, rfl⟩
    have HC := hid (HI.out (P / 8 % 4) w (by omega) (by omega) HT.out)
    have HV := hid (And.intro (isV_obj (x := P / 8 % 4) (by omega) (by omega)) (show (⟨#[123, 34, 98, 34, 58]⟩ ++ baL (Lib.itoa (P / 8 % 4))) ++ ⟨#[125]⟩ = valS c from HVS.out.symm))
    have z1 := itoa_size (n := P / 8 % 4) (by omega) (by omega)
    generalize baL (Lib.itoa (P / 8 % 4)) = s1 at HC HV z1
    obtain ⟨a1, e1, y1, g1⟩ := cat_run ⟨#[123, 34, 98, 34, 58]⟩ s1 5 1 rfl z1 (by omega)
    obtain ⟨a2, e2, y2, g2⟩ := cat_run a1 ⟨#[125]⟩ 6 1 y1 rfl (by omega)
    rw [← e1, ← e2] at HV
    clear e1 e2 y1 y2 z1
    go_wp2_with fail
    refine HC.out.mono ?_
    rintro e w1 ⟨rfl, b1⟩
    have HB := hid b1
    clear b1
    go_wp2_with fail
    go_ret
    exact ⟨_, HV.out, rfl, HB.out⟩
  · obtain ⟨m, hm⟩ : ∃ m, P / 8 % 3 = m := ⟨_, rfl⟩
    obtain h | h | h : m = 0 ∨ m = 1 ∨ m = 2 := by omega
    all_goals
      subst h
      have HM := hid (valK6 hm)
      go_enter Tryz.func21, Tryz.ntmps21
      go_wp2_with fail
      refine HP1.out.mono ?_
      rintro e w ⟨rfl, rfl⟩
      go_wp2_with fail
      refine HP2.out.mono ?_
      rintro e w ⟨rfl, rfl⟩
      go_wp2_with fail
      go_ret
    · exact ⟨_, ⟨⟨0, by omega, rfl⟩, by rw [HVS.out, HM.out]; simp⟩, rfl, (Below.refl _ _).alloc (Nat.le_refl _) _⟩
    · exact ⟨_, ⟨⟨2, by omega, rfl⟩, by rw [HVS.out, HM.out]; simp⟩, rfl, (Below.refl _ _).alloc (Nat.le_refl _) _⟩
    · exact ⟨_, ⟨⟨1, by omega, rfl⟩, by rw [HVS.out, HM.out]; simp⟩, rfl, (Below.refl _ _).alloc (Nat.le_refl _) _⟩
  · go_enter Tryz.func21, Tryz.ntmps21
    go_wp2_with fail
    refine HP1.out.mono ?_
    rintro e w ⟨rfl, rfl⟩
    go_wp2_with fail
    refine HP2.out.mono ?_
    rintro e w ⟨rfl, rfl⟩
    go_wp2_with fail
    go_ret
    exact ⟨_, ⟨⟨15, by omega, rfl⟩, HVS.out.symm⟩, rfl, Below.refl _ _⟩
end Go.Proofs.YtknakfpciccoaaaGreatDoor
/- test of the statements. -/
namespace Go.Proofs.YtknakfpciccoaaaGreatDoor
open Go.RowKit

def opsL : List ByteArray := [⟨#[36, 101, 113]⟩, ⟨#[36, 110, 101]⟩, ⟨#[36, 103, 116]⟩, ⟨#[36, 103, 116, 101]⟩, ⟨#[36, 108, 116]⟩, ⟨#[36, 108, 116, 101]⟩]
def opS (k : Nat) : ByteArray := (⟨#[34]⟩ ++ opsL.getD k ByteArray.empty) ++ ⟨#[34]⟩
/-- The text of a test, by its kind and its number. -/
def tstK (k P : Int) : ByteArray :=
  if k = 6 then (((⟨#[34, 36, 105, 110, 34, 58, 91]⟩ ++ valS (P / 11)) ++ ⟨#[44]⟩) ++ valS (P / 11 / 16)) ++ ⟨#[93]⟩
  else if k = 7 then ⟨#[34, 36, 101, 120, 105, 115, 116, 115, 34, 58]⟩ ++ (if P / 11 % 2 = 0 then ⟨#[116, 114, 117, 101]⟩ else ⟨#[102, 97, 108, 115, 101]⟩)
  else if k = 8 then ⟨#[34, 36, 107, 105, 110, 100, 34, 58]⟩ ++ baL (Lib.itoa (1 + P / 11 % 6))
  else if k = 9 then (⟨#[34, 36, 97, 110, 121, 34, 58, 123, 34, 36, 103, 116, 34, 58]⟩ ++ baL (Lib.itoa (P / 11 % 4))) ++ ⟨#[125]⟩
  else if k = 10 then ⟨#[34, 36, 115, 105, 122, 101, 34, 58]⟩ ++ baL (Lib.itoa (P / 11 % 4))
  else (opS k.toNat ++ ⟨#[58]⟩) ++ valS (P / 11)
def tstS (c : Int) : ByteArray := tstK (absZ c % 11) (absZ c % 1099511627776)
theorem quoted_op (j : Nat) (hj : j < 6) (w : World) : Calls Tryz.prog 28 #[.string (opsL.getD j ByteArray.empty)] w fun e w' => ∃ q, e = .returned (.string q) ∧ q = opS j ∧ q.size ≤ 6 ∧ w' = w := by
  have hz : (opsL.getD j ByteArray.empty).size ≤ 4 := by
    match j, hj with
    | 0, _ => decide
    | 1, _ => decide
    | 2, _ => decide
    | 3, _ => decide
    | 4, _ => decide
    | 5, _ => decide
  refine (quoted_any _ w (by omega)).mono ?_
  rintro e w' ⟨rfl, rfl⟩
  refine ⟨_, rfl, rfl, ?_, rfl⟩
  simp only [ByteArray.size_append]
  have : (⟨#[34]⟩ : ByteArray).size = 1 := rfl
  omega
theorem itoa7 {n : Int} (h0 : 0 ≤ n) (h1 : n < 30) : (baL (Lib.itoa n)).size ≤ 2 := itoa30 h0 h1
set_option maxHeartbeats 8000000 in
set_option maxRecDepth 100000 in
theorem test_low {Tb : World → Prop} (hI : ItoaSaid Tb) (hL : Lies Tb) (c : Int) (w : World) (h0 : -9223372036854775808 ≤ c) (h1 : c ≤ 9223372036854775807) (hT : Tb w) (hk6 : absZ c % 11 < 6) :
    Calls Tryz.prog 30 #[.int .i64 c] w fun e w' => e = .returned (.string (tstS c)) ∧ Below w.heap.size w w' := by
  have HP1 := hid (fun w => pick_any c 1099511627776 w h0 h1 (by omega) (by omega))
  have HP2 := hid (fun w => pick_any c 11 w h0 h1 (by omega) (by omega))
  have HV : Hid (∀ (c : Int) (w : World), -9223372036854775808 ≤ c → c ≤ 9223372036854775807 → Tb w → Calls Tryz.prog 21 #[.int .i64 c] w (ValPostD c w)) := fun c w h0 h1 ht => value_det hI hL c w h0 h1 ht
  have HT : Hid (∀ w' : World, Below w.heap.size w w' → Tb w') := fun w' hb => hL w hT w w' hT hb
  have hb := absZ_bd h0 h1
  obtain ⟨P, hP⟩ : ∃ P, absZ c % 1099511627776 = P := ⟨_, rfl⟩
  obtain ⟨k, hk⟩ : ∃ k, absZ c % 11 = k := ⟨_, rfl⟩
  have p0 : 0 ≤ P := by omega
  have p1 : P ≤ 1099511627776 := by omega
  have k11 : k = 0 ∨ k = 1 ∨ k = 2 ∨ k = 3 ∨ k = 4 ∨ k = 5 := by omega
  have HVS : Hid (tstS c = tstK k P) := by show _ = _; unfold tstS; rw [hP, hk]
  rw [hP] at HP1
  rw [hk] at HP2
  have HI := hid hI
  clear hP hk hb h0 h1 hI hL hk6
  have HV1 := hid (HV.out (P / 11) w (by omega) (by omega) hT)
  clear hT
  rcases k11 with rfl | rfl | rfl | rfl | rfl | rfl
  iterate 6
    · go_enter Tryz.func30, Tryz.ntmps30
      go_wp2_with fail
      refine (HP1.out w).mono ?_
      rintro e w ⟨rfl, rfl⟩
      go_wp2_with fail
      refine HV1.out.mono ?_
      rintro e w1 ⟨sd, ⟨⟨i, hi, hiv⟩, hsd⟩, rfl, b1⟩
      have hz : sd.size ≤ 10 := by rw [hiv]; exact vt_le hi
      have Hsd := hid hsd
      have HB := hid b1
      clear hi hiv hsd b1 HV1
      go_wp2_with fail
      refine (HP2.out _).mono ?_
      rintro e w2 ⟨rfl, rfl⟩
      go_wp2_with fail
      refine (HP2.out _).mono ?_
      rintro e w2 ⟨rfl, rfl⟩
      go_wp2_with fail
      first
        | refine (quoted_op 0 (by omega) _).mono ?_
        | refine (quoted_op 1 (by omega) _).mono ?_
        | refine (quoted_op 2 (by omega) _).mono ?_
        | refine (quoted_op 3 (by omega) _).mono ?_
        | refine (quoted_op 4 (by omega) _).mono ?_
        | refine (quoted_op 5 (by omega) _).mono ?_
      rintro e w2 ⟨q, rfl, hq, hqz, rfl⟩
      obtain ⟨a1, e1, z1, r1⟩ := cat_run q ⟨#[58]⟩ q.size 1 rfl rfl (by omega)
      obtain ⟨a2, e2, z2, r2⟩ := cat_run a1 sd a1.size sd.size rfl rfl (by omega)
      have HE := hid (e2.trans (congrArg (· ++ sd) (e1.trans (congrArg (· ++ _) hq))))
      clear e1 e2 z1 z2 hq hqz hz
      go_wp2_with fail
      go_ret
      exact ⟨by rw [HVS.out]; show Ending.returned (.string a2) = _; rw [HE.out, Hsd.out]; rfl, HB.out.alloc HB.out.size _⟩
end Go.Proofs.YtknakfpciccoaaaGreatDoor
/- test of the statements: the other kinds. -/
namespace Go.Proofs.YtknakfpciccoaaaGreatDoor
open Go.RowKit

set_option maxHeartbeats 8000000 in
set_option maxRecDepth 100000 in
theorem test_high {Tb : World → Prop} (hI : ItoaSaid Tb) (hL : Lies Tb) (c : Int) (w : World) (h0 : -9223372036854775808 ≤ c) (h1 : c ≤ 9223372036854775807) (hT : Tb w) (hk6 : 6 ≤ absZ c % 11) :
    Calls Tryz.prog 30 #[.int .i64 c] w fun e w' => e = .returned (.string (tstS c)) ∧ Below w.heap.size w w' := by
  have HP1 := hid (fun w => pick_any c 1099511627776 w h0 h1 (by omega) (by omega))
  have HP2 := hid (fun w => pick_any c 11 w h0 h1 (by omega) (by omega))
  have HV : Hid (∀ (c : Int) (w : World), -9223372036854775808 ≤ c → c ≤ 9223372036854775807 → Tb w → Calls Tryz.prog 21 #[.int .i64 c] w (ValPostD c w)) := fun c w h0 h1 ht => value_det hI hL c w h0 h1 ht
  have HT : Hid (∀ w' : World, Below w.heap.size w w' → Tb w') := fun w' hb => hL w hT w w' hT hb
  have hb := absZ_bd h0 h1
  obtain ⟨P, hP⟩ : ∃ P, absZ c % 1099511627776 = P := ⟨_, rfl⟩
  obtain ⟨k, hk⟩ : ∃ k, absZ c % 11 = k := ⟨_, rfl⟩
  have p0 : 0 ≤ P := by omega
  have p1 : P ≤ 1099511627776 := by omega
  have k11 : k = 6 ∨ k = 7 ∨ k = 8 ∨ k = 9 ∨ k = 10 := by omega
  have HVS : Hid (tstS c = tstK k P) := by show _ = _; unfold tstS; rw [hP, hk]
  rw [hP] at HP1
  rw [hk] at HP2
  have HI := hid hI
  clear hP hk hb h0 h1 hI hL hk6
  have HV1 := hid (HV.out (P / 11) w (by omega) (by omega) hT)
  clear hT
  rcases k11 with rfl | rfl | rfl | rfl | rfl
  · go_enter Tryz.func30, Tryz.ntmps30
    go_wp2_with fail
    refine (HP1.out w).mono ?_
    rintro e w ⟨rfl, rfl⟩
    go_wp2_with fail
    refine HV1.out.mono ?_
    rintro e w1 ⟨sd, ⟨⟨i, hi, hiv⟩, hsd⟩, rfl, b1⟩
    have hz : sd.size ≤ 10 := by rw [hiv]; exact vt_le hi
    have Hsd := hid hsd
    have HB := hid b1
    clear hi hiv hsd b1 HV1
    have HV2 := hid (HV.out (P / 11 / 16) w1 (by omega) (by omega) (HT.out _ HB.out))
    obtain ⟨a1, e1, z1, r1⟩ := cat_run ⟨#[34, 36, 105, 110, 34, 58, 91]⟩ sd 7 sd.size rfl rfl (by omega)
    obtain ⟨a2, e2, z2, r2⟩ := cat_run a1 ⟨#[44]⟩ a1.size 1 rfl rfl (by omega)
    have HE := hid (And.intro e1 e2)
    have hz2 : a2.size ≤ 18 := by omega
    clear e1 z1 e2 z2 hz
    go_wp2_with fail
    refine (HP2.out _).mono ?_
    rintro e w2 ⟨rfl, rfl⟩
    go_wp2_with fail
    refine HV2.out.mono ?_
    rintro e w3 ⟨sv, ⟨⟨i2, hi2, hiv2⟩, hsv⟩, rfl, b3⟩
    have hz3 : sv.size ≤ 10 := by rw [hiv2]; exact vt_le hi2
    obtain ⟨a3, e3, z3, r3⟩ := cat_run a2 sv a2.size sv.size rfl rfl (by omega)
    obtain ⟨a4, e4, z4, r4⟩ := cat_run a3 ⟨#[93]⟩ a3.size 1 rfl rfl (by omega)
    have HB3 := hid (HB.out.trans (b3.mono HB.out.size))
    have HF : Hid (a4 = tstS c) := by show _ = _; rw [HVS.out, e4, e3, HE.out.2, HE.out.1, Hsd.out, hsv]; rfl
    clear b3 hi2 hiv2 hsv hz3 e3 z3 e4 z4 hz2 HV2
    go_wp2_with fail
    go_ret
    exact ⟨by rw [← HF.out]; rfl, HB3.out⟩
  · obtain ⟨m, hm⟩ : ∃ m, P / 11 % 2 = m := ⟨_, rfl⟩
    have HM : Hid (tstK 7 P = ⟨#[34, 36, 101, 120, 105, 115, 116, 115, 34, 58]⟩ ++ (if m = 0 then ⟨#[116, 114, 117, 101]⟩ else ⟨#[102, 97, 108, 115, 101]⟩)) := by show _ = _; subst hm; rfl
    obtain h | h : m = 0 ∨ m = 1 := by omega
    all_goals
      subst h
      go_enter Tryz.func30, Tryz.ntmps30
      go_wp2_with fail
      refine (HP1.out w).mono ?_
      rintro e w ⟨rfl, rfl⟩
      go_wp2_with fail
      refine HV1.out.mono ?_
      rintro e w1 ⟨sd, ⟨⟨i, hi, hiv⟩, hsd⟩, rfl, b1⟩
      have hz : sd.size ≤ 10 := by rw [hiv]; exact vt_le hi
      have Hsd := hid hsd
      have HB := hid b1
      clear hi hiv hsd b1 HV1
      go_wp2_with fail
      refine (HP2.out _).mono ?_
      rintro e w2 ⟨rfl, rfl⟩
      go_wp2_with fail
      go_ret
      exact ⟨by rw [HVS.out, HM.out]; rfl, HB.out.alloc HB.out.size _⟩
  · go_enter Tryz.func30, Tryz.ntmps30
    go_wp2_with fail
    refine (HP1.out w).mono ?_
    rintro e w ⟨rfl, rfl⟩
    go_wp2_with fail
    refine HV1.out.mono ?_
    rintro e w1 ⟨sd, ⟨⟨i, hi, hiv⟩, hsd⟩, rfl, b1⟩
    have hz : sd.size ≤ 10 := by rw [hiv]; exact vt_le hi
    have Hsd := hid hsd
    have HB := hid b1
    clear hi hiv hsd b1 HV1
    have HC := hid (HI.out (1 + P / 11 % 6) w1 (by omega) (by omega) (HT.out _ HB.out))
    have hiz := itoa7 (n := 1 + P / 11 % 6) (by omega) (by omega)
    generalize hg : baL (Lib.itoa (1 + P / 11 % 6)) = si at HC hiz
    have Hg := hid hg
    clear hg
    obtain ⟨a1, e1, z1, r1⟩ := cat_run ⟨#[34, 36, 107, 105, 110, 100, 34, 58]⟩ si 8 si.size rfl rfl (by omega)
    have HE := hid e1
    clear e1 z1 hiz hz
    go_wp2_with fail
    refine (HP2.out _).mono ?_
    rintro e w2 ⟨rfl, rfl⟩
    go_wp2_with fail
    refine HC.out.mono ?_
    rintro e w3 ⟨rfl, b3⟩
    have HB3 := hid (HB.out.trans (b3.mono HB.out.size))
    clear b3 HC
    go_wp2_with fail
    go_ret
    exact ⟨by rw [HVS.out]; show Ending.returned (.string a1) = _; rw [HE.out, ← Hg.out]; rfl, HB3.out⟩
  · go_enter Tryz.func30, Tryz.ntmps30
    go_wp2_with fail
    refine (HP1.out w).mono ?_
    rintro e w ⟨rfl, rfl⟩
    go_wp2_with fail
    refine HV1.out.mono ?_
    rintro e w1 ⟨sd, ⟨⟨i, hi, hiv⟩, hsd⟩, rfl, b1⟩
    have hz : sd.size ≤ 10 := by rw [hiv]; exact vt_le hi
    have Hsd := hid hsd
    have HB := hid b1
    clear hi hiv hsd b1 HV1
    have HC := hid (HI.out (P / 11 % 4) w1 (by omega) (by omega) (HT.out _ HB.out))
    have hiz := itoa7 (n := P / 11 % 4) (by omega) (by omega)
    generalize hg : baL (Lib.itoa (P / 11 % 4)) = si at HC hiz
    have Hg := hid hg
    clear hg
    obtain ⟨a1, e1, z1, r1⟩ := cat_run ⟨#[34, 36, 97, 110, 121, 34, 58, 123, 34, 36, 103, 116, 34, 58]⟩ si 14 si.size rfl rfl (by omega)
    obtain ⟨a2, e2, z2, r2⟩ := cat_run a1 ⟨#[125]⟩ a1.size 1 rfl rfl (by omega)
    have HE := hid (e2.trans (congrArg (· ++ _) e1))
    clear e1 z1 e2 z2 hiz hz
    go_wp2_with fail
    refine (HP2.out _).mono ?_
    rintro e w2 ⟨rfl, rfl⟩
    go_wp2_with fail
    refine HC.out.mono ?_
    rintro e w3 ⟨rfl, b3⟩
    have HB3 := hid (HB.out.trans (b3.mono HB.out.size))
    clear b3 HC
    go_wp2_with fail
    go_ret
    exact ⟨by rw [HVS.out]; show Ending.returned (.string a2) = _; rw [HE.out, ← Hg.out]; rfl, HB3.out⟩
  · go_enter Tryz.func30, Tryz.ntmps30
    go_wp2_with fail
    refine (HP1.out w).mono ?_
    rintro e w ⟨rfl, rfl⟩
    go_wp2_with fail
    refine HV1.out.mono ?_
    rintro e w1 ⟨sd, ⟨⟨i, hi, hiv⟩, hsd⟩, rfl, b1⟩
    have hz : sd.size ≤ 10 := by rw [hiv]; exact vt_le hi
    have Hsd := hid hsd
    have HB := hid b1
    clear hi hiv hsd b1 HV1
    have HC := hid (HI.out (P / 11 % 4) w1 (by omega) (by omega) (HT.out _ HB.out))
    have hiz := itoa7 (n := P / 11 % 4) (by omega) (by omega)
    generalize hg : baL (Lib.itoa (P / 11 % 4)) = si at HC hiz
    have Hg := hid hg
    clear hg
    obtain ⟨a1, e1, z1, r1⟩ := cat_run ⟨#[34, 36, 115, 105, 122, 101, 34, 58]⟩ si 8 si.size rfl rfl (by omega)
    have HE := hid e1
    clear e1 z1 hiz hz
    go_wp2_with fail
    refine (HP2.out _).mono ?_
    rintro e w2 ⟨rfl, rfl⟩
    go_wp2_with fail
    refine HC.out.mono ?_
    rintro e w3 ⟨rfl, b3⟩
    have HB3 := hid (HB.out.trans (b3.mono HB.out.size))
    clear b3 HC
    go_wp2_with fail
    go_ret
    exact ⟨by rw [HVS.out]; show Ending.returned (.string a1) = _; rw [HE.out, ← Hg.out]; rfl, HB3.out⟩
theorem test_any {Tb : World → Prop} (hI : ItoaSaid Tb) (hL : Lies Tb) (c : Int) (w : World) (h0 : -9223372036854775808 ≤ c) (h1 : c ≤ 9223372036854775807) (hT : Tb w) :
    Calls Tryz.prog 30 #[.int .i64 c] w fun e w' => e = .returned (.string (tstS c)) ∧ Below w.heap.size w w' := by
  by_cases h : absZ c % 11 < 6
  · exact test_low hI hL c w h0 h1 hT h
  · exact test_high hI hL c w h0 h1 hT (by omega)
end Go.Proofs.YtknakfpciccoaaaGreatDoor
/- Texts that are what is printed of a tree: how they are put together. -/
namespace Go.Proofs.YtknakfpciccoaaaGreatDoor
open Go.RowKit

/-- A text is what is printed of a tree, that is read as it is. -/
structure Rep (f : Nat) (t : T) (s : ByteArray) (n : Nat) : Prop where
  wr : s.data.toList = wrT f t
  fit : FitT (f + 1) t
  good : Good f t
  can : canT f t = t
  size : s.size ≤ n
theorem Rep.parse {t : T} {s : ByteArray} {n : Nat} (h : Rep 12 t s n) (hn : n ≤ 4000) : eJ s = 0 ∧ tJ s = t := by
  have e := ba_list h.wr
  have hz := h.size
  have h1 : s.size = (wrT 12 t).length := by rw [← h.wr]; rfl
  have hp := parse_tree h.fit h.good (by omega)
  rw [h.can] at hp
  rw [e]
  exact hp
theorem Rep.le {f : Nat} {t : T} {s : ByteArray} {n m : Nat} (h : Rep f t s n) (hm : n ≤ m) : Rep f t s m := ⟨h.wr, h.fit, h.good, h.can, Nat.le_trans h.size hm⟩
theorem fits_small {k : Int} (h0 : 0 ≤ k) (h1 : k ≤ 6) (l : List T) (ks : List ByteArray) (hl : l.length ≤ 100) (hk : ks.length ≤ 100) : Fits (mkT k 0 ByteArray.empty l ks) :=
  ⟨by rw [kindOf_mk]; omega, by rw [kindOf_mk]; omega, by rw [nOf_mk]; omega, by rw [nOf_mk]; omega, by rw [sOf_mk]; show (0 : Nat) ≤ _; omega, by rw [nL_mk]; omega, by rw [nK_mk]; omega⟩
/-- A name that is printed as it is. -/
structure Pln (k : ByteArray) : Prop where
  quo : quoL k = 34 :: (k.data.toList ++ [34])
  ok : okS k = true
  size : k.size ≤ 100
theorem Rep.obj {f : Nat} {t : T} {s : ByteArray} {n : Nat} (h : Rep f t s n) {k : ByteArray} (hk : Pln k) {s' : ByteArray} (hs : s'.data.toList = 123 :: 34 :: (k.data.toList ++ (34 :: 58 :: (s.data.toList ++ [125])))) : Rep (f + 1) (mkT 6 0 ByteArray.empty [t] [k]) s' (n + k.size + 5) := by
  have e : wrT (f + 1) (mkT 6 0 ByteArray.empty [t] [k]) = 123 :: (([] ++ ([] ++ (quoL k ++ (58 :: wrT f t)))) ++ [125]) := rfl
  refine ⟨?_, ⟨fits_small (by omega) (by omega) _ _ (by simp) (by simp), fun i hi => ?_, fun i hi => ?_⟩, .inr ⟨rfl, noText_mk _ _ _ _, fun i hi => ?_, .inr ⟨rfl, rfl, ?_, rfl⟩⟩, ?_, ?_⟩
  · rw [e, hs, hk.quo, h.wr]
    simp
  · obtain rfl : i = 0 := by rw [nL_mk] at hi; simpa using hi
    exact h.fit
  · obtain rfl : i = 0 := by rw [nK_mk] at hi; simpa using hi
    have := hk.size
    show k.size ≤ _
    omega
  · obtain rfl : i = 0 := by rw [nL_mk] at hi; simpa using hi
    exact h.good
  · show (true && (okS k && decide (k.size ≤ 4000))) = true
    have := hk.size
    rw [hk.ok, decide_eq_true (by omega)]
    rfl
  · show mkT 6 0 ByteArray.empty [canT f t] [k] = _
    rw [h.can]
  · have h1 : s'.size = s'.data.toList.length := rfl
    have h2 : s.size = s.data.toList.length := rfl
    have h3 : k.size = k.data.toList.length := rfl
    have h4 := h.size
    rw [h1, hs]
    simp only [List.length_cons, List.length_append, List.length_nil]
    omega
theorem Rep.lst1 {f : Nat} {t : T} {s : ByteArray} {n : Nat} (h : Rep f t s n) {s' : ByteArray} (hs : s'.data.toList = 91 :: (s.data.toList ++ [93])) : Rep (f + 1) (mkT 5 0 ByteArray.empty [t] []) s' (n + 2) := by
  have e : wrT (f + 1) (mkT 5 0 ByteArray.empty [t] []) = 91 :: (([] ++ ([] ++ wrT f t)) ++ [93]) := rfl
  refine ⟨?_, ⟨fits_small (by omega) (by omega) _ _ (by simp) (by simp), fun i hi => ?_, fun i hi => ?_⟩, .inr ⟨rfl, noText_mk _ _ _ _, fun i hi => ?_, .inl ⟨rfl, rfl⟩⟩, ?_, ?_⟩
  · rw [e, hs, h.wr]
    simp
  · obtain rfl : i = 0 := by rw [nL_mk] at hi; simpa using hi
    exact h.fit
  · rw [nK_mk] at hi; exact absurd hi (Nat.not_lt_zero i)
  · obtain rfl : i = 0 := by rw [nL_mk] at hi; simpa using hi
    exact h.good
  · show mkT 5 0 ByteArray.empty [canT f t] [] = _
    rw [h.can]
  · have h1 : s'.size = s'.data.toList.length := rfl
    have h2 : s.size = s.data.toList.length := rfl
    have h4 := h.size
    rw [h1, hs]
    simp only [List.length_cons, List.length_append, List.length_nil]
    omega
theorem Rep.lst2 {f : Nat} {t u : T} {s r : ByteArray} {n m : Nat} (h : Rep f t s n) (g : Rep f u r m) {s' : ByteArray} (hs : s'.data.toList = 91 :: (s.data.toList ++ (44 :: (r.data.toList ++ [93])))) : Rep (f + 1) (mkT 5 0 ByteArray.empty [t, u] []) s' (n + m + 3) := by
  have e : wrT (f + 1) (mkT 5 0 ByteArray.empty [t, u] []) = 91 :: ((([] ++ ([] ++ wrT f t)) ++ ([44] ++ wrT f u)) ++ [93]) := rfl
  have two : ∀ i, i < nL (mkT 5 0 ByteArray.empty [t, u] []) → i = 0 ∨ i = 1 := fun i hi => by rw [nL_mk] at hi; simp at hi; omega
  refine ⟨?_, ⟨fits_small (by omega) (by omega) _ _ (by simp) (by simp), fun i hi => ?_, fun i hi => ?_⟩, .inr ⟨rfl, noText_mk _ _ _ _, fun i hi => ?_, .inl ⟨rfl, rfl⟩⟩, ?_, ?_⟩
  · rw [e, hs, h.wr, g.wr]
    simp
  · rcases two i hi with rfl | rfl
    · exact h.fit
    · exact g.fit
  · rw [nK_mk] at hi; exact absurd hi (Nat.not_lt_zero i)
  · rcases two i hi with rfl | rfl
    · exact h.good
    · exact g.good
  · show mkT 5 0 ByteArray.empty [canT f t, canT f u] [] = _
    rw [h.can, g.can]
  · have h1 : s'.size = s'.data.toList.length := rfl
    have h2 : s.size = s.data.toList.length := rfl
    have h3 : r.size = r.data.toList.length := rfl
    have h4 := h.size
    have h5 := g.size
    rw [h1, hs]
    simp only [List.length_cons, List.length_append, List.length_nil]
    omega
/-- The values. -/
theorem tv_repB : ((List.range 13).all fun f => decide (f < 3) || (List.range 36).all fun i => decide (wrT f (tv i) = (vt i).data.toList) && fitB (f + 1) (tv i) && (chkT f (tv i) 1048576).isSome) = true := by kernel_rfl
theorem tv_canB : (List.range 10).map (fun f => (List.range 36).map (fun i => canT (f + 3) (tv i))) = (List.range 10).map (fun _ => (List.range 36).map tv) := by kernel_rfl
theorem tv_rep {i f : Nat} (hi : i < 36) (h3 : 3 ≤ f) (h12 : f ≤ 12) : Rep f (tv i) (vt i) 10 := by
  have h1 := List.all_eq_true.1 tv_repB f (List.mem_range.2 (by omega))
  rw [decide_eq_false (by omega), Bool.false_or] at h1
  have h2 := List.all_eq_true.1 h1 i (List.mem_range.2 hi)
  simp only [Bool.and_eq_true, decide_eq_true_eq] at h2
  obtain ⟨⟨a, b⟩, c⟩ := h2
  refine ⟨a.symm, fitB_fit _ _ b, ?_, ?_, vt_le hi⟩
  · rcases chk_says f (tv i) 1048576 (by omega) with ⟨_, h, _⟩ | ⟨h, _⟩
    · exact h
    · rw [h] at c; cases c
  · obtain ⟨g, rfl⟩ : ∃ g, f = g + 3 := ⟨f - 3, by omega⟩
    have h4 := congrArg (fun l => l[g]?) tv_canB
    simp only [List.getElem?_map, List.getElem?_range (show g < 10 by omega), Option.map_some, Option.some.injEq] at h4
    have h5 := congrArg (fun l => l[i]?) h4
    simpa [hi] using h5
theorem valS_isV (c : Int) : IsV (valS c) := by
  unfold valS
  have hk : absZ c % 8 = 0 ∨ absZ c % 8 = 1 ∨ absZ c % 8 = 2 ∨ absZ c % 8 = 3 ∨ absZ c % 8 = 4 ∨ absZ c % 8 = 5 ∨ absZ c % 8 = 6 ∨ absZ c % 8 = 7 := by omega
  generalize absZ c % 1099511627776 = P
  rcases hk with h | h | h | h | h | h | h | h <;> rw [h]
  · exact isV_num (P / 8)
  · exact isV_num (P / 8)
  · exact isV_num (P / 8)
  · exact isV_txt (x := P / 8 % 3) (by omega) (by omega)
  · exact isV_list (x := P / 8 % 4) (y := P / 8 / 4 % 4) (by omega) (by omega) (by omega) (by omega)
  · exact isV_obj (x := P / 8 % 4) (by omega) (by omega)
  · rw [valK6 rfl]
    split
    · exact ⟨0, by omega, rfl⟩
    · split
      · exact ⟨2, by omega, rfl⟩
      · exact ⟨1, by omega, rfl⟩
  · exact ⟨15, by omega, rfl⟩
theorem nT_rep {n : Int} (h0 : 0 ≤ n) (h1 : n < 30) (f : Nat) : Rep (f + 1) (nT n) (baL (Lib.itoa n)) 10 := by
  refine ⟨?_, ⟨⟨by show -9223372036854775808 ≤ (3 : Int); omega, by show (3 : Int) ≤ 9223372036854775807; omega, by show -9223372036854775808 ≤ n; omega, by show n ≤ 9223372036854775807; omega, by show (0 : Nat) ≤ _; omega, by show (0 : Nat) ≤ _; omega, by show (0 : Nat) ≤ _; omega⟩, fun i hi => absurd hi (Nat.not_lt_zero i), fun i hi => absurd hi (Nat.not_lt_zero i)⟩, nT_good n _, rfl, by have := itoa30 h0 h1; omega⟩
  rw [wrT_leaf (by show (3 : Int) ≠ 5; decide) (by show (3 : Int) ≠ 6; decide)]
  show (baL (Lib.itoa n)).data.toList = Lib.itoa n
  simp [baL]
end Go.Proofs.YtknakfpciccoaaaGreatDoor
