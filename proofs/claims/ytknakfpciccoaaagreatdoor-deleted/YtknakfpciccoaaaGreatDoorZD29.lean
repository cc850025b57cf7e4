import Derived.Test.YtknakfpciccoaaaGreatDoorZD28
import Derived.Test.YtknakfpciccoaaaGreatDoorZD27
/- The tests of the statements, as trees. -/
namespace Go.Proofs.YtknakfpciccoaaaGreatDoor
open Go.RowKit

/-- A text is a test: an operator and what it is held against. -/
structure TstR (op : ByteArray) (j : T) (s : ByteArray) : Prop where
  pln : Pln op
  txt : ∃ r : ByteArray, s.data.toList = 34 :: (op.data.toList ++ (34 :: 58 :: r.data.toList)) ∧ ∀ f, 5 ≤ f → f ≤ 12 → Rep f j r 30
  ok : ∀ m, okTs (m + 2) (mkT 6 0 ByteArray.empty [j] [op]) = true
  ev : ∃ p : T → Bool → Bool, ∀ m v th, evT (m + 2) (op, j) v th = p v th
  isop : isOp op = true
  small : op.size ≤ 10
theorem Pln.mk' {k : ByteArray} (h : (decide (quoL k = 34 :: (k.data.toList ++ [34])) && okS k && decide (k.size ≤ 100)) = true) : Pln k := by
  simp only [Bool.and_eq_true, decide_eq_true_eq] at h
  exact ⟨h.1.1, h.1.2, h.2⟩
theorem TstR.size {op : ByteArray} {j : T} {s : ByteArray} (h : TstR op j s) : s.size ≤ 44 := by
  obtain ⟨r, hr, hj⟩ := h.txt
  have h1 := (hj 5 (by omega) (by omega)).size
  have h2 : s.size = s.data.toList.length := rfl
  have h3 : r.size = r.data.toList.length := rfl
  have h4 : op.size = op.data.toList.length := rfl
  have h5 := h.small
  rw [h2, hr]
  simp only [List.length_cons, List.length_append]
  omega
/-- The test in braces. -/
theorem TstR.obj {op : ByteArray} {j : T} {s : ByteArray} (h : TstR op j s) {s' : ByteArray} (hs : s'.data.toList = 123 :: (s.data.toList ++ [125])) {f : Nat} (h5 : 6 ≤ f) (h12 : f ≤ 12) : Rep f (mkT 6 0 ByteArray.empty [j] [op]) s' 50 := by
  obtain ⟨r, hr, hj⟩ := h.txt
  obtain ⟨g, rfl⟩ : ∃ g, f = g + 1 := ⟨f - 1, by omega⟩
  refine ((hj g (by omega) (by omega)).obj h.pln (s' := s') ?_).le (by have := h.small; omega)
  rw [hs, hr]
  simp
theorem low_ok (op : ByteArray) (j : T) (h : plainOp op) (m : Nat) : okTs (m + 1) (mkT 6 0 ByteArray.empty [j] [op]) = true := by
  show (true && (true && okT1 (okTs m) op j)) = true
  unfold okT1
  rw [if_pos h]
  rfl
theorem one_okTs (op : ByteArray) (j : T) (m : Nat) : okTs (m + 1) (mkT 6 0 ByteArray.empty [j] [op]) = okT1 (okTs m) op j := by
  show (true && (true && okT1 (okTs m) op j)) = _
  simp
theorem tst_low {op : ByteArray} (h : op = opEq ∨ op = opNe ∨ op = opGt ∨ op = opGte ∨ op = opLt ∨ op = opLte) {i : Nat} (hi : i < 36) {s : ByteArray} (hs : s.data.toList = 34 :: (op.data.toList ++ (34 :: 58 :: (vt i).data.toList))) : TstR op (tv i) s := by
  refine ⟨?_, ⟨vt i, hs, fun f h3 h12 => (tv_rep hi (by omega) h12).le (by omega)⟩, fun m => low_ok op _ h _, ?_, ?_, ?_⟩
  · rcases h with rfl | rfl | rfl | rfl | rfl | rfl <;> exact Pln.mk' (by kernel_rfl)
  · refine ⟨fun v th => evT 2 (op, tv i) v th, fun m v th => ?_⟩
    rcases h with rfl | rfl | rfl | rfl | rfl | rfl <;> rfl
  · rcases h with rfl | rfl | rfl | rfl | rfl | rfl <;> kernel_rfl
  · rcases h with rfl | rfl | rfl | rfl | rfl | rfl <;> decide
theorem bool_list (b : Bool) : ∃ i, i < 36 ∧ kindOf (tv i) = 2 ∧ vt i = if b then ⟨#[116, 114, 117, 101]⟩ else ⟨#[102, 97, 108, 115, 101]⟩ := by
  cases b
  · exact ⟨1, by omega, by kernel_rfl, by kernel_rfl⟩
  · exact ⟨2, by omega, by kernel_rfl, by kernel_rfl⟩
theorem tst_rep (c : Int) : ∃ op j, TstR op j (tstS c) := by
  unfold tstS
  have hk : absZ c % 11 = 0 ∨ absZ c % 11 = 1 ∨ absZ c % 11 = 2 ∨ absZ c % 11 = 3 ∨ absZ c % 11 = 4 ∨ absZ c % 11 = 5 ∨ absZ c % 11 = 6 ∨ absZ c % 11 = 7 ∨ absZ c % 11 = 8 ∨ absZ c % 11 = 9 ∨ absZ c % 11 = 10 := by omega
  generalize absZ c % 1099511627776 = P
  obtain ⟨i, hi, hv⟩ := valS_isV (P / 11)
  obtain ⟨i2, hi2, hv2⟩ := valS_isV (P / 11 / 16)
  rcases hk with h | h | h | h | h | h | h | h | h | h | h <;> rw [h]
  · exact ⟨opEq, tv i, tst_low (.inl rfl) hi (by show ((opS 0 ++ ⟨#[58]⟩) ++ valS (P / 11)).data.toList = _; rw [hv, app_list, app_list]; rfl)⟩
  · exact ⟨opNe, tv i, tst_low (.inr (.inl rfl)) hi (by show ((opS 1 ++ ⟨#[58]⟩) ++ valS (P / 11)).data.toList = _; rw [hv, app_list, app_list]; rfl)⟩
  · exact ⟨opGt, tv i, tst_low (.inr (.inr (.inl rfl))) hi (by show ((opS 2 ++ ⟨#[58]⟩) ++ valS (P / 11)).data.toList = _; rw [hv, app_list, app_list]; rfl)⟩
  · exact ⟨opGte, tv i, tst_low (.inr (.inr (.inr (.inl rfl)))) hi (by show ((opS 3 ++ ⟨#[58]⟩) ++ valS (P / 11)).data.toList = _; rw [hv, app_list, app_list]; rfl)⟩
  · exact ⟨opLt, tv i, tst_low (.inr (.inr (.inr (.inr (.inl rfl))))) hi (by show ((opS 4 ++ ⟨#[58]⟩) ++ valS (P / 11)).data.toList = _; rw [hv, app_list, app_list]; rfl)⟩
  · exact ⟨opLte, tv i, tst_low (.inr (.inr (.inr (.inr (.inr rfl))))) hi (by show ((opS 5 ++ ⟨#[58]⟩) ++ valS (P / 11)).data.toList = _; rw [hv, app_list, app_list]; rfl)⟩
  · refine ⟨opIn, mkT 5 0 ByteArray.empty [tv i, tv i2] [], Pln.mk' (by kernel_rfl), ⟨((⟨#[91]⟩ ++ vt i) ++ ⟨#[44]⟩) ++ vt i2 ++ ⟨#[93]⟩, ?_, fun f h5 h12 => ?_⟩, fun m => ?_, ⟨fun v th => evT 2 (opIn, mkT 5 0 ByteArray.empty [tv i, tv i2] []) v th, fun m v th => rfl⟩, by kernel_rfl, by decide⟩
    · show ((((⟨#[34, 36, 105, 110, 34, 58, 91]⟩ ++ valS (P / 11)) ++ ⟨#[44]⟩) ++ valS (P / 11 / 16)) ++ ⟨#[93]⟩ : ByteArray).data.toList = _
      rw [hv, hv2]
      simp only [app_list]
      rfl
    · obtain ⟨g, rfl⟩ : ∃ g, f = g + 1 := ⟨f - 1, by omega⟩
      refine ((tv_rep hi (f := g) (by omega) (by omega)).lst2 (tv_rep hi2 (by omega) (by omega)) ?_).le (by omega)
      simp only [app_list]
      simp
    · rw [one_okTs]; kernel_rfl
  · obtain ⟨k, hk, hkk, hkt⟩ := bool_list (decide (P / 11 % 2 = 0))
    refine ⟨opExists, tv k, Pln.mk' (by kernel_rfl), ⟨vt k, ?_, fun f h5 h12 => (tv_rep hk (by omega) h12).le (by omega)⟩, fun m => ?_, ⟨fun v th => evT 2 (opExists, tv k) v th, fun m v th => rfl⟩, by kernel_rfl, by decide⟩
    · show (⟨#[34, 36, 101, 120, 105, 115, 116, 115, 34, 58]⟩ ++ (if P / 11 % 2 = 0 then ⟨#[116, 114, 117, 101]⟩ else ⟨#[102, 97, 108, 115, 101]⟩) : ByteArray).data.toList = _
      rw [hkt, app_list]
      simp only [decide_eq_true_eq]
      rfl
    · rw [one_okTs]
      show (kindOf (tv k) == 2) = true
      rw [hkk]
      rfl
  · refine ⟨opKind, nT (1 + P / 11 % 6), Pln.mk' (by kernel_rfl), ⟨baL (Lib.itoa (1 + P / 11 % 6)), ?_, fun f h5 h12 => ?_⟩, fun m => ?_, ⟨fun v th => evT 2 (opKind, nT (1 + P / 11 % 6)) v th, fun m v th => rfl⟩, by kernel_rfl, by decide⟩
    · show (⟨#[34, 36, 107, 105, 110, 100, 34, 58]⟩ ++ baL (Lib.itoa (1 + P / 11 % 6)) : ByteArray).data.toList = _
      rw [app_list]
      rfl
    · obtain ⟨g, rfl⟩ : ∃ g, f = g + 1 := ⟨f - 1, by omega⟩
      exact (nT_rep (by omega) (by omega) g).le (by omega)
    · rw [one_okTs]
      show ((true && decide (1 ≤ 1 + P / 11 % 6)) && decide (1 + P / 11 % 6 ≤ 6)) = true
      rw [decide_eq_true (by omega), decide_eq_true (by omega)]
      rfl
  · refine ⟨opAny, mkT 6 0 ByteArray.empty [nT (P / 11 % 4)] [opGt], Pln.mk' (by kernel_rfl), ⟨(⟨#[123, 34, 36, 103, 116, 34, 58]⟩ ++ baL (Lib.itoa (P / 11 % 4))) ++ ⟨#[125]⟩, ?_, fun f h5 h12 => ?_⟩, fun m => ?_, ⟨fun v th => evT 2 (opAny, mkT 6 0 ByteArray.empty [nT (P / 11 % 4)] [opGt]) v th, fun m v th => rfl⟩, by kernel_rfl, by decide⟩
    · show ((⟨#[34, 36, 97, 110, 121, 34, 58, 123, 34, 36, 103, 116, 34, 58]⟩ ++ baL (Lib.itoa (P / 11 % 4))) ++ ⟨#[125]⟩ : ByteArray).data.toList = _
      simp only [app_list]
      rfl
    · obtain ⟨g, rfl⟩ : ∃ g, f = g + 1 + 1 := ⟨f - 2, by omega⟩
      refine ((nT_rep (n := P / 11 % 4) (by omega) (by omega) g).obj (k := opGt) (Pln.mk' (by kernel_rfl)) ?_).le (by have : opGt.size = 3 := rfl; omega)
      simp only [app_list]
      rfl
    · rw [one_okTs]
      show okTs (m + 1) (mkT 6 0 ByteArray.empty [nT (P / 11 % 4)] [opGt]) = true
      exact low_ok _ _ (.inr (.inr (.inl rfl))) m
  · refine ⟨opSize, nT (P / 11 % 4), Pln.mk' (by kernel_rfl), ⟨baL (Lib.itoa (P / 11 % 4)), ?_, fun f h5 h12 => ?_⟩, fun m => ?_, ⟨fun v th => evT 2 (opSize, nT (P / 11 % 4)) v th, fun m v th => rfl⟩, by kernel_rfl, by decide⟩
    · show (⟨#[34, 36, 115, 105, 122, 101, 34, 58]⟩ ++ baL (Lib.itoa (P / 11 % 4)) : ByteArray).data.toList = _
      rw [app_list]
      rfl
    · obtain ⟨g, rfl⟩ : ∃ g, f = g + 1 := ⟨f - 1, by omega⟩
      exact (nT_rep (by omega) (by omega) g).le (by omega)
    · rw [one_okTs]
      show (true && decide (0 ≤ P / 11 % 4)) = true
      rw [decide_eq_true (by omega)]
      rfl
end Go.Proofs.YtknakfpciccoaaaGreatDoor
/- The filters of the statements, as trees: they are filters; what they say. -/
namespace Go.Proofs.YtknakfpciccoaaaGreatDoor
open Go.RowKit

theorem evF_one (x : ByteArray) (j : T) (m : Nat) (doc : T) : evF (m + 1) (mkT 6 0 ByteArray.empty [j] [x]) doc = evC (evF m) x j doc := by
  show (true && evC (evF m) x j doc) = _
  rw [Bool.true_and]
theorem okFil_one (x : ByteArray) (j : T) (m : Nat) : okFil (m + 1) (mkT 6 0 ByteArray.empty [j] [x]) = okC (okFil m) x j := by
  show (true && (true && okC (okFil m) x j)) = _
  rw [Bool.true_and, Bool.true_and]
theorem evC_or (g : T → T → Bool) (t u doc : T) : evC g opOr (mkT 5 0 ByteArray.empty [t, u] []) doc = (g t doc || g u doc) := by
  unfold evC
  rw [if_neg (by decide), if_pos rfl]
  show ((false || g t doc) || g u doc) = _
  rw [Bool.false_or]
theorem evC_nor (g : T → T → Bool) (t doc : T) : evC g opNor (mkT 5 0 ByteArray.empty [t] []) doc = !(g t doc) := by
  unfold evC
  rw [if_neg (by decide), if_neg (by decide), if_pos rfl]
  show (!(false || g t doc)) = _
  rw [Bool.false_or]
theorem okC_two (g : T → Bool) {x : ByteArray} (hx : x = opAnd ∨ x = opOr ∨ x = opNor) {t u : T} (h1 : g t = true) (h2 : g u = true) : okC g x (mkT 5 0 ByteArray.empty [t, u] []) = true := by
  unfold okC
  rw [if_pos hx]
  show (true && ((true && g t) && g u)) = true
  rw [h1, h2]
  rfl
theorem okC_one (g : T → Bool) {x : ByteArray} (hx : x = opAnd ∨ x = opOr ∨ x = opNor) {t : T} (h1 : g t = true) : okC g x (mkT 5 0 ByteArray.empty [t] []) = true := by
  unfold okC
  rw [if_pos hx]
  show (true && (true && g t)) = true
  rw [h1]
  rfl
/-- A path, as a name. -/
structure PthR (x : ByteArray) : Prop where
  pln : Pln x
  plain : plainN x
  ok : (!isOp x && pathOk x) = true
  small : x.size ≤ 3
theorem pth_r {k : Nat} (hk : k < 6) : PthR (pth k) := by
  match k, hk with
  | 0, _ => exact ⟨Pln.mk' (by kernel_rfl), ⟨by decide, by decide, by decide⟩, by kernel_rfl, by decide⟩
  | 1, _ => exact ⟨Pln.mk' (by kernel_rfl), ⟨by decide, by decide, by decide⟩, by kernel_rfl, by decide⟩
  | 2, _ => exact ⟨Pln.mk' (by kernel_rfl), ⟨by decide, by decide, by decide⟩, by kernel_rfl, by decide⟩
  | 3, _ => exact ⟨Pln.mk' (by kernel_rfl), ⟨by decide, by decide, by decide⟩, by kernel_rfl, by decide⟩
  | 4, _ => exact ⟨Pln.mk' (by kernel_rfl), ⟨by decide, by decide, by decide⟩, by kernel_rfl, by decide⟩
  | 5, _ => exact ⟨Pln.mk' (by kernel_rfl), ⟨by decide, by decide, by decide⟩, by kernel_rfl, by decide⟩
theorem evC_plain {x : ByteArray} (h : plainN x) (g : T → T → Bool) (j doc : T) : evC g x j doc = evP (splitP x) (exps j) doc := by
  unfold evC
  rw [if_neg h.1, if_neg h.2.1, if_neg h.2.2]
theorem okC_plain {x : ByteArray} (h : PthR x) (g : T → Bool) {j : T} (hj : okEx j = true) : okC g x j = true := by
  unfold okC
  rw [if_neg (by rintro (e | e | e); exact h.plain.1 e; exact h.plain.2.1 e; exact h.plain.2.2 e), h.ok, hj]
  rfl
/-- A text is an entry of a filter, without its braces. -/
structure EntR (t : T) (s : ByteArray) : Prop where
  rep : ∀ s' : ByteArray, s'.data.toList = 123 :: (s.data.toList ++ [125]) → ∀ f, 7 ≤ f → f ≤ 12 → Rep f t s' 60
  ok : ∀ m, okFil (m + 1) t = true
  ev : ∃ p : T → Bool, ∀ m doc, evF (m + 1) t doc = p doc
  size : s.size ≤ 60
theorem ent_mk {x : ByteArray} (hx : PthR x) {j : T} (hj : okEx j = true) {r : ByteArray} (hr : ∀ f, 6 ≤ f → f ≤ 12 → Rep f j r 50) {s : ByteArray} (hs : s.data.toList = 34 :: (x.data.toList ++ (34 :: 58 :: r.data.toList))) : EntR (mkT 6 0 ByteArray.empty [j] [x]) s := by
  refine ⟨fun s' hs' f h7 h12 => ?_, fun m => ?_, ⟨fun doc => evP (splitP x) (exps j) doc, fun m doc => ?_⟩, ?_⟩
  · obtain ⟨g, rfl⟩ : ∃ g, f = g + 1 := ⟨f - 1, by omega⟩
    refine ((hr g (by omega) (by omega)).obj hx.pln ?_).le (by have := hx.small; omega)
    rw [hs', hs]
    simp
  · rw [okFil_one]; exact okC_plain hx _ hj
  · rw [evF_one, evC_plain hx.plain]
  · have h1 := (hr 6 (by omega) (by omega)).size
    have h2 : s.size = s.data.toList.length := rfl
    have h3 : r.size = r.data.toList.length := rfl
    have h4 : x.size = x.data.toList.length := rfl
    have h5 := hx.small
    rw [h2, hs]
    simp only [List.length_cons, List.length_append]
    omega
theorem tv_okExB : ((List.range 36).all fun i => okEx (tv i)) = true := by kernel_rfl
theorem tv_okEx {i : Nat} (h : i < 36) : okEx (tv i) = true := List.all_eq_true.1 tv_okExB i (List.mem_range.2 h)
theorem ent_val {x : ByteArray} (hx : PthR x) {i : Nat} (hi : i < 36) {s : ByteArray} (hs : s.data.toList = 34 :: (x.data.toList ++ (34 :: 58 :: (vt i).data.toList))) : ∃ t, EntR t s :=
  ⟨_, ent_mk hx (tv_okEx hi) (fun f h6 h12 => (tv_rep hi (by omega) h12).le (by omega)) hs⟩
theorem opObj_one {op : ByteArray} (h : isOp op = true) (j : T) : opObj (mkT 6 0 ByteArray.empty [j] [op]) := ⟨rfl, Nat.zero_lt_one, h⟩
theorem okEx_tst {op : ByteArray} {j : T} {r : ByteArray} (h : TstR op j r) : okEx (mkT 6 0 ByteArray.empty [j] [op]) = true := by
  unfold okEx
  rw [if_pos (opObj_one h.isop j)]
  exact h.ok 14
theorem ent_tst {x : ByteArray} (hx : PthR x) {op : ByteArray} {j : T} {r : ByteArray} (h : TstR op j r) {s : ByteArray} (hs : s.data.toList = 34 :: (x.data.toList ++ (34 :: 58 :: 123 :: (r.data.toList ++ [125])))) : EntR (mkT 6 0 ByteArray.empty [mkT 6 0 ByteArray.empty [j] [op]] [x]) s :=
  ent_mk hx (okEx_tst h) (r := (⟨#[123]⟩ ++ r) ++ ⟨#[125]⟩) (fun f h6 h12 => h.obj (by simp only [app_list]; simp) h6 h12) (by rw [hs]; simp only [app_list]; simp)
/-- A text is a filter. -/
structure FilR (t : T) (s : ByteArray) : Prop where
  rep : ∀ f, 9 ≤ f → f ≤ 12 → Rep f t s 150
  ok : ∀ m, okFil (m + 2) t = true
  ev : ∃ p : T → Bool, ∀ m doc, evF (m + 2) t doc = p doc
theorem fil_one {t : T} {s : ByteArray} (h : EntR t s) {s' : ByteArray} (hs : s'.data.toList = 123 :: (s.data.toList ++ [125])) : FilR t s' := by
  obtain ⟨p, hp⟩ := h.ev
  exact ⟨fun f h9 h12 => (h.rep s' hs f (by omega) h12).le (by omega), fun m => h.ok _, p, fun m doc => hp _ doc⟩
theorem fil_or {t u : T} {s r : ByteArray} (h : EntR t s) (g : EntR u r) {s' : ByteArray} (hs : s'.data.toList = [123, 34, 36, 111, 114, 34, 58, 91, 123] ++ (s.data.toList ++ ([125, 44, 123] ++ (r.data.toList ++ [125, 93, 125])))) : FilR (mkT 6 0 ByteArray.empty [mkT 5 0 ByteArray.empty [t, u] []] [opOr]) s' := by
  obtain ⟨p, hp⟩ := h.ev
  obtain ⟨q, hq⟩ := g.ev
  refine ⟨fun f h9 h12 => ?_, fun m => ?_, ⟨fun doc => p doc || q doc, fun m doc => ?_⟩⟩
  · obtain ⟨k, rfl⟩ : ∃ k, f = k + 1 + 1 := ⟨f - 2, by omega⟩
    have h1 := h.rep ((⟨#[123]⟩ ++ s) ++ ⟨#[125]⟩) (by simp only [app_list]; simp) k (by omega) (by omega)
    have h2 := g.rep ((⟨#[123]⟩ ++ r) ++ ⟨#[125]⟩) (by simp only [app_list]; simp) k (by omega) (by omega)
    have h3 := h1.lst2 h2 (s' := (⟨#[91, 123]⟩ ++ s) ++ (⟨#[125, 44, 123]⟩ ++ (r ++ ⟨#[125, 93]⟩))) (by simp only [app_list]; simp)
    refine (h3.obj (k := opOr) (Pln.mk' (by kernel_rfl)) ?_).le (by have : opOr.size = 3 := rfl; omega)
    rw [hs]
    simp only [app_list]
    simp
    rfl
  · rw [okFil_one]
    exact okC_two _ (.inr (.inl rfl)) (h.ok m) (g.ok m)
  · rw [evF_one, evC_or, hp, hq]
/-- What the statements make of filters. -/
theorem fil_nor {t : T} {s : ByteArray} (h : FilR t s) {s' : ByteArray} (hs : s'.data.toList = [123, 34, 36, 110, 111, 114, 34, 58, 91] ++ (s.data.toList ++ [93, 125])) : eJ s' = 0 ∧ tJ s' = mkT 6 0 ByteArray.empty [mkT 5 0 ByteArray.empty [t] []] [opNor] := by
  have h1 := (h.rep 10 (by omega) (by omega)).lst1 (s' := (⟨#[91]⟩ ++ s) ++ ⟨#[93]⟩) (by simp only [app_list]; simp)
  refine (h1.obj (k := opNor) (Pln.mk' (by kernel_rfl)) (s' := s') ?_).parse (by have : opNor.size = 4 := rfl; omega)
  rw [hs]
  simp only [app_list]
  simp
  rfl
end Go.Proofs.YtknakfpciccoaaaGreatDoor
/- The walks of entry and filter of the statements. -/
namespace Go.Proofs.YtknakfpciccoaaaGreatDoor
open Go.RowKit

theorem tdiv_bd {c : Int} (h0 : -9223372036854775808 ≤ c) (h1 : c ≤ 9223372036854775807) (m : Nat) (hm : 0 < m) : -9223372036854775808 ≤ c.tdiv m ∧ c.tdiv m ≤ 9223372036854775807 := by
  by_cases h : 0 ≤ c
  · rw [Int.tdiv_eq_ediv_of_nonneg h]
    have h2 : 0 ≤ c / (m : Int) := Int.ediv_nonneg h (by omega)
    have h3 : c / (m : Int) ≤ c := Int.ediv_le_self _ h
    omega
  · have e : c.tdiv m = -((-c).tdiv m) := by rw [Int.neg_tdiv]; simp
    rw [e, Int.tdiv_eq_ediv_of_nonneg (by omega)]
    have h2 : 0 ≤ (-c) / (m : Int) := Int.ediv_nonneg (by omega) (by omega)
    have h3 : (-c) / (m : Int) ≤ -c := Int.ediv_le_self _ (by omega)
    omega
set_option maxHeartbeats 8000000 in
set_option maxRecDepth 100000 in
theorem entry_any {Tb : World → Prop} (hI : ItoaSaid Tb) (hL : Lies Tb) (c : Int) (w : World) (h0 : -9223372036854775808 ≤ c) (h1 : c ≤ 9223372036854775807) (hT : Tb w) :
    Calls Tryz.prog 62 #[.int .i64 c] w fun e w' => Below w.heap.size w w' ∧ ∃ s t, e = .returned (.string s) ∧ EntR t s := by
  have HP1 := hid (fun w => pick_any c 1099511627776 w h0 h1 (by omega) (by omega))
  have HP2 := hid (fun w => pick_any c 4 w h0 h1 (by omega) (by omega))
  have HT : Hid (∀ w' : World, Below w.heap.size w w' → Tb w') := fun w' hb => hL w hT w w' hT hb
  have hb := absZ_bd h0 h1
  obtain ⟨P, hP⟩ : ∃ P, absZ c % 1099511627776 = P := ⟨_, rfl⟩
  obtain ⟨k, hk⟩ : ∃ k, absZ c % 4 = k := ⟨_, rfl⟩
  have p0 : 0 ≤ P := by omega
  have p1 : P ≤ 1099511627776 := by omega
  rw [hP] at HP1
  rw [hk] at HP2
  have HV : Hid (∀ w : World, Tb w → Calls Tryz.prog 21 #[.int .i64 (P / 6)] w (ValPostD (P / 6) w)) := fun w ht => value_det hI hL (P / 6) w (by omega) (by omega) ht
  have HTs : Hid (∀ w : World, Tb w → Calls Tryz.prog 30 #[.int .i64 (P / 6)] w fun e w' => e = .returned (.string (tstS (P / 6))) ∧ Below w.heap.size w w') := fun w ht => test_any hI hL (P / 6) w (by omega) (by omega) ht
  have hqb : -9223372036854775808 ≤ c.tdiv 4 ∧ c.tdiv 4 ≤ 9223372036854775807 := tdiv_bd h0 h1 4 (by omega)
  have hq : IntKind.i64.wrap (c.tdiv 4) = c.tdiv 4 := by rw [IntKind.wrap_i64]; omega
  have HPa := hid (fun w => path_any (c.tdiv 4) w hqb.1 hqb.2)
  have HPx := hid (pth_r (pthN_lt (c.tdiv 4)))
  obtain ⟨px, hpx⟩ : ∃ px, pth (pthN (c.tdiv 4)) = px := ⟨_, rfl⟩
  rw [hpx] at HPa HPx
  have hzx := HPx.out.small
  have HQu := hid (fun w => quoted_any px w (by omega))
  obtain ⟨qx, hqx⟩ : ∃ qx, (⟨#[34]⟩ ++ px) ++ ⟨#[34]⟩ = qx := ⟨_, rfl⟩
  rw [hqx] at HQu
  have hqz : qx.size ≤ 5 := by
    rw [← hqx]
    simp only [ByteArray.size_append]
    have : (⟨#[34]⟩ : ByteArray).size = 1 := rfl
    omega
  have Hqx := hid hqx
  clear hqx hpx hP hk hb hqb hI hL hT h0 h1 hzx
  by_cases hk0 : k = 0
  · subst hk0
    obtain ⟨a1, e1, z1, r1⟩ := cat_run qx ⟨#[58]⟩ qx.size 1 rfl rfl (by omega)
    have HE1 := hid e1
    have hz1 : a1.size ≤ 6 := by omega
    clear e1 z1
    go_enter Tryz.func62, Tryz.ntmps62
    go_wp2_with fail
    refine (HP1.out w).mono ?_
    rintro e w ⟨rfl, rfl⟩
    go_wp2_with fail
    refine (HP2.out _).mono ?_
    rintro e w ⟨rfl, rfl⟩
    go_wp2_with fail
    refine (HPa.out _).mono ?_
    rintro e w1 ⟨rfl, b1⟩
    have HB1 := hid b1
    clear b1
    go_wp2_with fail
    refine (HQu.out _).mono ?_
    rintro e w2 ⟨rfl, rfl⟩
    go_wp2_with fail
    refine (HV.out _ (HT.out _ HB1.out)).mono ?_
    rintro e w3 ⟨sv, ⟨⟨i, hi, hiv⟩, hval⟩, rfl, b3⟩
    clear hval
    have hz : sv.size ≤ 10 := by rw [hiv]; exact vt_le hi
    obtain ⟨a2, e2, z2, r2⟩ := cat_run a1 sv a1.size sv.size rfl rfl (by omega)
    have HF : Hid (∃ t, EntR t a2) := by
      refine ent_val HPx.out hi ?_
      rw [e2, HE1.out, ← Hqx.out, hiv]
      simp only [app_list]
      simp
    have HB3 := hid (HB1.out.trans (b3.mono HB1.out.size))
    clear b3 hi hiv hz e2 z2
    go_wp2_with fail
    go_ret
    obtain ⟨t, ht⟩ := HF.out
    exact ⟨HB3.out, a2, t, rfl, ht⟩
  · obtain ⟨a1, e1, z1, r1⟩ := cat_run qx ⟨#[58, 123]⟩ qx.size 2 rfl rfl (by omega)
    have HE1 := hid e1
    have hz1 : a1.size ≤ 7 := by omega
    clear e1 z1
    obtain ⟨op, j, htr⟩ := tst_rep (P / 6)
    have hz := htr.size
    have Htr := hid htr
    clear htr
    generalize tstS (P / 6) = st at HTs hz Htr
    obtain ⟨a2, e2, z2, r2⟩ := cat_run a1 st a1.size st.size rfl rfl (by omega)
    obtain ⟨a3, e3, z3, r3⟩ := cat_run a2 ⟨#[125]⟩ a2.size 1 rfl rfl (by omega)
    have HF : Hid (∃ t, EntR t a3) := by
      refine ⟨_, ent_tst HPx.out Htr.out ?_⟩
      rw [e3, e2, HE1.out, ← Hqx.out]
      simp only [app_list]
      simp
    clear e2 z2 e3 z3 hz hz1
    go_enter Tryz.func62, Tryz.ntmps62
    go_wp2_with fail
    refine (HP1.out w).mono ?_
    rintro e w ⟨rfl, rfl⟩
    go_wp2_with fail
    refine (HP2.out _).mono ?_
    rintro e w ⟨rfl, rfl⟩
    go_wp2_with fail
    refine (HPa.out _).mono ?_
    rintro e w1 ⟨rfl, b1⟩
    have HB1 := hid b1
    clear b1
    go_wp2_with fail
    refine (HQu.out _).mono ?_
    rintro e w2 ⟨rfl, rfl⟩
    go_wp2_with fail
    refine (HTs.out _ (HT.out _ HB1.out)).mono ?_
    rintro e w3 ⟨rfl, b3⟩
    have HB3 := hid (HB1.out.trans (b3.mono HB1.out.size))
    clear b3
    go_wp2_with fail
    go_ret
    obtain ⟨t, ht⟩ := HF.out
    exact ⟨HB3.out, a3, t, rfl, ht⟩
set_option maxHeartbeats 8000000 in
set_option maxRecDepth 100000 in
theorem filterK_any {Tb : World → Prop} (hI : ItoaSaid Tb) (hL : Lies Tb) (c d : Int) (w : World) (h0 : -9223372036854775808 ≤ c) (h1 : c ≤ 9223372036854775807) (d0 : -9223372036854775808 ≤ d) (d1 : d ≤ 9223372036854775807) (hT : Tb w) :
    Calls Tryz.prog 26 #[.int .i64 c, .int .i64 d] w fun e w' => Below w.heap.size w w' ∧ ∃ s t, e = .returned (.string s) ∧ FilR t s := by
  have HT : Hid (∀ w' : World, Below w.heap.size w w' → Tb w') := fun w' hb => hL w hT w w' hT hb
  have hqb : -9223372036854775808 ≤ c.tdiv 24 ∧ c.tdiv 24 ≤ 9223372036854775807 := tdiv_bd h0 h1 24 (by omega)
  have hq : IntKind.i64.wrap (c.tdiv 24) = c.tdiv 24 := by rw [IntKind.wrap_i64]; omega
  have HP := hid (fun w => pick_any (c.tdiv 24) 3 w hqb.1 hqb.2 (by omega) (by omega))
  have HEc := hid (fun w (ht : Tb w) => entry_any hI hL c w h0 h1 ht)
  have HEd := hid (fun w (ht : Tb w) => entry_any hI hL d w d0 d1 ht)
  have HT0 := hid hT
  obtain ⟨k, hk⟩ : ∃ k, absZ (c.tdiv 24) % 3 = k := ⟨_, rfl⟩
  rw [hk] at HP
  clear hk hqb hI hL hT h0 h1 d0 d1
  by_cases hk0 : 0 < k
  · go_enter Tryz.func26, Tryz.ntmps26
    go_wp2_with fail
    refine (HP.out w).mono ?_
    rintro e w ⟨rfl, rfl⟩
    go_wp2_with fail
    refine (HEc.out _ HT0.out).mono ?_
    rintro e w1 ⟨b1, s, t, rfl, hr⟩
    have HB := hid b1
    have hz := hr.size
    obtain ⟨a1, e1, z1, r1⟩ := cat_run ⟨#[123]⟩ s 1 s.size rfl rfl (by omega)
    obtain ⟨a2, e2, z2, r2⟩ := cat_run a1 ⟨#[125]⟩ a1.size 1 rfl rfl (by omega)
    have HF : Hid (FilR t a2) := fil_one hr (by rw [e2, e1]; simp only [app_list]; simp)
    clear b1 hr hz e1 z1 e2 z2
    go_wp2_with fail
    go_ret
    exact ⟨HB.out, a2, t, rfl, HF.out⟩
  · go_enter Tryz.func26, Tryz.ntmps26
    go_wp2_with fail
    refine (HP.out w).mono ?_
    rintro e w ⟨rfl, rfl⟩
    go_wp2_with fail
    refine (HEc.out _ HT0.out).mono ?_
    rintro e w1 ⟨b1, s, t, rfl, hr⟩
    have HB := hid b1
    have hz := hr.size
    have Hr := hid hr
    obtain ⟨a1, e1, z1, r1⟩ := cat_run ⟨#[123, 34, 36, 111, 114, 34, 58, 91, 123]⟩ s 9 s.size rfl rfl (by omega)
    obtain ⟨a2, e2, z2, r2⟩ := cat_run a1 ⟨#[125, 44, 123]⟩ a1.size 3 rfl rfl (by omega)
    have HE2 : Hid (a2 = (⟨#[123, 34, 36, 111, 114, 34, 58, 91, 123]⟩ ++ s) ++ ⟨#[125, 44, 123]⟩) := by show _ = _; rw [e2, e1]
    have hz2 : a2.size ≤ 72 := by omega
    clear b1 hr hz e1 z1 e2 z2
    go_wp2_with fail
    refine (HEd.out _ (HT.out _ HB.out)).mono ?_
    rintro e w3 ⟨b3, s3, u, rfl, hr3⟩
    have hz3 := hr3.size
    obtain ⟨a3, e3, z3, r3⟩ := cat_run a2 s3 a2.size s3.size rfl rfl (by omega)
    obtain ⟨a4, e4, z4, r4⟩ := cat_run a3 ⟨#[125, 93, 125]⟩ a3.size 3 rfl rfl (by omega)
    have HF : Hid (∃ t, FilR t a4) := by
      refine ⟨_, fil_or Hr.out hr3 ?_⟩
      rw [e4, e3, HE2.out]
      simp only [app_list]
      simp
    have HB3 := hid (HB.out.trans (b3.mono HB.out.size))
    clear b3 hr3 hz3 e3 z3 e4 z4 hz2
    go_wp2_with fail
    go_ret
    obtain ⟨t, ht⟩ := HF.out
    exact ⟨HB3.out, a4, t, rfl, ht⟩
end Go.Proofs.YtknakfpciccoaaaGreatDoor
/- The store as names and documents: what each call does to it. -/
namespace Go.Proofs.YtknakfpciccoaaaGreatDoor
open Go.RowKit Go.Maps Go.WideMaps

theorem But2.below {B c : Nat} {g : Option Nat} {w w' : World} (h : But2 c g w w') (hw : B ≤ w.heap.size) (hc : B ≤ c) (hg : ∀ b, g = some b → B ≤ b) : Below B w w' :=
  ⟨h.os, h.tape, h.output, h.size, fun b hb => h.block b (by omega) (by omega) (fun e => by have := hg b e.symm; omega)⟩
/-- A store at p, all of it from the block B on: which documents lie under which name. -/
def StP (B : Nat) (w : World) (p n : Nat) (S : ByteArray → Option (List T)) : Prop :=
  ∃ L m D lf vf xf, StI L w p m n D lf vf xf ∧ (∀ b, L b ≠ 0 → B ≤ b) ∧ (∀ x y (c : Nat), atK D x = .lit (.int .i64 c) → atK D y = .lit (.int .i64 c) → x = y) ∧ ∀ x, (S x = none ∧ atK D x = .nil) ∨ ∃ c : Nat, atK D x = .lit (.int .i64 c) ∧ S x = some (lf c)
def setS (S : ByteArray → Option (List T)) (x : ByteArray) (l : Option (List T)) : ByteArray → Option (List T) := fun y => if y = x then l else S y
theorem setS_same (S : ByteArray → Option (List T)) (x : ByteArray) (l : Option (List T)) : setS S x l x = l := by simp [setS]
theorem setS_other (S : ByteArray → Option (List T)) {x y : ByteArray} (l : Option (List T)) (h : y ≠ x) : setS S x l y = S y := by simp [setS, h]
theorem StP.keep {B : Nat} {w w' : World} {p n : Nat} {S : ByteArray → Option (List T)} (h : StP B w p n S) (hb : Below w.heap.size w w') : StP B w' p n S := by
  obtain ⟨L, m, D, lf, vf, xf, h1, h2⟩ := h
  exact ⟨L, m, D, lf, vf, xf, h1.keep hb, h2⟩
theorem StP.new (w : World) : StP w.heap.size ((w.alloc (.map #[] 0)).alloc (.cells #[.map (some w.heap.size)] 102)) (w.heap.size + 1) 0 (fun _ => none) := by
  obtain ⟨L, h1, h2⟩ := StI.new w (fun _ => []) (fun _ => .slice none 0 0) (fun _ => [])
  refine ⟨L, _, _, _, _, _, h2, h1, fun x y c hx => ?_, fun x => .inl ⟨rfl, rfl⟩⟩
  have e : atK (.map []) x = .nil := rfl
  rw [e] at hx
  cases hx
theorem StP.lo {B : Nat} {w : World} {p n : Nat} {S : ByteArray → Option (List T)} (h : StP B w p n S) : B ≤ p ∧ p < w.heap.size := by
  obtain ⟨L, m, D, lf, vf, xf, h1, h2, _⟩ := h
  exact ⟨h2 p (by rw [h1.lp]; omega), h1.sto.low⟩
theorem create_st {B : Nat} {w : World} {p n : Nat} {S : ByteArray → Option (List T)} (h : StP B w p n S) (x : ByteArray) (hx : x.size ≤ 140737488355328) (hn : n ≤ 5) (hnm : isNm x = true) (hS : S x = none) :
    Calls Tryz.prog 37 #[.pointer (some ⟨p, 0, none⟩), .string x] w fun e w' => e = .returned (.int .i64 0) ∧ Below B w w' ∧ StP B w' p (n + 1) (setS S x (some [])) := by
  obtain ⟨L, m, D, lf, vf, xf, h1, h2, h3, h4⟩ := h
  have hpm : p ≠ m := fun e => by have := h1.lp; have := h1.lm; subst e; omega
  have hnil : atK D x = .nil := by
    rcases h4 x with ⟨_, h⟩ | ⟨c, _, h⟩
    · exact h
    · rw [hS] at h; cases h
  refine (create_any p m n D x w hx (by omega) h1.sto hpm).mono ?_
  rintro e w' (⟨h5, _⟩ | ⟨_, ⟨c, h5⟩, _⟩ | ⟨_, _, h5, _⟩ | ⟨_, _, _, rfl, hok⟩)
  · rw [hnm] at h5; cases h5
  · rw [hnil] at h5; cases h5
  · have := h1.sto.own.size_le; omega
  · obtain ⟨L', c, hc, hl, hst⟩ := h1.cre hok
    obtain ⟨c', _, _, _, _, _, hB⟩ := hok
    have hmB : B ≤ m := h2 m (by rw [h1.lm]; omega)
    have hml := h1.low m (by rw [h1.lm]; omega)
    refine ⟨rfl, hB.below (by omega) hmB (fun b e => by cases e), L', m, _, _, _, _, hst, fun b hb => ?_, fun y z c1 hy hz => ?_, fun y => ?_⟩
    · rcases hl b hb with h | h
      · exact h2 b h
      · omega
    · by_cases ey : y = x
      · by_cases ez : z = x
        · rw [ey, ez]
        · subst ey
          rw [atK_put_same h1.sto.own.isMap] at hy
          rw [atK_put_other ez] at hz
          obtain rfl := lit_inj hy
          have := h1.low _ (by rw [(h1.col z _ hz).lab]; omega)
          omega
      · rw [atK_put_other ey] at hy
        by_cases ez : z = x
        · subst ez
          rw [atK_put_same h1.sto.own.isMap] at hz
          obtain rfl := lit_inj hz
          have := h1.low _ (by rw [(h1.col y _ hy).lab]; omega)
          omega
        · rw [atK_put_other ez] at hz
          exact h3 y z c1 hy hz
    · by_cases ey : y = x
      · subst ey
        exact .inr ⟨c, atK_put_same h1.sto.own.isMap _ _, by rw [setS_same, upd_same]⟩
      · rw [setS_other _ _ ey, atK_put_other ey]
        rcases h4 y with h | ⟨c1, hy, hs⟩
        · exact .inl h
        · refine .inr ⟨c1, hy, ?_⟩
          have := h1.low _ (by rw [(h1.col y _ hy).lab]; omega)
          rw [upd_other _ _ (by omega)]
          exact hs
theorem insert_st {Tb : World → Prop} (hA : StoreSaid Tb) {B : Nat} {w : World} {p n : Nat} {S : ByteArray → Option (List T)} (h : StP B w p n S) (x s : ByteArray) (l : List T) (hx : x.size ≤ 140737488355328) (hs : s.size ≤ 140737488355328) (hS : S x = some l) (hin : inErr s = none) (hno : anyL (sameId (idT (tJ s))) (mkT 5 0 ByteArray.empty l []) l.length = false) (hl : l.length < 60) (hT : Tb w) :
    Calls Tryz.prog 38 #[.pointer (some ⟨p, 0, none⟩), .string x, .string s] w fun e w' => e = .returned (.int .i64 0) ∧ Below B w w' ∧ StP B w' p n (setS S x (some (l ++ [tJ s]))) := by
  obtain ⟨L, m, D, lf, vf, xf, h1, h2, h3, h4⟩ := h
  obtain ⟨c, hc, hlc⟩ : ∃ c : Nat, atK D x = .lit (.int .i64 c) ∧ lf c = l := by
    rcases h4 x with ⟨h, _⟩ | ⟨c, hc, h⟩
    · rw [hS] at h; cases h
    · rw [hS] at h; exact ⟨c, hc, (Option.some.inj h).symm⟩
  have hco := h1.col x c hc
  refine (insertS_any hA p m n D lf vf xf x s w hs hx h1.sto (fun c1 hc1 => ?_) hT).mono ?_
  · rw [hc] at hc1
    obtain rfl := lit_inj hc1
    exact ⟨h1.toCol hc, by rw [hlc]; omega, hco.doc⟩
  · rintro e w' (⟨_, er, h5, _⟩ | ⟨_, _, h5, _⟩ | ⟨_, c1, hc1, w1, A, Bc, C, Dc, hb, hat, hI⟩)
    · rw [hin] at h5; cases h5
    · rw [hc] at h5; cases h5
    · rw [hc] at hc1
      obtain rfl := lit_inj hc1
      rcases hI with ⟨_, h5, _⟩ | ⟨_, _, h5, _⟩ | ⟨hB, _, _, rfl, g, cap, q0, f0, hg, hO⟩
      · rw [hlc, hno] at h5; cases h5
      · rw [hlc] at h5; omega
      · have hdoc : Doc (tJ s) := by
          unfold inErr at hin
          split at hin
          · cases hin
          · rename_i e1
            split at hin
            · cases hin
            · rename_i e2
              exact isDoc_doc (parsed_okA (by simpa using e1)) (by simpa using e2)
        obtain ⟨L', hl', hst⟩ := h1.ins hc hb hat hdoc hB q0 f0 hg hO
        have hcB : B ≤ c := h2 c (by rw [hco.lab]; omega)
        have hcl := h1.low c (by rw [hco.lab]; omega)
        have hbs := hb.size
        refine ⟨rfl, (hb.mono (by omega)).trans (hB.below (by omega) hcB (fun b e => h2 b (by rw [hco.rowl b e]; omega))), L', m, D, _, _, _, hst, fun b hb0 => ?_, h3, fun y => ?_⟩
        · rcases hl' b hb0 with h | h
          · exact h2 b h
          · omega
        · by_cases ey : y = x
          · subst ey
            exact .inr ⟨c, hc, by rw [setS_same, upd_same, hlc]⟩
          · rw [setS_other _ _ ey]
            rcases h4 y with h | ⟨c1, hy, hs1⟩
            · exact .inl h
            · refine .inr ⟨c1, hy, ?_⟩
              rw [upd_other _ _ (show c1 ≠ c from fun e => ey (h3 y x c (by rw [← e]; exact hy) hc))]
              exact hs1
theorem keep_filter (p : T → Bool) (k n : Int) (s : ByteArray) (l : List T) (ks : List ByteArray) : ∀ j, j ≤ l.length → keepL p (mkT k n s l ks) j = (l.take j).filter p
  | 0, _ => rfl
  | j + 1, h => by
    have e : elt (mkT k n s l ks) j = l[j] := by rw [elt_mk, List.getD_eq_getElem?_getD, List.getElem?_eq_getElem h]; rfl
    rw [keepL, keep_filter p k n s l ks j (by omega), e, List.take_add_one, List.getElem?_eq_getElem h, List.filter_append]
    simp only [Option.toList_some, List.filter_cons, List.filter_nil]
theorem row_slice {w : World} {lo : Nat} {e : TypeId} {s n : Nat} {v : Value} {xs : List Value} (h : w.ownsRow lo e s v n xs) : ∃ A c, v = .slice A n c := by
  rcases h.2 with ⟨rfl, rfl⟩ | ⟨g, cap, cur, rfl, _⟩
  · exact ⟨_, _, rfl⟩
  · exact ⟨_, _, rfl⟩
theorem find_st {Tb : World → Prop} (hA : StoreSaid Tb) {B : Nat} {w : World} {p n : Nat} {S : ByteArray → Option (List T)} (h : StP B w p n S) (x s : ByteArray) (l : List T) (hx : x.size ≤ 140737488355328) (hs : s.size ≤ 140737488355328) (hS : S x = some l) (hl : l.length ≤ 1000000) (he : eJ s = 0) (hk : okFil 16 (tJ s) = true) (hT : Tb w) :
    Calls Tryz.prog 27 #[.pointer (some ⟨p, 0, none⟩), .string x, .string s] w fun e w' => Below w.heap.size w w' ∧ ∃ A c, e = .returned (.tuple #[.slice A (l.filter (evF 16 (tJ s))).length c, .int .i64 0]) ∧ w'.ownsRow w.heap.size 9 1 (.slice A (l.filter (evF 16 (tJ s))).length c) (l.filter (evF 16 (tJ s))).length ((l.filter (evF 16 (tJ s))).map fun t => .string (prT t)) := by
  obtain ⟨L, m, D, lf, vf, xf, h1, h2, h3, h4⟩ := h
  obtain ⟨c, hc, hlc⟩ : ∃ c : Nat, atK D x = .lit (.int .i64 c) ∧ lf c = l := by
    rcases h4 x with ⟨h, _⟩ | ⟨c, hc, h⟩
    · rw [hS] at h; cases h
    · rw [hS] at h; exact ⟨c, hc, (Option.some.inj h).symm⟩
  have hco := h1.col x c hc
  refine (find_any hA p m n 13 D (fun c => mkT 5 0 ByteArray.empty (lf c) []) x s w hs hx h1.sto (fun c1 hc1 => ?_) (by omega) hT).mono ?_
  · rw [hc] at hc1
    obtain rfl := lit_inj hc1
    refine ⟨h1.coll hc, by rw [nL_mk, hlc]; exact hl, fun i hi => ?_⟩
    have hi' : i < (lf c).length := hi
    have e : elt (mkT 5 0 ByteArray.empty (lf c) []) i = (lf c)[i] := by rw [elt_mk, List.getD_eq_getElem?_getD, List.getElem?_eq_getElem hi']; rfl
    rw [e]
    exact (hco.doc i hi').1
  · rintro e w' ⟨hb, ⟨h5, _⟩ | ⟨_, h5, _⟩ | ⟨_, _, h5, _⟩ | ⟨_, _, c1, hc1, sv, rfl, hO⟩⟩
    · exact absurd he h5
    · rw [hk] at h5; cases h5
    · rw [hc] at h5; cases h5
    · rw [hc] at hc1
      obtain rfl := lit_inj hc1
      have e : fndL s (mkT 5 0 ByteArray.empty (lf c) []) = l.filter (evF 16 (tJ s)) := by
        unfold fndL
        rw [nL_mk, keep_filter _ _ _ _ _ _ _ (Nat.le_refl _), List.take_length, hlc]
      rw [e] at hO
      obtain ⟨A, cp, rfl⟩ := row_slice hO
      exact ⟨hb, A, cp, rfl, hO⟩
theorem find_none {Tb : World → Prop} (hA : StoreSaid Tb) {B : Nat} {w : World} {p n : Nat} {S : ByteArray → Option (List T)} (h : StP B w p n S) (x s : ByteArray) (hx : x.size ≤ 140737488355328) (hs : s.size ≤ 140737488355328) (hS : S x = none) (he : eJ s = 0) (hk : okFil 16 (tJ s) = true) (hT : Tb w) :
    Calls Tryz.prog 27 #[.pointer (some ⟨p, 0, none⟩), .string x, .string s] w fun e w' => Below w.heap.size w w' ∧ e = .returned (.tuple #[.slice none 0 0, .int .i64 10]) := by
  obtain ⟨L, m, D, lf, vf, xf, h1, h2, h3, h4⟩ := h
  have hnil : atK D x = .nil := by
    rcases h4 x with ⟨_, h⟩ | ⟨c, _, h⟩
    · exact h
    · rw [hS] at h; cases h
  refine (find_any hA p m n 13 D (fun c => mkT 5 0 ByteArray.empty (lf c) []) x s w hs hx h1.sto (fun c1 hc1 => by rw [hnil] at hc1; cases hc1) (by omega) hT).mono ?_
  rintro e w' ⟨hb, ⟨h5, _⟩ | ⟨_, h5, _⟩ | ⟨_, _, _, rfl⟩ | ⟨_, _, c1, hc1, _⟩⟩
  · exact absurd he h5
  · rw [hk] at h5; cases h5
  · exact ⟨hb, rfl⟩
  · rw [hnil] at hc1; cases hc1
end Go.Proofs.YtknakfpciccoaaaGreatDoor
/- filled: a store with documents out of raw numbers. -/
namespace Go.Proofs.YtknakfpciccoaaaGreatDoor
open Go.RowKit

/-- Raw numbers in memory. -/
def RawAt (w : World) (v : Value) (n : Nat) : Prop :=
  ∃ A c, v = .slice A n c ∧ n ≤ 1000000000000000 ∧ ∀ i, i < n → ∃ b o z, A = some ⟨b, o, none⟩ ∧ b < w.heap.size ∧ w.cell? ⟨b, o + i, none⟩ = some (.int .i64 z) ∧ -9223372036854775808 ≤ z ∧ z ≤ 9223372036854775807
/-- The documents that are made: each has its place as its number. -/
def DocsOf (l : List T) : Prop := ∀ k, (h : k < l.length) → ∃ i o, i < 36 ∧ (∀ j, o = some j → j < 36) ∧ l[k] = docT (k : Int) i o
theorem DocsOf.nil : DocsOf [] := fun k h => absurd h (Nat.not_lt_zero k)
theorem DocsOf.snoc {l : List T} (h : DocsOf l) {i : Nat} {o : Option Nat} (hi : i < 36) (ho : ∀ j, o = some j → j < 36) : DocsOf (l ++ [docT (l.length : Int) i o]) := by
  intro k hk
  rw [List.length_append, List.length_cons, List.length_nil] at hk
  by_cases e : k < l.length
  · obtain ⟨a, b, c, d, e1⟩ := h k e
    exact ⟨a, b, c, d, by rw [List.getElem_append_left e]; exact e1⟩
  · obtain rfl : k = l.length := by omega
    exact ⟨i, o, hi, ho, by rw [List.getElem_append_right (by omega)]; simp⟩
theorem anyL_none {p : T → Bool} {t : T} : ∀ k, (∀ i, i < k → p (elt t i) = false) → anyL p t k = false
  | 0, _ => rfl
  | k + 1, h => by
    rw [anyL, anyL_none k (fun i hi => h i (by omega)), h k (by omega)]
    rfl
theorem DocsOf.fresh {l : List T} (h : DocsOf l) (i : Nat) (o : Option Nat) : anyL (sameId (idT (docT (l.length : Int) i o))) (mkT 5 0 ByteArray.empty l []) l.length = false := by
  refine anyL_none _ fun k hk => ?_
  have e : elt (mkT 5 0 ByteArray.empty l []) k = l[k] := by rw [elt_mk, List.getD_eq_getElem?_getD, List.getElem?_eq_getElem hk]; rfl
  obtain ⟨a, b, _, _, e1⟩ := h k hk
  rw [e, e1, docT_id, doc_same]
  simp
  omega
abbrev nX : ByteArray := ⟨#[120]⟩
abbrev nY : ByteArray := ⟨#[121]⟩
def two (l m : Option (List T)) : ByteArray → Option (List T) := setS (setS (fun _ => none) nX l) nY m
theorem two_x (l m : Option (List T)) : two l m nX = l := by unfold two; rw [setS_other _ _ (by decide), setS_same]
theorem two_y (l m : Option (List T)) : two l m nY = m := by unfold two; rw [setS_same]
theorem two_none (l m : Option (List T)) {z : ByteArray} (h1 : z ≠ nX) (h2 : z ≠ nY) : two l m z = none := by unfold two; rw [setS_other _ _ h2, setS_other _ _ h1]
theorem two_setx (l m k : Option (List T)) : setS (two l m) nX k = two k m := by
  funext z
  unfold two
  by_cases h1 : z = nX
  · subst h1; rw [setS_same, setS_other _ _ (by decide), setS_same]
  · rw [setS_other _ _ h1]
    by_cases h2 : z = nY
    · subst h2; rw [setS_same, setS_same]
    · rw [setS_other _ _ h2, setS_other _ _ h1, setS_other _ _ h2, setS_other _ _ h1]
theorem two_sety (l m k : Option (List T)) : setS (two l m) nY k = two l k := by
  funext z
  unfold two
  by_cases h2 : z = nY
  · subst h2; rw [setS_same, setS_same]
  · rw [setS_other _ _ h2, setS_other _ _ h2, setS_other _ _ h2]
theorem one_two (l : Option (List T)) : setS (setS (fun _ => none) nX l) nY (some []) = two l (some []) := rfl
/-- The filter that finds all. -/
abbrev allS : ByteArray := ⟨#[123, 125]⟩
theorem allS_e : eJ allS = 0 := by kernel_rfl
theorem allS_t : tJ allS = mkT 6 0 ByteArray.empty [] [] := by kernel_rfl
theorem allS_ok : okFil 16 (tJ allS) = true := by rw [allS_t]; kernel_rfl
theorem allS_ev (d : T) : evF 16 (tJ allS) d = true := by rw [allS_t]; rfl
theorem all_filter (l : List T) : l.filter (evF 16 (tJ allS)) = l := by
  rw [List.filter_eq_self]
  exact fun a _ => allS_ev a
end Go.Proofs.YtknakfpciccoaaaGreatDoor
