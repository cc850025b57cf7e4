/- The program's order and the reference's are one; a vast value is none. -/
import Derived.Test.YtknakfpciccoaaaDoorM2
namespace Go.Proofs.YtknakfpciccoaaaDoor
open Go.RowKit

theorem less_self : ∀ l : List UInt8, Op.bytesLess l l = false
  | [] => rfl
  | c :: r => by simp [Op.bytesLess, less_self r]
theorem cmpS_self (a : ByteArray) : cmpS a a = 0 := cmpS_eq (less_self _) (by simp)
theorem cmpI_self (a : Int) : cmpI a a = 0 := cmpI_eq (by omega) (by omega)
theorem noText_eq {t : T} (h : noText t = true) : sOf t = ByteArray.empty := by
  unfold noText at h
  have h1 : (sOf t).toList = [] := by simpa using h
  apply (toList_eq_iff _ _).1
  rw [h1, ByteArray.toList_eq]
  rfl
theorem ordL_congr {g h : T → T → Int} {a b : T} : ∀ k, (∀ i, i < k → g (elt a i) (elt b i) = h (elt a i) (elt b i)) → ordL g a b k = ordL h a b k
  | 0, _ => rfl
  | k + 1, hh => by
    simp only [ordL]
    rw [ordL_congr k (fun i hi => hh i (by omega)), hh k (by omega)]
theorem ordE_congr {g h : T → T → Int} {a b : T} (hh : ∀ i, i < nL a → i < nL b → g (elt a i) (elt b i) = h (elt a i) (elt b i)) : ordE g a b = ordE h a b := by
  unfold ordE
  rw [ordL_congr _ (fun i hi => hh i (by omega) (by omega))]
theorem ordE_flat {g : T → T → Int} {a b : T} (ha : nL a = 0) (hb : nL b = 0) : ordE g a b = 0 := by
  unfold ordE
  rw [ha, hb]
  simp [ordL, cmpI_self]
/-- Of what are values the two orders are one. -/
theorem cmp_ord : ∀ (f m m' : Nat) (a b : T), Good m a → Good m' b → cmpT f a b = ordT f a b
  | 0, _, _, _, _, _, _ => rfl
  | f + 1, m, m', a, b, ga, gb => by
    by_cases k : kindOf a = kindOf b
    · have e1 : cmpT (f + 1) a b = if kindOf a = 2 ∨ kindOf a = 3 then cmpI (nOf a) (nOf b) else if kindOf a = 4 then cmpS (sOf a) (sOf b) else if isBox a = true then ordE (cmpT f) a b else 0 := by
        simp only [cmpT]
        exact if_neg (by simp [k])
      have e2 : ordT (f + 1) a b = if nOf a ≠ nOf b ∨ sOf a ≠ sOf b then cmpI (nOf a) (nOf b) + cmpS (sOf a) (sOf b) else ordE (ordT f) a b := by
        simp only [ordT]
        exact if_neg (by simp [k])
      rw [e1, e2]
      cases hb : isBox a with
      | false =>
        have hb' : isBox b = false := by simp only [isBox] at hb ⊢; rw [← k]; exact hb
        obtain ⟨la, _, ha⟩ := (good_leaf hb).1 ga
        obtain ⟨lb, _, hc⟩ := (good_leaf hb').1 gb
        rw [ordE_flat (g := cmpT f) la lb, ordE_flat (g := ordT f) la lb]
        rcases ha with ⟨k1, a1, a2⟩ | ⟨k1, a1, a2⟩ | ⟨k1, a2⟩ | ⟨k1, a1, a2, a3⟩
        · rcases hc with ⟨k2, b1, b2⟩ | ⟨k2, b1, b2⟩ | ⟨k2, b2⟩ | ⟨k2, b1, b2, b3⟩
          · rw [if_neg (by omega), if_neg (by omega), if_neg (by simp), if_neg (by rw [a1, b1, noText_eq a2, noText_eq b2]; simp)]
          · omega
          · omega
          · omega
        · rcases hc with ⟨k2, b1, b2⟩ | ⟨k2, b1, b2⟩ | ⟨k2, b2⟩ | ⟨k2, b1, b2, b3⟩
          · omega
          · rw [if_pos (by omega), noText_eq a2, noText_eq b2, cmpS_self]
            by_cases e : nOf a = nOf b
            · rw [if_neg (by simp [e]), e, cmpI_self]
            · rw [if_pos (Or.inl e)]; omega
          · omega
          · omega
        · rcases hc with ⟨k2, b1, b2⟩ | ⟨k2, b1, b2⟩ | ⟨k2, b2⟩ | ⟨k2, b1, b2, b3⟩
          · omega
          · omega
          · rw [if_pos (by omega), noText_eq a2, noText_eq b2, cmpS_self]
            by_cases e : nOf a = nOf b
            · rw [if_neg (by simp [e]), e, cmpI_self]
            · rw [if_pos (Or.inl e)]; omega
          · omega
        · rcases hc with ⟨k2, b1, b2⟩ | ⟨k2, b1, b2⟩ | ⟨k2, b2⟩ | ⟨k2, b1, b2, b3⟩
          · omega
          · omega
          · omega
          · rw [if_neg (by omega), if_pos k1, a1, b1, cmpI_self]
            by_cases e : sOf a = sOf b
            · rw [if_neg (by simp [e]), e, cmpS_self]
            · rw [if_pos (Or.inr e)]; omega
      | true =>
        have hb' : isBox b = true := by simp only [isBox] at hb ⊢; rw [← k]; exact hb
        cases m with
        | zero => have := leaf_not_box ga; simp only [isBox, Bool.or_eq_true, beq_iff_eq] at hb; omega
        | succ m =>
        cases m' with
        | zero => have := leaf_not_box gb; simp only [isBox, Bool.or_eq_true, beq_iff_eq] at hb'; omega
        | succ m' =>
          have ca := ((good_box hb).1 ga)
          have cb := ((good_box hb').1 gb)
          have ha := ca.1.1
          have hc := cb.1.1
          simp only [isBox, Bool.or_eq_true, beq_iff_eq] at hb hb'
          simp only [headF, Bool.and_eq_true, decide_eq_true_eq] at ha hc
          have na : nOf a = nOf b := by omega
          have ta : noText a = true := by rcases ha.1.2 with h | h; omega; exact h
          have tb : noText b = true := by rcases hc.1.2 with h | h; omega; exact h
          rw [if_neg (by omega), if_neg (by omega), if_pos rfl, if_neg (by rw [na, noText_eq ta, noText_eq tb]; simp)]
          exact ordE_congr fun i hi hj => cmp_ord f m m' _ _ (ca.2 i hi) (cb.2 i hj)
    · simp only [cmpT, ordT]
      rw [if_pos k, if_pos k]
theorem bytes_pos : ∀ (m : Nat) (t : T), 1 ≤ bytesT m t
  | 0, t => leafBytes_pos t
  | m + 1, t => by
    simp only [bytesT]
    have := leafBytes_pos t
    split
    · omega
    · split <;> omega
theorem sumK_ge (t : T) : ∀ k, k ≤ sumK t k
  | 0 => Nat.le_refl _
  | k + 1 => by have := sumK_ge t k; simp only [sumK]; omega
/-- So many places take no more than so many bytes. -/
theorem cells_says : ∀ (m o : Nat) (t : T) (l : Int), Good m t → (bytesT m t : Int) ≤ l + 1 → l + 1 - bytesT m t ≤ cellsT o t l
  | m, o, t, l, hg, hl => by
    cases hb : isBox t with
    | false =>
      obtain ⟨h1, h2, _⟩ := (good_leaf hb).1 hg
      have hp := bytes_pos m t
      have e : cellsT o t l = l := by cases o <;> simp [cellsT, h1, h2, cellsL]
      rw [e]; omega
    | true =>
      cases m with
      | zero => have := leaf_not_box hg; simp only [isBox, Bool.or_eq_true, beq_iff_eq] at hb; omega
      | succ m =>
        obtain ⟨⟨hh, hk, _⟩, hc⟩ := (good_box hb).1 hg
        have es : nK t + 5 + sumL (bytesT m) t (nL t) ≤ bytesT (m + 1) t := by
          simp only [isBox, Bool.or_eq_true, beq_iff_eq] at hb
          rcases hb with k | k
          · have : nK t = 0 := by simp only [headF, Bool.and_eq_true, decide_eq_true_eq] at hh; omega
            simp [bytesT, k, this]
          · have := sumK_ge t (nK t)
            simp [bytesT, k]
            omega
        cases o with
        | zero =>
          have hs : ∀ k, k ≤ sumL (bytesT m) t k := by
            intro k
            induction k with
            | zero => exact Nat.zero_le _
            | succ k ih => have := bytes_pos m (elt t k); simp only [sumL]; omega
          have := hs (nL t)
          simp only [cellsT]
          omega
        | succ o =>
          have key : ∀ k, k ≤ nL t → ∀ x : Int, (sumL (bytesT m) t k : Int) ≤ x + k → x + k - sumL (bytesT m) t k ≤ cellsL (cellsT o) t k x := by
            intro k
            induction k with
            | zero => intro _ x _; simp [cellsL, sumL]
            | succ k ih =>
              intro hk x hx
              have hp := bytes_pos m (elt t k)
              simp only [sumL] at hx
              have h0 := ih (by omega) x (by omega)
              simp only [cellsL, sumL]
              by_cases c : 0 ≤ cellsL (cellsT o) t k x
              · rw [if_pos c]
                have := cells_says m o (elt t k) (cellsL (cellsT o) t k x) (hc k (by omega)) (by omega)
                omega
              · rw [if_neg c]; omega
          have hs : ∀ k, k ≤ sumL (bytesT m) t k := by
            intro k
            induction k with
            | zero => exact Nat.zero_le _
            | succ k ih => have := bytes_pos m (elt t k); simp only [sumL]; omega
          have := key (nL t) (Nat.le_refl _) (l - nL t - nK t) (by omega)
          simp only [cellsT]
          omega
theorem vast_none (t : T) (h : cellsT 16 t 1048576 < 0) : (chkT 12 t 1048576).isSome = false := by
  cases hc : (chkT 12 t 1048576).isSome with
  | false => rfl
  | true =>
    obtain ⟨g, hb⟩ := (isV_iff t).1 hc
    have := cells_says 12 16 t 1048576 g (by omega)
    omega
end Go.Proofs.YtknakfpciccoaaaDoor
