import Derived.Test.YtknakfpciccoaabGreatDoorZS1
import Derived.Lib.ValidLaws
import Derived.Lib.MapLaws
/- What a value is: the program's check and the reference's say the same; so do their orders. -/
namespace Go.Proofs.YtknakfpciccoaabGreatDoor
open Go.RowKit

def sumL (g : T → Nat) (t : T) : Nat → Nat
  | 0 => 0
  | k + 1 => sumL g t k + g (elt t k)
def sumK (t : T) : Nat → Nat
  | 0 => 0
  | k + 1 => sumK t k + (2 + (nam t k).size)
def leafBytes (t : T) : Nat := if kindOf t = 1 then 1 else if kindOf t = 2 then 2 else if kindOf t = 3 then 9 else 5 + (sOf t).size
def bytesT : Nat → T → Nat
  | 0, t => leafBytes t
  | m + 1, t => if kindOf t = 5 then 5 + sumL (bytesT m) t (nL t) else if kindOf t = 6 then 5 + sumK t (nK t) + sumL (bytesT m) t (nL t) else leafBytes t
def leafGood (t : T) : Prop :=
  nL t = 0 ∧ nK t = 0 ∧ ((kindOf t = 1 ∧ nOf t = 0 ∧ noText t = true) ∨ (kindOf t = 2 ∧ (nOf t = 0 ∨ nOf t = 1) ∧ noText t = true) ∨ (kindOf t = 3 ∧ noText t = true) ∨ (kindOf t = 4 ∧ nOf t = 0 ∧ (sOf t).size ≤ 4000 ∧ okS (sOf t) = true))
def Good : Nat → T → Prop
  | 0, t => leafGood t
  | m + 1, t => leafGood t ∨ (nOf t = 0 ∧ noText t = true ∧ (∀ i, i < nL t → Good m (elt t i)) ∧ ((kindOf t = 5 ∧ nK t = 0) ∨ (kindOf t = 6 ∧ nK t = nL t ∧ namesF t (nK t) = true ∧ dupTo t (nK t) = false)))
theorem noLists_iff (t : T) : noLists t = true ↔ nL t = 0 ∧ nK t = 0 := by simp [noLists]

theorem takeO_eq (n l : Int) : takeO n l = if n ≤ l then some (l - n) else none := rfl
/-- A leaf, as the checker sees it. -/
theorem leafO_eq (t : T) (l : Int) (_h : 0 ≤ l) : leafO t l = some (l - leafBytes t) ∧ leafGood t ∧ (leafBytes t : Int) ≤ l ∨ leafO t l = none ∧ ¬ (leafGood t ∧ (leafBytes t : Int) ≤ l) := by
  unfold leafO leafGood leafBytes
  by_cases k1 : kindOf t = 1
  · simp only [k1, if_true, noLists_iff, takeO_eq]
    by_cases c : nOf t = 0 ∧ noText t = true ∧ nL t = 0 ∧ nK t = 0
    · rw [if_pos c]
      obtain ⟨c1, c2, c3, c4⟩ := c
      by_cases d : (1 : Int) ≤ l
      · left; simp [d, c1, c2, c3, c4]
      · right; simp [d, c1, c2, c3, c4]
    · rw [if_neg c]
      right
      refine ⟨rfl, fun h => c ?_⟩
      obtain ⟨⟨a, b, h⟩, _⟩ := h
      rcases h with ⟨_, h1, h2⟩ | ⟨h, _⟩ | ⟨h, _⟩ | ⟨h, _⟩
      · exact ⟨h1, h2, a, b⟩
      · omega
      · omega
      · omega
  by_cases k2 : kindOf t = 2
  · rw [if_neg k1, if_pos k2, if_neg k1, if_pos k2]
    simp only [noLists_iff, takeO_eq]
    by_cases c : (nOf t = 0 ∨ nOf t = 1) ∧ noText t = true ∧ nL t = 0 ∧ nK t = 0
    · rw [if_pos c]
      obtain ⟨c1, c2, c3, c4⟩ := c
      by_cases d : (2 : Int) ≤ l
      · left; exact ⟨by rw [if_pos d]; rfl, ⟨c3, c4, Or.inr (Or.inl ⟨k2, c1, c2⟩)⟩, d⟩
      · right; exact ⟨if_neg d, fun h => d h.2⟩
    · rw [if_neg c]
      right
      refine ⟨rfl, fun h => c ?_⟩
      obtain ⟨⟨a, b, h⟩, _⟩ := h
      rcases h with ⟨h, _⟩ | ⟨_, h1, h2⟩ | ⟨h, _⟩ | ⟨h, _⟩
      · omega
      · exact ⟨h1, h2, a, b⟩
      · omega
      · omega
  by_cases k3 : kindOf t = 3
  · rw [if_neg k1, if_neg k2, if_pos k3, if_neg k1, if_neg k2, if_pos k3]
    simp only [noLists_iff, takeO_eq]
    by_cases c : noText t = true ∧ nL t = 0 ∧ nK t = 0
    · rw [if_pos c]
      obtain ⟨c2, c3, c4⟩ := c
      by_cases d : (9 : Int) ≤ l
      · left; exact ⟨by rw [if_pos d]; rfl, ⟨c3, c4, Or.inr (Or.inr (Or.inl ⟨k3, c2⟩))⟩, d⟩
      · right; exact ⟨if_neg d, fun h => d h.2⟩
    · rw [if_neg c]
      right
      refine ⟨rfl, fun h => c ?_⟩
      obtain ⟨⟨a, b, h⟩, _⟩ := h
      rcases h with ⟨h, _⟩ | ⟨h, _⟩ | ⟨_, h2⟩ | ⟨h, _⟩
      · omega
      · omega
      · exact ⟨h2, a, b⟩
      · omega
  by_cases k4 : kindOf t = 4
  · rw [if_neg k1, if_neg k2, if_neg k3, if_pos k4, if_neg k1, if_neg k2, if_neg k3]
    simp only [noLists_iff, takeO_eq]
    by_cases c : nOf t = 0 ∧ nL t = 0 ∧ nK t = 0
    · rw [if_pos c]
      obtain ⟨c2, c3, c4⟩ := c
      by_cases d : (5 : Int) ≤ l
      · rw [if_pos d]
        show (if (sOf t).size ≤ 4000 ∧ ((sOf t).size : Int) ≤ l - 5 ∧ okS (sOf t) = true then some (l - 5 - ((sOf t).size : Int)) else none) = _ ∧ _ ∨ _
        by_cases e : (sOf t).size ≤ 4000 ∧ ((sOf t).size : Int) ≤ l - 5 ∧ okS (sOf t) = true
        · left
          refine ⟨?_, ⟨c3, c4, Or.inr (Or.inr (Or.inr ⟨k4, c2, e.1, e.2.2⟩))⟩, by omega⟩
          rw [if_pos e]
          congr 1
          omega
        · right
          refine ⟨if_neg e, fun h => e ?_⟩
          obtain ⟨⟨a, b, h⟩, hb⟩ := h
          rcases h with ⟨h, _⟩ | ⟨h, _⟩ | ⟨h, _⟩ | ⟨_, h1, h2, h3⟩
          · omega
          · omega
          · omega
          · exact ⟨h2, by omega, h3⟩
      · right
        rw [if_neg d]
        exact ⟨rfl, fun h => d (by have := h.2; omega)⟩
    · rw [if_neg c]
      right
      refine ⟨rfl, fun h => c ?_⟩
      obtain ⟨⟨a, b, h⟩, _⟩ := h
      rcases h with ⟨h, _⟩ | ⟨h, _⟩ | ⟨h, _⟩ | ⟨_, h2, _⟩
      · omega
      · omega
      · omega
      · exact ⟨h2, a, b⟩
  · rw [if_neg k1, if_neg k2, if_neg k3, if_neg k4]
    right
    refine ⟨rfl, fun h => ?_⟩
    obtain ⟨⟨a, b, h⟩, _⟩ := h
    rcases h with ⟨h, _⟩ | ⟨h, _⟩ | ⟨h, _⟩ | ⟨h, _⟩ <;> omega
/-- Said of the checker: it takes so many bytes off, or refuses. -/
def Says (r : Option Int) (good : Prop) (n : Nat) (l : Int) : Prop := r = some (l - n) ∧ good ∧ (n : Int) ≤ l ∨ r = none ∧ ¬ (good ∧ (n : Int) ≤ l)
theorem names_says (t : T) (l : Int) (h : 0 ≤ l) : ∀ k, Says (namesL t k l) (namesF t k = true) (sumK t k) l
  | 0 => Or.inl ⟨by simp [namesL, sumK], rfl, by simpa [sumK] using h⟩
  | k + 1 => by
    rcases names_says t l h k with ⟨h1, h2, h3⟩ | ⟨h1, h2⟩
    · by_cases c : (okS (nam t k) = true ∧ (nam t k).size ≤ 4000) ∧ ((sumK t k + (2 + (nam t k).size) : Nat) : Int) ≤ l
      · left
        refine ⟨?_, by simp [namesF, h2, c.1.1, c.1.2], c.2⟩
        simp only [namesL, h1, Option.bind_some, takeO_eq]
        rw [if_pos (by omega)]
        simp only [Option.bind_some, textO]
        rw [if_pos ⟨c.1.2, by omega, c.1.1⟩]
        simp only [sumK]
        congr 1
        omega
      · right
        refine ⟨?_, fun hh => c ?_⟩
        · simp only [namesL, h1, Option.bind_some, takeO_eq]
          by_cases d : (2 : Int) ≤ l - sumK t k
          · rw [if_pos d]
            simp only [Option.bind_some, textO]
            rw [if_neg (fun e => c ⟨⟨e.2.2, e.1⟩, by omega⟩)]
          · rw [if_neg d]; rfl
        · have := hh.1
          simp only [namesF, Bool.and_eq_true, decide_eq_true_eq] at this
          exact ⟨this.2, hh.2⟩
    · right
      refine ⟨by simp [namesL, h1], fun hh => h2 ⟨?_, ?_⟩⟩
      · have := hh.1
        simp only [namesF, Bool.and_eq_true] at this
        exact this.1
      · have := hh.2
        simp only [sumK] at this
        omega
theorem values_says {m : Nat} (ih : ∀ (t : T) (l : Int), 0 ≤ l → Says (chkT m t l) (Good m t) (bytesT m t) l) (t : T) (l : Int) (h : 0 ≤ l) : ∀ k, Says (valuesL (chkT m) t k l) (∀ i, i < k → Good m (elt t i)) (sumL (bytesT m) t k) l
  | 0 => Or.inl ⟨by simp [valuesL, sumL], fun i hi => absurd hi (Nat.not_lt_zero _), by simpa [sumL] using h⟩
  | k + 1 => by
    rcases values_says ih t l h k with ⟨h1, h2, h3⟩ | ⟨h1, h2⟩
    · rcases ih (elt t k) (l - sumL (bytesT m) t k) (by omega) with ⟨g1, g2, g3⟩ | ⟨g1, g2⟩
      · left
        refine ⟨?_, fun i hi => ?_, by simp only [sumL]; omega⟩
        · simp only [valuesL, h1, Option.bind_some, g1, sumL]
          congr 1
          omega
        · by_cases e : i = k
          · subst e; exact g2
          · exact h2 i (by omega)
      · right
        refine ⟨by simp [valuesL, h1, g1], fun hh => g2 ⟨hh.1 k (by omega), ?_⟩⟩
        have := hh.2
        simp only [sumL] at this
        omega
    · right
      refine ⟨by simp [valuesL, h1], fun hh => h2 ⟨fun i hi => hh.1 i (by omega), ?_⟩⟩
      have := hh.2
      simp only [sumL] at this
      omega
theorem leaf_not_box {t : T} (h : leafGood t) : kindOf t ≠ 5 ∧ kindOf t ≠ 6 := by
  obtain ⟨_, _, h⟩ := h
  rcases h with ⟨h, _⟩ | ⟨h, _⟩ | ⟨h, _⟩ | ⟨h, _⟩ <;> omega
theorem chk_says : ∀ (m : Nat) (t : T) (l : Int), 0 ≤ l → Says (chkT m t l) (Good m t) (bytesT m t) l
  | 0, t, l, h => leafO_eq t l h
  | m + 1, t, l, h => by
    by_cases k5 : kindOf t = 5
    · have ng : ¬ leafGood t := fun hh => (leaf_not_box hh).1 k5
      have eg : Good (m + 1) t ↔ nOf t = 0 ∧ noText t = true ∧ nK t = 0 ∧ (∀ i, i < nL t → Good m (elt t i)) := by
        simp only [Good]
        constructor
        · rintro (hh | ⟨a, b, c, d⟩)
          · exact absurd hh ng
          · rcases d with ⟨_, d⟩ | ⟨d, _⟩
            · exact ⟨a, b, d, c⟩
            · omega
        · rintro ⟨a, b, c, d⟩
          exact Or.inr ⟨a, b, d, Or.inl ⟨k5, c⟩⟩
      have eb : bytesT (m + 1) t = 5 + sumL (bytesT m) t (nL t) := by simp [bytesT, k5]
      have ec : chkT (m + 1) t l = if nOf t = 0 ∧ noText t = true ∧ nK t = 0 then (takeO 5 l).bind (valuesL (chkT m) t (nL t)) else none := by simp [chkT, k5]
      unfold Says
      rw [eg, eb, ec]
      by_cases c : nOf t = 0 ∧ noText t = true ∧ nK t = 0
      · rw [if_pos c, takeO_eq]
        by_cases d : (5 : Int) ≤ l
        · rw [if_pos d, Option.bind_some]
          rcases values_says (chk_says m) t (l - 5) (by omega) (nL t) with ⟨h1, h2, h3⟩ | ⟨h1, h2⟩
          · left
            refine ⟨?_, ⟨c.1, c.2.1, c.2.2, h2⟩, by omega⟩
            rw [h1]
            congr 1
            omega
          · right
            exact ⟨h1, fun hh => h2 ⟨hh.1.2.2.2, by have := hh.2; omega⟩⟩
        · right
          rw [if_neg d]
          exact ⟨rfl, fun hh => d (by have := hh.2; omega)⟩
      · rw [if_neg c]
        exact Or.inr ⟨rfl, fun hh => c ⟨hh.1.1, hh.1.2.1, hh.1.2.2.1⟩⟩
    by_cases k6 : kindOf t = 6
    · have ng : ¬ leafGood t := fun hh => (leaf_not_box hh).2 k6
      have eg : Good (m + 1) t ↔ nOf t = 0 ∧ noText t = true ∧ nK t = nL t ∧ (namesF t (nK t) = true ∧ dupTo t (nK t) = false) ∧ (∀ i, i < nL t → Good m (elt t i)) := by
        simp only [Good]
        constructor
        · rintro (hh | ⟨a, b, c, d⟩)
          · exact absurd hh ng
          · rcases d with ⟨d, _⟩ | ⟨_, d, e, f⟩
            · omega
            · exact ⟨a, b, d, ⟨e, f⟩, c⟩
        · rintro ⟨a, b, c, ⟨d, e⟩, f⟩
          exact Or.inr ⟨a, b, f, Or.inr ⟨k6, c, d, e⟩⟩
      have eb : bytesT (m + 1) t = 5 + sumK t (nK t) + sumL (bytesT m) t (nL t) := by simp [bytesT, k6]
      have ec : chkT (m + 1) t l = if nOf t = 0 ∧ noText t = true ∧ nK t = nL t then ((takeO 5 l).bind (namesO t)).bind (valuesL (chkT m) t (nL t)) else none := by simp [chkT, k6]
      unfold Says
      rw [eg, eb, ec]
      by_cases c : nOf t = 0 ∧ noText t = true ∧ nK t = nL t
      · rw [if_pos c, takeO_eq]
        by_cases d : (5 : Int) ≤ l
        · rw [if_pos d, Option.bind_some]
          unfold namesO
          rcases names_says t (l - 5) (by omega) (nK t) with ⟨h1, h2, h3⟩ | ⟨h1, h2⟩
          · rw [h1, Option.bind_some]
            cases hd : dupTo t (nK t) with
            | true =>
              right
              refine ⟨by simp, fun hh => ?_⟩
              have := hh.1.2.2.2.1.2
              cases this
            | false =>
              simp only [Bool.false_eq_true, if_false, Option.bind_some]
              rcases values_says (chk_says m) t (l - 5 - sumK t (nK t)) (by omega) (nL t) with ⟨g1, g2, g3⟩ | ⟨g1, g2⟩
              · left
                refine ⟨?_, ⟨c.1, c.2.1, c.2.2, ⟨h2, by trivial⟩, g2⟩, by omega⟩
                rw [g1]
                congr 1
                omega
              · right
                exact ⟨g1, fun hh => g2 ⟨hh.1.2.2.2.2, by have := hh.2; omega⟩⟩
          · right
            rw [h1]
            exact ⟨rfl, fun hh => h2 ⟨hh.1.2.2.2.1.1, by have := hh.2; omega⟩⟩
        · right
          rw [if_neg d]
          exact ⟨rfl, fun hh => d (by have := hh.2; omega)⟩
      · rw [if_neg c]
        exact Or.inr ⟨rfl, fun hh => c ⟨hh.1.1, hh.1.2.1, hh.1.2.2.1⟩⟩
    · have eg : Good (m + 1) t ↔ leafGood t := by
        simp only [Good]
        constructor
        · rintro (hh | ⟨_, _, _, ⟨d, _⟩ | ⟨d, _⟩⟩)
          · exact hh
          · exact absurd d k5
          · exact absurd d k6
        · exact Or.inl
      have eb : bytesT (m + 1) t = leafBytes t := by simp [bytesT, k5, k6]
      have ec : chkT (m + 1) t l = leafO t l := by simp [chkT, k5, k6]
      unfold Says
      rw [eg, eb, ec]
      exact leafO_eq t l h
end Go.Proofs.YtknakfpciccoaabGreatDoor
/- The reference's four looks, together. -/
namespace Go.Proofs.YtknakfpciccoaabGreatDoor
open Go.RowKit

/-- A tree has an end. -/
def Shal : Nat → T → Prop
  | 0, _ => False
  | f + 1, t => ∀ i, i < nL t → Shal f (elt t i)
theorem At.shal {w : World} : ∀ {f : Nat} {v : Value} {t : T}, At w f v t → Shal f t := by
  intro f
  induction f with
  | zero => intro v t h; exact h
  | succ f ih =>
    rintro v t ⟨La, Ka, Lc, Kc, _, _, hl, _⟩ i hi
    obtain ⟨b, o, c0, c1, c2, c3, c4, _, _, _, _, _, _, _, ha⟩ := hl i hi
    exact ih ha
theorem anyL_iff {g : T → Bool} {t : T} : ∀ {k : Nat}, anyL g t k = false ↔ ∀ i, i < k → g (elt t i) = false
  | 0 => by simp [anyL]
  | k + 1 => by
    simp only [anyL, Bool.or_eq_false_iff, anyL_iff]
    constructor
    · rintro ⟨a, b⟩ i hi
      by_cases e : i = k
      · subst e; exact b
      · exact a i (by omega)
    · intro h
      exact ⟨fun i hi => h i (by omega), h k (by omega)⟩
theorem good_leaf {m : Nat} {t : T} (hb : isBox t = false) : Good m t ↔ leafGood t := by
  simp only [isBox, Bool.or_eq_false_iff, beq_eq_false_iff_ne] at hb
  cases m with
  | zero => exact Iff.rfl
  | succ m =>
    simp only [Good]
    constructor
    · rintro (hh | ⟨_, _, _, ⟨d, _⟩ | ⟨d, _⟩⟩)
      · exact hh
      · exact absurd d hb.1
      · exact absurd d hb.2
    · exact Or.inl
theorem good_box {m : Nat} {t : T} (hb : isBox t = true) : Good (m + 1) t ↔ (headF t = true ∧ kindF t = true ∧ dupTo t (nK t) = false) ∧ ∀ i, i < nL t → Good m (elt t i) := by
  simp only [isBox, Bool.or_eq_true, beq_iff_eq] at hb
  have ng : ¬ leafGood t := fun hh => by have := leaf_not_box hh; omega
  simp only [Good]
  constructor
  · rintro (hh | ⟨a, b, c, d⟩)
    · exact absurd hh ng
    · refine ⟨?_, c⟩
      rcases d with ⟨k, d⟩ | ⟨k, d, e, f⟩
      · refine ⟨by simp [headF, k, a, b, d], by simp [kindF, k], ?_⟩
        rw [d]; rfl
      · exact ⟨by simp [headF, k, a, b], by simp [kindF, k, d]; rw [← d]; exact e, f⟩
  · rintro ⟨⟨a, b, c⟩, d⟩
    right
    simp only [headF, Bool.and_eq_true, decide_eq_true_eq] at a
    obtain ⟨⟨a1, a2⟩, a3, a4⟩ := a
    refine ⟨by omega, by rcases a2 with a2 | a2; omega; exact a2, d, ?_⟩
    rcases hb with k | k
    · left
      exact ⟨k, by omega⟩
    · right
      simp only [kindF] at b
      rw [if_neg (by omega), if_neg (by omega), if_neg (by omega), if_pos k] at b
      simp only [Bool.and_eq_true, decide_eq_true_eq] at b
      exact ⟨k, b.1, b.2, c⟩
theorem isV_iff (t : T) : (chkT 12 t 1048576).isSome = true ↔ Good 12 t ∧ (bytesT 12 t : Int) ≤ 1048576 := by
  rcases chk_says 12 t 1048576 (by omega) with ⟨h1, h2, h3⟩ | ⟨h1, h2⟩
  · rw [h1]; simp [h2, h3]
  · rw [h1]
    constructor
    · intro h; cases h
    · intro h; exact absurd h h2
/-- As many names as values. -/
theorem good_okK : ∀ (f m : Nat) (t : T), Good m t → okK f t
  | 0, _, _, _ => trivial
  | f + 1, m, t, hg => by
    cases hb : isBox t with
    | false =>
      have hl := (good_leaf hb).1 hg
      have hn := leaf_not_box hl
      exact ⟨fun h => absurd h hn.2, fun i hi => by have := hl.1; omega⟩
    | true =>
      cases m with
      | zero =>
        have := leaf_not_box hg
        simp only [isBox, Bool.or_eq_true, beq_iff_eq] at hb
        omega
      | succ m =>
        obtain ⟨⟨_, hk, _⟩, hc⟩ := (good_box hb).1 hg
        refine ⟨fun k => ?_, fun i hi => good_okK f m _ (hc i hi)⟩
        simp only [kindF] at hk
        rw [if_neg (by omega), if_neg (by omega), if_neg (by omega), if_pos k] at hk
        simp only [Bool.and_eq_true, decide_eq_true_eq] at hk
        exact hk.1
end Go.Proofs.YtknakfpciccoaabGreatDoor
/- The program's order and the reference's are one; a vast value is none. -/
namespace Go.Proofs.YtknakfpciccoaabGreatDoor
open Go.RowKit

theorem noText_eq {t : T} (h : noText t = true) : sOf t = ByteArray.empty := by
  unfold noText at h
  have h1 : (sOf t).toList = [] := by simpa using h
  apply (toList_eq_iff _ _).1
  rw [h1, ByteArray.toList_eq]
  rfl
end Go.Proofs.YtknakfpciccoaabGreatDoor
/- Bytes as values: what the program's reader and the reference's take them for. -/
namespace Go.Proofs.YtknakfpciccoaabGreatDoor
open Go.RowKit

def suf (s : ByteArray) (n : Nat) : ByteArray := s.extract n s.size
theorem suf_size (s : ByteArray) (n : Nat) : (suf s n).size = s.size - n := by simp [suf, ByteArray.size_extract]
def leafT (k n : Int) (s : ByteArray) : T := mkT k n s [] []
theorem elt_mk (k n : Int) (s : ByteArray) (l : List T) (ks : List ByteArray) (i : Nat) : elt (mkT k n s l ks) i = l.getD i .nil := rfl
theorem nL_mk (k n : Int) (s : ByteArray) (l : List T) (ks : List ByteArray) : nL (mkT k n s l ks) = l.length := rfl
theorem nK_mk (k n : Int) (s : ByteArray) (l : List T) (ks : List ByteArray) : nK (mkT k n s l ks) = ks.length := by unfold nK; rw [kOf_mk]
theorem nam_mk (k n : Int) (s : ByteArray) (l : List T) (ks : List ByteArray) (i : Nat) : nam (mkT k n s l ks) i = ks.getD i ByteArray.empty := by unfold nam; rw [kOf_mk]
/-- How many bytes were taken. -/
theorem sumL_list (g : T → Nat) (t : T) : ∀ k, k ≤ nL t → sumL g t k = (((lOf t).take k).map g).sum
  | 0, _ => by simp [sumL]
  | k + 1, h => by
    have hk : k < (lOf t).length := h
    rw [sumL, sumL_list g t k (by omega), List.take_succ_eq_append_getElem hk, List.map_append, List.sum_append]
    have e : elt t k = (lOf t)[k] := by simp [elt, List.getD_eq_getElem?_getD, hk]
    rw [e]
    rfl
theorem sumK_list (t : T) : ∀ k, k ≤ nK t → sumK t k = (((kOf t).take k).map fun s => 2 + s.size).sum
  | 0, _ => by simp [sumK]
  | k + 1, h => by
    have hk : k < (kOf t).length := h
    rw [sumK, sumK_list t k (by omega), List.take_succ_eq_append_getElem hk, List.map_append, List.sum_append]
    have e : nam t k = (kOf t)[k] := by simp [nam, List.getD_eq_getElem?_getD, hk]
    rw [e]
    rfl
end Go.Proofs.YtknakfpciccoaabGreatDoor
/- Bytes as values: both answers are one. -/
namespace Go.Proofs.YtknakfpciccoaabGreatDoor
open Go.RowKit

theorem bytes_box (d : Nat) (k : Int) (l : List T) (ks : List ByteArray) (hk : k = 5 ∨ k = 6) (h5 : k = 5 → ks = []) :
    bytesT (d + 1) (mkT k 0 ByteArray.empty l ks) = 5 + (ks.map fun s => 2 + s.size).sum + (l.map (bytesT d)).sum := by
  have e1 : sumL (bytesT d) (mkT k 0 ByteArray.empty l ks) (nL (mkT k 0 ByteArray.empty l ks)) = (l.map (bytesT d)).sum := by
    rw [sumL_list _ _ _ (Nat.le_refl _), lOf_mk, nL_mk, List.take_length]
  have e2 : sumK (mkT k 0 ByteArray.empty l ks) (nK (mkT k 0 ByteArray.empty l ks)) = (ks.map fun s => 2 + s.size).sum := by
    rw [sumK_list _ _ (Nat.le_refl _), kOf_mk, nK_mk, List.take_length]
  unfold bytesT
  rw [kindOf_mk]
  rcases hk with hk | hk
  · rw [if_pos hk, e1, h5 hk]
    simp
  · rw [if_neg (by omega), if_pos hk, e1, e2]
end Go.Proofs.YtknakfpciccoaabGreatDoor
/- The rune at the front of a text: the reference's reading of it, and the decoder's. -/
namespace Go.Proofs.YtknakfpciccoaabGreatDoor
open Go.RowKit

def bt (s : ByteArray) (i : Nat) : Nat := (s.get! i).toNat
theorem bt_lt (s : ByteArray) (i : Nat) : bt s i < 256 := (s.get! i).toNat_lt
/-- The bytes 1 to k go on. -/
def contTo (s : ByteArray) : Nat → Bool
  | 0 => true
  | k + 1 => contTo s k && (decide (128 ≤ bt s (k + 1)) && decide (bt s (k + 1) ≤ 191))
def runC (s : ByteArray) (c0 : Int) : Nat → Int
  | 0 => c0
  | k + 1 => 64 * runC s c0 k + (bt s (k + 1) : Int) - 128
def badRune (least c : Int) : Bool := decide (c < least) || decide (1114111 < c) || (decide (55296 ≤ c) && decide (c < 57344))
/-- A lead byte's rest: how many bytes, or none. -/
def finN (s : ByteArray) (n : Nat) (least c0 : Int) : Nat :=
  if s.size < n then 0 else if contTo s (n - 1) = false then 0 else if badRune least (runC s c0 (n - 1)) = true then 0 else n
def utfN (s : ByteArray) : Nat :=
  if bt s 0 < 128 then 1 else if 192 ≤ bt s 0 ∧ bt s 0 < 224 then finN s 2 128 (bt s 0 - 192) else if 224 ≤ bt s 0 ∧ bt s 0 < 240 then finN s 3 2048 (bt s 0 - 224) else if 240 ≤ bt s 0 ∧ bt s 0 < 248 then finN s 4 65536 (bt s 0 - 240) else 0

theorem decodeL_eq (s : ByteArray) : Lib.decodeL s.data.toList = Utf8.decode s 0 := by
  unfold Lib.decodeL
  cases s with
  | mk d => rfl
/-- The reference's number of bytes is the decoder's, 0 where she yields the error of one byte. -/
theorem utfN_decode (s : ByteArray) : utfN s = if (Utf8.decode s 0).1 = 65533 ∧ (Utf8.decode s 0).2 = 1 then 0 else (Utf8.decode s 0).2 := by
  have l0 := bt_lt s 0
  have l1 := bt_lt s 1
  have l2 := bt_lt s 2
  have l3 := bt_lt s 3
  simp only [utfN, finN, contTo, runC, badRune, Utf8.decode, Utf8.runeError, Utf8.valid, Nat.zero_add]
  simp only [← bt.eq_def]
  generalize bt s 0 = a at *
  generalize bt s 1 = b at *
  generalize bt s 2 = c at *
  generalize bt s 3 = d at *
  generalize s.size = n at *
  by_cases h1 : a < 128
  · simp only [h1, if_true]
    rw [if_neg (by omega)]
  rw [if_neg h1, if_neg h1]
  by_cases h2 : 192 ≤ a ∧ a < 224
  · have e : (a / 32 == 6) = true := by simp; omega
    rw [if_pos h2]
    by_cases hc : 1 < n ∧ b / 64 = 2
    · have e1 : (decide (1 < n) && b / 64 == 2) = true := by simp; exact hc
      rw [e, e1]
      simp only [Bool.and_self, if_true]
      rw [if_neg (by omega), if_neg (by simp; omega)]
      by_cases hv : a % 32 * 64 + b % 64 ≥ 128
      · rw [if_pos hv, if_neg (by simp; omega)]
        simp
      · rw [if_neg hv, if_pos (by simp; omega)]
        simp
    · have e1 : (decide (1 < n) && b / 64 == 2) = false := by
        simp only [Bool.and_eq_false_iff, decide_eq_false_iff_not, beq_eq_false_iff_ne]; omega
      have e2 : (a / 16 == 14) = false := by simp; omega
      have e3 : (a / 8 == 30) = false := by simp; omega
      rw [e1, e2, e3]
      simp only [Bool.and_false, Bool.false_and, Bool.false_eq_true, if_false]
      by_cases hn : n < 2
      · simp [hn]
      · rw [if_neg hn, if_pos (by simp; omega)]
        simp
  rw [if_neg h2]
  have g2 : (a / 32 == 6) = false := by simp; omega
  rw [g2]
  simp only [Bool.false_and, Bool.false_eq_true, if_false]
  by_cases h3 : 224 ≤ a ∧ a < 240
  · have e : (a / 16 == 14) = true := by simp; omega
    rw [if_pos h3]
    by_cases hc : (1 < n ∧ b / 64 = 2) ∧ 2 < n ∧ c / 64 = 2
    · have e1 : (decide (1 < n) && b / 64 == 2) = true := by simp; exact hc.1
      have e2 : (decide (2 < n) && c / 64 == 2) = true := by simp; exact hc.2
      rw [e, e1, e2]
      simp only [Bool.and_self, if_true]
      rw [if_neg (by omega), if_neg (by simp; omega)]
      generalize hX : a % 16 * 4096 + b % 64 * 64 + c % 64 = X at *
      by_cases hv : 2048 ≤ X ∧ (X < 55296 ∨ 57344 ≤ X)
      · have hi : (decide (X ≥ 2048) && (decide ((0 : Int) ≤ X) && decide ((X : Int) < 55296) || decide ((57344 : Int) ≤ X) && decide ((X : Int) ≤ 1114111))) = true := by simp; omega
        rw [hi, if_neg (by simp; omega)]
        simp
      · have hi : (decide (X ≥ 2048) && (decide ((0 : Int) ≤ X) && decide ((X : Int) < 55296) || decide ((57344 : Int) ≤ X) && decide ((X : Int) ≤ 1114111))) = false := by
          simp only [Bool.and_eq_false_iff, Bool.or_eq_false_iff, decide_eq_false_iff_not]; omega
        rw [hi, if_pos (by simp; omega)]
        simp
    · have e1 : ((decide (1 < n) && b / 64 == 2) && (decide (2 < n) && c / 64 == 2)) = false := by
        simp only [Bool.and_eq_false_iff, decide_eq_false_iff_not, beq_eq_false_iff_ne]; omega
      have e3 : (a / 8 == 30) = false := by simp; omega
      rw [e, e3]
      simp only [Bool.true_and, Bool.false_and]
      rw [e1]
      simp only [Bool.false_eq_true, if_false]
      by_cases hn : n < 3
      · simp [hn]
      · rw [if_neg hn, if_pos (by simp; omega)]
        simp
  rw [if_neg h3]
  have g3 : (a / 16 == 14) = false := by simp; omega
  rw [g3]
  simp only [Bool.false_and, Bool.false_eq_true, if_false]
  by_cases h4 : 240 ≤ a ∧ a < 248
  · have e : (a / 8 == 30) = true := by simp; omega
    rw [if_pos h4]
    by_cases hc : (1 < n ∧ b / 64 = 2) ∧ (2 < n ∧ c / 64 = 2) ∧ 3 < n ∧ d / 64 = 2
    · have e1 : (decide (1 < n) && b / 64 == 2) = true := by simp; exact hc.1
      have e2 : (decide (2 < n) && c / 64 == 2) = true := by simp; exact hc.2.1
      have e3 : (decide (3 < n) && d / 64 == 2) = true := by simp; exact hc.2.2
      rw [e, e1, e2, e3]
      simp only [Bool.and_self, if_true]
      rw [if_neg (by omega), if_neg (by simp; omega)]
      generalize hX : a % 8 * 262144 + b % 64 * 4096 + c % 64 * 64 + d % 64 = X at *
      by_cases hv : 65536 ≤ X ∧ X ≤ 1114111
      · have hi : (decide (X ≥ 65536) && (decide ((0 : Int) ≤ X) && decide ((X : Int) < 55296) || decide ((57344 : Int) ≤ X) && decide ((X : Int) ≤ 1114111))) = true := by simp; omega
        rw [hi, if_neg (by simp; omega)]
        simp
      · have hi : (decide (X ≥ 65536) && (decide ((0 : Int) ≤ X) && decide ((X : Int) < 55296) || decide ((57344 : Int) ≤ X) && decide ((X : Int) ≤ 1114111))) = false := by
          simp only [Bool.and_eq_false_iff, Bool.or_eq_false_iff, decide_eq_false_iff_not]; omega
        rw [hi, if_pos (by simp; omega)]
        simp
    · have e1 : (((decide (1 < n) && b / 64 == 2) && (decide (2 < n) && c / 64 == 2)) && (decide (3 < n) && d / 64 == 2)) = false := by
        simp only [Bool.and_eq_false_iff, decide_eq_false_iff_not, beq_eq_false_iff_ne]; omega
      rw [e]
      simp only [Bool.true_and]
      rw [e1]
      simp only [Bool.false_eq_true, if_false]
      by_cases hn : n < 4
      · simp [hn]
      · rw [if_neg hn, if_pos (by simp; omega)]
        simp
  rw [if_neg h4]
  have g4 : (a / 8 == 30) = false := by simp; omega
  rw [g4]
  simp
end Go.Proofs.YtknakfpciccoaabGreatDoor
/- Texts as values: what a text reads as. -/
namespace Go.Proofs.YtknakfpciccoaabGreatDoor
open Go.RowKit

/-- The byte at a place; 256: none is there. -/
def cB (s : ByteArray) (i : Nat) : Nat := if i < s.size then bt s i else 256
theorem cB_in {s : ByteArray} {i : Nat} (h : cB s i < 256) : i < s.size := by
  unfold cB at h
  split at h
  · assumption
  · omega
theorem cB_bt {s : ByteArray} {i : Nat} (h : i < s.size) : cB s i = bt s i := by unfold cB; rw [if_pos h]
theorem cB_end {s : ByteArray} {i : Nat} (h : s.size ≤ i) : cB s i = 256 := by unfold cB; rw [if_neg (by omega)]
theorem cB_lt {s : ByteArray} {i : Nat} (h : i < s.size) : cB s i < 256 := by rw [cB_bt h]; exact bt_lt _ _
/-- Blanks are passed. -/
def blank (c : Nat) : Bool := c == 32 || c == 9 || c == 10 || c == 13
def passN (p : Nat → Bool) (s : ByteArray) : Nat → Nat → Nat
  | 0, i => i
  | n + 1, i => if p (cB s i) = true then passN p s n (i + 1) else i
def pass (p : Nat → Bool) (s : ByteArray) (i : Nat) : Nat := passN p s (s.size - i) i
theorem pass_step {p : Nat → Bool} (hp : p 256 = false) (s : ByteArray) (i : Nat) : pass p s i = if p (cB s i) = true then pass p s (i + 1) else i := by
  unfold pass
  by_cases h : i < s.size
  · have e : s.size - i = (s.size - (i + 1)) + 1 := by omega
    rw [e, passN]
  · have e : s.size - i = 0 := by omega
    rw [e, passN, cB_end (by omega), hp]
    rfl
theorem passN_ge (p : Nat → Bool) (s : ByteArray) : ∀ n i, i ≤ passN p s n i
  | 0, i => Nat.le_refl _
  | n + 1, i => by
    rw [passN]
    split
    · have := passN_ge p s n (i + 1); omega
    · exact Nat.le_refl _
theorem passN_le (p : Nat → Bool) (s : ByteArray) : ∀ n i, passN p s n i ≤ i + n
  | 0, i => by rw [passN]; omega
  | n + 1, i => by
    rw [passN]
    split
    · have := passN_le p s n (i + 1); omega
    · omega
theorem pass_ge (p : Nat → Bool) (s : ByteArray) (i : Nat) : i ≤ pass p s i := passN_ge p s _ i
theorem pass_le (p : Nat → Bool) {s : ByteArray} {i : Nat} (h : i ≤ s.size) : pass p s i ≤ s.size := by
  have := passN_le p s (s.size - i) i
  unfold pass
  omega
theorem pass_all {p : Nat → Bool} (hp : p 256 = false) (s : ByteArray) : ∀ (n i j : Nat), s.size - i ≤ n → i ≤ j → j < pass p s i → p (cB s j) = true
  | 0, i, j, h, h1, h2 => by
    rw [pass_step hp, cB_end (by omega), hp] at h2
    simp at h2
    omega
  | n + 1, i, j, h, h1, h2 => by
    rw [pass_step hp] at h2
    by_cases hh : p (cB s i) = true
    · rw [if_pos hh] at h2
      by_cases e : i = j
      · subst e; exact hh
      · exact pass_all hp s n (i + 1) j (by omega) (by omega) h2
    · rw [if_neg hh] at h2
      omega
theorem blank_end : blank 256 = false := rfl
def sk (s : ByteArray) (i : Nat) : Nat := pass blank s i
theorem sk_step (s : ByteArray) (i : Nat) : sk s i = if blank (cB s i) = true then sk s (i + 1) else i := pass_step blank_end s i
theorem sk_ge (s : ByteArray) (i : Nat) : i ≤ sk s i := pass_ge _ s i
theorem sk_le {s : ByteArray} {i : Nat} (h : i ≤ s.size) : sk s i ≤ s.size := pass_le _ h
/-- Digits. -/
def isD (c : Nat) : Bool := decide (48 ≤ c) && decide (c ≤ 57)
theorem isD_end : isD 256 = false := rfl
def dg (s : ByteArray) (i : Nat) : Nat := pass isD s i
/-- What so many digits from a place on spell. -/
def dv (s : ByteArray) (d : Nat) : Nat → Nat
  | 0 => 0
  | k + 1 => dv s d k * 10 + (cB s (d + k) - 48)
def sgn (s : ByteArray) (i : Nat) : Nat := if cB s i = 45 then i + 1 else i
def numS (s : ByteArray) (i : Nat) : Option (Int × Nat) :=
  if dg s (sgn s i) = sgn s i then none
  else if sgn s i + 1 < dg s (sgn s i) ∧ cB s (sgn s i) = 48 then none
  else if cB s i = 45 then (if dv s (sgn s i) (dg s (sgn s i) - sgn s i) ≤ 9223372036854775808 then some (-(dv s (sgn s i) (dg s (sgn s i) - sgn s i) : Int), dg s (sgn s i)) else none)
  else (if dv s (sgn s i) (dg s (sgn s i) - sgn s i) < 9223372036854775808 then some ((dv s (sgn s i) (dg s (sgn s i) - sgn s i) : Int), dg s (sgn s i)) else none)

/-- A token stands at a place. -/
def pfx (s : ByteArray) (i : Nat) (t : ByteArray) : Bool := decide (i + t.size ≤ s.size) && decide (s.extract i (i + t.size) = t)

/-- Hexadecimal digits. -/
def hexV (c : Nat) : Option Nat := if isD c = true then some (c - 48) else if 97 ≤ c ∧ c ≤ 102 then some (c - 87) else if 65 ≤ c ∧ c ≤ 70 then some (c - 55) else none
theorem hexV_lt {c n : Nat} (h : hexV c = some n) : n < 16 ∧ c < 256 := by
  unfold hexV isD at h
  split at h
  · rename_i hh
    simp only [Option.some.injEq] at h
    simp at hh
    omega
  · split at h
    · simp only [Option.some.injEq] at h
      omega
    · split at h
      · simp only [Option.some.injEq] at h
        omega
      · cases h
def hexN (s : ByteArray) (i : Nat) : Nat → Option Nat
  | 0 => some 0
  | k + 1 => (hexN s i k).bind fun a => (hexV (cB s (i + k))).bind fun b => some (16 * a + b)
theorem hexN_lt {s : ByteArray} {i : Nat} : ∀ {k n : Nat}, hexN s i k = some n → n < 16 ^ k ∧ (0 < k → i + k ≤ s.size)
  | 0, n, h => by
    simp only [hexN, Option.some.injEq] at h
    subst h
    exact ⟨by simp, fun h => by omega⟩
  | k + 1, n, h => by
    rw [hexN] at h
    cases h1 : hexN s i k with
    | none => rw [h1] at h; cases h
    | some a =>
      rw [h1] at h
      simp only [Option.bind_some] at h
      cases h2 : hexV (cB s (i + k)) with
      | none => rw [h2] at h; cases h
      | some b =>
        rw [h2] at h
        simp only [Option.bind_some, Option.some.injEq] at h
        have h3 := hexN_lt h1
        have h4 := hexV_lt h2
        have h5 := cB_in h4.2
        refine ⟨?_, fun _ => by omega⟩
        rw [Nat.pow_succ]
        omega
def hex4 (s : ByteArray) (i : Nat) : Option Nat := hexN s i 4
theorem hexN_none {s : ByteArray} {i : Nat} : ∀ {k m : Nat}, k ≤ m → hexN s i k = none → hexN s i m = none := by
  intro k m h h0
  induction h with
  | refl => exact h0
  | step _ ih => rw [hexN, ih]; rfl

/-- What is behind a backslash: a rune, and where it ends. -/
def low (s : ByteArray) (i a : Nat) : Option (Nat × Nat) :=
  if a < 55296 ∨ 57343 < a then some (a, i)
  else if 56319 < a then none
  else if cB s i = 92 ∧ cB s (i + 1) = 117 then (hex4 s (i + 2)).bind fun b => if b < 56320 ∨ 57343 < b then none else some (65536 + 1024 * (a - 55296) + (b - 56320), i + 6)
  else none
def escR (s : ByteArray) (i : Nat) : Option (Nat × Nat) :=
  if cB s i = 34 ∨ cB s i = 92 ∨ cB s i = 47 then some (cB s i, i + 1)
  else if cB s i = 98 then some (8, i + 1)
  else if cB s i = 102 then some (12, i + 1)
  else if cB s i = 110 then some (10, i + 1)
  else if cB s i = 114 then some (13, i + 1)
  else if cB s i = 116 then some (9, i + 1)
  else if cB s i = 117 then (hex4 s (i + 1)).bind fun a => low s (i + 5) a
  else none
theorem low_adv {s : ByteArray} {i a r e : Nat} (ha : a < 65536) (hi : i ≤ s.size) (h : low s i a = some (r, e)) : i ≤ e ∧ e ≤ s.size ∧ r ≤ 1114111 := by
  unfold low at h
  split at h
  · simp only [Option.some.injEq, Prod.mk.injEq] at h
    omega
  · split at h
    · cases h
    · split at h
      · cases hh : hex4 s (i + 2) with
        | none => rw [hh] at h; cases h
        | some b =>
          rw [hh] at h
          simp only [Option.bind_some] at h
          have := hexN_lt hh
          split at h
          · cases h
          · simp only [Option.some.injEq, Prod.mk.injEq] at h
            omega
      · cases h
theorem escR_adv {s : ByteArray} {i r e : Nat} (h : escR s i = some (r, e)) : i < e ∧ e ≤ s.size ∧ r ≤ 1114111 := by
  have key : ∀ (c x : Nat), cB s i = c → c < 256 → some (x, i + 1) = some (r, e) → x < 256 → i < e ∧ e ≤ s.size ∧ r ≤ 1114111 := by
    intro c x h1 h2 h3 h4
    have := cB_in (h1 ▸ h2)
    simp only [Option.some.injEq, Prod.mk.injEq] at h3
    omega
  unfold escR at h
  split at h
  · rename_i hh
    exact key _ _ rfl (by omega) h (by omega)
  · split at h
    · rename_i hh; exact key _ _ hh (by omega) h (by omega)
    · split at h
      · rename_i hh; exact key _ _ hh (by omega) h (by omega)
      · split at h
        · rename_i hh; exact key _ _ hh (by omega) h (by omega)
        · split at h
          · rename_i hh; exact key _ _ hh (by omega) h (by omega)
          · split at h
            · rename_i hh; exact key _ _ hh (by omega) h (by omega)
            · split at h
              · cases hx : hex4 s (i + 1) with
                | none => rw [hx] at h; cases h
                | some a =>
                  rw [hx] at h
                  simp only [Option.bind_some] at h
                  have h1 := hexN_lt hx
                  have := low_adv (by omega) (by omega) h
                  omega
              · cases h

/-- A rune of a text: as it is, or escaped. -/
def decG (s : ByteArray) : Nat × Nat := if s.size = 0 then (65533, 0) else Utf8.decode s 0
def letS (s : ByteArray) (i : Nat) : Option (Nat × Nat) :=
  if cB s i = 92 then escR s (i + 1)
  else if (decG (suf s i)).1 < 32 ∨ ((decG (suf s i)).1 = 65533 ∧ (decG (suf s i)).2 ≤ 1) then none
  else some ((decG (suf s i)).1, i + (decG (suf s i)).2)
end Go.Proofs.YtknakfpciccoaabGreatDoor
