/- What a value is: the program's check and the reference's say the same; so do their orders. -/
import Derived.Test.YtknakfpciccoaaaDoorG
namespace Go.Proofs.YtknakfpciccoaaaDoor
open Go.RowKit

def sumL (g : T → Nat) (t : T) : Nat → Nat
  | 0 => 0
  | k + 1 => sumL g t k + g (elt t k)
def sumK (t : T) : Nat → Nat
  | 0 => 0
  | k + 1 => sumK t k + (2 + (nam t k).size)
def leafBytes (t : T) : Nat := if kindOf t = 1 then 1 else if kindOf t = 2 then 2 else if kindOf t = 3 then 9 else 5 + (sOf t).size
def bytesT : Nat → T → Nat
  | 0, t => leafBytes t
  | m + 1, t => if kindOf t = 5 then 5 + sumL (bytesT m) t (nL t) else if kindOf t = 6 then 5 + sumK t (nK t) + sumL (bytesT m) t (nL t) else leafBytes t
def leafGood (t : T) : Prop :=
  nL t = 0 ∧ nK t = 0 ∧ ((kindOf t = 1 ∧ nOf t = 0 ∧ noText t = true) ∨ (kindOf t = 2 ∧ (nOf t = 0 ∨ nOf t = 1) ∧ noText t = true) ∨ (kindOf t = 3 ∧ noText t = true) ∨ (kindOf t = 4 ∧ nOf t = 0 ∧ (sOf t).size ≤ 4000 ∧ okS (sOf t) = true))
def Good : Nat → T → Prop
  | 0, t => leafGood t
  | m + 1, t => leafGood t ∨ (nOf t = 0 ∧ noText t = true ∧ (∀ i, i < nL t → Good m (elt t i)) ∧ ((kindOf t = 5 ∧ nK t = 0) ∨ (kindOf t = 6 ∧ nK t = nL t ∧ namesF t (nK t) = true ∧ dupTo t (nK t) = false)))
theorem noLists_iff (t : T) : noLists t = true ↔ nL t = 0 ∧ nK t = 0 := by simp [noLists]

theorem takeO_eq (n l : Int) : takeO n l = if n ≤ l then some (l - n) else none := rfl
/-- A leaf, as the checker sees it. -/
theorem leafO_eq (t : T) (l : Int) (_h : 0 ≤ l) : leafO t l = some (l - leafBytes t) ∧ leafGood t ∧ (leafBytes t : Int) ≤ l ∨ leafO t l = none ∧ ¬ (leafGood t ∧ (leafBytes t : Int) ≤ l) := by
  unfold leafO leafGood leafBytes
  by_cases k1 : kindOf t = 1
  · simp only [k1, if_true, noLists_iff, takeO_eq]
    by_cases c : nOf t = 0 ∧ noText t = true ∧ nL t = 0 ∧ nK t = 0
    · rw [if_pos c]
      obtain ⟨c1, c2, c3, c4⟩ := c
      by_cases d : (1 : Int) ≤ l
      · left; simp [d, c1, c2, c3, c4]
      · right; simp [d, c1, c2, c3, c4]
    · rw [if_neg c]
      right
      refine ⟨rfl, fun h => c ?_⟩
      obtain ⟨⟨a, b, h⟩, _⟩ := h
      rcases h with ⟨_, h1, h2⟩ | ⟨h, _⟩ | ⟨h, _⟩ | ⟨h, _⟩
      · exact ⟨h1, h2, a, b⟩
      · omega
      · omega
      · omega
  by_cases k2 : kindOf t = 2
  · rw [if_neg k1, if_pos k2, if_neg k1, if_pos k2]
    simp only [noLists_iff, takeO_eq]
    by_cases c : (nOf t = 0 ∨ nOf t = 1) ∧ noText t = true ∧ nL t = 0 ∧ nK t = 0
    · rw [if_pos c]
      obtain ⟨c1, c2, c3, c4⟩ := c
      by_cases d : (2 : Int) ≤ l
      · left; exact ⟨by rw [if_pos d]; rfl, ⟨c3, c4, Or.inr (Or.inl ⟨k2, c1, c2⟩)⟩, d⟩
      · right; exact ⟨if_neg d, fun h => d h.2⟩
    · rw [if_neg c]
      right
      refine ⟨rfl, fun h => c ?_⟩
      obtain ⟨⟨a, b, h⟩, _⟩ := h
      rcases h with ⟨h, _⟩ | ⟨_, h1, h2⟩ | ⟨h, _⟩ | ⟨h, _⟩
      · omega
      · exact ⟨h1, h2, a, b⟩
      · omega
      · omega
  by_cases k3 : kindOf t = 3
  · rw [if_neg k1, if_neg k2, if_pos k3, if_neg k1, if_neg k2, if_pos k3]
    simp only [noLists_iff, takeO_eq]
    by_cases c : noText t = true ∧ nL t = 0 ∧ nK t = 0
    · rw [if_pos c]
      obtain ⟨c2, c3, c4⟩ := c
      by_cases d : (9 : Int) ≤ l
      · left; exact ⟨by rw [if_pos d]; rfl, ⟨c3, c4, Or.inr (Or.inr (Or.inl ⟨k3, c2⟩))⟩, d⟩
      · right; exact ⟨if_neg d, fun h => d h.2⟩
    · rw [if_neg c]
      right
      refine ⟨rfl, fun h => c ?_⟩
      obtain ⟨⟨a, b, h⟩, _⟩ := h
      rcases h with ⟨h, _⟩ | ⟨h, _⟩ | ⟨_, h2⟩ | ⟨h, _⟩
      · omega
      · omega
      · exact ⟨h2, a, b⟩
      · omega
  by_cases k4 : kindOf t = 4
  · rw [if_neg k1, if_neg k2, if_neg k3, if_pos k4, if_neg k1, if_neg k2, if_neg k3]
    simp only [noLists_iff, takeO_eq]
    by_cases c : nOf t = 0 ∧ nL t = 0 ∧ nK t = 0
    · rw [if_pos c]
      obtain ⟨c2, c3, c4⟩ := c
      by_cases d : (5 : Int) ≤ l
      · rw [if_pos d]
        show (if (sOf t).size ≤ 4000 ∧ ((sOf t).size : Int) ≤ l - 5 ∧ okS (sOf t) = true then some (l - 5 - ((sOf t).size : Int)) else none) = _ ∧ _ ∨ _
        by_cases e : (sOf t).size ≤ 4000 ∧ ((sOf t).size : Int) ≤ l - 5 ∧ okS (sOf t) = true
        · left
          refine ⟨?_, ⟨c3, c4, Or.inr (Or.inr (Or.inr ⟨k4, c2, e.1, e.2.2⟩))⟩, by omega⟩
          rw [if_pos e]
          congr 1
          omega
        · right
          refine ⟨if_neg e, fun h => e ?_⟩
          obtain ⟨⟨a, b, h⟩, hb⟩ := h
          rcases h with ⟨h, _⟩ | ⟨h, _⟩ | ⟨h, _⟩ | ⟨_, h1, h2, h3⟩
          · omega
          · omega
          · omega
          · exact ⟨h2, by omega, h3⟩
      · right
        rw [if_neg d]
        exact ⟨rfl, fun h => d (by have := h.2; omega)⟩
    · rw [if_neg c]
      right
      refine ⟨rfl, fun h => c ?_⟩
      obtain ⟨⟨a, b, h⟩, _⟩ := h
      rcases h with ⟨h, _⟩ | ⟨h, _⟩ | ⟨h, _⟩ | ⟨_, h2, _⟩
      · omega
      · omega
      · omega
      · exact ⟨h2, a, b⟩
  · rw [if_neg k1, if_neg k2, if_neg k3, if_neg k4]
    right
    refine ⟨rfl, fun h => ?_⟩
    obtain ⟨⟨a, b, h⟩, _⟩ := h
    rcases h with ⟨h, _⟩ | ⟨h, _⟩ | ⟨h, _⟩ | ⟨h, _⟩ <;> omega
/-- Said of the checker: it takes so many bytes off, or refuses. -/
def Says (r : Option Int) (good : Prop) (n : Nat) (l : Int) : Prop := r = some (l - n) ∧ good ∧ (n : Int) ≤ l ∨ r = none ∧ ¬ (good ∧ (n : Int) ≤ l)
theorem names_says (t : T) (l : Int) (h : 0 ≤ l) : ∀ k, Says (namesL t k l) (namesF t k = true) (sumK t k) l
  | 0 => Or.inl ⟨by simp [namesL, sumK], rfl, by simpa [sumK] using h⟩
  | k + 1 => by
    rcases names_says t l h k with ⟨h1, h2, h3⟩ | ⟨h1, h2⟩
    · by_cases c : (okS (nam t k) = true ∧ (nam t k).size ≤ 4000) ∧ ((sumK t k + (2 + (nam t k).size) : Nat) : Int) ≤ l
      · left
        refine ⟨?_, by simp [namesF, h2, c.1.1, c.1.2], c.2⟩
        simp only [namesL, h1, Option.bind_some, takeO_eq]
        rw [if_pos (by omega)]
        simp only [Option.bind_some, textO]
        rw [if_pos ⟨c.1.2, by omega, c.1.1⟩]
        simp only [sumK]
        congr 1
        omega
      · right
        refine ⟨?_, fun hh => c ?_⟩
        · simp only [namesL, h1, Option.bind_some, takeO_eq]
          by_cases d : (2 : Int) ≤ l - sumK t k
          · rw [if_pos d]
            simp only [Option.bind_some, textO]
            rw [if_neg (fun e => c ⟨⟨e.2.2, e.1⟩, by omega⟩)]
          · rw [if_neg d]; rfl
        · have := hh.1
          simp only [namesF, Bool.and_eq_true, decide_eq_true_eq] at this
          exact ⟨this.2, hh.2⟩
    · right
      refine ⟨by simp [namesL, h1], fun hh => h2 ⟨?_, ?_⟩⟩
      · have := hh.1
        simp only [namesF, Bool.and_eq_true] at this
        exact this.1
      · have := hh.2
        simp only [sumK] at this
        omega
theorem values_says {m : Nat} (ih : ∀ (t : T) (l : Int), 0 ≤ l → Says (chkT m t l) (Good m t) (bytesT m t) l) (t : T) (l : Int) (h : 0 ≤ l) : ∀ k, Says (valuesL (chkT m) t k l) (∀ i, i < k → Good m (elt t i)) (sumL (bytesT m) t k) l
  | 0 => Or.inl ⟨by simp [valuesL, sumL], fun i hi => absurd hi (Nat.not_lt_zero _), by simpa [sumL] using h⟩
  | k + 1 => by
    rcases values_says ih t l h k with ⟨h1, h2, h3⟩ | ⟨h1, h2⟩
    · rcases ih (elt t k) (l - sumL (bytesT m) t k) (by omega) with ⟨g1, g2, g3⟩ | ⟨g1, g2⟩
      · left
        refine ⟨?_, fun i hi => ?_, by simp only [sumL]; omega⟩
        · simp only [valuesL, h1, Option.bind_some, g1, sumL]
          congr 1
          omega
        · by_cases e : i = k
          · subst e; exact g2
          · exact h2 i (by omega)
      · right
        refine ⟨by simp [valuesL, h1, g1], fun hh => g2 ⟨hh.1 k (by omega), ?_⟩⟩
        have := hh.2
        simp only [sumL] at this
        omega
    · right
      refine ⟨by simp [valuesL, h1], fun hh => h2 ⟨fun i hi => hh.1 i (by omega), ?_⟩⟩
      have := hh.2
      simp only [sumL] at this
      omega
theorem leaf_not_box {t : T} (h : leafGood t) : kindOf t ≠ 5 ∧ kindOf t ≠ 6 := by
  obtain ⟨_, _, h⟩ := h
  rcases h with ⟨h, _⟩ | ⟨h, _⟩ | ⟨h, _⟩ | ⟨h, _⟩ <;> omega
theorem chk_says : ∀ (m : Nat) (t : T) (l : Int), 0 ≤ l → Says (chkT m t l) (Good m t) (bytesT m t) l
  | 0, t, l, h => leafO_eq t l h
  | m + 1, t, l, h => by
    by_cases k5 : kindOf t = 5
    · have ng : ¬ leafGood t := fun hh => (leaf_not_box hh).1 k5
      have eg : Good (m + 1) t ↔ nOf t = 0 ∧ noText t = true ∧ nK t = 0 ∧ (∀ i, i < nL t → Good m (elt t i)) := by
        simp only [Good]
        constructor
        · rintro (hh | ⟨a, b, c, d⟩)
          · exact absurd hh ng
          · rcases d with ⟨_, d⟩ | ⟨d, _⟩
            · exact ⟨a, b, d, c⟩
            · omega
        · rintro ⟨a, b, c, d⟩
          exact Or.inr ⟨a, b, d, Or.inl ⟨k5, c⟩⟩
      have eb : bytesT (m + 1) t = 5 + sumL (bytesT m) t (nL t) := by simp [bytesT, k5]
      have ec : chkT (m + 1) t l = if nOf t = 0 ∧ noText t = true ∧ nK t = 0 then (takeO 5 l).bind (valuesL (chkT m) t (nL t)) else none := by simp [chkT, k5]
      unfold Says
      rw [eg, eb, ec]
      by_cases c : nOf t = 0 ∧ noText t = true ∧ nK t = 0
      · rw [if_pos c, takeO_eq]
        by_cases d : (5 : Int) ≤ l
        · rw [if_pos d, Option.bind_some]
          rcases values_says (chk_says m) t (l - 5) (by omega) (nL t) with ⟨h1, h2, h3⟩ | ⟨h1, h2⟩
          · left
            refine ⟨?_, ⟨c.1, c.2.1, c.2.2, h2⟩, by omega⟩
            rw [h1]
            congr 1
            omega
          · right
            exact ⟨h1, fun hh => h2 ⟨hh.1.2.2.2, by have := hh.2; omega⟩⟩
        · right
          rw [if_neg d]
          exact ⟨rfl, fun hh => d (by have := hh.2; omega)⟩
      · rw [if_neg c]
        exact Or.inr ⟨rfl, fun hh => c ⟨hh.1.1, hh.1.2.1, hh.1.2.2.1⟩⟩
    by_cases k6 : kindOf t = 6
    · have ng : ¬ leafGood t := fun hh => (leaf_not_box hh).2 k6
      have eg : Good (m + 1) t ↔ nOf t = 0 ∧ noText t = true ∧ nK t = nL t ∧ (namesF t (nK t) = true ∧ dupTo t (nK t) = false) ∧ (∀ i, i < nL t → Good m (elt t i)) := by
        simp only [Good]
        constructor
        · rintro (hh | ⟨a, b, c, d⟩)
          · exact absurd hh ng
          · rcases d with ⟨d, _⟩ | ⟨_, d, e, f⟩
            · omega
            · exact ⟨a, b, d, ⟨e, f⟩, c⟩
        · rintro ⟨a, b, c, ⟨d, e⟩, f⟩
          exact Or.inr ⟨a, b, f, Or.inr ⟨k6, c, d, e⟩⟩
      have eb : bytesT (m + 1) t = 5 + sumK t (nK t) + sumL (bytesT m) t (nL t) := by simp [bytesT, k6]
      have ec : chkT (m + 1) t l = if nOf t = 0 ∧ noText t = true ∧ nK t = nL t then ((takeO 5 l).bind (namesO t)).bind (valuesL (chkT m) t (nL t)) else none := by simp [chkT, k6]
      unfold Says
      rw [eg, eb, ec]
      by_cases c : nOf t = 0 ∧ noText t = true ∧ nK t = nL t
      · rw [if_pos c, takeO_eq]
        by_cases d : (5 : Int) ≤ l
        · rw [if_pos d, Option.bind_some]
          unfold namesO
          rcases names_says t (l - 5) (by omega) (nK t) with ⟨h1, h2, h3⟩ | ⟨h1, h2⟩
          · rw [h1, Option.bind_some]
            cases hd : dupTo t (nK t) with
            | true =>
              right
              refine ⟨by simp, fun hh => ?_⟩
              have := hh.1.2.2.2.1.2
              cases this
            | false =>
              simp only [Bool.false_eq_true, if_false, Option.bind_some]
              rcases values_says (chk_says m) t (l - 5 - sumK t (nK t)) (by omega) (nL t) with ⟨g1, g2, g3⟩ | ⟨g1, g2⟩
              · left
                refine ⟨?_, ⟨c.1, c.2.1, c.2.2, ⟨h2, by trivial⟩, g2⟩, by omega⟩
                rw [g1]
                congr 1
                omega
              · right
                exact ⟨g1, fun hh => g2 ⟨hh.1.2.2.2.2, by have := hh.2; omega⟩⟩
          · right
            rw [h1]
            exact ⟨rfl, fun hh => h2 ⟨hh.1.2.2.2.1.1, by have := hh.2; omega⟩⟩
        · right
          rw [if_neg d]
          exact ⟨rfl, fun hh => d (by have := hh.2; omega)⟩
      · rw [if_neg c]
        exact Or.inr ⟨rfl, fun hh => c ⟨hh.1.1, hh.1.2.1, hh.1.2.2.1⟩⟩
    · have eg : Good (m + 1) t ↔ leafGood t := by
        simp only [Good]
        constructor
        · rintro (hh | ⟨_, _, _, ⟨d, _⟩ | ⟨d, _⟩⟩)
          · exact hh
          · exact absurd d k5
          · exact absurd d k6
        · exact Or.inl
      have eb : bytesT (m + 1) t = leafBytes t := by simp [bytesT, k5, k6]
      have ec : chkT (m + 1) t l = leafO t l := by simp [chkT, k5, k6]
      unfold Says
      rw [eg, eb, ec]
      exact leafO_eq t l h
end Go.Proofs.YtknakfpciccoaaaDoor
