import Derived.Test.YtknakfpciccoaaaGreatDoorZO1
/- What a value is: the program's check and the reference's say the same; so do their orders. -/
namespace Go.Proofs.YtknakfpciccoaaaGreatDoor
open Go.RowKit

def sumL (g : T → Nat) (t : T) : Nat → Nat
  | 0 => 0
  | k + 1 => sumL g t k + g (elt t k)
def sumK (t : T) : Nat → Nat
  | 0 => 0
  | k + 1 => sumK t k + (2 + (nam t k).size)
def leafBytes (t : T) : Nat := if kindOf t = 1 then 1 else if kindOf t = 2 then 2 else if kindOf t = 3 then 9 else 5 + (sOf t).size
def bytesT : Nat → T → Nat
  | 0, t => leafBytes t
  | m + 1, t => if kindOf t = 5 then 5 + sumL (bytesT m) t (nL t) else if kindOf t = 6 then 5 + sumK t (nK t) + sumL (bytesT m) t (nL t) else leafBytes t
def leafGood (t : T) : Prop :=
  nL t = 0 ∧ nK t = 0 ∧ ((kindOf t = 1 ∧ nOf t = 0 ∧ noText t = true) ∨ (kindOf t = 2 ∧ (nOf t = 0 ∨ nOf t = 1) ∧ noText t = true) ∨ (kindOf t = 3 ∧ noText t = true) ∨ (kindOf t = 4 ∧ nOf t = 0 ∧ (sOf t).size ≤ 4000 ∧ okS (sOf t) = true))
def Good : Nat → T → Prop
  | 0, t => leafGood t
  | m + 1, t => leafGood t ∨ (nOf t = 0 ∧ noText t = true ∧ (∀ i, i < nL t → Good m (elt t i)) ∧ ((kindOf t = 5 ∧ nK t = 0) ∨ (kindOf t = 6 ∧ nK t = nL t ∧ namesF t (nK t) = true ∧ dupTo t (nK t) = false)))
theorem noLists_iff (t : T) : noLists t = true ↔ nL t = 0 ∧ nK t = 0 := by simp [noLists]

theorem takeO_eq (n l : Int) : takeO n l = if n ≤ l then some (l - n) else none := rfl
/-- A leaf, as the checker sees it. -/
theorem leafO_eq (t : T) (l : Int) (_h : 0 ≤ l) : leafO t l = some (l - leafBytes t) ∧ leafGood t ∧ (leafBytes t : Int) ≤ l ∨ leafO t l = none ∧ ¬ (leafGood t ∧ (leafBytes t : Int) ≤ l) := by
  unfold leafO leafGood leafBytes
  by_cases k1 : kindOf t = 1
  · simp only [k1, if_true, noLists_iff, takeO_eq]
    by_cases c : nOf t = 0 ∧ noText t = true ∧ nL t = 0 ∧ nK t = 0
    · rw [if_pos c]
      obtain ⟨c1, c2, c3, c4⟩ := c
      by_cases d : (1 : Int) ≤ l
      · left; simp [d, c1, c2, c3, c4]
      · right; simp [d, c1, c2, c3, c4]
    · rw [if_neg c]
      right
      refine ⟨rfl, fun h => c ?_⟩
      obtain ⟨⟨a, b, h⟩, _⟩ := h
      rcases h with ⟨_, h1, h2⟩ | ⟨h, _⟩ | ⟨h, _⟩ | ⟨h, _⟩
      · exact ⟨h1, h2, a, b⟩
      · omega
      · omega
      · omega
  by_cases k2 : kindOf t = 2
  · rw [if_neg k1, if_pos k2, if_neg k1, if_pos k2]
    simp only [noLists_iff, takeO_eq]
    by_cases c : (nOf t = 0 ∨ nOf t = 1) ∧ noText t = true ∧ nL t = 0 ∧ nK t = 0
    · rw [if_pos c]
      obtain ⟨c1, c2, c3, c4⟩ := c
      by_cases d : (2 : Int) ≤ l
      · left; exact ⟨by rw [if_pos d]; rfl, ⟨c3, c4, Or.inr (Or.inl ⟨k2, c1, c2⟩)⟩, d⟩
      · right; exact ⟨if_neg d, fun h => d h.2⟩
    · rw [if_neg c]
      right
      refine ⟨rfl, fun h => c ?_⟩
      obtain ⟨⟨a, b, h⟩, _⟩ := h
      rcases h with ⟨h, _⟩ | ⟨_, h1, h2⟩ | ⟨h, _⟩ | ⟨h, _⟩
      · omega
      · exact ⟨h1, h2, a, b⟩
      · omega
      · omega
  by_cases k3 : kindOf t = 3
  · rw [if_neg k1, if_neg k2, if_pos k3, if_neg k1, if_neg k2, if_pos k3]
    simp only [noLists_iff, takeO_eq]
    by_cases c : noText t = true ∧ nL t = 0 ∧ nK t = 0
    · rw [if_pos c]
      obtain ⟨c2, c3, c4⟩ := c
      by_cases d : (9 : Int) ≤ l
      · left; exact ⟨by rw [if_pos d]; rfl, ⟨c3, c4, Or.inr (Or.inr (Or.inl ⟨k3, c2⟩))⟩, d⟩
      · right; exact ⟨if_neg d, fun h => d h.2⟩
    · rw [if_neg c]
      right
      refine ⟨rfl, fun h => c ?_⟩
      obtain ⟨⟨a, b, h⟩, _⟩ := h
      rcases h with ⟨h, _⟩ | ⟨h, _⟩ | ⟨_, h2⟩ | ⟨h, _⟩
      · omega
      · omega
      · exact ⟨h2, a, b⟩
      · omega
  by_cases k4 : kindOf t = 4
  · rw [if_neg k1, if_neg k2, if_neg k3, if_pos k4, if_neg k1, if_neg k2, if_neg k3]
    simp only [noLists_iff, takeO_eq]
    by_cases c : nOf t = 0 ∧ nL t = 0 ∧ nK t = 0
    · rw [if_pos c]
      obtain ⟨c2, c3, c4⟩ := c
      by_cases d : (5 : Int) ≤ l
      · rw [if_pos d]
        show (if (sOf t).size ≤ 4000 ∧ ((sOf t).size : Int) ≤ l - 5 ∧ okS (sOf t) = true then some (l - 5 - ((sOf t).size : Int)) else none) = _ ∧ _ ∨ _
        by_cases e : (sOf t).size ≤ 4000 ∧ ((sOf t).size : Int) ≤ l - 5 ∧ okS (sOf t) = true
        · left
          refine ⟨?_, ⟨c3, c4, Or.inr (Or.inr (Or.inr ⟨k4, c2, e.1, e.2.2⟩))⟩, by omega⟩
          rw [if_pos e]
          congr 1
          omega
        · right
          refine ⟨if_neg e, fun h => e ?_⟩
          obtain ⟨⟨a, b, h⟩, hb⟩ := h
          rcases h with ⟨h, _⟩ | ⟨h, _⟩ | ⟨h, _⟩ | ⟨_, h1, h2, h3⟩
          · omega
          · omega
          · omega
          · exact ⟨h2, by omega, h3⟩
      · right
        rw [if_neg d]
        exact ⟨rfl, fun h => d (by have := h.2; omega)⟩
    · rw [if_neg c]
      right
      refine ⟨rfl, fun h => c ?_⟩
      obtain ⟨⟨a, b, h⟩, _⟩ := h
      rcases h with ⟨h, _⟩ | ⟨h, _⟩ | ⟨h, _⟩ | ⟨_, h2, _⟩
      · omega
      · omega
      · omega
      · exact ⟨h2, a, b⟩
  · rw [if_neg k1, if_neg k2, if_neg k3, if_neg k4]
    right
    refine ⟨rfl, fun h => ?_⟩
    obtain ⟨⟨a, b, h⟩, _⟩ := h
    rcases h with ⟨h, _⟩ | ⟨h, _⟩ | ⟨h, _⟩ | ⟨h, _⟩ <;> omega
/-- Said of the checker: it takes so many bytes off, or refuses. -/
def Says (r : Option Int) (good : Prop) (n : Nat) (l : Int) : Prop := r = some (l - n) ∧ good ∧ (n : Int) ≤ l ∨ r = none ∧ ¬ (good ∧ (n : Int) ≤ l)
theorem names_says (t : T) (l : Int) (h : 0 ≤ l) : ∀ k, Says (namesL t k l) (namesF t k = true) (sumK t k) l
  | 0 => Or.inl ⟨by simp [namesL, sumK], rfl, by simpa [sumK] using h⟩
  | k + 1 => by
    rcases names_says t l h k with ⟨h1, h2, h3⟩ | ⟨h1, h2⟩
    · by_cases c : (okS (nam t k) = true ∧ (nam t k).size ≤ 4000) ∧ ((sumK t k + (2 + (nam t k).size) : Nat) : Int) ≤ l
      · left
        refine ⟨?_, by simp [namesF, h2, c.1.1, c.1.2], c.2⟩
        simp only [namesL, h1, Option.bind_some, takeO_eq]
        rw [if_pos (by omega)]
        simp only [Option.bind_some, textO]
        rw [if_pos ⟨c.1.2, by omega, c.1.1⟩]
        simp only [sumK]
        congr 1
        omega
      · right
        refine ⟨?_, fun hh => c ?_⟩
        · simp only [namesL, h1, Option.bind_some, takeO_eq]
          by_cases d : (2 : Int) ≤ l - sumK t k
          · rw [if_pos d]
            simp only [Option.bind_some, textO]
            rw [if_neg (fun e => c ⟨⟨e.2.2, e.1⟩, by omega⟩)]
          · rw [if_neg d]; rfl
        · have := hh.1
          simp only [namesF, Bool.and_eq_true, decide_eq_true_eq] at this
          exact ⟨this.2, hh.2⟩
    · right
      refine ⟨by simp [namesL, h1], fun hh => h2 ⟨?_, ?_⟩⟩
      · have := hh.1
        simp only [namesF, Bool.and_eq_true] at this
        exact this.1
      · have := hh.2
        simp only [sumK] at this
        omega
theorem values_says {m : Nat} (ih : ∀ (t : T) (l : Int), 0 ≤ l → Says (chkT m t l) (Good m t) (bytesT m t) l) (t : T) (l : Int) (h : 0 ≤ l) : ∀ k, Says (valuesL (chkT m) t k l) (∀ i, i < k → Good m (elt t i)) (sumL (bytesT m) t k) l
  | 0 => Or.inl ⟨by simp [valuesL, sumL], fun i hi => absurd hi (Nat.not_lt_zero _), by simpa [sumL] using h⟩
  | k + 1 => by
    rcases values_says ih t l h k with ⟨h1, h2, h3⟩ | ⟨h1, h2⟩
    · rcases ih (elt t k) (l - sumL (bytesT m) t k) (by omega) with ⟨g1, g2, g3⟩ | ⟨g1, g2⟩
      · left
        refine ⟨?_, fun i hi => ?_, by simp only [sumL]; omega⟩
        · simp only [valuesL, h1, Option.bind_some, g1, sumL]
          congr 1
          omega
        · by_cases e : i = k
          · subst e; exact g2
          · exact h2 i (by omega)
      · right
        refine ⟨by simp [valuesL, h1, g1], fun hh => g2 ⟨hh.1 k (by omega), ?_⟩⟩
        have := hh.2
        simp only [sumL] at this
        omega
    · right
      refine ⟨by simp [valuesL, h1], fun hh => h2 ⟨fun i hi => hh.1 i (by omega), ?_⟩⟩
      have := hh.2
      simp only [sumL] at this
      omega
theorem leaf_not_box {t : T} (h : leafGood t) : kindOf t ≠ 5 ∧ kindOf t ≠ 6 := by
  obtain ⟨_, _, h⟩ := h
  rcases h with ⟨h, _⟩ | ⟨h, _⟩ | ⟨h, _⟩ | ⟨h, _⟩ <;> omega
theorem chk_says : ∀ (m : Nat) (t : T) (l : Int), 0 ≤ l → Says (chkT m t l) (Good m t) (bytesT m t) l
  | 0, t, l, h => leafO_eq t l h
  | m + 1, t, l, h => by
    by_cases k5 : kindOf t = 5
    · have ng : ¬ leafGood t := fun hh => (leaf_not_box hh).1 k5
      have eg : Good (m + 1) t ↔ nOf t = 0 ∧ noText t = true ∧ nK t = 0 ∧ (∀ i, i < nL t → Good m (elt t i)) := by
        simp only [Good]
        constructor
        · rintro (hh | ⟨a, b, c, d⟩)
          · exact absurd hh ng
          · rcases d with ⟨_, d⟩ | ⟨d, _⟩
            · exact ⟨a, b, d, c⟩
            · omega
        · rintro ⟨a, b, c, d⟩
          exact Or.inr ⟨a, b, d, Or.inl ⟨k5, c⟩⟩
      have eb : bytesT (m + 1) t = 5 + sumL (bytesT m) t (nL t) := by simp [bytesT, k5]
      have ec : chkT (m + 1) t l = if nOf t = 0 ∧ noText t = true ∧ nK t = 0 then (takeO 5 l).bind (valuesL (chkT m) t (nL t)) else none := by simp [chkT, k5]
      unfold Says
      rw [eg, eb, ec]
      by_cases c : nOf t = 0 ∧ noText t = true ∧ nK t = 0
      · rw [if_pos c, takeO_eq]
        by_cases d : (5 : Int) ≤ l
        · rw [if_pos d, Option.bind_some]
          rcases values_says (chk_says m) t (l - 5) (by omega) (nL t) with ⟨h1, h2, h3⟩ | ⟨h1, h2⟩
          · left
            refine ⟨?_, ⟨c.1, c.2.1, c.2.2, h2⟩, by omega⟩
            rw [h1]
            congr 1
            omega
          · right
            exact ⟨h1, fun hh => h2 ⟨hh.1.2.2.2, by have := hh.2; omega⟩⟩
        · right
          rw [if_neg d]
          exact ⟨rfl, fun hh => d (by have := hh.2; omega)⟩
      · rw [if_neg c]
        exact Or.inr ⟨rfl, fun hh => c ⟨hh.1.1, hh.1.2.1, hh.1.2.2.1⟩⟩
    by_cases k6 : kindOf t = 6
    · have ng : ¬ leafGood t := fun hh => (leaf_not_box hh).2 k6
      have eg : Good (m + 1) t ↔ nOf t = 0 ∧ noText t = true ∧ nK t = nL t ∧ (namesF t (nK t) = true ∧ dupTo t (nK t) = false) ∧ (∀ i, i < nL t → Good m (elt t i)) := by
        simp only [Good]
        constructor
        · rintro (hh | ⟨a, b, c, d⟩)
          · exact absurd hh ng
          · rcases d with ⟨d, _⟩ | ⟨_, d, e, f⟩
            · omega
            · exact ⟨a, b, d, ⟨e, f⟩, c⟩
        · rintro ⟨a, b, c, ⟨d, e⟩, f⟩
          exact Or.inr ⟨a, b, f, Or.inr ⟨k6, c, d, e⟩⟩
      have eb : bytesT (m + 1) t = 5 + sumK t (nK t) + sumL (bytesT m) t (nL t) := by simp [bytesT, k6]
      have ec : chkT (m + 1) t l = if nOf t = 0 ∧ noText t = true ∧ nK t = nL t then ((takeO 5 l).bind (namesO t)).bind (valuesL (chkT m) t (nL t)) else none := by simp [chkT, k6]
      unfold Says
      rw [eg, eb, ec]
      by_cases c : nOf t = 0 ∧ noText t = true ∧ nK t = nL t
      · rw [if_pos c, takeO_eq]
        by_cases d : (5 : Int) ≤ l
        · rw [if_pos d, Option.bind_some]
          unfold namesO
          rcases names_says t (l - 5) (by omega) (nK t) with ⟨h1, h2, h3⟩ | ⟨h1, h2⟩
          · rw [h1, Option.bind_some]
            cases hd : dupTo t (nK t) with
            | true =>
              right
              refine ⟨by simp, fun hh => ?_⟩
              have := hh.1.2.2.2.1.2
              cases this
            | false =>
              simp only [Bool.false_eq_true, if_false, Option.bind_some]
              rcases values_says (chk_says m) t (l - 5 - sumK t (nK t)) (by omega) (nL t) with ⟨g1, g2, g3⟩ | ⟨g1, g2⟩
              · left
                refine ⟨?_, ⟨c.1, c.2.1, c.2.2, ⟨h2, by trivial⟩, g2⟩, by omega⟩
                rw [g1]
                congr 1
                omega
              · right
                exact ⟨g1, fun hh => g2 ⟨hh.1.2.2.2.2, by have := hh.2; omega⟩⟩
          · right
            rw [h1]
            exact ⟨rfl, fun hh => h2 ⟨hh.1.2.2.2.1.1, by have := hh.2; omega⟩⟩
        · right
          rw [if_neg d]
          exact ⟨rfl, fun hh => d (by have := hh.2; omega)⟩
      · rw [if_neg c]
        exact Or.inr ⟨rfl, fun hh => c ⟨hh.1.1, hh.1.2.1, hh.1.2.2.1⟩⟩
    · have eg : Good (m + 1) t ↔ leafGood t := by
        simp only [Good]
        constructor
        · rintro (hh | ⟨_, _, _, ⟨d, _⟩ | ⟨d, _⟩⟩)
          · exact hh
          · exact absurd d k5
          · exact absurd d k6
        · exact Or.inl
      have eb : bytesT (m + 1) t = leafBytes t := by simp [bytesT, k5, k6]
      have ec : chkT (m + 1) t l = leafO t l := by simp [chkT, k5, k6]
      unfold Says
      rw [eg, eb, ec]
      exact leafO_eq t l h
end Go.Proofs.YtknakfpciccoaaaGreatDoor
/- The reference's four looks, together. -/
namespace Go.Proofs.YtknakfpciccoaaaGreatDoor
open Go.RowKit

/-- A tree has an end. -/
def Shal : Nat → T → Prop
  | 0, _ => False
  | f + 1, t => ∀ i, i < nL t → Shal f (elt t i)
theorem At.shal {w : World} : ∀ {f : Nat} {v : Value} {t : T}, At w f v t → Shal f t := by
  intro f
  induction f with
  | zero => intro v t h; exact h
  | succ f ih =>
    rintro v t ⟨La, Ka, Lc, Kc, _, _, hl, _⟩ i hi
    obtain ⟨b, o, c0, c1, c2, c3, c4, _, _, _, _, _, _, _, ha⟩ := hl i hi
    exact ih ha
theorem allL_iff {g : T → Bool} {t : T} : ∀ {k : Nat}, allL g t k = true ↔ ∀ i, i < k → g (elt t i) = true
  | 0 => by simp [allL]
  | k + 1 => by
    simp only [allL, Bool.and_eq_true, allL_iff]
    constructor
    · rintro ⟨a, b⟩ i hi
      by_cases e : i = k
      · subst e; exact b
      · exact a i (by omega)
    · intro h
      exact ⟨fun i hi => h i (by omega), h k (by omega)⟩
theorem anyL_iff {g : T → Bool} {t : T} : ∀ {k : Nat}, anyL g t k = false ↔ ∀ i, i < k → g (elt t i) = false
  | 0 => by simp [anyL]
  | k + 1 => by
    simp only [anyL, Bool.or_eq_false_iff, anyL_iff]
    constructor
    · rintro ⟨a, b⟩ i hi
      by_cases e : i = k
      · subst e; exact b
      · exact a i (by omega)
    · intro h
      exact ⟨fun i hi => h i (by omega), h k (by omega)⟩
theorem deepL_iff {g : T → Nat} {t : T} {n : Nat} : ∀ {k : Nat}, deepL g t k ≤ n ↔ ∀ i, i < k → g (elt t i) ≤ n
  | 0 => by simp [deepL]
  | k + 1 => by
    simp only [deepL, Nat.max_le, deepL_iff]
    constructor
    · rintro ⟨a, b⟩ i hi
      by_cases e : i = k
      · subst e; exact b
      · exact a i (by omega)
    · intro h
      exact ⟨fun i hi => h i (by omega), h k (by omega)⟩
theorem leaf_form (t : T) (hb : isBox t = false) : leafGood t ↔ headF t = true ∧ kindF t = true := by
  simp only [isBox, Bool.or_eq_false_iff, beq_eq_false_iff_ne] at hb
  obtain ⟨h5, h6⟩ := hb
  unfold leafGood headF kindF
  simp only [h5, h6, false_or, or_false, Bool.and_eq_true, decide_eq_true_eq, if_false]
  constructor
  · rintro ⟨a, b, h⟩
    rcases h with ⟨k, h1, h2⟩ | ⟨k, h1, h2⟩ | ⟨k, h1⟩ | ⟨k, h1, h2, h3⟩
    · refine ⟨⟨⟨Or.inr (Or.inr h1), Or.inr h2⟩, b, a⟩, ?_⟩
      rw [if_pos (Or.inl k)]
    · refine ⟨⟨⟨Or.inl k, Or.inr h2⟩, b, a⟩, ?_⟩
      rw [if_neg (by omega), if_pos k]
      simpa using h1
    · refine ⟨⟨⟨Or.inr (Or.inl k), Or.inr h1⟩, b, a⟩, ?_⟩
      rw [if_pos (Or.inr k)]
    · refine ⟨⟨⟨Or.inr (Or.inr h1), Or.inl k⟩, b, a⟩, ?_⟩
      rw [if_neg (by omega), if_neg (by omega), if_pos k]
      simp [h2, h3]
  · rintro ⟨⟨⟨a, b⟩, c, d⟩, e⟩
    refine ⟨d, c, ?_⟩
    by_cases k1 : kindOf t = 1
    · left
      exact ⟨k1, by omega, by rcases b with b | b; omega; exact b⟩
    by_cases k2 : kindOf t = 2
    · rw [if_neg (by omega), if_pos k2] at e
      right; left
      exact ⟨k2, by simpa using e, by rcases b with b | b; omega; exact b⟩
    by_cases k3 : kindOf t = 3
    · right; right; left
      exact ⟨k3, by rcases b with b | b; omega; exact b⟩
    by_cases k4 : kindOf t = 4
    · rw [if_neg (by omega), if_neg (by omega), if_pos k4] at e
      simp only [Bool.and_eq_true, decide_eq_true_eq] at e
      right; right; right
      exact ⟨k4, by omega, e.2, e.1⟩
    · rw [if_neg (by omega), if_neg (by omega), if_neg k4] at e
      cases e
theorem good_leaf {m : Nat} {t : T} (hb : isBox t = false) : Good m t ↔ leafGood t := by
  simp only [isBox, Bool.or_eq_false_iff, beq_eq_false_iff_ne] at hb
  cases m with
  | zero => exact Iff.rfl
  | succ m =>
    simp only [Good]
    constructor
    · rintro (hh | ⟨_, _, _, ⟨d, _⟩ | ⟨d, _⟩⟩)
      · exact hh
      · exact absurd d hb.1
      · exact absurd d hb.2
    · exact Or.inl
theorem good_box {m : Nat} {t : T} (hb : isBox t = true) : Good (m + 1) t ↔ (headF t = true ∧ kindF t = true ∧ dupTo t (nK t) = false) ∧ ∀ i, i < nL t → Good m (elt t i) := by
  simp only [isBox, Bool.or_eq_true, beq_iff_eq] at hb
  have ng : ¬ leafGood t := fun hh => by have := leaf_not_box hh; omega
  simp only [Good]
  constructor
  · rintro (hh | ⟨a, b, c, d⟩)
    · exact absurd hh ng
    · refine ⟨?_, c⟩
      rcases d with ⟨k, d⟩ | ⟨k, d, e, f⟩
      · refine ⟨by simp [headF, k, a, b, d], by simp [kindF, k], ?_⟩
        rw [d]; rfl
      · exact ⟨by simp [headF, k, a, b], by simp [kindF, k, d]; rw [← d]; exact e, f⟩
  · rintro ⟨⟨a, b, c⟩, d⟩
    right
    simp only [headF, Bool.and_eq_true, decide_eq_true_eq] at a
    obtain ⟨⟨a1, a2⟩, a3, a4⟩ := a
    refine ⟨by omega, by rcases a2 with a2 | a2; omega; exact a2, d, ?_⟩
    rcases hb with k | k
    · left
      exact ⟨k, by omega⟩
    · right
      simp only [kindF] at b
      rw [if_neg (by omega), if_neg (by omega), if_neg (by omega), if_pos k] at b
      simp only [Bool.and_eq_true, decide_eq_true_eq] at b
      exact ⟨k, b.1, b.2, c⟩
/-- A value, by depth, form and names. -/
theorem good_iff : ∀ (m : Nat) (d o f : Nat) (t : T), m < d → m < o → Shal f t → (Good m t ↔ deepT d t ≤ m ∧ formT o t = true ∧ twiceT f t = false)
  | m, d + 1, o + 1, f + 1, t, hd, ho, hs => by
    cases hb : isBox t with
    | false =>
      rw [good_leaf hb, leaf_form t hb]
      have e1 : deepT (d + 1) t = 0 := by simp [deepT, hb]
      constructor
      · rintro ⟨a, b⟩
        have l0 : nL t = 0 ∧ nK t = 0 := by have := (leaf_form t hb).2 ⟨a, b⟩; exact ⟨this.1, this.2.1⟩
        refine ⟨by omega, by simp [formT, a, b, l0.1, allL], by simp [twiceT, l0.1, l0.2, dupTo, anyL]⟩
      · rintro ⟨_, a, _⟩
        simp only [formT, Bool.and_eq_true] at a
        exact a.1
    | true =>
      have e1 : deepT (d + 1) t = deepL (deepT d) t (nL t) + 1 := by simp [deepT, hb]
      cases m with
      | zero =>
        constructor
        · intro h
          have := leaf_not_box h
          simp only [isBox, Bool.or_eq_true, beq_iff_eq] at hb
          omega
        · rintro ⟨a, _⟩
          omega
      | succ m =>
        rw [good_box hb, e1]
        have ih : ∀ i, i < nL t → (Good m (elt t i) ↔ deepT d (elt t i) ≤ m ∧ formT o (elt t i) = true ∧ twiceT f (elt t i) = false) := fun i hi => good_iff m d o f (elt t i) (by omega) (by omega) (hs i hi)
        simp only [formT, twiceT, Bool.and_eq_true, Bool.or_eq_false_iff, allL_iff, anyL_iff]
        constructor
        · rintro ⟨⟨a, b, c⟩, h⟩
          refine ⟨?_, ⟨⟨a, b⟩, fun i hi => ((ih i hi).1 (h i hi)).2.1⟩, c, fun i hi => ((ih i hi).1 (h i hi)).2.2⟩
          have : deepL (deepT d) t (nL t) ≤ m := deepL_iff.2 fun i hi => ((ih i hi).1 (h i hi)).1
          omega
        · rintro ⟨a, ⟨⟨b, c⟩, e⟩, g, k⟩
          have hd2 : deepL (deepT d) t (nL t) ≤ m := by omega
          exact ⟨⟨b, c, g⟩, fun i hi => (ih i hi).2 ⟨deepL_iff.1 hd2 i hi, e i hi, k i hi⟩⟩
  | _, 0, _, _, _, hd, _, _ => absurd hd (Nat.not_lt_zero _)
  | _, _ + 1, 0, _, _, _, ho, _ => absurd ho (Nat.not_lt_zero _)
  | _, _ + 1, _ + 1, 0, _, _, _, hs => hs.elim
/-- Bytes that were spent already stay spent. -/
theorem room_neg (m : Nat) (t : T) (l : Int) (h : l < 0) : roomT m t l < 0 := by
  cases m with
  | zero => simp [roomT]
  | succ m =>
    simp only [roomT]
    split
    · omega
    · split
      · omega
      · split
        · omega
        · split
          · rw [roomL_stop (j := 0) (Nat.zero_le _) (by simp only [roomL]; omega)]
            simp only [roomL]
            omega
          · omega
def sumN (t : T) : Nat → Int
  | 0 => 0
  | k + 1 => sumN t k + nameCost t k
theorem nameCost_pos (t : T) (k : Nat) : 0 ≤ nameCost t k := by unfold nameCost; split <;> omega
theorem sumN_eq (t : T) (h6 : kindOf t = 6) : ∀ k, k ≤ nK t → sumN t k = sumK t k
  | 0, _ => rfl
  | k + 1, h => by
    simp only [sumN, sumK, nameCost]
    rw [sumN_eq t h6 k (by omega), if_pos ⟨h6, by omega⟩]
    omega
theorem sumN_zero (t : T) (h6 : kindOf t ≠ 6) : ∀ k, sumN t k = 0
  | 0 => rfl
  | k + 1 => by simp only [sumN, nameCost]; rw [sumN_zero t h6 k, if_neg (fun h => h6 h.1)]; omega
theorem roomL_says {g : T → Int → Int} {s : T → Nat} {t : T} (hneg : ∀ t l, l < 0 → g t l < 0) : ∀ k, (∀ i, i < k → ∀ l : Int, (s (elt t i) : Int) ≤ l ∧ g (elt t i) l = l - s (elt t i) ∨ l < s (elt t i) ∧ g (elt t i) l < 0) → ∀ l : Int,
    sumN t k + sumL s t k ≤ l ∧ roomL g t k l = l - sumN t k - sumL s t k ∨ l < sumN t k + sumL s t k ∧ roomL g t k l < 0 ∨ l < 0 ∧ roomL g t k l < 0
  | 0, _, l => by
    simp only [sumN, sumL, roomL]
    omega
  | k + 1, h, l => by
    have hp := nameCost_pos t k
    rcases roomL_says hneg k (fun i hi => h i (by omega)) l with ⟨h1, h2⟩ | ⟨h1, h2⟩ | ⟨h1, h2⟩
    · have hq := h k (by omega) (l - sumN t k - sumL s t k - nameCost t k)
      simp only [sumN, sumL, roomL]
      rw [h2, if_pos (by omega)]
      rcases hq with ⟨a, b⟩ | ⟨a, b⟩
      · left; rw [b]; omega
      · right; left; exact ⟨by omega, b⟩
    · simp only [sumN, sumL, roomL]
      rw [if_neg (by omega)]
      right; left
      exact ⟨by omega, h2⟩
    · simp only [sumN, sumL, roomL]
      rw [if_neg (by omega)]
      right; right
      exact ⟨h1, h2⟩
theorem leafBytes_pos (t : T) : 1 ≤ leafBytes t := by unfold leafBytes; split; omega; split; omega; split <;> omega
/-- Of what is good the room is what is left. -/
theorem room_says : ∀ (m o : Nat) (t : T), m < o → Good m t → ∀ l : Int, (bytesT m t : Int) ≤ l ∧ roomT o t l = l - bytesT m t ∨ l < bytesT m t ∧ roomT o t l < 0
  | m, o + 1, t, ho, hg, l => by
    cases hb : isBox t with
    | false =>
      have hl := (good_leaf hb).1 hg
      have hn := leaf_not_box hl
      have e : bytesT m t = leafBytes t := by cases m <;> simp [bytesT, hn.1, hn.2]
      rw [e]
      obtain ⟨_, _, hk⟩ := hl
      simp only [roomT, leafBytes]
      rcases hk with ⟨k, _⟩ | ⟨k, _⟩ | ⟨k, _⟩ | ⟨k, _⟩
      · simp [k, isBox]; omega
      · simp [k]; omega
      · simp [k]; omega
      · simp [k]; omega
    | true =>
      cases m with
      | zero =>
        have := leaf_not_box hg
        simp only [isBox, Bool.or_eq_true, beq_iff_eq] at hb
        omega
      | succ m =>
        obtain ⟨⟨hh, hk, _⟩, hc⟩ := (good_box hb).1 hg
        have hrec := roomL_says (g := roomT o) (s := bytesT m) (t := t) (fun t l h => room_neg o t l h) (nL t) (fun i hi l => room_says m o (elt t i) (by omega) (hc i hi) l) (l - 5)
        have hbb := hb
        simp only [isBox, Bool.or_eq_true, beq_iff_eq] at hb
        have er : roomT (o + 1) t l = roomL (roomT o) t (nL t) (l - 5) := by
          simp only [roomT]
          rw [if_neg (by omega), if_neg (by omega), if_neg (by omega), if_pos hbb]
        have es : (bytesT (m + 1) t : Int) = 5 + sumN t (nL t) + sumL (bytesT m) t (nL t) := by
          rcases hb with k | k
          · rw [sumN_zero t (by omega)]
            simp [bytesT, k]
          · have : nK t = nL t := by
              simp only [kindF] at hk
              rw [if_neg (by omega), if_neg (by omega), if_neg (by omega), if_pos k] at hk
              simp only [Bool.and_eq_true, decide_eq_true_eq] at hk
              exact hk.1
            rw [sumN_eq t k _ (by omega)]
            simp [bytesT, k, this]
        have hpos : 0 ≤ sumN t (nL t) := by
          rcases hb with k | k
          · rw [sumN_zero t (by omega)]; omega
          · have : nK t = nL t := by
              simp only [kindF] at hk
              rw [if_neg (by omega), if_neg (by omega), if_neg (by omega), if_pos k] at hk
              simp only [Bool.and_eq_true, decide_eq_true_eq] at hk
              exact hk.1
            rw [sumN_eq t k _ (by omega)]
            omega
        rw [er, es]
        rcases hrec with ⟨a, b⟩ | ⟨a, b⟩ | ⟨a, b⟩
        · left; exact ⟨by omega, by rw [b]; omega⟩
        · right; exact ⟨by omega, b⟩
        · right; exact ⟨by omega, b⟩
  | _, 0, _, ho, _, _ => absurd ho (Nat.not_lt_zero _)
/-- Is it a value, by the reference (over the fuel of the reading). -/
def isR (f : Nat) (t : T) : Bool := decide (0 ≤ roomT 14 t 1048576) && decide (deepT 16 t ≤ 12) && formT 15 t && !twiceT f t
theorem isR_iff (f : Nat) (t : T) (hs : Shal f t) : isR f t = true ↔ Good 12 t ∧ (bytesT 12 t : Int) ≤ 1048576 := by
  simp only [isR, Bool.and_eq_true, decide_eq_true_eq, Bool.not_eq_true']
  have hg := good_iff 12 16 15 f t (by omega) (by omega) hs
  constructor
  · rintro ⟨⟨⟨a, b⟩, c⟩, d⟩
    have g := hg.2 ⟨b, c, d⟩
    refine ⟨g, ?_⟩
    rcases room_says 12 14 t (by omega) g 1048576 with ⟨h, _⟩ | ⟨_, h⟩
    · exact h
    · omega
  · rintro ⟨g, h⟩
    obtain ⟨b, c, d⟩ := hg.1 g
    refine ⟨⟨⟨?_, b⟩, c⟩, d⟩
    rcases room_says 12 14 t (by omega) g 1048576 with ⟨_, h'⟩ | ⟨h', _⟩
    · omega
    · omega
theorem isV_iff (t : T) : (chkT 12 t 1048576).isSome = true ↔ Good 12 t ∧ (bytesT 12 t : Int) ≤ 1048576 := by
  rcases chk_says 12 t 1048576 (by omega) with ⟨h1, h2, h3⟩ | ⟨h1, h2⟩
  · rw [h1]; simp [h2, h3]
  · rw [h1]
    constructor
    · intro h; cases h
    · intro h; exact absurd h h2
theorem isV_isR (f : Nat) (t : T) (hs : Shal f t) : (chkT 12 t 1048576).isSome = isR f t := by
  rw [Bool.eq_iff_iff, isV_iff, isR_iff f t hs]
/-- As many names as values. -/
theorem good_okK : ∀ (f m : Nat) (t : T), Good m t → okK f t
  | 0, _, _, _ => trivial
  | f + 1, m, t, hg => by
    cases hb : isBox t with
    | false =>
      have hl := (good_leaf hb).1 hg
      have hn := leaf_not_box hl
      exact ⟨fun h => absurd h hn.2, fun i hi => by have := hl.1; omega⟩
    | true =>
      cases m with
      | zero =>
        have := leaf_not_box hg
        simp only [isBox, Bool.or_eq_true, beq_iff_eq] at hb
        omega
      | succ m =>
        obtain ⟨⟨_, hk, _⟩, hc⟩ := (good_box hb).1 hg
        refine ⟨fun k => ?_, fun i hi => good_okK f m _ (hc i hi)⟩
        simp only [kindF] at hk
        rw [if_neg (by omega), if_neg (by omega), if_neg (by omega), if_pos k] at hk
        simp only [Bool.and_eq_true, decide_eq_true_eq] at hk
        exact hk.1
end Go.Proofs.YtknakfpciccoaaaGreatDoor
/- The program's order and the reference's are one; a vast value is none. -/
namespace Go.Proofs.YtknakfpciccoaaaGreatDoor
open Go.RowKit

theorem less_self : ∀ l : List UInt8, Op.bytesLess l l = false
  | [] => rfl
  | c :: r => by simp [Op.bytesLess, less_self r]
theorem cmpS_self (a : ByteArray) : cmpS a a = 0 := cmpS_eq (less_self _) (by simp)
theorem cmpI_self (a : Int) : cmpI a a = 0 := cmpI_eq (by omega) (by omega)
theorem noText_eq {t : T} (h : noText t = true) : sOf t = ByteArray.empty := by
  unfold noText at h
  have h1 : (sOf t).toList = [] := by simpa using h
  apply (toList_eq_iff _ _).1
  rw [h1, ByteArray.toList_eq]
  rfl
theorem ordL_congr {g h : T → T → Int} {a b : T} : ∀ k, (∀ i, i < k → g (elt a i) (elt b i) = h (elt a i) (elt b i)) → ordL g a b k = ordL h a b k
  | 0, _ => rfl
  | k + 1, hh => by
    simp only [ordL]
    rw [ordL_congr k (fun i hi => hh i (by omega)), hh k (by omega)]
theorem ordE_congr {g h : T → T → Int} {a b : T} (hh : ∀ i, i < nL a → i < nL b → g (elt a i) (elt b i) = h (elt a i) (elt b i)) : ordE g a b = ordE h a b := by
  unfold ordE
  rw [ordL_congr _ (fun i hi => hh i (by omega) (by omega))]
theorem ordE_flat {g : T → T → Int} {a b : T} (ha : nL a = 0) (hb : nL b = 0) : ordE g a b = 0 := by
  unfold ordE
  rw [ha, hb]
  simp [ordL, cmpI_self]
/-- Of what are values the two orders are one. -/
theorem cmp_ord : ∀ (f m m' : Nat) (a b : T), Good m a → Good m' b → cmpT f a b = ordT f a b
  | 0, _, _, _, _, _, _ => rfl
  | f + 1, m, m', a, b, ga, gb => by
    by_cases k : kindOf a = kindOf b
    · have e1 : cmpT (f + 1) a b = if kindOf a = 2 ∨ kindOf a = 3 then cmpI (nOf a) (nOf b) else if kindOf a = 4 then cmpS (sOf a) (sOf b) else if isBox a = true then ordE (cmpT f) a b else 0 := by
        simp only [cmpT]
        exact if_neg (by simp [k])
      have e2 : ordT (f + 1) a b = if nOf a ≠ nOf b ∨ sOf a ≠ sOf b then cmpI (nOf a) (nOf b) + cmpS (sOf a) (sOf b) else ordE (ordT f) a b := by
        simp only [ordT]
        exact if_neg (by simp [k])
      rw [e1, e2]
      cases hb : isBox a with
      | false =>
        have hb' : isBox b = false := by simp only [isBox] at hb ⊢; rw [← k]; exact hb
        obtain ⟨la, _, ha⟩ := (good_leaf hb).1 ga
        obtain ⟨lb, _, hc⟩ := (good_leaf hb').1 gb
        rw [ordE_flat (g := cmpT f) la lb, ordE_flat (g := ordT f) la lb]
        rcases ha with ⟨k1, a1, a2⟩ | ⟨k1, a1, a2⟩ | ⟨k1, a2⟩ | ⟨k1, a1, a2, a3⟩
        · rcases hc with ⟨k2, b1, b2⟩ | ⟨k2, b1, b2⟩ | ⟨k2, b2⟩ | ⟨k2, b1, b2, b3⟩
          · rw [if_neg (by omega), if_neg (by omega), if_neg (by simp), if_neg (by rw [a1, b1, noText_eq a2, noText_eq b2]; simp)]
          · omega
          · omega
          · omega
        · rcases hc with ⟨k2, b1, b2⟩ | ⟨k2, b1, b2⟩ | ⟨k2, b2⟩ | ⟨k2, b1, b2, b3⟩
          · omega
          · rw [if_pos (by omega), noText_eq a2, noText_eq b2, cmpS_self]
            by_cases e : nOf a = nOf b
            · rw [if_neg (by simp [e]), e, cmpI_self]
            · rw [if_pos (Or.inl e)]; omega
          · omega
          · omega
        · rcases hc with ⟨k2, b1, b2⟩ | ⟨k2, b1, b2⟩ | ⟨k2, b2⟩ | ⟨k2, b1, b2, b3⟩
          · omega
          · omega
          · rw [if_pos (by omega), noText_eq a2, noText_eq b2, cmpS_self]
            by_cases e : nOf a = nOf b
            · rw [if_neg (by simp [e]), e, cmpI_self]
            · rw [if_pos (Or.inl e)]; omega
          · omega
        · rcases hc with ⟨k2, b1, b2⟩ | ⟨k2, b1, b2⟩ | ⟨k2, b2⟩ | ⟨k2, b1, b2, b3⟩
          · omega
          · omega
          · omega
          · rw [if_neg (by omega), if_pos k1, a1, b1, cmpI_self]
            by_cases e : sOf a = sOf b
            · rw [if_neg (by simp [e]), e, cmpS_self]
            · rw [if_pos (Or.inr e)]; omega
      | true =>
        have hb' : isBox b = true := by simp only [isBox] at hb ⊢; rw [← k]; exact hb
        cases m with
        | zero => have := leaf_not_box ga; simp only [isBox, Bool.or_eq_true, beq_iff_eq] at hb; omega
        | succ m =>
        cases m' with
        | zero => have := leaf_not_box gb; simp only [isBox, Bool.or_eq_true, beq_iff_eq] at hb'; omega
        | succ m' =>
          have ca := ((good_box hb).1 ga)
          have cb := ((good_box hb').1 gb)
          have ha := ca.1.1
          have hc := cb.1.1
          simp only [isBox, Bool.or_eq_true, beq_iff_eq] at hb hb'
          simp only [headF, Bool.and_eq_true, decide_eq_true_eq] at ha hc
          have na : nOf a = nOf b := by omega
          have ta : noText a = true := by rcases ha.1.2 with h | h; omega; exact h
          have tb : noText b = true := by rcases hc.1.2 with h | h; omega; exact h
          rw [if_neg (by omega), if_neg (by omega), if_pos rfl, if_neg (by rw [na, noText_eq ta, noText_eq tb]; simp)]
          exact ordE_congr fun i hi hj => cmp_ord f m m' _ _ (ca.2 i hi) (cb.2 i hj)
    · simp only [cmpT, ordT]
      rw [if_pos k, if_pos k]
theorem bytes_pos : ∀ (m : Nat) (t : T), 1 ≤ bytesT m t
  | 0, t => leafBytes_pos t
  | m + 1, t => by
    simp only [bytesT]
    have := leafBytes_pos t
    split
    · omega
    · split <;> omega
theorem sumK_ge (t : T) : ∀ k, k ≤ sumK t k
  | 0 => Nat.le_refl _
  | k + 1 => by have := sumK_ge t k; simp only [sumK]; omega
/-- So many places take no more than so many bytes. -/
theorem cells_says : ∀ (m o : Nat) (t : T) (l : Int), Good m t → (bytesT m t : Int) ≤ l + 1 → l + 1 - bytesT m t ≤ cellsT o t l
  | m, o, t, l, hg, hl => by
    cases hb : isBox t with
    | false =>
      obtain ⟨h1, h2, _⟩ := (good_leaf hb).1 hg
      have hp := bytes_pos m t
      have e : cellsT o t l = l := by cases o <;> simp [cellsT, h1, h2, cellsL]
      rw [e]; omega
    | true =>
      cases m with
      | zero => have := leaf_not_box hg; simp only [isBox, Bool.or_eq_true, beq_iff_eq] at hb; omega
      | succ m =>
        obtain ⟨⟨hh, hk, _⟩, hc⟩ := (good_box hb).1 hg
        have es : nK t + 5 + sumL (bytesT m) t (nL t) ≤ bytesT (m + 1) t := by
          simp only [isBox, Bool.or_eq_true, beq_iff_eq] at hb
          rcases hb with k | k
          · have : nK t = 0 := by simp only [headF, Bool.and_eq_true, decide_eq_true_eq] at hh; omega
            simp [bytesT, k, this]
          · have := sumK_ge t (nK t)
            simp [bytesT, k]
            omega
        cases o with
        | zero =>
          have hs : ∀ k, k ≤ sumL (bytesT m) t k := by
            intro k
            induction k with
            | zero => exact Nat.zero_le _
            | succ k ih => have := bytes_pos m (elt t k); simp only [sumL]; omega
          have := hs (nL t)
          simp only [cellsT]
          omega
        | succ o =>
          have key : ∀ k, k ≤ nL t → ∀ x : Int, (sumL (bytesT m) t k : Int) ≤ x + k → x + k - sumL (bytesT m) t k ≤ cellsL (cellsT o) t k x := by
            intro k
            induction k with
            | zero => intro _ x _; simp [cellsL, sumL]
            | succ k ih =>
              intro hk x hx
              have hp := bytes_pos m (elt t k)
              simp only [sumL] at hx
              have h0 := ih (by omega) x (by omega)
              simp only [cellsL, sumL]
              by_cases c : 0 ≤ cellsL (cellsT o) t k x
              · rw [if_pos c]
                have := cells_says m o (elt t k) (cellsL (cellsT o) t k x) (hc k (by omega)) (by omega)
                omega
              · rw [if_neg c]; omega
          have hs : ∀ k, k ≤ sumL (bytesT m) t k := by
            intro k
            induction k with
            | zero => exact Nat.zero_le _
            | succ k ih => have := bytes_pos m (elt t k); simp only [sumL]; omega
          have := key (nL t) (Nat.le_refl _) (l - nL t - nK t) (by omega)
          simp only [cellsT]
          omega
theorem vast_none (t : T) (h : cellsT 16 t 1048576 < 0) : (chkT 12 t 1048576).isSome = false := by
  cases hc : (chkT 12 t 1048576).isSome with
  | false => rfl
  | true =>
    obtain ⟨g, hb⟩ := (isV_iff t).1 hc
    have := cells_says 12 16 t 1048576 g (by omega)
    omega
end Go.Proofs.YtknakfpciccoaaaGreatDoor
