/- The order of two values, by the reference and by the program. -/
import Derived.Test.YtknakfpciccoaaaDoorD
namespace Go.Proofs.YtknakfpciccoaaaDoor
open Go.RowKit

/-- As many names as values, all the way down. -/
def okK : Nat → T → Prop
  | 0, _ => True
  | f + 1, t => (kindOf t = 6 → nK t = nL t) ∧ ∀ i, i < nL t → okK f (elt t i)
def ordL (g : T → T → Int) (a b : T) : Nat → Int
  | 0 => 0
  | k + 1 => if ordL g a b k ≠ 0 then ordL g a b k else if kindOf a = 6 ∧ cmpS (nam a k) (nam b k) ≠ 0 then cmpS (nam a k) (nam b k) else g (elt a k) (elt b k)
def ordE (g : T → T → Int) (a b : T) : Int := if ordL g a b (min (nL a) (nL b)) ≠ 0 then ordL g a b (min (nL a) (nL b)) else cmpI (nL a) (nL b)
def ordT : Nat → T → T → Int
  | 0, _, _ => 0
  | f + 1, a, b => if kindOf a ≠ kindOf b then cmpI (kindOf a) (kindOf b) else if nOf a ≠ nOf b ∨ sOf a ≠ sOf b then cmpI (nOf a) (nOf b) + cmpS (sOf a) (sOf b) else ordE (ordT f) a b
def cmpT : Nat → T → T → Int
  | 0, _, _ => 0
  | f + 1, a, b => if kindOf a ≠ kindOf b then cmpI (kindOf a) (kindOf b) else if kindOf a = 2 ∨ kindOf a = 3 then cmpI (nOf a) (nOf b) else if kindOf a = 4 then cmpS (sOf a) (sOf b) else if isBox a = true then ordE (cmpT f) a b else 0
theorem ordL_stop {g : T → T → Int} {a b : T} {j k : Nat} (h : j ≤ k) (hx : ordL g a b j ≠ 0) : ordL g a b k = ordL g a b j := by
  induction h with
  | refl => rfl
  | step _ ih => simp only [ordL]; rw [ih, if_pos hx]
theorem ordL_step {g : T → T → Int} {a b : T} {k : Nat} (h : ordL g a b k = 0) : ordL g a b (k + 1) = if kindOf a = 6 ∧ cmpS (nam a k) (nam b k) ≠ 0 then cmpS (nam a k) (nam b k) else g (elt a k) (elt b k) := by
  simp [ordL, h]
theorem ordL_bd {g : T → T → Int} (hg : ∀ x y, -2 ≤ g x y ∧ g x y ≤ 2) (a b : T) : ∀ k, -2 ≤ ordL g a b k ∧ ordL g a b k ≤ 2
  | 0 => by simp [ordL]
  | k + 1 => by
    have h1 := ordL_bd hg a b k
    have h2 := cmpS_bd (nam a k) (nam b k)
    have h3 := hg (elt a k) (elt b k)
    simp only [ordL]
    split
    · exact h1
    · split
      · omega
      · exact h3
theorem ordE_bd {g : T → T → Int} (hg : ∀ x y, -2 ≤ g x y ∧ g x y ≤ 2) (a b : T) : -2 ≤ ordE g a b ∧ ordE g a b ≤ 2 := by
  have h1 := ordL_bd hg a b (min (nL a) (nL b))
  have h2 := cmpI_bd (nL a) (nL b)
  unfold ordE
  split <;> omega
theorem ordT_bd : ∀ (f : Nat) (a b : T), -2 ≤ ordT f a b ∧ ordT f a b ≤ 2
  | 0, _, _ => by simp [ordT]
  | f + 1, a, b => by
    have h1 := ordE_bd (ordT_bd f) a b
    have h2 := cmpI_bd (kindOf a) (kindOf b)
    have h3 := cmpI_bd (nOf a) (nOf b)
    have h4 := cmpS_bd (sOf a) (sOf b)
    simp only [ordT]
    split
    · omega
    · split <;> omega
theorem cmpT_bd : ∀ (f : Nat) (a b : T), -2 ≤ cmpT f a b ∧ cmpT f a b ≤ 2
  | 0, _, _ => by simp [cmpT]
  | f + 1, a, b => by
    have h1 := ordE_bd (cmpT_bd f) a b
    have h2 := cmpI_bd (kindOf a) (kindOf b)
    have h3 := cmpI_bd (nOf a) (nOf b)
    have h4 := cmpS_bd (sOf a) (sOf b)
    simp only [cmpT]
    split
    · omega
    · split
      · omega
      · split
        · omega
        · split <;> omega
/-- Two structs that were handed in, in a later world. -/
theorem box2_facts {w wr : World} {c0 c1 c2 c3 c4 d0 d1 d2 d3 d4 : Value} (hb : Below (w.heap.size + 2) ((w.alloc (.cells #[c0, c1, c2, c3, c4] 26)).alloc (.cells #[d0, d1, d2, d3, d4] 26)) wr) :
    (wr.cell? ⟨w.heap.size, 0, none⟩ = some c0 ∧ wr.cell? ⟨w.heap.size, 1, none⟩ = some c1 ∧ wr.cell? ⟨w.heap.size, 2, none⟩ = some c2 ∧ wr.cell? ⟨w.heap.size, 3, none⟩ = some c3 ∧ wr.cell? ⟨w.heap.size, 4, none⟩ = some c4) ∧
    (wr.cell? ⟨w.heap.size + 1, 0, none⟩ = some d0 ∧ wr.cell? ⟨w.heap.size + 1, 1, none⟩ = some d1 ∧ wr.cell? ⟨w.heap.size + 1, 2, none⟩ = some d2 ∧ wr.cell? ⟨w.heap.size + 1, 3, none⟩ = some d3 ∧ wr.cell? ⟨w.heap.size + 1, 4, none⟩ = some d4) ∧ w.heap.size + 1 < wr.heap.size ∧ Below w.heap.size w wr := by
  have hz := hb.size
  refine ⟨⟨?_, ?_, ?_, ?_, ?_⟩, ⟨?_, ?_, ?_, ?_, ?_⟩, by simp at hz; omega, (((Below.refl _ _).alloc (Nat.le_refl _) _).alloc (by simp) _).trans (hb.mono (by omega))⟩
  all_goals (rw [hb.cell (p := ⟨_, _, none⟩) (by simp)]; simp [go_sem])
theorem bcell {W w1 : World} (hb : Below W.heap.size W w1) : ∀ b o, b < W.heap.size → w1.cell? ⟨b, o, none⟩ = W.cell? ⟨b, o, none⟩ :=
  fun b o h => hb.cell (p := ⟨b, o, none⟩) h
theorem below_drew (w : World) : Below w.heap.size w w.drew := (Below.refl _ _).drew
end Go.Proofs.YtknakfpciccoaaaDoor
