/- A value whose lists are lent: where it lies, and what stands behind each list. -/
import Derived.Test.YtknakfpciccoaaaDoorG
namespace Go.Proofs.YtknakfpciccoaaaDoor
open Go.RowKit

/-- The value v reads as t in w, in blocks of a kind. -/
def AtP (p : Nat → Prop) (w : World) : Nat → Value → T → Prop
  | 0, _, _ => False
  | f + 1, v, t => ∃ (La Ka : Option Addr) (Lc Kc : Nat),
      v = .agg #[.int .i64 (kindOf t), .int .i64 (nOf t), .string (sOf t), .slice La (nL t) Lc, .slice Ka (nK t) Kc] ∧ Fits t ∧
      (∀ i, i < nL t → ∃ b o c0 c1 c2 c3 c4, La = some ⟨b, o, none⟩ ∧ (b < w.heap.size ∧ p b) ∧ w.cell? ⟨b, o + i * 5, none⟩ = some c0 ∧ w.cell? ⟨b, o + i * 5 + 1, none⟩ = some c1 ∧ w.cell? ⟨b, o + i * 5 + 2, none⟩ = some c2 ∧ w.cell? ⟨b, o + i * 5 + 3, none⟩ = some c3 ∧ w.cell? ⟨b, o + i * 5 + 4, none⟩ = some c4 ∧ AtP p w f (.agg #[c0, c1, c2, c3, c4]) (elt t i)) ∧
      (∀ i, i < nK t → ∃ b o, Ka = some ⟨b, o, none⟩ ∧ (b < w.heap.size ∧ p b) ∧ (nam t i).size ≤ 140737488355328 ∧ w.cell? ⟨b, o + i, none⟩ = some (.string (nam t i)))
theorem cell_of {w w' : World} {b : Nat} (h : w'.heap[b]? = w.heap[b]?) (o : Nat) : w'.cell? ⟨b, o, none⟩ = w.cell? ⟨b, o, none⟩ := World.cell?_of_block (w := w) h
theorem AtP.move {p q : Nat → Prop} {w w' : World} (hs : w.heap.size ≤ w'.heap.size) (hq : ∀ b, b < w.heap.size → p b → q b ∧ w'.heap[b]? = w.heap[b]?) : ∀ {f : Nat} {v : Value} {t : T}, AtP p w f v t → AtP q w' f v t := by
  intro f
  induction f with
  | zero => intro v t h; exact h
  | succ f ih =>
    rintro v t ⟨La, Ka, Lc, Kc, rfl, hf, hl, hk⟩
    refine ⟨La, Ka, Lc, Kc, rfl, hf, fun i hi => ?_, fun i hi => ?_⟩
    · obtain ⟨b, o, c0, c1, c2, c3, c4, h0, ⟨hb, hp⟩, q0, q1, q2, q3, q4, ha⟩ := hl i hi
      obtain ⟨hq1, hq2⟩ := hq b hb hp
      exact ⟨b, o, c0, c1, c2, c3, c4, h0, ⟨Nat.lt_of_lt_of_le hb hs, hq1⟩, (cell_of hq2 _).trans q0, (cell_of hq2 _).trans q1, (cell_of hq2 _).trans q2, (cell_of hq2 _).trans q3, (cell_of hq2 _).trans q4, ih ha⟩
    · obtain ⟨b, o, h0, ⟨hb, hp⟩, hz, q0⟩ := hk i hi
      obtain ⟨hq1, hq2⟩ := hq b hb hp
      exact ⟨b, o, h0, ⟨Nat.lt_of_lt_of_le hb hs, hq1⟩, hz, (cell_of hq2 _).trans q0⟩
theorem AtP.at {p : Nat → Prop} {w : World} : ∀ {f : Nat} {v : Value} {t : T}, AtP p w f v t → At w f v t := by
  intro f
  induction f with
  | zero => intro v t h; exact h
  | succ f ih =>
    rintro v t ⟨La, Ka, Lc, Kc, rfl, hf, hl, hk⟩
    refine ⟨La, Ka, Lc, Kc, rfl, hf, fun i hi => ?_, fun i hi => ?_⟩
    · obtain ⟨b, o, c0, c1, c2, c3, c4, h0, hb, q0, q1, q2, q3, q4, ha⟩ := hl i hi
      exact ⟨b, o, c0, c1, c2, c3, c4, h0, hb.1, q0, q1, q2, q3, q4, ih ha⟩
    · obtain ⟨b, o, h0, hb, hz, q0⟩ := hk i hi
      exact ⟨b, o, h0, hb.1, hz, q0⟩
theorem At.atP {w : World} : ∀ {f : Nat} {v : Value} {t : T}, At w f v t → AtP (fun b => b < w.heap.size) w f v t := by
  intro f
  induction f with
  | zero => intro v t h; exact h
  | succ f ih =>
    rintro v t ⟨La, Ka, Lc, Kc, rfl, hf, hl, hk⟩
    refine ⟨La, Ka, Lc, Kc, rfl, hf, fun i hi => ?_, fun i hi => ?_⟩
    · obtain ⟨b, o, c0, c1, c2, c3, c4, h0, hb, q0, q1, q2, q3, q4, ha⟩ := hl i hi
      exact ⟨b, o, c0, c1, c2, c3, c4, h0, ⟨hb, hb⟩, q0, q1, q2, q3, q4, ih ha⟩
    · obtain ⟨b, o, h0, hb, hz, q0⟩ := hk i hi
      exact ⟨b, o, h0, ⟨hb, hb⟩, hz, q0⟩

def mark3 : ByteArray := ⟨#[111, 119, 110]⟩
def tilde : ByteArray := ⟨#[126]⟩
/-- The five cells of a mark. -/
def MarkAt (w : World) (b o : Nat) : Prop := w.cell? ⟨b, o, none⟩ = some (.int .i64 (-77)) ∧ w.cell? ⟨b, o + 1, none⟩ = some (.int .i64 0) ∧ w.cell? ⟨b, o + 2, none⟩ = some (.string mark3) ∧ w.cell? ⟨b, o + 3, none⟩ = some (.slice none 0 0) ∧ w.cell? ⟨b, o + 4, none⟩ = some (.slice none 0 0)
/-- The five cells of an element. -/
def FiveAt (w : World) (b o : Nat) (t : T) (A : Option Addr) (B : Nat) (C : Option Addr) (D : Nat) : Prop := w.cell? ⟨b, o, none⟩ = some (.int .i64 (kindOf t)) ∧ w.cell? ⟨b, o + 1, none⟩ = some (.int .i64 (nOf t)) ∧ w.cell? ⟨b, o + 2, none⟩ = some (.string (sOf t)) ∧ w.cell? ⟨b, o + 3, none⟩ = some (.slice A (nL t) B) ∧ w.cell? ⟨b, o + 4, none⟩ = some (.slice C (nK t) D)
def five (t : T) (A : Option Addr) (B : Nat) (C : Option Addr) (D : Nat) : Value := .agg #[.int .i64 (kindOf t), .int .i64 (nOf t), .string (sOf t), .slice A (nL t) B, .slice C (nK t) D]
/-- A value that was lent, so deep. -/
def LentP (p : Nat → Prop) (w : World) : Nat → Nat → Value → T → Prop
  | 0, f, x, t => AtP p w f x t
  | m + 1, f, x, t => ∃ (bL bK g : Nat), f = g + 1 ∧ x = five t (some ⟨bL, 0, none⟩) (nL t + 8) (some ⟨bK, 0, none⟩) (nK t + 8) ∧ Fits t ∧ (bL < w.heap.size ∧ p bL) ∧ (bK < w.heap.size ∧ p bK) ∧
      (∀ i, i < nL t → ∃ A B C D, FiveAt w bL (i * 5) (elt t i) A B C D ∧ LentP p w m g (five (elt t i) A B C D) (elt t i)) ∧
      (∀ i, i < nK t → (nam t i).size ≤ 140737488355328 ∧ w.cell? ⟨bK, i, none⟩ = some (.string (nam t i))) ∧
      (∀ i, i < 8 → MarkAt w bL ((nL t + i) * 5)) ∧ (∀ i, i < 8 → w.cell? ⟨bK, nK t + i, none⟩ = some (.string tilde))
theorem FiveAt.move {w w' : World} {b : Nat} (h : w'.heap[b]? = w.heap[b]?) {o : Nat} {t : T} {A : Option Addr} {B : Nat} {C : Option Addr} {D : Nat} (hh : FiveAt w b o t A B C D) : FiveAt w' b o t A B C D := by
  obtain ⟨a, b, c, d, e⟩ := hh
  exact ⟨(cell_of h _).trans a, (cell_of h _).trans b, (cell_of h _).trans c, (cell_of h _).trans d, (cell_of h _).trans e⟩
theorem MarkAt.move {w w' : World} {b : Nat} (h : w'.heap[b]? = w.heap[b]?) {o : Nat} (hh : MarkAt w b o) : MarkAt w' b o := by
  obtain ⟨a, b, c, d, e⟩ := hh
  exact ⟨(cell_of h _).trans a, (cell_of h _).trans b, (cell_of h _).trans c, (cell_of h _).trans d, (cell_of h _).trans e⟩
theorem LentP.move {p q : Nat → Prop} {w w' : World} (hs : w.heap.size ≤ w'.heap.size) (hq : ∀ b, b < w.heap.size → p b → q b ∧ w'.heap[b]? = w.heap[b]?) : ∀ {m f : Nat} {v : Value} {t : T}, LentP p w m f v t → LentP q w' m f v t := by
  intro m
  induction m with
  | zero => intro f v t h; exact AtP.move hs hq h
  | succ m ih =>
    rintro f v t ⟨bL, bK, g, rfl, rfl, hf, ⟨h1, h2⟩, ⟨h3, h4⟩, he, hn, hm, ht⟩
    obtain ⟨a1, a2⟩ := hq bL h1 h2
    obtain ⟨a3, a4⟩ := hq bK h3 h4
    refine ⟨bL, bK, g, rfl, rfl, hf, ⟨Nat.lt_of_lt_of_le h1 hs, a1⟩, ⟨Nat.lt_of_lt_of_le h3 hs, a3⟩, fun i hi => ?_, fun i hi => ⟨(hn i hi).1, (cell_of a4 _).trans (hn i hi).2⟩, fun i hi => (hm i hi).move a2, fun i hi => (cell_of a4 _).trans (ht i hi)⟩
    obtain ⟨A, B, C, D, h5, h6⟩ := he i hi
    exact ⟨A, B, C, D, h5.move a2, ih h6⟩
theorem LentP.at {p : Nat → Prop} {w : World} : ∀ {m f : Nat} {v : Value} {t : T}, LentP p w m f v t → At w f v t := by
  intro m
  induction m with
  | zero => intro f v t h; exact AtP.at h
  | succ m ih =>
    rintro f v t ⟨bL, bK, g, rfl, rfl, hf, h1, h3, he, hn, _, _⟩
    refine ⟨some ⟨bL, 0, none⟩, some ⟨bK, 0, none⟩, nL t + 8, nK t + 8, rfl, hf, fun i hi => ?_, fun i hi => ⟨bK, 0, rfl, h3.1, (hn i hi).1, by rw [Nat.zero_add]; exact (hn i hi).2⟩⟩
    obtain ⟨A, B, C, D, ⟨e0, e1, e2, e3, e4⟩, h6⟩ := he i hi
    refine ⟨bL, 0, _, _, _, _, _, rfl, h1.1, ?_, ?_, ?_, ?_, ?_, ih h6⟩
    · rw [Nat.zero_add]; exact e0
    · rw [Nat.zero_add]; exact e1
    · rw [Nat.zero_add]; exact e2
    · rw [Nat.zero_add]; exact e3
    · rw [Nat.zero_add]; exact e4
/-- What is lent shows what it is. -/
theorem LentP.shape {p : Nat → Prop} {w : World} {m f : Nat} {v : Value} {t : T} (h : LentP p w m f v t) : ∃ A B C D, v = five t A B C D := by
  obtain ⟨g, A, C, B, D, _, hv, _⟩ := h.at.open
  exact ⟨A, B, C, D, hv⟩
/-- A row of so many cells that may be written. -/
def RowAt (w : World) (b n : Nat) : Prop := b < w.heap.size ∧ ∀ o, o < n → (w.cell? ⟨b, o, none⟩).isSome = true ∧ w.frozen? ⟨b, o, none⟩ = false
theorem RowAt.move {w w' : World} {b n : Nat} (h : RowAt w b n) (hs : w.heap.size ≤ w'.heap.size) (hb : w'.heap[b]? = w.heap[b]?) : RowAt w' b n :=
  ⟨Nat.lt_of_lt_of_le h.1 hs, fun o ho => ⟨by rw [cell_of hb]; exact (h.2 o ho).1, by rw [World.frozen?_of_block (w := w) (a := ⟨b, o, none⟩) hb]; exact (h.2 o ho).2⟩⟩
theorem RowAt.set {w : World} {b n : Nat} (h : RowAt w b n) (c o : Nat) (u : Value) : RowAt (w.setCell ⟨c, o, none⟩ u) b n := by
  refine ⟨by simp [World.setCell]; exact h.1, fun k hk => ⟨?_, by rw [World.frozen?_setCell]; exact (h.2 k hk).2⟩⟩
  by_cases e : (⟨c, o, none⟩ : Addr) = ⟨b, k, none⟩
  · obtain ⟨v, hv⟩ := Option.isSome_iff_exists.1 (h.2 k hk).1
    rw [← e] at hv ⊢
    rw [World.cell?_setCell_same _ _ _ hv]
    rfl
  · rw [World.cell?_setCell_other _ _ _ _ e]
    exact (h.2 k hk).1
theorem set_same {w : World} {b n o : Nat} (h : RowAt w b n) (ho : o < n) (u : Value) : (w.setCell ⟨b, o, none⟩ u).cell? ⟨b, o, none⟩ = some u := by
  obtain ⟨v, hv⟩ := Option.isSome_iff_exists.1 (h.2 o ho).1
  exact World.cell?_setCell_same _ _ _ hv
theorem set_other {w : World} {b c o k : Nat} (h : b ≠ c ∨ o ≠ k) (u : Value) : (w.setCell ⟨b, o, none⟩ u).cell? ⟨c, k, none⟩ = w.cell? ⟨c, k, none⟩ :=
  World.cell?_setCell_other _ _ _ _ (fun e => by simp only [Addr.mk.injEq] at e; rcases h with h | h; exact h e.1; exact h e.2.1)
/-- Five cells stored into a row. -/
def set5 (w : World) (b o : Nat) (c0 c1 c2 c3 c4 : Value) : World := ((((w.setCell ⟨b, o, none⟩ c0).setCell ⟨b, o + 1, none⟩ c1).setCell ⟨b, o + 2, none⟩ c2).setCell ⟨b, o + 3, none⟩ c3).setCell ⟨b, o + 4, none⟩ c4
theorem set5_row {w : World} {b n : Nat} (h : RowAt w b n) (c o : Nat) (c0 c1 c2 c3 c4 : Value) : RowAt (set5 w c o c0 c1 c2 c3 c4) b n := ((((h.set _ _ _).set _ _ _).set _ _ _).set _ _ _).set _ _ _
theorem set5_other {w : World} {b c o k : Nat} (h : b ≠ c ∨ k < o ∨ o + 5 ≤ k) (c0 c1 c2 c3 c4 : Value) : (set5 w b o c0 c1 c2 c3 c4).cell? ⟨c, k, none⟩ = w.cell? ⟨c, k, none⟩ := by
  unfold set5
  rw [set_other (by omega), set_other (by omega), set_other (by omega), set_other (by omega), set_other (by omega)]
theorem set5_at {w : World} {b n o : Nat} (h : RowAt w b n) (ho : o + 5 ≤ n) (c0 c1 c2 c3 c4 : Value) : (set5 w b o c0 c1 c2 c3 c4).cell? ⟨b, o, none⟩ = some c0 ∧ (set5 w b o c0 c1 c2 c3 c4).cell? ⟨b, o + 1, none⟩ = some c1 ∧ (set5 w b o c0 c1 c2 c3 c4).cell? ⟨b, o + 2, none⟩ = some c2 ∧ (set5 w b o c0 c1 c2 c3 c4).cell? ⟨b, o + 3, none⟩ = some c3 ∧ (set5 w b o c0 c1 c2 c3 c4).cell? ⟨b, o + 4, none⟩ = some c4 := by
  unfold set5
  refine ⟨?_, ?_, ?_, ?_, ?_⟩
  · rw [set_other (by omega), set_other (by omega), set_other (by omega), set_other (by omega), set_same h (by omega)]
  · rw [set_other (by omega), set_other (by omega), set_other (by omega), set_same (h.set _ _ _) (by omega)]
  · rw [set_other (by omega), set_other (by omega), set_same ((h.set _ _ _).set _ _ _) (by omega)]
  · rw [set_other (by omega), set_same (((h.set _ _ _).set _ _ _).set _ _ _) (by omega)]
  · rw [set_same ((((h.set _ _ _).set _ _ _).set _ _ _).set _ _ _) (by omega)]
theorem set5_but (w : World) (b o : Nat) (c0 c1 c2 c3 c4 : Value) : But b w (set5 w b o c0 c1 c2 c3 c4) :=
  ((((But.set _ _ _ _).trans (But.set _ _ _ _)).trans (But.set _ _ _ _)).trans (But.set _ _ _ _)).trans (But.set _ _ _ _)
end Go.Proofs.YtknakfpciccoaaaDoor
