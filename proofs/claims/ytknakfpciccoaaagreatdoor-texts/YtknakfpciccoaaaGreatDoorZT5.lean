import Derived.Test.YtknakfpciccoaaaGreatDoorZT1
import Derived.Test.YtknakfpciccoaaaGreatDoorProg
import Derived.WalkKit
import Derived.WalkSpells
import Derived.WalkLawsBesides
import Derived.Defers
import Derived.Recover
import Derived.Test.YtknakfpciccoaaaGreatDoorZT4
import Derived.BigQuiet
import Derived.Deep.QuietTactic
import Derived.Deep.LoopGhost
/- A value whose lists are lent: where it lies, and what stands behind each list. -/
namespace Go.Proofs.YtknakfpciccoaaaGreatDoor
open Go.RowKit

/-- The value v reads as t in w, in blocks of a kind. -/
def AtP (p : Nat → Prop) (w : World) : Nat → Value → T → Prop
  | 0, _, _ => False
  | f + 1, v, t => ∃ (La Ka : Option Addr) (Lc Kc : Nat),
      v = .agg #[.int .i64 (kindOf t), .int .i64 (nOf t), .string (sOf t), .slice La (nL t) Lc, .slice Ka (nK t) Kc] ∧ Fits t ∧
      (∀ i, i < nL t → ∃ b o c0 c1 c2 c3 c4, La = some ⟨b, o, none⟩ ∧ (b < w.heap.size ∧ p b) ∧ w.cell? ⟨b, o + i * 5, none⟩ = some c0 ∧ w.cell? ⟨b, o + i * 5 + 1, none⟩ = some c1 ∧ w.cell? ⟨b, o + i * 5 + 2, none⟩ = some c2 ∧ w.cell? ⟨b, o + i * 5 + 3, none⟩ = some c3 ∧ w.cell? ⟨b, o + i * 5 + 4, none⟩ = some c4 ∧ AtP p w f (.agg #[c0, c1, c2, c3, c4]) (elt t i)) ∧
      (∀ i, i < nK t → ∃ b o, Ka = some ⟨b, o, none⟩ ∧ (b < w.heap.size ∧ p b) ∧ (nam t i).size ≤ 140737488355328 ∧ w.cell? ⟨b, o + i, none⟩ = some (.string (nam t i)))
theorem cell_of {w w' : World} {b : Nat} (h : w'.heap[b]? = w.heap[b]?) (o : Nat) : w'.cell? ⟨b, o, none⟩ = w.cell? ⟨b, o, none⟩ := World.cell?_of_block (w := w) h
theorem AtP.move {p q : Nat → Prop} {w w' : World} (hs : w.heap.size ≤ w'.heap.size) (hq : ∀ b, b < w.heap.size → p b → q b ∧ w'.heap[b]? = w.heap[b]?) : ∀ {f : Nat} {v : Value} {t : T}, AtP p w f v t → AtP q w' f v t := by
  intro f
  induction f with
  | zero => intro v t h; exact h
  | succ f ih =>
    rintro v t ⟨La, Ka, Lc, Kc, rfl, hf, hl, hk⟩
    refine ⟨La, Ka, Lc, Kc, rfl, hf, fun i hi => ?_, fun i hi => ?_⟩
    · obtain ⟨b, o, c0, c1, c2, c3, c4, h0, ⟨hb, hp⟩, q0, q1, q2, q3, q4, ha⟩ := hl i hi
      obtain ⟨hq1, hq2⟩ := hq b hb hp
      exact ⟨b, o, c0, c1, c2, c3, c4, h0, ⟨Nat.lt_of_lt_of_le hb hs, hq1⟩, (cell_of hq2 _).trans q0, (cell_of hq2 _).trans q1, (cell_of hq2 _).trans q2, (cell_of hq2 _).trans q3, (cell_of hq2 _).trans q4, ih ha⟩
    · obtain ⟨b, o, h0, ⟨hb, hp⟩, hz, q0⟩ := hk i hi
      obtain ⟨hq1, hq2⟩ := hq b hb hp
      exact ⟨b, o, h0, ⟨Nat.lt_of_lt_of_le hb hs, hq1⟩, hz, (cell_of hq2 _).trans q0⟩
theorem AtP.at {p : Nat → Prop} {w : World} : ∀ {f : Nat} {v : Value} {t : T}, AtP p w f v t → At w f v t := by
  intro f
  induction f with
  | zero => intro v t h; exact h
  | succ f ih =>
    rintro v t ⟨La, Ka, Lc, Kc, rfl, hf, hl, hk⟩
    refine ⟨La, Ka, Lc, Kc, rfl, hf, fun i hi => ?_, fun i hi => ?_⟩
    · obtain ⟨b, o, c0, c1, c2, c3, c4, h0, hb, q0, q1, q2, q3, q4, ha⟩ := hl i hi
      exact ⟨b, o, c0, c1, c2, c3, c4, h0, hb.1, q0, q1, q2, q3, q4, ih ha⟩
    · obtain ⟨b, o, h0, hb, hz, q0⟩ := hk i hi
      exact ⟨b, o, h0, hb.1, hz, q0⟩
theorem At.atP {w : World} : ∀ {f : Nat} {v : Value} {t : T}, At w f v t → AtP (fun b => b < w.heap.size) w f v t := by
  intro f
  induction f with
  | zero => intro v t h; exact h
  | succ f ih =>
    rintro v t ⟨La, Ka, Lc, Kc, rfl, hf, hl, hk⟩
    refine ⟨La, Ka, Lc, Kc, rfl, hf, fun i hi => ?_, fun i hi => ?_⟩
    · obtain ⟨b, o, c0, c1, c2, c3, c4, h0, hb, q0, q1, q2, q3, q4, ha⟩ := hl i hi
      exact ⟨b, o, c0, c1, c2, c3, c4, h0, ⟨hb, hb⟩, q0, q1, q2, q3, q4, ih ha⟩
    · obtain ⟨b, o, h0, hb, hz, q0⟩ := hk i hi
      exact ⟨b, o, h0, ⟨hb, hb⟩, hz, q0⟩

def mark3 : ByteArray := ⟨#[111, 119, 110]⟩
def tilde : ByteArray := ⟨#[126]⟩
/-- The five cells of a mark. -/
def MarkAt (w : World) (b o : Nat) : Prop := w.cell? ⟨b, o, none⟩ = some (.int .i64 (-77)) ∧ w.cell? ⟨b, o + 1, none⟩ = some (.int .i64 0) ∧ w.cell? ⟨b, o + 2, none⟩ = some (.string mark3) ∧ w.cell? ⟨b, o + 3, none⟩ = some (.slice none 0 0) ∧ w.cell? ⟨b, o + 4, none⟩ = some (.slice none 0 0)
/-- The five cells of an element. -/
def FiveAt (w : World) (b o : Nat) (t : T) (A : Option Addr) (B : Nat) (C : Option Addr) (D : Nat) : Prop := w.cell? ⟨b, o, none⟩ = some (.int .i64 (kindOf t)) ∧ w.cell? ⟨b, o + 1, none⟩ = some (.int .i64 (nOf t)) ∧ w.cell? ⟨b, o + 2, none⟩ = some (.string (sOf t)) ∧ w.cell? ⟨b, o + 3, none⟩ = some (.slice A (nL t) B) ∧ w.cell? ⟨b, o + 4, none⟩ = some (.slice C (nK t) D)
def five (t : T) (A : Option Addr) (B : Nat) (C : Option Addr) (D : Nat) : Value := .agg #[.int .i64 (kindOf t), .int .i64 (nOf t), .string (sOf t), .slice A (nL t) B, .slice C (nK t) D]
/-- A value that was lent, so deep. -/
def LentP (p : Nat → Prop) (w : World) : Nat → Nat → Value → T → Prop
  | 0, f, x, t => AtP p w f x t
  | m + 1, f, x, t => ∃ (bL bK g : Nat), f = g + 1 ∧ x = five t (some ⟨bL, 0, none⟩) (nL t + 8) (some ⟨bK, 0, none⟩) (nK t + 8) ∧ Fits t ∧ (bL < w.heap.size ∧ p bL) ∧ (bK < w.heap.size ∧ p bK) ∧
      (∀ i, i < nL t → ∃ A B C D, FiveAt w bL (i * 5) (elt t i) A B C D ∧ LentP p w m g (five (elt t i) A B C D) (elt t i)) ∧
      (∀ i, i < nK t → (nam t i).size ≤ 140737488355328 ∧ w.cell? ⟨bK, i, none⟩ = some (.string (nam t i))) ∧
      (∀ i, i < 8 → MarkAt w bL ((nL t + i) * 5)) ∧ (∀ i, i < 8 → w.cell? ⟨bK, nK t + i, none⟩ = some (.string tilde))
theorem FiveAt.move {w w' : World} {b : Nat} (h : w'.heap[b]? = w.heap[b]?) {o : Nat} {t : T} {A : Option Addr} {B : Nat} {C : Option Addr} {D : Nat} (hh : FiveAt w b o t A B C D) : FiveAt w' b o t A B C D := by
  obtain ⟨a, b, c, d, e⟩ := hh
  exact ⟨(cell_of h _).trans a, (cell_of h _).trans b, (cell_of h _).trans c, (cell_of h _).trans d, (cell_of h _).trans e⟩
theorem MarkAt.move {w w' : World} {b : Nat} (h : w'.heap[b]? = w.heap[b]?) {o : Nat} (hh : MarkAt w b o) : MarkAt w' b o := by
  obtain ⟨a, b, c, d, e⟩ := hh
  exact ⟨(cell_of h _).trans a, (cell_of h _).trans b, (cell_of h _).trans c, (cell_of h _).trans d, (cell_of h _).trans e⟩
theorem LentP.move {p q : Nat → Prop} {w w' : World} (hs : w.heap.size ≤ w'.heap.size) (hq : ∀ b, b < w.heap.size → p b → q b ∧ w'.heap[b]? = w.heap[b]?) : ∀ {m f : Nat} {v : Value} {t : T}, LentP p w m f v t → LentP q w' m f v t := by
  intro m
  induction m with
  | zero => intro f v t h; exact AtP.move hs hq h
  | succ m ih =>
    rintro f v t ⟨bL, bK, g, rfl, rfl, hf, ⟨h1, h2⟩, ⟨h3, h4⟩, he, hn, hm, ht⟩
    obtain ⟨a1, a2⟩ := hq bL h1 h2
    obtain ⟨a3, a4⟩ := hq bK h3 h4
    refine ⟨bL, bK, g, rfl, rfl, hf, ⟨Nat.lt_of_lt_of_le h1 hs, a1⟩, ⟨Nat.lt_of_lt_of_le h3 hs, a3⟩, fun i hi => ?_, fun i hi => ⟨(hn i hi).1, (cell_of a4 _).trans (hn i hi).2⟩, fun i hi => (hm i hi).move a2, fun i hi => (cell_of a4 _).trans (ht i hi)⟩
    obtain ⟨A, B, C, D, h5, h6⟩ := he i hi
    exact ⟨A, B, C, D, h5.move a2, ih h6⟩
theorem LentP.at {p : Nat → Prop} {w : World} : ∀ {m f : Nat} {v : Value} {t : T}, LentP p w m f v t → At w f v t := by
  intro m
  induction m with
  | zero => intro f v t h; exact AtP.at h
  | succ m ih =>
    rintro f v t ⟨bL, bK, g, rfl, rfl, hf, h1, h3, he, hn, _, _⟩
    refine ⟨some ⟨bL, 0, none⟩, some ⟨bK, 0, none⟩, nL t + 8, nK t + 8, rfl, hf, fun i hi => ?_, fun i hi => ⟨bK, 0, rfl, h3.1, (hn i hi).1, by rw [Nat.zero_add]; exact (hn i hi).2⟩⟩
    obtain ⟨A, B, C, D, ⟨e0, e1, e2, e3, e4⟩, h6⟩ := he i hi
    refine ⟨bL, 0, _, _, _, _, _, rfl, h1.1, ?_, ?_, ?_, ?_, ?_, ih h6⟩
    · rw [Nat.zero_add]; exact e0
    · rw [Nat.zero_add]; exact e1
    · rw [Nat.zero_add]; exact e2
    · rw [Nat.zero_add]; exact e3
    · rw [Nat.zero_add]; exact e4
/-- What is lent shows what it is. -/
theorem LentP.shape {p : Nat → Prop} {w : World} {m f : Nat} {v : Value} {t : T} (h : LentP p w m f v t) : ∃ A B C D, v = five t A B C D := by
  obtain ⟨g, A, C, B, D, _, hv, _⟩ := h.at.open
  exact ⟨A, B, C, D, hv⟩
/-- A row of so many cells that may be written. -/
def RowAt (w : World) (b n : Nat) : Prop := b < w.heap.size ∧ ∀ o, o < n → (w.cell? ⟨b, o, none⟩).isSome = true ∧ w.frozen? ⟨b, o, none⟩ = false
theorem RowAt.move {w w' : World} {b n : Nat} (h : RowAt w b n) (hs : w.heap.size ≤ w'.heap.size) (hb : w'.heap[b]? = w.heap[b]?) : RowAt w' b n :=
  ⟨Nat.lt_of_lt_of_le h.1 hs, fun o ho => ⟨by rw [cell_of hb]; exact (h.2 o ho).1, by rw [World.frozen?_of_block (w := w) (a := ⟨b, o, none⟩) hb]; exact (h.2 o ho).2⟩⟩
theorem RowAt.set {w : World} {b n : Nat} (h : RowAt w b n) (c o : Nat) (u : Value) : RowAt (w.setCell ⟨c, o, none⟩ u) b n := by
  refine ⟨by simp [World.setCell]; exact h.1, fun k hk => ⟨?_, by rw [World.frozen?_setCell]; exact (h.2 k hk).2⟩⟩
  by_cases e : (⟨c, o, none⟩ : Addr) = ⟨b, k, none⟩
  · obtain ⟨v, hv⟩ := Option.isSome_iff_exists.1 (h.2 k hk).1
    rw [← e] at hv ⊢
    rw [World.cell?_setCell_same _ _ _ hv]
    rfl
  · rw [World.cell?_setCell_other _ _ _ _ e]
    exact (h.2 k hk).1
theorem set_same {w : World} {b n o : Nat} (h : RowAt w b n) (ho : o < n) (u : Value) : (w.setCell ⟨b, o, none⟩ u).cell? ⟨b, o, none⟩ = some u := by
  obtain ⟨v, hv⟩ := Option.isSome_iff_exists.1 (h.2 o ho).1
  exact World.cell?_setCell_same _ _ _ hv
theorem set_other {w : World} {b c o k : Nat} (h : b ≠ c ∨ o ≠ k) (u : Value) : (w.setCell ⟨b, o, none⟩ u).cell? ⟨c, k, none⟩ = w.cell? ⟨c, k, none⟩ :=
  World.cell?_setCell_other _ _ _ _ (fun e => by simp only [Addr.mk.injEq] at e; rcases h with h | h; exact h e.1; exact h e.2.1)
/-- Five cells stored into a row. -/
def set5 (w : World) (b o : Nat) (c0 c1 c2 c3 c4 : Value) : World := ((((w.setCell ⟨b, o, none⟩ c0).setCell ⟨b, o + 1, none⟩ c1).setCell ⟨b, o + 2, none⟩ c2).setCell ⟨b, o + 3, none⟩ c3).setCell ⟨b, o + 4, none⟩ c4
theorem set5_row {w : World} {b n : Nat} (h : RowAt w b n) (c o : Nat) (c0 c1 c2 c3 c4 : Value) : RowAt (set5 w c o c0 c1 c2 c3 c4) b n := ((((h.set _ _ _).set _ _ _).set _ _ _).set _ _ _).set _ _ _
theorem set5_other {w : World} {b c o k : Nat} (h : b ≠ c ∨ k < o ∨ o + 5 ≤ k) (c0 c1 c2 c3 c4 : Value) : (set5 w b o c0 c1 c2 c3 c4).cell? ⟨c, k, none⟩ = w.cell? ⟨c, k, none⟩ := by
  unfold set5
  rw [set_other (by omega), set_other (by omega), set_other (by omega), set_other (by omega), set_other (by omega)]
theorem set5_at {w : World} {b n o : Nat} (h : RowAt w b n) (ho : o + 5 ≤ n) (c0 c1 c2 c3 c4 : Value) : (set5 w b o c0 c1 c2 c3 c4).cell? ⟨b, o, none⟩ = some c0 ∧ (set5 w b o c0 c1 c2 c3 c4).cell? ⟨b, o + 1, none⟩ = some c1 ∧ (set5 w b o c0 c1 c2 c3 c4).cell? ⟨b, o + 2, none⟩ = some c2 ∧ (set5 w b o c0 c1 c2 c3 c4).cell? ⟨b, o + 3, none⟩ = some c3 ∧ (set5 w b o c0 c1 c2 c3 c4).cell? ⟨b, o + 4, none⟩ = some c4 := by
  unfold set5
  refine ⟨?_, ?_, ?_, ?_, ?_⟩
  · rw [set_other (by omega), set_other (by omega), set_other (by omega), set_other (by omega), set_same h (by omega)]
  · rw [set_other (by omega), set_other (by omega), set_other (by omega), set_same (h.set _ _ _) (by omega)]
  · rw [set_other (by omega), set_other (by omega), set_same ((h.set _ _ _).set _ _ _) (by omega)]
  · rw [set_other (by omega), set_same (((h.set _ _ _).set _ _ _).set _ _ _) (by omega)]
  · rw [set_same ((((h.set _ _ _).set _ _ _).set _ _ _).set _ _ _) (by omega)]
theorem set5_but (w : World) (b o : Nat) (c0 c1 c2 c3 c4 : Value) : But b w (set5 w b o c0 c1 c2 c3 c4) :=
  ((((But.set _ _ _ _).trans (But.set _ _ _ _)).trans (But.set _ _ _ _)).trans (But.set _ _ _ _)).trans (But.set _ _ _ _)
end Go.Proofs.YtknakfpciccoaaaGreatDoor
namespace Go.Proofs.YtknakfpciccoaaaGreatDoor
open Go.RowKit
theorem assert_refusal (n : Int) (w : World) : (Instr.typeAssert (.iface 132 (.int .i64 n)) 20 132 true).run Tryz.prog w = .ok (.tuple #[.int .i64 n, .bool true]) w := by kernel_rfl
set_option maxHeartbeats 1000000 in
set_option maxRecDepth 100000 in
theorem catch_refusal (be : Nat) (n : Int) (w : World) (x : Value) (h5 : w.cell? ⟨be, 0, none⟩ = some x) (f5 : w.frozen? ⟨be, 0, none⟩ = false) :
    CallsD Tryz.prog 99 #[.pointer (some ⟨be, 0, none⟩)] (.panicking [{ v := .iface 132 (.int .i64 n), recovered := false }]) w fun e u' w' =>
      e = .returned (.tuple #[]) ∧ u' = .panicking [{ v := .iface 132 (.int .i64 n), recovered := true }] ∧ w' = w.setCell ⟨be, 0, none⟩ (.int .i64 n) := by
  refine callsD_of_wpS Tryz.func99 rfl fun c₀ cs hu => ?_
  apply wpS_seq
  apply wpS_region
  simp [wpOpsS, go_sem, recoverD, hu, Tryz.ntmps99, Exit.thenS]
  refine wpS_of_wp ?_
  have hta := assert_refusal n
  have e : (#[Value.pointer (some { block := be, off := 0 })] ++ (Array.replicate 10 undef).setIfInBounds 3 (Value.iface 132 (Value.int IntKind.i64 n))) = #[.pointer (some ⟨be, 0, none⟩), undef, undef, undef, .iface 132 (.int .i64 n), undef, undef, undef, undef, undef, undef] := rfl
  rw [e]
  go_wp2_with fail
  simp [bodyPostS, results, Tryz.results99]

set_option maxHeartbeats 1000000 in
set_option maxRecDepth 100000 in
theorem catch_idle (be : Nat) (w : World) :
    CallsD Tryz.prog 99 #[.pointer (some ⟨be, 0, none⟩)] .returning w fun e u' w' => e = .returned (.tuple #[]) ∧ u' = .returning ∧ w' = w := by
  refine callsD_of_wpS Tryz.func99 rfl fun c₀ cs hu => ?_
  apply wpS_seq
  apply wpS_region
  simp [wpOpsS, go_sem, recoverD, hu, Tryz.ntmps99, Exit.thenS]
  refine wpS_of_wp ?_
  go_wp2_with fail
  cases c₀
  simp_all [bodyPostS, results, Tryz.results99]

def zeroV : Value := .agg #[.int .i64 0, .int .i64 0, .string ⟨#[]⟩, .slice none 0 0, .slice none 0 0]
/-- How a call of a parser ends: with a value, or with a refusal. -/
def Ends (Q : Int → Prop) (R : Value → World → Prop) (w : World) (e : Ending) (w' : World) : Prop :=
  Below w.heap.size w w' ∧ ((∃ t A B C D, e = .returned (five t A B C D) ∧ R (five t A B C D) w') ∨ ∃ n, Q n ∧ e = .panicked [{ v := .iface 132 (.int .i64 n), recovered := false }])
/-- What lies at so many and behind is as it was. -/
structure Above (k : Nat) (w w' : World) : Prop where
  size : w'.heap.size = w.heap.size
  block : ∀ b, k ≤ b → w'.heap[b]? = w.heap[b]?
theorem Above.refl (k : Nat) (w : World) : Above k w w := ⟨rfl, fun _ _ => rfl⟩
theorem Above.set {k : Nat} {w w' : World} (h : Above k w w') {c : Nat} (hc : c < k) (o : Nat) (u : Value) : Above k w (w'.setCell ⟨c, o, none⟩ u) :=
  ⟨by simpa [World.setCell] using h.size, fun b hb => (Below.heap_setCell _ _ _ _ (by simpa using (by omega : b ≠ c))).trans (h.block b hb)⟩
set_option maxHeartbeats 1000000 in
set_option maxRecDepth 100000 in
theorem attempt (g : Nat) (hg : ∀ (a : Array Value) (w : World), (callFunc g a).run Tryz.prog w = .ok (.enter g a) w) (Q : Int → Prop) (R : Value → World → Prop) (p : Value) (w : World)
    (h : Calls Tryz.prog g #[p] ((w.alloc (.cells #[.int .i64 0, .int .i64 0, .string ⟨#[]⟩, .slice none 0 0, .slice none 0 0] 25)).alloc (.cells #[.int .i64 0] 28)) (Ends Q R ((w.alloc (.cells #[.int .i64 0, .int .i64 0, .string ⟨#[]⟩, .slice none 0 0, .slice none 0 0] 25)).alloc (.cells #[.int .i64 0] 28)))) :
    Calls Tryz.prog 55 #[.func (Fn.func g) #[] #[p]] w fun e w' => Below w.heap.size w w' ∧ ((∃ x w2, e = .returned (.tuple #[x, .int .i64 0]) ∧ R x w2 ∧ Above (w.heap.size + 2) w2 w') ∨ ∃ n, Q n ∧ e = .returned (.tuple #[zeroV, .int .i64 n])) := by
  have hmf : ∀ (fn : Fn) (first cap : Array Value) (w : World), (Instr.makeFunc fn first cap).run Tryz.prog w = .ok (.func fn first cap) w := fun _ _ _ _ => rfl
  have H := hid h
  clear h
  go_enter_defers Tryz.func55, Tryz.ntmps55
  go_wp2_with fail
  have HC : Hid (((w.alloc (.cells #[.int .i64 0, .int .i64 0, .string ⟨#[]⟩, .slice none 0 0, .slice none 0 0] 25)).alloc (.cells #[.int .i64 0] 28)).cell? ⟨w.heap.size, 0, none⟩ = some (.int .i64 0) ∧ ((w.alloc (.cells #[.int .i64 0, .int .i64 0, .string ⟨#[]⟩, .slice none 0 0, .slice none 0 0] 25)).alloc (.cells #[.int .i64 0] 28)).cell? ⟨w.heap.size, 1, none⟩ = some (.int .i64 0) ∧ ((w.alloc (.cells #[.int .i64 0, .int .i64 0, .string ⟨#[]⟩, .slice none 0 0, .slice none 0 0] 25)).alloc (.cells #[.int .i64 0] 28)).cell? ⟨w.heap.size, 2, none⟩ = some (.string ⟨#[]⟩) ∧ ((w.alloc (.cells #[.int .i64 0, .int .i64 0, .string ⟨#[]⟩, .slice none 0 0, .slice none 0 0] 25)).alloc (.cells #[.int .i64 0] 28)).cell? ⟨w.heap.size, 3, none⟩ = some (.slice none 0 0) ∧ ((w.alloc (.cells #[.int .i64 0, .int .i64 0, .string ⟨#[]⟩, .slice none 0 0, .slice none 0 0] 25)).alloc (.cells #[.int .i64 0] 28)).cell? ⟨w.heap.size, 4, none⟩ = some (.slice none 0 0) ∧ ((w.alloc (.cells #[.int .i64 0, .int .i64 0, .string ⟨#[]⟩, .slice none 0 0, .slice none 0 0] 25)).alloc (.cells #[.int .i64 0] 28)).cell? ⟨w.heap.size + 1, 0, none⟩ = some (.int .i64 0)) := by
    refine ⟨?_, ?_, ?_, ?_, ?_, ?_⟩ <;> simp [go_sem]
  have HZ : Hid (((w.alloc (.cells #[.int .i64 0, .int .i64 0, .string ⟨#[]⟩, .slice none 0 0, .slice none 0 0] 25)).alloc (.cells #[.int .i64 0] 28)).frozen? ⟨w.heap.size, 0, none⟩ = false ∧ ((w.alloc (.cells #[.int .i64 0, .int .i64 0, .string ⟨#[]⟩, .slice none 0 0, .slice none 0 0] 25)).alloc (.cells #[.int .i64 0] 28)).frozen? ⟨w.heap.size, 1, none⟩ = false ∧ ((w.alloc (.cells #[.int .i64 0, .int .i64 0, .string ⟨#[]⟩, .slice none 0 0, .slice none 0 0] 25)).alloc (.cells #[.int .i64 0] 28)).frozen? ⟨w.heap.size, 2, none⟩ = false ∧ ((w.alloc (.cells #[.int .i64 0, .int .i64 0, .string ⟨#[]⟩, .slice none 0 0, .slice none 0 0] 25)).alloc (.cells #[.int .i64 0] 28)).frozen? ⟨w.heap.size, 3, none⟩ = false ∧ ((w.alloc (.cells #[.int .i64 0, .int .i64 0, .string ⟨#[]⟩, .slice none 0 0, .slice none 0 0] 25)).alloc (.cells #[.int .i64 0] 28)).frozen? ⟨w.heap.size, 4, none⟩ = false ∧ ((w.alloc (.cells #[.int .i64 0, .int .i64 0, .string ⟨#[]⟩, .slice none 0 0, .slice none 0 0] 25)).alloc (.cells #[.int .i64 0] 28)).frozen? ⟨w.heap.size + 1, 0, none⟩ = false) := by
    refine ⟨?_, ?_, ?_, ?_, ?_, ?_⟩ <;> simp [go_sem]
  have HB0 : Hid (Below w.heap.size w ((w.alloc (.cells #[.int .i64 0, .int .i64 0, .string ⟨#[]⟩, .slice none 0 0, .slice none 0 0] 25)).alloc (.cells #[.int .i64 0] 28))) := ((Below.refl _ _).alloc (Nat.le_refl _) _).alloc (by simp) _
  refine H.out.mono ?_
  rintro e w1 ⟨hb, hr⟩
  have l0 : w.heap.size < ((w.alloc (.cells #[.int .i64 0, .int .i64 0, .string ⟨#[]⟩, .slice none 0 0, .slice none 0 0] 25)).alloc (.cells #[.int .i64 0] 28)).heap.size := by simp; omega
  have l1 : w.heap.size + 1 < ((w.alloc (.cells #[.int .i64 0, .int .i64 0, .string ⟨#[]⟩, .slice none 0 0, .slice none 0 0] 25)).alloc (.cells #[.int .i64 0] 28)).heap.size := by simp
  have a0 := (hb.cell (p := ⟨w.heap.size, 0, none⟩) l0).trans HC.out.1
  have a1 := (hb.cell (p := ⟨w.heap.size, 1, none⟩) l0).trans HC.out.2.1
  have a2 := (hb.cell (p := ⟨w.heap.size, 2, none⟩) l0).trans HC.out.2.2.1
  have a3 := (hb.cell (p := ⟨w.heap.size, 3, none⟩) l0).trans HC.out.2.2.2.1
  have a4 := (hb.cell (p := ⟨w.heap.size, 4, none⟩) l0).trans HC.out.2.2.2.2.1
  have a5 := (hb.cell (p := ⟨w.heap.size + 1, 0, none⟩) l1).trans HC.out.2.2.2.2.2
  have z0 := (hb.frozen (p := ⟨w.heap.size, 0, none⟩) l0).trans HZ.out.1
  have z1 := (hb.frozen (p := ⟨w.heap.size, 1, none⟩) l0).trans HZ.out.2.1
  have z2 := (hb.frozen (p := ⟨w.heap.size, 2, none⟩) l0).trans HZ.out.2.2.1
  have z3 := (hb.frozen (p := ⟨w.heap.size, 3, none⟩) l0).trans HZ.out.2.2.2.1
  have z4 := (hb.frozen (p := ⟨w.heap.size, 4, none⟩) l0).trans HZ.out.2.2.2.2.1
  have z5 := (hb.frozen (p := ⟨w.heap.size + 1, 0, none⟩) l1).trans HZ.out.2.2.2.2.2
  have HB := hid (HB0.out.trans (hb.mono HB0.out.size))
  clear hb HC HZ HB0 l0 l1 H
  rcases hr with ⟨t, A, B, C, D, rfl, hR⟩ | ⟨n, hQ, rfl⟩
  · have HR := hid hR
    clear hR
    unfold five at HR ⊢
    go_wp2_with fail
    refine leaves_cons (f := 99) (args := #[.pointer (some ⟨w.heap.size + 1, 0, none⟩)]) (by simp) (by simp [go_sem]) ?_
    refine (catch_idle (w.heap.size + 1) _).mono ?_
    rintro e u' w'' ⟨rfl, rfl, rfl⟩
    simp only [Leaves, settle]
    refine ⟨_, by simp [results, Tryz.results55, go_sem, *], ?_, Or.inl ⟨_, w1, rfl, HR.out, ?_⟩⟩
    · exact (((((HB.out.setCell (Nat.le_refl _) _).setCell (Nat.le_refl _) _).setCell (Nat.le_refl _) _).setCell (Nat.le_refl _) _).setCell (Nat.le_refl _) _).setCell (by simp) _
    · exact ((((((Above.refl _ _).set (by omega) _ _).set (by omega) _ _).set (by omega) _ _).set (by omega) _ _).set (by omega) _ _).set (by omega) _ _
  · have HQ := hid hQ
    clear hQ
    go_wp2_with fail
    refine leaves_cons (f := 99) (args := #[.pointer (some ⟨w.heap.size + 1, 0, none⟩)]) (by simp) (by simp [go_sem]) ?_
    refine (catch_refusal (w.heap.size + 1) n _ _ a5 z5).mono ?_
    rintro e u' w'' ⟨rfl, rfl, rfl⟩
    simp only [settle]
    refine ⟨_, by simp [results, Tryz.results55, go_sem, *]; rfl, ?_, Or.inr ⟨n, HQ.out, rfl⟩⟩
    exact HB.out.setCell (by simp) _
end Go.Proofs.YtknakfpciccoaaaGreatDoor
/- The walks of the program's parser: bytes. -/
namespace Go.Proofs.YtknakfpciccoaaaGreatDoor
open Go.RowKit

abbrev refusedT (n : Int) : Ending := .panicked [{ v := .iface 132 (.int .i64 n), recovered := false }]
/-- The parser's cells: the text, and the place. -/
structure PL (c : Nat) (s : ByteArray) (i : Nat) (w : World) : Prop where
  q0 : w.cell? ⟨c, 0, none⟩ = some (.string s)
  q1 : w.cell? ⟨c, 1, none⟩ = some (.int .i64 i)
  f1 : w.frozen? ⟨c, 1, none⟩ = false
  lt : c < w.heap.size
theorem PL.set {c : Nat} {s : ByteArray} {i : Nat} {w : World} (h : PL c s i w) (j : Nat) : PL c s j (w.setCell ⟨c, 1, none⟩ (.int .i64 j)) := by
  have h0 := h.q0
  have h1 := h.q1
  have h2 := h.f1
  refine ⟨?_, ?_, ?_, by simp [World.setCell]; exact h.lt⟩
  · simp [go_sem, h0]
  · simp [go_sem, h1]
  · simp [go_sem, h2]
theorem PL.move {c : Nat} {s : ByteArray} {i : Nat} {w w' : World} (h : PL c s i w) (hs : w.heap.size ≤ w'.heap.size) (hb : w'.heap[c]? = w.heap[c]?) : PL c s i w' :=
  ⟨(World.cell?_of_block (w := w) (a := ⟨c, _, none⟩) hb).trans h.q0, (World.cell?_of_block (w := w) (a := ⟨c, _, none⟩) hb).trans h.q1, (World.frozen?_of_block (w := w) (a := ⟨c, _, none⟩) hb).trans h.f1, Nat.lt_of_lt_of_le h.lt hs⟩
theorem PL.keep {c : Nat} {s : ByteArray} {i : Nat} {w w' : World} (h : PL c s i w) (hb : Below w.heap.size w w') : PL c s i w' := h.move hb.size (hb.block _ h.lt)
theorem cB_get {s : ByteArray} {i : Nat} (h : i < s.size) : ∃ z : UInt8, s[i]'h = z ∧ cB s i = z.toNat := by
  refine ⟨s[i]'h, rfl, ?_⟩
  rw [cB_bt h]
  unfold bt
  cases s with
  | mk d => exact congrArg UInt8.toNat (getElem!_pos d i h)
def pk (s : ByteArray) (i : Nat) : Nat := if i < s.size then cB s i else 0
set_option maxHeartbeats 1000000 in
set_option maxRecDepth 100000 in
theorem peek_any (c : Nat) (s : ByteArray) (i : Nat) (w : World) (h : PL c s i w) (hi : i ≤ s.size) :
    Calls Tryz.prog 180 #[.pointer (some ⟨c, 0, none⟩)] w fun e w' => e = .returned (.int .u8 (pk s i)) ∧ Below w.heap.size w w' := by
  have q0 := h.q0
  have q1 := h.q1
  clear h
  by_cases hlt : i < s.size
  · obtain ⟨z, hz, hc⟩ := cB_get hlt
    have HP : Hid (pk s i = z.toNat) := by show pk s i = _; unfold pk; rw [if_pos hlt, hc]
    have x1 : (i : Int) < (s.size : Int) := by omega
    have x2 : ¬ ((i : Int) = (s.size : Int)) := by omega
    clear hc
    go_enter Tryz.func180, Tryz.ntmps180
    go_wp2_with fail
    go_quiet (fail)
    go_wp2_with fail
    go_quiet (fail)
    go_wp2_with fail
    go_ret
    exact ⟨ret_int (by rw [HP.out]), below_drewN (below_drewN (Below.refl _ _) _) _⟩
  · have HP : Hid (pk s i = 0) := by show pk s i = _; unfold pk; rw [if_neg hlt]
    have hi2 : i = s.size := by omega
    clear hlt hi
    subst hi2
    go_enter Tryz.func180, Tryz.ntmps180
    go_wp2_with fail
    go_quiet (fail)
    go_wp2_with fail
    go_ret
    exact ⟨ret_int (by rw [HP.out]; rfl), below_drewN (Below.refl _ _) _⟩

def AccPost (c : Nat) (s : ByteArray) (b : Bool) (j : Nat) (w : World) (e : Ending) (w' : World) : Prop :=
  e = .returned (.bool b) ∧ But c w w' ∧ PL c s j w'
set_option maxHeartbeats 1000000 in
set_option maxRecDepth 100000 in
theorem accept_yes (c : Nat) (s : ByteArray) (i : Nat) (a : Int) (w : World) (h : PL c s i w) (hs : s.size ≤ 4000) (ha : (cB s i : Int) = a) (hb : a < 256) :
    Calls Tryz.prog 179 #[.pointer (some ⟨c, 0, none⟩), .int .u8 a] w (AccPost c s true (i + 1) w) := by
  have hlt : i < s.size := cB_in (by omega)
  obtain ⟨z, hz, hc⟩ := cB_get hlt
  have HL := hid h
  have q0 := h.q0
  have q1 := h.q1
  have q2 := h.f1
  clear h
  rw [hc] at ha
  subst ha
  have x1 : (i : Int) < (s.size : Int) := by omega
  have x2 : ((i : Int) == (s.size : Int)) = false := by rw [beq_eq_false_iff_ne]; omega
  clear hc
  go_enter Tryz.func179, Tryz.ntmps179
  go_wp2_with fail
  go_quiet (fail)
  have HB := hid (below_drewN (Below.refl w.heap.size w) nq)
  generalize w.drewN nq = w1 at HB ⊢
  have HL1 := hid (HL.out.keep HB.out)
  have r1 := HL1.out.q1
  have r2 := HL1.out.f1
  clear q0 q1 q2
  go_wp2_with fail
  go_ret
  refine ⟨rfl, (But.of HB.out).trans (But.set w1 c 1 _), ?_⟩
  have := HL1.out.set (i + 1)
  exact this
set_option maxHeartbeats 1000000 in
set_option maxRecDepth 100000 in
theorem accept_no (c : Nat) (s : ByteArray) (i : Nat) (a : Int) (w : World) (h : PL c s i w) (hi : i ≤ s.size) (ha : (cB s i : Int) ≠ a) :
    Calls Tryz.prog 179 #[.pointer (some ⟨c, 0, none⟩), .int .u8 a] w (AccPost c s false i w) := by
  have HL := hid h
  have q0 := h.q0
  have q1 := h.q1
  clear h
  by_cases hlt : i < s.size
  · obtain ⟨z, hz, hc⟩ := cB_get hlt
    rw [hc] at ha
    have x1 : (i : Int) < (s.size : Int) := by omega
    have x2 : ((i : Int) == (s.size : Int)) = false := by rw [beq_eq_false_iff_ne]; omega
    clear hc
    go_enter Tryz.func179, Tryz.ntmps179
    go_wp2_with fail
    go_quiet (fail)
    have HB := hid (below_drewN (Below.refl w.heap.size w) nq)
    generalize w.drewN nq = w1 at HB ⊢
    go_wp2_with fail
    go_ret
    exact ⟨rfl, But.of HB.out, HL.out.keep HB.out⟩
  · have hi2 : i = s.size := by omega
    clear hlt hi ha
    subst hi2
    go_enter Tryz.func179, Tryz.ntmps179
    go_wp2_with fail
    go_quiet (fail)
    have HB := hid (below_drewN (Below.refl w.heap.size w) nq)
    generalize w.drewN nq = w1 at HB ⊢
    go_wp2_with fail
    go_ret
    exact ⟨rfl, But.of HB.out, HL.out.keep HB.out⟩
set_option maxHeartbeats 1000000 in
set_option maxRecDepth 100000 in
theorem next_any (c : Nat) (s : ByteArray) (i : Nat) (w : World) (h : PL c s i w) (hs : s.size ≤ 4000) (hi : i ≤ s.size) :
    Calls Tryz.prog 249 #[.pointer (some ⟨c, 0, none⟩)] w fun e w' => But c w w' ∧ ((i < s.size ∧ e = .returned (.int .u8 (cB s i)) ∧ PL c s (i + 1) w') ∨ (i = s.size ∧ e = refusedT 2)) := by
  have HL := hid h
  have q0 := h.q0
  have q1 := h.q1
  clear h
  by_cases hlt : i < s.size
  · obtain ⟨z, hz, hc⟩ := cB_get hlt
    have HC := hid hc
    have x1 : (i : Int) < (s.size : Int) := by omega
    have x2 : ¬ ((i : Int) = (s.size : Int)) := by omega
    clear hc
    go_enter Tryz.func249, Tryz.ntmps249
    go_wp2_with fail
    go_quiet (fail)
    have HB := hid (below_drewN (Below.refl w.heap.size w) nq)
    generalize w.drewN nq = w1 at HB ⊢
    have HL1 := hid (HL.out.keep HB.out)
    have r1 := HL1.out.q1
    have r2 := HL1.out.f1
    clear q0 q1
    go_wp2_with fail
    have HL2 := hid (HL1.out.set (i + 1))
    have HB2 := hid ((But.of (c := c) HB.out).trans (But.set w1 c 1 (.int .i64 ((i + 1 : Nat) : Int))))
    have e1 : ((i + 1 : Nat) : Int) = (i : Int) + 1 := by omega
    rw [e1] at HL2 HB2
    have s0 := HL2.out.q0
    have s1 := HL2.out.q1
    clear r1 r2 HL1 HB
    generalize w1.setCell ⟨c, 1, none⟩ (.int .i64 ((i : Int) + 1)) = w2 at HL2 HB2 s0 s1 ⊢
    have e2 : IntKind.i64.wrap ((i : Int) + 1 - 1) = (i : Int) := by rw [IntKind.wrap_i64]; omega
    rw [e1] at s1
    go_quiet (fail)
    have HB3 := hid (below_drewN (Below.refl w2.heap.size w2) nq)
    generalize w2.drewN nq = w3 at HB3 ⊢
    go_wp2_with fail
    go_ret
    exact ⟨HB2.out.trans (But.of HB3.out), Or.inl ⟨hlt, ret_int (by rw [HC.out]), HL2.out.keep HB3.out⟩⟩
  · have hi2 : i = s.size := by omega
    clear hlt hi
    subst hi2
    go_enter Tryz.func249, Tryz.ntmps249
    go_wp2_with fail
    go_quiet (fail)
    have HB := hid (below_drewN (Below.refl w.heap.size w) nq)
    generalize w.drewN nq = w1 at HB ⊢
    go_wp2_with fail
    exact ⟨rfl, But.of HB.out, Or.inr ⟨trivial, rfl⟩⟩
end Go.Proofs.YtknakfpciccoaaaGreatDoor
/- The walks of the program's parser: tokens, digits, escapes. -/
namespace Go.Proofs.YtknakfpciccoaaaGreatDoor
open Go.RowKit

set_option maxHeartbeats 1000000 in
set_option maxRecDepth 100000 in
theorem expect_yes (c : Nat) (s : ByteArray) (i : Nat) (a : Int) (w : World) (h : PL c s i w) (hs : s.size ≤ 4000) (ha : (cB s i : Int) = a) (hb : a < 256) :
    Calls Tryz.prog 221 #[.pointer (some ⟨c, 0, none⟩), .int .u8 a] w fun e w' => e = .returned (.tuple #[]) ∧ But c w w' ∧ PL c s (i + 1) w' := by
  have hlt : i < s.size := cB_in (by omega)
  have HN := hid (next_any c s i w h hs (by omega))
  clear h
  subst ha
  go_enter Tryz.func221, Tryz.ntmps221
  go_wp2_with fail
  refine HN.out.mono ?_
  rintro e w1 ⟨hB, ⟨_, rfl, hL⟩ | ⟨hh, _⟩⟩
  · have HB := hid hB
    have HL := hid hL
    clear hB hL HN
    go_wp2_with fail
    refine bodyPost_end (v := .tuple #[]) (by simp [results, Tryz.results221, go_sem]) rfl ?_
    exact ⟨rfl, HB.out, HL.out⟩
  · omega
set_option maxHeartbeats 1000000 in
set_option maxRecDepth 100000 in
theorem expect_no (c : Nat) (s : ByteArray) (i : Nat) (a : Int) (w : World) (h : PL c s i w) (hs : s.size ≤ 4000) (hi : i ≤ s.size) (ha : (cB s i : Int) ≠ a) :
    Calls Tryz.prog 221 #[.pointer (some ⟨c, 0, none⟩), .int .u8 a] w fun e w' => e = refusedT 2 ∧ But c w w' := by
  have HN := hid (next_any c s i w h hs hi)
  clear h
  go_enter Tryz.func221, Tryz.ntmps221
  go_wp2_with fail
  refine HN.out.mono ?_
  rintro e w1 ⟨hB, ⟨_, rfl, _⟩ | ⟨_, rfl⟩⟩
  · have HB := hid hB
    clear hB HN
    go_wp2_with fail
    exact ⟨rfl, rfl, HB.out⟩
  · have HB := hid hB
    clear hB HN
    go_wp2_with fail
    exact ⟨rfl, rfl, HB.out⟩
theorem blank_no {n : Nat} (h : blank n = false) : n ≠ 32 ∧ n ≠ 9 ∧ n ≠ 10 ∧ n ≠ 13 := by
  unfold blank at h
  simp at h
  omega
set_option maxHeartbeats 1000000 in
set_option maxRecDepth 100000 in
theorem skip_any (c : Nat) (s : ByteArray) (i : Nat) (w : World) (h : PL c s i w) (hs : s.size ≤ 4000) (hi : i ≤ s.size) :
    Calls Tryz.prog 139 #[.pointer (some ⟨c, 0, none⟩)] w fun e w' => e = .returned (.tuple #[]) ∧ But c w w' ∧ PL c s (sk s i) w' := by
  have HL0 := hid h
  clear h
  go_enter Tryz.func139, Tryz.ntmps139
  go_wp2_with fail
  go_loopg [] (s.size - i) (fun g wr => ∃ k : Nat, g = s.size - k ∧ k ≤ s.size ∧ Hid (PL c s k wr) ∧ Hid (But c w wr) ∧ Hid (sk s k = sk s i))
  case atStart => exact ⟨i, rfl, hi, HL0, But.refl _ _, rfl⟩
  case round =>
    clear HL0
    obtain ⟨k, rfl, hk, HL, HB, HK⟩ := hrel
    by_cases hb : blank (cB s k) = true
    · have hlt : k < s.size := by
        apply cB_in (s := s)
        unfold blank at hb
        simp at hb
        omega
      have HK1 : Hid (sk s (k + 1) = sk s i) := by show _ = _; rw [← HK.out, sk_step s k, if_pos hb]
      have h4 : cB s k = 32 ∨ cB s k = 9 ∨ cB s k = 10 ∨ cB s k = 13 := by
        unfold blank at hb
        simp at hb
        omega
      clear HK hb
      by_cases h1 : cB s k = 32
      · go_wp2_with fail
        refine (accept_yes c s k 32 _ HL.out hs (by omega) (by omega)).mono ?_
        rintro e w1 ⟨rfl, hB1, hL1⟩
        have HB1 := hid (HB.out.trans hB1)
        have HL1 := hid hL1
        clear hB1 hL1 HL HB
        go_wp2_with fail
        go_roundg (s.size - (k + 1))
        case rel => exact ⟨k + 1, rfl, by omega, HL1, HB1, HK1⟩
        case measure => omega
      · go_wp2_with fail
        refine (accept_no c s k 32 _ HL.out hk (by omega)).mono ?_
        rintro e w1 ⟨rfl, hB1, hL1⟩
        have HB1 := hid (HB.out.trans hB1)
        have HL1 := hid hL1
        clear hB1 hL1 HL HB
        by_cases h2 : cB s k = 9
        · go_wp2_with fail
          refine (accept_yes c s k 9 _ HL1.out hs (by omega) (by omega)).mono ?_
          rintro e w2 ⟨rfl, hB2, hL2⟩
          have HB2 := hid (HB1.out.trans hB2)
          have HL2 := hid hL2
          clear hB2 hL2 HL1 HB1
          go_wp2_with fail
          go_roundg (s.size - (k + 1))
          case rel => exact ⟨k + 1, rfl, by omega, HL2, HB2, HK1⟩
          case measure => omega
        · go_wp2_with fail
          refine (accept_no c s k 9 _ HL1.out hk (by omega)).mono ?_
          rintro e w2 ⟨rfl, hB2, hL2⟩
          have HB2 := hid (HB1.out.trans hB2)
          have HL2 := hid hL2
          clear hB2 hL2 HL1 HB1
          by_cases h3 : cB s k = 10
          · go_wp2_with fail
            refine (accept_yes c s k 10 _ HL2.out hs (by omega) (by omega)).mono ?_
            rintro e w3 ⟨rfl, hB3, hL3⟩
            have HB3 := hid (HB2.out.trans hB3)
            have HL3 := hid hL3
            clear hB3 hL3 HL2 HB2
            go_wp2_with fail
            go_roundg (s.size - (k + 1))
            case rel => exact ⟨k + 1, rfl, by omega, HL3, HB3, HK1⟩
            case measure => omega
          · go_wp2_with fail
            refine (accept_no c s k 10 _ HL2.out hk (by omega)).mono ?_
            rintro e w3 ⟨rfl, hB3, hL3⟩
            have HB3 := hid (HB2.out.trans hB3)
            have HL3 := hid hL3
            clear hB3 hL3 HL2 HB2
            go_wp2_with fail
            refine (accept_yes c s k 13 _ HL3.out hs (by omega) (by omega)).mono ?_
            rintro e w4 ⟨rfl, hB4, hL4⟩
            have HB4 := hid (HB3.out.trans hB4)
            have HL4 := hid hL4
            clear hB4 hL4 HL3 HB3
            go_wp2_with fail
            go_roundg (s.size - (k + 1))
            case rel => exact ⟨k + 1, rfl, by omega, HL4, HB4, HK1⟩
            case measure => omega
    · have hb2 : blank (cB s k) = false := by simpa using hb
      have HK1 : Hid (sk s i = k) := by show _ = _; rw [← HK.out, sk_step s k, if_neg hb]
      obtain ⟨h1, h2, h3, h4⟩ := blank_no hb2
      clear hb hb2 HK
      go_wp2_with fail
      refine (accept_no c s k 32 _ HL.out hk (by omega)).mono ?_
      rintro e w1 ⟨rfl, hB1, hL1⟩
      have HB1 := hid (HB.out.trans hB1)
      have HL1 := hid hL1
      clear hB1 hL1 HL HB
      go_wp2_with fail
      refine (accept_no c s k 9 _ HL1.out hk (by omega)).mono ?_
      rintro e w2 ⟨rfl, hB2, hL2⟩
      have HB2 := hid (HB1.out.trans hB2)
      have HL2 := hid hL2
      clear hB2 hL2 HL1 HB1
      go_wp2_with fail
      refine (accept_no c s k 10 _ HL2.out hk (by omega)).mono ?_
      rintro e w3 ⟨rfl, hB3, hL3⟩
      have HB3 := hid (HB2.out.trans hB3)
      have HL3 := hid hL3
      clear hB3 hL3 HL2 HB2
      go_wp2_with fail
      refine (accept_no c s k 13 _ HL3.out hk (by omega)).mono ?_
      rintro e w4 ⟨rfl, hB4, hL4⟩
      have HB4 := hid (HB3.out.trans hB4)
      have HL4 := hid hL4
      clear hB4 hL4 HL3 HB3
      go_wp2_with fail
      refine bodyPost_end (v := .tuple #[]) (by simp [results, Tryz.results139, go_sem]) rfl ?_
      refine ⟨rfl, HB4.out, ?_⟩
      rw [HK1.out]
      exact HL4.out
set_option maxHeartbeats 1000000 in
set_option maxRecDepth 100000 in
theorem isDigit_any (x : Int) (w : World) : Calls Tryz.prog 184 #[.int .u8 x] w fun e w' => e = .returned (.bool (decide (48 ≤ x) && decide (x ≤ 57))) ∧ w' = w := by
  by_cases h1 : (48 : Int) ≤ x
  · have h1d : decide ((48 : Int) ≤ x) = true := decide_eq_true h1
    go_enter Tryz.func184, Tryz.ntmps184
    go_wp2_with fail
    go_ret
    refine ⟨?_, rfl⟩
    rw [h1d, Bool.true_and]
    rfl
  · have h1d : decide ((48 : Int) ≤ x) = false := decide_eq_false h1
    go_enter Tryz.func184, Tryz.ntmps184
    go_wp2_with fail
    go_ret
    exact ⟨rfl, rfl⟩
theorem isDigit_nat (x : Nat) (w : World) : Calls Tryz.prog 184 #[.int .u8 (x : Int)] w fun e w' => e = .returned (.bool (isD x)) ∧ w' = w := by
  refine (isDigit_any (x : Int) w).mono ?_
  rintro e w' ⟨rfl, rfl⟩
  refine ⟨ret_bool ?_, rfl⟩
  unfold isD
  congr 1
  · apply decide_eq_decide.2; omega
  · apply decide_eq_decide.2; omega
set_option maxHeartbeats 1000000 in
set_option maxRecDepth 100000 in
theorem hexa_any (x : Nat) (w : World) (hx : x < 256) : Calls Tryz.prog 290 #[.int .u8 (x : Int)] w fun e w' => w' = w ∧ ((∃ n, hexV x = some n ∧ e = .returned (.int .i32 (n : Int))) ∨ (hexV x = none ∧ e = refusedT 2)) := by
  have HD := hid (isDigit_nat x w)
  by_cases h1 : isD x = true
  · have hh : 48 ≤ x ∧ x ≤ 57 := by unfold isD at h1; simp at h1; exact h1
    have HV : Hid (hexV x = some (x - 48)) := by show _ = _; unfold hexV; rw [if_pos h1]
    go_enter Tryz.func290, Tryz.ntmps290
    go_wp2_with fail
    refine HD.out.mono ?_
    rintro e w1 ⟨rfl, rfl⟩
    go_wp2_with fail
    go_ret
    refine ⟨rfl, Or.inl ⟨_, HV.out, ret_int ?_⟩⟩
    go_num
  · have hh : ¬ (48 ≤ x ∧ x ≤ 57) := by unfold isD at h1; simp at h1; omega
    by_cases h2 : 97 ≤ x ∧ x ≤ 102
    · have HV : Hid (hexV x = some (x - 87)) := by show _ = _; unfold hexV; rw [if_neg h1, if_pos h2]
      have y1 : decide ((97 : Int) ≤ (x : Int)) = true := decide_eq_true (by omega)
      have y2 : ((x : Int) ≤ 102) := by omega
      go_enter Tryz.func290, Tryz.ntmps290
      go_wp2_with fail
      refine HD.out.mono ?_
      rintro e w1 ⟨rfl, rfl⟩
      go_wp2_with fail
      go_ret
      refine ⟨rfl, Or.inl ⟨_, HV.out, ret_int ?_⟩⟩
      go_num
    · by_cases h3 : 65 ≤ x ∧ x ≤ 70
      · have HV : Hid (hexV x = some (x - 55)) := by show _ = _; unfold hexV; rw [if_neg h1, if_neg h2, if_pos h3]
        have y1 : decide ((97 : Int) ≤ (x : Int)) = false := decide_eq_false (by omega)
        have y3 : decide ((65 : Int) ≤ (x : Int)) = true := decide_eq_true (by omega)
        have y4 : ((x : Int) ≤ 70) := by omega
        go_enter Tryz.func290, Tryz.ntmps290
        go_wp2_with fail
        refine HD.out.mono ?_
        rintro e w1 ⟨rfl, rfl⟩
        go_wp2_with fail
        go_ret
        refine ⟨rfl, Or.inl ⟨_, HV.out, ret_int ?_⟩⟩
        go_num
      · have HV : Hid (hexV x = none) := by show _ = _; unfold hexV; rw [if_neg h1, if_neg h2, if_neg h3]
        by_cases h4 : 97 ≤ x
        · have y1 : decide ((97 : Int) ≤ (x : Int)) = true := decide_eq_true (by omega)
          have y2 : ¬ ((x : Int) ≤ 102) := by omega
          have y3 : decide ((65 : Int) ≤ (x : Int)) = true := decide_eq_true (by omega)
          have y4 : ¬ ((x : Int) ≤ 70) := by omega
          go_enter Tryz.func290, Tryz.ntmps290
          go_wp2_with fail
          refine HD.out.mono ?_
          rintro e w1 ⟨rfl, rfl⟩
          go_wp2_with fail
          exact ⟨rfl, rfl, Or.inr ⟨HV.out, rfl⟩⟩
        · have y1 : decide ((97 : Int) ≤ (x : Int)) = false := decide_eq_false (by omega)
          by_cases h5 : 65 ≤ x
          · have y3 : decide ((65 : Int) ≤ (x : Int)) = true := decide_eq_true (by omega)
            have y4 : ¬ ((x : Int) ≤ 70) := by omega
            go_enter Tryz.func290, Tryz.ntmps290
            go_wp2_with fail
            refine HD.out.mono ?_
            rintro e w1 ⟨rfl, rfl⟩
            go_wp2_with fail
            exact ⟨rfl, rfl, Or.inr ⟨HV.out, rfl⟩⟩
          · have y3 : decide ((65 : Int) ≤ (x : Int)) = false := decide_eq_false (by omega)
            go_enter Tryz.func290, Tryz.ntmps290
            go_wp2_with fail
            refine HD.out.mono ?_
            rintro e w1 ⟨rfl, rfl⟩
            go_wp2_with fail
            exact ⟨rfl, rfl, Or.inr ⟨HV.out, rfl⟩⟩
end Go.Proofs.YtknakfpciccoaaaGreatDoor
