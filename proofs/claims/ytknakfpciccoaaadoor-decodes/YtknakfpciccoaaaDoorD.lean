/- A set of names: how many it holds, and whether one stands twice. -/
import Derived.Test.YtknakfpciccoaaaDoorB
import Derived.Maps.OwnSet
import Derived.Lib.ValidU
namespace Go.Proofs.YtknakfpciccoaaaDoor
open Go.RowKit Go.Maps Go.WideMaps

def keyAt (t : T) (k : Nat) : Lit := .string (nam t k).data.toList
def keysTo (t : T) (k : Nat) : List Lit := (List.range k).map (keyAt t)
def Sn (t : T) (k : Nat) : DataW Unit := setOf (.agg []) (keysTo t k)
theorem keysTo_succ (t : T) (k : Nat) : keysTo t (k + 1) = keysTo t k ++ [keyAt t k] := by simp [keysTo, List.range_succ]
theorem Sn_succ (t : T) (k : Nat) : Sn t (k + 1) = (Sn t k).put (keyAt t k) (.agg []) := by unfold Sn; rw [keysTo_succ, setOf_snoc]
theorem Sn_zero (t : T) : Sn t 0 = .map [] := by simp [Sn, keysTo, setOf]
theorem isKey (t : T) (k : Nat) : WideAt.IsKeyLit (keyAt t k) := by simp [keyAt, WideAt.IsKeyLit]
theorem data_eq_iff (a b : ByteArray) : a.data.toList = b.data.toList ↔ a = b := by
  constructor
  · intro h
    cases a; cases b
    simp at h
    rw [h]
  · intro h; rw [h]
theorem toList_eq_iff (a b : ByteArray) : a.toList = b.toList ↔ a = b := by
  rw [ByteArray.toList_eq, ByteArray.toList_eq]
  exact data_eq_iff a b
theorem dupIn_iff (t : T) (i : Nat) : ∀ k, dupIn t i k = true ↔ ∃ j, j < k ∧ nam t i = nam t j
  | 0 => by simp [dupIn]
  | k + 1 => by
    simp only [dupIn, Bool.or_eq_true, beq_iff_eq, toList_eq_iff, dupIn_iff t i k]
    constructor
    · rintro (⟨j, hj, h⟩ | h)
      · exact ⟨j, by omega, h⟩
      · exact ⟨k, by omega, h⟩
    · rintro ⟨j, hj, h⟩
      by_cases e : j = k
      · subst e; exact Or.inr h
      · exact Or.inl ⟨j, by omega, h⟩
theorem keys_fold (t : T) : ∀ k, ((keysTo t k).foldl addKey []).length ≤ k ∧ (((keysTo t k).foldl addKey []).length = k ↔ dupTo t k = false) ∧ ∀ x, ((keysTo t k).foldl addKey []).any (fun y => y.sameKey x) = true ↔ ∃ j, j < k ∧ (keyAt t j).sameKey x = true
  | 0 => by simp [keysTo, dupTo]
  | k + 1 => by
    obtain ⟨h1, h2, h3⟩ := keys_fold t k
    have hd : (((keysTo t k).foldl addKey []).any (fun y => y.sameKey (keyAt t k)) = true) ↔ dupIn t k k = true := by
      rw [h3, dupIn_iff]
      constructor
      · rintro ⟨j, hj, h⟩
        refine ⟨j, hj, ?_⟩
        have := (WideAt.sameKey_iff (isKey t k)).1 h
        simp only [keyAt, Lit.string.injEq] at this
        exact ((data_eq_iff _ _).1 this).symm
      · rintro ⟨j, hj, h⟩
        refine ⟨j, hj, (WideAt.sameKey_iff (isKey t k)).2 ?_⟩
        simp only [keyAt, h]
    rw [keysTo_succ, List.foldl_append]
    simp only [List.foldl_cons, List.foldl_nil]
    generalize List.foldl addKey [] (keysTo t k) = L at *
    unfold addKey
    by_cases h : (L.any fun y => y.sameKey (keyAt t k)) = true
    · rw [if_pos h]
      refine ⟨by omega, ⟨fun e => by omega, fun e => ?_⟩, fun x => ?_⟩
      · simp only [dupTo, hd.1 h, Bool.or_true] at e; cases e
      · rw [h3]
        constructor
        · rintro ⟨j, hj, hs⟩; exact ⟨j, by omega, hs⟩
        · rintro ⟨j, hj, hs⟩
          by_cases e : j = k
          · subst e
            obtain ⟨i, hi, hh⟩ := (h3 _).1 h
            refine ⟨i, hi, ?_⟩
            rw [(WideAt.sameKey_iff (isKey t j)).1 hh]; exact hs
          · exact ⟨j, by omega, hs⟩
    · rw [if_neg h]
      have hf : dupIn t k k = false := by
        cases hc : dupIn t k k with
        | false => rfl
        | true => exact absurd (hd.2 hc) h
      refine ⟨by simp; omega, ?_, fun x => ?_⟩
      · simp only [List.length_append, List.length_singleton, dupTo, hf, Bool.or_false]
        rw [← h2]; omega
      · rw [List.any_append, Bool.or_eq_true, h3]
        simp only [List.any_cons, List.any_nil, Bool.or_false]
        constructor
        · rintro (⟨j, hj, hs⟩ | hs)
          · exact ⟨j, by omega, hs⟩
          · exact ⟨k, by omega, hs⟩
        · rintro ⟨j, hj, hs⟩
          by_cases e : j = k
          · subst e; exact Or.inr hs
          · exact Or.inl ⟨j, by omega, hs⟩
theorem size_Sn (t : T) (k : Nat) : Maps.size (Sn t k) ≤ k ∧ (Maps.size (Sn t k) = k ↔ dupTo t k = false) := by
  have e : Maps.size (Sn t k) = ((keysTo t k).foldl addKey []).length := size_setOf _ _ (by
    intro x hx
    simp only [keysTo, List.mem_map] at hx
    obtain ⟨j, _, rfl⟩ := hx
    exact isKey t j)
  rw [e]
  exact ⟨(keys_fold t k).1, (keys_fold t k).2.1⟩

/-- All that was there is as it was, but for one block. -/
structure But (c : Nat) (w w' : World) : Prop where
  os : w'.os = w.os
  tape : w'.tape = w.tape
  output : w'.output = w.output
  size : w.heap.size ≤ w'.heap.size
  block : ∀ k, k < w.heap.size → k ≠ c → w'.heap[k]? = w.heap[k]?
theorem But.refl (c : Nat) (w : World) : But c w w := ⟨rfl, rfl, rfl, Nat.le_refl _, fun _ _ _ => rfl⟩
theorem But.trans {c : Nat} {a b d : World} (h : But c a b) (k : But c b d) : But c a d :=
  ⟨k.os.trans h.os, k.tape.trans h.tape, k.output.trans h.output, Nat.le_trans h.size k.size, fun i hi hc => (k.block i (Nat.lt_of_lt_of_le hi h.size) hc).trans (h.block i hi hc)⟩
theorem But.of {c : Nat} {a b : World} (h : Below a.heap.size a b) : But c a b := ⟨h.os, h.tape, h.output, h.size, fun k hk _ => h.block k hk⟩
theorem But.set (w : World) (c o : Nat) (u : Value) : But c w (w.setCell ⟨c, o, none⟩ u) :=
  ⟨rfl, rfl, rfl, by simp [World.setCell], fun k _ hc => Below.heap_setCell _ _ _ _ (by simpa using hc)⟩
theorem But.cell {c : Nat} {w w' : World} (h : But c w w') {p : Addr} (hp : p.block < w.heap.size) (hc : p.block ≠ c) : w'.cell? p = w.cell? p := World.cell?_of_block (w := w) (h.block p.block hp hc)
theorem But.below {c : Nat} {w w' : World} (h : But c w w') (hc : c ≤ w.heap.size) : Below c w w' :=
  ⟨h.os, h.tape, h.output, h.size, fun k hk => h.block k (by omega) (by omega)⟩

/-- What the checker leaves of so many bytes; none: it is no value. -/
def takeO (n l : Int) : Option Int := if n ≤ l then some (l - n) else none
def okS (s : ByteArray) : Bool := Lib.validD s.data.toList
def textO (s : ByteArray) (l : Int) : Option Int := if s.size ≤ 4000 ∧ (s.size : Int) ≤ l ∧ okS s = true then some (l - s.size) else none
def namesL (t : T) : Nat → Int → Option Int
  | 0, l => some l
  | k + 1, l => (namesL t k l).bind fun x => (takeO 2 x).bind (textO (nam t k))
def namesO (t : T) (l : Int) : Option Int := (namesL t (nK t) l).bind fun x => if dupTo t (nK t) = true then none else some x
def valuesL (f : T → Int → Option Int) (t : T) : Nat → Int → Option Int
  | 0, l => some l
  | k + 1, l => (valuesL f t k l).bind (f (elt t k))
def noLists (t : T) : Bool := decide (nL t = 0) && decide (nK t = 0)
def noText (t : T) : Bool := (sOf t).toList.isEmpty
def leafO (t : T) (l : Int) : Option Int :=
  if kindOf t = 1 then (if nOf t = 0 ∧ noText t = true ∧ noLists t = true then takeO 1 l else none)
  else if kindOf t = 2 then (if (nOf t = 0 ∨ nOf t = 1) ∧ noText t = true ∧ noLists t = true then takeO 2 l else none)
  else if kindOf t = 3 then (if noText t = true ∧ noLists t = true then takeO 9 l else none)
  else if kindOf t = 4 then (if nOf t = 0 ∧ noLists t = true then (takeO 5 l).bind (textO (sOf t)) else none)
  else none
def chkT : Nat → T → Int → Option Int
  | 0, t, l => leafO t l
  | m + 1, t, l =>
    if kindOf t = 5 then (if nOf t = 0 ∧ noText t = true ∧ nK t = 0 then (takeO 5 l).bind (valuesL (chkT m) t (nL t)) else none)
    else if kindOf t = 6 then (if nOf t = 0 ∧ noText t = true ∧ nK t = nL t then ((takeO 5 l).bind (namesO t)).bind (valuesL (chkT m) t (nL t)) else none)
    else leafO t l
theorem namesL_none {t : T} {l : Int} {j k : Nat} (h : j ≤ k) (hx : namesL t j l = none) : namesL t k l = none := by
  induction h with
  | refl => exact hx
  | step _ ih => simp [namesL, ih]
theorem valuesL_none {f : T → Int → Option Int} {t : T} {l : Int} {j k : Nat} (h : j ≤ k) (hx : valuesL f t j l = none) : valuesL f t k l = none := by
  induction h with
  | refl => exact hx
  | step _ ih => simp [valuesL, ih]

/-- The checker's cell holds so many bytes. -/
structure Holds (c : Nat) (l : Int) (w : World) : Prop where
  cell : w.cell? ⟨c, 0, none⟩ = some (.int .i64 l)
  free : w.frozen? ⟨c, 0, none⟩ = false
  lt : c < w.heap.size
/-- What a part of the checker leaves behind. -/
def ChkPost (c : Nat) (w : World) (r : Option Int) (e : Ending) (w' : World) : Prop :=
  But c w w' ∧ ∃ l', Holds c l' w' ∧ ((r = some l' ∧ 0 ≤ l' ∧ l' ≤ 1048576 ∧ e = .returned (.bool true)) ∨ (r = none ∧ e = .returned (.bool false)))
theorem Holds.set {c : Nat} {l : Int} {w : World} (h : Holds c l w) (x : Int) : Holds c x (w.setCell ⟨c, 0, none⟩ (.int .i64 x)) ∧ But c w (w.setCell ⟨c, 0, none⟩ (.int .i64 x)) := by
  refine ⟨⟨?_, ?_, by simp [World.setCell]; exact h.lt⟩, But.set _ _ _ _⟩
  · have := h.cell
    simp [go_sem, this]
  · have := h.free
    simp [go_sem, this]
theorem Holds.keep {c : Nat} {l : Int} {w w' : World} (h : Holds c l w) (hb : Below w.heap.size w w') : Holds c l w' :=
  ⟨by rw [hb.cell (p := ⟨c, 0, none⟩) h.lt]; exact h.cell, by rw [hb.frozen (p := ⟨c, 0, none⟩) h.lt]; exact h.free, Nat.lt_of_lt_of_le h.lt hb.size⟩
/-- An element's cells in a later world, what it reads as in the first. -/
theorem ElemsAt.later {w w' : World} (h : Below w.heap.size w w') {f : Nat} {La : Option Addr} {t : T} (hl : ElemsAt w f La t) (i : Nat) (hi : i < nL t) :
    ∃ b o c0 c1 c2 c3 c4, La = some ⟨b, o, none⟩ ∧ b < w.heap.size ∧ w'.cell? ⟨b, o + i * 5, none⟩ = some c0 ∧ w'.cell? ⟨b, o + i * 5 + 1, none⟩ = some c1 ∧ w'.cell? ⟨b, o + i * 5 + 2, none⟩ = some c2 ∧ w'.cell? ⟨b, o + i * 5 + 3, none⟩ = some c3 ∧ w'.cell? ⟨b, o + i * 5 + 4, none⟩ = some c4 ∧ Hid (At w f (.agg #[c0, c1, c2, c3, c4]) (elt t i)) := by
  obtain ⟨b, o, c0, c1, c2, c3, c4, h0, hb, q0, q1, q2, q3, q4, ha⟩ := hl i hi
  refine ⟨b, o, c0, c1, c2, c3, c4, h0, hb, ?_, ?_, ?_, ?_, ?_, ha⟩
  · rw [h.cell (p := ⟨b, _, none⟩) hb]; exact q0
  · rw [h.cell (p := ⟨b, _, none⟩) hb]; exact q1
  · rw [h.cell (p := ⟨b, _, none⟩) hb]; exact q2
  · rw [h.cell (p := ⟨b, _, none⟩) hb]; exact q3
  · rw [h.cell (p := ⟨b, _, none⟩) hb]; exact q4
/-- The same, with each cell's own shape. -/
theorem ElemsAt.shape {w w' : World} (h : Below w.heap.size w w') {f : Nat} {La : Option Addr} {t : T} (hl : ElemsAt w f La t) (i : Nat) (hi : i < nL t) :
    ∃ b o A B C D, La = some ⟨b, o, none⟩ ∧ b < w.heap.size ∧ w'.cell? ⟨b, o + i * 5, none⟩ = some (.int .i64 (kindOf (elt t i))) ∧ w'.cell? ⟨b, o + i * 5 + 1, none⟩ = some (.int .i64 (nOf (elt t i))) ∧ w'.cell? ⟨b, o + i * 5 + 2, none⟩ = some (.string (sOf (elt t i))) ∧ w'.cell? ⟨b, o + i * 5 + 3, none⟩ = some (.slice A (nL (elt t i)) B) ∧ w'.cell? ⟨b, o + i * 5 + 4, none⟩ = some (.slice C (nK (elt t i)) D) ∧
      Hid (At w f (.agg #[.int .i64 (kindOf (elt t i)), .int .i64 (nOf (elt t i)), .string (sOf (elt t i)), .slice A (nL (elt t i)) B, .slice C (nK (elt t i)) D]) (elt t i)) := by
  obtain ⟨b, o, c0, c1, c2, c3, c4, h0, hb, q0, q1, q2, q3, q4, ha⟩ := hl.later h i hi
  obtain ⟨g, A, C, B, D, _, hv, _⟩ := ha.out.open
  simp only [Value.agg.injEq, Array.mk.injEq, List.cons.injEq, and_true] at hv
  obtain ⟨rfl, rfl, rfl, rfl, rfl⟩ := hv
  exact ⟨b, o, A, B, C, D, h0, hb, q0, q1, q2, q3, q4, ha⟩
/-- The box of a struct that was handed in, behind what writes into one other block. -/
theorem box_but {c : Nat} {w wr : World} {c0 c1 c2 c3 c4 : Value} (hc : c < w.heap.size) (hb : But c (w.alloc (.cells #[c0, c1, c2, c3, c4] 26)) wr) :
    wr.cell? ⟨w.heap.size, 0, none⟩ = some c0 ∧ wr.cell? ⟨w.heap.size, 1, none⟩ = some c1 ∧ wr.cell? ⟨w.heap.size, 2, none⟩ = some c2 ∧ wr.cell? ⟨w.heap.size, 3, none⟩ = some c3 ∧ wr.cell? ⟨w.heap.size, 4, none⟩ = some c4 ∧ w.heap.size < wr.heap.size := by
  have hz := hb.size
  refine ⟨?_, ?_, ?_, ?_, ?_, by simp at hz; omega⟩
  · rw [hb.cell (p := ⟨_, _, none⟩) (by simp) (by show w.heap.size ≠ c; omega)]; simp [go_sem]
  · rw [hb.cell (p := ⟨_, _, none⟩) (by simp) (by show w.heap.size ≠ c; omega)]; simp [go_sem]
  · rw [hb.cell (p := ⟨_, _, none⟩) (by simp) (by show w.heap.size ≠ c; omega)]; simp [go_sem]
  · rw [hb.cell (p := ⟨_, _, none⟩) (by simp) (by show w.heap.size ≠ c; omega)]; simp [go_sem]
  · rw [hb.cell (p := ⟨_, _, none⟩) (by simp) (by show w.heap.size ≠ c; omega)]; simp [go_sem]
/-- Is it a value, by the reference, but for how deep it is. -/
def namesF (t : T) : Nat → Bool
  | 0 => true
  | k + 1 => namesF t k && (okS (nam t k) && decide ((nam t k).size ≤ 4000))
theorem namesF_false {t : T} {j k : Nat} (h : j ≤ k) (hc : namesF t j = false) : namesF t k = false := by
  induction h with
  | refl => exact hc
  | step _ ih => simp [namesF, ih]
def headF (t : T) : Bool := (decide (kindOf t = 2 ∨ kindOf t = 3 ∨ nOf t = 0) && decide (kindOf t = 4 ∨ noText t = true)) && (decide (kindOf t = 6 ∨ nK t = 0) && decide (kindOf t = 6 ∨ kindOf t = 5 ∨ nL t = 0))
def kindF (t : T) : Bool := if kindOf t = 1 ∨ kindOf t = 3 ∨ kindOf t = 5 then true else if kindOf t = 2 then decide (nOf t = 0 ∨ nOf t = 1) else if kindOf t = 4 then okS (sOf t) && decide ((sOf t).size ≤ 4000) else if kindOf t = 6 then decide (nK t = nL t) && namesF t (nK t) else false
def formT : Nat → T → Bool
  | 0, _ => true
  | m + 1, t => (headF t && kindF t) && allL (formT m) t (nL t)
theorem formT_head {m : Nat} {t : T} (h : headF t = false) : formT (m + 1) t = false := by simp [formT, h]
theorem formT_kind {m : Nat} {t : T} (h : kindF t = false) : formT (m + 1) t = false := by simp [formT, h]
end Go.Proofs.YtknakfpciccoaaaDoor
