/- Values as trees, and what it means that one lies in memory. -/
import Derived.WalkKit
import Derived.Deep.Slices
namespace Go.Proofs.YtknakfpciccoaaaDoor
open Go.RowKit

theorem hid {p : Prop} (h : p) : Hid p := h
/-- A value of the program's, as data. -/
abbrev T := DataW Unit
def strOf : T → ByteArray
  | .lit (.string s) => ⟨s.toArray⟩
  | _ => ByteArray.empty
def kindOf : T → Int
  | .agg [.lit (.int _ k), _, _, _, _] => k
  | _ => 0
def nOf : T → Int
  | .agg [_, .lit (.int _ k), _, _, _] => k
  | _ => 0
def sOf : T → ByteArray
  | .agg [_, _, s, _, _] => strOf s
  | _ => ByteArray.empty
def lOf : T → List T
  | .agg [_, _, _, .slice l _, _] => l
  | _ => []
def kOf : T → List ByteArray
  | .agg [_, _, _, _, .slice l _] => l.map strOf
  | _ => []
def mkT (k n : Int) (s : ByteArray) (l : List T) (ks : List ByteArray) : T :=
  .agg [.lit (.int .i64 k), .lit (.int .i64 n), .lit (.string s.data.toList), .slice l [], .slice (ks.map fun s => .lit (.string s.data.toList)) []]
theorem strOf_lit (s : ByteArray) : strOf (.lit (.string s.data.toList)) = s := rfl
theorem kindOf_mk (k n : Int) (s : ByteArray) (l : List T) (ks : List ByteArray) : kindOf (mkT k n s l ks) = k := rfl
theorem nOf_mk (k n : Int) (s : ByteArray) (l : List T) (ks : List ByteArray) : nOf (mkT k n s l ks) = n := rfl
theorem sOf_mk (k n : Int) (s : ByteArray) (l : List T) (ks : List ByteArray) : sOf (mkT k n s l ks) = s := rfl
theorem lOf_mk (k n : Int) (s : ByteArray) (l : List T) (ks : List ByteArray) : lOf (mkT k n s l ks) = l := rfl
theorem kOf_mk (k n : Int) (s : ByteArray) (l : List T) (ks : List ByteArray) : kOf (mkT k n s l ks) = ks := by
  simp only [kOf, mkT, List.map_map]
  conv => rhs; rw [← List.map_id ks]
  exact List.map_congr_left fun x _ => rfl

def elt (t : T) (i : Nat) : T := (lOf t).getD i .nil
def nam (t : T) (i : Nat) : ByteArray := (kOf t).getD i ByteArray.empty
def nL (t : T) : Nat := (lOf t).length
def nK (t : T) : Nat := (kOf t).length

/-- The sizes that the form's own reach gives. -/
structure Fits (t : T) : Prop where
  k0 : -9223372036854775808 ≤ kindOf t
  k1 : kindOf t ≤ 9223372036854775807
  n0 : -9223372036854775808 ≤ nOf t
  n1 : nOf t ≤ 9223372036854775807
  s1 : (sOf t).size ≤ 140737488355328
  l1 : nL t ≤ 1759218604442
  m1 : nK t ≤ 8796093022208

/-- What a list of values holds, element by element, in a world. -/
def NamesAt (w : World) (Ka : Option Addr) (t : T) : Prop :=
  ∀ i, i < nK t → ∃ b o, Ka = some ⟨b, o, none⟩ ∧ b < w.heap.size ∧ (nam t i).size ≤ 140737488355328 ∧ w.cell? ⟨b, o + i, none⟩ = some (.string (nam t i))

/-- The value v reads as t in w, up to a depth. -/
def At (w : World) : Nat → Value → T → Prop
  | 0, _, _ => False
  | f + 1, v, t => ∃ (La Ka : Option Addr) (Lc Kc : Nat),
      v = .agg #[.int .i64 (kindOf t), .int .i64 (nOf t), .string (sOf t), .slice La (nL t) Lc, .slice Ka (nK t) Kc] ∧ Fits t ∧
      (∀ i, i < nL t → ∃ b o c0 c1 c2 c3 c4, La = some ⟨b, o, none⟩ ∧ b < w.heap.size ∧ w.cell? ⟨b, o + i * 5, none⟩ = some c0 ∧ w.cell? ⟨b, o + i * 5 + 1, none⟩ = some c1 ∧ w.cell? ⟨b, o + i * 5 + 2, none⟩ = some c2 ∧ w.cell? ⟨b, o + i * 5 + 3, none⟩ = some c3 ∧ w.cell? ⟨b, o + i * 5 + 4, none⟩ = some c4 ∧ At w f (.agg #[c0, c1, c2, c3, c4]) (elt t i)) ∧
      NamesAt w Ka t
def ElemsAt (w : World) (f : Nat) (La : Option Addr) (t : T) : Prop :=
  ∀ i, i < nL t → ∃ b o c0 c1 c2 c3 c4, La = some ⟨b, o, none⟩ ∧ b < w.heap.size ∧ w.cell? ⟨b, o + i * 5, none⟩ = some c0 ∧ w.cell? ⟨b, o + i * 5 + 1, none⟩ = some c1 ∧ w.cell? ⟨b, o + i * 5 + 2, none⟩ = some c2 ∧ w.cell? ⟨b, o + i * 5 + 3, none⟩ = some c3 ∧ w.cell? ⟨b, o + i * 5 + 4, none⟩ = some c4 ∧ Hid (At w f (.agg #[c0, c1, c2, c3, c4]) (elt t i))

theorem NamesAt.keep {w w' : World} (h : Below w.heap.size w w') {Ka : Option Addr} {t : T} (hk : NamesAt w Ka t) : NamesAt w' Ka t := by
  intro i hi
  obtain ⟨b, o, h0, hb, hs, q⟩ := hk i hi
  exact ⟨b, o, h0, Nat.lt_of_lt_of_le hb h.size, hs, by rw [h.cell (p := ⟨b, _, none⟩) hb]; exact q⟩
theorem At.keep {w w' : World} (h : Below w.heap.size w w') : ∀ {f : Nat} {v : Value} {t : T}, At w f v t → At w' f v t := by
  intro f
  induction f with
  | zero => intro v t h; exact h
  | succ f ih =>
    rintro v t ⟨La, Ka, Lc, Kc, rfl, hf, hl, hk⟩
    refine ⟨La, Ka, Lc, Kc, rfl, hf, fun i hi => ?_, hk.keep h⟩
    obtain ⟨b, o, c0, c1, c2, c3, c4, h0, hb, q0, q1, q2, q3, q4, ha⟩ := hl i hi
    refine ⟨b, o, c0, c1, c2, c3, c4, h0, Nat.lt_of_lt_of_le hb h.size, ?_, ?_, ?_, ?_, ?_, ih ha⟩
    · rw [h.cell (p := ⟨b, _, none⟩) hb]; exact q0
    · rw [h.cell (p := ⟨b, _, none⟩) hb]; exact q1
    · rw [h.cell (p := ⟨b, _, none⟩) hb]; exact q2
    · rw [h.cell (p := ⟨b, _, none⟩) hb]; exact q3
    · rw [h.cell (p := ⟨b, _, none⟩) hb]; exact q4
theorem ElemsAt.keep {w w' : World} (h : Below w.heap.size w w') {f : Nat} {La : Option Addr} {t : T} (hl : ElemsAt w f La t) : ElemsAt w' f La t := by
  intro i hi
  obtain ⟨b, o, c0, c1, c2, c3, c4, h0, hb, q0, q1, q2, q3, q4, ha⟩ := hl i hi
  refine ⟨b, o, c0, c1, c2, c3, c4, h0, Nat.lt_of_lt_of_le hb h.size, ?_, ?_, ?_, ?_, ?_, At.keep h ha⟩
  · rw [h.cell (p := ⟨b, _, none⟩) hb]; exact q0
  · rw [h.cell (p := ⟨b, _, none⟩) hb]; exact q1
  · rw [h.cell (p := ⟨b, _, none⟩) hb]; exact q2
  · rw [h.cell (p := ⟨b, _, none⟩) hb]; exact q3
  · rw [h.cell (p := ⟨b, _, none⟩) hb]; exact q4
theorem At.open {w : World} {f : Nat} {v : Value} {t : T} (h : At w f v t) : ∃ (g : Nat) (La Ka : Option Addr) (Lc Kc : Nat), f = g + 1 ∧
      v = .agg #[.int .i64 (kindOf t), .int .i64 (nOf t), .string (sOf t), .slice La (nL t) Lc, .slice Ka (nK t) Kc] ∧ Fits t ∧ Hid (ElemsAt w g La t) ∧ Hid (NamesAt w Ka t) := by
  cases f with
  | zero => exact h.elim
  | succ f =>
    obtain ⟨La, Ka, Lc, Kc, rfl, hf, hl, hk⟩ := h
    exact ⟨f, La, Ka, Lc, Kc, rfl, rfl, hf, hl, hk⟩
/-- The box of a struct that was handed in, in a later world. -/
theorem box_facts {w wr : World} {c0 c1 c2 c3 c4 : Value} (hb : Below (w.heap.size + 1) (w.alloc (.cells #[c0, c1, c2, c3, c4] 26)) wr) :
    wr.cell? ⟨w.heap.size, 0, none⟩ = some c0 ∧ wr.cell? ⟨w.heap.size, 1, none⟩ = some c1 ∧ wr.cell? ⟨w.heap.size, 2, none⟩ = some c2 ∧ wr.cell? ⟨w.heap.size, 3, none⟩ = some c3 ∧ wr.cell? ⟨w.heap.size, 4, none⟩ = some c4 ∧ w.heap.size < wr.heap.size ∧ Below w.heap.size w wr := by
  have hz := hb.size
  refine ⟨?_, ?_, ?_, ?_, ?_, by simp at hz; omega, ((Below.refl _ _).alloc (Nat.le_refl _) _).trans (hb.mono (by omega))⟩
  · rw [hb.cell (p := ⟨_, _, none⟩) (by simp)]; simp [go_sem]
  · rw [hb.cell (p := ⟨_, _, none⟩) (by simp)]; simp [go_sem]
  · rw [hb.cell (p := ⟨_, _, none⟩) (by simp)]; simp [go_sem]
  · rw [hb.cell (p := ⟨_, _, none⟩) (by simp)]; simp [go_sem]
  · rw [hb.cell (p := ⟨_, _, none⟩) (by simp)]; simp [go_sem]
theorem ret_int {k : IntKind} {a b : Int} (h : a = b) : Ending.returned (.int k a) = .returned (.int k b) := by rw [h]
theorem ret_bool {a b : Bool} (h : a = b) : Ending.returned (.bool a) = .returned (.bool b) := by rw [h]

/-- How deep, so deep at most. -/
def deepL (f : T → Nat) (t : T) : Nat → Nat
  | 0 => 0
  | k + 1 => max (deepL f t k) (f (elt t k))
def isBox (t : T) : Bool := kindOf t == 5 || kindOf t == 6
def deepT : Nat → T → Nat
  | 0, _ => 0
  | m + 1, t => if isBox t then deepL (deepT m) t (nL t) + 1 else 0
theorem deepL_le {f : T → Nat} {m : Nat} (h : ∀ t, f t ≤ m) (t : T) (k : Nat) : deepL f t k ≤ m := by
  induction k with
  | zero => exact Nat.zero_le _
  | succ k ih => have := h (elt t k); simp only [deepL]; omega
theorem deepT_le : ∀ (m : Nat) (t : T), deepT m t ≤ m := by
  intro m
  induction m with
  | zero => intro t; exact Nat.le_refl _
  | succ m ih => intro t; have := deepL_le ih t (nL t); unfold deepT; split <;> omega

/-- Two numbers, two texts: which is the greater one. -/
def cmpI (a b : Int) : Int := if a < b then -1 else if b < a then 1 else 0
theorem cmpI_lt {a b : Int} (h : a < b) : cmpI a b = -1 := by unfold cmpI; rw [if_pos h]
theorem cmpI_gt {a b : Int} (h : b < a) : cmpI a b = 1 := by unfold cmpI; rw [if_neg (by omega), if_pos h]
theorem cmpI_eq {a b : Int} (h1 : b ≤ a) (h2 : a ≤ b) : cmpI a b = 0 := by unfold cmpI; rw [if_neg (by omega), if_neg (by omega)]
def cmpS (a b : ByteArray) : Int := if Op.bytesLess a.toList b.toList = true then -1 else if (!Op.bytesLess a.toList b.toList && !(a.toList == b.toList)) = true then 1 else 0
theorem cmpI_bd (a b : Int) : -1 ≤ cmpI a b ∧ cmpI a b ≤ 1 := by unfold cmpI; split <;> (try split) <;> omega
theorem cmpS_bd (a b : ByteArray) : -1 ≤ cmpS a b ∧ cmpS a b ≤ 1 := by unfold cmpS; split <;> (try split) <;> omega

theorem cmpS_lt {a b : ByteArray} (h : Op.bytesLess a.toList b.toList = true) : cmpS a b = -1 := by unfold cmpS; rw [if_pos h]
theorem cmpS_gt {a b : ByteArray} (h : Op.bytesLess a.toList b.toList = false) (h2 : (!a.toList == b.toList) = true) : cmpS a b = 1 := by
  unfold cmpS; rw [if_neg (by simp [h]), if_pos (by simp [h]; simpa using h2)]
theorem cmpS_eq {a b : ByteArray} (h : Op.bytesLess a.toList b.toList = false) (h2 : (!a.toList == b.toList) = false) : cmpS a b = 0 := by
  unfold cmpS; rw [if_neg (by simp [h]), if_neg (by simp [h]; simpa using h2)]

/-- Of all elements, of one of them. -/
def anyL (f : T → Bool) (t : T) : Nat → Bool
  | 0 => false
  | k + 1 => anyL f t k || f (elt t k)
def allL (f : T → Bool) (t : T) : Nat → Bool
  | 0 => true
  | k + 1 => allL f t k && f (elt t k)
/-- A name twice. -/
def dupIn (t : T) (i : Nat) : Nat → Bool
  | 0 => false
  | k + 1 => dupIn t i k || ((nam t i).toList == (nam t k).toList)
def dupTo (t : T) : Nat → Bool
  | 0 => false
  | i + 1 => dupTo t i || dupIn t i i
def twiceT : Nat → T → Bool
  | 0, _ => false
  | f + 1, t => dupTo t (nK t) || anyL (twiceT f) t (nL t)
theorem dupIn_mono (t : T) (i : Nat) {j k : Nat} (h : j ≤ k) (hd : dupIn t i j = true) : dupIn t i k = true := by
  induction h with
  | refl => exact hd
  | step _ ih => simp [dupIn, ih]
theorem dupTo_mono (t : T) {j k : Nat} (h : j ≤ k) (hd : dupTo t j = true) : dupTo t k = true := by
  induction h with
  | refl => exact hd
  | step _ ih => simp [dupTo, ih]
theorem anyL_mono (f : T → Bool) (t : T) {j k : Nat} (h : j ≤ k) (hd : anyL f t j = true) : anyL f t k = true := by
  induction h with
  | refl => exact hd
  | step _ ih => simp [anyL, ih]
theorem anyL_at {f : T → Bool} {t : T} {j k : Nat} (h : j < k) (hd : f (elt t j) = true) : anyL f t k = true :=
  anyL_mono f t h (by simp [anyL, hd])
theorem allL_mono (f : T → Bool) (t : T) {j k : Nat} (h : j ≤ k) (hd : allL f t j = false) : allL f t k = false := by
  induction h with
  | refl => exact hd
  | step _ ih => simp [allL, ih]
theorem allL_at {f : T → Bool} {t : T} {j k : Nat} (h : j < k) (hd : f (elt t j) = false) : allL f t k = false :=
  allL_mono f t h (by simp [allL, hd])
theorem dup_found {t : T} {k j n : Nat} (hk : k < n) (hj : j < k) (h : ((nam t k).toList == (nam t j).toList) = true) : dupTo t n = true := by
  refine dupTo_mono t hk ?_
  simp only [dupTo, Bool.or_eq_true]
  exact Or.inr (dupIn_mono t k hj (by simp [dupIn, h]))

/-- Places of lists. -/
def cellsL (f : T → Int → Int) (t : T) : Nat → Int → Int
  | 0, l => l
  | k + 1, l => if 0 ≤ cellsL f t k l then f (elt t k) (cellsL f t k l) else cellsL f t k l
def cellsT : Nat → T → Int → Int
  | 0, t, l => l - nL t - nK t
  | m + 1, t, l => cellsL (cellsT m) t (nL t) (l - nL t - nK t)
theorem cellsL_stop {f : T → Int → Int} {t : T} {l : Int} {j k : Nat} (h : j ≤ k) (hx : cellsL f t j l < 0) : cellsL f t k l = cellsL f t j l := by
  induction h with
  | refl => rfl
  | step _ ih => simp only [cellsL]; rw [ih, if_neg (by omega)]
/-- Bytes that are left; one more than the depth that may be. -/
def nameCost (t : T) (k : Nat) : Int := if kindOf t = 6 ∧ k < nK t then 2 + ((nam t k).size : Int) else 0
def roomL (f : T → Int → Int) (t : T) : Nat → Int → Int
  | 0, l => l
  | k + 1, l => if 0 ≤ roomL f t k l then f (elt t k) (roomL f t k l - nameCost t k) else roomL f t k l
theorem roomL_stop {f : T → Int → Int} {t : T} {l : Int} {j k : Nat} (h : j ≤ k) (hx : roomL f t j l < 0) : roomL f t k l = roomL f t j l := by
  induction h with
  | refl => rfl
  | step _ ih => simp only [roomL]; rw [ih, if_neg (by omega)]
def roomT : Nat → T → Int → Int
  | 0, _, _ => -1
  | m + 1, t, l => if kindOf t = 2 then l - 2 else if kindOf t = 3 then l - 9 else if kindOf t = 4 then l - 5 - (sOf t).size else if isBox t then roomL (roomT m) t (nL t) (l - 5) else l - 1

end Go.Proofs.YtknakfpciccoaaaDoor
