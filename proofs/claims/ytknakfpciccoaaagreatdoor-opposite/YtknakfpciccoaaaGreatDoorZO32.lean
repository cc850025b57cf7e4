import Derived.Test.YtknakfpciccoaaaGreatDoorZO31
import Derived.Test.YtknakfpciccoaaaGreatDoorZO26
import Derived.Test.YtknakfpciccoaaaGreatDoorZO3
import Derived.Test.YtknakfpciccoaaaGreatDoorZO2
import Derived.Test.YtknakfpciccoaaaGreatDoorZO4
import Derived.Test.YtknakfpciccoaaaGreatDoorZO15
/- The store as a whole: what each block is for. -/
namespace Go.Proofs.YtknakfpciccoaaaGreatDoor
open Go.RowKit Go.Maps Go.WideMaps

theorem StoAt.move {w w' : World} {p m n : Nat} {D : DataW Unit} (h : StoAt w p m n D) (hs : w.heap.size ≤ w'.heap.size) (hp : w'.heap[p]? = w.heap[p]?) (hm : w'.heap[m]? = w.heap[m]?) : StoAt w' p m n D := by
  obtain ⟨es, clock, h1, F, h2, h3⟩ := h.own
  exact ⟨(cell_of hp 0).trans h.cell, Nat.lt_of_lt_of_le h.low hs, es, clock, hm.trans h1, F, h2, h3⟩
/-- A collection: L tells what each block is for: 1 values, 2 the store, 3 its map, 4 collections, 5 and more their rows. -/
structure ColI (L : Nat → Nat) (w : World) (c : Nat) (l : List T) (v : Value) (xs : List Value) : Prop where
  lab : L c = 4
  cell : w.cell? ⟨c, 0, none⟩ = some v
  free : w.frozen? ⟨c, 0, none⟩ = false
  row : w.ownsRow 0 25 5 v l.length xs
  rowl : ∀ b, v.ownBlock = some b → L b = 5 + c
  at_ : ∀ i, (h : i < l.length) → AtP (fun b => L b = 1) w 13 (fv xs i) l[i]
  doc : ∀ i, (h : i < l.length) → Doc l[i]
theorem ColI.move {L L' : Nat → Nat} {w w' : World} {c : Nat} {l : List T} {v : Value} {xs : List Value} (h : ColI L w c l v xs) (hs : w.heap.size ≤ w'.heap.size) (hl : ∀ b, L b = 4 ∧ b = c ∨ L b = 5 + c ∨ L b = 1 → L' b = L b ∧ w'.heap[b]? = w.heap[b]?) : ColI L' w' c l v xs := by
  obtain ⟨c1, c2⟩ := hl c (.inl ⟨h.lab, rfl⟩)
  refine ⟨c1.trans h.lab, (cell_of c2 0).trans h.cell, (World.frozen?_of_block (a := ⟨c, 0, none⟩) c2).trans h.free, own_move h.row fun b e => (hl b (.inr (.inl (h.rowl b e)))).2, fun b e => (hl b (.inr (.inl (h.rowl b e)))).1.trans (h.rowl b e), fun i hi => (h.at_ i hi).move hs fun b _ hp => ?_, h.doc⟩
  obtain ⟨k1, k2⟩ := hl b (.inr (.inr hp))
  exact ⟨k1.trans hp, k2⟩
structure StI (L : Nat → Nat) (w : World) (p m n : Nat) (D : DataW Unit) (lf : Nat → List T) (vf : Nat → Value) (xf : Nat → List Value) : Prop where
  sto : StoAt w p m n D
  lp : L p = 2
  lm : L m = 3
  low : ∀ b, L b ≠ 0 → b < w.heap.size
  col : ∀ x c, atK D x = .lit (.int .i64 (c : Nat)) → ColI L w c (lf c) (vf c) (xf c)
theorem StI.keep {L : Nat → Nat} {w w' : World} {p m n : Nat} {D : DataW Unit} {lf : Nat → List T} {vf : Nat → Value} {xf : Nat → List Value} (h : StI L w p m n D lf vf xf) (hb : Below w.heap.size w w') : StI L w' p m n D lf vf xf :=
  ⟨h.sto.keep hb, h.lp, h.lm, fun b hl => Nat.lt_of_lt_of_le (h.low b hl) hb.size, fun x c hx => (h.col x c hx).move hb.size fun b hl => ⟨rfl, hb.block b (h.low b (by omega))⟩⟩
theorem StI.toCol {L : Nat → Nat} {w : World} {p m n : Nat} {D : DataW Unit} {lf : Nat → List T} {vf : Nat → Value} {xf : Nat → List Value} (h : StI L w p m n D lf vf xf) {x : ByteArray} {c : Nat} (hx : atK D x = .lit (.int .i64 (c : Nat))) : Col w c 13 (lf c) (vf c) (xf c) := by
  have hc := h.col x c hx
  refine ⟨hc.cell, hc.free, h.low c (by rw [hc.lab]; omega), hc.row, fun e => ?_, fun i hi => (hc.at_ i hi).at⟩
  have h1 := hc.rowl c e
  have h2 := hc.lab
  omega
/-- What a collection finds. -/
theorem StI.coll {L : Nat → Nat} {w : World} {p m n : Nat} {D : DataW Unit} {lf : Nat → List T} {vf : Nat → Value} {xf : Nat → List Value} (h : StI L w p m n D lf vf xf) {x : ByteArray} {c : Nat} (hx : atK D x = .lit (.int .i64 (c : Nat))) : CollAt w c 13 (mkT 5 0 ByteArray.empty (lf c) []) := by
  have hc := h.toCol hx
  obtain ⟨La, Lc, hv, he⟩ := hc.elems
  exact ⟨La, Lc, by rw [nL_mk, hc.cell, hv], hc.low, he⟩
theorem fv_left {xs ys : List Value} {i n : Nat} (hx : xs.length = n * 5) (hi : i < n) : fv (xs ++ ys) i = fv xs i := by
  unfold fv
  rw [cx_left (by omega), cx_left (by omega), cx_left (by omega), cx_left (by omega), cx_left (by omega)]
theorem fv_right {xs : List Value} {c0 c1 c2 c3 c4 : Value} {n : Nat} (hx : xs.length = n * 5) : fv (xs ++ [c0, c1, c2, c3, c4]) n = .agg #[c0, c1, c2, c3, c4] := by
  unfold fv
  rw [← hx, show xs.length = xs.length + 0 from rfl, cx_right, Nat.add_assoc, cx_right, Nat.add_assoc, cx_right, Nat.add_assoc, cx_right, Nat.add_assoc, cx_right]
  rfl
def upd {α : Type} (f : Nat → α) (c : Nat) (a : α) (b : Nat) : α := if b = c then a else f b
theorem upd_same {α : Type} (f : Nat → α) (c : Nat) (a : α) : upd f c a c = a := by simp [upd]
theorem upd_other {α : Type} (f : Nat → α) {c b : Nat} (a : α) (h : b ≠ c) : upd f c a b = f b := by simp [upd, h]
/-- A document is laid into a collection. -/
theorem StI.ins {L : Nat → Nat} {w w1 w' : World} {p m n : Nat} {D : DataW Unit} {lf : Nat → List T} {vf : Nat → Value} {xf : Nat → List Value} (h : StI L w p m n D lf vf xf) {x : ByteArray} {c : Nat} (hx : atK D x = .lit (.int .i64 (c : Nat))) (hb : Below w.heap.size w w1) {t : T} {c0 c1 c2 c3 c4 : Value} (ha : AtP (newB w w1) w1 13 (.agg #[c0, c1, c2, c3, c4]) t) (hd : Doc t)
    (hB : But2 c (vf c).ownBlock w1 w') {g cap : Nat} (q0 : w'.cell? ⟨c, 0, none⟩ = some (.slice (some ⟨g, 0, none⟩) ((lf c).length + 1) cap)) (f0 : w'.frozen? ⟨c, 0, none⟩ = false) (hg : (vf c).ownBlock = some g ∨ w1.heap.size ≤ g) (hO : w'.ownsRow 0 25 5 (.slice (some ⟨g, 0, none⟩) ((lf c).length + 1) cap) ((lf c).length + 1) (xf c ++ [c0, c1, c2, c3, c4])) :
    ∃ L', (∀ b, L' b ≠ 0 → L b ≠ 0 ∨ w.heap.size ≤ b) ∧ StI L' w' p m n D (upd lf c (lf c ++ [t])) (upd vf c (.slice (some ⟨g, 0, none⟩) ((lf c).length + 1) cap)) (upd xf c (xf c ++ [c0, c1, c2, c3, c4])) := by
  have hc := h.col x c hx
  have hgl : g < w'.heap.size := (hO.lt g rfl).2
  have hcl : c < w.heap.size := h.low c (by rw [hc.lab]; omega)
  have s1 := hb.size
  have s2 := hB.size
  have hgw : (vf c).ownBlock = some g → g < w.heap.size ∧ L g = 5 + c := fun e => ⟨h.low g (by rw [hc.rowl g e]; omega), hc.rowl g e⟩
  have old : ∀ b, L b ≠ 0 → L b ≠ 5 + c → b ≠ c → w'.heap[b]? = w.heap[b]? := fun b h0 h1 h2 => (hB.block b (by have := h.low b h0; omega) h2 (fun e => h1 (hc.rowl b e.symm))).trans (hb.block b (h.low b h0))
  refine ⟨fun b => if b < w.heap.size then L b else if b < w1.heap.size then 1 else if b = g then 5 + c else 0, ?_, ?_, ?_, ?_, ?_, ?_⟩
  · intro b hb0
    by_cases e : b < w.heap.size
    · simp only [if_pos e] at hb0
      exact .inl hb0
    · exact .inr (by omega)
  · exact h.sto.move (by omega) (old p (by rw [h.lp]; omega) (by rw [h.lp]; omega) (fun e => by have := h.lp; have := hc.lab; subst e; omega)) (old m (by rw [h.lm]; omega) (by rw [h.lm]; omega) (fun e => by have := h.lm; have := hc.lab; subst e; omega))
  · show (if p < w.heap.size then L p else _) = 2
    rw [if_pos (h.low p (by rw [h.lp]; omega))]; exact h.lp
  · show (if m < w.heap.size then L m else _) = 3
    rw [if_pos (h.low m (by rw [h.lm]; omega))]; exact h.lm
  · intro b hb0
    split at hb0
    · omega
    · split at hb0
      · omega
      · split at hb0
        · omega
        · exact absurd rfl hb0
  · intro y c' hy
    by_cases e : c' = c
    · subst e
      rw [upd_same, upd_same, upd_same]
      refine ⟨by rw [if_pos hcl]; exact hc.lab, q0, f0, by rw [List.length_append]; exact hO, fun b e => ?_, fun i hi => ?_, fun i hi => ?_⟩
      · have eg : b = g := by simpa [Value.ownBlock] using e.symm
        subst eg
        show (if b < w.heap.size then L b else _) = _
        rcases hg with h1 | h1
        · rw [if_pos (hgw h1).1]; exact (hgw h1).2
        · rw [if_neg (by omega), if_neg (by omega), if_pos rfl]
      · have hxl : (xf c').length = (lf c').length * 5 := hc.row.1
        rw [List.length_append, List.length_cons, List.length_nil] at hi
        by_cases e : i < (lf c').length
        · rw [fv_left hxl e, List.getElem_append_left e]
          refine (hc.at_ i e).move (by omega) fun b hbl hp => ⟨?_, old b (by omega) (by omega) (fun e2 => by have := hc.lab; subst e2; omega)⟩
          show (if b < w.heap.size then L b else _) = 1
          rw [if_pos hbl]; exact hp
        · obtain rfl : i = (lf c').length := by omega
          rw [fv_right hxl, List.getElem_append_right (by omega)]
          simp only [Nat.sub_self, List.getElem_cons_zero]
          refine ha.move s2 fun b hbl hp => ⟨?_, hB.block b hbl (fun e2 => by have := hp.1; omega) (fun e2 => by have := h.low b (by rw [hc.rowl b e2.symm]; omega); have := hp.1; omega)⟩
          show (if b < w.heap.size then L b else _) = 1
          rw [if_neg (by have := hp.1; omega), if_pos hbl]
      · rw [List.length_append, List.length_cons, List.length_nil] at hi
        by_cases e : i < (lf c').length
        · rw [List.getElem_append_left e]; exact hc.doc i e
        · obtain rfl : i = (lf c').length := by omega
          rw [List.getElem_append_right (by omega)]
          simp only [Nat.sub_self, List.getElem_cons_zero]
          exact hd
    · rw [upd_other _ _ e, upd_other _ _ e, upd_other _ _ e]
      refine (h.col y c' hy).move (by omega) fun b hl => ⟨?_, old b (by omega) (by omega) (fun e2 => by have := hc.lab; subst e2; omega)⟩
      show (if b < w.heap.size then L b else _) = L b
      rw [if_pos (h.low b (by omega))]
end Go.Proofs.YtknakfpciccoaaaGreatDoor
/- The store's state behind New and Create. -/
namespace Go.Proofs.YtknakfpciccoaaaGreatDoor
open Go.RowKit Go.Maps Go.WideMaps

theorem keyN_key (x : ByteArray) : WideAt.IsKeyLit (keyN x) := by simp [keyN, WideAt.IsKeyLit]
theorem keyN_ne {x y : ByteArray} (h : y ≠ x) : keyN y ≠ keyN x := by
  intro e
  simp only [keyN, Lit.string.injEq] at e
  exact h ((data_eq_iff _ _).1 e)
theorem atK_put_same {D : DataW Unit} (hD : IsMap D) (x : ByteArray) (d : DataW Unit) : atK (D.put (keyN x) d) x = d := atKey_put_same hD (keyN_key x) d .nil
theorem atK_put_other {D : DataW Unit} {x y : ByteArray} (h : y ≠ x) (d : DataW Unit) : atK (D.put (keyN x) d) y = atK D y := atKey_put_other (keyN_ne h) d .nil
theorem lit_inj {a b : Nat} (h : (DataW.lit (.int .i64 (a : Int)) : DataW Unit) = .lit (.int .i64 (b : Int))) : a = b := by
  simp only [DataW.lit.injEq, Lit.int.injEq] at h
  omega
theorem StI.cre {L : Nat → Nat} {w w' : World} {p m n : Nat} {D : DataW Unit} {lf : Nat → List T} {vf : Nat → Value} {xf : Nat → List Value} (h : StI L w p m n D lf vf xf) {x : ByteArray} (hc : CreOk w p m n D x w') :
    ∃ L' c, w.heap.size ≤ c ∧ (∀ b, L' b ≠ 0 → L b ≠ 0 ∨ w.heap.size ≤ b) ∧ StI L' w' p m (n + 1) (D.put (keyN x) (.lit (.int .i64 (c : Nat)))) (upd lf c []) (upd vf c (.slice none 0 0)) (upd xf c []) := by
  obtain ⟨c, hcw, hcl, hst, q0, f0, hB⟩ := hc
  have s1 := hB.size
  have old : ∀ b, L b ≠ 0 → L b ≠ 3 → w'.heap[b]? = w.heap[b]? := fun b h0 h1 => hB.block b (h.low b h0) (fun e => by have := h.lm; subst e; omega) (by simp)
  refine ⟨fun b => if b < w.heap.size then L b else if b = c then 4 else 0, c, hcw, ?_, hst, ?_, ?_, ?_, ?_⟩
  · intro b hb0
    by_cases e : b < w.heap.size
    · simp only [if_pos e] at hb0
      exact .inl hb0
    · exact .inr (by omega)
  · show (if p < w.heap.size then L p else _) = 2
    rw [if_pos (h.low p (by rw [h.lp]; omega))]; exact h.lp
  · show (if m < w.heap.size then L m else _) = 3
    rw [if_pos (h.low m (by rw [h.lm]; omega))]; exact h.lm
  · intro b hb0
    split at hb0
    · omega
    · split at hb0
      · omega
      · exact absurd rfl hb0
  · intro y c' hy
    by_cases e : y = x
    · subst e
      rw [atK_put_same h.sto.own.isMap] at hy
      obtain rfl := lit_inj hy
      rw [upd_same, upd_same, upd_same]
      refine ⟨by rw [if_neg (by omega), if_pos rfl], q0, f0, World.ownsRow_nil _ _ _ _, fun b e => by simp [Value.ownBlock] at e, fun i hi => absurd hi (Nat.not_lt_zero i), fun i hi => absurd hi (Nat.not_lt_zero i)⟩
    · rw [atK_put_other e] at hy
      have hco := h.col y c' hy
      have hne : c' ≠ c := fun e2 => by have := h.low c' (by rw [hco.lab]; omega); omega
      rw [upd_other _ _ hne, upd_other _ _ hne, upd_other _ _ hne]
      refine hco.move s1 fun b hl => ⟨?_, old b (by omega) (by omega)⟩
      show (if b < w.heap.size then L b else _) = L b
      rw [if_pos (h.low b (by omega))]
/-- A new store. -/
theorem StI.new (w : World) (lf : Nat → List T) (vf : Nat → Value) (xf : Nat → List Value) : ∃ L, (∀ b, L b ≠ 0 → w.heap.size ≤ b) ∧ StI L ((w.alloc (.map #[] 0)).alloc (.cells #[.map (some w.heap.size)] 102)) (w.heap.size + 1) w.heap.size 0 (.map []) lf vf xf := by
  refine ⟨fun b => if b = w.heap.size + 1 then 2 else if b = w.heap.size then 3 else 0, fun b hb => ?_, ⟨by simp [go_sem], by simp, (World.ownsMap_made w _ _ _).alloc _⟩, by simp, by simp, fun b hb => ?_, fun x c hx => ?_⟩
  · by_cases e : w.heap.size ≤ b
    · exact e
    · simp only [if_neg (show ¬ b = w.heap.size + 1 by omega), if_neg (show ¬ b = w.heap.size by omega)] at hb
      exact absurd rfl hb
  · split at hb
    · subst b; simp
    · split at hb
      · subst b; simp; omega
      · exact absurd rfl hb
  · have e : atK (.map []) x = .nil := rfl
    rw [e] at hx
    cases hx
end Go.Proofs.YtknakfpciccoaaaGreatDoor
/- A tree whose numbers fit lies in some world. -/
namespace Go.Proofs.YtknakfpciccoaaaGreatDoor
open Go.RowKit

def FitT : Nat → T → Prop
  | 0, _ => False
  | f + 1, t => Fits t ∧ (∀ i, i < nL t → FitT f (elt t i)) ∧ ∀ i, i < nK t → (nam t i).size ≤ 140737488355328
theorem lies_list {f : Nat} {t : T} (ih : ∀ i, i < nL t → ∀ w : World, ∃ w' v, Below w.heap.size w w' ∧ At w' f v (elt t i)) : ∀ k, k ≤ nL t → ∀ w : World, ∃ (w' : World) (xs : List Value), Below w.heap.size w w' ∧ xs.length = k * 5 ∧ ∀ i, i < k → At w' f (fv xs i) (elt t i)
  | 0, _, w => ⟨w, [], Below.refl _ _, rfl, fun i hi => absurd hi (Nat.not_lt_zero i)⟩
  | k + 1, hk, w => by
    obtain ⟨w1, xs, b1, hx, h1⟩ := lies_list ih k (by omega) w
    obtain ⟨w2, v, b2, ha⟩ := ih k (by omega) w1
    obtain ⟨g, La, Ka, Lc, Kc, rfl, rfl, _⟩ := ha.open
    refine ⟨w2, xs ++ [.int .i64 (kindOf (elt t k)), .int .i64 (nOf (elt t k)), .string (sOf (elt t k)), .slice La (nL (elt t k)) Lc, .slice Ka (nK (elt t k)) Kc], b1.trans (b2.mono b1.size), by rw [List.length_append, hx]; simp; omega, fun i hi => ?_⟩
    by_cases e : i < k
    · rw [fv_left hx e]
      exact At.keep b2 (h1 i e)
    · obtain rfl : i = k := by omega
      rw [fv_right hx]
      exact ha
theorem lies_some : ∀ (f : Nat) (t : T), FitT f t → ∀ w : World, ∃ w' v, Below w.heap.size w w' ∧ At w' f v t
  | 0, _, h, _ => h.elim
  | f + 1, t, ⟨hf, he, hn⟩, w => by
    obtain ⟨w1, xs, b1, hx, h1⟩ := lies_list (fun i hi => lies_some f (elt t i) (he i hi)) (nL t) (Nat.le_refl _) w
    have bA : Below w1.heap.size w1 (w1.alloc (.cells xs.toArray 25)) := (Below.refl _ _).alloc (Nat.le_refl _) _
    have bB : Below (w1.heap.size + 1) (w1.alloc (.cells xs.toArray 25)) ((w1.alloc (.cells xs.toArray 25)).alloc (.cells (namesV (kOf t)).toArray 9)) := (Below.refl _ _).alloc (by simp) _
    have r1 : (w1.alloc (.cells xs.toArray 25)).ownsRow 0 25 5 (.slice (some ⟨w1.heap.size, 0, none⟩) (nL t) (nL t)) (nL t) xs := by
      have := World.ownsRow_lit (base := 0) (e := 25) (size := 5) w1 xs.toArray (nL t) (Nat.zero_le _) (by have := hf.l1; unfold maxLen; omega) (by simpa using hx)
      simpa using this
    have r2 : ((w1.alloc (.cells xs.toArray 25)).alloc (.cells (namesV (kOf t)).toArray 9)).ownsRow 0 9 1 (.slice (some ⟨w1.heap.size + 1, 0, none⟩) (nK t) (nK t)) (nK t) (namesV (kOf t)) := by
      have := World.ownsRow_lit (base := 0) (e := 9) (size := 1) (w1.alloc (.cells xs.toArray 25)) (namesV (kOf t)).toArray (nK t) (Nat.zero_le _) (by have := hf.m1; unfold maxLen; omega) (by simp [namesV, nK])
      simpa using this
    have hC : Below w1.heap.size w1 ((w1.alloc (.cells xs.toArray 25)).alloc (.cells (namesV (kOf t)).toArray 9)) := bA.trans (bB.mono (by omega))
    generalize ((w1.alloc (.cells xs.toArray 25)).alloc (.cells (namesV (kOf t)).toArray 9)) = w3 at bB r2 hC
    refine ⟨w3, _, b1.trans (hC.mono b1.size), some ⟨w1.heap.size, 0, none⟩, some ⟨w1.heap.size + 1, 0, none⟩, nL t, nK t, rfl, hf, fun i hi => ?_, fun i hi => ?_⟩
    · have hc : ∀ j, j < 5 → w3.cell? ⟨w1.heap.size, i * 5 + j, none⟩ = some (cx xs (i * 5 + j)) := fun j hj => (bB.cell (p := ⟨w1.heap.size, i * 5 + j, none⟩) (by simp)).trans (row_cell r1 (cx_some (by omega)))
      have hlt : w1.heap.size < w3.heap.size := by have := bB.size; simp at this; omega
      refine ⟨w1.heap.size, 0, cx xs (i * 5), cx xs (i * 5 + 1), cx xs (i * 5 + 2), cx xs (i * 5 + 3), cx xs (i * 5 + 4), rfl, hlt, (by rw [Nat.zero_add]; exact hc 0 (by omega)), (by rw [Nat.zero_add]; exact hc 1 (by omega)), (by rw [Nat.zero_add]; exact hc 2 (by omega)), (by rw [Nat.zero_add]; exact hc 3 (by omega)), (by rw [Nat.zero_add]; exact hc 4 (by omega)), ?_⟩
      exact At.keep hC (h1 i hi)
    · have hi' : i < (kOf t).length := hi
      refine ⟨w1.heap.size + 1, 0, rfl, (r2.lt _ rfl).2, hn i hi, ?_⟩
      rw [Nat.zero_add]
      refine row_cell r2 ?_
      simp [namesV, nam, List.getD_eq_getElem?_getD, hi']
/-- What is printed of a tree is parsed as it, as it is read. -/
theorem parse_tree {f : Nat} {t : T} (hf : FitT f t) (hg : Good 12 t) (hl : (wrT 12 t).length ≤ 4000) : eJ (baL (wrT 12 t)) = 0 ∧ tJ (baL (wrT 12 t)) = canT 12 t := by
  obtain ⟨w, v, _, ha⟩ := lies_some f t hf default
  exact (parse_wr ha hg).2 hl
end Go.Proofs.YtknakfpciccoaaaGreatDoor
/- Bytes and values, pure: what was read is written as it was. -/
namespace Go.Proofs.YtknakfpciccoaaaGreatDoor
open Go.RowKit

theorem presuf_list (s : ByteArray) (n : Nat) : s.data.toList = (pre s n).data.toList ++ (suf s n).data.toList := by
  by_cases h : n ≤ s.size
  · have hs : s.data.toList.length = s.size := rfl
    simp only [pre, suf, ByteArray.data_extract, Array.toList_extract, List.extract_eq_take_drop]
    simp only [List.drop_zero, Nat.sub_zero]
    rw [List.take_of_length_le (l := s.data.toList.drop n) (by rw [List.length_drop]; omega), List.take_append_drop]
  · have hs : s.data.toList.length = s.size := rfl
    simp only [pre, suf, ByteArray.data_extract, Array.toList_extract, List.extract_eq_take_drop]
    simp only [List.drop_zero, Nat.sub_zero]
    rw [List.drop_eq_nil_of_le (by omega), List.take_of_length_le (by omega)]
    simp
theorem byAt_add (n q : Int) {j k : Nat} (h : j < k) : byAt (n + 256 ^ k * q) j = byAt n j := by
  apply by_eq
  rw [byAt_toNat, byAt_toNat]
  have hp : (256 : Int) ^ j ≠ 0 := by
    have : (0 : Int) < 256 ^ j := Int.pow_pos (by decide)
    omega
  have e : (256 : Int) ^ k * q = 256 ^ j * (256 * (256 ^ (k - j - 1) * q)) := by
    have : k = j + (1 + (k - j - 1)) := by omega
    conv => lhs; rw [this, Int.pow_add, Int.pow_add]
    simp [Int.mul_assoc]
  rw [e, Int.add_mul_ediv_left _ _ hp, Int.add_mul_emod_self_left]
theorem beL_add (n q : Int) : ∀ (j k : Nat), j ≤ k → beL (n + 256 ^ k * q) j = beL n j
  | 0, _, _ => rfl
  | j + 1, k, h => by rw [beL, beL, byAt_add n q (by omega), beL_add n q j k (by omega)]
theorem numL_cons (c : UInt8) (l : List UInt8) : (numL (c :: l) : Int) = numL l + 256 ^ l.length * c.toNat := by
  have h : ∀ (l : List UInt8) (a : Nat), ((l.foldl (fun n c => n * 256 + c.toNat) a : Nat) : Int) = a * 256 ^ l.length + (l.foldl (fun n c => n * 256 + c.toNat) 0 : Nat) := by
    intro l
    induction l with
    | nil => intro a; simp
    | cons d l ih =>
      intro a
      rw [List.foldl_cons, List.foldl_cons, ih, ih (0 * 256 + d.toNat), List.length_cons, Int.pow_succ]
      have e1 : ((a * 256 + d.toNat : Nat) : Int) = a * 256 + d.toNat := by rw [Int.natCast_add, Int.natCast_mul]; rfl
      have e2 : ((0 * 256 + d.toNat : Nat) : Int) = d.toNat := by simp
      rw [e1, e2, Int.add_mul, Int.mul_assoc, Int.mul_comm 256 (256 ^ l.length)]
      omega
  unfold numL
  rw [List.foldl_cons, h]
  have e2 : ((0 * 256 + c.toNat : Nat) : Int) = c.toNat := by simp
  rw [e2, Int.mul_comm]
  omega
theorem beL_num : ∀ l : List UInt8, beL (numL l : Int) l.length = l
  | [] => rfl
  | c :: l => by
    have ih := beL_num l
    have hlt : (numL l : Int) < 256 ^ l.length := by
      have h1 := numL_lt l 0
      simp only [Nat.zero_add, Nat.one_mul] at h1
      have e : ((256 ^ l.length : Nat) : Int) = (256 : Int) ^ l.length := Int.natCast_pow 256 l.length
      rw [← e]
      exact Int.ofNat_lt.2 h1
    have hp : (0 : Int) < 256 ^ l.length := Int.pow_pos (by decide)
    rw [List.length_cons, beL, numL_cons, beL_add _ _ _ _ (Nat.le_refl _), ih]
    congr 1
    apply by_eq
    rw [byAt_toNat, Int.add_mul_ediv_left _ _ (by omega), Int.ediv_eq_zero_of_lt (by omega) hlt]
    have := c.toNat_lt
    omega
theorem beL_numB (s : ByteArray) {b : Nat} (h : s.size = b) : beL (numB s : Int) b = s.data.toList := by
  have := beL_num s.data.toList
  rw [show s.data.toList.length = b from h] at this
  exact this
theorem szB_list {s x r : ByteArray} {b : Nat} (h : szB s b = some (x, r)) : s.data.toList = beL (x.size : Int) b ++ (x.data.toList ++ r.data.toList) := by
  unfold szB at h
  split at h
  · cases h
  · split at h
    · cases h
    · rename_i h1 h2
      simp only [Option.some.injEq, Prod.mk.injEq] at h
      obtain ⟨rfl, rfl⟩ := h
      rw [pre_size (by omega), beL_numB _ (pre_size (by omega)), ← presuf_list, ← presuf_list]
/-- What entries are, as bytes. -/
def bodyL (g : T → List UInt8) : Bool → List ByteArray → List T → List UInt8
  | _, _, [] => []
  | false, ks, l :: ls => g l ++ bodyL g false ks ls
  | true, [], l :: ls => g l ++ bodyL g true [] ls
  | true, k :: ks, l :: ls => beL (k.size : Int) 2 ++ (k.data.toList ++ (g l ++ bodyL g true ks ls))
theorem body_false (g : T → List UInt8) (a b : List ByteArray) : ∀ ls : List T, bodyL g false a ls = bodyL g false b ls
  | [] => rfl
  | l :: ls => by rw [bodyL, bodyL, body_false g a b ls]
theorem list_nil {a : ByteArray} (h : a.size = 0) : a.data.toList = [] := nil_of h
theorem ents_list {f : ByteArray → Option (T × ByteArray)} {g : T → List UInt8} {p : T → Prop} (h : ∀ s t r, f s = some (t, r) → p t → s.data.toList = g t ++ r.data.toList) (o : Bool) : ∀ (n : Nat) (a : ByteArray) (ks : List ByteArray) (ls : List T), ents f o n a = some (ks, ls) → (∀ x ∈ ls, p x) → a.data.toList = bodyL g o ks ls
  | 0, a, ks, ls, he, _ => by
    unfold ents at he
    split at he
    · simp only [Option.some.injEq, Prod.mk.injEq] at he
      obtain ⟨rfl, rfl⟩ := he
      rw [list_nil ‹_›]
      cases o <;> rfl
    · cases he
  | n + 1, a, ks, ls, he, hp => by
    unfold ents at he
    split at he
    · simp only [Option.some.injEq, Prod.mk.injEq] at he
      obtain ⟨rfl, rfl⟩ := he
      rw [list_nil ‹_›]
      cases o <;> rfl
    · cases o with
      | false =>
        simp only [Bool.false_eq_true, if_false, Option.bind_some] at he
        cases hf : f a with
        | none => rw [hf] at he; cases he
        | some q =>
          rw [hf] at he
          simp only [Option.bind_some] at he
          cases hr : ents f false n q.2 with
          | none => rw [hr] at he; cases he
          | some r =>
            rw [hr] at he
            simp only [Option.bind_some, Option.some.injEq, Prod.mk.injEq] at he
            obtain ⟨rfl, rfl⟩ := he
            rw [h a q.1 q.2 hf (hp _ (by simp)), ents_list h false n q.2 r.1 r.2 hr (fun x hx => hp x (by simp [hx]))]
            rfl
      | true =>
        simp only [if_true] at he
        cases hz : szB a 2 with
        | none => rw [hz] at he; cases he
        | some p1 =>
          rw [hz] at he
          simp only [Option.bind_some] at he
          cases hf : f p1.2 with
          | none => rw [hf] at he; cases he
          | some q =>
            rw [hf] at he
            simp only [Option.bind_some] at he
            cases hr : ents f true n q.2 with
            | none => rw [hr] at he; cases he
            | some r =>
              rw [hr] at he
              simp only [Option.bind_some, Option.some.injEq, Prod.mk.injEq] at he
              obtain ⟨rfl, rfl⟩ := he
              rw [szB_list (x := p1.1) (r := p1.2) hz, h p1.2 q.1 q.2 hf (hp _ (by simp)), ents_list h true n q.2 r.1 r.2 hr (fun x hx => hp x (by simp [hx]))]
              rfl
theorem rest_body {g : T → List UInt8} {t : T} (h6 : kindOf t = 6 → nK t = nL t) : ∀ j k, k + j = nL t → restB g t k j = bodyL g (kindOf t == 6) ((kOf t).drop k) ((lOf t).drop k)
  | 0, k, hk => by
    have h1 : (lOf t).drop k = [] := List.drop_eq_nil_of_le (by show nL t ≤ k; omega)
    rw [h1]
    cases (kindOf t == 6) <;> rfl
  | j + 1, k, hk => by
    have hkl : k < nL t := by omega
    have ih := rest_body (g := g) h6 j (k + 1) (by omega)
    have eL : (lOf t).drop k = elt t k :: (lOf t).drop (k + 1) := dropC hkl
    rw [restB, ih, eL]
    by_cases k6 : kindOf t = 6
    · have e6 : (kindOf t == 6) = true := by simpa using k6
      have hkk : k < nK t := by have := h6 k6; omega
      have eK : (kOf t).drop k = nam t k :: (kOf t).drop (k + 1) := dropC hkk
      rw [e6, eK, nameE, if_pos k6]
      simp [bodyL]
    · have e6 : (kindOf t == 6) = false := by simpa using k6
      rw [e6, nameE, if_neg k6]
      rw [body_false g ((kOf t).drop (k + 1)) ((kOf t).drop k)]
      rfl
theorem num1 {s : ByteArray} (h : ¬ s.size < 1) {k : Int} (hk : (numB (pre s 1) : Int) = k) : s.data.toList = byAt k 0 :: (suf s 1).data.toList := by
  have h1 := beL_numB (pre s 1) (pre_size (by omega : 1 ≤ s.size))
  have h2 := presuf_list s 1
  rw [h2, ← h1, hk]
  rfl
theorem wrap_same (x : Int) : beL (IntKind.i64.wrap x) 8 = beL x 8 := by
  rw [← beL_wrap (IntKind.i64.wrap x) 8 (by omega), ← beL_wrap x 8 (by omega), IntKind.wrap_i64]
  congr 1
  omega
theorem leafE1 : leafE (leafT 1 0 ByteArray.empty) = [byAt 1 0] := rfl
theorem leafE2 (n : Int) : leafE (leafT 2 n ByteArray.empty) = [byAt 2 0, byAt n 0] := rfl
theorem leafE3 (n : Int) : leafE (leafT 3 n ByteArray.empty) = byAt 3 0 :: beL n 8 := rfl
theorem leafE4 (s : ByteArray) : leafE (leafT 4 0 s) = byAt 4 0 :: (beL s.size 4 ++ s.data.toList) := rfl
theorem step_enc {c : Bool} {b : Option (ByteArray → Option (T × ByteArray))} {d : Nat} {s r : ByteArray} {t : T}
    (hb : ∀ d', d = d' + 1 → ∀ f, b = some f → ∀ s t r, f s = some (t, r) → Good d' t → s.data.toList = encT d' t ++ r.data.toList) (h : stepD c b s = some (t, r)) (hg : Good d t) : s.data.toList = encT d t ++ r.data.toList := by
  have lf : ∀ (k n : Int) (x : ByteArray), k ≠ 5 → k ≠ 6 → encT d (leafT k n x) = leafE (leafT k n x) := fun k n x h5 h6 => encT_leaf h5 h6
  unfold stepD at h
  split at h
  · cases h
  · rename_i h0
    split at h
    · rename_i h1
      simp only [Option.some.injEq, Prod.mk.injEq] at h
      obtain ⟨rfl, rfl⟩ := h
      rw [lf _ _ _ (by omega) (by omega), num1 h0 (k := 1) (by omega), leafE1]
      rfl
    · split at h
      · rename_i h1
        split at h
        · cases h
        · rename_i h2
          split at h
          · cases h
          · simp only [Option.some.injEq, Prod.mk.injEq] at h
            obtain ⟨rfl, rfl⟩ := h
            rw [lf _ _ _ (by omega) (by omega), num1 h0 (k := 2) (by omega), num1 h2 rfl, leafE2]
            rfl
      · split at h
        · rename_i h1
          split at h
          · cases h
          · rename_i h2
            simp only [Option.some.injEq, Prod.mk.injEq] at h
            obtain ⟨rfl, rfl⟩ := h
            have e : leafE (leafT 3 (IntKind.i64.wrap (numB (pre (suf s 1) 8))) ByteArray.empty) = byAt 3 0 :: beL (IntKind.i64.wrap (numB (pre (suf s 1) 8))) 8 := leafE3 _
            rw [lf _ _ _ (by omega) (by omega), num1 h0 (k := 3) (by omega), e, wrap_same, beL_numB _ (pre_size (by omega)), List.cons_append, ← presuf_list]
        · split at h
          · rename_i h1
            cases hz : szB (suf s 1) 4 with
            | none => rw [hz] at h; cases h
            | some p =>
              rw [hz] at h
              simp only [Option.bind_some, Option.some.injEq, Prod.mk.injEq] at h
              obtain ⟨rfl, rfl⟩ := h
              have e : leafE (leafT 4 0 p.1) = byAt 4 0 :: (beL p.1.size 4 ++ p.1.data.toList) := leafE4 _
              rw [lf _ _ _ (by omega) (by omega), num1 h0 (k := 4) (by omega), e, szB_list (x := p.1) (r := p.2) hz]
              simp
          · split at h
            · rename_i hk
              cases b with
              | none => cases h
              | some f =>
                simp only [Option.bind_some] at h
                cases hz : szB (suf s 1) 4 with
                | none => rw [hz] at h; cases h
                | some p =>
                  rw [hz] at h
                  simp only [Option.bind_some] at h
                  cases he : ents f (numB (pre s 1) == 6) p.1.size p.1 with
                  | none => rw [he] at h; cases h
                  | some q =>
                    rw [he] at h
                    simp only [Option.bind_some, Option.some.injEq, Prod.mk.injEq] at h
                    obtain ⟨rfl, rfl⟩ := h
                    obtain ⟨d', rfl, hm⟩ := good_mem (by omega) hg
                    have hbb := ents_list (hb d' rfl f rfl) _ _ _ q.1 q.2 he hm
                    have hk2 : kindOf (mkT (numB (pre s 1)) 0 ByteArray.empty q.2 q.1) = (numB (pre s 1) : Int) := kindOf_mk _ _ _ _ _
                    have h6 : kindOf (mkT (numB (pre s 1)) 0 ByteArray.empty q.2 q.1) = 6 → nK (mkT (numB (pre s 1)) 0 ByteArray.empty q.2 q.1) = nL (mkT (numB (pre s 1)) 0 ByteArray.empty q.2 q.1) := fun h6 => by
                      rcases hg with ⟨_, _, hg⟩ | ⟨_, _, _, ⟨hg, _⟩ | ⟨_, hg, _⟩⟩
                      · rcases hg with ⟨hg, _⟩ | ⟨hg, _⟩ | ⟨hg, _⟩ | ⟨hg, _⟩ <;> omega
                      · omega
                      · exact hg
                    have hrb := rest_body (g := encT d') h6 _ 0 (Nat.zero_add _)
                    have hcr := catB_rest (encT d') (mkT (numB (pre s 1)) 0 ByteArray.empty q.2 q.1) (nL (mkT (numB (pre s 1)) 0 ByteArray.empty q.2 q.1)) 0
                    simp only [catB, List.nil_append, Nat.zero_add] at hcr
                    rw [List.drop_zero, List.drop_zero, lOf_mk, kOf_mk] at hrb
                    have h66 : (kindOf (mkT (numB (pre s 1)) 0 ByteArray.empty q.2 q.1) == 6) = (numB (pre s 1) == 6) := by
                      rw [hk2]
                      by_cases k6 : numB (pre s 1) = 6
                      · rw [k6]; rfl
                      · rw [beq_eq_false_iff_ne.2 k6, beq_eq_false_iff_ne.2 (by omega)]
                    rw [h66, ← hbb] at hrb
                    rw [encT_box (by rw [hk2]; omega), ← hcr, hrb, num1 h0 hk2.symm, szB_list (x := p.1) (r := p.2) hz]
                    have hl : p.1.data.toList.length = p.1.size := rfl
                    simp [boxE, kindB]
            · cases h
theorem P_enc : ∀ (d : Nat) (s r : ByteArray) (t : T), decP d s = some (t, r) → Good d t → s.data.toList = encT d t ++ r.data.toList
  | 0, s, r, t, h, hg => step_enc (b := none) (fun d' e => by omega) h hg
  | d + 1, s, r, t, h, hg => step_enc (b := some (decP d)) (fun d' e f hf => by
      cases hf
      have : d' = d := by omega
      subst this
      exact fun s t r h hg => P_enc d' s r t h hg) h hg
/-- What is read is written so. -/
theorem res_dec {s : ByteArray} {t : T} (h : resT s = some t) : s = baL (encT 12 t) ∧ isV t = true := by
  have hg := resT_good h
  have hv : isV t = true := (isV_iff t).2 hg
  rw [resT_P] at h
  split at h
  · cases h
  · cases hd : decP 12 s with
    | none => rw [hd] at h; cases h
    | some p =>
      rw [hd] at h
      simp only [Option.bind_some, okT] at h
      split at h
      · rename_i hc
        simp only [Option.some.injEq] at h
        subst h
        have := P_enc 12 s p.2 p.1 hd hg.1
        rw [list_nil hc.1, List.append_nil] at this
        exact ⟨by apply ba_extT; rw [this, baL_list], hv⟩
      · cases h
end Go.Proofs.YtknakfpciccoaaaGreatDoor
/- The walk of the program's Compare. -/
namespace Go.Proofs.YtknakfpciccoaaaGreatDoor
open Go.RowKit

/-- What is answered: the order of two values, or the error. -/
def ansN (ok : Bool) (n : Int) : Int := if ok then n else 0
def ansE (ok : Bool) : Int := if ok then 0 else 5

set_option maxHeartbeats 1000000 in
set_option maxRecDepth 100000 in
theorem tCompare_any {Tb : World → Prop} (hV : ValidSaid Tb) (hL : Lies Tb) (f g : Nat) (va vb : Value) (a b : T) (w : World) (h : At w f va a) (h' : At w g vb b) (hT : Tb w) :
    Calls Tryz.prog 23 #[va, vb] w fun e w' => e = .returned (.tuple #[.int .i64 (ansN (isV a && isV b) (cmpT f a b)), .int .i64 (ansE (isV a && isV b))]) ∧ Below w.heap.size w w' := by
  have HA := hid h
  have HA' := hid h'
  have HT := hid hT
  obtain ⟨f1, La, Ka, Lc, Kc, hf1, rfl, hf, hl, hk⟩ := h.open
  obtain ⟨g1, Ma, Na, Mc, Nc, hg1, rfl, hf', hl', hk'⟩ := h'.open
  clear h h' hf hf' hf1 hg1 hl hk hl' hk' hT
  have HB1 : Hid (Below w.heap.size w ((w.alloc (.cells #[.int .i64 (kindOf a), .int .i64 (nOf a), .string (sOf a), .slice La (nL a) Lc, .slice Ka (nK a) Kc] 25)).alloc (.cells #[.int .i64 (kindOf b), .int .i64 (nOf b), .string (sOf b), .slice Ma (nL b) Mc, .slice Na (nK b) Nc] 25))) := ((Below.refl _ _).alloc (Nat.le_refl _) _).alloc (by simp) _
  go_enter Tryz.func23, Tryz.ntmps23
  go_wp2_with fail
  refine (isValue_any hV hL f _ a _ (HA.out.keep HB1.out) (hL w HT.out _ _ HT.out HB1.out)).mono ?_
  rintro e w2 ⟨rfl, b2⟩
  have HB2 : Hid (Below (w.heap.size + 2) ((w.alloc (.cells #[.int .i64 (kindOf a), .int .i64 (nOf a), .string (sOf a), .slice La (nL a) Lc, .slice Ka (nK a) Kc] 25)).alloc (.cells #[.int .i64 (kindOf b), .int .i64 (nOf b), .string (sOf b), .slice Ma (nL b) Mc, .slice Na (nK b) Nc] 25)) w2) := b2.mono (by simp)
  obtain ⟨⟨q0, q1, q2, q3, q4⟩, ⟨r0, r1, r2, r3, r4⟩, hz, hbw⟩ := box2_facts HB2.out
  have Hbw := hid hbw
  clear b2 hbw
  cases hi : isV a with
  | false =>
    have Hi := hid hi
    clear hi
    go_wp2_with fail
    go_ret2
    exact ⟨by rw [Hi.out]; rfl, Hbw.out⟩
  | true =>
    have Hi := hid hi
    clear hi
    go_wp2_with fail
    refine (isValue_any hV hL g _ b _ (HA'.out.keep Hbw.out) (hL w HT.out _ _ HT.out Hbw.out)).mono ?_
    rintro e w3 ⟨rfl, b3⟩
    have HB3 : Hid (Below (w.heap.size + 2) ((w.alloc (.cells #[.int .i64 (kindOf a), .int .i64 (nOf a), .string (sOf a), .slice La (nL a) Lc, .slice Ka (nK a) Kc] 25)).alloc (.cells #[.int .i64 (kindOf b), .int .i64 (nOf b), .string (sOf b), .slice Ma (nL b) Mc, .slice Na (nK b) Nc] 25)) w3) := HB2.out.trans (b3.mono (by omega))
    clear q0 q1 q2 q3 q4 r0 r1 r2 r3 r4 hz b3 Hbw HB2
    obtain ⟨⟨q0, q1, q2, q3, q4⟩, ⟨r0, r1, r2, r3, r4⟩, hz, hbw⟩ := box2_facts HB3.out
    have Hbw := hid hbw
    clear hbw
    cases hj : isV b with
    | false =>
      have Hj := hid hj
      clear hj
      go_wp2_with fail
      go_ret2
      exact ⟨by rw [Hi.out, Hj.out]; rfl, Hbw.out⟩
    | true =>
      have Hj := hid hj
      clear hj
      go_wp2_with fail
      refine (compare_any f g _ _ a b _ (HA.out.keep Hbw.out) (HA'.out.keep Hbw.out) (good_okK f 12 a ((isV_iff a).1 Hi.out).1) (good_okK f 12 b ((isV_iff b).1 Hj.out).1)).mono ?_
      rintro e w4 ⟨rfl, b4⟩
      have HB4 : Hid (Below w.heap.size w w4) := Hbw.out.trans (b4.mono (by omega))
      clear b4
      go_wp2_with fail
      go_ret2
      exact ⟨by rw [Hi.out, Hj.out]; rfl, HB4.out⟩
end Go.Proofs.YtknakfpciccoaaaGreatDoor
/- The walk of the program's Decode, in one form. -/
namespace Go.Proofs.YtknakfpciccoaaaGreatDoor
open Go.RowKit

def tD (s : ByteArray) : T := (resT s).getD (leafT 0 0 ByteArray.empty)
def eD (s : ByteArray) : Int := if (resT s).isSome then 0 else 6
def DecU (s : ByteArray) (w : World) (e : Ending) (w' : World) : Prop :=
  Below w.heap.size w w' ∧ ∃ es A B C D, e = .returned (.tuple #[.agg #[.int .i64 (kindOf (tD s)), .int .i64 (nOf (tD s)), .string (sOf (tD s)), .slice A (nL (tD s)) B, .slice C (nK (tD s)) D], .int .i64 (eD s)]) ∧
    Flat w' 13 (.agg #[.int .i64 (kindOf (tD s)), .int .i64 (nOf (tD s)), .string (sOf (tD s)), .slice A (nL (tD s)) B, .slice C (nK (tD s)) D]) (tD s) es ∧ Sep w.heap.size w' es ∧ es.length ≤ 1048576 ∧ ∀ x ∈ es, x.n ≤ 1048576 ∧ x.m ≤ 1048576
theorem decode_u {Tb : World → Prop} (hV : ValidSaid Tb) (hL : Lies Tb) (s : ByteArray) (w : World) (hs : s.size ≤ 140737488355328) (hT : Tb w) : Calls Tryz.prog 24 #[.string s] w (DecU s w) := by
  refine (decode_any hV hL s w hs hT).mono ?_
  rintro e w' ⟨hb, ⟨t, es, A, B, C, D, hr, rfl, hF, hS⟩ | ⟨hr, rfl⟩⟩
  · have hg := resT_good hr
    have hc := flat_count hF hg.1
    have e1 : tD s = t := by unfold tD; rw [hr]; rfl
    have e2 : eD s = 0 := by unfold eD; rw [hr]; rfl
    refine ⟨hb, es, A, B, C, D, ?_, ?_, hS, by omega, fun x hx => ?_⟩
    · rw [e1, e2]; rfl
    · rw [e1]; exact hF
    · have := hc.2 x hx; omega
  · have e1 : tD s = leafT 0 0 ByteArray.empty := by unfold tD; rw [hr]; rfl
    have e2 : eD s = 6 := by unfold eD; rw [hr]; rfl
    refine ⟨hb, _, none, 0, none, 0, ?_, ?_, sep_leaf _ _, by simp, fun x hx => ?_⟩
    · rw [e1, e2]; rfl
    · rw [e1]; exact flat_leaf w' 12 0 0 ByteArray.empty (by omega) (by omega) (by omega) (by omega) (by simp)
    · simp only [List.mem_singleton] at hx
      subst hx
      exact ⟨Nat.zero_le _, Nat.zero_le _⟩
end Go.Proofs.YtknakfpciccoaaaGreatDoor
