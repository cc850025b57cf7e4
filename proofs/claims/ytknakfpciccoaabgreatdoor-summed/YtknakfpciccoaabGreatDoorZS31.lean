import Derived.Test.YtknakfpciccoaabGreatDoorZS30
/- A new group is laid behind the others: the worlds. -/
namespace Go.Proofs.YtknakfpciccoaabGreatDoor
open Go.RowKit

/-- What is behind the two stores of a new group. -/
structure GFin (lo c g n cap : Nat) (xs cs : List Value) (w6 wF : World) : Prop where
  os : wF.os = w6.os
  tape : wF.tape = w6.tape
  output : wF.output = w6.output
  size : wF.heap.size = w6.heap.size
  fr : ∀ b, b ≠ c → b ≠ g → wF.heap[b]? = w6.heap[b]?
  row : wF.ownsRow lo 36 5 (.slice (some ⟨g, 0, none⟩) (n + 1) cap) (n + 1) (xs ++ cs)
  c4 : wF.cell? ⟨c, 4, none⟩ = some (.slice (some ⟨g, 0, none⟩) (n + 1) cap)
  off : ∀ o, o ≠ 4 → wF.cell? ⟨c, o, none⟩ = w6.cell? ⟨c, o, none⟩
  fz : ∀ o, wF.frozen? ⟨c, o, none⟩ = w6.frozen? ⟨c, o, none⟩
theorem gfinA {lo c g n cap : Nat} {xs : List Value} {y0 y1 y2 y3 y4 : Value} {w6 : World} (h : w6.ownsRow lo 36 5 (.slice (some ⟨g, 0, none⟩) (n + 1) cap) (n + 1) (xs ++ [y0, y1, y2, y3, y4])) (hx : xs.length = n * 5) (hgc : g ≠ c) {gv : Value} (hc : w6.cell? ⟨c, 4, none⟩ = some gv) (u0 u1 u2 u3 u4 : Value) :
    GFin lo c g n cap xs [u0, u1, u2, u3, u4] w6 ((put5o w6 g (n * 5) u0 u1 u2 u3 u4).setCell ⟨c, 4, none⟩ (.slice (some ⟨g, 0, none⟩) (n + 1) cap)) := by
  obtain ⟨r1, r2, r3, r4⟩ := put5o_rest w6 g (n * 5) u0 u1 u2 u3 u4
  have hoth : ∀ b, b ≠ g → (put5o w6 g (n * 5) u0 u1 u2 u3 u4).heap[b]? = w6.heap[b]? := fun b hb => put5o_other w6 hb _ _ _ _ _ _
  have hrow := row_put5o h hx u0 u1 u2 u3 u4
  generalize put5o w6 g (n * 5) u0 u1 u2 u3 u4 = w7 at r1 r2 r3 r4 hoth hrow ⊢
  have hcb := hoth c (Ne.symm hgc)
  obtain ⟨t1, t2, t3, t4⟩ := setC_rest w7 ⟨c, 4, none⟩ (.slice (some ⟨g, 0, none⟩) (n + 1) cap)
  refine ⟨t2.trans r2, t3.trans r3, t4.trans r4, t1.trans r1, fun b h1 h2 => (Below.heap_setCell _ _ _ _ (by simpa using h1)).trans (hoth b h2), ownsRow_setCell_other (a := ⟨c, 4, none⟩) hrow (by simpa [Value.ownBlock] using hgc) _, World.cell?_setCell_same w7 ⟨c, 4, none⟩ _ ((cell_of hcb 4).trans hc), fun o ho => ?_, fun o => ?_⟩
  · rw [World.cell?_setCell_other _ _ _ _ (by simp)]
    exact cell_of hcb o
  · rw [World.frozen?_setCell]
    exact World.frozen?_of_block (a := ⟨c, o, none⟩) hcb
theorem gfinB {lo c g n cap : Nat} {xs : List Value} {y0 y1 y2 y3 y4 : Value} {w6 : World} (h : w6.ownsRow lo 36 5 (.slice (some ⟨g, 0, none⟩) (n + 1) cap) (n + 1) (xs ++ [y0, y1, y2, y3, y4])) (hx : xs.length = n * 5) (hgc : g ≠ c) {gv : Value} (hc : w6.cell? ⟨c, 4, none⟩ = some gv) (u0 u1 u2 u3 u4 : Value) :
    GFin lo c g n cap xs [u0, u1, u2, u3, u4] w6 (put5o (w6.setCell ⟨c, 4, none⟩ (.slice (some ⟨g, 0, none⟩) (n + 1) cap)) g (n * 5) u0 u1 u2 u3 u4) := by
  obtain ⟨t1, t2, t3, t4⟩ := setC_rest w6 ⟨c, 4, none⟩ (.slice (some ⟨g, 0, none⟩) (n + 1) cap)
  have k3 := ownsRow_setCell_other (a := ⟨c, 4, none⟩) h (by simpa [Value.ownBlock] using hgc) (.slice (some ⟨g, 0, none⟩) (n + 1) cap)
  have k1 := World.cell?_setCell_same w6 ⟨c, 4, none⟩ (.slice (some ⟨g, 0, none⟩) (n + 1) cap) hc
  have k4 : ∀ b, b ≠ c → (w6.setCell ⟨c, 4, none⟩ (.slice (some ⟨g, 0, none⟩) (n + 1) cap)).heap[b]? = w6.heap[b]? := fun b hb => Below.heap_setCell _ _ _ _ (by simpa using hb)
  have k5 : ∀ o, o ≠ 4 → (w6.setCell ⟨c, 4, none⟩ (.slice (some ⟨g, 0, none⟩) (n + 1) cap)).cell? ⟨c, o, none⟩ = w6.cell? ⟨c, o, none⟩ := fun o ho => World.cell?_setCell_other _ _ _ _ (by simp)
  have k6 : ∀ o, (w6.setCell ⟨c, 4, none⟩ (.slice (some ⟨g, 0, none⟩) (n + 1) cap)).frozen? ⟨c, o, none⟩ = w6.frozen? ⟨c, o, none⟩ := fun o => World.frozen?_setCell _ _ _ _
  generalize w6.setCell ⟨c, 4, none⟩ (.slice (some ⟨g, 0, none⟩) (n + 1) cap) = w7 at *
  obtain ⟨r1, r2, r3, r4⟩ := put5o_rest w7 g (n * 5) u0 u1 u2 u3 u4
  have hoth : ∀ b, b ≠ g → (put5o w7 g (n * 5) u0 u1 u2 u3 u4).heap[b]? = w7.heap[b]? := fun b hb => put5o_other w7 hb _ _ _ _ _ _
  have hrow := row_put5o k3 hx u0 u1 u2 u3 u4
  generalize put5o w7 g (n * 5) u0 u1 u2 u3 u4 = w8 at *
  have hcb := hoth c (Ne.symm hgc)
  exact ⟨r2.trans t2, r3.trans t3, r4.trans t4, r1.trans t1, fun b h1 h2 => (hoth b h2).trans (k4 b h1), hrow, (cell_of hcb 4).trans k1, fun o ho => (cell_of hcb o).trans (k5 o ho), fun o => (World.frozen?_of_block (a := ⟨c, o, none⟩) hcb).trans (k6 o)⟩
/-- The groups, with a new one behind them. -/
theorem GrI.snoc {w0 : World} {c : Nat} {NA : Option Addr} {nc : Nat} {bv ev : Value} {ops : List ByteArray} {L : Nat → Lab} {gv : Value} {xs : List Value} {rb : Nat → Nat} {ys : Nat → List Value} {st : List (T × List T)} {w2 W4 w6 wF : World} (h : GrI w0 c NA nc bv ev ops L gv xs rb ys st w2) (hb : Below w2.heap.size w2 W4) (hG : W4.grownBy w6 gv.ownBlock) {g cap : Nat} (hg : gv.ownBlock = some g ∨ W4.heap.size ≤ g) (hgl : g < w6.heap.size) {r : Nat} {zs : List Value} (hr0 : w2.heap.size ≤ r) (hr : W4.ownsRow w2.heap.size 36 5 (.slice (some ⟨r, 0, none⟩) (ops.length + 1) (ops.length + 1)) (ops.length + 1) zs) {b : T} (hz0 : At w0 13 (fv zs 0) b) (hbk : okA b) (hzk : ∀ k, 1 ≤ k → k < ops.length + 1 → fv zs k = .agg #[.int .i64 0, .int .i64 0, .string ⟨#[]⟩, .slice none 0 0, .slice none 0 0])
    (hF : GFin w0.heap.size c g st.length cap xs [.int .i64 6, .int .i64 0, .string ⟨#[]⟩, .slice (some ⟨r, 0, none⟩) (ops.length + 1) (ops.length + 1), .slice NA (ops.length + 1) nc] w6 wF) :
    Below w0.heap.size w2 wF ∧ ∃ L' xs', (∀ b, b < w2.heap.size → L b = .no → L' b = .no ∧ wF.heap[b]? = w2.heap[b]?) ∧ GrI w0 c NA nc bv ev ops L' (.slice (some ⟨g, 0, none⟩) (st.length + 1) cap) xs' (fun i => if i = st.length then r else rb i) (fun i => if i = st.length then zs else ys i) (st ++ [(b, List.replicate ops.length zeroT)]) wF := by
  have s1 := hb.size
  have s2 := hG.size
  have s3 := hF.size
  have hcl := h.low c (by rw [h.lc]; intro e; cases e)
  have hrl := (hr.lt r rfl).2
  have hgo : ∀ b, gv.ownBlock = some b → w0.heap.size ≤ b ∧ b < w2.heap.size := fun b e => h.low b (by rw [h.gl b e]; intro e; cases e)
  have hxl : xs.length = st.length * 5 := h.grow.1
  have old : ∀ b, b < w2.heap.size → b ≠ c → gv.ownBlock ≠ some b → wF.heap[b]? = w2.heap[b]? := fun b h1 h2 h3 => (hF.fr b h2 (fun e => by subst e; rcases hg with hg | hg; exact h3 hg; omega)).trans ((hG.block b (by omega) (fun e => h3 e.symm)).trans (hb.block b h1))
  have hcell : ∀ o, w6.cell? ⟨c, o, none⟩ = w2.cell? ⟨c, o, none⟩ := fun o => (cell_of (hG.block c (by omega) (fun e => by have := h.gl c e.symm; rw [h.lc] at this; cases this)) o).trans (hb.cell (p := ⟨c, o, none⟩) hcl.2)
  have hfz : ∀ o, w6.frozen? ⟨c, o, none⟩ = w2.frozen? ⟨c, o, none⟩ := fun o => (World.frozen?_of_block (a := ⟨c, o, none⟩) (hG.block c (by omega) (fun e => by have := h.gl c e.symm; rw [h.lc] at this; cases this))).trans (World.frozen?_of_block (a := ⟨c, o, none⟩) (hb.block c hcl.2))
  have hrg : r ≠ g := fun e => by
    subst e
    rcases hg with hg | hg
    · have := (hgo r hg).2; omega
    · omega
  have hw0 : w0.heap.size ≤ g := by
    rcases hg with hg | hg
    · exact (hgo g hg).1
    · omega
  refine ⟨⟨hF.os.trans (hG.os.trans hb.os), hF.tape.trans (hG.tape.trans hb.tape), hF.output.trans (hG.output.trans hb.output), by omega, fun b hb' => old b (by omega) (by omega) (fun e => by have := (hgo b e).1; omega)⟩, fun b => if b < w2.heap.size then L b else if b = g then .grp else if b = r then .row st.length else .no, _, fun b h1 h2 => ⟨by simp only [if_pos h1]; exact h2, old b h1 (fun e => by rw [e, h.lc] at h2; cases h2) (fun e => by rw [h.gl _ e] at h2; cases h2)⟩, ?_, ?_, (hF.off 0 (by omega)).trans ((hcell 0).trans h.c0), (hF.off 1 (by omega)).trans ((hcell 1).trans h.c1), (hF.off 2 (by omega)).trans ((hcell 2).trans h.c2), (hF.off 3 (by omega)).trans ((hcell 3).trans h.c3), hF.c4, (hF.fz 0).trans ((hfz 0).trans h.f0), (hF.fz 4).trans ((hfz 4).trans h.f4), by rw [List.length_append]; exact hF.row, ?_, ?_, ?_, ?_, ?_, ?_, ?_⟩
  · simp only [if_pos hcl.2]; exact h.lc
  · intro b hb'
    by_cases e1 : b < w2.heap.size
    · simp only [if_pos e1] at hb'
      have := h.low b hb'
      omega
    · by_cases e2 : b = g
      · omega
      · by_cases e3 : b = r
        · omega
        · simp only [if_neg e1, if_neg e2, if_neg e3] at hb'
          exact absurd rfl hb'
  · intro b e
    obtain rfl : g = b := by simpa [Value.ownBlock] using e
    by_cases e1 : g < w2.heap.size
    · simp only [if_pos e1]
      rcases hg with hg | hg
      · exact h.gl g hg
      · omega
    · simp only [if_neg e1, if_true]
  · intro i hi
    rw [List.length_append, List.length_cons, List.length_nil] at hi
    by_cases e : i < st.length
    · rw [fv_first hxl e, if_neg (by omega)]; exact h.el i e
    · obtain rfl : i = st.length := by omega
      rw [fv_last hxl, if_pos rfl]
  · intro i hi
    rw [List.length_append, List.length_cons, List.length_nil] at hi
    by_cases e : i < st.length
    · have h1 := h.rl i e
      have h2 := h.low (rb i) (by rw [h1]; intro e; cases e)
      simp only [if_neg (show ¬ i = st.length by omega), if_pos h2.2]
      exact h1
    · obtain rfl : i = st.length := by omega
      simp only [if_true, if_neg (show ¬ r < w2.heap.size by omega), if_neg hrg]
  · intro i hi
    rw [List.length_append, List.length_cons, List.length_nil] at hi
    by_cases e : i < st.length
    · have h1 := h.rl i e
      have h2 := h.low (rb i) (by rw [h1]; intro e; cases e)
      simp only [if_neg (show ¬ i = st.length by omega)]
      refine own_move (h.row i e) fun b' e' => ?_
      obtain rfl : rb i = b' := by simpa [Value.ownBlock] using e'
      exact old _ h2.2 (fun e => by rw [e, h.lc] at h1; cases h1) (fun e => by rw [h.gl _ e] at h1; cases h1)
    · obtain rfl : i = st.length := by omega
      simp only [if_true]
      refine row_base2 (own_move hr fun b' e' => ?_) (by omega)
      obtain rfl : r = b' := by simpa [Value.ownBlock] using e'
      exact (hF.fr r (by omega) hrg).trans (hG.block r hrl (fun e => by have := (hgo r e.symm).2; omega))
  · intro i hi
    rw [List.length_append, List.length_cons, List.length_nil] at hi
    by_cases e : i < st.length
    · simp only [if_neg (show ¬ i = st.length by omega), List.getElem_append_left e]
      exact h.by_ i e
    · obtain rfl : i = st.length := by omega
      simp only [if_true, List.getElem_append_right (Nat.le_refl _), Nat.sub_self, List.getElem_cons_zero]
      exact ⟨hz0, hbk⟩
  · intro i hi
    rw [List.length_append, List.length_cons, List.length_nil] at hi
    by_cases e : i < st.length
    · rw [List.getElem_append_left e]; exact h.len i e
    · obtain rfl : i = st.length := by omega
      simp only [List.getElem_append_right (Nat.le_refl _), Nat.sub_self, List.getElem_cons_zero, List.length_replicate]
  · intro i hi j hj
    rw [List.length_append, List.length_cons, List.length_nil] at hi
    by_cases e : i < st.length
    · simp only [if_neg (show ¬ i = st.length by omega), List.getElem_append_left e]
      refine (h.acc i e j hj).move fun b' e' => ?_
      have h2 := h.low b' (by rw [e']; intro e; cases e)
      simp only [if_pos h2.2]
      exact ⟨e', old _ h2.2 (fun e => by rw [e, h.lc] at e'; cases e') (fun e => by rw [h.gl _ e] at e'; cases e')⟩
    · obtain rfl : i = st.length := by omega
      simp only [if_true, List.getElem_append_right (Nat.le_refl _), Nat.sub_self, List.getElem_cons_zero]
      rw [hzk (j + 1) (by omega) (by omega)]
      have ez : (List.replicate ops.length zeroT).getD j zeroT = zeroT := by
        rw [List.getD_eq_getElem?_getD]
        simp [hj]
      rw [ez]
      by_cases eg : ops[j] = gList
      · exact .inr ⟨eg, none, 0, [], rfl, .inl rfl, World.ownsRow_nil _ _ _ _, by show (0 : Nat) ≤ _; omega, fun b e => by simp [Value.ownBlock] at e, fun k hk => absurd hk (Nat.not_lt_zero k)⟩
      · exact .inl ⟨eg, (zero_at w0).up (by omega), fun hk => absurd rfl hk⟩
end Go.Proofs.YtknakfpciccoaabGreatDoor
/- The walk of gathered: the group that a document belongs to. -/
namespace Go.Proofs.YtknakfpciccoaabGreatDoor
open Go.RowKit

/-- The group of a value: where it is, or will be; the groups behind it. -/
def gthI (st : List (T × List T)) (b : T) : Nat := st.findIdx fun s => eqT s.1 b
def gthS (n : Nat) (st : List (T × List T)) (b : T) : List (T × List T) := if gthI st b < st.length then st else st ++ [(b, List.replicate n zeroT)]
theorem gthI_found {st : List (T × List T)} {b : T} {k : Nat} (hk : k < st.length) (h : eqT st[k].1 b = true) (hb : ∀ j, (hj : j < st.length) → j < k → eqT st[j].1 b = false) : gthI st b = k := by
  unfold gthI
  rw [List.findIdx_eq hk]
  exact ⟨h, fun j hj => hb j (by omega) hj⟩
theorem gthI_none {st : List (T × List T)} {b : T} (hb : ∀ j, (hj : j < st.length) → eqT st[j].1 b = false) : gthI st b = st.length := by
  unfold gthI
  rw [List.findIdx_eq_length]
  intro x hx
  obtain ⟨j, hj, rfl⟩ := List.getElem_of_mem hx
  exact hb j hj
theorem grp_first (ks : List ByteArray) (s : T × List T) : elt (grpT ks s) 0 = s.1 := rfl
/-- What gathered leaves. -/
def GaPost (w0 : World) (c : Nat) (NA : Option Addr) (nc : Nat) (bv ev : Value) (ops : List ByteArray) (L0 : Nat → Lab) (st : List (T × List T)) (b : T) (w : World) (e : Ending) (w' : World) : Prop :=
  Below w0.heap.size w w' ∧ ∃ L gv xs rb ys, GrI w0 c NA nc bv ev ops L gv xs rb ys (gthS ops.length st b) w' ∧ (∀ b, b < w.heap.size → L0 b = .no → L b = .no ∧ w'.heap[b]? = w.heap[b]?) ∧ ∃ o, (ops ≠ [] → o = 5) ∧ e = .returned (.slice (some ⟨rb (gthI st b), o, none⟩) ops.length ops.length)
theorem anyL_offG {p : T → Bool} {t : T} : ∀ {k j : Nat}, anyL p t k = false → j < k → p (elt t j) = false
  | 0, _, _, h => absurd h (Nat.not_lt_zero _)
  | k + 1, j, h, hj => by
    rw [anyL, Bool.or_eq_false_iff] at h
    by_cases e : j < k
    · exact anyL_offG h.1 e
    · obtain rfl : j = k := by omega
      exact h.2
/-- The cell that tells a group's row. -/
theorem GrI.rowCell {w0 : World} {c : Nat} {NA : Option Addr} {nc : Nat} {bv ev : Value} {ops : List ByteArray} {L : Nat → Lab} {gv : Value} {xs : List Value} {rb : Nat → Nat} {ys : Nat → List Value} {st : List (T × List T)} {w : World} (h : GrI w0 c NA nc bv ev ops L gv xs rb ys st w) {i : Nat} (hi : i < st.length) : ∃ g cap, gv = .slice (some ⟨g, 0, none⟩) st.length cap ∧ w.cell? ⟨g, i * 5 + 3, none⟩ = some (.slice (some ⟨rb i, 0, none⟩) (ops.length + 1) (ops.length + 1)) := by
  have hx : xs.length = st.length * 5 := h.grow.1
  have hg := h.grow
  rcases h.grow.2 with ⟨rfl, h0⟩ | ⟨g, cap, cur, rfl, hb0, hgb, rest⟩
  · omega
  · refine ⟨g, cap, rfl, ?_⟩
    rw [row_cell hg (cx_some (by omega))]
    have := h.el i hi
    unfold fv at this
    simp only [Value.agg.injEq, Array.mk.injEq, List.cons.injEq, and_true] at this
    rw [this.2.2.2.1]
set_option maxHeartbeats 8000000 in
set_option maxRecDepth 100000 in
theorem gatheredOld_any (w0 : World) (c : Nat) (NA : Option Addr) (nc : Nat) (bv ev : Value) (ops : List ByteArray) (L : Nat → Lab) (gv : Value) (xs : List Value) (rb : Nat → Nat) (ys : Nat → List Value) (st : List (T × List T)) (b : T) (A C : Option Addr) (B D : Nat) (w : World) (ks : List ByteArray) (hI : GrI w0 c NA nc bv ev ops L gv xs rb ys st w) (hb0 : Below w0.heap.size w0 w) (hk : StrsAt w0 (.slice NA (ops.length + 1) nc) ks) (ho : ops.length ≤ 100000) (hn : st.length ≤ 1000000) (ha : At w0 13 (.agg #[.int .i64 (kindOf b), .int .i64 (nOf b), .string (sOf b), .slice A (nL b) B, .slice C (nK b) D]) b) (hbk : okA b) (hold : gthI st b < st.length) :
    Calls Tryz.prog 240 #[.pointer (some ⟨c, 0, none⟩), .agg #[.int .i64 (kindOf b), .int .i64 (nOf b), .string (sOf b), .slice A (nL b) B, .slice C (nK b) D]] w (GaPost w0 c NA nc bv ev ops L st b w) := by
  have hmf : ∀ (fn : Fn) (first cap : Array Value) (w : World), (Instr.makeFunc fn first cap).run Tryz.prog w = .ok (.func fn first cap) w := fun _ _ _ _ => rfl
  have HB1 : Hid (Below w.heap.size w (w.alloc (.cells #[.int .i64 (kindOf b), .int .i64 (nOf b), .string (sOf b), .slice A (nL b) B, .slice C (nK b) D] 36))) := (Below.refl _ _).alloc (Nat.le_refl _) _
  have HX := hid (box_new w (.int .i64 (kindOf b)) (.int .i64 (nOf b)) (.string (sOf b)) (.slice A (nL b) B) (.slice C (nK b) D))
  have HI1 := hid (hI.keep HB1.out)
  have HB01 := hid (hb0.trans (HB1.out.mono hb0.size))
  obtain ⟨GA, gc, hgv, hel⟩ := HI1.out.elems HB01.out hk ho
  have HIx := hid (indexFuncC_any (fun t => eqT (elt t 0) b) 242 (fun _ _ => rfl) (.pointer (some ⟨w.heap.size, 0, none⟩)) 15 GA gc (mkT 5 0 ByteArray.empty (st.map (grpT ks)) []) _ hel (by rw [nL_mk, List.length_map]; omega) (fun k hk' wr v hb ha' => by
    rw [nL_mk, List.length_map] at hk'
    rw [elt_docs _ (by rw [List.length_map]; exact hk'), List.getElem_map] at ha' ⊢
    exact gath1_any 15 13 v _ w.heap.size b A C B D wr ha' (by unfold grpT; rw [nL_mk]; simp) (by omega) (by rw [grp_first]; exact (hI.by_ k hk').2) ((ha.keep HB01.out).keep hb) hbk (HX.out.stay hb)))
  rw [nL_mk, List.length_map] at HIx
  have Hn : Hid (∀ k, (h : k < st.length) → elt (mkT 5 0 ByteArray.empty (st.map (grpT ks)) []) k = grpT ks st[k]) := fun k h => by rw [elt_docs _ (by rw [List.length_map]; exact h), List.getElem_map]
  have Hold := hid hold
  have HB0 := hid hb0
  have c4 := HI1.out.c4
  rw [hgv] at c4
  subst hgv
  clear hI hb0 hk ha hbk hel hold ho
  go_enter Tryz.func240, Tryz.ntmps240
  go_wp2_with fail
  refine HIx.out.mono ?_
  rintro e w2 ⟨b2, m, rfl, ⟨rfl, hno⟩ | ⟨k, rfl, hk, hp, hbef⟩⟩
  · exfalso
    have := gthI_none (st := st) (b := b) (fun j hj => by have := anyL_offG hno hj; rwa [Hn.out j hj, grp_first] at this)
    have := Hold.out
    omega
  · rw [Hn.out k hk, grp_first] at hp
    have HK := hid (gthI_found hk hp (fun j hj hjk => by have := anyL_offG hbef hjk; rwa [Hn.out j hj, grp_first] at this))
    have HI2 := hid (HI1.out.keep b2)
    have HBf := hid ((HB1.out.trans (b2.mono HB1.out.size)).mono HB0.out.size)
    have HBw := hid (HB1.out.trans (b2.mono HB1.out.size))
    obtain ⟨g, cap, hgv2, hrc⟩ := HI2.out.rowCell hk
    simp only [Value.slice.injEq, true_and] at hgv2
    obtain ⟨rfl, rfl⟩ := hgv2
    have c42 := HI2.out.c4
    have HS : Hid (gthS ops.length st b = st) := by show _ = _; unfold gthS; rw [if_pos (by rw [HK.out]; exact hk)]
    have x1 : (k : Int) < (st.length : Int) := by omega
    have x2 : ¬ (k : Int) < 0 := by omega
    clear b2 hp hbef HIx
    have Hret : Hid (GaPost w0 c NA nc bv ev ops L st b w (.returned (.slice (some ⟨rb k, if ops.length = 0 then 0 else 5, none⟩) ops.length ops.length)) w2) := by
      refine ⟨HBf.out, L, _, xs, rb, ys, by rw [HS.out]; exact HI2.out, fun b h1 h2 => ⟨h2, HBw.out.block b h1⟩, _, fun h => ?_, by rw [HK.out]⟩
      rw [if_neg]
      intro e
      exact h (List.length_eq_zero_iff.1 e)
    clear HI2 HBf HBw HS HK HB0 Hold Hn HI1 HB1 HB01
    rcases Nat.eq_zero_or_pos ops.length with e0 | e0
    · rw [if_pos e0, e0] at Hret
      go_wp2_with fail
      all_goals (go_ret; first | exact Hret.out | (exfalso; omega))
    · rw [if_neg (by omega)] at Hret
      have e1 : ops ≠ [] := fun e => by rw [e] at e0; exact absurd e0 (Nat.lt_irrefl 0)
      go_wp2_with fail
      all_goals first | contradiction | (go_ret; exact Hret.out)
end Go.Proofs.YtknakfpciccoaabGreatDoor
/- The walk of gathered: a group that there was none of. -/
namespace Go.Proofs.YtknakfpciccoaabGreatDoor
open Go.RowKit

theorem gthS_new {n : Nat} {st : List (T × List T)} {b : T} (h : gthI st b = st.length) : gthS n st b = st ++ [(b, List.replicate n zeroT)] := by
  unfold gthS
  rw [if_neg (by omega)]
theorem GrI.newA {w0 : World} {c : Nat} {NA : Option Addr} {nc : Nat} {bv ev : Value} {ops : List ByteArray} {L : Nat → Lab} {gv : Value} {xs : List Value} {rb : Nat → Nat} {ys : Nat → List Value} {st : List (T × List T)} {w w2 W4 w6 : World} (h : GrI w0 c NA nc bv ev ops L gv xs rb ys st w2) (hw : w0.heap.size ≤ w.heap.size) (hbf : Below w.heap.size w w2) (hb : Below w2.heap.size w2 W4) {r : Nat} {zs : List Value} (hr0 : w2.heap.size ≤ r) (hr : W4.ownsRow w2.heap.size 36 5 (.slice (some ⟨r, 0, none⟩) (ops.length + 1) (ops.length + 1)) (ops.length + 1) zs) {b : T} {v : Value} (ha : At w0 13 v b) (hbk : okA b) (hz : fv zs 0 = v ∧ ∀ k, 1 ≤ k → k < ops.length + 1 → fv zs k = .agg #[.int .i64 0, .int .i64 0, .string ⟨#[]⟩, .slice none 0 0, .slice none 0 0]) (hG : W4.grownBy w6 gv.ownBlock) {g cap n : Nat} {y0 y1 y2 y3 y4 : Value} (hn : n = W4.heap.size) (hat : gv.ownBlock = some g ∨ g = n) (hlt : g < w6.heap.size) (hgc : g ≠ c) (hown : w6.ownsRow w0.heap.size 36 5 (.slice (some ⟨g, 0, none⟩) (st.length + 1) cap) (st.length + 1) (xs ++ [y0, y1, y2, y3, y4])) (hc : w6.cell? ⟨c, 4, none⟩ = some gv) (wF : World) (hF : wF = (put5o w6 g (st.length * 5) (.int .i64 6) (.int .i64 0) (.string ⟨#[]⟩) (.slice (some ⟨r, 0, none⟩) (ops.length + 1) (ops.length + 1)) (.slice NA (ops.length + 1) nc)).setCell ⟨c, 4, none⟩ (.slice (some ⟨g, 0, none⟩) (st.length + 1) cap) ∨ wF = put5o (w6.setCell ⟨c, 4, none⟩ (.slice (some ⟨g, 0, none⟩) (st.length + 1) cap)) g (st.length * 5) (.int .i64 6) (.int .i64 0) (.string ⟨#[]⟩) (.slice (some ⟨r, 0, none⟩) (ops.length + 1) (ops.length + 1)) (.slice NA (ops.length + 1) nc)) :
    Below w0.heap.size w wF ∧ ∃ L' gv' xs' rb' ys', GrI w0 c NA nc bv ev ops L' gv' xs' rb' ys' (st ++ [(b, List.replicate ops.length zeroT)]) wF ∧ ∀ b, b < w.heap.size → L b = .no → L' b = .no ∧ wF.heap[b]? = w.heap[b]? := by
  have hx : xs.length = st.length * 5 := h.grow.1
  have hFin : GFin w0.heap.size c g st.length cap xs [.int .i64 6, .int .i64 0, .string ⟨#[]⟩, .slice (some ⟨r, 0, none⟩) (ops.length + 1) (ops.length + 1), .slice NA (ops.length + 1) nc] w6 wF := by
    rcases hF with rfl | rfl
    · exact gfinA hown hx hgc hc _ _ _ _ _
    · exact gfinB hown hx hgc hc _ _ _ _ _
  obtain ⟨k1, L', xs', k3, k2⟩ := h.snoc hb hG (hat.imp id fun e => by omega) hlt hr0 hr (by rw [hz.1]; exact ha) hbk hz.2 hFin
  exact ⟨(hbf.mono hw).trans k1, L', _, xs', _, _, k2, fun b h1 h2 => ⟨(k3 b (Nat.lt_of_lt_of_le h1 hbf.size) h2).1, (k3 b (Nat.lt_of_lt_of_le h1 hbf.size) h2).2.trans (hbf.block b h1)⟩⟩
set_option maxHeartbeats 8000000 in
set_option maxRecDepth 100000 in
theorem gatheredNew_any (w0 : World) (c : Nat) (NA : Option Addr) (nc : Nat) (bv ev : Value) (ops : List ByteArray) (L : Nat → Lab) (gv : Value) (xs : List Value) (rb : Nat → Nat) (ys : Nat → List Value) (st : List (T × List T)) (b : T) (A C : Option Addr) (B D : Nat) (w : World) (ks : List ByteArray) (hI : GrI w0 c NA nc bv ev ops L gv xs rb ys st w) (hb0 : Below w0.heap.size w0 w) (hk : StrsAt w0 (.slice NA (ops.length + 1) nc) ks) (ho : ops.length ≤ 100000) (hn : st.length ≤ 1000000) (ha : At w0 13 (.agg #[.int .i64 (kindOf b), .int .i64 (nOf b), .string (sOf b), .slice A (nL b) B, .slice C (nK b) D]) b) (hbk : okA b) (hnew : gthI st b = st.length) :
    Calls Tryz.prog 240 #[.pointer (some ⟨c, 0, none⟩), .agg #[.int .i64 (kindOf b), .int .i64 (nOf b), .string (sOf b), .slice A (nL b) B, .slice C (nK b) D]] w (GaPost w0 c NA nc bv ev ops L st b w) := by
  obtain ⟨iV, hiV, zV0, zV1, zV2⟩ := info_parts infoV
  have hmf : ∀ (fn : Fn) (first cap : Array Value) (w : World), (Instr.makeFunc fn first cap).run Tryz.prog w = .ok (.func fn first cap) w := fun _ _ _ _ => rfl
  have HB1 : Hid (Below w.heap.size w (w.alloc (.cells #[.int .i64 (kindOf b), .int .i64 (nOf b), .string (sOf b), .slice A (nL b) B, .slice C (nK b) D] 36))) := (Below.refl _ _).alloc (Nat.le_refl _) _
  have HX := hid (box_new w (.int .i64 (kindOf b)) (.int .i64 (nOf b)) (.string (sOf b)) (.slice A (nL b) B) (.slice C (nK b) D))
  have HI1 := hid (hI.keep HB1.out)
  have HB01 := hid (hb0.trans (HB1.out.mono hb0.size))
  obtain ⟨GA, gc, hgv, hel⟩ := HI1.out.elems HB01.out hk ho
  have HIx := hid (indexFuncC_any (fun t => eqT (elt t 0) b) 242 (fun _ _ => rfl) (.pointer (some ⟨w.heap.size, 0, none⟩)) 15 GA gc (mkT 5 0 ByteArray.empty (st.map (grpT ks)) []) _ hel (by rw [nL_mk, List.length_map]; omega) (fun k hk' wr v hb ha' => by
    rw [nL_mk, List.length_map] at hk'
    rw [elt_docs _ (by rw [List.length_map]; exact hk'), List.getElem_map] at ha' ⊢
    exact gath1_any 15 13 v _ w.heap.size b A C B D wr ha' (by unfold grpT; rw [nL_mk]; simp) (by omega) (by rw [grp_first]; exact (hI.by_ k hk').2) ((ha.keep HB01.out).keep hb) hbk (HX.out.stay hb)))
  rw [nL_mk, List.length_map] at HIx
  have Hn : Hid (∀ k, (h : k < st.length) → elt (mkT 5 0 ByteArray.empty (st.map (grpT ks)) []) k = grpT ks st[k]) := fun k h => by rw [elt_docs _ (by rw [List.length_map]; exact h), List.getElem_map]
  have Hold := hid hnew
  have HB0 := hid hb0
  have Hk := hid hk
  have Ha := hid ha
  have Hbk := hid hbk
  have Ho := hid ho
  have hnn := hid hn
  have hcw := HI1.out.low c (by rw [HI1.out.lc]; intro e; cases e)
  have c4 := HI1.out.c4
  rw [hgv] at c4
  subst hgv
  clear hI hb0 hk ha hbk hel hnew ho hn
  go_enter Tryz.func240, Tryz.ntmps240
  go_wp2_with fail
  refine HIx.out.mono ?_
  rintro e w2 ⟨b2, m, rfl, ⟨rfl, hno⟩ | ⟨k, rfl, hk, hp, hbef⟩⟩
  · have HI2 := hid (HI1.out.keep b2)
    have HX2 := hid (HX.out.stay b2)
    have HBf := hid (HB1.out.trans (b2.mono HB1.out.size))
    have Hw0 := hid HB0.out.size
    have hl := hid (HI2.out.low c (by rw [HI2.out.lc]; intro e; cases e))
    clear b2 HIx hno
    have c42 := HI2.out.c4
    go_upto_region 4 with fail
    go_cut [] (fun wx => Hid (Below w0.heap.size w wx ∧ ∃ L' gv' xs' rb' ys', GrI w0 c NA nc bv ev ops L' gv' xs' rb' ys' (st ++ [(b, List.replicate ops.length zeroT)]) wx ∧ ∀ b, b < w.heap.size → L b = .no → L' b = .no ∧ wx.heap[b]? = w.heap[b]?))
    case first =>
      have HQ0 : Hid (Below w2.heap.size w2 w2.drew) := below_drew _
      have HQ1 : Hid (Below w2.heap.size w2 (w2.alloc (.cells #[.int .i64 0, .int .i64 0, .string ⟨#[]⟩, .slice none 0 0, .slice none 0 0] 36)).drew) := ((Below.refl _ _).alloc (Nat.le_refl _) _).drew
      have HA3 : Hid (Below w2.heap.size w2 (w2.alloc (.cells #[.int .i64 0, .int .i64 0, .string ⟨#[]⟩, .slice none 0 0, .slice none 0 0] 36))) := (Below.refl _ _).alloc (Nat.le_refl _) _
      have HXl : Hid (xs.length = st.length * 5) := HI2.out.grow.1
      have HC : Hid (∀ wx, Below w2.heap.size w2 wx → _) := fun wx hq => start_any c (ops.length + 1) NA nc b A C B D wx (by omega) (by have := Ho.out; omega) (Nat.lt_of_lt_of_le hl.out.2 hq.size) ((hq.cell (p := ⟨c, 1, none⟩) hl.out.2).trans HI2.out.c1)
      have HX3 := hid (HX2.out.stay HA3.out)
      have c4a := (HA3.out.cell (p := ⟨c, 4, none⟩) hl.out.2).trans c42
      have r0 := HX2.out.q0
      have r1 := HX2.out.q1
      have r2 := HX2.out.q2
      have r3 := HX2.out.q3
      have r4 := HX2.out.q4
      have ra0 := HX3.out.q0
      have ra1 := HX3.out.q1
      have ra2 := HX3.out.q2
      have ra3 := HX3.out.q3
      have ra4 := HX3.out.q4
      have HGc : Hid (∀ g n, c < n → ((Value.slice GA st.length gc).ownBlock = some g ∨ g = n) → g ≠ c) := fun g n hn hg e => by
        subst e
        rcases hg with hg | hg
        · have := HI2.out.gl _ hg
          rw [HI2.out.lc] at this
          cases this
        · omega
      have HAp : Hid (some c ≠ (Value.slice GA st.length gc).ownBlock) := fun e => by
        have := HI2.out.gl _ e.symm
        rw [HI2.out.lc] at this
        cases this
      have x9 : (st.length : Int) < (st.length : Int) + 1 := by omega
      clear HB1 HX HB01 Hn Hold HB0 Hk hcw c4 HI1 hmf
      go_region_law (first | (refine step_append_lies _ (by rfl) _ _ _ (by rfl) w0.heap.size 36 iV _ 5 80 Tryz.underlying34 hiV zV0 zV1 zV2 rfl (by omega) (.slice GA st.length gc) st.length xs (by rfl) HI3a.out.grow ⟨w3.heap.size, 0, none⟩ 1 1 [.int .i64 0, .int .i64 0, .string ⟨#[]⟩, .slice none 0 0, .slice none 0 0] (by rfl) (by rfl) (World.news_of_block (cs := #[.int .i64 0, .int .i64 0, .string ⟨#[]⟩, .slice none 0 0, .slice none 0 0]) (t := 36) (fr := (0, 0)) (heap_alloc_new w3 _)) (by simp [Value.oneCell']) (by omega) (by unfold maxLen; have := hnn.out; omega) (by have := hnn.out; omega) (by first | exact HLo3.out | (simp only [World.size_alloc]; have := HLo3.out; omega)) (w3.heap.size + 1) (by simp) ?_; intro g cap w6 hown6 hgrow6 hat6 hlt6; have hgc : g ≠ c := HGc.out g _ (by have := hl.out.2; have := HLo3.out; have := HB3.out.size; simp; omega) hat6; have hcg : c ≠ g := fun e => hgc e.symm; have HB6 := hid (hgrow6.block c (HI3a.out.low c (by rw [HI3a.out.lc]; intro e; cases e)).2 HAp.out); have c6 := (cell_of HB6.out 4).trans HI3a.out.c4; have f6 := (World.frozen?_of_block (a := ⟨c, 4, none⟩) HB6.out).trans HI3a.out.f4; have y0 : w6.cell? ⟨g, st.length * 5, none⟩ = some (.int .i64 0) := new_cell hown6 HXl.out 0 (by omega) rfl; have z0 : w6.frozen? ⟨g, st.length * 5, none⟩ = false := hown6.frozenAt _; have y1 : w6.cell? ⟨g, st.length * 5 + 1, none⟩ = some (.int .i64 0) := new_cell hown6 HXl.out 1 (by omega) rfl; have z1 : w6.frozen? ⟨g, st.length * 5 + 1, none⟩ = false := hown6.frozenAt _; have y2 : w6.cell? ⟨g, st.length * 5 + 2, none⟩ = some (.string ⟨#[]⟩) := new_cell hown6 HXl.out 2 (by omega) rfl; have z2 : w6.frozen? ⟨g, st.length * 5 + 2, none⟩ = false := hown6.frozenAt _; have y3 : w6.cell? ⟨g, st.length * 5 + 3, none⟩ = some (.slice none 0 0) := new_cell hown6 HXl.out 3 (by omega) rfl; have z3 : w6.frozen? ⟨g, st.length * 5 + 3, none⟩ = false := hown6.frozenAt _; have y4 : w6.cell? ⟨g, st.length * 5 + 4, none⟩ = some (.slice none 0 0) := new_cell hown6 HXl.out 4 (by omega) rfl; have z4 : w6.frozen? ⟨g, st.length * 5 + 4, none⟩ = false := hown6.frozenAt _; have HFA := hid (GrI.newA HI2.out Hw0.out HBf.out HB4.out HT3.out.1 HT4.out Ha.out Hbk.out HT3.out.2.2 hgrow6 (by simp) hat6 hlt6 hgc hown6 c6 _ (.inl rfl)); have HFB := hid (GrI.newA HI2.out Hw0.out HBf.out HB4.out HT3.out.1 HT4.out Ha.out Hbk.out HT3.out.2.2 hgrow6 (by simp) hat6 hlt6 hgc hown6 c6 _ (.inr rfl)); clear hown6 hgrow6 hat6 hlt6 HB6) | (refine step_append_lies _ (by rfl) _ _ _ (by rfl) w0.heap.size 36 iV _ 5 80 Tryz.underlying34 hiV zV0 zV1 zV2 rfl (by omega) (.slice GA st.length gc) st.length xs (by rfl) HI3.out.grow ⟨w2.heap.size, 0, none⟩ 1 1 [.int .i64 0, .int .i64 0, .string ⟨#[]⟩, .slice none 0 0, .slice none 0 0] (by rfl) (by rfl) (World.news_of_block (cs := #[.int .i64 0, .int .i64 0, .string ⟨#[]⟩, .slice none 0 0, .slice none 0 0]) (t := 36) (fr := (0, 0)) HZ3.out) (by simp [Value.oneCell']) (by omega) (by unfold maxLen; have := hnn.out; omega) (by have := hnn.out; omega) (by first | exact HLo3.out | (simp only [World.size_alloc]; have := HLo3.out; omega)) w3.heap.size (by simp) ?_; intro g cap w6 hown6 hgrow6 hat6 hlt6; have hgc : g ≠ c := HGc.out g _ (by have := hl.out.2; have := HLo3.out; have := HB3.out.size; simp; omega) hat6; have hcg : c ≠ g := fun e => hgc e.symm; have HB6 := hid (hgrow6.block c (HI3.out.low c (by rw [HI3.out.lc]; intro e; cases e)).2 HAp.out); have c6 := (cell_of HB6.out 4).trans HI3.out.c4; have f6 := (World.frozen?_of_block (a := ⟨c, 4, none⟩) HB6.out).trans HI3.out.f4; have y0 : w6.cell? ⟨g, st.length * 5, none⟩ = some (.int .i64 0) := new_cell hown6 HXl.out 0 (by omega) rfl; have z0 : w6.frozen? ⟨g, st.length * 5, none⟩ = false := hown6.frozenAt _; have y1 : w6.cell? ⟨g, st.length * 5 + 1, none⟩ = some (.int .i64 0) := new_cell hown6 HXl.out 1 (by omega) rfl; have z1 : w6.frozen? ⟨g, st.length * 5 + 1, none⟩ = false := hown6.frozenAt _; have y2 : w6.cell? ⟨g, st.length * 5 + 2, none⟩ = some (.string ⟨#[]⟩) := new_cell hown6 HXl.out 2 (by omega) rfl; have z2 : w6.frozen? ⟨g, st.length * 5 + 2, none⟩ = false := hown6.frozenAt _; have y3 : w6.cell? ⟨g, st.length * 5 + 3, none⟩ = some (.slice none 0 0) := new_cell hown6 HXl.out 3 (by omega) rfl; have z3 : w6.frozen? ⟨g, st.length * 5 + 3, none⟩ = false := hown6.frozenAt _; have y4 : w6.cell? ⟨g, st.length * 5 + 4, none⟩ = some (.slice none 0 0) := new_cell hown6 HXl.out 4 (by omega) rfl; have z4 : w6.frozen? ⟨g, st.length * 5 + 4, none⟩ = false := hown6.frozenAt _; have HFA := hid (GrI.newA HI2.out Hw0.out HBf.out HB4.out HT3.out.1 HT4.out Ha.out Hbk.out HT3.out.2.2 hgrow6 rfl hat6 hlt6 hgc hown6 c6 _ (.inl rfl)); have HFB := hid (GrI.newA HI2.out Hw0.out HBf.out HB4.out HT3.out.1 HT4.out Ha.out Hbk.out HT3.out.2.2 hgrow6 rfl hat6 hlt6 hgc hown6 c6 _ (.inr rfl)); clear hown6 hgrow6 hat6 hlt6 HB6) | (go_simp; go_wp2_with (go_at_call 243; refine (HC.out _ HQ0.out).mono ?_; rintro e w3 ⟨b3, r, zs, hr0, rfl, hrow, hz0, hzk⟩; have HB3 := hid (HQ0.out.trans (b3.mono HQ0.out.size)); have HT3 := hid (And.intro (Nat.le_trans HQ0.out.size hr0) (And.intro (own_base hrow (fun b hb => Nat.le_trans HQ0.out.size (hrow.lt b hb).1)) (And.intro hz0 hzk))); have HI3 := hid (HI2.out.keep HB3.out); have HI3a := hid (HI3.out.keep ((Below.refl _ _).alloc (Nat.le_refl _) (.cells #[.int .i64 0, .int .i64 0, .string ⟨#[]⟩, .slice none 0 0, .slice none 0 0] 36))); have HLo3 : Hid (w0.heap.size ≤ w3.heap.size) := Nat.le_trans (Nat.le_of_lt (Nat.lt_of_le_of_lt hl.out.1 hl.out.2)) HB3.out.size; have c43 := HI3.out.c4; have c43a := HI3a.out.c4; have HB4 := hid (HB3.out.alloc HB3.out.size (.cells #[.int .i64 0, .int .i64 0, .string ⟨#[]⟩, .slice none 0 0, .slice none 0 0] 36)); have HT4 := hid (HT3.out.2.1.alloc (.cells #[.int .i64 0, .int .i64 0, .string ⟨#[]⟩, .slice none 0 0, .slice none 0 0] 36)); have HCALL := hid True.intro; clear b3 hr0 hrow hz0 hzk); clear HCALL) | (go_simp; go_wp2_with (go_at_call 243; refine (HC.out _ HQ1.out).mono ?_; rintro e w3 ⟨b3, r, zs, hr0, rfl, hrow, hz0, hzk⟩; have HB3 := hid (HQ1.out.trans (b3.mono HQ1.out.size)); have HT3 := hid (And.intro (Nat.le_trans HQ1.out.size hr0) (And.intro (own_base hrow (fun b hb => Nat.le_trans HQ1.out.size (hrow.lt b hb).1)) (And.intro hz0 hzk))); have HI3 := hid (HI2.out.keep HB3.out); have HZ3 := hid ((b3.block w2.heap.size (by show _ < (w2.alloc (.cells #[.int .i64 0, .int .i64 0, .string ⟨#[]⟩, .slice none 0 0, .slice none 0 0] 36)).heap.size; simp)).trans (heap_alloc_new w2 (.cells #[.int .i64 0, .int .i64 0, .string ⟨#[]⟩, .slice none 0 0, .slice none 0 0] 36))); have HLo3 : Hid (w0.heap.size ≤ w3.heap.size) := Nat.le_trans (Nat.le_of_lt (Nat.lt_of_le_of_lt hl.out.1 hl.out.2)) HB3.out.size; have c43 := HI3.out.c4; have HB4 := hid HB3.out; have HT4 := hid HT3.out.2.1; clear b3 hr0 hrow hz0 hzk)))
      all_goals
        go_wp2_with fail
        go_meet
        unfold put5o at HFA HFB
        first | with_reducible exact HFA | with_reducible exact HFB
    case rest =>
      obtain ⟨HBn, L', gv', xs', rb', ys', HG, HL⟩ := hcut.out
      have HLL := hid HL
      have HBN := hid HBn
      have HGR := hid HG
      have HS := hid (gthS_new (n := ops.length) Hold.out)
      obtain ⟨g, cap, hgv2, hrc⟩ := HG.rowCell (i := st.length) (by rw [List.length_append]; simp)
      rw [List.length_append, List.length_cons, List.length_nil] at hgv2
      subst hgv2
      have c4f := HG.c4
      have x1 : (st.length : Int) < (st.length : Int) + 1 := by omega
      have x2 : ¬ (st.length : Int) < 0 := by omega
      clear HG HBn hcut HL
      have Hret : Hid (GaPost w0 c NA nc bv ev ops L st b w (.returned (.slice (some ⟨rb' st.length, if ops.length = 0 then 0 else 5, none⟩) ops.length ops.length)) wc) := by
        refine ⟨HBN.out, L', _, xs', rb', ys', by rw [HS.out]; exact HGR.out, HLL.out, _, fun h => ?_, by rw [Hold.out]⟩
        rw [if_neg]
        intro e
        exact h (List.length_eq_zero_iff.1 e)
      clear HGR HBN HS HLL Hw0 Hold HI2 HBf HB0 Hn HI1 HB1 HB01 HX HX2 Hk Ha c42 c4 hcw
      rcases Nat.eq_zero_or_pos ops.length with e0 | e0
      · rw [if_pos e0, e0] at Hret
        go_wp2_with fail
        all_goals (go_ret; first | exact Hret.out | (exfalso; omega))
      · rw [if_neg (by omega)] at Hret
        have e1 : ops ≠ [] := fun e => by rw [e] at e0; exact absurd e0 (Nat.lt_irrefl 0)
        go_wp2_with fail
        all_goals first | contradiction | (go_ret; exact Hret.out)
  · exfalso
    rw [Hn.out k hk, grp_first] at hp
    have HK := gthI_found hk hp (fun j hj hjk => by have := anyL_offG hbef hjk; rwa [Hn.out j hj, grp_first] at this)
    have := Hold.out
    omega
theorem gathered_any (w0 : World) (c : Nat) (NA : Option Addr) (nc : Nat) (bv ev : Value) (ops : List ByteArray) (L : Nat → Lab) (gv : Value) (xs : List Value) (rb : Nat → Nat) (ys : Nat → List Value) (st : List (T × List T)) (b : T) (A C : Option Addr) (B D : Nat) (w : World) (ks : List ByteArray) (hI : GrI w0 c NA nc bv ev ops L gv xs rb ys st w) (hb0 : Below w0.heap.size w0 w) (hk : StrsAt w0 (.slice NA (ops.length + 1) nc) ks) (ho : ops.length ≤ 100000) (hn : st.length ≤ 1000000) (ha : At w0 13 (.agg #[.int .i64 (kindOf b), .int .i64 (nOf b), .string (sOf b), .slice A (nL b) B, .slice C (nK b) D]) b) (hbk : okA b) :
    Calls Tryz.prog 240 #[.pointer (some ⟨c, 0, none⟩), .agg #[.int .i64 (kindOf b), .int .i64 (nOf b), .string (sOf b), .slice A (nL b) B, .slice C (nK b) D]] w (GaPost w0 c NA nc bv ev ops L st b w) := by
  by_cases h : gthI st b < st.length
  · exact gatheredOld_any w0 c NA nc bv ev ops L gv xs rb ys st b A C B D w ks hI hb0 hk ho (by omega) ha hbk h
  · exact gatheredNew_any w0 c NA nc bv ev ops L gv xs rb ys st b A C B D w ks hI hb0 hk ho hn ha hbk (by have : gthI st b ≤ st.length := List.findIdx_le_length; omega)
end Go.Proofs.YtknakfpciccoaabGreatDoor
