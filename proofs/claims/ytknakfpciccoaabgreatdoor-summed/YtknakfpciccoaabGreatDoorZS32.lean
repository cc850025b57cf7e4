import Derived.Test.YtknakfpciccoaabGreatDoorZS31
import Derived.Test.YtknakfpciccoaabGreatDoorZS20
/- The groups, behind an entry's turn. -/
namespace Go.Proofs.YtknakfpciccoaabGreatDoor
open Go.RowKit

/-- What an entry comes to, with what it has gathered. -/
def accS (g : T → Int ⊕ T) (op : ByteArray) (s doc : T) : Int ⊕ T := if op = gList then (match g doc with | .inl x => .inl x | .inr v => .inr (mkT 5 0 ByteArray.empty (lOf s ++ [v]) [])) else accG g op s doc
def stPut (st : List (T × List T)) (i j : Nat) (t : T) : List (T × List T) := st.modify i fun s => (s.1, s.2.set j t)
theorem stPut_len (st : List (T × List T)) (i j : Nat) (t : T) : (stPut st i j t).length = st.length := List.length_modify _ _ _
theorem stPut_get (st : List (T × List T)) (i j : Nat) (t : T) {k : Nat} (hk : k < st.length) : (stPut st i j t)[k]'(by rw [stPut_len]; exact hk) = if i = k then (st[k].1, st[k].2.set j t) else st[k] := by
  unfold stPut
  rw [List.getElem_modify]
/-- A value of a group's row is written. -/
theorem GrI.put {w0 : World} {c : Nat} {NA : Option Addr} {nc : Nat} {bv ev : Value} {ops : List ByteArray} {L : Nat → Lab} {gv : Value} {xs : List Value} {rb : Nat → Nat} {ys : Nat → List Value} {st : List (T × List T)} {w : World} (h : GrI w0 c NA nc bv ev ops L gv xs rb ys st w) {L' : Nat → Lab} {w5 : World} {i j : Nat} (hi : i < st.length) (hj : j < ops.length) (hk : ∀ b, L b ≠ .no → L b ≠ .lst i j → L' b = L b ∧ w5.heap[b]? = w.heap[b]?) (hn : ∀ b, L' b ≠ .no → w0.heap.size ≤ b ∧ b < w5.heap.size) {u0 u1 u2 u3 u4 : Value} {t : T} (ha : AccAt w0 L' w5 i j ops[j] (.agg #[u0, u1, u2, u3, u4]) t) :
    GrI w0 c NA nc bv ev ops L' gv xs rb (fun k => if k = i then setV (ys i) (j + 1) u0 u1 u2 u3 u4 else ys k) (stPut st i j t) (put5o w5 (rb i) ((j + 1) * 5) u0 u1 u2 u3 u4) := by
  have hW : ∀ b, b ≠ rb i → (put5o w5 (rb i) ((j + 1) * 5) u0 u1 u2 u3 u4).heap[b]? = w5.heap[b]? := fun b hb => put5o_other w5 hb _ _ _ _ _ _
  obtain ⟨r1, r2, r3, r4⟩ := put5o_rest w5 (rb i) ((j + 1) * 5) u0 u1 u2 u3 u4
  have hri := h.rl i hi
  obtain ⟨l1, l2⟩ := hk (rb i) (by rw [hri]; intro e; cases e) (by rw [hri]; intro e; cases e)
  have hrow : w5.ownsRow w0.heap.size 36 5 (.slice (some ⟨rb i, 0, none⟩) (ops.length + 1) (ops.length + 1)) (ops.length + 1) (ys i) := own_move (h.row i hi) fun b e => by
    obtain rfl : rb i = b := by simpa [Value.ownBlock] using e
    exact l2
  have hrow' := (row_setV hrow (j + 1) u0 u1 u2 u3 u4).1
  generalize put5o w5 (rb i) ((j + 1) * 5) u0 u1 u2 u3 u4 = W at *
  have hy : (ys i).length = (ops.length + 1) * 5 := hrow.1
  have old : ∀ b, L b ≠ .no → L b ≠ .lst i j → b ≠ rb i → L' b = L b ∧ W.heap[b]? = w.heap[b]? := fun b h1 h2 h3 => ⟨(hk b h1 h2).1, (hW b h3).trans (hk b h1 h2).2⟩
  obtain ⟨k1, k2⟩ := old c (by rw [h.lc]; intro e; cases e) (by rw [h.lc]; intro e; cases e) (fun e => by rw [← e, h.lc] at hri; cases hri)
  refine ⟨k1.trans h.lc, fun b hb => by rw [r1]; exact hn b hb, (cell_of k2 0).trans h.c0, (cell_of k2 1).trans h.c1, (cell_of k2 2).trans h.c2, (cell_of k2 3).trans h.c3, (cell_of k2 4).trans h.c4, (World.frozen?_of_block (a := ⟨c, 0, none⟩) k2).trans h.f0, (World.frozen?_of_block (a := ⟨c, 4, none⟩) k2).trans h.f4, ?_, fun b e => ?_, ?_, ?_, ?_, ?_, ?_, ?_⟩
  · rw [stPut_len]
    exact own_move h.grow fun b e => (old b (by rw [h.gl b e]; intro e; cases e) (by rw [h.gl b e]; intro e; cases e) (fun e' => by have := h.gl b e; rw [e', hri] at this; cases this)).2
  · have hg := h.gl b e
    exact (hk b (by rw [hg]; intro e; cases e) (by rw [hg]; intro e; cases e)).1.trans hg
  · intro k hk'
    have hk2 : k < st.length := by rw [stPut_len] at hk'; exact hk'
    exact h.el k hk2
  · intro k hk'
    have hk2 : k < st.length := by rw [stPut_len] at hk'; exact hk'
    have hg := h.rl k hk2
    exact (hk _ (by rw [hg]; intro e; cases e) (by rw [hg]; intro e; cases e)).1.trans hg
  · intro k hk'
    have hk2 : k < st.length := by rw [stPut_len] at hk'; exact hk'
    by_cases e : k = i
    · subst e
      rw [if_pos rfl]
      exact hrow'
    · rw [if_neg e]
      refine own_move (h.row k hk2) fun b eb => ?_
      obtain rfl : rb k = b := by simpa [Value.ownBlock] using eb
      have hg := h.rl k hk2
      exact (old _ (by rw [hg]; intro e; cases e) (by rw [hg]; intro e; cases e) (fun e' => by rw [e', hri] at hg; simp only [Lab.row.injEq] at hg; exact e hg.symm)).2
  · intro k hk'
    have hk2 : k < st.length := by rw [stPut_len] at hk'; exact hk'
    rw [stPut_get st i j t hk2]
    by_cases e : k = i
    · subst e
      simp only [if_true]
      rw [fv_setV_other (by omega)]
      exact h.by_ k hk2
    · rw [if_neg e, if_neg (fun x => e x.symm)]
      exact h.by_ k hk2
  · intro k hk'
    have hk2 : k < st.length := by rw [stPut_len] at hk'; exact hk'
    rw [stPut_get st i j t hk2]
    by_cases e : i = k
    · rw [if_pos e, List.length_set]
      exact h.len k hk2
    · rw [if_neg e]
      exact h.len k hk2
  · intro k hk' j' hj'
    have hk2 : k < st.length := by rw [stPut_len] at hk'; exact hk'
    rw [stPut_get st i j t hk2]
    have hmv : (k ≠ i ∨ j' ≠ j) → ∀ b, L b = .lst k j' → L' b = .lst k j' ∧ W.heap[b]? = w.heap[b]? := fun hne b hb => by
      have := old b (by rw [hb]; intro e; cases e) (by
        rw [hb]
        intro e
        simp only [Lab.lst.injEq] at e
        rcases hne with hne | hne
        · exact hne e.1
        · exact hne e.2) (fun e' => by rw [e', hri] at hb; cases hb)
      exact ⟨this.1.trans hb, this.2⟩
    by_cases e : k = i
    · subst e
      simp only [if_true]
      have hl := h.len k hk2
      by_cases e2 : j' = j
      · subst e2
        rw [fv_setV_same (by omega), List.getD_eq_getElem?_getD, List.getElem?_set_self (by omega)]
        refine ha.move fun b hb => ⟨hb, hW b fun e' => ?_⟩
        rw [e', l1, hri] at hb
        cases hb
      · rw [fv_setV_other (by omega), List.getD_eq_getElem?_getD, List.getElem?_set_ne (by omega), ← List.getD_eq_getElem?_getD]
        exact (h.acc k hk2 j' hj').move (hmv (.inr e2))
    · simp only [if_neg e, if_neg (fun x : i = k => e x.symm)]
      exact (h.acc k hk2 j' hj').move (hmv (.inl e))
/-- .. behind a call that left all as it was. -/
theorem GrI.putB {w0 : World} {c : Nat} {NA : Option Addr} {nc : Nat} {bv ev : Value} {ops : List ByteArray} {L : Nat → Lab} {gv : Value} {xs : List Value} {rb : Nat → Nat} {ys : Nat → List Value} {st : List (T × List T)} {w : World} (h : GrI w0 c NA nc bv ev ops L gv xs rb ys st w) {w5 : World} (hb : Below w.heap.size w w5) {i j : Nat} (hi : i < st.length) (hj : j < ops.length) (hne : ops[j] ≠ gList) {u0 u1 u2 u3 u4 : Value} {t : T} (ha : At w0 13 (.agg #[u0, u1, u2, u3, u4]) t) (hok : kindOf t ≠ 0 → okA t) :
    GrI w0 c NA nc bv ev ops L gv xs rb (fun k => if k = i then setV (ys i) (j + 1) u0 u1 u2 u3 u4 else ys k) (stPut st i j t) (put5o w5 (rb i) ((j + 1) * 5) u0 u1 u2 u3 u4) :=
  h.put hi hj (fun b h1 _ => ⟨rfl, hb.block b (h.low b h1).2⟩) (fun b h1 => ⟨(h.low b h1).1, Nat.lt_of_lt_of_le (h.low b h1).2 hb.size⟩) (.inl ⟨hne, ha, hok⟩)
/-- .. behind one that made a list longer. -/
theorem GrI.putL {w0 : World} {c : Nat} {NA : Option Addr} {nc : Nat} {bv ev : Value} {ops : List ByteArray} {L : Nat → Lab} {gv : Value} {xs : List Value} {rb : Nat → Nat} {ys : Nat → List Value} {st : List (T × List T)} {w : World} (h : GrI w0 c NA nc bv ev ops L gv xs rb ys st w) {w5 : World} {i j : Nat} (hi : i < st.length) (hj : j < ops.length) (he : ops[j] = gList) {s v : T} {A A' : Option Addr} {B B' : Nat} {zs cs : List Value} (hA : ∀ b, (Value.slice A (nL s) B).ownBlock = some b → L b = .lst i j) (hel : ∀ k, k < nL s → At w0 13 (fv zs k) (elt s k) ∧ okA (elt s k)) (hz : zs.length = nL s * 5) (hG : w.grownBy w5 (Value.slice A (nL s) B).ownBlock) (hO : w5.ownsRow w0.heap.size 36 5 (.slice A' (nL s + 1) B') (nL s + 1) (zs ++ cs)) (hat : (Value.slice A' (nL s + 1) B').ownBlock = (Value.slice A (nL s) B).ownBlock ∨ ∃ b, (Value.slice A' (nL s + 1) B').ownBlock = some b ∧ w.heap.size ≤ b) {c0 c1 c2 c3 c4 : Value} (hcs : cs = [c0, c1, c2, c3, c4]) (hv : At w0 13 (.agg #[c0, c1, c2, c3, c4]) v) (hok : okA v) (hn : nL s + 1 ≤ 1000000) :
    ∃ L', GrI w0 c NA nc bv ev ops L' gv xs rb (fun k => if k = i then setV (ys i) (j + 1) (.int .i64 5) (.int .i64 0) (.string ⟨#[]⟩) (.slice A' (nL s + 1) B') (.slice none 0 0) else ys k) (stPut st i j (mkT 5 0 ByteArray.empty (lOf s ++ [v]) [])) (put5o w5 (rb i) ((j + 1) * 5) (.int .i64 5) (.int .i64 0) (.string ⟨#[]⟩) (.slice A' (nL s + 1) B') (.slice none 0 0)) ∧ ∀ b, b < w.heap.size → L b = .no → L' b = .no := by
  subst hcs
  have hlt := hO.lt
  refine ⟨fun b => if (Value.slice A' (nL s + 1) B').ownBlock = some b then .lst i j else L b, h.put hi hj (fun b h1 h2 => ⟨if_neg fun e => ?_, hG.block b (h.low b h1).2 fun e => h2 (hA b e.symm)⟩) (fun b hb => ?_) (.inr ⟨he, A', B', zs ++ [c0, c1, c2, c3, c4], ?_, .inr rfl, ?_, ?_, fun b hb => ?_, fun k hk => ?_⟩), fun b h1 h2 => ?_⟩
  · rcases hat with e' | ⟨b', e', e2⟩
    · exact h2 (hA b (e'.symm.trans e))
    · rw [e', Option.some.injEq] at e
      have := (h.low b h1).2
      omega
  · by_cases e : (Value.slice A' (nL s + 1) B').ownBlock = some b
    · exact hlt b e
    · simp only [if_neg e] at hb
      exact ⟨(h.low b hb).1, Nat.lt_of_lt_of_le (h.low b hb).2 hG.size⟩
  · rw [kindOf_mk, nOf_mk, sOf_mk, nL_mk, List.length_append, List.length_cons, List.length_nil]
    rfl
  · rw [nL_mk, List.length_append, List.length_cons, List.length_nil]
    exact hO
  · rw [nL_mk, List.length_append, List.length_cons, List.length_nil]
    exact hn
  · rw [nL_mk, List.length_append, List.length_cons, List.length_nil] at hb
    exact if_pos hb
  · rw [nL_mk, List.length_append, List.length_cons, List.length_nil] at hk
    rw [elt_mk]
    by_cases e : k < nL s
    · rw [fv_first hz e, List.getD_eq_getElem?_getD, List.getElem?_append_left (by exact e), ← List.getD_eq_getElem?_getD]
      exact hel k e
    · obtain rfl : k = nL s := by unfold nL at *; omega
      rw [fv_last hz, List.getD_eq_getElem?_getD, List.getElem?_append_right (by exact Nat.le_refl _)]
      unfold nL
      simp only [Nat.sub_self, List.getElem?_cons_zero, Option.getD_some]
      exact ⟨hv, hok⟩
  · simp only
    rw [if_neg]
    · exact h2
    · intro e
      rcases hat with e' | ⟨b', e', e2⟩
      · have := hA b (e'.symm.trans e)
        rw [h2] at this
        cases this
      · rw [e', Option.some.injEq] at e
        omega
end Go.Proofs.YtknakfpciccoaabGreatDoor
/- The walk of an entry's add, on what a group has gathered. -/
namespace Go.Proofs.YtknakfpciccoaabGreatDoor
open Go.RowKit

def isGOp (op : ByteArray) : Prop := op = gSum ∨ op = gMin ∨ op = gMax ∨ op = gFirst ∨ op = gLast ∨ op = gList
/-- What add leaves of the groups. -/
def AgPost (w0 : World) (c : Nat) (NA : Option Addr) (nc : Nat) (bv ev : Value) (ops : List ByteArray) (L : Nat → Lab) (gv : Value) (xs : List Value) (rb : Nat → Nat) (st : List (T × List T)) (i j : Nat) (r : Int ⊕ T) (w : World) (e : Ending) (w5 : World) : Prop :=
  Below w0.heap.size w w5 ∧ (∀ b, b < w.heap.size → L b ≠ .lst i j → w5.heap[b]? = w.heap[b]?) ∧
  ((∃ x, r = .inl x ∧ x ≠ 0 ∧ e = .returned (.tuple #[.agg #[.int .i64 0, .int .i64 0, .string ⟨#[]⟩, .slice none 0 0, .slice none 0 0], .int .i64 x])) ∨
    ∃ (t : T) (vk vn : Int) (vs : ByteArray) (VA : Option Addr) (vl VB : Nat) (VC : Option Addr) (vm VD : Nat), r = .inr t ∧ e = .returned (.tuple #[.agg #[.int .i64 vk, .int .i64 vn, .string vs, .slice VA vl VB, .slice VC vm VD], .int .i64 0]) ∧ ∃ L' ys', GrI w0 c NA nc bv ev ops L' gv xs rb ys' (stPut st i j t) (put5o w5 (rb i) ((j + 1) * 5) (.int .i64 vk) (.int .i64 vn) (.string vs) (.slice VA vl VB) (.slice VC vm VD)) ∧ ∀ b, b < w.heap.size → L b = .no → L' b = .no)
theorem GrI.shape {w0 : World} {c : Nat} {NA : Option Addr} {nc : Nat} {bv ev : Value} {ops : List ByteArray} {L : Nat → Lab} {gv : Value} {xs : List Value} {rb : Nat → Nat} {ys : Nat → List Value} {st : List (T × List T)} {w : World} (h : GrI w0 c NA nc bv ev ops L gv xs rb ys st w) {i j : Nat} (hi : i < st.length) (hj : j < ops.length) : ∃ s A B C D, s = st[i].2.getD j zeroT ∧ fv (ys i) (j + 1) = .agg #[.int .i64 (kindOf s), .int .i64 (nOf s), .string (sOf s), .slice A (nL s) B, .slice C (nK s) D] := by
  rcases h.acc i hi j hj with ⟨_, h, _⟩ | ⟨_, A, B, zs, hv, hs, _⟩
  · obtain ⟨g, La, Ka, Lc, Kc, _, hx, _, _, _⟩ := h.open
    exact ⟨_, La, Lc, Ka, Kc, rfl, hx⟩
  · refine ⟨_, A, B, none, 0, rfl, hv.trans ?_⟩
    have : nK (st[i].2.getD j zeroT) = 0 := by
      rcases hs with hs | hs
      · rw [hs]; rfl
      · rw [hs]; rfl
    rw [this]
theorem addGrp_any {Tb : World → Prop} (w0 : World) (c : Nat) (NA : Option Addr) (nc : Nat) (bv ev : Value) (ops : List ByteArray) (L : Nat → Lab) (gv : Value) (xs : List Value) (rb : Nat → Nat) (ys : Nat → List Value) (st : List (T × List T)) (w : World) (hI : GrI w0 c NA nc bv ev ops L gv xs rb ys st w) (hb0 : Below w0.heap.size w0 w) (i j : Nat) (hi : i < st.length) (hj : j < ops.length) (hop : isGOp ops[j]) (u : Value) (g : T → Int ⊕ T) (hu : ExprOk Tb w0 u g) (doc : T) (x : Value) (hd : At w0 13 x doc) (hok : okA doc) (hT : ∀ w', Below w.heap.size w w' → Tb w') (hn : ops[j] = gList → nL (st[i].2.getD j zeroT) + 1 ≤ 1000000) :
    Calls Tryz.prog 241 #[.agg #[.string ops[j], u], fv (ys i) (j + 1), x] w (AgPost w0 c NA nc bv ev ops L gv xs rb st i j (accS g ops[j] (st[i].2.getD j zeroT) doc) w) := by
  obtain ⟨ty, p, fid, rfl, hm, hcall, hbeh⟩ := hu
  have hbeh' := fun wr x doc h1 h2 h3 h4 => hbeh w0 wr x doc (Below.refl _ _) h1 h2 h3 h4
  have hacc := hI.acc i hi j hj
  generalize st[i].2.getD j zeroT = s at hacc hn ⊢
  rcases hacc with ⟨hne, ha, hka⟩ | ⟨he, A, B, zs, hv, hs, hrow, hl, hlab, hel⟩
  · obtain ⟨g1, La, Ka, Lc, Kc, _, hx, _, _, _⟩ := ha.open
    rw [hx] at ha ⊢
    have hpost : ∀ e w5, AdPost w0 (accG g ops[j] s doc) w e w5 → AgPost w0 c NA nc bv ev ops L gv xs rb st i j (accS g ops[j] s doc) w e w5 := by
      rintro e w5 ⟨hb, hr⟩
      refine ⟨hb.mono hb0.size, fun b h1 _ => hb.block b h1, ?_⟩
      unfold accS
      rw [if_neg hne]
      rcases hr with hr | ⟨t, A2, B2, C2, D2, h1, h2, h3, h4⟩
      · exact .inl hr
      · exact .inr ⟨t, _, _, _, _, _, _, _, _, _, h1, h2, L, _, hI.putB hb hi hj hne h3 h4, fun b _ h => h⟩
    by_cases e : ops[j] = gSum
    · exact (addSum_any ops[j] e ty p fid hm hcall g w0 hbeh' _ doc La Ka Lc Kc x w hb0 ha hd hok hT).mono hpost
    · refine (addRep_any ops[j] ?_ ty p fid hm hcall g w0 hbeh' _ doc La Ka Lc Kc x w hb0 ha hka hd hok hT).mono hpost
      rcases hop with h | h | h | h | h | h
      · exact absurd h e
      · exact .inl h
      · exact .inr (.inl h)
      · exact .inr (.inr (.inl h))
      · exact .inr (.inr (.inr h))
      · exact absurd h hne
  · have hn := hn he
    have hk0 : nK s = 0 := by
      rcases hs with hs | hs
      · rw [hs]; rfl
      · rw [hs]; rfl
    have hv2 : fv (ys i) (j + 1) = .agg #[.int .i64 (kindOf s), .int .i64 (nOf s), .string (sOf s), .slice A (nL s) B, .slice none (nK s) 0] := by rw [hv, hk0]
    rw [hv2]
    refine (addList_any ops[j] he ty p fid hm hcall g w0 hbeh' _ doc A none B 0 x w hb0 w0.heap.size zs hrow hb0.size (by omega) hd hok hT).mono ?_
    rintro e w5 (⟨hb, x', h1, h2, h3⟩ | ⟨t, A2, B2, C2, D2, A', B', h1, h2, h3, h4, h5, h6, h7⟩)
    · refine ⟨hb.mono hb0.size, fun b h1 _ => hb.block b h1, .inl ⟨x', ?_, h2, h3⟩⟩
      unfold accS
      rw [if_pos he, h1]
    · have hfr : ∀ b, b < w.heap.size → L b ≠ .lst i j → w5.heap[b]? = w.heap[b]? := fun b k1 k2 => h3.block b k1 fun e => k2 (hlab b e.symm)
      have hlo : ∀ b, (Value.slice A (nL s) B).ownBlock = some b → w0.heap.size ≤ b := fun b e => (hrow.lt b e).1
      refine ⟨⟨h3.os, h3.tape, h3.output, h3.size, fun b hb => h3.block b (Nat.lt_of_lt_of_le hb hb0.size) fun e => ?_⟩, hfr, .inr ⟨mkT 5 0 ByteArray.empty (lOf s ++ [t]) [], _, _, _, _, _, _, _, _, _, ?_, h2, ?_⟩⟩
      · have := hlo b e.symm
        omega
      · unfold accS
        rw [if_pos he, h1]
      · obtain ⟨L', hG, hL'⟩ := hI.putL (v := t) hi hj he hlab hel hrow.1 h3 h4 h5 rfl h6 h7 hn
        exact ⟨L', _, hG, hL'⟩
end Go.Proofs.YtknakfpciccoaabGreatDoor
/- The walk of a group's take. -/
namespace Go.Proofs.YtknakfpciccoaabGreatDoor
open Go.RowKit

/-- What the entries come to, one behind the other. -/
def rowE (doc : T) : List (ByteArray × (T → Int ⊕ T)) → Nat → List T → Int ⊕ List T
  | [], _, a => .inr a
  | e :: es, k, a => match accS e.2 e.1 (a.getD k zeroT) doc with
    | .inl x => .inl x
    | .inr t => rowE doc es (k + 1) (a.set k t)
theorem rowE_err (doc : T) : ∀ (es : List (ByteArray × (T → Int ⊕ T))) (e : ByteArray × (T → Int ⊕ T)) (r : List (ByteArray × (T → Int ⊕ T))) (k : Nat) (a a' : List T) (x : Int), rowE doc es k a = .inr a' → accS e.2 e.1 (a'.getD (k + es.length) zeroT) doc = .inl x → rowE doc (es ++ e :: r) k a = .inl x
  | [], e, r, k, a, a', x, h, hx => by
    simp only [rowE, Sum.inr.injEq] at h
    subst h
    rw [List.nil_append, rowE, show accS e.2 e.1 (a.getD k zeroT) doc = .inl x from hx]
  | e0 :: es, e, r, k, a, a', x, h, hx => by
    rw [rowE] at h
    rw [List.cons_append, rowE]
    cases h0 : accS e0.2 e0.1 (a.getD k zeroT) doc with
    | inl y => rw [h0] at h; cases h
    | inr t =>
      rw [h0] at h
      exact rowE_err doc es e r (k + 1) (a.set k t) a' x h (by rw [show k + 1 + es.length = k + (e0 :: es).length by rw [List.length_cons]; omega]; exact hx)
theorem rowE_snoc (doc : T) : ∀ (es : List (ByteArray × (T → Int ⊕ T))) (e : ByteArray × (T → Int ⊕ T)) (k : Nat) (a a' : List T) (t : T), rowE doc es k a = .inr a' → accS e.2 e.1 (a'.getD (k + es.length) zeroT) doc = .inr t → rowE doc (es ++ [e]) k a = .inr (a'.set (k + es.length) t)
  | [], e, k, a, a', t, h, hx => by
    simp only [rowE, Sum.inr.injEq] at h
    subst h
    rw [List.nil_append, rowE, show accS e.2 e.1 (a.getD k zeroT) doc = .inr t from hx]
    rfl
  | e0 :: es, e, k, a, a', t, h, hx => by
    rw [rowE] at h
    rw [List.cons_append, rowE]
    cases h0 : accS e0.2 e0.1 (a.getD k zeroT) doc with
    | inl y => rw [h0] at h; cases h
    | inr t0 =>
      rw [h0] at h
      have := rowE_snoc doc es e (k + 1) (a.set k t0) a' t h (by rw [show k + 1 + es.length = k + (e0 :: es).length by rw [List.length_cons]; omega]; exact hx)
      rw [show k + 1 + es.length = k + (e0 :: es).length by rw [List.length_cons]; omega] at this
      exact this
def stRow (S : List (T × List T)) (i : Nat) (a : List T) : List (T × List T) := S.modify i fun s => (s.1, a)
theorem stRow_len (S : List (T × List T)) (i : Nat) (a : List T) : (stRow S i a).length = S.length := List.length_modify _ _ _
theorem stRow_get (S : List (T × List T)) (i : Nat) (a : List T) (h : i < S.length) : ((stRow S i a)[i]'(by rw [stRow_len]; exact h)).2 = a := by
  unfold stRow
  rw [List.getElem_modify, if_pos rfl]
theorem stRow_put (S : List (T × List T)) (i : Nat) (a : List T) (k : Nat) (t : T) : stPut (stRow S i a) i k t = stRow S i (a.set k t) := by
  unfold stPut stRow
  refine List.ext_getElem (by simp [List.length_modify]) fun n h1 h2 => ?_
  simp only [List.getElem_modify]
  by_cases e : i = n
  · simp only [if_pos e]
  · simp only [if_neg e]
theorem stRow_same (S : List (T × List T)) (i : Nat) (h : i < S.length) : stRow S i S[i].2 = S := by
  unfold stRow
  refine List.ext_getElem (by simp [List.length_modify]) fun n h1 h2 => ?_
  rw [List.getElem_modify]
  by_cases e : i = n
  · subst e
    rw [if_pos rfl]
  · rw [if_neg e]
theorem gth_lt (n : Nat) (st : List (T × List T)) (b : T) : gthI st b < (gthS n st b).length := by
  have : gthI st b ≤ st.length := List.findIdx_le_length
  unfold gthS
  by_cases h : gthI st b < st.length
  · rw [if_pos h]; exact h
  · rw [if_neg h, List.length_append, List.length_cons, List.length_nil]; omega
/-- What take does with the groups. -/
def takE (gb : T → Int ⊕ T) (es : List (ByteArray × (T → Int ⊕ T))) (st : List (T × List T)) (doc : T) : Int ⊕ List (T × List T) := match gb doc with
  | .inl x => .inl x
  | .inr b => match rowE doc es 0 ((gthS es.length st b)[gthI st b]'(gth_lt _ _ _)).2 with
    | .inl x => .inl x
    | .inr a => .inr (stRow (gthS es.length st b) (gthI st b) a)
/-- The entries, as they lie. -/
def EntsOk (Tb : World → Prop) (w : World) (v : Value) (es : List (ByteArray × (T → Int ⊕ T))) : Prop :=
  ∃ A c, v = .slice A es.length c ∧ es.length ≤ 100000 ∧ ∀ i, (h : i < es.length) → ∃ b o u, A = some ⟨b, o, none⟩ ∧ b < w.heap.size ∧ w.cell? ⟨b, o + i * 2, none⟩ = some (.string es[i].1) ∧ w.cell? ⟨b, o + i * 2 + 1, none⟩ = some u ∧ ExprOk Tb w u es[i].2 ∧ isGOp es[i].1
theorem EntsOk.keep {Tb : World → Prop} {w w' : World} {v : Value} {es : List (ByteArray × (T → Int ⊕ T))} (h : EntsOk Tb w v es) (hb : Below w.heap.size w w') : EntsOk Tb w' v es := by
  obtain ⟨A, c, hv, hn, h⟩ := h
  refine ⟨A, c, hv, hn, fun i hi => ?_⟩
  obtain ⟨b, o, u, h0, hl, q1, q2, hu, ho⟩ := h i hi
  exact ⟨b, o, u, h0, Nat.lt_of_lt_of_le hl hb.size, (hb.cell (p := ⟨b, _, none⟩) hl).trans q1, (hb.cell (p := ⟨b, _, none⟩) hl).trans q2, hu.keep hb, ho⟩
theorem EvPost.flat {w0 : World} {g : T → Int ⊕ T} {doc : T} {w : World} {e : Ending} {w' : World} (h : EvPost w0 g doc w e w') : Below w.heap.size w w' ∧ ∃ (vk vn : Int) (vs : ByteArray) (VA : Option Addr) (vl VB : Nat) (VC : Option Addr) (vm VD : Nat) (er : Int), e = .returned (.tuple #[.agg #[.int .i64 vk, .int .i64 vn, .string vs, .slice VA vl VB, .slice VC vm VD], .int .i64 er]) ∧ ((g doc = .inl er ∧ er ≠ 0) ∨ ∃ t A B C D, g doc = .inr t ∧ er = 0 ∧ Value.agg #[.int .i64 vk, .int .i64 vn, .string vs, .slice VA vl VB, .slice VC vm VD] = .agg #[.int .i64 (kindOf t), .int .i64 (nOf t), .string (sOf t), .slice A (nL t) B, .slice C (nK t) D] ∧ At w0 13 (.agg #[.int .i64 (kindOf t), .int .i64 (nOf t), .string (sOf t), .slice A (nL t) B, .slice C (nK t) D]) t ∧ okA t) := by
  obtain ⟨hb, ⟨x, h1, h2, rfl⟩ | ⟨t, A, B, C, D, h1, rfl, h3, h4⟩⟩ := h
  · exact ⟨hb, _, _, _, _, _, _, _, _, _, x, rfl, .inl ⟨h1, h2⟩⟩
  · exact ⟨hb, _, _, _, _, _, _, _, _, _, 0, rfl, .inr ⟨t, A, B, C, D, h1, rfl, rfl, h3, h4⟩⟩
theorem AgPost.flat {w0 : World} {c : Nat} {NA : Option Addr} {nc : Nat} {bv ev : Value} {ops : List ByteArray} {L : Nat → Lab} {gv : Value} {xs : List Value} {rb : Nat → Nat} {st : List (T × List T)} {i j : Nat} {r : Int ⊕ T} {w : World} {e : Ending} {w5 : World} (h : AgPost w0 c NA nc bv ev ops L gv xs rb st i j r w e w5) : Below w0.heap.size w w5 ∧ (∀ b, b < w.heap.size → L b ≠ .lst i j → w5.heap[b]? = w.heap[b]?) ∧ ∃ (vk vn : Int) (vs : ByteArray) (VA : Option Addr) (vl VB : Nat) (VC : Option Addr) (vm VD : Nat) (er : Int), e = .returned (.tuple #[.agg #[.int .i64 vk, .int .i64 vn, .string vs, .slice VA vl VB, .slice VC vm VD], .int .i64 er]) ∧ ((r = .inl er ∧ er ≠ 0) ∨ ∃ t, r = .inr t ∧ er = 0 ∧ ∃ L' ys', GrI w0 c NA nc bv ev ops L' gv xs rb ys' (stPut st i j t) (put5o w5 (rb i) ((j + 1) * 5) (.int .i64 vk) (.int .i64 vn) (.string vs) (.slice VA vl VB) (.slice VC vm VD)) ∧ ∀ b, b < w.heap.size → L b = .no → L' b = .no) := by
  obtain ⟨h1, h2, ⟨x, h3, h4, rfl⟩ | ⟨t, _, _, _, _, _, _, _, _, _, h3, rfl, h5⟩⟩ := h
  · exact ⟨h1, h2, _, _, _, _, _, _, _, _, _, x, rfl, .inl ⟨h3, h4⟩⟩
  · exact ⟨h1, h2, _, _, _, _, _, _, _, _, _, 0, rfl, .inr ⟨t, h3, rfl, h5⟩⟩
end Go.Proofs.YtknakfpciccoaabGreatDoor
/- The entries of $group are read. -/
namespace Go.Proofs.YtknakfpciccoaabGreatDoor
open Go.RowKit

/-- How a reader of an entry ends well. -/
def EpPost (Tb : World → Prop) (wB : World) (op : ByteArray) (g : T → Int ⊕ T) (w : World) (e : Ending) (w' : World) : Prop :=
  Below w.heap.size w w' ∧ ∃ ty p, e = .returned (.agg #[.string op, .iface ty p]) ∧ Sat wB w' (newB w w') (fun x => ExprOk Tb x (.iface ty p) g)
def PeSaid (Tb : World → Prop) (t : T) (op : ByteArray) (g : T → Int ⊕ T) : Prop := ∀ (v : Value) (wB w : World), At wB 13 v t → okA t → Below wB.heap.size wB w → Tb w → Calls Tryz.prog 163 #[v] w (EpPost Tb wB op g w)
theorem ent_new (w : World) : (w.alloc (.cells #[.string ⟨#[]⟩, .nilIface] 239)).cell? ⟨w.heap.size, 0, none⟩ = some (.string ⟨#[]⟩) ∧ (w.alloc (.cells #[.string ⟨#[]⟩, .nilIface] 239)).cell? ⟨w.heap.size, 1, none⟩ = some .nilIface ∧ (w.alloc (.cells #[.string ⟨#[]⟩, .nilIface] 239)).frozen? ⟨w.heap.size, 0, none⟩ = false ∧ (w.alloc (.cells #[.string ⟨#[]⟩, .nilIface] 239)).frozen? ⟨w.heap.size, 1, none⟩ = false := ⟨by simp [go_sem], by simp [go_sem], by simp [go_sem], by simp [go_sem]⟩
/-- The box of an entry. -/
structure Ent2 (b : Nat) (w : World) : Prop where
  q0 : w.cell? ⟨b, 0, none⟩ = some (.string ⟨#[]⟩)
  q1 : w.cell? ⟨b, 1, none⟩ = some .nilIface
  f0 : w.frozen? ⟨b, 0, none⟩ = false
  f1 : w.frozen? ⟨b, 1, none⟩ = false
  lt : b < w.heap.size
theorem Ent2.stay {b : Nat} {w w' : World} (h : Ent2 b w) (hb : Below w.heap.size w w') : Ent2 b w' :=
  ⟨(hb.cell (p := ⟨b, 0, none⟩) h.lt).trans h.q0, (hb.cell (p := ⟨b, 1, none⟩) h.lt).trans h.q1, (World.frozen?_of_block (a := ⟨b, 0, none⟩) (hb.block b h.lt)).trans h.f0, (World.frozen?_of_block (a := ⟨b, 1, none⟩) (hb.block b h.lt)).trans h.f1, Nat.lt_of_lt_of_le h.lt hb.size⟩
theorem Ent2.new (w : World) : Ent2 w.heap.size (w.alloc (.cells #[.string ⟨#[]⟩, .nilIface] 239)) := ⟨(ent_new w).1, (ent_new w).2.1, (ent_new w).2.2.1, (ent_new w).2.2.2, by simp⟩
theorem set_one_below {w W : World} (h : Below w.heap.size w W) {b : Nat} (hb : w.heap.size ≤ b) (o : Nat) (u : Value) : Below w.heap.size w (W.setCell ⟨b, o, none⟩ u) := by
  obtain ⟨t1, t2, t3, t4⟩ := setC_rest W ⟨b, o, none⟩ u
  exact ⟨t2.trans h.os, t3.trans h.tape, t4.trans h.output, by rw [t1]; exact h.size, fun k hk => (Below.heap_setCell _ _ _ _ (by simp; omega)).trans (h.block k hk)⟩
theorem Sat.set {wB w W : World} {P : World → Prop} {b c : Nat} (h : Sat wB W (newB w W) P) (hb : b < w.heap.size) (hc : c ≤ w.heap.size) (o : Nat) (u : Value) {wa : World} (hwa : wa.heap.size = c) : Sat wB (W.setCell ⟨b, o, none⟩ u) (newB wa (W.setCell ⟨b, o, none⟩ u)) P :=
  h.move fun k hk => by
    have h1 := hk.1
    refine ⟨Below.heap_setCell _ _ _ _ (by simp; omega), by omega, ?_⟩
    rw [(setC_rest W ⟨b, o, none⟩ u).1]
    exact hk.2
set_option maxHeartbeats 8000000 in
set_option maxRecDepth 100000 in
theorem pentSum_any {Tb : World → Prop} (hL : Lies Tb) (t j : T) (g : T → Int ⊕ T) (k6 : kindOf t = 6) (k1 : nK t = 1) (hj : elt t 0 = j) (hx : nam t 0 = gSum) (h : PxSaid Tb j g) : PeSaid Tb t gSum g := by
  intro v wB w ha hk hb0 hT
  have l1 : nL t = 1 := by have := hk.names k6; omega
  have hkj : okA j := by rw [← hj]; exact hk.elt (by omega)
  have Ha := hid ha
  obtain ⟨g1, La, Ka, Lc, Kc, hg1, rfl, _, _, _⟩ := ha.open
  have HB1 : Hid (Below w.heap.size w ((w.alloc (.cells #[.int .i64 (kindOf t), .int .i64 (nOf t), .string (sOf t), .slice La (nL t) Lc, .slice Ka (nK t) Kc] 36)).alloc (.cells #[.string ⟨#[]⟩, .nilIface] 239))) := ((Below.refl _ _).alloc (Nat.le_refl _) _).alloc (by simp) _
  have HX : Hid (Ent2 (w.heap.size + 1) ((w.alloc (.cells #[.int .i64 (kindOf t), .int .i64 (nOf t), .string (sOf t), .slice La (nL t) Lc, .slice Ka (nK t) Kc] 36)).alloc (.cells #[.string ⟨#[]⟩, .nilIface] 239))) := by
    show Ent2 _ _
    have := Ent2.new (w.alloc (.cells #[.int .i64 (kindOf t), .int .i64 (nOf t), .string (sOf t), .slice La (nL t) Lc, .slice Ka (nK t) Kc] 36))
    simpa using this
  have HC := hid (ppOp_any t j gSum hj hx _ wB _ Ha.out hk k6 k1 (hb0.trans (HB1.out.mono hb0.size)))
  have HE : Hid (∀ (v : Value) (w' : World), At wB 13 v j → Below w.heap.size w w' → Calls Tryz.prog 148 #[v] w' (XpPost Tb wB g w')) := fun v w' h1 h2 => ppExpr_any hL j g h v wB w' h1 hkj (hb0.trans (h2.mono hb0.size)) (hL w hT w w' hT h2)
  clear ha hk hg1 hb0 hT h hL k6 k1 l1 hkj Ha hj hx
  unfold gSum at *
  go_enter Tryz.func163, Tryz.ntmps163
  go_wp2_with fail
  refine HC.out.mono ?_
  rintro e w2 ⟨b2, A, B, C, D, rfl, hat⟩
  have HBa : Hid (Below w2.heap.size w2 (w2.alloc (.cells #[.int .i64 (kindOf j), .int .i64 (nOf j), .string (sOf j), .slice A (nL j) B, .slice C (nK j) D] 36))) := (Below.refl _ _).alloc (Nat.le_refl _) _
  have HB2 := hid (HB1.out.trans (b2.mono HB1.out.size))
  have HB3 := hid (HB2.out.trans (HBa.out.mono HB2.out.size))
  have HX3 := hid ((HX.out.stay b2).stay HBa.out)
  have HP := hid (HE.out _ _ hat HB3.out)
  have HY := hid (box_new w2 (.int .i64 (kindOf j)) (.int .i64 (nOf j)) (.string (sOf j)) (.slice A (nL j) B) (.slice C (nK j) D))
  have hl2 : w.heap.size + 1 < w2.heap.size := by have := b2.size; simp at this; omega
  clear b2 hat HC HE
  have y0 := HY.out.q0
  have y1 := HY.out.q1
  have y2 := HY.out.q2
  have y3 := HY.out.q3
  have y4 := HY.out.q4
  go_wp2_with fail
  refine HP.out.mono ?_
  rintro e w5 ⟨b5, ty, p, rfl, hs⟩
  have HB5 := hid (HB3.out.trans (b5.mono HB3.out.size))
  have HX5 := hid (HX3.out.stay b5)
  have HBf := hid (set_one_below (set_one_below HB5.out (b := w.heap.size + 1) (by omega) 0 (.string ⟨#[36, 115, 117, 109]⟩)) (b := w.heap.size + 1) (by omega) 1 (.iface ty p))
  have HS := hid ((hs.set (b := w.heap.size + 1) (c := w2.heap.size) (by simp; omega) (by simp) 0 (.string ⟨#[36, 115, 117, 109]⟩) (wa := w2) rfl).set (b := w.heap.size + 1) (c := w.heap.size) (by omega) (by omega) 1 (.iface ty p) (wa := w) rfl)
  have q0 := HX5.out.q0
  have q1 := HX5.out.q1
  have f0 := HX5.out.f0
  have f1 := HX5.out.f1
  clear b5 hs HP y0 y1 y2 y3 y4
  go_wp2_with fail
  refine bodyPost_ret (v := .agg #[.string ⟨#[36, 115, 117, 109]⟩, .iface ty p]) (by simp [results, Tryz.results163, go_sem, *]) rfl ?_
  exact ⟨HBf.out, ty, p, rfl, HS.out⟩
set_option maxHeartbeats 8000000 in
set_option maxRecDepth 100000 in
theorem pentMax_any {Tb : World → Prop} (hL : Lies Tb) (t j : T) (g : T → Int ⊕ T) (k6 : kindOf t = 6) (k1 : nK t = 1) (hj : elt t 0 = j) (hx : nam t 0 = gMax) (h : PxSaid Tb j g) : PeSaid Tb t gMax g := by
  intro v wB w ha hk hb0 hT
  have l1 : nL t = 1 := by have := hk.names k6; omega
  have hkj : okA j := by rw [← hj]; exact hk.elt (by omega)
  have Ha := hid ha
  obtain ⟨g1, La, Ka, Lc, Kc, hg1, rfl, _, _, _⟩ := ha.open
  have HB1 : Hid (Below w.heap.size w ((w.alloc (.cells #[.int .i64 (kindOf t), .int .i64 (nOf t), .string (sOf t), .slice La (nL t) Lc, .slice Ka (nK t) Kc] 36)).alloc (.cells #[.string ⟨#[]⟩, .nilIface] 239))) := ((Below.refl _ _).alloc (Nat.le_refl _) _).alloc (by simp) _
  have HX : Hid (Ent2 (w.heap.size + 1) ((w.alloc (.cells #[.int .i64 (kindOf t), .int .i64 (nOf t), .string (sOf t), .slice La (nL t) Lc, .slice Ka (nK t) Kc] 36)).alloc (.cells #[.string ⟨#[]⟩, .nilIface] 239))) := by
    show Ent2 _ _
    have := Ent2.new (w.alloc (.cells #[.int .i64 (kindOf t), .int .i64 (nOf t), .string (sOf t), .slice La (nL t) Lc, .slice Ka (nK t) Kc] 36))
    simpa using this
  have HC := hid (ppOp_any t j gMax hj hx _ wB _ Ha.out hk k6 k1 (hb0.trans (HB1.out.mono hb0.size)))
  have HE : Hid (∀ (v : Value) (w' : World), At wB 13 v j → Below w.heap.size w w' → Calls Tryz.prog 148 #[v] w' (XpPost Tb wB g w')) := fun v w' h1 h2 => ppExpr_any hL j g h v wB w' h1 hkj (hb0.trans (h2.mono hb0.size)) (hL w hT w w' hT h2)
  clear ha hk hg1 hb0 hT h hL k6 k1 l1 hkj Ha hj hx
  unfold gMax at *
  go_enter Tryz.func163, Tryz.ntmps163
  go_wp2_with fail
  refine HC.out.mono ?_
  rintro e w2 ⟨b2, A, B, C, D, rfl, hat⟩
  have HBa : Hid (Below w2.heap.size w2 (w2.alloc (.cells #[.int .i64 (kindOf j), .int .i64 (nOf j), .string (sOf j), .slice A (nL j) B, .slice C (nK j) D] 36))) := (Below.refl _ _).alloc (Nat.le_refl _) _
  have HB2 := hid (HB1.out.trans (b2.mono HB1.out.size))
  have HB3 := hid (HB2.out.trans (HBa.out.mono HB2.out.size))
  have HX3 := hid ((HX.out.stay b2).stay HBa.out)
  have HP := hid (HE.out _ _ hat HB3.out)
  have HY := hid (box_new w2 (.int .i64 (kindOf j)) (.int .i64 (nOf j)) (.string (sOf j)) (.slice A (nL j) B) (.slice C (nK j) D))
  have hl2 : w.heap.size + 1 < w2.heap.size := by have := b2.size; simp at this; omega
  clear b2 hat HC HE
  have y0 := HY.out.q0
  have y1 := HY.out.q1
  have y2 := HY.out.q2
  have y3 := HY.out.q3
  have y4 := HY.out.q4
  go_wp2_with fail
  refine HP.out.mono ?_
  rintro e w5 ⟨b5, ty, p, rfl, hs⟩
  have HB5 := hid (HB3.out.trans (b5.mono HB3.out.size))
  have HX5 := hid (HX3.out.stay b5)
  have HBf := hid (set_one_below (set_one_below HB5.out (b := w.heap.size + 1) (by omega) 0 (.string ⟨#[36, 109, 97, 120]⟩)) (b := w.heap.size + 1) (by omega) 1 (.iface ty p))
  have HS := hid ((hs.set (b := w.heap.size + 1) (c := w2.heap.size) (by simp; omega) (by simp) 0 (.string ⟨#[36, 109, 97, 120]⟩) (wa := w2) rfl).set (b := w.heap.size + 1) (c := w.heap.size) (by omega) (by omega) 1 (.iface ty p) (wa := w) rfl)
  have q0 := HX5.out.q0
  have q1 := HX5.out.q1
  have f0 := HX5.out.f0
  have f1 := HX5.out.f1
  clear b5 hs HP y0 y1 y2 y3 y4
  go_wp2_with fail
  refine bodyPost_ret (v := .agg #[.string ⟨#[36, 109, 97, 120]⟩, .iface ty p]) (by simp [results, Tryz.results163, go_sem, *]) rfl ?_
  exact ⟨HBf.out, ty, p, rfl, HS.out⟩
set_option maxHeartbeats 8000000 in
set_option maxRecDepth 100000 in
theorem pentFirst_any {Tb : World → Prop} (hL : Lies Tb) (t j : T) (g : T → Int ⊕ T) (k6 : kindOf t = 6) (k1 : nK t = 1) (hj : elt t 0 = j) (hx : nam t 0 = gFirst) (h : PxSaid Tb j g) : PeSaid Tb t gFirst g := by
  intro v wB w ha hk hb0 hT
  have l1 : nL t = 1 := by have := hk.names k6; omega
  have hkj : okA j := by rw [← hj]; exact hk.elt (by omega)
  have Ha := hid ha
  obtain ⟨g1, La, Ka, Lc, Kc, hg1, rfl, _, _, _⟩ := ha.open
  have HB1 : Hid (Below w.heap.size w ((w.alloc (.cells #[.int .i64 (kindOf t), .int .i64 (nOf t), .string (sOf t), .slice La (nL t) Lc, .slice Ka (nK t) Kc] 36)).alloc (.cells #[.string ⟨#[]⟩, .nilIface] 239))) := ((Below.refl _ _).alloc (Nat.le_refl _) _).alloc (by simp) _
  have HX : Hid (Ent2 (w.heap.size + 1) ((w.alloc (.cells #[.int .i64 (kindOf t), .int .i64 (nOf t), .string (sOf t), .slice La (nL t) Lc, .slice Ka (nK t) Kc] 36)).alloc (.cells #[.string ⟨#[]⟩, .nilIface] 239))) := by
    show Ent2 _ _
    have := Ent2.new (w.alloc (.cells #[.int .i64 (kindOf t), .int .i64 (nOf t), .string (sOf t), .slice La (nL t) Lc, .slice Ka (nK t) Kc] 36))
    simpa using this
  have HC := hid (ppOp_any t j gFirst hj hx _ wB _ Ha.out hk k6 k1 (hb0.trans (HB1.out.mono hb0.size)))
  have HE : Hid (∀ (v : Value) (w' : World), At wB 13 v j → Below w.heap.size w w' → Calls Tryz.prog 148 #[v] w' (XpPost Tb wB g w')) := fun v w' h1 h2 => ppExpr_any hL j g h v wB w' h1 hkj (hb0.trans (h2.mono hb0.size)) (hL w hT w w' hT h2)
  clear ha hk hg1 hb0 hT h hL k6 k1 l1 hkj Ha hj hx
  unfold gFirst at *
  go_enter Tryz.func163, Tryz.ntmps163
  go_wp2_with fail
  refine HC.out.mono ?_
  rintro e w2 ⟨b2, A, B, C, D, rfl, hat⟩
  have HBa : Hid (Below w2.heap.size w2 (w2.alloc (.cells #[.int .i64 (kindOf j), .int .i64 (nOf j), .string (sOf j), .slice A (nL j) B, .slice C (nK j) D] 36))) := (Below.refl _ _).alloc (Nat.le_refl _) _
  have HB2 := hid (HB1.out.trans (b2.mono HB1.out.size))
  have HB3 := hid (HB2.out.trans (HBa.out.mono HB2.out.size))
  have HX3 := hid ((HX.out.stay b2).stay HBa.out)
  have HP := hid (HE.out _ _ hat HB3.out)
  have HY := hid (box_new w2 (.int .i64 (kindOf j)) (.int .i64 (nOf j)) (.string (sOf j)) (.slice A (nL j) B) (.slice C (nK j) D))
  have hl2 : w.heap.size + 1 < w2.heap.size := by have := b2.size; simp at this; omega
  clear b2 hat HC HE
  have y0 := HY.out.q0
  have y1 := HY.out.q1
  have y2 := HY.out.q2
  have y3 := HY.out.q3
  have y4 := HY.out.q4
  go_wp2_with fail
  refine HP.out.mono ?_
  rintro e w5 ⟨b5, ty, p, rfl, hs⟩
  have HB5 := hid (HB3.out.trans (b5.mono HB3.out.size))
  have HX5 := hid (HX3.out.stay b5)
  have HBf := hid (set_one_below (set_one_below HB5.out (b := w.heap.size + 1) (by omega) 0 (.string ⟨#[36, 102, 105, 114, 115, 116]⟩)) (b := w.heap.size + 1) (by omega) 1 (.iface ty p))
  have HS := hid ((hs.set (b := w.heap.size + 1) (c := w2.heap.size) (by simp; omega) (by simp) 0 (.string ⟨#[36, 102, 105, 114, 115, 116]⟩) (wa := w2) rfl).set (b := w.heap.size + 1) (c := w.heap.size) (by omega) (by omega) 1 (.iface ty p) (wa := w) rfl)
  have q0 := HX5.out.q0
  have q1 := HX5.out.q1
  have f0 := HX5.out.f0
  have f1 := HX5.out.f1
  clear b5 hs HP y0 y1 y2 y3 y4
  go_wp2_with fail
  refine bodyPost_ret (v := .agg #[.string ⟨#[36, 102, 105, 114, 115, 116]⟩, .iface ty p]) (by simp [results, Tryz.results163, go_sem, *]) rfl ?_
  exact ⟨HBf.out, ty, p, rfl, HS.out⟩
set_option maxHeartbeats 8000000 in
set_option maxRecDepth 100000 in
theorem pentList_any {Tb : World → Prop} (hL : Lies Tb) (t j : T) (g : T → Int ⊕ T) (k6 : kindOf t = 6) (k1 : nK t = 1) (hj : elt t 0 = j) (hx : nam t 0 = gList) (h : PxSaid Tb j g) : PeSaid Tb t gList g := by
  intro v wB w ha hk hb0 hT
  have l1 : nL t = 1 := by have := hk.names k6; omega
  have hkj : okA j := by rw [← hj]; exact hk.elt (by omega)
  have Ha := hid ha
  obtain ⟨g1, La, Ka, Lc, Kc, hg1, rfl, _, _, _⟩ := ha.open
  have HB1 : Hid (Below w.heap.size w ((w.alloc (.cells #[.int .i64 (kindOf t), .int .i64 (nOf t), .string (sOf t), .slice La (nL t) Lc, .slice Ka (nK t) Kc] 36)).alloc (.cells #[.string ⟨#[]⟩, .nilIface] 239))) := ((Below.refl _ _).alloc (Nat.le_refl _) _).alloc (by simp) _
  have HX : Hid (Ent2 (w.heap.size + 1) ((w.alloc (.cells #[.int .i64 (kindOf t), .int .i64 (nOf t), .string (sOf t), .slice La (nL t) Lc, .slice Ka (nK t) Kc] 36)).alloc (.cells #[.string ⟨#[]⟩, .nilIface] 239))) := by
    show Ent2 _ _
    have := Ent2.new (w.alloc (.cells #[.int .i64 (kindOf t), .int .i64 (nOf t), .string (sOf t), .slice La (nL t) Lc, .slice Ka (nK t) Kc] 36))
    simpa using this
  have HC := hid (ppOp_any t j gList hj hx _ wB _ Ha.out hk k6 k1 (hb0.trans (HB1.out.mono hb0.size)))
  have HE : Hid (∀ (v : Value) (w' : World), At wB 13 v j → Below w.heap.size w w' → Calls Tryz.prog 148 #[v] w' (XpPost Tb wB g w')) := fun v w' h1 h2 => ppExpr_any hL j g h v wB w' h1 hkj (hb0.trans (h2.mono hb0.size)) (hL w hT w w' hT h2)
  clear ha hk hg1 hb0 hT h hL k6 k1 l1 hkj Ha hj hx
  unfold gList at *
  go_enter Tryz.func163, Tryz.ntmps163
  go_wp2_with fail
  refine HC.out.mono ?_
  rintro e w2 ⟨b2, A, B, C, D, rfl, hat⟩
  have HBa : Hid (Below w2.heap.size w2 (w2.alloc (.cells #[.int .i64 (kindOf j), .int .i64 (nOf j), .string (sOf j), .slice A (nL j) B, .slice C (nK j) D] 36))) := (Below.refl _ _).alloc (Nat.le_refl _) _
  have HB2 := hid (HB1.out.trans (b2.mono HB1.out.size))
  have HB3 := hid (HB2.out.trans (HBa.out.mono HB2.out.size))
  have HX3 := hid ((HX.out.stay b2).stay HBa.out)
  have HP := hid (HE.out _ _ hat HB3.out)
  have HY := hid (box_new w2 (.int .i64 (kindOf j)) (.int .i64 (nOf j)) (.string (sOf j)) (.slice A (nL j) B) (.slice C (nK j) D))
  have hl2 : w.heap.size + 1 < w2.heap.size := by have := b2.size; simp at this; omega
  clear b2 hat HC HE
  have y0 := HY.out.q0
  have y1 := HY.out.q1
  have y2 := HY.out.q2
  have y3 := HY.out.q3
  have y4 := HY.out.q4
  go_wp2_with fail
  refine HP.out.mono ?_
  rintro e w5 ⟨b5, ty, p, rfl, hs⟩
  have HB5 := hid (HB3.out.trans (b5.mono HB3.out.size))
  have HX5 := hid (HX3.out.stay b5)
  have HBf := hid (set_one_below (set_one_below HB5.out (b := w.heap.size + 1) (by omega) 0 (.string ⟨#[36, 108, 105, 115, 116]⟩)) (b := w.heap.size + 1) (by omega) 1 (.iface ty p))
  have HS := hid ((hs.set (b := w.heap.size + 1) (c := w2.heap.size) (by simp; omega) (by simp) 0 (.string ⟨#[36, 108, 105, 115, 116]⟩) (wa := w2) rfl).set (b := w.heap.size + 1) (c := w.heap.size) (by omega) (by omega) 1 (.iface ty p) (wa := w) rfl)
  have q0 := HX5.out.q0
  have q1 := HX5.out.q1
  have f0 := HX5.out.f0
  have f1 := HX5.out.f1
  clear b5 hs HP y0 y1 y2 y3 y4
  go_wp2_with fail
  refine bodyPost_ret (v := .agg #[.string ⟨#[36, 108, 105, 115, 116]⟩, .iface ty p]) (by simp [results, Tryz.results163, go_sem, *]) rfl ?_
  exact ⟨HBf.out, ty, p, rfl, HS.out⟩
def gCount : ByteArray := ⟨#[36, 99, 111, 117, 110, 116]⟩
set_option maxHeartbeats 8000000 in
set_option maxRecDepth 100000 in
theorem pentCount_any {Tb : World → Prop} (hL : Lies Tb) (t j : T) (k6 : kindOf t = 6) (k1 : nK t = 1) (hj : elt t 0 = j) (hx : nam t 0 = gCount) (kn : kindOf j = 1) : PeSaid Tb t gSum (fun _ => .inr (nT 1)) := by
  intro v wB w ha hk hb0 hT
  have l1 : nL t = 1 := by have := hk.names k6; omega
  have hkj : okA j := by rw [← hj]; exact hk.elt (by omega)
  have Ha := hid ha
  obtain ⟨g1, La, Ka, Lc, Kc, hg1, rfl, _, _, _⟩ := ha.open
  have HB1 : Hid (Below w.heap.size w ((w.alloc (.cells #[.int .i64 (kindOf t), .int .i64 (nOf t), .string (sOf t), .slice La (nL t) Lc, .slice Ka (nK t) Kc] 36)).alloc (.cells #[.string ⟨#[]⟩, .nilIface] 239))) := ((Below.refl _ _).alloc (Nat.le_refl _) _).alloc (by simp) _
  have HX : Hid (Ent2 (w.heap.size + 1) ((w.alloc (.cells #[.int .i64 (kindOf t), .int .i64 (nOf t), .string (sOf t), .slice La (nL t) Lc, .slice Ka (nK t) Kc] 36)).alloc (.cells #[.string ⟨#[]⟩, .nilIface] 239))) := by
    show Ent2 _ _
    have := Ent2.new (w.alloc (.cells #[.int .i64 (kindOf t), .int .i64 (nOf t), .string (sOf t), .slice La (nL t) Lc, .slice Ka (nK t) Kc] 36))
    simpa using this
  have HC := hid (ppOp_any t j gCount hj hx _ wB _ Ha.out hk k6 k1 (hb0.trans (HB1.out.mono hb0.size)))
  have HE : Hid (∀ (w' : World), Below w.heap.size w w' → Calls Tryz.prog 148 #[.agg #[.int .i64 3, .int .i64 1, .string ⟨#[]⟩, .slice none 0 0, .slice none 0 0]] w' (XpPost Tb wB (fun _ => .inr (nT 1)) w')) := fun w' h2 => ppExpr_any hL (nT 1) _ (pexpr_leaf Tb (nT 1) (.inr (.inr rfl))) _ wB w' (num_at wB ⟨by decide, by decide⟩) (num_okA 1) (hb0.trans (h2.mono hb0.size)) (hL w hT w w' hT h2)
  have Hkn := hid kn
  clear ha hk hg1 hb0 hT hL kn k6 k1 l1 hkj Ha hj hx
  unfold gCount at *
  unfold gSum at *
  go_enter Tryz.func163, Tryz.ntmps163
  go_wp2_with fail
  refine HC.out.mono ?_
  rintro e w2 ⟨b2, A, B, C, D, rfl, hat⟩
  have HBa : Hid (Below w2.heap.size w2 (w2.alloc (.cells #[.int .i64 (kindOf j), .int .i64 (nOf j), .string (sOf j), .slice A (nL j) B, .slice C (nK j) D] 36))) := (Below.refl _ _).alloc (Nat.le_refl _) _
  have HB2 := hid (HB1.out.trans (b2.mono HB1.out.size))
  have HB3 := hid (HB2.out.trans (HBa.out.mono HB2.out.size))
  have HX3 := hid ((HX.out.stay b2).stay HBa.out)
  have HP := hid (HE.out _ HB3.out)
  have HY := hid (box_new w2 (.int .i64 (kindOf j)) (.int .i64 (nOf j)) (.string (sOf j)) (.slice A (nL j) B) (.slice C (nK j) D))
  have hl2 : w.heap.size + 1 < w2.heap.size := by have := b2.size; simp at this; omega
  clear b2 hat HC HE
  rw [Hkn.out] at HY HP HB3 HX3 HBa ⊢
  have y0 := HY.out.q0
  have y1 := HY.out.q1
  have y2 := HY.out.q2
  have y3 := HY.out.q3
  have y4 := HY.out.q4
  go_wp2_with fail
  refine (needP_any _).mono ?_
  rintro e w6 ⟨rfl, rfl⟩
  go_wp2_with fail
  refine HP.out.mono ?_
  rintro e w5 ⟨b5, ty, p, rfl, hs⟩
  have HB5 := hid (HB3.out.trans (b5.mono HB3.out.size))
  have HX5 := hid (HX3.out.stay b5)
  have HBf := hid (set_one_below (set_one_below HB5.out (b := w.heap.size + 1) (by omega) 0 (.string ⟨#[36, 115, 117, 109]⟩)) (b := w.heap.size + 1) (by omega) 1 (.iface ty p))
  have HS := hid ((hs.set (b := w.heap.size + 1) (c := w2.heap.size) (by simp; omega) (by simp) 0 (.string ⟨#[36, 115, 117, 109]⟩) (wa := w2) rfl).set (b := w.heap.size + 1) (c := w.heap.size) (by omega) (by omega) 1 (.iface ty p) (wa := w) rfl)
  have q0 := HX5.out.q0
  have q1 := HX5.out.q1
  have f0 := HX5.out.f0
  have f1 := HX5.out.f1
  clear b5 hs HP y0 y1 y2 y3 y4
  go_wp2_with fail
  refine bodyPost_ret (v := .agg #[.string ⟨#[36, 115, 117, 109]⟩, .iface ty p]) (by simp [results, Tryz.results163, go_sem, *]) rfl ?_
  exact ⟨HBf.out, ty, p, rfl, HS.out⟩
end Go.Proofs.YtknakfpciccoaabGreatDoor
