import Derived.Test.YtknakfpciccoaaaGreatDoorZP6
import Derived.Test.YtknakfpciccoaaaGreatDoorZP5
import Derived.Deep.RegionHeld
import Derived.Laws.MakeOwn
import Derived.Laws.CopyOwn
/- The walk of lent. -/
namespace Go.Proofs.YtknakfpciccoaaaGreatDoor
open Go.RowKit

def zero5 : Array Value := #[.int .i64 0, .int .i64 0, .string ⟨#[]⟩, .slice none 0 0, .slice none 0 0]
def made5 (n : Nat) : Array Value := madeCells zero5 (n * 5)
def made1 (n : Nat) : Array Value := madeCells #[.string ⟨#[]⟩] (n * 1)
theorem made5_size (n : Nat) : (made5 n).size = n * 5 := size_madeCells _ _
theorem made1_size (n : Nat) : (made1 n).size = n := (size_madeCells _ _).trans (Nat.mul_one n)
theorem make5 (n : Nat) (h : n ≤ 1759218604442) (w : World) : (Instr.makeSlice 22 (.int .i64 ((n : Int) + 8)) (.int .i64 ((n : Int) + 8))).run Tryz.prog w = .ok (.slice (some ⟨w.heap.size, 0, none⟩) (n + 8) (n + 8)) (w.alloc (.cells (made5 (n + 8)) 25)) := by
  obtain ⟨i, hi, hz, hb, hs⟩ : ∃ i, Tryz.prog.info? 25 = some i ∧ i.zero = some (.agg zero5) ∧ i.bytes = 80 ∧ i.size = 5 := by
    have h1 : (Tryz.prog.info? 25).map (fun i => (i.zero, i.bytes, i.size)) = some (some (.agg zero5), 80, 5) := by kernel_rfl
    cases hi : Tryz.prog.info? 25 with
    | none => rw [hi] at h1; cases h1
    | some i =>
      rw [hi] at h1
      simp only [Option.map_some, Option.some.injEq, Prod.mk.injEq] at h1
      exact ⟨i, rfl, h1.1, h1.2.1, h1.2.2⟩
  have := run_make (P := Tryz.prog) w 22 25 i (.agg zero5) Tryz.underlying22 hi hz .i64 .i64 ((n : Int) + 8) ((n : Int) + 8) (by omega) (by omega) (by rw [hb]; omega) (by omega)
  rw [hs, show ((n : Int) + 8).toNat = n + 8 by omega] at this
  exact this
theorem make1 (n : Nat) (h : n ≤ 8796093022208) (w : World) : (Instr.makeSlice 23 (.int .i64 ((n : Int) + 8)) (.int .i64 ((n : Int) + 8))).run Tryz.prog w = .ok (.slice (some ⟨w.heap.size, 0, none⟩) (n + 8) (n + 8)) (w.alloc (.cells (made1 (n + 8)) 9)) := by
  obtain ⟨i, hi, hz, hb, hs⟩ : ∃ i, Tryz.prog.info? 9 = some i ∧ i.zero = some (.string ⟨#[]⟩) ∧ i.bytes = 16 ∧ i.size = 1 := by
    have h1 : (Tryz.prog.info? 9).map (fun i => (i.zero, i.bytes, i.size)) = some (some (.string ⟨#[]⟩), 16, 1) := by kernel_rfl
    cases hi : Tryz.prog.info? 9 with
    | none => rw [hi] at h1; cases h1
    | some i =>
      rw [hi] at h1
      simp only [Option.map_some, Option.some.injEq, Prod.mk.injEq] at h1
      exact ⟨i, rfl, h1.1, h1.2.1, h1.2.2⟩
  have := run_make (P := Tryz.prog) w 23 9 i (.string ⟨#[]⟩) Tryz.underlying23 hi hz .i64 .i64 ((n : Int) + 8) ((n : Int) + 8) (by omega) (by omega) (by rw [hb]; omega) (by omega)
  rw [hs, show ((n : Int) + 8).toNat = n + 8 by omega] at this
  exact this
theorem row_made {w : World} {a : Array Value} {e n : Nat} (h : a.size = n) : RowAt (w.alloc (.cells a e)) w.heap.size n := by
  refine ⟨by simp, fun o ho => ⟨?_, ?_⟩⟩
  · simp [go_sem, h, ho]
  · simp [go_sem]

/-- So many elements have been lent: the row bl, the elements behind N. -/
structure Lending (bl N k m g : Nat) (t : T) (w4 wr : World) : Prop where
  old : Below bl w4 wr
  row : RowAt wr bl ((nL t + 8) * 5)
  done : ∀ i, i < k → ∃ A B C D, FiveAt wr bl (i * 5) (elt t i) A B C D ∧ LentP (fun b => b < N ∨ bl + 1 ≤ b) wr m g (five (elt t i) A B C D) (elt t i)
theorem row5 {w : World} {b n o : Nat} (h : RowAt w b n) (ho : o + 5 ≤ n) : ∃ v0 v1 v2 v3 v4, (w.cell? ⟨b, o, none⟩ = some v0 ∧ w.cell? ⟨b, o + 1, none⟩ = some v1 ∧ w.cell? ⟨b, o + 2, none⟩ = some v2 ∧ w.cell? ⟨b, o + 3, none⟩ = some v3 ∧ w.cell? ⟨b, o + 4, none⟩ = some v4) ∧ (w.frozen? ⟨b, o, none⟩ = false ∧ w.frozen? ⟨b, o + 1, none⟩ = false ∧ w.frozen? ⟨b, o + 2, none⟩ = false ∧ w.frozen? ⟨b, o + 3, none⟩ = false ∧ w.frozen? ⟨b, o + 4, none⟩ = false) := by
  obtain ⟨v0, h0⟩ := Option.isSome_iff_exists.1 (h.2 o (by omega)).1
  obtain ⟨v1, h1⟩ := Option.isSome_iff_exists.1 (h.2 (o + 1) (by omega)).1
  obtain ⟨v2, h2⟩ := Option.isSome_iff_exists.1 (h.2 (o + 2) (by omega)).1
  obtain ⟨v3, h3⟩ := Option.isSome_iff_exists.1 (h.2 (o + 3) (by omega)).1
  obtain ⟨v4, h4⟩ := Option.isSome_iff_exists.1 (h.2 (o + 4) (by omega)).1
  exact ⟨v0, v1, v2, v3, v4, ⟨h0, h1, h2, h3, h4⟩, (h.2 o (by omega)).2, (h.2 (o + 1) (by omega)).2, (h.2 (o + 2) (by omega)).2, (h.2 (o + 3) (by omega)).2, (h.2 (o + 4) (by omega)).2⟩
/-- The step: an element is lent, in new blocks, and stored. -/
theorem Lending.step {bl N k m g : Nat} {t : T} {w4 wr w2 : World} (h : Lending bl N k m g t w4 wr) (hN : N ≤ bl) (hb : Below wr.heap.size wr w2) (hk : k < nL t) {A C : Option Addr} {B D : Nat}
    (hx : LentP (fun b => b < N ∨ wr.heap.size ≤ b) w2 m g (five (elt t k) A B C D) (elt t k)) :
    Lending bl N (k + 1) m g t w4 (set5 w2 bl (k * 5) (.int .i64 (kindOf (elt t k))) (.int .i64 (nOf (elt t k))) (.string (sOf (elt t k))) (.slice A (nL (elt t k)) B) (.slice C (nK (elt t k)) D)) := by
  have hr2 : RowAt w2 bl ((nL t + 8) * 5) := h.row.move hb.size (hb.block bl h.row.1)
  have hlt := h.row.1
  have hbut := set5_but w2 bl (k * 5) (.int .i64 (kindOf (elt t k))) (.int .i64 (nOf (elt t k))) (.string (sOf (elt t k))) (.slice A (nL (elt t k)) B) (.slice C (nK (elt t k)) D)
  have mv : ∀ {q : Nat → Prop} (_ : ∀ b, q b → b < N ∨ bl + 1 ≤ b) {u : Value} {s : T}, LentP q w2 m g u s → LentP (fun b => b < N ∨ bl + 1 ≤ b) (set5 w2 bl (k * 5) (.int .i64 (kindOf (elt t k))) (.int .i64 (nOf (elt t k))) (.string (sOf (elt t k))) (.slice A (nL (elt t k)) B) (.slice C (nK (elt t k)) D)) m g u s :=
    by
      intro q hq u s hu
      exact LentP.move hbut.size (fun b hb1 hb2 => ⟨hq b hb2, hbut.block b hb1 (by have := hq b hb2; omega)⟩) hu
  refine ⟨?_, set5_row hr2 _ _ _ _ _ _ _, fun i hi => ?_⟩
  · exact (h.old.trans (hb.mono (Nat.le_of_lt hlt))).trans (hbut.below (Nat.le_trans (Nat.le_of_lt hlt) hb.size))
  · by_cases e : i = k
    · subst e
      obtain ⟨f0, f1, f2, f3, f4⟩ := set5_at hr2 (o := i * 5) (by omega) (.int .i64 (kindOf (elt t i))) (.int .i64 (nOf (elt t i))) (.string (sOf (elt t i))) (.slice A (nL (elt t i)) B) (.slice C (nK (elt t i)) D)
      exact ⟨A, B, C, D, ⟨f0, f1, f2, f3, f4⟩, mv (fun b hb => by omega) hx⟩
    · obtain ⟨A', B', C', D', ⟨f0, f1, f2, f3, f4⟩, hl⟩ := h.done i (by omega)
      have cc : ∀ o, o < k * 5 → (set5 w2 bl (k * 5) (.int .i64 (kindOf (elt t k))) (.int .i64 (nOf (elt t k))) (.string (sOf (elt t k))) (.slice A (nL (elt t k)) B) (.slice C (nK (elt t k)) D)).cell? ⟨bl, o, none⟩ = wr.cell? ⟨bl, o, none⟩ := fun o ho => (set5_other (Or.inr (Or.inl ho)) _ _ _ _ _).trans (hb.cell (p := ⟨bl, o, none⟩) hlt)
      refine ⟨A', B', C', D', ⟨(cc _ (by omega)).trans f0, (cc _ (by omega)).trans f1, (cc _ (by omega)).trans f2, (cc _ (by omega)).trans f3, (cc _ (by omega)).trans f4⟩, ?_⟩
      have h2 : LentP (fun b => b < N ∨ bl + 1 ≤ b) w2 m g (five (elt t i) A' B' C' D') (elt t i) := LentP.move hb.size (fun b h1 h2 => ⟨h2, hb.block b h1⟩) hl
      exact mv (fun b hb => hb) h2

theorem setCells_but (b : Nat) : ∀ (vs : List Value) (o : Nat) (w : World), But b w (w.setCells b o vs)
  | [], _, _ => But.refl _ _
  | v :: r, o, w => (But.set w b o v).trans (setCells_but b r (o + 1) _)
theorem setCells_row {b n : Nat} : ∀ (vs : List Value) (o : Nat) (w : World), RowAt w b n → RowAt (w.setCells b o vs) b n
  | [], _, _, h => h
  | v :: r, o, _, h => setCells_row r (o + 1) _ (h.set b o v)
/-- copy of the names into a row. -/
theorem wpList_copy_names {w : World} {ops : Array Oper} {rest : List Oper} {o : Oper} {a : Act} {Q : Exit → Act → World → Prop} (hgd : o.guard = none) (d s : Operand)
    (ho : o.op = .call { callee := .builtin .copy, args := #[d, s], argTypes := #[23, 23] }) (bk Kc : Nat) (Ka : Option Addr) (t : T) (hd : a.eval d = .slice (some ⟨bk, 0, none⟩) (nK t + 8) (nK t + 8)) (hs : a.eval s = .slice Ka (nK t) Kc)
    (hrow : RowAt w bk (nK t + 8)) (hna : NamesAt w Ka t)
    (hK : ∀ w', But bk w w' → RowAt w' bk (nK t + 8) → (∀ i, i < nK t → w'.cell? ⟨bk, i, none⟩ = some (.string (nam t i))) → wpList Tryz.prog ops Q rest (a.put o.dst (goInt (nK t))) w') : wpList Tryz.prog ops Q (o :: rest) a w := by
  have hsz : (Tryz.prog.info? 9).map (·.size) = some 1 := by kernel_rfl
  have key : ∃ w', (Builtin.copy_ #[23, 23] o.type #[.slice (some ⟨bk, 0, none⟩) (nK t + 8) (nK t + 8), .slice Ka (nK t) Kc]).run Tryz.prog w = .ok (goInt (nK t)) w' ∧ But bk w w' ∧ RowAt w' bk (nK t + 8) ∧ (∀ i, i < nK t → w'.cell? ⟨bk, i, none⟩ = some (.string (nam t i))) := by
    by_cases h0 : nK t = 0
    · have h := run_copy_none (P := Tryz.prog) w 23 23 o.type 9 (some ⟨bk, 0, none⟩) Ka (nK t + 8) (nK t + 8) (nK t) Kc Tryz.underlying23 hsz (by rw [h0]; rfl)
      exact ⟨w, by rw [h, h0]; rfl, But.refl _ _, hrow, fun i hi => by omega⟩
    · obtain ⟨b, off, rfl, hb, _, _⟩ := hna 0 (by omega)
      have hl : ((List.range (nK t)).map fun i => Value.string (nam t i)).length = nK t := by simp
      have h := run_copy_cells (P := Tryz.prog) w 23 23 o.type 9 bk 0 (nK t + 8) (nK t + 8) ⟨b, off, none⟩ (nK t) Kc ((List.range (nK t)).map fun i => Value.string (nam t i)) Tryz.underlying23 hsz (by rw [hl]; exact (Nat.min_eq_left (by omega)).symm) (by
          intro j v hv
          have hj : j < nK t := by
            rcases Nat.lt_or_ge j (nK t) with h | h
            · exact h
            · rw [List.getElem?_eq_none (by rw [hl]; exact h)] at hv; cases hv
          obtain ⟨b', o', e, _, _, hc⟩ := hna j hj
          simp only [Option.some.injEq, Addr.mk.injEq, and_true] at e
          obtain ⟨rfl, rfl⟩ := e
          simp [hj] at hv
          subst hv
          unfold Addr.add
          by_cases hj0 : j = 0
          · subst hj0; simpa using hc
          · simpa [hj0] using hc) (by
          intro j hj
          rw [hl] at hj
          rw [Nat.zero_add]
          exact (hrow.2 j (by omega)).1) (by
          intro j hj
          rw [hl] at hj
          rw [Nat.zero_add]
          exact (hrow.2 j (by omega)).2) (by
          intro v hv
          simp only [List.mem_map] at hv
          obtain ⟨i, _, rfl⟩ := hv
          rfl)
      rw [hl] at h
      refine ⟨_, h, setCells_but _ _ _ _, setCells_row _ _ _ hrow, fun i hi => ?_⟩
      have := World.cell?_setCells_in bk ((List.range (nK t)).map fun i => Value.string (nam t i)) 0 w (by
          intro j hj
          rw [hl] at hj
          rw [Nat.zero_add]
          exact (hrow.2 j (by omega)).1) i (by rw [hl]; exact hi)
      rw [Nat.zero_add] at this
      rw [this]
      simp
  obtain ⟨w', hrun, h1, h2, h3⟩ := key
  refine wpList_plain hgd fun K hK' => ?_
  unfold Oper.wp
  simp [execOp, ho, resolve, invoke, builtin, hd, hs, hrun, Result.andThen]
  exact hK' _ _ (hK w' h1 h2 h3)

/-- The marks behind the lists are being laid. -/
structure Marking (bl bk N j m g : Nat) (t : T) (w4 wx : World) : Prop where
  old : Below bl w4 wx
  lt : bl < bk
  rowL : RowAt wx bl ((nL t + 8) * 5)
  rowK : RowAt wx bk (nK t + 8)
  elems : ∀ i, i < nL t → ∃ A B C D, FiveAt wx bl (i * 5) (elt t i) A B C D ∧ LentP (fun b => b < N ∨ (bl + 1 ≤ b ∧ b ≠ bk)) wx m g (five (elt t i) A B C D) (elt t i)
  names : ∀ i, i < nK t → wx.cell? ⟨bk, i, none⟩ = some (.string (nam t i))
  sizes : ∀ i, i < nK t → (nam t i).size ≤ 140737488355328
  marks : ∀ i, i < j → MarkAt wx bl ((nL t + i) * 5)
  tildes : ∀ i, i < j → wx.cell? ⟨bk, nK t + i, none⟩ = some (.string tilde)
theorem Marking.start {bl N m g : Nat} {t : T} {w4 wr w5 : World} {o : Obj} (h : Lending bl N (nL t) m g t w4 wr) (hb : But wr.heap.size (wr.alloc o) w5) (hr : RowAt w5 wr.heap.size (nK t + 8)) (hn : ∀ i, i < nK t → w5.cell? ⟨wr.heap.size, i, none⟩ = some (.string (nam t i))) (hsz : ∀ i, i < nK t → (nam t i).size ≤ 140737488355328) :
    Marking bl wr.heap.size N 0 m g t w4 w5 := by
  have hlt := h.row.1
  have blk : ∀ b, b < wr.heap.size → w5.heap[b]? = wr.heap[b]? := fun b hb' => (hb.block b (by simp; omega) (by omega)).trans (Below.heap_alloc wr o b hb')
  have hs : wr.heap.size ≤ w5.heap.size := Nat.le_trans (by simp) hb.size
  refine ⟨?_, hlt, h.row.move hs (blk bl hlt), hr, fun i hi => ?_, hn, hsz, fun i hi => absurd hi (Nat.not_lt_zero _), fun i hi => absurd hi (Nat.not_lt_zero _)⟩
  · exact h.old.trans ⟨hb.os, hb.tape, hb.output, hs, fun k hk => blk k (by omega)⟩
  · obtain ⟨A, B, C, D, h1, h2⟩ := h.done i hi
    exact ⟨A, B, C, D, h1.move (blk bl hlt), LentP.move hs (fun b hb1 hb2 => ⟨by omega, blk b hb1⟩) h2⟩
theorem Marking.step {bl bk N j m g : Nat} {t : T} {w4 wx w6 : World} (h : Marking bl bk N j m g t w4 wx) (hN : N ≤ bl) (hb : Below wx.heap.size wx w6) (hj : j < 8) :
    Marking bl bk N (j + 1) m g t w4 ((set5 w6 bl ((nL t + j) * 5) (.int .i64 (-77)) (.int .i64 0) (.string mark3) (.slice none 0 0) (.slice none 0 0)).setCell ⟨bk, nK t + j, none⟩ (.string tilde)) := by
  have h1 := h.rowL.1
  have h2 := h.rowK.1
  have hlt := h.lt
  have rL : RowAt w6 bl ((nL t + 8) * 5) := h.rowL.move hb.size (hb.block bl h1)
  have rK : RowAt w6 bk (nK t + 8) := h.rowK.move hb.size (hb.block bk h2)
  have b1 := set5_but w6 bl ((nL t + j) * 5) (.int .i64 (-77)) (.int .i64 0) (.string mark3) (.slice none 0 0) (.slice none 0 0)
  have b2 := But.set (set5 w6 bl ((nL t + j) * 5) (.int .i64 (-77)) (.int .i64 0) (.string mark3) (.slice none 0 0) (.slice none 0 0)) bk (nK t + j) (.string tilde)
  have hz : wx.heap.size ≤ ((set5 w6 bl ((nL t + j) * 5) (.int .i64 (-77)) (.int .i64 0) (.string mark3) (.slice none 0 0) (.slice none 0 0)).setCell ⟨bk, nK t + j, none⟩ (.string tilde)).heap.size := Nat.le_trans hb.size (Nat.le_trans b1.size b2.size)
  have blk : ∀ b, b < wx.heap.size → b ≠ bl → b ≠ bk → ((set5 w6 bl ((nL t + j) * 5) (.int .i64 (-77)) (.int .i64 0) (.string mark3) (.slice none 0 0) (.slice none 0 0)).setCell ⟨bk, nK t + j, none⟩ (.string tilde)).heap[b]? = wx.heap[b]? := fun b h0 hl hk =>
    ((b2.block b (by have := hb.size; have := b1.size; omega) hk).trans (b1.block b (by have := hb.size; omega) hl)).trans (hb.block b h0)
  have cL : ∀ o, o < (nL t + j) * 5 → ((set5 w6 bl ((nL t + j) * 5) (.int .i64 (-77)) (.int .i64 0) (.string mark3) (.slice none 0 0) (.slice none 0 0)).setCell ⟨bk, nK t + j, none⟩ (.string tilde)).cell? ⟨bl, o, none⟩ = wx.cell? ⟨bl, o, none⟩ := fun o ho =>
    ((set_other (Or.inl (by omega)) _).trans (set5_other (Or.inr (Or.inl ho)) _ _ _ _ _)).trans (hb.cell (p := ⟨bl, o, none⟩) h1)
  have cK : ∀ o, o ≠ nK t + j → ((set5 w6 bl ((nL t + j) * 5) (.int .i64 (-77)) (.int .i64 0) (.string mark3) (.slice none 0 0) (.slice none 0 0)).setCell ⟨bk, nK t + j, none⟩ (.string tilde)).cell? ⟨bk, o, none⟩ = wx.cell? ⟨bk, o, none⟩ := fun o ho =>
    ((set_other (Or.inr (fun e => ho e.symm)) _).trans (set5_other (Or.inl (by omega)) _ _ _ _ _)).trans (hb.cell (p := ⟨bk, o, none⟩) h2)
  refine ⟨?_, hlt, (set5_row rL _ _ _ _ _ _ _).set _ _ _, (set5_row rK _ _ _ _ _ _ _).set _ _ _, fun i hi => ?_, fun i hi => ?_, h.sizes, fun i hi => ?_, fun i hi => ?_⟩
  · exact h.old.trans ⟨b2.os.trans (b1.os.trans hb.os), b2.tape.trans (b1.tape.trans hb.tape), b2.output.trans (b1.output.trans hb.output), hz, fun k hk => blk k (by omega) (by omega) (by omega)⟩
  · obtain ⟨A, B, C, D, ⟨f0, f1, f2, f3, f4⟩, h6⟩ := h.elems i hi
    exact ⟨A, B, C, D, ⟨(cL _ (by omega)).trans f0, (cL _ (by omega)).trans f1, (cL _ (by omega)).trans f2, (cL _ (by omega)).trans f3, (cL _ (by omega)).trans f4⟩, LentP.move hz (fun b hb1 hb2 => ⟨hb2, blk b hb1 (by omega) (by omega)⟩) h6⟩
  · exact (cK i (by omega)).trans (h.names i hi)
  · by_cases e : i = j
    · subst e
      obtain ⟨f0, f1, f2, f3, f4⟩ := set5_at rL (o := (nL t + i) * 5) (by omega) (.int .i64 (-77)) (.int .i64 0) (.string mark3) (.slice none 0 0) (.slice none 0 0)
      exact ⟨(set_other (Or.inl (by omega)) _).trans f0, (set_other (Or.inl (by omega)) _).trans f1, (set_other (Or.inl (by omega)) _).trans f2, (set_other (Or.inl (by omega)) _).trans f3, (set_other (Or.inl (by omega)) _).trans f4⟩
    · obtain ⟨f0, f1, f2, f3, f4⟩ := h.marks i (by omega)
      exact ⟨(cL _ (by omega)).trans f0, (cL _ (by omega)).trans f1, (cL _ (by omega)).trans f2, (cL _ (by omega)).trans f3, (cL _ (by omega)).trans f4⟩
  · by_cases e : i = j
    · subst e
      exact set_same (set5_row rK _ _ _ _ _ _ _) (by omega) _
    · exact (cK _ (by omega)).trans (h.tildes i (by omega))

theorem Marking.finish {bl bk N m g f n1 n2 base : Nat} {t : T} {w4 wr wa wf : World} (h : Marking bl bk N 8 m g t w4 wr) (hf : f = g + 1) (HF : Fits t) (hb2 : But n2 wr wa) (hb1 : But n1 wa wf) (h1 : n1 < bl) (h2 : n2 < bl) (h3 : base ≤ n1) (h4 : base ≤ n2) (hN : N ≤ base) :
    LentP (fun b => b < N ∨ base ≤ b) wf (m + 1) f (five t (some ⟨bl, 0, none⟩) (nL t + 8) (some ⟨bk, 0, none⟩) (nK t + 8)) t := by
  have hz : wr.heap.size ≤ wf.heap.size := Nat.le_trans hb2.size hb1.size
  have hlt := h.lt
  have g1 := h.rowL.1
  have g2 := h.rowK.1
  have blk : ∀ b, b < wr.heap.size → b ≠ n1 → b ≠ n2 → wf.heap[b]? = wr.heap[b]? := fun b h0 a1 a2 => (hb1.block b (Nat.lt_of_lt_of_le h0 hb2.size) a1).trans (hb2.block b h0 a2)
  have kL := blk bl g1 (by omega) (by omega)
  have kK := blk bk g2 (by omega) (by omega)
  refine ⟨bl, bk, g, hf, rfl, HF, ⟨by omega, Or.inr (by omega)⟩, ⟨by omega, Or.inr (by omega)⟩, fun i hi => ?_, fun i hi => ⟨?_, ?_⟩, fun i hi => (h.marks i hi).move kL, fun i hi => (cell_of kK _).trans (h.tildes i hi)⟩
  · obtain ⟨A, B, C, D, a1, a2⟩ := h.elems i hi
    exact ⟨A, B, C, D, a1.move kL, LentP.move hz (fun b hb hp => ⟨by omega, blk b hb (by omega) (by omega)⟩) a2⟩
  · exact h.sizes i hi
  · exact (cell_of kK _).trans (h.names i hi)

def LentSaid (m : Nat) : Prop := ∀ (f N : Nat) (v : Value) (t : T) (w : World), AtP (fun b => b < N) w f v t → N ≤ w.heap.size →
    Calls Tryz.prog 14 #[v, .int .i64 m] w fun e w' => ∃ x, e = .returned x ∧ LentP (fun b => b < N ∨ w.heap.size ≤ b) w' m f x t ∧ Below w.heap.size w w'

set_option maxHeartbeats 1000000 in
set_option maxRecDepth 100000 in
theorem lent_zero : LentSaid 0 := by
  intro f N v t w h hN
  have HA := hid h
  obtain ⟨f1, La, Ka, Lc, Kc, hf1, rfl, hf, hl, hk⟩ := h.at.open
  clear h hf hl hk hf1
  go_enter Tryz.func14, Tryz.ntmps14
  go_wp2_with fail
  have HB : Hid (Below w.heap.size w ((w.alloc (.cells #[.int .i64 (kindOf t), .int .i64 (nOf t), .string (sOf t), .slice La (nL t) Lc, .slice Ka (nK t) Kc] 25)).alloc (.cells #[.int .i64 (kindOf t), .int .i64 (nOf t), .string (sOf t), .slice La (nL t) Lc, .slice Ka (nK t) Kc] 25))) := ((Below.refl _ _).alloc (Nat.le_refl _) _).alloc (by simp) _
  refine bodyPost_ret (v := five t La Lc Ka Kc) (by simp [results, Tryz.results14, go_sem, five]) rfl ⟨_, rfl, ?_, HB.out⟩
  exact AtP.move (by simp; omega) (fun b hb hp => ⟨Or.inl hp, HB.out.block b hb⟩) HA.out

set_option maxHeartbeats 1000000 in
set_option maxRecDepth 100000 in
theorem lent_succ (m : Nat) (ih : LentSaid m) (hm : m ≤ 100) : LentSaid (m + 1) := by
  intro f N v t w h hN
  have HA := hid h
  obtain ⟨f1, La, Ka, Lc, Kc, hf1, rfl, hf, hl, hk⟩ := h.at.open
  have HF := hid hf
  have hlen := hf.l1
  have klen := hf.m1
  clear h hf hl
  have Hih := hid ih
  clear ih
  have hmk := make5 (nL t) hlen
  have hmk1 := make1 (nK t) klen
  have e0 : ((m : Int) + 1 == 0) = false := beq_eq_false_iff_ne.2 (by omega)
  have em : ((m : Int) + 1 - 1) = (m : Int) := by omega
  go_enter Tryz.func14, Tryz.ntmps14
  go_wp2_with fail
  generalize hbl : w.heap.size + 1 + 1 + 1 = bl
  have HW4 : Hid (Below w.heap.size w ((((w.alloc (.cells #[.int .i64 (kindOf t), .int .i64 (nOf t), .string (sOf t), .slice La (nL t) Lc, .slice Ka (nK t) Kc] 25)).alloc (.cells #[.int .i64 0, .int .i64 0, .string ⟨#[]⟩, .slice none 0 0, .slice none 0 0] 25)).alloc (.cells #[.int .i64 (kindOf t), .int .i64 (nOf t), .string (sOf t), .slice La (nL t) Lc, .slice Ka (nK t) Kc] 25)).alloc (.cells (made5 (nL t + 8)) 25)) ∧ RowAt ((((w.alloc (.cells #[.int .i64 (kindOf t), .int .i64 (nOf t), .string (sOf t), .slice La (nL t) Lc, .slice Ka (nK t) Kc] 25)).alloc (.cells #[.int .i64 0, .int .i64 0, .string ⟨#[]⟩, .slice none 0 0, .slice none 0 0] 25)).alloc (.cells #[.int .i64 (kindOf t), .int .i64 (nOf t), .string (sOf t), .slice La (nL t) Lc, .slice Ka (nK t) Kc] 25)).alloc (.cells (made5 (nL t + 8)) 25)) bl ((nL t + 8) * 5)) := by
    subst hbl
    exact ⟨((((Below.refl _ _).alloc (Nat.le_refl _) _).alloc (by simp) _).alloc (by simp; omega) _).alloc (by simp; omega) _, by have h := row_made (w := (((w.alloc (.cells #[.int .i64 (kindOf t), .int .i64 (nOf t), .string (sOf t), .slice La (nL t) Lc, .slice Ka (nK t) Kc] 25)).alloc (.cells #[.int .i64 0, .int .i64 0, .string ⟨#[]⟩, .slice none 0 0, .slice none 0 0] 25)).alloc (.cells #[.int .i64 (kindOf t), .int .i64 (nOf t), .string (sOf t), .slice La (nL t) Lc, .slice Ka (nK t) Kc] 25))) (e := 25) (made5_size (nL t + 8)); simpa using h⟩
  have HC4 : Hid (((((w.alloc (.cells #[.int .i64 (kindOf t), .int .i64 (nOf t), .string (sOf t), .slice La (nL t) Lc, .slice Ka (nK t) Kc] 25)).alloc (.cells #[.int .i64 0, .int .i64 0, .string ⟨#[]⟩, .slice none 0 0, .slice none 0 0] 25)).alloc (.cells #[.int .i64 (kindOf t), .int .i64 (nOf t), .string (sOf t), .slice La (nL t) Lc, .slice Ka (nK t) Kc] 25)).alloc (.cells (made5 (nL t + 8)) 25)).cell? ⟨w.heap.size, 3, none⟩ = some (.slice La (nL t) Lc) ∧ ((((w.alloc (.cells #[.int .i64 (kindOf t), .int .i64 (nOf t), .string (sOf t), .slice La (nL t) Lc, .slice Ka (nK t) Kc] 25)).alloc (.cells #[.int .i64 0, .int .i64 0, .string ⟨#[]⟩, .slice none 0 0, .slice none 0 0] 25)).alloc (.cells #[.int .i64 (kindOf t), .int .i64 (nOf t), .string (sOf t), .slice La (nL t) Lc, .slice Ka (nK t) Kc] 25)).alloc (.cells (made5 (nL t + 8)) 25)).cell? ⟨w.heap.size, 4, none⟩ = some (.slice Ka (nK t) Kc)) := by
    constructor <;> simp [go_sem]
  have HC5 : Hid (((((w.alloc (.cells #[.int .i64 (kindOf t), .int .i64 (nOf t), .string (sOf t), .slice La (nL t) Lc, .slice Ka (nK t) Kc] 25)).alloc (.cells #[.int .i64 0, .int .i64 0, .string ⟨#[]⟩, .slice none 0 0, .slice none 0 0] 25)).alloc (.cells #[.int .i64 (kindOf t), .int .i64 (nOf t), .string (sOf t), .slice La (nL t) Lc, .slice Ka (nK t) Kc] 25)).alloc (.cells (made5 (nL t + 8)) 25)).cell? ⟨w.heap.size + 1, 0, none⟩ = some (.int .i64 0) ∧ ((((w.alloc (.cells #[.int .i64 (kindOf t), .int .i64 (nOf t), .string (sOf t), .slice La (nL t) Lc, .slice Ka (nK t) Kc] 25)).alloc (.cells #[.int .i64 0, .int .i64 0, .string ⟨#[]⟩, .slice none 0 0, .slice none 0 0] 25)).alloc (.cells #[.int .i64 (kindOf t), .int .i64 (nOf t), .string (sOf t), .slice La (nL t) Lc, .slice Ka (nK t) Kc] 25)).alloc (.cells (made5 (nL t + 8)) 25)).cell? ⟨w.heap.size + 1, 1, none⟩ = some (.int .i64 0) ∧ ((((w.alloc (.cells #[.int .i64 (kindOf t), .int .i64 (nOf t), .string (sOf t), .slice La (nL t) Lc, .slice Ka (nK t) Kc] 25)).alloc (.cells #[.int .i64 0, .int .i64 0, .string ⟨#[]⟩, .slice none 0 0, .slice none 0 0] 25)).alloc (.cells #[.int .i64 (kindOf t), .int .i64 (nOf t), .string (sOf t), .slice La (nL t) Lc, .slice Ka (nK t) Kc] 25)).alloc (.cells (made5 (nL t + 8)) 25)).cell? ⟨w.heap.size + 1, 2, none⟩ = some (.string ⟨#[]⟩) ∧ ((((w.alloc (.cells #[.int .i64 (kindOf t), .int .i64 (nOf t), .string (sOf t), .slice La (nL t) Lc, .slice Ka (nK t) Kc] 25)).alloc (.cells #[.int .i64 0, .int .i64 0, .string ⟨#[]⟩, .slice none 0 0, .slice none 0 0] 25)).alloc (.cells #[.int .i64 (kindOf t), .int .i64 (nOf t), .string (sOf t), .slice La (nL t) Lc, .slice Ka (nK t) Kc] 25)).alloc (.cells (made5 (nL t + 8)) 25)).cell? ⟨w.heap.size + 1, 3, none⟩ = some (.slice none 0 0) ∧ ((((w.alloc (.cells #[.int .i64 (kindOf t), .int .i64 (nOf t), .string (sOf t), .slice La (nL t) Lc, .slice Ka (nK t) Kc] 25)).alloc (.cells #[.int .i64 0, .int .i64 0, .string ⟨#[]⟩, .slice none 0 0, .slice none 0 0] 25)).alloc (.cells #[.int .i64 (kindOf t), .int .i64 (nOf t), .string (sOf t), .slice La (nL t) Lc, .slice Ka (nK t) Kc] 25)).alloc (.cells (made5 (nL t + 8)) 25)).cell? ⟨w.heap.size + 1, 4, none⟩ = some (.slice none 0 0)) := by
    refine ⟨?_, ?_, ?_, ?_, ?_⟩ <;> simp [go_sem]
  have HC6 : Hid (((((w.alloc (.cells #[.int .i64 (kindOf t), .int .i64 (nOf t), .string (sOf t), .slice La (nL t) Lc, .slice Ka (nK t) Kc] 25)).alloc (.cells #[.int .i64 0, .int .i64 0, .string ⟨#[]⟩, .slice none 0 0, .slice none 0 0] 25)).alloc (.cells #[.int .i64 (kindOf t), .int .i64 (nOf t), .string (sOf t), .slice La (nL t) Lc, .slice Ka (nK t) Kc] 25)).alloc (.cells (made5 (nL t + 8)) 25)).cell? ⟨w.heap.size + 1 + 1, 0, none⟩ = some (.int .i64 (kindOf t)) ∧ ((((w.alloc (.cells #[.int .i64 (kindOf t), .int .i64 (nOf t), .string (sOf t), .slice La (nL t) Lc, .slice Ka (nK t) Kc] 25)).alloc (.cells #[.int .i64 0, .int .i64 0, .string ⟨#[]⟩, .slice none 0 0, .slice none 0 0] 25)).alloc (.cells #[.int .i64 (kindOf t), .int .i64 (nOf t), .string (sOf t), .slice La (nL t) Lc, .slice Ka (nK t) Kc] 25)).alloc (.cells (made5 (nL t + 8)) 25)).cell? ⟨w.heap.size + 1 + 1, 1, none⟩ = some (.int .i64 (nOf t)) ∧ ((((w.alloc (.cells #[.int .i64 (kindOf t), .int .i64 (nOf t), .string (sOf t), .slice La (nL t) Lc, .slice Ka (nK t) Kc] 25)).alloc (.cells #[.int .i64 0, .int .i64 0, .string ⟨#[]⟩, .slice none 0 0, .slice none 0 0] 25)).alloc (.cells #[.int .i64 (kindOf t), .int .i64 (nOf t), .string (sOf t), .slice La (nL t) Lc, .slice Ka (nK t) Kc] 25)).alloc (.cells (made5 (nL t + 8)) 25)).cell? ⟨w.heap.size + 1 + 1, 2, none⟩ = some (.string (sOf t)) ∧ ((((w.alloc (.cells #[.int .i64 (kindOf t), .int .i64 (nOf t), .string (sOf t), .slice La (nL t) Lc, .slice Ka (nK t) Kc] 25)).alloc (.cells #[.int .i64 0, .int .i64 0, .string ⟨#[]⟩, .slice none 0 0, .slice none 0 0] 25)).alloc (.cells #[.int .i64 (kindOf t), .int .i64 (nOf t), .string (sOf t), .slice La (nL t) Lc, .slice Ka (nK t) Kc] 25)).alloc (.cells (made5 (nL t + 8)) 25)).cell? ⟨w.heap.size + 1 + 1, 3, none⟩ = some (.slice La (nL t) Lc) ∧ ((((w.alloc (.cells #[.int .i64 (kindOf t), .int .i64 (nOf t), .string (sOf t), .slice La (nL t) Lc, .slice Ka (nK t) Kc] 25)).alloc (.cells #[.int .i64 0, .int .i64 0, .string ⟨#[]⟩, .slice none 0 0, .slice none 0 0] 25)).alloc (.cells #[.int .i64 (kindOf t), .int .i64 (nOf t), .string (sOf t), .slice La (nL t) Lc, .slice Ka (nK t) Kc] 25)).alloc (.cells (made5 (nL t + 8)) 25)).cell? ⟨w.heap.size + 1 + 1, 4, none⟩ = some (.slice Ka (nK t) Kc)) := by
    refine ⟨?_, ?_, ?_, ?_, ?_⟩ <;> simp [go_sem]
  have HC7 : Hid (((((w.alloc (.cells #[.int .i64 (kindOf t), .int .i64 (nOf t), .string (sOf t), .slice La (nL t) Lc, .slice Ka (nK t) Kc] 25)).alloc (.cells #[.int .i64 0, .int .i64 0, .string ⟨#[]⟩, .slice none 0 0, .slice none 0 0] 25)).alloc (.cells #[.int .i64 (kindOf t), .int .i64 (nOf t), .string (sOf t), .slice La (nL t) Lc, .slice Ka (nK t) Kc] 25)).alloc (.cells (made5 (nL t + 8)) 25)).frozen? ⟨w.heap.size + 1, 0, none⟩ = false ∧ ((((w.alloc (.cells #[.int .i64 (kindOf t), .int .i64 (nOf t), .string (sOf t), .slice La (nL t) Lc, .slice Ka (nK t) Kc] 25)).alloc (.cells #[.int .i64 0, .int .i64 0, .string ⟨#[]⟩, .slice none 0 0, .slice none 0 0] 25)).alloc (.cells #[.int .i64 (kindOf t), .int .i64 (nOf t), .string (sOf t), .slice La (nL t) Lc, .slice Ka (nK t) Kc] 25)).alloc (.cells (made5 (nL t + 8)) 25)).frozen? ⟨w.heap.size + 1, 1, none⟩ = false ∧ ((((w.alloc (.cells #[.int .i64 (kindOf t), .int .i64 (nOf t), .string (sOf t), .slice La (nL t) Lc, .slice Ka (nK t) Kc] 25)).alloc (.cells #[.int .i64 0, .int .i64 0, .string ⟨#[]⟩, .slice none 0 0, .slice none 0 0] 25)).alloc (.cells #[.int .i64 (kindOf t), .int .i64 (nOf t), .string (sOf t), .slice La (nL t) Lc, .slice Ka (nK t) Kc] 25)).alloc (.cells (made5 (nL t + 8)) 25)).frozen? ⟨w.heap.size + 1, 2, none⟩ = false ∧ ((((w.alloc (.cells #[.int .i64 (kindOf t), .int .i64 (nOf t), .string (sOf t), .slice La (nL t) Lc, .slice Ka (nK t) Kc] 25)).alloc (.cells #[.int .i64 0, .int .i64 0, .string ⟨#[]⟩, .slice none 0 0, .slice none 0 0] 25)).alloc (.cells #[.int .i64 (kindOf t), .int .i64 (nOf t), .string (sOf t), .slice La (nL t) Lc, .slice Ka (nK t) Kc] 25)).alloc (.cells (made5 (nL t + 8)) 25)).frozen? ⟨w.heap.size + 1, 3, none⟩ = false ∧ ((((w.alloc (.cells #[.int .i64 (kindOf t), .int .i64 (nOf t), .string (sOf t), .slice La (nL t) Lc, .slice Ka (nK t) Kc] 25)).alloc (.cells #[.int .i64 0, .int .i64 0, .string ⟨#[]⟩, .slice none 0 0, .slice none 0 0] 25)).alloc (.cells #[.int .i64 (kindOf t), .int .i64 (nOf t), .string (sOf t), .slice La (nL t) Lc, .slice Ka (nK t) Kc] 25)).alloc (.cells (made5 (nL t + 8)) 25)).frozen? ⟨w.heap.size + 1, 4, none⟩ = false ∧ ((((w.alloc (.cells #[.int .i64 (kindOf t), .int .i64 (nOf t), .string (sOf t), .slice La (nL t) Lc, .slice Ka (nK t) Kc] 25)).alloc (.cells #[.int .i64 0, .int .i64 0, .string ⟨#[]⟩, .slice none 0 0, .slice none 0 0] 25)).alloc (.cells #[.int .i64 (kindOf t), .int .i64 (nOf t), .string (sOf t), .slice La (nL t) Lc, .slice Ka (nK t) Kc] 25)).alloc (.cells (made5 (nL t + 8)) 25)).frozen? ⟨w.heap.size + 1 + 1, 0, none⟩ = false ∧ ((((w.alloc (.cells #[.int .i64 (kindOf t), .int .i64 (nOf t), .string (sOf t), .slice La (nL t) Lc, .slice Ka (nK t) Kc] 25)).alloc (.cells #[.int .i64 0, .int .i64 0, .string ⟨#[]⟩, .slice none 0 0, .slice none 0 0] 25)).alloc (.cells #[.int .i64 (kindOf t), .int .i64 (nOf t), .string (sOf t), .slice La (nL t) Lc, .slice Ka (nK t) Kc] 25)).alloc (.cells (made5 (nL t + 8)) 25)).frozen? ⟨w.heap.size + 1 + 1, 1, none⟩ = false ∧ ((((w.alloc (.cells #[.int .i64 (kindOf t), .int .i64 (nOf t), .string (sOf t), .slice La (nL t) Lc, .slice Ka (nK t) Kc] 25)).alloc (.cells #[.int .i64 0, .int .i64 0, .string ⟨#[]⟩, .slice none 0 0, .slice none 0 0] 25)).alloc (.cells #[.int .i64 (kindOf t), .int .i64 (nOf t), .string (sOf t), .slice La (nL t) Lc, .slice Ka (nK t) Kc] 25)).alloc (.cells (made5 (nL t + 8)) 25)).frozen? ⟨w.heap.size + 1 + 1, 2, none⟩ = false ∧ ((((w.alloc (.cells #[.int .i64 (kindOf t), .int .i64 (nOf t), .string (sOf t), .slice La (nL t) Lc, .slice Ka (nK t) Kc] 25)).alloc (.cells #[.int .i64 0, .int .i64 0, .string ⟨#[]⟩, .slice none 0 0, .slice none 0 0] 25)).alloc (.cells #[.int .i64 (kindOf t), .int .i64 (nOf t), .string (sOf t), .slice La (nL t) Lc, .slice Ka (nK t) Kc] 25)).alloc (.cells (made5 (nL t + 8)) 25)).frozen? ⟨w.heap.size + 1 + 1, 3, none⟩ = false ∧ ((((w.alloc (.cells #[.int .i64 (kindOf t), .int .i64 (nOf t), .string (sOf t), .slice La (nL t) Lc, .slice Ka (nK t) Kc] 25)).alloc (.cells #[.int .i64 0, .int .i64 0, .string ⟨#[]⟩, .slice none 0 0, .slice none 0 0] 25)).alloc (.cells #[.int .i64 (kindOf t), .int .i64 (nOf t), .string (sOf t), .slice La (nL t) Lc, .slice Ka (nK t) Kc] 25)).alloc (.cells (made5 (nL t + 8)) 25)).frozen? ⟨w.heap.size + 1 + 1, 4, none⟩ = false) := by
    refine ⟨?_, ?_, ?_, ?_, ?_, ?_, ?_, ?_, ?_, ?_⟩ <;> simp [go_sem]
  have hb1 : w.heap.size < bl := by omega
  have hb2 : w.heap.size + 1 < bl := by omega
  have hb3 : w.heap.size + 1 + 1 < bl := by omega
  have Hbl := hid hbl
  clear hbl hmk
  go_loopg [7] (nL t) (fun g i wr => ∃ k : Nat, g = nL t - k ∧ k ≤ nL t ∧ i = .int .i64 k ∧ Hid (Lending bl N k m f1 t ((((w.alloc (.cells #[.int .i64 (kindOf t), .int .i64 (nOf t), .string (sOf t), .slice La (nL t) Lc, .slice Ka (nK t) Kc] 25)).alloc (.cells #[.int .i64 0, .int .i64 0, .string ⟨#[]⟩, .slice none 0 0, .slice none 0 0] 25)).alloc (.cells #[.int .i64 (kindOf t), .int .i64 (nOf t), .string (sOf t), .slice La (nL t) Lc, .slice Ka (nK t) Kc] 25)).alloc (.cells (made5 (nL t + 8)) 25)) wr))
  case atStart => exact ⟨0, rfl, Nat.zero_le _, rfl, ⟨Below.refl _ _, HW4.out.2, fun i hi => absurd hi (Nat.not_lt_zero _)⟩⟩
  case round =>
    obtain ⟨k, rfl, hk1, rfl, HL⟩ := hrel
    have q3 := (HL.out.old.cell (p := ⟨w.heap.size, 3, none⟩) hb1).trans HC4.out.1
    by_cases hlt : k < nL t
    · have HE := hid HA.out
      obtain ⟨La', Ka', Lc', Kc', hv, hzz, hel, hzy⟩ : AtP (fun b => b < N) w (f1 + 1) _ t := hf1 ▸ HA.out
      simp only [Value.agg.injEq, Array.mk.injEq, List.cons.injEq, Value.slice.injEq, and_true, true_and] at hv
      obtain ⟨⟨rfl, rfl⟩, rfl, rfl⟩ := hv
      obtain ⟨b, o, c0, c1, c2, c3, c4, rfl, ⟨hb, hbN⟩, p0, p1, p2, p3, p4, Ha⟩ := hel k hlt
      clear hel HE hzz hzy
      have Hwr := hid (HW4.out.1.trans (HL.out.old.mono (Nat.le_of_lt hb1)))
      have Ha2 := hid (AtP.move (q := fun b => b < N) Hwr.out.size (fun b h1 h2 => ⟨h2, Hwr.out.block b h1⟩) Ha)
      have y0 := (Hwr.out.cell (p := ⟨b, o + k * 5, none⟩) hb).trans p0
      have y1 := (Hwr.out.cell (p := ⟨b, o + k * 5 + 1, none⟩) hb).trans p1
      have y2 := (Hwr.out.cell (p := ⟨b, o + k * 5 + 2, none⟩) hb).trans p2
      have y3 := (Hwr.out.cell (p := ⟨b, o + k * 5 + 3, none⟩) hb).trans p3
      have y4 := (Hwr.out.cell (p := ⟨b, o + k * 5 + 4, none⟩) hb).trans p4
      clear Ha p0 p1 p2 p3 p4
      go_wp2_with fail
      refine (Hih.out f1 N _ (elt t k) wr Ha2.out (Nat.le_trans hN Hwr.out.size)).mono ?_
      rintro e w2 ⟨x, rfl, hx, hb5⟩
      obtain ⟨A, B, C, D, rfl⟩ := hx.shape
      have HX := hid (HL.out.step (by omega) hb5 hlt hx)
      obtain ⟨v0, v1, v2, v3, v4, ⟨z0, z1, z2, z3, z4⟩, ⟨f0, f1', f2, f3, f4⟩⟩ := row5 (o := k * 5) (HL.out.row.move hb5.size (hb5.block bl HL.out.row.1)) (by omega)
      have q3' := (hb5.cell (p := ⟨w.heap.size, 3, none⟩) (by have := HL.out.row.1; show w.heap.size < _; omega)).trans q3
      clear hx hb5
      unfold five
      go_wp2_with fail
      go_roundg (nL t - (k + 1))
      case rel => exact ⟨k + 1, rfl, by omega, by go_num, HX.out⟩
      case measure => omega
    · obtain rfl : k = nL t := by omega
      have q4 := (HL.out.old.cell (p := ⟨w.heap.size, 4, none⟩) hb1).trans HC4.out.2
      have z1 : w.heap.size < wr.heap.size := by have := HL.out.row.1; omega
      have Hwr := hid (HW4.out.1.trans (HL.out.old.mono (Nat.le_of_lt hb1)))
      have HNa : Hid (NamesAt (wr.alloc (.cells (made1 (nK t + 8)) 9)) Ka t) := (hk.out.keep Hwr.out).keep ((Below.refl _ _).alloc (Nat.le_refl _) _)
      have HRk : Hid (RowAt (wr.alloc (.cells (made1 (nK t + 8)) 9)) wr.heap.size (nK t + 8)) := row_made (made1_size _)
      go_wp2_with (refine wpList_copy_names rfl _ _ rfl wr.heap.size Kc Ka t rfl rfl HRk.out HNa.out ?_; intro w5 hbut hrk hnm)
      have HM0 := hid (Marking.start HL.out hbut hrk hnm (fun i hi => by obtain ⟨_, _, _, _, hs, _⟩ := hk.out i hi; exact hs))
      clear hbut hrk hnm HNa HRk HL q3 q4 hmk1 Hwr
      generalize wr.heap.size = bk at HM0 z1 ⊢
      go_loopg [9] 8 (fun g i wx => ∃ j : Nat, g = 8 - j ∧ j ≤ 8 ∧ i = .int .i64 j ∧ Hid (Marking bl bk N j m f1 t ((((w.alloc (.cells #[.int .i64 (kindOf t), .int .i64 (nOf t), .string (sOf t), .slice La (nL t) Lc, .slice Ka (nK t) Kc] 25)).alloc (.cells #[.int .i64 0, .int .i64 0, .string ⟨#[]⟩, .slice none 0 0, .slice none 0 0] 25)).alloc (.cells #[.int .i64 (kindOf t), .int .i64 (nOf t), .string (sOf t), .slice La (nL t) Lc, .slice Ka (nK t) Kc] 25)).alloc (.cells (made5 (nL t + 8)) 25)) wx))
      case atStart => exact ⟨0, rfl, by omega, rfl, HM0⟩
      case round =>
        obtain ⟨j, rfl, hj1, rfl, HM⟩ := hrel
        have q3 := (HM.out.old.cell (p := ⟨w.heap.size, 3, none⟩) hb1).trans HC4.out.1
        have q4 := (HM.out.old.cell (p := ⟨w.heap.size, 4, none⟩) hb1).trans HC4.out.2
        by_cases hjl : j < 8
        · have g1 := HM.out.rowL.1
          have g2 := HM.out.rowK.1
          have g3 := HM.out.lt
          obtain ⟨v0, v1, v2, v3, v4, ⟨z0, z1', z2, z3, z4⟩, ⟨f0, f1', f2, f3, f4⟩⟩ := row5 (o := (nL t + j) * 5) HM.out.rowL (by omega)
          obtain ⟨vk, zk⟩ := Option.isSome_iff_exists.1 (HM.out.rowK.2 (nK t + j) (by omega)).1
          have fk := (HM.out.rowK.2 (nK t + j) (by omega)).2
          have hw1 : w.heap.size < wr.heap.size := by omega
          have HSS : Hid (∀ w6 : World, Below wr.drew.heap.size wr.drew w6 → (w6.cell? ⟨w.heap.size, 3, none⟩ = some (.slice La (nL t) Lc) ∧ w6.cell? ⟨w.heap.size, 4, none⟩ = some (.slice Ka (nK t) Kc) ∧ w6.cell? ⟨bl, (nL t + j) * 5, none⟩ = some v0 ∧ w6.cell? ⟨bl, (nL t + j) * 5 + 1, none⟩ = some v1 ∧ w6.cell? ⟨bl, (nL t + j) * 5 + 2, none⟩ = some v2 ∧ w6.cell? ⟨bl, (nL t + j) * 5 + 3, none⟩ = some v3 ∧ w6.cell? ⟨bl, (nL t + j) * 5 + 4, none⟩ = some v4 ∧ w6.cell? ⟨bk, nK t + j, none⟩ = some vk) ∧
              (w6.frozen? ⟨bl, (nL t + j) * 5, none⟩ = false ∧ w6.frozen? ⟨bl, (nL t + j) * 5 + 1, none⟩ = false ∧ w6.frozen? ⟨bl, (nL t + j) * 5 + 2, none⟩ = false ∧ w6.frozen? ⟨bl, (nL t + j) * 5 + 3, none⟩ = false ∧ w6.frozen? ⟨bl, (nL t + j) * 5 + 4, none⟩ = false ∧ w6.frozen? ⟨bk, nK t + j, none⟩ = false)) := by
            intro w6 h6
            have hh := (below_drew wr).trans h6
            refine ⟨⟨?_, ?_, ?_, ?_, ?_, ?_, ?_, ?_⟩, ⟨?_, ?_, ?_, ?_, ?_, ?_⟩⟩
            all_goals first | (rw [hh.cell (p := ⟨_, _, none⟩) (by first | exact hw1 | exact g1 | exact g2)]; assumption) | (rw [hh.frozen (p := ⟨_, _, none⟩) (by first | exact g1 | exact g2)]; assumption)
          have n1 : bl ≠ bk := by omega
          have n2 : bl ≠ w.heap.size := by omega
          have x1 : (nL t : Int) + (j : Int) < (nL t : Int) + 8 := by omega
          have x2 : (nK t : Int) + (j : Int) < (nK t : Int) + 8 := by omega
          have x3 : (nL t : Int) + (j : Int) < ((nL t + 8 : Nat) : Int) := by omega
          have x4 : (0 : Int) ≤ (nL t : Int) + (j : Int) := by omega
          have xw : IntKind.i64.wrap ((nL t : Int) + (j : Int)) = (nL t : Int) + (j : Int) := by rw [IntKind.wrap_i64]; omega
          have x5 : ((nL t : Int) + (j : Int)).toNat = nL t + j := by omega
          have x6 : (nK t : Int) + (j : Int) < ((nK t + 8 : Nat) : Int) := by omega
          go_wp2_with fail
          go_region_with ((go_at_call 43; refine (mark77_any _).mono ?_; rintro e w6 ⟨rfl, hb6⟩; have hS := HSS.out _ hb6; obtain ⟨⟨s3, s4, s5, s6, s7, s8, s9, s10⟩, ⟨y5, y6, y7, y8, y9, y10⟩⟩ := hS))
          all_goals
            have HX := hid (HM.out.step (by omega) ((below_drew wr).trans hb6) hjl)
            clear hb6
            go_wp2_with fail
            go_roundg (8 - (j + 1))
            case rel => exact ⟨j + 1, rfl, by omega, by go_num, HX.out⟩
            case measure => omega
        · obtain rfl : j = 8 := by omega
          have a0 := (HM.out.old.cell (p := ⟨w.heap.size + 1, 0, none⟩) hb2).trans HC5.out.1
          have c0 := (HM.out.old.cell (p := ⟨w.heap.size + 1 + 1, 0, none⟩) hb3).trans HC6.out.1
          have a1 := (HM.out.old.cell (p := ⟨w.heap.size + 1, 1, none⟩) hb2).trans HC5.out.2.1
          have c1 := (HM.out.old.cell (p := ⟨w.heap.size + 1 + 1, 1, none⟩) hb3).trans HC6.out.2.1
          have a2 := (HM.out.old.cell (p := ⟨w.heap.size + 1, 2, none⟩) hb2).trans HC5.out.2.2.1
          have c2 := (HM.out.old.cell (p := ⟨w.heap.size + 1 + 1, 2, none⟩) hb3).trans HC6.out.2.2.1
          have a3 := (HM.out.old.cell (p := ⟨w.heap.size + 1, 3, none⟩) hb2).trans HC5.out.2.2.2.1
          have c3 := (HM.out.old.cell (p := ⟨w.heap.size + 1 + 1, 3, none⟩) hb3).trans HC6.out.2.2.2.1
          have a4 := (HM.out.old.cell (p := ⟨w.heap.size + 1, 4, none⟩) hb2).trans HC5.out.2.2.2.2
          have c4 := (HM.out.old.cell (p := ⟨w.heap.size + 1 + 1, 4, none⟩) hb3).trans HC6.out.2.2.2.2
          have e0' := (HM.out.old.frozen (p := ⟨w.heap.size + 1, 0, none⟩) hb2).trans HC7.out.1
          have e1' := (HM.out.old.frozen (p := ⟨w.heap.size + 1, 1, none⟩) hb2).trans HC7.out.2.1
          have e2' := (HM.out.old.frozen (p := ⟨w.heap.size + 1, 2, none⟩) hb2).trans HC7.out.2.2.1
          have e3' := (HM.out.old.frozen (p := ⟨w.heap.size + 1, 3, none⟩) hb2).trans HC7.out.2.2.2.1
          have e4' := (HM.out.old.frozen (p := ⟨w.heap.size + 1, 4, none⟩) hb2).trans HC7.out.2.2.2.2.1
          have d0 := (HM.out.old.frozen (p := ⟨w.heap.size + 1 + 1, 0, none⟩) hb3).trans HC7.out.2.2.2.2.2.1
          have d1 := (HM.out.old.frozen (p := ⟨w.heap.size + 1 + 1, 1, none⟩) hb3).trans HC7.out.2.2.2.2.2.2.1
          have d2 := (HM.out.old.frozen (p := ⟨w.heap.size + 1 + 1, 2, none⟩) hb3).trans HC7.out.2.2.2.2.2.2.2.1
          have d3 := (HM.out.old.frozen (p := ⟨w.heap.size + 1 + 1, 3, none⟩) hb3).trans HC7.out.2.2.2.2.2.2.2.2.1
          have d4 := (HM.out.old.frozen (p := ⟨w.heap.size + 1 + 1, 4, none⟩) hb3).trans HC7.out.2.2.2.2.2.2.2.2.2
          have x7 : (nL t : Int) ≤ ((nL t + 8 : Nat) : Int) := by omega
          have x8 : (nK t : Int) ≤ ((nK t + 8 : Nat) : Int) := by omega
          have g1 := HM.out.rowL.1
          have g2 := HM.out.rowK.1
          have g3 := HM.out.lt
          go_wp2_with fail
          refine bodyPost_ret (v := five t (some ⟨bl, 0, none⟩) (nL t + 8) (some ⟨bk, 0, none⟩) (nK t + 8)) (by simp [results, Tryz.results14, go_sem, five, *]) rfl ⟨_, rfl, ?_, ?_⟩
          · exact Marking.finish HM.out hf1 HF.out ((But.set _ _ _ _).trans (But.set _ _ _ _)) (((((But.set _ _ _ _).trans (But.set _ _ _ _)).trans (But.set _ _ _ _)).trans (But.set _ _ _ _)).trans (But.set _ _ _ _)) hb2 hb3 (by omega) (by omega) hN
          · have B1 := (HW4.out.1.trans (HM.out.old.mono (Nat.le_of_lt hb1)))
            exact ((((((B1.setCell (by show w.heap.size ≤ w.heap.size + 1 + 1; omega) _).setCell (by show w.heap.size ≤ w.heap.size + 1 + 1; omega) _).setCell (by show w.heap.size ≤ w.heap.size + 1; omega) _).setCell (by show w.heap.size ≤ w.heap.size + 1; omega) _).setCell (by show w.heap.size ≤ w.heap.size + 1; omega) _).setCell (by show w.heap.size ≤ w.heap.size + 1; omega) _).setCell (by show w.heap.size ≤ w.heap.size + 1; omega) _
theorem lent_any : ∀ (m : Nat), m ≤ 100 → LentSaid m
  | 0, _ => lent_zero
  | m + 1, h => lent_succ m (lent_any m (by omega)) (by omega)
end Go.Proofs.YtknakfpciccoaaaGreatDoor
