import Derived.Test.YtknakfpciccoaaaGreatDoorZP10
import Derived.Deep.RegionHeld3
import Derived.Deep.AppendLies
import Derived.Deep.LoopGhost
import Derived.Deep.RegionLaw
import Derived.Test.YtknakfpciccoaaaGreatDoorZP9
import Derived.Laws.IdiomStrings
import Derived.Laws.Concat
/- The walk of the program's reader: entries. -/
namespace Go.Proofs.YtknakfpciccoaaaGreatDoor
open Go.RowKit

def ValPost (c d : Nat) (s : ByteArray) (w : World) (e : Ending) (w' : World) : Prop :=
  But c w w' ∧ ((∃ t r es A B C D, decP d s = some (t, r) ∧ e = .returned (five t A B C D) ∧ Flat w' (d + 1) (five t A B C D) t es ∧ Sep w.heap.size w' es ∧ Left c r w') ∨ (decP d s = none ∧ e = refused 6))
def ValSaid (d : Nat) : Prop := ∀ (c : Nat) (s : ByteArray) (w : World), Left c s w → s.size ≤ 140737488355328 → Calls Tryz.prog 108 #[.pointer (some ⟨c, 0, none⟩), .int .i64 ((12 - d : Nat) : Int)] w (ValPost c d s w)
/-- A box of five cells. -/
structure BoxAt (b : Nat) (c0 c1 c2 c3 c4 : Value) (w : World) : Prop where
  q0 : w.cell? ⟨b, 0, none⟩ = some c0
  q1 : w.cell? ⟨b, 1, none⟩ = some c1
  q2 : w.cell? ⟨b, 2, none⟩ = some c2
  q3 : w.cell? ⟨b, 3, none⟩ = some c3
  q4 : w.cell? ⟨b, 4, none⟩ = some c4
  f0 : w.frozen? ⟨b, 0, none⟩ = false
  f1 : w.frozen? ⟨b, 1, none⟩ = false
  f2 : w.frozen? ⟨b, 2, none⟩ = false
  f3 : w.frozen? ⟨b, 3, none⟩ = false
  f4 : w.frozen? ⟨b, 4, none⟩ = false
  lt : b < w.heap.size
def entO (d : Nat) (k : Int) (s : ByteArray) : Option (T × ByteArray) := (szB s 4).bind fun p => (ents (decP d) (k == 6) p.1.size p.1).bind fun q => some (mkT k 0 ByteArray.empty q.2 q.1, p.2)
def EntPost (c d : Nat) (k : Int) (s : ByteArray) (w : World) (e : Ending) (w' : World) : Prop :=
  But c w w' ∧ ((∃ t r es A B C D, entO d k s = some (t, r) ∧ e = .returned (five t A B C D) ∧ Flat w' (d + 2) (five t A B C D) t es ∧ Sep w.heap.size w' es ∧ Left c r w') ∨ (entO d k s = none ∧ e = refused 6))

theorem BoxAt.move {b : Nat} {c0 c1 c2 c3 c4 : Value} {w w' : World} (h : BoxAt b c0 c1 c2 c3 c4 w) (hs : w.heap.size ≤ w'.heap.size) (hb : w'.heap[b]? = w.heap[b]?) : BoxAt b c0 c1 c2 c3 c4 w' :=
  ⟨(cell_of hb _).trans h.q0, (cell_of hb _).trans h.q1, (cell_of hb _).trans h.q2, (cell_of hb _).trans h.q3, (cell_of hb _).trans h.q4,
   (World.frozen?_of_block (w := w) (a := ⟨b, _, none⟩) hb).trans h.f0, (World.frozen?_of_block (w := w) (a := ⟨b, _, none⟩) hb).trans h.f1, (World.frozen?_of_block (w := w) (a := ⟨b, _, none⟩) hb).trans h.f2, (World.frozen?_of_block (w := w) (a := ⟨b, _, none⟩) hb).trans h.f3, (World.frozen?_of_block (w := w) (a := ⟨b, _, none⟩) hb).trans h.f4, Nat.lt_of_lt_of_le h.lt hs⟩
theorem Left.move {c : Nat} {s : ByteArray} {w w' : World} (h : Left c s w) (hs : w.heap.size ≤ w'.heap.size) (hb : w'.heap[c]? = w.heap[c]?) : Left c s w' :=
  ⟨(cell_of hb _).trans h.cell, (World.frozen?_of_block (w := w) (a := ⟨c, _, none⟩) hb).trans h.free, Nat.lt_of_lt_of_le h.lt hs⟩
theorem BoxAt.put3 {b : Nat} {c0 c1 c2 c3 c4 : Value} {w : World} (h : BoxAt b c0 c1 c2 c3 c4 w) (u : Value) : BoxAt b c0 c1 c2 u c4 (w.setCell ⟨b, 3, none⟩ u) := by
  refine ⟨?_, ?_, ?_, ?_, ?_, ?_, ?_, ?_, ?_, ?_, by simp [World.setCell]; exact h.lt⟩
  · rw [set_other (by omega)]; exact h.q0
  · rw [set_other (by omega)]; exact h.q1
  · rw [set_other (by omega)]; exact h.q2
  · exact World.cell?_setCell_same _ _ _ h.q3
  · rw [set_other (by omega)]; exact h.q4
  · rw [World.frozen?_setCell]; exact h.f0
  · rw [World.frozen?_setCell]; exact h.f1
  · rw [World.frozen?_setCell]; exact h.f2
  · rw [World.frozen?_setCell]; exact h.f3
  · rw [World.frozen?_setCell]; exact h.f4
theorem BoxAt.put4 {b : Nat} {c0 c1 c2 c3 c4 : Value} {w : World} (h : BoxAt b c0 c1 c2 c3 c4 w) (u : Value) : BoxAt b c0 c1 c2 c3 u (w.setCell ⟨b, 4, none⟩ u) := by
  refine ⟨?_, ?_, ?_, ?_, ?_, ?_, ?_, ?_, ?_, ?_, by simp [World.setCell]; exact h.lt⟩
  · rw [set_other (by omega)]; exact h.q0
  · rw [set_other (by omega)]; exact h.q1
  · rw [set_other (by omega)]; exact h.q2
  · rw [set_other (by omega)]; exact h.q3
  · exact World.cell?_setCell_same _ _ _ h.q4
  · rw [World.frozen?_setCell]; exact h.f0
  · rw [World.frozen?_setCell]; exact h.f1
  · rw [World.frozen?_setCell]; exact h.f2
  · rw [World.frozen?_setCell]; exact h.f3
  · rw [World.frozen?_setCell]; exact h.f4
theorem box_new (w : World) (c0 c1 c2 c3 c4 : Value) : BoxAt w.heap.size c0 c1 c2 c3 c4 (w.alloc (.cells #[c0, c1, c2, c3, c4] 25)) := by
  refine ⟨?_, ?_, ?_, ?_, ?_, ?_, ?_, ?_, ?_, ?_, ?_⟩ <;> simp [go_sem]
theorem left_new (w : World) (s : ByteArray) : Left w.heap.size s (w.alloc (.cells #[.string s] 139)) := by
  refine ⟨?_, ?_, ?_⟩ <;> simp [go_sem]
/-- What holds at the loop's head: in memory. -/
structure EI (d : Nat) (k : Int) (c : Nat) (w : World) (b2 : Nat) (rest a : ByteArray) (L : List T) (K : List ByteArray) (Lv Kv : Value) (xs : List Value) (sub : Nat → List Ent) (wr : World) : Prop where
  grow : Grow (b2 + 1) (d + 1) wr Lv Kv L K xs sub
  res : BoxAt w.heap.size (.int .i64 0) (.int .i64 0) (.string ⟨#[]⟩) (.slice none 0 0) (.slice none 0 0) wr
  box : BoxAt (w.heap.size + 1) (.int .i64 k) (.int .i64 0) (.string ⟨#[]⟩) Lv Kv wr
  inn : Left b2 a wr
  out : Left c rest wr
  but : But c w wr
  lc : c < w.heap.size
  lb : w.heap.size + 1 < b2
section
variable {d : Nat} {k : Int} {c : Nat} {w : World} {b2 : Nat} {rest a : ByteArray} {L : List T} {K : List ByteArray} {Lv Kv : Value} {xs : List Value} {sub : Nat → List Ent} {wr : World}
theorem EI.inner (h : EI d k c w b2 rest a L K Lv Kv xs sub wr) {w1 : World} {a1 : ByteArray} (hB : But b2 wr w1) (hL : Left b2 a1 w1) : EI d k c w b2 rest a1 L K Lv Kv xs sub w1 := by
  have h1 := h.lc
  have h2 := h.lb
  refine ⟨h.grow.move hB.size (fun b hb hh => hB.block b hh (by omega)), h.res.move hB.size (hB.block _ h.res.lt (by omega)), h.box.move hB.size (hB.block _ h.box.lt (by omega)), hL, h.out.move hB.size (hB.block _ h.out.lt (by omega)), ?_, h1, h2⟩
  have hb := h.but
  exact ⟨hB.os.trans hb.os, hB.tape.trans hb.tape, hB.output.trans hb.output, Nat.le_trans hb.size hB.size, fun i hi hc => (hB.block i (Nat.lt_of_lt_of_le hi hb.size) (by omega)).trans (hb.block i hi hc)⟩
theorem EI.keep (h : EI d k c w b2 rest a L K Lv Kv xs sub wr) {w1 : World} (hB : Below wr.heap.size wr w1) : EI d k c w b2 rest a L K Lv Kv xs sub w1 :=
  h.inner (But.of hB) (h.inn.keep hB)
theorem EI.putK (h : EI d k c w b2 rest a L K Lv Kv xs sub wr) {w2 : World} {Kv' : Value} {nm : ByteArray} (hk : nm.size ≤ 140737488355328)
    (hO : w2.ownsRow (b2 + 1) eS 1 Kv' (K.length + 1) (namesV K ++ [.string nm])) (hG : wr.grownBy w2 Kv.ownBlock) (hN : NewOr wr Kv Kv') : EI d k c w b2 rest a L (K ++ [nm]) Lv Kv' xs sub (w2.setCell ⟨w.heap.size + 1, 4, none⟩ Kv') := by
  have h1 := h.lc
  have h2 := h.lb
  have hne : ∀ b, b ≤ b2 → some b ≠ Kv.ownBlock := fun b hb e => by
    have := (h.grow.ownK.lt b e.symm).1
    omega
  have hblk : ∀ b, b < wr.heap.size → b ≤ b2 → w2.heap[b]? = wr.heap[b]? := fun b hb hh => hG.block b hb (hne b hh)
  have hset : ∀ b, b ≠ w.heap.size + 1 → (w2.setCell ⟨w.heap.size + 1, 4, none⟩ Kv').heap[b]? = w2.heap[b]? := fun b hb => Below.heap_setCell _ _ _ _ (by simpa using hb)
  have hsz : (w2.setCell ⟨w.heap.size + 1, 4, none⟩ Kv').heap.size = w2.heap.size := by simp [World.setCell]
  have hs2 := hG.size
  refine ⟨(h.grow.addK nm hk hO hG hN).set _ _ _ (by omega), h.res.move (by omega) ((hset _ (by omega)).trans (hblk _ h.res.lt (by omega))), (h.box.move hs2 (hblk _ h.box.lt (by omega))).put4 Kv', h.inn.move (by omega) ((hset _ (by omega)).trans (hblk _ h.inn.lt (by omega))), h.out.move (by omega) ((hset _ (by omega)).trans (hblk _ h.out.lt (by omega))), ?_, h1, h2⟩
  have hb := h.but
  have hbs := hb.size
  refine ⟨hG.os.trans hb.os, hG.tape.trans hb.tape, hG.output.trans hb.output, by omega, fun i hi hc => ?_⟩
  exact (hset i (by omega)).trans ((hblk i (by omega) (by omega)).trans (hb.block i hi hc))
theorem EI.putL (h : EI d k c w b2 rest a L K Lv Kv xs sub wr) {w2 : World} {Lv' : Value} {x : T} {es : List Ent} {c0 c1 c2 c3 c4 : Value} (hF : Flat wr (d + 1) (.agg #[c0, c1, c2, c3, c4]) x es)
    (hS : Sep (b2 + 1) wr (catE sub L.length ++ es ++ [⟨Lv, L.length, Kv, K.length⟩])) (hO : w2.ownsRow (b2 + 1) eV 5 Lv' (L.length + 1) (xs ++ [c0, c1, c2, c3, c4])) (hG : wr.grownBy w2 Lv.ownBlock) (hN : NewOr wr Lv Lv') :
    EI d k c w b2 rest a (L ++ [x]) K Lv' Kv (xs ++ [c0, c1, c2, c3, c4]) (updE sub L.length es) (w2.setCell ⟨w.heap.size + 1, 3, none⟩ Lv') := by
  have h1 := h.lc
  have h2 := h.lb
  have hne : ∀ b, b ≤ b2 → some b ≠ Lv.ownBlock := fun b hb e => by
    have := (h.grow.ownL.lt b e.symm).1
    omega
  have hblk : ∀ b, b < wr.heap.size → b ≤ b2 → w2.heap[b]? = wr.heap[b]? := fun b hb hh => hG.block b hb (hne b hh)
  have hset : ∀ b, b ≠ w.heap.size + 1 → (w2.setCell ⟨w.heap.size + 1, 3, none⟩ Lv').heap[b]? = w2.heap[b]? := fun b hb => Below.heap_setCell _ _ _ _ (by simpa using hb)
  have hsz : (w2.setCell ⟨w.heap.size + 1, 3, none⟩ Lv').heap.size = w2.heap.size := by simp [World.setCell]
  have hs2 := hG.size
  refine ⟨(h.grow.addL hF hS hO hG hN).set _ _ _ (by omega), h.res.move (by omega) ((hset _ (by omega)).trans (hblk _ h.res.lt (by omega))), (h.box.move hs2 (hblk _ h.box.lt (by omega))).put3 Lv', h.inn.move (by omega) ((hset _ (by omega)).trans (hblk _ h.inn.lt (by omega))), h.out.move (by omega) ((hset _ (by omega)).trans (hblk _ h.out.lt (by omega))), ?_, h1, h2⟩
  have hb := h.but
  have hbs := hb.size
  refine ⟨hG.os.trans hb.os, hG.tape.trans hb.tape, hG.output.trans hb.output, by omega, fun i hi hc => ?_⟩
  exact (hset i (by omega)).trans ((hblk i (by omega) (by omega)).trans (hb.block i hi hc))
end
theorem ents_empty (f : ByteArray → Option (T × ByteArray)) (o : Bool) (n : Nat) (a : ByteArray) (h : a.size = 0) : ents f o n a = some ([], []) := by
  cases n <;> (unfold ents; rw [if_pos h])
/-- One more. -/
def nextE (f : ByteArray → Option (T × ByteArray)) (o : Bool) (n : Nat) (L : List T) (K : List ByteArray) (a : ByteArray) : Option (List ByteArray × List T) := (f a).bind fun q => (ents f o n q.2).bind fun r => some (K ++ r.1, L ++ q.1 :: r.2)
theorem ents_K {f : ByteArray → Option (T × ByteArray)} {n : Nat} {a nm a1 : ByteArray} {L : List T} {K : List ByteArray} (h : a.size ≠ 0) (hz : szB a 2 = some (nm, a1)) : ((ents f true (n + 1) a).map fun p => (K ++ p.1, L ++ p.2)) = nextE f true n L (K ++ [nm]) a1 := by
  unfold ents nextE
  rw [if_neg h, if_pos rfl, hz]
  simp only [Option.bind_some]
  cases f a1 with
  | none => rfl
  | some q =>
    simp only [Option.bind_some]
    cases ents f true n q.2 with
    | none => rfl
    | some r => simp
theorem ents_K0 {f : ByteArray → Option (T × ByteArray)} {n : Nat} {a : ByteArray} {L : List T} {K : List ByteArray} (h : a.size ≠ 0) (hz : szB a 2 = none) : ((ents f true (n + 1) a).map fun p => (K ++ p.1, L ++ p.2)) = none := by
  unfold ents
  rw [if_neg h, if_pos rfl, hz]
  rfl
theorem ents_L {f : ByteArray → Option (T × ByteArray)} {n : Nat} {a : ByteArray} {L : List T} {K : List ByteArray} (h : a.size ≠ 0) : ((ents f false (n + 1) a).map fun p => (K ++ p.1, L ++ p.2)) = nextE f false n L K a := by
  unfold ents nextE
  rw [if_neg h, if_neg (by simp)]
  simp only [Option.bind_some]
  cases f a with
  | none => rfl
  | some q =>
    simp only [Option.bind_some]
    cases ents f false n q.2 with
    | none => rfl
    | some r => simp
theorem next_none {f : ByteArray → Option (T × ByteArray)} {o : Bool} {n : Nat} {a : ByteArray} {L : List T} {K : List ByteArray} (h : f a = none) : nextE f o n L K a = none := by unfold nextE; rw [h]; rfl
theorem next_some {f : ByteArray → Option (T × ByteArray)} {o : Bool} {n : Nat} {a r : ByteArray} {x : T} {L : List T} {K : List ByteArray} (h : f a = some (x, r)) : nextE f o n L K a = (ents f o n r).map fun p => (K ++ p.1, (L ++ [x]) ++ p.2) := by
  unfold nextE
  rw [h]
  simp only [Option.bind_some]
  cases ents f o n r with
  | none => rfl
  | some p => simp
/-- The same contract, with what comes of it told ahead. -/
theorem val_some {c d : Nat} {s : ByteArray} {w : World} {t : T} {r : ByteArray} (hv : ValSaid d) (hz : decP d s = some (t, r)) (h : Left c s w) (hs : s.size ≤ 140737488355328) :
    Calls Tryz.prog 108 #[.pointer (some ⟨c, 0, none⟩), .int .i64 ((12 - d : Nat) : Int)] w fun e w' => ∃ es A B C D, e = .returned (five t A B C D) ∧ But c w w' ∧ Flat w' (d + 1) (five t A B C D) t es ∧ Sep w.heap.size w' es ∧ Left c r w' := by
  refine (hv c s w h hs).mono ?_
  rintro e w' ⟨hB, ⟨t', r', es, A, B, C, D, hz', rfl, hF, hS, hL⟩ | ⟨hz', _⟩⟩
  · rw [hz] at hz'
    cases hz'
    exact ⟨es, A, B, C, D, rfl, hB, hF, hS, hL⟩
  · rw [hz] at hz'
    cases hz'
theorem val_none {c d : Nat} {s : ByteArray} {w : World} (hv : ValSaid d) (hz : decP d s = none) (h : Left c s w) (hs : s.size ≤ 140737488355328) :
    Calls Tryz.prog 108 #[.pointer (some ⟨c, 0, none⟩), .int .i64 ((12 - d : Nat) : Int)] w fun e w' => e = refused 6 ∧ But c w w' := by
  refine (hv c s w h hs).mono ?_
  rintro e w' ⟨hB, ⟨t', r', es, A, B, C, D, hz', _⟩ | ⟨hz', rfl⟩⟩
  · rw [hz] at hz'
    cases hz'
  · exact ⟨rfl, hB⟩
end Go.Proofs.YtknakfpciccoaaaGreatDoor
/- The walk of the program's reader: entries. -/
namespace Go.Proofs.YtknakfpciccoaaaGreatDoor
open Go.RowKit

theorem infoS : (Tryz.prog.info? 9).map (fun i => (i.zero, i.size, i.bytes)) = some (some (.string ⟨#[]⟩), 1, 16) := by kernel_rfl
theorem infoV : (Tryz.prog.info? 25).map (fun i => (i.zero, i.size, i.bytes)) = some (some (.agg #[.int .i64 0, .int .i64 0, .string ⟨#[]⟩, .slice none 0 0, .slice none 0 0]), 5, 80) := by kernel_rfl
theorem empty_of {a : ByteArray} (h : a.size = 0) : a = ⟨#[]⟩ := by
  apply ByteArray.ext
  exact Array.eq_empty_of_size_eq_zero h
theorem nonempty_of {a : ByteArray} (h : a.size ≠ 0) : a.toList.isEmpty = false := by
  cases a with
  | mk d =>
    cases d with
    | mk l =>
      cases l with
      | nil => exact (h rfl).elim
      | cons x l => simp [ByteArray.toList_eq]
section
variable {d : Nat} {k : Int} {c : Nat} {w : World} {b2 : Nat} {rest a : ByteArray} {L : List T} {K : List ByteArray} {Lv Kv : Value} {xs : List Value} {sub : Nat → List Ent} {wr : World}
theorem EI.boxInner (h : EI d k c w b2 rest a L K Lv Kv xs sub wr) {w1 : World} (hB : But b2 wr w1) : BoxAt (w.heap.size + 1) (.int .i64 k) (.int .i64 0) (.string ⟨#[]⟩) Lv Kv w1 := by
  have := h.lb
  exact h.box.move hB.size (hB.block _ h.box.lt (by omega))
theorem EI.butInner (h : EI d k c w b2 rest a L K Lv Kv xs sub wr) {w1 : World} (hB : But b2 wr w1) : But c w w1 := by
  have h2 := h.lb
  have hb := h.but
  exact ⟨hB.os.trans hb.os, hB.tape.trans hb.tape, hB.output.trans hb.output, Nat.le_trans hb.size hB.size, fun i hi hc => (hB.block i (Nat.lt_of_lt_of_le hi hb.size) (by omega)).trans (hb.block i hi hc)⟩
theorem EI.sepKid (h : EI d k c w b2 rest a L K Lv Kv xs sub wr) {w1 : World} {es : List Ent} (hB : But b2 wr w1) (hS : Sep wr.heap.size w1 es) : Sep (b2 + 1) w1 (catE sub L.length ++ es ++ [⟨Lv, L.length, Kv, K.length⟩]) :=
  h.grow.sep.child hB.size hS h.grow.low
theorem newOr_of {w5 : World} {v : Value} {g n cap : Nat} (o : Obj) (h : v.ownBlock = some g ∨ g = w5.heap.size + 1) : NewOr (w5.alloc o) v (.slice (some ⟨g, 0, none⟩) n cap) := by
  rcases h with h | h
  · exact .inl h.symm
  · refine .inr fun g' e => ?_
    cases e
    simp
    omega
theorem EI.stepL (h : EI d k c w b2 rest a L K Lv Kv xs sub wr) {w6 : World} {x : T} {es : List Ent} {c0 c1 c2 c3 c4 : Value} {lo g cap : Nat} (o : Obj) (hF : Flat wr (d + 1) (.agg #[c0, c1, c2, c3, c4]) x es) (hS' : Sep lo wr es)
    (hS : Sep (b2 + 1) wr (catE sub L.length ++ es ++ [⟨Lv, L.length, Kv, K.length⟩])) (hO : w6.ownsRow (b2 + 1) eV 5 (.slice (some ⟨g, 0, none⟩) (L.length + 1) cap) (L.length + 1) (xs ++ [c0, c1, c2, c3, c4])) (hG : (wr.alloc o).grownBy w6 Lv.ownBlock) (hat : Lv.ownBlock = some g ∨ g = wr.heap.size + 1) :
    EI d k c w b2 rest a (L ++ [x]) K (.slice (some ⟨g, 0, none⟩) (L.length + 1) cap) Kv (xs ++ [c0, c1, c2, c3, c4]) (updE sub L.length es) (w6.setCell ⟨w.heap.size + 1, 3, none⟩ (.slice (some ⟨g, 0, none⟩) (L.length + 1) cap)) :=
  have hb : Below wr.heap.size wr (wr.alloc o) := (Below.refl _ _).alloc (Nat.le_refl _) _
  (h.keep hb).putL (hF.keep hS' hb) (hS.keep hb.size) hO hG (newOr_of o hat)
theorem EI.stepK (h : EI d k c w b2 rest a L K Lv Kv xs sub wr) {w6 : World} {nm : ByteArray} {g cap : Nat} (o : Obj) (hk : nm.size ≤ 140737488355328)
    (hO : w6.ownsRow (b2 + 1) eS 1 (.slice (some ⟨g, 0, none⟩) (K.length + 1) cap) (K.length + 1) (namesV K ++ [.string nm])) (hG : (wr.alloc o).grownBy w6 Kv.ownBlock) (hat : Kv.ownBlock = some g ∨ g = wr.heap.size + 1) :
    EI d k c w b2 rest a L (K ++ [nm]) Lv (.slice (some ⟨g, 0, none⟩) (K.length + 1) cap) xs sub (w6.setCell ⟨w.heap.size + 1, 4, none⟩ (.slice (some ⟨g, 0, none⟩) (K.length + 1) cap)) :=
  (h.keep ((Below.refl _ _).alloc (Nat.le_refl _) _)).putK hk hO hG (newOr_of o hat)
theorem But.setNew {c : Nat} {w wr : World} (h : But c w wr) {b : Nat} (hb : w.heap.size ≤ b) (o : Nat) (u : Value) : But c w (wr.setCell ⟨b, o, none⟩ u) :=
  ⟨h.os, h.tape, h.output, by simpa [World.setCell] using h.size, fun i hi hc => (Below.heap_setCell _ _ _ _ (by simpa using (by omega : i ≠ b))).trans (h.block i hi hc)⟩
theorem Left.setOther {c : Nat} {s : ByteArray} {w : World} (h : Left c s w) {b : Nat} (hb : c ≠ b) (o : Nat) (u : Value) : Left c s (w.setCell ⟨b, o, none⟩ u) :=
  h.move (by simp [World.setCell]) (Below.heap_setCell _ _ _ _ (by simpa using hb))
theorem boxGrown {e : TypeId} {size n : Nat} {v : Value} {ys : List Value} (h : EI d k c w b2 rest a L K Lv Kv xs sub wr) {w2 : World} (hG : wr.grownBy w2 v.ownBlock) (hO : wr.ownsRow (b2 + 1) e size v n ys) : BoxAt (w.heap.size + 1) (.int .i64 k) (.int .i64 0) (.string ⟨#[]⟩) Lv Kv w2 := by
  have h2 := h.lb
  refine h.box.move hG.size (hG.block _ h.box.lt fun e => ?_)
  have := (hO.lt _ e.symm).1
  omega
end
set_option maxHeartbeats 4000000 in
set_option maxRecDepth 100000 in
theorem entries_any (d : Nat) (hd : d ≤ 11) (ih : ValSaid d) (c : Nat) (k : Int) (hk : k = 5 ∨ k = 6) (s : ByteArray) (w : World) (h : Left c s w) (hs : s.size ≤ 140737488355328) :
    Calls Tryz.prog 147 #[.pointer (some ⟨c, 0, none⟩), .int .i64 k, .int .i64 ((12 - d : Nat) : Int)] w (EntPost c d k s w) := by
  obtain ⟨iS, hiS, zS0, zS1, zS2⟩ := info_parts infoS
  obtain ⟨iV, hiV, zV0, zV1, zV2⟩ := info_parts infoV
  have HB0 : Hid (Below w.heap.size w ((w.alloc (.cells #[.int .i64 0, .int .i64 0, .string ⟨#[]⟩, .slice none 0 0, .slice none 0 0] 25)).alloc (.cells #[.int .i64 k, .int .i64 0, .string ⟨#[]⟩, .slice none 0 0, .slice none 0 0] 25))) := ((Below.refl _ _).alloc (Nat.le_refl _) _).alloc (by simp) _
  have HR0 : Hid (BoxAt w.heap.size (.int .i64 0) (.int .i64 0) (.string ⟨#[]⟩) (.slice none 0 0) (.slice none 0 0) ((w.alloc (.cells #[.int .i64 0, .int .i64 0, .string ⟨#[]⟩, .slice none 0 0, .slice none 0 0] 25)).alloc (.cells #[.int .i64 k, .int .i64 0, .string ⟨#[]⟩, .slice none 0 0, .slice none 0 0] 25))) := (box_new w _ _ _ _ _).move (by simp) (Below.heap_alloc _ _ _ (by simp))
  have HV0 : Hid (BoxAt (w.heap.size + 1) (.int .i64 k) (.int .i64 0) (.string ⟨#[]⟩) (.slice none 0 0) (.slice none 0 0) ((w.alloc (.cells #[.int .i64 0, .int .i64 0, .string ⟨#[]⟩, .slice none 0 0, .slice none 0 0] 25)).alloc (.cells #[.int .i64 k, .int .i64 0, .string ⟨#[]⟩, .slice none 0 0, .slice none 0 0] 25))) := by
    have := box_new (w.alloc (.cells #[.int .i64 0, .int .i64 0, .string ⟨#[]⟩, .slice none 0 0, .slice none 0 0] 25)) (.int .i64 k) (.int .i64 0) (.string ⟨#[]⟩) (.slice none 0 0) (.slice none 0 0)
    show BoxAt _ _ _ _ _ _ _
    simpa using this
  have hlc := h.lt
  have HN := hid (number_bytes c s 4 _ (h.keep HB0.out) (by omega) hs)
  have HI := hid ih
  have Hk := hid hk
  obtain ⟨a0, ha, ha1⟩ : ∃ a : Nat, 12 - d = a ∧ a ≤ 12 := ⟨_, rfl, by omega⟩
  have HI2 : Hid (∀ (c : Nat) (s : ByteArray) (w : World) (t : T) (r : ByteArray), decP d s = some (t, r) → Left c s w → s.size ≤ 140737488355328 →
    Calls Tryz.prog 108 #[.pointer (some ⟨c, 0, none⟩), .int .i64 (a0 : Int)] w fun e w' => ∃ es A B C D, e = .returned (.agg #[.int .i64 (kindOf t), .int .i64 (nOf t), .string (sOf t), .slice A (nL t) B, .slice C (nK t) D]) ∧ But c w w' ∧ Flat w' (d + 1) (.agg #[.int .i64 (kindOf t), .int .i64 (nOf t), .string (sOf t), .slice A (nL t) B, .slice C (nK t) D]) t es ∧ Sep w.heap.size w' es ∧ Left c r w') := by
    intro c s w t r hz hL hs
    have := val_some HI.out hz hL hs
    rwa [ha] at this
  have HI3 : Hid (∀ (c : Nat) (s : ByteArray) (w : World), decP d s = none → Left c s w → s.size ≤ 140737488355328 →
    Calls Tryz.prog 108 #[.pointer (some ⟨c, 0, none⟩), .int .i64 (a0 : Int)] w fun e w' => e = refused 6 ∧ But c w w') := by
    intro c s w hz hL hs
    have := val_none HI.out hz hL hs
    rwa [ha] at this
  rw [ha]
  clear h ih hk ha HI
  go_enter Tryz.func147, Tryz.ntmps147
  go_wp2_with fail
  refine HN.out.mono ?_
  rintro e w1 ⟨B1, ⟨h4, rfl, L1⟩ | ⟨h4, rfl⟩⟩
  · have HB1 := hid B1
    have hsz := suf_size s 4
    have hnn := numB_lt (pre s 4)
    rw [pre_size h4] at hnn
    have HT := hid (take_bytes c (suf s 4) (numB (pre s 4)) w1 L1 (by omega))
    have HL1 := hid L1
    have HR1 := hid (HR0.out.move B1.size (B1.block _ HR0.out.lt (by omega)))
    have HV1 := hid (HV0.out.move B1.size (B1.block _ HV0.out.lt (by omega)))
    have HW1 := hid ((But.of (c := c) HB0.out).trans B1)
    clear B1 L1 HN HR0 HV0 HB0 HB1
    go_wp2_with fail
    refine HT.out.mono ?_
    rintro e w2 (⟨h2, rfl, rfl⟩ | ⟨h2, rfl, rfl⟩)
    · have Hsz := hid (szB_some h4 h2)
      have hps := pre_size h2
      generalize pre (suf s 4) (numB (pre s 4)) = x at Hsz hps ⊢
      generalize suf (suf s 4) (numB (pre s 4)) = rest at Hsz ⊢
      have hx : x.size < 4294967296 := by omega
      have HE : Hid (EI d k c w w1.heap.size rest x [] [] (.slice none 0 0) (.slice none 0 0) [] (fun _ => []) ((w1.setCell ⟨c, 0, none⟩ (.string rest)).alloc (.cells #[.string x] 139))) := by
        have hL := HL1.out.set rest
        have e1 : (w1.setCell ⟨c, 0, none⟩ (.string rest)).heap.size = w1.heap.size := by simp [World.setCell]
        have hl := HV1.out.lt
        have hset : ∀ b, b ≠ c → (w1.setCell ⟨c, 0, none⟩ (.string rest)).heap[b]? = w1.heap[b]? := fun b hb => Below.heap_setCell _ _ _ _ (by simpa using hb)
        have hold : ∀ b, b < w1.heap.size → ((w1.setCell ⟨c, 0, none⟩ (.string rest)).alloc (.cells #[.string x] 139)).heap[b]? = (w1.setCell ⟨c, 0, none⟩ (.string rest)).heap[b]? := fun b hb => Below.heap_alloc _ _ _ (by omega)
        have hz : ((w1.setCell ⟨c, 0, none⟩ (.string rest)).alloc (.cells #[.string x] 139)).heap.size = w1.heap.size + 1 := by simp [World.setCell]
        refine ⟨Grow.start _ _ _ (by omega), HR1.out.move (by omega) ((hold _ HR1.out.lt).trans (hset _ (by omega))), HV1.out.move (by omega) ((hold _ HV1.out.lt).trans (hset _ (by omega))), ?_, hL.move (by omega) (hold _ (by omega)), ?_, by omega, by omega⟩
        · have := left_new (w1.setCell ⟨c, 0, none⟩ (.string rest)) x
          rwa [e1] at this
        · exact (HW1.out.trans (But.set w1 c 0 (.string rest))).trans (But.of ((Below.refl _ _).alloc (Nat.le_refl _) _))
      clear HT HL1 HR1 HV1 HW1 hsz hnn hps h2 h4
      go_wp2_with fail
      go_loopg [] x.size (fun g wr => ∃ (a : ByteArray) (L : List T) (K : List ByteArray) (Lv Kv : Value) (xs : List Value) (sub : Nat → List Ent) (n : Nat), g = a.size ∧ a.size ≤ n ∧ L.length + a.size ≤ x.size ∧ K.length + a.size ≤ x.size ∧ Hid (EI d k c w w1.heap.size rest a L K Lv Kv xs sub wr) ∧ Hid (ents (decP d) (k == 6) x.size x = (ents (decP d) (k == 6) n a).map fun p => (K ++ p.1, L ++ p.2)))
      case atStart => exact ⟨x, [], [], _, _, [], fun _ => [], x.size, rfl, Nat.le_refl _, by simp, by simp, HE, by show _ = _; cases ents (decP d) (k == 6) x.size x <;> rfl⟩
      case round =>
        clear HE
        obtain ⟨a, L, K, Lv, Kv, xs, sub, n, rfl, hn, hlL, hlK, HE, HX⟩ := hrel
        have q0 := HE.out.inn.cell
        by_cases h0 : a.size = 0
        · have ea := empty_of h0
          subst ea
          obtain ⟨A, B, rfl⟩ := own_shape HE.out.grow.ownL
          obtain ⟨C, D, rfl⟩ := own_shape HE.out.grow.ownK
          have r0 := HE.out.res.q0
          have r1 := HE.out.res.q1
          have r2 := HE.out.res.q2
          have r3 := HE.out.res.q3
          have r4 := HE.out.res.q4
          have s0 := HE.out.res.f0
          have s1 := HE.out.res.f1
          have s2 := HE.out.res.f2
          have s3 := HE.out.res.f3
          have s4 := HE.out.res.f4
          have t0 := HE.out.box.q0
          have t1 := HE.out.box.q1
          have t2 := HE.out.box.q2
          have t3 := HE.out.box.q3
          have t4 := HE.out.box.q4
          go_wp2_with fail
          refine bodyPost_ret (v := five (mkT k 0 ByteArray.empty L K) A B C D) (by simp [results, Tryz.results147, go_sem, five, kindOf_mk, nOf_mk, sOf_mk, nL_mk, nK_mk, *]; rfl) rfl ?_
          have hE := HE.out
          have hl1 := hE.lc
          have hl2 := hE.lb
          have hG := ((((hE.grow.set w.heap.size 0 (.int .i64 k) (by omega)).set w.heap.size 1 (.int .i64 0) (by omega)).set w.heap.size 2 (.string ⟨#[]⟩) (by omega)).set w.heap.size 3 (.slice A L.length B) (by omega)).set w.heap.size 4 (.slice C K.length D) (by omega)
          have hk5 : 0 ≤ k ∧ k ≤ 100 := by have := Hk.out; omega
          refine ⟨((((hE.but.setNew (Nat.le_refl _) _ _).setNew (Nat.le_refl _) _ _).setNew (Nat.le_refl _) _ _).setNew (Nat.le_refl _) _ _).setNew (Nat.le_refl _) _ _, Or.inl ⟨mkT k 0 ByteArray.empty L K, rest, catE sub L.length ++ [⟨.slice A L.length B, L.length, .slice C K.length D, K.length⟩], A, B, C, D, ?_, rfl, ?_, ?_, ?_⟩⟩
          · unfold entO
            rw [Hsz.out]
            simp only [Option.bind_some]
            rw [HX.out, ents_empty _ _ _ _ h0]
            simp
          · have := hG.flat k hk5.1 hk5.2 (by omega) (by omega)
            unfold five
            rw [kindOf_mk, nOf_mk, sOf_mk, nL_mk, nK_mk]
            exact this
          · exact hG.sep.lower (by omega)
          · exact ((((hE.out.setOther (by omega) _ _).setOther (by omega) _ _).setOther (by omega) _ _).setOther (by omega) _ _).setOther (by omega) _ _
        · have ha := nonempty_of h0
          rcases Hk.out with rfl | rfl
          · go_wp2_with fail
            have HE3 := hid (HE.out.keep (below_drew wr))
            obtain ⟨n', rfl⟩ : ∃ n', n = n' + 1 := ⟨n - 1, by omega⟩
            have HX3 := hid (HX.out.trans (ents_L (n := n') (L := L) (K := K) h0))
            have hc3 := HE.out.box.q3
            clear HX HE
            cases hz : decP d a with
            | none =>
                have HZ : Hid (entO d 5 s = none) := by
                  show entO d 5 s = none
                  unfold entO
                  rw [Hsz.out]
                  simp only [Option.bind_some]
                  rw [HX3.out, next_none hz]
                  rfl
                refine wp_region_held_drew (S := fun wx => wx.cell? ⟨w.heap.size + 1, 3, none⟩ = some Lv) (by kernel_rfl) HE3.out.box.q3 (fun hHeld => ?_)
                refine wpAnyH_take (i := 0) (v := .pointer (some ⟨w.heap.size + 1, 3, none⟩)) rfl (by kernel_rfl) (by kernel_rfl) (by kernel_rfl) (fun _ _ _ h => h) (Or.inl ⟨by rfl, (by intro wx hSw; go_simp)⟩) hHeld ?_
                refine wpAnyH_take (i := 1) (v := Lv) rfl (by kernel_rfl) (by kernel_rfl) (by kernel_rfl) (fun _ _ _ h => h) (Or.inl ⟨by rfl, (by intro wx hSw; go_simp)⟩) hHeld ?_
                refine wpAnyH_take (i := 2) (v := .int .i64 a0) rfl (by kernel_rfl) (by kernel_rfl) (by kernel_rfl) (fun _ _ _ h => h) (Or.inl ⟨by rfl, (by intro wx hSw; go_simp)⟩) hHeld ?_
                refine wpAnyH_ready (rs := [3]) (by kernel_rfl) (by simp) (AllReadyH.cons rfl (fun KK hKK => ?_) AllReadyH.nil)
                go_simp
                go_wp2_with (go_at_call 108; refine (HI3.out _ _ _ hz HE3.out.inn (by omega)).mono ?_; rintro e w5 ⟨rfl, hb5⟩)
                exact ⟨rfl, HE3.out.butInner hb5, Or.inr ⟨HZ.out, rfl⟩⟩
            | some p =>
                obtain ⟨t, a2⟩ := p
                have hsz2 := decP_size hz
                go_region_law (first | (refine step_append_lies _ (by rfl) _ _ _ (by rfl) (w1.heap.size + 1) 25 iV _ 5 80 Tryz.underlying22 hiV zV0 zV1 zV2 rfl (by omega) Lv L.length xs (by rfl) (HE5.out.keep ((Below.refl _ _).alloc (Nat.le_refl _) _)).grow.ownL ⟨w5.heap.size, 0, none⟩ 1 1 [.int .i64 (kindOf t), .int .i64 (nOf t), .string (sOf t), .slice A (nL t) B, .slice C (nK t) D] (by rfl) (by rfl) (World.news_of_block (cs := #[.int .i64 (kindOf t), .int .i64 (nOf t), .string (sOf t), .slice A (nL t) B, .slice C (nK t) D]) (t := 25) (fr := (0, 0)) (heap_alloc_new w5 _)) (by simp [Value.oneCell']) (by omega) (by unfold maxLen; omega) (by omega) (HE5.out.keep ((Below.refl _ _).alloc (Nat.le_refl _) _)).grow.low (w5.heap.size + 1) (by simp) ?_; intro g cap w6 hown6 hgrow6 hat6 hlt6; have HX6 := hid (boxGrown (HE5.out.keep ((Below.refl _ _).alloc (Nat.le_refl _) (.cells #[.int .i64 (kindOf t), .int .i64 (nOf t), .string (sOf t), .slice A (nL t) B, .slice C (nK t) D] 25))) hgrow6 (HE5.out.keep ((Below.refl _ _).alloc (Nat.le_refl _) (.cells #[.int .i64 (kindOf t), .int .i64 (nOf t), .string (sOf t), .slice A (nL t) B, .slice C (nK t) D] 25))).grow.ownL); have hc6 := HX6.out.q3; have hf6 := HX6.out.f3) | (go_simp; go_wp2_with (go_at_call 108; refine (HI2.out _ _ _ _ _ hz HE3.out.inn (by omega)).mono ?_; rintro e w5 ⟨es, A, B, C, D, rfl, hb5, hF5, hS5, hL5⟩; have HE5 := hid (HE3.out.inner hb5 hL5); have HF5 := hid hF5; have HS5 := hid (HE3.out.sepKid hb5 hS5); have HS5' := hid hS5; have hc5 := HE5.out.box.q3; have hc5a := (HE5.out.keep ((Below.refl _ _).alloc (Nat.le_refl _) (.cells #[.int .i64 (kindOf t), .int .i64 (nOf t), .string (sOf t), .slice A (nL t) B, .slice C (nK t) D] 25))).box.q3; clear hF5 hS5 hL5 hb5)))
                all_goals
                  have HE6 := hid (HE5.out.stepL _ HF5.out HS5'.out HS5.out hown6 hgrow6 hat6)
                  clear hown6 hgrow6 hat6 hlt6 HX6 hc6 hf6 HF5 HS5 HS5' HE5 hc5 hc5a
                  go_wp2_with fail
                  go_roundg a2.size
                  case rel => exact ⟨a2, L ++ [t], K, _, _, _, _, n', rfl, by omega, by simp; omega, by omega, HE6, HX3.out.trans (next_some hz)⟩
                  case measure => omega
          · go_wp2_with fail
            have HE3 := hid (HE.out.keep (below_drew wr))
            obtain ⟨n', rfl⟩ : ∃ n', n = n' + 1 := ⟨n - 1, by omega⟩
            have hc3 := HE.out.box.q4
            cases hz2 : szB a 2 with
            | none =>
                have HZ : Hid (entO d 6 s = none) := by
                  show entO d 6 s = none
                  unfold entO
                  rw [Hsz.out]
                  simp only [Option.bind_some]
                  rw [HX.out.trans (ents_K0 (n := n') (L := L) (K := K) h0 hz2)]
                  rfl
                refine wp_region_held_drew (S := fun wx => wx.cell? ⟨w.heap.size + 1, 4, none⟩ = some Kv) (by kernel_rfl) HE3.out.box.q4 (fun hHeld => ?_)
                refine wpAnyH_take (i := 0) (v := .pointer (some ⟨w.heap.size + 1, 4, none⟩)) rfl (by kernel_rfl) (by kernel_rfl) (by kernel_rfl) (fun _ _ _ h => h) (Or.inl ⟨by rfl, (by intro wx hSw; go_simp)⟩) hHeld ?_
                refine wpAnyH_take (i := 1) (v := Kv) rfl (by kernel_rfl) (by kernel_rfl) (by kernel_rfl) (fun _ _ _ h => h) (Or.inl ⟨by rfl, (by intro wx hSw; go_simp)⟩) hHeld ?_
                refine wpAnyH_ready (rs := [2]) (by kernel_rfl) (by simp) (AllReadyH.cons rfl (fun KK hKK => ?_) AllReadyH.nil)
                go_simp
                go_wp2_with (go_at_call 146; refine (text_none hz2 HE3.out.inn (by omega) (by omega)).mono ?_; rintro e w5 ⟨rfl, hb5⟩)
                exact ⟨rfl, HE3.out.butInner hb5, Or.inr ⟨HZ.out, rfl⟩⟩
            | some p =>
                obtain ⟨nm, a1⟩ := p
                have hsz1 := szB_size hz2
                have HX8 := hid (HX.out.trans (ents_K (n := n') (L := L) (K := K) h0 hz2))
                clear HX HE
                go_region_law (first | (refine step_append_lies _ (by rfl) _ _ _ (by rfl) (w1.heap.size + 1) 9 iS _ 1 16 Tryz.underlying23 hiS zS0 zS1 zS2 rfl (by omega) Kv K.length (namesV K) (by rfl) (HE4.out.keep ((Below.refl _ _).alloc (Nat.le_refl _) _)).grow.ownK ⟨w4.heap.size, 0, none⟩ 1 1 [.string nm] (by rfl) (by rfl) (World.news_of_block (cs := #[.string nm]) (t := 9) (fr := (0, 0)) (heap_alloc_new w4 _)) (by simp [Value.oneCell']) (by omega) (by unfold maxLen; omega) (by omega) (HE4.out.keep ((Below.refl _ _).alloc (Nat.le_refl _) _)).grow.low (w4.heap.size + 1) (by simp) ?_; intro g4 cap4 w7 hown7 hgrow7 hat7 hlt7; have HX7 := hid (boxGrown (HE4.out.keep ((Below.refl _ _).alloc (Nat.le_refl _) (.cells #[.string nm] 9))) hgrow7 (HE4.out.keep ((Below.refl _ _).alloc (Nat.le_refl _) (.cells #[.string nm] 9))).grow.ownK); have hc7 := HX7.out.q4; have hf7 := HX7.out.f4) | (go_simp; go_wp2_with (go_at_call 146; refine (text_some hz2 HE3.out.inn (by omega) (by omega)).mono ?_; rintro e w4 ⟨rfl, hb4, hl4⟩; have HE4 := hid (HE3.out.inner hb4 hl4); have hc4 := HE4.out.box.q4; have hc4a := (HE4.out.keep ((Below.refl _ _).alloc (Nat.le_refl _) (.cells #[.string nm] 9))).box.q4; clear hb4 hl4)))
                all_goals
                  have HE8 := hid (HE4.out.stepK _ (by omega) hown7 hgrow7 hat7)
                  clear hown7 hgrow7 hat7 hlt7 HX7 hc7 hf7 HE4 hc4 hc4a HE3 hc3
                  go_wp2_with fail
                  have HE9 := hid (HE8.out.keep (below_drew _))
                  have HX9 := HX8
                  have hc9 := HE8.out.box.q3
                  clear HX8 HE8
                  cases hz : decP d a1 with
                  | none =>
                      have HZ : Hid (entO d 6 s = none) := by
                        show entO d 6 s = none
                        unfold entO
                        rw [Hsz.out]
                        simp only [Option.bind_some]
                        rw [HX9.out, next_none hz]
                        rfl
                      refine wp_region_held_drew (S := fun wx => wx.cell? ⟨w.heap.size + 1, 3, none⟩ = some Lv) (by kernel_rfl) HE9.out.box.q3 (fun hHeld9 => ?_)
                      refine wpAnyH_take (i := 0) (v := .pointer (some ⟨w.heap.size + 1, 3, none⟩)) rfl (by kernel_rfl) (by kernel_rfl) (by kernel_rfl) (fun _ _ _ h => h) (Or.inl ⟨by rfl, (by intro wx hSw; go_simp)⟩) hHeld9 ?_
                      refine wpAnyH_take (i := 1) (v := Lv) rfl (by kernel_rfl) (by kernel_rfl) (by kernel_rfl) (fun _ _ _ h => h) (Or.inl ⟨by rfl, (by intro wx hSw; go_simp)⟩) hHeld9 ?_
                      refine wpAnyH_take (i := 2) (v := .int .i64 a0) rfl (by kernel_rfl) (by kernel_rfl) (by kernel_rfl) (fun _ _ _ h => h) (Or.inl ⟨by rfl, (by intro wx hSw; go_simp)⟩) hHeld9 ?_
                      refine wpAnyH_ready (rs := [3]) (by kernel_rfl) (by simp) (AllReadyH.cons rfl (fun KK hKK => ?_) AllReadyH.nil)
                      go_simp
                      go_wp2_with (go_at_call 108; refine (HI3.out _ _ _ hz HE9.out.inn (by omega)).mono ?_; rintro e w5 ⟨rfl, hb5⟩)
                      exact ⟨rfl, HE9.out.butInner hb5, Or.inr ⟨HZ.out, rfl⟩⟩
                  | some p =>
                      obtain ⟨t, a2⟩ := p
                      have hsz2 := decP_size hz
                      go_region_law (first | (refine step_append_lies _ (by rfl) _ _ _ (by rfl) (w1.heap.size + 1) 25 iV _ 5 80 Tryz.underlying22 hiV zV0 zV1 zV2 rfl (by omega) Lv L.length xs (by rfl) (HE5.out.keep ((Below.refl _ _).alloc (Nat.le_refl _) _)).grow.ownL ⟨w5.heap.size, 0, none⟩ 1 1 [.int .i64 (kindOf t), .int .i64 (nOf t), .string (sOf t), .slice A (nL t) B, .slice C (nK t) D] (by rfl) (by rfl) (World.news_of_block (cs := #[.int .i64 (kindOf t), .int .i64 (nOf t), .string (sOf t), .slice A (nL t) B, .slice C (nK t) D]) (t := 25) (fr := (0, 0)) (heap_alloc_new w5 _)) (by simp [Value.oneCell']) (by omega) (by unfold maxLen; omega) (by omega) (HE5.out.keep ((Below.refl _ _).alloc (Nat.le_refl _) _)).grow.low (w5.heap.size + 1) (by simp) ?_; intro g cap w6 hown6 hgrow6 hat6 hlt6; have HX6 := hid (boxGrown (HE5.out.keep ((Below.refl _ _).alloc (Nat.le_refl _) (.cells #[.int .i64 (kindOf t), .int .i64 (nOf t), .string (sOf t), .slice A (nL t) B, .slice C (nK t) D] 25))) hgrow6 (HE5.out.keep ((Below.refl _ _).alloc (Nat.le_refl _) (.cells #[.int .i64 (kindOf t), .int .i64 (nOf t), .string (sOf t), .slice A (nL t) B, .slice C (nK t) D] 25))).grow.ownL); have hc6 := HX6.out.q3; have hf6 := HX6.out.f3) | (go_simp; go_wp2_with (go_at_call 108; refine (HI2.out _ _ _ _ _ hz HE9.out.inn (by omega)).mono ?_; rintro e w5 ⟨es, A, B, C, D, rfl, hb5, hF5, hS5, hL5⟩; have HE5 := hid (HE9.out.inner hb5 hL5); have HF5 := hid hF5; have HS5 := hid (HE9.out.sepKid hb5 hS5); have HS5' := hid hS5; have hc5 := HE5.out.box.q3; have hc5a := (HE5.out.keep ((Below.refl _ _).alloc (Nat.le_refl _) (.cells #[.int .i64 (kindOf t), .int .i64 (nOf t), .string (sOf t), .slice A (nL t) B, .slice C (nK t) D] 25))).box.q3; clear hF5 hS5 hL5 hb5)))
                      all_goals
                        have HE6 := hid (HE5.out.stepL _ HF5.out HS5'.out HS5.out hown6 hgrow6 hat6)
                        clear hown6 hgrow6 hat6 hlt6 HX6 hc6 hf6 HF5 HS5 HS5' HE5 hc5 hc5a
                        go_wp2_with fail
                        go_roundg a2.size
                        case rel => exact ⟨a2, L ++ [t], K ++ [nm], _, _, _, _, n', rfl, by omega, by simp; omega, by simp; omega, HE6, HX9.out.trans (next_some hz)⟩
                        case measure => omega
    · go_wp2_with fail
      refine ⟨rfl, HW1.out, Or.inr ⟨?_, rfl⟩⟩
      unfold entO
      rw [szB_none h4 h2]
      rfl
  · have HW1 := hid ((But.of (c := c) HB0.out).trans B1)
    clear B1
    go_wp2_with fail
    refine ⟨rfl, HW1.out, Or.inr ⟨?_, rfl⟩⟩
    unfold entO
    rw [szB_short h4]
    rfl
end Go.Proofs.YtknakfpciccoaaaGreatDoor
/- The walk of the reference's Plain, of every number. -/
namespace Go.Proofs.YtknakfpciccoaaaGreatDoor
open Go.RowKit

def digQ (r : Nat) : ByteArray := ⟨#[UInt8.ofNat (48 + r % 10)]⟩
def digsQ : Nat → Nat → ByteArray → ByteArray
  | 0, _, out => out
  | f + 1, r, out => if r = 0 ∧ out.size ≠ 0 then out else digsQ f (r / 10) (digQ r ++ out)
theorem digsQ_end (f : Nat) {out : ByteArray} (h : out.size ≠ 0) : digsQ f 0 out = out := by
  cases f with
  | zero => rfl
  | succ f => unfold digsQ; rw [if_pos ⟨rfl, h⟩]
theorem ba_extQ {a b : ByteArray} (h : a.data.toList = b.data.toList) : a = b := by
  apply ByteArray.ext
  exact Array.toList_inj.1 h
theorem digQ_app (x : Nat) (out : ByteArray) : (digQ x ++ out).data.toList = UInt8.ofNat (48 + x % 10) :: out.data.toList := by
  simp [digQ]
theorem digsQ_eq : ∀ (f x : Nat) (out : ByteArray), x < 10 ^ f → 1 ≤ f → (x ≠ 0 ∨ out.size = 0) → digsQ f x out = baL (Lib.decDigits x ++ out.data.toList)
  | 0, _, _, _, h, _ => absurd h (by omega)
  | f + 1, x, out, hx, _, ho => by
    unfold digsQ
    rw [if_neg (by intro h; rcases ho with h1 | h1 <;> omega)]
    have hsz : (digQ x ++ out).size ≠ 0 := by rw [ByteArray.size_append]; show 1 + out.size ≠ 0; omega
    by_cases hs : x < 10
    · rw [show x / 10 = 0 by omega, digsQ_end f hsz, Lib.decDigits_one hs]
      apply ba_extQ
      rw [digQ_app, baL_list, Nat.mod_eq_of_lt hs]
      rfl
    · have hf : 1 ≤ f := by
        cases f with
        | zero => simp at hx; omega
        | succ f => omega
      rw [digsQ_eq f (x / 10) (digQ x ++ out) (by rw [Nat.pow_succ] at hx; omega) hf (.inl (by omega))]
      have e : Lib.decDigits x = Lib.decDigits (x / 10) ++ [UInt8.ofNat (48 + x % 10)] := by rw [Lib.decDigits, dif_neg hs]
      rw [e, digQ_app]
      simp
theorem conv_digQ (w : World) (x : Nat) (v : Int) (hv : v = (48 + x % 10 : Nat)) : (convert 63 9 (.slice (some ⟨w.heap.size, 0, none⟩) 1 1)).run Tryz.prog (w.alloc (.cells #[.int .u8 v] 5)) = .ok (.string (digQ x)) (w.alloc (.cells #[.int .u8 v] 5)) := by
  refine run_convert_bytes_back (P := Tryz.prog) (w.alloc (.cells #[.int .u8 v] 5)) 63 9 5 ⟨w.heap.size, 0, none⟩ 1 [UInt8.ofNat (48 + x % 10)] Tryz.underlying63 Tryz.underlying5 Tryz.underlying9 (fun j hj => ?_)
  have hj0 : j = 0 := by simp at hj; omega
  subst hj0
  have hx : (UInt8.ofNat (48 + x % 10)).toNat = 48 + x % 10 := by
    rw [UInt8.toNat_ofNat']
    omega
  have e : ((⟨w.heap.size, 0, none⟩ : Addr).add 0) = ⟨w.heap.size, 0, none⟩ := by simp [Addr.add]
  rw [e]
  simp [go_sem, hv]
  omega
set_option maxHeartbeats 4000000 in
set_option maxRecDepth 100000 in
theorem plainPos_any (n : Nat) (w : World) (hn : n ≤ 9223372036854775807) :
    Calls Tryz.prog 84 #[.int .i64 n] w fun e w' => e = .returned (.string (digsQ 20 n ByteArray.empty)) ∧ Below w.heap.size w w' := by
  go_enter Tryz.func84, Tryz.ntmps84
  go_wp2_with fail
  go_loopg [3, 4] 20 (fun g o r wr => ∃ (x : Nat) (out : ByteArray), o = .string out ∧ r = .int .i64 x ∧ x < 10 ^ g ∧ x ≤ 9223372036854775807 ∧ (out.size = 0 → 1 ≤ g) ∧ out.size + g ≤ 20 ∧ Hid (digsQ g x out = digsQ 20 n ByteArray.empty) ∧ Hid (Below w.heap.size w wr))
  case atStart => exact ⟨n, ByteArray.empty, rfl, rfl, by omega, hn, by omega, by simp, rfl, Below.refl _ _⟩
  case round =>
    obtain ⟨x, out, rfl, rfl, hx, hx2, ho, hf, HD, HB⟩ := hrel
    by_cases hend : x = 0 ∧ out.size ≠ 0
    · obtain ⟨h0, h1⟩ := hend
      subst h0
      have hne := nonempty_of h1
      have HR : Hid (out = digsQ 20 n ByteArray.empty) := by
        have := HD.out
        cases gk with
        | zero => exact this
        | succ f => unfold digsQ at this; rw [if_pos ⟨rfl, h1⟩] at this; exact this
      go_wp2_with fail
      go_ret
      exact ⟨by rw [HR.out]; rfl, HB.out⟩
    · obtain ⟨f', rfl⟩ : ∃ f', gk = f' + 1 := by
        cases gk with
        | zero =>
          have : x = 0 := by simpa using hx
          exact absurd ⟨this, fun h => by have := ho h; omega⟩ hend
        | succ f => exact ⟨f, rfl⟩
      have HD2 : Hid (digsQ f' (x / 10) (digQ x ++ out) = digsQ 20 n ByteArray.empty) := by
        have := HD.out
        unfold digsQ at this
        rw [if_neg hend] at this
        exact this
      have hsd : (digQ x ++ out).size = out.size + 1 := by rw [ByteArray.size_append]; show 1 + out.size = _; omega
      have hx3 : x / 10 < 10 ^ f' := by rw [Nat.pow_succ] at hx; omega
      have hend2 : x ≠ 0 ∨ out.size = 0 := by
        by_cases e : x = 0
        · right
          by_cases e2 : out.size = 0
          · exact e2
          · exact absurd ⟨e, e2⟩ hend
        · exact .inl e
      clear hx hend
      by_cases e : x = 0
      · have e0 : out.size = 0 := by omega
        have ee := empty_of e0
        subst ee
        subst e
        have hcv := conv_digQ wr 0 48 rfl
        have hadd := run_string_add_sum (P := Tryz.prog) (w := wr.alloc (.cells #[.int .u8 48] 5)) (digQ 0) ⟨#[]⟩ (by show 1 + 0 ≤ _; omega)
        have HB2 := hid (HB.out.alloc HB.out.size (.cells #[.int .u8 48] 5))
        go_wp2_with fail
        go_roundg f'
        case rel => exact ⟨0, digQ 0 ++ ⟨#[]⟩, rfl, rfl, by simpa using hx3, by omega, by omega, by omega, HD2, HB2⟩
        case measure => omega
      · have ex : ¬ ((x : Int) = 0) := by omega
        have hcv := conv_digQ wr x (48 + (x : Int) % 10) (by omega)
        have hadd := run_string_add_sum (P := Tryz.prog) (w := wr.alloc (.cells #[.int .u8 (48 + (x : Int) % 10)] 5)) (digQ x) out (by show 1 + out.size ≤ _; omega)
        have HB2 := hid (HB.out.alloc HB.out.size (.cells #[.int .u8 (48 + (x : Int) % 10)] 5))
        go_wp2_with fail
        go_roundg f'
        case rel => exact ⟨x / 10, digQ x ++ out, rfl, by go_num, hx3, by omega, by omega, by omega, HD2, HB2⟩
        case measure => omega
end Go.Proofs.YtknakfpciccoaaaGreatDoor
