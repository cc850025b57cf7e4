import Derived.Test.YtknakfpciccoaabGreatDoorZS1
import Derived.Test.YtknakfpciccoaabGreatDoorZS6
import Derived.Test.YtknakfpciccoaabGreatDoorZS7
import Derived.Test.YtknakfpciccoaabGreatDoorZS8
import Derived.Laws.IdiomStrings
import Derived.Deep.RegionHeld3
import Derived.Deep.AppendLies
import Derived.Deep.LoopGhost
import Derived.Deep.RegionLaw
/- The walks of the program's reader: take, number, text. -/
namespace Go.Proofs.YtknakfpciccoaabGreatDoor
open Go.RowKit

abbrev refused (n : Int) : Ending := .panicked [{ v := .iface 88 (.int .i64 n), recovered := false }]
/-- The reader's cell holds what is left. -/
structure Left (c : Nat) (s : ByteArray) (w : World) : Prop where
  cell : w.cell? ⟨c, 0, none⟩ = some (.string s)
  free : w.frozen? ⟨c, 0, none⟩ = false
  lt : c < w.heap.size
theorem Left.set {c : Nat} {s : ByteArray} {w : World} (h : Left c s w) (x : ByteArray) : Left c x (w.setCell ⟨c, 0, none⟩ (.string x)) := by
  refine ⟨?_, ?_, by simp [World.setCell]; exact h.lt⟩
  · have := h.cell
    simp [go_sem, this]
  · have := h.free
    simp [go_sem, this]
theorem Left.keep {c : Nat} {s : ByteArray} {w w' : World} (h : Left c s w) (hb : Below w.heap.size w w') : Left c s w' :=
  ⟨by rw [hb.cell (p := ⟨c, 0, none⟩) h.lt]; exact h.cell, by rw [hb.frozen (p := ⟨c, 0, none⟩) h.lt]; exact h.free, Nat.lt_of_lt_of_le h.lt hb.size⟩

end Go.Proofs.YtknakfpciccoaabGreatDoor
/- The walk of the program's reader: entries. -/
namespace Go.Proofs.YtknakfpciccoaabGreatDoor
open Go.RowKit

/-- A box of five cells. -/
structure BoxAt (b : Nat) (c0 c1 c2 c3 c4 : Value) (w : World) : Prop where
  q0 : w.cell? ⟨b, 0, none⟩ = some c0
  q1 : w.cell? ⟨b, 1, none⟩ = some c1
  q2 : w.cell? ⟨b, 2, none⟩ = some c2
  q3 : w.cell? ⟨b, 3, none⟩ = some c3
  q4 : w.cell? ⟨b, 4, none⟩ = some c4
  f0 : w.frozen? ⟨b, 0, none⟩ = false
  f1 : w.frozen? ⟨b, 1, none⟩ = false
  f2 : w.frozen? ⟨b, 2, none⟩ = false
  f3 : w.frozen? ⟨b, 3, none⟩ = false
  f4 : w.frozen? ⟨b, 4, none⟩ = false
  lt : b < w.heap.size
theorem BoxAt.move {b : Nat} {c0 c1 c2 c3 c4 : Value} {w w' : World} (h : BoxAt b c0 c1 c2 c3 c4 w) (hs : w.heap.size ≤ w'.heap.size) (hb : w'.heap[b]? = w.heap[b]?) : BoxAt b c0 c1 c2 c3 c4 w' :=
  ⟨(cell_of hb _).trans h.q0, (cell_of hb _).trans h.q1, (cell_of hb _).trans h.q2, (cell_of hb _).trans h.q3, (cell_of hb _).trans h.q4,
   (World.frozen?_of_block (w := w) (a := ⟨b, _, none⟩) hb).trans h.f0, (World.frozen?_of_block (w := w) (a := ⟨b, _, none⟩) hb).trans h.f1, (World.frozen?_of_block (w := w) (a := ⟨b, _, none⟩) hb).trans h.f2, (World.frozen?_of_block (w := w) (a := ⟨b, _, none⟩) hb).trans h.f3, (World.frozen?_of_block (w := w) (a := ⟨b, _, none⟩) hb).trans h.f4, Nat.lt_of_lt_of_le h.lt hs⟩
theorem Left.move {c : Nat} {s : ByteArray} {w w' : World} (h : Left c s w) (hs : w.heap.size ≤ w'.heap.size) (hb : w'.heap[c]? = w.heap[c]?) : Left c s w' :=
  ⟨(cell_of hb _).trans h.cell, (World.frozen?_of_block (w := w) (a := ⟨c, _, none⟩) hb).trans h.free, Nat.lt_of_lt_of_le h.lt hs⟩
theorem BoxAt.put3 {b : Nat} {c0 c1 c2 c3 c4 : Value} {w : World} (h : BoxAt b c0 c1 c2 c3 c4 w) (u : Value) : BoxAt b c0 c1 c2 u c4 (w.setCell ⟨b, 3, none⟩ u) := by
  refine ⟨?_, ?_, ?_, ?_, ?_, ?_, ?_, ?_, ?_, ?_, by simp [World.setCell]; exact h.lt⟩
  · rw [set_other (by omega)]; exact h.q0
  · rw [set_other (by omega)]; exact h.q1
  · rw [set_other (by omega)]; exact h.q2
  · exact World.cell?_setCell_same _ _ _ h.q3
  · rw [set_other (by omega)]; exact h.q4
  · rw [World.frozen?_setCell]; exact h.f0
  · rw [World.frozen?_setCell]; exact h.f1
  · rw [World.frozen?_setCell]; exact h.f2
  · rw [World.frozen?_setCell]; exact h.f3
  · rw [World.frozen?_setCell]; exact h.f4
theorem BoxAt.put4 {b : Nat} {c0 c1 c2 c3 c4 : Value} {w : World} (h : BoxAt b c0 c1 c2 c3 c4 w) (u : Value) : BoxAt b c0 c1 c2 c3 u (w.setCell ⟨b, 4, none⟩ u) := by
  refine ⟨?_, ?_, ?_, ?_, ?_, ?_, ?_, ?_, ?_, ?_, by simp [World.setCell]; exact h.lt⟩
  · rw [set_other (by omega)]; exact h.q0
  · rw [set_other (by omega)]; exact h.q1
  · rw [set_other (by omega)]; exact h.q2
  · rw [set_other (by omega)]; exact h.q3
  · exact World.cell?_setCell_same _ _ _ h.q4
  · rw [World.frozen?_setCell]; exact h.f0
  · rw [World.frozen?_setCell]; exact h.f1
  · rw [World.frozen?_setCell]; exact h.f2
  · rw [World.frozen?_setCell]; exact h.f3
  · rw [World.frozen?_setCell]; exact h.f4
theorem box_new (w : World) (c0 c1 c2 c3 c4 : Value) : BoxAt w.heap.size c0 c1 c2 c3 c4 (w.alloc (.cells #[c0, c1, c2, c3, c4] 36)) := by
  refine ⟨?_, ?_, ?_, ?_, ?_, ?_, ?_, ?_, ?_, ?_, ?_⟩ <;> simp [go_sem]
/-- What holds at the loop's head: in memory. -/
structure EI (d : Nat) (k : Int) (c : Nat) (w : World) (b2 : Nat) (rest a : ByteArray) (L : List T) (K : List ByteArray) (Lv Kv : Value) (xs : List Value) (sub : Nat → List Ent) (wr : World) : Prop where
  grow : Grow (b2 + 1) (d + 1) wr Lv Kv L K xs sub
  res : BoxAt w.heap.size (.int .i64 0) (.int .i64 0) (.string ⟨#[]⟩) (.slice none 0 0) (.slice none 0 0) wr
  box : BoxAt (w.heap.size + 1) (.int .i64 k) (.int .i64 0) (.string ⟨#[]⟩) Lv Kv wr
  inn : Left b2 a wr
  out : Left c rest wr
  but : But c w wr
  lc : c < w.heap.size
  lb : w.heap.size + 1 < b2
section
variable {d : Nat} {k : Int} {c : Nat} {w : World} {b2 : Nat} {rest a : ByteArray} {L : List T} {K : List ByteArray} {Lv Kv : Value} {xs : List Value} {sub : Nat → List Ent} {wr : World}
theorem EI.inner (h : EI d k c w b2 rest a L K Lv Kv xs sub wr) {w1 : World} {a1 : ByteArray} (hB : But b2 wr w1) (hL : Left b2 a1 w1) : EI d k c w b2 rest a1 L K Lv Kv xs sub w1 := by
  have h1 := h.lc
  have h2 := h.lb
  refine ⟨h.grow.move hB.size (fun b hb hh => hB.block b hh (by omega)), h.res.move hB.size (hB.block _ h.res.lt (by omega)), h.box.move hB.size (hB.block _ h.box.lt (by omega)), hL, h.out.move hB.size (hB.block _ h.out.lt (by omega)), ?_, h1, h2⟩
  have hb := h.but
  exact ⟨hB.os.trans hb.os, hB.tape.trans hb.tape, hB.output.trans hb.output, Nat.le_trans hb.size hB.size, fun i hi hc => (hB.block i (Nat.lt_of_lt_of_le hi hb.size) (by omega)).trans (hb.block i hi hc)⟩
theorem EI.keep (h : EI d k c w b2 rest a L K Lv Kv xs sub wr) {w1 : World} (hB : Below wr.heap.size wr w1) : EI d k c w b2 rest a L K Lv Kv xs sub w1 :=
  h.inner (But.of hB) (h.inn.keep hB)
theorem EI.putK (h : EI d k c w b2 rest a L K Lv Kv xs sub wr) {w2 : World} {Kv' : Value} {nm : ByteArray} (hk : nm.size ≤ 140737488355328)
    (hO : w2.ownsRow (b2 + 1) eS 1 Kv' (K.length + 1) (namesV K ++ [.string nm])) (hG : wr.grownBy w2 Kv.ownBlock) (hN : NewOr wr Kv Kv') : EI d k c w b2 rest a L (K ++ [nm]) Lv Kv' xs sub (w2.setCell ⟨w.heap.size + 1, 4, none⟩ Kv') := by
  have h1 := h.lc
  have h2 := h.lb
  have hne : ∀ b, b ≤ b2 → some b ≠ Kv.ownBlock := fun b hb e => by
    have := (h.grow.ownK.lt b e.symm).1
    omega
  have hblk : ∀ b, b < wr.heap.size → b ≤ b2 → w2.heap[b]? = wr.heap[b]? := fun b hb hh => hG.block b hb (hne b hh)
  have hset : ∀ b, b ≠ w.heap.size + 1 → (w2.setCell ⟨w.heap.size + 1, 4, none⟩ Kv').heap[b]? = w2.heap[b]? := fun b hb => Below.heap_setCell _ _ _ _ (by simpa using hb)
  have hsz : (w2.setCell ⟨w.heap.size + 1, 4, none⟩ Kv').heap.size = w2.heap.size := by simp [World.setCell]
  have hs2 := hG.size
  refine ⟨(h.grow.addK nm hk hO hG hN).set _ _ _ (by omega), h.res.move (by omega) ((hset _ (by omega)).trans (hblk _ h.res.lt (by omega))), (h.box.move hs2 (hblk _ h.box.lt (by omega))).put4 Kv', h.inn.move (by omega) ((hset _ (by omega)).trans (hblk _ h.inn.lt (by omega))), h.out.move (by omega) ((hset _ (by omega)).trans (hblk _ h.out.lt (by omega))), ?_, h1, h2⟩
  have hb := h.but
  have hbs := hb.size
  refine ⟨hG.os.trans hb.os, hG.tape.trans hb.tape, hG.output.trans hb.output, by omega, fun i hi hc => ?_⟩
  exact (hset i (by omega)).trans ((hblk i (by omega) (by omega)).trans (hb.block i hi hc))
theorem EI.putL (h : EI d k c w b2 rest a L K Lv Kv xs sub wr) {w2 : World} {Lv' : Value} {x : T} {es : List Ent} {c0 c1 c2 c3 c4 : Value} (hF : Flat wr (d + 1) (.agg #[c0, c1, c2, c3, c4]) x es)
    (hS : Sep (b2 + 1) wr (catE sub L.length ++ es ++ [⟨Lv, L.length, Kv, K.length⟩])) (hO : w2.ownsRow (b2 + 1) eV 5 Lv' (L.length + 1) (xs ++ [c0, c1, c2, c3, c4])) (hG : wr.grownBy w2 Lv.ownBlock) (hN : NewOr wr Lv Lv') :
    EI d k c w b2 rest a (L ++ [x]) K Lv' Kv (xs ++ [c0, c1, c2, c3, c4]) (updE sub L.length es) (w2.setCell ⟨w.heap.size + 1, 3, none⟩ Lv') := by
  have h1 := h.lc
  have h2 := h.lb
  have hne : ∀ b, b ≤ b2 → some b ≠ Lv.ownBlock := fun b hb e => by
    have := (h.grow.ownL.lt b e.symm).1
    omega
  have hblk : ∀ b, b < wr.heap.size → b ≤ b2 → w2.heap[b]? = wr.heap[b]? := fun b hb hh => hG.block b hb (hne b hh)
  have hset : ∀ b, b ≠ w.heap.size + 1 → (w2.setCell ⟨w.heap.size + 1, 3, none⟩ Lv').heap[b]? = w2.heap[b]? := fun b hb => Below.heap_setCell _ _ _ _ (by simpa using hb)
  have hsz : (w2.setCell ⟨w.heap.size + 1, 3, none⟩ Lv').heap.size = w2.heap.size := by simp [World.setCell]
  have hs2 := hG.size
  refine ⟨(h.grow.addL hF hS hO hG hN).set _ _ _ (by omega), h.res.move (by omega) ((hset _ (by omega)).trans (hblk _ h.res.lt (by omega))), (h.box.move hs2 (hblk _ h.box.lt (by omega))).put3 Lv', h.inn.move (by omega) ((hset _ (by omega)).trans (hblk _ h.inn.lt (by omega))), h.out.move (by omega) ((hset _ (by omega)).trans (hblk _ h.out.lt (by omega))), ?_, h1, h2⟩
  have hb := h.but
  have hbs := hb.size
  refine ⟨hG.os.trans hb.os, hG.tape.trans hb.tape, hG.output.trans hb.output, by omega, fun i hi hc => ?_⟩
  exact (hset i (by omega)).trans ((hblk i (by omega) (by omega)).trans (hb.block i hi hc))
end
end Go.Proofs.YtknakfpciccoaabGreatDoor
/- The walks of the program's parser: numbers, words. -/
namespace Go.Proofs.YtknakfpciccoaabGreatDoor
open Go.RowKit

theorem sign_any (c : Nat) (s : ByteArray) (i : Nat) (w : World) (h : PL c s i w) (hs : s.size ≤ 4000) (hi : i ≤ s.size) :
    Calls Tryz.prog 106 #[.pointer (some ⟨c, 0, none⟩), .int .u8 45] w fun e w' => ∃ b, e = .returned (.bool b) ∧ But c w w' ∧ PL c s (sgn s i) w' := by
  by_cases h45 : cB s i = 45
  · refine (accept_yes c s i 45 w h hs (by omega) (by omega)).mono ?_
    rintro e w' ⟨rfl, hB, hL⟩
    refine ⟨_, rfl, hB, ?_⟩
    unfold sgn
    rw [if_pos h45]
    exact hL
  · refine (accept_no c s i 45 w h hi (by omega)).mono ?_
    rintro e w' ⟨rfl, hB, hL⟩
    refine ⟨_, rfl, hB, ?_⟩
    unfold sgn
    rw [if_neg h45]
    exact hL
theorem isD_pk (s : ByteArray) (k : Nat) : isD (pk s k) = isD (cB s k) := by
  unfold pk
  by_cases h : k < s.size
  · rw [if_pos h]
  · rw [if_neg h, cB_end (by omega)]
    rfl
theorem digitAt_any (s : ByteArray) (k : Nat) (w : World) : Calls Tryz.prog 111 #[.int .u8 (pk s k : Int)] w fun e w' => e = .returned (.bool (isD (cB s k))) ∧ w' = w := by
  refine (isDigit_nat (pk s k) w).mono ?_
  rintro e w' ⟨rfl, rfl⟩
  exact ⟨ret_bool (isD_pk s k), rfl⟩
def IntPost (c : Nat) (s : ByteArray) (i : Nat) (w : World) (e : Ending) (w' : World) : Prop :=
  But c w w' ∧ ((∃ v j, numS s i = some (v, j) ∧ e = .returned (.int .i64 v) ∧ PL c s j w') ∨ (numS s i = none ∧ e = refusedT 2))
theorem numS_zero {s : ByteArray} {i : Nat} (h : sgn s i + 1 < dg s (sgn s i)) (h2 : cB s (sgn s i) = 48) : numS s i = none := by
  unfold numS
  split
  · rfl
  · rw [if_pos ⟨h, h2⟩]
theorem extract_size {s : ByteArray} {i j : Nat} (h : j ≤ s.size) : (s.extract i j).size = j - i := by rw [ByteArray.size_extract]; omega
theorem int_ok {Tb : World → Prop} (hD : IntSaid Tb) {x : ByteArray} {w : World} (hs : x.size ≤ 4000) (hT : Tb w) {v : Int} (hv : Lib.parseIntB 64 x.data.toList = .ok v) :
    Calls Tryz.prog 138 #[.string x, .int .i64 10, .int .i64 64] w fun e w' => e = .returned (.tuple #[.int .i64 v, .nilIface]) ∧ Below w.heap.size w w' := by
  refine (hD x w hs hT).mono ?_
  rintro e w' ⟨hb, ⟨v', h1, rfl⟩ | ⟨h1, _⟩⟩
  · rw [hv] at h1; cases h1; exact ⟨rfl, hb⟩
  · rw [hv] at h1; rcases h1 with h1 | h1 <;> cases h1
theorem int_bad {Tb : World → Prop} (hD : IntSaid Tb) {x : ByteArray} {w : World} (hs : x.size ≤ 4000) (hT : Tb w) (hv : Lib.parseIntB 64 x.data.toList = .«syntax» ∨ Lib.parseIntB 64 x.data.toList = .range) :
    Calls Tryz.prog 138 #[.string x, .int .i64 10, .int .i64 64] w fun e w' => ∃ (v : Int) (t : TypeId) (p : Value), e = .returned (.tuple #[.int .i64 v, .iface t p]) ∧ Below w.heap.size w w' := by
  refine (hD x w hs hT).mono ?_
  rintro e w' ⟨hb, ⟨v', h1, _⟩ | ⟨_, v, t, p, rfl⟩⟩
  · rw [h1] at hv; rcases hv with hv | hv <;> cases hv
  · exact ⟨v, t, p, rfl, hb⟩
set_option maxHeartbeats 2000000 in
set_option maxRecDepth 100000 in
theorem int_any {Tb : World → Prop} (hD : IntSaid Tb) (c : Nat) (hS : Stays Tb c) (s : ByteArray) (i : Nat) (w : World) (h : PL c s i w) (hT : Tb w) (hs : s.size ≤ 4000) (hd : cB s i = 45 ∨ isD (cB s i) = true) :
    Calls Tryz.prog 112 #[.pointer (some ⟨c, 0, none⟩)] w (IntPost c s i w) := by
  have hc256 : cB s i < 256 := by
    rcases hd with h | h
    · omega
    · unfold isD at h
      simp at h
      omega
  have hlt : i < s.size := cB_in hc256
  have hsg : i ≤ sgn s i ∧ sgn s i ≤ s.size := by unfold sgn; split <;> omega
  have HL := hid h
  have HT := hid hT
  have HS := hid hS
  have HD := hid hD
  have Hd := hid hd
  have q1 := h.q1
  have HA := hid (sign_any c s i w h hs (by omega))
  have hcl := h.lt
  clear h hT hS hD hd hc256
  go_enter Tryz.func112, Tryz.ntmps112
  go_wp2_with fail
  refine HA.out.mono ?_
  rintro e w1 ⟨b, rfl, hB1, hL1⟩
  have HB1 := hid hB1
  have HL1 := hid hL1
  have r1 := hL1.q1
  clear hB1 hL1 HA q1 HL
  have Hdg : Hid (dg s (sgn s i) ≤ s.size ∧ sgn s i ≤ dg s (sgn s i)) := ⟨dg_le hsg.2, dg_ge _ _⟩
  have Hnp := hid (numS_parse Hd.out)
  have Hnz := hid (@numS_zero s i)
  generalize hd0 : sgn s i = d at *
  go_wp2_with fail
  go_loopg [] (s.size - d) (fun g wr => ∃ k : Nat, g = s.size - k ∧ d ≤ k ∧ k ≤ s.size ∧ Hid (PL c s k wr) ∧ Hid (But c w wr) ∧ Hid (dg s k = dg s d))
  case atStart => exact ⟨d, rfl, Nat.le_refl _, hsg.2, HL1, HB1, rfl⟩
  case round =>
    clear HL1 HB1 r1
    obtain ⟨k, rfl, hk1, hk2, HLk, HBk, HKk⟩ := hrel
    go_wp2_with fail
    refine (peek_any c s k wr HLk.out hk2).mono ?_
    rintro e w2 ⟨rfl, hb2⟩
    have HL2 := hid (HLk.out.keep hb2)
    have HB2 := hid (HBk.out.trans (But.of hb2))
    clear hb2 HLk HBk
    by_cases hdk : isD (cB s k) = true
    · have hkl : k < s.size := cB_in (by unfold isD at hdk; simp at hdk; omega)
      have HK2 : Hid (dg s (k + 1) = dg s d) := by
        show _ = _
        rw [← HKk.out]
        unfold dg
        rw [pass_step isD_end s k, if_pos hdk]
      have r1 := HL2.out.q1
      have r2 := HL2.out.f1
      go_wp2_with fail
      refine (digitAt_any s k w2).mono ?_
      rintro e w3 ⟨rfl, rfl⟩
      clear HKk
      go_wp2_with fail
      go_roundg (s.size - (k + 1))
      case rel => exact ⟨k + 1, rfl, by omega, by omega, HL2.out.set (k + 1), HB2.out.trans (But.set _ c 1 _), HK2⟩
      case measure => omega
    · have hdf : isD (cB s k) = false := by simpa using hdk
      have HK2 : Hid (dg s d = k) := by
        show _ = _
        rw [← HKk.out]
        unfold dg
        rw [pass_step isD_end s k, if_neg hdk]
      have r0 := HL2.out.q0
      have r1 := HL2.out.q1
      rw [HK2.out] at Hnp Hnz
      clear hdk HKk
      go_wp2_with fail
      refine (digitAt_any s k w2).mono ?_
      rintro e w3 ⟨rfl, rfl⟩
      have HT3 := hid (But.stays HS.out HT.out HB2.out (Nat.le_of_lt hcl))
      have HT3d := hid (HS.out _ _ HT3.out ((below_drew w3).mono (Nat.le_of_lt HL2.out.lt)))
      have HL3d := hid (HL2.out.keep (below_drew w3))
      have x1 : (i : Int) ≤ (k : Int) := by omega
      have x2 : (k : Int) ≤ (s.size : Int) := by omega
      have hxs : (s.extract i k).size ≤ 4000 := by rw [extract_size hk2]; omega
      have HSS : Hid (∀ wx : World, Below w3.drew.heap.size w3.drew wx → wx.cell? ⟨c, 0, none⟩ = some (.string s) ∧ wx.cell? ⟨c, 1, none⟩ = some (.int .i64 k)) := by
        intro wx hx
        have := HL3d.out.keep hx
        exact ⟨this.q0, this.q1⟩
      by_cases hz : d + 1 < k
      · have hdl : d < s.size := by omega
        obtain ⟨z, hzs, hzc⟩ := cB_get hdl
        have y1 : decide ((d : Int) + 1 < (k : Int)) = true := decide_eq_true (by omega)
        have y0 : (d : Int) < (s.size : Int) := by omega
        by_cases h48 : cB s d = 48
        · have HZ := hid (Hnz.out hz h48)
          have y2 : ((z.toNat : Int) == 48) = true := by rw [beq_iff_eq]; omega
          clear hzc h48 HSS
          go_wp2_with fail
          exact ⟨rfl, HB2.out, Or.inr ⟨HZ.out, rfl⟩⟩
        · have HP := hid (Hnp.out (fun h => h48 h.2))
          have y2 : ((z.toNat : Int) == 48) = false := by rw [beq_eq_false_iff_ne]; omega
          clear hzc h48
          rcases HP.out with ⟨v, hv, hn⟩ | ⟨hv, hn⟩
          · have HZ := hid hn
            have HDD := hid (int_ok HD.out hxs HT3d.out hv)
            clear hv hn HP
            go_wp2_with fail
            go_region_held (fun wx => wx.cell? ⟨c, 0, none⟩ = some (.string s) ∧ wx.cell? ⟨c, 1, none⟩ = some (.int .i64 k)) (go_keep) ((go_at_call 138; refine HDD.out.mono ?_; rintro e w4 ⟨rfl, hb4⟩; have hc4 := HSS.out _ hb4))
            have HL4 := hid (HL3d.out.keep hb4)
            have HB4 := hid (HB2.out.trans ((But.of (below_drew w3)).trans (But.of hb4)))
            clear hb4 hc4
            go_wp2_with fail
            go_ret
            exact ⟨HB4.out, Or.inl ⟨_, _, HZ.out, rfl, HL4.out⟩⟩
          · have HZ := hid hn
            have HDD := hid (int_bad HD.out hxs HT3d.out hv)
            clear hv hn HP
            go_wp2_with fail
            go_region_held (fun wx => wx.cell? ⟨c, 0, none⟩ = some (.string s) ∧ wx.cell? ⟨c, 1, none⟩ = some (.int .i64 k)) (go_keep) ((go_at_call 138; refine HDD.out.mono ?_; rintro e w4 ⟨v, tt, pp, rfl, hb4⟩; have hc4 := HSS.out _ hb4))
            have HB4 := hid (HB2.out.trans ((But.of (below_drew w3)).trans (But.of hb4)))
            clear hb4 hc4
            go_wp2_with fail
            exact ⟨rfl, HB4.out, Or.inr ⟨HZ.out, rfl⟩⟩
      · have HP := hid (Hnp.out (fun h => hz h.1))
        have y1 : decide ((d : Int) + 1 < (k : Int)) = false := decide_eq_false (by omega)
        clear hz
        rcases HP.out with ⟨v, hv, hn⟩ | ⟨hv, hn⟩
        · have HZ := hid hn
          have HDD := hid (int_ok HD.out hxs HT3d.out hv)
          clear hv hn HP
          go_wp2_with fail
          go_region_held (fun wx => wx.cell? ⟨c, 0, none⟩ = some (.string s) ∧ wx.cell? ⟨c, 1, none⟩ = some (.int .i64 k)) (go_keep) ((go_at_call 138; refine HDD.out.mono ?_; rintro e w4 ⟨rfl, hb4⟩; have hc4 := HSS.out _ hb4))
          have HL4 := hid (HL3d.out.keep hb4)
          have HB4 := hid (HB2.out.trans ((But.of (below_drew w3)).trans (But.of hb4)))
          clear hb4 hc4
          go_wp2_with fail
          go_ret
          exact ⟨HB4.out, Or.inl ⟨_, _, HZ.out, rfl, HL4.out⟩⟩
        · have HZ := hid hn
          have HDD := hid (int_bad HD.out hxs HT3d.out hv)
          clear hv hn HP
          go_wp2_with fail
          go_region_held (fun wx => wx.cell? ⟨c, 0, none⟩ = some (.string s) ∧ wx.cell? ⟨c, 1, none⟩ = some (.int .i64 k)) (go_keep) ((go_at_call 138; refine HDD.out.mono ?_; rintro e w4 ⟨v, tt, pp, rfl, hb4⟩; have hc4 := HSS.out _ hb4))
          have HB4 := hid (HB2.out.trans ((But.of (below_drew w3)).trans (But.of hb4)))
          clear hb4 hc4
          go_wp2_with fail
          exact ⟨rfl, HB4.out, Or.inr ⟨HZ.out, rfl⟩⟩
end Go.Proofs.YtknakfpciccoaabGreatDoor
/- The walk of the program's reader: entries. -/
namespace Go.Proofs.YtknakfpciccoaabGreatDoor
open Go.RowKit

theorem infoS : (Tryz.prog.info? 9).map (fun i => (i.zero, i.size, i.bytes)) = some (some (.string ⟨#[]⟩), 1, 16) := by kernel_rfl
theorem infoV : (Tryz.prog.info? 36).map (fun i => (i.zero, i.size, i.bytes)) = some (some (.agg #[.int .i64 0, .int .i64 0, .string ⟨#[]⟩, .slice none 0 0, .slice none 0 0]), 5, 80) := by kernel_rfl
section
variable {d : Nat} {k : Int} {c : Nat} {w : World} {b2 : Nat} {rest a : ByteArray} {L : List T} {K : List ByteArray} {Lv Kv : Value} {xs : List Value} {sub : Nat → List Ent} {wr : World}
theorem EI.sepKid (h : EI d k c w b2 rest a L K Lv Kv xs sub wr) {w1 : World} {es : List Ent} (hB : But b2 wr w1) (hS : Sep wr.heap.size w1 es) : Sep (b2 + 1) w1 (catE sub L.length ++ es ++ [⟨Lv, L.length, Kv, K.length⟩]) :=
  h.grow.sep.child hB.size hS h.grow.low
theorem newOr_of {w5 : World} {v : Value} {g n cap : Nat} (o : Obj) (h : v.ownBlock = some g ∨ g = w5.heap.size + 1) : NewOr (w5.alloc o) v (.slice (some ⟨g, 0, none⟩) n cap) := by
  rcases h with h | h
  · exact .inl h.symm
  · refine .inr fun g' e => ?_
    cases e
    simp
    omega
theorem EI.stepL (h : EI d k c w b2 rest a L K Lv Kv xs sub wr) {w6 : World} {x : T} {es : List Ent} {c0 c1 c2 c3 c4 : Value} {lo g cap : Nat} (o : Obj) (hF : Flat wr (d + 1) (.agg #[c0, c1, c2, c3, c4]) x es) (hS' : Sep lo wr es)
    (hS : Sep (b2 + 1) wr (catE sub L.length ++ es ++ [⟨Lv, L.length, Kv, K.length⟩])) (hO : w6.ownsRow (b2 + 1) eV 5 (.slice (some ⟨g, 0, none⟩) (L.length + 1) cap) (L.length + 1) (xs ++ [c0, c1, c2, c3, c4])) (hG : (wr.alloc o).grownBy w6 Lv.ownBlock) (hat : Lv.ownBlock = some g ∨ g = wr.heap.size + 1) :
    EI d k c w b2 rest a (L ++ [x]) K (.slice (some ⟨g, 0, none⟩) (L.length + 1) cap) Kv (xs ++ [c0, c1, c2, c3, c4]) (updE sub L.length es) (w6.setCell ⟨w.heap.size + 1, 3, none⟩ (.slice (some ⟨g, 0, none⟩) (L.length + 1) cap)) :=
  have hb : Below wr.heap.size wr (wr.alloc o) := (Below.refl _ _).alloc (Nat.le_refl _) _
  (h.keep hb).putL (hF.keep hS' hb) (hS.keep hb.size) hO hG (newOr_of o hat)
theorem EI.stepK (h : EI d k c w b2 rest a L K Lv Kv xs sub wr) {w6 : World} {nm : ByteArray} {g cap : Nat} (o : Obj) (hk : nm.size ≤ 140737488355328)
    (hO : w6.ownsRow (b2 + 1) eS 1 (.slice (some ⟨g, 0, none⟩) (K.length + 1) cap) (K.length + 1) (namesV K ++ [.string nm])) (hG : (wr.alloc o).grownBy w6 Kv.ownBlock) (hat : Kv.ownBlock = some g ∨ g = wr.heap.size + 1) :
    EI d k c w b2 rest a L (K ++ [nm]) Lv (.slice (some ⟨g, 0, none⟩) (K.length + 1) cap) xs sub (w6.setCell ⟨w.heap.size + 1, 4, none⟩ (.slice (some ⟨g, 0, none⟩) (K.length + 1) cap)) :=
  (h.keep ((Below.refl _ _).alloc (Nat.le_refl _) _)).putK hk hO hG (newOr_of o hat)
theorem But.setNew {c : Nat} {w wr : World} (h : But c w wr) {b : Nat} (hb : w.heap.size ≤ b) (o : Nat) (u : Value) : But c w (wr.setCell ⟨b, o, none⟩ u) :=
  ⟨h.os, h.tape, h.output, by simpa [World.setCell] using h.size, fun i hi hc => (Below.heap_setCell _ _ _ _ (by simpa using (by omega : i ≠ b))).trans (h.block i hi hc)⟩
theorem boxGrown {e : TypeId} {size n : Nat} {v : Value} {ys : List Value} (h : EI d k c w b2 rest a L K Lv Kv xs sub wr) {w2 : World} (hG : wr.grownBy w2 v.ownBlock) (hO : wr.ownsRow (b2 + 1) e size v n ys) : BoxAt (w.heap.size + 1) (.int .i64 k) (.int .i64 0) (.string ⟨#[]⟩) Lv Kv w2 := by
  have h2 := h.lb
  refine h.box.move hG.size (hG.block _ h.box.lt fun e => ?_)
  have := (hO.lt _ e.symm).1
  omega
end
end Go.Proofs.YtknakfpciccoaabGreatDoor
/- A list that a parser makes: what holds in memory while it grows. -/
namespace Go.Proofs.YtknakfpciccoaabGreatDoor
open Go.RowKit

structure JI (f : Nat) (k : Int) (c : Nat) (w : World) (rb bx lo : Nat) (L : List T) (K : List ByteArray) (Lv Kv : Value) (xs : List Value) (sub : Nat → List Ent) (wr : World) : Prop where
  grow : Grow lo f wr Lv Kv L K xs sub
  res : BoxAt rb (.int .i64 0) (.int .i64 0) (.string ⟨#[]⟩) (.slice none 0 0) (.slice none 0 0) wr
  box : BoxAt bx (.int .i64 k) (.int .i64 0) (.string ⟨#[]⟩) Lv Kv wr
  but : But c w wr
  lc : c < w.heap.size
  l1 : w.heap.size ≤ rb
  l2 : w.heap.size ≤ bx
  l3 : rb < lo
  l4 : bx < lo
  l5 : rb ≠ bx
section
variable {f : Nat} {k : Int} {c : Nat} {w : World} {rb bx lo : Nat} {L : List T} {K : List ByteArray} {Lv Kv : Value} {xs : List Value} {sub : Nat → List Ent} {wr : World}
theorem JI.inner (h : JI f k c w rb bx lo L K Lv Kv xs sub wr) {w1 : World} (hB : But c wr w1) : JI f k c w rb bx lo L K Lv Kv xs sub w1 := by
  have h0 := h.lc
  have h1 := h.l1
  have h2 := h.l2
  have h3 := h.l3
  have h4 := h.l4
  exact ⟨h.grow.move hB.size (fun b hb hh => hB.block b hh (by omega)), h.res.move hB.size (hB.block _ h.res.lt (by omega)), h.box.move hB.size (hB.block _ h.box.lt (by omega)), h.but.trans hB, h0, h1, h2, h3, h4, h.l5⟩
theorem JI.keep (h : JI f k c w rb bx lo L K Lv Kv xs sub wr) {w1 : World} (hB : Below wr.heap.size wr w1) : JI f k c w rb bx lo L K Lv Kv xs sub w1 := h.inner (But.of hB)
theorem JI.putK (h : JI f k c w rb bx lo L K Lv Kv xs sub wr) {w2 : World} {Kv' : Value} {nm : ByteArray} (hk : nm.size ≤ 140737488355328)
    (hO : w2.ownsRow lo eS 1 Kv' (K.length + 1) (namesV K ++ [.string nm])) (hG : wr.grownBy w2 Kv.ownBlock) (hN : NewOr wr Kv Kv') : JI f k c w rb bx lo L (K ++ [nm]) Lv Kv' xs sub (w2.setCell ⟨bx, 4, none⟩ Kv') ∧ (w2.setCell ⟨bx, 4, none⟩ Kv').heap[c]? = wr.heap[c]? ∧ wr.heap.size ≤ (w2.setCell ⟨bx, 4, none⟩ Kv').heap.size := by
  have h0 := h.lc
  have h1 := h.l1
  have h2 := h.l2
  have h3 := h.l3
  have h4 := h.l4
  have h5 := h.l5
  have hne : ∀ b, b < lo → some b ≠ Kv.ownBlock := fun b hb e => by
    have := (h.grow.ownK.lt b e.symm).1
    omega
  have hblk : ∀ b, b < wr.heap.size → b < lo → w2.heap[b]? = wr.heap[b]? := fun b hb hh => hG.block b hb (hne b hh)
  have hset : ∀ b, b ≠ bx → (w2.setCell ⟨bx, 4, none⟩ Kv').heap[b]? = w2.heap[b]? := fun b hb => Below.heap_setCell _ _ _ _ (by simpa using hb)
  have hsz : (w2.setCell ⟨bx, 4, none⟩ Kv').heap.size = w2.heap.size := by simp [World.setCell]
  have hs2 := hG.size
  have hb := h.but
  have hbs := hb.size
  refine ⟨⟨(h.grow.addK nm hk hO hG hN).set _ _ _ (by omega), h.res.move (by omega) ((hset _ (by omega)).trans (hblk _ h.res.lt (by omega))), (h.box.move hs2 (hblk _ h.box.lt (by omega))).put4 Kv', ?_, h0, h1, h2, h3, h4, h5⟩, (hset _ (by omega)).trans (hblk _ (by omega) (by omega)), by omega⟩
  refine ⟨hG.os.trans hb.os, hG.tape.trans hb.tape, hG.output.trans hb.output, by omega, fun i hi hc => ?_⟩
  exact (hset i (by omega)).trans ((hblk i (by omega) (by omega)).trans (hb.block i hi hc))
theorem JI.putL (h : JI f k c w rb bx lo L K Lv Kv xs sub wr) {w2 : World} {Lv' : Value} {x : T} {es : List Ent} {c0 c1 c2 c3 c4 : Value} (hF : Flat wr f (.agg #[c0, c1, c2, c3, c4]) x es)
    (hS : Sep lo wr (catE sub L.length ++ es ++ [⟨Lv, L.length, Kv, K.length⟩])) (hO : w2.ownsRow lo eV 5 Lv' (L.length + 1) (xs ++ [c0, c1, c2, c3, c4])) (hG : wr.grownBy w2 Lv.ownBlock) (hN : NewOr wr Lv Lv') :
    JI f k c w rb bx lo (L ++ [x]) K Lv' Kv (xs ++ [c0, c1, c2, c3, c4]) (updE sub L.length es) (w2.setCell ⟨bx, 3, none⟩ Lv') ∧ (w2.setCell ⟨bx, 3, none⟩ Lv').heap[c]? = wr.heap[c]? ∧ wr.heap.size ≤ (w2.setCell ⟨bx, 3, none⟩ Lv').heap.size := by
  have h0 := h.lc
  have h1 := h.l1
  have h2 := h.l2
  have h3 := h.l3
  have h4 := h.l4
  have h5 := h.l5
  have hne : ∀ b, b < lo → some b ≠ Lv.ownBlock := fun b hb e => by
    have := (h.grow.ownL.lt b e.symm).1
    omega
  have hblk : ∀ b, b < wr.heap.size → b < lo → w2.heap[b]? = wr.heap[b]? := fun b hb hh => hG.block b hb (hne b hh)
  have hset : ∀ b, b ≠ bx → (w2.setCell ⟨bx, 3, none⟩ Lv').heap[b]? = w2.heap[b]? := fun b hb => Below.heap_setCell _ _ _ _ (by simpa using hb)
  have hsz : (w2.setCell ⟨bx, 3, none⟩ Lv').heap.size = w2.heap.size := by simp [World.setCell]
  have hs2 := hG.size
  have hb := h.but
  have hbs := hb.size
  refine ⟨⟨(h.grow.addL hF hS hO hG hN).set _ _ _ (by omega), h.res.move (by omega) ((hset _ (by omega)).trans (hblk _ h.res.lt (by omega))), (h.box.move hs2 (hblk _ h.box.lt (by omega))).put3 Lv', ?_, h0, h1, h2, h3, h4, h5⟩, (hset _ (by omega)).trans (hblk _ (by omega) (by omega)), by omega⟩
  refine ⟨hG.os.trans hb.os, hG.tape.trans hb.tape, hG.output.trans hb.output, by omega, fun i hi hc => ?_⟩
  exact (hset i (by omega)).trans ((hblk i (by omega) (by omega)).trans (hb.block i hi hc))
theorem JI.sepKid (h : JI f k c w rb bx lo L K Lv Kv xs sub wr) {w1 : World} {es : List Ent} (hB : But c wr w1) (hS : Sep wr.heap.size w1 es) : Sep lo w1 (catE sub L.length ++ es ++ [⟨Lv, L.length, Kv, K.length⟩]) :=
  h.grow.sep.child hB.size hS h.grow.low
theorem JI.stepL (h : JI f k c w rb bx lo L K Lv Kv xs sub wr) {w6 : World} {x : T} {es : List Ent} {c0 c1 c2 c3 c4 : Value} {lo' g cap : Nat} (o : Obj) (hF : Flat wr f (.agg #[c0, c1, c2, c3, c4]) x es) (hS' : Sep lo' wr es)
    (hS : Sep lo wr (catE sub L.length ++ es ++ [⟨Lv, L.length, Kv, K.length⟩])) (hO : w6.ownsRow lo eV 5 (.slice (some ⟨g, 0, none⟩) (L.length + 1) cap) (L.length + 1) (xs ++ [c0, c1, c2, c3, c4])) (hG : (wr.alloc o).grownBy w6 Lv.ownBlock) (hat : Lv.ownBlock = some g ∨ g = wr.heap.size + 1) :
    JI f k c w rb bx lo (L ++ [x]) K (.slice (some ⟨g, 0, none⟩) (L.length + 1) cap) Kv (xs ++ [c0, c1, c2, c3, c4]) (updE sub L.length es) (w6.setCell ⟨bx, 3, none⟩ (.slice (some ⟨g, 0, none⟩) (L.length + 1) cap)) ∧ (w6.setCell ⟨bx, 3, none⟩ (.slice (some ⟨g, 0, none⟩) (L.length + 1) cap)).heap[c]? = wr.heap[c]? ∧ wr.heap.size ≤ (w6.setCell ⟨bx, 3, none⟩ (.slice (some ⟨g, 0, none⟩) (L.length + 1) cap)).heap.size := by
  have hb : Below wr.heap.size wr (wr.alloc o) := (Below.refl _ _).alloc (Nat.le_refl _) _
  have h0 := h.lc
  have hbs := h.but.size
  have := (h.keep hb).putL (hF.keep hS' hb) (hS.keep hb.size) hO hG (newOr_of o hat)
  exact ⟨this.1, this.2.1.trans (hb.block _ (by omega)), Nat.le_trans hb.size this.2.2⟩
theorem JI.stepK (h : JI f k c w rb bx lo L K Lv Kv xs sub wr) {w6 : World} {nm : ByteArray} {g cap : Nat} (o : Obj) (hk : nm.size ≤ 140737488355328)
    (hO : w6.ownsRow lo eS 1 (.slice (some ⟨g, 0, none⟩) (K.length + 1) cap) (K.length + 1) (namesV K ++ [.string nm])) (hG : (wr.alloc o).grownBy w6 Kv.ownBlock) (hat : Kv.ownBlock = some g ∨ g = wr.heap.size + 1) :
    JI f k c w rb bx lo L (K ++ [nm]) Lv (.slice (some ⟨g, 0, none⟩) (K.length + 1) cap) xs sub (w6.setCell ⟨bx, 4, none⟩ (.slice (some ⟨g, 0, none⟩) (K.length + 1) cap)) ∧ (w6.setCell ⟨bx, 4, none⟩ (.slice (some ⟨g, 0, none⟩) (K.length + 1) cap)).heap[c]? = wr.heap[c]? ∧ wr.heap.size ≤ (w6.setCell ⟨bx, 4, none⟩ (.slice (some ⟨g, 0, none⟩) (K.length + 1) cap)).heap.size := by
  have hb : Below wr.heap.size wr (wr.alloc o) := (Below.refl _ _).alloc (Nat.le_refl _) _
  have h0 := h.lc
  have hbs := h.but.size
  have := (h.keep hb).putK hk hO hG (newOr_of o hat)
  exact ⟨this.1, this.2.1.trans (hb.block _ (by omega)), Nat.le_trans hb.size this.2.2⟩
theorem JI.boxGrown {e : TypeId} {size n : Nat} {v : Value} {ys : List Value} (h : JI f k c w rb bx lo L K Lv Kv xs sub wr) {w2 : World} (hG : wr.grownBy w2 v.ownBlock) (hO : wr.ownsRow lo e size v n ys) : BoxAt bx (.int .i64 k) (.int .i64 0) (.string ⟨#[]⟩) Lv Kv w2 := by
  have h4 := h.l4
  refine h.box.move hG.size (hG.block _ h.box.lt fun e => ?_)
  have := (hO.lt _ e.symm).1
  omega
theorem JI.start {f : Nat} {k : Int} {c : Nat} {w : World} (hc : c < w.heap.size) : JI f k c w w.heap.size (w.heap.size + 1) (w.heap.size + 2) [] [] (.slice none 0 0) (.slice none 0 0) [] (fun _ => []) ((w.alloc (.cells #[.int .i64 0, .int .i64 0, .string ⟨#[]⟩, .slice none 0 0, .slice none 0 0] 36)).alloc (.cells #[.int .i64 k, .int .i64 0, .string ⟨#[]⟩, .slice none 0 0, .slice none 0 0] 36)) := by
  refine ⟨Grow.start _ _ _ (by simp), (box_new w _ _ _ _ _).move (by simp) (Below.heap_alloc _ _ _ (by simp)), ?_, But.of (((Below.refl _ _).alloc (Nat.le_refl _) _).alloc (by simp) _), hc, by omega, by omega, by omega, by omega, by omega⟩
  have := box_new (w.alloc (.cells #[.int .i64 0, .int .i64 0, .string ⟨#[]⟩, .slice none 0 0, .slice none 0 0] 36)) (.int .i64 k) (.int .i64 0) (.string ⟨#[]⟩) (.slice none 0 0) (.slice none 0 0)
  simpa using this
/-- The result's five cells are written last. -/
theorem put_five {c : Nat} {w wr : World} {f lo rb : Nat} {v : Value} {t : T} {es : List Ent} (hB : But c w wr) (hc : c < w.heap.size) (hF : Flat wr f v t es) (hS : Sep lo wr es) (h1 : w.heap.size ≤ rb) (hlo : rb < lo) (u0 u1 u2 u3 u4 : Value) :
    But c w (((((wr.setCell ⟨rb, 0, none⟩ u0).setCell ⟨rb, 1, none⟩ u1).setCell ⟨rb, 2, none⟩ u2).setCell ⟨rb, 3, none⟩ u3).setCell ⟨rb, 4, none⟩ u4) ∧
    Flat (((((wr.setCell ⟨rb, 0, none⟩ u0).setCell ⟨rb, 1, none⟩ u1).setCell ⟨rb, 2, none⟩ u2).setCell ⟨rb, 3, none⟩ u3).setCell ⟨rb, 4, none⟩ u4) f v t es ∧
    Sep w.heap.size (((((wr.setCell ⟨rb, 0, none⟩ u0).setCell ⟨rb, 1, none⟩ u1).setCell ⟨rb, 2, none⟩ u2).setCell ⟨rb, 3, none⟩ u3).setCell ⟨rb, 4, none⟩ u4) es ∧
    (((((wr.setCell ⟨rb, 0, none⟩ u0).setCell ⟨rb, 1, none⟩ u1).setCell ⟨rb, 2, none⟩ u2).setCell ⟨rb, 3, none⟩ u3).setCell ⟨rb, 4, none⟩ u4).heap[c]? = wr.heap[c]? ∧
    (((((wr.setCell ⟨rb, 0, none⟩ u0).setCell ⟨rb, 1, none⟩ u1).setCell ⟨rb, 2, none⟩ u2).setCell ⟨rb, 3, none⟩ u3).setCell ⟨rb, 4, none⟩ u4).heap.size = wr.heap.size := by
  have hset : ∀ (w1 : World) (o : Nat) (u : Value) (b : Nat), b ≠ rb → (w1.setCell ⟨rb, o, none⟩ u).heap[b]? = w1.heap[b]? := fun w1 o u b hb => Below.heap_setCell _ _ _ _ (by simpa using hb)
  refine ⟨((((hB.setNew h1 _ _).setNew h1 _ _).setNew h1 _ _).setNew h1 _ _).setNew h1 _ _, hF.move fun b hb => ?_, ?_, ?_, by simp [World.setCell]⟩
  · have h1 := hS.lies b hb
    rw [hset _ _ _ _ (by omega), hset _ _ _ _ (by omega), hset _ _ _ _ (by omega), hset _ _ _ _ (by omega), hset _ _ _ _ (by omega)]
  · exact (hS.lower (by omega)).keep (by simp [World.setCell])
  · rw [hset _ _ _ _ (by omega), hset _ _ _ _ (by omega), hset _ _ _ _ (by omega), hset _ _ _ _ (by omega), hset _ _ _ _ (by omega)]
theorem PL.same {c : Nat} {s : ByteArray} {i : Nat} {w w' : World} (h : PL c s i w) (hb : w'.heap[c]? = w.heap[c]?) (hs : w.heap.size ≤ w'.heap.size) : PL c s i w' := h.move hs hb
end
/-- How a parser's value ends. -/
def VPost (n c : Nat) (s : ByteArray) (x : Option (T × Nat)) (after : Nat → Nat) (w : World) (e : Ending) (w' : World) : Prop :=
  But c w w' ∧ ((∃ t j es A B C D, x = some (t, j) ∧ e = .returned (five t A B C D) ∧ Flat w' n (five t A B C D) t es ∧ Sep w.heap.size w' es ∧ PL c s (after j) w') ∨ (x = none ∧ e = refusedT 2))
def VSaid (Tb : World → Prop) (s : ByteArray) (n : Nat) : Prop := ∀ (c i : Nat) (w : World), Stays Tb c → PL c s i w → Tb w → i ≤ s.size → s.size < i + n → Calls Tryz.prog 44 #[.pointer (some ⟨c, 0, none⟩)] w (VPost n c s (valN s n i) (sk s) w)
theorem v_some {Tb : World → Prop} {s : ByteArray} {n : Nat} (hv : VSaid Tb s n) {c i : Nat} {w : World} {t : T} {j : Nat} (hz : valN s n i = some (t, j)) (hS : Stays Tb c) (hL : PL c s i w) (hT : Tb w) (hi : i ≤ s.size) (hn : s.size < i + n) :
    Calls Tryz.prog 44 #[.pointer (some ⟨c, 0, none⟩)] w fun e w' => ∃ es A B C D, e = .returned (.agg #[.int .i64 (kindOf t), .int .i64 (nOf t), .string (sOf t), .slice A (nL t) B, .slice C (nK t) D]) ∧ But c w w' ∧ Flat w' n (.agg #[.int .i64 (kindOf t), .int .i64 (nOf t), .string (sOf t), .slice A (nL t) B, .slice C (nK t) D]) t es ∧ Sep w.heap.size w' es ∧ PL c s (sk s j) w' := by
  refine (hv c i w hS hL hT hi hn).mono ?_
  rintro e w' ⟨hB, ⟨t', j', es, A, B, C, D, hz', rfl, hF, hSp, hL'⟩ | ⟨hz', _⟩⟩
  · rw [hz] at hz'
    cases hz'
    exact ⟨es, A, B, C, D, rfl, hB, hF, hSp, hL'⟩
  · rw [hz] at hz'
    cases hz'
theorem v_none {Tb : World → Prop} {s : ByteArray} {n : Nat} (hv : VSaid Tb s n) {c i : Nat} {w : World} (hz : valN s n i = none) (hS : Stays Tb c) (hL : PL c s i w) (hT : Tb w) (hi : i ≤ s.size) (hn : s.size < i + n) :
    Calls Tryz.prog 44 #[.pointer (some ⟨c, 0, none⟩)] w fun e w' => e = refusedT 2 ∧ But c w w' := by
  refine (hv c i w hS hL hT hi hn).mono ?_
  rintro e w' ⟨hB, ⟨t', j', es, A, B, C, D, hz', rfl, hF, hSp, hL'⟩ | ⟨hz', rfl⟩⟩
  · rw [hz] at hz'
    cases hz'
  · exact ⟨rfl, hB⟩
theorem s_some {Tb : World → Prop} (hD : DecSaid Tb) {c : Nat} (hS : Stays Tb c) {s : ByteArray} {i : Nat} {w : World} {x : ByteArray} {j : Nat} (hz : txtS s i = some (x, j)) (h : PL c s i w) (hT : Tb w) (hs : s.size ≤ 4000) (hi : i ≤ s.size) :
    Calls Tryz.prog 108 #[.pointer (some ⟨c, 0, none⟩)] w fun e w' => e = .returned (.string x) ∧ But c w w' ∧ PL c s j w' := by
  refine (str_any hD c hS s i w h hT hs hi).mono ?_
  rintro e w' ⟨hB, ⟨x', j', hz', rfl, hL'⟩ | ⟨hz', _⟩⟩
  · rw [hz] at hz'
    cases hz'
    exact ⟨rfl, hB, hL'⟩
  · rw [hz] at hz'
    cases hz'
theorem s_none {Tb : World → Prop} (hD : DecSaid Tb) {c : Nat} (hS : Stays Tb c) {s : ByteArray} {i : Nat} {w : World} (hz : txtS s i = none) (h : PL c s i w) (hT : Tb w) (hs : s.size ≤ 4000) (hi : i ≤ s.size) :
    Calls Tryz.prog 108 #[.pointer (some ⟨c, 0, none⟩)] w fun e w' => e = refusedT 2 ∧ But c w w' := by
  refine (str_any hD c hS s i w h hT hs hi).mono ?_
  rintro e w' ⟨hB, ⟨x', j', hz', rfl, hL'⟩ | ⟨hz', rfl⟩⟩
  · rw [hz] at hz'
    cases hz'
  · exact ⟨rfl, hB⟩
end Go.Proofs.YtknakfpciccoaabGreatDoor
