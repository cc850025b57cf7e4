import Derived.Test.YtknakfpciccoaabGreatDoorZS27
import Derived.Test.YtknakfpciccoaabGreatDoorZS20
import Derived.Test.YtknakfpciccoaabGreatDoorZS32
/- The walk of a pipeline: its stages, one behind the other. -/
namespace Go.Proofs.YtknakfpciccoaabGreatDoor
open Go.RowKit

theorem At.cells {w w' : World} (hs : w.heap.size ≤ w'.heap.size) (hc : ∀ b o, w'.cell? ⟨b, o, none⟩ = w.cell? ⟨b, o, none⟩) : ∀ {f : Nat} {v : Value} {t : T}, At w f v t → At w' f v t := by
  intro f
  induction f with
  | zero => intro v t h; exact h.elim
  | succ f ih =>
    rintro v t ⟨La, Ka, Lc, Kc, rfl, hf, hl, hk⟩
    refine ⟨La, Ka, Lc, Kc, rfl, hf, fun i hi => ?_, fun i hi => ?_⟩
    · obtain ⟨b, o, c0, c1, c2, c3, c4, h0, hbl, q0, q1, q2, q3, q4, ha⟩ := hl i hi
      exact ⟨b, o, c0, c1, c2, c3, c4, h0, Nat.lt_of_lt_of_le hbl hs, (hc _ _).trans q0, (hc _ _).trans q1, (hc _ _).trans q2, (hc _ _).trans q3, (hc _ _).trans q4, ih ha⟩
    · obtain ⟨b, o, h0, hbl, h2, h3⟩ := hk i hi
      exact ⟨b, o, h0, Nat.lt_of_lt_of_le hbl hs, h2, (hc _ _).trans h3⟩
theorem DocsAt.cells {w w' : World} {v : Value} {l : List T} (h : DocsAt w v l) (hs : w.heap.size ≤ w'.heap.size) (hc : ∀ b o, w'.cell? ⟨b, o, none⟩ = w.cell? ⟨b, o, none⟩) : DocsAt w' v l := by
  obtain ⟨La, Lc, h1, h2, h3, h4, h5, h6⟩ := h
  refine ⟨La, Lc, h1, h2, h3, h4, fun i hi => ?_, h6⟩
  obtain ⟨b, o, c0, c1, c2, c3, c4, h0, hbl, q0, q1, q2, q3, q4, ha⟩ := h5 i hi
  exact ⟨b, o, c0, c1, c2, c3, c4, h0, Nat.lt_of_lt_of_le hbl hs, (hc _ _).trans q0, (hc _ _).trans q1, (hc _ _).trans q2, (hc _ _).trans q3, (hc _ _).trans q4, ha.cells hs hc⟩
theorem set_self {w : World} {b o : Nat} {u : Value} (h : w.cell? ⟨b, o, none⟩ = some u) (c k : Nat) : (w.setCell ⟨b, o, none⟩ u).cell? ⟨c, k, none⟩ = w.cell? ⟨c, k, none⟩ := by
  by_cases e : b ≠ c ∨ o ≠ k
  · exact set_other e u
  · have e1 : b = c := Decidable.byContradiction fun h => e (.inl h)
    have e2 : o = k := Decidable.byContradiction fun h => e (.inr h)
    subst e1
    subst e2
    rw [World.cell?_setCell_same w ⟨b, o, none⟩ u h, h]
/-- What stages make of documents: an error of a stage, at a document, or documents. -/
def pipE : List (List T → (Nat × Int) ⊕ List T) → List T → Nat → (Nat × Nat × Int) ⊕ List T
  | [], l, _ => .inr l
  | g :: gs, l, i => match g l with
    | .inl (k, x) => .inl (i, k, x)
    | .inr r => pipE gs r (i + 1)
/-- Stages in a row. -/
def StagesOk (Tb : World → Prop) (w : World) (v : Value) (gs : List (List T → (Nat × Int) ⊕ List T)) : Prop :=
  ∃ A c, v = .slice A gs.length c ∧ gs.length ≤ 1000000 ∧ ∀ i, (h : i < gs.length) → ∃ b o u, A = some ⟨b, o, none⟩ ∧ b < w.heap.size ∧ w.cell? ⟨b, o + i, none⟩ = some u ∧ StageOk Tb w u gs[i]
def RnPost (gs : List (List T → (Nat × Int) ⊕ List T)) (l : List T) (w : World) (e : Ending) (w' : World) : Prop :=
  Below w.heap.size w w' ∧ ((∃ (i k : Nat) (x : Int), pipE gs l 0 = .inl (i, k, x) ∧ x ≠ 0 ∧ e = .returned (.tuple #[.slice none 0 0, .agg #[.int .i64 i, .int .i64 k, .int .i64 x]])) ∨ ∃ r v, pipE gs l 0 = .inr r ∧ e = .returned (.tuple #[v, .agg #[.int .i64 0, .int .i64 0, .int .i64 0]]) ∧ DocsAt w' v r)
/-- The box of a fault. -/
structure Box3 (b : Nat) (w : World) : Prop where
  q0 : w.cell? ⟨b, 0, none⟩ = some (.int .i64 0)
  q1 : w.cell? ⟨b, 1, none⟩ = some (.int .i64 0)
  q2 : w.cell? ⟨b, 2, none⟩ = some (.int .i64 0)
  f0 : w.frozen? ⟨b, 0, none⟩ = false
  f1 : w.frozen? ⟨b, 1, none⟩ = false
  f2 : w.frozen? ⟨b, 2, none⟩ = false
  lt : b < w.heap.size
theorem Box3.stay {b : Nat} {w w' : World} (h : Box3 b w) (hb : Below w.heap.size w w') : Box3 b w' :=
  ⟨(hb.cell (p := ⟨b, 0, none⟩) h.lt).trans h.q0, (hb.cell (p := ⟨b, 1, none⟩) h.lt).trans h.q1, (hb.cell (p := ⟨b, 2, none⟩) h.lt).trans h.q2, (World.frozen?_of_block (a := ⟨b, 0, none⟩) (hb.block b h.lt)).trans h.f0, (World.frozen?_of_block (a := ⟨b, 1, none⟩) (hb.block b h.lt)).trans h.f1, (World.frozen?_of_block (a := ⟨b, 2, none⟩) (hb.block b h.lt)).trans h.f2, Nat.lt_of_lt_of_le h.lt hb.size⟩
theorem Box3.new (w : World) : Box3 w.heap.size (w.alloc (.cells #[.int .i64 0, .int .i64 0, .int .i64 0] 57)) := by
  constructor <;> simp [go_sem]
theorem set3_below {w W : World} (h : Below w.heap.size w W) {b : Nat} (hb : w.heap.size ≤ b) (u0 u1 u2 : Value) : Below w.heap.size w (((W.setCell ⟨b, 0, none⟩ u0).setCell ⟨b, 1, none⟩ u1).setCell ⟨b, 2, none⟩ u2) := by
  have one : ∀ (W : World) (o : Nat) (u : Value), Below w.heap.size w W → Below w.heap.size w (W.setCell ⟨b, o, none⟩ u) := fun W o u h => by
    obtain ⟨t1, t2, t3, t4⟩ := setC_rest W ⟨b, o, none⟩ u
    exact ⟨t2.trans h.os, t3.trans h.tape, t4.trans h.output, by rw [t1]; exact h.size, fun k hk => (Below.heap_setCell _ _ _ _ (by simp; omega)).trans (h.block k hk)⟩
  exact one _ _ _ (one _ _ _ (one _ _ _ h))
theorem set3_docs {W : World} {b : Nat} (h : Box3 b W) {v : Value} {l : List T} (hd : DocsAt W v l) : DocsAt (((W.setCell ⟨b, 0, none⟩ (.int .i64 0)).setCell ⟨b, 1, none⟩ (.int .i64 0)).setCell ⟨b, 2, none⟩ (.int .i64 0)) v l := by
  have h1 := set_self h.q0
  have h2 := set_self ((h1 b 1).trans h.q1)
  have h3 := set_self ((h2 b 2).trans ((h1 b 2).trans h.q2))
  exact hd.cells (by simp [World.setCell]) fun c k => (h3 c k).trans ((h2 c k).trans (h1 c k))
set_option maxHeartbeats 8000000 in
set_option maxRecDepth 100000 in
theorem pipe_any {Tb : World → Prop} (hL : Lies Tb) (pv dv : Value) (gs : List (List T → (Nat × Int) ⊕ List T)) (l : List T) (w : World) (hp : StagesOk Tb w pv gs) (hd : DocsAt w dv l) (hT : Tb w) :
    Calls Tryz.prog 23 #[pv, dv] w (RnPost gs l w) := by
  obtain ⟨EA, ec, rfl, hn, hes⟩ := hp
  have HEs := hid hes
  have HT : Hid (∀ w' : World, Below w.heap.size w w' → Tb w') := fun w' hb => hL w hT w w' hT hb
  have HB1 : Hid (Below w.heap.size w (w.alloc (.cells #[.int .i64 0, .int .i64 0, .int .i64 0] 57))) := (Below.refl _ _).alloc (Nat.le_refl _) _
  have HX1 := hid (Box3.new w)
  have HD1 := hid (hd.keep HB1.out)
  obtain ⟨DA, dc, hdv, hz⟩ := hd
  clear hes hT hL hz
  subst hdv
  obtain ⟨n, hln⟩ : ∃ n, gs.length = n := ⟨_, rfl⟩
  have Hln := hid hln
  rw [hln] at hn ⊢
  clear hln
  go_enter Tryz.func23, Tryz.ntmps23
  go_wp2_with fail
  go_loopg [1, 13] n (fun g d i wr => ∃ (k : Nat) (l' : List T), g = n - k ∧ k ≤ n ∧ i = .int .i64 k ∧ Hid (Below w.heap.size w wr) ∧ Hid (Box3 w.heap.size wr) ∧ Hid (DocsAt wr d l') ∧ Hid (pipE gs l 0 = pipE (gs.drop k) l' k))
  case atStart => exact ⟨0, l, rfl, Nat.zero_le _, rfl, HB1, HX1, HD1, rfl⟩
  case round =>
    obtain ⟨k, l', rfl, hk, rfl, HB, HX, HD, HE⟩ := hrel
    by_cases hlt : k < n
    · have hkl : k < gs.length := by rw [Hln.out]; exact hlt
      obtain ⟨b, o, u, rfl, hbl, p0, hex⟩ := HEs.out k hkl
      have p0' := (HB.out.cell (p := ⟨b, o + k, none⟩) hbl).trans p0
      obtain ⟨ty, p, fid, rfl, hm, hcall, hbeh⟩ := hex
      have HG : Hid (pipE gs l 0 = pipE (gs[k] :: gs.drop (k + 1)) l' k) := by show _ = _; rw [← List.drop_eq_getElem_cons hkl]; exact HE.out
      generalize gs[k] = gk at hbeh HG
      have hmw := hm wr
      have HC := hid (hbeh wr u1 l' HB.out HD.out (HT.out _ HB.out))
      clear p0 hbeh hm
      go_wp2_with fail
      refine HC.out.mono ?_
      rintro e w2 ⟨b2, ⟨j, x, h1, h2, rfl⟩ | ⟨r, v, h1, rfl, h3⟩⟩
      · have ez : (x == 0) = false := by simpa using h2
        have HF : Hid (pipE gs l 0 = .inl (k, j, x) ∧ x ≠ 0) := ⟨by rw [HG.out, pipE, h1], h2⟩
        have HB2 := hid (HB.out.trans (b2.mono HB.out.size))
        have HX2 := hid (HX.out.stay b2)
        have HBf := hid (set3_below HB2.out (b := w.heap.size) (Nat.le_refl _) (.int .i64 (k : Nat)) (.int .i64 (j : Nat)) (.int .i64 x))
        have q0 := HX2.out.q0
        have q1 := HX2.out.q1
        have q2 := HX2.out.q2
        have f0 := HX2.out.f0
        have f1 := HX2.out.f1
        have f2 := HX2.out.f2
        clear b2 h1 h2 HC
        go_wp2_with fail
        refine bodyPost_ret (v := .tuple #[.slice none 0 0, .agg #[.int .i64 (k : Nat), .int .i64 (j : Nat), .int .i64 x]]) (by simp [results, Tryz.results23, go_sem, *]) rfl ?_
        exact ⟨HBf.out, .inl ⟨k, j, x, HF.out.1, HF.out.2, rfl⟩⟩
      · have HE2 : Hid (pipE gs l 0 = pipE (gs.drop (k + 1)) r (k + 1)) := by show _ = _; rw [HG.out, pipE, h1]
        have HB2 := hid (HB.out.trans (b2.mono HB.out.size))
        have HX2 := hid (HX.out.stay b2)
        have HD2 := hid h3
        clear b2 h1 h3 HC
        go_wp2_with fail
        go_roundg (n - (k + 1))
        case rel => exact ⟨k + 1, r, rfl, by omega, by go_num, HB2, HX2, HD2, HE2⟩
        case measure => omega
    · obtain rfl : k = n := by omega
      have HF : Hid (pipE gs l 0 = .inr l') := by
        show _ = _
        rw [HE.out, ← Hln.out, List.drop_length]
        rfl
      have HBf := hid (set3_below HB.out (b := w.heap.size) (Nat.le_refl _) (.int .i64 0) (.int .i64 0) (.int .i64 0))
      have HDf := hid (set3_docs HX.out HD.out)
      have q0 := HX.out.q0
      have q1 := HX.out.q1
      have q2 := HX.out.q2
      have f0 := HX.out.f0
      have f1 := HX.out.f1
      have f2 := HX.out.f2
      go_wp2_with fail
      refine bodyPost_ret (v := .tuple #[u1, .agg #[.int .i64 0, .int .i64 0, .int .i64 0]]) (by simp [results, Tryz.results23, go_sem, *]) rfl ?_
      exact ⟨HBf.out, .inr ⟨l', u1, HF.out, rfl, HDf.out⟩⟩
end Go.Proofs.YtknakfpciccoaabGreatDoor
/- Stages are read: what a reader of stages answers; parsePipeline, pipe.Parse. -/
namespace Go.Proofs.YtknakfpciccoaabGreatDoor
open Go.RowKit

abbrev StgF := List T → (Nat × Int) ⊕ List T
/-- How a reader of a stage ends well. -/
def SgPost (Tb : World → Prop) (wB : World) (g : StgF) (w : World) (e : Ending) (w' : World) : Prop :=
  Below w.heap.size w w' ∧ ∃ ty p, e = .returned (.iface ty p) ∧ Sat wB w' (newB w w') (fun x => StageOk Tb x (.iface ty p) g)
def PsSaid (Tb : World → Prop) (t : T) (g : StgF) : Prop := ∀ (v : Value) (wB w : World), At wB 13 v t → okA t → Below wB.heap.size wB w → Tb w → Calls Tryz.prog 94 #[v] w (SgPost Tb wB g w)
theorem newX_new {base : Nat} {hv : Value} {w wr : World} (hlo : w.heap.size ≤ base) {b : Nat} (h : newX base hv wr b) : newB w wr b := ⟨Nat.le_trans hlo h.1, h.2.1⟩
theorem infoSg : (Tryz.prog.info? 82).map (fun i => (i.zero, i.size, i.bytes)) = some (some .nilIface, 1, 16) := by kernel_rfl
def StgE (Tb : World → Prop) (wB : World) (w : World) (X : Nat → Prop) (cs : List Value) (g : StgF) : Prop := ∃ ty q, cs = [.iface ty q] ∧ Sat wB w X (fun x => StageOk Tb x (.iface ty q) g)
theorem stgE_moves (Tb : World → Prop) (wB : World) : Moves (StgE Tb wB) := fun _ _ _ _ _ _ h hb => by
  obtain ⟨ty, q, h1, h2⟩ := h
  exact ⟨ty, q, h1, h2.move hb⟩
theorem bld_stages {Tb : World → Prop} {wB : World} {base : Nat} {hv : Value} {gs : List StgF} {xs : List Value} {w wr : World} (h : Bld (StgE Tb wB) 1 82 base hv gs xs wr) (hlo : w.heap.size ≤ base) (hn : gs.length ≤ 1000000) : ∃ A c, hv = .slice A gs.length c ∧ Sat wB wr (newB w wr) (fun x => StagesOk Tb x (.slice A gs.length c) gs) := by
  have hrow := h.row
  rcases h.row.2 with ⟨rfl, h0⟩ | ⟨g, cap, cur, rfl, hb0, hgb, _⟩
  · exact ⟨none, 0, by rw [h0], Sat.all fun w' _ => ⟨none, 0, rfl, hn, fun i hi => by omega⟩⟩
  · have hgl := (Array.getElem?_eq_some_iff.1 hgb).1
    refine ⟨some ⟨g, 0, none⟩, cap, rfl, newB w wr, fun b hb => ⟨hb, hb.2⟩, fun w' hw hy => ⟨_, _, rfl, hn, fun i hi => ?_⟩⟩
    obtain ⟨ty, q, hc, hs⟩ := h.el i hi
    have c0 := row_cell hrow (elC_get (r := 0) (by rw [hc]; rfl) (by omega))
    have hgw : w'.heap[g]? = wr.heap[g]? := hy g ⟨by omega, hgl⟩
    refine ⟨g, 0, .iface ty q, rfl, get_lt hgl hgw, ?_, ?_⟩
    · rw [cell_of hgw, Nat.zero_add]; rw [Nat.mul_one, Nat.add_zero] at c0; exact c0
    · obtain ⟨Y, h1, h2⟩ := hs
      exact h2 w' hw fun b hb => hy b (newX_new hlo (h1 b hb).1)
def PlPost (Tb : World → Prop) (wB : World) (gs : List StgF) (w : World) (e : Ending) (w' : World) : Prop :=
  Below w.heap.size w w' ∧ ∃ A c, e = .returned (.slice A gs.length c) ∧ Sat wB w' (newB w w') (fun x => StagesOk Tb x (.slice A gs.length c) gs)
set_option maxHeartbeats 8000000 in
set_option maxRecDepth 100000 in
theorem ppipe_any {Tb : World → Prop} (hL : Lies Tb) (t : T) (gs : List StgF) (k5 : kindOf t = 5) (hl : nL t = gs.length) (hn : gs.length ≤ 8) (hgs : ∀ i, (hi : i < gs.length) → PsSaid Tb (elt t i) gs[i])
    (v : Value) (wB w : World) (ha : At wB 13 v t) (hk : okA t) (hb0 : Below wB.heap.size wB w) (hT : Tb w) : Calls Tryz.prog 64 #[v] w (PlPost Tb wB gs w) := by
  obtain ⟨iE, hiE, zE0, zE1, zE2⟩ := info_parts infoSg
  obtain ⟨g1, La, Ka, Lc, Kc, hg1, rfl, hfj, hel, hnm⟩ := ha.open
  have HKj := hid hk
  have Hel := hid hel.out
  have HT : Hid (∀ w' : World, Below w.heap.size w w' → Tb w') := fun w' hb => hL w hT w w' hT hb
  have HEs := hid hgs
  have Hl := hid hl
  have Hhn := hid hn
  have hnl : nL t ≤ 8 := by omega
  have hnli : (nL t : Int) ≤ 8 := by omega
  have Hg1 := hid hg1
  rw [k5]
  clear ha hk hel hnm hfj hT hL hgs hl hn hg1
  go_enter Tryz.func64, Tryz.ntmps64
  go_wp2_with fail
  refine (needP_any _).mono ?_
  rintro e w2 ⟨rfl, rfl⟩
  go_wp2_with fail
  go_loopg [3, 19] (nL t) (fun g o i wr => ∃ (k : Nat) (xs : List Value), g = nL t - k ∧ k ≤ nL t ∧ i = .int .i64 k ∧ Hid (Below (w.heap.size + 1) (w.alloc (.cells #[.int .i64 5, .int .i64 (nOf t), .string (sOf t), .slice La (nL t) Lc, .slice Ka (nK t) Kc] 36)) wr) ∧ Hid (Bld (StgE Tb wB) 1 82 (w.heap.size + 1) o (gs.take k) xs wr))
  case atStart => exact ⟨0, [], rfl, Nat.zero_le _, rfl, Below.refl _ _, Bld.nil _ _ _ _ _⟩
  case round =>
    obtain ⟨k, xs, rfl, hk, rfl, HB, HL⟩ := hrel
    obtain ⟨q0, q1, q2, q3, q4, hz, hbw⟩ := box_facts HB.out
    have Hbr := hid (hb0.trans (hbw.mono hb0.size))
    have Hbw := hid hbw
    clear hbw
    by_cases hlt : k < nL t
    · have hlte : k < gs.length := by have := Hl.out; omega
      obtain ⟨bb, oo, A, B, C, D, rfl, hbl, p0, p1, p2, p3, p4, Ha⟩ := Hel.out.shape Hbr.out k hlt
      obtain ⟨j, hj⟩ : ∃ j, elt t k = j := ⟨_, rfl⟩
      have HKe := hid (HKj.out.elt hlt)
      have HPs := hid (HEs.out k hlte)
      rw [hj] at p0 p1 p2 p3 p4 Ha HKe HPs
      clear hj
      have HBx : Hid (Below wr.heap.size wr (wr.alloc (.cells #[.int .i64 (kindOf j), .int .i64 (nOf j), .string (sOf j), .slice A (nL j) B, .slice C (nK j) D] 36))) := (Below.refl _ _).alloc (Nat.le_refl _) _
      have HC := hid (HPs.out _ wB _ (Ha.out.up (show g1 ≤ 13 by have := Hg1.out; omega)) HKe.out (Hbr.out.trans (HBx.out.mono Hbr.out.size)) (HT.out _ (Hbw.out.trans (HBx.out.mono Hbw.out.size))))
      have HTk : Hid (gs.take (k + 1) = gs.take k ++ [gs[k]]) := by show _ = _; rw [List.take_add_one, List.getElem?_eq_getElem hlte]; rfl
      have hxl : (gs.take k).length = k := by rw [List.length_take]; omega
      generalize gs[k] = gk at HC HTk
      clear HPs HKe
      go_wp2_with fail
      refine HC.out.mono ?_
      rintro e w3 ⟨b3, t6, v6, rfl, ht⟩
      have HTt := hid (ht.later (wa := wr) (Below.refl _ _) HBx.out.size)
      have Hb3 := hid (HBx.out.trans (b3.mono HBx.out.size))
      have HB4 : Hid (Below w3.heap.size w3 (w3.alloc (.cells #[.iface t6 v6] 82))) := (Below.refl _ _).alloc (Nat.le_refl _) _
      have HL4 := hid ((HL.out.keep (stgE_moves Tb wB) Hb3.out).keep (stgE_moves Tb wB) HB4.out)
      have HSrc : Hid (Src Tryz.prog 1 53 (.slice (some ⟨w3.heap.size, 0, none⟩) 1 1) 1 [.iface t6 v6] (w3.alloc (.cells #[.iface t6 v6] 82))) := Src.ofSlice _ Tryz.underlying53 ⟨w3.heap.size, 0, none⟩ 1 1 [.iface t6 v6] (by simp) (World.news_of_block (heap_alloc_new w3 _)) (by simp [Value.oneCell'])
      have hlo : w.heap.size + 1 ≤ (w3.alloc (.cells #[.iface t6 v6] 82)).heap.size := by have := Hb3.out.size; simp; omega
      clear b3 ht HC
      go_wp2_with (at_builtin; refine wpList_append_src _ rfl (.tmp 23) (.tmp 26) 53 53 rfl (w.heap.size + 1) 82 iE _ 1 16 Tryz.underlying53 hiE zE0 zE1 zE2 rfl u3 (gs.take k).length xs rfl HL4.out.row (.slice (some ⟨w3.heap.size, 0, none⟩) 1 1) 1 [.iface t6 v6] rfl HSrc.out (by unfold maxLen; omega) (by omega) hlo ?_; intro v' w6 hO6 hG6 hat6)
      have HL6 := hid (HL.out.grow (x := gk) (cs := [.iface t6 v6]) (stgE_moves Tb wB) (Hb3.out.trans (HB4.out.mono Hb3.out.size)) rfl (stgE_moves Tb wB _ _ _ _ _ _ ⟨t6, v6, rfl, HTt.out⟩ (fun b hb => ⟨HB4.out.block b hb.2, hb⟩)) (fun b hb => ⟨hb.1, Nat.lt_of_lt_of_le hb.2 HB4.out.size⟩) (by omega) hO6 hG6 hat6)
      have HB6 := hid (below_grown ((HB.out.trans (Hb3.out.mono (by omega))).trans (HB4.out.mono (by have := Hb3.out.size; omega))) HL4.out.row (Nat.le_refl _) (by omega) hG6)
      rw [← HTk.out] at HL6
      clear hO6 hG6 hat6
      go_wp2_with fail
      go_roundg (nL t - (k + 1))
      case rel => exact ⟨k + 1, _, rfl, by omega, by go_num, HB6, HL6⟩
      case measure => omega
    · obtain rfl : k = nL t := by omega
      rw [Hl.out, List.take_length] at HL
      obtain ⟨A, c, rfl, hs⟩ := bld_stages (w := w) HL.out (by omega) (by have := Hhn.out; omega)
      have HS := hid hs
      clear hs HL
      go_wp2_with fail
      go_ret
      exact ⟨Hbw.out, _, _, rfl, HS.out⟩
/-- What a pipeline's reader does with a tree. -/
def PpSaid (Tb : World → Prop) (t : T) (gs : List StgF) : Prop := ∀ (v : Value) (wB w : World), At wB 13 v t → okA t → Below wB.heap.size wB w → Tb w → Calls Tryz.prog 64 #[v] w (PlPost Tb wB gs w)
set_option maxHeartbeats 4000000 in
set_option maxRecDepth 100000 in
theorem pParseIn_any {Tb : World → Prop} (t : T) (gs : List StgF) (h : PpSaid Tb t gs) (v : Value) (wB w : World) (ha : At wB 13 v t) (hk : okA t) (hb0 : Below wB.heap.size wB w) (hT : Tb w) (p : Nat)
    (La Ka : Option Addr) (Lc Kc : Nat) (hv : v = .agg #[.int .i64 (kindOf t), .int .i64 (nOf t), .string (sOf t), .slice La (nL t) Lc, .slice Ka (nK t) Kc])
    (q0 : w.cell? ⟨p, 0, none⟩ = some (.int .i64 (kindOf t))) (q1 : w.cell? ⟨p, 1, none⟩ = some (.int .i64 (nOf t))) (q2 : w.cell? ⟨p, 2, none⟩ = some (.string (sOf t))) (q3 : w.cell? ⟨p, 3, none⟩ = some (.slice La (nL t) Lc)) (q4 : w.cell? ⟨p, 4, none⟩ = some (.slice Ka (nK t) Kc)) :
    Calls Tryz.prog 63 #[.pointer (some ⟨p, 0, none⟩)] w (PlPost Tb wB gs w) := by
  subst hv
  have HC := hid (h _ wB w ha hk hb0 hT)
  clear ha hk hb0 hT h
  go_enter Tryz.func63, Tryz.ntmps63
  go_wp2_with fail
  refine HC.out.mono ?_
  rintro e w3 ⟨b3, A, c, rfl, hs⟩
  have HB3 := hid b3
  have HS := hid hs
  clear b3 hs
  go_wp2_with fail
  go_ret
  exact ⟨HB3.out, _, _, rfl, HS.out⟩
set_option maxHeartbeats 4000000 in
set_option maxRecDepth 100000 in
theorem pParse_any {Tb : World → Prop} (hL : Lies Tb) (t : T) (gs : List StgF) (h : PpSaid Tb t gs) (v : Value) (wB w : World) (ha : At wB 13 v t) (hk : okA t) (hb0 : Below wB.heap.size wB w) (hT : Tb w) :
    Calls Tryz.prog 40 #[v] w fun e w' => Below w.heap.size w w' ∧ ∃ A c, e = .returned (.tuple #[.slice A gs.length c, .int .i64 0]) ∧ Sat wB w' (newB w w') (fun x => StagesOk Tb x (.slice A gs.length c) gs) := by
  have hmf : ∀ (fn : Fn) (first cap : Array Value) (w : World), (Instr.makeFunc fn first cap).run Tryz.prog w = .ok (.func fn first cap) w := fun _ _ _ _ => rfl
  obtain ⟨g1, La, Ka, Lc, Kc, hg1, hv, _, _, _⟩ := ha.open
  have HB1 : Hid (Below w.heap.size w (w.alloc (.cells #[.int .i64 (kindOf t), .int .i64 (nOf t), .string (sOf t), .slice La (nL t) Lc, .slice Ka (nK t) Kc] 36))) := (Below.refl _ _).alloc (Nat.le_refl _) _
  have HE := hid (boxErr_facts (w.alloc (.cells #[.int .i64 (kindOf t), .int .i64 (nOf t), .string (sOf t), .slice La (nL t) Lc, .slice Ka (nK t) Kc] 36)))
  have hbb : Below (w.heap.size + 1) (w.alloc (.cells #[.int .i64 (kindOf t), .int .i64 (nOf t), .string (sOf t), .slice La (nL t) Lc, .slice Ka (nK t) Kc] 36)) (boxErr (w.alloc (.cells #[.int .i64 (kindOf t), .int .i64 (nOf t), .string (sOf t), .slice La (nL t) Lc, .slice Ka (nK t) Kc] 36))) := HE.out.2.2.2.mono (by simp)
  obtain ⟨q0, q1, q2, q3, q4, hz, hbw⟩ := box_facts hbb
  have HI := hid (pParseIn_any t gs h v wB (boxErr (w.alloc (.cells #[.int .i64 (kindOf t), .int .i64 (nOf t), .string (sOf t), .slice La (nL t) Lc, .slice Ka (nK t) Kc] 36))) ha hk (hb0.trans (hbw.mono hb0.size)) (hL w hT _ _ hT hbw) w.heap.size La Ka Lc Kc hv q0 q1 q2 q3 q4)
  have HA := hid (attemptP 63 (fun _ _ => rfl) (fun v w' => ∃ A c, v = .slice A gs.length c ∧ Sat wB w' (newB (boxErr (w.alloc (.cells #[.int .i64 (kindOf t), .int .i64 (nOf t), .string (sOf t), .slice La (nL t) Lc, .slice Ka (nK t) Kc] 36))) w') (fun x => StagesOk Tb x (.slice A gs.length c) gs)) (.pointer (some ⟨w.heap.size, 0, none⟩)) _ (HI.out.mono fun e w' hh => by
    obtain ⟨h1, A, c, h2, h3⟩ := hh
    exact ⟨h1, _, h2, A, c, rfl, h3⟩))
  subst hv
  clear ha hk hb0 hT h hL hbb q0 q1 q2 q3 q4 hz hbw HI hg1 HE
  go_enter Tryz.func40, Tryz.ntmps40
  go_wp2_with fail
  refine HA.out.mono ?_
  rintro e w3 ⟨b3, x, w2, rfl, ⟨A, c, rfl, hs⟩, hab, hb2⟩
  have HB3 := hid (HB1.out.trans (b3.mono HB1.out.size))
  have HS := hid (hs.attempt (w := w) (by simp) hab)
  clear b3 hs hab hb2 HA
  go_wp2_with fail
  refine bodyPost_ret (v := .tuple #[.slice A gs.length c, .int .i64 0]) (by simp [results, Tryz.results40, go_sem, *]) rfl ?_
  exact ⟨HB3.out, _, _, rfl, HS.out⟩
end Go.Proofs.YtknakfpciccoaabGreatDoor
/- The groups' rows, cell by cell. -/
namespace Go.Proofs.YtknakfpciccoaabGreatDoor
open Go.RowKit

theorem GrI.cells5 {w0 : World} {c : Nat} {NA : Option Addr} {nc : Nat} {bv ev : Value} {ops : List ByteArray} {L : Nat → Lab} {gv : Value} {xs : List Value} {rb : Nat → Nat} {ys : Nat → List Value} {st : List (T × List T)} {w : World} (h : GrI w0 c NA nc bv ev ops L gv xs rb ys st w) {i j : Nat} (hi : i < st.length) (hj : j < ops.length) {u0 u1 u2 u3 u4 : Value} (hf : fv (ys i) (j + 1) = .agg #[u0, u1, u2, u3, u4]) {w6 : World} (hb : w6.heap[rb i]? = w.heap[rb i]?) :
    (w6.cell? ⟨rb i, 5 + j * 5, none⟩ = some u0 ∧ w6.cell? ⟨rb i, 5 + j * 5 + 1, none⟩ = some u1 ∧ w6.cell? ⟨rb i, 5 + j * 5 + 2, none⟩ = some u2 ∧ w6.cell? ⟨rb i, 5 + j * 5 + 3, none⟩ = some u3 ∧ w6.cell? ⟨rb i, 5 + j * 5 + 4, none⟩ = some u4) ∧ ∀ o, w6.frozen? ⟨rb i, o, none⟩ = false := by
  have hr := h.row i hi
  have hy : (ys i).length = (ops.length + 1) * 5 := hr.1
  unfold fv at hf
  simp only [Value.agg.injEq, Array.mk.injEq, List.cons.injEq, and_true] at hf
  have hc : ∀ r, r < 5 → w6.cell? ⟨rb i, 5 + j * 5 + r, none⟩ = some (cx (ys i) ((j + 1) * 5 + r)) := fun r hr' => by
    rw [cell_of hb, show 5 + j * 5 + r = (j + 1) * 5 + r by omega]
    exact row_cell hr (cx_some (by omega))
  refine ⟨⟨?_, ?_, ?_, ?_, ?_⟩, fun o => (World.frozen?_of_block (a := ⟨rb i, o, none⟩) hb).trans (hr.frozenAt o)⟩
  · rw [← hf.1]; exact hc 0 (by omega)
  · rw [← hf.2.1]; exact hc 1 (by omega)
  · rw [← hf.2.2.1]; exact hc 2 (by omega)
  · rw [← hf.2.2.2.1]; exact hc 3 (by omega)
  · rw [← hf.2.2.2.2]; exact hc 4 (by omega)
theorem below_put5o {lo : Nat} {w W : World} (h : Below lo w W) {g : Nat} (hg : lo ≤ g) (o : Nat) (u0 u1 u2 u3 u4 : Value) : Below lo w (put5o W g o u0 u1 u2 u3 u4) := by
  obtain ⟨r1, r2, r3, r4⟩ := put5o_rest W g o u0 u1 u2 u3 u4
  exact ⟨r2.trans h.os, r3.trans h.tape, r4.trans h.output, by rw [r1]; exact h.size, fun b hb => (put5o_other W (by omega) o u0 u1 u2 u3 u4).trans (h.block b hb)⟩
theorem rowE_getD (doc : T) : ∀ (es : List (ByteArray × (T → Int ⊕ T))) (k : Nat) (a a' : List T), rowE doc es k a = .inr a' → ∀ j, k + es.length ≤ j → a'.getD j zeroT = a.getD j zeroT
  | [], k, a, a', h, j, hj => by
    simp only [rowE, Sum.inr.injEq] at h
    rw [h]
  | e0 :: es, k, a, a', h, j, hj => by
    rw [rowE] at h
    rw [List.length_cons] at hj
    cases h0 : accS e0.2 e0.1 (a.getD k zeroT) doc with
    | inl y => rw [h0] at h; cases h
    | inr t =>
      rw [h0] at h
      rw [rowE_getD doc es (k + 1) (a.set k t) a' h j (by omega), List.getD_eq_getElem?_getD, List.getElem?_set_ne (by omega), ← List.getD_eq_getElem?_getD]
theorem gth_nL {n N : Nat} {P : Nat → Prop} {st : List (T × List T)} (b : T) (h : ∀ i, (h : i < st.length) → ∀ j, P j → nL (st[i].2.getD j zeroT) ≤ N) (j : Nat) (hP : P j) : nL (((gthS n st b)[gthI st b]'(gth_lt _ _ _)).2.getD j zeroT) ≤ N := by
  have hle : gthI st b ≤ st.length := List.findIdx_le_length
  by_cases e : gthI st b < st.length
  · have e2 : gthS n st b = st := by unfold gthS; rw [if_pos e]
    simp only [e2]
    exact h _ e j hP
  · have e2 : gthS n st b = st ++ [(b, List.replicate n zeroT)] := by unfold gthS; rw [if_neg e]
    simp only [e2]
    rw [List.getElem_append_right (by omega)]
    simp only [show gthI st b - st.length = 0 by omega, List.getElem_cons_zero]
    have : (List.replicate n zeroT).getD j zeroT = zeroT := by
      rw [List.getD_eq_getElem?_getD, List.getElem?_replicate]
      by_cases hj : j < n
      · rw [if_pos hj]; rfl
      · rw [if_neg hj]; rfl
    rw [this]
    exact Nat.zero_le _
theorem ag_fin {w0 : World} {c : Nat} {NA : Option Addr} {nc : Nat} {bv ev : Value} {ops : List ByteArray} {L : Nat → Lab} {gv : Value} {xs : List Value} {rb : Nat → Nat} {ys : Nat → List Value} {st : List (T × List T)} {W : World} (hG : GrI w0 c NA nc bv ev ops L gv xs rb ys st W) {i j : Nat} (hi : i < st.length) (hj : j < ops.length) {w : World} {d : Nat} (hbW : Below w0.heap.size w W) {q0 q1 q2 q3 q4 : Value} (hdoc : BoxAt d q0 q1 q2 q3 q4 W) (hLd : L d = .no) {r : Int ⊕ T} {e : Ending} {w6 : World} (h : AgPost w0 c NA nc bv ev ops L gv xs rb st i j r W e w6) {s0 s1 s2 s3 s4 : Value} (hf : fv (ys i) (j + 1) = .agg #[s0, s1, s2, s3, s4]) :
    ∃ (vk vn : Int) (vs : ByteArray) (VA : Option Addr) (vl VB : Nat) (VC : Option Addr) (vm VD : Nat) (er : Int), e = .returned (.tuple #[.agg #[.int .i64 vk, .int .i64 vn, .string vs, .slice VA vl VB, .slice VC vm VD], .int .i64 er]) ∧ (w6.cell? ⟨rb i, 5 + j * 5, none⟩ = some s0 ∧ w6.cell? ⟨rb i, 5 + j * 5 + 1, none⟩ = some s1 ∧ w6.cell? ⟨rb i, 5 + j * 5 + 2, none⟩ = some s2 ∧ w6.cell? ⟨rb i, 5 + j * 5 + 3, none⟩ = some s3 ∧ w6.cell? ⟨rb i, 5 + j * 5 + 4, none⟩ = some s4) ∧ (∀ o, w6.frozen? ⟨rb i, o, none⟩ = false) ∧ Hid (Below w0.heap.size w (put5o w6 (rb i) (5 + j * 5) (.int .i64 vk) (.int .i64 vn) (.string vs) (.slice VA vl VB) (.slice VC vm VD)) ∧ BoxAt d q0 q1 q2 q3 q4 (put5o w6 (rb i) (5 + j * 5) (.int .i64 vk) (.int .i64 vn) (.string vs) (.slice VA vl VB) (.slice VC vm VD))) ∧ Hid ((r = .inl er ∧ er ≠ 0) ∨ ∃ t, r = .inr t ∧ er = 0 ∧ ∃ L' ys', GrI w0 c NA nc bv ev ops L' gv xs rb ys' (stPut st i j t) (put5o w6 (rb i) (5 + j * 5) (.int .i64 vk) (.int .i64 vn) (.string vs) (.slice VA vl VB) (.slice VC vm VD)) ∧ L' d = .no) := by
  obtain ⟨hb, hfr, vk, vn, vs, VA, vl, VB, VC, vm, VD, er, rfl, hc⟩ := h.flat
  have hr := h.2.1
  have hrl := hG.rl i hi
  have hlow := hG.low (rb i) (by rw [hrl]; intro e; cases e)
  have hblk : w6.heap[rb i]? = W.heap[rb i]? := hfr _ hlow.2 (by rw [hrl]; intro e; cases e)
  obtain ⟨k1, k2⟩ := hG.cells5 hi hj hf hblk
  refine ⟨vk, vn, vs, VA, vl, VB, VC, vm, VD, er, rfl, k1, k2, ⟨below_put5o (hbW.trans hb) hlow.1 _ _ _ _ _ _, ?_⟩, ?_⟩
  · refine hdoc.move ?_ ((put5o_other w6 (fun e => ?_) _ _ _ _ _ _).trans (hfr d hdoc.lt (by rw [hLd]; intro e; cases e)))
    · rw [(put5o_rest w6 (rb i) (5 + j * 5) _ _ _ _ _).1]
      exact hb.size
    · rw [e, hrl] at hLd
      cases hLd
  · rcases hc with hc | ⟨t, h1, h2, L', ys', h3, h4⟩
    · exact .inl hc
    · refine .inr ⟨t, h1, h2, L', ys', ?_, h4 d hdoc.lt hLd⟩
      rw [show 5 + j * 5 = (j + 1) * 5 by omega]
      exact h3
end Go.Proofs.YtknakfpciccoaabGreatDoor
