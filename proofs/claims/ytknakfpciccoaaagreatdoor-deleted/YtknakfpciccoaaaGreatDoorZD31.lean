import Derived.Test.YtknakfpciccoaaaGreatDoorZD30
/- Delete, Drop, and the store behind them. -/
namespace Go.Proofs.YtknakfpciccoaaaGreatDoor
open Go.RowKit Go.Maps Go.WideMaps

theorem grown_lo {B : Nat} {w w' : World} {g : Option Nat} (h : w.grownBy w' g) (hB : B ≤ w.heap.size) (hg : ∀ b, g = some b → B ≤ b) : Below B w w' :=
  ⟨h.os, h.tape, h.output, h.size, fun b hb => h.block b (by omega) (fun e => by have := hg b e.symm; omega)⟩
def DePost (w : World) (x s : ByteArray) (Dm : DataW Unit) (L : Nat → Nat) (lf : Nat → List T) (vf : Nat → Value) (e : Ending) (w' : World) : Prop :=
  (Below w.heap.size w w' ∧ eJ s ≠ 0 ∧ e = .returned (.tuple #[.int .i64 0, .int .i64 (eJ s)])) ∨
  (Below w.heap.size w w' ∧ eJ s = 0 ∧ okFil 16 (tJ s) = false ∧ e = .returned (.tuple #[.int .i64 0, .int .i64 8])) ∨
  (Below w.heap.size w w' ∧ eJ s = 0 ∧ okFil 16 (tJ s) = true ∧ atK Dm x = .nil ∧ e = .returned (.tuple #[.int .i64 0, .int .i64 10])) ∨
  (eJ s = 0 ∧ okFil 16 (tJ s) = true ∧ ∃ c : Nat, atK Dm x = .lit (.int .i64 c) ∧ ∃ w1 n, Below w.heap.size w w1 ∧ e = .returned (.tuple #[.int .i64 n, .int .i64 0]) ∧ RemPost (evF 16 (tJ s)) (fun b => L b = 1) 13 c (vf c) (lf c) w1 (.returned (.int .i64 n)) w')
set_option maxHeartbeats 4000000 in
set_option maxRecDepth 100000 in
theorem deleteS_any {Tb : World → Prop} (hA : StoreSaid Tb) (L : Nat → Nat) (B p m n : Nat) (Dm : DataW Unit) (lf : Nat → List T) (vf : Nat → Value) (xf : Nat → List Value) (x s : ByteArray) (w : World) (hs : s.size ≤ 140737488355328) (hx : x.size ≤ 140737488355328) (hst : StI L w p m n Dm lf vf xf) (hB : ∀ b, L b ≠ 0 → B ≤ b) (hn : ∀ c : Nat, (lf c).length ≤ 1000000) (hT : ∀ w', Below B w w' → Tb w') :
    Calls Tryz.prog 31 #[.pointer (some ⟨p, 0, none⟩), .string x, .string s] w (DePost w x s Dm L lf vf) := by
  have HC := hid (search_any hA.dec hA.int hA.split hA.lies p m n Dm x s w hs hx hst.sto (hT w (Below.refl _ _)))
  have HRm : Hid (∀ (c : Nat) (fv' : Value) (w1 : World), atK Dm x = .lit (.int .i64 (c : Nat)) → Below w.heap.size w w1 → FilS w w1 fv' (tJ s) → Calls Tryz.prog 66 #[.pointer (some ⟨c, 0, none⟩), fv'] w1 (RemPost (evF 16 (tJ s)) (fun b => L b = 1) 13 c (vf c) (lf c) w1)) := by
    intro c fv' w1 hc b1 hfs
    have hco := (hst.keep b1).col x c hc
    have hob : ∀ b, (vf c).ownBlock = some b → b < w.heap.size ∧ B ≤ b ∧ L b = 5 + c := fun b e => ⟨hst.low b (by rw [hco.rowl b e]; omega), hB b (by rw [hco.rowl b e]; omega), hco.rowl b e⟩
    have hBw : B ≤ w.heap.size := Nat.le_trans (hB p (by rw [hst.lp]; omega)) (Nat.le_of_lt hst.sto.low)
    have s1 := b1.size
    refine remove_any (evF 16 (tJ s)) fv' 13 c (fun b => L b = 1) (vf c) (lf c) (xf c) w1 hco.cell hco.free ((hst.keep b1).low c (by rw [hco.lab]; omega)) (fun e => by have := (hob c e).2.2; have := hco.lab; omega) hco.row (hn c) (fun b hb => ⟨fun e => by have := (hob b e).2.2; omega, fun e => by have := hco.lab; subst e; omega⟩) hco.at_ ?_
    intro k hk wr v hG ha
    have hbl : Below B w1 wr := grown_lo hG (by omega) (fun b e => (hob b e).2.1)
    exact fil_any hA.atoi hA.itoa hA.lies 16 fv' (tJ s) 13 v _ wr (hfs wr hG.size (fun b h1 h2 => hG.block b h2 (fun e => by have := (hob b e.symm).1; omega))) ha (by omega) (hco.doc k hk).1 (hT wr ((b1.mono hBw).trans hbl))
  clear hst hT hs hx hA hB hn
  go_enter Tryz.func31, Tryz.ntmps31
  go_wp2_with fail
  refine HC.out.mono ?_
  rintro e w1 ⟨b1, ⟨h1, rfl⟩ | ⟨h1, h2, rfl⟩ | ⟨h1, h2, h3, rfl⟩ | ⟨h1, h2, c, h3, fv, rfl, h4, h5⟩⟩
  · have HB := hid b1
    have H1 := hid h1
    have ez : (eJ s == 0) = false := by simpa using h1
    clear b1 h1 HC
    go_wp2_with fail
    refine bodyPost_ret (v := .tuple #[.int .i64 0, .int .i64 (eJ s)]) (by simp [results, Tryz.results31, go_sem, *]) rfl ?_
    exact .inl ⟨HB.out, H1.out, rfl⟩
  · have HB := hid b1
    have H1 := hid (And.intro h1 h2)
    clear b1 h1 h2 HC
    go_wp2_with fail
    refine bodyPost_ret (v := .tuple #[.int .i64 0, .int .i64 8]) (by simp [results, Tryz.results31, go_sem, *]) rfl ?_
    exact .inr (.inl ⟨HB.out, H1.out.1, H1.out.2, rfl⟩)
  · have HB := hid b1
    have H1 := hid (And.intro h1 (And.intro h2 h3))
    clear b1 h1 h2 h3 HC
    go_wp2_with fail
    refine bodyPost_ret (v := .tuple #[.int .i64 0, .int .i64 10]) (by simp [results, Tryz.results31, go_sem, *]) rfl ?_
    exact .inr (.inr (.inl ⟨HB.out, H1.out.1, H1.out.2.1, H1.out.2.2, rfl⟩))
  · have HB := hid b1
    have H1 := hid (And.intro h1 (And.intro h2 h3))
    have HR := hid (HRm.out c fv w1 h3 b1 h5)
    clear b1 h1 h2 h3 h4 h5 HC HRm
    go_wp2_with fail
    refine HR.out.mono ?_
    intro e w2 hr
    obtain ⟨nn, hnn⟩ : ∃ nn : Int, ((lf c).length : Int) - (((lf c).filter fun t => !(evF 16 (tJ s) t)).length : Int) = nn := ⟨_, rfl⟩
    have he := hr.1
    rw [hnn] at he
    subst he
    have HR2 := hid hr
    clear hr HR hnn
    go_wp2_with fail
    refine bodyPost_ret (v := .tuple #[.int .i64 nn, .int .i64 0]) (by simp [results, Tryz.results31, go_sem, *]) rfl ?_
    exact .inr (.inr (.inr ⟨H1.out.1, H1.out.2.1, c, H1.out.2.2, w1, nn, HB.out, rfl, HR2.out⟩))
/-- Documents are taken away. -/
theorem StI.rem {L : Nat → Nat} {w w1 w' : World} {p m n : Nat} {D : DataW Unit} {lf : Nat → List T} {vf : Nat → Value} {xf : Nat → List Value} (h : StI L w p m n D lf vf xf) {x : ByteArray} {c : Nat} (hx : atK D x = .lit (.int .i64 (c : Nat))) (hb : Below w.heap.size w w1) {q : T → Bool} {e : Ending} (hr : RemPost q (fun b => L b = 1) 13 c (vf c) (lf c) w1 e w') :
    ∃ v' ys, StI L w' p m n D (upd lf c ((lf c).filter fun t => !(q t))) (upd vf c v') (upd xf c ys) ∧ But2 c (vf c).ownBlock w1 w' := by
  obtain ⟨_, hB, v', ys, q0, f0, hob, hO, hat⟩ := hr
  have hc := h.col x c hx
  have s1 := hb.size
  have s2 := hB.size
  have old : ∀ b, L b ≠ 0 → L b ≠ 5 + c → b ≠ c → w'.heap[b]? = w.heap[b]? := fun b h0 h1 h2 => (hB.block b (by have := h.low b h0; omega) h2 (fun e => h1 (hc.rowl b e.symm))).trans (hb.block b (h.low b h0))
  refine ⟨v', ys, ⟨?_, h.lp, h.lm, fun b hl => by have := h.low b hl; omega, fun y c' hy => ?_⟩, hB⟩
  · exact h.sto.move (by omega) (old p (by rw [h.lp]; omega) (by rw [h.lp]; omega) (fun e => by have := h.lp; have := hc.lab; subst e; omega)) (old m (by rw [h.lm]; omega) (by rw [h.lm]; omega) (fun e => by have := h.lm; have := hc.lab; subst e; omega))
  · by_cases ec : c' = c
    · subst ec
      rw [upd_same, upd_same, upd_same]
      refine ⟨hc.lab, q0, f0, hO, fun b e => hc.rowl b (by rw [← hob]; exact e), hat, fun i hi => ?_⟩
      have hm := List.getElem_mem hi
      obtain ⟨hm1, _⟩ := List.mem_filter.1 hm
      obtain ⟨k, hk, e⟩ := List.getElem_of_mem hm1
      rw [← e]
      exact hc.doc k hk
    · rw [upd_other _ _ ec, upd_other _ _ ec, upd_other _ _ ec]
      refine (h.col y c' hy).move (by omega) fun b hl => ⟨rfl, old b (by omega) (by omega) (fun e2 => by have := hc.lab; subst e2; omega)⟩
/-- .. all of it below the block U, too. -/
def StU (B U : Nat) (w : World) (p n : Nat) (S : ByteArray → Option (List T)) : Prop :=
  ∃ L m D lf vf xf, StI L w p m n D lf vf xf ∧ (∀ b, L b ≠ 0 → B ≤ b ∧ b < U) ∧ (∀ x y (c : Nat), atK D x = .lit (.int .i64 c) → atK D y = .lit (.int .i64 c) → x = y) ∧ ∀ x, (S x = none ∧ atK D x = .nil) ∨ ∃ c : Nat, atK D x = .lit (.int .i64 c) ∧ S x = some (lf c)
theorem StP.up {B : Nat} {w : World} {p n : Nat} {S : ByteArray → Option (List T)} (h : StP B w p n S) : StU B w.heap.size w p n S := by
  obtain ⟨L, m, D, lf, vf, xf, h1, h2, h3⟩ := h
  exact ⟨L, m, D, lf, vf, xf, h1, fun b hb => ⟨h2 b hb, h1.low b hb⟩, h3⟩
theorem StU.st {B U : Nat} {w : World} {p n : Nat} {S : ByteArray → Option (List T)} (h : StU B U w p n S) : StP B w p n S := by
  obtain ⟨L, m, D, lf, vf, xf, h1, h2, h3⟩ := h
  exact ⟨L, m, D, lf, vf, xf, h1, fun b hb => (h2 b hb).1, h3⟩
theorem StU.keep {B U : Nat} {w w' : World} {p n : Nat} {S : ByteArray → Option (List T)} (h : StU B U w p n S) (hb : Below w.heap.size w w') : StU B U w' p n S := by
  obtain ⟨L, m, D, lf, vf, xf, h1, h2⟩ := h
  exact ⟨L, m, D, lf, vf, xf, h1.keep hb, h2⟩
theorem delete_su {Tb : World → Prop} (hA : StoreSaid Tb) {B U : Nat} {w : World} {p n : Nat} {S : ByteArray → Option (List T)} (h : StU B U w p n S) (x s : ByteArray) (l : List T) (hx : x.size ≤ 140737488355328) (hs : s.size ≤ 140737488355328) (hS : S x = some l) (hl : ∀ y k, S y = some k → k.length ≤ 1000000) (he : eJ s = 0) (hk : okFil 16 (tJ s) = true) (hT : ∀ w', Below B w w' → Tb w') :
    Calls Tryz.prog 31 #[.pointer (some ⟨p, 0, none⟩), .string x, .string s] w fun e w' => e = .returned (.tuple #[.int .i64 ((l.length : Int) - ((l.filter fun t => !(evF 16 (tJ s) t)).length : Int)), .int .i64 0]) ∧ Below B w w' ∧ (∀ b, U ≤ b → b < w.heap.size → w'.heap[b]? = w.heap[b]?) ∧ StU B U w' p n (setS S x (some (l.filter fun t => !(evF 16 (tJ s) t)))) := by
  obtain ⟨L, m, D, lf, vf, xf, h1, h2, h3, h4⟩ := h
  obtain ⟨c, hc, hlc⟩ : ∃ c : Nat, atK D x = .lit (.int .i64 c) ∧ lf c = l := by
    rcases h4 x with ⟨h, _⟩ | ⟨c, hc, h⟩
    · rw [hS] at h; cases h
    · rw [hS] at h; exact ⟨c, hc, (Option.some.inj h).symm⟩
  -- collections that no name leads to are of no account
  have h1' : StI L w p m n D (fun c => if (lf c).length ≤ 1000000 then lf c else []) vf xf := by
    refine ⟨h1.sto, h1.lp, h1.lm, h1.low, fun y c' hy => ?_⟩
    have := h1.col y c' hy
    have hle : (lf c').length ≤ 1000000 := by
      rcases h4 y with ⟨_, h⟩ | ⟨c2, hc2, h⟩
      · rw [hy] at h; cases h
      · rw [hy] at hc2
        obtain rfl := lit_inj hc2
        exact hl y _ h
    rw [if_pos hle]
    exact this
  have hlc' : (fun c => if (lf c).length ≤ 1000000 then lf c else []) c = l := by
    show (if (lf c).length ≤ 1000000 then lf c else []) = l
    rw [hlc, if_pos (hl x l hS)]
  refine (deleteS_any hA L B p m n D _ vf xf x s w hs hx h1' (fun b hb => (h2 b hb).1) (fun c => ?_) hT).mono ?_
  · show (if (lf c).length ≤ 1000000 then lf c else []).length ≤ 1000000
    split
    · assumption
    · simp
  · rintro e w' (⟨_, h5, _⟩ | ⟨_, _, h5, _⟩ | ⟨_, _, _, h5, _⟩ | ⟨_, _, c1, hc1, w1, nn, b1, rfl, hr⟩)
    · exact absurd he h5
    · rw [hk] at h5; cases h5
    · rw [hc] at h5; cases h5
    · rw [hc] at hc1
      obtain rfl := lit_inj hc1
      rw [hlc'] at hr
      have hr' : RemPost (evF 16 (tJ s)) (fun b => L b = 1) 13 c (vf c) (lf c) w1 (.returned (.int .i64 nn)) w' := by rw [hlc]; exact hr
      obtain ⟨v', ys, hst, hB⟩ := h1.rem hc b1 hr'
      have hco := h1.col x c hc
      have hcB := h2 c (by rw [hco.lab]; omega)
      have hcl := h1.low c (by rw [hco.lab]; omega)
      have s1 := b1.size
      have en : nn = (l.length : Int) - ((l.filter fun t => !(evF 16 (tJ s) t)).length : Int) := by
        have := hr.1
        simpa using this
      refine ⟨by rw [en], (b1.mono (by omega)).trans (hB.below (by omega) hcB.1 (fun b e => (h2 b (by rw [hco.rowl b e]; omega)).1)), (fun b hU hb => (hB.block b (by omega) (by omega) (fun e => by have := (h2 b (by rw [hco.rowl b e.symm]; omega)).2; omega)).trans (b1.block b hb)), L, m, D, _, _, _, hst, h2, h3, fun y => ?_⟩
      by_cases ey : y = x
      · subst ey
        exact .inr ⟨c, hc, by rw [setS_same, upd_same, hlc]⟩
      · rw [setS_other _ _ ey]
        rcases h4 y with h | ⟨c1, hy, hs1⟩
        · exact .inl h
        · refine .inr ⟨c1, hy, ?_⟩
          rw [upd_other _ _ (show c1 ≠ c from fun e => ey (h3 y x c (by rw [← e]; exact hy) hc))]
          exact hs1
end Go.Proofs.YtknakfpciccoaaaGreatDoor
/- Drop, and the store behind it. -/
namespace Go.Proofs.YtknakfpciccoaaaGreatDoor
open Go.RowKit Go.Maps Go.WideMaps

theorem atK_del_same (D : DataW Unit) (x : ByteArray) : atK (D.del (keyN x)) x = .nil := atKey_del_same .nil
theorem atK_del_other (D : DataW Unit) {x y : ByteArray} (h : y ≠ x) : atK (D.del (keyN x)) y = atK D y := atKey_del_other (keyN_ne h) .nil
def DrPost (w : World) (p m n : Nat) (D : DataW Unit) (x : ByteArray) (e : Ending) (w' : World) : Prop :=
  (atK D x = .nil ∧ e = .returned (.int .i64 10) ∧ w' = w) ∨ ((∃ c : Nat, atK D x = .lit (.int .i64 c)) ∧ e = .returned (.int .i64 0) ∧ StoAt w' p m n (D.del (keyN x)) ∧ But2 m none w w')
theorem drop_fin {w w' : World} {p m n : Nat} {D : DataW Unit} {x : ByteArray} (h : StoAt w p m n D) (hpm : p ≠ m) (ho : w'.ownsMap Tryz.prog 9 refR m n (D.del (keyN x))) (ht : w.mapTurned w' m) : StoAt w' p m n (D.del (keyN x)) ∧ But2 m none w w' := by
  obtain ⟨es, clock, es', clock', hb, rfl⟩ := ht
  have hoth : ∀ b, b ≠ m → (ChangeMaps.setBlock w m (.map es' clock')).heap[b]? = w.heap[b]? := fun b hb => by
    show (w.heap.setIfInBounds m _)[b]? = _
    rw [Array.getElem?_setIfInBounds_ne (Ne.symm hb)]
  have hsz : (ChangeMaps.setBlock w m (.map es' clock')).heap.size = w.heap.size := by
    show (w.heap.setIfInBounds m _).size = _
    rw [Array.size_setIfInBounds]
  exact ⟨⟨(cell_of (hoth p hpm) 0).trans h.cell, by rw [hsz]; exact h.low, ho⟩, ⟨rfl, rfl, rfl, by rw [hsz]; exact Nat.le_refl _, fun b _ h1 _ => hoth b h1⟩⟩
set_option maxHeartbeats 4000000 in
set_option maxRecDepth 100000 in
theorem drop_any (p m n : Nat) (D : DataW Unit) (x : ByteArray) (w : World) (hx : x.size ≤ 140737488355328) (hst : StoAt w p m n D) (hpm : p ≠ m) :
    Calls Tryz.prog 32 #[.pointer (some ⟨p, 0, none⟩), .string x] w (DrPost w p m n D x) := by
  have c0 := hst.cell
  rcases hst.look x hx with ⟨hrun, hat⟩ | ⟨c, hrun, hat⟩
  · have HAt := hid hat
    clear hat hst hpm
    go_enter Tryz.func32, Tryz.ntmps32
    go_wp2_with fail
    go_ret
    exact .inl ⟨HAt.out, rfl, rfl⟩
  · have HAt := hid hat
    obtain ⟨w', hdel, ho, ht⟩ := hst.own.drop law9 Tryz.underlying100 (keyOf_string_mk Tryz.underlying9 (s := x) (by unfold maxLen; omega)) 0
    have HF := hid (drop_fin hst hpm ho ht)
    clear hat hst hpm ho ht
    go_enter Tryz.func32, Tryz.ntmps32
    go_wp2_with fail
    go_ret
    exact .inr ⟨⟨c, HAt.out⟩, rfl, HF.out⟩
/-- A collection is taken away. -/
theorem StI.drop {L : Nat → Nat} {w w' : World} {p m n : Nat} {D : DataW Unit} {lf : Nat → List T} {vf : Nat → Value} {xf : Nat → List Value} (h : StI L w p m n D lf vf xf) {x : ByteArray} (hs : StoAt w' p m n (D.del (keyN x))) (hB : But2 m none w w') : StI L w' p m n (D.del (keyN x)) lf vf xf := by
  refine ⟨hs, h.lp, h.lm, fun b hl => Nat.lt_of_lt_of_le (h.low b hl) hB.size, fun y c hy => ?_⟩
  by_cases e : y = x
  · subst e
    rw [atK_del_same] at hy
    cases hy
  · rw [atK_del_other D e] at hy
    refine (h.col y c hy).move hB.size fun b hl => ⟨rfl, hB.block b (h.low b (by omega)) (fun e => by have := h.lm; subst e; omega) (by simp)⟩
theorem drop_su {B U : Nat} {w : World} {p n : Nat} {S : ByteArray → Option (List T)} (h : StU B U w p n S) (x : ByteArray) (l : List T) (hx : x.size ≤ 140737488355328) (hS : S x = some l) :
    Calls Tryz.prog 32 #[.pointer (some ⟨p, 0, none⟩), .string x] w fun e w' => e = .returned (.int .i64 0) ∧ Below B w w' ∧ (∀ b, U ≤ b → b < w.heap.size → w'.heap[b]? = w.heap[b]?) ∧ StU B U w' p n (setS S x none) := by
  obtain ⟨L, m, D, lf, vf, xf, h1, h2, h3, h4⟩ := h
  have hpm : p ≠ m := fun e => by have := h1.lp; have := h1.lm; subst e; omega
  refine (drop_any p m n D x w hx h1.sto hpm).mono ?_
  rintro e w' (⟨h5, _⟩ | ⟨_, rfl, hs, hB⟩)
  · rcases h4 x with ⟨h, _⟩ | ⟨c, hc, _⟩
    · rw [hS] at h; cases h
    · rw [hc] at h5; cases h5
  · have hmB := h2 m (by rw [h1.lm]; omega)
    have hml := h1.low m (by rw [h1.lm]; omega)
    refine ⟨rfl, hB.below (by omega) hmB.1 (fun b e => by cases e), (fun b hU hb => hB.block b hb (by omega) (by simp)), L, m, _, lf, vf, xf, h1.drop hs hB, h2, fun y z c hy hz => ?_, fun y => ?_⟩
    · by_cases ey : y = x
      · subst ey; rw [atK_del_same] at hy; cases hy
      · by_cases ez : z = x
        · subst ez; rw [atK_del_same] at hz; cases hz
        · rw [atK_del_other D ey] at hy
          rw [atK_del_other D ez] at hz
          exact h3 y z c hy hz
    · by_cases ey : y = x
      · subst ey
        exact .inl ⟨setS_same _ _ _, atK_del_same _ _⟩
      · rw [setS_other _ _ ey, atK_del_other D ey]
        exact h4 y
theorem drop_none {B : Nat} {w : World} {p n : Nat} {S : ByteArray → Option (List T)} (h : StP B w p n S) (x : ByteArray) (hx : x.size ≤ 140737488355328) (hS : S x = none) :
    Calls Tryz.prog 32 #[.pointer (some ⟨p, 0, none⟩), .string x] w fun e w' => e = .returned (.int .i64 10) ∧ w' = w := by
  obtain ⟨L, m, D, lf, vf, xf, h1, h2, h3, h4⟩ := h
  have hpm : p ≠ m := fun e => by have := h1.lp; have := h1.lm; subst e; omega
  refine (drop_any p m n D x w hx h1.sto hpm).mono ?_
  rintro e w' (⟨_, rfl, rfl⟩ | ⟨⟨c, hc⟩, _⟩)
  · exact ⟨rfl, rfl⟩
  · rcases h4 x with ⟨_, h⟩ | ⟨c', _, h⟩
    · rw [hc] at h; cases h
    · rw [hS] at h; cases h
end Go.Proofs.YtknakfpciccoaaaGreatDoor
/- sameTexts of the statements; the walk of Deleted. -/
namespace Go.Proofs.YtknakfpciccoaaaGreatDoor
open Go.RowKit

/-- Texts in a row. -/
def TxAt (w : World) (v : Value) (l : List ByteArray) : Prop := ∃ A c, v = .slice A l.length c ∧ l.length ≤ 1000000 ∧ ∀ i, (h : i < l.length) → ∃ b o, A = some ⟨b, o, none⟩ ∧ b < w.heap.size ∧ w.cell? ⟨b, o + i, none⟩ = some (.string l[i])
theorem TxAt.keep {w w' : World} {v : Value} {l : List ByteArray} (h : TxAt w v l) (hb : Below w.heap.size w w') : TxAt w' v l := by
  obtain ⟨A, c, hv, hn, h⟩ := h
  refine ⟨A, c, hv, hn, fun i hi => ?_⟩
  obtain ⟨b, o, h0, hl, q⟩ := h i hi
  exact ⟨b, o, h0, Nat.lt_of_lt_of_le hl hb.size, (hb.cell (p := ⟨b, _, none⟩) hl).trans q⟩
theorem TxAt.of_row {w : World} {lo : Nat} {A : Option Addr} {c : Nat} {l : List T} (h : w.ownsRow lo 9 1 (.slice A l.length c) l.length (l.map fun t => .string (prT t))) (hn : l.length ≤ 1000000) : TxAt w (.slice A l.length c) (l.map prT) := by
  refine ⟨A, c, by rw [List.length_map], by rw [List.length_map]; exact hn, fun i hi => ?_⟩
  rw [List.length_map] at hi
  rcases h.2 with ⟨h', h0⟩ | ⟨g', cap', cur, h', _⟩
  · omega
  · simp only [Value.slice.injEq, true_and] at h'
    obtain ⟨rfl, rfl⟩ := h'
    refine ⟨g', 0, rfl, (h.lt g' rfl).2, ?_⟩
    rw [Nat.zero_add, h.cellAt i (by omega)]
    simp [hi]
set_option maxHeartbeats 4000000 in
set_option maxRecDepth 100000 in
theorem sameTexts_eq (l : List ByteArray) (va vb : Value) (w : World) (ha : TxAt w va l) (hb : TxAt w vb l) :
    Calls Tryz.prog 33 #[va, vb] w fun e w' => e = .returned (.bool true) ∧ Below w.heap.size w w' := by
  obtain ⟨A, c, rfl, hn, Ha⟩ := ha
  obtain ⟨B, d, rfl, _, Hb⟩ := hb
  have HA := hid Ha
  have HB := hid Hb
  have Hlen : Hid (∀ k, k < l.length → ∃ h : k < l.length, True) := fun k h => ⟨h, trivial⟩
  obtain ⟨n, hl⟩ : ∃ n, l.length = n := ⟨_, rfl⟩
  have Hl := hid hl
  rw [hl] at hn ⊢
  clear Ha Hb hl
  go_enter Tryz.func33, Tryz.ntmps33
  go_wp2_with fail
  go_loopg [5] n (fun g i wr => ∃ k : Nat, g = n - k ∧ k ≤ n ∧ i = .int .i64 k ∧ Hid (Below w.heap.size w wr))
  case atStart => exact ⟨0, rfl, Nat.zero_le _, rfl, Below.refl _ _⟩
  case round =>
    obtain ⟨k, rfl, hk, rfl, HW⟩ := hrel
    by_cases hlt : k < n
    · have hkl : k < l.length := by rw [Hl.out]; exact hlt
      obtain ⟨ba, oa, rfl, hba, p0⟩ := HA.out k hkl
      obtain ⟨bb, ob, rfl, hbb, r0⟩ := HB.out k hkl
      generalize l[k] = s at p0 r0
      have n0 := (HW.out.cell (p := ⟨ba, _, none⟩) hba).trans p0
      have m0 := (HW.out.cell (p := ⟨bb, _, none⟩) hbb).trans r0
      have x3 : (k : Int) < (n : Int) := by omega
      clear p0 r0
      go_wp2_with fail
      go_quiet (fail)
      go_wp2_with fail
      go_roundg (n - (k + 1))
      case rel => exact ⟨k + 1, rfl, by omega, by go_num, below_drewN HW.out _⟩
      case measure => omega
    · have x3 : ¬ (k : Int) < (n : Int) := by omega
      go_wp2_with fail
      go_ret
      exact ⟨rfl, HW.out⟩
end Go.Proofs.YtknakfpciccoaaaGreatDoor
/- The walk of Deleted. -/
namespace Go.Proofs.YtknakfpciccoaaaGreatDoor
open Go.RowKit

/-- Texts in a row, from a block on. -/
def TxB (lo : Nat) (w : World) (v : Value) (l : List ByteArray) : Prop := ∃ A c, v = .slice A l.length c ∧ l.length ≤ 1000000 ∧ ∀ i, (h : i < l.length) → ∃ b o, A = some ⟨b, o, none⟩ ∧ (lo ≤ b ∧ b < w.heap.size) ∧ w.cell? ⟨b, o + i, none⟩ = some (.string l[i])
theorem TxB.at {lo : Nat} {w : World} {v : Value} {l : List ByteArray} (h : TxB lo w v l) : TxAt w v l := by
  obtain ⟨A, c, hv, hn, h⟩ := h
  refine ⟨A, c, hv, hn, fun i hi => ?_⟩
  obtain ⟨b, o, h0, hl, q⟩ := h i hi
  exact ⟨b, o, h0, hl.2, q⟩
theorem TxB.move {lo lo' : Nat} {w w' : World} {v : Value} {l : List ByteArray} (h : TxB lo w v l) (hlo : lo' ≤ lo) (hs : w.heap.size ≤ w'.heap.size) (hb : ∀ b, lo ≤ b → b < w.heap.size → w'.heap[b]? = w.heap[b]?) : TxB lo' w' v l := by
  obtain ⟨A, c, hv, hn, h⟩ := h
  refine ⟨A, c, hv, hn, fun i hi => ?_⟩
  obtain ⟨b, o, h0, hl, q⟩ := h i hi
  exact ⟨b, o, h0, ⟨Nat.le_trans hlo hl.1, Nat.lt_of_lt_of_le hl.2 hs⟩, (cell_of (hb b hl.1 hl.2) _).trans q⟩
theorem TxB.of_row {w : World} {lo k : Nat} {A : Option Addr} {c : Nat} {l : List T} (hk : l.length = k) (h : w.ownsRow lo 9 1 (.slice A k c) k (l.map fun t => .string (prT t))) (hn : l.length ≤ 1000000) : TxB lo w (.slice A k c) (l.map prT) := by
  subst hk
  refine ⟨A, c, by rw [List.length_map], by rw [List.length_map]; exact hn, fun i hi => ?_⟩
  rw [List.length_map] at hi
  rcases h.2 with ⟨h', h0⟩ | ⟨g', cap', cur, h', _⟩
  · omega
  · simp only [Value.slice.injEq, true_and] at h'
    obtain ⟨rfl, rfl⟩ := h'
    refine ⟨g', 0, rfl, h.lt g' rfl, ?_⟩
    rw [Nat.zero_add, h.cellAt i (by omega)]
    simp [hi]
theorem find_tx {Tb : World → Prop} (hA : StoreSaid Tb) {B : Nat} {w : World} {p n : Nat} {S : ByteArray → Option (List T)} (h : StP B w p n S) (x s : ByteArray) (l r : List T) (t : T) (k : Nat) (hx : x.size ≤ 1000) (hs : s.size ≤ 1000) (hS : S x = some l) (hl : l.length ≤ 1000000) (he : eJ s = 0 ∧ tJ s = t) (hk : okFil 16 t = true) (hr : l.filter (evF 16 t) = r) (hrk : r.length = k) (hT : Tb w) :
    Calls Tryz.prog 27 #[.pointer (some ⟨p, 0, none⟩), .string x, .string s] w fun e w' => Below w.heap.size w w' ∧ ∃ A c, e = .returned (.tuple #[.slice A k c, .int .i64 0]) ∧ TxB w.heap.size w' (.slice A k c) (r.map prT) := by
  obtain ⟨h1, rfl⟩ := he
  subst hr
  subst hrk
  refine (find_st hA h x s l (by omega) (by omega) hS hl h1 hk hT).mono ?_
  rintro e w' ⟨hb, A, c, rfl, hO⟩
  exact ⟨hb, A, c, rfl, TxB.of_row rfl hO (Nat.le_trans (List.length_filter_le _ _) hl)⟩
set_option maxHeartbeats 8000000 in
set_option maxRecDepth 100000 in
theorem Deleted_any {Tb : World → Prop} (hA : StoreSaid Tb) (v : Value) (n : Nat) (a b : Int) (w : World) (hv : RawAt w v n) (a0 : -9223372036854775808 ≤ a) (a1 : a ≤ 9223372036854775807) (b0 : -9223372036854775808 ≤ b) (b1 : b ≤ 9223372036854775807) (hT : Tb w) :
    Calls Tryz.prog 9 #[v, .int .i64 a, .int .i64 b] w fun e w' => e = .returned (.bool true) ∧ Below w.heap.size w w' := by
  have HFi := hid (filled_any hA v n w hv hT)
  have HT : Hid (∀ w' : World, Below w.heap.size w w' → Tb w') := fun w' hb => hA.lies w hT w w' hT hb
  have HFa := hid (fun w (ht : Tb w) => filterK_any hA.itoa hA.lies a b w a0 a1 b0 b1 ht)
  have HA := hid hA
  clear hv hT a0 a1 b0 b1 hA
  go_enter Tryz.func9, Tryz.ntmps9
  go_wp2_with fail
  refine HFi.out.mono ?_
  rintro e w1 ⟨p, l, rfl, b1, hdo, hl, hst⟩
  have HB1 := hid b1
  have HU1 := hid hst.up
  have Hl := hid hl
  clear hst hdo hl b1 HFi
  obtain ⟨ln, hln⟩ : ∃ ln, l.length = ln := ⟨_, rfl⟩
  have Hln := hid hln
  rw [hln]
  clear hln
  go_wp2_with fail
  refine (HFa.out _ (HT.out _ HB1.out)).mono ?_
  rintro e w2 ⟨b2, f, tf, rfl, hf⟩
  have HB2 := hid (HB1.out.trans (b2.mono HB1.out.size))
  have HU2 := hid (HU1.out.keep b2)
  have Hs12 := hid b2.size
  have Hf := hid hf
  have hzf := (hf.rep 12 (by omega) (by omega)).size
  clear b2 hf HFa HU1
  obtain ⟨n1, ne1, nz1, nr1⟩ := cat_run ⟨#[123, 34, 36, 110, 111, 114, 34, 58, 91]⟩ f 9 f.size rfl rfl (by omega)
  obtain ⟨n2, ne2, nz2, nr2⟩ := cat_run n1 ⟨#[93, 125]⟩ n1.size 2 rfl rfl (by omega)
  have HNor := hid (fil_nor Hf.out (s' := n2) (by rw [ne2, ne1]; simp only [app_list]; simp))
  have HPf := hid ((Hf.out.rep 12 (by omega) (by omega)).parse (by omega))
  have HZ : Hid (n2.size ≤ 1000 ∧ f.size ≤ 1000) := ⟨by omega, by omega⟩
  have HOk := hid (Hf.out.ok 14)
  have HNOk : Hid (okFil 16 (mkT 6 0 ByteArray.empty [mkT 5 0 ByteArray.empty [tf] []] [opNor]) = true) := by show _ = _; rw [okFil_one]; exact okC_one _ (.inr (.inr rfl)) (Hf.out.ok 13)
  have HEv : Hid (∀ x, evF 16 (mkT 6 0 ByteArray.empty [mkT 5 0 ByteArray.empty [tf] []] [opNor]) x = !(evF 16 tf x)) := fun x => by obtain ⟨q, hq⟩ := Hf.out.ev; rw [evF_one, evC_nor, hq 13, hq 14]
  clear ne1 nz1 ne2 nz2 hzf Hf
  generalize mkT 6 0 ByteArray.empty [mkT 5 0 ByteArray.empty [tf] []] [opNor] = tn at HNor HNOk HEv
  obtain ⟨l', hl'⟩ : ∃ l', l.filter (fun t => !(evF 16 tf t)) = l' := ⟨_, rfl⟩
  have HNl : Hid (l.filter (evF 16 tn) = l') := by
    show _ = _
    rw [← hl']
    exact List.filter_congr fun x _ => HEv.out x
  have HCnt : Hid ((l.filter (evF 16 tf)).length + l'.length = ln) := by
    show _ = _
    rw [← hl', ← Hln.out]
    exact cnt_not _ _ (fun _ => rfl) l
  have HNon : Hid (l'.filter (evF 16 tf) = []) := by
    show _ = _
    rw [← hl', List.filter_filter, List.filter_eq_nil_iff]
    intro x _
    cases evF 16 tf x <;> simp
  have Hl2 := hid hl'
  have Hle : Hid (l'.length ≤ 30) := by show _ ≤ _; rw [← hl']; exact Nat.le_trans (List.length_filter_le _ _) Hl.out
  obtain ⟨m1, hm1⟩ : ∃ m1, (l.filter (evF 16 tf)).length = m1 := ⟨_, rfl⟩
  obtain ⟨m2, hm2⟩ : ∃ m2, l'.length = m2 := ⟨_, rfl⟩
  have Hm1 := hid hm1
  have Hm2 := hid hm2
  clear hl' hm1 hm2 HEv
  have hl30 : Hid (l.length ≤ 1000000 ∧ l'.length ≤ 1000000) := ⟨by have := Hl.out; omega, by have := Hle.out; omega⟩
  have HF1 := hid (find_tx HA.out HU2.out.st nX f l _ tf m1 (by decide) HZ.out.2 (two_x _ _) hl30.out.1 HPf.out HOk.out rfl Hm1.out (HT.out _ HB2.out))
  go_wp2_with fail
  refine HF1.out.mono ?_
  rintro e w3 ⟨b3, A1, C1, rfl, _⟩
  have HB3 := hid (HB2.out.trans (b3.mono HB2.out.size))
  have HU3 := hid (HU2.out.keep b3)
  have Hs13 : Hid (w1.heap.size ≤ w3.heap.size) := Nat.le_trans Hs12.out b3.size
  have HF2 := hid (find_tx HA.out HU3.out.st nX n2 l l' tn m2 (by decide) HZ.out.1 (two_x _ _) hl30.out.1 HNor.out HNOk.out HNl.out Hm2.out (HT.out _ HB3.out))
  clear b3 HF1 HU2 HB2 Hs12
  go_wp2_with fail
  refine HF2.out.mono ?_
  rintro e w4 ⟨b4, A2, C2, rfl, tx2⟩
  have HB4 := hid (HB3.out.trans (b4.mono HB3.out.size))
  have HU4 := hid (HU3.out.keep b4)
  have Hs14 : Hid (w1.heap.size ≤ w4.heap.size) := Nat.le_trans Hs13.out b4.size
  have HX4 := hid (tx2.move Hs13.out (Nat.le_refl _) (fun _ _ _ => rfl))
  have HDe := hid (delete_su HA.out HU4.out nX f l (by decide) (by have := HZ.out.2; omega) (two_x _ _) (fun y k hk => by
    unfold two setS at hk
    split at hk
    · obtain rfl := Option.some.inj hk; exact hl30.out.1
    · split at hk
      · obtain rfl := Option.some.inj hk; exact hl30.out.1
      · cases hk) HPf.out.1 (by rw [HPf.out.2]; exact HOk.out) (fun w' hb => HT.out _ (HB4.out.trans hb)))
  rw [HPf.out.2, Hl2.out, two_setx, Hm2.out, Hln.out] at HDe
  have hdd : (ln : Int) - (m2 : Int) = (m1 : Int) := by have := HCnt.out; have := Hm1.out; have := Hm2.out; omega
  rw [hdd] at HDe
  clear b4 tx2 HF2 HU3 HB3 Hs13 hdd
  go_wp2_with fail
  refine HDe.out.mono ?_
  rintro e w5 ⟨rfl, b5, fr5, u5⟩
  have HB5 := hid (HB4.out.trans b5)
  have HU5 := hid u5
  have HX5 := hid (HX4.out.move (Nat.le_refl _) b5.size fr5)
  have HS5 : Hid (w1.heap.size ≤ w5.heap.size) := Nat.le_trans Hs14.out b5.size
  have HF3 := hid (find_tx HA.out HU5.out.st nX allS l' l' (tJ allS) m2 (by decide) (by decide) (two_x _ _) hl30.out.2 ⟨allS_e, rfl⟩ allS_ok (all_filter l') Hm2.out (HT.out _ HB5.out))
  clear b5 fr5 u5 HDe HU4 HB4 HX4 Hs14
  go_wp2_with fail
  refine HF3.out.mono ?_
  rintro e w6 ⟨b6, A3, C3, rfl, tx3⟩
  have HB6 := hid (HB5.out.trans (b6.mono HB5.out.size))
  have HU6 := hid (HU5.out.keep b6)
  have HX6 := hid (HX5.out.move (Nat.le_refl _) b6.size (fun b _ h => b6.block b h))
  have HY6 := hid (tx3.move HS5.out (Nat.le_refl _) (fun _ _ _ => rfl))
  have HF4 := hid (find_tx HA.out HU6.out.st nX f l' [] tf 0 (by decide) HZ.out.2 (two_x _ _) hl30.out.2 HPf.out HOk.out HNon.out rfl (HT.out _ HB6.out))
  clear b6 tx3 HF3 HU5 HB5 HX5 HS5
  go_wp2_with fail
  refine HF4.out.mono ?_
  rintro e w7 ⟨b7, A4, C4, rfl, _⟩
  have HB7 := hid (HB6.out.trans (b7.mono HB6.out.size))
  have HU7 := hid (HU6.out.keep b7)
  have HX7 := hid (HX6.out.move (Nat.le_refl _) b7.size (fun b _ h => b7.block b h))
  have HY7 := hid (HY6.out.move (Nat.le_refl _) b7.size (fun b _ h => b7.block b h))
  have HF5 := hid (find_tx HA.out HU7.out.st nY allS l l (tJ allS) ln (by decide) (by decide) (two_y _ _) hl30.out.1 ⟨allS_e, rfl⟩ allS_ok (all_filter l) Hln.out (HT.out _ HB7.out))
  clear b7 HF4 HU6 HB6 HX6 HY6
  go_wp2_with fail
  refine HF5.out.mono ?_
  rintro e w8 ⟨b8, A5, C5, rfl, _⟩
  have HB8 := hid (HB7.out.trans (b8.mono HB7.out.size))
  have HU8 := hid (HU7.out.keep b8)
  have HX8 := hid (HX7.out.move (Nat.le_refl _) b8.size (fun b _ h => b8.block b h))
  have HY8 := hid (HY7.out.move (Nat.le_refl _) b8.size (fun b _ h => b8.block b h))
  have HDr := hid (drop_su HU8.out nX l' (by decide) (two_x _ _))
  rw [two_setx] at HDr
  clear b8 HF5 HU7 HB7 HX7 HY7
  go_wp2_with fail
  refine HDr.out.mono ?_
  rintro e w9 ⟨rfl, b9, fr9, u9⟩
  have HB9 := hid (HB8.out.trans b9)
  have HU9 := hid u9
  have HX9 := hid (HX8.out.move (Nat.le_refl _) b9.size fr9)
  have HY9 := hid (HY8.out.move (Nat.le_refl _) b9.size fr9)
  have HF6 := hid (find_none HA.out HU9.out.st nX allS (by decide) (by decide) (two_x _ _) allS_e allS_ok (HT.out _ HB9.out))
  clear b9 fr9 u9 HDr HU8 HB8 HX8 HY8
  go_wp2_with fail
  refine HF6.out.mono ?_
  rintro e w10 ⟨b10, rfl⟩
  have HB10 := hid (HB9.out.trans (b10.mono HB9.out.size))
  have HU10 := hid (HU9.out.keep b10)
  have HX10 := hid (HX9.out.move (Nat.le_refl _) b10.size (fun b _ h => b10.block b h))
  have HY10 := hid (HY9.out.move (Nat.le_refl _) b10.size (fun b _ h => b10.block b h))
  have HD2 := hid (drop_none HU10.out.st nX (by decide) (two_x _ _))
  clear b10 HF6 HU9 HB9 HX9 HY9
  go_wp2_with fail
  refine HD2.out.mono ?_
  rintro e w11 ⟨rfl, rfl⟩
  have HSm := hid (sameTexts_eq (l'.map prT) _ _ _ HY10.out.at HX10.out.at)
  clear HD2
  go_wp2_with fail
  refine HSm.out.mono ?_
  rintro e w12 ⟨rfl, b12⟩
  have HB12 := hid (HB10.out.trans (b12.mono HB10.out.size))
  clear b12 HSm
  go_wp2_with fail
  go_ret
  exact ⟨rfl, HB12.out⟩
end Go.Proofs.YtknakfpciccoaaaGreatDoor
