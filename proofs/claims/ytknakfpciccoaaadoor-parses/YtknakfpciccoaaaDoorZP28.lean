import Derived.Test.YtknakfpciccoaaaDoorZP22
/- The walk of lists: all lists of a value. -/
namespace Go.Proofs.YtknakfpciccoaaaDoor
open Go.RowKit

def ListsSaid (f : Nat) : Prop := ∀ (b : Nat) (v : Value) (t : T) (es : List Ent) (n : Int) (vs ns : Value) (E : List Ent) (w : World), Flat w f v t es → (∀ x ∈ blks es, x < b) → OwnR b vs ns n E w → E.length + es.length ≤ 1073741824 →
    Calls Tryd.prog 28 #[.pointer (some ⟨b, 0, none⟩), v] w fun e w' => e = .returned (.tuple #[]) ∧ ∃ vs' ns', OwnR b vs' ns' n (E ++ es) w' ∧ Keep3 b vs ns w w' ∧ NewOr w vs vs' ∧ NewOr w ns ns'
theorem cat_le (s : Nat → List Ent) {j k : Nat} (h : j ≤ k) : (catE s j).length ≤ (catE s k).length := by
  induction h with
  | refl => exact Nat.le_refl _
  | step _ ih => rw [catE, List.length_append]; omega
/-- What holds at the loop's head. -/
structure LI (b c : Nat) (vs ns : Value) (n : Int) (E : List Ent) (c0 c1 c2 c3 c4 : Value) (w1 : World) (vs' ns' : Value) (wr : World) : Prop where
  own : OwnR b vs' ns' n E wr
  kp : Keep3 b vs ns w1 wr
  nv : NewOr w1 vs vs'
  nn : NewOr w1 ns ns'
  box : BoxAt c c0 c1 c2 c3 c4 wr
  blk : wr.heap[c]? = some (.cells #[c0, c1, c2, c3, c4] 26 (0, 0))
  ne : c ≠ b
section
variable {b c : Nat} {vs ns : Value} {n : Int} {E : List Ent} {c0 c1 c2 c3 c4 : Value} {w1 : World} {vs' ns' : Value} {wr : World}
theorem LI.step (h : LI b c vs ns n E c0 c1 c2 c3 c4 w1 vs' ns' wr) {E' : List Ent} {vs2 ns2 : Value} {w2 : World} (hO : OwnR b vs2 ns2 n E' w2) (hK : Keep3 b vs' ns' wr w2) (hv : NewOr wr vs' vs2) (hn : NewOr wr ns' ns2) : LI b c vs ns n E' c0 c1 c2 c3 c4 w1 vs2 ns2 w2 := by
  have e := hK.block c h.box.lt h.ne (own_block h.own.rowL h.blk (by decide)) (own_block h.own.rowK h.blk (by decide))
  exact ⟨hO, h.kp.trans hK h.nv h.nn, h.nv.trans hv h.kp.size, h.nn.trans hn h.kp.size, h.box.move hK.size e, e.trans h.blk, h.ne⟩
theorem LI.drew (h : LI b c vs ns n E c0 c1 c2 c3 c4 w1 vs' ns' wr) : LI b c vs ns n E c0 c1 c2 c3 c4 w1 vs' ns' wr.drew :=
  h.step (h.own.keep (below_drew wr)) (Keep3.of (below_drew wr)) (NewOr.refl _ _) (NewOr.refl _ _)
/-- Between the two. -/
structure LM (b c : Nat) (vs ns : Value) (n : Int) (E : List Ent) (x : Ent) (c0 c1 c2 c3 c4 : Value) (w1 : World) (vs' ns' : Value) (wr : World) : Prop where
  own : OwnB b vs' ns' n wr
  rowL : wr.ownsRow (b + 1) 23 1 vs' (E ++ [x]).length ((E ++ [x]).map fun x => x.l)
  rowK : wr.ownsRow (b + 1) 24 1 ns' E.length (E.map fun x => x.k)
  kp : Keep3 b vs ns w1 wr
  nv : NewOr w1 vs vs'
  nn : NewOr w1 ns ns'
  box : BoxAt c c0 c1 c2 c3 c4 wr
theorem LI.mid (h : LI b c vs ns n E c0 c1 c2 c3 c4 w1 vs' ns' wr) {w6 : World} {g cap : Nat} (o : Obj) (x : Ent)
    (hO : w6.ownsRow (b + 1) 23 1 (.slice (some ⟨g, 0, none⟩) (E.length + 1) cap) (E.length + 1) ((E.map fun x => x.l) ++ [x.l])) (hG : (wr.alloc o).grownBy w6 vs'.ownBlock) (hat : vs'.ownBlock = some g ∨ g = wr.heap.size + 1) :
    LM b c vs ns n E x c0 c1 c2 c3 c4 w1 (.slice (some ⟨g, 0, none⟩) (E.length + 1) cap) ns' (w6.setCell ⟨b, 0, none⟩ (.slice (some ⟨g, 0, none⟩) (E.length + 1) cap)) := by
  obtain ⟨h1, h2, h3, h4, h5⟩ := h.own.addL o x.l hO hG hat
  have e := h4.block c h.box.lt h.ne (own_block h.own.rowL h.blk (by decide)) (own_block h.own.rowK h.blk (by decide))
  refine ⟨h1, ?_, h3, h.kp.trans h4 h.nv h.nn, h.nv.trans h5 h.kp.size, h.nn, h.box.move h4.size e⟩
  rw [List.length_append, List.map_append]
  exact h2
theorem LM.keep {x : Ent} (h : LM b c vs ns n E x c0 c1 c2 c3 c4 w1 vs' ns' wr) {w2 : World} (hb : Below wr.heap.size wr w2) : LM b c vs ns n E x c0 c1 c2 c3 c4 w1 vs' ns' w2 :=
  ⟨h.own.move hb.size (hb.block _ h.own.lt), own_move h.rowL fun g e => hb.block g (h.rowL.lt g e).2, own_move h.rowK fun g e => hb.block g (h.rowK.lt g e).2, h.kp.trans (Keep3.of hb) h.nv h.nn, h.nv, h.nn, h.box.move hb.size (hb.block _ h.box.lt)⟩
theorem LM.fin {x : Ent} (h : LM b c vs ns n E x c0 c1 c2 c3 c4 w1 vs' ns' wr) {w6 : World} {g cap : Nat} (o : Obj)
    (hO : w6.ownsRow (b + 1) 24 1 (.slice (some ⟨g, 0, none⟩) (E.length + 1) cap) (E.length + 1) ((E.map fun x => x.k) ++ [x.k])) (hG : (wr.alloc o).grownBy w6 ns'.ownBlock) (hat : ns'.ownBlock = some g ∨ g = wr.heap.size + 1) :
    OwnR b vs' (.slice (some ⟨g, 0, none⟩) (E.length + 1) cap) n (E ++ [x]) (w6.setCell ⟨b, 1, none⟩ (.slice (some ⟨g, 0, none⟩) (E.length + 1) cap)) ∧ Keep3 b vs ns w1 (w6.setCell ⟨b, 1, none⟩ (.slice (some ⟨g, 0, none⟩) (E.length + 1) cap)) ∧ NewOr w1 vs vs' ∧ NewOr w1 ns (.slice (some ⟨g, 0, none⟩) (E.length + 1) cap) := by
  obtain ⟨h1, h2, h3, h4, h5⟩ := OwnR.addK h.own h.rowL h.rowK o x.k hO hG hat
  refine ⟨⟨h1, h3, ?_⟩, h.kp.trans h4 h.nv h.nn, h.nv, h.nn.trans h5 h.kp.size⟩
  rw [List.length_append, List.map_append]
  exact h2
end
set_option maxHeartbeats 4000000 in
set_option maxRecDepth 100000 in
theorem lists_step (f : Nat) (ih : ListsSaid f) : ListsSaid (f + 1) := by
  intro b v t es n vs ns E w h hlt hR hlen
  obtain ⟨Lv, Kv, xs, sub, rfl, hf, hl, hk, hc, hn, rfl⟩ := h
  obtain ⟨iL, hiL, zL0, zL1, zL2⟩ := info_parts infoL
  obtain ⟨iN, hiN, zN0, zN1, zN2⟩ := info_parts infoN
  obtain ⟨A, B, rfl⟩ := own_shape hl
  obtain ⟨C, D, rfl⟩ := own_shape hk
  have hl1 := hf.l1
  have HF : Hid (∀ wr : World, Below b w wr → wr.ownsRow 0 eV 5 (.slice A (nL t) B) (nL t) xs ∧ ∀ i, i < nL t → Flat wr f (fv xs i) (elt t i) (sub i)) := by
    intro wr hB
    have hm : ∀ x ∈ blks (catE sub (nL t) ++ [⟨.slice A (nL t) B, nL t, .slice C (nK t) D, nK t⟩]), wr.heap[x]? = w.heap[x]? := fun x hx => hB.block x (hlt x hx)
    refine ⟨own_move hl fun x e => hm x ?_, fun i hi => (hc i hi).move fun x hx => hm x ?_⟩
    · rw [blks_append, blks_one]
      exact List.mem_append_right _ (by simp [blk, e])
    · rw [blks_append]
      exact List.mem_append_left _ (mem_catE hi hx)
  have HS : Hid (∀ i, i < nL t → ∀ x ∈ blks (sub i), x < b) := fun i hi x hx => hlt x (by rw [blks_append]; exact List.mem_append_left _ (mem_catE hi hx))
  have hlen2 : E.length + (catE sub (nL t)).length + 1 ≤ 1073741824 := by
    rw [List.length_append, List.length_singleton] at hlen
    omega
  have hrb := hR.box.lt
  have HRw := hid hR
  have HL0 : Hid (LI b w.heap.size vs ns n (E ++ catE sub 0) (.int .i64 (kindOf t)) (.int .i64 (nOf t)) (.string (sOf t)) (.slice A (nL t) B) (.slice C (nK t) D) (w.alloc (.cells #[.int .i64 (kindOf t), .int .i64 (nOf t), .string (sOf t), .slice A (nL t) B, .slice C (nK t) D] 26)) vs ns (w.alloc (.cells #[.int .i64 (kindOf t), .int .i64 (nOf t), .string (sOf t), .slice A (nL t) B, .slice C (nK t) D] 26))) := by
    refine ⟨?_, Keep3.refl _ _ _ _, NewOr.refl _ _, NewOr.refl _ _, box_new w _ _ _ _ _, heap_alloc_new w _, by omega⟩
    rw [catE, List.append_nil]
    exact hR.keep ((Below.refl _ _).alloc (Nat.le_refl _) _)
  have HB0 : Hid (Below w.heap.size w (w.alloc (.cells #[.int .i64 (kindOf t), .int .i64 (nOf t), .string (sOf t), .slice A (nL t) B, .slice C (nK t) D] 26))) := (Below.refl _ _).alloc (Nat.le_refl _) _
  have HRa := hid (hR.keep HB0.out)
  have HI := hid ih
  clear hl hk hc hn hlt hR hlen ih hf
  go_enter Tryd.func28, Tryd.ntmps28
  go_wp2_with fail
  go_loopg [4] (nL t) (fun g i wr => ∃ (k : Nat) (vs' ns' : Value), g = nL t - k ∧ k ≤ nL t ∧ i = .int .i64 k ∧ Hid (LI b w.heap.size vs ns n (E ++ catE sub k) (.int .i64 (kindOf t)) (.int .i64 (nOf t)) (.string (sOf t)) (.slice A (nL t) B) (.slice C (nK t) D) (w.alloc (.cells #[.int .i64 (kindOf t), .int .i64 (nOf t), .string (sOf t), .slice A (nL t) B, .slice C (nK t) D] 26)) vs' ns' wr))
  case atStart => exact ⟨0, vs, ns, rfl, Nat.zero_le _, rfl, HL0⟩
  case round =>
    clear HL0
    obtain ⟨k, vs', ns', rfl, hk1, rfl, HL⟩ := hrel
    have HBb : Hid (Below b w wr) := (HB0.out.mono (by omega)).trans (HL.out.kp.below HRa.out)
    have b3 := HL.out.box.q3
    by_cases hltk : k < nL t
    · obtain ⟨hrow, hfl⟩ := HF.out wr HBb.out
      obtain ⟨g, cap, eg, hg, _, _, hcell, _⟩ := own_cell hrow (by omega)
      simp only [Value.slice.injEq, true_and] at eg
      obtain ⟨rfl, rfl⟩ := eg
      have p0 := hcell (k * 5) (by omega)
      have p1 := hcell (k * 5 + 1) (by omega)
      have p2 := hcell (k * 5 + 2) (by omega)
      have p3 := hcell (k * 5 + 3) (by omega)
      have p4 := hcell (k * 5 + 4) (by omega)
      have hcl := cat_le sub (show k + 1 ≤ nL t by omega)
      rw [catE, List.length_append] at hcl
      have HC := hid (HI.out b (fv xs k) (elt t k) (sub k) n vs' ns' (E ++ catE sub k) wr (hfl k hltk) (HS.out k hltk) HL.out.own (by rw [List.length_append]; omega))
      have x1 : (k : Int) < (nL t : Int) := by omega
      clear hrow hfl hcell hg
      unfold fv at HC
      go_wp2_with fail
      refine HC.out.mono ?_
      rintro e w2 ⟨rfl, vs2, ns2, hO, hK, hv, hn⟩
      have HL2 := hid (HL.out.step hO hK hv hn)
      clear hO hK hv hn HC p0 p1 p2 p3 p4
      go_wp2_with fail
      go_roundg (nL t - (k + 1))
      case rel =>
        refine ⟨k + 1, vs2, ns2, rfl, by omega, by go_num, ?_⟩
        rw [catE, ← List.append_assoc]
        exact HL2
      case measure => omega
    · have hkn : k = nL t := by omega
      subst hkn
      have x1 : ¬ ((nL t : Int) < (nL t : Int)) := by omega
      have hEl : (E ++ catE sub (nL t)).length ≤ 1073741823 := by rw [List.length_append]; omega
      generalize hEE : E ++ catE sub (nL t) = EE at HL hEl
      have HEE := hid hEE
      clear hEE
      go_wp2_with fail
      have a0 := HL.out.own.box.q0
      have a0a := (HL.out.own.keep ((Below.refl wr.heap.size wr).alloc (Nat.le_refl _) (.cells #[.slice A (nL t) B] 23))).box.q0
      have b3a := (HL.out.box.move (w' := wr.alloc (.cells #[.slice A (nL t) B] 23)) (by simp) (Below.heap_alloc _ _ _ HL.out.box.lt)).q3
      have HOa := hid ((HL.out.own.keep ((Below.refl wr.heap.size wr).alloc (Nat.le_refl _) (.cells #[.slice A (nL t) B] 23))).keep (below_drew _))
      go_region_law (refine step_append_lies _ (by rfl) _ _ _ (by rfl) (b + 1) 23 iL _ 1 24 Tryd.underlying31 hiL zL0 zL1 zL2 rfl (by omega) vs' EE.length (EE.map fun x => x.l) (by rfl) HOa.out.rowL ⟨wr.heap.size, 0, none⟩ 1 1 [.slice A (nL t) B] (by rfl) (by rfl) (World.news_of_block (cs := #[.slice A (nL t) B]) (t := 23) (fr := (0, 0)) (heap_alloc_new wr _)) (by simp [Value.oneCell']) (by omega) (by unfold maxLen; omega) (by omega) (by have := HOa.out.box.lt; omega) (wr.heap.size + 1) (by simp) ?_; intro g cap w6 hown6 hgrow6 hat6 hlt6; have HZ6 := hid (HOa.out.box.move hgrow6.size (hgrow6.block _ HOa.out.box.lt (fun e => by have := (HOa.out.rowL.lt b e.symm).1; omega))); have hc6 := HZ6.out.q0; have hf6 := HZ6.out.f0)
      all_goals
        have HM := hid (HL.out.drew.mid (.cells #[.slice A (nL t) B] 23) ⟨.slice A (nL t) B, nL t, .slice C (nK t) D, nK t⟩ hown6 hgrow6 hat6)
        clear hown6 hgrow6 hat6 hlt6 HZ6 hc6 hf6 HOa a0 a0a b3a
        generalize (w6.setCell ⟨b, 0, none⟩ (.slice (some ⟨g, 0, none⟩) (EE.length + 1) cap)) = w7 at HM ⊢
        go_wp2_with fail
        have a0 := HM.out.own.q1
        have b4 := HM.out.box.q4
        have HMa := hid (HM.out.keep ((Below.refl w7.heap.size w7).alloc (Nat.le_refl _) (.cells #[.slice C (nK t) D] 24)))
        have a0a := HMa.out.own.q1
        have b4a := HMa.out.box.q4
        have HMb := hid (HMa.out.keep (below_drew _))
        go_region_law (refine step_append_lies _ (by rfl) _ _ _ (by rfl) (b + 1) 24 iN _ 1 24 Tryd.underlying32 hiN zN0 zN1 zN2 rfl (by omega) ns' EE.length (EE.map fun x => x.k) (by rfl) HMb.out.rowK ⟨w7.heap.size, 0, none⟩ 1 1 [.slice C (nK t) D] (by rfl) (by rfl) (World.news_of_block (cs := #[.slice C (nK t) D]) (t := 24) (fr := (0, 0)) (heap_alloc_new w7 _)) (by simp [Value.oneCell']) (by omega) (by unfold maxLen; omega) (by omega) (by have := HMb.out.own.lt; omega) (w7.heap.size + 1) (by simp) ?_; intro g8 cap8 w8 hown8 hgrow8 hat8 hlt8; have HZ8 := hid (HMb.out.own.move hgrow8.size (hgrow8.block _ HMb.out.own.lt (fun e => by have := (HMb.out.rowK.lt b e.symm).1; omega))); have hc8 := HZ8.out.q1; have hf8 := HZ8.out.f1)
        all_goals
          have HFin := hid ((HM.out.keep (below_drew _)).fin (.cells #[.slice C (nK t) D] 24) hown8 hgrow8 hat8)
          clear hown8 hgrow8 hat8 hlt8 HZ8 hc8 hf8 HMa HMb a0 a0a b4 b4a
          go_wp2_with fail
          refine bodyPost_end (v := .tuple #[]) (by simp [results, Tryd.results28, go_sem]) rfl ⟨rfl, .slice (some ⟨g, 0, none⟩) (EE.length + 1) cap, .slice (some ⟨g8, 0, none⟩) (EE.length + 1) cap8, ?_, ?_, ?_, ?_⟩
          · rw [← List.append_assoc, HEE.out]; exact HFin.out.1
          · exact (Keep3.of HB0.out).trans HFin.out.2.1 (NewOr.refl _ _) (NewOr.refl _ _)
          · exact (NewOr.refl w vs).trans HFin.out.2.2.1 HB0.out.size
          · exact (NewOr.refl w ns).trans HFin.out.2.2.2 HB0.out.size
theorem lists_any : ∀ f, ListsSaid f
  | 0 => fun _ _ _ _ _ _ _ _ _ h => h.elim
  | f + 1 => lists_step f (lists_any f)
end Go.Proofs.YtknakfpciccoaaaDoor
