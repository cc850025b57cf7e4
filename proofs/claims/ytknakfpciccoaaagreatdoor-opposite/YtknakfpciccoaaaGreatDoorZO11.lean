import Derived.Test.YtknakfpciccoaaaGreatDoorZO10
import Derived.Deep.RegionLaw
/- The walk of the program's reader: entries. -/
namespace Go.Proofs.YtknakfpciccoaaaGreatDoor
open Go.RowKit

theorem infoS : (Tryz.prog.info? 9).map (fun i => (i.zero, i.size, i.bytes)) = some (some (.string ⟨#[]⟩), 1, 16) := by kernel_rfl
theorem infoV : (Tryz.prog.info? 25).map (fun i => (i.zero, i.size, i.bytes)) = some (some (.agg #[.int .i64 0, .int .i64 0, .string ⟨#[]⟩, .slice none 0 0, .slice none 0 0]), 5, 80) := by kernel_rfl
theorem empty_of {a : ByteArray} (h : a.size = 0) : a = ⟨#[]⟩ := by
  apply ByteArray.ext
  exact Array.eq_empty_of_size_eq_zero h
theorem nonempty_of {a : ByteArray} (h : a.size ≠ 0) : a.toList.isEmpty = false := by
  cases a with
  | mk d =>
    cases d with
    | mk l =>
      cases l with
      | nil => exact (h rfl).elim
      | cons x l => simp [ByteArray.toList_eq]
section
variable {d : Nat} {k : Int} {c : Nat} {w : World} {b2 : Nat} {rest a : ByteArray} {L : List T} {K : List ByteArray} {Lv Kv : Value} {xs : List Value} {sub : Nat → List Ent} {wr : World}
theorem EI.boxInner (h : EI d k c w b2 rest a L K Lv Kv xs sub wr) {w1 : World} (hB : But b2 wr w1) : BoxAt (w.heap.size + 1) (.int .i64 k) (.int .i64 0) (.string ⟨#[]⟩) Lv Kv w1 := by
  have := h.lb
  exact h.box.move hB.size (hB.block _ h.box.lt (by omega))
theorem EI.butInner (h : EI d k c w b2 rest a L K Lv Kv xs sub wr) {w1 : World} (hB : But b2 wr w1) : But c w w1 := by
  have h2 := h.lb
  have hb := h.but
  exact ⟨hB.os.trans hb.os, hB.tape.trans hb.tape, hB.output.trans hb.output, Nat.le_trans hb.size hB.size, fun i hi hc => (hB.block i (Nat.lt_of_lt_of_le hi hb.size) (by omega)).trans (hb.block i hi hc)⟩
theorem EI.sepKid (h : EI d k c w b2 rest a L K Lv Kv xs sub wr) {w1 : World} {es : List Ent} (hB : But b2 wr w1) (hS : Sep wr.heap.size w1 es) : Sep (b2 + 1) w1 (catE sub L.length ++ es ++ [⟨Lv, L.length, Kv, K.length⟩]) :=
  h.grow.sep.child hB.size hS h.grow.low
theorem newOr_of {w5 : World} {v : Value} {g n cap : Nat} (o : Obj) (h : v.ownBlock = some g ∨ g = w5.heap.size + 1) : NewOr (w5.alloc o) v (.slice (some ⟨g, 0, none⟩) n cap) := by
  rcases h with h | h
  · exact .inl h.symm
  · refine .inr fun g' e => ?_
    cases e
    simp
    omega
theorem EI.stepL (h : EI d k c w b2 rest a L K Lv Kv xs sub wr) {w6 : World} {x : T} {es : List Ent} {c0 c1 c2 c3 c4 : Value} {lo g cap : Nat} (o : Obj) (hF : Flat wr (d + 1) (.agg #[c0, c1, c2, c3, c4]) x es) (hS' : Sep lo wr es)
    (hS : Sep (b2 + 1) wr (catE sub L.length ++ es ++ [⟨Lv, L.length, Kv, K.length⟩])) (hO : w6.ownsRow (b2 + 1) eV 5 (.slice (some ⟨g, 0, none⟩) (L.length + 1) cap) (L.length + 1) (xs ++ [c0, c1, c2, c3, c4])) (hG : (wr.alloc o).grownBy w6 Lv.ownBlock) (hat : Lv.ownBlock = some g ∨ g = wr.heap.size + 1) :
    EI d k c w b2 rest a (L ++ [x]) K (.slice (some ⟨g, 0, none⟩) (L.length + 1) cap) Kv (xs ++ [c0, c1, c2, c3, c4]) (updE sub L.length es) (w6.setCell ⟨w.heap.size + 1, 3, none⟩ (.slice (some ⟨g, 0, none⟩) (L.length + 1) cap)) :=
  have hb : Below wr.heap.size wr (wr.alloc o) := (Below.refl _ _).alloc (Nat.le_refl _) _
  (h.keep hb).putL (hF.keep hS' hb) (hS.keep hb.size) hO hG (newOr_of o hat)
theorem EI.stepK (h : EI d k c w b2 rest a L K Lv Kv xs sub wr) {w6 : World} {nm : ByteArray} {g cap : Nat} (o : Obj) (hk : nm.size ≤ 140737488355328)
    (hO : w6.ownsRow (b2 + 1) eS 1 (.slice (some ⟨g, 0, none⟩) (K.length + 1) cap) (K.length + 1) (namesV K ++ [.string nm])) (hG : (wr.alloc o).grownBy w6 Kv.ownBlock) (hat : Kv.ownBlock = some g ∨ g = wr.heap.size + 1) :
    EI d k c w b2 rest a L (K ++ [nm]) Lv (.slice (some ⟨g, 0, none⟩) (K.length + 1) cap) xs sub (w6.setCell ⟨w.heap.size + 1, 4, none⟩ (.slice (some ⟨g, 0, none⟩) (K.length + 1) cap)) :=
  (h.keep ((Below.refl _ _).alloc (Nat.le_refl _) _)).putK hk hO hG (newOr_of o hat)
theorem But.setNew {c : Nat} {w wr : World} (h : But c w wr) {b : Nat} (hb : w.heap.size ≤ b) (o : Nat) (u : Value) : But c w (wr.setCell ⟨b, o, none⟩ u) :=
  ⟨h.os, h.tape, h.output, by simpa [World.setCell] using h.size, fun i hi hc => (Below.heap_setCell _ _ _ _ (by simpa using (by omega : i ≠ b))).trans (h.block i hi hc)⟩
theorem Left.setOther {c : Nat} {s : ByteArray} {w : World} (h : Left c s w) {b : Nat} (hb : c ≠ b) (o : Nat) (u : Value) : Left c s (w.setCell ⟨b, o, none⟩ u) :=
  h.move (by simp [World.setCell]) (Below.heap_setCell _ _ _ _ (by simpa using hb))
theorem boxGrown {e : TypeId} {size n : Nat} {v : Value} {ys : List Value} (h : EI d k c w b2 rest a L K Lv Kv xs sub wr) {w2 : World} (hG : wr.grownBy w2 v.ownBlock) (hO : wr.ownsRow (b2 + 1) e size v n ys) : BoxAt (w.heap.size + 1) (.int .i64 k) (.int .i64 0) (.string ⟨#[]⟩) Lv Kv w2 := by
  have h2 := h.lb
  refine h.box.move hG.size (hG.block _ h.box.lt fun e => ?_)
  have := (hO.lt _ e.symm).1
  omega
end
set_option maxHeartbeats 4000000 in
set_option maxRecDepth 100000 in
theorem entries_any (d : Nat) (hd : d ≤ 11) (ih : ValSaid d) (c : Nat) (k : Int) (hk : k = 5 ∨ k = 6) (s : ByteArray) (w : World) (h : Left c s w) (hs : s.size ≤ 140737488355328) :
    Calls Tryz.prog 147 #[.pointer (some ⟨c, 0, none⟩), .int .i64 k, .int .i64 ((12 - d : Nat) : Int)] w (EntPost c d k s w) := by
  obtain ⟨iS, hiS, zS0, zS1, zS2⟩ := info_parts infoS
  obtain ⟨iV, hiV, zV0, zV1, zV2⟩ := info_parts infoV
  have HB0 : Hid (Below w.heap.size w ((w.alloc (.cells #[.int .i64 0, .int .i64 0, .string ⟨#[]⟩, .slice none 0 0, .slice none 0 0] 25)).alloc (.cells #[.int .i64 k, .int .i64 0, .string ⟨#[]⟩, .slice none 0 0, .slice none 0 0] 25))) := ((Below.refl _ _).alloc (Nat.le_refl _) _).alloc (by simp) _
  have HR0 : Hid (BoxAt w.heap.size (.int .i64 0) (.int .i64 0) (.string ⟨#[]⟩) (.slice none 0 0) (.slice none 0 0) ((w.alloc (.cells #[.int .i64 0, .int .i64 0, .string ⟨#[]⟩, .slice none 0 0, .slice none 0 0] 25)).alloc (.cells #[.int .i64 k, .int .i64 0, .string ⟨#[]⟩, .slice none 0 0, .slice none 0 0] 25))) := (box_new w _ _ _ _ _).move (by simp) (Below.heap_alloc _ _ _ (by simp))
  have HV0 : Hid (BoxAt (w.heap.size + 1) (.int .i64 k) (.int .i64 0) (.string ⟨#[]⟩) (.slice none 0 0) (.slice none 0 0) ((w.alloc (.cells #[.int .i64 0, .int .i64 0, .string ⟨#[]⟩, .slice none 0 0, .slice none 0 0] 25)).alloc (.cells #[.int .i64 k, .int .i64 0, .string ⟨#[]⟩, .slice none 0 0, .slice none 0 0] 25))) := by
    have := box_new (w.alloc (.cells #[.int .i64 0, .int .i64 0, .string ⟨#[]⟩, .slice none 0 0, .slice none 0 0] 25)) (.int .i64 k) (.int .i64 0) (.string ⟨#[]⟩) (.slice none 0 0) (.slice none 0 0)
    show BoxAt _ _ _ _ _ _ _
    simpa using this
  have hlc := h.lt
  have HN := hid (number_bytes c s 4 _ (h.keep HB0.out) (by omega) hs)
  have HI := hid ih
  have Hk := hid hk
  obtain ⟨a0, ha, ha1⟩ : ∃ a : Nat, 12 - d = a ∧ a ≤ 12 := ⟨_, rfl, by omega⟩
  have HI2 : Hid (∀ (c : Nat) (s : ByteArray) (w : World) (t : T) (r : ByteArray), decP d s = some (t, r) → Left c s w → s.size ≤ 140737488355328 →
    Calls Tryz.prog 108 #[.pointer (some ⟨c, 0, none⟩), .int .i64 (a0 : Int)] w fun e w' => ∃ es A B C D, e = .returned (.agg #[.int .i64 (kindOf t), .int .i64 (nOf t), .string (sOf t), .slice A (nL t) B, .slice C (nK t) D]) ∧ But c w w' ∧ Flat w' (d + 1) (.agg #[.int .i64 (kindOf t), .int .i64 (nOf t), .string (sOf t), .slice A (nL t) B, .slice C (nK t) D]) t es ∧ Sep w.heap.size w' es ∧ Left c r w') := by
    intro c s w t r hz hL hs
    have := val_some HI.out hz hL hs
    rwa [ha] at this
  have HI3 : Hid (∀ (c : Nat) (s : ByteArray) (w : World), decP d s = none → Left c s w → s.size ≤ 140737488355328 →
    Calls Tryz.prog 108 #[.pointer (some ⟨c, 0, none⟩), .int .i64 (a0 : Int)] w fun e w' => e = refused 6 ∧ But c w w') := by
    intro c s w hz hL hs
    have := val_none HI.out hz hL hs
    rwa [ha] at this
  rw [ha]
  clear h ih hk ha HI
  go_enter Tryz.func147, Tryz.ntmps147
  go_wp2_with fail
  refine HN.out.mono ?_
  rintro e w1 ⟨B1, ⟨h4, rfl, L1⟩ | ⟨h4, rfl⟩⟩
  · have HB1 := hid B1
    have hsz := suf_size s 4
    have hnn := numB_lt (pre s 4)
    rw [pre_size h4] at hnn
    have HT := hid (take_bytes c (suf s 4) (numB (pre s 4)) w1 L1 (by omega))
    have HL1 := hid L1
    have HR1 := hid (HR0.out.move B1.size (B1.block _ HR0.out.lt (by omega)))
    have HV1 := hid (HV0.out.move B1.size (B1.block _ HV0.out.lt (by omega)))
    have HW1 := hid ((But.of (c := c) HB0.out).trans B1)
    clear B1 L1 HN HR0 HV0 HB0 HB1
    go_wp2_with fail
    refine HT.out.mono ?_
    rintro e w2 (⟨h2, rfl, rfl⟩ | ⟨h2, rfl, rfl⟩)
    · have Hsz := hid (szB_some h4 h2)
      have hps := pre_size h2
      generalize pre (suf s 4) (numB (pre s 4)) = x at Hsz hps ⊢
      generalize suf (suf s 4) (numB (pre s 4)) = rest at Hsz ⊢
      have hx : x.size < 4294967296 := by omega
      have HE : Hid (EI d k c w w1.heap.size rest x [] [] (.slice none 0 0) (.slice none 0 0) [] (fun _ => []) ((w1.setCell ⟨c, 0, none⟩ (.string rest)).alloc (.cells #[.string x] 139))) := by
        have hL := HL1.out.set rest
        have e1 : (w1.setCell ⟨c, 0, none⟩ (.string rest)).heap.size = w1.heap.size := by simp [World.setCell]
        have hl := HV1.out.lt
        have hset : ∀ b, b ≠ c → (w1.setCell ⟨c, 0, none⟩ (.string rest)).heap[b]? = w1.heap[b]? := fun b hb => Below.heap_setCell _ _ _ _ (by simpa using hb)
        have hold : ∀ b, b < w1.heap.size → ((w1.setCell ⟨c, 0, none⟩ (.string rest)).alloc (.cells #[.string x] 139)).heap[b]? = (w1.setCell ⟨c, 0, none⟩ (.string rest)).heap[b]? := fun b hb => Below.heap_alloc _ _ _ (by omega)
        have hz : ((w1.setCell ⟨c, 0, none⟩ (.string rest)).alloc (.cells #[.string x] 139)).heap.size = w1.heap.size + 1 := by simp [World.setCell]
        refine ⟨Grow.start _ _ _ (by omega), HR1.out.move (by omega) ((hold _ HR1.out.lt).trans (hset _ (by omega))), HV1.out.move (by omega) ((hold _ HV1.out.lt).trans (hset _ (by omega))), ?_, hL.move (by omega) (hold _ (by omega)), ?_, by omega, by omega⟩
        · have := left_new (w1.setCell ⟨c, 0, none⟩ (.string rest)) x
          rwa [e1] at this
        · exact (HW1.out.trans (But.set w1 c 0 (.string rest))).trans (But.of ((Below.refl _ _).alloc (Nat.le_refl _) _))
      clear HT HL1 HR1 HV1 HW1 hsz hnn hps h2 h4
      go_wp2_with fail
      go_loopg [] x.size (fun g wr => ∃ (a : ByteArray) (L : List T) (K : List ByteArray) (Lv Kv : Value) (xs : List Value) (sub : Nat → List Ent) (n : Nat), g = a.size ∧ a.size ≤ n ∧ L.length + a.size ≤ x.size ∧ K.length + a.size ≤ x.size ∧ Hid (EI d k c w w1.heap.size rest a L K Lv Kv xs sub wr) ∧ Hid (ents (decP d) (k == 6) x.size x = (ents (decP d) (k == 6) n a).map fun p => (K ++ p.1, L ++ p.2)))
      case atStart => exact ⟨x, [], [], _, _, [], fun _ => [], x.size, rfl, Nat.le_refl _, by simp, by simp, HE, by show _ = _; cases ents (decP d) (k == 6) x.size x <;> rfl⟩
      case round =>
        clear HE
        obtain ⟨a, L, K, Lv, Kv, xs, sub, n, rfl, hn, hlL, hlK, HE, HX⟩ := hrel
        have q0 := HE.out.inn.cell
        by_cases h0 : a.size = 0
        · have ea := empty_of h0
          subst ea
          obtain ⟨A, B, rfl⟩ := own_shape HE.out.grow.ownL
          obtain ⟨C, D, rfl⟩ := own_shape HE.out.grow.ownK
          have r0 := HE.out.res.q0
          have r1 := HE.out.res.q1
          have r2 := HE.out.res.q2
          have r3 := HE.out.res.q3
          have r4 := HE.out.res.q4
          have s0 := HE.out.res.f0
          have s1 := HE.out.res.f1
          have s2 := HE.out.res.f2
          have s3 := HE.out.res.f3
          have s4 := HE.out.res.f4
          have t0 := HE.out.box.q0
          have t1 := HE.out.box.q1
          have t2 := HE.out.box.q2
          have t3 := HE.out.box.q3
          have t4 := HE.out.box.q4
          go_wp2_with fail
          refine bodyPost_ret (v := five (mkT k 0 ByteArray.empty L K) A B C D) (by simp [results, Tryz.results147, go_sem, five, kindOf_mk, nOf_mk, sOf_mk, nL_mk, nK_mk, *]; rfl) rfl ?_
          have hE := HE.out
          have hl1 := hE.lc
          have hl2 := hE.lb
          have hG := ((((hE.grow.set w.heap.size 0 (.int .i64 k) (by omega)).set w.heap.size 1 (.int .i64 0) (by omega)).set w.heap.size 2 (.string ⟨#[]⟩) (by omega)).set w.heap.size 3 (.slice A L.length B) (by omega)).set w.heap.size 4 (.slice C K.length D) (by omega)
          have hk5 : 0 ≤ k ∧ k ≤ 100 := by have := Hk.out; omega
          refine ⟨((((hE.but.setNew (Nat.le_refl _) _ _).setNew (Nat.le_refl _) _ _).setNew (Nat.le_refl _) _ _).setNew (Nat.le_refl _) _ _).setNew (Nat.le_refl _) _ _, Or.inl ⟨mkT k 0 ByteArray.empty L K, rest, catE sub L.length ++ [⟨.slice A L.length B, L.length, .slice C K.length D, K.length⟩], A, B, C, D, ?_, rfl, ?_, ?_, ?_⟩⟩
          · unfold entO
            rw [Hsz.out]
            simp only [Option.bind_some]
            rw [HX.out, ents_empty _ _ _ _ h0]
            simp
          · have := hG.flat k hk5.1 hk5.2 (by omega) (by omega)
            unfold five
            rw [kindOf_mk, nOf_mk, sOf_mk, nL_mk, nK_mk]
            exact this
          · exact hG.sep.lower (by omega)
          · exact ((((hE.out.setOther (by omega) _ _).setOther (by omega) _ _).setOther (by omega) _ _).setOther (by omega) _ _).setOther (by omega) _ _
        · have ha := nonempty_of h0
          rcases Hk.out with rfl | rfl
          · go_wp2_with fail
            have HE3 := hid (HE.out.keep (below_drew wr))
            obtain ⟨n', rfl⟩ : ∃ n', n = n' + 1 := ⟨n - 1, by omega⟩
            have HX3 := hid (HX.out.trans (ents_L (n := n') (L := L) (K := K) h0))
            have hc3 := HE.out.box.q3
            clear HX HE
            cases hz : decP d a with
            | none =>
                have HZ : Hid (entO d 5 s = none) := by
                  show entO d 5 s = none
                  unfold entO
                  rw [Hsz.out]
                  simp only [Option.bind_some]
                  rw [HX3.out, next_none hz]
                  rfl
                refine wp_region_held_drew (S := fun wx => wx.cell? ⟨w.heap.size + 1, 3, none⟩ = some Lv) (by kernel_rfl) HE3.out.box.q3 (fun hHeld => ?_)
                refine wpAnyH_take (i := 0) (v := .pointer (some ⟨w.heap.size + 1, 3, none⟩)) rfl (by kernel_rfl) (by kernel_rfl) (by kernel_rfl) (fun _ _ _ h => h) (Or.inl ⟨by rfl, (by intro wx hSw; go_simp)⟩) hHeld ?_
                refine wpAnyH_take (i := 1) (v := Lv) rfl (by kernel_rfl) (by kernel_rfl) (by kernel_rfl) (fun _ _ _ h => h) (Or.inl ⟨by rfl, (by intro wx hSw; go_simp)⟩) hHeld ?_
                refine wpAnyH_take (i := 2) (v := .int .i64 a0) rfl (by kernel_rfl) (by kernel_rfl) (by kernel_rfl) (fun _ _ _ h => h) (Or.inl ⟨by rfl, (by intro wx hSw; go_simp)⟩) hHeld ?_
                refine wpAnyH_ready (rs := [3]) (by kernel_rfl) (by simp) (AllReadyH.cons rfl (fun KK hKK => ?_) AllReadyH.nil)
                go_simp
                go_wp2_with (go_at_call 108; refine (HI3.out _ _ _ hz HE3.out.inn (by omega)).mono ?_; rintro e w5 ⟨rfl, hb5⟩)
                exact ⟨rfl, HE3.out.butInner hb5, Or.inr ⟨HZ.out, rfl⟩⟩
            | some p =>
                obtain ⟨t, a2⟩ := p
                have hsz2 := decP_size hz
                go_region_law (first | (refine step_append_lies _ (by rfl) _ _ _ (by rfl) (w1.heap.size + 1) 25 iV _ 5 80 Tryz.underlying22 hiV zV0 zV1 zV2 rfl (by omega) Lv L.length xs (by rfl) (HE5.out.keep ((Below.refl _ _).alloc (Nat.le_refl _) _)).grow.ownL ⟨w5.heap.size, 0, none⟩ 1 1 [.int .i64 (kindOf t), .int .i64 (nOf t), .string (sOf t), .slice A (nL t) B, .slice C (nK t) D] (by rfl) (by rfl) (World.news_of_block (cs := #[.int .i64 (kindOf t), .int .i64 (nOf t), .string (sOf t), .slice A (nL t) B, .slice C (nK t) D]) (t := 25) (fr := (0, 0)) (heap_alloc_new w5 _)) (by simp [Value.oneCell']) (by omega) (by unfold maxLen; omega) (by omega) (HE5.out.keep ((Below.refl _ _).alloc (Nat.le_refl _) _)).grow.low (w5.heap.size + 1) (by simp) ?_; intro g cap w6 hown6 hgrow6 hat6 hlt6; have HX6 := hid (boxGrown (HE5.out.keep ((Below.refl _ _).alloc (Nat.le_refl _) (.cells #[.int .i64 (kindOf t), .int .i64 (nOf t), .string (sOf t), .slice A (nL t) B, .slice C (nK t) D] 25))) hgrow6 (HE5.out.keep ((Below.refl _ _).alloc (Nat.le_refl _) (.cells #[.int .i64 (kindOf t), .int .i64 (nOf t), .string (sOf t), .slice A (nL t) B, .slice C (nK t) D] 25))).grow.ownL); have hc6 := HX6.out.q3; have hf6 := HX6.out.f3) | (go_simp; go_wp2_with (go_at_call 108; refine (HI2.out _ _ _ _ _ hz HE3.out.inn (by omega)).mono ?_; rintro e w5 ⟨es, A, B, C, D, rfl, hb5, hF5, hS5, hL5⟩; have HE5 := hid (HE3.out.inner hb5 hL5); have HF5 := hid hF5; have HS5 := hid (HE3.out.sepKid hb5 hS5); have HS5' := hid hS5; have hc5 := HE5.out.box.q3; have hc5a := (HE5.out.keep ((Below.refl _ _).alloc (Nat.le_refl _) (.cells #[.int .i64 (kindOf t), .int .i64 (nOf t), .string (sOf t), .slice A (nL t) B, .slice C (nK t) D] 25))).box.q3; clear hF5 hS5 hL5 hb5)))
                all_goals
                  have HE6 := hid (HE5.out.stepL _ HF5.out HS5'.out HS5.out hown6 hgrow6 hat6)
                  clear hown6 hgrow6 hat6 hlt6 HX6 hc6 hf6 HF5 HS5 HS5' HE5 hc5 hc5a
                  go_wp2_with fail
                  go_roundg a2.size
                  case rel => exact ⟨a2, L ++ [t], K, _, _, _, _, n', rfl, by omega, by simp; omega, by omega, HE6, HX3.out.trans (next_some hz)⟩
                  case measure => omega
          · go_wp2_with fail
            have HE3 := hid (HE.out.keep (below_drew wr))
            obtain ⟨n', rfl⟩ : ∃ n', n = n' + 1 := ⟨n - 1, by omega⟩
            have hc3 := HE.out.box.q4
            cases hz2 : szB a 2 with
            | none =>
                have HZ : Hid (entO d 6 s = none) := by
                  show entO d 6 s = none
                  unfold entO
                  rw [Hsz.out]
                  simp only [Option.bind_some]
                  rw [HX.out.trans (ents_K0 (n := n') (L := L) (K := K) h0 hz2)]
                  rfl
                refine wp_region_held_drew (S := fun wx => wx.cell? ⟨w.heap.size + 1, 4, none⟩ = some Kv) (by kernel_rfl) HE3.out.box.q4 (fun hHeld => ?_)
                refine wpAnyH_take (i := 0) (v := .pointer (some ⟨w.heap.size + 1, 4, none⟩)) rfl (by kernel_rfl) (by kernel_rfl) (by kernel_rfl) (fun _ _ _ h => h) (Or.inl ⟨by rfl, (by intro wx hSw; go_simp)⟩) hHeld ?_
                refine wpAnyH_take (i := 1) (v := Kv) rfl (by kernel_rfl) (by kernel_rfl) (by kernel_rfl) (fun _ _ _ h => h) (Or.inl ⟨by rfl, (by intro wx hSw; go_simp)⟩) hHeld ?_
                refine wpAnyH_ready (rs := [2]) (by kernel_rfl) (by simp) (AllReadyH.cons rfl (fun KK hKK => ?_) AllReadyH.nil)
                go_simp
                go_wp2_with (go_at_call 146; refine (text_none hz2 HE3.out.inn (by omega) (by omega)).mono ?_; rintro e w5 ⟨rfl, hb5⟩)
                exact ⟨rfl, HE3.out.butInner hb5, Or.inr ⟨HZ.out, rfl⟩⟩
            | some p =>
                obtain ⟨nm, a1⟩ := p
                have hsz1 := szB_size hz2
                have HX8 := hid (HX.out.trans (ents_K (n := n') (L := L) (K := K) h0 hz2))
                clear HX HE
                go_region_law (first | (refine step_append_lies _ (by rfl) _ _ _ (by rfl) (w1.heap.size + 1) 9 iS _ 1 16 Tryz.underlying23 hiS zS0 zS1 zS2 rfl (by omega) Kv K.length (namesV K) (by rfl) (HE4.out.keep ((Below.refl _ _).alloc (Nat.le_refl _) _)).grow.ownK ⟨w4.heap.size, 0, none⟩ 1 1 [.string nm] (by rfl) (by rfl) (World.news_of_block (cs := #[.string nm]) (t := 9) (fr := (0, 0)) (heap_alloc_new w4 _)) (by simp [Value.oneCell']) (by omega) (by unfold maxLen; omega) (by omega) (HE4.out.keep ((Below.refl _ _).alloc (Nat.le_refl _) _)).grow.low (w4.heap.size + 1) (by simp) ?_; intro g4 cap4 w7 hown7 hgrow7 hat7 hlt7; have HX7 := hid (boxGrown (HE4.out.keep ((Below.refl _ _).alloc (Nat.le_refl _) (.cells #[.string nm] 9))) hgrow7 (HE4.out.keep ((Below.refl _ _).alloc (Nat.le_refl _) (.cells #[.string nm] 9))).grow.ownK); have hc7 := HX7.out.q4; have hf7 := HX7.out.f4) | (go_simp; go_wp2_with (go_at_call 146; refine (text_some hz2 HE3.out.inn (by omega) (by omega)).mono ?_; rintro e w4 ⟨rfl, hb4, hl4⟩; have HE4 := hid (HE3.out.inner hb4 hl4); have hc4 := HE4.out.box.q4; have hc4a := (HE4.out.keep ((Below.refl _ _).alloc (Nat.le_refl _) (.cells #[.string nm] 9))).box.q4; clear hb4 hl4)))
                all_goals
                  have HE8 := hid (HE4.out.stepK _ (by omega) hown7 hgrow7 hat7)
                  clear hown7 hgrow7 hat7 hlt7 HX7 hc7 hf7 HE4 hc4 hc4a HE3 hc3
                  go_wp2_with fail
                  have HE9 := hid (HE8.out.keep (below_drew _))
                  have HX9 := HX8
                  have hc9 := HE8.out.box.q3
                  clear HX8 HE8
                  cases hz : decP d a1 with
                  | none =>
                      have HZ : Hid (entO d 6 s = none) := by
                        show entO d 6 s = none
                        unfold entO
                        rw [Hsz.out]
                        simp only [Option.bind_some]
                        rw [HX9.out, next_none hz]
                        rfl
                      refine wp_region_held_drew (S := fun wx => wx.cell? ⟨w.heap.size + 1, 3, none⟩ = some Lv) (by kernel_rfl) HE9.out.box.q3 (fun hHeld9 => ?_)
                      refine wpAnyH_take (i := 0) (v := .pointer (some ⟨w.heap.size + 1, 3, none⟩)) rfl (by kernel_rfl) (by kernel_rfl) (by kernel_rfl) (fun _ _ _ h => h) (Or.inl ⟨by rfl, (by intro wx hSw; go_simp)⟩) hHeld9 ?_
                      refine wpAnyH_take (i := 1) (v := Lv) rfl (by kernel_rfl) (by kernel_rfl) (by kernel_rfl) (fun _ _ _ h => h) (Or.inl ⟨by rfl, (by intro wx hSw; go_simp)⟩) hHeld9 ?_
                      refine wpAnyH_take (i := 2) (v := .int .i64 a0) rfl (by kernel_rfl) (by kernel_rfl) (by kernel_rfl) (fun _ _ _ h => h) (Or.inl ⟨by rfl, (by intro wx hSw; go_simp)⟩) hHeld9 ?_
                      refine wpAnyH_ready (rs := [3]) (by kernel_rfl) (by simp) (AllReadyH.cons rfl (fun KK hKK => ?_) AllReadyH.nil)
                      go_simp
                      go_wp2_with (go_at_call 108; refine (HI3.out _ _ _ hz HE9.out.inn (by omega)).mono ?_; rintro e w5 ⟨rfl, hb5⟩)
                      exact ⟨rfl, HE9.out.butInner hb5, Or.inr ⟨HZ.out, rfl⟩⟩
                  | some p =>
                      obtain ⟨t, a2⟩ := p
                      have hsz2 := decP_size hz
                      go_region_law (first | (refine step_append_lies _ (by rfl) _ _ _ (by rfl) (w1.heap.size + 1) 25 iV _ 5 80 Tryz.underlying22 hiV zV0 zV1 zV2 rfl (by omega) Lv L.length xs (by rfl) (HE5.out.keep ((Below.refl _ _).alloc (Nat.le_refl _) _)).grow.ownL ⟨w5.heap.size, 0, none⟩ 1 1 [.int .i64 (kindOf t), .int .i64 (nOf t), .string (sOf t), .slice A (nL t) B, .slice C (nK t) D] (by rfl) (by rfl) (World.news_of_block (cs := #[.int .i64 (kindOf t), .int .i64 (nOf t), .string (sOf t), .slice A (nL t) B, .slice C (nK t) D]) (t := 25) (fr := (0, 0)) (heap_alloc_new w5 _)) (by simp [Value.oneCell']) (by omega) (by unfold maxLen; omega) (by omega) (HE5.out.keep ((Below.refl _ _).alloc (Nat.le_refl _) _)).grow.low (w5.heap.size + 1) (by simp) ?_; intro g cap w6 hown6 hgrow6 hat6 hlt6; have HX6 := hid (boxGrown (HE5.out.keep ((Below.refl _ _).alloc (Nat.le_refl _) (.cells #[.int .i64 (kindOf t), .int .i64 (nOf t), .string (sOf t), .slice A (nL t) B, .slice C (nK t) D] 25))) hgrow6 (HE5.out.keep ((Below.refl _ _).alloc (Nat.le_refl _) (.cells #[.int .i64 (kindOf t), .int .i64 (nOf t), .string (sOf t), .slice A (nL t) B, .slice C (nK t) D] 25))).grow.ownL); have hc6 := HX6.out.q3; have hf6 := HX6.out.f3) | (go_simp; go_wp2_with (go_at_call 108; refine (HI2.out _ _ _ _ _ hz HE9.out.inn (by omega)).mono ?_; rintro e w5 ⟨es, A, B, C, D, rfl, hb5, hF5, hS5, hL5⟩; have HE5 := hid (HE9.out.inner hb5 hL5); have HF5 := hid hF5; have HS5 := hid (HE9.out.sepKid hb5 hS5); have HS5' := hid hS5; have hc5 := HE5.out.box.q3; have hc5a := (HE5.out.keep ((Below.refl _ _).alloc (Nat.le_refl _) (.cells #[.int .i64 (kindOf t), .int .i64 (nOf t), .string (sOf t), .slice A (nL t) B, .slice C (nK t) D] 25))).box.q3; clear hF5 hS5 hL5 hb5)))
                      all_goals
                        have HE6 := hid (HE5.out.stepL _ HF5.out HS5'.out HS5.out hown6 hgrow6 hat6)
                        clear hown6 hgrow6 hat6 hlt6 HX6 hc6 hf6 HF5 HS5 HS5' HE5 hc5 hc5a
                        go_wp2_with fail
                        go_roundg a2.size
                        case rel => exact ⟨a2, L ++ [t], K ++ [nm], _, _, _, _, n', rfl, by omega, by simp; omega, by simp; omega, HE6, HX9.out.trans (next_some hz)⟩
                        case measure => omega
    · go_wp2_with fail
      refine ⟨rfl, HW1.out, Or.inr ⟨?_, rfl⟩⟩
      unfold entO
      rw [szB_none h4 h2]
      rfl
  · have HW1 := hid ((But.of (c := c) HB0.out).trans B1)
    clear B1
    go_wp2_with fail
    refine ⟨rfl, HW1.out, Or.inr ⟨?_, rfl⟩⟩
    unfold entO
    rw [szB_short h4]
    rfl
end Go.Proofs.YtknakfpciccoaaaGreatDoor
/- A list that a parser makes: what holds in memory while it grows. -/
namespace Go.Proofs.YtknakfpciccoaaaGreatDoor
open Go.RowKit

structure JI (f : Nat) (k : Int) (c : Nat) (w : World) (rb bx lo : Nat) (L : List T) (K : List ByteArray) (Lv Kv : Value) (xs : List Value) (sub : Nat → List Ent) (wr : World) : Prop where
  grow : Grow lo f wr Lv Kv L K xs sub
  res : BoxAt rb (.int .i64 0) (.int .i64 0) (.string ⟨#[]⟩) (.slice none 0 0) (.slice none 0 0) wr
  box : BoxAt bx (.int .i64 k) (.int .i64 0) (.string ⟨#[]⟩) Lv Kv wr
  but : But c w wr
  lc : c < w.heap.size
  l1 : w.heap.size ≤ rb
  l2 : w.heap.size ≤ bx
  l3 : rb < lo
  l4 : bx < lo
  l5 : rb ≠ bx
section
variable {f : Nat} {k : Int} {c : Nat} {w : World} {rb bx lo : Nat} {L : List T} {K : List ByteArray} {Lv Kv : Value} {xs : List Value} {sub : Nat → List Ent} {wr : World}
theorem JI.inner (h : JI f k c w rb bx lo L K Lv Kv xs sub wr) {w1 : World} (hB : But c wr w1) : JI f k c w rb bx lo L K Lv Kv xs sub w1 := by
  have h0 := h.lc
  have h1 := h.l1
  have h2 := h.l2
  have h3 := h.l3
  have h4 := h.l4
  exact ⟨h.grow.move hB.size (fun b hb hh => hB.block b hh (by omega)), h.res.move hB.size (hB.block _ h.res.lt (by omega)), h.box.move hB.size (hB.block _ h.box.lt (by omega)), h.but.trans hB, h0, h1, h2, h3, h4, h.l5⟩
theorem JI.keep (h : JI f k c w rb bx lo L K Lv Kv xs sub wr) {w1 : World} (hB : Below wr.heap.size wr w1) : JI f k c w rb bx lo L K Lv Kv xs sub w1 := h.inner (But.of hB)
theorem JI.putK (h : JI f k c w rb bx lo L K Lv Kv xs sub wr) {w2 : World} {Kv' : Value} {nm : ByteArray} (hk : nm.size ≤ 140737488355328)
    (hO : w2.ownsRow lo eS 1 Kv' (K.length + 1) (namesV K ++ [.string nm])) (hG : wr.grownBy w2 Kv.ownBlock) (hN : NewOr wr Kv Kv') : JI f k c w rb bx lo L (K ++ [nm]) Lv Kv' xs sub (w2.setCell ⟨bx, 4, none⟩ Kv') ∧ (w2.setCell ⟨bx, 4, none⟩ Kv').heap[c]? = wr.heap[c]? ∧ wr.heap.size ≤ (w2.setCell ⟨bx, 4, none⟩ Kv').heap.size := by
  have h0 := h.lc
  have h1 := h.l1
  have h2 := h.l2
  have h3 := h.l3
  have h4 := h.l4
  have h5 := h.l5
  have hne : ∀ b, b < lo → some b ≠ Kv.ownBlock := fun b hb e => by
    have := (h.grow.ownK.lt b e.symm).1
    omega
  have hblk : ∀ b, b < wr.heap.size → b < lo → w2.heap[b]? = wr.heap[b]? := fun b hb hh => hG.block b hb (hne b hh)
  have hset : ∀ b, b ≠ bx → (w2.setCell ⟨bx, 4, none⟩ Kv').heap[b]? = w2.heap[b]? := fun b hb => Below.heap_setCell _ _ _ _ (by simpa using hb)
  have hsz : (w2.setCell ⟨bx, 4, none⟩ Kv').heap.size = w2.heap.size := by simp [World.setCell]
  have hs2 := hG.size
  have hb := h.but
  have hbs := hb.size
  refine ⟨⟨(h.grow.addK nm hk hO hG hN).set _ _ _ (by omega), h.res.move (by omega) ((hset _ (by omega)).trans (hblk _ h.res.lt (by omega))), (h.box.move hs2 (hblk _ h.box.lt (by omega))).put4 Kv', ?_, h0, h1, h2, h3, h4, h5⟩, (hset _ (by omega)).trans (hblk _ (by omega) (by omega)), by omega⟩
  refine ⟨hG.os.trans hb.os, hG.tape.trans hb.tape, hG.output.trans hb.output, by omega, fun i hi hc => ?_⟩
  exact (hset i (by omega)).trans ((hblk i (by omega) (by omega)).trans (hb.block i hi hc))
theorem JI.putL (h : JI f k c w rb bx lo L K Lv Kv xs sub wr) {w2 : World} {Lv' : Value} {x : T} {es : List Ent} {c0 c1 c2 c3 c4 : Value} (hF : Flat wr f (.agg #[c0, c1, c2, c3, c4]) x es)
    (hS : Sep lo wr (catE sub L.length ++ es ++ [⟨Lv, L.length, Kv, K.length⟩])) (hO : w2.ownsRow lo eV 5 Lv' (L.length + 1) (xs ++ [c0, c1, c2, c3, c4])) (hG : wr.grownBy w2 Lv.ownBlock) (hN : NewOr wr Lv Lv') :
    JI f k c w rb bx lo (L ++ [x]) K Lv' Kv (xs ++ [c0, c1, c2, c3, c4]) (updE sub L.length es) (w2.setCell ⟨bx, 3, none⟩ Lv') ∧ (w2.setCell ⟨bx, 3, none⟩ Lv').heap[c]? = wr.heap[c]? ∧ wr.heap.size ≤ (w2.setCell ⟨bx, 3, none⟩ Lv').heap.size := by
  have h0 := h.lc
  have h1 := h.l1
  have h2 := h.l2
  have h3 := h.l3
  have h4 := h.l4
  have h5 := h.l5
  have hne : ∀ b, b < lo → some b ≠ Lv.ownBlock := fun b hb e => by
    have := (h.grow.ownL.lt b e.symm).1
    omega
  have hblk : ∀ b, b < wr.heap.size → b < lo → w2.heap[b]? = wr.heap[b]? := fun b hb hh => hG.block b hb (hne b hh)
  have hset : ∀ b, b ≠ bx → (w2.setCell ⟨bx, 3, none⟩ Lv').heap[b]? = w2.heap[b]? := fun b hb => Below.heap_setCell _ _ _ _ (by simpa using hb)
  have hsz : (w2.setCell ⟨bx, 3, none⟩ Lv').heap.size = w2.heap.size := by simp [World.setCell]
  have hs2 := hG.size
  have hb := h.but
  have hbs := hb.size
  refine ⟨⟨(h.grow.addL hF hS hO hG hN).set _ _ _ (by omega), h.res.move (by omega) ((hset _ (by omega)).trans (hblk _ h.res.lt (by omega))), (h.box.move hs2 (hblk _ h.box.lt (by omega))).put3 Lv', ?_, h0, h1, h2, h3, h4, h5⟩, (hset _ (by omega)).trans (hblk _ (by omega) (by omega)), by omega⟩
  refine ⟨hG.os.trans hb.os, hG.tape.trans hb.tape, hG.output.trans hb.output, by omega, fun i hi hc => ?_⟩
  exact (hset i (by omega)).trans ((hblk i (by omega) (by omega)).trans (hb.block i hi hc))
theorem JI.sepKid (h : JI f k c w rb bx lo L K Lv Kv xs sub wr) {w1 : World} {es : List Ent} (hB : But c wr w1) (hS : Sep wr.heap.size w1 es) : Sep lo w1 (catE sub L.length ++ es ++ [⟨Lv, L.length, Kv, K.length⟩]) :=
  h.grow.sep.child hB.size hS h.grow.low
theorem JI.stepL (h : JI f k c w rb bx lo L K Lv Kv xs sub wr) {w6 : World} {x : T} {es : List Ent} {c0 c1 c2 c3 c4 : Value} {lo' g cap : Nat} (o : Obj) (hF : Flat wr f (.agg #[c0, c1, c2, c3, c4]) x es) (hS' : Sep lo' wr es)
    (hS : Sep lo wr (catE sub L.length ++ es ++ [⟨Lv, L.length, Kv, K.length⟩])) (hO : w6.ownsRow lo eV 5 (.slice (some ⟨g, 0, none⟩) (L.length + 1) cap) (L.length + 1) (xs ++ [c0, c1, c2, c3, c4])) (hG : (wr.alloc o).grownBy w6 Lv.ownBlock) (hat : Lv.ownBlock = some g ∨ g = wr.heap.size + 1) :
    JI f k c w rb bx lo (L ++ [x]) K (.slice (some ⟨g, 0, none⟩) (L.length + 1) cap) Kv (xs ++ [c0, c1, c2, c3, c4]) (updE sub L.length es) (w6.setCell ⟨bx, 3, none⟩ (.slice (some ⟨g, 0, none⟩) (L.length + 1) cap)) ∧ (w6.setCell ⟨bx, 3, none⟩ (.slice (some ⟨g, 0, none⟩) (L.length + 1) cap)).heap[c]? = wr.heap[c]? ∧ wr.heap.size ≤ (w6.setCell ⟨bx, 3, none⟩ (.slice (some ⟨g, 0, none⟩) (L.length + 1) cap)).heap.size := by
  have hb : Below wr.heap.size wr (wr.alloc o) := (Below.refl _ _).alloc (Nat.le_refl _) _
  have h0 := h.lc
  have hbs := h.but.size
  have := (h.keep hb).putL (hF.keep hS' hb) (hS.keep hb.size) hO hG (newOr_of o hat)
  exact ⟨this.1, this.2.1.trans (hb.block _ (by omega)), Nat.le_trans hb.size this.2.2⟩
theorem JI.stepK (h : JI f k c w rb bx lo L K Lv Kv xs sub wr) {w6 : World} {nm : ByteArray} {g cap : Nat} (o : Obj) (hk : nm.size ≤ 140737488355328)
    (hO : w6.ownsRow lo eS 1 (.slice (some ⟨g, 0, none⟩) (K.length + 1) cap) (K.length + 1) (namesV K ++ [.string nm])) (hG : (wr.alloc o).grownBy w6 Kv.ownBlock) (hat : Kv.ownBlock = some g ∨ g = wr.heap.size + 1) :
    JI f k c w rb bx lo L (K ++ [nm]) Lv (.slice (some ⟨g, 0, none⟩) (K.length + 1) cap) xs sub (w6.setCell ⟨bx, 4, none⟩ (.slice (some ⟨g, 0, none⟩) (K.length + 1) cap)) ∧ (w6.setCell ⟨bx, 4, none⟩ (.slice (some ⟨g, 0, none⟩) (K.length + 1) cap)).heap[c]? = wr.heap[c]? ∧ wr.heap.size ≤ (w6.setCell ⟨bx, 4, none⟩ (.slice (some ⟨g, 0, none⟩) (K.length + 1) cap)).heap.size := by
  have hb : Below wr.heap.size wr (wr.alloc o) := (Below.refl _ _).alloc (Nat.le_refl _) _
  have h0 := h.lc
  have hbs := h.but.size
  have := (h.keep hb).putK hk hO hG (newOr_of o hat)
  exact ⟨this.1, this.2.1.trans (hb.block _ (by omega)), Nat.le_trans hb.size this.2.2⟩
theorem JI.boxGrown {e : TypeId} {size n : Nat} {v : Value} {ys : List Value} (h : JI f k c w rb bx lo L K Lv Kv xs sub wr) {w2 : World} (hG : wr.grownBy w2 v.ownBlock) (hO : wr.ownsRow lo e size v n ys) : BoxAt bx (.int .i64 k) (.int .i64 0) (.string ⟨#[]⟩) Lv Kv w2 := by
  have h4 := h.l4
  refine h.box.move hG.size (hG.block _ h.box.lt fun e => ?_)
  have := (hO.lt _ e.symm).1
  omega
theorem JI.start {f : Nat} {k : Int} {c : Nat} {w : World} (hc : c < w.heap.size) : JI f k c w w.heap.size (w.heap.size + 1) (w.heap.size + 2) [] [] (.slice none 0 0) (.slice none 0 0) [] (fun _ => []) ((w.alloc (.cells #[.int .i64 0, .int .i64 0, .string ⟨#[]⟩, .slice none 0 0, .slice none 0 0] 25)).alloc (.cells #[.int .i64 k, .int .i64 0, .string ⟨#[]⟩, .slice none 0 0, .slice none 0 0] 25)) := by
  refine ⟨Grow.start _ _ _ (by simp), (box_new w _ _ _ _ _).move (by simp) (Below.heap_alloc _ _ _ (by simp)), ?_, But.of (((Below.refl _ _).alloc (Nat.le_refl _) _).alloc (by simp) _), hc, by omega, by omega, by omega, by omega, by omega⟩
  have := box_new (w.alloc (.cells #[.int .i64 0, .int .i64 0, .string ⟨#[]⟩, .slice none 0 0, .slice none 0 0] 25)) (.int .i64 k) (.int .i64 0) (.string ⟨#[]⟩) (.slice none 0 0) (.slice none 0 0)
  simpa using this
/-- The result's five cells are written last. -/
theorem put_five {c : Nat} {w wr : World} {f lo rb : Nat} {v : Value} {t : T} {es : List Ent} (hB : But c w wr) (hc : c < w.heap.size) (hF : Flat wr f v t es) (hS : Sep lo wr es) (h1 : w.heap.size ≤ rb) (hlo : rb < lo) (u0 u1 u2 u3 u4 : Value) :
    But c w (((((wr.setCell ⟨rb, 0, none⟩ u0).setCell ⟨rb, 1, none⟩ u1).setCell ⟨rb, 2, none⟩ u2).setCell ⟨rb, 3, none⟩ u3).setCell ⟨rb, 4, none⟩ u4) ∧
    Flat (((((wr.setCell ⟨rb, 0, none⟩ u0).setCell ⟨rb, 1, none⟩ u1).setCell ⟨rb, 2, none⟩ u2).setCell ⟨rb, 3, none⟩ u3).setCell ⟨rb, 4, none⟩ u4) f v t es ∧
    Sep w.heap.size (((((wr.setCell ⟨rb, 0, none⟩ u0).setCell ⟨rb, 1, none⟩ u1).setCell ⟨rb, 2, none⟩ u2).setCell ⟨rb, 3, none⟩ u3).setCell ⟨rb, 4, none⟩ u4) es ∧
    (((((wr.setCell ⟨rb, 0, none⟩ u0).setCell ⟨rb, 1, none⟩ u1).setCell ⟨rb, 2, none⟩ u2).setCell ⟨rb, 3, none⟩ u3).setCell ⟨rb, 4, none⟩ u4).heap[c]? = wr.heap[c]? ∧
    (((((wr.setCell ⟨rb, 0, none⟩ u0).setCell ⟨rb, 1, none⟩ u1).setCell ⟨rb, 2, none⟩ u2).setCell ⟨rb, 3, none⟩ u3).setCell ⟨rb, 4, none⟩ u4).heap.size = wr.heap.size := by
  have hset : ∀ (w1 : World) (o : Nat) (u : Value) (b : Nat), b ≠ rb → (w1.setCell ⟨rb, o, none⟩ u).heap[b]? = w1.heap[b]? := fun w1 o u b hb => Below.heap_setCell _ _ _ _ (by simpa using hb)
  refine ⟨((((hB.setNew h1 _ _).setNew h1 _ _).setNew h1 _ _).setNew h1 _ _).setNew h1 _ _, hF.move fun b hb => ?_, ?_, ?_, by simp [World.setCell]⟩
  · have h1 := hS.lies b hb
    rw [hset _ _ _ _ (by omega), hset _ _ _ _ (by omega), hset _ _ _ _ (by omega), hset _ _ _ _ (by omega), hset _ _ _ _ (by omega)]
  · exact (hS.lower (by omega)).keep (by simp [World.setCell])
  · rw [hset _ _ _ _ (by omega), hset _ _ _ _ (by omega), hset _ _ _ _ (by omega), hset _ _ _ _ (by omega), hset _ _ _ _ (by omega)]
theorem PL.same {c : Nat} {s : ByteArray} {i : Nat} {w w' : World} (h : PL c s i w) (hb : w'.heap[c]? = w.heap[c]?) (hs : w.heap.size ≤ w'.heap.size) : PL c s i w' := h.move hs hb
end
/-- How a parser's value ends. -/
def VPost (n c : Nat) (s : ByteArray) (x : Option (T × Nat)) (after : Nat → Nat) (w : World) (e : Ending) (w' : World) : Prop :=
  But c w w' ∧ ((∃ t j es A B C D, x = some (t, j) ∧ e = .returned (five t A B C D) ∧ Flat w' n (five t A B C D) t es ∧ Sep w.heap.size w' es ∧ PL c s (after j) w') ∨ (x = none ∧ e = refusedT 2))
def VSaid (Tb : World → Prop) (s : ByteArray) (n : Nat) : Prop := ∀ (c i : Nat) (w : World), Stays Tb c → PL c s i w → Tb w → i ≤ s.size → s.size < i + n → Calls Tryz.prog 100 #[.pointer (some ⟨c, 0, none⟩)] w (VPost n c s (valN s n i) (sk s) w)
theorem v_some {Tb : World → Prop} {s : ByteArray} {n : Nat} (hv : VSaid Tb s n) {c i : Nat} {w : World} {t : T} {j : Nat} (hz : valN s n i = some (t, j)) (hS : Stays Tb c) (hL : PL c s i w) (hT : Tb w) (hi : i ≤ s.size) (hn : s.size < i + n) :
    Calls Tryz.prog 100 #[.pointer (some ⟨c, 0, none⟩)] w fun e w' => ∃ es A B C D, e = .returned (.agg #[.int .i64 (kindOf t), .int .i64 (nOf t), .string (sOf t), .slice A (nL t) B, .slice C (nK t) D]) ∧ But c w w' ∧ Flat w' n (.agg #[.int .i64 (kindOf t), .int .i64 (nOf t), .string (sOf t), .slice A (nL t) B, .slice C (nK t) D]) t es ∧ Sep w.heap.size w' es ∧ PL c s (sk s j) w' := by
  refine (hv c i w hS hL hT hi hn).mono ?_
  rintro e w' ⟨hB, ⟨t', j', es, A, B, C, D, hz', rfl, hF, hSp, hL'⟩ | ⟨hz', _⟩⟩
  · rw [hz] at hz'
    cases hz'
    exact ⟨es, A, B, C, D, rfl, hB, hF, hSp, hL'⟩
  · rw [hz] at hz'
    cases hz'
theorem v_none {Tb : World → Prop} {s : ByteArray} {n : Nat} (hv : VSaid Tb s n) {c i : Nat} {w : World} (hz : valN s n i = none) (hS : Stays Tb c) (hL : PL c s i w) (hT : Tb w) (hi : i ≤ s.size) (hn : s.size < i + n) :
    Calls Tryz.prog 100 #[.pointer (some ⟨c, 0, none⟩)] w fun e w' => e = refusedT 2 ∧ But c w w' := by
  refine (hv c i w hS hL hT hi hn).mono ?_
  rintro e w' ⟨hB, ⟨t', j', es, A, B, C, D, hz', rfl, hF, hSp, hL'⟩ | ⟨hz', rfl⟩⟩
  · rw [hz] at hz'
    cases hz'
  · exact ⟨rfl, hB⟩
theorem s_some {Tb : World → Prop} (hD : DecSaid Tb) {c : Nat} (hS : Stays Tb c) {s : ByteArray} {i : Nat} {w : World} {x : ByteArray} {j : Nat} (hz : txtS s i = some (x, j)) (h : PL c s i w) (hT : Tb w) (hs : s.size ≤ 4000) (hi : i ≤ s.size) :
    Calls Tryz.prog 181 #[.pointer (some ⟨c, 0, none⟩)] w fun e w' => e = .returned (.string x) ∧ But c w w' ∧ PL c s j w' := by
  refine (str_any hD c hS s i w h hT hs hi).mono ?_
  rintro e w' ⟨hB, ⟨x', j', hz', rfl, hL'⟩ | ⟨hz', _⟩⟩
  · rw [hz] at hz'
    cases hz'
    exact ⟨rfl, hB, hL'⟩
  · rw [hz] at hz'
    cases hz'
theorem s_none {Tb : World → Prop} (hD : DecSaid Tb) {c : Nat} (hS : Stays Tb c) {s : ByteArray} {i : Nat} {w : World} (hz : txtS s i = none) (h : PL c s i w) (hT : Tb w) (hs : s.size ≤ 4000) (hi : i ≤ s.size) :
    Calls Tryz.prog 181 #[.pointer (some ⟨c, 0, none⟩)] w fun e w' => e = refusedT 2 ∧ But c w w' := by
  refine (str_any hD c hS s i w h hT hs hi).mono ?_
  rintro e w' ⟨hB, ⟨x', j', hz', rfl, hL'⟩ | ⟨hz', rfl⟩⟩
  · rw [hz] at hz'
    cases hz'
  · exact ⟨rfl, hB⟩
end Go.Proofs.YtknakfpciccoaaaGreatDoor
