import Derived.Test.YtknakfpciccoaabGreatDoorZS35
import Derived.Test.YtknakfpciccoaabGreatDoorZS33
import Derived.Test.YtknakfpciccoaabGreatDoorZS34
import Derived.Test.YtknakfpciccoaabGreatDoorZS29
import Derived.Test.YtknakfpciccoaabGreatDoorZS22
import Derived.Test.YtknakfpciccoaabGreatDoorZS3
import Derived.Test.YtknakfpciccoaabGreatDoorZS2
import Derived.Test.YtknakfpciccoaabGreatDoorZS4
import Derived.Test.YtknakfpciccoaabGreatDoorZS11
import Derived.Test.YtknakfpciccoaabGreatDoorZS24
import Derived.Test.YtknakfpciccoaabGreatDoorZS26
import Derived.Test.YtknakfpciccoaabGreatDoorZS12
import Derived.Test.YtknakfpciccoaabGreatDoorZS13
/- The walk of a group's run: $group is a stage. -/
namespace Go.Proofs.YtknakfpciccoaabGreatDoor
open Go.RowKit

/-- What $group makes of documents. -/
def grpS (gb : T → Int ⊕ T) (es : List (ByteArray × (T → Int ⊕ T))) (ks : List ByteArray) (l : List T) : (Nat × Int) ⊕ List T := match eachE (takE gb es) l 0 [] with
  | .inl e => .inl e
  | .inr st => eachE emE (st.map (grpT ks)) 0 []
theorem row_cells5 {w wr : World} {lo g n cap : Nat} {xs : List Value} (h : w.ownsRow lo 36 5 (.slice (some ⟨g, 0, none⟩) n cap) n xs) {k : Nat} (hk : k < n) {u0 u1 u2 u3 u4 : Value} (hf : fv xs k = .agg #[u0, u1, u2, u3, u4]) (hb : wr.heap[g]? = w.heap[g]?) :
    wr.cell? ⟨g, 0 + k * 5, none⟩ = some u0 ∧ wr.cell? ⟨g, 0 + k * 5 + 1, none⟩ = some u1 ∧ wr.cell? ⟨g, 0 + k * 5 + 2, none⟩ = some u2 ∧ wr.cell? ⟨g, 0 + k * 5 + 3, none⟩ = some u3 ∧ wr.cell? ⟨g, 0 + k * 5 + 4, none⟩ = some u4 := by
  have hx : xs.length = n * 5 := h.1
  unfold fv at hf
  simp only [Value.agg.injEq, Array.mk.injEq, List.cons.injEq, and_true] at hf
  have hc : ∀ r, r < 5 → wr.cell? ⟨g, 0 + k * 5 + r, none⟩ = some (cx xs (k * 5 + r)) := fun r hr' => by
    rw [cell_of hb, show 0 + k * 5 + r = k * 5 + r by omega]
    exact row_cell h (cx_some (by omega))
  refine ⟨?_, ?_, ?_, ?_, ?_⟩
  · rw [← hf.1]; exact hc 0 (by omega)
  · rw [← hf.2.1]; exact hc 1 (by omega)
  · rw [← hf.2.2.1]; exact hc 2 (by omega)
  · rw [← hf.2.2.2.1]; exact hc 3 (by omega)
  · rw [← hf.2.2.2.2]; exact hc 4 (by omega)
set_option maxHeartbeats 4000000 in
set_option maxRecDepth 100000 in
theorem gsecond_any {Tb : World → Prop} (hV : ValidSaid Tb) (hL : Lies Tb) (w0 w2 : World) (c : Nat) (NA : Option Addr) (nc : Nat) (bv ev : Value) (ops : List ByteArray) (L : Nat → Lab) (gv : Value) (xs : List Value) (rb : Nat → Nat) (ys : Nat → List Value) (st : List (T × List T)) (ks : List ByteArray) (h : GrI w0 c NA nc bv ev ops L gv xs rb ys st w2) (hb : Below w0.heap.size w0 w2) (hk : StrsAt w0 (.slice NA (ops.length + 1) nc) ks) (ho : ops.length ≤ 100000) (hn : st.length ≤ 1000000) (hT : Tb w0) :
    Calls Tryz.prog 225 #[.pointer (some ⟨c, 0, none⟩), gv, .func (Fn.func 227) #[.pointer (some ⟨c, 0, none⟩)] #[]] w2 fun e w' => Below w0.heap.size w2 w' ∧ ((∃ (k : Nat) (x : Int), eachE emE (st.map (grpT ks)) 0 [] = .inl (k, x) ∧ x ≠ 0 ∧ e = .returned (.tuple #[.slice none 0 0, .int .i64 k, .int .i64 x])) ∨ ∃ r v, eachE emE (st.map (grpT ks)) 0 [] = .inr r ∧ e = .returned (.tuple #[v, .int .i64 0, .int .i64 0]) ∧ DocsAt w' v r) := by
  obtain ⟨GA, gc, rfl, _⟩ := h.elems hb hk ho
  have hcl := h.low c (by rw [h.lc]; intro e; cases e)
  have hlen : (st.map (grpT ks)).length = st.length := List.length_map _
  have hat : ∀ i, (hi : i < (st.map (grpT ks)).length) → AtP (fun b => b ≠ c) w2 15 (fv xs i) (st.map (grpT ks))[i] := fun i hi => by
    rw [List.getElem_map]
    exact h.grpP hb hk ho (by rw [hlen] at hi; exact hi)
  have hmain := eachG_any emE (fun k s w' => s = (st.map (grpT ks)).take k ∧ ∃ v zs, EmI w2 c xs k v zs w') 227 (fun _ _ => rfl) (.pointer (some ⟨c, 0, none⟩)) c GA gc (st.map (grpT ks)) [] w0 w2 (by rw [hlen]; exact hn) ⟨rfl, _, _, EmI.start xs h.c0 h.f0 hcl.2⟩
    (fun k s w' hI => by obtain ⟨_, v, zs, hE⟩ := hI; exact ⟨v, hE.made.cell⟩)
    (fun k s w' hI => by obtain ⟨_, v, zs, hE⟩ := hI; exact Nat.le_trans hb.size hE.size)
    (fun k s d wr hkl hd hI => by
      obtain ⟨hs, v, zs, hE⟩ := hI
      have ha := hat k hkl
      rw [hd] at ha
      obtain ⟨g1, A, C, B, D, _, hf, _, _, _⟩ := ha.at.open
      have hks : k < st.length := by rw [hlen] at hkl; exact hkl
      have hg := h.grow
      rcases h.grow.2 with ⟨e1, h0⟩ | ⟨g, cap, cur, e1, hb0, hgb, rest⟩
      · omega
      · simp only [Value.slice.injEq, true_and] at e1
        obtain ⟨rfl, rfl⟩ := e1
        have hgl := h.gl g rfl
        have hgw := h.low g (by rw [hgl]; intro e; cases e)
        obtain ⟨p0, p1, p2, p3, p4⟩ := row_cells5 hg hks hf (hE.block g hgw.2 (fun e => by rw [e, h.lc] at hgl; cases hgl))
        refine ⟨g, 0, A, B, C, D, rfl, p0, p1, p2, p3, p4, fun wx hbx => ?_⟩
        rw [hf] at ha
        have hTx : Tb wx := hL w0 hT w0 wx hT (by
          have h' := hE.keep hbx
          exact ⟨h'.os.trans hb.os, h'.tape.trans hb.tape, h'.output.trans hb.output, Nat.le_trans hb.size h'.size, fun b hb' => (h'.block b (Nat.lt_of_lt_of_le hb' hb.size) (by omega)).trans (hb.block b hb')⟩)
        refine (emit_em hV hL w2 w0 wr wx c k xs v zs s d A C B D hE hbx (by omega) hcl.1 hcl.2 hf ha hTx).mono ?_
        rintro e w' ⟨k1, k2 | ⟨s', k2, k3, k4, k5⟩⟩
        · exact ⟨k1, .inl k2⟩
        · refine ⟨k1, .inr ⟨s', k2, k3, ?_, k5⟩⟩
          rw [k4, hs, List.take_add_one, List.getElem?_eq_getElem hkl, hd]
          rfl)
  rw [hlen] at hmain
  refine hmain.mono ?_
  rintro e w' ⟨k1, k2 | ⟨s', v, k2, ⟨k3, v', zs, hE⟩, k5, k6⟩⟩
  · exact ⟨k1, .inl k2⟩
  · obtain ⟨q1, q2⟩ := emE_all _ _ _ _ k2
    rw [List.nil_append] at q1
    obtain rfl : v' = v := Option.some.inj (hE.made.cell.symm.trans k5)
    refine ⟨k1, .inr ⟨s', v', k2, k6, ?_⟩⟩
    rw [q1]
    rw [← hlen] at hE
    exact hE.docs (by rw [hlen]; exact hn) hat q2
end Go.Proofs.YtknakfpciccoaabGreatDoor
/- $group is a stage. -/
namespace Go.Proofs.YtknakfpciccoaabGreatDoor
open Go.RowKit

set_option maxHeartbeats 8000000 in
set_option maxRecDepth 100000 in
theorem grun_any {Tb : World → Prop} (hV : ValidSaid Tb) (hL : Lies Tb) (NA : Option Addr) (nc : Nat) (bv ev : Value) (es : List (ByteArray × (T → Int ⊕ T))) (ops : List ByteArray) (hops : ops = es.map Prod.fst) (ks : List ByteArray) (gb : T → Int ⊕ T) (dv : Value) (l : List T) (w : World) (hk : StrsAt w (.slice NA (ops.length + 1) nc) ks) (hby : ExprOk Tb w bv gb) (hes : EntsOk Tb w ev es) (hd : DocsAt w dv l) (hT : Tb w) :
    Calls Tryz.prog 238 #[.agg #[.slice none 0 0, .slice NA (ops.length + 1) nc, bv, ev, .slice none 0 0], dv] w (StPost (grpS gb es ks) l w) := by
  have hmf : ∀ (fn : Fn) (first cap : Array Value) (w : World), (Instr.makeFunc fn first cap).run Tryz.prog w = .ok (.func fn first cap) w := fun _ _ _ _ => rfl
  have HB1 : Hid (Below w.heap.size w (w.alloc (.cells #[.slice none 0 0, .slice NA (ops.length + 1) nc, bv, ev, .slice none 0 0] 178))) := (Below.refl _ _).alloc (Nat.le_refl _) _
  have hdl : l.length ≤ 1000000 := by obtain ⟨_, _, _, h, _⟩ := hd; exact h
  have hlen : ops.length = es.length := by rw [hops, List.length_map]
  have hen : ops.length ≤ 100000 := by obtain ⟨_, _, _, h, _⟩ := hes; omega
  have HC := hid (each_any (takE gb es) (fun k st w' => (∃ L gv xs rb ys, GrI w w.heap.size NA nc bv ev ops L gv xs rb ys st w') ∧ st.length ≤ k ∧ ∀ i, (h : i < st.length) → ∀ j, (∃ hj : j < es.length, es[j].1 = gList) → nL (st[i].2.getD j zeroT) ≤ k) 239 (fun _ _ => rfl) (.pointer (some ⟨w.heap.size, 0, none⟩)) w.heap.size dv l [] w _ HB1.out hd ⟨⟨_, _, _, _, _, GrI.start w NA nc bv ev ops⟩, Nat.le_refl _, fun i hi => absurd hi (Nat.not_lt_zero i)⟩
    (fun k s wx wy h hb => by
      obtain ⟨⟨L, gv, xs, rb, ys, hG⟩, h2⟩ := h
      exact ⟨⟨L, gv, xs, rb, ys, hG.keep hb⟩, h2⟩)
    (fun k s wx h => by
      obtain ⟨⟨L, gv, xs, rb, ys, hG⟩, h2⟩ := h
      exact ⟨_, hG.c0⟩)
    (fun k s d v wr hkl h hb ha hok => by
      obtain ⟨⟨L, gv, xs, rb, ys, hG⟩, h2, h3⟩ := h
      refine (gtake_any hL w w.heap.size NA nc bv ev es ops hops L gv xs rb ys s d v wr ks gb hG hb hk hby hes (by omega) (fun i hi j hj => ?_) ha hok hT).mono ?_
      · have := h3 i hi j (by
          obtain ⟨hj1, hj2⟩ := hj
          subst hops
          rw [List.getElem_map] at hj2
          exact ⟨by rw [List.length_map] at hj1; exact hj1, hj2⟩)
        omega
      · rintro e w' ⟨k1, k2 | ⟨st', k2, k3, k4⟩⟩
        · exact ⟨k1, .inl k2⟩
        · exact ⟨k1, .inr ⟨st', k2, k3, k4, by have := takE_len k2; omega, takE_nL k2 h3⟩⟩))
  have HSec : Hid (∀ (w2 : World) (st : List (T × List T)) (L : Nat → Lab) (gv : Value) (xs : List Value) (rb : Nat → Nat) (ys : Nat → List Value), GrI w w.heap.size NA nc bv ev ops L gv xs rb ys st w2 → Below w.heap.size w w2 → st.length ≤ 1000000 → _) := fun w2 st L gv xs rb ys hG hb hn => gsecond_any hV hL w w2 w.heap.size NA nc bv ev ops L gv xs rb ys st ks hG hb hk hen hn hT
  have Hk := hid hk
  have Hen := hid hen
  obtain ⟨DA, dc, hdv, _⟩ := hd
  obtain ⟨EA, ec, hev, _, _⟩ := hes
  obtain ⟨ty, p, fid, hbv, _, _, _⟩ := hby
  subst hdv
  subst hev
  subst hbv
  have Hdl := hid hdl
  clear hT hV hL hdl hk hen hlen hops
  go_enter Tryz.func238, Tryz.ntmps238
  go_wp2_with fail
  refine HC.out.mono ?_
  rintro e w2 ⟨b2, ⟨k, x, h1, h2, rfl⟩ | ⟨st, v, h1, h2, h3, rfl⟩⟩
  · have HB := hid (HB1.out.trans b2)
    have HF : Hid (grpS gb es ks l = .inl (k, x) ∧ x ≠ 0) := ⟨by unfold grpS; rw [h1], h2⟩
    have ez : (x == 0) = false := by simpa using h2
    clear b2 h1 h2 HC HSec
    go_wp2_with fail
    refine bodyPost_ret (v := .tuple #[.slice none 0 0, .int .i64 (k : Nat), .int .i64 x]) (by simp [results, Tryz.results238, go_sem, *]) rfl ?_
    exact ⟨HB.out, .inl ⟨k, x, HF.out.1, HF.out.2, rfl⟩⟩
  · obtain ⟨⟨L, gv, xs, rb, ys, hG⟩, hl1, _⟩ := h2
    have HB := hid (HB1.out.trans b2)
    obtain ⟨GA, gc, hgv, _⟩ := hG.elems HB.out Hk.out Hen.out
    subst hgv
    have HS2 := hid (HSec.out w2 st L _ xs rb ys hG HB.out (by have := Hdl.out; omega))
    have c42 := hG.c4
    have Hg : Hid (∀ r, eachE emE (st.map (grpT ks)) 0 [] = r → grpS gb es ks l = r) := fun r hr => by unfold grpS; rw [h1]; exact hr
    clear b2 h1 h3 hG hl1 HC HSec Hk Hen Hdl
    go_wp2_with fail
    refine HS2.out.mono ?_
    rintro e w3 ⟨b3, ⟨k, x, h1, h2, rfl⟩ | ⟨r, v2, h1, rfl, h3⟩⟩
    · have HB3 := hid (HB.out.trans b3)
      have HF := hid (And.intro (Hg.out _ h1) h2)
      clear b3 h1 h2 HS2
      go_wp2_with fail
      refine bodyPost_ret (v := .tuple #[.slice none 0 0, .int .i64 (k : Nat), .int .i64 x]) (by simp [results, Tryz.results238, go_sem, *]) rfl ?_
      exact ⟨HB3.out, .inl ⟨k, x, HF.out.1, HF.out.2, rfl⟩⟩
    · have HB3 := hid (HB.out.trans b3)
      have HF := hid (And.intro (Hg.out _ h1) h3)
      clear b3 h1 h3 HS2
      go_wp2_with fail
      refine bodyPost_ret (v := .tuple #[v2, .int .i64 0, .int .i64 0]) (by simp [results, Tryz.results238, go_sem, *]) rfl ?_
      exact ⟨HB3.out, .inr ⟨r, v2, HF.out.1, rfl, HF.out.2⟩⟩
theorem meth_group (p : Value) (w : World) : (method 419 178 p "sheaf/pipe.run").run Tryz.prog w = .ok (238, p) w := by kernel_rfl
set_option maxHeartbeats 4000000 in
set_option maxRecDepth 100000 in
theorem group_ok {Tb : World → Prop} (hV : ValidSaid Tb) (hL : Lies Tb) {w : World} {NA : Option Addr} {nc : Nat} {bv ev : Value} {es : List (ByteArray × (T → Int ⊕ T))} {ops : List ByteArray} (hops : ops = es.map Prod.fst) {ks : List ByteArray} {gb : T → Int ⊕ T} (hk : StrsAt w (.slice NA (ops.length + 1) nc) ks) (hby : ExprOk Tb w bv gb) (hes : EntsOk Tb w ev es) : StageOk Tb w (.iface 178 (.agg #[.slice none 0 0, .slice NA (ops.length + 1) nc, bv, ev, .slice none 0 0])) (grpS gb es ks) :=
  ⟨_, _, _, rfl, meth_group _, fun _ _ => rfl, fun wr dv l hb hd hT => grun_any hV hL NA nc bv ev es ops hops ks gb dv l wr (hk.keep hb) (hby.keep hb) (hes.keep hb) hd hT⟩
end Go.Proofs.YtknakfpciccoaabGreatDoor
/- Stages are read: $group. -/
namespace Go.Proofs.YtknakfpciccoaabGreatDoor
open Go.RowKit

def opGroup : ByteArray := ⟨#[36, 103, 114, 111, 117, 112]⟩
set_option maxHeartbeats 8000000 in
set_option maxRecDepth 100000 in
theorem pstage_group {Tb : World → Prop} (hV : ValidSaid Tb) (hL : Lies Tb) (gb : T → Int ⊕ T) (es : List (ByteArray × (T → Int ⊕ T))) (ks : List ByteArray) (t j : T) (k6 : kindOf t = 6) (k1 : nK t = 1) (hj : elt t 0 = j) (hx : nam t 0 = opGroup) (h : ∀ (v : Value) (wB w : World), At wB 13 v j → okA j → Below wB.heap.size wB w → Tb w → Calls Tryz.prog 125 #[v] w (GpPost Tb wB gb es ks w)) : PsSaid Tb t (grpS gb es ks) := by
  intro v wB w ha hk hb0 hT
  have l1 : nL t = 1 := by have := hk.names k6; omega
  have hkj : okA j := by rw [← hj]; exact hk.elt (by omega)
  have Ha := hid ha
  obtain ⟨g1, La, Ka, Lc, Kc, hg1, rfl, _, _, _⟩ := ha.open
  have HB1 : Hid (Below w.heap.size w (w.alloc (.cells #[.int .i64 (kindOf t), .int .i64 (nOf t), .string (sOf t), .slice La (nL t) Lc, .slice Ka (nK t) Kc] 36))) := (Below.refl _ _).alloc (Nat.le_refl _) _
  have HC := hid (ppOp_any t j opGroup hj hx _ wB _ Ha.out hk k6 k1 (hb0.trans (HB1.out.mono hb0.size)))
  have HE : Hid (∀ (v : Value) (w' : World), At wB 13 v j → Below w.heap.size w w' → Calls Tryz.prog 125 #[v] w' (GpPost Tb wB gb es ks w')) := fun v w' h1 h2 => h v wB w' h1 hkj (hb0.trans (h2.mono hb0.size)) (hL w hT w w' hT h2)
  clear ha hk hg1 hb0 hT h k6 k1 l1 hkj Ha hj hx
  unfold opGroup at *
  go_enter Tryz.func94, Tryz.ntmps94
  go_wp2_with fail
  refine HC.out.mono ?_
  rintro e w2 ⟨b2, A, B, C, D, rfl, hat⟩
  have HBa : Hid (Below w2.heap.size w2 (w2.alloc (.cells #[.int .i64 (kindOf j), .int .i64 (nOf j), .string (sOf j), .slice A (nL j) B, .slice C (nK j) D] 36))) := (Below.refl _ _).alloc (Nat.le_refl _) _
  have HB2 := hid (HB1.out.trans (b2.mono HB1.out.size))
  have HB3 := hid (HB2.out.trans (HBa.out.mono HB2.out.size))
  have HP := hid (HE.out _ _ hat HB3.out)
  have HY := hid (box_new w2 (.int .i64 (kindOf j)) (.int .i64 (nOf j)) (.string (sOf j)) (.slice A (nL j) B) (.slice C (nK j) D))
  clear b2 hat HC HE
  have y0 := HY.out.q0
  have y1 := HY.out.q1
  have y2 := HY.out.q2
  have y3 := HY.out.q3
  have y4 := HY.out.q4
  go_wp2_with fail
  refine HP.out.mono ?_
  rintro e w5 ⟨b5, NA, nc, ty, p, EA, ec, rfl, hs⟩
  have HB5 := hid (HB3.out.trans (b5.mono HB3.out.size))
  have HS := hid ((hs.later (wa := w) (Below.refl _ _) HB3.out.size).mono (Q := fun x => StageOk Tb x (.iface 178 (.agg #[.slice none 0 0, .slice NA (es.length + 1) nc, .iface ty p, .slice EA es.length ec, .slice none 0 0])) (grpS gb es ks)) fun w' hw hh => by
    obtain ⟨h1, h2, h3⟩ := hh
    have := group_ok hV hL (ops := es.map Prod.fst) rfl (by rw [List.length_map]; exact h1) h2 h3
    rw [List.length_map] at this
    exact this)
  clear b5 hs HP y0 y1 y2 y3 y4
  go_wp2_with fail
  go_ret
  exact ⟨HB5.out, _, _, rfl, HS.out⟩
end Go.Proofs.YtknakfpciccoaabGreatDoor
/- A tree whose numbers fit lies in some world. -/
namespace Go.Proofs.YtknakfpciccoaabGreatDoor
open Go.RowKit

def FitT : Nat → T → Prop
  | 0, _ => False
  | f + 1, t => Fits t ∧ (∀ i, i < nL t → FitT f (elt t i)) ∧ ∀ i, i < nK t → (nam t i).size ≤ 140737488355328
theorem lies_list {f : Nat} {t : T} (ih : ∀ i, i < nL t → ∀ w : World, ∃ w' v, Below w.heap.size w w' ∧ At w' f v (elt t i)) : ∀ k, k ≤ nL t → ∀ w : World, ∃ (w' : World) (xs : List Value), Below w.heap.size w w' ∧ xs.length = k * 5 ∧ ∀ i, i < k → At w' f (fv xs i) (elt t i)
  | 0, _, w => ⟨w, [], Below.refl _ _, rfl, fun i hi => absurd hi (Nat.not_lt_zero i)⟩
  | k + 1, hk, w => by
    obtain ⟨w1, xs, b1, hx, h1⟩ := lies_list ih k (by omega) w
    obtain ⟨w2, v, b2, ha⟩ := ih k (by omega) w1
    obtain ⟨g, La, Ka, Lc, Kc, rfl, rfl, _⟩ := ha.open
    refine ⟨w2, xs ++ [.int .i64 (kindOf (elt t k)), .int .i64 (nOf (elt t k)), .string (sOf (elt t k)), .slice La (nL (elt t k)) Lc, .slice Ka (nK (elt t k)) Kc], b1.trans (b2.mono b1.size), by rw [List.length_append, hx]; simp; omega, fun i hi => ?_⟩
    by_cases e : i < k
    · rw [fv_left hx e]
      exact At.keep b2 (h1 i e)
    · obtain rfl : i = k := by omega
      rw [fv_right hx]
      exact ha
theorem lies_some : ∀ (f : Nat) (t : T), FitT f t → ∀ w : World, ∃ w' v, Below w.heap.size w w' ∧ At w' f v t
  | 0, _, h, _ => h.elim
  | f + 1, t, ⟨hf, he, hn⟩, w => by
    obtain ⟨w1, xs, b1, hx, h1⟩ := lies_list (fun i hi => lies_some f (elt t i) (he i hi)) (nL t) (Nat.le_refl _) w
    have bA : Below w1.heap.size w1 (w1.alloc (.cells xs.toArray 36)) := (Below.refl _ _).alloc (Nat.le_refl _) _
    have bB : Below (w1.heap.size + 1) (w1.alloc (.cells xs.toArray 36)) ((w1.alloc (.cells xs.toArray 36)).alloc (.cells (namesV (kOf t)).toArray 9)) := (Below.refl _ _).alloc (by simp) _
    have r1 : (w1.alloc (.cells xs.toArray 36)).ownsRow 0 36 5 (.slice (some ⟨w1.heap.size, 0, none⟩) (nL t) (nL t)) (nL t) xs := by
      have := World.ownsRow_lit (base := 0) (e := 36) (size := 5) w1 xs.toArray (nL t) (Nat.zero_le _) (by have := hf.l1; unfold maxLen; omega) (by simpa using hx)
      simpa using this
    have r2 : ((w1.alloc (.cells xs.toArray 36)).alloc (.cells (namesV (kOf t)).toArray 9)).ownsRow 0 9 1 (.slice (some ⟨w1.heap.size + 1, 0, none⟩) (nK t) (nK t)) (nK t) (namesV (kOf t)) := by
      have := World.ownsRow_lit (base := 0) (e := 9) (size := 1) (w1.alloc (.cells xs.toArray 36)) (namesV (kOf t)).toArray (nK t) (Nat.zero_le _) (by have := hf.m1; unfold maxLen; omega) (by simp [namesV, nK])
      simpa using this
    have hC : Below w1.heap.size w1 ((w1.alloc (.cells xs.toArray 36)).alloc (.cells (namesV (kOf t)).toArray 9)) := bA.trans (bB.mono (by omega))
    generalize ((w1.alloc (.cells xs.toArray 36)).alloc (.cells (namesV (kOf t)).toArray 9)) = w3 at bB r2 hC
    refine ⟨w3, _, b1.trans (hC.mono b1.size), some ⟨w1.heap.size, 0, none⟩, some ⟨w1.heap.size + 1, 0, none⟩, nL t, nK t, rfl, hf, fun i hi => ?_, fun i hi => ?_⟩
    · have hc : ∀ j, j < 5 → w3.cell? ⟨w1.heap.size, i * 5 + j, none⟩ = some (cx xs (i * 5 + j)) := fun j hj => (bB.cell (p := ⟨w1.heap.size, i * 5 + j, none⟩) (by simp)).trans (row_cell r1 (cx_some (by omega)))
      have hlt : w1.heap.size < w3.heap.size := by have := bB.size; simp at this; omega
      refine ⟨w1.heap.size, 0, cx xs (i * 5), cx xs (i * 5 + 1), cx xs (i * 5 + 2), cx xs (i * 5 + 3), cx xs (i * 5 + 4), rfl, hlt, (by rw [Nat.zero_add]; exact hc 0 (by omega)), (by rw [Nat.zero_add]; exact hc 1 (by omega)), (by rw [Nat.zero_add]; exact hc 2 (by omega)), (by rw [Nat.zero_add]; exact hc 3 (by omega)), (by rw [Nat.zero_add]; exact hc 4 (by omega)), ?_⟩
      exact At.keep hC (h1 i hi)
    · have hi' : i < (kOf t).length := hi
      refine ⟨w1.heap.size + 1, 0, rfl, (r2.lt _ rfl).2, hn i hi, ?_⟩
      rw [Nat.zero_add]
      refine row_cell r2 ?_
      simp [namesV, nam, List.getD_eq_getElem?_getD, hi']
/-- What is printed of a tree is parsed as it, as it is read. -/
theorem parse_tree {f : Nat} {t : T} (hf : FitT f t) (hg : Good 12 t) (hl : (wrT 12 t).length ≤ 4000) : eJ (baL (wrT 12 t)) = 0 ∧ tJ (baL (wrT 12 t)) = canT 12 t := by
  obtain ⟨w, v, _, ha⟩ := lies_some f t hf default
  exact (parse_wr ha hg).2 hl
end Go.Proofs.YtknakfpciccoaabGreatDoor
/- Bytes and values, pure: what was read is written as it was. -/
namespace Go.Proofs.YtknakfpciccoaabGreatDoor
open Go.RowKit

end Go.Proofs.YtknakfpciccoaabGreatDoor
/- The walk of the program's Compare. -/
namespace Go.Proofs.YtknakfpciccoaabGreatDoor
open Go.RowKit

end Go.Proofs.YtknakfpciccoaabGreatDoor
/- The walk of the program's Decode, in one form. -/
namespace Go.Proofs.YtknakfpciccoaabGreatDoor
open Go.RowKit

end Go.Proofs.YtknakfpciccoaabGreatDoor
/- The walk of Texts: it returns true. -/
namespace Go.Proofs.YtknakfpciccoaabGreatDoor
open Go.RowKit

end Go.Proofs.YtknakfpciccoaabGreatDoor
/- document. -/
namespace Go.Proofs.YtknakfpciccoaabGreatDoor
open Go.RowKit

/-- The text of a document that the statements make. -/
def docA (id : Int) (i : Nat) : ByteArray := ((⟨#[123, 34, 95, 105, 100, 34, 58]⟩ ++ baL (Lib.itoa id)) ++ ⟨#[44, 34, 97, 34, 58]⟩) ++ vt i
def docS (id : Int) (i : Nat) (o : Option Nat) : ByteArray := (match o with | none => docA id i | some j => (docA id i ++ ⟨#[44, 34, 99, 34, 58]⟩) ++ vt j) ++ ⟨#[125]⟩
theorem itoa30 {n : Int} (h0 : 0 ≤ n) (h1 : n < 30) : (baL (Lib.itoa n)).size ≤ 2 := by
  obtain ⟨k, rfl⟩ : ∃ k : Nat, n = (k : Int) := ⟨n.toNat, by omega⟩
  have h : ((List.range 30).all fun k => decide ((baL (Lib.itoa ((k : Nat) : Int))).size ≤ 2)) = true := by kernel_rfl
  exact of_decide_eq_true (List.all_eq_true.1 h k (List.mem_range.2 (by omega)))
set_option maxHeartbeats 4000000 in
set_option maxRecDepth 100000 in
theorem document_any {Tb : World → Prop} (hI : ItoaSaid Tb) (hL : Lies Tb) (id c d : Int) (w : World) (i0 : 0 ≤ id) (i1 : id < 30) (c0 : -9223372036854775808 ≤ c) (c1 : c ≤ 9223372036854775807) (d0 : -9223372036854775808 ≤ d) (d1 : d ≤ 9223372036854775807) (hT : Tb w) :
    Calls Tryz.prog 20 #[.int .i64 id, .int .i64 c, .int .i64 d] w fun e w' => Below w.heap.size w w' ∧ ∃ i o, i < 36 ∧ (∀ j, o = some j → j < 36) ∧ e = .returned (.string (docS id i o)) := by
  have HI := hid (hI id w (by omega) (by omega) hT)
  have HT : Hid (∀ w' : World, Below w.heap.size w w' → Tb w') := fun w' hb => hL w hT w w' hT hb
  have HV : Hid (∀ (c : Int) (w : World), -9223372036854775808 ≤ c → c ≤ 9223372036854775807 → Tb w → Calls Tryz.prog 32 #[.int .i64 c] w (ValPostV w)) := fun c w h0 h1 ht => value_any' hI hL c w h0 h1 ht
  have HP : Hid (∀ w, Calls Tryz.prog 11 #[.int .i64 d, .int .i64 3] w fun e w' => e = .returned (.int .i64 (absZ d % 3)) ∧ w' = w) := fun w => pick_any d 3 w d0 d1 (by omega) (by omega)
  have HQ : Hid (-9223372036854775808 ≤ d.tdiv 3 ∧ d.tdiv 3 ≤ 9223372036854775807) := by
    show _ ∧ _
    have h1 := Int.tdiv_mul_add_tmod d 3
    by_cases h : 0 ≤ d
    · rw [Int.tdiv_eq_ediv_of_nonneg h]; omega
    · have : d.tdiv 3 = -((-d).tdiv 3) := by rw [Int.neg_tdiv]; simp
      rw [this, Int.tdiv_eq_ediv_of_nonneg (by omega)]; omega
  have hq : IntKind.i64.wrap (d.tdiv 3) = d.tdiv 3 := by rw [IntKind.wrap_i64]; have := HQ.out; omega
  have Hz := hid (itoa30 i0 i1)
  have Hc := hid (And.intro c0 c1)
  clear hT hI hL
  obtain ⟨a1, e1, z1, r1⟩ := cat_run ⟨#[123, 34, 95, 105, 100, 34, 58]⟩ (baL (Lib.itoa id)) 7 (baL (Lib.itoa id)).size rfl rfl (by have := Hz.out; omega)
  obtain ⟨a2, e2, z2, r2⟩ := cat_run a1 ⟨#[44, 34, 97, 34, 58]⟩ a1.size 5 rfl rfl (by have := Hz.out; omega)
  have E2 := hid (And.intro e1 e2)
  have Z2 : Hid (a2.size ≤ 14) := by show _ ≤ _; have := Hz.out; omega
  clear e1 e2 z1 z2 Hz
  generalize hbi : baL (Lib.itoa id) = bi at HI r1 E2
  have Hbi := hid hbi
  clear hbi
  go_enter Tryz.func20, Tryz.ntmps20
  go_wp2_with fail
  refine HI.out.mono ?_
  rintro e w1 ⟨rfl, b1⟩
  have HB1 := hid b1
  have HV1 := hid (HV.out c w1 Hc.out.1 Hc.out.2 (HT.out _ b1))
  clear b1 HI
  go_wp2_with fail
  refine HV1.out.mono ?_
  rintro e w2 ⟨sv, ⟨i, hi, rfl⟩, rfl, b2⟩
  have HB2 := hid (HB1.out.trans (b2.mono HB1.out.size))
  have Hi := hid hi
  obtain ⟨a3, e3, z3, r3⟩ := cat_run a2 (vt i) a2.size (vt i).size rfl rfl (by have := Z2.out; have := vt_le hi; omega)
  have E3 : Hid (a3 = docA id i) := by show _ = _; rw [e3, E2.out.2, E2.out.1, ← Hbi.out]; rfl
  have Z3 : Hid (a3.size ≤ 24) := by show _ ≤ _; have := Z2.out; have := vt_le hi; omega
  clear b2 hi HV1 e3 z3
  generalize vt i = si at *
  go_wp2_with fail
  refine (HP.out w2).mono ?_
  rintro e w3 ⟨rfl, rfl⟩
  by_cases hp : 0 < absZ d % 3
  · have HV2 := hid (HV.out (d.tdiv 3) w3 HQ.out.1 HQ.out.2 (HT.out _ HB2.out))
    obtain ⟨a4, e4, z4, r4⟩ := cat_run a3 ⟨#[44, 34, 99, 34, 58]⟩ a3.size 5 rfl rfl (by have := Z3.out; omega)
    have E4 := hid e4
    have Z4 : Hid (a4.size ≤ 29) := by show _ ≤ _; have := Z3.out; omega
    clear e4 z4
    go_wp2_with fail
    refine HV2.out.mono ?_
    rintro e w4 ⟨sv2, ⟨j, hj, rfl⟩, rfl, b4⟩
    have HB4 := hid (HB2.out.trans (b4.mono HB2.out.size))
    have Hj := hid hj
    obtain ⟨a5, e5, z5, r5⟩ := cat_run a4 (vt j) a4.size (vt j).size rfl rfl (by have := Z4.out; have := vt_le hj; omega)
    obtain ⟨a6, e6, z6, r6⟩ := cat_run a5 ⟨#[125]⟩ a5.size 1 rfl rfl (by have := Z4.out; have := vt_le hj; omega)
    have E6 : Hid (a6 = docS id i (some j)) := by show _ = _; rw [e6, e5, E4.out, E3.out]; rfl
    clear b4 hj HV2 e5 z5 e6 z6
    generalize vt j = sj at *
    go_wp2_with fail
    go_ret
    exact ⟨HB4.out, i, some j, Hi.out, fun j' hj' => by cases hj'; exact Hj.out, by rw [E6.out]; rfl⟩
  · obtain ⟨a6, e6, z6, r6⟩ := cat_run a3 ⟨#[125]⟩ a3.size 1 rfl rfl (by have := Z3.out; omega)
    have E6 : Hid (a6 = docS id i none) := by show _ = _; rw [e6, E3.out]; rfl
    clear e6 z6
    go_wp2_with fail
    go_ret
    exact ⟨HB2.out, i, none, Hi.out, (fun j' hj' => by cases hj'), by rw [E6.out]; rfl⟩
end Go.Proofs.YtknakfpciccoaabGreatDoor
/- The documents that the statements make, as trees. -/
namespace Go.Proofs.YtknakfpciccoaabGreatDoor
open Go.RowKit

def docT (id : Int) (i : Nat) (o : Option Nat) : T := match o with
  | none => mkT 6 0 ByteArray.empty [nT id, tv i] [⟨#[95, 105, 100]⟩, ⟨#[97]⟩]
  | some j => mkT 6 0 ByteArray.empty [nT id, tv i, tv j] [⟨#[95, 105, 100]⟩, ⟨#[97]⟩, ⟨#[99]⟩]
theorem vt_print11 : ((List.range 36).all fun i => decide (wrT 11 (tv i) = (vt i).data.toList)) = true := by kernel_rfl
theorem vt_wr11 {i : Nat} (h : i < 36) : wrT 11 (tv i) = (vt i).data.toList := of_decide_eq_true (List.all_eq_true.1 vt_print11 i (List.mem_range.2 h))
theorem nT_wr (n : Int) : wrT 11 (nT n) = Lib.itoa n := by
  rw [wrT_leaf (by show (3 : Int) ≠ 5; decide) (by show (3 : Int) ≠ 6; decide)]
  rfl
theorem ba_list {s : ByteArray} {l : List UInt8} (h : s.data.toList = l) : s = baL l := by
  apply (data_eq_iff _ _).1
  rw [h]
  simp [baL]
theorem app_list (a b : ByteArray) : (a ++ b).data.toList = a.data.toList ++ b.data.toList := by simp
theorem qId : quoL ⟨#[95, 105, 100]⟩ = [34, 95, 105, 100, 34] := by kernel_rfl
theorem qA : quoL ⟨#[97]⟩ = [34, 97, 34] := by kernel_rfl
theorem qC : quoL ⟨#[99]⟩ = [34, 99, 34] := by kernel_rfl
theorem docS_wr {id : Int} {i : Nat} {o : Option Nat} (hi : i < 36) (ho : ∀ j, o = some j → j < 36) : docS id i o = baL (wrT 12 (docT id i o)) := by
  apply ba_list
  cases o with
  | none =>
    have e : wrT 12 (docT id i none) = 123 :: ((([] ++ ([] ++ (quoL ⟨#[95, 105, 100]⟩ ++ (58 :: wrT 11 (nT id))))) ++ ([44] ++ (quoL ⟨#[97]⟩ ++ (58 :: wrT 11 (tv i))))) ++ [125]) := rfl
    rw [e, vt_wr11 hi, nT_wr, qId, qA]
    unfold docS docA
    simp only [app_list]
    simp [baL]
  | some j =>
    have e : wrT 12 (docT id i (some j)) = 123 :: (((([] ++ ([] ++ (quoL ⟨#[95, 105, 100]⟩ ++ (58 :: wrT 11 (nT id))))) ++ ([44] ++ (quoL ⟨#[97]⟩ ++ (58 :: wrT 11 (tv i))))) ++ ([44] ++ (quoL ⟨#[99]⟩ ++ (58 :: wrT 11 (tv j))))) ++ [125]) := rfl
    rw [e, vt_wr11 hi, vt_wr11 (ho j rfl), nT_wr, qId, qA, qC]
    unfold docS docA
    simp only [app_list]
    simp [baL]
/-- Numbers and lengths fit, as a test. -/
def fitB : Nat → T → Bool
  | 0, _ => false
  | f + 1, t => (decide (-9223372036854775808 ≤ kindOf t) && decide (kindOf t ≤ 9223372036854775807) && decide (-9223372036854775808 ≤ nOf t) && decide (nOf t ≤ 9223372036854775807) && decide ((sOf t).size ≤ 140737488355328) && decide (nL t ≤ 1759218604442) && decide (nK t ≤ 8796093022208)) && ((List.range (nL t)).all fun i => fitB f (elt t i)) && ((List.range (nK t)).all fun i => decide ((nam t i).size ≤ 140737488355328))
theorem fitB_fit : ∀ (f : Nat) (t : T), fitB f t = true → FitT f t
  | 0, _, h => by cases h
  | f + 1, t, h => by
    unfold fitB at h
    simp only [Bool.and_eq_true, decide_eq_true_eq, List.all_eq_true, List.mem_range] at h
    obtain ⟨⟨⟨⟨⟨⟨⟨⟨h1, h2⟩, h3⟩, h4⟩, h5⟩, h6⟩, h7⟩, h8⟩, h9⟩ := h
    exact ⟨⟨h1, h2, h3, h4, h5, h6, h7⟩, fun i hi => fitB_fit f _ (h8 i hi), h9⟩
theorem tv_fitB : ((List.range 36).all fun i => fitB 3 (tv i)) = true := by kernel_rfl
theorem tv_fit {i : Nat} (h : i < 36) : FitT 3 (tv i) := fitB_fit 3 _ (List.all_eq_true.1 tv_fitB i (List.mem_range.2 h))
theorem tv_good11B : ((List.range 36).all fun i => (chkT 11 (tv i) 1048576).isSome) = true := by kernel_rfl
theorem tv_good11 {i : Nat} (h : i < 36) : Good 11 (tv i) := by
  have h1 := List.all_eq_true.1 tv_good11B i (List.mem_range.2 h)
  rcases chk_says 11 (tv i) 1048576 (by omega) with ⟨_, h2, _⟩ | ⟨h3, _⟩
  · exact h2
  · rw [h3] at h1; cases h1
theorem tv_can : (List.range 36).map (fun i => canT 11 (tv i)) = (List.range 36).map tv := by kernel_rfl
theorem tv_can11 {i : Nat} (h : i < 36) : canT 11 (tv i) = tv i := by
  have := congrArg (fun l => l[i]?) tv_can
  simpa [h] using this
theorem nT_good (n : Int) (m : Nat) : Good m (nT n) := by
  have h : leafGood (nT n) := ⟨rfl, rfl, .inr (.inr (.inl ⟨rfl, noText_mk 3 n [] []⟩))⟩
  cases m with
  | zero => exact h
  | succ m => exact .inl h
theorem nT_fit {n : Int} (h0 : -9223372036854775808 ≤ n) (h1 : n ≤ 9223372036854775807) : FitT 3 (nT n) :=
  ⟨⟨by show -9223372036854775808 ≤ (3 : Int); omega, by show (3 : Int) ≤ 9223372036854775807; omega, h0, h1, by show (0 : Nat) ≤ _; omega, by show (0 : Nat) ≤ _; omega, by show (0 : Nat) ≤ _; omega⟩, fun i hi => absurd hi (Nat.not_lt_zero i), fun i hi => absurd hi (Nat.not_lt_zero i)⟩
theorem docT_elt {id : Int} {i : Nat} {o : Option Nat} (ho : ∀ j, o = some j → j < 36) (hi : i < 36) {k : Nat} (hk : k < nL (docT id i o)) : elt (docT id i o) k = nT id ∨ ∃ j, j < 36 ∧ elt (docT id i o) k = tv j := by
  cases o with
  | none =>
    have hk' : k < 2 := hk
    match k, hk' with
    | 0, _ => exact .inl rfl
    | 1, _ => exact .inr ⟨i, hi, rfl⟩
  | some j =>
    have hk' : k < 3 := hk
    match k, hk' with
    | 0, _ => exact .inl rfl
    | 1, _ => exact .inr ⟨i, hi, rfl⟩
    | 2, _ => exact .inr ⟨j, ho j rfl, rfl⟩
theorem docT_good {id : Int} {i : Nat} {o : Option Nat} (hi : i < 36) (ho : ∀ j, o = some j → j < 36) : Good 12 (docT id i o) := by
  refine .inr ⟨by cases o <;> rfl, by cases o <;> exact noText_mk _ _ _ _, fun k hk => ?_, .inr ⟨by cases o <;> rfl, by cases o <;> rfl, by cases o <;> kernel_rfl, by cases o <;> kernel_rfl⟩⟩
  rcases docT_elt ho hi hk with e | ⟨j, hj, e⟩
  · rw [e]; exact nT_good id 11
  · rw [e]; exact tv_good11 hj
theorem docT_fit {id : Int} {i : Nat} {o : Option Nat} (h0 : -9223372036854775808 ≤ id) (h1 : id ≤ 9223372036854775807) (hi : i < 36) (ho : ∀ j, o = some j → j < 36) : FitT 4 (docT id i o) := by
  have hF : Fits (docT id i o) := by
    cases o with
    | none => exact ⟨by show (-9223372036854775808 : Int) ≤ 6; omega, by show (6 : Int) ≤ 9223372036854775807; omega, by show (-9223372036854775808 : Int) ≤ 0; omega, by show (0 : Int) ≤ 9223372036854775807; omega, by show (0 : Nat) ≤ _; omega, by show (2 : Nat) ≤ _; omega, by show (2 : Nat) ≤ _; omega⟩
    | some j => exact ⟨by show (-9223372036854775808 : Int) ≤ 6; omega, by show (6 : Int) ≤ 9223372036854775807; omega, by show (-9223372036854775808 : Int) ≤ 0; omega, by show (0 : Int) ≤ 9223372036854775807; omega, by show (0 : Nat) ≤ _; omega, by show (3 : Nat) ≤ _; omega, by show (3 : Nat) ≤ _; omega⟩
  refine ⟨hF, fun k hk => ?_, fun k hk => ?_⟩
  · rcases docT_elt ho hi hk with e | ⟨j, hj, e⟩
    · rw [e]; exact nT_fit h0 h1
    · rw [e]; exact tv_fit hj
  · cases o with
    | none =>
      have hk' : k < 2 := hk
      match k, hk' with
      | 0, _ => show (3 : Nat) ≤ _; omega
      | 1, _ => show (1 : Nat) ≤ _; omega
    | some j =>
      have hk' : k < 3 := hk
      match k, hk' with
      | 0, _ => show (3 : Nat) ≤ _; omega
      | 1, _ => show (1 : Nat) ≤ _; omega
      | 2, _ => show (1 : Nat) ≤ _; omega
theorem docT_can {id : Int} {i : Nat} {o : Option Nat} (hi : i < 36) (ho : ∀ j, o = some j → j < 36) : canT 12 (docT id i o) = docT id i o := by
  have hn : canT 11 (nT id) = nT id := rfl
  cases o with
  | none =>
    show mkT 6 0 ByteArray.empty [canT 11 (nT id), canT 11 (tv i)] _ = _
    rw [hn, tv_can11 hi]; rfl
  | some j =>
    show mkT 6 0 ByteArray.empty [canT 11 (nT id), canT 11 (tv i), canT 11 (tv j)] _ = _
    rw [hn, tv_can11 hi, tv_can11 (ho j rfl)]; rfl
theorem docS_size {id : Int} {i : Nat} {o : Option Nat} (h0 : 0 ≤ id) (h1 : id < 30) (hi : i < 36) (ho : ∀ j, o = some j → j < 36) : (docS id i o).size ≤ 40 := by
  have h2 := itoa30 h0 h1
  have h3 := vt_le hi
  cases o with
  | none => unfold docS docA; simp only [ByteArray.size_append]; have : (⟨#[123, 34, 95, 105, 100, 34, 58]⟩ : ByteArray).size = 7 := rfl; have : (⟨#[44, 34, 97, 34, 58]⟩ : ByteArray).size = 5 := rfl; have : (⟨#[125]⟩ : ByteArray).size = 1 := rfl; omega
  | some j => have h4 := vt_le (ho j rfl); unfold docS docA; simp only [ByteArray.size_append]; have : (⟨#[123, 34, 95, 105, 100, 34, 58]⟩ : ByteArray).size = 7 := rfl; have : (⟨#[44, 34, 97, 34, 58]⟩ : ByteArray).size = 5 := rfl; have : (⟨#[44, 34, 99, 34, 58]⟩ : ByteArray).size = 5 := rfl; have : (⟨#[125]⟩ : ByteArray).size = 1 := rfl; omega
/-- A document's text is read as the document. -/
theorem doc_parse {id : Int} {i : Nat} {o : Option Nat} (h0 : 0 ≤ id) (h1 : id < 30) (hi : i < 36) (ho : ∀ j, o = some j → j < 36) : eJ (docS id i o) = 0 ∧ tJ (docS id i o) = docT id i o := by
  have hw := docS_wr (id := id) hi ho
  have hz := docS_size h0 h1 hi ho
  rw [hw, baL_size] at hz
  have hp := parse_tree (docT_fit (id := id) (by omega) (by omega) hi ho) (docT_good hi ho) (by omega)
  rw [docT_can hi ho] at hp
  rw [hw]
  exact hp
end Go.Proofs.YtknakfpciccoaabGreatDoor
/- What the documents of the statements are: they may be inserted; their numbers. -/
namespace Go.Proofs.YtknakfpciccoaabGreatDoor
open Go.RowKit

theorem docT_isDoc (id : Int) (i : Nat) (o : Option Nat) : isDoc (docT id i o) = true := by cases o <;> kernel_rfl
theorem docT_id (id : Int) (i : Nat) (o : Option Nat) : idT (docT id i o) = nT id := by cases o <;> kernel_rfl
theorem tv_bytesB : ((List.range 36).all fun i => decide (bytesT 11 (tv i) ≤ 100)) = true := by kernel_rfl
theorem tv_bytes {i : Nat} (h : i < 36) : bytesT 11 (tv i) ≤ 100 := of_decide_eq_true (List.all_eq_true.1 tv_bytesB i (List.mem_range.2 h))
theorem nT_bytes (n : Int) : bytesT 11 (nT n) = 9 := by kernel_rfl
theorem docT_bytes {id : Int} {i : Nat} {o : Option Nat} (hi : i < 36) (ho : ∀ j, o = some j → j < 36) : bytesT 12 (docT id i o) ≤ 300 := by
  have h1 := tv_bytes hi
  have h2 := nT_bytes id
  cases o with
  | none =>
    have e : bytesT 12 (docT id i none) = 5 + sumK (docT id i none) 2 + (((0 + bytesT 11 (nT id)) + bytesT 11 (tv i))) := rfl
    have k : sumK (docT id i none) 2 ≤ 50 := by
      have : sumK (docT id i none) 2 = sumK (docT 0 0 none) 2 := rfl
      rw [this]; decide
    omega
  | some j =>
    have h3 := tv_bytes (ho j rfl)
    have e : bytesT 12 (docT id i (some j)) = 5 + sumK (docT id i (some j)) 3 + ((((0 + bytesT 11 (nT id)) + bytesT 11 (tv i))) + bytesT 11 (tv j)) := rfl
    have k : sumK (docT id i (some j)) 3 ≤ 50 := by
      have : sumK (docT id i (some j)) 3 = sumK (docT 0 0 (some 0)) 3 := rfl
      rw [this]; decide
    omega
theorem docT_isV {id : Int} {i : Nat} {o : Option Nat} (hi : i < 36) (ho : ∀ j, o = some j → j < 36) : isV (docT id i o) = true := (isV_iff _).2 ⟨docT_good hi ho, by have := docT_bytes (id := id) hi ho; omega⟩
theorem docT_small {id : Int} {i : Nat} {o : Option Nat} (hi : i < 36) (ho : ∀ j, o = some j → j < 36) : tooBig (docT id i o) = false := by
  unfold tooBig
  rw [docT_isV hi ho]
  have h1 := encT_len 12 _ (docT_good (id := id) hi ho)
  have h2 := docT_bytes (id := id) hi ho
  have h3 : (encS true (encT 12 (docT id i o))).size = (encT 12 (docT id i o)).length := baL_size _
  rw [h3]
  simp
  omega
theorem doc_in {id : Int} {i : Nat} {o : Option Nat} (h0 : 0 ≤ id) (h1 : id < 30) (hi : i < 36) (ho : ∀ j, o = some j → j < 36) : inErr (docS id i o) = none := by
  obtain ⟨h2, h3⟩ := doc_parse h0 h1 hi ho
  unfold inErr
  rw [h2, h3, docT_isDoc, docT_small hi ho]
  simp
theorem nT_cmp (a b : Int) : (cmpT 16 (nT a) (nT b) == 0) = (a == b) := by
  have e : cmpT 16 (nT a) (nT b) = cmpI a b := by
    have ka : kindOf (nT a) = 3 := rfl
    have kb : kindOf (nT b) = 3 := rfl
    rw [cmpT, ka, kb, if_neg (by simp), if_pos (.inr rfl)]
    rfl
  rw [e]
  by_cases h1 : a < b
  · rw [cmpI_lt h1, beq_eq_false_iff_ne.2 (by omega : a ≠ b)]; rfl
  · by_cases h2 : b < a
    · rw [cmpI_gt h2, beq_eq_false_iff_ne.2 (by omega : a ≠ b)]; rfl
    · obtain rfl : a = b := by omega
      rw [cmpI_eq (Int.le_refl _) (Int.le_refl _)]; simp
theorem doc_same (a b : Int) (i : Nat) (o : Option Nat) : sameId (nT a) (docT b i o) = (b == a) := by
  unfold sameId
  rw [docT_id, nT_cmp]
end Go.Proofs.YtknakfpciccoaabGreatDoor
/- quoted, path. -/
namespace Go.Proofs.YtknakfpciccoaabGreatDoor
open Go.RowKit

/-- The paths that the statements make. -/
def pthL : List ByteArray := [⟨#[97]⟩, ⟨#[99]⟩, ⟨#[97, 46, 98]⟩, ⟨#[97, 46, 49]⟩, ⟨#[95, 105, 100]⟩, ⟨#[99, 46, 48]⟩]
def pth (k : Nat) : ByteArray := pthL.getD k ByteArray.empty
def pthN (c : Int) : Nat := (absZ c % 6).toNat
theorem pthN_lt (c : Int) : pthN c < 6 := by unfold pthN; omega
set_option maxHeartbeats 4000000 in
set_option maxRecDepth 100000 in
theorem path_any (c : Int) (w : World) (h0 : -9223372036854775808 ≤ c) (h1 : c ≤ 9223372036854775807) : Calls Tryz.prog 9 #[.int .i64 c] w fun e w' => e = .returned (.string (pth (pthN c))) ∧ Below w.heap.size w w' := by
  have HP : Hid (∀ w, Calls Tryz.prog 11 #[.int .i64 c, .int .i64 6] w fun e w' => e = .returned (.int .i64 (absZ c % 6)) ∧ w' = w) := fun w => pick_any c 6 w h0 h1 (by omega) (by omega)
  have HN : Hid (pthN c = (absZ c % 6).toNat) := rfl
  have hb : 0 ≤ absZ c % 6 ∧ absZ c % 6 < 6 := by omega
  generalize pthN c = pn at *
  obtain ⟨m, hm⟩ : ∃ m, absZ c % 6 = m := ⟨_, rfl⟩
  rw [hm] at HP HN hb
  clear hm h0 h1
  obtain h | h | h | h | h | h : m = 0 ∨ m = 1 ∨ m = 2 ∨ m = 3 ∨ m = 4 ∨ m = 5 := by omega
  all_goals
    subst h
    have hn := HN.out
    simp at hn
    subst hn
    clear HN hb
    go_enter Tryz.func9, Tryz.ntmps9
    go_wp2_with fail
    refine (HP.out _).mono ?_
    rintro e w2 ⟨rfl, rfl⟩
    go_wp2_with fail
    go_ret
    exact ⟨rfl, (Below.refl _ _).alloc (Nat.le_refl _) _⟩
end Go.Proofs.YtknakfpciccoaabGreatDoor
