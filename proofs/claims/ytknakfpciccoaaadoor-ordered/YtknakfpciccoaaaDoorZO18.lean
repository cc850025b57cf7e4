import Derived.Test.YtknakfpciccoaaaDoorZO17
import Derived.Test.YtknakfpciccoaaaDoorZO15
/- The walk of the reference's inner. -/
namespace Go.Proofs.YtknakfpciccoaaaDoor
open Go.RowKit

def FirstPost (m : Nat) (s : ByteArray) (w : World) (e : Ending) (w' : World) : Prop :=
  Below w.heap.size w w' ∧ ((∃ t r es A B C D, decR m s = some (t, r) ∧ e = .returned (.tuple #[.agg #[.int .i64 (kindOf t), .int .i64 (nOf t), .string (sOf t), .slice A (nL t) B, .slice C (nK t) D], .string r, .bool true]) ∧ Flat w' m (.agg #[.int .i64 (kindOf t), .int .i64 (nOf t), .string (sOf t), .slice A (nL t) B, .slice C (nK t) D]) t es ∧ Sep w.heap.size w' es) ∨
    (decR m s = none ∧ ∃ k n s' A a B C c D r, e = .returned (.tuple #[.agg #[.int .i64 k, .int .i64 n, .string s', .slice A a B, .slice C c D], .string r, .bool false])))
def FirstSaid (m : Nat) : Prop := ∀ (s : ByteArray) (w : World), s.size ≤ 140737488355328 → Calls Tryd.prog 33 #[.string s, .int .i64 ((m : Int) - 1)] w (FirstPost m s w)
def InnerPost (m : Nat) (k : Int) (a : ByteArray) (w : World) (e : Ending) (w' : World) : Prop :=
  Below w.heap.size w w' ∧ ((∃ ks ls es A B C D, ents (decR m) (k == 6) a.size a = some (ks, ls) ∧ e = .returned (.tuple #[.agg #[.int .i64 k, .int .i64 0, .string ⟨#[]⟩, .slice A ls.length B, .slice C ks.length D], .bool true]) ∧ Flat w' (m + 1) (.agg #[.int .i64 k, .int .i64 0, .string ⟨#[]⟩, .slice A ls.length B, .slice C ks.length D]) (mkT k 0 ByteArray.empty ls ks) es ∧ Sep w.heap.size w' es) ∨
    (ents (decR m) (k == 6) a.size a = none ∧ ∃ A n B C c D, e = .returned (.tuple #[.agg #[.int .i64 k, .int .i64 0, .string ⟨#[]⟩, .slice A n B, .slice C c D], .bool false])))
/-- What holds at the loop's head. -/
structure EJ (f : Nat) (k : Int) (w : World) (L : List T) (K : List ByteArray) (Lv Kv : Value) (xs : List Value) (sub : Nat → List Ent) (wr : World) : Prop where
  grow : Grow (w.heap.size + 2) f wr Lv Kv L K xs sub
  box : BoxAt w.heap.size (.int .i64 k) (.int .i64 0) (.string ⟨#[]⟩) Lv Kv wr
  res : BoxAt (w.heap.size + 1) (.int .i64 0) (.int .i64 0) (.string ⟨#[]⟩) (.slice none 0 0) (.slice none 0 0) wr
  bel : Below w.heap.size w wr
section
variable {f : Nat} {k : Int} {w : World} {L : List T} {K : List ByteArray} {Lv Kv : Value} {xs : List Value} {sub : Nat → List Ent} {wr : World}
theorem EJ.keep (h : EJ f k w L K Lv Kv xs sub wr) {w1 : World} (hB : Below wr.heap.size wr w1) : EJ f k w L K Lv Kv xs sub w1 :=
  ⟨h.grow.keep hB, h.box.move hB.size (hB.block _ h.box.lt), h.res.move hB.size (hB.block _ h.res.lt), h.bel.trans (hB.mono h.bel.size)⟩
theorem EJ.stepK (h : EJ f k w L K Lv Kv xs sub wr) {w6 : World} {nm : ByteArray} {g cap : Nat} (o : Obj) (hk : nm.size ≤ 140737488355328)
    (hO : w6.ownsRow (w.heap.size + 2) eS 1 (.slice (some ⟨g, 0, none⟩) (K.length + 1) cap) (K.length + 1) (namesV K ++ [.string nm])) (hG : (wr.alloc o).grownBy w6 Kv.ownBlock) (hat : Kv.ownBlock = some g ∨ g = wr.heap.size + 1) :
    EJ f k w L (K ++ [nm]) Lv (.slice (some ⟨g, 0, none⟩) (K.length + 1) cap) xs sub (w6.setCell ⟨w.heap.size, 4, none⟩ (.slice (some ⟨g, 0, none⟩) (K.length + 1) cap)) := by
  have h' := h.keep ((Below.refl _ _).alloc (Nat.le_refl _) o)
  have hne : ∀ b, b ≤ w.heap.size + 1 → some b ≠ Kv.ownBlock := fun b hb e => by
    have := (h'.grow.ownK.lt b e.symm).1
    omega
  have hblk : ∀ b, b < (wr.alloc o).heap.size → b ≤ w.heap.size + 1 → w6.heap[b]? = (wr.alloc o).heap[b]? := fun b hb hh => hG.block b hb (hne b hh)
  have hset : ∀ b, b ≠ w.heap.size → (w6.setCell ⟨w.heap.size, 4, none⟩ (.slice (some ⟨g, 0, none⟩) (K.length + 1) cap)).heap[b]? = w6.heap[b]? := fun b hb => Below.heap_setCell _ _ _ _ (by simpa using hb)
  have hsz : (w6.setCell ⟨w.heap.size, 4, none⟩ (.slice (some ⟨g, 0, none⟩) (K.length + 1) cap)).heap.size = w6.heap.size := by simp [World.setCell]
  have hs2 := hG.size
  refine ⟨(h'.grow.addK nm hk hO hG (newOr_of o hat)).set _ _ _ (by omega), (h'.box.move hs2 (hblk _ h'.box.lt (by omega))).put4 _, h'.res.move (by omega) ((hset _ (by omega)).trans (hblk _ h'.res.lt (by omega))), ?_⟩
  exact (h'.bel.grown hG h'.bel.size (fun b e => by have := (h'.grow.ownK.lt b e).1; omega)).setCell (Nat.le_refl _) _
theorem EJ.stepL (h : EJ f k w L K Lv Kv xs sub wr) {w6 : World} {x : T} {es : List Ent} {c0 c1 c2 c3 c4 : Value} {lo g cap : Nat} (o : Obj) (hF : Flat wr f (.agg #[c0, c1, c2, c3, c4]) x es) (hS' : Sep lo wr es)
    (hS : Sep (w.heap.size + 2) wr (catE sub L.length ++ es ++ [⟨Lv, L.length, Kv, K.length⟩])) (hO : w6.ownsRow (w.heap.size + 2) eV 5 (.slice (some ⟨g, 0, none⟩) (L.length + 1) cap) (L.length + 1) (xs ++ [c0, c1, c2, c3, c4])) (hG : (wr.alloc o).grownBy w6 Lv.ownBlock) (hat : Lv.ownBlock = some g ∨ g = wr.heap.size + 1) :
    EJ f k w (L ++ [x]) K (.slice (some ⟨g, 0, none⟩) (L.length + 1) cap) Kv (xs ++ [c0, c1, c2, c3, c4]) (updE sub L.length es) (w6.setCell ⟨w.heap.size, 3, none⟩ (.slice (some ⟨g, 0, none⟩) (L.length + 1) cap)) := by
  have hb : Below wr.heap.size wr (wr.alloc o) := (Below.refl _ _).alloc (Nat.le_refl _) o
  have h' := h.keep hb
  have hne : ∀ b, b ≤ w.heap.size + 1 → some b ≠ Lv.ownBlock := fun b hb e => by
    have := (h'.grow.ownL.lt b e.symm).1
    omega
  have hblk : ∀ b, b < (wr.alloc o).heap.size → b ≤ w.heap.size + 1 → w6.heap[b]? = (wr.alloc o).heap[b]? := fun b hb hh => hG.block b hb (hne b hh)
  have hset : ∀ b, b ≠ w.heap.size → (w6.setCell ⟨w.heap.size, 3, none⟩ (.slice (some ⟨g, 0, none⟩) (L.length + 1) cap)).heap[b]? = w6.heap[b]? := fun b hb => Below.heap_setCell _ _ _ _ (by simpa using hb)
  have hsz : (w6.setCell ⟨w.heap.size, 3, none⟩ (.slice (some ⟨g, 0, none⟩) (L.length + 1) cap)).heap.size = w6.heap.size := by simp [World.setCell]
  have hs2 := hG.size
  refine ⟨(h'.grow.addL (hF.keep hS' hb) (hS.keep hb.size) hO hG (newOr_of o hat)).set _ _ _ (by omega), (h'.box.move hs2 (hblk _ h'.box.lt (by omega))).put3 _, h'.res.move (by omega) ((hset _ (by omega)).trans (hblk _ h'.res.lt (by omega))), ?_⟩
  exact (h'.bel.grown hG h'.bel.size (fun b e => by have := (h'.grow.ownL.lt b e).1; omega)).setCell (Nat.le_refl _) _
theorem boxGrownJ {e : TypeId} {size n : Nat} {v : Value} {ys : List Value} (h : EJ f k w L K Lv Kv xs sub wr) {w2 : World} (hG : wr.grownBy w2 v.ownBlock) (hO : wr.ownsRow (w.heap.size + 2) e size v n ys) : BoxAt w.heap.size (.int .i64 k) (.int .i64 0) (.string ⟨#[]⟩) Lv Kv w2 := by
  refine h.box.move hG.size (hG.block _ h.box.lt fun e => ?_)
  have := (hO.lt _ e.symm).1
  omega
end
set_option maxHeartbeats 4000000 in
set_option maxRecDepth 100000 in
theorem inner_any (m : Nat) (hm : m ≤ 13) (ih : FirstSaid m) (k : Int) (hk : k = 5 ∨ k = 6) (a : ByteArray) (w : World) (hs : a.size < 4294967296) :
    Calls Tryd.prog 59 #[.agg #[.int .i64 k, .int .i64 0, .string ⟨#[]⟩, .slice none 0 0, .slice none 0 0], .string a, .int .i64 m] w (InnerPost m k a w) := by
  obtain ⟨iS, hiS, zS0, zS1, zS2⟩ := info_parts infoS
  obtain ⟨iV, hiV, zV0, zV1, zV2⟩ := info_parts infoV
  have HE : Hid (EJ m k w [] [] (.slice none 0 0) (.slice none 0 0) [] (fun _ => []) ((w.alloc (.cells #[.int .i64 k, .int .i64 0, .string ⟨#[]⟩, .slice none 0 0, .slice none 0 0] 26)).alloc (.cells #[.int .i64 0, .int .i64 0, .string ⟨#[]⟩, .slice none 0 0, .slice none 0 0] 26))) := by
    refine ⟨Grow.start _ _ _ (by simp), (box_new w _ _ _ _ _).move (by simp) (Below.heap_alloc _ _ _ (by simp)), ?_, ((Below.refl _ _).alloc (Nat.le_refl _) _).alloc (by simp) _⟩
    have := box_new (w.alloc (.cells #[.int .i64 k, .int .i64 0, .string ⟨#[]⟩, .slice none 0 0, .slice none 0 0] 26)) (.int .i64 0) (.int .i64 0) (.string ⟨#[]⟩) (.slice none 0 0) (.slice none 0 0)
    simpa using this
  have HI := hid ih
  have Hk := hid hk
  clear ih hk
  go_enter Tryd.func59, Tryd.ntmps59
  go_wp2_with fail
  go_loopg [1] a.size (fun g av wr => ∃ (b : ByteArray) (L : List T) (K : List ByteArray) (Lv Kv : Value) (xs : List Value) (sub : Nat → List Ent) (n : Nat), g = b.size ∧ av = .string b ∧ b.size ≤ n ∧ L.length + b.size ≤ a.size ∧ K.length + b.size ≤ a.size ∧ Hid (EJ m k w L K Lv Kv xs sub wr) ∧ Hid (ents (decR m) (k == 6) a.size a = (ents (decR m) (k == 6) n b).map fun p => (K ++ p.1, L ++ p.2)))
  case atStart => exact ⟨a, [], [], _, _, [], fun _ => [], a.size, rfl, rfl, Nat.le_refl _, by simp, by simp, HE, by show _ = _; cases ents (decR m) (k == 6) a.size a <;> rfl⟩
  case round =>
    clear HE
    obtain ⟨b, L, K, Lv, Kv, xs, sub, n, rfl, rfl, hn, hlL, hlK, HE, HX⟩ := hrel
    have t0 := HE.out.box.q0
    by_cases h0 : b.size = 0
    · have ea := empty_of h0
      subst ea
      obtain ⟨A, B, rfl⟩ := own_shape HE.out.grow.ownL
      obtain ⟨C, D, rfl⟩ := own_shape HE.out.grow.ownK
      have r0 := HE.out.res.q0
      have r1 := HE.out.res.q1
      have r2 := HE.out.res.q2
      have r3 := HE.out.res.q3
      have r4 := HE.out.res.q4
      have s0 := HE.out.res.f0
      have s1 := HE.out.res.f1
      have s2 := HE.out.res.f2
      have s3 := HE.out.res.f3
      have s4 := HE.out.res.f4
      have t1 := HE.out.box.q1
      have t2 := HE.out.box.q2
      have t3 := HE.out.box.q3
      have t4 := HE.out.box.q4
      go_wp2_with fail
      refine bodyPost_ret (v := .tuple #[.agg #[.int .i64 k, .int .i64 0, .string ⟨#[]⟩, .slice A L.length B, .slice C K.length D], .bool true]) (by simp [results, Tryd.results59, go_sem, *]) rfl ?_
      have hE := HE.out
      have hk5 : 0 ≤ k ∧ k ≤ 100 := by have := Hk.out; omega
      have hF := hE.grow.flat k hk5.1 hk5.2 (by omega) (by omega)
      obtain ⟨p1, p2, p3⟩ := put_res2 hE.bel hF hE.grow.sep (show w.heap.size ≤ w.heap.size + 1 by omega) (by omega) (.int .i64 k) (.int .i64 0) (.string ⟨#[]⟩) (.slice A L.length B) (.slice C K.length D)
      refine ⟨p1, Or.inl ⟨K, L, _, A, B, C, D, ?_, rfl, p2, p3⟩⟩
      rw [HX.out, ents_empty _ _ _ _ h0]
      simp
    · have ha := nonempty_of h0
      obtain ⟨n', rfl⟩ : ∃ n', n = n' + 1 := ⟨n - 1, by omega⟩
      rcases Hk.out with rfl | rfl
      · have HX3 := hid (HX.out.trans (ents_L (n := n') (L := L) (K := K) h0))
        clear HX
        go_wp2_with fail
        refine (HI.out b _ (by omega)).mono ?_
        rintro e w1 ⟨hb1, ⟨t, r, es, A, B, C, D, hz, rfl, hF, hS⟩ | ⟨hz, kk, nn, ss, A, an, B, C, cn, D, r, rfl⟩⟩
        · have hsz2 := decR_size hz
          have HE1 := hid (HE.out.keep hb1)
          have HEa := hid (HE1.out.keep ((Below.refl _ _).alloc (Nat.le_refl _) (.cells #[.int .i64 (kindOf t), .int .i64 (nOf t), .string (sOf t), .slice A (nL t) B, .slice C (nK t) D] 26)))
          have HEb := hid (HEa.out.keep ((Below.refl _ _).alloc (Nat.le_refl _) (.cells #[.int .i64 (kindOf t), .int .i64 (nOf t), .string (sOf t), .slice A (nL t) B, .slice C (nK t) D] 26)))
          have hba : Below w1.heap.size w1 (w1.alloc (.cells #[.int .i64 (kindOf t), .int .i64 (nOf t), .string (sOf t), .slice A (nL t) B, .slice C (nK t) D] 26)) := (Below.refl _ _).alloc (Nat.le_refl _) _
          have HF := hid (hF.keep hS hba)
          have HS' := hid (hS.keep hba.size)
          have HS := hid ((HE.out.grow.sep.child hb1.size hS HE.out.grow.low).keep hba.size)
          have HX4 := hid (HX3.out.trans (next_some hz))
          have c3 := HEa.out.box.q3
          clear hb1 hF hS hba
          go_wp2_with (at_builtin; refine wpList_append_lies _ rfl (.tmp 47) (.tmp 49) 23 rfl (w.heap.size + 2) 26 iV _ 5 80 Tryd.underlying23 hiV zV0 zV1 zV2 rfl (by omega) Lv L.length xs rfl HEb.out.grow.ownL ⟨w1.heap.size + 1, 0, none⟩ 1 1 [.int .i64 (kindOf t), .int .i64 (nOf t), .string (sOf t), .slice A (nL t) B, .slice C (nK t) D] (by rfl) rfl (by have := World.news_of_block (cs := #[.int .i64 (kindOf t), .int .i64 (nOf t), .string (sOf t), .slice A (nL t) B, .slice C (nK t) D]) (t := 26) (fr := (0, 0)) (heap_alloc_new (w1.alloc (.cells #[.int .i64 (kindOf t), .int .i64 (nOf t), .string (sOf t), .slice A (nL t) B, .slice C (nK t) D] 26)) (.cells #[.int .i64 (kindOf t), .int .i64 (nOf t), .string (sOf t), .slice A (nL t) B, .slice C (nK t) D] 26)); simpa using this) (by simp [Value.oneCell']) (by omega) (by unfold maxLen; omega) (by omega) HEb.out.grow.low (w1.heap.size + 2) (by simp) ?_; intro g cap w6 hown6 hgrow6 hat6 hlt6; have HX6 := hid (boxGrownJ HEb.out hgrow6 HEb.out.grow.ownL); have hc6 := HX6.out.q3; have hf6 := HX6.out.f3)
          have HE6 := hid (HEa.out.stepL _ HF.out HS'.out HS.out hown6 hgrow6 (hat6.imp id fun e => by simp; omega))
          clear hown6 hgrow6 hat6 hlt6 HX6 hc6 hf6 HF HS HS' HEa HEb HE1 c3
          go_wp2_with fail
          go_roundg r.size
          case rel => exact ⟨r, L ++ [t], K, _, _, _, _, n', rfl, rfl, by omega, by simp; omega, by omega, HE6, HX4⟩
          case measure => omega
        · have HZ : Hid (ents (decR m) (5 == 6) a.size a = none) := HX3.out.trans (next_none hz)
          have HEa := hid ((HE.out.keep hb1).keep ((Below.refl _ _).alloc (Nat.le_refl _) (.cells #[.int .i64 kk, .int .i64 nn, .string ss, .slice A an B, .slice C cn D] 26)))
          obtain ⟨A1, B1, eL⟩ := own_shape HE.out.grow.ownL
          subst eL
          obtain ⟨C1, D1, eK⟩ := own_shape HE.out.grow.ownK
          subst eK
          clear hb1
          have r0 := HEa.out.res.q0
          have r1 := HEa.out.res.q1
          have r2 := HEa.out.res.q2
          have r3 := HEa.out.res.q3
          have r4 := HEa.out.res.q4
          have s0 := HEa.out.res.f0
          have s1 := HEa.out.res.f1
          have s2 := HEa.out.res.f2
          have s3 := HEa.out.res.f3
          have s4 := HEa.out.res.f4
          have v0 := HEa.out.box.q0
          have v1 := HEa.out.box.q1
          have v2 := HEa.out.box.q2
          have v3 := HEa.out.box.q3
          have v4 := HEa.out.box.q4
          go_wp2_with fail
          refine bodyPost_ret (v := .tuple #[.agg #[.int .i64 5, .int .i64 0, .string ⟨#[]⟩, .slice A1 L.length B1, .slice C1 K.length D1], .bool false]) (by simp [results, Tryd.results59, go_sem, *]) rfl ?_
          have hb : w.heap.size ≤ w.heap.size + 1 := by omega
          exact ⟨((((HEa.out.bel.setCell hb _).setCell hb _).setCell hb _).setCell hb _).setCell hb _, Or.inr ⟨HZ.out, _, _, _, _, _, _, rfl⟩⟩
      · go_wp2_with fail
        refine (sized_any b 2 _ (by omega) (by omega)).mono ?_
        rintro e w0 ⟨hb0, ⟨nm, b1, hz2, rfl⟩ | ⟨hz2, rfl⟩⟩
        · have hsz1 := szB_size hz2
          have HX3 := hid (HX.out.trans (ents_K (n := n') (L := L) (K := K) h0 hz2))
          have HE0 := hid (HE.out.keep hb0)
          have HE0a := hid (HE0.out.keep ((Below.refl _ _).alloc (Nat.le_refl _) (.cells #[.string nm] 9)))
          have c4 := HE0.out.box.q4
          clear hb0 HX HE t0
          go_wp2_with (at_builtin; refine wpList_append_lies _ rfl (.tmp 29) (.tmp 31) 24 rfl (w.heap.size + 2) 9 iS _ 1 16 Tryd.underlying24 hiS zS0 zS1 zS2 rfl (by omega) Kv K.length (namesV K) rfl HE0a.out.grow.ownK ⟨w0.heap.size, 0, none⟩ 1 1 [.string nm] (by rfl) rfl (World.news_of_block (cs := #[.string nm]) (t := 9) (fr := (0, 0)) (heap_alloc_new w0 _)) (by simp [Value.oneCell']) (by omega) (by unfold maxLen; omega) (by omega) HE0a.out.grow.low (w0.heap.size + 1) (by simp) ?_; intro g4 cap4 w7 hown7 hgrow7 hat7 hlt7; have HX7 := hid (boxGrownJ HE0a.out hgrow7 HE0a.out.grow.ownK); have hc7 := HX7.out.q4; have hf7 := HX7.out.f4)
          have HE8 := hid (HE0.out.stepK _ (by omega) hown7 hgrow7 hat7)
          clear hown7 hgrow7 hat7 hlt7 HX7 hc7 hf7 HE0 HE0a c4
          go_wp2_with fail
          refine (HI.out b1 _ (by omega)).mono ?_
          rintro e w1 ⟨hb1, ⟨t, r, es, A, B, C, D, hz, rfl, hF, hS⟩ | ⟨hz, kk, nn, ss, A, an, B, C, cn, D, r, rfl⟩⟩
          · have hsz2 := decR_size hz
            have HE1 := hid (HE8.out.keep hb1)
            have HEa := hid (HE1.out.keep ((Below.refl _ _).alloc (Nat.le_refl _) (.cells #[.int .i64 (kindOf t), .int .i64 (nOf t), .string (sOf t), .slice A (nL t) B, .slice C (nK t) D] 26)))
            have HEb := hid (HEa.out.keep ((Below.refl _ _).alloc (Nat.le_refl _) (.cells #[.int .i64 (kindOf t), .int .i64 (nOf t), .string (sOf t), .slice A (nL t) B, .slice C (nK t) D] 26)))
            have hba : Below w1.heap.size w1 (w1.alloc (.cells #[.int .i64 (kindOf t), .int .i64 (nOf t), .string (sOf t), .slice A (nL t) B, .slice C (nK t) D] 26)) := (Below.refl _ _).alloc (Nat.le_refl _) _
            have HF := hid (hF.keep hS hba)
            have HS' := hid (hS.keep hba.size)
            have HS := hid ((HE8.out.grow.sep.child hb1.size hS HE8.out.grow.low).keep hba.size)
            have HX4 := hid (HX3.out.trans (next_some hz))
            have c3 := HEa.out.box.q3
            clear hb1 hF hS hba
            go_wp2_with (at_builtin; refine wpList_append_lies _ rfl (.tmp 47) (.tmp 49) 23 rfl (w.heap.size + 2) 26 iV _ 5 80 Tryd.underlying23 hiV zV0 zV1 zV2 rfl (by omega) Lv L.length xs rfl HEb.out.grow.ownL ⟨w1.heap.size + 1, 0, none⟩ 1 1 [.int .i64 (kindOf t), .int .i64 (nOf t), .string (sOf t), .slice A (nL t) B, .slice C (nK t) D] (by rfl) rfl (by have := World.news_of_block (cs := #[.int .i64 (kindOf t), .int .i64 (nOf t), .string (sOf t), .slice A (nL t) B, .slice C (nK t) D]) (t := 26) (fr := (0, 0)) (heap_alloc_new (w1.alloc (.cells #[.int .i64 (kindOf t), .int .i64 (nOf t), .string (sOf t), .slice A (nL t) B, .slice C (nK t) D] 26)) (.cells #[.int .i64 (kindOf t), .int .i64 (nOf t), .string (sOf t), .slice A (nL t) B, .slice C (nK t) D] 26)); simpa using this) (by simp [Value.oneCell']) (by omega) (by unfold maxLen; omega) (by omega) HEb.out.grow.low (w1.heap.size + 2) (by simp) ?_; intro g cap w6 hown6 hgrow6 hat6 hlt6; have HX6 := hid (boxGrownJ HEb.out hgrow6 HEb.out.grow.ownL); have hc6 := HX6.out.q3; have hf6 := HX6.out.f3)
            have HE6 := hid (HEa.out.stepL _ HF.out HS'.out HS.out hown6 hgrow6 (hat6.imp id fun e => by simp; omega))
            clear hown6 hgrow6 hat6 hlt6 HX6 hc6 hf6 HF HS HS' HEa HEb HE1 c3
            go_wp2_with fail
            go_roundg r.size
            case rel => exact ⟨r, L ++ [t], K ++ [nm], _, _, _, _, n', rfl, rfl, by omega, by simp; omega, by simp; omega, HE6, HX4⟩
            case measure => omega
          · have HZ : Hid (ents (decR m) (6 == 6) a.size a = none) := HX3.out.trans (next_none hz)
            have HEa := hid ((HE8.out.keep hb1).keep ((Below.refl _ _).alloc (Nat.le_refl _) (.cells #[.int .i64 kk, .int .i64 nn, .string ss, .slice A an B, .slice C cn D] 26)))
            obtain ⟨A1, B1, eL⟩ := own_shape HE8.out.grow.ownL
            subst eL
            clear hb1
            have r0 := HEa.out.res.q0
            have r1 := HEa.out.res.q1
            have r2 := HEa.out.res.q2
            have r3 := HEa.out.res.q3
            have r4 := HEa.out.res.q4
            have s0 := HEa.out.res.f0
            have s1 := HEa.out.res.f1
            have s2 := HEa.out.res.f2
            have s3 := HEa.out.res.f3
            have s4 := HEa.out.res.f4
            have v0 := HEa.out.box.q0
            have v1 := HEa.out.box.q1
            have v2 := HEa.out.box.q2
            have v3 := HEa.out.box.q3
            have v4 := HEa.out.box.q4
            go_wp2_with fail
            refine bodyPost_ret (v := .tuple #[.agg #[.int .i64 6, .int .i64 0, .string ⟨#[]⟩, .slice A1 L.length B1, .slice (some ⟨g4, 0, none⟩) (K.length + 1) cap4], .bool false]) (by simp [results, Tryd.results59, go_sem, *]) rfl ?_
            have hb : w.heap.size ≤ w.heap.size + 1 := by omega
            exact ⟨((((HEa.out.bel.setCell hb _).setCell hb _).setCell hb _).setCell hb _).setCell hb _, Or.inr ⟨HZ.out, _, _, _, _, _, _, rfl⟩⟩
        · have HZ : Hid (ents (decR m) (6 == 6) a.size a = none) := HX.out.trans (ents_K0 h0 hz2)
          have HEa := hid (HE.out.keep hb0)
          obtain ⟨A1, B1, eL⟩ := own_shape HE.out.grow.ownL
          subst eL
          obtain ⟨C1, D1, eK⟩ := own_shape HE.out.grow.ownK
          subst eK
          clear hb0
          have r0 := HEa.out.res.q0
          have r1 := HEa.out.res.q1
          have r2 := HEa.out.res.q2
          have r3 := HEa.out.res.q3
          have r4 := HEa.out.res.q4
          have s0 := HEa.out.res.f0
          have s1 := HEa.out.res.f1
          have s2 := HEa.out.res.f2
          have s3 := HEa.out.res.f3
          have s4 := HEa.out.res.f4
          have v0 := HEa.out.box.q0
          have v1 := HEa.out.box.q1
          have v2 := HEa.out.box.q2
          have v3 := HEa.out.box.q3
          have v4 := HEa.out.box.q4
          go_wp2_with fail
          refine bodyPost_ret (v := .tuple #[.agg #[.int .i64 6, .int .i64 0, .string ⟨#[]⟩, .slice A1 L.length B1, .slice C1 K.length D1], .bool false]) (by simp [results, Tryd.results59, go_sem, *]) rfl ?_
          have hb : w.heap.size ≤ w.heap.size + 1 := by omega
          exact ⟨((((HEa.out.bel.setCell hb _).setCell hb _).setCell hb _).setCell hb _).setCell hb _, Or.inr ⟨HZ.out, _, _, _, _, _, _, rfl⟩⟩
end Go.Proofs.YtknakfpciccoaaaDoor
/- The walk of the reference's first. -/
namespace Go.Proofs.YtknakfpciccoaaaDoor
open Go.RowKit

theorem byte_0 {s : ByteArray} (h : 1 ≤ s.size) : numB (pre s 1) = (s[0]'h).toNat := by
  have hp := pre_size h
  have h2 := numTo_succ (pre s 1) 0 (by omega)
  have h3 := numTo_all (pre s 1)
  rw [hp] at h3
  rw [← h3, h2, numTo_zero]
  simp [pre, ByteArray.getElem_extract]
theorem first_fin {m : Nat} {s r : ByteArray} {w wr : World} (k n : Int) (x : ByteArray) (hk0 : 0 ≤ k) (hk1 : k ≤ 100) (hn : -9223372036854775808 ≤ n ∧ n ≤ 9223372036854775807) (hx : x.size ≤ 140737488355328) (hd : decR (m + 1) s = some (leafT k n x, r)) (hB : Below w.heap.size w wr) :
    FirstPost (m + 1) s w (.returned (.tuple #[.agg #[.int .i64 k, .int .i64 n, .string x, .slice none 0 0, .slice none 0 0], .string r, .bool true])) wr :=
  ⟨hB, Or.inl ⟨leafT k n x, r, _, none, 0, none, 0, hd, rfl, flat_leaf wr m k n x hk0 hk1 hn.1 hn.2 hx, sep_leaf _ _⟩⟩
theorem first_not {m : Nat} {s r : ByteArray} {w wr : World} {k n : Int} {x : ByteArray} {A C : Option Addr} {a c B D : Nat} (hd : decR (m + 1) s = none) (hB : Below w.heap.size w wr) :
    FirstPost (m + 1) s w (.returned (.tuple #[.agg #[.int .i64 k, .int .i64 n, .string x, .slice A a B, .slice C c D], .string r, .bool false])) wr :=
  ⟨hB, Or.inr ⟨hd, _, _, _, _, _, _, _, _, _, _, rfl⟩⟩
theorem decR_eq (m : Nat) : decR (m + 1) = stepD true (some (decR m)) := rfl
theorem empty_size : (⟨#[]⟩ : ByteArray).size ≤ 140737488355328 := by show (0 : Nat) ≤ _; omega
theorem below_set5 {w wr : World} (h : Below w.heap.size w wr) {b : Nat} (hb : w.heap.size ≤ b) (u0 u1 u2 u3 u4 : Value) : Below w.heap.size w (((((wr.setCell ⟨b, 0, none⟩ u0).setCell ⟨b, 1, none⟩ u1).setCell ⟨b, 2, none⟩ u2).setCell ⟨b, 3, none⟩ u3).setCell ⟨b, 4, none⟩ u4) :=
  ((((h.setCell hb _).setCell hb _).setCell hb _).setCell hb _).setCell hb _
set_option maxHeartbeats 2000000 in
set_option maxRecDepth 100000 in
theorem first_1 (m : Nat) (_hm : m ≤ 13) (s : ByteArray) (w : World) (hs : s.size ≤ 140737488355328) (h1 : 1 ≤ s.size) (hnum : numB (pre s 1) = 1) : Calls Tryd.prog 33 #[.string s, .int .i64 m] w (FirstPost (m + 1) s w) := by
  have e1 : ((s[0]'h1).toNat : Int) = 1 := by rw [← byte_0 h1, hnum]; rfl
  have Hnum := hid hnum
  have hne := nonempty_of (show s.size ≠ 0 by omega)
  have hsz := suf_size s 1
  clear hnum
  go_enter Tryd.func33, Tryd.ntmps33
  go_wp2_with fail
  refine bodyPost_ret (v := .tuple #[.agg #[.int .i64 1, .int .i64 0, .string ⟨#[]⟩, .slice none 0 0, .slice none 0 0], .string (suf s 1), .bool true]) (by simp [results, Tryd.results33, go_sem, suf]) rfl ?_
  have HD : decR (m + 1) s = some (leafT 1 0 ⟨#[]⟩, suf s 1) := by rw [decR_eq, stepD_1 h1 Hnum.out]; rfl
  exact first_fin 1 0 ⟨#[]⟩ (by omega) (by omega) (by omega) empty_size HD (((Below.refl _ _).alloc (Nat.le_refl _) _).alloc (by simp) _)
set_option maxHeartbeats 2000000 in
set_option maxRecDepth 100000 in
theorem first_7 (m : Nat) (_hm : m ≤ 13) (s : ByteArray) (w : World) (h1 : 1 ≤ s.size) (hnum : ¬ (1 ≤ numB (pre s 1) ∧ numB (pre s 1) ≤ 6)) : Calls Tryd.prog 33 #[.string s, .int .i64 m] w (FirstPost (m + 1) s w) := by
  obtain ⟨n, hn⟩ : ∃ n : Nat, numB (pre s 1) = n := ⟨_, rfl⟩
  have e1 : ((s[0]'h1).toNat : Int) = n := by rw [← byte_0 h1, hn]
  have hne := nonempty_of (show s.size ≠ 0 by omega)
  have hx := numB_lt (pre s 1)
  rw [pre_size h1, hn] at hx
  rw [hn] at hnum
  have HD : Hid (decR (m + 1) s = none) := by
    show _ = none
    rw [decR_eq, stepD_7 h1 (by rw [hn]; omega) (by rw [hn]; omega) (by rw [hn]; omega) (by rw [hn]; omega) (by rw [hn]; omega) (by rw [hn]; omega)]
  have g1 : ¬ ((n : Int) = 1) := by omega
  have g2 : ¬ ((n : Int) = 2) := by omega
  have g3 : ¬ ((n : Int) = 3) := by omega
  have g4 : ¬ ((n : Int) = 4) := by omega
  have g5 : ¬ ((n : Int) = 5) := by omega
  have g6 : ¬ ((n : Int) = 6) := by omega
  clear hn
  go_enter Tryd.func33, Tryd.ntmps33
  go_wp2_with fail
  refine bodyPost_ret (v := .tuple #[.agg #[.int .i64 n, .int .i64 0, .string ⟨#[]⟩, .slice none 0 0, .slice none 0 0], .string ⟨#[]⟩, .bool false]) (by simp [results, Tryd.results33, go_sem]) rfl ?_
  exact first_not HD.out (((Below.refl _ _).alloc (Nat.le_refl _) _).alloc (by simp) _)
set_option maxHeartbeats 2000000 in
set_option maxRecDepth 100000 in
theorem first_3 (m : Nat) (_hm : m ≤ 13) (s : ByteArray) (w : World) (hs : s.size ≤ 140737488355328) (h1 : 1 ≤ s.size) (hnum : numB (pre s 1) = 3) : Calls Tryd.prog 33 #[.string s, .int .i64 m] w (FirstPost (m + 1) s w) := by
  have e1 : ((s[0]'h1).toNat : Int) = 3 := by rw [← byte_0 h1, hnum]; rfl
  have Hnum := hid hnum
  have hne := nonempty_of (show s.size ≠ 0 by omega)
  have hsz := suf_size s 1
  clear hnum
  have HB0 : Hid (Below w.heap.size w ((w.alloc (.cells #[.int .i64 0, .int .i64 0, .string ⟨#[]⟩, .slice none 0 0, .slice none 0 0] 26)).alloc (.cells #[.int .i64 3, .int .i64 0, .string ⟨#[]⟩, .slice none 0 0, .slice none 0 0] 26))) := ((Below.refl _ _).alloc (Nat.le_refl _) _).alloc (by simp) _
  have HR0 : Hid (BoxAt w.heap.size (.int .i64 0) (.int .i64 0) (.string ⟨#[]⟩) (.slice none 0 0) (.slice none 0 0) ((w.alloc (.cells #[.int .i64 0, .int .i64 0, .string ⟨#[]⟩, .slice none 0 0, .slice none 0 0] 26)).alloc (.cells #[.int .i64 3, .int .i64 0, .string ⟨#[]⟩, .slice none 0 0, .slice none 0 0] 26))) := (box_new w _ _ _ _ _).move (by simp) (Below.heap_alloc _ _ _ (by simp))
  have HV0 : Hid (BoxAt (w.heap.size + 1) (.int .i64 3) (.int .i64 0) (.string ⟨#[]⟩) (.slice none 0 0) (.slice none 0 0) ((w.alloc (.cells #[.int .i64 0, .int .i64 0, .string ⟨#[]⟩, .slice none 0 0, .slice none 0 0] 26)).alloc (.cells #[.int .i64 3, .int .i64 0, .string ⟨#[]⟩, .slice none 0 0, .slice none 0 0] 26))) := by
    have := box_new (w.alloc (.cells #[.int .i64 0, .int .i64 0, .string ⟨#[]⟩, .slice none 0 0, .slice none 0 0] 26)) (.int .i64 3) (.int .i64 0) (.string ⟨#[]⟩) (.slice none 0 0) (.slice none 0 0)
    show BoxAt _ _ _ _ _ _ _
    simpa using this
  have Hz0 : Hid (((w.alloc (.cells #[.int .i64 0, .int .i64 0, .string ⟨#[]⟩, .slice none 0 0, .slice none 0 0] 26)).alloc (.cells #[.int .i64 3, .int .i64 0, .string ⟨#[]⟩, .slice none 0 0, .slice none 0 0] 26)).heap.size = w.heap.size + 2) := by
    show _ = _
    simp
  have HC := hid (cut_any (suf s 1) 8 ((w.alloc (.cells #[.int .i64 0, .int .i64 0, .string ⟨#[]⟩, .slice none 0 0, .slice none 0 0] 26)).alloc (.cells #[.int .i64 3, .int .i64 0, .string ⟨#[]⟩, .slice none 0 0, .slice none 0 0] 26)) (by omega) (by omega))
  go_enter Tryd.func33, Tryd.ntmps33
  go_wp2_with fail
  refine HC.out.mono ?_
  rintro e w1 ⟨hb1, ⟨h2, rfl⟩ | ⟨h2, rfl⟩⟩
  · have HR1 := hid (HR0.out.move hb1.size (hb1.block _ HR0.out.lt))
    have HV1 := hid (HV0.out.move hb1.size (hb1.block _ HV0.out.lt))
    have HW1 := hid (HB0.out.trans (hb1.mono (by rw [Hz0.out]; omega)))
    have HN := hid (numberR_any (pre (suf s 1) 8) w1 (by rw [pre_size h2]; omega))
    obtain ⟨z, hz⟩ : ∃ z : Int, IntKind.i64.wrap (numB (pre (suf s 1) 8) : Int) = z := ⟨_, rfl⟩
    have Hb := hid (wrap64_bd (numB (pre (suf s 1) 8) : Int))
    rw [hz] at HN Hb
    have HD : Hid (decR (m + 1) s = some (leafT 3 z ⟨#[]⟩, suf (suf s 1) 8)) := by
      show _ = _
      rw [decR_eq, stepD_3 h1 Hnum.out, if_neg (by omega), hz]
      rfl
    clear hb1 HC HR0 HV0 HB0 hz
    have r0 := HR1.out.q0
    have r1 := HR1.out.q1
    have r2 := HR1.out.q2
    have r3 := HR1.out.q3
    have r4 := HR1.out.q4
    have s0 := HR1.out.f0
    have s1 := HR1.out.f1
    have s2 := HR1.out.f2
    have s3 := HR1.out.f3
    have s4 := HR1.out.f4
    have v0 := HV1.out.q0
    have v1 := HV1.out.q1
    have v2 := HV1.out.q2
    have v3 := HV1.out.q3
    have v4 := HV1.out.q4
    have u1 := HV1.out.f1
    have u2 := HV1.out.f2
    have u3 := HV1.out.f3
    have u4 := HV1.out.f4
    go_wp2_with fail
    refine HN.out.mono ?_
    rintro e w2 ⟨rfl, rfl⟩
    go_wp2_with fail
    refine bodyPost_ret (v := .tuple #[.agg #[.int .i64 3, .int .i64 z, .string ⟨#[]⟩, .slice none 0 0, .slice none 0 0], .string (suf (suf s 1) 8), .bool true]) (by simp [results, Tryd.results33, go_sem, *]) rfl ?_
    exact first_fin 3 z ⟨#[]⟩ (by omega) (by omega) Hb.out empty_size HD.out (below_set5 (HW1.out.setCell (show w.heap.size ≤ w.heap.size + 1 by omega) _) (Nat.le_refl _) _ _ _ _ _)
  · have HR1 := hid (HR0.out.move hb1.size (hb1.block _ HR0.out.lt))
    have HV1 := hid (HV0.out.move hb1.size (hb1.block _ HV0.out.lt))
    have HW1 := hid (HB0.out.trans (hb1.mono (by rw [Hz0.out]; omega)))
    have HN := hid (numberR_any ⟨#[]⟩ w1 (by show (0 : Nat) ≤ _; omega))
    have HD : Hid (decR (m + 1) s = none) := by
      show _ = _
      rw [decR_eq, stepD_3 h1 Hnum.out, if_pos h2]
    clear hb1 HC HR0 HV0 HB0
    have r0 := HR1.out.q0
    have r1 := HR1.out.q1
    have r2 := HR1.out.q2
    have r3 := HR1.out.q3
    have r4 := HR1.out.q4
    have s0 := HR1.out.f0
    have s1 := HR1.out.f1
    have s2 := HR1.out.f2
    have s3 := HR1.out.f3
    have s4 := HR1.out.f4
    have v0 := HV1.out.q0
    have v1 := HV1.out.q1
    have v2 := HV1.out.q2
    have v3 := HV1.out.q3
    have v4 := HV1.out.q4
    have u1 := HV1.out.f1
    have u2 := HV1.out.f2
    have u3 := HV1.out.f3
    have u4 := HV1.out.f4
    go_wp2_with fail
    refine HN.out.mono ?_
    rintro e w2 ⟨rfl, rfl⟩
    generalize IntKind.i64.wrap (numB ⟨#[]⟩ : Int) = z
    go_wp2_with fail
    refine bodyPost_ret (v := .tuple #[.agg #[.int .i64 3, .int .i64 z, .string ⟨#[]⟩, .slice none 0 0, .slice none 0 0], .string ⟨#[]⟩, .bool false]) (by simp [results, Tryd.results33, go_sem, *]) rfl ?_
    exact first_not HD.out (below_set5 (HW1.out.setCell (show w.heap.size ≤ w.heap.size + 1 by omega) _) (Nat.le_refl _) _ _ _ _ _)
set_option maxHeartbeats 2000000 in
set_option maxRecDepth 100000 in
theorem first_4 (m : Nat) (_hm : m ≤ 13) (s : ByteArray) (w : World) (hs : s.size ≤ 140737488355328) (h1 : 1 ≤ s.size) (hnum : numB (pre s 1) = 4) : Calls Tryd.prog 33 #[.string s, .int .i64 m] w (FirstPost (m + 1) s w) := by
  have e1 : ((s[0]'h1).toNat : Int) = 4 := by rw [← byte_0 h1, hnum]; rfl
  have Hnum := hid hnum
  have hne := nonempty_of (show s.size ≠ 0 by omega)
  have hsz := suf_size s 1
  clear hnum
  have HB0 : Hid (Below w.heap.size w ((w.alloc (.cells #[.int .i64 0, .int .i64 0, .string ⟨#[]⟩, .slice none 0 0, .slice none 0 0] 26)).alloc (.cells #[.int .i64 4, .int .i64 0, .string ⟨#[]⟩, .slice none 0 0, .slice none 0 0] 26))) := ((Below.refl _ _).alloc (Nat.le_refl _) _).alloc (by simp) _
  have HR0 : Hid (BoxAt w.heap.size (.int .i64 0) (.int .i64 0) (.string ⟨#[]⟩) (.slice none 0 0) (.slice none 0 0) ((w.alloc (.cells #[.int .i64 0, .int .i64 0, .string ⟨#[]⟩, .slice none 0 0, .slice none 0 0] 26)).alloc (.cells #[.int .i64 4, .int .i64 0, .string ⟨#[]⟩, .slice none 0 0, .slice none 0 0] 26))) := (box_new w _ _ _ _ _).move (by simp) (Below.heap_alloc _ _ _ (by simp))
  have HV0 : Hid (BoxAt (w.heap.size + 1) (.int .i64 4) (.int .i64 0) (.string ⟨#[]⟩) (.slice none 0 0) (.slice none 0 0) ((w.alloc (.cells #[.int .i64 0, .int .i64 0, .string ⟨#[]⟩, .slice none 0 0, .slice none 0 0] 26)).alloc (.cells #[.int .i64 4, .int .i64 0, .string ⟨#[]⟩, .slice none 0 0, .slice none 0 0] 26))) := by
    have := box_new (w.alloc (.cells #[.int .i64 0, .int .i64 0, .string ⟨#[]⟩, .slice none 0 0, .slice none 0 0] 26)) (.int .i64 4) (.int .i64 0) (.string ⟨#[]⟩) (.slice none 0 0) (.slice none 0 0)
    show BoxAt _ _ _ _ _ _ _
    simpa using this
  have Hz0 : Hid (((w.alloc (.cells #[.int .i64 0, .int .i64 0, .string ⟨#[]⟩, .slice none 0 0, .slice none 0 0] 26)).alloc (.cells #[.int .i64 4, .int .i64 0, .string ⟨#[]⟩, .slice none 0 0, .slice none 0 0] 26)).heap.size = w.heap.size + 2) := by
    show _ = _
    simp
  have HC := hid (sized_any (suf s 1) 4 ((w.alloc (.cells #[.int .i64 0, .int .i64 0, .string ⟨#[]⟩, .slice none 0 0, .slice none 0 0] 26)).alloc (.cells #[.int .i64 4, .int .i64 0, .string ⟨#[]⟩, .slice none 0 0, .slice none 0 0] 26)) (by omega) (by omega))
  go_enter Tryd.func33, Tryd.ntmps33
  go_wp2_with fail
  refine HC.out.mono ?_
  rintro e w1 ⟨hb1, ⟨x, r, h2, rfl⟩ | ⟨h2, rfl⟩⟩
  · have HR1 := hid (HR0.out.move hb1.size (hb1.block _ HR0.out.lt))
    have HV1 := hid (HV0.out.move hb1.size (hb1.block _ HV0.out.lt))
    have HW1 := hid (HB0.out.trans (hb1.mono (by rw [Hz0.out]; omega)))
    have HD : Hid (decR (m + 1) s = some (leafT 4 0 x, r)) := by
      show _ = _
      rw [decR_eq, stepD_4 h1 Hnum.out, h2]
      rfl
    have hx := szB_size h2
    clear hb1 HC HR0 HV0 HB0
    have r0 := HR1.out.q0
    have r1 := HR1.out.q1
    have r2 := HR1.out.q2
    have r3 := HR1.out.q3
    have r4 := HR1.out.q4
    have s0 := HR1.out.f0
    have s1 := HR1.out.f1
    have s2 := HR1.out.f2
    have s3 := HR1.out.f3
    have s4 := HR1.out.f4
    have v0 := HV1.out.q0
    have v1 := HV1.out.q1
    have v2 := HV1.out.q2
    have v3 := HV1.out.q3
    have v4 := HV1.out.q4
    have u1 := HV1.out.f1
    have u2 := HV1.out.f2
    have u3 := HV1.out.f3
    have u4 := HV1.out.f4
    go_wp2_with fail
    refine bodyPost_ret (v := .tuple #[.agg #[.int .i64 4, .int .i64 0, .string x, .slice none 0 0, .slice none 0 0], .string r, .bool true]) (by simp [results, Tryd.results33, go_sem, *]) rfl ?_
    exact first_fin 4 0 x (by omega) (by omega) (by omega) (by omega) HD.out (below_set5 (HW1.out.setCell (show w.heap.size ≤ w.heap.size + 1 by omega) _) (Nat.le_refl _) _ _ _ _ _)
  · have HR1 := hid (HR0.out.move hb1.size (hb1.block _ HR0.out.lt))
    have HV1 := hid (HV0.out.move hb1.size (hb1.block _ HV0.out.lt))
    have HW1 := hid (HB0.out.trans (hb1.mono (by rw [Hz0.out]; omega)))
    have HD : Hid (decR (m + 1) s = none) := by
      show _ = _
      rw [decR_eq, stepD_4 h1 Hnum.out, h2]
      rfl
    clear hb1 HC HR0 HV0 HB0
    have r0 := HR1.out.q0
    have r1 := HR1.out.q1
    have r2 := HR1.out.q2
    have r3 := HR1.out.q3
    have r4 := HR1.out.q4
    have s0 := HR1.out.f0
    have s1 := HR1.out.f1
    have s2 := HR1.out.f2
    have s3 := HR1.out.f3
    have s4 := HR1.out.f4
    have v0 := HV1.out.q0
    have v1 := HV1.out.q1
    have v2 := HV1.out.q2
    have v3 := HV1.out.q3
    have v4 := HV1.out.q4
    have u1 := HV1.out.f1
    have u2 := HV1.out.f2
    have u3 := HV1.out.f3
    have u4 := HV1.out.f4
    go_wp2_with fail
    refine bodyPost_ret (v := .tuple #[.agg #[.int .i64 4, .int .i64 0, .string ⟨#[]⟩, .slice none 0 0, .slice none 0 0], .string ⟨#[]⟩, .bool false]) (by simp [results, Tryd.results33, go_sem, *]) rfl ?_
    exact first_not HD.out (below_set5 (HW1.out.setCell (show w.heap.size ≤ w.heap.size + 1 by omega) _) (Nat.le_refl _) _ _ _ _ _)
end Go.Proofs.YtknakfpciccoaaaDoor
