import Derived.Test.YtknakfpciccoaaaDoorZO28
import Derived.Test.YtknakfpciccoaaaDoorZO6
import Derived.Test.YtknakfpciccoaaaDoorZO1
import Derived.BigQuiet
import Derived.Deep.QuietTactic
import Derived.Deep.RegionHeld
/- The walk of own: the owner of a value writes over all its lists. -/
namespace Go.Proofs.YtknakfpciccoaaaDoor
open Go.RowKit

/-- What was recorded, as it reads. -/
structure KeptR (R : List Ent) (n : Nat) (vs ns : Value) (w : World) : Prop where
  rowL : w.ownsRow 0 23 1 vs R.length (R.map (·.l))
  rowK : w.ownsRow 0 24 1 ns R.length (R.map (·.k))
  recL : ∀ (q : Nat) (r : Ent), R[q]? = some r → Rd w eV 5 r.l r.n (mc (n + q / 4))
  recK : ∀ (q : Nat) (r : Ent), R[q]? = some r → Rd w eS 1 r.k r.m (nc (n + q / 4))
def OwnPost (lo : Nat) (es : List Ent) (n : Nat) (w : World) (e : Ending) (w' : World) : Prop :=
  Below lo w w' ∧ ∃ R A B C D, R.length = 4 * es.length ∧ e = .returned (.agg #[.slice A R.length B, .slice C R.length D, .int .i64 n]) ∧ KeptR R n (.slice A R.length B) (.slice C R.length D) w'
theorem row_cell {w : World} {lo : Nat} {e : TypeId} {v : Value} {xs : List Value} {N : Nat} (h : w.ownsRow lo e 1 v N xs) {k : Nat} {x : Value} (hx : xs[k]? = some x) : ∃ g cap, v = .slice (some ⟨g, 0, none⟩) N cap ∧ g < w.heap.size ∧ lo ≤ g ∧ k < N ∧ w.cell? ⟨g, k, none⟩ = some x := by
  have hk : k < xs.length := (List.getElem?_eq_some_iff.1 hx).1
  have hN : k < N := by rw [h.1] at hk; omega
  obtain ⟨g, cap, rfl, hg, hlo, _, hc, _⟩ := own_cell h (by omega)
  refine ⟨g, cap, rfl, hg, hlo, hN, ?_⟩
  rw [hc k (by omega)]
  simp [cx, hx]
theorem Full.shape {w : World} {e : TypeId} {size n k : Nat} {v : Value} {c : Nat → Value} (h : Full w e size v n k c) : ∃ A d, v = .slice A n d := by
  obtain ⟨ys, h1, _⟩ := h
  exact own_shape h1
theorem MS.start {lo b : Nat} {w w1 : World} {es : List Ent} {vs ns : Value} (n : Nat) {f : Nat} {v : Value} {t : T} (hF : Flat w1 f v t es) (hO : OwnR b vs ns 0 es w1) (hb : Below lo w w1) (hn : (blks es).Nodup) (hl : ∀ x ∈ blks es, lo ≤ x ∧ x < b) : MS lo b w es n vs ns 0 0 0 w1 := by
  have hr := hF.rows
  refine ⟨hO, fun j e he => ?_, fun j e he => ?_, hb, hn, hl⟩
  · obtain ⟨xs, hx⟩ := (hr e (List.mem_of_getElem? he)).1
    have : cnt 0 0 j e.n = 0 := by unfold cnt; simp
    rw [this]
    exact Full.zero hx _
  · obtain ⟨xs, hx⟩ := (hr e (List.mem_of_getElem? he)).2
    have : cnt 0 0 j e.m = 0 := by unfold cnt; simp
    rw [this]
    exact Full.zero hx _
theorem MS.done {lo b b3 : Nat} {w wr w1 : World} {es : List Ent} {n : Nat} {vs ns : Value} (h : MS lo b w es n vs ns es.length 0 0 wr) (hb : Below wr.heap.size wr w1) (hb3 : b3 = wr.heap.size) (hs : b3 < w1.heap.size) (hbb : b < wr.heap.size) (hlo : lo ≤ b) : RS lo b b3 w es [] n vs ns 0 w1 := by
  have hk := h.keep hb (fun x hx => by have := (h.lies x hx).2; omega) (by omega)
  refine ⟨hk.own, fun g e => ?_, fun g e => ?_, by omega, hs, fun j e _ he => ?_, fun j e _ he => ?_, fun q r hr => by simp at hr, fun q r hr => by simp at hr, fun q r hr => by simp at hr, fun q r j e hr => by simp at hr, hk.bel, hlo, h.nodup, h.lies⟩
  · have := (h.own.rowL.lt g e).2; omega
  · have := (h.own.rowK.lt g e).2; omega
  · have hf := hk.fullL j e he
    have hj : j < es.length := (List.getElem?_eq_some_iff.1 he).1
    rw [show cnt es.length 0 j e.n = e.n by simp [cnt, hj]] at hf
    exact hf
  · have hf := hk.fullK j e he
    have hj : j < es.length := (List.getElem?_eq_some_iff.1 he).1
    rw [show cnt es.length 0 j e.m = e.m by simp [cnt, hj]] at hf
    exact hf
/-- The result's box. -/
def Res (w : World) (wr : World) : Prop := OwnB (w.heap.size + 1) (.slice none 0 0) (.slice none 0 0) 0 wr ∧ wr.frozen? ⟨w.heap.size + 1, 2, none⟩ = false ∧ ∃ cs, wr.heap[w.heap.size + 1]? = some (.cells cs 34 (0, 0))
theorem Res.move {w wr w1 : World} (h : Res w wr) (hs : wr.heap.size ≤ w1.heap.size) (hb : w1.heap[w.heap.size + 1]? = wr.heap[w.heap.size + 1]?) : Res w w1 :=
  ⟨h.1.move hs hb, (World.frozen?_of_block (w := wr) (a := ⟨w.heap.size + 1, 2, none⟩) hb).trans h.2.1, h.2.2.imp fun _ e => hb.trans e⟩
theorem Res.set5 {w wr : World} (h : Res w wr) {g : Nat} (hg : g ≠ w.heap.size + 1) (o : Nat) (c0 c1 c2 c3 c4 : Value) : Res w (set5 wr g o c0 c1 c2 c3 c4) := by
  have hset : ∀ (w1 : World) (o : Nat) (u : Value), (w1.setCell ⟨g, o, none⟩ u).heap[w.heap.size + 1]? = w1.heap[w.heap.size + 1]? := fun w1 o u => Below.heap_setCell _ _ _ _ (by simpa using hg.symm)
  refine h.move (by simp [YtknakfpciccoaaaDoor.set5, World.setCell]) ?_
  unfold YtknakfpciccoaaaDoor.set5
  rw [hset, hset, hset, hset, hset]
theorem Res.set1 {w wr : World} (h : Res w wr) {g : Nat} (hg : g ≠ w.heap.size + 1) (o : Nat) (u : Value) : Res w (wr.setCell ⟨g, o, none⟩ u) :=
  h.move (by simp [World.setCell]) (Below.heap_setCell _ _ _ _ (by simpa using hg.symm))
theorem Res.keep {w wr w1 : World} (h : Res w wr) (hb : Below wr.heap.size wr w1) : Res w w1 := h.move hb.size (hb.block _ h.1.lt)
/-- All of it, of one list. -/
structure RQ (lo b3 : Nat) (w : World) (es R : List Ent) (n : Nat) (vs ns : Value) (i : Nat) (l s : Value) (N M : Nat) (vs3 ns3 : Value) (wr : World) : Prop where
  rb : RBk lo (w.heap.size + 2) b3 w es R n vs ns i l s N M wr
  o3 : OwnR b3 vs3 ns3 n R wr
  res : Res w wr
  hb : w.heap.size + 1 < b3
/-- The list of values is recorded, its names not yet. -/
structure RP (lo b3 : Nat) (w : World) (es R : List Ent) (n : Nat) (vs ns : Value) (i : Nat) (l s : Value) (N M : Nat) (vs3 ns3 : Value) (wr : World) : Prop where
  rb : RBk lo (w.heap.size + 2) b3 w es R n vs ns i l s N M wr
  ob : OwnB b3 vs3 ns3 n wr
  rowL : wr.ownsRow (b3 + 1) 23 1 vs3 (R ++ [(⟨l, N, s, M⟩ : Ent)]).length ((R ++ [(⟨l, N, s, M⟩ : Ent)]).map (·.l))
  rowK : wr.ownsRow (b3 + 1) 24 1 ns3 R.length (R.map (·.k))
  res : Res w wr
  hb : w.heap.size + 1 < b3
theorem Res.keep3 {w wr w1 : World} (h : Res w wr) {b3 : Nat} {vs3 ns3 : Value} {A B : List Ent} (hL3 : wr.ownsRow (b3 + 1) 23 1 vs3 A.length (A.map (·.l))) (hK3 : wr.ownsRow (b3 + 1) 24 1 ns3 B.length (B.map (·.k))) (hk : Keep3 b3 vs3 ns3 wr w1) (hb : w.heap.size + 1 < b3) : Res w w1 :=
  h.move hk.size (hk.block _ h.1.lt (by omega) (fun e => by have := (hL3.lt _ e.symm).1; omega) (fun e => by have := (hK3.lt _ e.symm).1; omega))
section
variable {lo b3 : Nat} {w : World} {es R : List Ent} {n : Nat} {vs ns : Value} {i : Nat} {l s : Value} {N M : Nat} {vs3 ns3 : Value} {wr : World}
theorem RQ.keep (h : RQ lo b3 w es R n vs ns i l s N M vs3 ns3 wr) {w1 : World} (hb : Below wr.heap.size wr w1) : RQ lo b3 w es R n vs ns i l s N M vs3 ns3 w1 :=
  ⟨h.rb.keep hb, h.o3.keep hb, h.res.keep hb, h.hb⟩
theorem RP.keep (h : RP lo b3 w es R n vs ns i l s N M vs3 ns3 wr) {w1 : World} (hb : Below wr.heap.size wr w1) : RP lo b3 w es R n vs ns i l s N M vs3 ns3 w1 :=
  ⟨h.rb.keep hb, h.ob.move hb.size (hb.block _ h.ob.lt), own_move h.rowL fun g e => hb.block g (h.rowL.lt g e).2, own_move h.rowK fun g e => hb.block g (h.rowK.lt g e).2, h.res.keep hb, h.hb⟩
theorem RQ.recL (h : RQ lo b3 w es R n vs ns i l s N M vs3 ns3 wr) (o : Obj) {w6 : World} {g cap : Nat} (hO : w6.ownsRow (b3 + 1) 23 1 (.slice (some ⟨g, 0, none⟩) (R.length + 1) cap) (R.length + 1) ((R.map fun x => x.l) ++ [l])) (hG : (wr.alloc o).grownBy w6 vs3.ownBlock) (hat : vs3.ownBlock = some g ∨ g = wr.heap.size + 1) :
    RP lo b3 w es R n vs ns i l s N M (.slice (some ⟨g, 0, none⟩) (R.length + 1) cap) ns3 (w6.setCell ⟨b3, 0, none⟩ (.slice (some ⟨g, 0, none⟩) (R.length + 1) cap)) := by
  obtain ⟨p1, p2, p3, p4, _⟩ := h.o3.addL o l hO hG hat
  refine ⟨h.rb.keep3 h.o3.rowL h.o3.rowK p4, p1, ?_, p3, h.res.keep3 h.o3.rowL h.o3.rowK p4 h.hb, h.hb⟩
  rw [List.length_append, List.map_append]
  exact p2
theorem RP.recK (h : RP lo b3 w es R n vs ns i l s N M vs3 ns3 wr) (hq : R.length / 4 = i) (o : Obj) {w6 : World} {g cap : Nat} (hO : w6.ownsRow (b3 + 1) 24 1 (.slice (some ⟨g, 0, none⟩) (R.length + 1) cap) (R.length + 1) ((R.map fun x => x.k) ++ [s])) (hG : (wr.alloc o).grownBy w6 ns3.ownBlock) (hat : ns3.ownBlock = some g ∨ g = wr.heap.size + 1) :
    RQ lo b3 w es (R ++ [⟨l, N, s, M⟩]) n vs ns i l s N M vs3 (.slice (some ⟨g, 0, none⟩) (R.length + 1) cap) (w6.setCell ⟨b3, 1, none⟩ (.slice (some ⟨g, 0, none⟩) (R.length + 1) cap)) := by
  obtain ⟨p1, p2, p3, p4, _⟩ := OwnR.addK h.ob h.rowL h.rowK o s hO hG hat
  refine ⟨(h.rb.keep3 h.rowL h.rowK p4).push hq, ⟨p1, p3, ?_⟩, h.res.keep3 h.rowL h.rowK p4 h.hb, h.hb⟩
  rw [List.length_append, List.map_append]
  exact p2
theorem RQ.growL (h : RQ lo b3 w es R n vs ns i l s N M vs3 ns3 wr) {w1 : World} {g cap : Nat} {xs : List Value} (hx : wr.ownsRow 0 eV 5 l N xs) (hxs : ∀ j, j < N * 5 → xs[j]? = some (mc (n + i) (j % 5))) (ha : Appd wr w1 l N g cap)
    (hO : w1.ownsRow 0 eV 5 (.slice (some ⟨g, 0, none⟩) (N + 1) cap) (N + 1) (xs ++ [mc (n + i) 0, mc (n + i) 1, mc (n + i) 2, mc (n + i) 3, mc (n + i) 4])) : RQ lo b3 w es R n vs ns i (.slice (some ⟨g, 0, none⟩) (N + 1) cap) s (N + 1) M vs3 ns3 w1 := by
  have h2 := h.rb.rs.bb
  obtain ⟨cs, hcs⟩ := h.res.2.2
  exact ⟨h.rb.growL hx hxs ha hO, h.o3.appd hx ha (fun e => by have := (h.rb.curB b3 (.inl e.symm)).2; omega) (by decide) (by decide), h.res.move ha.size (ha.far h.res.1.lt (own_block hx hcs (by decide))), h.hb⟩
theorem RQ.growK (h : RQ lo b3 w es R n vs ns i l s N M vs3 ns3 wr) {w1 : World} {g cap : Nat} {xs : List Value} (hx : wr.ownsRow 0 eS 1 s M xs) (hxs : ∀ j, j < M * 1 → xs[j]? = some (nc (n + i) (j % 1))) (ha : Appd wr w1 s M g cap)
    (hO : w1.ownsRow 0 eS 1 (.slice (some ⟨g, 0, none⟩) (M + 1) cap) (M + 1) (xs ++ [nc (n + i) 0])) : RQ lo b3 w es R n vs ns i l (.slice (some ⟨g, 0, none⟩) (M + 1) cap) N (M + 1) vs3 ns3 w1 := by
  have h2 := h.rb.rs.bb
  obtain ⟨cs, hcs⟩ := h.res.2.2
  exact ⟨h.rb.growK hx hxs ha hO, h.o3.appd hx ha (fun e => by have := (h.rb.curB b3 (.inr e.symm)).2; omega) (by decide) (by decide), h.res.move ha.size (ha.far h.res.1.lt (own_block hx hcs (by decide))), h.hb⟩
end
set_option maxHeartbeats 8000000 in
set_option maxRecDepth 100000 in
theorem own_any (lo n : Nat) (v : Value) (t : T) (es : List Ent) (w : World) (hF : Flat w 13 v t es) (hS : Sep lo w es) (hlo : lo ≤ w.heap.size) (hn : n ≤ 2000000) (hE : es.length ≤ 1048576) (hb : ∀ e ∈ es, e.n ≤ 1048576 ∧ e.m ≤ 1048576) :
    Calls Tryd.prog 11 #[v, .int .i64 n] w (OwnPost lo es n w) := by
  obtain ⟨iV, hiV, zV0, zV1, zV2⟩ := info_parts infoV
  obtain ⟨iS, hiS, zS0, zS1, zS2⟩ := info_parts infoS
  obtain ⟨iL, hiL, zL0, zL1, zL2⟩ := info_parts infoL
  obtain ⟨iN, hiN, zN0, zN1, zN2⟩ := info_parts infoN
  have HF := hid hF
  obtain ⟨Lv, Kv, xs, sub, rfl, hf, hl, hk, hz1, hz2, hes⟩ := hF
  have h0es : 0 < es.length := by rw [hes, List.length_append, List.length_singleton]; omega
  clear hes hz1 hz2
  obtain ⟨A, B, rfl⟩ := own_shape hl
  obtain ⟨C, D, rfl⟩ := own_shape hk
  have Hbnd := hid hb
  have HS := hid hS
  clear hf hl hk hb hS
  have HB0 : Hid (Below w.heap.size w (((w.alloc (.cells #[.int .i64 (kindOf t), .int .i64 (nOf t), .string (sOf t), .slice A (nL t) B, .slice C (nK t) D] 26)).alloc (.cells #[.slice none 0 0, .slice none 0 0, .int .i64 0] 34)).alloc (.cells #[.slice none 0 0, .slice none 0 0, .int .i64 0] 34))) := (((Below.refl _ _).alloc (Nat.le_refl _) _).alloc (by simp) _).alloc (by simp; omega) _
  have HR0 : Hid (Res w (((w.alloc (.cells #[.int .i64 (kindOf t), .int .i64 (nOf t), .string (sOf t), .slice A (nL t) B, .slice C (nK t) D] 26)).alloc (.cells #[.slice none 0 0, .slice none 0 0, .int .i64 0] 34)).alloc (.cells #[.slice none 0 0, .slice none 0 0, .int .i64 0] 34))) := by
    refine ⟨⟨?_, ?_, ?_, ?_, ?_, ?_⟩, ?_, ⟨#[.slice none 0 0, .slice none 0 0, .int .i64 0], ?_⟩⟩
    · simp [go_sem]
    · simp [go_sem]
    · simp [go_sem]
    · simp [go_sem]
    · simp [go_sem]
    · simp
    · simp [go_sem]
    · rw [Below.heap_alloc _ _ _ (by simp)]
      have := heap_alloc_new (w.alloc (.cells #[.int .i64 (kindOf t), .int .i64 (nOf t), .string (sOf t), .slice A (nL t) B, .slice C (nK t) D] 26)) (.cells #[.slice none 0 0, .slice none 0 0, .int .i64 0] 34)
      simpa using this
  have HO0 : Hid (OwnR (w.heap.size + 2) (.slice none 0 0) (.slice none 0 0) 0 [] (((w.alloc (.cells #[.int .i64 (kindOf t), .int .i64 (nOf t), .string (sOf t), .slice A (nL t) B, .slice C (nK t) D] 26)).alloc (.cells #[.slice none 0 0, .slice none 0 0, .int .i64 0] 34)).alloc (.cells #[.slice none 0 0, .slice none 0 0, .int .i64 0] 34))) := by
    refine ⟨⟨?_, ?_, ?_, ?_, ?_, ?_⟩, World.ownsRow_nil _ _ _ _, World.ownsRow_nil _ _ _ _⟩ <;> simp [go_sem]
  have HLs := hid (lists_any 13 (w.heap.size + 2) _ t es 0 _ _ [] _ (HF.out.keep HS.out HB0.out) (fun x hx => by have := (HS.out.lies x hx).2; omega) HO0.out (by simp; omega))
  go_enter Tryd.func11, Tryd.ntmps11
  go_wp2_with fail
  refine HLs.out.mono ?_
  rintro e w1 ⟨rfl, vs, ns, hO1, hK1, hj1, hj2⟩
  clear hj1 hj2
  have hW1 : Below (w.heap.size + 2) (((w.alloc (.cells #[.int .i64 (kindOf t), .int .i64 (nOf t), .string (sOf t), .slice A (nL t) B, .slice C (nK t) D] 26)).alloc (.cells #[.slice none 0 0, .slice none 0 0, .int .i64 0] 34)).alloc (.cells #[.slice none 0 0, .slice none 0 0, .int .i64 0] 34)) w1 := hK1.below HO0.out
  rw [List.nil_append] at hO1
  have HR1 := hid (HR0.out.move hW1.size (hW1.block _ (by omega)))
  have HM1 := hid (MS.start (lo := lo) (w := w) n (HF.out.move fun x hx => (hW1.block x (by have := (HS.out.lies x hx).2; omega)).trans (HB0.out.block x (HS.out.lies x hx).2)) hO1 (((HB0.out.mono hlo).trans (hW1.mono (by omega)))) HS.out.nodup (fun x hx => by have := HS.out.lies x hx; omega))
  obtain ⟨gv, cv, rfl, hz1, hgv, hz2, hz3, hz4⟩ := own_cell hO1.rowL h0es
  clear hz1 hz2 hz3 hz4
  obtain ⟨gn, cn, rfl, hz1, hgn, hz2, hz3, hz4⟩ := own_cell hO1.rowK h0es
  clear hz1 hz2 hz3 hz4
  clear hO1 hK1 hW1 HR0 HO0 HLs HB0 HF
  go_wp2_with fail
  go_loopg [6] es.length (fun g i wr => ∃ k : Nat, g = es.length - k ∧ k ≤ es.length ∧ i = .int .i64 k ∧ Hid (MS lo (w.heap.size + 2) w es n (.slice (some ⟨gv, 0, none⟩) es.length cv) (.slice (some ⟨gn, 0, none⟩) es.length cn) k 0 0 wr) ∧ Hid (Res w wr))
  case atStart => exact ⟨0, rfl, Nat.zero_le _, rfl, HM1, HR1⟩
  case round =>
    clear HM1 HR1
    obtain ⟨k, rfl, hk, rfl, HM, HR⟩ := hrel
    have a0 := HM.out.own.box.q0
    by_cases hlt : k < es.length
    · have x1 : (k : Int) < (es.length : Int) := by omega
      obtain ⟨e, he⟩ : ∃ e, es[k]? = some e := ⟨es[k], List.getElem?_eq_getElem hlt⟩
      have hbe := Hbnd.out e (List.mem_of_getElem? he)
      obtain ⟨La, Lc, hle⟩ : ∃ La Lc, e.l = .slice La e.n Lc := by
        obtain ⟨ys, h1, _⟩ := HM.out.fullL k e he
        exact own_shape h1
      obtain ⟨Ka, Kc, hke⟩ : ∃ Ka Kc, e.k = .slice Ka e.m Kc := by
        obtain ⟨ys, h1, _⟩ := HM.out.fullK k e he
        exact own_shape h1
      have He := hid he
      have Hle := hid hle
      have Hke := hid hke
      have ew : IntKind.i64.wrap ((n : Int) + (k : Int)) = (n : Int) + (k : Int) := by rw [IntKind.wrap_i64]; omega
      have HMk : Hid (∀ w5 : World, Calls Tryd.prog 29 #[.int .i64 ((n : Int) + (k : Int))] w5 fun e w' => e = .returned (.agg #[.int .i64 (-((n + k : Nat) : Int)), .int .i64 0, .string mark3, .slice none 0 0, .slice none 0 0]) ∧ Below w5.heap.size w5 w') := by
        intro w5
        have := markV_any (n + k) w5 (by omega)
        have ec : ((n + k : Nat) : Int) = (n : Int) + (k : Int) := by omega
        rw [ec] at this ⊢
        exact this
      have HNk : Hid (∀ w5 : World, Calls Tryd.prog 30 #[.int .i64 ((n : Int) + (k : Int))] w5 fun e w' => e = .returned (.string (nameB (n + k))) ∧ Below w5.heap.size w5 w') := by
        intro w5
        have := markName_any (n + k) w5 (by omega)
        have ec : ((n + k : Nat) : Int) = (n : Int) + (k : Int) := by omega
        rw [ec] at this
        exact this
      clear he hle hke
      go_wp2_with fail
      go_loopg [7] e.n (fun g i wr => ∃ q : Nat, g = e.n - q ∧ q ≤ e.n ∧ i = .int .i64 q ∧ Hid (MS lo (w.heap.size + 2) w es n (.slice (some ⟨gv, 0, none⟩) es.length cv) (.slice (some ⟨gn, 0, none⟩) es.length cn) k q 0 wr) ∧ Hid (Res w wr))
      case atStart => exact ⟨0, rfl, Nat.zero_le _, rfl, HM, HR⟩
      case round =>
        clear HM HR a0
        obtain ⟨q, rfl, hq, rfl, HM, HR⟩ := hrel
        have a0 := HM.out.own.box.q0
        have a1 : wr.cell? ⟨gv, k, none⟩ = some (.slice La e.n Lc) := by rw [HM.out.own.rowL.cellAt k (by omega), ← Hle.out]; simp [He.out]
        by_cases hqn : q < e.n
        · obtain ⟨g, cap, hgl, hgs, hgf, hgc⟩ : ∃ g cap, e.l = .slice (some ⟨g, 0, none⟩) e.n cap ∧ g < wr.heap.size ∧ (∀ j, wr.frozen? ⟨g, j, none⟩ = false) ∧ ∀ j, j < e.n * 5 → ∃ u, wr.cell? ⟨g, j, none⟩ = some u := by
            obtain ⟨ys, h1, _⟩ := HM.out.fullL k e He.out
            obtain ⟨g, cap, h2, h3, _, _, h4, h5⟩ := own_cell h1 (by omega)
            exact ⟨g, cap, h2, h3, h5, fun j hj => ⟨_, h4 j hj⟩⟩
          have hgb := HM.out.lies g (mem_blks He.out (by simp [blk, hgl, Value.ownBlock]))
          have hel := Hle.out
          rw [hgl] at hel
          simp only [Value.slice.injEq, true_and] at hel
          obtain ⟨rfl, rfl⟩ := hel
          have y1 : (q : Int) < (e.n : Int) := by omega
          have n1 : g ≠ w.heap.size + 2 := by omega
          have n2 : g ≠ gv := by omega
          have HSw : Hid (∀ w5 : World, Below wr.drew.heap.size wr.drew w5 → (w5.cell? ⟨w.heap.size + 2, 0, none⟩ = some (.slice (some ⟨gv, 0, none⟩) es.length cv) ∧ w5.cell? ⟨gv, k, none⟩ = some (.slice (some ⟨g, 0, none⟩) e.n cap)) ∧ ∃ c0 c1 c2 c3 c4, (w5.cell? ⟨g, q * 5, none⟩ = some c0 ∧ w5.cell? ⟨g, q * 5 + 1, none⟩ = some c1 ∧ w5.cell? ⟨g, q * 5 + 2, none⟩ = some c2 ∧ w5.cell? ⟨g, q * 5 + 3, none⟩ = some c3 ∧ w5.cell? ⟨g, q * 5 + 4, none⟩ = some c4) ∧ (w5.frozen? ⟨g, q * 5, none⟩ = false ∧ w5.frozen? ⟨g, q * 5 + 1, none⟩ = false ∧ w5.frozen? ⟨g, q * 5 + 2, none⟩ = false ∧ w5.frozen? ⟨g, q * 5 + 3, none⟩ = false ∧ w5.frozen? ⟨g, q * 5 + 4, none⟩ = false)) := by
            intro w5 hb5
            have hh := (below_drew wr).trans hb5
            have hlv := (HM.out.own.rowL.lt gv rfl).2
            have hlb := HM.out.own.box.lt
            obtain ⟨c0, h0⟩ := hgc (q * 5) (by omega)
            obtain ⟨c1, h1⟩ := hgc (q * 5 + 1) (by omega)
            obtain ⟨c2, h2⟩ := hgc (q * 5 + 2) (by omega)
            obtain ⟨c3, h3⟩ := hgc (q * 5 + 3) (by omega)
            obtain ⟨c4, h4⟩ := hgc (q * 5 + 4) (by omega)
            refine ⟨⟨?_, ?_⟩, c0, c1, c2, c3, c4, ⟨?_, ?_, ?_, ?_, ?_⟩, ⟨?_, ?_, ?_, ?_, ?_⟩⟩
            · rw [hh.cell (p := ⟨_, _, none⟩) hlb]; exact a0
            · rw [hh.cell (p := ⟨_, _, none⟩) hlv]; exact a1
            · rw [hh.cell (p := ⟨_, _, none⟩) hgs]; exact h0
            · rw [hh.cell (p := ⟨_, _, none⟩) hgs]; exact h1
            · rw [hh.cell (p := ⟨_, _, none⟩) hgs]; exact h2
            · rw [hh.cell (p := ⟨_, _, none⟩) hgs]; exact h3
            · rw [hh.cell (p := ⟨_, _, none⟩) hgs]; exact h4
            · rw [hh.frozen (p := ⟨_, _, none⟩) hgs]; exact hgf _
            · rw [hh.frozen (p := ⟨_, _, none⟩) hgs]; exact hgf _
            · rw [hh.frozen (p := ⟨_, _, none⟩) hgs]; exact hgf _
            · rw [hh.frozen (p := ⟨_, _, none⟩) hgs]; exact hgf _
            · rw [hh.frozen (p := ⟨_, _, none⟩) hgs]; exact hgf _
          have Hgl := hid hgl
          clear hgc hgf hgl
          go_wp2_with fail
          go_region_held3 (fun wx => wx.cell? ⟨w.heap.size + 2, 0, none⟩ = some (.slice (some ⟨gv, 0, none⟩) es.length cv) ∧ wx.cell? ⟨gv, k, none⟩ = some (.slice (some ⟨g, 0, none⟩) e.n cap)) (go_keep) ((go_at_call 29; refine (HMk.out _).mono ?_; rintro e w5 ⟨rfl, hb5⟩; obtain ⟨hc5, c0, c1, c2, c3, c4, ⟨d0, d1, d2, d3, d4⟩, ⟨f0, f1, f2, f3, f4⟩⟩ := HSw.out _ hb5))
          have hg0 : g < w.heap.size := (HS.out.lies g (mem_blks He.out (by simp [blk, Hgl.out, Value.ownBlock]))).2
          have HBd := hid ((below_drew wr).trans hb5)
          have HM5 := hid ((HM.out.keep HBd.out (fun x hx => by have := (HM.out.lies x hx).2; have := HM.out.own.box.lt; omega) (by have := HM.out.own.box.lt; omega)).storeL He.out Hgl.out hqn)
          have HR5 := hid ((HR.out.keep HBd.out).set5 (show g ≠ w.heap.size + 1 by omega) (q * 5) (mc (n + k) 0) (mc (n + k) 1) (mc (n + k) 2) (mc (n + k) 3) (mc (n + k) 4))
          clear hb5 hc5 d0 d1 d2 d3 d4 f0 f1 f2 f3 f4 HSw HM HR HBd a0 a1
          go_wp2_with fail
          go_roundg (e.n - (q + 1))
          case rel => exact ⟨q + 1, rfl, by omega, by go_num, HM5, HR5⟩
          case measure => omega
        · have hqe : q = e.n := by omega
          have y1 : ¬ ((q : Int) < (e.n : Int)) := by omega
          subst hqe
          go_wp2_with fail
          go_loopg [8] e.m (fun g i wr => ∃ q : Nat, g = e.m - q ∧ q ≤ e.m ∧ i = .int .i64 q ∧ Hid (MS lo (w.heap.size + 2) w es n (.slice (some ⟨gv, 0, none⟩) es.length cv) (.slice (some ⟨gn, 0, none⟩) es.length cn) k e.n q wr) ∧ Hid (Res w wr))
          case atStart => exact ⟨0, rfl, Nat.zero_le _, rfl, HM, HR⟩
          case round =>
            clear HM HR a0 a1 y1 hq
            obtain ⟨q, rfl, hq, rfl, HM, HR⟩ := hrel
            have a0 := HM.out.own.box.q1
            have a1 : wr.cell? ⟨gn, k, none⟩ = some (.slice Ka e.m Kc) := by rw [HM.out.own.rowK.cellAt k (by omega), ← Hke.out]; simp [He.out]
            by_cases hqm : q < e.m
            · obtain ⟨g, cap, hgl, hgs, hgf, u, hgc⟩ : ∃ g cap, e.k = .slice (some ⟨g, 0, none⟩) e.m cap ∧ g < wr.heap.size ∧ wr.frozen? ⟨g, q, none⟩ = false ∧ ∃ u, wr.cell? ⟨g, q, none⟩ = some u := by
                obtain ⟨ys, h1, _⟩ := HM.out.fullK k e He.out
                obtain ⟨g, cap, h2, h3, _, _, h4, h5⟩ := own_cell h1 (by omega)
                exact ⟨g, cap, h2, h3, h5 q, _, h4 q (by omega)⟩
              have hgb := HM.out.lies g (mem_blks He.out (by simp [blk, hgl, Value.ownBlock]))
              have hel := Hke.out
              rw [hgl] at hel
              simp only [Value.slice.injEq, true_and] at hel
              obtain ⟨rfl, rfl⟩ := hel
              have y1 : (q : Int) < (e.m : Int) := by omega
              have n1 : g ≠ w.heap.size + 2 := by omega
              have n2 : g ≠ gn := by omega
              have HSw : Hid (∀ w5 : World, Below wr.drew.heap.size wr.drew w5 → (w5.cell? ⟨w.heap.size + 2, 1, none⟩ = some (.slice (some ⟨gn, 0, none⟩) es.length cn) ∧ w5.cell? ⟨gn, k, none⟩ = some (.slice (some ⟨g, 0, none⟩) e.m cap)) ∧ w5.cell? ⟨g, q, none⟩ = some u ∧ w5.frozen? ⟨g, q, none⟩ = false) := by
                intro w5 hb5
                have hh := (below_drew wr).trans hb5
                have hlv := (HM.out.own.rowK.lt gn rfl).2
                have hlb := HM.out.own.box.lt
                refine ⟨⟨?_, ?_⟩, ?_, ?_⟩
                · rw [hh.cell (p := ⟨_, _, none⟩) hlb]; exact a0
                · rw [hh.cell (p := ⟨_, _, none⟩) hlv]; exact a1
                · rw [hh.cell (p := ⟨_, _, none⟩) hgs]; exact hgc
                · rw [hh.frozen (p := ⟨_, _, none⟩) hgs]; exact hgf
              have Hgl := hid hgl
              clear hgc hgf hgl
              go_wp2_with fail
              go_region_held3 (fun wx => wx.cell? ⟨w.heap.size + 2, 1, none⟩ = some (.slice (some ⟨gn, 0, none⟩) es.length cn) ∧ wx.cell? ⟨gn, k, none⟩ = some (.slice (some ⟨g, 0, none⟩) e.m cap)) (go_keep) ((go_at_call 30; refine (HNk.out _).mono ?_; rintro e w5 ⟨rfl, hb5⟩; obtain ⟨hc5, d0, f0⟩ := HSw.out _ hb5))
              have hg0 : g < w.heap.size := (HS.out.lies g (mem_blks He.out (by simp [blk, Hgl.out, Value.ownBlock]))).2
              have HBd := hid ((below_drew wr).trans hb5)
              have HM5 := hid ((HM.out.keep HBd.out (fun x hx => by have := (HM.out.lies x hx).2; have := HM.out.own.box.lt; omega) (by have := HM.out.own.box.lt; omega)).storeK He.out Hgl.out hqm)
              have HR5 := hid ((HR.out.keep HBd.out).set1 (show g ≠ w.heap.size + 1 by omega) q (nc (n + k) 0))
              clear hb5 hc5 d0 f0 HSw HM HR HBd a0 a1
              go_wp2_with fail
              go_roundg (e.m - (q + 1))
              case rel => exact ⟨q + 1, rfl, by omega, by go_num, HM5, HR5⟩
              case measure => omega
            · have hqe : q = e.m := by omega
              have y1 : ¬ ((q : Int) < (e.m : Int)) := by omega
              subst hqe
              have HM6 := hid (HM.out.next He.out rfl rfl)
              go_wp2_with fail
              go_roundg (es.length - (k + 1))
              case rel => exact ⟨k + 1, rfl, by omega, by go_num, HM6, HR⟩
              case measure => omega
    · have hke : k = es.length := by omega
      subst hke
      have x1 : ¬ ((es.length : Int) < (es.length : Int)) := by omega
      have hbr := HM.out.own.box.lt
      have HBa : Hid (Below wr.heap.size wr (wr.alloc (.cells #[.slice none 0 0, .slice none 0 0, .int .i64 n] 34))) := (Below.refl _ _).alloc (Nat.le_refl _) _
      have HRS := hid (MS.done (b3 := wr.heap.size) HM.out HBa.out rfl (by simp) hbr (by omega))
      have HO3 : Hid (OwnR wr.heap.size (.slice none 0 0) (.slice none 0 0) n [] (wr.alloc (.cells #[.slice none 0 0, .slice none 0 0, .int .i64 n] 34))) := by
        refine ⟨⟨?_, ?_, ?_, ?_, ?_, ?_⟩, World.ownsRow_nil _ _ _ _, World.ownsRow_nil _ _ _ _⟩ <;> simp [go_sem]
      have HRr := hid (HR.out.keep HBa.out)
      have Hres := hid HR.out.1.lt
      clear HM HR HBa
      go_wp2_with fail
      clear a0 x1 hlt hk
      generalize wr.alloc (.cells #[.slice none 0 0, .slice none 0 0, .int .i64 n] 34) = w2 at HRS HO3 HRr ⊢
      generalize wr.heap.size = b3 at HRS HO3 Hres hbr ⊢
      go_loopg [10] es.length (fun g i wx => ∃ (k : Nat) (R : List Ent) (vs3 ns3 : Value), g = es.length - k ∧ k ≤ es.length ∧ i = .int .i64 k ∧ R.length = 4 * k ∧ Hid (RS lo (w.heap.size + 2) b3 w es R n (.slice (some ⟨gv, 0, none⟩) es.length cv) (.slice (some ⟨gn, 0, none⟩) es.length cn) k wx) ∧ Hid (OwnR b3 vs3 ns3 n R wx) ∧ Hid (Res w wx))
      case atStart => exact ⟨0, [], _, _, rfl, Nat.zero_le _, rfl, rfl, HRS, HO3, HRr⟩
      case round =>
        clear HRS HO3 HRr
        obtain ⟨k, R, vs3, ns3, rfl, hk, rfl, hRl, HRS, HO3, HRr⟩ := hrel
        have HRl := hid hRl
        clear hRl
        have a0 := HRS.out.own.box.q0
        have a2 := HRS.out.own.box.q1
        by_cases hlt : k < es.length
        · have x1 : (k : Int) < (es.length : Int) := by omega
          obtain ⟨e, he⟩ : ∃ e, es[k]? = some e := ⟨es[k], List.getElem?_eq_getElem hlt⟩
          have hbe := Hbnd.out e (List.mem_of_getElem? he)
          obtain ⟨La, Lc, hle⟩ : ∃ La Lc, e.l = .slice La e.n Lc := by
            obtain ⟨ys, h1, _⟩ := HRS.out.pendL k e (Nat.le_refl _) he
            exact own_shape h1
          obtain ⟨Ka, Kc, hke⟩ : ∃ Ka Kc, e.k = .slice Ka e.m Kc := by
            obtain ⟨ys, h1, _⟩ := HRS.out.pendK k e (Nat.le_refl _) he
            exact own_shape h1
          have a1 : wr.cell? ⟨gv, k, none⟩ = some (.slice La e.n Lc) := by rw [HRS.out.own.rowL.cellAt k (by omega), ← hle]; simp [he]
          have a3 : wr.cell? ⟨gn, k, none⟩ = some (.slice Ka e.m Kc) := by rw [HRS.out.own.rowK.cellAt k (by omega), ← hke]; simp [he]
          have hRB := HRS.out.begin he
          rw [hle, hke] at hRB
          have HRB := hid hRB
          have HMk : Hid (∀ w5 : World, Calls Tryd.prog 29 #[.int .i64 ((n : Int) + (k : Int))] w5 fun e w' => e = .returned (.agg #[.int .i64 (-((n + k : Nat) : Int)), .int .i64 0, .string mark3, .slice none 0 0, .slice none 0 0]) ∧ Below w5.heap.size w5 w') := by
            intro w5
            have := markV_any (n + k) w5 (by omega)
            have ec : ((n + k : Nat) : Int) = (n : Int) + (k : Int) := by omega
            rw [ec] at this ⊢
            exact this
          have HNk : Hid (∀ w5 : World, Calls Tryd.prog 30 #[.int .i64 ((n : Int) + (k : Int))] w5 fun e w' => e = .returned (.string (nameB (n + k))) ∧ Below w5.heap.size w5 w') := by
            intro w5
            have := markName_any (n + k) w5 (by omega)
            have ec : ((n + k : Nat) : Int) = (n : Int) + (k : Int) := by omega
            rw [ec] at this
            exact this
          clear he hle hke hRB HRS
          go_wp2_with fail
          go_loopg [11, 12, 13] 4 (fun g l s i wx => ∃ (q : Nat) (R : List Ent) (vs3 ns3 : Value), g = 4 - q ∧ q ≤ 4 ∧ i = .int .i64 q ∧ R.length = 4 * k + q ∧ Hid (RBk lo (w.heap.size + 2) b3 w es R n (.slice (some ⟨gv, 0, none⟩) es.length cv) (.slice (some ⟨gn, 0, none⟩) es.length cn) k l s (e.n + q) (e.m + q) wx) ∧ Hid (OwnR b3 vs3 ns3 n R wx) ∧ Hid (Res w wx))
          case atStart => exact ⟨0, R, vs3, ns3, rfl, by omega, rfl, HRl.out, HRB, HO3, HRr⟩
          case round =>
            clear HRB HO3 HRr a0 a1 a2 a3 HRl x1
            obtain ⟨q, R, vs3, ns3, rfl, hq, rfl, hRl, HRB, HO3, HRr⟩ := hrel
            have hRn : R.length ≤ 4194304 := by omega
            have HRl := hid hRl
            clear hRl
            by_cases hq4 : q < 4
            · obtain ⟨Lx, Lz, rfl⟩ := HRB.out.curL.shape
              obtain ⟨Kx, Kz, rfl⟩ := HRB.out.curK.shape
              obtain ⟨A3, B3, rfl⟩ := own_shape HO3.out.rowL
              obtain ⟨C3, D3, rfl⟩ := own_shape HO3.out.rowK
              have hq4i : (q : Int) < 4 := by omega
              have HQ : Hid (RQ lo b3 w es R n (.slice (some ⟨gv, 0, none⟩) es.length cv) (.slice (some ⟨gn, 0, none⟩) es.length cn) k (.slice Lx (e.n + q) Lz) (.slice Kx (e.m + q) Kz) (e.n + q) (e.m + q) (.slice A3 R.length B3) (.slice C3 R.length D3) wr) := ⟨HRB.out, HO3.out, HRr.out, Hres.out⟩
              have c0 := HO3.out.box.q0
              have HOa := hid (HQ.out.keep ((Below.refl wr.heap.size wr).alloc (Nat.le_refl _) (.cells #[.slice Lx (e.n + q) Lz] 23))).o3
              clear HRB HO3 HRr
              go_wp2_with (first | (at_builtin; refine wpList_append_lies _ rfl (.tmp 108) (.tmp 110) 31 rfl (b3 + 1) 23 iL _ 1 24 Tryd.underlying31 hiL zL0 zL1 zL2 rfl (by omega) (.slice A3 R.length B3) R.length (R.map fun x => x.l) rfl HOa.out.rowL ⟨wr.heap.size, 0, none⟩ 1 1 [.slice Lx (e.n + q) Lz] (by rfl) rfl (World.news_of_block (cs := #[.slice Lx (e.n + q) Lz]) (t := 23) (fr := (0, 0)) (heap_alloc_new wr _)) (by simp [Value.oneCell']) (by omega) (by unfold maxLen; omega) (by omega) (by have := HOa.out.box.lt; omega) (wr.heap.size + 1) (by simp) ?_; intro g3 cap3 w6 hown6 hgrow6 hat6 hlt6; have HZ6 := hid (HOa.out.box.move hgrow6.size (hgrow6.block _ HOa.out.box.lt (fun e => by have := (HOa.out.rowL.lt b3 e.symm).1; omega))); have d0 := HZ6.out.q0; have d1 := HZ6.out.q1; have f0 := HZ6.out.f0; have HP := hid (HQ.out.recL (.cells #[.slice Lx (e.n + q) Lz] 23) hown6 hgrow6 hat6); have HPa := hid (HP.out.keep ((Below.refl _ _).alloc (Nat.le_refl _) (.cells #[.slice Kx (e.m + q) Kz] 24)))) | (at_builtin; refine wpList_append_lies _ rfl (.tmp 114) (.tmp 116) 32 rfl (b3 + 1) 24 iN _ 1 24 Tryd.underlying32 hiN zN0 zN1 zN2 rfl (by omega) (.slice C3 R.length D3) R.length (R.map fun x => x.k) rfl HPa.out.rowK ⟨w6.heap.size, 0, none⟩ 1 1 [.slice Kx (e.m + q) Kz] (by rfl) rfl (by have := World.news_of_block (cs := #[.slice Kx (e.m + q) Kz]) (t := 24) (fr := (0, 0)) (heap_alloc_new (w6.setCell ⟨b3, 0, none⟩ (.slice (some ⟨g3, 0, none⟩) (R.length + 1) cap3)) (.cells #[.slice Kx (e.m + q) Kz] 24)); simpa using this) (by simp [Value.oneCell']) (by omega) (by unfold maxLen; omega) (by omega) (by have := HPa.out.ob.lt; omega) (w6.heap.size + 1) (by simp) ?_; intro g4 cap4 w8 hown8 hgrow8 hat8 hlt8; have HZ8 := hid (HPa.out.ob.move hgrow8.size (hgrow8.block _ HPa.out.ob.lt (fun e => by have := (HPa.out.rowK.lt b3 e.symm).1; omega))); have d2 := HZ8.out.q1; have f2 := HZ8.out.f1))
              have HQ9 := hid (HP.out.recK (by have := HRl.out; omega) (.cells #[.slice Kx (e.m + q) Kz] 24) hown8 hgrow8 (by simpa using hat8))
              clear hown6 hgrow6 hat6 hlt6 HZ6 d0 d1 f0 hown8 hgrow8 hat8 hlt8 HZ8 d2 f2 HOa HP HPa HQ c0
              generalize (w8.setCell ⟨b3, 1, none⟩ (.slice (some ⟨g4, 0, none⟩) (R.length + 1) cap4)) = w9 at HQ9 ⊢
              refine (HMk.out _).mono ?_
              rintro e9 w10 ⟨rfl, hb10⟩
              have HQ10 := hid ((HQ9.out.keep hb10).keep ((Below.refl _ _).alloc (Nat.le_refl _) (.cells #[.int .i64 (-((n + k : Nat) : Int)), .int .i64 0, .string mark3, .slice none 0 0, .slice none 0 0] 26)))
              obtain ⟨ys, hy1, hy2⟩ := HQ10.out.rb.curL
              have Hy1 := hid hy1
              have Hy2 := hid hy2
              clear hb10 HQ9 hy1 hy2
              go_wp2_with (at_builtin; refine wpList_append_two _ rfl (.tmp 119) (.tmp 124) 23 rfl 0 26 iV _ 5 80 Tryd.underlying23 hiV zV0 zV1 zV2 rfl (by omega) (.slice Lx (e.n + q) Lz) (e.n + q) ys rfl Hy1.out ⟨w10.heap.size, 0, none⟩ 1 1 [.int .i64 (-((n + k : Nat) : Int)), .int .i64 0, .string mark3, .slice none 0 0, .slice none 0 0] (by rfl) rfl (World.news_of_block (cs := #[.int .i64 (-((n + k : Nat) : Int)), .int .i64 0, .string mark3, .slice none 0 0, .slice none 0 0]) (t := 26) (fr := (0, 0)) (heap_alloc_new w10 _)) (by simp [Value.oneCell']) (by omega) (by unfold maxLen; omega) (by omega) (Nat.zero_le _) ?_; intro g5 cap5 w11 hown11 happ11)
              have HQ11 := hid (HQ10.out.growL Hy1.out Hy2.out happ11 hown11)
              clear hown11 happ11 HQ10 Hy1 Hy2
              refine (HNk.out _).mono ?_
              rintro e9 w12 ⟨rfl, hb12⟩
              have HQ12 := hid ((HQ11.out.keep hb12).keep ((Below.refl _ _).alloc (Nat.le_refl _) (.cells #[.string (nameB (n + k))] 9)))
              obtain ⟨zs, hz1, hz2⟩ := HQ12.out.rb.curK
              have Hz1 := hid hz1
              have Hz2 := hid hz2
              clear hb12 HQ11 hz1 hz2
              go_wp2_with (at_builtin; refine wpList_append_two _ rfl (.tmp 126) (.tmp 131) 24 rfl 0 9 iS _ 1 16 Tryd.underlying24 hiS zS0 zS1 zS2 rfl (by omega) (.slice Kx (e.m + q) Kz) (e.m + q) zs rfl Hz1.out ⟨w12.heap.size, 0, none⟩ 1 1 [.string (nameB (n + k))] (by rfl) rfl (World.news_of_block (cs := #[.string (nameB (n + k))]) (t := 9) (fr := (0, 0)) (heap_alloc_new w12 _)) (by simp [Value.oneCell']) (by omega) (by unfold maxLen; omega) (by omega) (Nat.zero_le _) ?_; intro g6 cap6 w13 hown13 happ13)
              have HQ13 := hid (HQ12.out.growK Hz1.out Hz2.out happ13 hown13)
              clear hown13 happ13 HQ12 Hz1 Hz2
              have HR13 := hid HQ13.out.rb
              have HO13 := hid HQ13.out.o3
              have Hr13 := hid HQ13.out.res
              go_roundg (4 - (q + 1))
              case rel => exact ⟨q + 1, _, _, _, rfl, by omega, by go_num, by rw [List.length_append, HRl.out]; rfl, HR13, HO13, Hr13⟩
              case measure => omega
            · have hqe : q = 4 := by omega
              subst hqe
              have HRS2 := hid HRB.out.rs
              go_wp2_with fail
              go_roundg (es.length - (k + 1))
              case rel => exact ⟨k + 1, R, vs3, ns3, rfl, by omega, by go_num, by have := HRl.out; omega, HRS2, HO3, HRr⟩
              case measure => omega
        · have hke : k = es.length := by omega
          subst hke
          have x1 : ¬ ((es.length : Int) < (es.length : Int)) := by omega
          obtain ⟨A3, B3, rfl⟩ := own_shape HO3.out.rowL
          obtain ⟨C3, D3, rfl⟩ := own_shape HO3.out.rowK
          have c0 := HO3.out.box.q0
          have c1 := HO3.out.box.q1
          have c2 := HO3.out.box.q2
          have r0 := HRr.out.1.q0
          have r1 := HRr.out.1.q1
          have r2 := HRr.out.1.q2
          have s0 := HRr.out.1.f0
          have s1 := HRr.out.1.f1
          have s2 := HRr.out.2.1
          go_wp2_with fail
          refine bodyPost_ret (v := .agg #[.slice A3 R.length B3, .slice C3 R.length D3, .int .i64 n]) (by simp [results, Tryd.results11, go_sem, *]) rfl ?_
          have hlb : lo ≤ w.heap.size + 1 := by omega
          have hset : ∀ (w1 : World) (o : Nat) (u : Value) (b : Nat), b ≠ w.heap.size + 1 → (w1.setCell ⟨w.heap.size + 1, o, none⟩ u).heap[b]? = w1.heap[b]? := fun w1 o u b hb => Below.heap_setCell _ _ _ _ (by simpa using hb)
          have hmv : ∀ (u0 u1 u2 : Value) (b : Nat), b ≠ w.heap.size + 1 → (((wr.setCell ⟨w.heap.size + 1, 0, none⟩ u0).setCell ⟨w.heap.size + 1, 1, none⟩ u1).setCell ⟨w.heap.size + 1, 2, none⟩ u2).heap[b]? = wr.heap[b]? := fun u0 u1 u2 b hb => by rw [hset _ _ _ _ hb, hset _ _ _ _ hb, hset _ _ _ _ hb]
          have h32 := HRS.out.bb
          obtain ⟨cs, hcs⟩ := HRr.out.2.2
          refine ⟨((HRS.out.bel.setCell hlb _).setCell hlb _).setCell hlb _, R, A3, B3, C3, D3, HRl.out, rfl, ⟨?_, ?_, fun q r hr => ?_, fun q r hr => ?_⟩⟩
          · exact own_base (own_move HO3.out.rowL fun b hb => hmv _ _ _ b (by have := (HO3.out.rowL.lt b hb).1; omega)) (fun _ _ => Nat.zero_le _)
          · exact own_base (own_move HO3.out.rowK fun b hb => hmv _ _ _ b (by have := (HO3.out.rowK.lt b hb).1; omega)) (fun _ _ => Nat.zero_le _)
          · exact (HRS.out.recL q r hr).move fun x cur _ hx => hmv _ _ _ x (by
              intro ex
              rw [ex, hcs] at hx
              simp only [Option.some.injEq, Obj.cells.injEq] at hx
              exact absurd hx.2.1 (by decide))
          · exact (HRS.out.recK q r hr).move fun x cur _ hx => hmv _ _ _ x (by
              intro ex
              rw [ex, hcs] at hx
              simp only [Option.some.injEq, Obj.cells.injEq] at hx
              exact absurd hx.2.1 (by decide))
end Go.Proofs.YtknakfpciccoaaaDoor
/- The walk of same, of two values that read as one. -/
namespace Go.Proofs.YtknakfpciccoaaaDoor
open Go.RowKit

def SameSaid (m : Nat) : Prop := ∀ (f g : Nat) (va vb : Value) (t : T) (w : World), At w f va t → At w g vb t →
    Calls Tryd.prog 10 #[va, vb, .int .i64 m] w fun e w' => e = .returned (.bool true) ∧ Below w.heap.size w w'

set_option maxHeartbeats 1000000 in
set_option maxRecDepth 100000 in
theorem same_step (m : Nat) (hm : m ≤ 100) (ih : ∀ n, m = n + 1 → SameSaid n) : SameSaid m := by
  intro f g va vb t w h h'
  obtain ⟨f1, La, Ka, Lc, Kc, hf1, rfl, hf, hl, hk⟩ := h.open
  obtain ⟨g1, Ma, Na, Mc, Nc, hg1, rfl, hf', hl', hk'⟩ := h'.open
  have hlen := hf.l1
  have klen := hf.m1
  have Hih := hid ih
  clear h h' hf hf' hf1 hg1 ih
  go_enter Tryd.func10, Tryd.ntmps10
  go_wp2_with fail
  go_loopg [7] (nK t) (fun g i wr => ∃ k : Nat, g = nK t - k ∧ k ≤ nK t ∧ i = .int .i64 k ∧ Below (w.heap.size + 2) ((w.alloc (.cells #[.int .i64 (kindOf t), .int .i64 (nOf t), .string (sOf t), .slice La (nL t) Lc, .slice Ka (nK t) Kc] 26)).alloc (.cells #[.int .i64 (kindOf t), .int .i64 (nOf t), .string (sOf t), .slice Ma (nL t) Mc, .slice Na (nK t) Nc] 26)) wr)
  case atStart => exact ⟨0, rfl, Nat.zero_le _, rfl, Below.refl _ _⟩
  case round =>
    obtain ⟨k, rfl, hk1, rfl, hb⟩ := hrel
    obtain ⟨⟨q0, q1, q2, q3, q4⟩, ⟨r0, r1, r2, r3, r4⟩, hz, hbw⟩ := box2_facts hb
    have Hb := hid hb
    clear hb
    by_cases hlt : k < nK t
    · obtain ⟨ea, fa, rfl, hea, hsa, n0⟩ := hk.out.keep hbw k hlt
      obtain ⟨eb, fb, rfl, heb, hsb, m0⟩ := hk'.out.keep hbw k hlt
      have x3 : (k : Int) < (nK t : Int) := by omega
      go_wp2_with fail
      go_quiet (fail)
      go_wp2_with fail
      go_roundg (nK t - (k + 1))
      case rel => exact ⟨k + 1, rfl, by omega, by go_num, below_drewN Hb.out _⟩
      case measure => omega
    · go_wp2_with fail
      go_loopg [8, 9] (nL t) (fun g i z wx => ∃ k : Nat, g = nL t - k ∧ k ≤ nL t ∧ i = .int .i64 k ∧ Below (w.heap.size + 2) ((w.alloc (.cells #[.int .i64 (kindOf t), .int .i64 (nOf t), .string (sOf t), .slice La (nL t) Lc, .slice Ka (nK t) Kc] 26)).alloc (.cells #[.int .i64 (kindOf t), .int .i64 (nOf t), .string (sOf t), .slice Ma (nL t) Mc, .slice Na (nK t) Nc] 26)) wx)
      case atStart => exact ⟨0, rfl, Nat.zero_le _, rfl, Hb.out⟩
      case round =>
        clear q0 q1 q2 q3 q4 r0 r1 r2 r3 r4 hz hbw Hb hk1 hlt
        obtain ⟨k, rfl, hk1, rfl, hb⟩ := hrel
        obtain ⟨⟨q0, q1, q2, q3, q4⟩, ⟨r0, r1, r2, r3, r4⟩, hz, hbw⟩ := box2_facts hb
        have Hb := hid hb
        clear hb
        have hz0 : w.heap.size < wr.heap.size := by omega
        by_cases hlt : k < nL t
        · by_cases hm0 : 0 < m
          · obtain ⟨n, hn⟩ : ∃ n, m = n + 1 := ⟨m - 1, by omega⟩
            have HS := hid (Hih.out n hn)
            obtain ⟨ba, oa, c0, c1, c2, c3, c4, rfl, hba, p0, p1, p2, p3, p4, Ha⟩ := hl.out.keep hbw k hlt
            obtain ⟨bb, ob, d0, d1, d2, d3, d4, rfl, hbb, t0, t1, t2, t3, t4, Hc⟩ := hl'.out.keep hbw k hlt
            have x1 : (k : Int) < (nL t : Int) := by omega
            have em : IntKind.i64.wrap (n : Int) = (n : Int) := by rw [IntKind.wrap_i64]; omega
            have em2 : (m : Int) - 1 = (n : Int) := by omega
            clear hn
            have HA1 := hid (Ha.out.keep (below_drew wr))
            have HC1 := hid (Hc.out.keep (below_drew wr))
            have HSS : Hid (∀ wx : World, Below wr.drew.heap.size wr.drew wx → wx.cell? ⟨w.heap.size, 3, none⟩ = some (.slice (some ⟨ba, oa, none⟩) (nL t) Lc) ∧ wx.cell? ⟨w.heap.size + 1, 3, none⟩ = some (.slice (some ⟨bb, ob, none⟩) (nL t) Mc) ∧ wx.cell? ⟨ba, oa + k * 5, none⟩ = some c0 ∧ wx.cell? ⟨ba, oa + k * 5 + 1, none⟩ = some c1 ∧ wx.cell? ⟨ba, oa + k * 5 + 2, none⟩ = some c2 ∧ wx.cell? ⟨ba, oa + k * 5 + 3, none⟩ = some c3 ∧ wx.cell? ⟨ba, oa + k * 5 + 4, none⟩ = some c4 ∧ wx.cell? ⟨bb, ob + k * 5, none⟩ = some d0 ∧ wx.cell? ⟨bb, ob + k * 5 + 1, none⟩ = some d1 ∧ wx.cell? ⟨bb, ob + k * 5 + 2, none⟩ = some d2 ∧ wx.cell? ⟨bb, ob + k * 5 + 3, none⟩ = some d3 ∧ wx.cell? ⟨bb, ob + k * 5 + 4, none⟩ = some d4) := by
              intro wx hx
              have hh := (below_drew wr).trans hx
              refine ⟨?_, ?_, ?_, ?_, ?_, ?_, ?_, ?_, ?_, ?_, ?_, ?_⟩
              all_goals (rw [hh.cell (p := ⟨_, _, none⟩) (by first | assumption | omega)]; assumption)
            go_wp2_with fail
            go_region_held (fun wx => wx.cell? ⟨w.heap.size, 3, none⟩ = some (.slice (some ⟨ba, oa, none⟩) (nL t) Lc) ∧ wx.cell? ⟨w.heap.size + 1, 3, none⟩ = some (.slice (some ⟨bb, ob, none⟩) (nL t) Mc) ∧ wx.cell? ⟨ba, oa + k * 5, none⟩ = some c0 ∧ wx.cell? ⟨ba, oa + k * 5 + 1, none⟩ = some c1 ∧ wx.cell? ⟨ba, oa + k * 5 + 2, none⟩ = some c2 ∧ wx.cell? ⟨ba, oa + k * 5 + 3, none⟩ = some c3 ∧ wx.cell? ⟨ba, oa + k * 5 + 4, none⟩ = some c4 ∧ wx.cell? ⟨bb, ob + k * 5, none⟩ = some d0 ∧ wx.cell? ⟨bb, ob + k * 5 + 1, none⟩ = some d1 ∧ wx.cell? ⟨bb, ob + k * 5 + 2, none⟩ = some d2 ∧ wx.cell? ⟨bb, ob + k * 5 + 3, none⟩ = some d3 ∧ wx.cell? ⟨bb, ob + k * 5 + 4, none⟩ = some d4) (go_keep) ((go_at_call 10; refine (HS.out _ _ _ _ _ _ HA1.out HC1.out).mono ?_; rintro e w2 ⟨rfl, hb2⟩; have hc2 := HSS.out _ hb2))
            have HB2 := hid (Hb.out.trans (((below_drew wr).trans hb2).mono (by omega)))
            clear hb2 hc2 HA1 HC1
            go_wp2_with fail
            go_roundg (nL t - (k + 1))
            case rel => exact ⟨k + 1, rfl, by omega, by go_num, HB2.out⟩
            case measure => omega
          · have e0 : (m : Int) ≤ 0 := by omega
            have x1 : (k : Int) < (nL t : Int) := by omega
            go_wp2_with fail
            go_ret
            exact ⟨rfl, hbw⟩
        · go_wp2_with fail
          go_ret
          exact ⟨rfl, hbw⟩
theorem same_any : ∀ (m : Nat), m ≤ 100 → SameSaid m
  | 0, h => same_step 0 h (fun n e => by omega)
  | m + 1, h => same_step (m + 1) h (fun n e => (Nat.succ.inj e) ▸ same_any m (by omega))
end Go.Proofs.YtknakfpciccoaaaDoor
