import Derived.Test.YtknakfpciccoaabGreatDoorZS14
import Derived.Lib.Split
import Derived.Test.YtknakfpciccoaabGreatDoorZS1
import Derived.Deep.AppendSrc
import Derived.Deep.AppendLies
import Derived.Laws.BytesArg
import Derived.Laws.IdiomStrings
/- Filters: what they say, how they lie in memory. -/
namespace Go.Proofs.YtknakfpciccoaabGreatDoor
open Go.RowKit

def opAnd : ByteArray := ⟨#[36, 97, 110, 100]⟩
def opOr : ByteArray := ⟨#[36, 111, 114]⟩
def opNor : ByteArray := ⟨#[36, 110, 111, 114]⟩
/-- A text's parts, between its points. -/
def splitP (x : ByteArray) : List ByteArray := Lib.splitB ⟨#[46]⟩ 0 (Lib.countB x ⟨#[46]⟩) x
def isOp (x : ByteArray) : Bool := Lib.hasPrefix x.data.toList [36]
def exps (j : T) : List (ByteArray × T) := if kindOf j = 6 ∧ 0 < nK j ∧ isOp (nam j 0) = true then prs j else [(opEq, j)]
def zeroT : T := leafT 0 0 ByteArray.empty
/-- What tests say of what a path leads to. -/
def evP (p : List ByteArray) (ps : List (ByteArray × T)) (doc : T) : Bool := match fromP p doc with
  | some r => evA 16 ps r true
  | none => evA 16 ps zeroT false
theorem evP_some {p : List ByteArray} {ps : List (ByteArray × T)} {doc r : T} (h : fromP p doc = some r) : evP p ps doc = evA 16 ps r true := by unfold evP; rw [h]
theorem evP_none {p : List ByteArray} {ps : List (ByteArray × T)} {doc : T} (h : fromP p doc = none) : evP p ps doc = evA 16 ps zeroT false := by unfold evP; rw [h]
/-- What an entry of a filter says of a document. -/
def evC (g : T → T → Bool) (x : ByteArray) (j doc : T) : Bool :=
  if x = opAnd then allL (fun y => g y doc) j (nL j) else if x = opOr then anyL (fun y => g y doc) j (nL j) else if x = opNor then !(anyL (fun y => g y doc) j (nL j))
  else evP (splitP x) (exps j) doc
def allN (p : Nat → Bool) : Nat → Bool
  | 0 => true
  | k + 1 => allN p k && p k
def evF : Nat → T → T → Bool
  | 0, _, _ => true
  | m + 1, t, doc => allN (fun i => evC (evF m) (nam t i) (elt t i) doc) (nK t)
/-- Filters, one behind the other. -/
def RowF (w : World) (R : Value → T → Prop) (v : Value) (j : T) : Prop :=
  ∃ (A : Option Addr) (c : Nat), v = .slice A (nL j) c ∧ nL j ≤ 1000000000 ∧ ∀ i, i < nL j → ∃ b o u, A = some ⟨b, o, none⟩ ∧ b < w.heap.size ∧ w.cell? ⟨b, o + i, none⟩ = some u ∧ R u (elt j i)
theorem RowF.keep {w w' : World} {R R' : Value → T → Prop} {v : Value} {j : T} (h : RowF w R v j) (hb : Below w.heap.size w w') (hR : ∀ u y, R u y → R' u y) : RowF w' R' v j := by
  obtain ⟨A, c, hv, hn, h⟩ := h
  refine ⟨A, c, hv, hn, fun i hi => ?_⟩
  obtain ⟨b, o, u, h0, hl, q, hr⟩ := h i hi
  exact ⟨b, o, u, h0, Nat.lt_of_lt_of_le hl hb.size, (hb.cell (p := ⟨b, _, none⟩) hl).trans q, hR _ _ hr⟩
def plainN (x : ByteArray) : Prop := ¬ x = opAnd ∧ ¬ x = opOr ∧ ¬ x = opNor
/-- An entry of a filter in memory. -/
def CondAt (w : World) (R : Value → T → Prop) (u : Value) (x : ByteArray) (j : T) : Prop :=
  (x = opAnd ∧ ∃ v, u = .iface 203 v ∧ RowF w R v j) ∨ (x = opOr ∧ ∃ v, u = .iface 205 v ∧ RowF w R v j) ∨ (x = opNor ∧ ∃ v, u = .iface 206 v ∧ RowF w R v j) ∨
  (plainN x ∧ ∃ pv tv, u = .iface 213 (.agg #[pv, tv]) ∧ StrsAt w pv (splitP x) ∧ TestsAt w 16 tv (exps j))
theorem CondAt.keep {w w' : World} {R R' : Value → T → Prop} {u : Value} {x : ByteArray} {j : T} (h : CondAt w R u x j) (hb : Below w.heap.size w w') (hR : ∀ u y, R u y → R' u y) : CondAt w' R' u x j := by
  rcases h with ⟨h1, v, h2, h3⟩ | ⟨h1, v, h2, h3⟩ | ⟨h1, v, h2, h3⟩ | ⟨h1, pv, tv, h2, h3, h4⟩
  · exact .inl ⟨h1, v, h2, h3.keep hb hR⟩
  · exact .inr (.inl ⟨h1, v, h2, h3.keep hb hR⟩)
  · exact .inr (.inr (.inl ⟨h1, v, h2, h3.keep hb hR⟩))
  · exact .inr (.inr (.inr ⟨h1, pv, tv, h2, h3.keep hb, h4.keep hb⟩))
def FilAt (w : World) : Nat → Value → T → Prop
  | 0, _, _ => False
  | m + 1, v, t => ∃ (A : Option Addr) (c : Nat), v = .slice A (nK t) c ∧ nK t ≤ 1000000000 ∧ ∀ i, i < nK t → ∃ b o u, A = some ⟨b, o, none⟩ ∧ b < w.heap.size ∧ w.cell? ⟨b, o + i, none⟩ = some u ∧ CondAt w (FilAt w m) u (nam t i) (elt t i)
theorem FilAt.keep {w w' : World} (hb : Below w.heap.size w w') : ∀ (m : Nat) (v : Value) (t : T), FilAt w m v t → FilAt w' m v t
  | 0, _, _, h => h
  | m + 1, v, t, h => by
    obtain ⟨A, c, hv, hn, h⟩ := h
    refine ⟨A, c, hv, hn, fun i hi => ?_⟩
    obtain ⟨b, o, u, h0, hl, q, hr⟩ := h i hi
    exact ⟨b, o, u, h0, Nat.lt_of_lt_of_le hl hb.size, (hb.cell (p := ⟨b, _, none⟩) hl).trans q, hr.keep hb (FilAt.keep hb m)⟩
def FilSaid (Tb : World → Prop) (m : Nat) : Prop := ∀ (fv : Value) (t : T) (f : Nat) (x : Value) (doc : T) (w : World), FilAt w m fv t → At w f x doc → f ≤ 16 → okA doc → Tb w →
    Calls Tryz.prog 56 #[fv, x] w fun e w' => e = .returned (.bool (evF m t doc)) ∧ Below w.heap.size w w'
/-- The zeros are a value of no kind. -/
theorem zero_at (w : World) : At w 1 (.agg #[.int .i64 0, .int .i64 0, .string ⟨#[]⟩, .slice none 0 0, .slice none 0 0]) zeroT := by
  refine ⟨none, none, 0, 0, rfl, ⟨by decide, by decide, by decide, by decide, ?_, ?_, ?_⟩, fun i hi => absurd hi (Nat.not_lt_zero i), fun i hi => absurd hi (Nat.not_lt_zero i)⟩
  · show (ByteArray.empty).size ≤ _; simp
  · show 0 ≤ _; omega
  · show 0 ≤ _; omega
theorem zero_ok : okA zeroT := ⟨fun f => by
    cases f with
    | zero => trivial
    | succ f => exact ⟨fun h => (by cases h), fun i hi => absurd hi (Nat.not_lt_zero i)⟩, fun f => by
    cases f with
    | zero => trivial
    | succ f => exact ⟨Nat.zero_le _, Nat.zero_le _, fun i hi => absurd hi (Nat.not_lt_zero i), fun i hi => absurd hi (Nat.not_lt_zero i)⟩⟩
set_option maxHeartbeats 4000000 in
set_option maxRecDepth 100000 in
theorem valueHas_any {Tb : World → Prop} (hA : AtoiSaid Tb) (hI : ItoaSaid Tb) (hL : Lies Tb) (y : ByteArray) (j : T) (pv tv : Value) (f : Nat) (x : Value) (doc : T) (w : World) (hp : StrsAt w pv (splitP y)) (ht : TestsAt w 16 tv (exps j)) (hv : At w f x doc) (hf : f ≤ 16) (kv : okA doc) (hT : Tb w) :
    Calls Tryz.prog 264 #[.agg #[pv, tv], x] w fun e w' => e = .returned (.bool (evP (splitP y) (exps j) doc)) ∧ Below w.heap.size w w' := by
  obtain ⟨g1, La, Ka, Lc, Kc, hg1, rfl, _, _, _⟩ := hv.open
  obtain ⟨A1, cp, rfl, hp1, hp2⟩ := hp
  obtain ⟨A2, ct, rfl, ht1, ht2⟩ := ht
  have HB : Hid (Below w.heap.size w ((w.alloc (.cells #[.slice A1 (splitP y).length cp, .slice A2 (exps j).length ct] 213)).alloc (.cells #[.int .i64 (kindOf doc), .int .i64 (nOf doc), .string (sOf doc), .slice La (nL doc) Lc, .slice Ka (nK doc) Kc] 36))) := ((Below.refl _ _).alloc (Nat.le_refl _) _).alloc (by simp) _
  have HP : Hid (StrsAt w (.slice A1 (splitP y).length cp) (splitP y)) := ⟨A1, cp, rfl, hp1, hp2⟩
  have HTs : Hid (TestsAt w 16 (.slice A2 (exps j).length ct) (exps j)) := ⟨A2, ct, rfl, ht1, ht2⟩
  have HC := hid (from_any hA hI hL _ _ f _ doc _ _ (Below.refl _ _) (HP.out.keep HB.out) (hv.keep HB.out) kv (hL w hT _ _ hT HB.out))
  clear hp1 hp2 ht1 ht2 hv kv hT hA hI hL hg1
  go_enter Tryz.func264, Tryz.ntmps264
  go_wp2_with fail
  refine HC.out.mono ?_
  rintro e w2 ⟨b2, ⟨r, g, A, B, C, D, hr, hg, rfl, ha, hk⟩ | ⟨hr, rfl⟩⟩
  · have HR := hid (evP_some (ps := exps j) hr)
    have HB2 := hid (HB.out.trans (b2.mono HB.out.size))
    have q0 : w2.cell? ⟨w.heap.size, 1, none⟩ = some (.slice A2 (exps j).length ct) := by rw [b2.cell (p := ⟨w.heap.size, 1, none⟩) (by simp; omega)]; simp [go_sem]
    have HB3 : Hid (Below w2.heap.size w2 (w2.alloc (.cells #[.int .i64 (kindOf r), .int .i64 (nOf r), .string (sOf r), .slice A (nL r) B, .slice C (nK r) D] 36))) := (Below.refl _ _).alloc (Nat.le_refl _) _
    have HB4 := hid (HB2.out.trans (HB3.out.mono HB2.out.size))
    have HH := hid (hold_any 16 _ _ g _ r true _ (HTs.out.keep HB4.out) (ha.keep ((b2.trans (HB3.out.mono b2.size)))) (by omega) hk)
    have hlt : w.heap.size < w2.heap.size := by have := b2.size; simp at this; omega
    clear b2 ha hk hr HC
    go_wp2_with fail
    refine HH.out.mono ?_
    rintro e w5 ⟨rfl, b5⟩
    have HB5 := hid (HB4.out.trans (b5.mono HB4.out.size))
    clear b5
    go_wp2_with fail
    go_ret
    exact ⟨ret_bool (by rw [HR.out]), HB5.out⟩
  · have HR := hid (evP_none (ps := exps j) hr)
    have HB2 := hid (HB.out.trans (b2.mono HB.out.size))
    have q0 : w2.cell? ⟨w.heap.size, 1, none⟩ = some (.slice A2 (exps j).length ct) := by rw [b2.cell (p := ⟨w.heap.size, 1, none⟩) (by simp; omega)]; simp [go_sem]
    have HB3 : Hid (Below w2.heap.size w2 (w2.alloc (.cells #[.int .i64 0, .int .i64 0, .string ⟨#[]⟩, .slice none 0 0, .slice none 0 0] 36))) := (Below.refl _ _).alloc (Nat.le_refl _) _
    have HB4 := hid (HB2.out.trans (HB3.out.mono HB2.out.size))
    have HH := hid (hold_any 16 _ _ 1 _ zeroT false _ (HTs.out.keep HB4.out) (zero_at _) (by omega) zero_ok)
    have hlt : w.heap.size < w2.heap.size := by have := b2.size; simp at this; omega
    clear b2 hr HC
    go_wp2_with fail
    refine HH.out.mono ?_
    rintro e w5 ⟨rfl, b5⟩
    have HB5 := hid (HB4.out.trans (b5.mono HB4.out.size))
    clear b5
    go_wp2_with fail
    go_ret
    exact ⟨ret_bool (by rw [HR.out]), HB5.out⟩
end Go.Proofs.YtknakfpciccoaabGreatDoor
/- The walks of allHold, oneHolds, noneHold. -/
namespace Go.Proofs.YtknakfpciccoaabGreatDoor
open Go.RowKit

theorem allL_no {f : T → Bool} {t : T} {j k : Nat} (h : j < k) (hd : f (elt t j) = false) : allL f t k = false := allL_at h hd
set_option maxHeartbeats 4000000 in
set_option maxRecDepth 100000 in
theorem allHold_any {Tb : World → Prop} (hL : Lies Tb) (m : Nat) (ih : FilSaid Tb m) (l : Value) (j : T) (f : Nat) (x : Value) (v : T) (w : World) (hl : RowF w (FilAt w m) l j) (hv : At w f x v) (hf : f ≤ 16) (kv : okA v) (hT : Tb w) :
    Calls Tryz.prog 257 #[l, x] w fun e w' => e = .returned (.bool (allL (fun y => evF m y v) j (nL j))) ∧ Below w.heap.size w w' := by
  obtain ⟨g1, La, Ka, Lc, Kc, hg1, rfl, _, _, _⟩ := hv.open
  obtain ⟨A, c, rfl, hn, hrow⟩ := hl
  have HRow := hid hrow
  have HT : Hid (∀ w' : World, Below w.heap.size w w' → Tb w') := fun w' hb => hL w hT w w' hT hb
  have HV := hid hv
  have HKv := hid kv
  have HIh := hid ih
  clear hrow hv kv ih hg1 hT hL
  go_enter Tryz.func257, Tryz.ntmps257
  go_wp2_with fail
  go_loopg [9] (nL j) (fun g' i wr => ∃ k : Nat, g' = nL j - k ∧ k ≤ nL j ∧ i = .int .i64 k ∧ Hid (Below (w.heap.size + 1) (w.alloc (.cells #[.int .i64 (kindOf v), .int .i64 (nOf v), .string (sOf v), .slice La (nL v) Lc, .slice Ka (nK v) Kc] 36)) wr) ∧ Hid (allL (fun y => evF m y v) j k = true))
  case atStart => exact ⟨0, rfl, Nat.zero_le _, rfl, Below.refl _ _, rfl⟩
  case round =>
    obtain ⟨k, rfl, hk, rfl, HB, HN⟩ := hrel
    obtain ⟨q0, q1, q2, q3, q4, hz, hbw⟩ := box_facts HB.out
    have Hbw := hid hbw
    clear hbw
    by_cases hlt : k < nL j
    · obtain ⟨b, o, u, rfl, hbl, p0, hr⟩ := HRow.out k hlt
      replace p0 := (Hbw.out.cell (p := ⟨b, o + k, none⟩) hbl).trans p0
      have HC := hid (HIh.out u (elt j k) f _ v wr (FilAt.keep Hbw.out m _ _ hr) (HV.out.keep Hbw.out) hf HKv.out (HT.out wr Hbw.out))
      have HA : Hid (allL (fun y => evF m y v) j (k + 1) = evF m (elt j k) v) := by show _ = _; rw [allL, HN.out]; simp
      have HA2 : Hid (evF m (elt j k) v = false → allL (fun y => evF m y v) j (nL j) = false) := fun h => allL_no hlt h
      clear hr
      generalize evF m (elt j k) v = r at HC HA HA2
      go_wp2_with fail
      refine HC.out.mono ?_
      rintro e w2 ⟨rfl, b2⟩
      have HB4 := hid (HB.out.trans (b2.mono (by omega)))
      clear b2 HC
      cases r with
      | true =>
        go_wp2_with fail
        go_roundg (nL j - (k + 1))
        case rel => exact ⟨k + 1, rfl, by omega, by go_num, HB4, HA⟩
        case measure => omega
      | false =>
        have HA3 := hid (HA2.out rfl)
        have HB5 := hid (((Below.refl w.heap.size w).alloc (Nat.le_refl _) (.cells #[.int .i64 (kindOf v), .int .i64 (nOf v), .string (sOf v), .slice La (nL v) Lc, .slice Ka (nK v) Kc] 36)).trans (HB4.out.mono (by omega)))
        clear HA2
        go_wp2_with fail
        go_ret
        exact ⟨ret_bool (by rw [HA3.out]), HB5.out⟩
    · obtain rfl : k = nL j := by omega
      go_wp2_with fail
      go_ret
      exact ⟨ret_bool (by rw [HN.out]), Hbw.out⟩
set_option maxHeartbeats 4000000 in
set_option maxRecDepth 100000 in
theorem one1_any {Tb : World → Prop} (m : Nat) (ih : FilSaid Tb m) (b : Nat) (f : Nat) (fv : Value) (y v : T) (A C : Option Addr) (B D : Nat) (w : World) (h0 : w.cell? ⟨b, 0, none⟩ = some (.int .i64 (kindOf v))) (h1 : w.cell? ⟨b, 1, none⟩ = some (.int .i64 (nOf v))) (h2 : w.cell? ⟨b, 2, none⟩ = some (.string (sOf v))) (h3 : w.cell? ⟨b, 3, none⟩ = some (.slice A (nL v) B)) (h4 : w.cell? ⟨b, 4, none⟩ = some (.slice C (nK v) D)) (hy : FilAt w m fv y)
    (ha : At w f (.agg #[.int .i64 (kindOf v), .int .i64 (nOf v), .string (sOf v), .slice A (nL v) B, .slice C (nK v) D]) v) (hf : f ≤ 16) (ka : okA v) (hT : Tb w) :
    Calls Tryz.prog 260 #[fv, .pointer (some ⟨b, 0, none⟩)] w fun e w' => e = .returned (.bool (evF m y v)) ∧ Below w.heap.size w w' := by
  have HC := hid (ih fv y f _ v w hy ha hf ka hT)
  generalize evF m y v = r at HC
  clear ha hy ka ih hT
  go_enter Tryz.func260, Tryz.ntmps260
  go_wp2_with fail
  refine HC.out.mono ?_
  rintro e w2 ⟨rfl, b2⟩
  have HB2 := hid b2
  clear b2
  go_wp2_with fail
  go_ret
  exact ⟨rfl, HB2.out⟩
set_option maxHeartbeats 4000000 in
set_option maxRecDepth 100000 in
theorem indexFil_any (P : T → Bool) (g : FuncId) (hg : ∀ (a : Array Value) (w : World), (callFunc g a).run Tryz.prog w = .ok (.enter g a) w) (p : Value) (R : World → Value → T → Prop) (hR : ∀ w w' u y, Below w.heap.size w w' → R w u y → R w' u y) (l : Value) (t : T) (w : World) (hl : RowF w (R w) l t)
    (hP : ∀ k, k < nL t → ∀ (wr : World) (u : Value), Below w.heap.size w wr → R wr u (elt t k) → Calls Tryz.prog g #[u, p] wr fun e w' => e = .returned (.bool (P (elt t k))) ∧ Below wr.heap.size wr w') :
    Calls Tryz.prog 261 #[l, .func (Fn.func g) #[] #[p]] w fun e w' => Below w.heap.size w w' ∧ ∃ n : Int, e = .returned (.int .i64 n) ∧ ((n = -1 ∧ anyL P t (nL t) = false) ∨ ∃ k : Nat, n = (k : Int) ∧ k < nL t ∧ P (elt t k) = true) := by
  obtain ⟨A, c, rfl, hn, hrow⟩ := hl
  have HRow := hid hrow
  have HR := hid hR
  have HP := hid hP
  clear hrow hP hR
  go_enter Tryz.func261, Tryz.ntmps261
  go_wp2_with fail
  go_loopg [8] (nL t) (fun g' i wr => ∃ k : Nat, g' = nL t - k ∧ k ≤ nL t ∧ i = .int .i64 k ∧ Hid (Below w.heap.size w wr) ∧ Hid (anyL P t k = false))
  case atStart => exact ⟨0, rfl, Nat.zero_le _, rfl, Below.refl _ _, rfl⟩
  case round =>
    obtain ⟨k, rfl, hk, rfl, HB, HN⟩ := hrel
    by_cases hlt : k < nL t
    · obtain ⟨b, o, u, rfl, hbl, p0, hr⟩ := HRow.out k hlt
      replace p0 := (HB.out.cell (p := ⟨b, o + k, none⟩) hbl).trans p0
      have HC := hid (HP.out k hlt wr u HB.out (HR.out _ _ _ _ HB.out hr))
      clear hr
      cases hp : P (elt t k) with
      | true =>
        rw [hp] at HC
        have Hp := hid hp
        clear hp
        go_wp2_with fail
        refine HC.out.mono ?_
        rintro e w2 ⟨rfl, b2⟩
        have HB2 := hid (HB.out.trans (b2.mono HB.out.size))
        clear b2
        go_wp2_with fail
        go_ret
        exact ⟨HB2.out, _, rfl, .inr ⟨k, rfl, hlt, Hp.out⟩⟩
      | false =>
        rw [hp] at HC
        have HN2 : Hid (anyL P t (k + 1) = false) := by show _ = _; rw [anyL, HN.out, hp]; rfl
        clear hp
        go_wp2_with fail
        refine HC.out.mono ?_
        rintro e w2 ⟨rfl, b2⟩
        have HB2 := hid (HB.out.trans (b2.mono HB.out.size))
        clear b2
        go_wp2_with fail
        go_roundg (nL t - (k + 1))
        case rel => exact ⟨k + 1, rfl, by omega, by go_num, HB2, HN2⟩
        case measure => omega
    · obtain rfl : k = nL t := by omega
      go_wp2_with fail
      go_ret
      exact ⟨HB.out, _, rfl, .inl ⟨rfl, HN.out⟩⟩
set_option maxHeartbeats 4000000 in
set_option maxRecDepth 100000 in
theorem containsFil_any (P : T → Bool) (g : FuncId) (hg : ∀ (a : Array Value) (w : World), (callFunc g a).run Tryz.prog w = .ok (.enter g a) w) (p : Value) (R : World → Value → T → Prop) (hR : ∀ w w' u y, Below w.heap.size w w' → R w u y → R w' u y) (l : Value) (t : T) (w : World) (hl : RowF w (R w) l t)
    (hP : ∀ k, k < nL t → ∀ (wr : World) (u : Value), Below w.heap.size w wr → R wr u (elt t k) → Calls Tryz.prog g #[u, p] wr fun e w' => e = .returned (.bool (P (elt t k))) ∧ Below wr.heap.size wr w') :
    Calls Tryz.prog 259 #[l, .func (Fn.func g) #[] #[p]] w fun e w' => e = .returned (.bool (anyL P t (nL t))) ∧ Below w.heap.size w w' := by
  have HC := hid (indexFil_any P g hg p R hR l t w hl hP)
  clear hl hP hR
  go_enter Tryz.func259, Tryz.ntmps259
  go_wp2_with fail
  refine HC.out.mono ?_
  rintro e w2 ⟨b2, n, rfl, ⟨rfl, hn⟩ | ⟨k, rfl, hk, hp⟩⟩
  · have HB := hid b2
    have HN := hid hn
    clear b2 hn
    go_wp2_with fail
    go_ret
    exact ⟨ret_bool HN.out.symm, HB.out⟩
  · have HB := hid b2
    have HN := hid (anyL_at hk hp)
    clear b2 hp
    go_wp2_with fail
    go_ret
    exact ⟨ret_bool HN.out.symm, HB.out⟩
set_option maxHeartbeats 4000000 in
set_option maxRecDepth 100000 in
theorem oneHolds_any {Tb : World → Prop} (hL : Lies Tb) (m : Nat) (ih : FilSaid Tb m) (l : Value) (j : T) (f : Nat) (x : Value) (v : T) (w : World) (hl : RowF w (FilAt w m) l j) (hv : At w f x v) (hf : f ≤ 16) (kv : okA v) (hT : Tb w) :
    Calls Tryz.prog 258 #[l, x] w fun e w' => e = .returned (.bool (anyL (fun y => evF m y v) j (nL j))) ∧ Below w.heap.size w w' := by
  obtain ⟨g1, La, Ka, Lc, Kc, hg1, rfl, _, _, _⟩ := hv.open
  have HB : Hid (Below w.heap.size w (w.alloc (.cells #[.int .i64 (kindOf v), .int .i64 (nOf v), .string (sOf v), .slice La (nL v) Lc, .slice Ka (nK v) Kc] 36))) := (Below.refl _ _).alloc (Nat.le_refl _) _
  have HX : Hid (BoxAt w.heap.size (.int .i64 (kindOf v)) (.int .i64 (nOf v)) (.string (sOf v)) (.slice La (nL v) Lc) (.slice Ka (nK v) Kc) (w.alloc (.cells #[.int .i64 (kindOf v), .int .i64 (nOf v), .string (sOf v), .slice La (nL v) Lc, .slice Ka (nK v) Kc] 36))) := by
    constructor <;> simp [go_sem]
  have HC := hid (containsFil_any (fun y => evF m y v) 260 (fun _ _ => rfl) (.pointer (some ⟨w.heap.size, 0, none⟩)) (fun w => FilAt w m) (fun w w' u y hb h => FilAt.keep hb m u y h) l j _ (hl.keep HB.out (FilAt.keep HB.out m)) (fun k hk wr u hb hu => by
      have hbx := HX.out.stay hb
      have hbw := HB.out.trans (hb.mono HB.out.size)
      exact one1_any m ih w.heap.size f u (elt j k) v La Ka Lc Kc wr hbx.q0 hbx.q1 hbx.q2 hbx.q3 hbx.q4 hu (hv.keep hbw) hf kv (hL w hT _ _ hT hbw)))
  generalize anyL (fun y => evF m y v) j (nL j) = r at HC
  clear hv kv hl ih hT hL hg1
  go_enter Tryz.func258, Tryz.ntmps258
  go_wp2_with fail
  refine HC.out.mono ?_
  rintro e w2 ⟨rfl, b2⟩
  have HB3 := hid (HB.out.trans (b2.mono HB.out.size))
  clear b2
  go_wp2_with fail
  go_ret
  exact ⟨rfl, HB3.out⟩
set_option maxHeartbeats 4000000 in
set_option maxRecDepth 100000 in
theorem noneHold_any {Tb : World → Prop} (hL : Lies Tb) (m : Nat) (ih : FilSaid Tb m) (l : Value) (j : T) (f : Nat) (x : Value) (v : T) (w : World) (hl : RowF w (FilAt w m) l j) (hv : At w f x v) (hf : f ≤ 16) (kv : okA v) (hT : Tb w) :
    Calls Tryz.prog 262 #[l, x] w fun e w' => e = .returned (.bool (!(anyL (fun y => evF m y v) j (nL j)))) ∧ Below w.heap.size w w' := by
  obtain ⟨g1, La, Ka, Lc, Kc, hg1, rfl, _, _, _⟩ := hv.open
  have HB : Hid (Below w.heap.size w (w.alloc (.cells #[.int .i64 (kindOf v), .int .i64 (nOf v), .string (sOf v), .slice La (nL v) Lc, .slice Ka (nK v) Kc] 36))) := (Below.refl _ _).alloc (Nat.le_refl _) _
  have HC := hid (oneHolds_any hL m ih l j f _ v _ (hl.keep HB.out (FilAt.keep HB.out m)) (hv.keep HB.out) hf kv (hL w hT _ _ hT HB.out))
  generalize anyL (fun y => evF m y v) j (nL j) = r at HC
  clear hv kv hl ih hT hL hg1
  go_enter Tryz.func262, Tryz.ntmps262
  go_wp2_with fail
  refine HC.out.mono ?_
  rintro e w2 ⟨rfl, b2⟩
  have HB3 := hid (HB.out.trans (b2.mono HB.out.size))
  clear b2
  go_wp2_with fail
  go_ret
  exact ⟨rfl, HB3.out⟩
end Go.Proofs.YtknakfpciccoaabGreatDoor
/- The walk of Filter.Holds. -/
namespace Go.Proofs.YtknakfpciccoaabGreatDoor
open Go.RowKit

theorem allN_no {p : Nat → Bool} {i : Nat} (hp : p i = false) : ∀ n, i < n → allN p n = false
  | 0, h => by omega
  | n + 1, h => by
    rw [allN]
    by_cases e : i = n
    · subst e; rw [hp]; simp
    · rw [allN_no hp n (by omega)]; rfl
theorem meth_all (l : Value) (w : World) : (method 319 203 l "sheaf/filter.holds").run Tryz.prog w = .ok (257, l) w := by kernel_rfl
theorem meth_one (l : Value) (w : World) : (method 319 205 l "sheaf/filter.holds").run Tryz.prog w = .ok (258, l) w := by kernel_rfl
theorem meth_none (l : Value) (w : World) : (method 319 206 l "sheaf/filter.holds").run Tryz.prog w = .ok (262, l) w := by kernel_rfl
theorem meth_has (l : Value) (w : World) : (method 319 213 l "sheaf/filter.holds").run Tryz.prog w = .ok (264, l) w := by kernel_rfl
set_option maxHeartbeats 4000000 in
set_option maxRecDepth 100000 in
theorem fil_step {Tb : World → Prop} (hA : AtoiSaid Tb) (hI : ItoaSaid Tb) (hL : Lies Tb) (m : Nat) (ih : FilSaid Tb m) : FilSaid Tb (m + 1) := by
  intro fv t f x v w hfl hv hf kv hT
  obtain ⟨g1, La, Ka, Lc, Kc, hg1, rfl, _, _, _⟩ := hv.open
  obtain ⟨A, c, rfl, hn, hrow⟩ := hfl
  have HRow := hid hrow
  have HT : Hid (∀ w' : World, Below w.heap.size w w' → Tb w') := fun w' hb => hL w hT w w' hT hb
  have HV := hid hv
  have HKv := hid kv
  have HIh := hid ih
  have HL := hid hL
  have HAt := hid hA
  have HIt := hid hI
  clear hrow hv kv ih hg1 hT hL hA hI
  go_enter Tryz.func56, Tryz.ntmps56
  go_wp2_with fail
  go_loopg [9] (nK t) (fun g' i wr => ∃ k : Nat, g' = nK t - k ∧ k ≤ nK t ∧ i = .int .i64 k ∧ Hid (Below (w.heap.size + 1) (w.alloc (.cells #[.int .i64 (kindOf v), .int .i64 (nOf v), .string (sOf v), .slice La (nL v) Lc, .slice Ka (nK v) Kc] 36)) wr) ∧ Hid (allN (fun i => evC (evF m) (nam t i) (elt t i) v) k = true))
  case atStart => exact ⟨0, rfl, Nat.zero_le _, rfl, Below.refl _ _, rfl⟩
  case round =>
    obtain ⟨k, rfl, hk, rfl, HB, HN⟩ := hrel
    obtain ⟨q0, q1, q2, q3, q4, hz, hbw⟩ := box_facts HB.out
    have Hbw := hid hbw
    clear hbw
    by_cases hlt : k < nK t
    · obtain ⟨b, o, u, rfl, hbl, p0, hr⟩ := HRow.out k hlt
      replace p0 := (Hbw.out.cell (p := ⟨b, o + k, none⟩) hbl).trans p0
      have HA : Hid (allN (fun i => evC (evF m) (nam t i) (elt t i) v) (k + 1) = evC (evF m) (nam t k) (elt t k) v) := by show _ = _; rw [allN, HN.out]; simp
      have HA2 : Hid (evC (evF m) (nam t k) (elt t k) v = false → evF (m + 1) t v = false) := fun h => allN_no (p := fun i => evC (evF m) (nam t i) (elt t i) v) h _ hlt
      have HVr := hid (HV.out.keep Hbw.out)
      have HTr := hid (HT.out wr Hbw.out)
      rcases hr with ⟨hx, l, rfl, hl⟩ | ⟨hx, l, rfl, hl⟩ | ⟨hx, l, rfl, hl⟩ | ⟨hx, pv, tv, rfl, hpv, htv⟩
      · have HC := hid (allHold_any HL.out m HIh.out l (elt t k) f _ v wr (hl.keep Hbw.out (FilAt.keep Hbw.out m)) HVr.out hf HKv.out HTr.out)
        have HE : Hid (evC (evF m) (nam t k) (elt t k) v = allL (fun y => evF m y v) (elt t k) (nL (elt t k))) := by show _ = _; unfold evC; rw [if_pos hx]
        rw [← HE.out] at HC
        have hm := meth_all l wr
        clear hl hx HE
        generalize evC (evF m) (nam t k) (elt t k) v = r at HC HA HA2
        go_wp2_with fail
        refine HC.out.mono ?_
        rintro e w2 ⟨rfl, b2⟩
        have HB4 := hid (HB.out.trans (b2.mono (by omega)))
        clear b2 HC
        cases r with
        | true =>
          go_wp2_with fail
          go_roundg (nK t - (k + 1))
          case rel => exact ⟨k + 1, rfl, by omega, by go_num, HB4, HA⟩
          case measure => omega
        | false =>
          have HA3 := hid (HA2.out rfl)
          have HB5 := hid (((Below.refl w.heap.size w).alloc (Nat.le_refl _) (.cells #[.int .i64 (kindOf v), .int .i64 (nOf v), .string (sOf v), .slice La (nL v) Lc, .slice Ka (nK v) Kc] 36)).trans (HB4.out.mono (by omega)))
          clear HA2
          go_wp2_with fail
          go_ret
          exact ⟨ret_bool (by rw [HA3.out]), HB5.out⟩
      · have HC := hid (oneHolds_any HL.out m HIh.out l (elt t k) f _ v wr (hl.keep Hbw.out (FilAt.keep Hbw.out m)) HVr.out hf HKv.out HTr.out)
        have HE : Hid (evC (evF m) (nam t k) (elt t k) v = anyL (fun y => evF m y v) (elt t k) (nL (elt t k))) := by show _ = _; unfold evC; rw [if_neg (by rw [hx]; decide), if_pos hx]
        rw [← HE.out] at HC
        have hm := meth_one l wr
        clear hl hx HE
        generalize evC (evF m) (nam t k) (elt t k) v = r at HC HA HA2
        go_wp2_with fail
        refine HC.out.mono ?_
        rintro e w2 ⟨rfl, b2⟩
        have HB4 := hid (HB.out.trans (b2.mono (by omega)))
        clear b2 HC
        cases r with
        | true =>
          go_wp2_with fail
          go_roundg (nK t - (k + 1))
          case rel => exact ⟨k + 1, rfl, by omega, by go_num, HB4, HA⟩
          case measure => omega
        | false =>
          have HA3 := hid (HA2.out rfl)
          have HB5 := hid (((Below.refl w.heap.size w).alloc (Nat.le_refl _) (.cells #[.int .i64 (kindOf v), .int .i64 (nOf v), .string (sOf v), .slice La (nL v) Lc, .slice Ka (nK v) Kc] 36)).trans (HB4.out.mono (by omega)))
          clear HA2
          go_wp2_with fail
          go_ret
          exact ⟨ret_bool (by rw [HA3.out]), HB5.out⟩
      · have HC := hid (noneHold_any HL.out m HIh.out l (elt t k) f _ v wr (hl.keep Hbw.out (FilAt.keep Hbw.out m)) HVr.out hf HKv.out HTr.out)
        have HE : Hid (evC (evF m) (nam t k) (elt t k) v = !(anyL (fun y => evF m y v) (elt t k) (nL (elt t k)))) := by show _ = _; unfold evC; rw [if_neg (by rw [hx]; decide), if_neg (by rw [hx]; decide), if_pos hx]
        rw [← HE.out] at HC
        have hm := meth_none l wr
        clear hl hx HE
        generalize evC (evF m) (nam t k) (elt t k) v = r at HC HA HA2
        go_wp2_with fail
        refine HC.out.mono ?_
        rintro e w2 ⟨rfl, b2⟩
        have HB4 := hid (HB.out.trans (b2.mono (by omega)))
        clear b2 HC
        cases r with
        | true =>
          go_wp2_with fail
          go_roundg (nK t - (k + 1))
          case rel => exact ⟨k + 1, rfl, by omega, by go_num, HB4, HA⟩
          case measure => omega
        | false =>
          have HA3 := hid (HA2.out rfl)
          have HB5 := hid (((Below.refl w.heap.size w).alloc (Nat.le_refl _) (.cells #[.int .i64 (kindOf v), .int .i64 (nOf v), .string (sOf v), .slice La (nL v) Lc, .slice Ka (nK v) Kc] 36)).trans (HB4.out.mono (by omega)))
          clear HA2
          go_wp2_with fail
          go_ret
          exact ⟨ret_bool (by rw [HA3.out]), HB5.out⟩
      · have HC := hid (valueHas_any HAt.out HIt.out HL.out (nam t k) (elt t k) pv tv f _ v wr (hpv.keep Hbw.out) (htv.keep Hbw.out) HVr.out hf HKv.out HTr.out)
        have HE : Hid (evC (evF m) (nam t k) (elt t k) v = evP (splitP (nam t k)) (exps (elt t k)) v) := by show _ = _; unfold evC; rw [if_neg hx.1, if_neg hx.2.1, if_neg hx.2.2]
        rw [← HE.out] at HC
        have hm := meth_has (.agg #[pv, tv]) wr
        clear hpv htv hx HE
        generalize evC (evF m) (nam t k) (elt t k) v = r at HC HA HA2
        go_wp2_with fail
        refine HC.out.mono ?_
        rintro e w2 ⟨rfl, b2⟩
        have HB4 := hid (HB.out.trans (b2.mono (by omega)))
        clear b2 HC
        cases r with
        | true =>
          go_wp2_with fail
          go_roundg (nK t - (k + 1))
          case rel => exact ⟨k + 1, rfl, by omega, by go_num, HB4, HA⟩
          case measure => omega
        | false =>
          have HA3 := hid (HA2.out rfl)
          have HB5 := hid (((Below.refl w.heap.size w).alloc (Nat.le_refl _) (.cells #[.int .i64 (kindOf v), .int .i64 (nOf v), .string (sOf v), .slice La (nL v) Lc, .slice Ka (nK v) Kc] 36)).trans (HB4.out.mono (by omega)))
          clear HA2
          go_wp2_with fail
          go_ret
          exact ⟨ret_bool (by rw [HA3.out]), HB5.out⟩
    · obtain rfl : k = nK t := by omega
      go_wp2_with fail
      go_ret
      exact ⟨ret_bool (by rw [evF, HN.out]), Hbw.out⟩
theorem fil_any {Tb : World → Prop} (hA : AtoiSaid Tb) (hI : ItoaSaid Tb) (hL : Lies Tb) : ∀ m, FilSaid Tb m
  | 0 => fun _ _ _ _ _ _ h => h.elim
  | m + 1 => fil_step hA hI hL m (fil_any hA hI hL m)
end Go.Proofs.YtknakfpciccoaabGreatDoor
/- append onto a slice of one's own, of whatever is appended: a text's bytes too. -/
namespace Go.Proofs.YtknakfpciccoaabGreatDoor
open Go.RowKit

theorem run_append_src {P : Program} (w : World) (base : Nat) (t tx ty e : TypeId) (i : TypeInfo) (z : Value) (size bytes : Nat) (ht : P.underlying t = some (.slice e)) (hi : P.info? e = some i) (hz : i.zero = some z)
    (hsize : i.size = size) (hby : i.bytes = bytes) (hzs : z.cells.size = size)
    (v : Value) (n : Nat) (xs : List Value) (hown : w.ownsRow base e size v n xs) (x : Value) (m : Nat) (news : List Value) (hs : Src P size tx x m news w)
    (h63 : n + m ≤ maxLen) (hbytes : (n + m) * bytes ≤ 140737488355328) (hbase : base ≤ w.heap.size) :
    ∃ v' w', (Builtin.append_ #[t, tx] ty #[v, x]).run P w = .ok v' w' ∧ w'.ownsRow base e size v' (n + m) (xs ++ news) ∧ w.grownBy w' v.ownBlock ∧ (v'.ownBlock = v.ownBlock ∨ v'.ownBlock = some w.heap.size) := by
  subst hsize
  subst hby
  have hsmall : n + m ≤ 9223372036854775807 := by simp only [maxLen] at h63; omega
  have hl := hs.newsLen
  have hlen : (xs ++ news).length = (n + m) * i.size := by rw [List.length_append, hown.1, hl, Nat.add_mul]
  have grown : ∀ (old : Nat), ∀ (row : Option Nat),
      (w.drew.alloc (.cells ((xs ++ news).toArray ++ Builtin.zeroCells z.cells (grownCap w (n + m) old e - (n + m))) e)).ownsRow base e i.size
        (.slice (some ⟨w.heap.size, 0, none⟩) (n + m) (grownCap w (n + m) old e)) (n + m) (xs ++ news) ∧
      w.grownBy (w.drew.alloc (.cells ((xs ++ news).toArray ++ Builtin.zeroCells z.cells (grownCap w (n + m) old e - (n + m))) e)) row := by
    intro old row
    have hge := grownCap_ge w (n + m) old e
    have hcm : grownCap w (n + m) old e ≤ maxLen := grownCap_le_maxLen w (n + m) old e h63
    refine ⟨⟨hlen, .inr ⟨w.heap.size, _, _, rfl, hbase, heap_alloc_new w.drew _, hge, hcm, ?_, ?_⟩⟩, ⟨rfl, rfl, rfl, by simp, fun k hk _ => heap_alloc_old w.drew _ hk⟩⟩
    · simp only [Array.size_append, List.size_toArray, size_zeroCells, hzs, hlen, ← Nat.add_mul]
      congr 1
      omega
    · simp only [Array.toList_append]
      rw [← hlen]
      exact List.take_left
  rcases hown.2 with ⟨rfl, rfl⟩ | ⟨g, cap, cur, rfl, hbg, hg, hnc, hcm, hcs, htake⟩
  · have hx : xs = [] := List.eq_nil_of_length_eq_zero (by simpa using hown.1)
    subst hx
    by_cases hm : m = 0
    · subst hm
      have hn : news = [] := List.eq_nil_of_length_eq_zero (by simpa using hl)
      subst hn
      refine ⟨.slice none 0 0, w, ?_, World.ownsRow_nil w base e i.size, ⟨rfl, rfl, rfl, Nat.le_refl _, fun _ _ _ => rfl⟩, Or.inl rfl⟩
      rcases hs.kind with ⟨e', hk⟩ | hk <;> simp [Builtin.append_, run_underlying ht, run_underlying hk, sizeOf, typeInfo, hi, hs.len, hs.cells]
    · have hr := run_append_grow_src (P := P) w t tx ty e i z ht hi hz none 0 0 [] (run_firstCells_none w.drew i.size 0 0 0) x m news hs (by omega) (by omega) (growslice_fits (by omega) hbytes)
      have hgr := grown 0 (Value.ownBlock (.slice none 0 0))
      exact ⟨_, _, hr, hgr.1, hgr.2, Or.inr rfl⟩
  · by_cases hroom : n + m ≤ cap
    · have hfit : n * i.size + news.length ≤ cur.size := by rw [hl, hcs, ← Nat.add_mul]; exact Nat.mul_le_mul_right _ hroom
      have hst := run_storeCells_at P g (n * i.size) e news 0 cur w hg (by simpa using hfit) hs.one
      simp only [Nat.add_zero] at hst
      have hr : (Builtin.append_ #[t, tx] ty #[.slice (some ⟨g, 0, none⟩) n cap, x]).run P w = .ok (.slice (some ⟨g, 0, none⟩) (n + m) cap) (w.setRow g (cur.toList.take (n * i.size) ++ news ++ cur.toList.drop (n * i.size + news.length)).toArray) := by
        rcases hs.kind with ⟨e', hk⟩ | hk <;> simp [Builtin.append_, run_underlying ht, run_underlying hk, sizeOf, typeInfo, hi, hs.len, hroom, hs.cells, Addr.add_lit, hst]
      refine ⟨_, _, hr, ⟨hlen, .inr ⟨g, cap, _, rfl, hbg, setRow_heap w g cur _ e _ hg, hroom, hcm, ?_, ?_⟩⟩, ⟨rfl, rfl, rfl, by simp, fun k _ hk => setRow_other w g k _ (fun e => hk (by simp [Value.ownBlock, e]))⟩, Or.inl rfl⟩
      · simp only [List.size_toArray, List.length_append, List.length_take, List.length_drop, Array.length_toList]
        omega
      · rw [htake, ← hlen]
        exact List.take_left
    · have holds : ∀ j u, xs[j]? = some u → w.cell? ((⟨g, 0, none⟩ : Addr).add j) = some u := hown.cells (g := g) rfl
      have hr := run_append_grow_src (P := P) w t tx ty e i z ht hi hz (some ⟨g, 0, none⟩) n cap xs (run_firstCells_some w.drew i.size n ⟨g, 0, none⟩ n cap xs hown.1 (by simpa using holds)) x m news hs (by omega) (by omega) (growslice_fits (by omega) hbytes)
      have hgr := grown cap (Value.ownBlock (.slice (some ⟨g, 0, none⟩) n cap))
      exact ⟨_, _, hr, hgr.1, hgr.2, Or.inr rfl⟩
theorem wp_append_src {P : Program} (w : World) {o : Oper} {a : Act} {K : Act → World → Prop} {Q : Exit → Act → World → Prop} (s xo : Operand) (t tx : TypeId)
    (ho : o.op = .call { callee := .builtin .append, args := #[s, xo], argTypes := #[t, tx] })
    (base : Nat) (e : TypeId) (i : TypeInfo) (z : Value) (size bytes : Nat) (ht : P.underlying t = some (.slice e)) (hi : P.info? e = some i) (hz : i.zero = some z)
    (hsize : i.size = size) (hby : i.bytes = bytes) (hzs : z.cells.size = size)
    (v : Value) (n : Nat) (xs : List Value) (hsv : a.eval s = v) (hown : w.ownsRow base e size v n xs) (x : Value) (m : Nat) (news : List Value) (hx : a.eval xo = x) (hs : Src P size tx x m news w)
    (h63 : n + m ≤ maxLen) (hbytes : (n + m) * bytes ≤ 140737488355328) (hbase : base ≤ w.heap.size)
    (h : ∀ v' w', w'.ownsRow base e size v' (n + m) (xs ++ news) → w.grownBy w' v.ownBlock → (v'.ownBlock = v.ownBlock ∨ v'.ownBlock = some w.heap.size) → K (a.put o.dst v') w') : o.wp P a w K Q := by
  obtain ⟨v', w', hr, h2, h3, h4⟩ := run_append_src (P := P) w base t tx o.type e i z size bytes ht hi hz hsize hby hzs v n xs hown x m news hs h63 hbytes hbase
  unfold Oper.wp execOp
  simp only [ho, resolve, invoke, builtin, Sem.run_bind, Sem.run_pure, Result.andThen_ok, List.map_toArray, List.map_cons, List.map_nil, hsv, hx, hr]
  exact h v' w' h2 h3 h4
theorem wpList_append_src {P : Program} (w : World) {ops : Array Oper} {rest : List Oper} {o : Oper} {a : Act} {Q : Exit → Act → World → Prop} (hgd : o.guard = none) (s xo : Operand) (t tx : TypeId)
    (ho : o.op = .call { callee := .builtin .append, args := #[s, xo], argTypes := #[t, tx] })
    (base : Nat) (e : TypeId) (i : TypeInfo) (z : Value) (size bytes : Nat) (ht : P.underlying t = some (.slice e)) (hi : P.info? e = some i) (hz : i.zero = some z)
    (hsize : i.size = size) (hby : i.bytes = bytes) (hzs : z.cells.size = size)
    (v : Value) (n : Nat) (xs : List Value) (hsv : a.eval s = v) (hown : w.ownsRow base e size v n xs) (x : Value) (m : Nat) (news : List Value) (hx : a.eval xo = x) (hs : Src P size tx x m news w)
    (h63 : n + m ≤ maxLen) (hbytes : (n + m) * bytes ≤ 140737488355328) (hbase : base ≤ w.heap.size)
    (h : ∀ v' w', w'.ownsRow base e size v' (n + m) (xs ++ news) → w.grownBy w' v.ownBlock → (v'.ownBlock = v.ownBlock ∨ v'.ownBlock = some w.heap.size) → wpList P ops Q rest (a.put o.dst v') w') : wpList P ops Q (o :: rest) a w :=
  wpList_plain hgd fun _ hK => wp_append_src w s xo t tx ho base e i z size bytes ht hi hz hsize hby hzs v n xs hsv hown x m news hx hs h63 hbytes hbase fun v' w' h2 h3 h4 => hK _ _ (h v' w' h2 h3 h4)
theorem step_append_src {P : Program} (w : World) {ops : Array Oper} {o : Oper} {a : Act} {K : Act → World → Prop} {Q : Exit → Act → World → Prop} {E : Prop} (hgd : o.guard = none) (s xo : Operand) (t tx : TypeId)
    (ho : o.op = .call { callee := .builtin .append, args := #[s, xo], argTypes := #[t, tx] })
    (base : Nat) (e : TypeId) (i : TypeInfo) (z : Value) (size bytes : Nat) (ht : P.underlying t = some (.slice e)) (hi : P.info? e = some i) (hz : i.zero = some z)
    (hsize : i.size = size) (hby : i.bytes = bytes) (hzs : z.cells.size = size)
    (v : Value) (n : Nat) (xs : List Value) (hsv : a.eval s = v) (hown : w.ownsRow base e size v n xs) (x : Value) (m : Nat) (news : List Value) (hx : a.eval xo = x) (hs : Src P size tx x m news w)
    (h63 : n + m ≤ maxLen) (hbytes : (n + m) * bytes ≤ 140737488355328) (hbase : base ≤ w.heap.size)
    (h : ∀ v' w', w'.ownsRow base e size v' (n + m) (xs ++ news) → w.grownBy w' v.ownBlock → (v'.ownBlock = v.ownBlock ∨ v'.ownBlock = some w.heap.size) → K (a.put o.dst v') w') :
    if Region.wanted o (yielded ops a.tmps) = true then Oper.wp P o a w K Q else E := by
  have hw : Region.wanted o (yielded ops a.tmps) = true := by simp [Region.wanted, hgd]
  rw [if_pos hw]
  exact wp_append_src w s xo t tx ho base e i z size bytes ht hi hz hsize hby hzs v n xs hsv hown x m news hx hs h63 hbytes hbase h
/-- A text's bytes, as cells. -/
def bytesV (l : List UInt8) : List Value := l.map fun b => Value.int .u8 b.toNat
theorem bytesV_append (a b : List UInt8) : bytesV (a ++ b) = bytesV a ++ bytesV b := List.map_append ..
theorem bytesV_length (a : List UInt8) : (bytesV a).length = a.length := List.length_map ..
theorem src_bytes {P : Program} (w : World) {tx : TypeId} (hk : P.underlying tx = some .string) (s : ByteArray) : Src P 1 tx (.string s) s.size (bytesV s.data.toList) w := Src.ofString w hk s
/-- A list of bytes of one's own, as a text. -/
theorem conv_own {P : Program} {w : World} {base : Nat} {src dst e : TypeId} {v : Value} {l : List UInt8} (hs : P.underlying src = some (.slice e)) (he : P.underlying e = some (.int .u8)) (hd : P.underlying dst = some .string)
    (h : w.ownsRow base e 1 v l.length (bytesV l)) : (convert src dst v).run P w = .ok (.string ⟨l.toArray⟩) w := by
  rcases h.2 with ⟨rfl, h0⟩ | ⟨g, cap, cur, rfl, hbg, hg, hnc, hcm, hcs, htake⟩
  · have : l = [] := List.eq_nil_of_length_eq_zero h0
    subst this
    exact run_convert_bytes_nil w src e hs he 0 0 dst hd
  · refine run_convert_bytes_back (P := P) w src dst e ⟨g, 0, none⟩ cap l hs he hd fun j hj => ?_
    have := h.cells (g := g) rfl j (.int .u8 ((l[j]'hj).toNat : Nat)) (by unfold bytesV; rw [List.getElem?_map, List.getElem?_eq_getElem hj]; rfl)
    exact this
end Go.Proofs.YtknakfpciccoaabGreatDoor
