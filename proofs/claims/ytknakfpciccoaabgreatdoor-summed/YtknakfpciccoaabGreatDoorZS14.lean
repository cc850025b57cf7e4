import Derived.Test.YtknakfpciccoaabGreatDoorZS13
import Derived.Deep.RegionHeld3
/- The walks of tests: isInOrder, hasAmongValues. -/
namespace Go.Proofs.YtknakfpciccoaabGreatDoor
open Go.RowKit

theorem ba_extC {a b : ByteArray} (h : a.data.toList = b.data.toList) : a = b := by
  apply ByteArray.ext
  exact Array.toList_inj.1 h
theorem lit_is {a b : ByteArray} (h : a = b) : (a.toList == b.data.toList) = true := by rw [h, ByteArray.toList_eq]; exact beq_self_eq_true _
theorem lit_no {a b : ByteArray} (h : ¬ a = b) : (a.toList == b.data.toList) = false := by
  rw [beq_eq_false_iff_ne]
  intro e
  apply h
  rw [ByteArray.toList_eq] at e
  exact ba_extC e
set_option maxHeartbeats 4000000 in
set_option maxRecDepth 100000 in
theorem isInOrder_any (op : ByteArray) (j : T) (A C : Option Addr) (B D : Nat) (n : Int) (w : World) :
    Calls Tryz.prog 270 #[.agg #[.string op, .int .i64 (kindOf j), .int .i64 (nOf j), .string (sOf j), .slice A (nL j) B, .slice C (nK j) D, .slice none 0 0], .int .i64 n] w fun e w' => e = .returned (.bool (inOrd op n)) ∧ Below w.heap.size w w' := by
  have HB : Hid (Below w.heap.size w (w.alloc (.cells #[.string op, .int .i64 (kindOf j), .int .i64 (nOf j), .string (sOf j), .slice A (nL j) B, .slice C (nK j) D, .slice none 0 0] 233))) := (Below.refl _ _).alloc (Nat.le_refl _) _
  by_cases gGte : op = opGte
  · have eGte : (op.toList == [36, 103, 116, 101]) = true := lit_is gGte
    have HR : Hid (inOrd op n = (n == 0 || decide (0 < n))) := by show _ = _; unfold inOrd; rw [if_pos gGte]
    clear gGte
    by_cases h0 : n = 0
    · subst h0
      go_enter Tryz.func270, Tryz.ntmps270
      go_wp2_with fail
      go_ret
      exact ⟨ret_bool (by rw [HR.out]; rfl), HB.out⟩
    · have e0 : (n == 0) = false := by simpa using h0
      clear h0
      go_enter Tryz.func270, Tryz.ntmps270
      go_wp2_with fail
      go_ret
      exact ⟨ret_bool (by rw [HR.out, e0]; rfl), HB.out⟩
  · have eGte : (op.toList == [36, 103, 116, 101]) = false := lit_no gGte
    by_cases gGt : op = opGt
    · have eGt : (op.toList == [36, 103, 116]) = true := lit_is gGt
      have HR : Hid (inOrd op n = decide (0 < n)) := by show _ = _; unfold inOrd; rw [if_neg gGte, if_pos gGt]
      clear gGte gGt
      go_enter Tryz.func270, Tryz.ntmps270
      go_wp2_with fail
      go_ret
      exact ⟨ret_bool (by rw [HR.out]), HB.out⟩
    · have eGt : (op.toList == [36, 103, 116]) = false := lit_no gGt
      by_cases gLte : op = opLte
      · have eLte : (op.toList == [36, 108, 116, 101]) = true := lit_is gLte
        have HR : Hid (inOrd op n = (n == 0 || decide (n < 0))) := by show _ = _; unfold inOrd; rw [if_neg gGte, if_neg gGt, if_pos gLte]
        clear gGte gGt gLte
        by_cases h0 : n = 0
        · subst h0
          go_enter Tryz.func270, Tryz.ntmps270
          go_wp2_with fail
          go_ret
          exact ⟨ret_bool (by rw [HR.out]; rfl), HB.out⟩
        · have e0 : (n == 0) = false := by simpa using h0
          clear h0
          go_enter Tryz.func270, Tryz.ntmps270
          go_wp2_with fail
          go_ret
          exact ⟨ret_bool (by rw [HR.out, e0]; rfl), HB.out⟩
      · have eLte : (op.toList == [36, 108, 116, 101]) = false := lit_no gLte
        by_cases gLt : op = opLt
        · have eLt : (op.toList == [36, 108, 116]) = true := lit_is gLt
          have HR : Hid (inOrd op n = decide (n < 0)) := by show _ = _; unfold inOrd; rw [if_neg gGte, if_neg gGt, if_neg gLte, if_pos gLt]
          clear gGte gGt gLte gLt
          go_enter Tryz.func270, Tryz.ntmps270
          go_wp2_with fail
          go_ret
          exact ⟨ret_bool (by rw [HR.out]), HB.out⟩
        · have eLt : (op.toList == [36, 108, 116]) = false := lit_no gLt
          have HR : Hid (inOrd op n = false) := by show _ = _; unfold inOrd; rw [if_neg gGte, if_neg gGt, if_neg gLte, if_neg gLt]
          clear gGte gGt gLte gLt
          go_enter Tryz.func270, Tryz.ntmps270
          go_wp2_with fail
          go_ret
          exact ⟨ret_bool (by rw [HR.out]), HB.out⟩
set_option maxHeartbeats 4000000 in
set_option maxRecDepth 100000 in
theorem among1_any (b : Nat) (f g : Nat) (v : T) (one : Value) (x : T) (A C : Option Addr) (B D : Nat) (w : World) (h0 : w.cell? ⟨b, 0, none⟩ = some (.int .i64 (kindOf v))) (h1 : w.cell? ⟨b, 1, none⟩ = some (.int .i64 (nOf v))) (h2 : w.cell? ⟨b, 2, none⟩ = some (.string (sOf v))) (h3 : w.cell? ⟨b, 3, none⟩ = some (.slice A (nL v) B)) (h4 : w.cell? ⟨b, 4, none⟩ = some (.slice C (nK v) D)) (hb : b < w.heap.size)
    (ha : At w f (.agg #[.int .i64 (kindOf v), .int .i64 (nOf v), .string (sOf v), .slice A (nL v) B, .slice C (nK v) D]) v) (hx : At w g one x) (hf : f ≤ 16) (ka : okA v) (kx : okA x) :
    Calls Tryz.prog 268 #[one, .pointer (some ⟨b, 0, none⟩)] w fun e w' => e = .returned (.bool (eqT v x)) ∧ Below w.heap.size w w' := by
  obtain ⟨g1, La, Ka, Lc, Kc, hg1, rfl, _, _, _⟩ := hx.open
  have HB : Hid (Below w.heap.size w (w.alloc (.cells #[.int .i64 (kindOf x), .int .i64 (nOf x), .string (sOf x), .slice La (nL x) Lc, .slice Ka (nK x) Kc] 36))) := (Below.refl _ _).alloc (Nat.le_refl _) _
  have q0 := (HB.out.cell (p := ⟨b, 0, none⟩) hb).trans h0
  have q1 := (HB.out.cell (p := ⟨b, 1, none⟩) hb).trans h1
  have q2 := (HB.out.cell (p := ⟨b, 2, none⟩) hb).trans h2
  have q3 := (HB.out.cell (p := ⟨b, 3, none⟩) hb).trans h3
  have q4 := (HB.out.cell (p := ⟨b, 4, none⟩) hb).trans h4
  have HC := hid (equal16 (ha.keep HB.out) (hx.keep HB.out) hf ka kx)
  clear h0 h1 h2 h3 h4 ha hx ka kx hg1
  go_enter Tryz.func268, Tryz.ntmps268
  go_wp2_with fail
  refine HC.out.mono ?_
  rintro e w2 ⟨rfl, b2⟩
  have HB2 := hid (HB.out.trans (b2.mono HB.out.size))
  clear b2
  go_wp2_with fail
  go_ret
  exact ⟨rfl, HB2.out⟩
set_option maxHeartbeats 4000000 in
set_option maxRecDepth 100000 in
theorem among_any (op : ByteArray) (j : T) (A C : Option Addr) (B D : Nat) (gj f : Nat) (x : Value) (v : T) (w : World) (hj : At w gj (.agg #[.int .i64 (kindOf j), .int .i64 (nOf j), .string (sOf j), .slice A (nL j) B, .slice C (nK j) D]) j) (hv : At w f x v) (hf : f ≤ 16) (kj : okA j) (kv : okA v) :
    Calls Tryz.prog 266 #[.agg #[.string op, .int .i64 (kindOf j), .int .i64 (nOf j), .string (sOf j), .slice A (nL j) B, .slice C (nK j) D, .slice none 0 0], x] w fun e w' => e = .returned (.bool (anyL (eqT v) j (nL j))) ∧ Below w.heap.size w w' := by
  obtain ⟨g1, La, Ka, Lc, Kc, hg1, rfl, _, _, _⟩ := hv.open
  obtain ⟨g2, A', C', B', D', hg2, he, hfj, hel, _⟩ := hj.open
  simp only [Value.agg.injEq, Array.mk.injEq, List.cons.injEq, Value.slice.injEq, and_true, true_and] at he
  obtain ⟨⟨rfl, rfl⟩, rfl, rfl⟩ := he
  have HB1 : Hid (Below w.heap.size w (w.alloc (.cells #[.string op, .int .i64 (kindOf j), .int .i64 (nOf j), .string (sOf j), .slice A (nL j) B, .slice C (nK j) D, .slice none 0 0] 233))) := (Below.refl _ _).alloc (Nat.le_refl _) _
  have HB2 : Hid (Below (w.heap.size + 1) (w.alloc (.cells #[.string op, .int .i64 (kindOf j), .int .i64 (nOf j), .string (sOf j), .slice A (nL j) B, .slice C (nK j) D, .slice none 0 0] 233)) ((w.alloc (.cells #[.string op, .int .i64 (kindOf j), .int .i64 (nOf j), .string (sOf j), .slice A (nL j) B, .slice C (nK j) D, .slice none 0 0] 233)).alloc (.cells #[.int .i64 (kindOf v), .int .i64 (nOf v), .string (sOf v), .slice La (nL v) Lc, .slice Ka (nK v) Kc] 36))) := (Below.refl _ _).alloc (by simp) _
  have HB := hid (HB1.out.trans (HB2.out.mono (by omega)))
  have HX : Hid (BoxAt (w.heap.size + 1) (.int .i64 (kindOf v)) (.int .i64 (nOf v)) (.string (sOf v)) (.slice La (nL v) Lc) (.slice Ka (nK v) Kc) ((w.alloc (.cells #[.string op, .int .i64 (kindOf j), .int .i64 (nOf j), .string (sOf j), .slice A (nL j) B, .slice C (nK j) D, .slice none 0 0] 233)).alloc (.cells #[.int .i64 (kindOf v), .int .i64 (nOf v), .string (sOf v), .slice La (nL v) Lc, .slice Ka (nK v) Kc] 36))) := by
    constructor <;> simp [go_sem]
  have HC := hid (containsFuncC_any (eqT v) 268 (fun _ _ => rfl) (.pointer (some ⟨w.heap.size + 1, 0, none⟩)) g2 A B j _ (hel.out.keep HB.out) hfj.l1 (fun k hk wr y hb ha => by
      have hbx := HX.out.move hb.size (hb.block _ HX.out.lt)
      have hbw := HB.out.trans (hb.mono HB.out.size)
      exact among1_any (w.heap.size + 1) f g2 v y (elt j k) La Ka Lc Kc wr hbx.q0 hbx.q1 hbx.q2 hbx.q3 hbx.q4 hbx.lt (hv.keep hbw) ha hf kv (kj.elt hk)))
  clear hv hj hel kj kv hfj hg1 hg2
  go_enter Tryz.func266, Tryz.ntmps266
  go_wp2_with fail
  refine HC.out.mono ?_
  rintro e w2 ⟨rfl, b2⟩
  have HB3 := hid (HB.out.trans (b2.mono HB.out.size))
  clear b2
  go_wp2_with fail
  go_ret
  exact ⟨rfl, HB3.out⟩
end Go.Proofs.YtknakfpciccoaabGreatDoor
/- The walk of a test's holdsOf, of tests that have a value. -/
namespace Go.Proofs.YtknakfpciccoaabGreatDoor
open Go.RowKit

/-- What a test says of a value that is there, its turned ones aside. -/
def evO (m : Nat) (p : ByteArray × T) (v : T) : Bool :=
  if p.1 = opEq then eqT v p.2 else if p.1 = opIn then anyL (eqT v) p.2 (nL p.2)
      else if p.1 = opSize then (kindOf v == 5 && ((nL v : Int) == nOf p.2)) else if p.1 = opKind then kindOf v == nOf p.2
      else if p.1 = opAny then (kindOf v == 5 && anyL (fun e => (prs p.2).all fun q => evT m q e true) v (nL v))
      else (kindOf v == kindOf p.2 && inOrd p.1 (cmpT 16 v p.2))
/-- The box of a test. -/
structure Box7 (b : Nat) (c0 c1 c2 c3 c4 c5 c6 : Value) (w : World) : Prop where
  q0 : w.cell? ⟨b, 0, none⟩ = some c0
  q1 : w.cell? ⟨b, 1, none⟩ = some c1
  q2 : w.cell? ⟨b, 2, none⟩ = some c2
  q3 : w.cell? ⟨b, 3, none⟩ = some c3
  q4 : w.cell? ⟨b, 4, none⟩ = some c4
  q5 : w.cell? ⟨b, 5, none⟩ = some c5
  q6 : w.cell? ⟨b, 6, none⟩ = some c6
  lt : b < w.heap.size
theorem Box7.keep {b : Nat} {c0 c1 c2 c3 c4 c5 c6 : Value} {w w' : World} (h : Box7 b c0 c1 c2 c3 c4 c5 c6 w) (hb : Below w.heap.size w w') : Box7 b c0 c1 c2 c3 c4 c5 c6 w' :=
  ⟨(hb.cell (p := ⟨b, 0, none⟩) h.lt).trans h.q0, (hb.cell (p := ⟨b, 1, none⟩) h.lt).trans h.q1, (hb.cell (p := ⟨b, 2, none⟩) h.lt).trans h.q2, (hb.cell (p := ⟨b, 3, none⟩) h.lt).trans h.q3, (hb.cell (p := ⟨b, 4, none⟩) h.lt).trans h.q4, (hb.cell (p := ⟨b, 5, none⟩) h.lt).trans h.q5, (hb.cell (p := ⟨b, 6, none⟩) h.lt).trans h.q6, Nat.lt_of_lt_of_le h.lt hb.size⟩
theorem BoxAt.stay {b : Nat} {c0 c1 c2 c3 c4 : Value} {w w' : World} (h : BoxAt b c0 c1 c2 c3 c4 w) (hb : Below w.heap.size w w') : BoxAt b c0 c1 c2 c3 c4 w' := h.move hb.size (hb.block _ h.lt)
theorem compare16 {w : World} {f g : Nat} {va vb : Value} {a b : T} (h : At w f va a) (h' : At w g vb b) (hf : f ≤ 16) (ka : okA a) (kb : okA b) :
    Calls Tryz.prog 30 #[va, vb] w fun e w' => e = .returned (.int .i64 (cmpT 16 a b)) ∧ Below w.heap.size w w' := by
  have := compare_any f g va vb a b w h h' (ka.1 f) (kb.1 f)
  rw [← cmpT_shal f 16 a b h.shal hf] at this
  exact this
set_option maxHeartbeats 4000000 in
set_option maxRecDepth 100000 in
theorem holdsOf_leaf (m : Nat) (op : ByteArray) (j : T) (A C : Option Addr) (B D : Nat) (gj f : Nat) (x : Value) (v : T) (w : World) (hop : ¬ isInn op) (hj : At w gj (.agg #[.int .i64 (kindOf j), .int .i64 (nOf j), .string (sOf j), .slice A (nL j) B, .slice C (nK j) D]) j) (hv : At w f x v) (hf : f ≤ 16) (kj : okA j) (kv : okA v) :
    Calls Tryz.prog 267 #[.agg #[.string op, .int .i64 (kindOf j), .int .i64 (nOf j), .string (sOf j), .slice A (nL j) B, .slice C (nK j) D, .slice none 0 0], x] w fun e w' => e = .returned (.bool (evO m (op, j) v)) ∧ Below w.heap.size w w' := by
  obtain ⟨g1, La, Ka, Lc, Kc, hg1, rfl, hfv, _, _⟩ := hv.open
  have hnl := hfv.l1
  have HB : Hid (Below w.heap.size w ((w.alloc (.cells #[.string op, .int .i64 (kindOf j), .int .i64 (nOf j), .string (sOf j), .slice A (nL j) B, .slice C (nK j) D, .slice none 0 0] 233)).alloc (.cells #[.int .i64 (kindOf v), .int .i64 (nOf v), .string (sOf v), .slice La (nL v) Lc, .slice Ka (nK v) Kc] 36))) := ((Below.refl _ _).alloc (Nat.le_refl _) _).alloc (by simp) _
  have HJ := hid (hj.keep HB.out)
  have HV := hid (hv.keep HB.out)
  have HKj := hid kj
  have HKv := hid kv
  have gAny : ¬ op = opAny := fun h => hop (.inr h)
  clear hj hv kj kv hfv hg1 hop
  by_cases gEq : op = opEq
  · have eEq : (op.toList == [36, 101, 113]) = true := lit_is gEq
    have HR : Hid (evO m (op, j) v = eqT v j) := by show _ = _; unfold evO; rw [if_pos gEq]
    have HC := hid (equal16 HV.out HJ.out hf HKv.out HKj.out)
    clear gEq gAny
    go_enter Tryz.func267, Tryz.ntmps267
    go_wp2_with fail
    refine HC.out.mono ?_
    rintro e w2 ⟨rfl, b2⟩
    have HB3 := hid (HB.out.trans (b2.mono HB.out.size))
    clear b2
    go_wp2_with fail
    go_ret
    exact ⟨ret_bool (by rw [HR.out]), HB3.out⟩
  have eEq : (op.toList == [36, 101, 113]) = false := lit_no gEq
  by_cases gIn : op = opIn
  · have eIn : (op.toList == [36, 105, 110]) = true := lit_is gIn
    have HR : Hid (evO m (op, j) v = anyL (eqT v) j (nL j)) := by show _ = _; unfold evO; rw [if_neg gEq, if_pos gIn]
    have HC := hid (among_any op j A C B D gj f _ v ((w.alloc (.cells #[.string op, .int .i64 (kindOf j), .int .i64 (nOf j), .string (sOf j), .slice A (nL j) B, .slice C (nK j) D, .slice none 0 0] 233)).alloc (.cells #[.int .i64 (kindOf v), .int .i64 (nOf v), .string (sOf v), .slice La (nL v) Lc, .slice Ka (nK v) Kc] 36)) HJ.out HV.out hf HKj.out HKv.out)
    clear gEq gAny gIn
    go_enter Tryz.func267, Tryz.ntmps267
    go_wp2_with fail
    refine HC.out.mono ?_
    rintro e w2 ⟨rfl, b2⟩
    have HB3 := hid (HB.out.trans (b2.mono HB.out.size))
    clear b2
    go_wp2_with fail
    go_ret
    exact ⟨ret_bool (by rw [HR.out]), HB3.out⟩
  have eIn : (op.toList == [36, 105, 110]) = false := lit_no gIn
  by_cases gSize : op = opSize
  · have eSize : (op.toList == [36, 115, 105, 122, 101]) = true := lit_is gSize
    have HR : Hid (evO m (op, j) v = (kindOf v == 5 && ((nL v : Int) == nOf j))) := by show _ = _; unfold evO; rw [if_neg gEq, if_neg gIn, if_pos gSize]
    clear gEq gAny gIn gSize
    cases h5 : kindOf v == 5 with
    | true =>
      have H5 := hid h5
      go_enter Tryz.func267, Tryz.ntmps267
      go_wp2_with fail
      go_ret
      exact ⟨ret_bool (by rw [HR.out, H5.out]; rfl), HB.out⟩
    | false =>
      have H5 := hid h5
      go_enter Tryz.func267, Tryz.ntmps267
      go_wp2_with fail
      go_ret
      exact ⟨ret_bool (by rw [HR.out, H5.out]; rfl), HB.out⟩
  have eSize : (op.toList == [36, 115, 105, 122, 101]) = false := lit_no gSize
  by_cases gKind : op = opKind
  · have eKind : (op.toList == [36, 107, 105, 110, 100]) = true := lit_is gKind
    have HR : Hid (evO m (op, j) v = (kindOf v == nOf j)) := by show _ = _; unfold evO; rw [if_neg gEq, if_neg gIn, if_neg gSize, if_pos gKind]
    clear gEq gAny gIn gSize gKind
    go_enter Tryz.func267, Tryz.ntmps267
    go_wp2_with fail
    go_ret
    exact ⟨ret_bool (by rw [HR.out]), HB.out⟩
  have eKind : (op.toList == [36, 107, 105, 110, 100]) = false := lit_no gKind
  have eAny : (op.toList == [36, 97, 110, 121]) = false := lit_no gAny
  have HR : Hid (evO m (op, j) v = (kindOf v == kindOf j && inOrd op (cmpT 16 v j))) := by show _ = _; unfold evO; rw [if_neg gEq, if_neg gIn, if_neg gSize, if_neg gKind, if_neg gAny]
  clear gEq gAny gIn gSize gKind
  have H7 : Hid (Box7 w.heap.size (.string op) (.int .i64 (kindOf j)) (.int .i64 (nOf j)) (.string (sOf j)) (.slice A (nL j) B) (.slice C (nK j) D) (.slice none 0 0) ((w.alloc (.cells #[.string op, .int .i64 (kindOf j), .int .i64 (nOf j), .string (sOf j), .slice A (nL j) B, .slice C (nK j) D, .slice none 0 0] 233)).alloc (.cells #[.int .i64 (kindOf v), .int .i64 (nOf v), .string (sOf v), .slice La (nL v) Lc, .slice Ka (nK v) Kc] 36))) := by
    constructor <;> simp [go_sem]
  have H5 : Hid (BoxAt (w.heap.size + 1) (.int .i64 (kindOf v)) (.int .i64 (nOf v)) (.string (sOf v)) (.slice La (nL v) Lc) (.slice Ka (nK v) Kc) ((w.alloc (.cells #[.string op, .int .i64 (kindOf j), .int .i64 (nOf j), .string (sOf j), .slice A (nL j) B, .slice C (nK j) D, .slice none 0 0] 233)).alloc (.cells #[.int .i64 (kindOf v), .int .i64 (nOf v), .string (sOf v), .slice La (nL v) Lc, .slice Ka (nK v) Kc] 36))) := by
    constructor <;> simp [go_sem]
  cases hkk : kindOf v == kindOf j with
  | false =>
    have Hkk := hid hkk
    go_enter Tryz.func267, Tryz.ntmps267
    go_wp2_with fail
    go_quiet (fail)
    go_wp2_with fail
    go_ret
    exact ⟨ret_bool (by rw [HR.out, Hkk.out]; rfl), below_drewN HB.out _⟩
  | true =>
    have Hkk := hid hkk
    have HDr := hid (below_drew ((w.alloc (.cells #[.string op, .int .i64 (kindOf j), .int .i64 (nOf j), .string (sOf j), .slice A (nL j) B, .slice C (nK j) D, .slice none 0 0] 233)).alloc (.cells #[.int .i64 (kindOf v), .int .i64 (nOf v), .string (sOf v), .slice La (nL v) Lc, .slice Ka (nK v) Kc] 36)))
    have HC := hid (compare16 (HV.out.keep HDr.out) (HJ.out.keep HDr.out) hf HKv.out HKj.out)
    generalize cmpT 16 v j = cc at HC HR
    have HO := hid (fun w' => isInOrder_any op j A C B D cc w')
    have H7d := hid (H7.out.keep HDr.out)
    have H5d := hid (H5.out.stay HDr.out)
    have HBd := hid (HB.out.drew)
    go_enter Tryz.func267, Tryz.ntmps267
    go_wp2_with fail
    have HSo : Hid (∀ wx, Box7 w.heap.size (.string op) (.int .i64 (kindOf j)) (.int .i64 (nOf j)) (.string (sOf j)) (.slice A (nL j) B) (.slice C (nK j) D) (.slice none 0 0) wx → BoxAt (w.heap.size + 1) (.int .i64 (kindOf v)) (.int .i64 (nOf v)) (.string (sOf v)) (.slice La (nL v) Lc) (.slice Ka (nK v) Kc) wx → (fun wx => wx.cell? ⟨w.heap.size, 0, none⟩ = some (.string op) ∧ wx.cell? ⟨w.heap.size, 1, none⟩ = some (.int .i64 (kindOf j)) ∧ wx.cell? ⟨w.heap.size, 2, none⟩ = some (.int .i64 (nOf j)) ∧ wx.cell? ⟨w.heap.size, 3, none⟩ = some (.string (sOf j)) ∧ wx.cell? ⟨w.heap.size, 4, none⟩ = some (.slice A (nL j) B) ∧ wx.cell? ⟨w.heap.size, 5, none⟩ = some (.slice C (nK j) D) ∧ wx.cell? ⟨w.heap.size, 6, none⟩ = some (.slice none 0 0) ∧ wx.cell? ⟨w.heap.size + 1, 0, none⟩ = some (.int .i64 (kindOf v)) ∧ wx.cell? ⟨w.heap.size + 1, 1, none⟩ = some (.int .i64 (nOf v)) ∧ wx.cell? ⟨w.heap.size + 1, 2, none⟩ = some (.string (sOf v)) ∧ wx.cell? ⟨w.heap.size + 1, 3, none⟩ = some (.slice La (nL v) Lc) ∧ wx.cell? ⟨w.heap.size + 1, 4, none⟩ = some (.slice Ka (nK v) Kc)) wx) := fun wx a b => ⟨a.q0, a.q1, a.q2, a.q3, a.q4, a.q5, a.q6, b.q0, b.q1, b.q2, b.q3, b.q4⟩
    have HSd := hid (HSo.out _ H7d.out H5d.out)
    go_region_held3 (fun wx => wx.cell? ⟨w.heap.size, 0, none⟩ = some (.string op) ∧ wx.cell? ⟨w.heap.size, 1, none⟩ = some (.int .i64 (kindOf j)) ∧ wx.cell? ⟨w.heap.size, 2, none⟩ = some (.int .i64 (nOf j)) ∧ wx.cell? ⟨w.heap.size, 3, none⟩ = some (.string (sOf j)) ∧ wx.cell? ⟨w.heap.size, 4, none⟩ = some (.slice A (nL j) B) ∧ wx.cell? ⟨w.heap.size, 5, none⟩ = some (.slice C (nK j) D) ∧ wx.cell? ⟨w.heap.size, 6, none⟩ = some (.slice none 0 0) ∧ wx.cell? ⟨w.heap.size + 1, 0, none⟩ = some (.int .i64 (kindOf v)) ∧ wx.cell? ⟨w.heap.size + 1, 1, none⟩ = some (.int .i64 (nOf v)) ∧ wx.cell? ⟨w.heap.size + 1, 2, none⟩ = some (.string (sOf v)) ∧ wx.cell? ⟨w.heap.size + 1, 3, none⟩ = some (.slice La (nL v) Lc) ∧ wx.cell? ⟨w.heap.size + 1, 4, none⟩ = some (.slice Ka (nK v) Kc)) (first | exact hS4 | exact hS3 | exact HSd.out) (first | (go_at_call 30; refine HC.out.mono ?_; rintro e w3 ⟨rfl, b3⟩; have H73 := hid (H7d.out.keep b3); have H53 := hid (H5d.out.stay b3); have hS3 := HSo.out _ H73.out H53.out) | (go_at_call 270; refine (HO.out _).mono ?_; rintro e w4 ⟨rfl, b4⟩; have hS4 := HSo.out _ (H73.out.keep b4) (H53.out.stay b4)))
    have HBf := hid ((HBd.out.trans (b3.mono HBd.out.size)).trans (b4.mono (HBd.out.trans (b3.mono HBd.out.size)).size))
    clear b3 b4 hS3 hS4
    go_wp2_with fail
    go_ret
    exact ⟨ret_bool (by rw [HR.out, Hkk.out]; rfl), HBf.out⟩
end Go.Proofs.YtknakfpciccoaabGreatDoor
/- The walks of tests: allHoldOf, holdsOf of $any, holds. -/
namespace Go.Proofs.YtknakfpciccoaabGreatDoor
open Go.RowKit

def HoldSaid (m : Nat) : Prop := ∀ (tv : Value) (ps : List (ByteArray × T)) (f : Nat) (x : Value) (v : T) (there : Bool) (w : World), TestsAt w m tv ps → At w f x v → f ≤ 16 → okA v →
    Calls Tryz.prog 263 #[tv, x, .bool there] w fun e w' => e = .returned (.bool (evA m ps v there)) ∧ Below w.heap.size w w'
set_option maxHeartbeats 4000000 in
set_option maxRecDepth 100000 in
theorem allHoldOf_any (m : Nat) (ih : HoldSaid m) (op : ByteArray) (j : T) (inn : Value) (f : Nat) (x : Value) (v : T) (w : World) (hi : TestsAt w m inn (prs j)) (hv : At w f x v) (hf : f ≤ 16) (kv : okA v) :
    Calls Tryz.prog 269 #[.agg #[.string op, .int .i64 0, .int .i64 0, .string ⟨#[]⟩, .slice none 0 0, .slice none 0 0, inn], x] w fun e w' => e = .returned (.bool (evA m (prs j) v true)) ∧ Below w.heap.size w w' := by
  obtain ⟨g1, La, Ka, Lc, Kc, hg1, rfl, _, _, _⟩ := hv.open
  have HB : Hid (Below w.heap.size w ((w.alloc (.cells #[.string op, .int .i64 0, .int .i64 0, .string ⟨#[]⟩, .slice none 0 0, .slice none 0 0, inn] 233)).alloc (.cells #[.int .i64 (kindOf v), .int .i64 (nOf v), .string (sOf v), .slice La (nL v) Lc, .slice Ka (nK v) Kc] 36))) := ((Below.refl _ _).alloc (Nat.le_refl _) _).alloc (by simp) _
  have HC := hid (ih inn (prs j) f _ v true ((w.alloc (.cells #[.string op, .int .i64 0, .int .i64 0, .string ⟨#[]⟩, .slice none 0 0, .slice none 0 0, inn] 233)).alloc (.cells #[.int .i64 (kindOf v), .int .i64 (nOf v), .string (sOf v), .slice La (nL v) Lc, .slice Ka (nK v) Kc] 36)) (hi.keep HB.out) (hv.keep HB.out) hf kv)
  clear hi hv ih kv hg1
  generalize evA m (prs j) v true = r at HC
  go_enter Tryz.func269, Tryz.ntmps269
  go_wp2_with fail
  refine HC.out.mono ?_
  rintro e w2 ⟨rfl, b2⟩
  have HB3 := hid (HB.out.trans (b2.mono HB.out.size))
  clear b2
  go_wp2_with fail
  go_ret
  exact ⟨rfl, HB3.out⟩
set_option maxHeartbeats 4000000 in
set_option maxRecDepth 100000 in
theorem holdsOf_inn (m : Nat) (ih : HoldSaid m) (op : ByteArray) (j : T) (inn : Value) (f : Nat) (x : Value) (v : T) (w : World) (gAny : op = opAny) (hi : TestsAt w m inn (prs j)) (hv : At w f x v) (hf : f ≤ 16) (kv : okA v) :
    Calls Tryz.prog 267 #[.agg #[.string op, .int .i64 0, .int .i64 0, .string ⟨#[]⟩, .slice none 0 0, .slice none 0 0, inn], x] w fun e w' => e = .returned (.bool (evO m (op, j) v)) ∧ Below w.heap.size w w' := by
  obtain ⟨g1, La, Ka, Lc, Kc, hg1, rfl, hfv, hel, _⟩ := hv.open
  have hnl := hfv.l1
  have HB : Hid (Below w.heap.size w ((w.alloc (.cells #[.string op, .int .i64 0, .int .i64 0, .string ⟨#[]⟩, .slice none 0 0, .slice none 0 0, inn] 233)).alloc (.cells #[.int .i64 (kindOf v), .int .i64 (nOf v), .string (sOf v), .slice La (nL v) Lc, .slice Ka (nK v) Kc] 36))) := ((Below.refl _ _).alloc (Nat.le_refl _) _).alloc (by simp) _
  have gEq : ¬ op = opEq := by rw [gAny]; decide
  have gIn : ¬ op = opIn := by rw [gAny]; decide
  have gSize : ¬ op = opSize := by rw [gAny]; decide
  have gKind : ¬ op = opKind := by rw [gAny]; decide
  have HR : Hid (evO m (op, j) v = (kindOf v == 5 && anyL (fun e => evA m (prs j) e true) v (nL v))) := by show _ = _; unfold evO; rw [if_neg gEq, if_neg gIn, if_neg gSize, if_neg gKind, if_pos gAny]; rfl
  have eEq : (op.toList == [36, 101, 113]) = false := lit_no gEq
  have eIn : (op.toList == [36, 105, 110]) = false := lit_no gIn
  have eSize : (op.toList == [36, 115, 105, 122, 101]) = false := lit_no gSize
  have eKind : (op.toList == [36, 107, 105, 110, 100]) = false := lit_no gKind
  have eAny : (op.toList == [36, 97, 110, 121]) = true := lit_is gAny
  have HC := hid (containsFuncB_any (fun e => evA m (prs j) e true) 269 (fun _ _ => rfl) (.agg #[.string op, .int .i64 0, .int .i64 0, .string ⟨#[]⟩, .slice none 0 0, .slice none 0 0, inn]) g1 La Lc v ((w.alloc (.cells #[.string op, .int .i64 0, .int .i64 0, .string ⟨#[]⟩, .slice none 0 0, .slice none 0 0, inn] 233)).alloc (.cells #[.int .i64 (kindOf v), .int .i64 (nOf v), .string (sOf v), .slice La (nL v) Lc, .slice Ka (nK v) Kc] 36)) (hel.out.keep HB.out) hfv.l1 (fun k hk wr y hb ha => allHoldOf_any m ih op j inn g1 y (elt v k) wr (hi.keep (HB.out.trans (hb.mono HB.out.size))) ha (by omega) (kv.elt hk)))
  clear gEq gIn gSize gKind gAny hi hv hel kv ih hfv hg1
  generalize anyL (fun e => evA m (prs j) e true) v (nL v) = r at HC HR
  cases h5 : kindOf v == 5 with
  | true =>
    have H5 := hid h5
    go_enter Tryz.func267, Tryz.ntmps267
    go_wp2_with fail
    refine HC.out.mono ?_
    rintro e w2 ⟨rfl, b2⟩
    have HB3 := hid (HB.out.trans (b2.mono HB.out.size))
    clear b2
    go_wp2_with fail
    go_ret
    exact ⟨ret_bool (by rw [HR.out, H5.out]; rfl), HB3.out⟩
  | false =>
    have H5 := hid h5
    go_enter Tryz.func267, Tryz.ntmps267
    go_wp2_with fail
    go_ret
    exact ⟨ret_bool (by rw [HR.out, H5.out]; rfl), HB.out⟩
/-- What a test says, by its first four words, and the others. -/
theorem evT_other {m : Nat} {op : ByteArray} {j v : T} {there : Bool} (h1 : ¬ op = opNe) (h2 : ¬ op = opNin) (h3 : ¬ op = opNot) (h4 : ¬ op = opExists) : evT (m + 1) (op, j) v there = (there && evO m (op, j) v) := by
  rw [evT, if_neg h1, if_neg h2, if_neg h3, if_neg h4]
  rfl
set_option maxHeartbeats 4000000 in
set_option maxRecDepth 100000 in
theorem holds_leaf (m : Nat) (op : ByteArray) (j : T) (A C : Option Addr) (B D : Nat) (gj f : Nat) (x : Value) (v : T) (there : Bool) (w : World) (hop : ¬ isInn op) (hj : At w gj (.agg #[.int .i64 (kindOf j), .int .i64 (nOf j), .string (sOf j), .slice A (nL j) B, .slice C (nK j) D]) j) (hv : At w f x v) (hf : f ≤ 16) (kj : okA j) (kv : okA v) :
    Calls Tryz.prog 265 #[.agg #[.string op, .int .i64 (kindOf j), .int .i64 (nOf j), .string (sOf j), .slice A (nL j) B, .slice C (nK j) D, .slice none 0 0], x, .bool there] w fun e w' => e = .returned (.bool (evT (m + 1) (op, j) v there)) ∧ Below w.heap.size w w' := by
  obtain ⟨g1, La, Ka, Lc, Kc, hg1, rfl, _, _, _⟩ := hv.open
  have HB : Hid (Below w.heap.size w ((w.alloc (.cells #[.string op, .int .i64 (kindOf j), .int .i64 (nOf j), .string (sOf j), .slice A (nL j) B, .slice C (nK j) D, .slice none 0 0] 233)).alloc (.cells #[.int .i64 (kindOf v), .int .i64 (nOf v), .string (sOf v), .slice La (nL v) Lc, .slice Ka (nK v) Kc] 36))) := ((Below.refl _ _).alloc (Nat.le_refl _) _).alloc (by simp) _
  have HJ := hid (hj.keep HB.out)
  have HV := hid (hv.keep HB.out)
  have HKj := hid kj
  have HKv := hid kv
  have HOp := hid hop
  have gNot : ¬ op = opNot := fun h => hop (.inl h)
  clear hj hv kj kv hg1 hop
  by_cases gNe : op = opNe
  · have eNe : (op.toList == [36, 110, 101]) = true := lit_is gNe
    have HR : Hid (evT (m + 1) (op, j) v there = !(there && eqT v j)) := by show _ = _; rw [evT, if_pos gNe]
    have HC := hid (equal16 HV.out HJ.out hf HKv.out HKj.out)
    generalize eqT v j = r at HC HR
    clear gNe gNot
    cases there with
    | true =>
      go_enter Tryz.func265, Tryz.ntmps265
      go_wp2_with fail
      refine HC.out.mono ?_
      rintro e w2 ⟨rfl, b2⟩
      have HB3 := hid (HB.out.trans (b2.mono HB.out.size))
      clear b2
      go_wp2_with fail
      go_ret
      exact ⟨ret_bool (by rw [HR.out]; rfl), HB3.out⟩
    | false =>
      go_enter Tryz.func265, Tryz.ntmps265
      go_wp2_with fail
      go_ret
      exact ⟨ret_bool (by rw [HR.out]; rfl), HB.out⟩
  have eNe : (op.toList == [36, 110, 101]) = false := lit_no gNe
  by_cases gNin : op = opNin
  · have eNin : (op.toList == [36, 110, 105, 110]) = true := lit_is gNin
    have HR : Hid (evT (m + 1) (op, j) v there = !(there && anyL (eqT v) j (nL j))) := by show _ = _; rw [evT, if_neg gNe, if_pos gNin]
    have HC := hid (among_any op j A C B D gj f _ v ((w.alloc (.cells #[.string op, .int .i64 (kindOf j), .int .i64 (nOf j), .string (sOf j), .slice A (nL j) B, .slice C (nK j) D, .slice none 0 0] 233)).alloc (.cells #[.int .i64 (kindOf v), .int .i64 (nOf v), .string (sOf v), .slice La (nL v) Lc, .slice Ka (nK v) Kc] 36)) HJ.out HV.out hf HKj.out HKv.out)
    generalize anyL (eqT v) j (nL j) = r at HC HR
    clear gNe gNot gNin
    cases there with
    | true =>
      go_enter Tryz.func265, Tryz.ntmps265
      go_wp2_with fail
      refine HC.out.mono ?_
      rintro e w2 ⟨rfl, b2⟩
      have HB3 := hid (HB.out.trans (b2.mono HB.out.size))
      clear b2
      go_wp2_with fail
      go_ret
      exact ⟨ret_bool (by rw [HR.out]; rfl), HB3.out⟩
    | false =>
      go_enter Tryz.func265, Tryz.ntmps265
      go_wp2_with fail
      go_ret
      exact ⟨ret_bool (by rw [HR.out]; rfl), HB.out⟩
  have eNin : (op.toList == [36, 110, 105, 110]) = false := lit_no gNin
  have eNot : (op.toList == [36, 110, 111, 116]) = false := lit_no gNot
  by_cases gExists : op = opExists
  · have eExists : (op.toList == [36, 101, 120, 105, 115, 116, 115]) = true := lit_is gExists
    have HR : Hid (evT (m + 1) (op, j) v there = (there == (nOf j == 1))) := by show _ = _; rw [evT, if_neg gNe, if_neg gNin, if_neg gNot, if_pos gExists]
    clear gNe gNot gNin gExists
    go_enter Tryz.func265, Tryz.ntmps265
    go_wp2_with fail
    go_ret
    exact ⟨ret_bool (by rw [HR.out]), HB.out⟩
  have eExists : (op.toList == [36, 101, 120, 105, 115, 116, 115]) = false := lit_no gExists
  have HR := hid (evT_other (m := m) (j := j) (v := v) (there := there) gNe gNin gNot gExists)
  have HC := hid (holdsOf_leaf m op j A C B D gj f _ v ((w.alloc (.cells #[.string op, .int .i64 (kindOf j), .int .i64 (nOf j), .string (sOf j), .slice A (nL j) B, .slice C (nK j) D, .slice none 0 0] 233)).alloc (.cells #[.int .i64 (kindOf v), .int .i64 (nOf v), .string (sOf v), .slice La (nL v) Lc, .slice Ka (nK v) Kc] 36)) HOp.out HJ.out HV.out hf HKj.out HKv.out)
  generalize evO m (op, j) v = r at HC HR
  clear gNe gNot gNin gExists
  cases there with
  | true =>
    go_enter Tryz.func265, Tryz.ntmps265
    go_wp2_with fail
    refine HC.out.mono ?_
    rintro e w2 ⟨rfl, b2⟩
    have HB3 := hid (HB.out.trans (b2.mono HB.out.size))
    clear b2
    go_wp2_with fail
    go_ret
    exact ⟨ret_bool (by rw [HR.out]; rfl), HB3.out⟩
  | false =>
    go_enter Tryz.func265, Tryz.ntmps265
    go_wp2_with fail
    go_ret
    exact ⟨ret_bool (by rw [HR.out]; rfl), HB.out⟩
set_option maxHeartbeats 4000000 in
set_option maxRecDepth 100000 in
theorem holds_inn (m : Nat) (ih : HoldSaid m) (op : ByteArray) (j : T) (inn : Value) (f : Nat) (x : Value) (v : T) (there : Bool) (w : World) (hop : isInn op) (hi : TestsAt w m inn (prs j)) (hv : At w f x v) (hf : f ≤ 16) (kv : okA v) :
    Calls Tryz.prog 265 #[.agg #[.string op, .int .i64 0, .int .i64 0, .string ⟨#[]⟩, .slice none 0 0, .slice none 0 0, inn], x, .bool there] w fun e w' => e = .returned (.bool (evT (m + 1) (op, j) v there)) ∧ Below w.heap.size w w' := by
  obtain ⟨g1, La, Ka, Lc, Kc, hg1, rfl, _, _, _⟩ := hv.open
  have HB : Hid (Below w.heap.size w ((w.alloc (.cells #[.string op, .int .i64 0, .int .i64 0, .string ⟨#[]⟩, .slice none 0 0, .slice none 0 0, inn] 233)).alloc (.cells #[.int .i64 (kindOf v), .int .i64 (nOf v), .string (sOf v), .slice La (nL v) Lc, .slice Ka (nK v) Kc] 36))) := ((Below.refl _ _).alloc (Nat.le_refl _) _).alloc (by simp) _
  have HI := hid (hi.keep HB.out)
  have HV := hid (hv.keep HB.out)
  have HKv := hid kv
  have HIh := hid ih
  clear hi hv kv hg1 ih
  have gNe : ¬ op = opNe := by rcases hop with h | h <;> (rw [h]; decide)
  have gNin : ¬ op = opNin := by rcases hop with h | h <;> (rw [h]; decide)
  have gExists : ¬ op = opExists := by rcases hop with h | h <;> (rw [h]; decide)
  have eNe : (op.toList == [36, 110, 101]) = false := lit_no gNe
  have eNin : (op.toList == [36, 110, 105, 110]) = false := lit_no gNin
  have eExists : (op.toList == [36, 101, 120, 105, 115, 116, 115]) = false := lit_no gExists
  by_cases gNot : op = opNot
  · have eNot : (op.toList == [36, 110, 111, 116]) = true := lit_is gNot
    have HR : Hid (evT (m + 1) (op, j) v there = !(evA m (prs j) v there)) := by show _ = _; rw [evT, if_neg gNe, if_neg gNin, if_pos gNot]; rfl
    have HC := hid (HIh.out inn (prs j) f _ v there ((w.alloc (.cells #[.string op, .int .i64 0, .int .i64 0, .string ⟨#[]⟩, .slice none 0 0, .slice none 0 0, inn] 233)).alloc (.cells #[.int .i64 (kindOf v), .int .i64 (nOf v), .string (sOf v), .slice La (nL v) Lc, .slice Ka (nK v) Kc] 36)) HI.out HV.out hf HKv.out)
    generalize evA m (prs j) v there = r at HC HR
    clear gNe gNot gNin gExists hop
    go_enter Tryz.func265, Tryz.ntmps265
    go_wp2_with fail
    refine HC.out.mono ?_
    rintro e w2 ⟨rfl, b2⟩
    have HB3 := hid (HB.out.trans (b2.mono HB.out.size))
    clear b2
    go_wp2_with fail
    go_ret
    exact ⟨ret_bool (by rw [HR.out]), HB3.out⟩
  have eNot : (op.toList == [36, 110, 111, 116]) = false := lit_no gNot
  have gAny : op = opAny := hop.resolve_left gNot
  have HR := hid (evT_other (m := m) (j := j) (v := v) (there := there) gNe gNin gNot gExists)
  have HC := hid (holdsOf_inn m HIh.out op j inn f _ v ((w.alloc (.cells #[.string op, .int .i64 0, .int .i64 0, .string ⟨#[]⟩, .slice none 0 0, .slice none 0 0, inn] 233)).alloc (.cells #[.int .i64 (kindOf v), .int .i64 (nOf v), .string (sOf v), .slice La (nL v) Lc, .slice Ka (nK v) Kc] 36)) gAny HI.out HV.out hf HKv.out)
  generalize evO m (op, j) v = r at HC HR
  clear gNe gNot gNin gExists hop gAny
  cases there with
  | true =>
    go_enter Tryz.func265, Tryz.ntmps265
    go_wp2_with fail
    refine HC.out.mono ?_
    rintro e w2 ⟨rfl, b2⟩
    have HB3 := hid (HB.out.trans (b2.mono HB.out.size))
    clear b2
    go_wp2_with fail
    go_ret
    exact ⟨ret_bool (by rw [HR.out]; rfl), HB3.out⟩
  | false =>
    go_enter Tryz.func265, Tryz.ntmps265
    go_wp2_with fail
    go_ret
    exact ⟨ret_bool (by rw [HR.out]; rfl), HB.out⟩
end Go.Proofs.YtknakfpciccoaabGreatDoor
/- The walk of tests.hold. -/
namespace Go.Proofs.YtknakfpciccoaabGreatDoor
open Go.RowKit

theorem all_take {α : Type} {p : α → Bool} {l : List α} {k : Nat} (h : k < l.length) (ht : (l.take k).all p = true) : (l.take (k + 1)).all p = p l[k] := by
  rw [List.take_succ_eq_append_getElem h, List.all_append, ht]
  simp
theorem all_no {α : Type} {p : α → Bool} {l : List α} {k : Nat} (h : k < l.length) (hp : p l[k] = false) : l.all p = false := by
  rw [List.all_eq_false]
  exact ⟨l[k], List.getElem_mem h, by rw [hp]; simp⟩
theorem holds_at (m : Nat) (ih : HoldSaid m) (c0 c1 c2 c3 c4 c5 c6 : Value) (p : ByteArray × T) (f : Nat) (x : Value) (v : T) (there : Bool) (w : World) (ht : TestAt w (m + 1) c0 c1 c2 c3 c4 c5 c6 p) (hv : At w f x v) (hf : f ≤ 16) (kv : okA v) :
    Calls Tryz.prog 265 #[.agg #[c0, c1, c2, c3, c4, c5, c6], x, .bool there] w fun e w' => e = .returned (.bool (evT (m + 1) p v there)) ∧ Below w.heap.size w w' := by
  obtain ⟨op, j⟩ := p
  obtain ⟨rfl, _, ⟨hi, rfl, rfl, rfl, rfl, rfl, hr⟩ | ⟨hi, rfl, g, A, B, C, D, hg, rfl, rfl, rfl, rfl, rfl, ha, hk⟩⟩ := ht
  · exact holds_inn m ih op j c6 f x v there w hi hr hv hf kv
  · exact holds_leaf m op j A C B D g f x v there w hi ha hv hf hk kv
/-- What a test's cells are made of. -/
theorem TestAt.shape {w : World} {m : Nat} {c0 c1 c2 c3 c4 c5 c6 : Value} {p : ByteArray × T} (h : TestAt w m c0 c1 c2 c3 c4 c5 c6 p) : ∃ s0 n1 n2 s3 A4 l4 k4 A5 l5 k5 A6 l6 k6, c0 = .string s0 ∧ c1 = .int .i64 n1 ∧ c2 = .int .i64 n2 ∧ c3 = .string s3 ∧ c4 = .slice A4 l4 k4 ∧ c5 = .slice A5 l5 k5 ∧ c6 = .slice A6 l6 k6 := by
  cases m with
  | zero => exact h.elim
  | succ m =>
    obtain ⟨h0, _, ⟨_, h1, h2, h3, h4, h5, A, c, h6, _⟩ | ⟨_, h6, g, A, B, C, D, _, h1, h2, h3, h4, h5, _⟩⟩ := h
    · exact ⟨_, _, _, _, _, _, _, _, _, _, _, _, _, h0, h1, h2, h3, h4, h5, h6⟩
    · exact ⟨_, _, _, _, _, _, _, _, _, _, _, _, _, h0, h1, h2, h3, h4, h5, h6⟩
set_option maxHeartbeats 4000000 in
set_option maxRecDepth 100000 in
theorem hold_step (m : Nat) (ih : HoldSaid m) : HoldSaid (m + 1) := by
  intro tv ps f x v there w ht hv hf kv
  obtain ⟨g1, La, Ka, Lc, Kc, hg1, rfl, _, _, _⟩ := hv.open
  obtain ⟨A, c, rfl, hn, hrow⟩ := ht
  have HRow := hid hrow
  have HV := hid hv
  have HKv := hid kv
  have HIh := hid ih
  clear hrow hv kv ih hg1
  go_enter Tryz.func263, Tryz.ntmps263
  go_wp2_with fail
  go_loopg [11] (ps.length) (fun g' i wr => ∃ k : Nat, g' = ps.length - k ∧ k ≤ ps.length ∧ i = .int .i64 k ∧ Hid (Below (w.heap.size + 1) (w.alloc (.cells #[.int .i64 (kindOf v), .int .i64 (nOf v), .string (sOf v), .slice La (nL v) Lc, .slice Ka (nK v) Kc] 36)) wr) ∧ Hid ((ps.take k).all (fun q => evT (m + 1) q v there) = true))
  case atStart => exact ⟨0, rfl, Nat.zero_le _, rfl, Below.refl _ _, rfl⟩
  case round =>
    obtain ⟨k, rfl, hk, rfl, HB, HN⟩ := hrel
    obtain ⟨q0, q1, q2, q3, q4, hz, hbw⟩ := box_facts HB.out
    have Hbw := hid hbw
    clear hbw
    by_cases hlt : k < ps.length
    · obtain ⟨b, o, c0, c1, c2, c3, c4, c5, c6, rfl, hbl, p0, p1, p2, p3, p4, p5, p6, hr⟩ := HRow.out k hlt
      have HT := hid hr
      obtain ⟨s0, n1, n2, s3, A4, l4, k4, A5, l5, k5, A6, l6, k6, rfl, rfl, rfl, rfl, rfl, rfl, rfl⟩ := hr.shape
      replace p0 := (Hbw.out.cell (p := ⟨b, o + k * 7, none⟩) hbl).trans p0
      replace p1 := (Hbw.out.cell (p := ⟨b, o + k * 7 + 1, none⟩) hbl).trans p1
      replace p2 := (Hbw.out.cell (p := ⟨b, o + k * 7 + 2, none⟩) hbl).trans p2
      replace p3 := (Hbw.out.cell (p := ⟨b, o + k * 7 + 3, none⟩) hbl).trans p3
      replace p4 := (Hbw.out.cell (p := ⟨b, o + k * 7 + 4, none⟩) hbl).trans p4
      replace p5 := (Hbw.out.cell (p := ⟨b, o + k * 7 + 5, none⟩) hbl).trans p5
      replace p6 := (Hbw.out.cell (p := ⟨b, o + k * 7 + 6, none⟩) hbl).trans p6
      have HB2 : Hid (Below wr.heap.size wr (wr.alloc (.cells #[.string s0, .int .i64 n1, .int .i64 n2, .string s3, .slice A4 l4 k4, .slice A5 l5 k5, .slice A6 l6 k6] 233))) := (Below.refl _ _).alloc (Nat.le_refl _) _
      have HB3 := hid (Hbw.out.trans (HB2.out.mono Hbw.out.size))
      have HC := hid (holds_at m HIh.out _ _ _ _ _ _ _ ps[k] f _ v there _ (TestAt.keep HB3.out _ _ _ _ _ _ _ _ _ HT.out) (HV.out.keep HB3.out) hf HKv.out)
      have HA := hid (all_take (p := fun q => evT (m + 1) q v there) hlt HN.out)
      have HA2 := hid (fun h => all_no (p := fun q => evT (m + 1) q v there) hlt h)
      clear hr HT
      generalize evT (m + 1) ps[k] v there = r at HC HA HA2
      go_wp2_with fail
      refine HC.out.mono ?_
      rintro e w2 ⟨rfl, b2⟩
      have HB4 := hid (HB.out.trans ((HB2.out.trans (b2.mono HB2.out.size)).mono (by omega)))
      clear b2 HC
      cases r with
      | true =>
        go_wp2_with fail
        go_roundg (ps.length - (k + 1))
        case rel => exact ⟨k + 1, rfl, by omega, by go_num, HB4, HA⟩
        case measure => omega
      | false =>
        have HA3 := hid (HA2.out rfl)
        clear HA2
        have HB5 := hid (((Below.refl w.heap.size w).alloc (Nat.le_refl _) (.cells #[.int .i64 (kindOf v), .int .i64 (nOf v), .string (sOf v), .slice La (nL v) Lc, .slice Ka (nK v) Kc] 36)).trans (HB4.out.mono (by omega)))
        go_wp2_with fail
        go_ret
        exact ⟨ret_bool (by rw [evA, HA3.out]), HB5.out⟩
    · obtain rfl : k = ps.length := by omega
      have HR : Hid (evA (m + 1) ps v there = true) := by have := HN.out; rw [List.take_length] at this; exact this
      go_wp2_with fail
      go_ret
      exact ⟨ret_bool (by rw [HR.out]), Hbw.out⟩
set_option maxHeartbeats 4000000 in
set_option maxRecDepth 100000 in
theorem hold_zero : HoldSaid 0 := by
  intro tv ps f x v there w ht hv hf kv
  obtain ⟨g1, La, Ka, Lc, Kc, hg1, rfl, _, _, _⟩ := hv.open
  obtain ⟨A, c, rfl, hn, hrow⟩ := ht
  have h0 : ps = [] := by
    cases ps with
    | nil => rfl
    | cons p ps =>
      obtain ⟨b, o, c0, c1, c2, c3, c4, c5, c6, _, _, _, _, _, _, _, _, _, hr⟩ := hrow 0 (by simp)
      exact hr.elim
  subst h0
  have HB : Hid (Below w.heap.size w (w.alloc (.cells #[.int .i64 (kindOf v), .int .i64 (nOf v), .string (sOf v), .slice La (nL v) Lc, .slice Ka (nK v) Kc] 36))) := (Below.refl _ _).alloc (Nat.le_refl _) _
  clear hrow hv kv hg1 hn
  simp only [List.length_nil]
  go_enter Tryz.func263, Tryz.ntmps263
  go_wp2_with fail
  go_loopg [11] 1 (fun g' i wr => i = .int .i64 0 ∧ wr = w.alloc (.cells #[.int .i64 (kindOf v), .int .i64 (nOf v), .string (sOf v), .slice La (nL v) Lc, .slice Ka (nK v) Kc] 36))
  case atStart => exact ⟨rfl, rfl⟩
  case round =>
    obtain ⟨rfl, rfl⟩ := hrel
    go_wp2_with fail
    go_ret
    exact ⟨rfl, HB.out⟩
theorem hold_any : ∀ m, HoldSaid m
  | 0 => hold_zero
  | m + 1 => hold_step m (hold_any m)
end Go.Proofs.YtknakfpciccoaabGreatDoor
