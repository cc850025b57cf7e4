/- The walks of the checker: values, and a value. -/
import Derived.Test.YtknakfpciccoaaaDoorC6
namespace Go.Proofs.YtknakfpciccoaaaDoor
open Go.RowKit

/-- The contract of a value, so deep. -/
def ChkSaid (Tb : World → Prop) (c : Nat) (w0 : World) (m : Nat) : Prop := ∀ (f : Nat) (v : Value) (t : T) (l : Int) (w : World),
  At w0 f v t → Below w0.heap.size w0 w → Holds c l w → Tb w → 0 ≤ l → l ≤ 1048576 →
    Calls Tryd.prog 62 #[.pointer (some ⟨c, 0, none⟩), v, .int .i64 (12 - (m : Int))] w fun e w' => ChkPost c w (chkT m t l) e w'

set_option maxHeartbeats 1000000 in
theorem values_any {Tb : World → Prop} (c : Nat) (hS : Stays Tb c) (w0 : World) (hN : w0.heap.size ≤ c) (m : Nat) (ih : ChkSaid Tb c w0 m) (f : Nat) (La : Option Addr) (Lc : Nat) (t : T) (l : Int) (w : World)
    (hl : ElemsAt w0 f La t) (hn : nL t ≤ 1759218604442) (hb0 : Below w0.heap.size w0 w) (h : Holds c l w) (hT : Tb w) (l0 : 0 ≤ l) (l1 : l ≤ 1048576) :
    Calls Tryd.prog 83 #[.pointer (some ⟨c, 0, none⟩), .slice La (nL t) Lc, .int .i64 (12 - (m : Int))] w fun e w' => ChkPost c w (valuesL (chkT m) t (nL t) l) e w' := by
  have H := hid h
  have HT := hid hT
  have Hl := hid hl
  have Hb0 := hid hb0
  have Hih := hid ih
  clear h hT hl hb0 ih
  go_enter Tryd.func83, Tryd.ntmps83
  go_wp2_with fail
  go_loopg [11] (nL t) (fun g i wr => ∃ (k : Nat) (x : Int), g = nL t - k ∧ k ≤ nL t ∧ i = .int .i64 k ∧ 0 ≤ x ∧ x ≤ 1048576 ∧ Hid (valuesL (chkT m) t k l = some x) ∧ Hid (Holds c x wr) ∧ Hid (But c w wr))
  case atStart => exact ⟨0, l, rfl, Nat.zero_le _, rfl, l0, l1, rfl, H, But.refl _ _⟩
  case round =>
    obtain ⟨k, x, rfl, hk1, rfl, x0, x1, HX, HH, HB⟩ := hrel
    have Hbr := hid (Hb0.out.trans ((HB.out.below (Nat.le_of_lt H.out.lt)).mono hN))
    by_cases hlt : k < nL t
    · obtain ⟨b, o, A, B, C, D, rfl, hbl, p0, p1, p2, p3, p4, Ha⟩ := Hl.out.shape Hbr.out k hlt
      go_wp2_with fail
      have B1 : Below wr.heap.size wr (wr.alloc (.cells #[.int .i64 (kindOf (elt t k)), .int .i64 (nOf (elt t k)), .string (sOf (elt t k)), .slice A (nL (elt t k)) B, .slice C (nK (elt t k)) D] 26)) := (Below.refl _ _).alloc (Nat.le_refl _) _
      have HB1 := hid B1
      clear B1
      refine (Hih.out f _ (elt t k) x _ Ha.out (Hbr.out.trans (HB1.out.mono (Nat.le_trans hN (Nat.le_of_lt HH.out.lt)))) (HH.out.keep HB1.out) (hS _ _ (hS _ _ HT.out (HB.out.below (Nat.le_of_lt H.out.lt))) (HB1.out.mono (Nat.le_of_lt HH.out.lt))) x0 x1).mono ?_
      rintro e w2 ⟨B2, l', K2, hr⟩
      have HB2 := hid ((But.of HB1.out).trans B2)
      have HK2 := hid K2
      clear B2 K2
      have step : valuesL (chkT m) t (k + 1) l = chkT m (elt t k) x := by
        show (valuesL (chkT m) t k l).bind (chkT m (elt t k)) = _
        rw [HX.out]
        rfl
      have Hst := hid step
      clear step
      rcases hr with ⟨hr, y0, y1, rfl⟩ | ⟨hr, rfl⟩
      · have Hr := hid hr
        clear hr
        go_wp2_with fail
        go_roundg (nL t - (k + 1))
        case rel => exact ⟨k + 1, l', rfl, by omega, by go_num, y0, y1, Hst.out.trans Hr.out, HK2, HB.out.trans HB2.out⟩
        case measure => omega
      · have Hr := hid hr
        clear hr
        go_wp2_with fail
        go_ret
        exact ⟨HB.out.trans HB2.out, l', HK2.out, Or.inr ⟨valuesL_none hlt (Hst.out.trans Hr.out), rfl⟩⟩
    · obtain rfl : k = nL t := by omega
      go_wp2_with fail
      go_ret
      exact ⟨HB.out, x, HH.out, Or.inl ⟨HX.out, x0, x1, rfl⟩⟩
end Go.Proofs.YtknakfpciccoaaaDoor
