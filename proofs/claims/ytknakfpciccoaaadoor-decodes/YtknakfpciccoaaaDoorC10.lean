/- The checker whole, and isValue. -/
import Derived.Test.YtknakfpciccoaaaDoorC8
import Derived.Test.YtknakfpciccoaaaDoorC9
namespace Go.Proofs.YtknakfpciccoaaaDoor
open Go.RowKit

theorem chk_any {Tb : World → Prop} (hV : ValidSaid Tb) (c : Nat) (hS : Stays Tb c) (w0 : World) (hN : w0.heap.size ≤ c) (m : Nat) (hm : m ≤ 12) : ChkSaid Tb c w0 m := by
  induction m with
  | zero =>
    intro f v t l w h hb0 hH hT l0 l1
    by_cases h1 : kindOf t = 1
    · exact chk_k1 c hS w0 hN 0 f v t l w h hb0 hH hT l0 l1 h1
    by_cases h2 : kindOf t = 2
    · exact chk_k2 c hS w0 hN 0 f v t l w h hb0 hH hT l0 l1 h2
    by_cases h3 : kindOf t = 3
    · exact chk_k3 c hS w0 hN 0 f v t l w h hb0 hH hT l0 l1 h3
    by_cases h4 : kindOf t = 4
    · exact chk_k4 hV c hS w0 hN 0 f v t l w h hb0 hH hT l0 l1 h4
    by_cases h5 : kindOf t = 5
    · exact chk_z5 c w0 hN f v t l w h hb0 hH hT l0 l1 h5
    by_cases h6 : kindOf t = 6
    · exact chk_z6 c w0 hN f v t l w h hb0 hH hT l0 l1 h6
    exact chk_other c hS w0 hN 0 f v t l w h hb0 hH hT l0 l1 ⟨h1, h2, h3, h4, h5, h6⟩
  | succ m ih =>
    have ih := ih (by omega)
    intro f v t l w h hb0 hH hT l0 l1
    by_cases h1 : kindOf t = 1
    · exact chk_k1 c hS w0 hN (m + 1) f v t l w h hb0 hH hT l0 l1 h1
    by_cases h2 : kindOf t = 2
    · exact chk_k2 c hS w0 hN (m + 1) f v t l w h hb0 hH hT l0 l1 h2
    by_cases h3 : kindOf t = 3
    · exact chk_k3 c hS w0 hN (m + 1) f v t l w h hb0 hH hT l0 l1 h3
    by_cases h4 : kindOf t = 4
    · exact chk_k4 hV c hS w0 hN (m + 1) f v t l w h hb0 hH hT l0 l1 h4
    by_cases h5 : kindOf t = 5
    · exact chk_k5 c hS w0 hN m ih (by omega) f v t l w h hb0 hH hT l0 l1 h5
    by_cases h6 : kindOf t = 6
    · exact chk_k6 hV c hS w0 hN m ih (by omega) f v t l w h hb0 hH hT l0 l1 h6
    exact chk_other c hS w0 hN (m + 1) f v t l w h hb0 hH hT l0 l1 ⟨h1, h2, h3, h4, h5, h6⟩

/-- Is it a value, by the program. -/
def isV (t : T) : Bool := (chkT 12 t 1048576).isSome
/-- The tables lie in every later world. -/
def Keeps (Tb : World → Prop) : Prop := ∀ w w' : World, Tb w → Below w.heap.size w w' → Tb w'
/-- The tables' cells lie below whatever world has them. -/
def Lies (Tb : World → Prop) : Prop := ∀ w : World, Tb w → Stays Tb w.heap.size

set_option maxHeartbeats 1000000 in
theorem isValue_any {Tb : World → Prop} (hV : ValidSaid Tb) (hL : Lies Tb) (f : Nat) (v : Value) (t : T) (w : World) (h : At w f v t) (hT : Tb w) :
    Calls Tryd.prog 35 #[v] w fun e w' => e = .returned (.bool (isV t)) ∧ Below w.heap.size w w' := by
  obtain ⟨f, La, Ka, Lc, Kc, rfl, rfl, hf, hl, hk⟩ := h.open
  have HA := hid h
  have HT := hid hT
  clear h hT hf hl hk
  go_enter Tryd.func35, Tryd.ntmps35
  go_wp2_with fail
  have HB1 : Hid (Below w.heap.size w ((w.alloc (.cells #[.int .i64 (kindOf t), .int .i64 (nOf t), .string (sOf t), .slice La (nL t) Lc, .slice Ka (nK t) Kc] 26)).alloc (.cells #[.int .i64 1048576] 78))) := ((Below.refl _ _).alloc (Nat.le_refl _) _).alloc (by simp) _
  have hS : Stays Tb (w.heap.size + 1) := fun w1 w2 h1 h2 => hL w HT.out w1 w2 h1 (h2.mono (by omega))
  have HH : Hid (Holds (w.heap.size + 1) 1048576 ((w.alloc (.cells #[.int .i64 (kindOf t), .int .i64 (nOf t), .string (sOf t), .slice La (nL t) Lc, .slice Ka (nK t) Kc] 26)).alloc (.cells #[.int .i64 1048576] 78))) := ⟨by simp [go_sem], by simp [go_sem], by simp⟩
  have e12 : (Value.int .i64 0) = .int .i64 (12 - ((12 : Nat) : Int)) := rfl
  rw [e12]
  clear e12
  refine (chk_any hV (w.heap.size + 1) hS w (by omega) 12 (by omega) _ _ t 1048576 _ HA.out HB1.out HH.out (hL w HT.out _ _ HT.out HB1.out) (by omega) (by omega)).mono ?_
  rintro e w2 ⟨B2, l', K2, hr⟩
  have HB2 := hid (HB1.out.trans ((B2.below (by simp)).mono (by omega)))
  clear B2 K2
  rcases hr with ⟨hr, y0, y1, rfl⟩ | ⟨hr, rfl⟩
  · have Hr := hid hr
    clear hr
    go_wp2_with fail
    go_ret
    exact ⟨ret_bool (by unfold isV; rw [Hr.out]; rfl), HB2.out⟩
  · have Hr := hid hr
    clear hr
    go_wp2_with fail
    go_ret
    exact ⟨ret_bool (by unfold isV; rw [Hr.out]; rfl), HB2.out⟩
end Go.Proofs.YtknakfpciccoaaaDoor
