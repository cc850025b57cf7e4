/- The walks of sheafref.numbers and its kin: what each returns. -/
import Derived.Test.YtknakfpciccoaaaDoorProg
import Derived.Test.YtknakfpciccoaaaDoorB
import Derived.WalkKit
import Derived.WalkSpells
import Derived.WalkLawsBesides
import Derived.Deep.LoopGhost
namespace Go.Proofs.YtknakfpciccoaaaDoor
open Go.RowKit

set_option maxHeartbeats 400000 in
theorem numbers_any (a b : Int) (w : World) :
    Calls Tryd.prog 68 #[.int .i64 a, .int .i64 b] w fun e w' => e = .returned (.int .i64 (cmpI a b)) ∧ w' = w := by
  go_enter Tryd.func68, Tryd.ntmps68
  go_wp2
  all_goals (go_ret; refine ⟨?_, rfl⟩)
  · exact ret_int (cmpI_lt (by assumption)).symm
  · exact ret_int (cmpI_gt (by assumption)).symm
  · exact ret_int (cmpI_eq (by assumption) (by assumption)).symm

set_option maxHeartbeats 400000 in
theorem deep_any (m : Nat) : ∀ (f : Nat) (v : Value) (t : T) (w : World), At w f v t → m ≤ 100 →
    Calls Tryd.prog 49 #[v, .int .i64 m] w fun e w' => e = .returned (.int .i64 (deepT m t)) ∧ Below w.heap.size w w' := by
  induction m with
  | zero =>
    intro f v t w h _
    obtain ⟨f, La, Ka, Lc, Kc, rfl, rfl, hf, hl, hk⟩ := h.open
    go_enter Tryd.func49, Tryd.ntmps49
    go_wp2_with fail
    go_ret
    exact ⟨by simp [deepT], (Below.refl _ _).alloc (Nat.le_refl _) _⟩
  | succ m ih =>
    intro f v t w h hm
    obtain ⟨f, La, Ka, Lc, Kc, rfl, rfl, hf, hl, hk⟩ := h.open
    have hlen := hf.l1
    clear h hf hk
    by_cases h5 : isBox t = true
    · have e5 : ((kindOf t) != 5) = true ∧ ((kindOf t != 6)) = false ∨ ((kindOf t) != 5) = false := by
        simp only [isBox, Bool.or_eq_true, beq_iff_eq] at h5
        rcases h5 with h5 | h5 <;> simp [h5]
      have Hr : Hid (deepT (m + 1) t = deepL (deepT m) t (nL t) + 1) := by show deepT (m + 1) t = _; simp only [deepT, h5, if_true]
      have e0 : ((m : Int) + 1 == 0) = false := beq_eq_false_iff_ne.2 (by omega)
      clear h5
      rcases e5 with ⟨e5, e6⟩ | e5
      all_goals
        go_enter Tryd.func49, Tryd.ntmps49
        go_wp2_with fail
        go_loopg [5, 6] (nL t) (fun g n i wr => ∃ k : Nat, g = nL t - k ∧ k ≤ nL t ∧ i = .int .i64 k ∧ n = .int .i64 (deepL (deepT m) t k : Nat) ∧ Below (w.heap.size + 1) (w.alloc (.cells #[.int .i64 (kindOf t), .int .i64 (nOf t), .string (sOf t), .slice La (nL t) Lc, .slice Ka (nK t) Kc] 26)) wr)
        case atStart => exact ⟨0, rfl, Nat.zero_le _, rfl, rfl, Below.refl _ _⟩
        case round =>
          obtain ⟨k, rfl, hk, rfl, rfl, hb⟩ := hrel
          obtain ⟨q0, q1, q2, q3, q4, hz, hbw⟩ := box_facts hb
          have Hb := hid hb
          clear hb
          have hd0 := deepL_le (deepT_le m) t k
          by_cases hlt : k < nL t
          · obtain ⟨b, o, c0, c1, c2, c3, c4, rfl, hbl, p0, p1, p2, p3, p4, Ha⟩ := hl.out.keep hbw k hlt
            have em : ((m : Int) + 1 - 1) = (m : Int) := by omega
            have hd1 := deepT_le m (elt t k)
            have Hs : Hid (deepL (deepT m) t (k + 1) = max (deepL (deepT m) t k) (deepT m (elt t k))) := rfl
            go_wp2_with fail
            refine (ih _ _ _ _ Ha.out (by omega)).mono ?_
            rintro e w2 ⟨rfl, hb2⟩
            have hb3 := Hb.out.trans (hb2.mono (by omega))
            go_wp2_with fail
            all_goals
              go_roundg (nL t - (k + 1))
              case rel => exact ⟨k + 1, rfl, by omega, by go_num, by rw [Hs.out]; go_num, hb3⟩
              case measure => omega
          · go_wp2_with fail
            go_ret
            have : k = nL t := by omega
            subst this
            exact ⟨ret_int (by rw [Hr.out]; rfl), hbw⟩
    · have e5 : (kindOf t != 5) = true := by simp [isBox] at h5; simp; omega
      have e6 : (kindOf t != 6) = true := by simp [isBox] at h5; simp; omega
      have H : Hid (deepT (m + 1) t = 0) := by show deepT (m + 1) t = _; simp [deepT, h5]
      clear h5
      go_enter Tryd.func49, Tryd.ntmps49
      go_wp2_with fail
      go_ret
      exact ⟨ret_int (by rw [H.out]; rfl), (Below.refl _ _).alloc (Nat.le_refl _) _⟩
end Go.Proofs.YtknakfpciccoaaaDoor
