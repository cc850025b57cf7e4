/- The walks of texts, Deep and twice. -/
import Derived.Test.YtknakfpciccoaaaDoorC1
import Derived.BigQuiet
import Derived.Deep.QuietTactic
namespace Go.Proofs.YtknakfpciccoaaaDoor
open Go.RowKit

set_option maxHeartbeats 400000 in
theorem texts_any (a b : ByteArray) (w : World) :
    Calls Tryd.prog 69 #[.string a, .string b] w fun e w' => e = .returned (.int .i64 (cmpS a b)) ∧ w' = w := by
  go_enter Tryd.func69, Tryd.ntmps69
  go_wp2
  all_goals (go_ret; refine ⟨?_, rfl⟩)
  · exact ret_int (cmpS_lt (by assumption)).symm
  · exact ret_int (cmpS_gt (by assumption) (by assumption)).symm
  · exact ret_int (cmpS_eq (by assumption) (by assumption)).symm

set_option maxHeartbeats 400000 in
theorem Deep_any (f : Nat) (v : Value) (t : T) (w : World) (h : At w f v t) :
    Calls Tryd.prog 23 #[v] w fun e w' => e = .returned (.int .i64 (deepT 16 t)) ∧ Below w.heap.size w w' := by
  obtain ⟨f, La, Ka, Lc, Kc, rfl, rfl, hf, hl, hk⟩ := h.open
  have H := hid h
  clear h
  go_enter Tryd.func23, Tryd.ntmps23
  go_wp2_with fail
  have hb : Below w.heap.size w (w.alloc (.cells #[.int .i64 (kindOf t), .int .i64 (nOf t), .string (sOf t), .slice La (nL t) Lc, .slice Ka (nK t) Kc] 26)) := (Below.refl _ _).alloc (Nat.le_refl _) _
  refine (deep_any 16 _ _ _ _ (H.out.keep hb) (by omega)).mono ?_
  rintro e w2 ⟨rfl, hb2⟩
  go_wp2_with fail
  go_ret
  exact ⟨rfl, hb.trans (hb2.mono (by simp))⟩

set_option maxHeartbeats 400000 in
theorem twice_any (f : Nat) : ∀ (v : Value) (t : T) (w : World), At w f v t →
    Calls Tryd.prog 24 #[v] w fun e w' => e = .returned (.bool (twiceT f t)) ∧ Below w.heap.size w w' := by
  induction f with
  | zero => intro v t w h; exact h.elim
  | succ f ih =>
    intro v t w h
    obtain ⟨g, La, Ka, Lc, Kc, hg, rfl, hf, hl, hk⟩ := h.open
    obtain rfl : f = g := by omega
    have hlen := hf.l1
    have klen := hf.m1
    clear h hf
    go_enter Tryd.func24, Tryd.ntmps24
    go_wp2_with fail
    go_loopg [3, 4] (nK t) (fun g i z wr => ∃ k : Nat, g = nK t - k ∧ k ≤ nK t ∧ i = .int .i64 k ∧ Hid (dupTo t k = false) ∧ Below (w.heap.size + 1) (w.alloc (.cells #[.int .i64 (kindOf t), .int .i64 (nOf t), .string (sOf t), .slice La (nL t) Lc, .slice Ka (nK t) Kc] 26)) wr)
    case atStart => exact ⟨0, rfl, Nat.zero_le _, rfl, rfl, Below.refl _ _⟩
    case round =>
      obtain ⟨k, rfl, hk1, rfl, hd, hb⟩ := hrel
      obtain ⟨q0, q1, q2, q3, q4, hz, hbw⟩ := box_facts hb
      have Hb := hid hb
      clear hb
      by_cases hlt : k < nK t
      · obtain ⟨kb, ko, rfl, hkb, hks, hkc⟩ := hk.out.keep hbw k hlt
        go_wp2_with fail
        go_loopg [4] k (fun g z wx => ∃ j : Nat, g = k - j ∧ j ≤ k ∧ z = .int .i64 j ∧ Hid (dupIn t k j = false) ∧ Below (w.heap.size + 1) (w.alloc (.cells #[.int .i64 (kindOf t), .int .i64 (nOf t), .string (sOf t), .slice La (nL t) Lc, .slice (some ⟨kb, ko, none⟩) (nK t) Kc] 26)) wx)
        case atStart => exact ⟨0, rfl, Nat.zero_le _, rfl, rfl, Hb.out⟩
        case round =>
          obtain ⟨j, rfl, hj, rfl, hdj, hbx⟩ := hrel
          obtain ⟨x0, x1, x2, x3, x4, hzx, hbxw⟩ := box_facts hbx
          have Hbx := hid hbx
          clear hbx
          by_cases hjl : j < k
          · obtain ⟨kb1, ko1, e1, hkb1, hks1, hkc1⟩ := hk.out.keep hbxw k hlt
            obtain ⟨kb2, ko2, e2, hkb2, hks2, hkc2⟩ := hk.out.keep hbxw j (by omega)
            cases e1
            cases e2
            have b1 : (j : Int) < (nK t : Int) := by omega
            have b2 : (k : Int) < (nK t : Int) := by omega
            go_wp2_with fail
            go_quiet (fail)
            go_wp2_with fail
            · rename_i hq
              go_ret
              refine ⟨ret_bool ?_, ?_⟩
              · show true = (dupTo t (nK t) || anyL (twiceT f) t (nL t))
                rw [dup_found hlt hjl hq]
                rfl
              · exact below_drewN hbxw _
            · rename_i hq
              go_roundg (k - (j + 1))
              case rel =>
                refine ⟨j + 1, rfl, by omega, by go_num, ?_, below_drewN Hbx.out _⟩
                show (dupIn t k j || ((nam t k).toList == (nam t j).toList)) = false
                rw [hdj.out]
                simpa using hq
              case measure => omega
          · go_wp2_with fail
            obtain rfl : j = k := by omega
            go_roundg (nK t - (j + 1))
            case rel =>
              refine ⟨j + 1, rfl, by omega, by go_num, ?_, Hbx.out⟩
              show (dupTo t j || dupIn t j j) = false
              rw [hd.out, hdj.out]
              rfl
            case measure => omega
      · go_wp2_with fail
        obtain rfl : k = nK t := by omega
        go_loopg [5, 6] (nL t) (fun g i z wx => ∃ k : Nat, g = nL t - k ∧ k ≤ nL t ∧ i = .int .i64 k ∧ Hid (anyL (twiceT f) t k = false) ∧ Below (w.heap.size + 1) (w.alloc (.cells #[.int .i64 (kindOf t), .int .i64 (nOf t), .string (sOf t), .slice La (nL t) Lc, .slice Ka (nK t) Kc] 26)) wx)
        case atStart => exact ⟨0, rfl, Nat.zero_le _, rfl, rfl, Hb.out⟩
        case round =>
          obtain ⟨k, rfl, hk2, rfl, hd2, hbx⟩ := hrel
          obtain ⟨x0, x1, x2, x3, x4, hzx, hbxw⟩ := box_facts hbx
          have Hbx := hid hbx
          clear hbx
          by_cases hlt2 : k < nL t
          · obtain ⟨b, o, c0, c1, c2, c3, c4, rfl, hbl, p0, p1, p2, p3, p4, Ha⟩ := hl.out.keep hbxw k hlt2
            go_wp2_with fail
            refine (ih _ _ _ Ha.out).mono ?_
            rintro e w2 ⟨rfl, hb2⟩
            have hb3 := hid (Hbx.out.trans (hb2.mono (by omega)))
            cases hv : twiceT f (elt t k) with
            | true =>
              go_wp2_with fail
              go_ret
              refine ⟨ret_bool ?_, ((Below.refl _ _).alloc (Nat.le_refl _) _).trans (hb3.out.mono (by omega))⟩
              show true = (dupTo t (nK t) || anyL (twiceT f) t (nL t))
              rw [anyL_at hlt2 hv, Bool.or_true]
            | false =>
              go_wp2_with fail
              go_roundg (nL t - (k + 1))
              case rel =>
                refine ⟨k + 1, rfl, by omega, by go_num, ?_, hb3.out⟩
                show (anyL (twiceT f) t k || twiceT f (elt t k)) = false
                rw [hd2.out, hv]
                rfl
              case measure => omega
          · go_wp2_with fail
            obtain rfl : k = nL t := by omega
            go_ret
            refine ⟨ret_bool ?_, hbxw⟩
            show false = (dupTo t (nK t) || anyL (twiceT f) t (nL t))
            rw [hd.out, hd2.out]
            rfl
end Go.Proofs.YtknakfpciccoaaaDoor
