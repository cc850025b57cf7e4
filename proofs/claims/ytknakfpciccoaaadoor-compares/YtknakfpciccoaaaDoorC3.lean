/- The walks of cells, vast and room. -/
import Derived.Test.YtknakfpciccoaaaDoorC1
namespace Go.Proofs.YtknakfpciccoaaaDoor
open Go.RowKit

set_option maxHeartbeats 400000 in
theorem cells_any (m : Nat) : ∀ (f : Nat) (v : Value) (t : T) (l : Int) (w : World), At w f v t → m ≤ 100 → 0 ≤ l → l ≤ 1048576 →
    Calls Tryd.prog 37 #[v, .int .i64 l, .int .i64 m] w fun e w' => e = .returned (.int .i64 (cellsT m t l)) ∧ Below w.heap.size w w' ∧ -17592186044416 ≤ cellsT m t l ∧ cellsT m t l ≤ 1048576 := by
  induction m with
  | zero =>
    intro f v t l w h _ hl0 hl1
    obtain ⟨f, La, Ka, Lc, Kc, rfl, rfl, hf, hl, hk⟩ := h.open
    have hlen := hf.l1
    have klen := hf.m1
    clear h hf hl hk
    go_enter Tryd.func37, Tryd.ntmps37
    go_wp2_with fail
    go_loopg [1, 7] 1 (fun g x i wr => x = .int .i64 (l - nL t - nK t) ∧ i = .int .i64 0 ∧ wr = (w.alloc (.cells #[.int .i64 (kindOf t), .int .i64 (nOf t), .string (sOf t), .slice La (nL t) Lc, .slice Ka (nK t) Kc] 26)))
    case atStart => exact ⟨rfl, rfl, rfl⟩
    case round =>
      obtain ⟨rfl, rfl, rfl⟩ := hrel
      by_cases h1 : 0 < nL t
      · by_cases h2 : 0 ≤ l - nL t - nK t
        · go_wp2_with fail
          go_ret
          exact ⟨rfl, (Below.refl _ _).alloc (Nat.le_refl _) _, by simp only [cellsT]; omega, by simp only [cellsT]; omega⟩
        · go_wp2_with fail
          go_ret
          exact ⟨rfl, (Below.refl _ _).alloc (Nat.le_refl _) _, by simp only [cellsT]; omega, by simp only [cellsT]; omega⟩
      · go_wp2_with fail
        go_ret
        exact ⟨rfl, (Below.refl _ _).alloc (Nat.le_refl _) _, by simp only [cellsT]; omega, by simp only [cellsT]; omega⟩
  | succ m ih =>
    intro f v t l w h hm hl0 hl1
    obtain ⟨f, La, Ka, Lc, Kc, rfl, rfl, hf, hl, hk⟩ := h.open
    have hlen := hf.l1
    have klen := hf.m1
    clear h hf hk
    have hm1 : (0 : Int) < (m : Int) + 1 := by omega
    have em : ((m : Int) + 1 - 1) = (m : Int) := by omega
    have H0 : Hid (cellsT (m + 1) t l = cellsL (cellsT m) t (nL t) (l - nL t - nK t)) := rfl
    go_enter Tryd.func37, Tryd.ntmps37
    go_wp2_with fail
    go_loopg [1, 7] (nL t) (fun g y i wr => ∃ (k : Nat) (x : Int), g = nL t - k ∧ k ≤ nL t ∧ y = .int .i64 x ∧ i = .int .i64 k ∧ Hid (cellsL (cellsT m) t k (l - nL t - nK t) = x) ∧ -17592186044416 ≤ x ∧ x ≤ 1048576 ∧ Below (w.heap.size + 1) (w.alloc (.cells #[.int .i64 (kindOf t), .int .i64 (nOf t), .string (sOf t), .slice La (nL t) Lc, .slice Ka (nK t) Kc] 26)) wr)
    case atStart => exact ⟨0, _, rfl, Nat.zero_le _, rfl, rfl, rfl, by omega, by omega, Below.refl _ _⟩
    case round =>
      obtain ⟨k, x, rfl, hk, rfl, rfl, HX, hx0, hx1, hb⟩ := hrel
      obtain ⟨q0, q1, q2, q3, q4, hz, hbw⟩ := box_facts hb
      have Hb := hid hb
      clear hb
      by_cases hlt : k < nL t
      · by_cases hge : 0 ≤ x
        · obtain ⟨b, o, c0, c1, c2, c3, c4, rfl, hbl, p0, p1, p2, p3, p4, Ha⟩ := hl.out.keep hbw k hlt
          go_wp2_with fail
          refine (ih _ _ _ _ _ Ha.out (by omega) hge hx1).mono ?_
          rintro e w2 ⟨rfl, hb2, y0, y1⟩
          have hb3 := hid (Hb.out.trans (hb2.mono (by omega)))
          go_wp2_with fail
          go_roundg (nL t - (k + 1))
          case rel =>
            refine ⟨k + 1, _, rfl, by omega, rfl, by go_num, ?_, y0, y1, hb3.out⟩
            show (if 0 ≤ cellsL (cellsT m) t k (l - nL t - nK t) then cellsT m (elt t k) (cellsL (cellsT m) t k (l - nL t - nK t)) else cellsL (cellsT m) t k (l - nL t - nK t)) = _
            rw [HX.out, if_pos hge]
          case measure => omega
        · go_wp2_with fail
          go_ret
          have e : cellsT (m + 1) t l = x := by rw [H0.out, cellsL_stop hk (by rw [HX.out]; omega), HX.out]
          exact ⟨ret_int e.symm, hbw, by rw [e]; exact hx0, by rw [e]; exact hx1⟩
      · go_wp2_with fail
        go_ret
        have e : cellsT (m + 1) t l = x := by rw [H0.out, ← HX.out]; congr 1; omega
        exact ⟨ret_int e.symm, hbw, by rw [e]; exact hx0, by rw [e]; exact hx1⟩

def vastT (t : T) : Bool := decide (cellsT 16 t 1048576 < 0)
set_option maxHeartbeats 400000 in
theorem vast_any (f : Nat) (v : Value) (t : T) (w : World) (h : At w f v t) :
    Calls Tryd.prog 16 #[v] w fun e w' => e = .returned (.bool (vastT t)) ∧ Below w.heap.size w w' := by
  obtain ⟨f, La, Ka, Lc, Kc, rfl, rfl, hf, hl, hk⟩ := h.open
  have H := hid h
  clear h
  go_enter Tryd.func16, Tryd.ntmps16
  go_wp2_with fail
  have hb : Below w.heap.size w (w.alloc (.cells #[.int .i64 (kindOf t), .int .i64 (nOf t), .string (sOf t), .slice La (nL t) Lc, .slice Ka (nK t) Kc] 26)) := (Below.refl _ _).alloc (Nat.le_refl _) _
  refine (cells_any 16 _ _ _ _ _ (H.out.keep hb) (by omega) (by omega) (by omega)).mono ?_
  rintro e w2 ⟨rfl, hb2, y0, y1⟩
  have hb3 := hid (hb.trans (hb2.mono (by simp)))
  generalize hv : cellsT 16 t 1048576 = X at y0 y1 ⊢
  have Hv := hid hv
  clear hv
  go_wp2_with fail
  go_ret
  exact ⟨ret_bool (by unfold vastT; rw [Hv.out]), hb3.out⟩

set_option maxHeartbeats 400000 in
theorem room_any (m : Nat) : ∀ (f : Nat) (v : Value) (t : T) (l : Int) (w : World), At w f v t → m ≤ 100 → -140737488355330 ≤ l → l ≤ 1048576 →
    Calls Tryd.prog 60 #[v, .int .i64 l, .int .i64 ((m : Int) - 1)] w fun e w' => e = .returned (.int .i64 (roomT m t l)) ∧ Below w.heap.size w w' ∧ -281474976710700 ≤ roomT m t l ∧ roomT m t l ≤ 1048576 := by
  induction m with
  | zero =>
    intro f v t l w h _ hl0 hl1
    obtain ⟨f, La, Ka, Lc, Kc, rfl, rfl, hf, hl, hk⟩ := h.open
    clear h hf hl hk
    go_enter Tryd.func60, Tryd.ntmps60
    go_wp2_with fail
    go_ret
    exact ⟨rfl, (Below.refl _ _).alloc (Nat.le_refl _) _, by simp [roomT], by simp [roomT]⟩
  | succ m ih =>
    intro f v t l w h hm hl0 hl1
    obtain ⟨f, La, Ka, Lc, Kc, rfl, rfl, hf, hl, hk⟩ := h.open
    have hlen := hf.l1
    have klen := hf.m1
    have slen := hf.s1
    clear h hf
    have em : (((m + 1 : Nat) : Int) - 1) = (m : Int) := by omega
    rw [em]
    have e0 : ¬ ((m : Int) < 0) := by omega
    by_cases k2 : kindOf t = 2
    · have g2 : (kindOf t == 2) = true := by simp [k2]
      have H0 : Hid (roomT (m + 1) t l = l - 2) := by show roomT (m + 1) t l = _; simp only [roomT, k2, if_true]
      clear k2
      go_enter Tryd.func60, Tryd.ntmps60
      go_wp2_with fail
      go_ret
      refine ⟨ret_int (by rw [H0.out]; omega), (Below.refl _ _).alloc (Nat.le_refl _) _, by rw [H0.out]; omega, by rw [H0.out]; omega⟩
    by_cases k3 : kindOf t = 3
    · have g2 : (kindOf t == 2) = false := by simp [k3]
      have g3 : (kindOf t == 3) = true := by simp [k3]
      have H0 : Hid (roomT (m + 1) t l = l - 9) := by show roomT (m + 1) t l = _; simp [roomT, k3]
      clear k2 k3
      go_enter Tryd.func60, Tryd.ntmps60
      go_wp2_with fail
      go_ret
      refine ⟨ret_int (by rw [H0.out]; omega), (Below.refl _ _).alloc (Nat.le_refl _) _, by rw [H0.out]; omega, by rw [H0.out]; omega⟩
    by_cases k4 : kindOf t = 4
    · have g2 : (kindOf t == 2) = false := by simp [k4]
      have g3 : (kindOf t == 3) = false := by simp [k4]
      have g4 : (kindOf t == 4) = true := by simp [k4]
      have H0 : Hid (roomT (m + 1) t l = l - 5 - (sOf t).size) := by show roomT (m + 1) t l = _; simp [roomT, k4]
      clear k2 k3 k4
      go_enter Tryd.func60, Tryd.ntmps60
      go_wp2_with fail
      go_ret
      refine ⟨ret_int (by rw [H0.out]; omega), (Below.refl _ _).alloc (Nat.le_refl _) _, by rw [H0.out]; omega, by rw [H0.out]; omega⟩
    by_cases k5 : isBox t = true
    · have g2 : (kindOf t == 2) = false := by simp [k2]
      have g3 : (kindOf t == 3) = false := by simp [k3]
      have g4 : (kindOf t == 4) = false := by simp [k4]
      have H0 : Hid (roomT (m + 1) t l = roomL (roomT m) t (nL t) (l - 5)) := by show roomT (m + 1) t l = _; simp [roomT, k2, k3, k4, k5]
      have K6 : Hid (kindOf t = 6 ↔ (kindOf t == 6) = true) := by simp [Hid]
      have g5 : (kindOf t == 5) = true ∧ (kindOf t == 6) = false ∨ (kindOf t == 5) = false ∧ (kindOf t == 6) = true := by
        simp only [isBox, Bool.or_eq_true, beq_iff_eq] at k5
        rcases k5 with h5 | h5 <;> simp [h5]
      clear k2 k3 k4 k5
      rcases g5 with ⟨g5, g6⟩ | ⟨g5, g6⟩
      all_goals
        go_enter Tryd.func60, Tryd.ntmps60
        go_wp2_with fail
        go_loopg [1, 7] (nL t) (fun g y i wr => ∃ (k : Nat) (x : Int), g = nL t - k ∧ k ≤ nL t ∧ y = .int .i64 x ∧ i = .int .i64 k ∧ Hid (roomL (roomT m) t k (l - 5) = x) ∧ -281474976710700 ≤ x ∧ x ≤ 1048576 ∧ Below (w.heap.size + 1) (w.alloc (.cells #[.int .i64 (kindOf t), .int .i64 (nOf t), .string (sOf t), .slice La (nL t) Lc, .slice Ka (nK t) Kc] 26)) wr)
        case atStart => exact ⟨0, l - 5, rfl, Nat.zero_le _, by go_num, rfl, rfl, by omega, by omega, Below.refl _ _⟩
        case round =>
          obtain ⟨k, x, rfl, hk1, rfl, rfl, HX, hx0, hx1, hb⟩ := hrel
          obtain ⟨q0, q1, q2, q3, q4, hz, hbw⟩ := box_facts hb
          have Hb := hid hb
          clear hb
          by_cases hlt : k < nL t
          · by_cases hge : 0 ≤ x
            · obtain ⟨b, o, c0, c1, c2, c3, c4, rfl, hbl, p0, p1, p2, p3, p4, Ha⟩ := hl.out.keep hbw k hlt
              have fin : ∀ (y : Int), Hid (x - nameCost t k = y) → Hid (roomL (roomT m) t (k + 1) (l - 5) = roomT m (elt t k) y) := by
                intro y hy
                show (if 0 ≤ roomL (roomT m) t k (l - 5) then roomT m (elt t k) (roomL (roomT m) t k (l - 5) - nameCost t k) else roomL (roomT m) t k (l - 5)) = _
                rw [HX.out, if_pos hge, hy.out]
              by_cases hkk : k < nK t
              · obtain ⟨kb, ko, rfl, hkb, hks, hkc⟩ := hk.out.keep hbw k hkk
                go_wp2_with fail
                refine (ih _ _ _ _ _ Ha.out (by omega) (by omega) (by omega)).mono ?_
                rintro e w2 ⟨rfl, hb2, y0, y1⟩
                have hb3 := hid (Hb.out.trans (hb2.mono (by omega)))
                go_wp2_with fail
                go_roundg (nL t - (k + 1))
                case rel =>
                  refine ⟨k + 1, _, rfl, by omega, rfl, by go_num, fin _ ?_, y0, y1, hb3.out⟩
                  show x - nameCost t k = _
                  unfold nameCost
                  first
                    | (rw [if_neg (fun h => by have := K6.out.1 h.1; rw [g6] at this; cases this)]; omega)
                    | (rw [if_pos ⟨K6.out.2 g6, hkk⟩]; omega)
                case measure => omega
              · go_wp2_with fail
                refine (ih _ _ _ _ _ Ha.out (by omega) (by omega) (by omega)).mono ?_
                rintro e w2 ⟨rfl, hb2, y0, y1⟩
                have hb3 := hid (Hb.out.trans (hb2.mono (by omega)))
                go_wp2_with fail
                go_roundg (nL t - (k + 1))
                case rel =>
                  refine ⟨k + 1, _, rfl, by omega, rfl, by go_num, fin _ ?_, y0, y1, hb3.out⟩
                  show x - nameCost t k = _
                  unfold nameCost
                  rw [if_neg (fun h => hkk h.2)]
                  omega
                case measure => omega
            · go_wp2_with fail
              go_ret
              have e : roomT (m + 1) t l = x := by rw [H0.out, roomL_stop hk1 (by rw [HX.out]; omega), HX.out]
              exact ⟨ret_int e.symm, hbw, by rw [e]; exact hx0, by rw [e]; exact hx1⟩
          · go_wp2_with fail
            go_ret
            have e : roomT (m + 1) t l = x := by rw [H0.out, ← HX.out]; congr 1; omega
            exact ⟨ret_int e.symm, hbw, by rw [e]; exact hx0, by rw [e]; exact hx1⟩
    · have g2 : (kindOf t == 2) = false := by simp [k2]
      have g3 : (kindOf t == 3) = false := by simp [k3]
      have g4 : (kindOf t == 4) = false := by simp [k4]
      have H0 : Hid (roomT (m + 1) t l = l - 1) := by show roomT (m + 1) t l = _; simp [roomT, k2, k3, k4, k5]
      have g5 : (kindOf t == 5) = false ∧ (kindOf t == 6) = false := by simp [isBox] at k5; simp; exact k5
      obtain ⟨g5, g6⟩ := g5
      clear k2 k3 k4 k5
      go_enter Tryd.func60, Tryd.ntmps60
      go_wp2_with fail
      go_ret
      refine ⟨ret_int (by rw [H0.out]), (Below.refl _ _).alloc (Nat.le_refl _) _, by rw [H0.out]; omega, by rw [H0.out]; omega⟩
end Go.Proofs.YtknakfpciccoaaaDoor
