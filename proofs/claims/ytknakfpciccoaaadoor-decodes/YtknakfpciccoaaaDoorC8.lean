/- The walk of the checker's value, kind by kind. -/
import Derived.Test.YtknakfpciccoaaaDoorC7
namespace Go.Proofs.YtknakfpciccoaaaDoor
open Go.RowKit

theorem noText_iff (t : T) : ((sOf t).toList.isEmpty = true) = (noText t = true) := rfl

set_option maxHeartbeats 1000000 in
theorem chk_k1 {Tb : World → Prop} (c : Nat) (hS : Stays Tb c) (w0 : World) (hN : w0.heap.size ≤ c) (m : Nat)  (f : Nat) (v : Value) (t : T) (l : Int) (w : World)
    (h : At w0 f v t) (hb0 : Below w0.heap.size w0 w) (hH : Holds c l w) (hT : Tb w) (l0 : 0 ≤ l) (l1 : l ≤ 1048576) (hk0 : kindOf t = 1) :
    Calls Tryd.prog 62 #[.pointer (some ⟨c, 0, none⟩), v, .int .i64 (12 - (m : Int))] w fun e w' => ChkPost c w (chkT m t l) e w' := by
  obtain ⟨f, La, Ka, Lc, Kc, rfl, rfl, hf, hl, hk⟩ := h.open
  have HB1 : Hid (Below w.heap.size w (w.alloc (.cells #[.int .i64 (kindOf t), .int .i64 (nOf t), .string (sOf t), .slice La (nL t) Lc, .slice Ka (nK t) Kc] 26))) := (Below.refl _ _).alloc (Nat.le_refl _) _
  have HK1 := hid (hH.keep HB1.out)
  have HT1 := hid (hS _ _ hT (HB1.out.mono (Nat.le_of_lt hH.lt)))
  have Hb1 := hid (hb0.trans (HB1.out.mono (Nat.le_trans hN (Nat.le_of_lt hH.lt))))
  have HA := hid (h.keep Hb1.out)
  clear h hb0 hH hT hf hl hk
  have HR0 : Hid (chkT m t l = if nOf t = 0 ∧ noText t = true ∧ noLists t = true then takeO 1 l else none) := by
    show chkT m t l = _
    cases m <;> simp [chkT, leafO, hk0]
  have g1 : (kindOf t == 1) = true := by rw [hk0]; rfl
  clear hk0
  by_cases n0 : nOf t = 0
  · have en : (nOf t == 0) = true := by rw [n0]; rfl
    by_cases s0 : noText t = true
    · have es : (sOf t).toList.isEmpty = true := s0
      have N0 := hid n0
      have S0 := hid s0
      clear n0 s0
      go_enter Tryd.func62, Tryd.ntmps62
      go_wp2_with fail
      refine (hasNoLists_any _ _ _ _ HA.out).mono ?_
      rintro e w2 ⟨rfl, B2⟩
      have HB2 := hid B2
      clear B2
      cases hn : noLists t with
      | false =>
        have HR : Hid (chkT m t l = none) := by show chkT m t l = none; rw [HR0.out, if_neg (by rw [hn]; simp)]
        clear hn
        go_wp2_with fail
        go_ret
        exact ⟨(But.of HB1.out).trans (But.of HB2.out), l, HK1.out.keep HB2.out, Or.inr ⟨HR.out, rfl⟩⟩
      | true =>
        have HR : Hid (chkT m t l = takeO 1 l) := by show chkT m t l = _; rw [HR0.out, if_pos (⟨N0.out, S0.out, hn⟩)]
        clear hn
        go_wp2_with fail
        refine (take2_any c l 1 w2 (HK1.out.keep HB2.out) l0 l1 (by omega) (by omega)).mono ?_
        rintro e w3 ⟨rfl, K3, B3⟩
        have HK3 := hid K3
        have HB3 := hid B3
        clear K3 B3
        by_cases h9 : 1 ≤ l
        · have HR2 : Hid (takeO 1 l = some (l - 1)) := by show takeO 1 l = _; unfold takeO; rw [if_pos h9]
          go_wp2_with fail
          go_ret
          exact ⟨((But.of HB1.out).trans (But.of HB2.out)).trans HB3.out, l - 1, HK3.out, Or.inl ⟨HR.out.trans HR2.out, by omega, by omega, rfl⟩⟩
        · have HR2 : Hid (takeO 1 l = none) := by show takeO 1 l = _; unfold takeO; rw [if_neg h9]
          have hd : decide ((1 : Int) ≤ l) = false := decide_eq_false h9
          clear h9
          go_wp2_with fail
          go_ret
          exact ⟨((But.of HB1.out).trans (But.of HB2.out)).trans HB3.out, l - 1, HK3.out, Or.inr ⟨HR.out.trans HR2.out, rfl⟩⟩

    · have es : (sOf t).toList.isEmpty = false := by simpa [noText] using s0
      have HR : Hid (chkT m t l = none) := by show chkT m t l = none; rw [HR0.out, if_neg (by exact fun h => s0 h.2.1)]
      clear n0 s0
      go_enter Tryd.func62, Tryd.ntmps62
      go_wp2_with fail
      go_ret
      exact ⟨But.of HB1.out, l, HK1.out, Or.inr ⟨HR.out, rfl⟩⟩
  · have en : (nOf t == 0) = false := by simpa using n0
    have HR : Hid (chkT m t l = none) := by show chkT m t l = none; rw [HR0.out, if_neg (by exact fun h => n0 h.1)]
    clear n0
    go_enter Tryd.func62, Tryd.ntmps62
    go_wp2_with fail
    go_ret
    exact ⟨But.of HB1.out, l, HK1.out, Or.inr ⟨HR.out, rfl⟩⟩

set_option maxHeartbeats 1000000 in
theorem chk_k2 {Tb : World → Prop} (c : Nat) (hS : Stays Tb c) (w0 : World) (hN : w0.heap.size ≤ c) (m : Nat)  (f : Nat) (v : Value) (t : T) (l : Int) (w : World)
    (h : At w0 f v t) (hb0 : Below w0.heap.size w0 w) (hH : Holds c l w) (hT : Tb w) (l0 : 0 ≤ l) (l1 : l ≤ 1048576) (hk0 : kindOf t = 2) :
    Calls Tryd.prog 62 #[.pointer (some ⟨c, 0, none⟩), v, .int .i64 (12 - (m : Int))] w fun e w' => ChkPost c w (chkT m t l) e w' := by
  obtain ⟨f, La, Ka, Lc, Kc, rfl, rfl, hf, hl, hk⟩ := h.open
  have HB1 : Hid (Below w.heap.size w (w.alloc (.cells #[.int .i64 (kindOf t), .int .i64 (nOf t), .string (sOf t), .slice La (nL t) Lc, .slice Ka (nK t) Kc] 26))) := (Below.refl _ _).alloc (Nat.le_refl _) _
  have HK1 := hid (hH.keep HB1.out)
  have HT1 := hid (hS _ _ hT (HB1.out.mono (Nat.le_of_lt hH.lt)))
  have Hb1 := hid (hb0.trans (HB1.out.mono (Nat.le_trans hN (Nat.le_of_lt hH.lt))))
  have HA := hid (h.keep Hb1.out)
  clear h hb0 hH hT hf hl hk
  have HR0 : Hid (chkT m t l = if (nOf t = 0 ∨ nOf t = 1) ∧ noText t = true ∧ noLists t = true then takeO 2 l else none) := by
    show chkT m t l = _
    cases m <;> simp [chkT, leafO, hk0]
  have g1 : (kindOf t == 1) = false := by first | (rw [hk0]; rfl) | (simp; omega)
  have g2 : (kindOf t == 2) = true := by rw [hk0]; rfl
  clear hk0
  by_cases n0 : nOf t = 0 ∨ nOf t = 1
  · have en : (nOf t == 0) = true ∨ (nOf t == 0) = false ∧ (nOf t == 1) = true := by rcases n0 with h | h <;> simp [h]
    by_cases s0 : noText t = true
    · have es : (sOf t).toList.isEmpty = true := s0
      have N0 := hid n0
      have S0 := hid s0
      clear n0 s0
      rcases en with en | ⟨en, en1⟩
      all_goals
        go_enter Tryd.func62, Tryd.ntmps62
        go_wp2_with fail
        refine (hasNoLists_any _ _ _ _ HA.out).mono ?_
        rintro e w2 ⟨rfl, B2⟩
        have HB2 := hid B2
        clear B2
        cases hn : noLists t with
        | false =>
          have HR : Hid (chkT m t l = none) := by show chkT m t l = none; rw [HR0.out, if_neg (by rw [hn]; simp)]
          clear hn
          go_wp2_with fail
          go_ret
          exact ⟨(But.of HB1.out).trans (But.of HB2.out), l, HK1.out.keep HB2.out, Or.inr ⟨HR.out, rfl⟩⟩
        | true =>
          have HR : Hid (chkT m t l = takeO 2 l) := by show chkT m t l = _; rw [HR0.out, if_pos (⟨N0.out, S0.out, hn⟩)]
          clear hn
          go_wp2_with fail
          refine (take2_any c l 2 w2 (HK1.out.keep HB2.out) l0 l1 (by omega) (by omega)).mono ?_
          rintro e w3 ⟨rfl, K3, B3⟩
          have HK3 := hid K3
          have HB3 := hid B3
          clear K3 B3
          by_cases h9 : 2 ≤ l
          · have HR2 : Hid (takeO 2 l = some (l - 2)) := by show takeO 2 l = _; unfold takeO; rw [if_pos h9]
            go_wp2_with fail
            go_ret
            exact ⟨((But.of HB1.out).trans (But.of HB2.out)).trans HB3.out, l - 2, HK3.out, Or.inl ⟨HR.out.trans HR2.out, by omega, by omega, rfl⟩⟩
          · have HR2 : Hid (takeO 2 l = none) := by show takeO 2 l = _; unfold takeO; rw [if_neg h9]
            have hd : decide ((2 : Int) ≤ l) = false := decide_eq_false h9
            clear h9
            go_wp2_with fail
            go_ret
            exact ⟨((But.of HB1.out).trans (But.of HB2.out)).trans HB3.out, l - 2, HK3.out, Or.inr ⟨HR.out.trans HR2.out, rfl⟩⟩

    · have es : (sOf t).toList.isEmpty = false := by simpa [noText] using s0
      have HR : Hid (chkT m t l = none) := by show chkT m t l = none; rw [HR0.out, if_neg (by exact fun h => s0 h.2.1)]
      clear n0 s0
      rcases en with en | ⟨en, en1⟩
      all_goals
        go_enter Tryd.func62, Tryd.ntmps62
        go_wp2_with fail
        go_ret
        exact ⟨But.of HB1.out, l, HK1.out, Or.inr ⟨HR.out, rfl⟩⟩
  · have en : (nOf t == 0) = false := by simp; omega
    have en1 : (nOf t == 1) = false := by simp; omega
    have HR : Hid (chkT m t l = none) := by show chkT m t l = none; rw [HR0.out, if_neg (by exact fun h => n0 h.1)]
    clear n0
    go_enter Tryd.func62, Tryd.ntmps62
    go_wp2_with fail
    go_ret
    exact ⟨But.of HB1.out, l, HK1.out, Or.inr ⟨HR.out, rfl⟩⟩

set_option maxHeartbeats 1000000 in
theorem chk_k3 {Tb : World → Prop} (c : Nat) (hS : Stays Tb c) (w0 : World) (hN : w0.heap.size ≤ c) (m : Nat)  (f : Nat) (v : Value) (t : T) (l : Int) (w : World)
    (h : At w0 f v t) (hb0 : Below w0.heap.size w0 w) (hH : Holds c l w) (hT : Tb w) (l0 : 0 ≤ l) (l1 : l ≤ 1048576) (hk0 : kindOf t = 3) :
    Calls Tryd.prog 62 #[.pointer (some ⟨c, 0, none⟩), v, .int .i64 (12 - (m : Int))] w fun e w' => ChkPost c w (chkT m t l) e w' := by
  obtain ⟨f, La, Ka, Lc, Kc, rfl, rfl, hf, hl, hk⟩ := h.open
  have HB1 : Hid (Below w.heap.size w (w.alloc (.cells #[.int .i64 (kindOf t), .int .i64 (nOf t), .string (sOf t), .slice La (nL t) Lc, .slice Ka (nK t) Kc] 26))) := (Below.refl _ _).alloc (Nat.le_refl _) _
  have HK1 := hid (hH.keep HB1.out)
  have HT1 := hid (hS _ _ hT (HB1.out.mono (Nat.le_of_lt hH.lt)))
  have Hb1 := hid (hb0.trans (HB1.out.mono (Nat.le_trans hN (Nat.le_of_lt hH.lt))))
  have HA := hid (h.keep Hb1.out)
  clear h hb0 hH hT hf hl hk
  have HR0 : Hid (chkT m t l = if noText t = true ∧ noLists t = true then takeO 9 l else none) := by
    show chkT m t l = _
    cases m <;> simp [chkT, leafO, hk0]
  have g1 : (kindOf t == 1) = false := by first | (rw [hk0]; rfl) | (simp; omega)
  have g2 : (kindOf t == 2) = false := by first | (rw [hk0]; rfl) | (simp; omega)
  have g3 : (kindOf t == 3) = true := by rw [hk0]; rfl
  clear hk0
  by_cases s0 : noText t = true
  · have es : (sOf t).toList.isEmpty = true := s0
    have S0 := hid s0
    clear s0
    go_enter Tryd.func62, Tryd.ntmps62
    go_wp2_with fail
    refine (hasNoLists_any _ _ _ _ HA.out).mono ?_
    rintro e w2 ⟨rfl, B2⟩
    have HB2 := hid B2
    clear B2
    cases hn : noLists t with
    | false =>
      have HR : Hid (chkT m t l = none) := by show chkT m t l = none; rw [HR0.out, if_neg (by rw [hn]; simp)]
      clear hn
      go_wp2_with fail
      go_ret
      exact ⟨(But.of HB1.out).trans (But.of HB2.out), l, HK1.out.keep HB2.out, Or.inr ⟨HR.out, rfl⟩⟩
    | true =>
      have HR : Hid (chkT m t l = takeO 9 l) := by show chkT m t l = _; rw [HR0.out, if_pos (⟨S0.out, hn⟩)]
      clear hn
      go_wp2_with fail
      refine (take2_any c l 9 w2 (HK1.out.keep HB2.out) l0 l1 (by omega) (by omega)).mono ?_
      rintro e w3 ⟨rfl, K3, B3⟩
      have HK3 := hid K3
      have HB3 := hid B3
      clear K3 B3
      by_cases h9 : 9 ≤ l
      · have HR2 : Hid (takeO 9 l = some (l - 9)) := by show takeO 9 l = _; unfold takeO; rw [if_pos h9]
        go_wp2_with fail
        go_ret
        exact ⟨((But.of HB1.out).trans (But.of HB2.out)).trans HB3.out, l - 9, HK3.out, Or.inl ⟨HR.out.trans HR2.out, by omega, by omega, rfl⟩⟩
      · have HR2 : Hid (takeO 9 l = none) := by show takeO 9 l = _; unfold takeO; rw [if_neg h9]
        have hd : decide ((9 : Int) ≤ l) = false := decide_eq_false h9
        clear h9
        go_wp2_with fail
        go_ret
        exact ⟨((But.of HB1.out).trans (But.of HB2.out)).trans HB3.out, l - 9, HK3.out, Or.inr ⟨HR.out.trans HR2.out, rfl⟩⟩

  · have es : (sOf t).toList.isEmpty = false := by simpa [noText] using s0
    have HR : Hid (chkT m t l = none) := by show chkT m t l = none; rw [HR0.out, if_neg (by exact fun h => s0 h.1)]
    clear s0
    go_enter Tryd.func62, Tryd.ntmps62
    go_wp2_with fail
    go_ret
    exact ⟨But.of HB1.out, l, HK1.out, Or.inr ⟨HR.out, rfl⟩⟩

set_option maxHeartbeats 1000000 in
theorem chk_other {Tb : World → Prop} (c : Nat) (hS : Stays Tb c) (w0 : World) (hN : w0.heap.size ≤ c) (m : Nat)  (f : Nat) (v : Value) (t : T) (l : Int) (w : World)
    (h : At w0 f v t) (hb0 : Below w0.heap.size w0 w) (hH : Holds c l w) (hT : Tb w) (_l0 : 0 ≤ l) (_l1 : l ≤ 1048576) (hk0 : kindOf t ≠ 1 ∧ kindOf t ≠ 2 ∧ kindOf t ≠ 3 ∧ kindOf t ≠ 4 ∧ kindOf t ≠ 5 ∧ kindOf t ≠ 6) :
    Calls Tryd.prog 62 #[.pointer (some ⟨c, 0, none⟩), v, .int .i64 (12 - (m : Int))] w fun e w' => ChkPost c w (chkT m t l) e w' := by
  obtain ⟨f, La, Ka, Lc, Kc, rfl, rfl, hf, hl, hk⟩ := h.open
  have HB1 : Hid (Below w.heap.size w (w.alloc (.cells #[.int .i64 (kindOf t), .int .i64 (nOf t), .string (sOf t), .slice La (nL t) Lc, .slice Ka (nK t) Kc] 26))) := (Below.refl _ _).alloc (Nat.le_refl _) _
  have HK1 := hid (hH.keep HB1.out)
  have HT1 := hid (hS _ _ hT (HB1.out.mono (Nat.le_of_lt hH.lt)))
  have Hb1 := hid (hb0.trans (HB1.out.mono (Nat.le_trans hN (Nat.le_of_lt hH.lt))))
  have HA := hid (h.keep Hb1.out)
  clear h hb0 hH hT hf hl hk
  obtain ⟨h1, h2, h3, h4, h5, h6⟩ := hk0
  have HR : Hid (chkT m t l = none) := by
    show chkT m t l = _
    cases m <;> simp [chkT, leafO, h1, h2, h3, h4, h5, h6]
  have g1 : (kindOf t == 1) = false := by simp; omega
  have g2 : (kindOf t == 2) = false := by simp; omega
  have g3 : (kindOf t == 3) = false := by simp; omega
  have g4 : (kindOf t == 4) = false := by simp; omega
  have g5 : (kindOf t == 5) = false := by simp; omega
  have g6 : (kindOf t == 6) = false := by simp; omega
  clear h1 h2 h3 h4 h5 h6
  go_enter Tryd.func62, Tryd.ntmps62
  go_wp2_with fail
  go_ret
  exact ⟨But.of HB1.out, l, HK1.out, Or.inr ⟨HR.out, rfl⟩⟩
end Go.Proofs.YtknakfpciccoaaaDoor
