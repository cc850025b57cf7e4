import Derived.Test.YtknakfpciccoaabGreatDoorZS2
/- The walk of the checker's value, kind by kind. -/
namespace Go.Proofs.YtknakfpciccoaabGreatDoor
open Go.RowKit

set_option maxHeartbeats 1000000 in
theorem chk_k1 {Tb : World → Prop} (c : Nat) (hS : Stays Tb c) (w0 : World) (hN : w0.heap.size ≤ c) (m : Nat)  (f : Nat) (v : Value) (t : T) (l : Int) (w : World)
    (h : At w0 f v t) (hb0 : Below w0.heap.size w0 w) (hH : Holds c l w) (hT : Tb w) (l0 : 0 ≤ l) (l1 : l ≤ 1048576) (hk0 : kindOf t = 1) :
    Calls Tryz.prog 47 #[.pointer (some ⟨c, 0, none⟩), v, .int .i64 (12 - (m : Int))] w fun e w' => ChkPost c w (chkT m t l) e w' := by
  obtain ⟨f, La, Ka, Lc, Kc, rfl, rfl, hf, hl, hk⟩ := h.open
  have HB1 : Hid (Below w.heap.size w (w.alloc (.cells #[.int .i64 (kindOf t), .int .i64 (nOf t), .string (sOf t), .slice La (nL t) Lc, .slice Ka (nK t) Kc] 36))) := (Below.refl _ _).alloc (Nat.le_refl _) _
  have HK1 := hid (hH.keep HB1.out)
  have HT1 := hid (hS _ _ hT (HB1.out.mono (Nat.le_of_lt hH.lt)))
  have Hb1 := hid (hb0.trans (HB1.out.mono (Nat.le_trans hN (Nat.le_of_lt hH.lt))))
  have HA := hid (h.keep Hb1.out)
  clear h hb0 hH hT hf hl hk
  have HR0 : Hid (chkT m t l = if nOf t = 0 ∧ noText t = true ∧ noLists t = true then takeO 1 l else none) := by
    show chkT m t l = _
    cases m <;> simp [chkT, leafO, hk0]
  have g1 : (kindOf t == 1) = true := by rw [hk0]; rfl
  clear hk0
  by_cases n0 : nOf t = 0
  · have en : (nOf t == 0) = true := by rw [n0]; rfl
    by_cases s0 : noText t = true
    · have es : (sOf t).toList.isEmpty = true := s0
      have N0 := hid n0
      have S0 := hid s0
      clear n0 s0
      go_enter Tryz.func47, Tryz.ntmps47
      go_wp2_with fail
      refine (hasNoLists_any _ _ _ _ HA.out).mono ?_
      rintro e w2 ⟨rfl, B2⟩
      have HB2 := hid B2
      clear B2
      cases hn : noLists t with
      | false =>
        have HR : Hid (chkT m t l = none) := by show chkT m t l = none; rw [HR0.out, if_neg (by rw [hn]; simp)]
        clear hn
        go_wp2_with fail
        go_ret
        exact ⟨(But.of HB1.out).trans (But.of HB2.out), l, HK1.out.keep HB2.out, Or.inr ⟨HR.out, rfl⟩⟩
      | true =>
        have HR : Hid (chkT m t l = takeO 1 l) := by show chkT m t l = _; rw [HR0.out, if_pos (⟨N0.out, S0.out, hn⟩)]
        clear hn
        go_wp2_with fail
        refine (take2_any c l 1 w2 (HK1.out.keep HB2.out) l0 l1 (by omega) (by omega)).mono ?_
        rintro e w3 ⟨rfl, K3, B3⟩
        have HK3 := hid K3
        have HB3 := hid B3
        clear K3 B3
        by_cases h9 : 1 ≤ l
        · have HR2 : Hid (takeO 1 l = some (l - 1)) := by show takeO 1 l = _; unfold takeO; rw [if_pos h9]
          go_wp2_with fail
          go_ret
          exact ⟨((But.of HB1.out).trans (But.of HB2.out)).trans HB3.out, l - 1, HK3.out, Or.inl ⟨HR.out.trans HR2.out, by omega, by omega, rfl⟩⟩
        · have HR2 : Hid (takeO 1 l = none) := by show takeO 1 l = _; unfold takeO; rw [if_neg h9]
          have hd : decide ((1 : Int) ≤ l) = false := decide_eq_false h9
          clear h9
          go_wp2_with fail
          go_ret
          exact ⟨((But.of HB1.out).trans (But.of HB2.out)).trans HB3.out, l - 1, HK3.out, Or.inr ⟨HR.out.trans HR2.out, rfl⟩⟩

    · have es : (sOf t).toList.isEmpty = false := by simpa [noText] using s0
      have HR : Hid (chkT m t l = none) := by show chkT m t l = none; rw [HR0.out, if_neg (by exact fun h => s0 h.2.1)]
      clear n0 s0
      go_enter Tryz.func47, Tryz.ntmps47
      go_wp2_with fail
      go_ret
      exact ⟨But.of HB1.out, l, HK1.out, Or.inr ⟨HR.out, rfl⟩⟩
  · have en : (nOf t == 0) = false := by simpa using n0
    have HR : Hid (chkT m t l = none) := by show chkT m t l = none; rw [HR0.out, if_neg (by exact fun h => n0 h.1)]
    clear n0
    go_enter Tryz.func47, Tryz.ntmps47
    go_wp2_with fail
    go_ret
    exact ⟨But.of HB1.out, l, HK1.out, Or.inr ⟨HR.out, rfl⟩⟩

set_option maxHeartbeats 1000000 in
theorem chk_k2 {Tb : World → Prop} (c : Nat) (hS : Stays Tb c) (w0 : World) (hN : w0.heap.size ≤ c) (m : Nat)  (f : Nat) (v : Value) (t : T) (l : Int) (w : World)
    (h : At w0 f v t) (hb0 : Below w0.heap.size w0 w) (hH : Holds c l w) (hT : Tb w) (l0 : 0 ≤ l) (l1 : l ≤ 1048576) (hk0 : kindOf t = 2) :
    Calls Tryz.prog 47 #[.pointer (some ⟨c, 0, none⟩), v, .int .i64 (12 - (m : Int))] w fun e w' => ChkPost c w (chkT m t l) e w' := by
  obtain ⟨f, La, Ka, Lc, Kc, rfl, rfl, hf, hl, hk⟩ := h.open
  have HB1 : Hid (Below w.heap.size w (w.alloc (.cells #[.int .i64 (kindOf t), .int .i64 (nOf t), .string (sOf t), .slice La (nL t) Lc, .slice Ka (nK t) Kc] 36))) := (Below.refl _ _).alloc (Nat.le_refl _) _
  have HK1 := hid (hH.keep HB1.out)
  have HT1 := hid (hS _ _ hT (HB1.out.mono (Nat.le_of_lt hH.lt)))
  have Hb1 := hid (hb0.trans (HB1.out.mono (Nat.le_trans hN (Nat.le_of_lt hH.lt))))
  have HA := hid (h.keep Hb1.out)
  clear h hb0 hH hT hf hl hk
  have HR0 : Hid (chkT m t l = if (nOf t = 0 ∨ nOf t = 1) ∧ noText t = true ∧ noLists t = true then takeO 2 l else none) := by
    show chkT m t l = _
    cases m <;> simp [chkT, leafO, hk0]
  have g1 : (kindOf t == 1) = false := by first | (rw [hk0]; rfl) | (simp; omega)
  have g2 : (kindOf t == 2) = true := by rw [hk0]; rfl
  clear hk0
  by_cases n0 : nOf t = 0 ∨ nOf t = 1
  · have en : (nOf t == 0) = true ∨ (nOf t == 0) = false ∧ (nOf t == 1) = true := by rcases n0 with h | h <;> simp [h]
    by_cases s0 : noText t = true
    · have es : (sOf t).toList.isEmpty = true := s0
      have N0 := hid n0
      have S0 := hid s0
      clear n0 s0
      rcases en with en | ⟨en, en1⟩
      all_goals
        go_enter Tryz.func47, Tryz.ntmps47
        go_wp2_with fail
        refine (hasNoLists_any _ _ _ _ HA.out).mono ?_
        rintro e w2 ⟨rfl, B2⟩
        have HB2 := hid B2
        clear B2
        cases hn : noLists t with
        | false =>
          have HR : Hid (chkT m t l = none) := by show chkT m t l = none; rw [HR0.out, if_neg (by rw [hn]; simp)]
          clear hn
          go_wp2_with fail
          go_ret
          exact ⟨(But.of HB1.out).trans (But.of HB2.out), l, HK1.out.keep HB2.out, Or.inr ⟨HR.out, rfl⟩⟩
        | true =>
          have HR : Hid (chkT m t l = takeO 2 l) := by show chkT m t l = _; rw [HR0.out, if_pos (⟨N0.out, S0.out, hn⟩)]
          clear hn
          go_wp2_with fail
          refine (take2_any c l 2 w2 (HK1.out.keep HB2.out) l0 l1 (by omega) (by omega)).mono ?_
          rintro e w3 ⟨rfl, K3, B3⟩
          have HK3 := hid K3
          have HB3 := hid B3
          clear K3 B3
          by_cases h9 : 2 ≤ l
          · have HR2 : Hid (takeO 2 l = some (l - 2)) := by show takeO 2 l = _; unfold takeO; rw [if_pos h9]
            go_wp2_with fail
            go_ret
            exact ⟨((But.of HB1.out).trans (But.of HB2.out)).trans HB3.out, l - 2, HK3.out, Or.inl ⟨HR.out.trans HR2.out, by omega, by omega, rfl⟩⟩
          · have HR2 : Hid (takeO 2 l = none) := by show takeO 2 l = _; unfold takeO; rw [if_neg h9]
            have hd : decide ((2 : Int) ≤ l) = false := decide_eq_false h9
            clear h9
            go_wp2_with fail
            go_ret
            exact ⟨((But.of HB1.out).trans (But.of HB2.out)).trans HB3.out, l - 2, HK3.out, Or.inr ⟨HR.out.trans HR2.out, rfl⟩⟩

    · have es : (sOf t).toList.isEmpty = false := by simpa [noText] using s0
      have HR : Hid (chkT m t l = none) := by show chkT m t l = none; rw [HR0.out, if_neg (by exact fun h => s0 h.2.1)]
      clear n0 s0
      rcases en with en | ⟨en, en1⟩
      all_goals
        go_enter Tryz.func47, Tryz.ntmps47
        go_wp2_with fail
        go_ret
        exact ⟨But.of HB1.out, l, HK1.out, Or.inr ⟨HR.out, rfl⟩⟩
  · have en : (nOf t == 0) = false := by simp; omega
    have en1 : (nOf t == 1) = false := by simp; omega
    have HR : Hid (chkT m t l = none) := by show chkT m t l = none; rw [HR0.out, if_neg (by exact fun h => n0 h.1)]
    clear n0
    go_enter Tryz.func47, Tryz.ntmps47
    go_wp2_with fail
    go_ret
    exact ⟨But.of HB1.out, l, HK1.out, Or.inr ⟨HR.out, rfl⟩⟩

set_option maxHeartbeats 1000000 in
theorem chk_k3 {Tb : World → Prop} (c : Nat) (hS : Stays Tb c) (w0 : World) (hN : w0.heap.size ≤ c) (m : Nat)  (f : Nat) (v : Value) (t : T) (l : Int) (w : World)
    (h : At w0 f v t) (hb0 : Below w0.heap.size w0 w) (hH : Holds c l w) (hT : Tb w) (l0 : 0 ≤ l) (l1 : l ≤ 1048576) (hk0 : kindOf t = 3) :
    Calls Tryz.prog 47 #[.pointer (some ⟨c, 0, none⟩), v, .int .i64 (12 - (m : Int))] w fun e w' => ChkPost c w (chkT m t l) e w' := by
  obtain ⟨f, La, Ka, Lc, Kc, rfl, rfl, hf, hl, hk⟩ := h.open
  have HB1 : Hid (Below w.heap.size w (w.alloc (.cells #[.int .i64 (kindOf t), .int .i64 (nOf t), .string (sOf t), .slice La (nL t) Lc, .slice Ka (nK t) Kc] 36))) := (Below.refl _ _).alloc (Nat.le_refl _) _
  have HK1 := hid (hH.keep HB1.out)
  have HT1 := hid (hS _ _ hT (HB1.out.mono (Nat.le_of_lt hH.lt)))
  have Hb1 := hid (hb0.trans (HB1.out.mono (Nat.le_trans hN (Nat.le_of_lt hH.lt))))
  have HA := hid (h.keep Hb1.out)
  clear h hb0 hH hT hf hl hk
  have HR0 : Hid (chkT m t l = if noText t = true ∧ noLists t = true then takeO 9 l else none) := by
    show chkT m t l = _
    cases m <;> simp [chkT, leafO, hk0]
  have g1 : (kindOf t == 1) = false := by first | (rw [hk0]; rfl) | (simp; omega)
  have g2 : (kindOf t == 2) = false := by first | (rw [hk0]; rfl) | (simp; omega)
  have g3 : (kindOf t == 3) = true := by rw [hk0]; rfl
  clear hk0
  by_cases s0 : noText t = true
  · have es : (sOf t).toList.isEmpty = true := s0
    have S0 := hid s0
    clear s0
    go_enter Tryz.func47, Tryz.ntmps47
    go_wp2_with fail
    refine (hasNoLists_any _ _ _ _ HA.out).mono ?_
    rintro e w2 ⟨rfl, B2⟩
    have HB2 := hid B2
    clear B2
    cases hn : noLists t with
    | false =>
      have HR : Hid (chkT m t l = none) := by show chkT m t l = none; rw [HR0.out, if_neg (by rw [hn]; simp)]
      clear hn
      go_wp2_with fail
      go_ret
      exact ⟨(But.of HB1.out).trans (But.of HB2.out), l, HK1.out.keep HB2.out, Or.inr ⟨HR.out, rfl⟩⟩
    | true =>
      have HR : Hid (chkT m t l = takeO 9 l) := by show chkT m t l = _; rw [HR0.out, if_pos (⟨S0.out, hn⟩)]
      clear hn
      go_wp2_with fail
      refine (take2_any c l 9 w2 (HK1.out.keep HB2.out) l0 l1 (by omega) (by omega)).mono ?_
      rintro e w3 ⟨rfl, K3, B3⟩
      have HK3 := hid K3
      have HB3 := hid B3
      clear K3 B3
      by_cases h9 : 9 ≤ l
      · have HR2 : Hid (takeO 9 l = some (l - 9)) := by show takeO 9 l = _; unfold takeO; rw [if_pos h9]
        go_wp2_with fail
        go_ret
        exact ⟨((But.of HB1.out).trans (But.of HB2.out)).trans HB3.out, l - 9, HK3.out, Or.inl ⟨HR.out.trans HR2.out, by omega, by omega, rfl⟩⟩
      · have HR2 : Hid (takeO 9 l = none) := by show takeO 9 l = _; unfold takeO; rw [if_neg h9]
        have hd : decide ((9 : Int) ≤ l) = false := decide_eq_false h9
        clear h9
        go_wp2_with fail
        go_ret
        exact ⟨((But.of HB1.out).trans (But.of HB2.out)).trans HB3.out, l - 9, HK3.out, Or.inr ⟨HR.out.trans HR2.out, rfl⟩⟩

  · have es : (sOf t).toList.isEmpty = false := by simpa [noText] using s0
    have HR : Hid (chkT m t l = none) := by show chkT m t l = none; rw [HR0.out, if_neg (by exact fun h => s0 h.1)]
    clear s0
    go_enter Tryz.func47, Tryz.ntmps47
    go_wp2_with fail
    go_ret
    exact ⟨But.of HB1.out, l, HK1.out, Or.inr ⟨HR.out, rfl⟩⟩

set_option maxHeartbeats 1000000 in
theorem chk_other {Tb : World → Prop} (c : Nat) (hS : Stays Tb c) (w0 : World) (hN : w0.heap.size ≤ c) (m : Nat)  (f : Nat) (v : Value) (t : T) (l : Int) (w : World)
    (h : At w0 f v t) (hb0 : Below w0.heap.size w0 w) (hH : Holds c l w) (hT : Tb w) (_l0 : 0 ≤ l) (_l1 : l ≤ 1048576) (hk0 : kindOf t ≠ 1 ∧ kindOf t ≠ 2 ∧ kindOf t ≠ 3 ∧ kindOf t ≠ 4 ∧ kindOf t ≠ 5 ∧ kindOf t ≠ 6) :
    Calls Tryz.prog 47 #[.pointer (some ⟨c, 0, none⟩), v, .int .i64 (12 - (m : Int))] w fun e w' => ChkPost c w (chkT m t l) e w' := by
  obtain ⟨f, La, Ka, Lc, Kc, rfl, rfl, hf, hl, hk⟩ := h.open
  have HB1 : Hid (Below w.heap.size w (w.alloc (.cells #[.int .i64 (kindOf t), .int .i64 (nOf t), .string (sOf t), .slice La (nL t) Lc, .slice Ka (nK t) Kc] 36))) := (Below.refl _ _).alloc (Nat.le_refl _) _
  have HK1 := hid (hH.keep HB1.out)
  have HT1 := hid (hS _ _ hT (HB1.out.mono (Nat.le_of_lt hH.lt)))
  have Hb1 := hid (hb0.trans (HB1.out.mono (Nat.le_trans hN (Nat.le_of_lt hH.lt))))
  have HA := hid (h.keep Hb1.out)
  clear h hb0 hH hT hf hl hk
  obtain ⟨h1, h2, h3, h4, h5, h6⟩ := hk0
  have HR : Hid (chkT m t l = none) := by
    show chkT m t l = _
    cases m <;> simp [chkT, leafO, h1, h2, h3, h4, h5, h6]
  have g1 : (kindOf t == 1) = false := by simp; omega
  have g2 : (kindOf t == 2) = false := by simp; omega
  have g3 : (kindOf t == 3) = false := by simp; omega
  have g4 : (kindOf t == 4) = false := by simp; omega
  have g5 : (kindOf t == 5) = false := by simp; omega
  have g6 : (kindOf t == 6) = false := by simp; omega
  clear h1 h2 h3 h4 h5 h6
  go_enter Tryz.func47, Tryz.ntmps47
  go_wp2_with fail
  go_ret
  exact ⟨But.of HB1.out, l, HK1.out, Or.inr ⟨HR.out, rfl⟩⟩
end Go.Proofs.YtknakfpciccoaabGreatDoor
/- The walk of the checker's value, of the kinds that hold others, and of a text. -/
namespace Go.Proofs.YtknakfpciccoaabGreatDoor
open Go.RowKit


set_option maxHeartbeats 1000000 in
theorem chk_k4 {Tb : World → Prop} (hV : ValidSaid Tb) (c : Nat) (hS : Stays Tb c) (w0 : World) (hN : w0.heap.size ≤ c) (m : Nat)  (f : Nat) (v : Value) (t : T) (l : Int) (w : World)
    (h : At w0 f v t) (hb0 : Below w0.heap.size w0 w) (hH : Holds c l w) (hT : Tb w) (l0 : 0 ≤ l) (l1 : l ≤ 1048576) (hk0 : kindOf t = 4) :
    Calls Tryz.prog 47 #[.pointer (some ⟨c, 0, none⟩), v, .int .i64 (12 - (m : Int))] w fun e w' => ChkPost c w (chkT m t l) e w' := by
  obtain ⟨f, La, Ka, Lc, Kc, rfl, rfl, hf, hl, hk⟩ := h.open
  have hlen := hf.l1
  have klen := hf.m1
  have slen := hf.s1
  have hcw := hH.lt
  have HB1 : Hid (Below w.heap.size w (w.alloc (.cells #[.int .i64 (kindOf t), .int .i64 (nOf t), .string (sOf t), .slice La (nL t) Lc, .slice Ka (nK t) Kc] 36))) := (Below.refl _ _).alloc (Nat.le_refl _) _
  have HK1 := hid (hH.keep HB1.out)
  have HT0 := hid hT
  have Hb0 := hid hb0
  have HA := hid (h.keep (hb0.trans (HB1.out.mono (Nat.le_trans hN (Nat.le_of_lt hH.lt)))))
  clear h hb0 hH hT hf
  have HR0 : Hid (chkT m t l = if nOf t = 0 ∧ noLists t = true then (takeO 5 l).bind (textO (sOf t)) else none) := by
    show chkT m t l = _
    cases m <;> simp [chkT, leafO, hk0]
  have g1 : (kindOf t == 1) = false := by first | (rw [hk0]; rfl) | (simp; omega)
  have g2 : (kindOf t == 2) = false := by first | (rw [hk0]; rfl) | (simp; omega)
  have g3 : (kindOf t == 3) = false := by first | (rw [hk0]; rfl) | (simp; omega)
  have g4 : (kindOf t == 4) = true := by rw [hk0]; rfl
  clear hk0 hlen klen hl hk
  by_cases n0 : nOf t = 0
  · have en : (nOf t == 0) = true := by rw [n0]; rfl
    have N0 := hid n0
    clear n0
    go_enter Tryz.func47, Tryz.ntmps47
    go_wp2_with fail
    refine (hasNoLists_any _ _ _ _ HA.out).mono ?_
    rintro e w2 ⟨rfl, B2⟩
    have HB2 := hid B2
    clear B2
    cases hn : noLists t with
    | false =>
      have HR : Hid (chkT m t l = none) := by show chkT m t l = none; rw [HR0.out, if_neg (by rw [hn]; simp)]
      clear hn
      go_wp2_with fail
      go_ret
      exact ⟨(But.of HB1.out).trans (But.of HB2.out), l, HK1.out.keep HB2.out, Or.inr ⟨HR.out, rfl⟩⟩
    | true =>
      have HR : Hid (chkT m t l = (takeO 5 l).bind (textO (sOf t))) := by show chkT m t l = _; rw [HR0.out, if_pos ⟨N0.out, hn⟩]
      clear hn
      go_wp2_with fail
      refine (take2_any c l 5 w2 (HK1.out.keep HB2.out) l0 l1 (by omega) (by omega)).mono ?_
      rintro e w3 ⟨rfl, K3, B3⟩
      have HK3 := hid K3
      have HB3 := hid ((But.of HB2.out).trans B3)
      clear K3 B3
      by_cases h9 : 5 ≤ l
      · have HR2 : Hid (takeO 5 l = some (l - 5)) := by show takeO 5 l = _; unfold takeO; rw [if_pos h9]
        obtain ⟨q0, q1, q2, q3, q4, hz⟩ := box_but hcw HB3.out
        have HB4 := hid ((But.of HB1.out).trans HB3.out)
        go_wp2_with fail
        refine (text_any hV c hS (sOf t) (l - 5) w3 HK3.out (hS _ _ HT0.out (HB4.out.below (Nat.le_of_lt hcw))) (by omega) (by omega) slen).mono ?_
        rintro e w4 ⟨B4, l', K4, hr⟩
        have HB5 := hid (HB4.out.trans B4)
        have HK4 := hid K4
        clear B4 K4
        have HRR : Hid (chkT m t l = textO (sOf t) (l - 5)) := by show chkT m t l = _; rw [HR.out, HR2.out]; rfl
        rcases hr with ⟨hr, y0, y1, rfl⟩ | ⟨hr, rfl⟩
        · have Hr := hid hr
          clear hr
          go_wp2_with fail
          go_ret
          exact ⟨HB5.out, l', HK4.out, Or.inl ⟨HRR.out.trans Hr.out, y0, y1, rfl⟩⟩
        · have Hr := hid hr
          clear hr
          go_wp2_with fail
          go_ret
          exact ⟨HB5.out, l', HK4.out, Or.inr ⟨HRR.out.trans Hr.out, rfl⟩⟩
      · have HR2 : Hid (takeO 5 l = none) := by show takeO 5 l = _; unfold takeO; rw [if_neg h9]
        have hd : decide ((5 : Int) ≤ l) = false := decide_eq_false h9
        clear h9
        go_wp2_with fail
        go_ret
        exact ⟨(But.of HB1.out).trans HB3.out, l - 5, HK3.out, Or.inr ⟨by rw [HR.out, HR2.out]; rfl, rfl⟩⟩
  · have en : (nOf t == 0) = false := by simpa using n0
    have HR : Hid (chkT m t l = none) := by show chkT m t l = none; rw [HR0.out, if_neg (fun h => n0 h.1)]
    clear n0
    go_enter Tryz.func47, Tryz.ntmps47
    go_wp2_with fail
    go_ret
    exact ⟨But.of HB1.out, l, HK1.out, Or.inr ⟨HR.out, rfl⟩⟩

set_option maxHeartbeats 1000000 in
theorem chk_z5 {Tb : World → Prop} (c : Nat) (w0 : World) (hN : w0.heap.size ≤ c)   (f : Nat) (v : Value) (t : T) (l : Int) (w : World)
    (h : At w0 f v t) (hb0 : Below w0.heap.size w0 w) (hH : Holds c l w) (hT : Tb w) (_l0 : 0 ≤ l) (_l1 : l ≤ 1048576) (hk0 : kindOf t = 5) :
    Calls Tryz.prog 47 #[.pointer (some ⟨c, 0, none⟩), v, .int .i64 (12 - ((0 : Nat) : Int))] w fun e w' => ChkPost c w (chkT 0 t l) e w' := by
  obtain ⟨f, La, Ka, Lc, Kc, rfl, rfl, hf, hl, hk⟩ := h.open
  have hlen := hf.l1
  have klen := hf.m1
  have slen := hf.s1
  have hcw := hH.lt
  have HB1 : Hid (Below w.heap.size w (w.alloc (.cells #[.int .i64 (kindOf t), .int .i64 (nOf t), .string (sOf t), .slice La (nL t) Lc, .slice Ka (nK t) Kc] 36))) := (Below.refl _ _).alloc (Nat.le_refl _) _
  have HK1 := hid (hH.keep HB1.out)
  have HT0 := hid hT
  have Hb0 := hid hb0
  have HA := hid (h.keep (hb0.trans (HB1.out.mono (Nat.le_trans hN (Nat.le_of_lt hH.lt)))))
  clear h hb0 hH hT hf
  have HR : Hid (chkT 0 t l = none) := by
    show chkT 0 t l = _
    simp [chkT, leafO, hk0]
  have g1 : (kindOf t == 1) = false := by first | (rw [hk0]; rfl) | (simp; omega)
  have g2 : (kindOf t == 2) = false := by first | (rw [hk0]; rfl) | (simp; omega)
  have g3 : (kindOf t == 3) = false := by first | (rw [hk0]; rfl) | (simp; omega)
  have g4 : (kindOf t == 4) = false := by first | (rw [hk0]; rfl) | (simp; omega)
  have g5 : (kindOf t == 5) = true := by rw [hk0]; rfl
  clear hk0 HA hlen klen slen hcw hl hk HT0 Hb0
  by_cases n0 : nOf t = 0
  · have en : (nOf t == 0) = true := by rw [n0]; rfl
    clear n0
    by_cases s0 : noText t = true
    · have es : (sOf t).toList.isEmpty = true := s0
      clear s0
      by_cases k0 : nK t = 0
      · have ek : ((nK t : Int) == 0) = true := by simp [k0]
        clear k0
        go_enter Tryz.func47, Tryz.ntmps47
        go_wp2_with fail
        go_ret
        exact ⟨But.of HB1.out, l, HK1.out, Or.inr ⟨HR.out, rfl⟩⟩
      · have ek : ((nK t : Int) == 0) = false := by simp; omega
        clear k0
        go_enter Tryz.func47, Tryz.ntmps47
        go_wp2_with fail
        go_ret
        exact ⟨But.of HB1.out, l, HK1.out, Or.inr ⟨HR.out, rfl⟩⟩
    · have es : (sOf t).toList.isEmpty = false := by simpa [noText] using s0
      clear s0
      go_enter Tryz.func47, Tryz.ntmps47
      go_wp2_with fail
      go_ret
      exact ⟨But.of HB1.out, l, HK1.out, Or.inr ⟨HR.out, rfl⟩⟩
  · have en : (nOf t == 0) = false := by simpa using n0
    clear n0
    go_enter Tryz.func47, Tryz.ntmps47
    go_wp2_with fail
    go_ret
    exact ⟨But.of HB1.out, l, HK1.out, Or.inr ⟨HR.out, rfl⟩⟩

set_option maxHeartbeats 1000000 in
theorem chk_z6 {Tb : World → Prop} (c : Nat) (w0 : World) (hN : w0.heap.size ≤ c)   (f : Nat) (v : Value) (t : T) (l : Int) (w : World)
    (h : At w0 f v t) (hb0 : Below w0.heap.size w0 w) (hH : Holds c l w) (hT : Tb w) (_l0 : 0 ≤ l) (_l1 : l ≤ 1048576) (hk0 : kindOf t = 6) :
    Calls Tryz.prog 47 #[.pointer (some ⟨c, 0, none⟩), v, .int .i64 (12 - ((0 : Nat) : Int))] w fun e w' => ChkPost c w (chkT 0 t l) e w' := by
  obtain ⟨f, La, Ka, Lc, Kc, rfl, rfl, hf, hl, hk⟩ := h.open
  have hlen := hf.l1
  have klen := hf.m1
  have slen := hf.s1
  have hcw := hH.lt
  have HB1 : Hid (Below w.heap.size w (w.alloc (.cells #[.int .i64 (kindOf t), .int .i64 (nOf t), .string (sOf t), .slice La (nL t) Lc, .slice Ka (nK t) Kc] 36))) := (Below.refl _ _).alloc (Nat.le_refl _) _
  have HK1 := hid (hH.keep HB1.out)
  have HT0 := hid hT
  have Hb0 := hid hb0
  have HA := hid (h.keep (hb0.trans (HB1.out.mono (Nat.le_trans hN (Nat.le_of_lt hH.lt)))))
  clear h hb0 hH hT hf
  have HR : Hid (chkT 0 t l = none) := by
    show chkT 0 t l = _
    simp [chkT, leafO, hk0]
  have g1 : (kindOf t == 1) = false := by first | (rw [hk0]; rfl) | (simp; omega)
  have g2 : (kindOf t == 2) = false := by first | (rw [hk0]; rfl) | (simp; omega)
  have g3 : (kindOf t == 3) = false := by first | (rw [hk0]; rfl) | (simp; omega)
  have g4 : (kindOf t == 4) = false := by first | (rw [hk0]; rfl) | (simp; omega)
  have g5 : (kindOf t == 5) = false := by first | (rw [hk0]; rfl) | (simp; omega)
  have g6 : (kindOf t == 6) = true := by rw [hk0]; rfl
  clear hk0 HA hlen klen slen hcw hl hk HT0 Hb0
  by_cases n0 : nOf t = 0
  · have en : (nOf t == 0) = true := by rw [n0]; rfl
    clear n0
    by_cases s0 : noText t = true
    · have es : (sOf t).toList.isEmpty = true := s0
      clear s0
      by_cases k0 : nK t = nL t
      · have ek : ((nK t : Int) == (nL t : Int)) = true := by simp [k0]
        clear k0
        go_enter Tryz.func47, Tryz.ntmps47
        go_wp2_with fail
        go_ret
        exact ⟨But.of HB1.out, l, HK1.out, Or.inr ⟨HR.out, rfl⟩⟩
      · have ek : ((nK t : Int) == (nL t : Int)) = false := by simp; omega
        clear k0
        go_enter Tryz.func47, Tryz.ntmps47
        go_wp2_with fail
        go_ret
        exact ⟨But.of HB1.out, l, HK1.out, Or.inr ⟨HR.out, rfl⟩⟩
    · have es : (sOf t).toList.isEmpty = false := by simpa [noText] using s0
      clear s0
      go_enter Tryz.func47, Tryz.ntmps47
      go_wp2_with fail
      go_ret
      exact ⟨But.of HB1.out, l, HK1.out, Or.inr ⟨HR.out, rfl⟩⟩
  · have en : (nOf t == 0) = false := by simpa using n0
    clear n0
    go_enter Tryz.func47, Tryz.ntmps47
    go_wp2_with fail
    go_ret
    exact ⟨But.of HB1.out, l, HK1.out, Or.inr ⟨HR.out, rfl⟩⟩

set_option maxHeartbeats 1000000 in
theorem chk_k5 {Tb : World → Prop} (c : Nat) (hS : Stays Tb c) (w0 : World) (hN : w0.heap.size ≤ c) (m : Nat)  (ih : ChkSaid Tb c w0 m) (hm : m < 12) (f : Nat) (v : Value) (t : T) (l : Int) (w : World)
    (h : At w0 f v t) (hb0 : Below w0.heap.size w0 w) (hH : Holds c l w) (hT : Tb w) (l0 : 0 ≤ l) (l1 : l ≤ 1048576) (hk0 : kindOf t = 5) :
    Calls Tryz.prog 47 #[.pointer (some ⟨c, 0, none⟩), v, .int .i64 (12 - ((m + 1 : Nat) : Int))] w fun e w' => ChkPost c w (chkT (m + 1) t l) e w' := by
  obtain ⟨f, La, Ka, Lc, Kc, rfl, rfl, hf, hl, hk⟩ := h.open
  have hlen := hf.l1
  have klen := hf.m1
  have slen := hf.s1
  have hcw := hH.lt
  have HB1 : Hid (Below w.heap.size w (w.alloc (.cells #[.int .i64 (kindOf t), .int .i64 (nOf t), .string (sOf t), .slice La (nL t) Lc, .slice Ka (nK t) Kc] 36))) := (Below.refl _ _).alloc (Nat.le_refl _) _
  have HK1 := hid (hH.keep HB1.out)
  have HT0 := hid hT
  have Hb0 := hid hb0
  have HA := hid (h.keep (hb0.trans (HB1.out.mono (Nat.le_trans hN (Nat.le_of_lt hH.lt)))))
  clear h hb0 hH hT hf
  have HR0 : Hid (chkT (m + 1) t l = if nOf t = 0 ∧ noText t = true ∧ nK t = 0 then (takeO 5 l).bind (valuesL (chkT m) t (nL t)) else none) := by
    show chkT (m + 1) t l = _
    simp [chkT, hk0]
  have g1 : (kindOf t == 1) = false := by first | (rw [hk0]; rfl) | (simp; omega)
  have g2 : (kindOf t == 2) = false := by first | (rw [hk0]; rfl) | (simp; omega)
  have g3 : (kindOf t == 3) = false := by first | (rw [hk0]; rfl) | (simp; omega)
  have g4 : (kindOf t == 4) = false := by first | (rw [hk0]; rfl) | (simp; omega)
  have g5 : (kindOf t == 5) = true := by rw [hk0]; rfl
  have em : (12 : Int) - ((m + 1 : Nat) : Int) = 11 - m := by omega
  rw [em]
  have em2 : (11 : Int) - m + 1 = 12 - m := by omega
  have hm2 : (11 : Int) - m < 12 := by omega
  clear hk0 HA em
  by_cases n0 : nOf t = 0
  · have en : (nOf t == 0) = true := by rw [n0]; rfl
    by_cases s0 : noText t = true
    · have es : (sOf t).toList.isEmpty = true := s0
      by_cases k0 : nK t = 0
      · have ek : ((nK t : Int) == 0) = true := by simp [k0]
        have HR : Hid (chkT (m + 1) t l = (takeO 5 l).bind (valuesL (chkT m) t (nL t))) := by show chkT (m + 1) t l = _; rw [HR0.out, if_pos ⟨n0, s0, k0⟩]
        clear n0 s0 k0
        go_enter Tryz.func47, Tryz.ntmps47
        go_wp2_with fail
        refine (take2_any c l 5 _ HK1.out l0 l1 (by omega) (by omega)).mono ?_
        rintro e w3 ⟨rfl, K3, B3⟩
        have HK3 := hid K3
        have HB3 := hid B3
        clear K3 B3
        by_cases h9 : 5 ≤ l
        · have HR2 : Hid (takeO 5 l = some (l - 5)) := by show takeO 5 l = _; unfold takeO; rw [if_pos h9]
          obtain ⟨q0, q1, q2, q3, q4, hz⟩ := box_but hcw HB3.out
          have HB4 := hid ((But.of HB1.out).trans HB3.out)
          go_wp2_with fail
          have HRR : Hid (chkT (m + 1) t l = valuesL (chkT m) t (nL t) (l - 5)) := by show chkT (m + 1) t l = _; rw [HR.out, HR2.out]; rfl
          refine (values_any c hS w0 hN m ih f La Lc t (l - 5) w3 (hl.out) hlen (Hb0.out.trans ((HB4.out.below (Nat.le_of_lt hcw)).mono hN)) HK3.out (hS _ _ HT0.out (HB4.out.below (Nat.le_of_lt hcw))) (by omega) (by omega)).mono ?_
          rintro e w4 ⟨B4, l', K4, hr⟩
          have HB5 := hid (HB4.out.trans B4)
          have HK4 := hid K4
          clear B4 K4
          rcases hr with ⟨hr, y0, y1, rfl⟩ | ⟨hr, rfl⟩
          · have Hr := hid hr
            clear hr
            go_wp2_with fail
            go_ret
            exact ⟨HB5.out, l', HK4.out, Or.inl ⟨HRR.out.trans Hr.out, y0, y1, rfl⟩⟩
          · have Hr := hid hr
            clear hr
            go_wp2_with fail
            go_ret
            exact ⟨HB5.out, l', HK4.out, Or.inr ⟨HRR.out.trans Hr.out, rfl⟩⟩
        · have HR2 : Hid (takeO 5 l = none) := by show takeO 5 l = _; unfold takeO; rw [if_neg h9]
          have hd : decide ((5 : Int) ≤ l) = false := decide_eq_false h9
          clear h9
          go_wp2_with fail
          go_ret
          exact ⟨(But.of HB1.out).trans HB3.out, l - 5, HK3.out, Or.inr ⟨by rw [HR.out, HR2.out]; rfl, rfl⟩⟩
      · have ek : ((nK t : Int) == 0) = false := by simp; omega
        have HR : Hid (chkT (m + 1) t l = none) := by show chkT (m + 1) t l = none; rw [HR0.out, if_neg (fun h => k0 h.2.2)]
        clear n0 s0 k0
        go_enter Tryz.func47, Tryz.ntmps47
        go_wp2_with fail
        go_ret
        exact ⟨But.of HB1.out, l, HK1.out, Or.inr ⟨HR.out, rfl⟩⟩
    · have es : (sOf t).toList.isEmpty = false := by simpa [noText] using s0
      have HR : Hid (chkT (m + 1) t l = none) := by show chkT (m + 1) t l = none; rw [HR0.out, if_neg (fun h => s0 h.2.1)]
      clear n0 s0
      go_enter Tryz.func47, Tryz.ntmps47
      go_wp2_with fail
      go_ret
      exact ⟨But.of HB1.out, l, HK1.out, Or.inr ⟨HR.out, rfl⟩⟩
  · have en : (nOf t == 0) = false := by simpa using n0
    have HR : Hid (chkT (m + 1) t l = none) := by show chkT (m + 1) t l = none; rw [HR0.out, if_neg (fun h => n0 h.1)]
    clear n0
    go_enter Tryz.func47, Tryz.ntmps47
    go_wp2_with fail
    go_ret
    exact ⟨But.of HB1.out, l, HK1.out, Or.inr ⟨HR.out, rfl⟩⟩

set_option maxHeartbeats 1000000 in
theorem chk_k6 {Tb : World → Prop} (hV : ValidSaid Tb) (c : Nat) (hS : Stays Tb c) (w0 : World) (hN : w0.heap.size ≤ c) (m : Nat)  (ih : ChkSaid Tb c w0 m) (hm : m < 12) (f : Nat) (v : Value) (t : T) (l : Int) (w : World)
    (h : At w0 f v t) (hb0 : Below w0.heap.size w0 w) (hH : Holds c l w) (hT : Tb w) (l0 : 0 ≤ l) (l1 : l ≤ 1048576) (hk0 : kindOf t = 6) :
    Calls Tryz.prog 47 #[.pointer (some ⟨c, 0, none⟩), v, .int .i64 (12 - ((m + 1 : Nat) : Int))] w fun e w' => ChkPost c w (chkT (m + 1) t l) e w' := by
  obtain ⟨f, La, Ka, Lc, Kc, rfl, rfl, hf, hl, hk⟩ := h.open
  have hlen := hf.l1
  have klen := hf.m1
  have slen := hf.s1
  have hcw := hH.lt
  have HB1 : Hid (Below w.heap.size w (w.alloc (.cells #[.int .i64 (kindOf t), .int .i64 (nOf t), .string (sOf t), .slice La (nL t) Lc, .slice Ka (nK t) Kc] 36))) := (Below.refl _ _).alloc (Nat.le_refl _) _
  have HK1 := hid (hH.keep HB1.out)
  have HT0 := hid hT
  have Hb0 := hid hb0
  have HA := hid (h.keep (hb0.trans (HB1.out.mono (Nat.le_trans hN (Nat.le_of_lt hH.lt)))))
  clear h hb0 hH hT hf
  have HR0 : Hid (chkT (m + 1) t l = if nOf t = 0 ∧ noText t = true ∧ nK t = nL t then ((takeO 5 l).bind (namesO t)).bind (valuesL (chkT m) t (nL t)) else none) := by
    show chkT (m + 1) t l = _
    simp [chkT, hk0]
  have g1 : (kindOf t == 1) = false := by first | (rw [hk0]; rfl) | (simp; omega)
  have g2 : (kindOf t == 2) = false := by first | (rw [hk0]; rfl) | (simp; omega)
  have g3 : (kindOf t == 3) = false := by first | (rw [hk0]; rfl) | (simp; omega)
  have g4 : (kindOf t == 4) = false := by first | (rw [hk0]; rfl) | (simp; omega)
  have g5 : (kindOf t == 5) = false := by first | (rw [hk0]; rfl) | (simp; omega)
  have g6 : (kindOf t == 6) = true := by rw [hk0]; rfl
  have em : (12 : Int) - ((m + 1 : Nat) : Int) = 11 - m := by omega
  rw [em]
  have em2 : (11 : Int) - m + 1 = 12 - m := by omega
  have hm2 : (11 : Int) - m < 12 := by omega
  clear hk0 HA em
  by_cases n0 : nOf t = 0
  · have en : (nOf t == 0) = true := by rw [n0]; rfl
    by_cases s0 : noText t = true
    · have es : (sOf t).toList.isEmpty = true := s0
      by_cases k0 : nK t = nL t
      · have ek : ((nK t : Int) == (nL t : Int)) = true := by simp [k0]
        have HR : Hid (chkT (m + 1) t l = ((takeO 5 l).bind (namesO t)).bind (valuesL (chkT m) t (nL t))) := by show chkT (m + 1) t l = _; rw [HR0.out, if_pos ⟨n0, s0, k0⟩]
        clear n0 s0 k0
        go_enter Tryz.func47, Tryz.ntmps47
        go_wp2_with fail
        refine (take2_any c l 5 _ HK1.out l0 l1 (by omega) (by omega)).mono ?_
        rintro e w3 ⟨rfl, K3, B3⟩
        have HK3 := hid K3
        have HB3 := hid B3
        clear K3 B3
        by_cases h9 : 5 ≤ l
        · have HR2 : Hid (takeO 5 l = some (l - 5)) := by show takeO 5 l = _; unfold takeO; rw [if_pos h9]
          obtain ⟨q0, q1, q2, q3, q4, hz⟩ := box_but hcw HB3.out
          have HB4 := hid ((But.of HB1.out).trans HB3.out)
          go_wp2_with fail
          refine (names_any hV c hS w0 hN Ka Kc t (l - 5) w3 hk.out klen (Hb0.out.trans ((HB4.out.below (Nat.le_of_lt hcw)).mono hN)) HK3.out (hS _ _ HT0.out (HB4.out.below (Nat.le_of_lt hcw))) (by omega) (by omega)).mono ?_
          rintro e w5 ⟨B5, x, K5, hx⟩
          have HB6 := hid (HB3.out.trans B5)
          have HB7 := hid (HB4.out.trans B5)
          have HK5 := hid K5
          clear B5 K5 q0 q1 q2 q3 q4 hz
          obtain ⟨q0, q1, q2, q3, q4, hz⟩ := box_but hcw HB6.out
          rcases hx with ⟨hx, x0, x1, rfl⟩ | ⟨hx, rfl⟩
          · have HRR : Hid (chkT (m + 1) t l = valuesL (chkT m) t (nL t) x) := by show chkT (m + 1) t l = _; rw [HR.out, HR2.out]; show ((namesO t (l - 5)).bind _) = _; rw [hx]; rfl
            clear hx
            go_wp2_with fail
            refine (values_any c hS w0 hN m ih f La Lc t x w5 (hl.out) hlen (Hb0.out.trans ((HB7.out.below (Nat.le_of_lt hcw)).mono hN)) HK5.out (hS _ _ HT0.out (HB7.out.below (Nat.le_of_lt hcw))) (by omega) (by omega)).mono ?_
            rintro e w4 ⟨B4, l', K4, hr⟩
            have HB5 := hid (HB7.out.trans B4)
            have HK4 := hid K4
            clear B4 K4
            rcases hr with ⟨hr, y0, y1, rfl⟩ | ⟨hr, rfl⟩
            · have Hr := hid hr
              clear hr
              go_wp2_with fail
              go_ret
              exact ⟨HB5.out, l', HK4.out, Or.inl ⟨HRR.out.trans Hr.out, y0, y1, rfl⟩⟩
            · have Hr := hid hr
              clear hr
              go_wp2_with fail
              go_ret
              exact ⟨HB5.out, l', HK4.out, Or.inr ⟨HRR.out.trans Hr.out, rfl⟩⟩

          · have HRR : Hid (chkT (m + 1) t l = none) := by show chkT (m + 1) t l = _; rw [HR.out, HR2.out]; show ((namesO t (l - 5)).bind _) = _; rw [hx]; rfl
            clear hx
            go_wp2_with fail
            go_ret
            exact ⟨HB7.out, x, HK5.out, Or.inr ⟨HRR.out, rfl⟩⟩
        · have HR2 : Hid (takeO 5 l = none) := by show takeO 5 l = _; unfold takeO; rw [if_neg h9]
          have hd : decide ((5 : Int) ≤ l) = false := decide_eq_false h9
          clear h9
          go_wp2_with fail
          go_ret
          exact ⟨(But.of HB1.out).trans HB3.out, l - 5, HK3.out, Or.inr ⟨by rw [HR.out, HR2.out]; rfl, rfl⟩⟩
      · have ek : ((nK t : Int) == (nL t : Int)) = false := by simp; omega
        have HR : Hid (chkT (m + 1) t l = none) := by show chkT (m + 1) t l = none; rw [HR0.out, if_neg (fun h => k0 h.2.2)]
        clear n0 s0 k0
        go_enter Tryz.func47, Tryz.ntmps47
        go_wp2_with fail
        go_ret
        exact ⟨But.of HB1.out, l, HK1.out, Or.inr ⟨HR.out, rfl⟩⟩
    · have es : (sOf t).toList.isEmpty = false := by simpa [noText] using s0
      have HR : Hid (chkT (m + 1) t l = none) := by show chkT (m + 1) t l = none; rw [HR0.out, if_neg (fun h => s0 h.2.1)]
      clear n0 s0
      go_enter Tryz.func47, Tryz.ntmps47
      go_wp2_with fail
      go_ret
      exact ⟨But.of HB1.out, l, HK1.out, Or.inr ⟨HR.out, rfl⟩⟩
  · have en : (nOf t == 0) = false := by simpa using n0
    have HR : Hid (chkT (m + 1) t l = none) := by show chkT (m + 1) t l = none; rw [HR0.out, if_neg (fun h => n0 h.1)]
    clear n0
    go_enter Tryz.func47, Tryz.ntmps47
    go_wp2_with fail
    go_ret
    exact ⟨But.of HB1.out, l, HK1.out, Or.inr ⟨HR.out, rfl⟩⟩
end Go.Proofs.YtknakfpciccoaabGreatDoor
/- The checker whole, and isValue. -/
namespace Go.Proofs.YtknakfpciccoaabGreatDoor
open Go.RowKit

theorem chk_any {Tb : World → Prop} (hV : ValidSaid Tb) (c : Nat) (hS : Stays Tb c) (w0 : World) (hN : w0.heap.size ≤ c) (m : Nat) (hm : m ≤ 12) : ChkSaid Tb c w0 m := by
  induction m with
  | zero =>
    intro f v t l w h hb0 hH hT l0 l1
    by_cases h1 : kindOf t = 1
    · exact chk_k1 c hS w0 hN 0 f v t l w h hb0 hH hT l0 l1 h1
    by_cases h2 : kindOf t = 2
    · exact chk_k2 c hS w0 hN 0 f v t l w h hb0 hH hT l0 l1 h2
    by_cases h3 : kindOf t = 3
    · exact chk_k3 c hS w0 hN 0 f v t l w h hb0 hH hT l0 l1 h3
    by_cases h4 : kindOf t = 4
    · exact chk_k4 hV c hS w0 hN 0 f v t l w h hb0 hH hT l0 l1 h4
    by_cases h5 : kindOf t = 5
    · exact chk_z5 c w0 hN f v t l w h hb0 hH hT l0 l1 h5
    by_cases h6 : kindOf t = 6
    · exact chk_z6 c w0 hN f v t l w h hb0 hH hT l0 l1 h6
    exact chk_other c hS w0 hN 0 f v t l w h hb0 hH hT l0 l1 ⟨h1, h2, h3, h4, h5, h6⟩
  | succ m ih =>
    have ih := ih (by omega)
    intro f v t l w h hb0 hH hT l0 l1
    by_cases h1 : kindOf t = 1
    · exact chk_k1 c hS w0 hN (m + 1) f v t l w h hb0 hH hT l0 l1 h1
    by_cases h2 : kindOf t = 2
    · exact chk_k2 c hS w0 hN (m + 1) f v t l w h hb0 hH hT l0 l1 h2
    by_cases h3 : kindOf t = 3
    · exact chk_k3 c hS w0 hN (m + 1) f v t l w h hb0 hH hT l0 l1 h3
    by_cases h4 : kindOf t = 4
    · exact chk_k4 hV c hS w0 hN (m + 1) f v t l w h hb0 hH hT l0 l1 h4
    by_cases h5 : kindOf t = 5
    · exact chk_k5 c hS w0 hN m ih (by omega) f v t l w h hb0 hH hT l0 l1 h5
    by_cases h6 : kindOf t = 6
    · exact chk_k6 hV c hS w0 hN m ih (by omega) f v t l w h hb0 hH hT l0 l1 h6
    exact chk_other c hS w0 hN (m + 1) f v t l w h hb0 hH hT l0 l1 ⟨h1, h2, h3, h4, h5, h6⟩

/-- Is it a value, by the program. -/
def isV (t : T) : Bool := (chkT 12 t 1048576).isSome
/-- The tables' cells lie below whatever world has them. -/
def Lies (Tb : World → Prop) : Prop := ∀ w : World, Tb w → Stays Tb w.heap.size

set_option maxHeartbeats 1000000 in
theorem isValue_any {Tb : World → Prop} (hV : ValidSaid Tb) (hL : Lies Tb) (f : Nat) (v : Value) (t : T) (w : World) (h : At w f v t) (hT : Tb w) :
    Calls Tryz.prog 29 #[v] w fun e w' => e = .returned (.bool (isV t)) ∧ Below w.heap.size w w' := by
  obtain ⟨f, La, Ka, Lc, Kc, rfl, rfl, hf, hl, hk⟩ := h.open
  have HA := hid h
  have HT := hid hT
  clear h hT hf hl hk
  go_enter Tryz.func29, Tryz.ntmps29
  go_wp2_with fail
  have HB1 : Hid (Below w.heap.size w ((w.alloc (.cells #[.int .i64 (kindOf t), .int .i64 (nOf t), .string (sOf t), .slice La (nL t) Lc, .slice Ka (nK t) Kc] 36)).alloc (.cells #[.int .i64 1048576] 93))) := ((Below.refl _ _).alloc (Nat.le_refl _) _).alloc (by simp) _
  have hS : Stays Tb (w.heap.size + 1) := fun w1 w2 h1 h2 => hL w HT.out w1 w2 h1 (h2.mono (by omega))
  have HH : Hid (Holds (w.heap.size + 1) 1048576 ((w.alloc (.cells #[.int .i64 (kindOf t), .int .i64 (nOf t), .string (sOf t), .slice La (nL t) Lc, .slice Ka (nK t) Kc] 36)).alloc (.cells #[.int .i64 1048576] 93))) := ⟨by simp [go_sem], by simp [go_sem], by simp⟩
  have e12 : (Value.int .i64 0) = .int .i64 (12 - ((12 : Nat) : Int)) := rfl
  rw [e12]
  clear e12
  refine (chk_any hV (w.heap.size + 1) hS w (by omega) 12 (by omega) _ _ t 1048576 _ HA.out HB1.out HH.out (hL w HT.out _ _ HT.out HB1.out) (by omega) (by omega)).mono ?_
  rintro e w2 ⟨B2, l', K2, hr⟩
  have HB2 := hid (HB1.out.trans ((B2.below (by simp)).mono (by omega)))
  clear B2 K2
  rcases hr with ⟨hr, y0, y1, rfl⟩ | ⟨hr, rfl⟩
  · have Hr := hid hr
    clear hr
    go_wp2_with fail
    go_ret
    exact ⟨ret_bool (by unfold isV; rw [Hr.out]; rfl), HB2.out⟩
  · have Hr := hid hr
    clear hr
    go_wp2_with fail
    go_ret
    exact ⟨ret_bool (by unfold isV; rw [Hr.out]; rfl), HB2.out⟩
end Go.Proofs.YtknakfpciccoaabGreatDoor
