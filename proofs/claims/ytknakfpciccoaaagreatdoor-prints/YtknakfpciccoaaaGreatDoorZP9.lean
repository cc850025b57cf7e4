import Derived.Test.YtknakfpciccoaaaGreatDoorZP8
import Derived.Lib.ItoaLen
/- The walk of the checker's value, of the kinds that hold others, and of a text. -/
namespace Go.Proofs.YtknakfpciccoaaaGreatDoor
open Go.RowKit


set_option maxHeartbeats 1000000 in
theorem chk_k4 {Tb : World → Prop} (hV : ValidSaid Tb) (c : Nat) (hS : Stays Tb c) (w0 : World) (hN : w0.heap.size ≤ c) (m : Nat)  (f : Nat) (v : Value) (t : T) (l : Int) (w : World)
    (h : At w0 f v t) (hb0 : Below w0.heap.size w0 w) (hH : Holds c l w) (hT : Tb w) (l0 : 0 ≤ l) (l1 : l ≤ 1048576) (hk0 : kindOf t = 4) :
    Calls Tryz.prog 73 #[.pointer (some ⟨c, 0, none⟩), v, .int .i64 (12 - (m : Int))] w fun e w' => ChkPost c w (chkT m t l) e w' := by
  obtain ⟨f, La, Ka, Lc, Kc, rfl, rfl, hf, hl, hk⟩ := h.open
  have hlen := hf.l1
  have klen := hf.m1
  have slen := hf.s1
  have hcw := hH.lt
  have HB1 : Hid (Below w.heap.size w (w.alloc (.cells #[.int .i64 (kindOf t), .int .i64 (nOf t), .string (sOf t), .slice La (nL t) Lc, .slice Ka (nK t) Kc] 25))) := (Below.refl _ _).alloc (Nat.le_refl _) _
  have HK1 := hid (hH.keep HB1.out)
  have HT0 := hid hT
  have Hb0 := hid hb0
  have HA := hid (h.keep (hb0.trans (HB1.out.mono (Nat.le_trans hN (Nat.le_of_lt hH.lt)))))
  clear h hb0 hH hT hf
  have HR0 : Hid (chkT m t l = if nOf t = 0 ∧ noLists t = true then (takeO 5 l).bind (textO (sOf t)) else none) := by
    show chkT m t l = _
    cases m <;> simp [chkT, leafO, hk0]
  have g1 : (kindOf t == 1) = false := by first | (rw [hk0]; rfl) | (simp; omega)
  have g2 : (kindOf t == 2) = false := by first | (rw [hk0]; rfl) | (simp; omega)
  have g3 : (kindOf t == 3) = false := by first | (rw [hk0]; rfl) | (simp; omega)
  have g4 : (kindOf t == 4) = true := by rw [hk0]; rfl
  clear hk0 hlen klen hl hk
  by_cases n0 : nOf t = 0
  · have en : (nOf t == 0) = true := by rw [n0]; rfl
    have N0 := hid n0
    clear n0
    go_enter Tryz.func73, Tryz.ntmps73
    go_wp2_with fail
    refine (hasNoLists_any _ _ _ _ HA.out).mono ?_
    rintro e w2 ⟨rfl, B2⟩
    have HB2 := hid B2
    clear B2
    cases hn : noLists t with
    | false =>
      have HR : Hid (chkT m t l = none) := by show chkT m t l = none; rw [HR0.out, if_neg (by rw [hn]; simp)]
      clear hn
      go_wp2_with fail
      go_ret
      exact ⟨(But.of HB1.out).trans (But.of HB2.out), l, HK1.out.keep HB2.out, Or.inr ⟨HR.out, rfl⟩⟩
    | true =>
      have HR : Hid (chkT m t l = (takeO 5 l).bind (textO (sOf t))) := by show chkT m t l = _; rw [HR0.out, if_pos ⟨N0.out, hn⟩]
      clear hn
      go_wp2_with fail
      refine (take2_any c l 5 w2 (HK1.out.keep HB2.out) l0 l1 (by omega) (by omega)).mono ?_
      rintro e w3 ⟨rfl, K3, B3⟩
      have HK3 := hid K3
      have HB3 := hid ((But.of HB2.out).trans B3)
      clear K3 B3
      by_cases h9 : 5 ≤ l
      · have HR2 : Hid (takeO 5 l = some (l - 5)) := by show takeO 5 l = _; unfold takeO; rw [if_pos h9]
        obtain ⟨q0, q1, q2, q3, q4, hz⟩ := box_but hcw HB3.out
        have HB4 := hid ((But.of HB1.out).trans HB3.out)
        go_wp2_with fail
        refine (text_any hV c hS (sOf t) (l - 5) w3 HK3.out (hS _ _ HT0.out (HB4.out.below (Nat.le_of_lt hcw))) (by omega) (by omega) slen).mono ?_
        rintro e w4 ⟨B4, l', K4, hr⟩
        have HB5 := hid (HB4.out.trans B4)
        have HK4 := hid K4
        clear B4 K4
        have HRR : Hid (chkT m t l = textO (sOf t) (l - 5)) := by show chkT m t l = _; rw [HR.out, HR2.out]; rfl
        rcases hr with ⟨hr, y0, y1, rfl⟩ | ⟨hr, rfl⟩
        · have Hr := hid hr
          clear hr
          go_wp2_with fail
          go_ret
          exact ⟨HB5.out, l', HK4.out, Or.inl ⟨HRR.out.trans Hr.out, y0, y1, rfl⟩⟩
        · have Hr := hid hr
          clear hr
          go_wp2_with fail
          go_ret
          exact ⟨HB5.out, l', HK4.out, Or.inr ⟨HRR.out.trans Hr.out, rfl⟩⟩
      · have HR2 : Hid (takeO 5 l = none) := by show takeO 5 l = _; unfold takeO; rw [if_neg h9]
        have hd : decide ((5 : Int) ≤ l) = false := decide_eq_false h9
        clear h9
        go_wp2_with fail
        go_ret
        exact ⟨(But.of HB1.out).trans HB3.out, l - 5, HK3.out, Or.inr ⟨by rw [HR.out, HR2.out]; rfl, rfl⟩⟩
  · have en : (nOf t == 0) = false := by simpa using n0
    have HR : Hid (chkT m t l = none) := by show chkT m t l = none; rw [HR0.out, if_neg (fun h => n0 h.1)]
    clear n0
    go_enter Tryz.func73, Tryz.ntmps73
    go_wp2_with fail
    go_ret
    exact ⟨But.of HB1.out, l, HK1.out, Or.inr ⟨HR.out, rfl⟩⟩

set_option maxHeartbeats 1000000 in
theorem chk_z5 {Tb : World → Prop} (c : Nat) (w0 : World) (hN : w0.heap.size ≤ c)   (f : Nat) (v : Value) (t : T) (l : Int) (w : World)
    (h : At w0 f v t) (hb0 : Below w0.heap.size w0 w) (hH : Holds c l w) (hT : Tb w) (_l0 : 0 ≤ l) (_l1 : l ≤ 1048576) (hk0 : kindOf t = 5) :
    Calls Tryz.prog 73 #[.pointer (some ⟨c, 0, none⟩), v, .int .i64 (12 - ((0 : Nat) : Int))] w fun e w' => ChkPost c w (chkT 0 t l) e w' := by
  obtain ⟨f, La, Ka, Lc, Kc, rfl, rfl, hf, hl, hk⟩ := h.open
  have hlen := hf.l1
  have klen := hf.m1
  have slen := hf.s1
  have hcw := hH.lt
  have HB1 : Hid (Below w.heap.size w (w.alloc (.cells #[.int .i64 (kindOf t), .int .i64 (nOf t), .string (sOf t), .slice La (nL t) Lc, .slice Ka (nK t) Kc] 25))) := (Below.refl _ _).alloc (Nat.le_refl _) _
  have HK1 := hid (hH.keep HB1.out)
  have HT0 := hid hT
  have Hb0 := hid hb0
  have HA := hid (h.keep (hb0.trans (HB1.out.mono (Nat.le_trans hN (Nat.le_of_lt hH.lt)))))
  clear h hb0 hH hT hf
  have HR : Hid (chkT 0 t l = none) := by
    show chkT 0 t l = _
    simp [chkT, leafO, hk0]
  have g1 : (kindOf t == 1) = false := by first | (rw [hk0]; rfl) | (simp; omega)
  have g2 : (kindOf t == 2) = false := by first | (rw [hk0]; rfl) | (simp; omega)
  have g3 : (kindOf t == 3) = false := by first | (rw [hk0]; rfl) | (simp; omega)
  have g4 : (kindOf t == 4) = false := by first | (rw [hk0]; rfl) | (simp; omega)
  have g5 : (kindOf t == 5) = true := by rw [hk0]; rfl
  clear hk0 HA hlen klen slen hcw hl hk HT0 Hb0
  by_cases n0 : nOf t = 0
  · have en : (nOf t == 0) = true := by rw [n0]; rfl
    clear n0
    by_cases s0 : noText t = true
    · have es : (sOf t).toList.isEmpty = true := s0
      clear s0
      by_cases k0 : nK t = 0
      · have ek : ((nK t : Int) == 0) = true := by simp [k0]
        clear k0
        go_enter Tryz.func73, Tryz.ntmps73
        go_wp2_with fail
        go_ret
        exact ⟨But.of HB1.out, l, HK1.out, Or.inr ⟨HR.out, rfl⟩⟩
      · have ek : ((nK t : Int) == 0) = false := by simp; omega
        clear k0
        go_enter Tryz.func73, Tryz.ntmps73
        go_wp2_with fail
        go_ret
        exact ⟨But.of HB1.out, l, HK1.out, Or.inr ⟨HR.out, rfl⟩⟩
    · have es : (sOf t).toList.isEmpty = false := by simpa [noText] using s0
      clear s0
      go_enter Tryz.func73, Tryz.ntmps73
      go_wp2_with fail
      go_ret
      exact ⟨But.of HB1.out, l, HK1.out, Or.inr ⟨HR.out, rfl⟩⟩
  · have en : (nOf t == 0) = false := by simpa using n0
    clear n0
    go_enter Tryz.func73, Tryz.ntmps73
    go_wp2_with fail
    go_ret
    exact ⟨But.of HB1.out, l, HK1.out, Or.inr ⟨HR.out, rfl⟩⟩

set_option maxHeartbeats 1000000 in
theorem chk_z6 {Tb : World → Prop} (c : Nat) (w0 : World) (hN : w0.heap.size ≤ c)   (f : Nat) (v : Value) (t : T) (l : Int) (w : World)
    (h : At w0 f v t) (hb0 : Below w0.heap.size w0 w) (hH : Holds c l w) (hT : Tb w) (_l0 : 0 ≤ l) (_l1 : l ≤ 1048576) (hk0 : kindOf t = 6) :
    Calls Tryz.prog 73 #[.pointer (some ⟨c, 0, none⟩), v, .int .i64 (12 - ((0 : Nat) : Int))] w fun e w' => ChkPost c w (chkT 0 t l) e w' := by
  obtain ⟨f, La, Ka, Lc, Kc, rfl, rfl, hf, hl, hk⟩ := h.open
  have hlen := hf.l1
  have klen := hf.m1
  have slen := hf.s1
  have hcw := hH.lt
  have HB1 : Hid (Below w.heap.size w (w.alloc (.cells #[.int .i64 (kindOf t), .int .i64 (nOf t), .string (sOf t), .slice La (nL t) Lc, .slice Ka (nK t) Kc] 25))) := (Below.refl _ _).alloc (Nat.le_refl _) _
  have HK1 := hid (hH.keep HB1.out)
  have HT0 := hid hT
  have Hb0 := hid hb0
  have HA := hid (h.keep (hb0.trans (HB1.out.mono (Nat.le_trans hN (Nat.le_of_lt hH.lt)))))
  clear h hb0 hH hT hf
  have HR : Hid (chkT 0 t l = none) := by
    show chkT 0 t l = _
    simp [chkT, leafO, hk0]
  have g1 : (kindOf t == 1) = false := by first | (rw [hk0]; rfl) | (simp; omega)
  have g2 : (kindOf t == 2) = false := by first | (rw [hk0]; rfl) | (simp; omega)
  have g3 : (kindOf t == 3) = false := by first | (rw [hk0]; rfl) | (simp; omega)
  have g4 : (kindOf t == 4) = false := by first | (rw [hk0]; rfl) | (simp; omega)
  have g5 : (kindOf t == 5) = false := by first | (rw [hk0]; rfl) | (simp; omega)
  have g6 : (kindOf t == 6) = true := by rw [hk0]; rfl
  clear hk0 HA hlen klen slen hcw hl hk HT0 Hb0
  by_cases n0 : nOf t = 0
  · have en : (nOf t == 0) = true := by rw [n0]; rfl
    clear n0
    by_cases s0 : noText t = true
    · have es : (sOf t).toList.isEmpty = true := s0
      clear s0
      by_cases k0 : nK t = nL t
      · have ek : ((nK t : Int) == (nL t : Int)) = true := by simp [k0]
        clear k0
        go_enter Tryz.func73, Tryz.ntmps73
        go_wp2_with fail
        go_ret
        exact ⟨But.of HB1.out, l, HK1.out, Or.inr ⟨HR.out, rfl⟩⟩
      · have ek : ((nK t : Int) == (nL t : Int)) = false := by simp; omega
        clear k0
        go_enter Tryz.func73, Tryz.ntmps73
        go_wp2_with fail
        go_ret
        exact ⟨But.of HB1.out, l, HK1.out, Or.inr ⟨HR.out, rfl⟩⟩
    · have es : (sOf t).toList.isEmpty = false := by simpa [noText] using s0
      clear s0
      go_enter Tryz.func73, Tryz.ntmps73
      go_wp2_with fail
      go_ret
      exact ⟨But.of HB1.out, l, HK1.out, Or.inr ⟨HR.out, rfl⟩⟩
  · have en : (nOf t == 0) = false := by simpa using n0
    clear n0
    go_enter Tryz.func73, Tryz.ntmps73
    go_wp2_with fail
    go_ret
    exact ⟨But.of HB1.out, l, HK1.out, Or.inr ⟨HR.out, rfl⟩⟩

set_option maxHeartbeats 1000000 in
theorem chk_k5 {Tb : World → Prop} (c : Nat) (hS : Stays Tb c) (w0 : World) (hN : w0.heap.size ≤ c) (m : Nat)  (ih : ChkSaid Tb c w0 m) (hm : m < 12) (f : Nat) (v : Value) (t : T) (l : Int) (w : World)
    (h : At w0 f v t) (hb0 : Below w0.heap.size w0 w) (hH : Holds c l w) (hT : Tb w) (l0 : 0 ≤ l) (l1 : l ≤ 1048576) (hk0 : kindOf t = 5) :
    Calls Tryz.prog 73 #[.pointer (some ⟨c, 0, none⟩), v, .int .i64 (12 - ((m + 1 : Nat) : Int))] w fun e w' => ChkPost c w (chkT (m + 1) t l) e w' := by
  obtain ⟨f, La, Ka, Lc, Kc, rfl, rfl, hf, hl, hk⟩ := h.open
  have hlen := hf.l1
  have klen := hf.m1
  have slen := hf.s1
  have hcw := hH.lt
  have HB1 : Hid (Below w.heap.size w (w.alloc (.cells #[.int .i64 (kindOf t), .int .i64 (nOf t), .string (sOf t), .slice La (nL t) Lc, .slice Ka (nK t) Kc] 25))) := (Below.refl _ _).alloc (Nat.le_refl _) _
  have HK1 := hid (hH.keep HB1.out)
  have HT0 := hid hT
  have Hb0 := hid hb0
  have HA := hid (h.keep (hb0.trans (HB1.out.mono (Nat.le_trans hN (Nat.le_of_lt hH.lt)))))
  clear h hb0 hH hT hf
  have HR0 : Hid (chkT (m + 1) t l = if nOf t = 0 ∧ noText t = true ∧ nK t = 0 then (takeO 5 l).bind (valuesL (chkT m) t (nL t)) else none) := by
    show chkT (m + 1) t l = _
    simp [chkT, hk0]
  have g1 : (kindOf t == 1) = false := by first | (rw [hk0]; rfl) | (simp; omega)
  have g2 : (kindOf t == 2) = false := by first | (rw [hk0]; rfl) | (simp; omega)
  have g3 : (kindOf t == 3) = false := by first | (rw [hk0]; rfl) | (simp; omega)
  have g4 : (kindOf t == 4) = false := by first | (rw [hk0]; rfl) | (simp; omega)
  have g5 : (kindOf t == 5) = true := by rw [hk0]; rfl
  have em : (12 : Int) - ((m + 1 : Nat) : Int) = 11 - m := by omega
  rw [em]
  have em2 : (11 : Int) - m + 1 = 12 - m := by omega
  have hm2 : (11 : Int) - m < 12 := by omega
  clear hk0 HA em
  by_cases n0 : nOf t = 0
  · have en : (nOf t == 0) = true := by rw [n0]; rfl
    by_cases s0 : noText t = true
    · have es : (sOf t).toList.isEmpty = true := s0
      by_cases k0 : nK t = 0
      · have ek : ((nK t : Int) == 0) = true := by simp [k0]
        have HR : Hid (chkT (m + 1) t l = (takeO 5 l).bind (valuesL (chkT m) t (nL t))) := by show chkT (m + 1) t l = _; rw [HR0.out, if_pos ⟨n0, s0, k0⟩]
        clear n0 s0 k0
        go_enter Tryz.func73, Tryz.ntmps73
        go_wp2_with fail
        refine (take2_any c l 5 _ HK1.out l0 l1 (by omega) (by omega)).mono ?_
        rintro e w3 ⟨rfl, K3, B3⟩
        have HK3 := hid K3
        have HB3 := hid B3
        clear K3 B3
        by_cases h9 : 5 ≤ l
        · have HR2 : Hid (takeO 5 l = some (l - 5)) := by show takeO 5 l = _; unfold takeO; rw [if_pos h9]
          obtain ⟨q0, q1, q2, q3, q4, hz⟩ := box_but hcw HB3.out
          have HB4 := hid ((But.of HB1.out).trans HB3.out)
          go_wp2_with fail
          have HRR : Hid (chkT (m + 1) t l = valuesL (chkT m) t (nL t) (l - 5)) := by show chkT (m + 1) t l = _; rw [HR.out, HR2.out]; rfl
          refine (values_any c hS w0 hN m ih f La Lc t (l - 5) w3 (hl.out) hlen (Hb0.out.trans ((HB4.out.below (Nat.le_of_lt hcw)).mono hN)) HK3.out (hS _ _ HT0.out (HB4.out.below (Nat.le_of_lt hcw))) (by omega) (by omega)).mono ?_
          rintro e w4 ⟨B4, l', K4, hr⟩
          have HB5 := hid (HB4.out.trans B4)
          have HK4 := hid K4
          clear B4 K4
          rcases hr with ⟨hr, y0, y1, rfl⟩ | ⟨hr, rfl⟩
          · have Hr := hid hr
            clear hr
            go_wp2_with fail
            go_ret
            exact ⟨HB5.out, l', HK4.out, Or.inl ⟨HRR.out.trans Hr.out, y0, y1, rfl⟩⟩
          · have Hr := hid hr
            clear hr
            go_wp2_with fail
            go_ret
            exact ⟨HB5.out, l', HK4.out, Or.inr ⟨HRR.out.trans Hr.out, rfl⟩⟩
        · have HR2 : Hid (takeO 5 l = none) := by show takeO 5 l = _; unfold takeO; rw [if_neg h9]
          have hd : decide ((5 : Int) ≤ l) = false := decide_eq_false h9
          clear h9
          go_wp2_with fail
          go_ret
          exact ⟨(But.of HB1.out).trans HB3.out, l - 5, HK3.out, Or.inr ⟨by rw [HR.out, HR2.out]; rfl, rfl⟩⟩
      · have ek : ((nK t : Int) == 0) = false := by simp; omega
        have HR : Hid (chkT (m + 1) t l = none) := by show chkT (m + 1) t l = none; rw [HR0.out, if_neg (fun h => k0 h.2.2)]
        clear n0 s0 k0
        go_enter Tryz.func73, Tryz.ntmps73
        go_wp2_with fail
        go_ret
        exact ⟨But.of HB1.out, l, HK1.out, Or.inr ⟨HR.out, rfl⟩⟩
    · have es : (sOf t).toList.isEmpty = false := by simpa [noText] using s0
      have HR : Hid (chkT (m + 1) t l = none) := by show chkT (m + 1) t l = none; rw [HR0.out, if_neg (fun h => s0 h.2.1)]
      clear n0 s0
      go_enter Tryz.func73, Tryz.ntmps73
      go_wp2_with fail
      go_ret
      exact ⟨But.of HB1.out, l, HK1.out, Or.inr ⟨HR.out, rfl⟩⟩
  · have en : (nOf t == 0) = false := by simpa using n0
    have HR : Hid (chkT (m + 1) t l = none) := by show chkT (m + 1) t l = none; rw [HR0.out, if_neg (fun h => n0 h.1)]
    clear n0
    go_enter Tryz.func73, Tryz.ntmps73
    go_wp2_with fail
    go_ret
    exact ⟨But.of HB1.out, l, HK1.out, Or.inr ⟨HR.out, rfl⟩⟩

set_option maxHeartbeats 1000000 in
theorem chk_k6 {Tb : World → Prop} (hV : ValidSaid Tb) (c : Nat) (hS : Stays Tb c) (w0 : World) (hN : w0.heap.size ≤ c) (m : Nat)  (ih : ChkSaid Tb c w0 m) (hm : m < 12) (f : Nat) (v : Value) (t : T) (l : Int) (w : World)
    (h : At w0 f v t) (hb0 : Below w0.heap.size w0 w) (hH : Holds c l w) (hT : Tb w) (l0 : 0 ≤ l) (l1 : l ≤ 1048576) (hk0 : kindOf t = 6) :
    Calls Tryz.prog 73 #[.pointer (some ⟨c, 0, none⟩), v, .int .i64 (12 - ((m + 1 : Nat) : Int))] w fun e w' => ChkPost c w (chkT (m + 1) t l) e w' := by
  obtain ⟨f, La, Ka, Lc, Kc, rfl, rfl, hf, hl, hk⟩ := h.open
  have hlen := hf.l1
  have klen := hf.m1
  have slen := hf.s1
  have hcw := hH.lt
  have HB1 : Hid (Below w.heap.size w (w.alloc (.cells #[.int .i64 (kindOf t), .int .i64 (nOf t), .string (sOf t), .slice La (nL t) Lc, .slice Ka (nK t) Kc] 25))) := (Below.refl _ _).alloc (Nat.le_refl _) _
  have HK1 := hid (hH.keep HB1.out)
  have HT0 := hid hT
  have Hb0 := hid hb0
  have HA := hid (h.keep (hb0.trans (HB1.out.mono (Nat.le_trans hN (Nat.le_of_lt hH.lt)))))
  clear h hb0 hH hT hf
  have HR0 : Hid (chkT (m + 1) t l = if nOf t = 0 ∧ noText t = true ∧ nK t = nL t then ((takeO 5 l).bind (namesO t)).bind (valuesL (chkT m) t (nL t)) else none) := by
    show chkT (m + 1) t l = _
    simp [chkT, hk0]
  have g1 : (kindOf t == 1) = false := by first | (rw [hk0]; rfl) | (simp; omega)
  have g2 : (kindOf t == 2) = false := by first | (rw [hk0]; rfl) | (simp; omega)
  have g3 : (kindOf t == 3) = false := by first | (rw [hk0]; rfl) | (simp; omega)
  have g4 : (kindOf t == 4) = false := by first | (rw [hk0]; rfl) | (simp; omega)
  have g5 : (kindOf t == 5) = false := by first | (rw [hk0]; rfl) | (simp; omega)
  have g6 : (kindOf t == 6) = true := by rw [hk0]; rfl
  have em : (12 : Int) - ((m + 1 : Nat) : Int) = 11 - m := by omega
  rw [em]
  have em2 : (11 : Int) - m + 1 = 12 - m := by omega
  have hm2 : (11 : Int) - m < 12 := by omega
  clear hk0 HA em
  by_cases n0 : nOf t = 0
  · have en : (nOf t == 0) = true := by rw [n0]; rfl
    by_cases s0 : noText t = true
    · have es : (sOf t).toList.isEmpty = true := s0
      by_cases k0 : nK t = nL t
      · have ek : ((nK t : Int) == (nL t : Int)) = true := by simp [k0]
        have HR : Hid (chkT (m + 1) t l = ((takeO 5 l).bind (namesO t)).bind (valuesL (chkT m) t (nL t))) := by show chkT (m + 1) t l = _; rw [HR0.out, if_pos ⟨n0, s0, k0⟩]
        clear n0 s0 k0
        go_enter Tryz.func73, Tryz.ntmps73
        go_wp2_with fail
        refine (take2_any c l 5 _ HK1.out l0 l1 (by omega) (by omega)).mono ?_
        rintro e w3 ⟨rfl, K3, B3⟩
        have HK3 := hid K3
        have HB3 := hid B3
        clear K3 B3
        by_cases h9 : 5 ≤ l
        · have HR2 : Hid (takeO 5 l = some (l - 5)) := by show takeO 5 l = _; unfold takeO; rw [if_pos h9]
          obtain ⟨q0, q1, q2, q3, q4, hz⟩ := box_but hcw HB3.out
          have HB4 := hid ((But.of HB1.out).trans HB3.out)
          go_wp2_with fail
          refine (names_any hV c hS w0 hN Ka Kc t (l - 5) w3 hk.out klen (Hb0.out.trans ((HB4.out.below (Nat.le_of_lt hcw)).mono hN)) HK3.out (hS _ _ HT0.out (HB4.out.below (Nat.le_of_lt hcw))) (by omega) (by omega)).mono ?_
          rintro e w5 ⟨B5, x, K5, hx⟩
          have HB6 := hid (HB3.out.trans B5)
          have HB7 := hid (HB4.out.trans B5)
          have HK5 := hid K5
          clear B5 K5 q0 q1 q2 q3 q4 hz
          obtain ⟨q0, q1, q2, q3, q4, hz⟩ := box_but hcw HB6.out
          rcases hx with ⟨hx, x0, x1, rfl⟩ | ⟨hx, rfl⟩
          · have HRR : Hid (chkT (m + 1) t l = valuesL (chkT m) t (nL t) x) := by show chkT (m + 1) t l = _; rw [HR.out, HR2.out]; show ((namesO t (l - 5)).bind _) = _; rw [hx]; rfl
            clear hx
            go_wp2_with fail
            refine (values_any c hS w0 hN m ih f La Lc t x w5 (hl.out) hlen (Hb0.out.trans ((HB7.out.below (Nat.le_of_lt hcw)).mono hN)) HK5.out (hS _ _ HT0.out (HB7.out.below (Nat.le_of_lt hcw))) (by omega) (by omega)).mono ?_
            rintro e w4 ⟨B4, l', K4, hr⟩
            have HB5 := hid (HB7.out.trans B4)
            have HK4 := hid K4
            clear B4 K4
            rcases hr with ⟨hr, y0, y1, rfl⟩ | ⟨hr, rfl⟩
            · have Hr := hid hr
              clear hr
              go_wp2_with fail
              go_ret
              exact ⟨HB5.out, l', HK4.out, Or.inl ⟨HRR.out.trans Hr.out, y0, y1, rfl⟩⟩
            · have Hr := hid hr
              clear hr
              go_wp2_with fail
              go_ret
              exact ⟨HB5.out, l', HK4.out, Or.inr ⟨HRR.out.trans Hr.out, rfl⟩⟩

          · have HRR : Hid (chkT (m + 1) t l = none) := by show chkT (m + 1) t l = _; rw [HR.out, HR2.out]; show ((namesO t (l - 5)).bind _) = _; rw [hx]; rfl
            clear hx
            go_wp2_with fail
            go_ret
            exact ⟨HB7.out, x, HK5.out, Or.inr ⟨HRR.out, rfl⟩⟩
        · have HR2 : Hid (takeO 5 l = none) := by show takeO 5 l = _; unfold takeO; rw [if_neg h9]
          have hd : decide ((5 : Int) ≤ l) = false := decide_eq_false h9
          clear h9
          go_wp2_with fail
          go_ret
          exact ⟨(But.of HB1.out).trans HB3.out, l - 5, HK3.out, Or.inr ⟨by rw [HR.out, HR2.out]; rfl, rfl⟩⟩
      · have ek : ((nK t : Int) == (nL t : Int)) = false := by simp; omega
        have HR : Hid (chkT (m + 1) t l = none) := by show chkT (m + 1) t l = none; rw [HR0.out, if_neg (fun h => k0 h.2.2)]
        clear n0 s0 k0
        go_enter Tryz.func73, Tryz.ntmps73
        go_wp2_with fail
        go_ret
        exact ⟨But.of HB1.out, l, HK1.out, Or.inr ⟨HR.out, rfl⟩⟩
    · have es : (sOf t).toList.isEmpty = false := by simpa [noText] using s0
      have HR : Hid (chkT (m + 1) t l = none) := by show chkT (m + 1) t l = none; rw [HR0.out, if_neg (fun h => s0 h.2.1)]
      clear n0 s0
      go_enter Tryz.func73, Tryz.ntmps73
      go_wp2_with fail
      go_ret
      exact ⟨But.of HB1.out, l, HK1.out, Or.inr ⟨HR.out, rfl⟩⟩
  · have en : (nOf t == 0) = false := by simpa using n0
    have HR : Hid (chkT (m + 1) t l = none) := by show chkT (m + 1) t l = none; rw [HR0.out, if_neg (fun h => n0 h.1)]
    clear n0
    go_enter Tryz.func73, Tryz.ntmps73
    go_wp2_with fail
    go_ret
    exact ⟨But.of HB1.out, l, HK1.out, Or.inr ⟨HR.out, rfl⟩⟩
end Go.Proofs.YtknakfpciccoaaaGreatDoor
/- The checker whole, and isValue. -/
namespace Go.Proofs.YtknakfpciccoaaaGreatDoor
open Go.RowKit

theorem chk_any {Tb : World → Prop} (hV : ValidSaid Tb) (c : Nat) (hS : Stays Tb c) (w0 : World) (hN : w0.heap.size ≤ c) (m : Nat) (hm : m ≤ 12) : ChkSaid Tb c w0 m := by
  induction m with
  | zero =>
    intro f v t l w h hb0 hH hT l0 l1
    by_cases h1 : kindOf t = 1
    · exact chk_k1 c hS w0 hN 0 f v t l w h hb0 hH hT l0 l1 h1
    by_cases h2 : kindOf t = 2
    · exact chk_k2 c hS w0 hN 0 f v t l w h hb0 hH hT l0 l1 h2
    by_cases h3 : kindOf t = 3
    · exact chk_k3 c hS w0 hN 0 f v t l w h hb0 hH hT l0 l1 h3
    by_cases h4 : kindOf t = 4
    · exact chk_k4 hV c hS w0 hN 0 f v t l w h hb0 hH hT l0 l1 h4
    by_cases h5 : kindOf t = 5
    · exact chk_z5 c w0 hN f v t l w h hb0 hH hT l0 l1 h5
    by_cases h6 : kindOf t = 6
    · exact chk_z6 c w0 hN f v t l w h hb0 hH hT l0 l1 h6
    exact chk_other c hS w0 hN 0 f v t l w h hb0 hH hT l0 l1 ⟨h1, h2, h3, h4, h5, h6⟩
  | succ m ih =>
    have ih := ih (by omega)
    intro f v t l w h hb0 hH hT l0 l1
    by_cases h1 : kindOf t = 1
    · exact chk_k1 c hS w0 hN (m + 1) f v t l w h hb0 hH hT l0 l1 h1
    by_cases h2 : kindOf t = 2
    · exact chk_k2 c hS w0 hN (m + 1) f v t l w h hb0 hH hT l0 l1 h2
    by_cases h3 : kindOf t = 3
    · exact chk_k3 c hS w0 hN (m + 1) f v t l w h hb0 hH hT l0 l1 h3
    by_cases h4 : kindOf t = 4
    · exact chk_k4 hV c hS w0 hN (m + 1) f v t l w h hb0 hH hT l0 l1 h4
    by_cases h5 : kindOf t = 5
    · exact chk_k5 c hS w0 hN m ih (by omega) f v t l w h hb0 hH hT l0 l1 h5
    by_cases h6 : kindOf t = 6
    · exact chk_k6 hV c hS w0 hN m ih (by omega) f v t l w h hb0 hH hT l0 l1 h6
    exact chk_other c hS w0 hN (m + 1) f v t l w h hb0 hH hT l0 l1 ⟨h1, h2, h3, h4, h5, h6⟩

/-- Is it a value, by the program. -/
def isV (t : T) : Bool := (chkT 12 t 1048576).isSome
/-- The tables lie in every later world. -/
def Keeps (Tb : World → Prop) : Prop := ∀ w w' : World, Tb w → Below w.heap.size w w' → Tb w'
/-- The tables' cells lie below whatever world has them. -/
def Lies (Tb : World → Prop) : Prop := ∀ w : World, Tb w → Stays Tb w.heap.size

set_option maxHeartbeats 1000000 in
theorem isValue_any {Tb : World → Prop} (hV : ValidSaid Tb) (hL : Lies Tb) (f : Nat) (v : Value) (t : T) (w : World) (h : At w f v t) (hT : Tb w) :
    Calls Tryz.prog 40 #[v] w fun e w' => e = .returned (.bool (isV t)) ∧ Below w.heap.size w w' := by
  obtain ⟨f, La, Ka, Lc, Kc, rfl, rfl, hf, hl, hk⟩ := h.open
  have HA := hid h
  have HT := hid hT
  clear h hT hf hl hk
  go_enter Tryz.func40, Tryz.ntmps40
  go_wp2_with fail
  have HB1 : Hid (Below w.heap.size w ((w.alloc (.cells #[.int .i64 (kindOf t), .int .i64 (nOf t), .string (sOf t), .slice La (nL t) Lc, .slice Ka (nK t) Kc] 25)).alloc (.cells #[.int .i64 1048576] 114))) := ((Below.refl _ _).alloc (Nat.le_refl _) _).alloc (by simp) _
  have hS : Stays Tb (w.heap.size + 1) := fun w1 w2 h1 h2 => hL w HT.out w1 w2 h1 (h2.mono (by omega))
  have HH : Hid (Holds (w.heap.size + 1) 1048576 ((w.alloc (.cells #[.int .i64 (kindOf t), .int .i64 (nOf t), .string (sOf t), .slice La (nL t) Lc, .slice Ka (nK t) Kc] 25)).alloc (.cells #[.int .i64 1048576] 114))) := ⟨by simp [go_sem], by simp [go_sem], by simp⟩
  have e12 : (Value.int .i64 0) = .int .i64 (12 - ((12 : Nat) : Int)) := rfl
  rw [e12]
  clear e12
  refine (chk_any hV (w.heap.size + 1) hS w (by omega) 12 (by omega) _ _ t 1048576 _ HA.out HB1.out HH.out (hL w HT.out _ _ HT.out HB1.out) (by omega) (by omega)).mono ?_
  rintro e w2 ⟨B2, l', K2, hr⟩
  have HB2 := hid (HB1.out.trans ((B2.below (by simp)).mono (by omega)))
  clear B2 K2
  rcases hr with ⟨hr, y0, y1, rfl⟩ | ⟨hr, rfl⟩
  · have Hr := hid hr
    clear hr
    go_wp2_with fail
    go_ret
    exact ⟨ret_bool (by unfold isV; rw [Hr.out]; rfl), HB2.out⟩
  · have Hr := hid hr
    clear hr
    go_wp2_with fail
    go_ret
    exact ⟨ret_bool (by unfold isV; rw [Hr.out]; rfl), HB2.out⟩
end Go.Proofs.YtknakfpciccoaaaGreatDoor
/- The walks of printObject, printValue and Print. -/
namespace Go.Proofs.YtknakfpciccoaaaGreatDoor
open Go.RowKit

set_option maxHeartbeats 4000000 in
set_option maxRecDepth 100000 in
theorem printObject_any {Tb : World → Prop} (w0 : World) (hS : Stays Tb w0.heap.size) (m : Nat) (ih : PrSaid Tb w0 m) (f : Nat) (La Ka : Option Addr) (Lc Kc : Nat) (t : T) (acc : List UInt8) (b : Nat) (w : World)
    (hl : ElemsAt w0 f La t) (hkn : NamesAt w0 Ka t) (hn : nL t ≤ 1759218604442) (hn' : nK t ≤ 1759218604442) (hnk : nK t = nL t) (hg : ∀ i, i < nL t → Good m (elt t i)) (hb : Below w0.heap.size w0 w) (h : Lib.IsBuilderF 65 5 w0.heap.size b (Lib.byteCells acc) w) (hT : Tb w)
    (hlen : acc.length + (joinO (wrT m) t (nK t)).length + 2 ≤ 100000000) :
    Calls Tryz.prog 79 #[.pointer (some ⟨b, 0, none⟩), .agg #[.int .i64 (kindOf t), .int .i64 (nOf t), .string (sOf t), .slice La (nL t) Lc, .slice Ka (nK t) Kc]] w (Wrote w0.heap.size b (acc ++ (123 :: (joinO (wrT m) t (nK t) ++ [125]))) w) := by
  have HS := hid (WrP.start h hb.size)
  have hblt0 := HS.out.blt
  have HB1 : Hid (Below w.heap.size w (w.alloc (.cells #[.int .i64 (kindOf t), .int .i64 (nOf t), .string (sOf t), .slice La (nL t) Lc, .slice Ka (nK t) Kc] 25))) := (Below.refl _ _).alloc (Nat.le_refl _) _
  have HSx := hid (HS.out.keep HB1.out)
  have HX0 := hid (WrP.start HSx.out.isb HSx.out.lo')
  have HTx := hid (hS _ _ hT (HB1.out.mono hb.size))
  have Hbx := hid (hb.trans HSx.out.below)
  have HST := hid hS
  have Hih := hid ih
  have Hl := hid hl
  have HK := hid hkn
  have Hg := hid hg
  have HNK := hid hnk
  have HM : Hid (∀ k, k ≤ nK t → (joinO (wrT m) t k).length + acc.length + 2 ≤ 100000000) := hid (fun k hk => by have := joinO_mono (wrT m) t hk; omega)
  have HE : Hid (acc ++ (123 :: (joinO (wrT m) t (nK t) ++ [125])) = acc ++ [123] ++ joinO (wrT m) t (nK t) ++ [125]) := by show _ = _; simp
  have hl0 : acc.length ≤ 100000000 := by omega
  clear h hS ih hl hkn hg hb hT hlen HS hnk
  go_enter Tryz.func79, Tryz.ntmps79
  go_wp2_with fail
  refine (wbyte_any w0.heap.size b acc 123 _ _ HX0.out (by omega)).mono ?_
  rintro e w1 ⟨rfl, hw1⟩
  obtain ⟨r0, r1, r2, r3, r4⟩ := oth_box hw1.oth hblt0
  have H1 := hid hw1
  clear hw1 HX0
  go_wp2_with fail
  clear r0 r1 r2 r3 r4
  go_loopg [11] (nK t) (fun g i wr => ∃ k : Nat, g = nK t - k ∧ k ≤ nK t ∧ i = .int .i64 k ∧ Hid (WrP w0.heap.size b (acc ++ [123] ++ joinO (wrT m) t k) (w.alloc (.cells #[.int .i64 (kindOf t), .int .i64 (nOf t), .string (sOf t), .slice La (nL t) Lc, .slice Ka (nK t) Kc] 25)) wr))
  case atStart => exact ⟨0, rfl, Nat.zero_le _, rfl, H1.out.acc (by simp [joinO])⟩
  case round =>
    obtain ⟨k, rfl, hk, rfl, HW⟩ := hrel
    have Hbr := hid (Hbx.out.trans HW.out.below)
    by_cases hlt : k < nK t
    · obtain ⟨kb, ko, rfl, hkb, hks, hkc⟩ := HK.out.keep Hbr.out k hlt
      have hltL : k < nL t := by have := HNK.out; omega
      have HM1 := hid (HM.out (k + 1) hlt)
      have hm0 := HM.out k hk
      have HG := hid (Hg.out k hltL)
      -- what comes behind the comma
      have HREST : Hid (∀ (acc2 : List UInt8) (w2 : World), WrP w0.heap.size b acc2 (w.alloc (.cells #[.int .i64 (kindOf t), .int .i64 (nOf t), .string (sOf t), .slice La (nL t) Lc, .slice (some ⟨kb, ko, none⟩) (nK t) Kc] 25)) w2 → acc2.length + (quoL (nam t k)).length ≤ 100000000 → Calls Tryz.prog 77 #[.pointer (some ⟨b, 0, none⟩), .string (nam t k)] w2 (Wrote w0.heap.size b (acc2 ++ quoL (nam t k)) w2)) :=
        hid (fun acc2 w2 h2 hl2 => printText_any w0.heap.size b acc2 (nam t k) w2 h2.isb h2.lo' hl2 hks)
      by_cases hk0 : k = 0
      · have HJ : Hid (joinO (wrT m) t (k + 1) = joinO (wrT m) t k ++ (quoL (nam t k) ++ (58 :: wrT m (elt t k)))) := by show joinO (wrT m) t k ++ _ = _; rw [if_pos hk0]; simp
        have HL1 : Hid ((joinO (wrT m) t k).length + (quoL (nam t k)).length + (wrT m (elt t k)).length + acc.length + 3 ≤ 100000000) := by show _ ≤ _; have := HM1.out; rw [HJ.out] at this; simp only [List.length_append, List.length_cons] at this; omega
        subst hk0
        simp only [Nat.add_zero] at hkc
        go_wp2_with fail
        refine (HREST.out (acc ++ [123] ++ joinO (wrT m) t 0) _ HW.out (by have := HL1.out; simp only [List.length_append, List.length_cons, List.length_nil] at this ⊢; omega)).mono ?_
        rintro e w2 ⟨rfl, hw2⟩
        have HW2 := hid (HW.out.trans hw2)
        clear hw2 hkc HREST
        go_wp2_with fail
        refine (wbyte_any w0.heap.size b _ 58 _ _ HW2.out (by have := HL1.out; simp only [List.length_append, List.length_cons, List.length_nil] at this ⊢; omega)).mono ?_
        rintro e w3 ⟨rfl, hw3⟩
        have HW3 := hid (HW2.out.trans hw3)
        clear hw3
        obtain ⟨r0, r1, r2, r3, r4⟩ := oth_box HW3.out.oth hblt0
        have Hb3 := hid (Hbx.out.trans HW3.out.below)
        have HT3 := hid (HST.out _ _ HTx.out HW3.out.below)
        obtain ⟨bb, o, A, B, C, D, rfl, hbl, p0, p1, p2, p3, p4, Ha⟩ := Hl.out.shape Hb3.out 0 hltL
        simp only [Nat.zero_mul, Nat.add_zero] at p0 p1 p2 p3 p4
        go_wp2_with fail
        refine (Hih.out f _ (elt t 0) _ b _ Ha.out HG.out Hb3.out HW3.out.isb HT3.out (by have := HL1.out; simp only [List.length_append, List.length_cons, List.length_nil] at this ⊢; omega)).mono ?_
        rintro e w4 ⟨rfl, hw4⟩
        have H4 := hid (HW3.out.trans hw4)
        clear hw4
        go_wp2_with fail
        go_roundg (nK t - (0 + 1))
        case rel => exact ⟨0 + 1, rfl, by omega, by go_num, H4.out.acc (by rw [HJ.out]; simp)⟩
        case measure => omega
      · have HJ : Hid (joinO (wrT m) t (k + 1) = joinO (wrT m) t k ++ ([44] ++ (quoL (nam t k) ++ (58 :: wrT m (elt t k))))) := by show joinO (wrT m) t k ++ _ = _; rw [if_neg hk0]
        have HL1 : Hid ((joinO (wrT m) t k).length + (quoL (nam t k)).length + (wrT m (elt t k)).length + acc.length + 4 ≤ 100000000) := by show _ ≤ _; have := HM1.out; rw [HJ.out] at this; simp only [List.length_append, List.length_cons, List.length_nil] at this; omega
        have y0 : 0 < k := by omega
        have y1 : (0 : Int) < (k : Int) := by omega
        clear hk0
        go_wp2_with fail
        refine (wbyte_any w0.heap.size b _ 44 _ _ HW.out (by have := HL1.out; simp only [List.length_append, List.length_cons, List.length_nil] at this ⊢; omega)).mono ?_
        rintro e w1' ⟨rfl, hw1'⟩
        have HW1 := hid (HW.out.trans hw1')
        clear hw1' hkc
        go_wp2_with fail
        refine (HREST.out (acc ++ [123] ++ joinO (wrT m) t k ++ [44]) _ HW1.out (by have := HL1.out; simp only [List.length_append, List.length_cons, List.length_nil] at this ⊢; omega)).mono ?_
        rintro e w2 ⟨rfl, hw2⟩
        have HW2 := hid (HW1.out.trans hw2)
        clear hw2 HREST
        go_wp2_with fail
        refine (wbyte_any w0.heap.size b _ 58 _ _ HW2.out (by have := HL1.out; simp only [List.length_append, List.length_cons, List.length_nil] at this ⊢; omega)).mono ?_
        rintro e w3 ⟨rfl, hw3⟩
        have HW3 := hid (HW2.out.trans hw3)
        clear hw3
        obtain ⟨r0, r1, r2, r3, r4⟩ := oth_box HW3.out.oth hblt0
        have Hb3 := hid (Hbx.out.trans HW3.out.below)
        have HT3 := hid (HST.out _ _ HTx.out HW3.out.below)
        obtain ⟨bb, o, A, B, C, D, rfl, hbl, p0, p1, p2, p3, p4, Ha⟩ := Hl.out.shape Hb3.out k hltL
        go_wp2_with fail
        refine (Hih.out f _ (elt t k) _ b _ Ha.out HG.out Hb3.out HW3.out.isb HT3.out (by have := HL1.out; simp only [List.length_append, List.length_cons, List.length_nil] at this ⊢; omega)).mono ?_
        rintro e w4 ⟨rfl, hw4⟩
        have H4 := hid (HW3.out.trans hw4)
        clear hw4
        go_wp2_with fail
        go_roundg (nK t - (k + 1))
        case rel => exact ⟨k + 1, rfl, by omega, by go_num, H4.out.acc (by rw [HJ.out]; simp)⟩
        case measure => omega
    · obtain rfl : k = nK t := by omega
      have hm0 := HM.out (nK t) hk
      go_wp2_with fail
      refine (wbyte_any w0.heap.size b _ 125 _ wr HW.out (by simp only [List.length_append, List.length_cons, List.length_nil]; omega)).mono ?_
      rintro e w2 ⟨rfl, hw2⟩
      have H2 := hid (HW.out.trans hw2)
      clear hw2
      go_wp2_with fail
      refine bodyPost_end (v := .tuple #[]) (by simp [results, Tryz.results79, go_sem]) rfl ?_
      exact ⟨rfl, (HSx.out.trans H2.out).acc HE.out.symm⟩
end Go.Proofs.YtknakfpciccoaaaGreatDoor
/- The walks of printValue and Print. -/
namespace Go.Proofs.YtknakfpciccoaaaGreatDoor
open Go.RowKit

theorem leaf_len {t : T} (hf : Fits t) : (leafW t).length + 1 ≤ 6 * leafBytes t := by
  unfold leafW leafBytes
  by_cases k1 : kindOf t = 1
  · rw [if_pos k1, if_pos k1]; simp
  rw [if_neg k1, if_neg k1]
  by_cases k2 : kindOf t = 2
  · rw [if_pos k2, if_pos k2]; split <;> simp
  rw [if_neg k2, if_neg k2]
  by_cases k3 : kindOf t = 3
  · rw [if_pos k3, if_pos k3]
    have := Lib.itoa_length_le (nOf t) hf.n0 hf.n1
    omega
  rw [if_neg k3, if_neg k3]
  split
  · have := quoL_len (sOf t)
    omega
  · simp
    omega
theorem joinL_len {g : T → List UInt8} {h : T → Nat} {t : T} : ∀ k, (∀ i, i < k → (g (elt t i)).length + 1 ≤ 6 * h (elt t i)) → (joinL g t k).length ≤ 6 * sumL h t k
  | 0, _ => by simp [joinL]
  | k + 1, hh => by
    have ih := joinL_len k (fun i hi => hh i (by omega))
    have hk := hh k (by omega)
    have hc : ((if k = 0 then [] else [44] : List UInt8)).length ≤ 1 := by split <;> simp
    simp only [joinL, sumL, List.length_append]
    omega
theorem joinO_len {g : T → List UInt8} {h : T → Nat} {t : T} : ∀ k, (∀ i, i < k → (g (elt t i)).length + 1 ≤ 6 * h (elt t i)) → (joinO g t k).length ≤ 6 * (sumK t k + sumL h t k)
  | 0, _ => by simp [joinO]
  | k + 1, hh => by
    have ih := joinO_len k (fun i hi => hh i (by omega))
    have hk := hh k (by omega)
    have hc : ((if k = 0 then [] else [44] : List UInt8)).length ≤ 1 := by split <;> simp
    have hq := quoL_len (nam t k)
    simp only [joinO, sumL, sumK, List.length_append, List.length_cons]
    omega
theorem good_leafK {t : T} (h : leafGood t) : kindOf t ≠ 5 ∧ kindOf t ≠ 6 := by
  obtain ⟨_, _, h⟩ := h
  rcases h with ⟨h, _⟩ | ⟨h, _⟩ | ⟨h, _⟩ | ⟨h, _⟩ <;> omega
theorem wr_len {w : World} : ∀ (m f : Nat) (v : Value) (t : T), At w f v t → Good m t → (wrT m t).length + 1 ≤ 6 * bytesT m t
  | 0, f, v, t, h, hg => by
    obtain ⟨g, La, Ka, Lc, Kc, _, _, hf, _⟩ := h.open
    exact leaf_len hf
  | m + 1, f, v, t, h, hg => by
    obtain ⟨g, La, Ka, Lc, Kc, _, _, hf, hl, _⟩ := h.open
    rcases hg with hg | ⟨_, _, he, hk⟩
    · obtain ⟨k5, k6⟩ := good_leafK hg
      unfold wrT bytesT
      rw [if_neg k5, if_neg k6, if_neg k5, if_neg k6]
      exact leaf_len hf
    · have hi : ∀ i, i < nL t → (wrT m (elt t i)).length + 1 ≤ 6 * bytesT m (elt t i) := fun i hi => by
        obtain ⟨b, o, c0, c1, c2, c3, c4, _, _, _, _, _, _, _, ha⟩ := hl.out i hi
        exact wr_len m g _ _ ha.out (he i hi)
      unfold wrT bytesT
      rcases hk with ⟨k5, _⟩ | ⟨k6, hnk, _⟩
      · rw [if_pos k5, if_pos k5]
        have := joinL_len (g := wrT m) (h := bytesT m) (nL t) hi
        simp only [List.length_cons, List.length_append, List.length_nil]
        omega
      · have k5 : kindOf t ≠ 5 := by omega
        rw [if_neg k5, if_pos k6, if_neg k5, if_pos k6, hnk]
        have := joinO_len (g := wrT m) (h := bytesT m) (nL t) hi
        simp only [List.length_cons, List.length_append, List.length_nil]
        omega
set_option maxHeartbeats 4000000 in
set_option maxRecDepth 100000 in
theorem print_step {Tb : World → Prop} (hF : FmtSaid Tb) (w0 : World) (hS : Stays Tb w0.heap.size) (m : Nat) (ih : PrSaid Tb w0 m) : PrSaid Tb w0 (m + 1) := by
  intro f v t acc b w h hg hb hi hT hl
  obtain ⟨g, La, Ka, Lc, Kc, rfl, rfl, hf, hl', hk'⟩ := h.open
  rcases hg with hg | ⟨g1, g2, he, hk⟩
  · obtain ⟨k5, k6⟩ := good_leafK hg
    rw [wrT_leaf k5 k6] at hl ⊢
    exact print_leaf hF w0 hS t hg hf acc b w La Ka Lc Kc hb hi hT hl
  clear g1 g2
  have HS := hid (WrP.start hi hb.size)
  have HB1 : Hid (Below w.heap.size w (w.alloc (.cells #[.int .i64 (kindOf t), .int .i64 (nOf t), .string (sOf t), .slice La (nL t) Lc, .slice Ka (nK t) Kc] 25))) := (Below.refl _ _).alloc (Nat.le_refl _) _
  have HS1 := hid (HS.out.keep HB1.out)
  have HT1 := hid (hS _ _ hT (HB1.out.mono hb.size))
  have Hb1 := hid (hb.trans HS1.out.below)
  rcases hk with ⟨hk, g3⟩ | ⟨hk, hnk, g4, g5⟩
  · have e1 : (kindOf t == 1) = false := by rw [hk]; rfl
    have e2 : (kindOf t == 2) = false := by rw [hk]; rfl
    have e3 : (kindOf t == 3) = false := by rw [hk]; rfl
    have e4 : (kindOf t == 4) = false := by rw [hk]; rfl
    have e5 : (kindOf t == 5) = true := by rw [hk]; rfl
    have HW : Hid (wrT (m + 1) t = 91 :: (joinL (wrT m) t (nL t) ++ [93])) := by show _ = _; rw [wrT, if_pos hk]
    rw [HW.out] at hl ⊢
    have HP := hid (printList_any w0 hS m ih g La Lc t acc b _ hl'.out hf.l1 he Hb1.out HS1.out.isb HT1.out (by simp only [List.length_cons, List.length_append, List.length_nil] at hl; omega))
    clear hk hl g3 he hi hT hb hf hl' hk' ih hS hF h
    go_enter Tryz.func41, Tryz.ntmps41
    go_wp2_with fail
    refine HP.out.mono ?_
    rintro e w2 ⟨rfl, hw2⟩
    have H2 := hid (HS1.out.trans hw2)
    clear hw2 HP
    go_wp2_with fail
    refine bodyPost_end (v := .tuple #[]) (by simp [results, Tryz.results41, go_sem]) rfl ?_
    exact ⟨rfl, H2.out⟩
  · have e1 : (kindOf t == 1) = false := by rw [hk]; rfl
    have e2 : (kindOf t == 2) = false := by rw [hk]; rfl
    have e3 : (kindOf t == 3) = false := by rw [hk]; rfl
    have e4 : (kindOf t == 4) = false := by rw [hk]; rfl
    have e5 : (kindOf t == 5) = false := by rw [hk]; rfl
    have e6 : (kindOf t == 6) = true := by rw [hk]; rfl
    have HW : Hid (wrT (m + 1) t = 123 :: (joinO (wrT m) t (nK t) ++ [125])) := by show _ = _; rw [wrT, if_neg (by omega), if_pos hk]
    rw [HW.out] at hl ⊢
    have HP := hid (printObject_any w0 hS m ih g La Ka Lc Kc t acc b _ hl'.out hk'.out hf.l1 (by rw [hnk]; exact hf.l1) hnk he Hb1.out HS1.out.isb HT1.out (by simp only [List.length_cons, List.length_append, List.length_nil] at hl; omega))
    clear hk hl g4 g5 hnk he hi hT hb hf hl' hk' ih hS hF h
    go_enter Tryz.func41, Tryz.ntmps41
    go_wp2_with fail
    refine HP.out.mono ?_
    rintro e w2 ⟨rfl, hw2⟩
    have H2 := hid (HS1.out.trans hw2)
    clear hw2 HP
    go_wp2_with fail
    refine bodyPost_end (v := .tuple #[]) (by simp [results, Tryz.results41, go_sem]) rfl ?_
    exact ⟨rfl, H2.out⟩
theorem print_any {Tb : World → Prop} (hF : FmtSaid Tb) (w0 : World) (hS : Stays Tb w0.heap.size) : ∀ m, PrSaid Tb w0 m
  | 0 => by
    intro f v t acc b w h hg hb hi hT hl
    obtain ⟨g, La, Ka, Lc, Kc, rfl, rfl, hf, _, _⟩ := h.open
    exact print_leaf hF w0 hS t hg hf acc b w La Ka Lc Kc hb hi hT hl
  | m + 1 => print_step hF w0 hS m (print_any hF w0 hS m)
/-- What is answered. -/
def ansS (ok : Bool) (l : List UInt8) : ByteArray := if ok then baL l else ⟨#[]⟩
def ansF (ok : Bool) : Int := if ok then 0 else 5
set_option maxHeartbeats 4000000 in
set_option maxRecDepth 100000 in
theorem tPrint_any {Tb : World → Prop} (hV : ValidSaid Tb) (hF : FmtSaid Tb) (hL : Lies Tb) (f : Nat) (v : Value) (t : T) (w : World) (h : At w f v t) (hT : Tb w) :
    Calls Tryz.prog 13 #[v] w fun e w' => e = .returned (.tuple #[.string (ansS (isV t) (wrT 12 t)), .int .i64 (ansF (isV t))]) ∧ Below w.heap.size w w' := by
  have HA := hid h
  have HT := hid hT
  have HF := hid hF
  have HL := hid hL
  have HV := hid hV
  obtain ⟨f1, La, Ka, Lc, Kc, hf1, rfl, hf, hl, hk⟩ := h.open
  clear h hf hf1 hl hk hT hF hL hV
  have HB1 : Hid (Below w.heap.size w (w.alloc (.cells #[.int .i64 (kindOf t), .int .i64 (nOf t), .string (sOf t), .slice La (nL t) Lc, .slice Ka (nK t) Kc] 25))) := (Below.refl _ _).alloc (Nat.le_refl _) _
  have HI := hid (isValue_any HV.out HL.out f _ t _ (HA.out.keep HB1.out) (HL.out w HT.out _ _ HT.out HB1.out))
  go_enter Tryz.func13, Tryz.ntmps13
  go_wp2_with fail
  refine HI.out.mono ?_
  rintro e w2 ⟨rfl, b2⟩
  have HB2 : Hid (Below (w.heap.size + 1) (w.alloc (.cells #[.int .i64 (kindOf t), .int .i64 (nOf t), .string (sOf t), .slice La (nL t) Lc, .slice Ka (nK t) Kc] 25)) w2) := b2.mono (by simp)
  obtain ⟨q0, q1, q2, q3, q4, hz, hbw⟩ := box_facts HB2.out
  have Hbw := hid hbw
  clear b2 hbw HI
  cases hi : isV t with
  | false =>
    have Hi := hid hi
    clear hi
    go_wp2_with fail
    go_ret2
    exact ⟨by rw [Hi.out]; rfl, Hbw.out⟩
  | true =>
    have Hi := hid hi
    have HG := hid ((isV_iff t).1 hi)
    have HT2 := hid (HL.out w HT.out _ _ HT.out Hbw.out)
    have HA2 := hid (HA.out.keep Hbw.out)
    have HW := hid (wr_len 12 f _ t HA2.out HG.out.1)
    have HFr : Hid (Lib.IsBuilderF 65 5 w2.heap.size w2.heap.size (Lib.byteCells []) (w2.alloc (.cells #[.pointer none, .slice none 0 0] 65))) := Lib.IsBuilderF.of (Lib.fresh_isBuilder 65 5 w2)
    have HBa : Hid (Below w2.heap.size w2 (w2.alloc (.cells #[.pointer none, .slice none 0 0] 65))) := (Below.refl _ _).alloc (Nat.le_refl _) _
    have HP := hid (print_any HF.out w2 (HL.out w2 HT2.out) 12 f _ t [] w2.heap.size _ HA2.out HG.out.1 HBa.out HFr.out (HL.out w2 HT2.out _ _ HT2.out HBa.out) (by have := HW.out; have := HG.out.2; simp only [List.length_nil]; omega))
    clear hi
    go_wp2_with fail
    refine HP.out.mono ?_
    rintro e w3 ⟨rfl, hw3⟩
    have H3 := hid hw3
    have HB3 := hid (Hbw.out.trans ((HBa.out.trans hw3.below).mono (Nat.le_of_lt hz)))
    clear hw3 HP
    go_wp2_with fail
    refine (string_any w2.heap.size w2.heap.size _ _ H3.out.isb H3.out.lo').mono ?_
    rintro e w4 ⟨rfl, b4⟩
    have HB4 := hid (HB3.out.trans (b4.mono (Nat.le_of_lt hz)))
    clear b4
    go_wp2_with fail
    go_ret2
    exact ⟨by rw [Hi.out]; rfl, HB4.out⟩
end Go.Proofs.YtknakfpciccoaaaGreatDoor
