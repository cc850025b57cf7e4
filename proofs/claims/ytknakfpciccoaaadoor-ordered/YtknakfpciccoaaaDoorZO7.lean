import Derived.Test.YtknakfpciccoaaaDoorZO6
import Derived.Test.YtknakfpciccoaaaDoorZO2
import Derived.Lib.ItoaNum
import Derived.KernelRfl
import Derived.Test.YtknakfpciccoaaaDoorZO4
import Derived.Test.YtknakfpciccoaaaDoorProg
import Derived.WalkKit
import Derived.WalkSpells
import Derived.WalkLawsBesides
import Derived.Defers
import Derived.Recover
/- The walk of the checker's value, of the kinds that hold others, and of a text. -/
namespace Go.Proofs.YtknakfpciccoaaaDoor
open Go.RowKit


set_option maxHeartbeats 1000000 in
theorem chk_k4 {Tb : World → Prop} (hV : ValidSaid Tb) (c : Nat) (hS : Stays Tb c) (w0 : World) (hN : w0.heap.size ≤ c) (m : Nat)  (f : Nat) (v : Value) (t : T) (l : Int) (w : World)
    (h : At w0 f v t) (hb0 : Below w0.heap.size w0 w) (hH : Holds c l w) (hT : Tb w) (l0 : 0 ≤ l) (l1 : l ≤ 1048576) (hk0 : kindOf t = 4) :
    Calls Tryd.prog 62 #[.pointer (some ⟨c, 0, none⟩), v, .int .i64 (12 - (m : Int))] w fun e w' => ChkPost c w (chkT m t l) e w' := by
  obtain ⟨f, La, Ka, Lc, Kc, rfl, rfl, hf, hl, hk⟩ := h.open
  have hlen := hf.l1
  have klen := hf.m1
  have slen := hf.s1
  have hcw := hH.lt
  have HB1 : Hid (Below w.heap.size w (w.alloc (.cells #[.int .i64 (kindOf t), .int .i64 (nOf t), .string (sOf t), .slice La (nL t) Lc, .slice Ka (nK t) Kc] 26))) := (Below.refl _ _).alloc (Nat.le_refl _) _
  have HK1 := hid (hH.keep HB1.out)
  have HT0 := hid hT
  have Hb0 := hid hb0
  have HA := hid (h.keep (hb0.trans (HB1.out.mono (Nat.le_trans hN (Nat.le_of_lt hH.lt)))))
  clear h hb0 hH hT hf
  have HR0 : Hid (chkT m t l = if nOf t = 0 ∧ noLists t = true then (takeO 5 l).bind (textO (sOf t)) else none) := by
    show chkT m t l = _
    cases m <;> simp [chkT, leafO, hk0]
  have g1 : (kindOf t == 1) = false := by first | (rw [hk0]; rfl) | (simp; omega)
  have g2 : (kindOf t == 2) = false := by first | (rw [hk0]; rfl) | (simp; omega)
  have g3 : (kindOf t == 3) = false := by first | (rw [hk0]; rfl) | (simp; omega)
  have g4 : (kindOf t == 4) = true := by rw [hk0]; rfl
  clear hk0 hlen klen hl hk
  by_cases n0 : nOf t = 0
  · have en : (nOf t == 0) = true := by rw [n0]; rfl
    have N0 := hid n0
    clear n0
    go_enter Tryd.func62, Tryd.ntmps62
    go_wp2_with fail
    refine (hasNoLists_any _ _ _ _ HA.out).mono ?_
    rintro e w2 ⟨rfl, B2⟩
    have HB2 := hid B2
    clear B2
    cases hn : noLists t with
    | false =>
      have HR : Hid (chkT m t l = none) := by show chkT m t l = none; rw [HR0.out, if_neg (by rw [hn]; simp)]
      clear hn
      go_wp2_with fail
      go_ret
      exact ⟨(But.of HB1.out).trans (But.of HB2.out), l, HK1.out.keep HB2.out, Or.inr ⟨HR.out, rfl⟩⟩
    | true =>
      have HR : Hid (chkT m t l = (takeO 5 l).bind (textO (sOf t))) := by show chkT m t l = _; rw [HR0.out, if_pos ⟨N0.out, hn⟩]
      clear hn
      go_wp2_with fail
      refine (take2_any c l 5 w2 (HK1.out.keep HB2.out) l0 l1 (by omega) (by omega)).mono ?_
      rintro e w3 ⟨rfl, K3, B3⟩
      have HK3 := hid K3
      have HB3 := hid ((But.of HB2.out).trans B3)
      clear K3 B3
      by_cases h9 : 5 ≤ l
      · have HR2 : Hid (takeO 5 l = some (l - 5)) := by show takeO 5 l = _; unfold takeO; rw [if_pos h9]
        obtain ⟨q0, q1, q2, q3, q4, hz⟩ := box_but hcw HB3.out
        have HB4 := hid ((But.of HB1.out).trans HB3.out)
        go_wp2_with fail
        refine (text_any hV c hS (sOf t) (l - 5) w3 HK3.out (hS _ _ HT0.out (HB4.out.below (Nat.le_of_lt hcw))) (by omega) (by omega) slen).mono ?_
        rintro e w4 ⟨B4, l', K4, hr⟩
        have HB5 := hid (HB4.out.trans B4)
        have HK4 := hid K4
        clear B4 K4
        have HRR : Hid (chkT m t l = textO (sOf t) (l - 5)) := by show chkT m t l = _; rw [HR.out, HR2.out]; rfl
        rcases hr with ⟨hr, y0, y1, rfl⟩ | ⟨hr, rfl⟩
        · have Hr := hid hr
          clear hr
          go_wp2_with fail
          go_ret
          exact ⟨HB5.out, l', HK4.out, Or.inl ⟨HRR.out.trans Hr.out, y0, y1, rfl⟩⟩
        · have Hr := hid hr
          clear hr
          go_wp2_with fail
          go_ret
          exact ⟨HB5.out, l', HK4.out, Or.inr ⟨HRR.out.trans Hr.out, rfl⟩⟩
      · have HR2 : Hid (takeO 5 l = none) := by show takeO 5 l = _; unfold takeO; rw [if_neg h9]
        have hd : decide ((5 : Int) ≤ l) = false := decide_eq_false h9
        clear h9
        go_wp2_with fail
        go_ret
        exact ⟨(But.of HB1.out).trans HB3.out, l - 5, HK3.out, Or.inr ⟨by rw [HR.out, HR2.out]; rfl, rfl⟩⟩
  · have en : (nOf t == 0) = false := by simpa using n0
    have HR : Hid (chkT m t l = none) := by show chkT m t l = none; rw [HR0.out, if_neg (fun h => n0 h.1)]
    clear n0
    go_enter Tryd.func62, Tryd.ntmps62
    go_wp2_with fail
    go_ret
    exact ⟨But.of HB1.out, l, HK1.out, Or.inr ⟨HR.out, rfl⟩⟩

set_option maxHeartbeats 1000000 in
theorem chk_z5 {Tb : World → Prop} (c : Nat) (w0 : World) (hN : w0.heap.size ≤ c)   (f : Nat) (v : Value) (t : T) (l : Int) (w : World)
    (h : At w0 f v t) (hb0 : Below w0.heap.size w0 w) (hH : Holds c l w) (hT : Tb w) (_l0 : 0 ≤ l) (_l1 : l ≤ 1048576) (hk0 : kindOf t = 5) :
    Calls Tryd.prog 62 #[.pointer (some ⟨c, 0, none⟩), v, .int .i64 (12 - ((0 : Nat) : Int))] w fun e w' => ChkPost c w (chkT 0 t l) e w' := by
  obtain ⟨f, La, Ka, Lc, Kc, rfl, rfl, hf, hl, hk⟩ := h.open
  have hlen := hf.l1
  have klen := hf.m1
  have slen := hf.s1
  have hcw := hH.lt
  have HB1 : Hid (Below w.heap.size w (w.alloc (.cells #[.int .i64 (kindOf t), .int .i64 (nOf t), .string (sOf t), .slice La (nL t) Lc, .slice Ka (nK t) Kc] 26))) := (Below.refl _ _).alloc (Nat.le_refl _) _
  have HK1 := hid (hH.keep HB1.out)
  have HT0 := hid hT
  have Hb0 := hid hb0
  have HA := hid (h.keep (hb0.trans (HB1.out.mono (Nat.le_trans hN (Nat.le_of_lt hH.lt)))))
  clear h hb0 hH hT hf
  have HR : Hid (chkT 0 t l = none) := by
    show chkT 0 t l = _
    simp [chkT, leafO, hk0]
  have g1 : (kindOf t == 1) = false := by first | (rw [hk0]; rfl) | (simp; omega)
  have g2 : (kindOf t == 2) = false := by first | (rw [hk0]; rfl) | (simp; omega)
  have g3 : (kindOf t == 3) = false := by first | (rw [hk0]; rfl) | (simp; omega)
  have g4 : (kindOf t == 4) = false := by first | (rw [hk0]; rfl) | (simp; omega)
  have g5 : (kindOf t == 5) = true := by rw [hk0]; rfl
  clear hk0 HA hlen klen slen hcw hl hk HT0 Hb0
  by_cases n0 : nOf t = 0
  · have en : (nOf t == 0) = true := by rw [n0]; rfl
    clear n0
    by_cases s0 : noText t = true
    · have es : (sOf t).toList.isEmpty = true := s0
      clear s0
      by_cases k0 : nK t = 0
      · have ek : ((nK t : Int) == 0) = true := by simp [k0]
        clear k0
        go_enter Tryd.func62, Tryd.ntmps62
        go_wp2_with fail
        go_ret
        exact ⟨But.of HB1.out, l, HK1.out, Or.inr ⟨HR.out, rfl⟩⟩
      · have ek : ((nK t : Int) == 0) = false := by simp; omega
        clear k0
        go_enter Tryd.func62, Tryd.ntmps62
        go_wp2_with fail
        go_ret
        exact ⟨But.of HB1.out, l, HK1.out, Or.inr ⟨HR.out, rfl⟩⟩
    · have es : (sOf t).toList.isEmpty = false := by simpa [noText] using s0
      clear s0
      go_enter Tryd.func62, Tryd.ntmps62
      go_wp2_with fail
      go_ret
      exact ⟨But.of HB1.out, l, HK1.out, Or.inr ⟨HR.out, rfl⟩⟩
  · have en : (nOf t == 0) = false := by simpa using n0
    clear n0
    go_enter Tryd.func62, Tryd.ntmps62
    go_wp2_with fail
    go_ret
    exact ⟨But.of HB1.out, l, HK1.out, Or.inr ⟨HR.out, rfl⟩⟩

set_option maxHeartbeats 1000000 in
theorem chk_z6 {Tb : World → Prop} (c : Nat) (w0 : World) (hN : w0.heap.size ≤ c)   (f : Nat) (v : Value) (t : T) (l : Int) (w : World)
    (h : At w0 f v t) (hb0 : Below w0.heap.size w0 w) (hH : Holds c l w) (hT : Tb w) (_l0 : 0 ≤ l) (_l1 : l ≤ 1048576) (hk0 : kindOf t = 6) :
    Calls Tryd.prog 62 #[.pointer (some ⟨c, 0, none⟩), v, .int .i64 (12 - ((0 : Nat) : Int))] w fun e w' => ChkPost c w (chkT 0 t l) e w' := by
  obtain ⟨f, La, Ka, Lc, Kc, rfl, rfl, hf, hl, hk⟩ := h.open
  have hlen := hf.l1
  have klen := hf.m1
  have slen := hf.s1
  have hcw := hH.lt
  have HB1 : Hid (Below w.heap.size w (w.alloc (.cells #[.int .i64 (kindOf t), .int .i64 (nOf t), .string (sOf t), .slice La (nL t) Lc, .slice Ka (nK t) Kc] 26))) := (Below.refl _ _).alloc (Nat.le_refl _) _
  have HK1 := hid (hH.keep HB1.out)
  have HT0 := hid hT
  have Hb0 := hid hb0
  have HA := hid (h.keep (hb0.trans (HB1.out.mono (Nat.le_trans hN (Nat.le_of_lt hH.lt)))))
  clear h hb0 hH hT hf
  have HR : Hid (chkT 0 t l = none) := by
    show chkT 0 t l = _
    simp [chkT, leafO, hk0]
  have g1 : (kindOf t == 1) = false := by first | (rw [hk0]; rfl) | (simp; omega)
  have g2 : (kindOf t == 2) = false := by first | (rw [hk0]; rfl) | (simp; omega)
  have g3 : (kindOf t == 3) = false := by first | (rw [hk0]; rfl) | (simp; omega)
  have g4 : (kindOf t == 4) = false := by first | (rw [hk0]; rfl) | (simp; omega)
  have g5 : (kindOf t == 5) = false := by first | (rw [hk0]; rfl) | (simp; omega)
  have g6 : (kindOf t == 6) = true := by rw [hk0]; rfl
  clear hk0 HA hlen klen slen hcw hl hk HT0 Hb0
  by_cases n0 : nOf t = 0
  · have en : (nOf t == 0) = true := by rw [n0]; rfl
    clear n0
    by_cases s0 : noText t = true
    · have es : (sOf t).toList.isEmpty = true := s0
      clear s0
      by_cases k0 : nK t = nL t
      · have ek : ((nK t : Int) == (nL t : Int)) = true := by simp [k0]
        clear k0
        go_enter Tryd.func62, Tryd.ntmps62
        go_wp2_with fail
        go_ret
        exact ⟨But.of HB1.out, l, HK1.out, Or.inr ⟨HR.out, rfl⟩⟩
      · have ek : ((nK t : Int) == (nL t : Int)) = false := by simp; omega
        clear k0
        go_enter Tryd.func62, Tryd.ntmps62
        go_wp2_with fail
        go_ret
        exact ⟨But.of HB1.out, l, HK1.out, Or.inr ⟨HR.out, rfl⟩⟩
    · have es : (sOf t).toList.isEmpty = false := by simpa [noText] using s0
      clear s0
      go_enter Tryd.func62, Tryd.ntmps62
      go_wp2_with fail
      go_ret
      exact ⟨But.of HB1.out, l, HK1.out, Or.inr ⟨HR.out, rfl⟩⟩
  · have en : (nOf t == 0) = false := by simpa using n0
    clear n0
    go_enter Tryd.func62, Tryd.ntmps62
    go_wp2_with fail
    go_ret
    exact ⟨But.of HB1.out, l, HK1.out, Or.inr ⟨HR.out, rfl⟩⟩

set_option maxHeartbeats 1000000 in
theorem chk_k5 {Tb : World → Prop} (c : Nat) (hS : Stays Tb c) (w0 : World) (hN : w0.heap.size ≤ c) (m : Nat)  (ih : ChkSaid Tb c w0 m) (hm : m < 12) (f : Nat) (v : Value) (t : T) (l : Int) (w : World)
    (h : At w0 f v t) (hb0 : Below w0.heap.size w0 w) (hH : Holds c l w) (hT : Tb w) (l0 : 0 ≤ l) (l1 : l ≤ 1048576) (hk0 : kindOf t = 5) :
    Calls Tryd.prog 62 #[.pointer (some ⟨c, 0, none⟩), v, .int .i64 (12 - ((m + 1 : Nat) : Int))] w fun e w' => ChkPost c w (chkT (m + 1) t l) e w' := by
  obtain ⟨f, La, Ka, Lc, Kc, rfl, rfl, hf, hl, hk⟩ := h.open
  have hlen := hf.l1
  have klen := hf.m1
  have slen := hf.s1
  have hcw := hH.lt
  have HB1 : Hid (Below w.heap.size w (w.alloc (.cells #[.int .i64 (kindOf t), .int .i64 (nOf t), .string (sOf t), .slice La (nL t) Lc, .slice Ka (nK t) Kc] 26))) := (Below.refl _ _).alloc (Nat.le_refl _) _
  have HK1 := hid (hH.keep HB1.out)
  have HT0 := hid hT
  have Hb0 := hid hb0
  have HA := hid (h.keep (hb0.trans (HB1.out.mono (Nat.le_trans hN (Nat.le_of_lt hH.lt)))))
  clear h hb0 hH hT hf
  have HR0 : Hid (chkT (m + 1) t l = if nOf t = 0 ∧ noText t = true ∧ nK t = 0 then (takeO 5 l).bind (valuesL (chkT m) t (nL t)) else none) := by
    show chkT (m + 1) t l = _
    simp [chkT, hk0]
  have g1 : (kindOf t == 1) = false := by first | (rw [hk0]; rfl) | (simp; omega)
  have g2 : (kindOf t == 2) = false := by first | (rw [hk0]; rfl) | (simp; omega)
  have g3 : (kindOf t == 3) = false := by first | (rw [hk0]; rfl) | (simp; omega)
  have g4 : (kindOf t == 4) = false := by first | (rw [hk0]; rfl) | (simp; omega)
  have g5 : (kindOf t == 5) = true := by rw [hk0]; rfl
  have em : (12 : Int) - ((m + 1 : Nat) : Int) = 11 - m := by omega
  rw [em]
  have em2 : (11 : Int) - m + 1 = 12 - m := by omega
  have hm2 : (11 : Int) - m < 12 := by omega
  clear hk0 HA em
  by_cases n0 : nOf t = 0
  · have en : (nOf t == 0) = true := by rw [n0]; rfl
    by_cases s0 : noText t = true
    · have es : (sOf t).toList.isEmpty = true := s0
      by_cases k0 : nK t = 0
      · have ek : ((nK t : Int) == 0) = true := by simp [k0]
        have HR : Hid (chkT (m + 1) t l = (takeO 5 l).bind (valuesL (chkT m) t (nL t))) := by show chkT (m + 1) t l = _; rw [HR0.out, if_pos ⟨n0, s0, k0⟩]
        clear n0 s0 k0
        go_enter Tryd.func62, Tryd.ntmps62
        go_wp2_with fail
        refine (take2_any c l 5 _ HK1.out l0 l1 (by omega) (by omega)).mono ?_
        rintro e w3 ⟨rfl, K3, B3⟩
        have HK3 := hid K3
        have HB3 := hid B3
        clear K3 B3
        by_cases h9 : 5 ≤ l
        · have HR2 : Hid (takeO 5 l = some (l - 5)) := by show takeO 5 l = _; unfold takeO; rw [if_pos h9]
          obtain ⟨q0, q1, q2, q3, q4, hz⟩ := box_but hcw HB3.out
          have HB4 := hid ((But.of HB1.out).trans HB3.out)
          go_wp2_with fail
          have HRR : Hid (chkT (m + 1) t l = valuesL (chkT m) t (nL t) (l - 5)) := by show chkT (m + 1) t l = _; rw [HR.out, HR2.out]; rfl
          refine (values_any c hS w0 hN m ih f La Lc t (l - 5) w3 (hl.out) hlen (Hb0.out.trans ((HB4.out.below (Nat.le_of_lt hcw)).mono hN)) HK3.out (hS _ _ HT0.out (HB4.out.below (Nat.le_of_lt hcw))) (by omega) (by omega)).mono ?_
          rintro e w4 ⟨B4, l', K4, hr⟩
          have HB5 := hid (HB4.out.trans B4)
          have HK4 := hid K4
          clear B4 K4
          rcases hr with ⟨hr, y0, y1, rfl⟩ | ⟨hr, rfl⟩
          · have Hr := hid hr
            clear hr
            go_wp2_with fail
            go_ret
            exact ⟨HB5.out, l', HK4.out, Or.inl ⟨HRR.out.trans Hr.out, y0, y1, rfl⟩⟩
          · have Hr := hid hr
            clear hr
            go_wp2_with fail
            go_ret
            exact ⟨HB5.out, l', HK4.out, Or.inr ⟨HRR.out.trans Hr.out, rfl⟩⟩
        · have HR2 : Hid (takeO 5 l = none) := by show takeO 5 l = _; unfold takeO; rw [if_neg h9]
          have hd : decide ((5 : Int) ≤ l) = false := decide_eq_false h9
          clear h9
          go_wp2_with fail
          go_ret
          exact ⟨(But.of HB1.out).trans HB3.out, l - 5, HK3.out, Or.inr ⟨by rw [HR.out, HR2.out]; rfl, rfl⟩⟩
      · have ek : ((nK t : Int) == 0) = false := by simp; omega
        have HR : Hid (chkT (m + 1) t l = none) := by show chkT (m + 1) t l = none; rw [HR0.out, if_neg (fun h => k0 h.2.2)]
        clear n0 s0 k0
        go_enter Tryd.func62, Tryd.ntmps62
        go_wp2_with fail
        go_ret
        exact ⟨But.of HB1.out, l, HK1.out, Or.inr ⟨HR.out, rfl⟩⟩
    · have es : (sOf t).toList.isEmpty = false := by simpa [noText] using s0
      have HR : Hid (chkT (m + 1) t l = none) := by show chkT (m + 1) t l = none; rw [HR0.out, if_neg (fun h => s0 h.2.1)]
      clear n0 s0
      go_enter Tryd.func62, Tryd.ntmps62
      go_wp2_with fail
      go_ret
      exact ⟨But.of HB1.out, l, HK1.out, Or.inr ⟨HR.out, rfl⟩⟩
  · have en : (nOf t == 0) = false := by simpa using n0
    have HR : Hid (chkT (m + 1) t l = none) := by show chkT (m + 1) t l = none; rw [HR0.out, if_neg (fun h => n0 h.1)]
    clear n0
    go_enter Tryd.func62, Tryd.ntmps62
    go_wp2_with fail
    go_ret
    exact ⟨But.of HB1.out, l, HK1.out, Or.inr ⟨HR.out, rfl⟩⟩

set_option maxHeartbeats 1000000 in
theorem chk_k6 {Tb : World → Prop} (hV : ValidSaid Tb) (c : Nat) (hS : Stays Tb c) (w0 : World) (hN : w0.heap.size ≤ c) (m : Nat)  (ih : ChkSaid Tb c w0 m) (hm : m < 12) (f : Nat) (v : Value) (t : T) (l : Int) (w : World)
    (h : At w0 f v t) (hb0 : Below w0.heap.size w0 w) (hH : Holds c l w) (hT : Tb w) (l0 : 0 ≤ l) (l1 : l ≤ 1048576) (hk0 : kindOf t = 6) :
    Calls Tryd.prog 62 #[.pointer (some ⟨c, 0, none⟩), v, .int .i64 (12 - ((m + 1 : Nat) : Int))] w fun e w' => ChkPost c w (chkT (m + 1) t l) e w' := by
  obtain ⟨f, La, Ka, Lc, Kc, rfl, rfl, hf, hl, hk⟩ := h.open
  have hlen := hf.l1
  have klen := hf.m1
  have slen := hf.s1
  have hcw := hH.lt
  have HB1 : Hid (Below w.heap.size w (w.alloc (.cells #[.int .i64 (kindOf t), .int .i64 (nOf t), .string (sOf t), .slice La (nL t) Lc, .slice Ka (nK t) Kc] 26))) := (Below.refl _ _).alloc (Nat.le_refl _) _
  have HK1 := hid (hH.keep HB1.out)
  have HT0 := hid hT
  have Hb0 := hid hb0
  have HA := hid (h.keep (hb0.trans (HB1.out.mono (Nat.le_trans hN (Nat.le_of_lt hH.lt)))))
  clear h hb0 hH hT hf
  have HR0 : Hid (chkT (m + 1) t l = if nOf t = 0 ∧ noText t = true ∧ nK t = nL t then ((takeO 5 l).bind (namesO t)).bind (valuesL (chkT m) t (nL t)) else none) := by
    show chkT (m + 1) t l = _
    simp [chkT, hk0]
  have g1 : (kindOf t == 1) = false := by first | (rw [hk0]; rfl) | (simp; omega)
  have g2 : (kindOf t == 2) = false := by first | (rw [hk0]; rfl) | (simp; omega)
  have g3 : (kindOf t == 3) = false := by first | (rw [hk0]; rfl) | (simp; omega)
  have g4 : (kindOf t == 4) = false := by first | (rw [hk0]; rfl) | (simp; omega)
  have g5 : (kindOf t == 5) = false := by first | (rw [hk0]; rfl) | (simp; omega)
  have g6 : (kindOf t == 6) = true := by rw [hk0]; rfl
  have em : (12 : Int) - ((m + 1 : Nat) : Int) = 11 - m := by omega
  rw [em]
  have em2 : (11 : Int) - m + 1 = 12 - m := by omega
  have hm2 : (11 : Int) - m < 12 := by omega
  clear hk0 HA em
  by_cases n0 : nOf t = 0
  · have en : (nOf t == 0) = true := by rw [n0]; rfl
    by_cases s0 : noText t = true
    · have es : (sOf t).toList.isEmpty = true := s0
      by_cases k0 : nK t = nL t
      · have ek : ((nK t : Int) == (nL t : Int)) = true := by simp [k0]
        have HR : Hid (chkT (m + 1) t l = ((takeO 5 l).bind (namesO t)).bind (valuesL (chkT m) t (nL t))) := by show chkT (m + 1) t l = _; rw [HR0.out, if_pos ⟨n0, s0, k0⟩]
        clear n0 s0 k0
        go_enter Tryd.func62, Tryd.ntmps62
        go_wp2_with fail
        refine (take2_any c l 5 _ HK1.out l0 l1 (by omega) (by omega)).mono ?_
        rintro e w3 ⟨rfl, K3, B3⟩
        have HK3 := hid K3
        have HB3 := hid B3
        clear K3 B3
        by_cases h9 : 5 ≤ l
        · have HR2 : Hid (takeO 5 l = some (l - 5)) := by show takeO 5 l = _; unfold takeO; rw [if_pos h9]
          obtain ⟨q0, q1, q2, q3, q4, hz⟩ := box_but hcw HB3.out
          have HB4 := hid ((But.of HB1.out).trans HB3.out)
          go_wp2_with fail
          refine (names_any hV c hS w0 hN Ka Kc t (l - 5) w3 hk.out klen (Hb0.out.trans ((HB4.out.below (Nat.le_of_lt hcw)).mono hN)) HK3.out (hS _ _ HT0.out (HB4.out.below (Nat.le_of_lt hcw))) (by omega) (by omega)).mono ?_
          rintro e w5 ⟨B5, x, K5, hx⟩
          have HB6 := hid (HB3.out.trans B5)
          have HB7 := hid (HB4.out.trans B5)
          have HK5 := hid K5
          clear B5 K5 q0 q1 q2 q3 q4 hz
          obtain ⟨q0, q1, q2, q3, q4, hz⟩ := box_but hcw HB6.out
          rcases hx with ⟨hx, x0, x1, rfl⟩ | ⟨hx, rfl⟩
          · have HRR : Hid (chkT (m + 1) t l = valuesL (chkT m) t (nL t) x) := by show chkT (m + 1) t l = _; rw [HR.out, HR2.out]; show ((namesO t (l - 5)).bind _) = _; rw [hx]; rfl
            clear hx
            go_wp2_with fail
            refine (values_any c hS w0 hN m ih f La Lc t x w5 (hl.out) hlen (Hb0.out.trans ((HB7.out.below (Nat.le_of_lt hcw)).mono hN)) HK5.out (hS _ _ HT0.out (HB7.out.below (Nat.le_of_lt hcw))) (by omega) (by omega)).mono ?_
            rintro e w4 ⟨B4, l', K4, hr⟩
            have HB5 := hid (HB7.out.trans B4)
            have HK4 := hid K4
            clear B4 K4
            rcases hr with ⟨hr, y0, y1, rfl⟩ | ⟨hr, rfl⟩
            · have Hr := hid hr
              clear hr
              go_wp2_with fail
              go_ret
              exact ⟨HB5.out, l', HK4.out, Or.inl ⟨HRR.out.trans Hr.out, y0, y1, rfl⟩⟩
            · have Hr := hid hr
              clear hr
              go_wp2_with fail
              go_ret
              exact ⟨HB5.out, l', HK4.out, Or.inr ⟨HRR.out.trans Hr.out, rfl⟩⟩

          · have HRR : Hid (chkT (m + 1) t l = none) := by show chkT (m + 1) t l = _; rw [HR.out, HR2.out]; show ((namesO t (l - 5)).bind _) = _; rw [hx]; rfl
            clear hx
            go_wp2_with fail
            go_ret
            exact ⟨HB7.out, x, HK5.out, Or.inr ⟨HRR.out, rfl⟩⟩
        · have HR2 : Hid (takeO 5 l = none) := by show takeO 5 l = _; unfold takeO; rw [if_neg h9]
          have hd : decide ((5 : Int) ≤ l) = false := decide_eq_false h9
          clear h9
          go_wp2_with fail
          go_ret
          exact ⟨(But.of HB1.out).trans HB3.out, l - 5, HK3.out, Or.inr ⟨by rw [HR.out, HR2.out]; rfl, rfl⟩⟩
      · have ek : ((nK t : Int) == (nL t : Int)) = false := by simp; omega
        have HR : Hid (chkT (m + 1) t l = none) := by show chkT (m + 1) t l = none; rw [HR0.out, if_neg (fun h => k0 h.2.2)]
        clear n0 s0 k0
        go_enter Tryd.func62, Tryd.ntmps62
        go_wp2_with fail
        go_ret
        exact ⟨But.of HB1.out, l, HK1.out, Or.inr ⟨HR.out, rfl⟩⟩
    · have es : (sOf t).toList.isEmpty = false := by simpa [noText] using s0
      have HR : Hid (chkT (m + 1) t l = none) := by show chkT (m + 1) t l = none; rw [HR0.out, if_neg (fun h => s0 h.2.1)]
      clear n0 s0
      go_enter Tryd.func62, Tryd.ntmps62
      go_wp2_with fail
      go_ret
      exact ⟨But.of HB1.out, l, HK1.out, Or.inr ⟨HR.out, rfl⟩⟩
  · have en : (nOf t == 0) = false := by simpa using n0
    have HR : Hid (chkT (m + 1) t l = none) := by show chkT (m + 1) t l = none; rw [HR0.out, if_neg (fun h => n0 h.1)]
    clear n0
    go_enter Tryd.func62, Tryd.ntmps62
    go_wp2_with fail
    go_ret
    exact ⟨But.of HB1.out, l, HK1.out, Or.inr ⟨HR.out, rfl⟩⟩
end Go.Proofs.YtknakfpciccoaaaDoor
/- The checker whole, and isValue. -/
namespace Go.Proofs.YtknakfpciccoaaaDoor
open Go.RowKit

theorem chk_any {Tb : World → Prop} (hV : ValidSaid Tb) (c : Nat) (hS : Stays Tb c) (w0 : World) (hN : w0.heap.size ≤ c) (m : Nat) (hm : m ≤ 12) : ChkSaid Tb c w0 m := by
  induction m with
  | zero =>
    intro f v t l w h hb0 hH hT l0 l1
    by_cases h1 : kindOf t = 1
    · exact chk_k1 c hS w0 hN 0 f v t l w h hb0 hH hT l0 l1 h1
    by_cases h2 : kindOf t = 2
    · exact chk_k2 c hS w0 hN 0 f v t l w h hb0 hH hT l0 l1 h2
    by_cases h3 : kindOf t = 3
    · exact chk_k3 c hS w0 hN 0 f v t l w h hb0 hH hT l0 l1 h3
    by_cases h4 : kindOf t = 4
    · exact chk_k4 hV c hS w0 hN 0 f v t l w h hb0 hH hT l0 l1 h4
    by_cases h5 : kindOf t = 5
    · exact chk_z5 c w0 hN f v t l w h hb0 hH hT l0 l1 h5
    by_cases h6 : kindOf t = 6
    · exact chk_z6 c w0 hN f v t l w h hb0 hH hT l0 l1 h6
    exact chk_other c hS w0 hN 0 f v t l w h hb0 hH hT l0 l1 ⟨h1, h2, h3, h4, h5, h6⟩
  | succ m ih =>
    have ih := ih (by omega)
    intro f v t l w h hb0 hH hT l0 l1
    by_cases h1 : kindOf t = 1
    · exact chk_k1 c hS w0 hN (m + 1) f v t l w h hb0 hH hT l0 l1 h1
    by_cases h2 : kindOf t = 2
    · exact chk_k2 c hS w0 hN (m + 1) f v t l w h hb0 hH hT l0 l1 h2
    by_cases h3 : kindOf t = 3
    · exact chk_k3 c hS w0 hN (m + 1) f v t l w h hb0 hH hT l0 l1 h3
    by_cases h4 : kindOf t = 4
    · exact chk_k4 hV c hS w0 hN (m + 1) f v t l w h hb0 hH hT l0 l1 h4
    by_cases h5 : kindOf t = 5
    · exact chk_k5 c hS w0 hN m ih (by omega) f v t l w h hb0 hH hT l0 l1 h5
    by_cases h6 : kindOf t = 6
    · exact chk_k6 hV c hS w0 hN m ih (by omega) f v t l w h hb0 hH hT l0 l1 h6
    exact chk_other c hS w0 hN (m + 1) f v t l w h hb0 hH hT l0 l1 ⟨h1, h2, h3, h4, h5, h6⟩

/-- Is it a value, by the program. -/
def isV (t : T) : Bool := (chkT 12 t 1048576).isSome
/-- The tables lie in every later world. -/
def Keeps (Tb : World → Prop) : Prop := ∀ w w' : World, Tb w → Below w.heap.size w w' → Tb w'
/-- The tables' cells lie below whatever world has them. -/
def Lies (Tb : World → Prop) : Prop := ∀ w : World, Tb w → Stays Tb w.heap.size

set_option maxHeartbeats 1000000 in
theorem isValue_any {Tb : World → Prop} (hV : ValidSaid Tb) (hL : Lies Tb) (f : Nat) (v : Value) (t : T) (w : World) (h : At w f v t) (hT : Tb w) :
    Calls Tryd.prog 35 #[v] w fun e w' => e = .returned (.bool (isV t)) ∧ Below w.heap.size w w' := by
  obtain ⟨f, La, Ka, Lc, Kc, rfl, rfl, hf, hl, hk⟩ := h.open
  have HA := hid h
  have HT := hid hT
  clear h hT hf hl hk
  go_enter Tryd.func35, Tryd.ntmps35
  go_wp2_with fail
  have HB1 : Hid (Below w.heap.size w ((w.alloc (.cells #[.int .i64 (kindOf t), .int .i64 (nOf t), .string (sOf t), .slice La (nL t) Lc, .slice Ka (nK t) Kc] 26)).alloc (.cells #[.int .i64 1048576] 78))) := ((Below.refl _ _).alloc (Nat.le_refl _) _).alloc (by simp) _
  have hS : Stays Tb (w.heap.size + 1) := fun w1 w2 h1 h2 => hL w HT.out w1 w2 h1 (h2.mono (by omega))
  have HH : Hid (Holds (w.heap.size + 1) 1048576 ((w.alloc (.cells #[.int .i64 (kindOf t), .int .i64 (nOf t), .string (sOf t), .slice La (nL t) Lc, .slice Ka (nK t) Kc] 26)).alloc (.cells #[.int .i64 1048576] 78))) := ⟨by simp [go_sem], by simp [go_sem], by simp⟩
  have e12 : (Value.int .i64 0) = .int .i64 (12 - ((12 : Nat) : Int)) := rfl
  rw [e12]
  clear e12
  refine (chk_any hV (w.heap.size + 1) hS w (by omega) 12 (by omega) _ _ t 1048576 _ HA.out HB1.out HH.out (hL w HT.out _ _ HT.out HB1.out) (by omega) (by omega)).mono ?_
  rintro e w2 ⟨B2, l', K2, hr⟩
  have HB2 := hid (HB1.out.trans ((B2.below (by simp)).mono (by omega)))
  clear B2 K2
  rcases hr with ⟨hr, y0, y1, rfl⟩ | ⟨hr, rfl⟩
  · have Hr := hid hr
    clear hr
    go_wp2_with fail
    go_ret
    exact ⟨ret_bool (by unfold isV; rw [Hr.out]; rfl), HB2.out⟩
  · have Hr := hid hr
    clear hr
    go_wp2_with fail
    go_ret
    exact ⟨ret_bool (by unfold isV; rw [Hr.out]; rfl), HB2.out⟩
end Go.Proofs.YtknakfpciccoaaaDoor
/- The texts of values that are made out of raw numbers: which they are, and how they are ordered. -/
namespace Go.Proofs.YtknakfpciccoaaaDoor
open Go.RowKit

/-- The texts, from the least one on. -/
def vtL : List (List UInt8) :=
  [[110, 117, 108, 108], [102, 97, 108, 115, 101], [116, 114, 117, 101],
   [45, 52], [45, 51], [45, 50], [45, 49], [48], [49], [50], [51], [52],
   [34, 97, 34], [34, 98, 34], [34, 99, 34], [91, 93],
   [91, 48, 44, 48, 93], [91, 48, 44, 49, 93], [91, 48, 44, 50, 93], [91, 48, 44, 51, 93], [91, 49, 44, 48, 93], [91, 49, 44, 49, 93], [91, 49, 44, 50, 93], [91, 49, 44, 51, 93],
   [91, 50, 44, 48, 93], [91, 50, 44, 49, 93], [91, 50, 44, 50, 93], [91, 50, 44, 51, 93], [91, 51, 44, 48, 93], [91, 51, 44, 49, 93], [91, 51, 44, 50, 93], [91, 51, 44, 51, 93],
   [123, 34, 98, 34, 58, 48, 125], [123, 34, 98, 34, 58, 49, 125], [123, 34, 98, 34, 58, 50, 125], [123, 34, 98, 34, 58, 51, 125]]
def vt (i : Nat) : ByteArray := baL (vtL.getD i [])
def nT (n : Int) : T := leafT 3 n ByteArray.empty
def l2T (a b : Int) : T := mkT 5 0 ByteArray.empty [nT a, nT b] []
def obT (a : Int) : T := mkT 6 0 ByteArray.empty [nT a] [⟨#[98]⟩]
/-- What they read as. -/
def tvL : List T :=
  [leafT 1 0 ByteArray.empty, leafT 2 0 ByteArray.empty, leafT 2 1 ByteArray.empty,
   nT (-4), nT (-3), nT (-2), nT (-1), nT 0, nT 1, nT 2, nT 3, nT 4,
   leafT 4 0 ⟨#[97]⟩, leafT 4 0 ⟨#[98]⟩, leafT 4 0 ⟨#[99]⟩, mkT 5 0 ByteArray.empty [] [],
   l2T 0 0, l2T 0 1, l2T 0 2, l2T 0 3, l2T 1 0, l2T 1 1, l2T 1 2, l2T 1 3, l2T 2 0, l2T 2 1, l2T 2 2, l2T 2 3, l2T 3 0, l2T 3 1, l2T 3 2, l2T 3 3,
   obT 0, obT 1, obT 2, obT 3]
def tv (i : Nat) : T := tvL.getD i (leafT 0 0 ByteArray.empty)
set_option maxRecDepth 100000 in
theorem vt_all : (List.range 36).map (fun i => (tJ (vt i), eJ (vt i))) = (List.range 36).map (fun i => (tv i, (0 : Int))) := by kernel_rfl
theorem vt_at {i : Nat} (h : i < 36) : tJ (vt i) = tv i ∧ eJ (vt i) = 0 := by
  have := congrArg (fun l => l[i]?) vt_all
  simp only [List.getElem?_map, List.getElem?_range h, Option.map_some, Option.some.injEq, Prod.mk.injEq] at this
  exact this
set_option maxRecDepth 100000 in
theorem vt_size : ((List.range 36).all fun i => decide ((vt i).size ≤ 10)) = true := by kernel_rfl
theorem vt_le {i : Nat} (h : i < 36) : (vt i).size ≤ 10 := of_decide_eq_true (List.all_eq_true.1 vt_size i (List.mem_range.2 h))
set_option maxRecDepth 100000 in
theorem tv_isV : ((List.range 36).all fun i => (chkT 12 (tv i) 1048576).isSome) = true := by kernel_rfl
theorem tv_ok {i : Nat} (h : i < 36) : isV (tv i) = true := List.all_eq_true.1 tv_isV i (List.mem_range.2 h)
set_option maxRecDepth 100000 in
theorem tv_cmp : ((List.range 36).all fun i => (List.range 36).all fun j => decide (cmpT 13 (tv i) (tv j) = cmpI i j)) = true := by kernel_rfl
theorem tv_ord {i j : Nat} (hi : i < 36) (hj : j < 36) : cmpT 13 (tv i) (tv j) = cmpI i j :=
  of_decide_eq_true (List.all_eq_true.1 (List.all_eq_true.1 tv_cmp i (List.mem_range.2 hi)) j (List.mem_range.2 hj))
/-- A text is one of these. -/
def IsV (s : ByteArray) : Prop := ∃ i, i < 36 ∧ s = vt i
theorem digit1 (n : Nat) (h : n < 10) : Lib.decDigits n = [(n + 48).toUInt8] := by
  rw [Lib.decDigits.eq_def, dif_pos h]
  first | rfl | (simp [Nat.add_comm])
theorem itoa_pos (n : Nat) (h : n < 10) : Lib.itoa (n : Int) = [(n + 48).toUInt8] := by
  unfold Lib.itoa
  rw [if_neg (by omega), Int.toNat_natCast, digit1 n h]
theorem itoa_neg (n : Nat) (h0 : 0 < n) (h : n < 10) : Lib.itoa (-(n : Int)) = [45, (n + 48).toUInt8] := by
  unfold Lib.itoa
  rw [if_pos (by omega), Int.natAbs_neg, Int.natAbs_natCast, digit1 n h]
theorem isV_num (d : Int) : IsV (baL (Lib.itoa (d % 9 - 4))) := by
  have h : d % 9 = 0 ∨ d % 9 = 1 ∨ d % 9 = 2 ∨ d % 9 = 3 ∨ d % 9 = 4 ∨ d % 9 = 5 ∨ d % 9 = 6 ∨ d % 9 = 7 ∨ d % 9 = 8 := by omega
  rcases h with h | h | h | h | h | h | h | h | h <;> rw [h]
  · exact ⟨3, by omega, by show baL (Lib.itoa (-((4 : Nat) : Int))) = _; rw [itoa_neg 4 (by omega) (by omega)]; rfl⟩
  · exact ⟨4, by omega, by show baL (Lib.itoa (-((3 : Nat) : Int))) = _; rw [itoa_neg 3 (by omega) (by omega)]; rfl⟩
  · exact ⟨5, by omega, by show baL (Lib.itoa (-((2 : Nat) : Int))) = _; rw [itoa_neg 2 (by omega) (by omega)]; rfl⟩
  · exact ⟨6, by omega, by show baL (Lib.itoa (-((1 : Nat) : Int))) = _; rw [itoa_neg 1 (by omega) (by omega)]; rfl⟩
  · exact ⟨7, by omega, by show baL (Lib.itoa ((0 : Nat) : Int)) = _; rw [itoa_pos 0 (by omega)]; rfl⟩
  · exact ⟨8, by omega, by show baL (Lib.itoa ((1 : Nat) : Int)) = _; rw [itoa_pos 1 (by omega)]; rfl⟩
  · exact ⟨9, by omega, by show baL (Lib.itoa ((2 : Nat) : Int)) = _; rw [itoa_pos 2 (by omega)]; rfl⟩
  · exact ⟨10, by omega, by show baL (Lib.itoa ((3 : Nat) : Int)) = _; rw [itoa_pos 3 (by omega)]; rfl⟩
  · exact ⟨11, by omega, by show baL (Lib.itoa ((4 : Nat) : Int)) = _; rw [itoa_pos 4 (by omega)]; rfl⟩
end Go.Proofs.YtknakfpciccoaaaDoor
namespace Go.Proofs.YtknakfpciccoaaaDoor
open Go.RowKit
theorem assert_refusal (n : Int) (w : World) : (Instr.typeAssert (.iface 66 (.int .i64 n)) 20 66 true).run Tryd.prog w = .ok (.tuple #[.int .i64 n, .bool true]) w := by kernel_rfl
set_option maxHeartbeats 1000000 in
set_option maxRecDepth 100000 in
theorem catch_refusal (be : Nat) (n : Int) (w : World) (x : Value) (h5 : w.cell? ⟨be, 0, none⟩ = some x) (f5 : w.frozen? ⟨be, 0, none⟩ = false) :
    CallsD Tryd.prog 50 #[.pointer (some ⟨be, 0, none⟩)] (.panicking [{ v := .iface 66 (.int .i64 n), recovered := false }]) w fun e u' w' =>
      e = .returned (.tuple #[]) ∧ u' = .panicking [{ v := .iface 66 (.int .i64 n), recovered := true }] ∧ w' = w.setCell ⟨be, 0, none⟩ (.int .i64 n) := by
  refine callsD_of_wpS Tryd.func50 rfl fun c₀ cs hu => ?_
  apply wpS_seq
  apply wpS_region
  simp [wpOpsS, go_sem, recoverD, hu, Tryd.ntmps50, Exit.thenS]
  refine wpS_of_wp ?_
  have hta := assert_refusal n
  have e : (#[Value.pointer (some { block := be, off := 0 })] ++ (Array.replicate 10 undef).setIfInBounds 3 (Value.iface 66 (Value.int IntKind.i64 n))) = #[.pointer (some ⟨be, 0, none⟩), undef, undef, undef, .iface 66 (.int .i64 n), undef, undef, undef, undef, undef, undef] := rfl
  rw [e]
  go_wp2_with fail
  simp [bodyPostS, results, Tryd.results50]

set_option maxHeartbeats 1000000 in
set_option maxRecDepth 100000 in
theorem catch_idle (be : Nat) (w : World) :
    CallsD Tryd.prog 50 #[.pointer (some ⟨be, 0, none⟩)] .returning w fun e u' w' => e = .returned (.tuple #[]) ∧ u' = .returning ∧ w' = w := by
  refine callsD_of_wpS Tryd.func50 rfl fun c₀ cs hu => ?_
  apply wpS_seq
  apply wpS_region
  simp [wpOpsS, go_sem, recoverD, hu, Tryd.ntmps50, Exit.thenS]
  refine wpS_of_wp ?_
  go_wp2_with fail
  cases c₀
  simp_all [bodyPostS, results, Tryd.results50]

def zeroV : Value := .agg #[.int .i64 0, .int .i64 0, .string ⟨#[]⟩, .slice none 0 0, .slice none 0 0]
/-- How a call of a parser ends: with a value, or with a refusal. -/
def Ends (Q : Int → Prop) (R : Value → World → Prop) (w : World) (e : Ending) (w' : World) : Prop :=
  Below w.heap.size w w' ∧ ((∃ t A B C D, e = .returned (five t A B C D) ∧ R (five t A B C D) w') ∨ ∃ n, Q n ∧ e = .panicked [{ v := .iface 66 (.int .i64 n), recovered := false }])
/-- What lies at so many and behind is as it was. -/
structure Above (k : Nat) (w w' : World) : Prop where
  size : w'.heap.size = w.heap.size
  block : ∀ b, k ≤ b → w'.heap[b]? = w.heap[b]?
theorem Above.refl (k : Nat) (w : World) : Above k w w := ⟨rfl, fun _ _ => rfl⟩
theorem Above.set {k : Nat} {w w' : World} (h : Above k w w') {c : Nat} (hc : c < k) (o : Nat) (u : Value) : Above k w (w'.setCell ⟨c, o, none⟩ u) :=
  ⟨by simpa [World.setCell] using h.size, fun b hb => (Below.heap_setCell _ _ _ _ (by simpa using (by omega : b ≠ c))).trans (h.block b hb)⟩
set_option maxHeartbeats 1000000 in
set_option maxRecDepth 100000 in
theorem attempt (g : Nat) (hg : ∀ (a : Array Value) (w : World), (callFunc g a).run Tryd.prog w = .ok (.enter g a) w) (Q : Int → Prop) (R : Value → World → Prop) (p : Value) (w : World)
    (h : Calls Tryd.prog g #[p] ((w.alloc (.cells #[.int .i64 0, .int .i64 0, .string ⟨#[]⟩, .slice none 0 0, .slice none 0 0] 26)).alloc (.cells #[.int .i64 0] 27)) (Ends Q R ((w.alloc (.cells #[.int .i64 0, .int .i64 0, .string ⟨#[]⟩, .slice none 0 0, .slice none 0 0] 26)).alloc (.cells #[.int .i64 0] 27)))) :
    Calls Tryd.prog 25 #[.func (Fn.func g) #[] #[p]] w fun e w' => Below w.heap.size w w' ∧ ((∃ x w2, e = .returned (.tuple #[x, .int .i64 0]) ∧ R x w2 ∧ Above (w.heap.size + 2) w2 w') ∨ ∃ n, Q n ∧ e = .returned (.tuple #[zeroV, .int .i64 n])) := by
  have hmf : ∀ (fn : Fn) (first cap : Array Value) (w : World), (Instr.makeFunc fn first cap).run Tryd.prog w = .ok (.func fn first cap) w := fun _ _ _ _ => rfl
  have H := hid h
  clear h
  go_enter_defers Tryd.func25, Tryd.ntmps25
  go_wp2_with fail
  have HC : Hid (((w.alloc (.cells #[.int .i64 0, .int .i64 0, .string ⟨#[]⟩, .slice none 0 0, .slice none 0 0] 26)).alloc (.cells #[.int .i64 0] 27)).cell? ⟨w.heap.size, 0, none⟩ = some (.int .i64 0) ∧ ((w.alloc (.cells #[.int .i64 0, .int .i64 0, .string ⟨#[]⟩, .slice none 0 0, .slice none 0 0] 26)).alloc (.cells #[.int .i64 0] 27)).cell? ⟨w.heap.size, 1, none⟩ = some (.int .i64 0) ∧ ((w.alloc (.cells #[.int .i64 0, .int .i64 0, .string ⟨#[]⟩, .slice none 0 0, .slice none 0 0] 26)).alloc (.cells #[.int .i64 0] 27)).cell? ⟨w.heap.size, 2, none⟩ = some (.string ⟨#[]⟩) ∧ ((w.alloc (.cells #[.int .i64 0, .int .i64 0, .string ⟨#[]⟩, .slice none 0 0, .slice none 0 0] 26)).alloc (.cells #[.int .i64 0] 27)).cell? ⟨w.heap.size, 3, none⟩ = some (.slice none 0 0) ∧ ((w.alloc (.cells #[.int .i64 0, .int .i64 0, .string ⟨#[]⟩, .slice none 0 0, .slice none 0 0] 26)).alloc (.cells #[.int .i64 0] 27)).cell? ⟨w.heap.size, 4, none⟩ = some (.slice none 0 0) ∧ ((w.alloc (.cells #[.int .i64 0, .int .i64 0, .string ⟨#[]⟩, .slice none 0 0, .slice none 0 0] 26)).alloc (.cells #[.int .i64 0] 27)).cell? ⟨w.heap.size + 1, 0, none⟩ = some (.int .i64 0)) := by
    refine ⟨?_, ?_, ?_, ?_, ?_, ?_⟩ <;> simp [go_sem]
  have HZ : Hid (((w.alloc (.cells #[.int .i64 0, .int .i64 0, .string ⟨#[]⟩, .slice none 0 0, .slice none 0 0] 26)).alloc (.cells #[.int .i64 0] 27)).frozen? ⟨w.heap.size, 0, none⟩ = false ∧ ((w.alloc (.cells #[.int .i64 0, .int .i64 0, .string ⟨#[]⟩, .slice none 0 0, .slice none 0 0] 26)).alloc (.cells #[.int .i64 0] 27)).frozen? ⟨w.heap.size, 1, none⟩ = false ∧ ((w.alloc (.cells #[.int .i64 0, .int .i64 0, .string ⟨#[]⟩, .slice none 0 0, .slice none 0 0] 26)).alloc (.cells #[.int .i64 0] 27)).frozen? ⟨w.heap.size, 2, none⟩ = false ∧ ((w.alloc (.cells #[.int .i64 0, .int .i64 0, .string ⟨#[]⟩, .slice none 0 0, .slice none 0 0] 26)).alloc (.cells #[.int .i64 0] 27)).frozen? ⟨w.heap.size, 3, none⟩ = false ∧ ((w.alloc (.cells #[.int .i64 0, .int .i64 0, .string ⟨#[]⟩, .slice none 0 0, .slice none 0 0] 26)).alloc (.cells #[.int .i64 0] 27)).frozen? ⟨w.heap.size, 4, none⟩ = false ∧ ((w.alloc (.cells #[.int .i64 0, .int .i64 0, .string ⟨#[]⟩, .slice none 0 0, .slice none 0 0] 26)).alloc (.cells #[.int .i64 0] 27)).frozen? ⟨w.heap.size + 1, 0, none⟩ = false) := by
    refine ⟨?_, ?_, ?_, ?_, ?_, ?_⟩ <;> simp [go_sem]
  have HB0 : Hid (Below w.heap.size w ((w.alloc (.cells #[.int .i64 0, .int .i64 0, .string ⟨#[]⟩, .slice none 0 0, .slice none 0 0] 26)).alloc (.cells #[.int .i64 0] 27))) := ((Below.refl _ _).alloc (Nat.le_refl _) _).alloc (by simp) _
  refine H.out.mono ?_
  rintro e w1 ⟨hb, hr⟩
  have l0 : w.heap.size < ((w.alloc (.cells #[.int .i64 0, .int .i64 0, .string ⟨#[]⟩, .slice none 0 0, .slice none 0 0] 26)).alloc (.cells #[.int .i64 0] 27)).heap.size := by simp; omega
  have l1 : w.heap.size + 1 < ((w.alloc (.cells #[.int .i64 0, .int .i64 0, .string ⟨#[]⟩, .slice none 0 0, .slice none 0 0] 26)).alloc (.cells #[.int .i64 0] 27)).heap.size := by simp
  have a0 := (hb.cell (p := ⟨w.heap.size, 0, none⟩) l0).trans HC.out.1
  have a1 := (hb.cell (p := ⟨w.heap.size, 1, none⟩) l0).trans HC.out.2.1
  have a2 := (hb.cell (p := ⟨w.heap.size, 2, none⟩) l0).trans HC.out.2.2.1
  have a3 := (hb.cell (p := ⟨w.heap.size, 3, none⟩) l0).trans HC.out.2.2.2.1
  have a4 := (hb.cell (p := ⟨w.heap.size, 4, none⟩) l0).trans HC.out.2.2.2.2.1
  have a5 := (hb.cell (p := ⟨w.heap.size + 1, 0, none⟩) l1).trans HC.out.2.2.2.2.2
  have z0 := (hb.frozen (p := ⟨w.heap.size, 0, none⟩) l0).trans HZ.out.1
  have z1 := (hb.frozen (p := ⟨w.heap.size, 1, none⟩) l0).trans HZ.out.2.1
  have z2 := (hb.frozen (p := ⟨w.heap.size, 2, none⟩) l0).trans HZ.out.2.2.1
  have z3 := (hb.frozen (p := ⟨w.heap.size, 3, none⟩) l0).trans HZ.out.2.2.2.1
  have z4 := (hb.frozen (p := ⟨w.heap.size, 4, none⟩) l0).trans HZ.out.2.2.2.2.1
  have z5 := (hb.frozen (p := ⟨w.heap.size + 1, 0, none⟩) l1).trans HZ.out.2.2.2.2.2
  have HB := hid (HB0.out.trans (hb.mono HB0.out.size))
  clear hb HC HZ HB0 l0 l1 H
  rcases hr with ⟨t, A, B, C, D, rfl, hR⟩ | ⟨n, hQ, rfl⟩
  · have HR := hid hR
    clear hR
    unfold five at HR ⊢
    go_wp2_with fail
    refine leaves_cons (f := 50) (args := #[.pointer (some ⟨w.heap.size + 1, 0, none⟩)]) (by simp) (by simp [go_sem]) ?_
    refine (catch_idle (w.heap.size + 1) _).mono ?_
    rintro e u' w'' ⟨rfl, rfl, rfl⟩
    simp only [Leaves, settle]
    refine ⟨_, by simp [results, Tryd.results25, go_sem, *], ?_, Or.inl ⟨_, w1, rfl, HR.out, ?_⟩⟩
    · exact (((((HB.out.setCell (Nat.le_refl _) _).setCell (Nat.le_refl _) _).setCell (Nat.le_refl _) _).setCell (Nat.le_refl _) _).setCell (Nat.le_refl _) _).setCell (by simp) _
    · exact ((((((Above.refl _ _).set (by omega) _ _).set (by omega) _ _).set (by omega) _ _).set (by omega) _ _).set (by omega) _ _).set (by omega) _ _
  · have HQ := hid hQ
    clear hQ
    go_wp2_with fail
    refine leaves_cons (f := 50) (args := #[.pointer (some ⟨w.heap.size + 1, 0, none⟩)]) (by simp) (by simp [go_sem]) ?_
    refine (catch_refusal (w.heap.size + 1) n _ _ a5 z5).mono ?_
    rintro e u' w'' ⟨rfl, rfl, rfl⟩
    simp only [settle]
    refine ⟨_, by simp [results, Tryd.results25, go_sem, *]; rfl, ?_, Or.inr ⟨n, HQ.out, rfl⟩⟩
    exact HB.out.setCell (by simp) _
end Go.Proofs.YtknakfpciccoaaaDoor
