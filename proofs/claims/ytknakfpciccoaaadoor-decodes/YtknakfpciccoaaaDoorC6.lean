/- The walks of the checker's parts: a text, names. -/
import Derived.Test.YtknakfpciccoaaaDoorC4
import Derived.Test.YtknakfpciccoaaaDoorC5
namespace Go.Proofs.YtknakfpciccoaaaDoor
open Go.RowKit

/-- What is asked of utf8.ValidString: her contract, where the tables lie as they must. -/
def ValidSaid (Tb : World → Prop) : Prop := ∀ (s : ByteArray) (w : World), s.size ≤ 9223372036854775807 → Tb w →
  Calls Tryd.prog 101 #[.string s] w fun e w' => e = .returned (.bool (okS s)) ∧ Below w.heap.size w w'
/-- The tables lie below a block. -/
def Stays (Tb : World → Prop) (c : Nat) : Prop := ∀ w w' : World, Tb w → Below c w w' → Tb w'

set_option maxHeartbeats 400000 in
theorem take2_any (c : Nat) (l n : Int) (w : World) (h : Holds c l w) (l0 : 0 ≤ l) (l1 : l ≤ 1048576) (n0 : 0 ≤ n) (n1 : n ≤ 1000000) :
    Calls Tryd.prog 81 #[.pointer (some ⟨c, 0, none⟩), .int .i64 n] w fun e w' => e = .returned (.bool (decide (n ≤ l))) ∧ Holds c (l - n) w' ∧ But c w w' := by
  refine (take_any c l n w h.cell h.free (by omega) l1 n0 n1).mono ?_
  rintro e w' ⟨rfl, rfl⟩
  exact ⟨rfl, (h.set _).1, (h.set _).2⟩

set_option maxHeartbeats 400000 in
theorem text_any {Tb : World → Prop} (hV : ValidSaid Tb) (c : Nat) (hS : Stays Tb c) (s : ByteArray) (l : Int) (w : World) (h : Holds c l w) (hT : Tb w) (l0 : 0 ≤ l) (l1 : l ≤ 1048576) (hs : s.size ≤ 140737488355328) :
    Calls Tryd.prog 82 #[.pointer (some ⟨c, 0, none⟩), .string s] w fun e w' => ChkPost c w (textO s l) e w' := by
  have H := hid h
  have HT := hid hT
  clear h hT
  by_cases h1 : s.size ≤ 4000
  · by_cases h2 : (s.size : Int) ≤ l
    · go_enter Tryd.func82, Tryd.ntmps82
      go_wp2_with fail
      refine (take2_any c l s.size w H.out l0 l1 (by omega) (by omega)).mono ?_
      rintro e w1 ⟨rfl, K1, B1⟩
      have HK1 := hid K1
      have HB1 := hid B1
      clear K1 B1
      go_wp2_with fail
      refine (hV s w1 (by omega) (hS _ _ HT.out (HB1.out.below (Nat.le_of_lt H.out.lt)))).mono ?_
      rintro e w2 ⟨rfl, B2⟩
      have HB2 := hid B2
      clear B2
      cases hv : okS s with
      | true =>
        have Hv := hid hv
        clear hv
        go_wp2_with fail
        go_ret
        exact ⟨HB1.out.trans (But.of HB2.out), l - s.size, HK1.out.keep HB2.out, Or.inl ⟨by unfold textO; rw [if_pos ⟨h1, h2, Hv.out⟩], by omega, by omega, rfl⟩⟩
      | false =>
        have Hv := hid hv
        clear hv
        go_wp2_with fail
        go_ret
        exact ⟨HB1.out.trans (But.of HB2.out), l - s.size, HK1.out.keep HB2.out, Or.inr ⟨by unfold textO; rw [if_neg (by rw [Hv.out]; simp)], rfl⟩⟩
    · go_enter Tryd.func82, Tryd.ntmps82
      go_wp2_with fail
      refine (take2_any c l s.size w H.out l0 l1 (by omega) (by omega)).mono ?_
      rintro e w1 ⟨rfl, K1, B1⟩
      have HK1 := hid K1
      have HB1 := hid B1
      clear K1 B1
      have hd : decide ((s.size : Int) ≤ l) = false := decide_eq_false (by omega)
      have H2 := hid h2
      clear h2
      go_wp2_with fail
      go_ret
      exact ⟨HB1.out, l - s.size, HK1.out, Or.inr ⟨by unfold textO; rw [if_neg (fun h => by have := H2.out; omega)], rfl⟩⟩
  · have H1 := hid h1
    have hd : decide ((s.size : Int) ≤ 4000) = false := decide_eq_false (by omega)
    clear h1
    go_enter Tryd.func82, Tryd.ntmps82
    go_wp2_with fail
    go_ret
    exact ⟨But.refl _ _, l, H.out, Or.inr ⟨by unfold textO; rw [if_neg (fun h => H1.out h.1)], rfl⟩⟩

set_option maxHeartbeats 1000000 in
theorem names_any {Tb : World → Prop} (hV : ValidSaid Tb) (c : Nat) (hS : Stays Tb c) (w0 : World) (hN : w0.heap.size ≤ c) (Ka : Option Addr) (Kc : Nat) (t : T) (l : Int) (w : World)
    (hk : NamesAt w0 Ka t) (hn : nK t ≤ 8796093022208) (hb0 : Below w0.heap.size w0 w) (h : Holds c l w) (hT : Tb w) (l0 : 0 ≤ l) (l1 : l ≤ 1048576) :
    Calls Tryd.prog 84 #[.pointer (some ⟨c, 0, none⟩), .slice Ka (nK t) Kc] w fun e w' => ChkPost c w (namesO t l) e w' := by
  have H := hid h
  have HT := hid hT
  have Hk := hid hk
  have Hb0 := hid hb0
  clear h hT hk hb0
  go_enter Tryd.func84, Tryd.ntmps84
  go_wp2_with fail
  go_loopg [9] (nK t) (fun g i wr => ∃ (k : Nat) (x : Int), g = nK t - k ∧ k ≤ nK t ∧ i = .int .i64 k ∧ 0 ≤ x ∧ x ≤ 1048576 ∧ Hid (namesL t k l = some x) ∧ Hid (Holds c x wr) ∧ Hid (But c w wr))
  case atStart => exact ⟨0, l, rfl, Nat.zero_le _, rfl, l0, l1, rfl, H, But.refl _ _⟩
  case round =>
    obtain ⟨k, x, rfl, hk1, rfl, x0, x1, HX, HH, HB⟩ := hrel
    have Hbr := hid (Hb0.out.trans ((HB.out.below (Nat.le_of_lt H.out.lt)).mono hN))
    by_cases hlt : k < nK t
    · obtain ⟨kb, ko, rfl, hkb, hks, hkc⟩ := Hk.out.keep Hbr.out k hlt
      go_wp2_with fail
      refine (take2_any c x 2 wr HH.out x0 x1 (by omega) (by omega)).mono ?_
      rintro e w1 ⟨rfl, K1, B1⟩
      have HK1 := hid K1
      have HB1 := hid B1
      clear K1 B1
      by_cases h2 : 2 ≤ x
      · go_wp2_with fail
        refine (text_any hV c hS (nam t k) (x - 2) w1 HK1.out (hS _ _ HT.out ((HB.out.trans HB1.out).below (Nat.le_of_lt H.out.lt))) (by omega) (by omega) hks).mono ?_
        rintro e w2 ⟨B2, l', K2, hr⟩
        have HB2 := hid B2
        have HK2 := hid K2
        clear B2 K2
        rcases hr with ⟨hr, y0, y1, rfl⟩ | ⟨hr, rfl⟩
        · have Hr := hid hr
          clear hr
          go_wp2_with fail
          go_roundg (nK t - (k + 1))
          case rel =>
            refine ⟨k + 1, l', rfl, by omega, by go_num, y0, y1, ?_, HK2, HB.out.trans (HB1.out.trans HB2.out)⟩
            show ((namesL t k l).bind fun x => (takeO 2 x).bind (textO (nam t k))) = _
            rw [HX.out]
            simp only [Option.bind_some, takeO, if_pos h2]
            exact Hr.out
          case measure => omega
        · have Hr := hid hr
          clear hr
          go_wp2_with fail
          go_ret
          refine ⟨HB.out.trans (HB1.out.trans HB2.out), l', HK2.out, Or.inr ⟨?_, rfl⟩⟩
          unfold namesO
          rw [namesL_none (j := k + 1) hlt]
          · rfl
          · show ((namesL t k l).bind fun x => (takeO 2 x).bind (textO (nam t k))) = _
            rw [HX.out]
            simp only [Option.bind_some, takeO, if_pos h2]
            exact Hr.out
      · have hd : decide ((2 : Int) ≤ x) = false := decide_eq_false h2
        have H2 := hid h2
        clear h2
        go_wp2_with fail
        go_ret
        refine ⟨HB.out.trans HB1.out, x - 2, HK1.out, Or.inr ⟨?_, rfl⟩⟩
        unfold namesO
        rw [namesL_none (j := k + 1) hlt]
        · rfl
        · show ((namesL t k l).bind fun x => (takeO 2 x).bind (textO (nam t k))) = _
          rw [HX.out]
          simp only [Option.bind_some, takeO]
          rw [if_neg (by have := H2.out; omega)]
          rfl
    · obtain rfl : k = nK t := by omega
      go_wp2_with fail
      refine (different_any Ka Kc t wr (Hk.out.keep Hbr.out) hn).mono ?_
      rintro e w1 ⟨rfl, B1⟩
      have HB1 := hid B1
      clear B1
      cases hd : dupTo t (nK t) with
      | true =>
        have Hd := hid hd
        clear hd
        go_wp2_with fail
        go_ret
        refine ⟨HB.out.trans (But.of HB1.out), x, HH.out.keep HB1.out, Or.inr ⟨?_, rfl⟩⟩
        unfold namesO
        rw [HX.out, Hd.out]
        rfl
      | false =>
        have Hd := hid hd
        clear hd
        go_wp2_with fail
        go_ret
        refine ⟨HB.out.trans (But.of HB1.out), x, HH.out.keep HB1.out, Or.inl ⟨?_, x0, x1, rfl⟩⟩
        unfold namesO
        rw [HX.out, Hd.out]
        rfl
end Go.Proofs.YtknakfpciccoaaaDoor
