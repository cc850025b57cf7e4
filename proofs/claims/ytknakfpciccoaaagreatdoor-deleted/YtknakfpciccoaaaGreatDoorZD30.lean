import Derived.Test.YtknakfpciccoaaaGreatDoorZD29
import Derived.Lib.SliceRun
import Derived.Test.YtknakfpciccoaaaGreatDoorZD13
/- The walk of filled. -/
namespace Go.Proofs.YtknakfpciccoaaaGreatDoor
open Go.RowKit

set_option maxHeartbeats 8000000 in
set_option maxRecDepth 100000 in
theorem filled_any {Tb : World → Prop} (hA : StoreSaid Tb) (v : Value) (n : Nat) (w : World) (hv : RawAt w v n) (hT : Tb w) :
    Calls Tryz.prog 25 #[v] w fun e w' => ∃ p l, e = .returned (.tuple #[.pointer (some ⟨p, 0, none⟩), .int .i64 (l.length : Nat)]) ∧ Below w.heap.size w w' ∧ DocsOf l ∧ l.length ≤ 30 ∧ StP w.heap.size w' p 2 (two (some l) (some l)) := by
  obtain ⟨A, cp, rfl, hn, hr⟩ := hv
  have HR := hid hr
  have HA := hid hA
  have HN := hid (new_any w)
  have HT : Hid (∀ w' : World, Below w.heap.size w w' → Tb w') := fun w' hb => hA.lies w hT w w' hT hb
  have HD : Hid (∀ (id c d : Int) (w : World), 0 ≤ id → id < 30 → -9223372036854775808 ≤ c → c ≤ 9223372036854775807 → -9223372036854775808 ≤ d → d ≤ 9223372036854775807 → Tb w → Calls Tryz.prog 61 #[.int .i64 id, .int .i64 c, .int .i64 d] w fun e w' => Below w.heap.size w w' ∧ ∃ i o, i < 36 ∧ (∀ j, o = some j → j < 36) ∧ e = .returned (.string (docS id i o))) := fun id c d w h1 h2 h3 h4 h5 h6 h7 => document_any hA.itoa hA.lies id c d w h1 h2 h3 h4 h5 h6 h7
  have HS0 := hid (StP.new w)
  have HB0 : Hid (Below w.heap.size w ((w.alloc (.map #[] 0)).alloc (.cells #[.map (some w.heap.size)] 102))) := ((Below.refl _ _).alloc (Nat.le_refl _) _).alloc (by simp) _
  clear hr hA hT
  go_enter Tryz.func25, Tryz.ntmps25
  go_wp2_with fail
  refine HN.out.mono ?_
  rintro e w1 ⟨rfl, rfl⟩
  generalize (w.alloc (.map #[] 0)).alloc (.cells #[.map (some w.heap.size)] 102) = w1 at HS0 HB0 ⊢
  generalize w.heap.size + 1 = p at HS0 ⊢
  have HC1 := hid (create_st HS0.out nX (by decide) (by omega) (by kernel_rfl) rfl)
  clear HN
  go_wp2_with fail
  refine HC1.out.mono ?_
  rintro e w2 ⟨rfl, b2, s2⟩
  have HB2 := hid (HB0.out.trans b2)
  have HC2 := hid (create_st s2 nY (by decide) (by omega) (by kernel_rfl) rfl)
  clear HC1 b2 s2 HS0 HB0
  go_wp2_with fail
  refine HC2.out.mono ?_
  rintro e w3 ⟨rfl, b3, s3⟩
  rw [one_two] at s3
  have HB3 := hid (HB2.out.trans b3)
  have HS3 := hid s3
  clear HC2 b3 s3 HB2
  go_wp2_with fail
  go_loopg [7, 8] 30 (fun g a i wr => ∃ (k q : Nat), g = 30 - k ∧ k ≤ 30 ∧ Hid (q = 2 * k) ∧ a = .int .i64 k ∧ i = .int .i64 q ∧ Hid (Below w.heap.size w wr) ∧ Hid (∃ l : List T, l.length = k ∧ DocsOf l ∧ StP w.heap.size wr p 2 (two (some l) (some l))))
  case atStart => exact ⟨0, 0, rfl, Nat.zero_le _, rfl, rfl, rfl, HB3, [], rfl, DocsOf.nil, HS3.out⟩
  case round =>
    clear HS3 HB3
    obtain ⟨k, q, rfl, hk, HQ, rfl, rfl, HB, HL⟩ := hrel
    have hq := HQ.out
    by_cases hlt : q + 1 < n ∧ k < 30
    · obtain ⟨h1, h2⟩ := hlt
      obtain ⟨b, o, z, hAe, hbl, c1, z0, z1⟩ := HR.out q (by omega)
      obtain ⟨b', o', z', hAe', _, c2, z0', z1'⟩ := HR.out (q + 1) (by omega)
      subst hAe
      simp only [Option.some.injEq, Addr.mk.injEq, and_true] at hAe'
      obtain ⟨rfl, rfl⟩ := hAe'
      have HSw : Hid (∀ w5 : World, Below wr.heap.size wr w5 → (w5.cell? ⟨b, o + q, none⟩ = some (.int .i64 z) ∧ w5.cell? ⟨b, o + (q + 1), none⟩ = some (.int .i64 z'))) := by
        intro w5 hh
        have hbw : b < wr.heap.size := Nat.lt_of_lt_of_le hbl HB.out.size
        exact ⟨(hh.cell (p := ⟨b, _, none⟩) hbw).trans ((HB.out.cell (p := ⟨b, _, none⟩) hbl).trans c1), (hh.cell (p := ⟨b, _, none⟩) hbw).trans ((HB.out.cell (p := ⟨b, _, none⟩) hbl).trans c2)⟩
      have HSd := hid (HSw.out wr.drew (below_drew wr))
      have HDk : Hid (∀ w5 : World, Below wr.heap.size wr w5 → Calls Tryz.prog 61 #[.int .i64 (k : Nat), .int .i64 z, .int .i64 z'] w5 fun e w' => Below w5.heap.size w5 w' ∧ ∃ i o, i < 36 ∧ (∀ j, o = some j → j < 36) ∧ e = .returned (.string (docS (k : Nat) i o))) := fun w5 hh => HD.out k z z' w5 (by omega) (by omega) z0 z1 z0' z1' (HT.out _ (HB.out.trans (hh.mono HB.out.size)))
      have x1 : (q : Int) + 1 < (n : Int) := by omega
      have x2 : (k : Int) < 30 := by omega
      have hw1 : IntKind.i64.wrap ((q : Int) + 1) = (q : Int) + 1 := by rw [IntKind.wrap_i64]; omega
      have y1 : (q : Int) < (n : Int) := by omega
      have y2 : (0 : Int) ≤ (q : Int) + 1 := by omega
      have y3 : ((q : Int) + 1).toNat = q + 1 := by omega
      have HX := hid (And.intro h1 h2)
      clear c1 c2 z0 z1 z0' z1' h1 h2 hq hbl
      go_wp2_with fail
      go_region_held3 (fun wx => wx.cell? ⟨b, o + q, none⟩ = some (.int .i64 z) ∧ wx.cell? ⟨b, o + (q + 1), none⟩ = some (.int .i64 z')) (first | exact hc5 | exact HSd.out) ((go_at_call 61; refine (HDk.out _ (below_drew wr)).mono ?_; rintro e5 w5 ⟨hb5, di, dq, hdi, hdq, rfl⟩; have hc5 := HSw.out _ ((below_drew wr).trans hb5)))
      have HB5 := hid (HB.out.trans (((below_drew wr).trans hb5).mono HB.out.size))
      have hkq : (k : Int) < 30 := x2
      obtain ⟨l, hll, hdo, hst⟩ := HL.out
      have HDo := hid hdo
      have Hll := hid hll
      have hz := docS_size (id := (k : Int)) (by omega) (by omega) hdi hdq
      have HPa := hid (doc_parse (id := (k : Int)) (by omega) (by omega) hdi hdq)
      have HIn := hid (doc_in (id := (k : Int)) (by omega) (by omega) hdi hdq)
      have HDi := hid (And.intro hdi hdq)
      generalize docS (k : Int) di dq = sd at *
      have HS1 := hid (hst.keep ((below_drew wr).trans hb5))
      have HFr : Hid (anyL (sameId (idT (tJ sd))) (mkT 5 0 ByteArray.empty l []) l.length = false) := by show _ = _; rw [HPa.out.2, ← hll]; exact hdo.fresh di dq
      have HI1 := hid (insert_st HA.out HS1.out nX sd l (by decide) (by omega) (two_x _ _) HIn.out HFr.out (by omega) (HT.out _ HB5.out))
      clear hb5 hc5 HSw HSd HDk hdo hst hll hdi hdq HL x1 y1 y2 y3 hw1 HB
      go_wp2_with fail
      refine HI1.out.mono ?_
      rintro e6 w6 ⟨rfl, b6, s6⟩
      rw [two_setx] at s6
      have HB6 := hid (HB5.out.trans b6)
      have HI2 := hid (insert_st HA.out s6 nY sd l (by decide) (by omega) (two_y _ _) HIn.out HFr.out (by have := Hll.out; omega) (HT.out _ HB6.out))
      clear b6 s6 HI1 HS1 HB5
      go_wp2_with fail
      refine HI2.out.mono ?_
      rintro e7 w7 ⟨rfl, b7, s7⟩
      rw [two_sety] at s7
      have HB7 := hid (HB6.out.trans b7)
      have HS7 := hid s7
      clear b7 s7 HI2 HB6
      have hq2 : (q : Int) + 2 < 9223372036854775807 := by have := HX.out; omega
      go_wp2_with fail
      go_roundg (30 - (k + 1))
      case rel =>
        refine ⟨k + 1, q + 2, rfl, by omega, (by show _ = _; have := HQ.out; omega), by go_num, by go_num, HB7, l ++ [tJ sd], by rw [List.length_append, Hll.out]; rfl, ?_, HS7.out⟩
        rw [HPa.out.2, ← Hll.out]
        exact HDo.out.snoc HDi.out.1 HDi.out.2
      case measure => omega
    · obtain ⟨l, hll, hdo, hst⟩ := HL.out
      have Hll := hid hll
      have HDo := hid hdo
      have HSt := hid hst
      have Hlen := hid hk
      have HF1 := hid (find_st HA.out hst nX allS l (by decide) (by decide) (two_x _ _) (by omega) allS_e allS_ok (HT.out _ HB.out))
      rw [all_filter, hll] at HF1
      clear hdo hst HL HD HR hll
      have hw1 : IntKind.i64.wrap ((q : Int) + 1) = (q : Int) + 1 := by rw [IntKind.wrap_i64]; omega
      by_cases x1 : q + 1 < n
      · have x1' : (q : Int) + 1 < (n : Int) := by omega
        obtain rfl : k = 30 := by omega
        clear hlt hq x1
        go_wp2_with fail
        refine HF1.out.mono ?_
        rintro e8 w8 ⟨b8, A8, c8, rfl, _⟩
        have HB8 := hid (HB.out.trans (b8.mono HB.out.size))
        have HS8 := hid (HSt.out.keep b8)
        have HF2 := hid (find_none HA.out HS8.out ⟨#[122]⟩ allS (by decide) (by decide) (two_none _ _ (by decide) (by decide)) allS_e allS_ok (HT.out _ HB8.out))
        clear b8 HF1
        go_wp2_with fail
        refine HF2.out.mono ?_
        rintro e9 w9 ⟨b9, rfl⟩
        have HB9 := hid (HB8.out.trans (b9.mono HB8.out.size))
        have HS9 := hid (HS8.out.keep b9)
        clear b9 HF2
        go_wp2_with fail
        refine bodyPost_ret (v := .tuple #[.pointer (some ⟨p, 0, none⟩), .int .i64 ((30 : Nat) : Int)]) (by simp [results, Tryz.results25, go_sem, *]) rfl ?_
        exact ⟨p, l, by rw [Hll.out], HB9.out, HDo.out, by rw [Hll.out]; exact Hlen.out, HS9.out⟩
      · have x1' : ¬ ((q : Int) + 1 < (n : Int)) := by omega
        clear hlt hq x1
        go_wp2_with fail
        refine HF1.out.mono ?_
        rintro e8 w8 ⟨b8, A8, c8, rfl, _⟩
        have HB8 := hid (HB.out.trans (b8.mono HB.out.size))
        have HS8 := hid (HSt.out.keep b8)
        have HF2 := hid (find_none HA.out HS8.out ⟨#[122]⟩ allS (by decide) (by decide) (two_none _ _ (by decide) (by decide)) allS_e allS_ok (HT.out _ HB8.out))
        clear b8 HF1
        go_wp2_with fail
        refine HF2.out.mono ?_
        rintro e9 w9 ⟨b9, rfl⟩
        have HB9 := hid (HB8.out.trans (b9.mono HB8.out.size))
        have HS9 := hid (HS8.out.keep b9)
        clear b9 HF2
        go_wp2_with fail
        refine bodyPost_ret (v := .tuple #[.pointer (some ⟨p, 0, none⟩), .int .i64 (k : Nat)]) (by simp [results, Tryz.results25, go_sem, *]) rfl ?_
        exact ⟨p, l, by rw [Hll.out], HB9.out, HDo.out, by rw [Hll.out]; exact Hlen.out, HS9.out⟩
end Go.Proofs.YtknakfpciccoaaaGreatDoor
/- The walk of Opposite. -/
namespace Go.Proofs.YtknakfpciccoaaaGreatDoor
open Go.RowKit

theorem cnt_not {α : Type} (p q : α → Bool) (h : ∀ x, q x = !(p x)) : ∀ l : List α, (l.filter p).length + (l.filter q).length = l.length
  | [] => rfl
  | x :: l => by
    have ih := cnt_not p q h l
    simp only [List.filter_cons, h x, List.length_cons]
    cases p x <;> simp <;> omega
end Go.Proofs.YtknakfpciccoaaaGreatDoor
/- Rows of values that are written over in place; clear. -/
namespace Go.Proofs.YtknakfpciccoaaaGreatDoor
open Go.RowKit

theorem cx_set (xs : List Value) (a b : Nat) (u : Value) : cx (xs.set a u) b = if a = b ∧ a < xs.length then u else cx xs b := by
  unfold cx
  rw [List.getElem?_set]
  by_cases h : a = b
  · subst h
    by_cases h2 : a < xs.length
    · simp [h2]
    · simp [h2]
  · simp [h]
def setV (xs : List Value) (i : Nat) (u0 u1 u2 u3 u4 : Value) : List Value := ((((xs.set (i * 5) u0).set (i * 5 + 1) u1).set (i * 5 + 2) u2).set (i * 5 + 3) u3).set (i * 5 + 4) u4
theorem fv_setV_same {xs : List Value} {i : Nat} (h : i * 5 + 5 ≤ xs.length) (u0 u1 u2 u3 u4 : Value) : fv (setV xs i u0 u1 u2 u3 u4) i = .agg #[u0, u1, u2, u3, u4] := by
  have n (ys : List Value) (a b : Nat) (u : Value) (hab : a ≠ b) : cx (ys.set a u) b = cx ys b := by rw [cx_set, if_neg (fun e => hab e.1)]
  have y (ys : List Value) (a : Nat) (u : Value) (ha : a < ys.length) : cx (ys.set a u) a = u := by rw [cx_set, if_pos ⟨rfl, ha⟩]
  have e0 : cx (setV xs i u0 u1 u2 u3 u4) (i * 5) = u0 := by unfold setV; rw [n _ _ _ _ (by omega), n _ _ _ _ (by omega), n _ _ _ _ (by omega), n _ _ _ _ (by omega), y _ _ _ (by omega)]
  have e1 : cx (setV xs i u0 u1 u2 u3 u4) (i * 5 + 1) = u1 := by unfold setV; rw [n _ _ _ _ (by omega), n _ _ _ _ (by omega), n _ _ _ _ (by omega), y _ _ _ (by simp only [List.length_set]; omega)]
  have e2 : cx (setV xs i u0 u1 u2 u3 u4) (i * 5 + 2) = u2 := by unfold setV; rw [n _ _ _ _ (by omega), n _ _ _ _ (by omega), y _ _ _ (by simp only [List.length_set]; omega)]
  have e3 : cx (setV xs i u0 u1 u2 u3 u4) (i * 5 + 3) = u3 := by unfold setV; rw [n _ _ _ _ (by omega), y _ _ _ (by simp only [List.length_set]; omega)]
  have e4 : cx (setV xs i u0 u1 u2 u3 u4) (i * 5 + 4) = u4 := by unfold setV; rw [y _ _ _ (by simp only [List.length_set]; omega)]
  unfold fv
  rw [e0, e1, e2, e3, e4]
theorem cx_setV_other {xs : List Value} {i j : Nat} (h : j < i * 5 ∨ i * 5 + 5 ≤ j) (u0 u1 u2 u3 u4 : Value) : cx (setV xs i u0 u1 u2 u3 u4) j = cx xs j := by
  unfold setV
  simp only [cx_set, List.length_set]
  rw [if_neg (by omega), if_neg (by omega), if_neg (by omega), if_neg (by omega), if_neg (by omega)]
theorem fv_setV_other {xs : List Value} {i k : Nat} (h : k ≠ i) (u0 u1 u2 u3 u4 : Value) : fv (setV xs i u0 u1 u2 u3 u4) k = fv xs k := by
  unfold fv
  have a (j : Nat) (hj : j < i * 5 ∨ i * 5 + 5 ≤ j) : cx (setV xs i u0 u1 u2 u3 u4) j = cx xs j := cx_setV_other hj u0 u1 u2 u3 u4
  rw [a _ (by omega), a _ (by omega), a _ (by omega), a _ (by omega), a _ (by omega)]
theorem grown_trans {w w1 w2 : World} {g : Option Nat} (h : w.grownBy w1 g) (k : w1.grownBy w2 g) : w.grownBy w2 g :=
  ⟨k.os.trans h.os, k.tape.trans h.tape, k.output.trans h.output, Nat.le_trans h.size k.size, fun b hb hne => (k.block b (Nat.lt_of_lt_of_le hb h.size) hne).trans (h.block b hb hne)⟩
theorem grownV_refl (w : World) (g : Option Nat) : w.grownBy w g := ⟨rfl, rfl, rfl, Nat.le_refl _, fun _ _ _ => rfl⟩
theorem grown_below {w w1 : World} (g : Option Nat) (h : Below w.heap.size w w1) : w.grownBy w1 g := ⟨h.os, h.tape, h.output, h.size, fun b hb _ => h.block b hb⟩
theorem row_setV {w : World} {base g n cap : Nat} {e : TypeId} {xs : List Value} (h : w.ownsRow base e 5 (.slice (some ⟨g, 0, none⟩) n cap) n xs) (i : Nat) (u0 u1 u2 u3 u4 : Value) :
    (put5o w g (i * 5) u0 u1 u2 u3 u4).ownsRow base e 5 (.slice (some ⟨g, 0, none⟩) n cap) n (setV xs i u0 u1 u2 u3 u4) ∧ w.grownBy (put5o w g (i * 5) u0 u1 u2 u3 u4) (some g) := by
  have h0 := h.stored (i * 5) u0
  have h1 := h0.1.stored (i * 5 + 1) u1
  have h2 := h1.1.stored (i * 5 + 2) u2
  have h3 := h2.1.stored (i * 5 + 3) u3
  have h4 := h3.1.stored (i * 5 + 4) u4
  exact ⟨h4.1, grown_trans (grown_trans (grown_trans (grown_trans h0.2 h1.2) h2.2) h3.2) h4.2⟩
theorem row_setCells {base g n cap : Nat} {e : TypeId} : ∀ (vs : List Value) (o : Nat) (w : World) (xs : List Value), w.ownsRow base e 5 (.slice (some ⟨g, 0, none⟩) n cap) n xs →
    ∃ ys, (w.setCells g o vs).ownsRow base e 5 (.slice (some ⟨g, 0, none⟩) n cap) n ys ∧ ys.take o = xs.take o ∧ w.grownBy (w.setCells g o vs) (some g)
  | [], o, w, xs, h => ⟨xs, h, rfl, grownV_refl _ _⟩
  | v :: r, o, w, xs, h => by
    have h0 := h.stored o v
    obtain ⟨ys, h1, h2, h3⟩ := row_setCells r (o + 1) (w.setCell ⟨g, o, none⟩ v) (xs.set o v) h0.1
    refine ⟨ys, h1, ?_, grown_trans h0.2 h3⟩
    have h4 := congrArg (List.take o) h2
    rw [List.take_take, List.take_take, Nat.min_eq_left (by omega)] at h4
    rw [h4, List.take_set_of_le (by omega)]
theorem row_take {w : World} {base g n cap s : Nat} {e : TypeId} {xs : List Value} (h : w.ownsRow base e s (.slice (some ⟨g, 0, none⟩) n cap) n xs) {i : Nat} (hi : i ≤ n) : w.ownsRow base e s (.slice (some ⟨g, 0, none⟩) i cap) i (xs.take (i * s)) := by
  have hm : i * s ≤ n * s := Nat.mul_le_mul_right s hi
  refine ⟨by rw [List.length_take, h.1]; omega, ?_⟩
  rcases h.2 with ⟨h', _⟩ | ⟨g', cap', cur, h', hb, hg, hnc, hcm, hcs, htake⟩
  · simp at h'
  · simp only [Value.slice.injEq, Option.some.injEq, Addr.mk.injEq, and_true, true_and] at h'
    obtain ⟨rfl, rfl⟩ := h'
    exact .inr ⟨g, cap, cur, rfl, hb, hg, by omega, hcm, hcs, by rw [← htake, List.take_take, Nat.min_eq_left hm]⟩
theorem cx_take {xs : List Value} {j m : Nat} (h : j < m) : cx (xs.take m) j = cx xs j := by
  unfold cx
  rw [List.getElem?_take, if_pos h]
theorem fv_take {xs : List Value} {k i : Nat} (h : k < i) : fv (xs.take (i * 5)) k = fv xs k := by
  unfold fv
  rw [cx_take (by omega), cx_take (by omega), cx_take (by omega), cx_take (by omega), cx_take (by omega)]
theorem fv_takes {xs ys : List Value} {i : Nat} (h : ys.take (i * 5) = xs.take (i * 5)) {k : Nat} (hk : k < i) : fv ys k = fv xs k := by
  rw [← fv_take (xs := ys) hk, h, fv_take hk]
/-- What is cleared of a row of values. -/
theorem clear_row {w : World} {base g n cap : Nat} {xs : List Value} (h : w.ownsRow base 25 5 (.slice (some ⟨g, 0, none⟩) n cap) n xs) (i m c : Nat) (hm : 0 < m) (hi : i + m ≤ n) :
    ∃ vs, ∀ ty : TypeId, (Builtin.clear_ #[22] ty #[.slice (some ⟨g, i * 5, none⟩) m c]).run Tryz.prog w = .ok (.tuple #[]) (w.setCells g (i * 5) vs) := by
  have hv : ∀ w, (zeroValue 25).run Tryz.prog w = .ok (.agg #[.int .i64 0, .int .i64 0, .string ⟨#[]⟩, .slice none 0 0, .slice none 0 0]) w := fun w => by kernel_rfl
  generalize hz : (Value.agg #[.int .i64 0, .int .i64 0, .string ⟨#[]⟩, .slice none 0 0, .slice none 0 0]).cells = zc at *
  have hzs : zc.size = 5 := by rw [← hz]; rfl
  have hz1 : ∀ j, j < 5 → (zc[j]!).oneCell' = true := by
    intro j hj
    rw [← hz]
    match j, hj with
    | 0, _ => rfl
    | 1, _ => rfl
    | 2, _ => rfl
    | 3, _ => rfl
    | 4, _ => rfl
  have hl : (Builtin.zeroCells zc m).toList.length = m * 5 := by rw [Array.length_toList, size_zeroCells, hzs]
  have h1 : ∀ v ∈ (Builtin.zeroCells zc m).toList, v.oneCell' = true := by
    intro v hv
    simp only [Builtin.zeroCells, Array.toList_map, List.mem_map] at hv
    obtain ⟨a, _, rfl⟩ := hv
    rw [hzs]
    exact hz1 _ (Nat.mod_lt _ (by omega))
  have hx : xs.length = n * 5 := h.1
  have hst := run_storeCells_cells (P := Tryz.prog) g (i * 5) (Builtin.zeroCells zc m).toList 0 w (fun j hj => by rw [hl] at hj; rw [h.cellAt _ (by omega), List.getElem?_eq_getElem (by omega)]; rfl) (fun j hj => h.frozenAt _) h1
  simp only [Nat.add_zero] at hst
  refine ⟨(Builtin.zeroCells zc m).toList, fun ty => ?_⟩
  obtain ⟨m', rfl⟩ : ∃ m', m = m' + 1 := ⟨m - 1, by omega⟩
  simp [Builtin.clear_, run_underlying Tryz.underlying22, hv, hz, hst]
end Go.Proofs.YtknakfpciccoaaaGreatDoor
/- The walk of slices.DeleteFunc of values. -/
namespace Go.Proofs.YtknakfpciccoaaaGreatDoor
open Go.RowKit

/-- What is kept of the first of a list. -/
def kpt (p : T → Bool) (l : List T) (j : Nat) : List T := (l.take j).filter fun t => !(p t)
theorem kpt_no {p : T → Bool} {l : List T} {j : Nat} (h : j < l.length) (hp : p l[j] = false) : kpt p l (j + 1) = kpt p l j ++ [l[j]] := by
  unfold kpt
  rw [List.take_add_one, List.getElem?_eq_getElem h, List.filter_append]
  simp [hp]
theorem kpt_yes {p : T → Bool} {l : List T} {j : Nat} (h : j < l.length) (hp : p l[j] = true) : kpt p l (j + 1) = kpt p l j := by
  unfold kpt
  rw [List.take_add_one, List.getElem?_eq_getElem h, List.filter_append]
  simp [hp]
theorem kpt_all (p : T → Bool) (l : List T) : kpt p l l.length = l.filter fun t => !(p t) := by unfold kpt; rw [List.take_length]
theorem kpt_none {p : T → Bool} {l : List T} : ∀ j, j ≤ l.length → (∀ k, (h : k < l.length) → k < j → p l[k] = false) → kpt p l j = l.take j
  | 0, _, _ => by simp [kpt]
  | j + 1, h, ha => by rw [kpt_no (by omega) (ha j (by omega) (by omega)), kpt_none j (by omega) (fun k hk hj => ha k hk (by omega)), List.take_add_one, List.getElem?_eq_getElem (by omega)]; rfl
structure DelI (p : T → Bool) (Y : Nat → Prop) (f g n cap : Nat) (l : List T) (xs : List Value) (w wr : World) (i j : Nat) (ys : List Value) : Prop where
  row : wr.ownsRow 0 25 5 (.slice (some ⟨g, 0, none⟩) n cap) n ys
  grown : w.grownBy wr (some g)
  len : (kpt p l j).length = i
  lt : i < j
  at_ : ∀ k, (h : k < (kpt p l j).length) → AtP Y wr f (fv ys k) (kpt p l j)[k]
  high : ∀ k, j ≤ k → fv ys k = fv xs k
theorem at_grown {Y : Nat → Prop} {w wr : World} {f g : Nat} {v : Value} {t : T} (h : AtP Y w f v t) (hY : ∀ b, Y b → b ≠ g) (hG : w.grownBy wr (some g)) : AtP Y wr f v t :=
  h.move hG.size fun b hb hp => ⟨hp, hG.block b hb (by simpa using hY b hp)⟩
/-- The cells of an element. -/
theorem elem_cells {w : World} {base g n cap : Nat} {e : TypeId} {ys : List Value} (h : w.ownsRow base e 5 (.slice (some ⟨g, 0, none⟩) n cap) n ys) {j : Nat} (hj : j < n) : w.cell? ⟨g, j * 5, none⟩ = some (cx ys (j * 5)) ∧ w.cell? ⟨g, j * 5 + 1, none⟩ = some (cx ys (j * 5 + 1)) ∧ w.cell? ⟨g, j * 5 + 2, none⟩ = some (cx ys (j * 5 + 2)) ∧ w.cell? ⟨g, j * 5 + 3, none⟩ = some (cx ys (j * 5 + 3)) ∧ w.cell? ⟨g, j * 5 + 4, none⟩ = some (cx ys (j * 5 + 4)) := by
  have hx : ys.length = n * 5 := h.1
  exact ⟨row_cell h (cx_some (by omega)), row_cell h (cx_some (by omega)), row_cell h (cx_some (by omega)), row_cell h (cx_some (by omega)), row_cell h (cx_some (by omega))⟩
theorem DelI.keepE {p : T → Bool} {Y : Nat → Prop} {f g n cap : Nat} {l : List T} {xs : List Value} {w wr w3 : World} {i j : Nat} {ys : List Value} (h : DelI p Y f g n cap l xs w wr i j ys) (hY : ∀ b, Y b → b ≠ g) (hn : l.length = n) (hj : j < n) (hb : Below wr.heap.size wr w3) {c0 c1 c2 c3 c4 : Value} (ha : AtP Y w3 f (.agg #[c0, c1, c2, c3, c4]) (l[j]'(by omega))) (hp : p (l[j]'(by omega)) = false) :
    DelI p Y f g n cap l xs w (put5o w3 g (i * 5) c0 c1 c2 c3 c4) (i + 1) (j + 1) (setV ys i c0 c1 c2 c3 c4) := by
  have hgl : g < wr.heap.size := (h.row.lt g rfl).2
  have r3 : w3.ownsRow 0 25 5 (.slice (some ⟨g, 0, none⟩) n cap) n ys := rowH_move h.row fun b _ h2 => hb.block b h2
  obtain ⟨r4, g4⟩ := row_setV r3 i c0 c1 c2 c3 c4
  have hx : ys.length = n * 5 := h.row.1
  have hij := h.lt
  have hlen := h.len
  have gw : wr.grownBy (put5o w3 g (i * 5) c0 c1 c2 c3 c4) (some g) := grown_trans (grown_below _ hb) g4
  have e := kpt_no (p := p) (l := l) (j := j) (by omega) hp
  refine ⟨r4, grown_trans h.grown gw, by rw [e, List.length_append, hlen]; rfl, by omega, fun k hk => ?_, fun k hk => ?_⟩
  · have hk' : k < i + 1 := by rw [e, List.length_append, hlen] at hk; exact hk
    by_cases e1 : k < i
    · rw [fv_setV_other (by omega)]
      have e2 : (kpt p l (j + 1))[k] = (kpt p l j)[k]'(by omega) := by simp only [e]; rw [List.getElem_append_left (by omega)]
      rw [e2]
      exact at_grown (h.at_ k (by omega)) hY gw
    · obtain rfl : k = i := by omega
      rw [fv_setV_same (by omega)]
      have e2 : (kpt p l (j + 1))[k] = l[j]'(by omega) := by simp only [e]; rw [List.getElem_append_right (by omega)]; simp [hlen]
      rw [e2]
      exact at_grown ha hY g4
  · rw [fv_setV_other (by omega)]
    exact h.high k (by omega)
theorem DelI.skip {p : T → Bool} {Y : Nat → Prop} {f g n cap : Nat} {l : List T} {xs : List Value} {w wr w3 : World} {i j : Nat} {ys : List Value} (h : DelI p Y f g n cap l xs w wr i j ys) (hY : ∀ b, Y b → b ≠ g) (hn : l.length = n) (hj : j < n) (hb : Below wr.heap.size wr w3) (hp : p (l[j]'(by omega)) = true) :
    DelI p Y f g n cap l xs w w3 i (j + 1) ys := by
  have r3 : w3.ownsRow 0 25 5 (.slice (some ⟨g, 0, none⟩) n cap) n ys := rowH_move h.row fun b _ h2 => hb.block b h2
  have e := kpt_yes (p := p) (l := l) (j := j) (by omega) hp
  refine ⟨r3, grown_trans h.grown (grown_below _ hb), by rw [e]; exact h.len, by have := h.lt; omega, fun k hk => ?_, fun k hk => h.high k (by omega)⟩
  have e2 : (kpt p l (j + 1))[k] = (kpt p l j)[k]'(by rw [← e]; exact hk) := by simp only [e]
  rw [e2]
  exact at_grown (h.at_ k (by rw [← e]; exact hk)) hY (grown_below _ hb)
theorem DelI.done {p : T → Bool} {Y : Nat → Prop} {f g n cap : Nat} {l : List T} {xs : List Value} {w wr : World} {i : Nat} {ys : List Value} (h : DelI p Y f g n cap l xs w wr i n ys) (hY : ∀ b, Y b → b ≠ g) (hn : l.length = n) (vs : List Value) :
    w.grownBy (wr.setCells g (i * 5) vs) (some g) ∧ ∃ zs, (wr.setCells g (i * 5) vs).ownsRow 0 25 5 (.slice (some ⟨g, 0, none⟩) (l.filter fun t => !(p t)).length cap) (l.filter fun t => !(p t)).length zs ∧ ∀ k, (hk : k < (l.filter fun t => !(p t)).length) → AtP Y (wr.setCells g (i * 5) vs) f (fv zs k) (l.filter fun t => !(p t))[k] := by
  obtain ⟨zs, h1, h2, h3⟩ := row_setCells vs (i * 5) wr ys h.row
  have hlen := h.len
  have hij := h.lt
  subst hn
  have e := kpt_all p l
  refine ⟨grown_trans h.grown h3, zs.take (i * 5), ?_, fun k hk => ?_⟩
  · rw [← e, hlen]
    exact row_take h1 (by omega)
  · have hk' : k < (kpt p l l.length).length := by rw [e]; exact hk
    rw [fv_take (by omega), fv_takes h2 (by omega)]
    have e2 : (l.filter fun t => !(p t))[k] = (kpt p l l.length)[k] := by simp only [e]
    rw [e2]
    exact at_grown (h.at_ k hk') hY h3
theorem elt_list (l : List T) {k : Nat} (h : k < l.length) : elt (mkT 5 0 ByteArray.empty l []) k = l[k] := by rw [elt_mk, List.getD_eq_getElem?_getD, List.getElem?_eq_getElem h]; rfl
theorem anyL_off {p : T → Bool} {t : T} : ∀ {k j : Nat}, anyL p t k = false → j < k → p (elt t j) = false
  | 0, _, _, h => absurd h (Nat.not_lt_zero _)
  | k + 1, j, h, hj => by
    rw [anyL, Bool.or_eq_false_iff] at h
    by_cases e : j < k
    · exact anyL_off h.1 e
    · obtain rfl : j = k := by omega
      exact h.2
def DelPost (p : T → Bool) (Y : Nat → Prop) (f g cap : Nat) (l : List T) (w : World) (e : Ending) (w' : World) : Prop :=
  e = .returned (.slice (some ⟨g, 0, none⟩) (l.filter fun t => !(p t)).length cap) ∧ w.grownBy w' (some g) ∧ ∃ ys, w'.ownsRow 0 25 5 (.slice (some ⟨g, 0, none⟩) (l.filter fun t => !(p t)).length cap) (l.filter fun t => !(p t)).length ys ∧ ∀ i, (h : i < (l.filter fun t => !(p t)).length) → AtP Y w' f (fv ys i) (l.filter fun t => !(p t))[i]
set_option maxHeartbeats 8000000 in
set_option maxRecDepth 100000 in
theorem deleteFunc_any (p : T → Bool) (gid : FuncId) (hgid : ∀ (a : Array Value) (w : World), (callFunc gid a).run Tryz.prog w = .ok (.enter gid a) w) (pv : Value) (f : Nat) (Y : Nat → Prop) (g n cap : Nat) (l : List T) (xs : List Value) (w : World)
    (hr : w.ownsRow 0 25 5 (.slice (some ⟨g, 0, none⟩) n cap) n xs) (hn : l.length = n) (hn2 : n ≤ 1000000) (hY : ∀ b, Y b → b ≠ g) (hat : ∀ i, (h : i < l.length) → AtP Y w f (fv xs i) l[i])
    (hP : ∀ k, (h : k < l.length) → ∀ (wr : World) (v : Value), w.grownBy wr (some g) → At wr f v l[k] → Calls Tryz.prog gid #[pv, v] wr fun e w' => e = .returned (.bool (p l[k])) ∧ Below wr.heap.size wr w') :
    Calls Tryz.prog 112 #[.slice (some ⟨g, 0, none⟩) n cap, .func (Fn.func gid) #[pv] #[]] w (DelPost p Y f g cap l w) := by
  have hel : ElemsAt w f (some ⟨g, 0, none⟩) (mkT 5 0 ByteArray.empty l []) := by
    intro k hk
    rw [nL_mk] at hk
    obtain ⟨q0, q1, q2, q3, q4⟩ := elem_cells hr (j := k) (by omega)
    refine ⟨g, 0, _, _, _, _, _, rfl, (hr.lt g rfl).2, (by rw [Nat.zero_add]; exact q0), (by rw [Nat.zero_add]; exact q1), (by rw [Nat.zero_add]; exact q2), (by rw [Nat.zero_add]; exact q3), (by rw [Nat.zero_add]; exact q4), ?_⟩
    rw [elt_list l hk]
    exact (hat k hk).at
  have HIF := hid (indexFuncB_any p gid hgid pv f (some ⟨g, 0, none⟩) cap (mkT 5 0 ByteArray.empty l []) w hel (by rw [nL_mk]; omega) (fun k hk wr v hb ha => by
    rw [nL_mk] at hk
    rw [elt_list l hk] at ha ⊢
    exact hP k hk wr v (grown_below _ hb) ha))
  rw [nL_mk, hn] at HIF
  have hcap : n ≤ cap := by
    rcases hr.2 with ⟨h', _⟩ | ⟨g', cap', cur, h', _, _, hnc, _⟩
    · simp at h'
    · simp only [Value.slice.injEq, Option.some.injEq, Addr.mk.injEq, and_true, true_and] at h'
      omega
  have hcapm : cap ≤ 9223372036854775807 := by
    rcases hr.2 with ⟨h', _⟩ | ⟨g', cap', cur, h', _, _, _, hcm, _⟩
    · simp at h'
    · simp only [Value.slice.injEq, Option.some.injEq, Addr.mk.injEq, and_true, true_and] at h'
      unfold maxLen at hcm
      omega
  have HR := hid hr
  have Hn := hid hn
  have HY := hid hY
  have HAt := hid hat
  have HP := hid hP
  clear hr hn hY hat hP hel
  go_enter Tryz.func112, Tryz.ntmps112
  go_wp2_with fail
  refine HIF.out.mono ?_
  rintro e w1 ⟨b1, m, rfl, ⟨rfl, hno⟩ | ⟨k0, rfl, hk0, hp0, hbef⟩⟩
  · have HF : Hid ((l.filter fun t => !(p t)) = l) := by
      show _ = _
      rw [List.filter_eq_self]
      intro a ha
      obtain ⟨k, hk, rfl⟩ := List.getElem_of_mem ha
      have := anyL_off hno (by rw [← Hn.out]; exact hk)
      rw [elt_list l hk] at this
      simp [this]
    have HB := hid b1
    clear b1 hno HIF
    go_wp2_with fail
    go_ret
    refine ⟨by rw [HF.out, Hn.out]; rfl, grown_below _ HB.out, xs, ?_, ?_⟩
    · rw [HF.out, Hn.out]
      exact rowH_move HR.out fun b _ h2 => HB.out.block b h2
    · simp only [HF.out]
      exact fun i hi => at_grown (HAt.out i hi) HY.out (grown_below _ HB.out)
  · have hk0l : k0 < l.length := by rw [Hn.out]; exact hk0
    rw [elt_list l hk0l] at hp0
    have hkp : kpt p l k0 = l.take k0 := kpt_none k0 (by omega) (fun k hk hj => by have := anyL_off hbef hj; rwa [elt_list l hk] at this)
    have HI0 : Hid (DelI p Y f g n cap l xs w w1 k0 (k0 + 1) xs) := by
      have e := kpt_yes (p := p) hk0l hp0
      refine ⟨rowH_move HR.out fun b _ h2 => b1.block b h2, grown_below _ b1, by rw [e, hkp, List.length_take]; omega, by omega, fun k hk => ?_, fun _ _ => rfl⟩
      have hk' : k < k0 := by rw [e, hkp, List.length_take] at hk; omega
      have e2 : (kpt p l (k0 + 1))[k] = l[k]'(by omega) := by simp only [e, hkp]; rw [List.getElem_take]
      rw [e2]
      exact at_grown (HAt.out k (by omega)) HY.out (grown_below _ b1)
    clear b1 hp0 hbef HIF hkp hk0l HR
    go_wp2_with fail
    go_loopg [5, 6] (n - (k0 + 1)) (fun gg s5 s6 wr => ∃ (i j : Nat) (ys : List Value), gg = n - j ∧ j ≤ n ∧ s5 = .int .i64 i ∧ s6 = .int .i64 j ∧ Hid (DelI p Y f g n cap l xs w wr i j ys))
    case atStart => exact ⟨k0, k0 + 1, xs, rfl, by omega, rfl, by go_num, HI0⟩
    case round =>
      clear HI0
      obtain ⟨i, j, ys, rfl, hj, rfl, rfl, HI⟩ := hrel
      have hij := HI.out.lt
      by_cases hlt : j < n
      · have hjl : j < l.length := by rw [Hn.out]; exact hlt
        have HaP : Hid (AtP Y wr f (fv ys j) (l[j]'hjl)) := by
          show AtP Y wr f (fv ys j) (l[j]'hjl)
          rw [HI.out.high j (Nat.le_refl _)]
          exact at_grown (HAt.out j hjl) HY.out HI.out.grown
        have HPj := hid (HP.out j hjl)
        have HKe : Hid (∀ (w3 : World), Below wr.heap.size wr w3 → ∀ c0 c1 c2 c3 c4, AtP Y w3 f (.agg #[c0, c1, c2, c3, c4]) (l[j]'hjl) → p (l[j]'hjl) = false → DelI p Y f g n cap l xs w (put5o w3 g (i * 5) c0 c1 c2 c3 c4) (i + 1) (j + 1) (setV ys i c0 c1 c2 c3 c4)) := fun w3 hb c0 c1 c2 c3 c4 ha hp => HI.out.keepE HY.out Hn.out hlt hb ha hp
        have HSk : Hid (∀ (w3 : World), Below wr.heap.size wr w3 → p (l[j]'hjl) = true → DelI p Y f g n cap l xs w w3 i (j + 1) ys) := fun w3 hb hp => HI.out.skip HY.out Hn.out hlt hb hp
        generalize l[j]'hjl = t at HaP HPj HKe HSk
        obtain ⟨p0, p1, p2, p3, p4⟩ := elem_cells HI.out.row hlt
        obtain ⟨f1, La, Ka, Lc, Kc, hf1, hv, _, _, _⟩ := HaP.out.at.open
        have HAe := hid HaP.out
        rw [hv] at HAe
        unfold fv at hv
        simp only [Value.agg.injEq, Array.mk.injEq, List.cons.injEq, and_true] at hv
        obtain ⟨v0, v1, v2, v3, v4⟩ := hv
        rw [v0] at p0
        rw [v1] at p1
        rw [v2] at p2
        rw [v3] at p3
        rw [v4] at p4
        have HBa : Hid (Below wr.heap.size wr (wr.alloc (.cells #[.int .i64 (kindOf t), .int .i64 (nOf t), .string (sOf t), .slice La (nL t) Lc, .slice Ka (nK t) Kc] 25))) := (Below.refl _ _).alloc (Nat.le_refl _) _
        have HBx := hid (box_new wr (.int .i64 (kindOf t)) (.int .i64 (nOf t)) (.string (sOf t)) (.slice La (nL t) Lc) (.slice Ka (nK t) Kc))
        have HC := hid (HPj.out _ _ (grown_trans HI.out.grown (grown_below _ HBa.out)) (At.keep HBa.out HAe.out.at))
        have y1 : (j : Int) < (n : Int) := by omega
        have y2 : (i : Int) < (n : Int) := by omega
        have y3 : IntKind.i64.wrap ((j : Int) + 1) = (j : Int) + 1 := by rw [IntKind.wrap_i64]; omega
        have y4 : IntKind.i64.wrap ((i : Int) + 1) = (i : Int) + 1 := by rw [IntKind.wrap_i64]; omega
        clear v0 v1 v2 v3 v4 hf1 HPj HaP
        cases hp : p t with
        | false =>
          rw [hp] at HC
          have Hp := hid hp
          clear hp
          go_wp2_with fail
          refine HC.out.mono ?_
          rintro e w3 ⟨rfl, b3⟩
          have HB3 := hid (HBa.out.trans (b3.mono HBa.out.size))
          have HX3 := hid (HBx.out.stay b3)
          have HR3 : Hid (w3.ownsRow 0 25 5 (.slice (some ⟨g, 0, none⟩) n cap) n ys) := rowH_move HI.out.row fun b _ h2 => HB3.out.block b h2
          have HI4 := hid (HKe.out w3 HB3.out _ _ _ _ _ (HAe.out.move (q := Y) HB3.out.size fun b hb hy => ⟨hy, HB3.out.block b hb⟩) Hp.out)
          obtain ⟨q0, q1, q2, q3, q4⟩ := elem_cells HR3.out (j := i) (by omega)
          have z0 := HR3.out.frozenAt (i * 5)
          have z1 := HR3.out.frozenAt (i * 5 + 1)
          have z2 := HR3.out.frozenAt (i * 5 + 2)
          have z3 := HR3.out.frozenAt (i * 5 + 3)
          have z4 := HR3.out.frozenAt (i * 5 + 4)
          unfold put5o at HI4
          have r0 := HX3.out.q0
          have r1 := HX3.out.q1
          have r2 := HX3.out.q2
          have r3 := HX3.out.q3
          have r4 := HX3.out.q4
          clear b3 HC HBa HBx HX3 HR3 HB3 HAe HKe HSk HI p0 p1 p2 p3 p4
          generalize setV ys i (.int .i64 (kindOf t)) (.int .i64 (nOf t)) (.string (sOf t)) (.slice La (nL t) Lc) (.slice Ka (nK t) Kc) = ys' at HI4
          generalize cx ys (i * 5) = g0 at q0
          generalize cx ys (i * 5 + 1) = g1 at q1
          generalize cx ys (i * 5 + 2) = g2 at q2
          generalize cx ys (i * 5 + 3) = g3 at q3
          generalize cx ys (i * 5 + 4) = g4 at q4
          go_wp2_with fail
          go_roundg (n - (j + 1))
          case rel => exact ⟨i + 1, j + 1, ys', rfl, by omega, by go_num, by go_num, (by with_reducible exact HI4)⟩
          case measure => omega
        | true =>
          rw [hp] at HC
          have Hp := hid hp
          clear hp
          go_wp2_with fail
          refine HC.out.mono ?_
          rintro e w3 ⟨rfl, b3⟩
          have HI4 := hid (HSk.out w3 (HBa.out.trans (b3.mono HBa.out.size)) Hp.out)
          clear b3 HC HBa HBx HAe HKe HSk HI p0 p1 p2 p3 p4
          go_wp2_with fail
          go_roundg (n - (j + 1))
          case rel => exact ⟨i, j + 1, ys, rfl, by omega, rfl, by go_num, HI4⟩
          case measure => omega
      · obtain rfl : j = n := by omega
        obtain ⟨vs, hcl⟩ := clear_row HI.out.row i (j - i) (cap - i) (by omega) (by omega)
        have HD := hid (HI.out.done HY.out Hn.out vs)
        have Hlen : Hid ((l.filter fun t => !(p t)).length = i) := by show _ = _; rw [← kpt_all, Hn.out]; exact HI.out.len
        have y1 : (i : Int) ≤ (j : Int) := by omega
        go_wp2_with fail
        go_ret
        exact ⟨by rw [Hlen.out]; rfl, HD.out⟩
end Go.Proofs.YtknakfpciccoaaaGreatDoor
/- The walk of remove. -/
namespace Go.Proofs.YtknakfpciccoaaaGreatDoor
open Go.RowKit

/-- What DeleteFunc leaves of a row. -/
def DelV (p : T → Bool) (Y : Nat → Prop) (f : Nat) (v : Value) (l : List T) (w : World) (e : Ending) (w' : World) : Prop :=
  ∃ v', e = .returned v' ∧ v'.ownBlock = v.ownBlock ∧ w.grownBy w' v.ownBlock ∧ ∃ ys, w'.ownsRow 0 25 5 v' (l.filter fun t => !(p t)).length ys ∧ ∀ i, (h : i < (l.filter fun t => !(p t)).length) → AtP Y w' f (fv ys i) (l.filter fun t => !(p t))[i]
set_option maxHeartbeats 4000000 in
set_option maxRecDepth 100000 in
theorem deleteNil_any (p : T → Bool) (gid : FuncId) (hgid : ∀ (a : Array Value) (w : World), (callFunc gid a).run Tryz.prog w = .ok (.enter gid a) w) (pv : Value) (f : Nat) (Y : Nat → Prop) (w : World) :
    Calls Tryz.prog 112 #[.slice none 0 0, .func (Fn.func gid) #[pv] #[]] w (DelV p Y f (.slice none 0 0) [] w) := by
  have HIF := hid (indexFuncB_any p gid hgid pv f none 0 (mkT 5 0 ByteArray.empty [] []) w (fun k hk => absurd hk (Nat.not_lt_zero k)) (by rw [nL_mk]; simp) (fun k hk => absurd hk (Nat.not_lt_zero k)))
  have e0 : nL (mkT 5 0 ByteArray.empty [] []) = 0 := rfl
  rw [e0] at HIF
  clear e0
  go_enter Tryz.func112, Tryz.ntmps112
  go_wp2_with fail
  refine HIF.out.mono ?_
  rintro e w1 ⟨b1, m, rfl, ⟨rfl, hno⟩ | ⟨k0, rfl, hk0, _⟩⟩
  · have HB := hid b1
    clear b1 hno HIF
    go_wp2_with fail
    go_ret
    exact ⟨_, rfl, rfl, grown_below _ HB.out, [], World.ownsRow_nil _ _ _ _, fun i hi => absurd hi (Nat.not_lt_zero i)⟩
  · exact absurd hk0 (Nat.not_lt_zero k0)
theorem delete_any (p : T → Bool) (gid : FuncId) (hgid : ∀ (a : Array Value) (w : World), (callFunc gid a).run Tryz.prog w = .ok (.enter gid a) w) (pv : Value) (f : Nat) (Y : Nat → Prop) (v : Value) (l : List T) (xs : List Value) (w : World)
    (hr : w.ownsRow 0 25 5 v l.length xs) (hn2 : l.length ≤ 1000000) (hY : ∀ b, Y b → v.ownBlock ≠ some b) (hat : ∀ i, (h : i < l.length) → AtP Y w f (fv xs i) l[i])
    (hP : ∀ k, (h : k < l.length) → ∀ (wr : World) (x : Value), w.grownBy wr v.ownBlock → At wr f x l[k] → Calls Tryz.prog gid #[pv, x] wr fun e w' => e = .returned (.bool (p l[k])) ∧ Below wr.heap.size wr w') :
    Calls Tryz.prog 112 #[v, .func (Fn.func gid) #[pv] #[]] w (DelV p Y f v l w) := by
  rcases hr.2 with ⟨rfl, h0⟩ | ⟨g, cap, cur, rfl, _⟩
  · obtain rfl : l = [] := List.eq_nil_of_length_eq_zero h0
    exact deleteNil_any p gid hgid pv f Y w
  · refine (deleteFunc_any p gid hgid pv f Y g l.length cap l xs w hr rfl hn2 (fun b hb e => hY b hb (by rw [e]; rfl)) hat hP).mono ?_
    rintro e w' ⟨rfl, hG, ys, hO, hA⟩
    exact ⟨_, rfl, rfl, hG, ys, hO, hA⟩
def RemPost (p : T → Bool) (Y : Nat → Prop) (f c : Nat) (v : Value) (l : List T) (w : World) (e : Ending) (w' : World) : Prop :=
  e = .returned (.int .i64 ((l.length : Int) - ((l.filter fun t => !(p t)).length : Int))) ∧ But2 c v.ownBlock w w' ∧ ∃ v' ys, w'.cell? ⟨c, 0, none⟩ = some v' ∧ w'.frozen? ⟨c, 0, none⟩ = false ∧ v'.ownBlock = v.ownBlock ∧ w'.ownsRow 0 25 5 v' (l.filter fun t => !(p t)).length ys ∧ ∀ i, (h : i < (l.filter fun t => !(p t)).length) → AtP Y w' f (fv ys i) (l.filter fun t => !(p t))[i]
theorem rem_fin {Y : Nat → Prop} {f c k : Nat} {v v' : Value} {w w2 w3 : World} {ys : List Value} {r : List T} (h3 : w3 = w2.setCell ⟨c, 0, none⟩ v') (hG : w.grownBy w2 v.ownBlock) (hob : v'.ownBlock = v.ownBlock) (hO : w2.ownsRow 0 25 5 v' k ys) (hA : ∀ i, (h : i < r.length) → AtP Y w2 f (fv ys i) r[i])
    (hc : w.cell? ⟨c, 0, none⟩ = some v) (hf : w.frozen? ⟨c, 0, none⟩ = false) (hcl : c < w.heap.size) (hap : v.ownBlock ≠ some c) (hY : ∀ b, Y b → b ≠ c) :
    But2 c v.ownBlock w w3 ∧ w3.cell? ⟨c, 0, none⟩ = some v' ∧ w3.frozen? ⟨c, 0, none⟩ = false ∧ w3.ownsRow 0 25 5 v' k ys ∧ ∀ i, (h : i < r.length) → AtP Y w3 f (fv ys i) r[i] := by
  have hcb : w2.heap[c]? = w.heap[c]? := hG.block c hcl (fun e => hap e.symm)
  obtain ⟨t1, t2, t3, t4⟩ := setC_rest w2 ⟨c, 0, none⟩ v'
  have k1 := World.cell?_setCell_same w2 ⟨c, 0, none⟩ v' ((cell_of hcb 0).trans hc)
  have k2 : (w2.setCell ⟨c, 0, none⟩ v').frozen? ⟨c, 0, none⟩ = false := by
    rw [World.frozen?_setCell]
    exact (World.frozen?_of_block (a := ⟨c, 0, none⟩) hcb).trans hf
  have k3 := ownsRow_setCell_other (a := ⟨c, 0, none⟩) hO (by rw [hob]; exact hap) v'
  have k4 : ∀ b, b ≠ c → (w2.setCell ⟨c, 0, none⟩ v').heap[b]? = w2.heap[b]? := fun b hb => Below.heap_setCell _ _ _ _ (by simpa using hb)
  rw [← h3] at t1 t2 t3 t4 k1 k2 k3 k4
  have s2 := hG.size
  exact ⟨⟨t2.trans hG.os, t3.trans hG.tape, t4.trans hG.output, by omega, fun b hb h1 h2 => (k4 b h1).trans (hG.block b hb h2)⟩, k1, k2, k3, fun i hi => (hA i hi).move (by omega) fun b _ hy => ⟨hy, k4 b (hY b hy)⟩⟩
set_option maxHeartbeats 4000000 in
set_option maxRecDepth 100000 in
theorem remove_any (p : T → Bool) (pv : Value) (f c : Nat) (Y : Nat → Prop) (v : Value) (l : List T) (xs : List Value) (w : World)
    (hc : w.cell? ⟨c, 0, none⟩ = some v) (hf : w.frozen? ⟨c, 0, none⟩ = false) (hcl : c < w.heap.size) (hap : v.ownBlock ≠ some c) (hr : w.ownsRow 0 25 5 v l.length xs) (hn2 : l.length ≤ 1000000) (hY : ∀ b, Y b → v.ownBlock ≠ some b ∧ b ≠ c) (hat : ∀ i, (h : i < l.length) → AtP Y w f (fv xs i) l[i])
    (hP : ∀ k, (h : k < l.length) → ∀ (wr : World) (x : Value), w.grownBy wr v.ownBlock → At wr f x l[k] → Calls Tryz.prog 111 #[pv, x] wr fun e w' => e = .returned (.bool (p l[k])) ∧ Below wr.heap.size wr w') :
    Calls Tryz.prog 66 #[.pointer (some ⟨c, 0, none⟩), pv] w (RemPost p Y f c v l w) := by
  have hmf : ∀ (fn : Fn) (first cap : Array Value) (w : World), (Instr.makeFunc fn first cap).run Tryz.prog w = .ok (.func fn first cap) w := fun _ _ _ _ => rfl
  have HD := hid (delete_any p 111 (fun _ _ => rfl) pv f Y v l xs w hr hn2 (fun b hb => (hY b hb).1) hat hP)
  have HFin : Hid (∀ (v' : Value) (ys : List Value) (w2 w3 : World), w3 = w2.setCell ⟨c, 0, none⟩ v' → w.grownBy w2 v.ownBlock → v'.ownBlock = v.ownBlock → w2.ownsRow 0 25 5 v' (l.filter fun t => !(p t)).length ys → (∀ i, (h : i < (l.filter fun t => !(p t)).length) → AtP Y w2 f (fv ys i) (l.filter fun t => !(p t))[i]) → But2 c v.ownBlock w w3 ∧ w3.cell? ⟨c, 0, none⟩ = some v' ∧ w3.frozen? ⟨c, 0, none⟩ = false ∧ w3.ownsRow 0 25 5 v' (l.filter fun t => !(p t)).length ys ∧ ∀ i, (h : i < (l.filter fun t => !(p t)).length) → AtP Y w3 f (fv ys i) (l.filter fun t => !(p t))[i]) := fun v' ys w2 w3 h3 hG hob hO hA => rem_fin h3 hG hob hO hA hc hf hcl hap (fun b hb => (hY b hb).2)
  have HC2 : Hid (∀ w2 : World, w.grownBy w2 v.ownBlock → w2.cell? ⟨c, 0, none⟩ = some v ∧ w2.frozen? ⟨c, 0, none⟩ = false) := fun w2 hG => ⟨(cell_of (hG.block c hcl (fun e => hap e.symm)) 0).trans hc, (World.frozen?_of_block (a := ⟨c, 0, none⟩) (hG.block c hcl (fun e => hap e.symm))).trans hf⟩
  obtain ⟨A, cp, hv⟩ := row_slice hr
  have Hlen := hid (List.length_filter_le (fun t => !(p t)) l)
  have hn3 := hn2
  clear hr hat hP hY hap hcl hf
  subst hv
  go_enter Tryz.func66, Tryz.ntmps66
  go_wp2_with fail
  refine HD.out.mono ?_
  rintro e w2 ⟨v', rfl, hob, hG, ys, hO, hA⟩
  obtain ⟨A', cp', rfl⟩ := row_slice hO
  obtain ⟨q0, f0⟩ := HC2.out w2 hG
  have HF := hid (HFin.out _ ys w2 _ rfl hG hob hO hA)
  have Hob := hid hob
  have q1 := HF.out.2.1
  obtain ⟨m, hm⟩ : ∃ m, (l.filter fun t => !(p t)).length = m := ⟨_, rfl⟩
  obtain ⟨k, hk⟩ : ∃ k, l.length = k := ⟨_, rfl⟩
  have Hmk := hid (And.intro hm hk)
  have hle := Hlen.out
  rw [hm, hk] at hle
  rw [hk] at hn3 hc
  rw [hk] at q0
  rw [hm] at q1
  have hw : IntKind.i64.wrap ((k : Int) - (m : Int)) = (k : Int) - (m : Int) := by rw [IntKind.wrap_i64]; omega
  clear hob hG hO hA HD HFin HC2 hle
  rw [hk, hm]
  go_wp2_with fail
  go_ret
  obtain ⟨h1, h2⟩ := Hmk.out
  subst h1
  subst h2
  refine ⟨rfl, HF.out.1, _, ys, HF.out.2.1, HF.out.2.2.1, Hob.out, HF.out.2.2.2.1, HF.out.2.2.2.2⟩
end Go.Proofs.YtknakfpciccoaaaGreatDoor
