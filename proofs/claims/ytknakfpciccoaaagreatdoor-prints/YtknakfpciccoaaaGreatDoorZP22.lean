import Derived.Test.YtknakfpciccoaaaGreatDoorZP4
import Derived.Test.YtknakfpciccoaaaGreatDoorZP1
import Derived.BigQuiet
import Derived.Deep.QuietTactic
import Derived.Deep.RegionHeld
import Derived.Test.YtknakfpciccoaaaGreatDoorZP6
import Derived.Test.YtknakfpciccoaaaGreatDoorZP5
import Derived.Test.YtknakfpciccoaaaGreatDoorZP15
import Derived.Test.YtknakfpciccoaaaGreatDoorZP20
import Derived.Test.YtknakfpciccoaaaGreatDoorZP21
/- The walk of same, of two values that read as one. -/
namespace Go.Proofs.YtknakfpciccoaaaGreatDoor
open Go.RowKit

def SameSaid (m : Nat) : Prop := ∀ (f g : Nat) (va vb : Value) (t : T) (w : World), At w f va t → At w g vb t →
    Calls Tryz.prog 16 #[va, vb, .int .i64 m] w fun e w' => e = .returned (.bool true) ∧ Below w.heap.size w w'

set_option maxHeartbeats 1000000 in
set_option maxRecDepth 100000 in
theorem same_step (m : Nat) (hm : m ≤ 100) (ih : ∀ n, m = n + 1 → SameSaid n) : SameSaid m := by
  intro f g va vb t w h h'
  obtain ⟨f1, La, Ka, Lc, Kc, hf1, rfl, hf, hl, hk⟩ := h.open
  obtain ⟨g1, Ma, Na, Mc, Nc, hg1, rfl, hf', hl', hk'⟩ := h'.open
  have hlen := hf.l1
  have klen := hf.m1
  have Hih := hid ih
  clear h h' hf hf' hf1 hg1 ih
  go_enter Tryz.func16, Tryz.ntmps16
  go_wp2_with fail
  go_loopg [7] (nK t) (fun g i wr => ∃ k : Nat, g = nK t - k ∧ k ≤ nK t ∧ i = .int .i64 k ∧ Below (w.heap.size + 2) ((w.alloc (.cells #[.int .i64 (kindOf t), .int .i64 (nOf t), .string (sOf t), .slice La (nL t) Lc, .slice Ka (nK t) Kc] 25)).alloc (.cells #[.int .i64 (kindOf t), .int .i64 (nOf t), .string (sOf t), .slice Ma (nL t) Mc, .slice Na (nK t) Nc] 25)) wr)
  case atStart => exact ⟨0, rfl, Nat.zero_le _, rfl, Below.refl _ _⟩
  case round =>
    obtain ⟨k, rfl, hk1, rfl, hb⟩ := hrel
    obtain ⟨⟨q0, q1, q2, q3, q4⟩, ⟨r0, r1, r2, r3, r4⟩, hz, hbw⟩ := box2_facts hb
    have Hb := hid hb
    clear hb
    by_cases hlt : k < nK t
    · obtain ⟨ea, fa, rfl, hea, hsa, n0⟩ := hk.out.keep hbw k hlt
      obtain ⟨eb, fb, rfl, heb, hsb, m0⟩ := hk'.out.keep hbw k hlt
      have x3 : (k : Int) < (nK t : Int) := by omega
      go_wp2_with fail
      go_quiet (fail)
      go_wp2_with fail
      go_roundg (nK t - (k + 1))
      case rel => exact ⟨k + 1, rfl, by omega, by go_num, below_drewN Hb.out _⟩
      case measure => omega
    · go_wp2_with fail
      go_loopg [8, 9] (nL t) (fun g i z wx => ∃ k : Nat, g = nL t - k ∧ k ≤ nL t ∧ i = .int .i64 k ∧ Below (w.heap.size + 2) ((w.alloc (.cells #[.int .i64 (kindOf t), .int .i64 (nOf t), .string (sOf t), .slice La (nL t) Lc, .slice Ka (nK t) Kc] 25)).alloc (.cells #[.int .i64 (kindOf t), .int .i64 (nOf t), .string (sOf t), .slice Ma (nL t) Mc, .slice Na (nK t) Nc] 25)) wx)
      case atStart => exact ⟨0, rfl, Nat.zero_le _, rfl, Hb.out⟩
      case round =>
        clear q0 q1 q2 q3 q4 r0 r1 r2 r3 r4 hz hbw Hb hk1 hlt
        obtain ⟨k, rfl, hk1, rfl, hb⟩ := hrel
        obtain ⟨⟨q0, q1, q2, q3, q4⟩, ⟨r0, r1, r2, r3, r4⟩, hz, hbw⟩ := box2_facts hb
        have Hb := hid hb
        clear hb
        have hz0 : w.heap.size < wr.heap.size := by omega
        by_cases hlt : k < nL t
        · by_cases hm0 : 0 < m
          · obtain ⟨n, hn⟩ : ∃ n, m = n + 1 := ⟨m - 1, by omega⟩
            have HS := hid (Hih.out n hn)
            obtain ⟨ba, oa, c0, c1, c2, c3, c4, rfl, hba, p0, p1, p2, p3, p4, Ha⟩ := hl.out.keep hbw k hlt
            obtain ⟨bb, ob, d0, d1, d2, d3, d4, rfl, hbb, t0, t1, t2, t3, t4, Hc⟩ := hl'.out.keep hbw k hlt
            have x1 : (k : Int) < (nL t : Int) := by omega
            have em : IntKind.i64.wrap (n : Int) = (n : Int) := by rw [IntKind.wrap_i64]; omega
            have em2 : (m : Int) - 1 = (n : Int) := by omega
            clear hn
            have HA1 := hid (Ha.out.keep (below_drew wr))
            have HC1 := hid (Hc.out.keep (below_drew wr))
            have HSS : Hid (∀ wx : World, Below wr.drew.heap.size wr.drew wx → wx.cell? ⟨w.heap.size, 3, none⟩ = some (.slice (some ⟨ba, oa, none⟩) (nL t) Lc) ∧ wx.cell? ⟨w.heap.size + 1, 3, none⟩ = some (.slice (some ⟨bb, ob, none⟩) (nL t) Mc) ∧ wx.cell? ⟨ba, oa + k * 5, none⟩ = some c0 ∧ wx.cell? ⟨ba, oa + k * 5 + 1, none⟩ = some c1 ∧ wx.cell? ⟨ba, oa + k * 5 + 2, none⟩ = some c2 ∧ wx.cell? ⟨ba, oa + k * 5 + 3, none⟩ = some c3 ∧ wx.cell? ⟨ba, oa + k * 5 + 4, none⟩ = some c4 ∧ wx.cell? ⟨bb, ob + k * 5, none⟩ = some d0 ∧ wx.cell? ⟨bb, ob + k * 5 + 1, none⟩ = some d1 ∧ wx.cell? ⟨bb, ob + k * 5 + 2, none⟩ = some d2 ∧ wx.cell? ⟨bb, ob + k * 5 + 3, none⟩ = some d3 ∧ wx.cell? ⟨bb, ob + k * 5 + 4, none⟩ = some d4) := by
              intro wx hx
              have hh := (below_drew wr).trans hx
              refine ⟨?_, ?_, ?_, ?_, ?_, ?_, ?_, ?_, ?_, ?_, ?_, ?_⟩
              all_goals (rw [hh.cell (p := ⟨_, _, none⟩) (by first | assumption | omega)]; assumption)
            go_wp2_with fail
            go_region_held (fun wx => wx.cell? ⟨w.heap.size, 3, none⟩ = some (.slice (some ⟨ba, oa, none⟩) (nL t) Lc) ∧ wx.cell? ⟨w.heap.size + 1, 3, none⟩ = some (.slice (some ⟨bb, ob, none⟩) (nL t) Mc) ∧ wx.cell? ⟨ba, oa + k * 5, none⟩ = some c0 ∧ wx.cell? ⟨ba, oa + k * 5 + 1, none⟩ = some c1 ∧ wx.cell? ⟨ba, oa + k * 5 + 2, none⟩ = some c2 ∧ wx.cell? ⟨ba, oa + k * 5 + 3, none⟩ = some c3 ∧ wx.cell? ⟨ba, oa + k * 5 + 4, none⟩ = some c4 ∧ wx.cell? ⟨bb, ob + k * 5, none⟩ = some d0 ∧ wx.cell? ⟨bb, ob + k * 5 + 1, none⟩ = some d1 ∧ wx.cell? ⟨bb, ob + k * 5 + 2, none⟩ = some d2 ∧ wx.cell? ⟨bb, ob + k * 5 + 3, none⟩ = some d3 ∧ wx.cell? ⟨bb, ob + k * 5 + 4, none⟩ = some d4) (go_keep) ((go_at_call 16; refine (HS.out _ _ _ _ _ _ HA1.out HC1.out).mono ?_; rintro e w2 ⟨rfl, hb2⟩; have hc2 := HSS.out _ hb2))
            have HB2 := hid (Hb.out.trans (((below_drew wr).trans hb2).mono (by omega)))
            clear hb2 hc2 HA1 HC1
            go_wp2_with fail
            go_roundg (nL t - (k + 1))
            case rel => exact ⟨k + 1, rfl, by omega, by go_num, HB2.out⟩
            case measure => omega
          · have e0 : (m : Int) ≤ 0 := by omega
            have x1 : (k : Int) < (nL t : Int) := by omega
            go_wp2_with fail
            go_ret
            exact ⟨rfl, hbw⟩
        · go_wp2_with fail
          go_ret
          exact ⟨rfl, hbw⟩
theorem same_any : ∀ (m : Nat), m ≤ 100 → SameSaid m
  | 0, h => same_step 0 h (fun n e => by omega)
  | m + 1, h => same_step (m + 1) h (fun n e => (Nat.succ.inj e) ▸ same_any m (by omega))
end Go.Proofs.YtknakfpciccoaaaGreatDoor
/- The walk of spare, of a value that was lent. -/
namespace Go.Proofs.YtknakfpciccoaaaGreatDoor
open Go.RowKit

def markT : T := mkT (-77) 0 mark3 [] []
theorem mark_at (w : World) : At w 1 (.agg #[.int .i64 (-77), .int .i64 0, .string mark3, .slice none 0 0, .slice none 0 0]) markT := by
  have h0 : nL markT = 0 := rfl
  have h1 : nK markT = 0 := by unfold nK markT; rw [kOf_mk]; rfl
  have hs : (sOf markT).size = 3 := rfl
  refine ⟨none, none, 0, 0, ?_, ⟨by decide, by decide, by decide, by decide, by rw [hs]; omega, by rw [h0]; omega, by rw [h1]; omega⟩, fun i hi => ?_, fun i hi => ?_⟩
  · rw [h0, h1]; rfl
  · rw [h0] at hi; omega
  · rw [h1] at hi; omega
def SpareSaid (m : Nat) : Prop := ∀ (p : Nat → Prop) (f : Nat) (x : Value) (t : T) (w : World), LentP p w m f x t →
    Calls Tryz.prog 17 #[x, .int .i64 m] w fun e w' => e = .returned (.bool true) ∧ Below w.heap.size w w'
set_option maxHeartbeats 400000 in
theorem spare_zero : SpareSaid 0 := by
  intro p f x t w h
  obtain ⟨f1, La, Ka, Lc, Kc, hf1, rfl, hf, hl, hk⟩ := (AtP.at h).open
  clear h hf hl hk hf1
  go_enter Tryz.func17, Tryz.ntmps17
  go_wp2_with fail
  go_ret
  exact ⟨rfl, (Below.refl _ _).alloc (Nat.le_refl _) _⟩

set_option maxHeartbeats 1000000 in
set_option maxRecDepth 100000 in
theorem spare_succ (m : Nat) (hm : m ≤ 100) (ih : SpareSaid m) : SpareSaid (m + 1) := by
  rintro p f x t w ⟨bL, bK, g, rfl, rfl, hf, ⟨h1, hp1⟩, ⟨h2, hp2⟩, he, hn, hmk, htl⟩
  have hlen := hf.l1
  have klen := hf.m1
  have Hih := hid ih
  have He := hid he
  have Hm := hid hmk
  have Ht := hid htl
  have e0 : ((m : Int) + 1 == 0) = false := beq_eq_false_iff_ne.2 (by omega)
  have em : ((m : Int) + 1 - 1) = (m : Int) := by omega
  have x7 : (nL t : Int) + 8 ≤ ((nL t + 8 : Nat) : Int) := by omega
  have x8 : (nK t : Int) + 8 ≤ ((nK t + 8 : Nat) : Int) := by omega
  clear hf hn ih he hmk htl
  unfold five
  go_enter Tryz.func17, Tryz.ntmps17
  go_wp2_with fail
  go_loopg [8, 9] 8 (fun g i z wr => ∃ k : Nat, g = 8 - k ∧ k ≤ 8 ∧ i = .int .i64 k ∧ Below (w.heap.size + 1) (w.alloc (.cells #[.int .i64 (kindOf t), .int .i64 (nOf t), .string (sOf t), .slice (some ⟨bL, 0, none⟩) (nL t) (nL t + 8), .slice (some ⟨bK, 0, none⟩) (nK t) (nK t + 8)] 25)) wr)
  case atStart => exact ⟨0, rfl, by omega, rfl, Below.refl _ _⟩
  case round =>
    obtain ⟨k, rfl, hk1, rfl, hb⟩ := hrel
    obtain ⟨q0, q1, q2, q3, q4, hz, hbw⟩ := box_facts hb
    have Hb := hid hb
    have Hbw := hid hbw
    clear hb hbw
    by_cases hlt : k < 8
    · obtain ⟨s0, s1, s2, s3, s4⟩ := (Hm.out k hlt).move (Hbw.out.block bL h1)
      have tl : wr.cell? ⟨bK, nK t + k, none⟩ = some (.string ⟨#[126]⟩) := (cell_of (Hbw.out.block bK h2) (nK t + k)).trans (Ht.out k hlt)
      have l1 : bL < wr.heap.size := by omega
      have l2 : bK < wr.heap.size := by omega
      have xw : IntKind.i64.wrap ((nL t : Int) + (k : Int)) = (nL t : Int) + (k : Int) := by rw [IntKind.wrap_i64]; omega
      have x3 : (nL t : Int) + (k : Int) < (nL t : Int) + 8 := by omega
      have x4 : (nL t : Int) + (k : Int) < ((nL t + 8 : Nat) : Int) := by omega
      have x5 : ((nL t : Int) + (k : Int)).toNat = nL t + k := by omega
      have x6 : (nK t : Int) + (k : Int) < ((nK t + 8 : Nat) : Int) := by omega
      have HSS : Hid (∀ wx : World, Below wr.heap.size wr wx → wx.cell? ⟨bL, (nL t + k) * 5, none⟩ = some (.int .i64 (-77)) ∧ wx.cell? ⟨bL, (nL t + k) * 5 + 1, none⟩ = some (.int .i64 0) ∧ wx.cell? ⟨bL, (nL t + k) * 5 + 2, none⟩ = some (.string mark3) ∧ wx.cell? ⟨bL, (nL t + k) * 5 + 3, none⟩ = some (.slice none 0 0) ∧ wx.cell? ⟨bL, (nL t + k) * 5 + 4, none⟩ = some (.slice none 0 0)) := by
        intro wx hx
        refine ⟨?_, ?_, ?_, ?_, ?_⟩
        all_goals (rw [hx.cell (p := ⟨_, _, none⟩) l1]; assumption)
      go_wp2_with fail
      go_region_held (fun wx => wx.cell? ⟨bL, (nL t + k) * 5, none⟩ = some (.int .i64 (-77)) ∧ wx.cell? ⟨bL, (nL t + k) * 5 + 1, none⟩ = some (.int .i64 0) ∧ wx.cell? ⟨bL, (nL t + k) * 5 + 2, none⟩ = some (.string mark3) ∧ wx.cell? ⟨bL, (nL t + k) * 5 + 3, none⟩ = some (.slice none 0 0) ∧ wx.cell? ⟨bL, (nL t + k) * 5 + 4, none⟩ = some (.slice none 0 0)) (go_keep) (first | (go_at_call 43; refine (mark77_any _).mono ?_; rintro e w2 ⟨rfl, hb2⟩; have hc2 := HSS.out _ ((below_drew wr).trans hb2)) | (go_at_call 16; refine (same_any 1 (by omega) 1 1 _ _ markT _ (mark_at _) (mark_at _)).mono ?_; rintro e w3 ⟨rfl, hb3⟩; have hc3 := HSS.out _ (((below_drew wr).trans hb2).trans (hb3.mono (((below_drew wr).trans hb2).size)))))
      all_goals
        have hb4 := ((below_drew wr).trans hb2).trans (hb3.mono (((below_drew wr).trans hb2).size))
        have HB3 := hid (Hb.out.trans (hb4.mono hz))
        have tl' := (hb4.cell (p := ⟨bK, nK t + k, none⟩) l2).trans tl
        have q4' := (hb4.cell (p := ⟨w.heap.size, 4, none⟩) hz).trans q4
        clear hb2 hb3 hc2 hc3 hb4 HSS
        go_wp2_with fail
        go_roundg (8 - (k + 1))
        case rel => exact ⟨k + 1, rfl, by omega, by go_num, HB3.out⟩
        case measure => omega
    · go_wp2_with fail
      go_loopg [10, 11] (nL t) (fun g i z wx => ∃ k : Nat, g = nL t - k ∧ k ≤ nL t ∧ i = .int .i64 k ∧ Below (w.heap.size + 1) (w.alloc (.cells #[.int .i64 (kindOf t), .int .i64 (nOf t), .string (sOf t), .slice (some ⟨bL, 0, none⟩) (nL t) (nL t + 8), .slice (some ⟨bK, 0, none⟩) (nK t) (nK t + 8)] 25)) wx)
      case atStart => exact ⟨0, rfl, Nat.zero_le _, rfl, Hb.out⟩
      case round =>
        clear q0 q1 q2 q3 q4 hz Hb Hbw hk1 hlt
        obtain ⟨k, rfl, hk1, rfl, hb⟩ := hrel
        obtain ⟨q0, q1, q2, q3, q4, hz, hbw⟩ := box_facts hb
        have Hb := hid hb
        have Hbw := hid hbw
        clear hb hbw
        by_cases hlt : k < nL t
        · obtain ⟨A, B, C, D, h5, h6⟩ := He.out k hlt
          obtain ⟨s0, s1, s2, s3, s4⟩ := h5.move (Hbw.out.block bL h1)
          have HL := hid (LentP.move (q := p) Hbw.out.size (fun b hb hp => ⟨hp, Hbw.out.block b hb⟩) h6)
          have l1 : bL < wr.heap.size := by omega
          clear h5 h6
          go_wp2_with fail
          refine (Hih.out p g _ (elt t k) _ HL.out).mono ?_
          rintro e w2 ⟨rfl, hb2⟩
          have HB2 := hid (Hb.out.trans (hb2.mono hz))
          clear hb2
          go_wp2_with fail
          go_roundg (nL t - (k + 1))
          case rel => exact ⟨k + 1, rfl, by omega, by go_num, HB2.out⟩
          case measure => omega
        · go_wp2_with fail
          go_ret
          exact ⟨rfl, Hbw.out⟩
theorem spare_any : ∀ (m : Nat), m ≤ 100 → SpareSaid m
  | 0, _ => spare_zero
  | m + 1, h => spare_succ m (by omega) (spare_any m (by omega))
end Go.Proofs.YtknakfpciccoaaaGreatDoor
/- The walk of Prints: it returns true. -/
namespace Go.Proofs.YtknakfpciccoaaaGreatDoor
open Go.RowKit

set_option maxHeartbeats 4000000 in
set_option maxRecDepth 100000 in
theorem Prints_any {Tb : World → Prop} (hV : ValidSaid Tb) (hF : FmtSaid Tb) (hD : DecSaid Tb) (hN : IntSaid Tb) (hL : Lies Tb) (f : Nat) (va : Value) (a : T) (w : World) (h : At w f va a) (hT : Tb w) :
    Calls Tryz.prog 3 #[va] w fun e w' => e = .returned (.bool true) ∧ Below w.heap.size w w' := by
  have HA := hid h
  have HT := hid hT
  have HE : Hid (isV a = isR f a) := isV_isR f a h.shal
  obtain ⟨f1, La, Ka, Lc, Kc, hf1, rfl, hf, hl, hk⟩ := h.open
  clear h hf hf1 hl hk hT
  have HB0 : Hid (Below w.heap.size w (w.alloc (.cells #[.int .i64 (kindOf a), .int .i64 (nOf a), .string (sOf a), .slice La (nL a) Lc, .slice Ka (nK a) Kc] 25))) := (Below.refl _ _).alloc (Nat.le_refl _) _
  have HX0 : Hid (Box (w.alloc (.cells #[.int .i64 (kindOf a), .int .i64 (nOf a), .string (sOf a), .slice La (nL a) Lc, .slice Ka (nK a) Kc] 25)) w.heap.size (.int .i64 (kindOf a)) (.int .i64 (nOf a)) (.string (sOf a)) (.slice La (nL a) Lc) (.slice Ka (nK a) Kc)) := Box.made _ _ _ _ _ _
  have HP0 := hid (parsed_any hD hN hL _ (hL w HT.out _ _ HT.out HB0.out))
  go_enter Tryz.func3, Tryz.ntmps3
  go_wp2_with fail
  refine HP0.out.mono ?_
  rintro e w1 ⟨rfl, b1⟩
  have HB1 := hid (HB0.out.trans (b1.mono HB0.out.size))
  have HX1 := hid (HX0.out.keep b1)
  clear b1 HB0 HX0 HP0
  obtain ⟨⟨x0, x1, x2, x3, x4⟩, hx⟩ := HX1.out
  go_wp2_with fail
  refine (vast_any f _ a _ (HA.out.keep HB1.out)).mono ?_
  rintro e w2 ⟨rfl, b2⟩
  have HB2 := hid (HB1.out.trans (b2.mono HB1.out.size))
  have HX2 := hid (HX1.out.keep b2)
  clear b2 HB1 HX1 x0 x1 x2 x3 x4 hx
  obtain ⟨⟨x0, x1, x2, x3, x4⟩, hx⟩ := HX2.out
  cases hv : vastT a with
  | true =>
    have HN : Hid (isV a = false) := vast_none a (of_decide_eq_true hv)
    clear hv
    go_wp2_with fail
    refine (tPrint_any hV hF hL f _ a _ (HA.out.keep HB2.out) (hL w HT.out _ _ HT.out HB2.out)).mono ?_
    rintro e w3 ⟨rfl, b3⟩
    rw [HN.out]
    have HB3 := hid (HB2.out.trans (b3.mono HB2.out.size))
    clear b3
    simp only [ansS, ansF, Bool.false_eq_true, if_false]
    go_wp2_with fail
    go_ret
    exact ⟨rfl, HB3.out⟩
  | false =>
    clear hv
    go_wp2_with fail
    rw [show (Value.int .i64 16) = .int .i64 ((16 : Nat) : Int) from rfl]
    refine (lent_any 16 (by omega) f _ _ a _ (HA.out.keep HB2.out).atP (Nat.le_refl _)).mono ?_
    rintro e w4 ⟨x, rfl, hx4, b4⟩
    obtain ⟨A, B, C, D, rfl⟩ := hx4.shape
    have HL4 := hid hx4
    have HB4 := hid (HB2.out.trans (b4.mono HB2.out.size))
    have HX4 := hid (HX2.out.keep b4)
    clear b4 hx4 HB2 HX2 x0 x1 x2 x3 x4 hx
    have HQ : Hid (Box (w4.alloc (.cells #[.int .i64 (kindOf a), .int .i64 (nOf a), .string (sOf a), .slice A (nL a) B, .slice C (nK a) D] 25)) w4.heap.size (.int .i64 (kindOf a)) (.int .i64 (nOf a)) (.string (sOf a)) (.slice A (nL a) B) (.slice C (nK a) D)) := Box.made _ _ _ _ _ _
    have HB5 := hid (HB4.out.trans ((below_alloc w4 (.cells #[.int .i64 (kindOf a), .int .i64 (nOf a), .string (sOf a), .slice A (nL a) B, .slice C (nK a) D] 25)).mono HB4.out.size))
    have HX5 := hid (HX4.out.keep (below_alloc w4 (.cells #[.int .i64 (kindOf a), .int .i64 (nOf a), .string (sOf a), .slice A (nL a) B, .slice C (nK a) D] 25)))
    have HL5 := hid (LentP.move (q := fun _ => True) (below_alloc w4 (.cells #[.int .i64 (kindOf a), .int .i64 (nOf a), .string (sOf a), .slice A (nL a) B, .slice C (nK a) D] 25)).size (fun b hb _ => ⟨trivial, (below_alloc w4 (.cells #[.int .i64 (kindOf a), .int .i64 (nOf a), .string (sOf a), .slice A (nL a) B, .slice C (nK a) D] 25)).block b hb⟩) HL4.out)
    clear HL4 HX4 HB4
    unfold five at HL5 ⊢
    go_wp2_with fail
    refine (tPrint_any hV hF hL f _ a _ HL5.out.at (hL w HT.out _ _ HT.out HB5.out)).mono ?_
    rintro e w7 ⟨rfl, b7⟩
    have HB8 := hid (HB5.out.trans (b7.mono HB5.out.size))
    have HX8 := hid (HX5.out.keep b7)
    have HQ8 := hid (HQ.out.keep b7)
    have HL8 := hid (LentP.move (q := fun _ => True) b7.size (fun b hb _ => ⟨trivial, b7.block b hb⟩) HL5.out)
    clear b7 HB5 HX5 HQ HL5
    generalize w4.heap.size = bq at HQ8 ⊢
    obtain ⟨rn, hrn⟩ : ∃ rn, ansS (isR f a) (wrT 12 a) = rn := ⟨_, rfl⟩
    obtain ⟨re, hre⟩ : ∃ re, ansF (isR f a) = re := ⟨_, rfl⟩
    have Hrn := hid hrn
    have Hre := hid hre
    rw [HE.out, hrn, hre]
    clear hrn hre HE
    obtain ⟨⟨x0, x1, x2, x3, x4⟩, hx⟩ := HX8.out
    go_wp2_with fail
    refine (refPrint_any f _ a _ (HA.out.keep HB8.out)).mono ?_
    rintro e w8 ⟨rfl, b8⟩
    rw [Hrn.out, Hre.out]
    have HB9 := hid (HB8.out.trans (b8.mono HB8.out.size))
    have HX9 := hid (HX8.out.keep b8)
    have HQ9 := hid (HQ8.out.keep b8)
    have HL9 := hid (LentP.move (q := fun _ => True) b8.size (fun b hb _ => ⟨trivial, b8.block b hb⟩) HL8.out)
    clear b8 HB8 HX8 HQ8 HL8 x0 x1 x2 x3 x4 hx Hrn Hre
    obtain ⟨⟨x0, x1, x2, x3, x4⟩, hx⟩ := HX9.out
    obtain ⟨⟨z0, z1, z2, z3, z4⟩, hz⟩ := HQ9.out
    go_wp2_with fail
    rw [show (Value.int .i64 16) = .int .i64 ((16 : Nat) : Int) from rfl]
    refine (same_any 16 (by omega) f f _ _ a _ HL9.out.at (HA.out.keep HB9.out)).mono ?_
    rintro e w9 ⟨rfl, b9⟩
    have HBa := hid (HB9.out.trans (b9.mono HB9.out.size))
    have HQa := hid (HQ9.out.keep b9)
    have HLa := hid (LentP.move (q := fun _ => True) b9.size (fun b hb _ => ⟨trivial, b9.block b hb⟩) HL9.out)
    clear b9 HB9 HX9 HQ9 HL9 x0 x1 x2 x3 x4 hx z0 z1 z2 z3 z4 hz
    obtain ⟨⟨z0, z1, z2, z3, z4⟩, hz⟩ := HQa.out
    go_wp2_with fail
    rw [show (Value.int .i64 16) = .int .i64 ((16 : Nat) : Int) from rfl]
    refine (spare_any 16 (by omega) _ f _ a _ HLa.out).mono ?_
    rintro e wa ⟨rfl, ba⟩
    have HBb := hid (HBa.out.trans (ba.mono HBa.out.size))
    clear ba
    go_wp2_with fail
    go_ret
    exact ⟨rfl, HBb.out⟩
end Go.Proofs.YtknakfpciccoaaaGreatDoor
