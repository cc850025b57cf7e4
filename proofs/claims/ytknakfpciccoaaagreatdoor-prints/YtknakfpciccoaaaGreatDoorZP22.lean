import Derived.Test.YtknakfpciccoaaaGreatDoorZP4
import Derived.Test.YtknakfpciccoaaaGreatDoorZP1
import Derived.BigQuiet
import Derived.Deep.QuietTactic
import Derived.Deep.RegionHeld
import Derived.Test.YtknakfpciccoaaaGreatDoorZP6
import Derived.Test.YtknakfpciccoaaaGreatDoorZP5
import Derived.Test.YtknakfpciccoaaaGreatDoorZP15
import Derived.Test.YtknakfpciccoaaaGreatDoorZP20
import Derived.Test.YtknakfpciccoaaaGreatDoorZP21
import Derived.Test.YtknakfpciccoaaaGreatDoorProg
import Derived.Deep.Strs
import Derived.SizedLaws
import Derived.ProofKit
import Derived.OpenShut
import Derived.Shelf.Unicode.ValidAny
import Derived.Test.YtknakfpciccoaaaGreatDoorCards
import Derived.Test.YtknakfpciccoaaaGreatDoorTie
import Derived.Lib.AppendIntMem
import Derived.Lib.LaidTab
import Derived.Stop.LaidErr
import Derived.ChangeMaps5
import Derived.Lib.LaidIn
import Derived.Lib.LaidU8T
import Derived.Deep.DeepHandedRow
import Derived.Deep.DeepWitnessRowRef
import Derived.Test.YtknakfpciccoaaaGreatDoorZP10
import Derived.Test.YtknakfpciccoaaaGreatDoorZP11
/- The walk of same, of two values that read as one. -/
namespace Go.Proofs.YtknakfpciccoaaaGreatDoor
open Go.RowKit

def SameSaid (m : Nat) : Prop := ∀ (f g : Nat) (va vb : Value) (t : T) (w : World), At w f va t → At w g vb t →
    Calls Tryz.prog 16 #[va, vb, .int .i64 m] w fun e w' => e = .returned (.bool true) ∧ Below w.heap.size w w'

set_option maxHeartbeats 1000000 in
set_option maxRecDepth 100000 in
theorem same_step (m : Nat) (hm : m ≤ 100) (ih : ∀ n, m = n + 1 → SameSaid n) : SameSaid m := by
  intro f g va vb t w h h'
  obtain ⟨f1, La, Ka, Lc, Kc, hf1, rfl, hf, hl, hk⟩ := h.open
  obtain ⟨g1, Ma, Na, Mc, Nc, hg1, rfl, hf', hl', hk'⟩ := h'.open
  have hlen := hf.l1
  have klen := hf.m1
  have Hih := hid ih
  clear h h' hf hf' hf1 hg1 ih
  go_enter Tryz.func16, Tryz.ntmps16
  go_wp2_with fail
  go_loopg [7] (nK t) (fun g i wr => ∃ k : Nat, g = nK t - k ∧ k ≤ nK t ∧ i = .int .i64 k ∧ Below (w.heap.size + 2) ((w.alloc (.cells #[.int .i64 (kindOf t), .int .i64 (nOf t), .string (sOf t), .slice La (nL t) Lc, .slice Ka (nK t) Kc] 25)).alloc (.cells #[.int .i64 (kindOf t), .int .i64 (nOf t), .string (sOf t), .slice Ma (nL t) Mc, .slice Na (nK t) Nc] 25)) wr)
  case atStart => exact ⟨0, rfl, Nat.zero_le _, rfl, Below.refl _ _⟩
  case round =>
    obtain ⟨k, rfl, hk1, rfl, hb⟩ := hrel
    obtain ⟨⟨q0, q1, q2, q3, q4⟩, ⟨r0, r1, r2, r3, r4⟩, hz, hbw⟩ := box2_facts hb
    have Hb := hid hb
    clear hb
    by_cases hlt : k < nK t
    · obtain ⟨ea, fa, rfl, hea, hsa, n0⟩ := hk.out.keep hbw k hlt
      obtain ⟨eb, fb, rfl, heb, hsb, m0⟩ := hk'.out.keep hbw k hlt
      have x3 : (k : Int) < (nK t : Int) := by omega
      go_wp2_with fail
      go_quiet (fail)
      go_wp2_with fail
      go_roundg (nK t - (k + 1))
      case rel => exact ⟨k + 1, rfl, by omega, by go_num, below_drewN Hb.out _⟩
      case measure => omega
    · go_wp2_with fail
      go_loopg [8, 9] (nL t) (fun g i z wx => ∃ k : Nat, g = nL t - k ∧ k ≤ nL t ∧ i = .int .i64 k ∧ Below (w.heap.size + 2) ((w.alloc (.cells #[.int .i64 (kindOf t), .int .i64 (nOf t), .string (sOf t), .slice La (nL t) Lc, .slice Ka (nK t) Kc] 25)).alloc (.cells #[.int .i64 (kindOf t), .int .i64 (nOf t), .string (sOf t), .slice Ma (nL t) Mc, .slice Na (nK t) Nc] 25)) wx)
      case atStart => exact ⟨0, rfl, Nat.zero_le _, rfl, Hb.out⟩
      case round =>
        clear q0 q1 q2 q3 q4 r0 r1 r2 r3 r4 hz hbw Hb hk1 hlt
        obtain ⟨k, rfl, hk1, rfl, hb⟩ := hrel
        obtain ⟨⟨q0, q1, q2, q3, q4⟩, ⟨r0, r1, r2, r3, r4⟩, hz, hbw⟩ := box2_facts hb
        have Hb := hid hb
        clear hb
        have hz0 : w.heap.size < wr.heap.size := by omega
        by_cases hlt : k < nL t
        · by_cases hm0 : 0 < m
          · obtain ⟨n, hn⟩ : ∃ n, m = n + 1 := ⟨m - 1, by omega⟩
            have HS := hid (Hih.out n hn)
            obtain ⟨ba, oa, c0, c1, c2, c3, c4, rfl, hba, p0, p1, p2, p3, p4, Ha⟩ := hl.out.keep hbw k hlt
            obtain ⟨bb, ob, d0, d1, d2, d3, d4, rfl, hbb, t0, t1, t2, t3, t4, Hc⟩ := hl'.out.keep hbw k hlt
            have x1 : (k : Int) < (nL t : Int) := by omega
            have em : IntKind.i64.wrap (n : Int) = (n : Int) := by rw [IntKind.wrap_i64]; omega
            have em2 : (m : Int) - 1 = (n : Int) := by omega
            clear hn
            have HA1 := hid (Ha.out.keep (below_drew wr))
            have HC1 := hid (Hc.out.keep (below_drew wr))
            have HSS : Hid (∀ wx : World, Below wr.drew.heap.size wr.drew wx → wx.cell? ⟨w.heap.size, 3, none⟩ = some (.slice (some ⟨ba, oa, none⟩) (nL t) Lc) ∧ wx.cell? ⟨w.heap.size + 1, 3, none⟩ = some (.slice (some ⟨bb, ob, none⟩) (nL t) Mc) ∧ wx.cell? ⟨ba, oa + k * 5, none⟩ = some c0 ∧ wx.cell? ⟨ba, oa + k * 5 + 1, none⟩ = some c1 ∧ wx.cell? ⟨ba, oa + k * 5 + 2, none⟩ = some c2 ∧ wx.cell? ⟨ba, oa + k * 5 + 3, none⟩ = some c3 ∧ wx.cell? ⟨ba, oa + k * 5 + 4, none⟩ = some c4 ∧ wx.cell? ⟨bb, ob + k * 5, none⟩ = some d0 ∧ wx.cell? ⟨bb, ob + k * 5 + 1, none⟩ = some d1 ∧ wx.cell? ⟨bb, ob + k * 5 + 2, none⟩ = some d2 ∧ wx.cell? ⟨bb, ob + k * 5 + 3, none⟩ = some d3 ∧ wx.cell? ⟨bb, ob + k * 5 + 4, none⟩ = some d4) := by
              intro wx hx
              have hh := (below_drew wr).trans hx
              refine ⟨?_, ?_, ?_, ?_, ?_, ?_, ?_, ?_, ?_, ?_, ?_, ?_⟩
              all_goals (rw [hh.cell (p := ⟨_, _, none⟩) (by first | assumption | omega)]; assumption)
            go_wp2_with fail
            go_region_held (fun wx => wx.cell? ⟨w.heap.size, 3, none⟩ = some (.slice (some ⟨ba, oa, none⟩) (nL t) Lc) ∧ wx.cell? ⟨w.heap.size + 1, 3, none⟩ = some (.slice (some ⟨bb, ob, none⟩) (nL t) Mc) ∧ wx.cell? ⟨ba, oa + k * 5, none⟩ = some c0 ∧ wx.cell? ⟨ba, oa + k * 5 + 1, none⟩ = some c1 ∧ wx.cell? ⟨ba, oa + k * 5 + 2, none⟩ = some c2 ∧ wx.cell? ⟨ba, oa + k * 5 + 3, none⟩ = some c3 ∧ wx.cell? ⟨ba, oa + k * 5 + 4, none⟩ = some c4 ∧ wx.cell? ⟨bb, ob + k * 5, none⟩ = some d0 ∧ wx.cell? ⟨bb, ob + k * 5 + 1, none⟩ = some d1 ∧ wx.cell? ⟨bb, ob + k * 5 + 2, none⟩ = some d2 ∧ wx.cell? ⟨bb, ob + k * 5 + 3, none⟩ = some d3 ∧ wx.cell? ⟨bb, ob + k * 5 + 4, none⟩ = some d4) (go_keep) ((go_at_call 16; refine (HS.out _ _ _ _ _ _ HA1.out HC1.out).mono ?_; rintro e w2 ⟨rfl, hb2⟩; have hc2 := HSS.out _ hb2))
            have HB2 := hid (Hb.out.trans (((below_drew wr).trans hb2).mono (by omega)))
            clear hb2 hc2 HA1 HC1
            go_wp2_with fail
            go_roundg (nL t - (k + 1))
            case rel => exact ⟨k + 1, rfl, by omega, by go_num, HB2.out⟩
            case measure => omega
          · have e0 : (m : Int) ≤ 0 := by omega
            have x1 : (k : Int) < (nL t : Int) := by omega
            go_wp2_with fail
            go_ret
            exact ⟨rfl, hbw⟩
        · go_wp2_with fail
          go_ret
          exact ⟨rfl, hbw⟩
theorem same_any : ∀ (m : Nat), m ≤ 100 → SameSaid m
  | 0, h => same_step 0 h (fun n e => by omega)
  | m + 1, h => same_step (m + 1) h (fun n e => (Nat.succ.inj e) ▸ same_any m (by omega))
end Go.Proofs.YtknakfpciccoaaaGreatDoor
/- The walk of spare, of a value that was lent. -/
namespace Go.Proofs.YtknakfpciccoaaaGreatDoor
open Go.RowKit

def markT : T := mkT (-77) 0 mark3 [] []
theorem mark_at (w : World) : At w 1 (.agg #[.int .i64 (-77), .int .i64 0, .string mark3, .slice none 0 0, .slice none 0 0]) markT := by
  have h0 : nL markT = 0 := rfl
  have h1 : nK markT = 0 := by unfold nK markT; rw [kOf_mk]; rfl
  have hs : (sOf markT).size = 3 := rfl
  refine ⟨none, none, 0, 0, ?_, ⟨by decide, by decide, by decide, by decide, by rw [hs]; omega, by rw [h0]; omega, by rw [h1]; omega⟩, fun i hi => ?_, fun i hi => ?_⟩
  · rw [h0, h1]; rfl
  · rw [h0] at hi; omega
  · rw [h1] at hi; omega
def SpareSaid (m : Nat) : Prop := ∀ (p : Nat → Prop) (f : Nat) (x : Value) (t : T) (w : World), LentP p w m f x t →
    Calls Tryz.prog 17 #[x, .int .i64 m] w fun e w' => e = .returned (.bool true) ∧ Below w.heap.size w w'
set_option maxHeartbeats 400000 in
theorem spare_zero : SpareSaid 0 := by
  intro p f x t w h
  obtain ⟨f1, La, Ka, Lc, Kc, hf1, rfl, hf, hl, hk⟩ := (AtP.at h).open
  clear h hf hl hk hf1
  go_enter Tryz.func17, Tryz.ntmps17
  go_wp2_with fail
  go_ret
  exact ⟨rfl, (Below.refl _ _).alloc (Nat.le_refl _) _⟩

set_option maxHeartbeats 1000000 in
set_option maxRecDepth 100000 in
theorem spare_succ (m : Nat) (hm : m ≤ 100) (ih : SpareSaid m) : SpareSaid (m + 1) := by
  rintro p f x t w ⟨bL, bK, g, rfl, rfl, hf, ⟨h1, hp1⟩, ⟨h2, hp2⟩, he, hn, hmk, htl⟩
  have hlen := hf.l1
  have klen := hf.m1
  have Hih := hid ih
  have He := hid he
  have Hm := hid hmk
  have Ht := hid htl
  have e0 : ((m : Int) + 1 == 0) = false := beq_eq_false_iff_ne.2 (by omega)
  have em : ((m : Int) + 1 - 1) = (m : Int) := by omega
  have x7 : (nL t : Int) + 8 ≤ ((nL t + 8 : Nat) : Int) := by omega
  have x8 : (nK t : Int) + 8 ≤ ((nK t + 8 : Nat) : Int) := by omega
  clear hf hn ih he hmk htl
  unfold five
  go_enter Tryz.func17, Tryz.ntmps17
  go_wp2_with fail
  go_loopg [8, 9] 8 (fun g i z wr => ∃ k : Nat, g = 8 - k ∧ k ≤ 8 ∧ i = .int .i64 k ∧ Below (w.heap.size + 1) (w.alloc (.cells #[.int .i64 (kindOf t), .int .i64 (nOf t), .string (sOf t), .slice (some ⟨bL, 0, none⟩) (nL t) (nL t + 8), .slice (some ⟨bK, 0, none⟩) (nK t) (nK t + 8)] 25)) wr)
  case atStart => exact ⟨0, rfl, by omega, rfl, Below.refl _ _⟩
  case round =>
    obtain ⟨k, rfl, hk1, rfl, hb⟩ := hrel
    obtain ⟨q0, q1, q2, q3, q4, hz, hbw⟩ := box_facts hb
    have Hb := hid hb
    have Hbw := hid hbw
    clear hb hbw
    by_cases hlt : k < 8
    · obtain ⟨s0, s1, s2, s3, s4⟩ := (Hm.out k hlt).move (Hbw.out.block bL h1)
      have tl : wr.cell? ⟨bK, nK t + k, none⟩ = some (.string ⟨#[126]⟩) := (cell_of (Hbw.out.block bK h2) (nK t + k)).trans (Ht.out k hlt)
      have l1 : bL < wr.heap.size := by omega
      have l2 : bK < wr.heap.size := by omega
      have xw : IntKind.i64.wrap ((nL t : Int) + (k : Int)) = (nL t : Int) + (k : Int) := by rw [IntKind.wrap_i64]; omega
      have x3 : (nL t : Int) + (k : Int) < (nL t : Int) + 8 := by omega
      have x4 : (nL t : Int) + (k : Int) < ((nL t + 8 : Nat) : Int) := by omega
      have x5 : ((nL t : Int) + (k : Int)).toNat = nL t + k := by omega
      have x6 : (nK t : Int) + (k : Int) < ((nK t + 8 : Nat) : Int) := by omega
      have HSS : Hid (∀ wx : World, Below wr.heap.size wr wx → wx.cell? ⟨bL, (nL t + k) * 5, none⟩ = some (.int .i64 (-77)) ∧ wx.cell? ⟨bL, (nL t + k) * 5 + 1, none⟩ = some (.int .i64 0) ∧ wx.cell? ⟨bL, (nL t + k) * 5 + 2, none⟩ = some (.string mark3) ∧ wx.cell? ⟨bL, (nL t + k) * 5 + 3, none⟩ = some (.slice none 0 0) ∧ wx.cell? ⟨bL, (nL t + k) * 5 + 4, none⟩ = some (.slice none 0 0)) := by
        intro wx hx
        refine ⟨?_, ?_, ?_, ?_, ?_⟩
        all_goals (rw [hx.cell (p := ⟨_, _, none⟩) l1]; assumption)
      go_wp2_with fail
      go_region_held (fun wx => wx.cell? ⟨bL, (nL t + k) * 5, none⟩ = some (.int .i64 (-77)) ∧ wx.cell? ⟨bL, (nL t + k) * 5 + 1, none⟩ = some (.int .i64 0) ∧ wx.cell? ⟨bL, (nL t + k) * 5 + 2, none⟩ = some (.string mark3) ∧ wx.cell? ⟨bL, (nL t + k) * 5 + 3, none⟩ = some (.slice none 0 0) ∧ wx.cell? ⟨bL, (nL t + k) * 5 + 4, none⟩ = some (.slice none 0 0)) (go_keep) (first | (go_at_call 43; refine (mark77_any _).mono ?_; rintro e w2 ⟨rfl, hb2⟩; have hc2 := HSS.out _ ((below_drew wr).trans hb2)) | (go_at_call 16; refine (same_any 1 (by omega) 1 1 _ _ markT _ (mark_at _) (mark_at _)).mono ?_; rintro e w3 ⟨rfl, hb3⟩; have hc3 := HSS.out _ (((below_drew wr).trans hb2).trans (hb3.mono (((below_drew wr).trans hb2).size)))))
      all_goals
        have hb4 := ((below_drew wr).trans hb2).trans (hb3.mono (((below_drew wr).trans hb2).size))
        have HB3 := hid (Hb.out.trans (hb4.mono hz))
        have tl' := (hb4.cell (p := ⟨bK, nK t + k, none⟩) l2).trans tl
        have q4' := (hb4.cell (p := ⟨w.heap.size, 4, none⟩) hz).trans q4
        clear hb2 hb3 hc2 hc3 hb4 HSS
        go_wp2_with fail
        go_roundg (8 - (k + 1))
        case rel => exact ⟨k + 1, rfl, by omega, by go_num, HB3.out⟩
        case measure => omega
    · go_wp2_with fail
      go_loopg [10, 11] (nL t) (fun g i z wx => ∃ k : Nat, g = nL t - k ∧ k ≤ nL t ∧ i = .int .i64 k ∧ Below (w.heap.size + 1) (w.alloc (.cells #[.int .i64 (kindOf t), .int .i64 (nOf t), .string (sOf t), .slice (some ⟨bL, 0, none⟩) (nL t) (nL t + 8), .slice (some ⟨bK, 0, none⟩) (nK t) (nK t + 8)] 25)) wx)
      case atStart => exact ⟨0, rfl, Nat.zero_le _, rfl, Hb.out⟩
      case round =>
        clear q0 q1 q2 q3 q4 hz Hb Hbw hk1 hlt
        obtain ⟨k, rfl, hk1, rfl, hb⟩ := hrel
        obtain ⟨q0, q1, q2, q3, q4, hz, hbw⟩ := box_facts hb
        have Hb := hid hb
        have Hbw := hid hbw
        clear hb hbw
        by_cases hlt : k < nL t
        · obtain ⟨A, B, C, D, h5, h6⟩ := He.out k hlt
          obtain ⟨s0, s1, s2, s3, s4⟩ := h5.move (Hbw.out.block bL h1)
          have HL := hid (LentP.move (q := p) Hbw.out.size (fun b hb hp => ⟨hp, Hbw.out.block b hb⟩) h6)
          have l1 : bL < wr.heap.size := by omega
          clear h5 h6
          go_wp2_with fail
          refine (Hih.out p g _ (elt t k) _ HL.out).mono ?_
          rintro e w2 ⟨rfl, hb2⟩
          have HB2 := hid (Hb.out.trans (hb2.mono hz))
          clear hb2
          go_wp2_with fail
          go_roundg (nL t - (k + 1))
          case rel => exact ⟨k + 1, rfl, by omega, by go_num, HB2.out⟩
          case measure => omega
        · go_wp2_with fail
          go_ret
          exact ⟨rfl, Hbw.out⟩
theorem spare_any : ∀ (m : Nat), m ≤ 100 → SpareSaid m
  | 0, _ => spare_zero
  | m + 1, h => spare_succ m (by omega) (spare_any m (by omega))
end Go.Proofs.YtknakfpciccoaaaGreatDoor
/- The walk of Prints: it returns true. -/
namespace Go.Proofs.YtknakfpciccoaaaGreatDoor
open Go.RowKit

set_option maxHeartbeats 4000000 in
set_option maxRecDepth 100000 in
theorem Prints_any {Tb : World → Prop} (hV : ValidSaid Tb) (hF : FmtSaid Tb) (hD : DecSaid Tb) (hN : IntSaid Tb) (hL : Lies Tb) (f : Nat) (va : Value) (a : T) (w : World) (h : At w f va a) (hT : Tb w) :
    Calls Tryz.prog 3 #[va] w fun e w' => e = .returned (.bool true) ∧ Below w.heap.size w w' := by
  have HA := hid h
  have HT := hid hT
  have HE : Hid (isV a = isR f a) := isV_isR f a h.shal
  obtain ⟨f1, La, Ka, Lc, Kc, hf1, rfl, hf, hl, hk⟩ := h.open
  clear h hf hf1 hl hk hT
  have HB0 : Hid (Below w.heap.size w (w.alloc (.cells #[.int .i64 (kindOf a), .int .i64 (nOf a), .string (sOf a), .slice La (nL a) Lc, .slice Ka (nK a) Kc] 25))) := (Below.refl _ _).alloc (Nat.le_refl _) _
  have HX0 : Hid (Box (w.alloc (.cells #[.int .i64 (kindOf a), .int .i64 (nOf a), .string (sOf a), .slice La (nL a) Lc, .slice Ka (nK a) Kc] 25)) w.heap.size (.int .i64 (kindOf a)) (.int .i64 (nOf a)) (.string (sOf a)) (.slice La (nL a) Lc) (.slice Ka (nK a) Kc)) := Box.made _ _ _ _ _ _
  have HP0 := hid (parsed_any hD hN hL _ (hL w HT.out _ _ HT.out HB0.out))
  go_enter Tryz.func3, Tryz.ntmps3
  go_wp2_with fail
  refine HP0.out.mono ?_
  rintro e w1 ⟨rfl, b1⟩
  have HB1 := hid (HB0.out.trans (b1.mono HB0.out.size))
  have HX1 := hid (HX0.out.keep b1)
  clear b1 HB0 HX0 HP0
  obtain ⟨⟨x0, x1, x2, x3, x4⟩, hx⟩ := HX1.out
  go_wp2_with fail
  refine (vast_any f _ a _ (HA.out.keep HB1.out)).mono ?_
  rintro e w2 ⟨rfl, b2⟩
  have HB2 := hid (HB1.out.trans (b2.mono HB1.out.size))
  have HX2 := hid (HX1.out.keep b2)
  clear b2 HB1 HX1 x0 x1 x2 x3 x4 hx
  obtain ⟨⟨x0, x1, x2, x3, x4⟩, hx⟩ := HX2.out
  cases hv : vastT a with
  | true =>
    have HN : Hid (isV a = false) := vast_none a (of_decide_eq_true hv)
    clear hv
    go_wp2_with fail
    refine (tPrint_any hV hF hL f _ a _ (HA.out.keep HB2.out) (hL w HT.out _ _ HT.out HB2.out)).mono ?_
    rintro e w3 ⟨rfl, b3⟩
    rw [HN.out]
    have HB3 := hid (HB2.out.trans (b3.mono HB2.out.size))
    clear b3
    simp only [ansS, ansF, Bool.false_eq_true, if_false]
    go_wp2_with fail
    go_ret
    exact ⟨rfl, HB3.out⟩
  | false =>
    clear hv
    go_wp2_with fail
    rw [show (Value.int .i64 16) = .int .i64 ((16 : Nat) : Int) from rfl]
    refine (lent_any 16 (by omega) f _ _ a _ (HA.out.keep HB2.out).atP (Nat.le_refl _)).mono ?_
    rintro e w4 ⟨x, rfl, hx4, b4⟩
    obtain ⟨A, B, C, D, rfl⟩ := hx4.shape
    have HL4 := hid hx4
    have HB4 := hid (HB2.out.trans (b4.mono HB2.out.size))
    have HX4 := hid (HX2.out.keep b4)
    clear b4 hx4 HB2 HX2 x0 x1 x2 x3 x4 hx
    have HQ : Hid (Box (w4.alloc (.cells #[.int .i64 (kindOf a), .int .i64 (nOf a), .string (sOf a), .slice A (nL a) B, .slice C (nK a) D] 25)) w4.heap.size (.int .i64 (kindOf a)) (.int .i64 (nOf a)) (.string (sOf a)) (.slice A (nL a) B) (.slice C (nK a) D)) := Box.made _ _ _ _ _ _
    have HB5 := hid (HB4.out.trans ((below_alloc w4 (.cells #[.int .i64 (kindOf a), .int .i64 (nOf a), .string (sOf a), .slice A (nL a) B, .slice C (nK a) D] 25)).mono HB4.out.size))
    have HX5 := hid (HX4.out.keep (below_alloc w4 (.cells #[.int .i64 (kindOf a), .int .i64 (nOf a), .string (sOf a), .slice A (nL a) B, .slice C (nK a) D] 25)))
    have HL5 := hid (LentP.move (q := fun _ => True) (below_alloc w4 (.cells #[.int .i64 (kindOf a), .int .i64 (nOf a), .string (sOf a), .slice A (nL a) B, .slice C (nK a) D] 25)).size (fun b hb _ => ⟨trivial, (below_alloc w4 (.cells #[.int .i64 (kindOf a), .int .i64 (nOf a), .string (sOf a), .slice A (nL a) B, .slice C (nK a) D] 25)).block b hb⟩) HL4.out)
    clear HL4 HX4 HB4
    unfold five at HL5 ⊢
    go_wp2_with fail
    refine (tPrint_any hV hF hL f _ a _ HL5.out.at (hL w HT.out _ _ HT.out HB5.out)).mono ?_
    rintro e w7 ⟨rfl, b7⟩
    have HB8 := hid (HB5.out.trans (b7.mono HB5.out.size))
    have HX8 := hid (HX5.out.keep b7)
    have HQ8 := hid (HQ.out.keep b7)
    have HL8 := hid (LentP.move (q := fun _ => True) b7.size (fun b hb _ => ⟨trivial, b7.block b hb⟩) HL5.out)
    clear b7 HB5 HX5 HQ HL5
    generalize w4.heap.size = bq at HQ8 ⊢
    obtain ⟨rn, hrn⟩ : ∃ rn, ansS (isR f a) (wrT 12 a) = rn := ⟨_, rfl⟩
    obtain ⟨re, hre⟩ : ∃ re, ansF (isR f a) = re := ⟨_, rfl⟩
    have Hrn := hid hrn
    have Hre := hid hre
    rw [HE.out, hrn, hre]
    clear hrn hre HE
    obtain ⟨⟨x0, x1, x2, x3, x4⟩, hx⟩ := HX8.out
    go_wp2_with fail
    refine (refPrint_any f _ a _ (HA.out.keep HB8.out)).mono ?_
    rintro e w8 ⟨rfl, b8⟩
    rw [Hrn.out, Hre.out]
    have HB9 := hid (HB8.out.trans (b8.mono HB8.out.size))
    have HX9 := hid (HX8.out.keep b8)
    have HQ9 := hid (HQ8.out.keep b8)
    have HL9 := hid (LentP.move (q := fun _ => True) b8.size (fun b hb _ => ⟨trivial, b8.block b hb⟩) HL8.out)
    clear b8 HB8 HX8 HQ8 HL8 x0 x1 x2 x3 x4 hx Hrn Hre
    obtain ⟨⟨x0, x1, x2, x3, x4⟩, hx⟩ := HX9.out
    obtain ⟨⟨z0, z1, z2, z3, z4⟩, hz⟩ := HQ9.out
    go_wp2_with fail
    rw [show (Value.int .i64 16) = .int .i64 ((16 : Nat) : Int) from rfl]
    refine (same_any 16 (by omega) f f _ _ a _ HL9.out.at (HA.out.keep HB9.out)).mono ?_
    rintro e w9 ⟨rfl, b9⟩
    have HBa := hid (HB9.out.trans (b9.mono HB9.out.size))
    have HQa := hid (HQ9.out.keep b9)
    have HLa := hid (LentP.move (q := fun _ => True) b9.size (fun b hb _ => ⟨trivial, b9.block b hb⟩) HL9.out)
    clear b9 HB9 HX9 HQ9 HL9 x0 x1 x2 x3 x4 hx z0 z1 z2 z3 z4 hz
    obtain ⟨⟨z0, z1, z2, z3, z4⟩, hz⟩ := HQa.out
    go_wp2_with fail
    rw [show (Value.int .i64 16) = .int .i64 ((16 : Nat) : Int) from rfl]
    refine (spare_any 16 (by omega) _ f _ a _ HLa.out).mono ?_
    rintro e wa ⟨rfl, ba⟩
    have HBb := hid (HBa.out.trans (ba.mono HBa.out.size))
    clear ba
    go_wp2_with fail
    go_ret
    exact ⟨rfl, HBb.out⟩
end Go.Proofs.YtknakfpciccoaaaGreatDoor
/- What is read of an argument: a tree, and where it lies. -/
namespace Go.Proofs.YtknakfpciccoaaaGreatDoor
open Go.ChangeShapes Go.WideShapes Go.ChangeAt Go.RowKit Go.Deep

theorem under25 : ∃ f0 f1 f2 f3 f4 : Field, Tryz.prog.underlying 25 = some (.struct #[f0, f1, f2, f3, f4]) ∧ (f0.type = 3 ∧ f0.offset = 0) ∧ (f1.type = 2 ∧ f1.offset = 1) ∧ (f2.type = 9 ∧ f2.offset = 2) ∧ (f3.type = 22 ∧ f3.offset = 3) ∧ (f4.type = 23 ∧ f4.offset = 4) := by
  exact ⟨_, _, _, _, _, Tryz.underlying25, ⟨rfl, rfl⟩, ⟨rfl, rfl⟩, ⟨rfl, rfl⟩, ⟨rfl, rfl⟩, ⟨rfl, rfl⟩⟩
theorem cells26 : Tryz.prog.cellsOf 25 = 5 := by kernel_rfl
theorem cells3 : Tryz.prog.cellsOf 3 = 1 := by kernel_rfl
theorem cells2 : Tryz.prog.cellsOf 2 = 1 := by kernel_rfl
theorem cells9 : Tryz.prog.cellsOf 9 = 1 := by kernel_rfl
theorem cells23 : Tryz.prog.cellsOf 22 = 1 := by kernel_rfl
theorem cells24 : Tryz.prog.cellsOf 23 = 1 := by kernel_rfl
theorem bytes26 : Tryz.prog.bytesOf 25 = 80 := by kernel_rfl
theorem bytes9 : Tryz.prog.bytesOf 9 = 16 := by kernel_rfl
section
variable {H : Type} {enc : TypeId × Value → H} {W : World}
set_option maxRecDepth 100000 in
theorem trod5 {fuel : Nat} {cs : List Value} {x : DataW H × List MemPlace} (h : DataW.trod enc Tryz.prog W 0 (fun _ => true) true fuel 25 cs = some x) :
    ∃ c0 c1 c2 c3 c4 y0 y1 y2 y3 y4 n, fuel = n + 1 ∧ cs = [c0, c1, c2, c3, c4] ∧ x = (.agg [y0.1, y1.1, y2.1, y3.1, y4.1], y0.2 ++ (y1.2 ++ (y2.2 ++ (y3.2 ++ y4.2)))) ∧
      DataW.trod enc Tryz.prog W 0 (fun _ => true) true n 3 [c0] = some y0 ∧ DataW.trod enc Tryz.prog W 0 (fun _ => true) true n 2 [c1] = some y1 ∧ DataW.trod enc Tryz.prog W 0 (fun _ => true) true n 9 [c2] = some y2 ∧ DataW.trod enc Tryz.prog W 0 (fun _ => true) true n 22 [c3] = some y3 ∧ DataW.trod enc Tryz.prog W 0 (fun _ => true) true n 23 [c4] = some y4 := by
  obtain ⟨f0, f1, f2, f3, f4, hu, ⟨a0, b0⟩, ⟨a1, b1⟩, ⟨a2, b2⟩, ⟨a3, b3⟩, ⟨a4, b4⟩⟩ := under25
  obtain ⟨xs, n, hn, rfl, hl, hlen, hf⟩ := DataW.trod_struct hu h
  rw [cells26] at hl
  match cs, hl, xs, hlen with
  | [c0, c1, c2, c3, c4], _, [y0, y1, y2, y3, y4], _ =>
    refine ⟨c0, c1, c2, c3, c4, y0, y1, y2, y3, y4, n, hn, rfl, by simp, ?_, ?_, ?_, ?_, ?_⟩
    · have := hf 0 f0 rfl; rw [a0, b0, cells3] at this; simpa using this
    · have := hf 1 f1 rfl; rw [a1, b1, cells2] at this; simpa using this
    · have := hf 2 f2 rfl; rw [a2, b2, cells9] at this; simpa using this
    · have := hf 3 f3 rfl; rw [a3, b3, cells23] at this; simpa using this
    · have := hf 4 f4 rfl; rw [a4, b4, cells24] at this; simpa using this
theorem At.more : ∀ {f : Nat} {v : Value} {t : T}, At W f v t → At W (f + 1) v t := by
  intro f
  induction f with
  | zero => intro v t h; exact h.elim
  | succ f ih =>
    rintro v t ⟨La, Ka, Lc, Kc, rfl, hf, hl, hk⟩
    refine ⟨La, Ka, Lc, Kc, rfl, hf, fun i hi => ?_, hk⟩
    obtain ⟨b, o, c0, c1, c2, c3, c4, h0, hb, q0, q1, q2, q3, q4, ha⟩ := hl i hi
    exact ⟨b, o, c0, c1, c2, c3, c4, h0, hb, q0, q1, q2, q3, q4, ih ha⟩
theorem addr_spot {a : Addr} {v : Value} (h : W.cell? a = some v) : a = ⟨a.block, a.off, none⟩ := by
  have := World.cell?_spot h
  cases a
  simp only at this
  rw [this]
theorem lt_of_cell {a : Addr} {v : Value} (h : W.cell? a = some v) : a.block < W.heap.size := by
  rcases Nat.lt_or_ge a.block W.heap.size with h' | h'
  · exact h'
  · simp [World.cell?, Array.getElem?_eq_none h'] at h
/-- The names. -/
theorem names_of {fuel : Nat} {c4 : Value} {y : DataW H × List MemPlace} (h : DataW.trod enc Tryz.prog W 0 (fun _ => true) true fuel 23 [c4] = some y) (hw : ∀ n ∈ y.1.weights Tryz.prog 23, n ≤ reachBytes) :
    ∃ (Ka : Option Addr) (Kc : Nat) (ks : List ByteArray), c4 = .slice Ka ks.length Kc ∧ ks.length ≤ 8796093022208 ∧ ∀ i, i < ks.length → ∃ b o, Ka = some ⟨b, o, none⟩ ∧ b < W.heap.size ∧ (ks.getD i ByteArray.empty).size ≤ 140737488355328 ∧ W.cell? ⟨b, o + i, none⟩ = some (.string (ks.getD i ByteArray.empty)) := by
  rcases open_strs Tryz.underlying23 Tryz.underlying9 cells9 h with ⟨hc, rfl⟩ | ⟨a, len, cap, m, Sx, hc, _, hl, _, hm, rfl, hcell⟩
  · simp only [List.cons.injEq, and_true] at hc
    exact ⟨none, 0, [], hc, by simp, fun i hi => absurd hi (Nat.not_lt_zero _)⟩
  · simp only [List.cons.injEq, and_true] at hc
    simp only [if_true] at hm
    subst hm
    have hlen : ((List.range len).map Sx).length = len := by simp
    refine ⟨some a, m, (List.range len).map Sx, by rw [hlen]; exact hc, ?_, fun i hi => ?_⟩
    · have := hw (((List.range len).map fun i => (DataW.lit (.string (Sx i).data.toList) : DataW H)).length * 16 + ((List.range (m - len)).map fun j => (DataW.lit (.string (Sx (len + j)).data.toList) : DataW H)).length * 16) (by
          simp only [DataW.weights, Tryz.underlying23, bytes9]
          rw [Nat.add_mul]
          exact List.mem_cons_self ..)
      rw [hlen]
      simp only [List.length_map, List.length_range, reachBytes] at this
      omega
    · rw [hlen] at hi
      obtain ⟨h1, _⟩ := hcell i (by omega)
      obtain ⟨h0, _⟩ := hcell 0 (by omega)
      have ha : a = ⟨a.block, a.off, none⟩ := by
        have := addr_spot h0
        simpa [Addr.add] using this
      have e : ((List.range len).map Sx).getD i ByteArray.empty = Sx i := by simp [List.getD, hi]
      rw [e]
      refine ⟨a.block, a.off, by rw [← ha], ?_, ?_, ?_⟩
      · have := lt_of_cell h0
        simpa [Addr.add] using this
      · have := hw (Sx i).data.toList.length (by
          simp only [DataW.weights, Tryz.underlying23]
          apply List.mem_cons_of_mem
          apply List.mem_append_left
          have hmem : (DataW.lit (.string (Sx i).data.toList) : DataW H) ∈ (List.range len).map fun i => (DataW.lit (.string (Sx i).data.toList) : DataW H) := List.mem_map.2 ⟨i, List.mem_range.2 hi, rfl⟩
          have all : ∀ (l : List (DataW H)) (d : DataW H), d ∈ l → ∀ n ∈ d.weights Tryz.prog 9, n ∈ DataW.weightsAll Tryz.prog 9 l := by
            intro l
            induction l with
            | nil => intro d hd; cases hd
            | cons x r ih =>
              intro d hd n hn
              simp only [DataW.weightsAll, List.mem_append]
              rcases List.mem_cons.1 hd with rfl | hd
              · exact Or.inl hn
              · exact Or.inr (ih d hd n hn)
          exact all _ _ hmem _ (by simp [DataW.weights]))
        have hz : (Sx i).size = (Sx i).data.toList.length := rfl
        simp only [reachBytes] at this
        omega
      · rw [ha, add_plain] at h1
        exact h1
theorem weightsAll_mem {e : TypeId} : ∀ (l : List (DataW H)) (d : DataW H), d ∈ l → ∀ n ∈ d.weights Tryz.prog e, n ∈ DataW.weightsAll Tryz.prog e l := by
  intro l
  induction l with
  | nil => intro d hd; cases hd
  | cons x r ih =>
    intro d hd n hn
    simp only [DataW.weightsAll, List.mem_append]
    rcases List.mem_cons.1 hd with rfl | hd
    · exact Or.inl hn
    · exact Or.inr (ih d hd n hn)
set_option maxRecDepth 100000 in
/-- The values. -/
theorem values_of {n : Nat} (ih : ∀ (m : Nat), m < n → ∀ (cs : List Value) (x : DataW H × List MemPlace), DataW.trod enc Tryz.prog W 0 (fun _ => true) true m 25 cs = some x → (∀ k ∈ x.1.weights Tryz.prog 25, k ≤ reachBytes) → ∃ t, At W m (.agg cs.toArray) t)
    {c3 : Value} {y : DataW H × List MemPlace} (h : DataW.trod enc Tryz.prog W 0 (fun _ => true) true n 22 [c3] = some y) (hw : ∀ k ∈ y.1.weights Tryz.prog 22, k ≤ reachBytes) :
    ∃ (La : Option Addr) (Lc : Nat) (l : List T), c3 = .slice La l.length Lc ∧ l.length ≤ 1759218604442 ∧ ∀ i, i < l.length → ∃ b o c0 c1 c2 c3 c4, La = some ⟨b, o, none⟩ ∧ b < W.heap.size ∧ W.cell? ⟨b, o + i * 5, none⟩ = some c0 ∧ W.cell? ⟨b, o + i * 5 + 1, none⟩ = some c1 ∧ W.cell? ⟨b, o + i * 5 + 2, none⟩ = some c2 ∧ W.cell? ⟨b, o + i * 5 + 3, none⟩ = some c3 ∧ W.cell? ⟨b, o + i * 5 + 4, none⟩ = some c4 ∧ At W n (.agg #[c0, c1, c2, c3, c4]) (l.getD i .nil) := by
  rcases DataW.trod_slice Tryz.underlying22 h with ⟨hc, rfl⟩ | ⟨a, len, cap, elems, rest, m, hn, hc, rfl, _, hl, _, hlen, hel, _, _⟩
  · simp only [List.cons.injEq, and_true] at hc
    exact ⟨none, 0, [], hc, by simp, fun i hi => absurd hi (Nat.not_lt_zero _)⟩
  · simp only [List.cons.injEq, and_true] at hc
    have hkids : ∀ i, i < len → ∃ t : T, ∃ c0 c1 c2 c3 c4, a = ⟨a.block, a.off, none⟩ ∧ a.block < W.heap.size ∧ W.cell? ⟨a.block, a.off + i * 5, none⟩ = some c0 ∧ W.cell? ⟨a.block, a.off + i * 5 + 1, none⟩ = some c1 ∧ W.cell? ⟨a.block, a.off + i * 5 + 2, none⟩ = some c2 ∧ W.cell? ⟨a.block, a.off + i * 5 + 3, none⟩ = some c3 ∧ W.cell? ⟨a.block, a.off + i * 5 + 4, none⟩ = some c4 ∧ At W n (.agg #[c0, c1, c2, c3, c4]) t := by
      intro i hi
      have he := hel i hi
      rw [cells26] at he
      have hi2 : i < elems.length := by omega
      rw [List.getElem?_eq_getElem hi2] at he
      obtain ⟨cs, hcs, htr⟩ := Option.bind_eq_some_iff.1 he
      obtain ⟨_, hcl, hcell⟩ := World.cells?_some hcs
      have hwk : ∀ k ∈ (elems[i]).1.weights Tryz.prog 25, k ≤ reachBytes := by
        intro k hk
        apply hw
        simp only [DataW.weights, Tryz.underlying22]
        apply List.mem_cons_of_mem
        apply List.mem_append_left
        exact weightsAll_mem _ _ (List.mem_map.2 ⟨elems[i], List.getElem_mem hi2, rfl⟩) _ hk
      obtain ⟨t, ht⟩ := ih m (by omega) cs _ htr hwk
      obtain ⟨c0, c1, c2, c3, c4, y0, y1, y2, y3, y4, n', _, rfl, _⟩ := trod5 htr
      have e0 := hcell 0 (by omega)
      have e1 := hcell 1 (by omega)
      have e2 := hcell 2 (by omega)
      have e3 := hcell 3 (by omega)
      have e4 := hcell 4 (by omega)
      simp only [List.getElem?_cons_zero, List.getElem?_cons_succ] at e0 e1 e2 e3 e4
      have ha : a = ⟨a.block, a.off, none⟩ := by
        by_cases h0 : i = 0
        · subst h0
          have := addr_spot e0
          simpa [Addr.add] using this
        · obtain ⟨cs0, hcs0, htr0⟩ : ∃ cs0, W.cells? 0 (a.add (0 * 5)) 5 = some cs0 ∧ True := by
            have he0 := hel 0 (by omega)
            rw [cells26, List.getElem?_eq_getElem (by omega)] at he0
            obtain ⟨cs0, h1, _⟩ := Option.bind_eq_some_iff.1 he0
            exact ⟨cs0, h1, trivial⟩
          obtain ⟨_, hcl0, hcell0⟩ := World.cells?_some hcs0
          have g0 := hcell0 0 (by omega)
          rw [List.getElem?_eq_getElem (by omega)] at g0
          have := addr_spot g0
          simpa [Addr.add] using this
      rw [ha, add_plain, add_plain] at e0 e1 e2 e3 e4
      refine ⟨t, c0, c1, c2, c3, c4, ha, ?_, e0, e1, e2, e3, e4, ?_⟩
      · exact lt_of_cell (a := ⟨a.block, _, none⟩) e0
      · have hmn : ∃ j, n = m + 1 + j := ⟨0, by omega⟩
        rw [hn]
        exact At.more ht
    obtain ⟨f, hf⟩ := choose_lt (α := T) hkids
    have hfl : ((List.range len).map f).length = len := by simp
    refine ⟨some a, cap, (List.range len).map f, by rw [hfl]; exact hc, ?_, fun i hi => ?_⟩
    · have := hw ((elems.map (·.1)).length * 80 + (rest.map (·.1)).length * 80) (by
          simp only [DataW.weights, Tryz.underlying22, bytes26]
          rw [Nat.add_mul]
          exact List.mem_cons_self ..)
      rw [hfl]
      simp only [List.length_map, reachBytes] at this
      omega
    · rw [hfl] at hi
      obtain ⟨c0, c1, c2, c3, c4, ha, hb, q0, q1, q2, q3, q4, hat⟩ := hf i hi
      have e : ((List.range len).map f).getD i .nil = f i := by simp [List.getD, hi]
      rw [e]
      exact ⟨a.block, a.off, c0, c1, c2, c3, c4, by rw [← ha], hb, q0, q1, q2, q3, q4, hat⟩
theorem weights26 (d0 d1 d2 d3 d4 : DataW H) : (DataW.agg [d0, d1, d2, d3, d4] : DataW H).weights Tryz.prog 25 = d0.weights Tryz.prog 3 ++ (d1.weights Tryz.prog 2 ++ (d2.weights Tryz.prog 9 ++ (d3.weights Tryz.prog 22 ++ (d4.weights Tryz.prog 23 ++ [])))) := by
  simp only [DataW.weights, Tryz.underlying25]
  rfl
/-- WHAT IS READ AS A VALUE LIES IN MEMORY AS A TREE. -/
theorem at_of_trod : ∀ (fuel : Nat) (cs : List Value) (x : DataW H × List MemPlace), DataW.trod enc Tryz.prog W 0 (fun _ => true) true fuel 25 cs = some x → (∀ k ∈ x.1.weights Tryz.prog 25, k ≤ reachBytes) → ∃ t, At W fuel (.agg cs.toArray) t := by
  intro fuel
  induction fuel using Nat.strongRecOn with
  | _ fuel ih =>
    intro cs x h hw
    obtain ⟨c0, c1, c2, c3, c4, y0, y1, y2, y3, y4, n, hn, rfl, rfl, h0, h1, h2, h3, h4⟩ := trod5 h
    rw [weights26] at hw
    obtain ⟨k, e0, _, w0⟩ := DataW.trod_int Tryz.underlying3 h0
    obtain ⟨m, e1, _, w1⟩ := DataW.trod_int Tryz.underlying2 h1
    obtain ⟨s, e2, r2, w2⟩ := DataW.trod_string Tryz.underlying9 h2
    obtain ⟨Ka, Kc, ks, rfl, hk1, hk2⟩ := names_of h4 (fun k hk => hw k (by simp [hk]))
    obtain ⟨La, Lc, l, rfl, hl1, hl2⟩ := values_of (n := n) (fun m hm cs x h1 h2 => ih m (by omega) cs x h1 h2) h3 (fun k hk => hw k (by simp [hk]))
    simp only [List.cons.injEq, and_true] at e0 e1 e2
    subst e0 e1 e2
    have hs : s.size ≤ 140737488355328 := by
      have := hw s.data.toList.length (by rw [r2]; simp [DataW.weights])
      have hz : s.size = s.data.toList.length := rfl
      simp only [reachBytes] at this
      omega
    have b0 : -9223372036854775808 ≤ k ∧ k ≤ 9223372036854775807 := by have := bounds_i64 w0; omega
    have b1 : -9223372036854775808 ≤ m ∧ m ≤ 9223372036854775807 := by have := bounds_i64 w1; omega
    have eK : kOf (mkT k m s l ks) = ks := kOf_mk _ _ _ _ _
    refine ⟨mkT k m s l ks, ?_⟩
    rw [hn]
    refine ⟨La, Ka, Lc, Kc, ?_, ⟨b0.1, b0.2, b1.1, b1.2, hs, hl1, ?_⟩, ?_, ?_⟩
    · unfold nK; rw [eK]; rfl
    · unfold nK; rw [eK]; exact hk1
    · exact hl2
    · intro i hi
      unfold nK at hi
      rw [eK] at hi
      unfold nam
      rw [eK]
      exact hk2 i hi
end
end Go.Proofs.YtknakfpciccoaaaGreatDoor
/- The contract of utf8.ValidString, of the library's shelf, laid at this dump: the table of its numbers, and that each body is the one it was proved of.
-/
namespace Go.Proofs
open Go.Shelf
def Tryz.laysValid_ren : Go.Shelf.Ren := ⟨fun | 196 => 160 | 259 => 194 | n => n, fun | 9 => 9 | 4 => 4 | 3 => 3 | 5 => 5 | 12 => 12 | 119 => 209 | 0 => 0 | 46 => 155 | 139 => 212 | 138 => 211 | 53 => 127 | n => n, fun | 3 => 0 | 4 => 1 | n => n⟩
theorem Tryz.laysValid : Go.Proofs.Lays.n196 Tryz.prog Tryz.laysValid_ren := {
  mixed := by kernel_rfl
  f196 := Tryz.func160.trans (congrArg some (by kernel_rfl))
  f259 := Tryz.func194.trans (congrArg some (by kernel_rfl))
  t0 := Tryz.underlying0
  a0 := Tryz.isAgg0
  z0 := Tryz.sizeOf0
  v0 := Tryz.zeroValue0
  t3 := Tryz.underlying3
  a3 := Tryz.isAgg3
  z3 := Tryz.sizeOf3
  v3 := Tryz.zeroValue3
  t4 := Tryz.underlying4
  a4 := Tryz.isAgg4
  z4 := Tryz.sizeOf4
  v4 := Tryz.zeroValue4
  t5 := Tryz.underlying5
  a5 := Tryz.isAgg5
  z5 := Tryz.sizeOf5
  v5 := Tryz.zeroValue5
  t9 := Tryz.underlying9
  a9 := Tryz.isAgg9
  z9 := Tryz.sizeOf9
  v9 := Tryz.zeroValue9
  t12 := Tryz.underlying12
  a12 := Tryz.isAgg12
  z12 := Tryz.sizeOf12
  v12 := Tryz.zeroValue12
  t46 := Tryz.underlying155
  a46 := Tryz.isAgg155
  z46 := Tryz.sizeOf155
  v46 := Tryz.zeroValue155
  t53 := Tryz.underlying127
  a53 := Tryz.isAgg127
  z53 := Tryz.sizeOf127
  v53 := Tryz.zeroValue127
  t119 := Tryz.underlying209
  a119 := Tryz.isAgg209
  z119 := Tryz.sizeOf209
  t138 := Tryz.underlying211
  a138 := Tryz.isAgg211
  z138 := Tryz.sizeOf211
  v138 := Tryz.zeroValue211
  t139 := Tryz.underlying212
  a139 := Tryz.isAgg212
  z139 := Tryz.sizeOf212
  v139 := Tryz.zeroValue212
  g3 := by kernel_rfl
  g4 := by kernel_rfl }
end Go.Proofs
/- The tables that the seat's rows lay, in memory; what a row asks of the program alone. -/
namespace Go.Proofs.YtknakfpciccoaaaGreatDoor
open Go.ChangeShapes Go.WideShapes Go.ChangeAt Go.RowKit Go.Lib Go.Shelf
open Go.ChangeMaps (open_string shut_string)

/-- An error of the library's, in a cell. -/
def IsErr (w : World) (g : Nat) : Prop := ∃ te pe, w.cell? ⟨g, 0, none⟩ = some (.iface te pe)
/-- The tables of package utf8, and two errors of package strconv, in memory. -/
def Tabs2 (w : World) : Prop := Lib.Utf8Tabs 0 1 w ∧ IsErr w 5 ∧ IsErr w 6 ∧ Lib.TabIs Tryz.prog w "internal/strconv.uint64pow10" .u64 Lib.pow10Tab
theorem var_keep {n : String} {cs : Array Value} {w0 w w' : World} {cs0 : Array Value} (h0 : w0.var? Tryz.prog n = some cs0) (h : w.var? Tryz.prog n = some cs) (hb : Below w0.heap.size w w') : w'.var? Tryz.prog n = some cs := by
  unfold World.var? at h0 h ⊢
  cases hg : Tryz.prog.globalNamed n with
  | none => simp [hg] at h
  | some g =>
    simp only [hg, Option.bind_some] at h0 h ⊢
    have hlt : g < w0.heap.size := by
      rcases Nat.lt_or_ge g w0.heap.size with h' | h'
      · exact h'
      · simp [Array.getElem?_eq_none h'] at h0
    rw [hb.block g hlt]
    exact h
theorem tabs2_lie : Lies Tabs2 := by
  intro w0 h0 w w' h hb
  have lt : ∀ {a : Addr} {v : Value}, w0.cell? a = some v → a.block < w0.heap.size := fun {a v} hc => by
    rcases Nat.lt_or_ge a.block w0.heap.size with h' | h'
    · exact h'
    · simp [World.cell?, Array.getElem?_eq_none h'] at hc
  have err : ∀ {g : Nat}, IsErr w0 g → IsErr w g → IsErr w' g := fun {g} h1 h2 => by
    obtain ⟨t1, p1, e1⟩ := h1
    obtain ⟨t2, p2, e2⟩ := h2
    exact ⟨t2, p2, (hb.cell (lt e1)).trans e2⟩
  exact ⟨⟨fun c hc => (hb.cell (lt (h0.1.1 c hc))).trans (h.1.1 c hc), fun i hi => ⟨(hb.cell (lt (h0.1.2 i hi).1)).trans (h.1.2 i hi).1, (hb.cell (lt (h0.1.2 i hi).2)).trans (h.1.2 i hi).2⟩⟩, err h0.2.1 h.2.1, err h0.2.2.1 h.2.2.1, var_keep h0.2.2.2 h.2.2.2 hb⟩
theorem dec_said : DecSaid Tabs2 := fun s w hT => by
  have := Any.utf8_DecodeRuneInString Tryz.laysDecode s w hT.1
  refine this.mono ?_
  rintro e w' ⟨rfl, hb⟩
  refine ⟨?_, hb⟩
  unfold decG Lib.decodeGo
  split <;> rfl
theorem below_bytes (w : World) (e : TypeId) (s : ByteArray) : Below w.heap.size w (Lib.bytesWorld w e s) :=
  ⟨rfl, rfl, rfl, by rw [Lib.bytesWorld_size]; omega, fun j hj => Lib.bytesWorld_at_old w e s j hj⟩
theorem int_said : IntSaid Tabs2 := fun s w hs hT => by
  cases hp : Lib.parseIntB 64 s.data.toList with
  | ok v =>
    refine (Any.strconv_ParseInt_10_at64_ok Tryz.laysParseInt s (by omega) v hp w).mono ?_
    rintro e w' ⟨rfl, hb⟩
    refine ⟨?_, Or.inl ⟨v, rfl, rfl⟩⟩
    rcases hb with rfl | ⟨x, rfl⟩
    · exact Below.refl _ _
    · refine (Below.refl w.heap.size w).trans ?_
      exact below_bytes w _ x
  | «syntax» =>
    obtain ⟨te, pe, he⟩ := hT.2.1
    refine (Any.strconv_ParseInt_10_at64_syntax Tryz.laysParseInt s (by omega) hp (.iface te pe) w he (Or.inr ⟨te, pe, rfl⟩)).mono ?_
    rintro e w' ⟨N, rfl, _, _, hb⟩
    exact ⟨hb, Or.inr ⟨Or.inl rfl, _, _, _, rfl⟩⟩
  | range =>
    obtain ⟨te, pe, he⟩ := hT.2.2.1
    refine (Any.strconv_ParseInt_10_at64_range Tryz.laysParseInt s (by omega) hp (.iface te pe) w he (Or.inr ⟨te, pe, rfl⟩)).mono ?_
    rintro e w' ⟨N, rfl, _, _, hb⟩
    exact ⟨hb, Or.inr ⟨Or.inr rfl, _, _, _, rfl⟩⟩

theorem valid_said : ValidSaid Tabs2 := fun s w hs hT => Any.utf8_ValidString Tryz.laysValid s w hs hT.1
theorem fmt_said : FmtSaid Tabs2 := fun n w h0 h1 hT => by
  refine (Any.strconv_FormatInt_10 Tryz.laysFormat n h0 h1 w hT.2.2.2).mono ?_
  rintro e w' ⟨rfl, k, os, rfl⟩
  exact ⟨rfl, Lib.below_grow _ _ (Nat.le_refl _) _ _⟩

theorem own_knob : ownKnob Tryz.prog.godebug = none := by kernel_rfl
def litCells : DataW Unit → List Value
  | .agg l => l.map fun | .lit (.int k n) => Value.int k n | _ => .nilIface
  | _ => []
abbrev synS : ByteArray := ⟨#[105, 110, 118, 97, 108, 105, 100, 32, 115, 121, 110, 116, 97, 120]⟩
abbrev rngS : ByteArray := ⟨#[118, 97, 108, 117, 101, 32, 111, 117, 116, 32, 111, 102, 32, 114, 97, 110, 103, 101]⟩
def setB (h : Array Obj) (g : Nat) (cs : List Value) : Array Obj := h.modify g fun | .cells _ t frozen => .cells cs.toArray t frozen | o => o
noncomputable def lowB : Nat := (World.holding Tryz.prog default ⟨#[], #[], []⟩).heap.size
noncomputable def laidW (os : Os) : World :=
  { World.holding Tryz.prog os ⟨#[.cells #[.string synS] 328, .cells #[.string rngS] 328], #[], []⟩ with
    heap := setB (setB (setB (setB (setB (setB (setB (World.holding Tryz.prog os ⟨#[.cells #[.string synS] 328, .cells #[.string rngS] 328], #[], []⟩).heap
      0 (Lib.firstTab.map fun z => Value.int .u8 z)) 1 ((List.range 16).flatMap fun i => [Value.int .u8 (Lib.accLo i), Value.int .u8 (Lib.accHi i)]))
      2 (litCells Rows.laid_internal_strconv_uint64pow10)) 3 (litCells Rows.laid_math_bits_deBruijn32tab)) 4 (litCells Rows.laid_math_bits_deBruijn64tab))
      5 [.iface 326 (.pointer (some ⟨lowB, 0, none⟩))]) 6 [.iface 326 (.pointer (some ⟨lowB + 1, 0, none⟩))] }
abbrev laidL : List (String × DataW Unit) := Rows.printsRow.laid
theorem laid_met (os : Os) (args : Array Value) : laidMet Tryz.prog laidL ((laidW os).forCall (fun _ _ => 0) ⟨#[], args, []⟩).memory :=
  (LaidIn.of_run (l := laidL) (List.range 40) 8 (by kernel_rfl) (by kernel_rfl) (by kernel_rfl) (by kernel_rfl)).met
theorem first_data : Rows.laid_unicode_utf8_first = Lib.firstData := by kernel_rfl
theorem accept_data : (Rows.laid_unicode_utf8_acceptRanges : DataW Unit) = Lib.acceptData := by kernel_rfl
theorem star : "*" ++ "errors.errorString" = "*errors.errorString" := by decide
theorem row_err (u : TypeId) (h : Tryz.prog.typeName? 3 u = some "*errors.errorString") : u = 326 :=
  typeName_ptr_named (nm := "errors.errorString") (by rw [star]; kernel_rfl) (by kernel_rfl) (by decide) u (by rw [star]; exact h)
theorem err_of {n : String} {g : Nat} {text : List UInt8} {r : List (String × DataW Unit)} {W : World} (h : laidMet Tryz.prog ((n, .iface "*errors.errorString" (.ptr (.agg [.lit (.string text)]))) :: r) W)
    (hg : Tryz.prog.globalNamed n = some g) (ht : (Tryz.prog.globals[g]?).map (·.type) = some 116) : IsErr W g := by
  obtain ⟨a, s, hv, _⟩ := laid_sentinel h hg ht Tryz.underlying116 row_err Tryz.underlying326 Tryz.underlying328 rfl rfl Tryz.underlying9 (by kernel_rfl) (by kernel_rfl)
  exact ⟨_, _, by simpa using World.var?_cell hg hv 0⟩
theorem pow_data : (Rows.laid_internal_strconv_uint64pow10 : DataW Unit) = Lib.tabData .u64 Lib.pow10Tab := by kernel_rfl
theorem tabs_of {W : World} (hL : laidMetH Tryz.prog laidL W) : Tabs2 W := by
  have hM : laidMet Tryz.prog laidL W := hL
  have h1 := Lib.laidMet.reads hL (.tail _ (.tail _ (.tail _ (.head _))))
  have h2 := Lib.laidMet.reads hL (.tail _ (.tail _ (.tail _ (.tail _ (.tail _ (.tail _ (.head _)))))))
  rw [accept_data] at h1
  rw [first_data] at h2
  have hr := hM.tail.tail.tail.tail
  refine ⟨utf8Tabs_of_readsT (U8Types.of260 { Tryz.laysDecode with }) ⟨by kernel_rfl, by kernel_rfl, by kernel_rfl, by kernel_rfl, by kernel_rfl, by kernel_rfl, by kernel_rfl⟩ h2 h1, err_of hr.tail (by kernel_rfl) (by kernel_rfl), err_of hr (by kernel_rfl) (by kernel_rfl), ?_⟩
  have hp : laidMet Tryz.prog (("internal/strconv.uint64pow10", Rows.laid_internal_strconv_uint64pow10) :: laidL.tail.tail.tail) W := hM.tail.tail
  rw [pow_data] at hp
  exact Lib.tabIs_of_head (g := 2) (by kernel_rfl) (by kernel_rfl) Tryz.underlying215 Tryz.underlying127 (by kernel_rfl) (by kernel_rfl) hp
theorem and_mk {a b : Bool} (h : a = true) (k : b = true) : (a && b) = true := by rw [h, k]; rfl
theorem jf1 : (laidOutB Tryz.pinned.checked.prog) = true := by kernel_rfl
theorem jf2 : (mapsRowed Tryz.pinned.checked.prog) = true := by kernel_rfl
theorem jf6 : ((Tryz.pinned.checked.prog.stops == [])) = true := by kernel_rfl
theorem jf8 : ((Tryz.pinned.checked.prog.stopKnobs == [])) = true := by kernel_rfl
theorem jf24 : (Tryz.pinned.checked.prog.stopsHeard) = true := by kernel_rfl
theorem jf25 : (Tryz.pinned.checked.prog.mayEnter) = true := by kernel_rfl
end Go.Proofs.YtknakfpciccoaaaGreatDoor
