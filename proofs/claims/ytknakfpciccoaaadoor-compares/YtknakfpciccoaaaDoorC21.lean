/- The walk of spare, of a value that was lent. -/
import Derived.Test.YtknakfpciccoaaaDoorC20
import Derived.Test.YtknakfpciccoaaaDoorC4
import Derived.Test.YtknakfpciccoaaaDoorH
namespace Go.Proofs.YtknakfpciccoaaaDoor
open Go.RowKit

def markT : T := mkT (-77) 0 mark3 [] []
theorem mark_at (w : World) : At w 1 (.agg #[.int .i64 (-77), .int .i64 0, .string mark3, .slice none 0 0, .slice none 0 0]) markT := by
  have h0 : nL markT = 0 := rfl
  have h1 : nK markT = 0 := by unfold nK markT; rw [kOf_mk]; rfl
  have hs : (sOf markT).size = 3 := rfl
  refine ⟨none, none, 0, 0, ?_, ⟨by decide, by decide, by decide, by decide, by rw [hs]; omega, by rw [h0]; omega, by rw [h1]; omega⟩, fun i hi => ?_, fun i hi => ?_⟩
  · rw [h0, h1]; rfl
  · rw [h0] at hi; omega
  · rw [h1] at hi; omega
def SpareSaid (m : Nat) : Prop := ∀ (p : Nat → Prop) (f : Nat) (x : Value) (t : T) (w : World), LentP p w m f x t →
    Calls Tryd.prog 19 #[x, .int .i64 m] w fun e w' => e = .returned (.bool true) ∧ Below w.heap.size w w'
set_option maxHeartbeats 400000 in
theorem spare_zero : SpareSaid 0 := by
  intro p f x t w h
  obtain ⟨f1, La, Ka, Lc, Kc, hf1, rfl, hf, hl, hk⟩ := (AtP.at h).open
  clear h hf hl hk hf1
  go_enter Tryd.func19, Tryd.ntmps19
  go_wp2_with fail
  go_ret
  exact ⟨rfl, (Below.refl _ _).alloc (Nat.le_refl _) _⟩

set_option maxHeartbeats 1000000 in
set_option maxRecDepth 100000 in
theorem spare_succ (m : Nat) (hm : m ≤ 100) (ih : SpareSaid m) : SpareSaid (m + 1) := by
  rintro p f x t w ⟨bL, bK, g, rfl, rfl, hf, ⟨h1, hp1⟩, ⟨h2, hp2⟩, he, hn, hmk, htl⟩
  have hlen := hf.l1
  have klen := hf.m1
  have Hih := hid ih
  have He := hid he
  have Hm := hid hmk
  have Ht := hid htl
  have e0 : ((m : Int) + 1 == 0) = false := beq_eq_false_iff_ne.2 (by omega)
  have em : ((m : Int) + 1 - 1) = (m : Int) := by omega
  have x7 : (nL t : Int) + 8 ≤ ((nL t + 8 : Nat) : Int) := by omega
  have x8 : (nK t : Int) + 8 ≤ ((nK t + 8 : Nat) : Int) := by omega
  clear hf hn ih he hmk htl
  unfold five
  go_enter Tryd.func19, Tryd.ntmps19
  go_wp2_with fail
  go_loopg [8, 9] 8 (fun g i z wr => ∃ k : Nat, g = 8 - k ∧ k ≤ 8 ∧ i = .int .i64 k ∧ Below (w.heap.size + 1) (w.alloc (.cells #[.int .i64 (kindOf t), .int .i64 (nOf t), .string (sOf t), .slice (some ⟨bL, 0, none⟩) (nL t) (nL t + 8), .slice (some ⟨bK, 0, none⟩) (nK t) (nK t + 8)] 26)) wr)
  case atStart => exact ⟨0, rfl, by omega, rfl, Below.refl _ _⟩
  case round =>
    obtain ⟨k, rfl, hk1, rfl, hb⟩ := hrel
    obtain ⟨q0, q1, q2, q3, q4, hz, hbw⟩ := box_facts hb
    have Hb := hid hb
    have Hbw := hid hbw
    clear hb hbw
    by_cases hlt : k < 8
    · obtain ⟨s0, s1, s2, s3, s4⟩ := (Hm.out k hlt).move (Hbw.out.block bL h1)
      have tl : wr.cell? ⟨bK, nK t + k, none⟩ = some (.string ⟨#[126]⟩) := (cell_of (Hbw.out.block bK h2) (nK t + k)).trans (Ht.out k hlt)
      have l1 : bL < wr.heap.size := by omega
      have l2 : bK < wr.heap.size := by omega
      have xw : IntKind.i64.wrap ((nL t : Int) + (k : Int)) = (nL t : Int) + (k : Int) := by rw [IntKind.wrap_i64]; omega
      have x3 : (nL t : Int) + (k : Int) < (nL t : Int) + 8 := by omega
      have x4 : (nL t : Int) + (k : Int) < ((nL t + 8 : Nat) : Int) := by omega
      have x5 : ((nL t : Int) + (k : Int)).toNat = nL t + k := by omega
      have x6 : (nK t : Int) + (k : Int) < ((nK t + 8 : Nat) : Int) := by omega
      have HSS : Hid (∀ wx : World, Below wr.heap.size wr wx → wx.cell? ⟨bL, (nL t + k) * 5, none⟩ = some (.int .i64 (-77)) ∧ wx.cell? ⟨bL, (nL t + k) * 5 + 1, none⟩ = some (.int .i64 0) ∧ wx.cell? ⟨bL, (nL t + k) * 5 + 2, none⟩ = some (.string mark3) ∧ wx.cell? ⟨bL, (nL t + k) * 5 + 3, none⟩ = some (.slice none 0 0) ∧ wx.cell? ⟨bL, (nL t + k) * 5 + 4, none⟩ = some (.slice none 0 0)) := by
        intro wx hx
        refine ⟨?_, ?_, ?_, ?_, ?_⟩
        all_goals (rw [hx.cell (p := ⟨_, _, none⟩) l1]; assumption)
      go_wp2_with fail
      go_region_held (fun wx => wx.cell? ⟨bL, (nL t + k) * 5, none⟩ = some (.int .i64 (-77)) ∧ wx.cell? ⟨bL, (nL t + k) * 5 + 1, none⟩ = some (.int .i64 0) ∧ wx.cell? ⟨bL, (nL t + k) * 5 + 2, none⟩ = some (.string mark3) ∧ wx.cell? ⟨bL, (nL t + k) * 5 + 3, none⟩ = some (.slice none 0 0) ∧ wx.cell? ⟨bL, (nL t + k) * 5 + 4, none⟩ = some (.slice none 0 0)) (go_keep) (first | (go_at_call 29; refine (mark77_any _).mono ?_; rintro e w2 ⟨rfl, hb2⟩; have hc2 := HSS.out _ ((below_drew wr).trans hb2)) | (go_at_call 10; refine (same_any 1 (by omega) 1 1 _ _ markT _ (mark_at _) (mark_at _)).mono ?_; rintro e w3 ⟨rfl, hb3⟩; have hc3 := HSS.out _ (((below_drew wr).trans hb2).trans (hb3.mono (((below_drew wr).trans hb2).size)))))
      all_goals
        have hb4 := ((below_drew wr).trans hb2).trans (hb3.mono (((below_drew wr).trans hb2).size))
        have HB3 := hid (Hb.out.trans (hb4.mono hz))
        have tl' := (hb4.cell (p := ⟨bK, nK t + k, none⟩) l2).trans tl
        have q4' := (hb4.cell (p := ⟨w.heap.size, 4, none⟩) hz).trans q4
        clear hb2 hb3 hc2 hc3 hb4 HSS
        go_wp2_with fail
        go_roundg (8 - (k + 1))
        case rel => exact ⟨k + 1, rfl, by omega, by go_num, HB3.out⟩
        case measure => omega
    · go_wp2_with fail
      go_loopg [10, 11] (nL t) (fun g i z wx => ∃ k : Nat, g = nL t - k ∧ k ≤ nL t ∧ i = .int .i64 k ∧ Below (w.heap.size + 1) (w.alloc (.cells #[.int .i64 (kindOf t), .int .i64 (nOf t), .string (sOf t), .slice (some ⟨bL, 0, none⟩) (nL t) (nL t + 8), .slice (some ⟨bK, 0, none⟩) (nK t) (nK t + 8)] 26)) wx)
      case atStart => exact ⟨0, rfl, Nat.zero_le _, rfl, Hb.out⟩
      case round =>
        clear q0 q1 q2 q3 q4 hz Hb Hbw hk1 hlt
        obtain ⟨k, rfl, hk1, rfl, hb⟩ := hrel
        obtain ⟨q0, q1, q2, q3, q4, hz, hbw⟩ := box_facts hb
        have Hb := hid hb
        have Hbw := hid hbw
        clear hb hbw
        by_cases hlt : k < nL t
        · obtain ⟨A, B, C, D, h5, h6⟩ := He.out k hlt
          obtain ⟨s0, s1, s2, s3, s4⟩ := h5.move (Hbw.out.block bL h1)
          have HL := hid (LentP.move (q := p) Hbw.out.size (fun b hb hp => ⟨hp, Hbw.out.block b hb⟩) h6)
          have l1 : bL < wr.heap.size := by omega
          clear h5 h6
          go_wp2_with fail
          refine (Hih.out p g _ (elt t k) _ HL.out).mono ?_
          rintro e w2 ⟨rfl, hb2⟩
          have HB2 := hid (Hb.out.trans (hb2.mono hz))
          clear hb2
          go_wp2_with fail
          go_roundg (nL t - (k + 1))
          case rel => exact ⟨k + 1, rfl, by omega, by go_num, HB2.out⟩
          case measure => omega
        · go_wp2_with fail
          go_ret
          exact ⟨rfl, Hbw.out⟩
theorem spare_any : ∀ (m : Nat), m ≤ 100 → SpareSaid m
  | 0, _ => spare_zero
  | m + 1, h => spare_succ m (by omega) (spare_any m (by omega))
end Go.Proofs.YtknakfpciccoaaaDoor
