/- The walk of same, of two values that read as one. -/
import Derived.Test.YtknakfpciccoaaaDoorC1
import Derived.Test.YtknakfpciccoaaaDoorG
import Derived.BigQuiet
import Derived.Deep.QuietTactic
import Derived.Deep.RegionHeld
namespace Go.Proofs.YtknakfpciccoaaaDoor
open Go.RowKit

def SameSaid (m : Nat) : Prop := ∀ (f g : Nat) (va vb : Value) (t : T) (w : World), At w f va t → At w g vb t →
    Calls Tryd.prog 10 #[va, vb, .int .i64 m] w fun e w' => e = .returned (.bool true) ∧ Below w.heap.size w w'

set_option maxHeartbeats 1000000 in
set_option maxRecDepth 100000 in
theorem same_step (m : Nat) (hm : m ≤ 100) (ih : ∀ n, m = n + 1 → SameSaid n) : SameSaid m := by
  intro f g va vb t w h h'
  obtain ⟨f1, La, Ka, Lc, Kc, hf1, rfl, hf, hl, hk⟩ := h.open
  obtain ⟨g1, Ma, Na, Mc, Nc, hg1, rfl, hf', hl', hk'⟩ := h'.open
  have hlen := hf.l1
  have klen := hf.m1
  have Hih := hid ih
  clear h h' hf hf' hf1 hg1 ih
  go_enter Tryd.func10, Tryd.ntmps10
  go_wp2_with fail
  go_loopg [7] (nK t) (fun g i wr => ∃ k : Nat, g = nK t - k ∧ k ≤ nK t ∧ i = .int .i64 k ∧ Below (w.heap.size + 2) ((w.alloc (.cells #[.int .i64 (kindOf t), .int .i64 (nOf t), .string (sOf t), .slice La (nL t) Lc, .slice Ka (nK t) Kc] 26)).alloc (.cells #[.int .i64 (kindOf t), .int .i64 (nOf t), .string (sOf t), .slice Ma (nL t) Mc, .slice Na (nK t) Nc] 26)) wr)
  case atStart => exact ⟨0, rfl, Nat.zero_le _, rfl, Below.refl _ _⟩
  case round =>
    obtain ⟨k, rfl, hk1, rfl, hb⟩ := hrel
    obtain ⟨⟨q0, q1, q2, q3, q4⟩, ⟨r0, r1, r2, r3, r4⟩, hz, hbw⟩ := box2_facts hb
    have Hb := hid hb
    clear hb
    by_cases hlt : k < nK t
    · obtain ⟨ea, fa, rfl, hea, hsa, n0⟩ := hk.out.keep hbw k hlt
      obtain ⟨eb, fb, rfl, heb, hsb, m0⟩ := hk'.out.keep hbw k hlt
      have x3 : (k : Int) < (nK t : Int) := by omega
      go_wp2_with fail
      go_quiet (fail)
      go_wp2_with fail
      go_roundg (nK t - (k + 1))
      case rel => exact ⟨k + 1, rfl, by omega, by go_num, below_drewN Hb.out _⟩
      case measure => omega
    · go_wp2_with fail
      go_loopg [8, 9] (nL t) (fun g i z wx => ∃ k : Nat, g = nL t - k ∧ k ≤ nL t ∧ i = .int .i64 k ∧ Below (w.heap.size + 2) ((w.alloc (.cells #[.int .i64 (kindOf t), .int .i64 (nOf t), .string (sOf t), .slice La (nL t) Lc, .slice Ka (nK t) Kc] 26)).alloc (.cells #[.int .i64 (kindOf t), .int .i64 (nOf t), .string (sOf t), .slice Ma (nL t) Mc, .slice Na (nK t) Nc] 26)) wx)
      case atStart => exact ⟨0, rfl, Nat.zero_le _, rfl, Hb.out⟩
      case round =>
        clear q0 q1 q2 q3 q4 r0 r1 r2 r3 r4 hz hbw Hb hk1 hlt
        obtain ⟨k, rfl, hk1, rfl, hb⟩ := hrel
        obtain ⟨⟨q0, q1, q2, q3, q4⟩, ⟨r0, r1, r2, r3, r4⟩, hz, hbw⟩ := box2_facts hb
        have Hb := hid hb
        clear hb
        have hz0 : w.heap.size < wr.heap.size := by omega
        by_cases hlt : k < nL t
        · by_cases hm0 : 0 < m
          · obtain ⟨n, hn⟩ : ∃ n, m = n + 1 := ⟨m - 1, by omega⟩
            have HS := hid (Hih.out n hn)
            obtain ⟨ba, oa, c0, c1, c2, c3, c4, rfl, hba, p0, p1, p2, p3, p4, Ha⟩ := hl.out.keep hbw k hlt
            obtain ⟨bb, ob, d0, d1, d2, d3, d4, rfl, hbb, t0, t1, t2, t3, t4, Hc⟩ := hl'.out.keep hbw k hlt
            have x1 : (k : Int) < (nL t : Int) := by omega
            have em : IntKind.i64.wrap (n : Int) = (n : Int) := by rw [IntKind.wrap_i64]; omega
            have em2 : (m : Int) - 1 = (n : Int) := by omega
            clear hn
            have HA1 := hid (Ha.out.keep (below_drew wr))
            have HC1 := hid (Hc.out.keep (below_drew wr))
            have HSS : Hid (∀ wx : World, Below wr.drew.heap.size wr.drew wx → wx.cell? ⟨w.heap.size, 3, none⟩ = some (.slice (some ⟨ba, oa, none⟩) (nL t) Lc) ∧ wx.cell? ⟨w.heap.size + 1, 3, none⟩ = some (.slice (some ⟨bb, ob, none⟩) (nL t) Mc) ∧ wx.cell? ⟨ba, oa + k * 5, none⟩ = some c0 ∧ wx.cell? ⟨ba, oa + k * 5 + 1, none⟩ = some c1 ∧ wx.cell? ⟨ba, oa + k * 5 + 2, none⟩ = some c2 ∧ wx.cell? ⟨ba, oa + k * 5 + 3, none⟩ = some c3 ∧ wx.cell? ⟨ba, oa + k * 5 + 4, none⟩ = some c4 ∧ wx.cell? ⟨bb, ob + k * 5, none⟩ = some d0 ∧ wx.cell? ⟨bb, ob + k * 5 + 1, none⟩ = some d1 ∧ wx.cell? ⟨bb, ob + k * 5 + 2, none⟩ = some d2 ∧ wx.cell? ⟨bb, ob + k * 5 + 3, none⟩ = some d3 ∧ wx.cell? ⟨bb, ob + k * 5 + 4, none⟩ = some d4) := by
              intro wx hx
              have hh := (below_drew wr).trans hx
              refine ⟨?_, ?_, ?_, ?_, ?_, ?_, ?_, ?_, ?_, ?_, ?_, ?_⟩
              all_goals (rw [hh.cell (p := ⟨_, _, none⟩) (by first | assumption | omega)]; assumption)
            go_wp2_with fail
            go_region_held (fun wx => wx.cell? ⟨w.heap.size, 3, none⟩ = some (.slice (some ⟨ba, oa, none⟩) (nL t) Lc) ∧ wx.cell? ⟨w.heap.size + 1, 3, none⟩ = some (.slice (some ⟨bb, ob, none⟩) (nL t) Mc) ∧ wx.cell? ⟨ba, oa + k * 5, none⟩ = some c0 ∧ wx.cell? ⟨ba, oa + k * 5 + 1, none⟩ = some c1 ∧ wx.cell? ⟨ba, oa + k * 5 + 2, none⟩ = some c2 ∧ wx.cell? ⟨ba, oa + k * 5 + 3, none⟩ = some c3 ∧ wx.cell? ⟨ba, oa + k * 5 + 4, none⟩ = some c4 ∧ wx.cell? ⟨bb, ob + k * 5, none⟩ = some d0 ∧ wx.cell? ⟨bb, ob + k * 5 + 1, none⟩ = some d1 ∧ wx.cell? ⟨bb, ob + k * 5 + 2, none⟩ = some d2 ∧ wx.cell? ⟨bb, ob + k * 5 + 3, none⟩ = some d3 ∧ wx.cell? ⟨bb, ob + k * 5 + 4, none⟩ = some d4) (go_keep) ((go_at_call 10; refine (HS.out _ _ _ _ _ _ HA1.out HC1.out).mono ?_; rintro e w2 ⟨rfl, hb2⟩; have hc2 := HSS.out _ hb2))
            have HB2 := hid (Hb.out.trans (((below_drew wr).trans hb2).mono (by omega)))
            clear hb2 hc2 HA1 HC1
            go_wp2_with fail
            go_roundg (nL t - (k + 1))
            case rel => exact ⟨k + 1, rfl, by omega, by go_num, HB2.out⟩
            case measure => omega
          · have e0 : (m : Int) ≤ 0 := by omega
            have x1 : (k : Int) < (nL t : Int) := by omega
            go_wp2_with fail
            go_ret
            exact ⟨rfl, hbw⟩
        · go_wp2_with fail
          go_ret
          exact ⟨rfl, hbw⟩
theorem same_any : ∀ (m : Nat), m ≤ 100 → SameSaid m
  | 0, h => same_step 0 h (fun n e => by omega)
  | m + 1, h => same_step (m + 1) h (fun n e => (Nat.succ.inj e) ▸ same_any m (by omega))
end Go.Proofs.YtknakfpciccoaaaDoor
