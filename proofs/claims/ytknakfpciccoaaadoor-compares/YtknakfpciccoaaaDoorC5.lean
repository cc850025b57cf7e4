/- The walk of areDifferent. -/
import Derived.Test.YtknakfpciccoaaaDoorC1
import Derived.Test.YtknakfpciccoaaaDoorD
namespace Go.Proofs.YtknakfpciccoaaaDoor
open Go.RowKit Go.Maps Go.WideMaps

theorem law9 : Keyed Tryd.prog 9 := string_keyed Tryd.underlying9
theorem make_hint (n : Int) (w : World) : (Instr.makeMap 99 (some (.int .i64 n))).run Tryd.prog w = .ok (.map (some w.heap.size)) (w.alloc (.map #[] 0)) := by kernel_rfl
set_option maxHeartbeats 400000 in
set_option maxRecDepth 100000 in
theorem different_any (Ka : Option Addr) (Kc : Nat) (t : T) (w : World) (hk : NamesAt w Ka t) (hn : nK t ≤ 8796093022208) :
    Calls Tryd.prog 75 #[.slice Ka (nK t) Kc] w fun e w' => e = .returned (.bool (!dupTo t (nK t))) ∧ Below w.heap.size w w' := by
  have hmm := make_hint (nK t)
  have hk' := hid hk
  clear hk
  have Hs := hid (size_Sn t)
  go_enter Tryd.func75, Tryd.ntmps75
  go_wp2_with fail
  go_loopg [11] (nK t) (fun g i wr => ∃ k : Nat, g = nK t - k ∧ k ≤ nK t ∧ i = .int .i64 k ∧ Hid (wr.ownsMap Tryd.prog 9 (unitElem (H := Unit)) w.heap.size k (Sn t k)) ∧ Hid (Below w.heap.size w wr))
  case atStart => exact ⟨0, rfl, Nat.zero_le _, rfl, by rw [Sn_zero]; exact World.ownsMap_made _ _ _ _, (Below.refl _ _).alloc (Nat.le_refl _) _⟩
  case round =>
    obtain ⟨k, rfl, hk1, rfl, Hown, Hnx⟩ := hrel
    by_cases hlt : k < nK t
    · obtain ⟨kb, ko, rfl, hkb, hks, hkc⟩ := hk'.out.keep Hnx.out k hlt
      have hkey : keyOf Tryd.prog 9 (.string (nam t k)) = some (keyAt t k) := keyOf_string_mk Tryd.underlying9 (by unfold maxLen; omega)
      go_wp2_with (first
        | (at_mapUpdate; refine wpList_mapUpdate_own _ rfl _ _ _ 99 rfl 9 100 law9 Tryd.underlying99 (unitElem (H := Unit)) w.heap.size k _ rfl Hown.out (by unfold maxLen; omega) _ _ _ rfl rfl hkey _ [] unitElem_mk ?_; intro w1 hown1 hgrow1)
        | fail)
      go_roundg (nK t - (k + 1))
      case rel => exact ⟨k + 1, rfl, by omega, by go_num, (Sn_succ t k).symm ▸ hown1, Hnx.out.grown hgrow1 Hnx.out.size (fun j hj => by cases hj; exact Nat.le_refl _)⟩
      case measure => omega
    · obtain rfl : k = nK t := by omega
      have hsz := (Hs.out (nK t)).1
      go_wp2_with (first
        | (at_len; refine wpList_len_own _ rfl _ 99 rfl 9 100 Tryd.underlying99 (unitElem (H := Unit)) w.heap.size (nK t) _ rfl Hown.out ?_)
        | fail)
      go_ret
      refine ⟨ret_bool ?_, Hnx.out⟩
      have := (Hs.out (nK t)).2
      cases hd : dupTo t (nK t) with
      | true =>
        rw [hd] at this
        simp
        intro e
        have := this.1 (by omega)
        cases this
      | false =>
        rw [hd] at this
        simp [this.2 rfl]
end Go.Proofs.YtknakfpciccoaaaDoor
