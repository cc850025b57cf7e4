/- The walks of cmp.Compare, of the mark, and of the checker's small parts. -/
import Derived.Test.YtknakfpciccoaaaDoorC1
import Derived.Test.YtknakfpciccoaaaDoorD
namespace Go.Proofs.YtknakfpciccoaaaDoor
open Go.RowKit

set_option maxHeartbeats 400000 in
theorem cmpInt_any (a b : Int) (w : World) :
    Calls Tryd.prog 63 #[.int .i64 a, .int .i64 b] w fun e w' => e = .returned (.int .i64 (cmpI a b)) ∧ w' = w := by
  go_enter Tryd.func63, Tryd.ntmps63
  go_wp2
  all_goals (go_ret; refine ⟨?_, rfl⟩)
  · exact ret_int (cmpI_lt (by assumption)).symm
  · exact ret_int (cmpI_gt (by assumption)).symm
  · exact ret_int (cmpI_eq (by assumption) (by assumption)).symm
set_option maxHeartbeats 400000 in
theorem cmpInt64_any (a b : Int) (w : World) :
    Calls Tryd.prog 64 #[.int .i64 a, .int .i64 b] w fun e w' => e = .returned (.int .i64 (cmpI a b)) ∧ w' = w := by
  go_enter Tryd.func64, Tryd.ntmps64
  go_wp2
  all_goals (go_ret; refine ⟨?_, rfl⟩)
  · exact ret_int (cmpI_lt (by assumption)).symm
  · exact ret_int (cmpI_gt (by assumption)).symm
  · exact ret_int (cmpI_eq (by assumption) (by assumption)).symm
set_option maxHeartbeats 400000 in
theorem cmpString_any (a b : ByteArray) (w : World) :
    Calls Tryd.prog 65 #[.string a, .string b] w fun e w' => e = .returned (.int .i64 (cmpS a b)) ∧ w' = w := by
  go_enter Tryd.func65, Tryd.ntmps65
  go_wp2
  all_goals (go_ret; refine ⟨?_, rfl⟩)
  · exact ret_int (cmpS_lt (by assumption)).symm
  · exact ret_int (cmpS_gt (by assumption) (by assumption)).symm
  · exact ret_int (cmpS_eq (by assumption) (by assumption)).symm

def own3 : ByteArray := ⟨#[111, 119, 110]⟩
set_option maxHeartbeats 400000 in
theorem mark77_any (w : World) :
    Calls Tryd.prog 29 #[.int .i64 77] w fun e w' => e = .returned (.agg #[.int .i64 (-77), .int .i64 0, .string own3, .slice none 0 0, .slice none 0 0]) ∧ Below w.heap.size w w' := by
  go_enter Tryd.func29, Tryd.ntmps29
  go_wp2
  exact bodyPost_ret (v := .agg #[.int .i64 (-77), .int .i64 0, .string own3, .slice none 0 0, .slice none 0 0]) (by simp [results, Tryd.results29, go_sem, own3]) rfl ⟨rfl, (Below.refl _ _).alloc (Nat.le_refl _) _⟩

set_option maxHeartbeats 400000 in
theorem hasNoLists_any (f : Nat) (v : Value) (t : T) (w : World) (h : At w f v t) :
    Calls Tryd.prog 80 #[v] w fun e w' => e = .returned (.bool (noLists t)) ∧ Below w.heap.size w w' := by
  obtain ⟨f, La, Ka, Lc, Kc, rfl, rfl, hf, hl, hk⟩ := h.open
  clear h hf hl hk
  by_cases h1 : nL t = 0
  · have g1 : ((nL t : Int) == 0) = true := by simp [h1]
    have H1 := hid h1
    clear h1
    by_cases h2 : nK t = 0
    · have g2 : ((nK t : Int) == 0) = true := by simp [h2]
      have H2 := hid h2
      clear h2
      go_enter Tryd.func80, Tryd.ntmps80
      go_wp2_with fail
      go_ret
      exact ⟨ret_bool (by simp [noLists, H1.out, H2.out]), (Below.refl _ _).alloc (Nat.le_refl _) _⟩
    · have g2 : ((nK t : Int) == 0) = false := by simp; omega
      have H2 := hid h2
      clear h2
      go_enter Tryd.func80, Tryd.ntmps80
      go_wp2_with fail
      go_ret
      exact ⟨ret_bool (by simp [noLists, H1.out, H2.out]), (Below.refl _ _).alloc (Nat.le_refl _) _⟩
  · have g1 : ((nL t : Int) == 0) = false := by simp; omega
    have H1 := hid h1
    clear h1
    go_enter Tryd.func80, Tryd.ntmps80
    go_wp2_with fail
    go_ret
    exact ⟨ret_bool (by simp [noLists, H1.out]), (Below.refl _ _).alloc (Nat.le_refl _) _⟩

set_option maxHeartbeats 400000 in
theorem take_any (c : Nat) (l n : Int) (w : World) (hc : w.cell? ⟨c, 0, none⟩ = some (.int .i64 l)) (hz : w.frozen? ⟨c, 0, none⟩ = false) (l0 : -1000000 ≤ l) (l1 : l ≤ 1048576) (n0 : 0 ≤ n) (n1 : n ≤ 1000000) :
    Calls Tryd.prog 81 #[.pointer (some ⟨c, 0, none⟩), .int .i64 n] w fun e w' => e = .returned (.bool (decide (n ≤ l))) ∧ w' = w.setCell ⟨c, 0, none⟩ (.int .i64 (l - n)) := by
  go_enter Tryd.func81, Tryd.ntmps81
  go_wp2_with fail
  go_ret
  exact ⟨rfl, rfl⟩
end Go.Proofs.YtknakfpciccoaaaDoor
