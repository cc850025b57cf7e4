/- The walk of proper. -/
import Derived.Test.YtknakfpciccoaaaDoorC11
import Derived.Lib.IndexBytes
namespace Go.Proofs.YtknakfpciccoaaaDoor
open Go.RowKit

theorem finN_le (s : ByteArray) (n : Nat) (a b : Int) : finN s n a b ≤ s.size := by
  unfold finN
  split
  · omega
  · split
    · omega
    · split <;> omega
theorem utfN_le (s : ByteArray) (h : 0 < s.size) : utfN s ≤ s.size := by
  unfold utfN
  split
  · omega
  · split
    · exact finN_le _ _ _ _
    · split
      · exact finN_le _ _ _ _
      · split
        · exact finN_le _ _ _ _
        · omega
theorem proper_step (s : ByteArray) (k : Nat) (h : k < s.size) : Lib.validD (s.data.toList.drop k) = if utfN (s.extract k s.size) = 0 then false else Lib.validD (s.data.toList.drop (k + utfN (s.extract k s.size))) := by
  have hl : s.data.toList.length = s.size := rfl
  have hne : s.data.toList.drop k ≠ [] := by
    intro e
    have := congrArg List.length e
    rw [List.length_drop] at this
    simp only [List.length_nil] at this
    omega
  have he : (s.extract k s.size).data.toList = s.data.toList.drop k := Lib.extract_to_end s k
  have hd : Lib.decodeL (s.data.toList.drop k) = Utf8.decode (s.extract k s.size) 0 := by rw [← he]; exact decodeL_eq _
  rw [Lib.validD_step _ hne, hd, utfN_decode]
  have hw := Lib.decodeL_width (s.data.toList.drop k)
  rw [hd] at hw
  by_cases hb : (Utf8.decode (s.extract k s.size) 0).1 = 65533 ∧ (Utf8.decode (s.extract k s.size) 0).2 = 1
  · rw [if_pos hb, if_pos hb, if_pos rfl]
  · rw [if_neg hb, if_neg hb, if_neg (by omega), List.drop_drop]

set_option maxHeartbeats 1000000 in
set_option maxRecDepth 100000 in
theorem proper_any (s : ByteArray) (w : World) (hs : s.size ≤ 140737488355328) :
    Calls Tryd.prog 79 #[.string s] w fun e w' => e = .returned (.bool (okS s)) ∧ w' = w := by
  go_enter Tryd.func79, Tryd.ntmps79
  go_wp2_with fail
  go_loopg [3] s.size (fun g i wr => ∃ k : Nat, g = s.size - k ∧ k ≤ s.size ∧ i = .int .i64 k ∧ Hid (Lib.validD (s.data.toList.drop k) = okS s) ∧ wr = w)
  case atStart => exact ⟨0, rfl, Nat.zero_le _, rfl, rfl, rfl⟩
  case round =>
    obtain ⟨k, rfl, hk, rfl, HV, rfl⟩ := hrel
    by_cases hlt : k < s.size
    · have Hst := hid (proper_step s k hlt)
      have hsz : (s.extract k s.size).size = s.size - k := Lib.ext_size s k
      have Hle := hid (utfN_le (s.extract k s.size) (by omega))
      have Hsz := hid hsz
      clear hsz
      go_wp2_with fail
      refine (utf_any (s.extract k s.size) _ (by rw [Hsz.out]; omega) (by rw [Hsz.out]; omega)).mono ?_
      rintro e w2 ⟨⟨x, rfl⟩, rfl⟩
      have hle : utfN (s.extract k s.size) ≤ s.size - k := by have := Hle.out; rw [Hsz.out] at this; exact this
      generalize hn : utfN (s.extract k s.size) = n at hle ⊢
      have Hst2 : Hid (okS s = if n = 0 then false else Lib.validD (s.data.toList.drop (k + n))) := by show okS s = _; rw [← HV.out, Hst.out, hn]
      clear hn Hst Hle
      by_cases h0 : n = 0
      · subst h0
        go_wp2_with fail
        go_ret
        exact ⟨ret_bool (by rw [Hst2.out]; rfl), rfl⟩
      · have hz : ((n : Int) == 0) = false := by simp; omega
        go_wp2_with fail
        go_roundg (s.size - (k + n))
        case rel => exact ⟨k + n, rfl, by omega, by go_num, by show _ = _; rw [Hst2.out, if_neg h0], rfl⟩
        case measure => omega
    · obtain rfl : k = s.size := by omega
      go_wp2_with fail
      go_ret
      refine ⟨ret_bool ?_, rfl⟩
      rw [← HV.out, List.drop_of_length_le (show s.data.toList.length ≤ s.size from Nat.le_refl _)]
      rfl
end Go.Proofs.YtknakfpciccoaaaDoor
