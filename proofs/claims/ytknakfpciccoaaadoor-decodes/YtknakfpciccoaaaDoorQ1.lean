/- The walks of the reference: number, cut, sized. -/
import Derived.Test.YtknakfpciccoaaaDoorC1
import Derived.Test.YtknakfpciccoaaaDoorP4
namespace Go.Proofs.YtknakfpciccoaaaDoor
open Go.RowKit

set_option maxHeartbeats 1000000 in
set_option maxRecDepth 100000 in
theorem cut_any (s : ByteArray) (n : Nat) (w : World) (_hn : n < 9223372036854775808) (_hs : s.size ≤ 140737488355328) :
    Calls Tryd.prog 56 #[.string s, .int .i64 n] w fun e w' => Below w.heap.size w w' ∧ ((n ≤ s.size ∧ e = .returned (.tuple #[.string (pre s n), .string (suf s n), .bool true])) ∨ (s.size < n ∧ e = .returned (.tuple #[.string ⟨#[]⟩, .string ⟨#[]⟩, .bool false]))) := by
  by_cases h : n ≤ s.size
  · go_enter Tryd.func56, Tryd.ntmps56
    go_wp2_with fail
    go_region
    all_goals (try go_wp2)
    all_goals (refine bodyPost_ret (v := .tuple #[.string (pre s n), .string (suf s n), .bool true]) (by simp [results, Tryd.results56, go_sem, pre, suf]) rfl ⟨below_drew w, Or.inl ⟨h, rfl⟩⟩)
  · go_enter Tryd.func56, Tryd.ntmps56
    go_wp2_with fail
    refine bodyPost_ret (v := .tuple #[.string ⟨#[]⟩, .string ⟨#[]⟩, .bool false]) (by simp [results, Tryd.results56, go_sem]) rfl ⟨Below.refl _ _, Or.inr ⟨by omega, rfl⟩⟩
theorem or_add (m x : Nat) (hx : x < 256) : m * 256 ||| x = m * 256 + x := by
  have h := Nat.two_pow_add_eq_or_of_lt (i := 8) (b := x) (by omega) m
  rw [Nat.mul_comm m 256]
  exact h.symm
theorem bits_or_byte (m x : Nat) (hm : m < 72057594037927936) (hx : x < 256) : bits .or .i64 (wrap64 ((m : Int) * 256)) (x : Int) = IntKind.i64.wrap ((m * 256 + x : Nat) : Int) := by
  show IntKind.i64.wrap ((BitVec.ofInt 64 (wrap64 ((m : Int) * 256)) ||| BitVec.ofInt 64 (x : Int)).toNat : Int) = _
  have h1 : (BitVec.ofInt 64 (wrap64 ((m : Int) * 256))).toNat = m * 256 := by
    rw [BitVec.toNat_ofInt, wrap64]
    omega
  have h2 : (BitVec.ofInt 64 (x : Int)).toNat = x := by
    rw [BitVec.toNat_ofInt]
    omega
  rw [BitVec.toNat_or, h1, h2, or_add m x hx]
set_option maxHeartbeats 1000000 in
set_option maxRecDepth 100000 in
theorem numberR_any (s : ByteArray) (w : World) (hs : s.size ≤ 8) :
    Calls Tryd.prog 57 #[.string s] w fun e w' => e = .returned (.int .i64 (IntKind.i64.wrap (numB s))) ∧ w' = w := by
  go_enter Tryd.func57, Tryd.ntmps57
  go_wp2_with fail
  go_loopg [3, 4] s.size (fun g n i wr => ∃ k : Nat, g = s.size - k ∧ k ≤ s.size ∧ i = .int .i64 k ∧ n = .int .i64 (IntKind.i64.wrap (numTo s k)) ∧ wr = w)
  case atStart => exact ⟨0, rfl, Nat.zero_le _, rfl, rfl, rfl⟩
  case round =>
    obtain ⟨k, rfl, hk, rfl, rfl, rfl⟩ := hrel
    by_cases hlt : k < s.size
    · have hn2 : numTo s k < 72057594037927936 := Nat.lt_of_lt_of_le (numTo_lt s k) (Nat.pow_le_pow_right (show 0 < 256 by decide) (show k ≤ 7 by omega))
      have hn1 := numTo_succ s k hlt
      have hx := (s[k]'hlt).toNat_lt
      have Hn1 := hid hn1
      clear hn1
      generalize hm : numTo s k = m at hn2 Hn1 ⊢
      have ew : IntKind.i64.wrap (m : Int) = (m : Int) := by rw [IntKind.wrap_i64]; omega
      rw [ew]
      clear ew hm
      have Hor := hid (bits_or_byte m (s[k]'hlt).toNat hn2 hx)
      go_wp2_with fail
      go_roundg (s.size - (k + 1))
      case rel => exact ⟨k + 1, rfl, by omega, by go_num, by rw [Hn1.out, Hor.out], rfl⟩
      case measure => omega
    · have Hk : Hid (k = s.size) := by show k = _; omega
      go_wp2_with fail
      go_ret
      refine ⟨?_, rfl⟩
      rw [Hk.out, numTo_all]
      rfl
set_option maxHeartbeats 1000000 in
set_option maxRecDepth 100000 in
/-- The bytes that tell a length, and the bytes. -/
theorem sized_any (s : ByteArray) (b : Nat) (w : World) (hb : b ≤ 4) (hs : s.size ≤ 140737488355328) :
    Calls Tryd.prog 58 #[.string s, .int .i64 b] w fun e w' => Below w.heap.size w w' ∧ ((∃ x r, szB s b = some (x, r) ∧ e = .returned (.tuple #[.string x, .string r, .bool true])) ∨ (szB s b = none ∧ e = .returned (.tuple #[.string ⟨#[]⟩, .string ⟨#[]⟩, .bool false]))) := by
  have HC := hid (cut_any s b w (by omega) hs)
  go_enter Tryd.func58, Tryd.ntmps58
  go_wp2_with fail
  refine HC.out.mono ?_
  rintro e w1 ⟨hb1, ⟨h1, rfl⟩ | ⟨h1, rfl⟩⟩
  · have hps := pre_size h1
    have hsz := suf_size s b
    have hlt := numB_lt (pre s b)
    rw [hps] at hlt
    have hlt4 : numB (pre s b) < 4294967296 := Nat.lt_of_lt_of_le hlt (Nat.pow_le_pow_right (show 0 < 256 by decide) hb)
    have ew : IntKind.i64.wrap (numB (pre s b) : Int) = (numB (pre s b) : Int) := by rw [IntKind.wrap_i64]; omega
    have hN := numberR_any (pre s b) w1 (by omega)
    rw [ew] at hN
    have HN := hid hN
    have HC2 := hid (cut_any (suf s b) (numB (pre s b)) w1 (by omega) (by omega))
    have HB1 := hid hb1
    have hs1 := hb1.size
    clear hb1 HC hN ew hlt hps
    go_wp2_with fail
    refine HN.out.mono ?_
    rintro e w2 ⟨rfl, rfl⟩
    go_wp2_with fail
    refine HC2.out.mono ?_
    rintro e w3 ⟨hb3, ⟨h3, rfl⟩ | ⟨h3, rfl⟩⟩
    · have HB3 := hid (HB1.out.trans (hb3.mono hs1))
      clear hb3
      go_wp2_with fail
      refine bodyPost_ret (v := .tuple #[.string (pre (suf s b) (numB (pre s b))), .string (suf (suf s b) (numB (pre s b))), .bool true]) (by simp [results, Tryd.results58, go_sem]) rfl ⟨HB3.out, Or.inl ⟨_, _, szB_some h1 h3, rfl⟩⟩
    · have HB3 := hid (HB1.out.trans (hb3.mono hs1))
      clear hb3
      go_wp2_with fail
      refine bodyPost_ret (v := .tuple #[.string ⟨#[]⟩, .string ⟨#[]⟩, .bool false]) (by simp [results, Tryd.results58, go_sem]) rfl ⟨HB3.out, Or.inr ⟨szB_none h1 h3, rfl⟩⟩
  · have HB1 := hid hb1
    clear hb1
    go_wp2_with fail
    refine bodyPost_ret (v := .tuple #[.string ⟨#[]⟩, .string ⟨#[]⟩, .bool false]) (by simp [results, Tryd.results58, go_sem]) rfl ⟨HB1.out, Or.inr ⟨szB_short h1, rfl⟩⟩
end Go.Proofs.YtknakfpciccoaaaDoor
