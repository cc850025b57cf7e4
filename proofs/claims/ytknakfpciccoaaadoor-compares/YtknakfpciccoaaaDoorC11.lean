/- The walks of utf and proper. -/
import Derived.Test.YtknakfpciccoaaaDoorC1
import Derived.Test.YtknakfpciccoaaaDoorF
import Derived.Lib.ValidAsc
namespace Go.Proofs.YtknakfpciccoaaaDoor
open Go.RowKit

theorem at_bt (s : ByteArray) (k : Nat) (h : k < s.size) : s[k] = s.get! k := by
  cases s with
  | mk d => exact (getElem!_pos d k h).symm

set_option maxHeartbeats 1000000 in
set_option maxRecDepth 100000 in
theorem utf_any (s : ByteArray) (w : World) (h0 : 0 < s.size) (hs : s.size ≤ 9223372036854775807) :
    Calls Tryd.prog 72 #[.string s] w fun e w' => (∃ x : Int, e = .returned (.tuple #[.int .i64 (utfN s), .int .i64 x])) ∧ w' = w := by
  obtain ⟨a, ha⟩ : ∃ a, s.get! 0 = a := ⟨_, rfl⟩
  have hsa : s[0] = a := by rw [at_bt s 0 h0]; exact ha
  have hba : bt s 0 = a.toNat := by unfold bt; rw [ha]
  have la : a.toNat < 256 := a.toNat_lt
  by_cases h1 : a.toNat < 128
  · have H0 : Hid (utfN s = 1) := by show utfN s = 1; unfold utfN; rw [hba, if_pos h1]
    clear hba ha
    go_enter Tryd.func72, Tryd.ntmps72
    go_wp2_with fail
    go_ret2
    exact ⟨⟨_, by rw [H0.out]; rfl⟩, rfl⟩
  by_cases hl2 : 192 ≤ a.toNat ∧ a.toNat < 224
  · have H0 : Hid (utfN s = finN s 2 128 (a.toNat - 192)) := by show utfN s = _; unfold utfN; rw [hba, if_neg h1, if_pos hl2]
    obtain ⟨hc, hd⟩ := hl2
    clear hba ha h1
    have gc : (192 : Int) ≤ (a.toNat : Int) := by omega
    have gd : (a.toNat : Int) < 224 := by omega
    by_cases hn : s.size < 2
    · have H1 : Hid (utfN s = 0) := by show utfN s = _; rw [H0.out]; unfold finN; rw [if_pos hn]
      go_enter Tryd.func72, Tryd.ntmps72
      go_wp2_with fail
      go_ret2
      exact ⟨⟨_, by rw [H1.out]; rfl⟩, rfl⟩
    · have H2 : Hid (utfN s = if contTo s 1 = false then 0 else if badRune 128 (runC s (a.toNat - 192) 1) = true then 0 else 2) := by show utfN s = _; rw [H0.out]; unfold finN; rw [if_neg hn]
      go_enter Tryd.func72, Tryd.ntmps72
      go_wp2_with fail
      go_loopg [7, 8] 2 (fun g y i wr => ∃ (k : Nat) (x : Int), g = 2 - k ∧ k ≤ 1 ∧ y = .int .i64 x ∧ i = .int .i64 (k + 1 : Nat) ∧ Hid (runC s (a.toNat - 192) k = x) ∧ Hid (contTo s k = true) ∧ 0 ≤ x ∧ x ≤ 8388607 ∧ Hid ((k = 0 → x ≤ 31) ∧ (k = 1 → x ≤ 2047) ∧ (k = 2 → x ≤ 131071)) ∧ wr = w)
      case atStart => exact ⟨0, a.toNat - 192, rfl, by omega, rfl, rfl, rfl, rfl, by omega, by omega, ⟨fun _ => by omega, fun h => by omega, fun h => by omega⟩, rfl⟩
      case round =>
        obtain ⟨k, x, rfl, hk, rfl, rfl, HX, HC, x0, x1, HD, rfl⟩ := hrel
        by_cases hlt : k < 1
        · obtain ⟨z, hz⟩ : ∃ z, s.get! (k + 1) = z := ⟨_, rfl⟩
          have hsz : s[k + 1]'(by omega) = z := by rw [at_bt s (k + 1) (by omega)]; exact hz
          have hbz : bt s (k + 1) = z.toNat := by unfold bt; rw [hz]
          have lz : z.toNat < 256 := z.toNat_lt
          have HC1 : Hid (contTo s (k + 1) = (decide (128 ≤ z.toNat) && decide (z.toNat ≤ 191))) := by show (contTo s k && (decide (128 ≤ bt s (k + 1)) && decide (bt s (k + 1) ≤ 191))) = _; rw [HC.out, hbz]; rfl
          have HX1 : Hid (runC s (a.toNat - 192) (k + 1) = 64 * x + z.toNat - 128) := by show 64 * runC s (a.toNat - 192) k + (bt s (k + 1) : Int) - 128 = _; rw [HX.out, hbz]
          clear hz hbz
          have hkz : (k : Int) + 1 < (s.size : Int) := by omega
          by_cases hy : z.toNat < 128
          · have hyd : decide ((z.toNat : Int) < 128) = true := decide_eq_true (by omega)
            have Hy := hid hy
            clear hy
            go_wp2_with fail
            go_ret2
            refine ⟨⟨0, ?_⟩, rfl⟩
            rw [H2.out, if_pos (contTo_false (j := k + 1) (by omega) (by rw [HC1.out]; have := Hy.out; simp; omega))]
            rfl
          · by_cases hy2 : 191 < z.toNat
            · have hyd : decide ((z.toNat : Int) < 128) = false := decide_eq_false (by omega)
              have hyd2 : decide ((191 : Int) < (z.toNat : Int)) = true := decide_eq_true (by omega)
              have Hy := hid hy2
              clear hy hy2
              go_wp2_with fail
              go_ret2
              refine ⟨⟨0, ?_⟩, rfl⟩
              rw [H2.out, if_pos (contTo_false (j := k + 1) (by omega) (by rw [HC1.out]; have := Hy.out; simp; omega))]
              rfl
            · have hyd : decide ((z.toNat : Int) < 128) = false := decide_eq_false (by omega)
              have hyd2 : decide ((191 : Int) < (z.toNat : Int)) = false := decide_eq_false (by omega)
              go_wp2_with fail
              go_roundg (2 - (k + 1))
              case rel =>
                refine ⟨k + 1, 64 * x + z.toNat - 128, rfl, by omega, by go_num, by go_num, HX1, ?_, by omega, ?_, ?_, rfl⟩
                · show contTo s (k + 1) = true
                  rw [HC1.out]
                  simp
                  omega
                · obtain ⟨d0, d1, d2⟩ := HD.out
                  have : k = 0 ∨ k = 1 ∨ k = 2 := by omega
                  rcases this with rfl | rfl | rfl
                  · have := d0 rfl; omega
                  · have := d1 rfl; omega
                  · have := d2 rfl; omega
                · obtain ⟨d0, d1, d2⟩ := HD.out
                  refine ⟨fun h => by omega, fun h => ?_, fun h => ?_⟩
                  · have := d0 (by omega); omega
                  · have := d1 (by omega); omega
              case measure => omega
        · obtain rfl : k = 1 := by omega
          have H3 : Hid (utfN s = if badRune 128 x = true then 0 else 2) := by show utfN s = _; rw [H2.out, HX.out, if_neg (by rw [HC.out]; simp)]
          by_cases b1 : x < 128
          · have H4 : Hid (utfN s = 0) := by show utfN s = _; rw [H3.out, if_pos (by simp [badRune]; omega)]
            go_wp2_with fail
            go_ret2
            exact ⟨⟨0, by rw [H4.out]; rfl⟩, rfl⟩
          by_cases b2 : 1114111 < x
          · have H4 : Hid (utfN s = 0) := by show utfN s = _; rw [H3.out, if_pos (by simp [badRune]; omega)]
            go_wp2_with fail
            go_ret2
            exact ⟨⟨0, by rw [H4.out]; rfl⟩, rfl⟩
          by_cases b3 : 55296 ≤ x
          · by_cases b4 : x < 57344
            · have H4 : Hid (utfN s = 0) := by show utfN s = _; rw [H3.out, if_pos (by simp [badRune]; omega)]
              go_wp2_with fail
              go_ret2
              exact ⟨⟨0, by rw [H4.out]; rfl⟩, rfl⟩
            · have H4 : Hid (utfN s = 2) := by show utfN s = _; rw [H3.out, if_neg (by simp [badRune]; omega)]
              go_wp2_with fail
              go_ret2
              exact ⟨⟨x, by rw [H4.out]; rfl⟩, rfl⟩
          · have H4 : Hid (utfN s = 2) := by show utfN s = _; rw [H3.out, if_neg (by simp [badRune]; omega)]
            go_wp2_with fail
            go_ret2
            exact ⟨⟨x, by rw [H4.out]; rfl⟩, rfl⟩
  by_cases hl3 : 224 ≤ a.toNat ∧ a.toNat < 240
  · have H0 : Hid (utfN s = finN s 3 2048 (a.toNat - 224)) := by show utfN s = _; unfold utfN; rw [hba, if_neg h1, if_neg hl2, if_pos hl3]
    obtain ⟨hc, hd⟩ := hl3
    clear hba ha h1 hl2
    have gc : (224 : Int) ≤ (a.toNat : Int) := by omega
    have gd : (a.toNat : Int) < 240 := by omega
    by_cases hn : s.size < 3
    · have H1 : Hid (utfN s = 0) := by show utfN s = _; rw [H0.out]; unfold finN; rw [if_pos hn]
      go_enter Tryd.func72, Tryd.ntmps72
      go_wp2_with fail
      go_ret2
      exact ⟨⟨_, by rw [H1.out]; rfl⟩, rfl⟩
    · have H2 : Hid (utfN s = if contTo s 2 = false then 0 else if badRune 2048 (runC s (a.toNat - 224) 2) = true then 0 else 3) := by show utfN s = _; rw [H0.out]; unfold finN; rw [if_neg hn]
      go_enter Tryd.func72, Tryd.ntmps72
      go_wp2_with fail
      go_loopg [7, 8] 3 (fun g y i wr => ∃ (k : Nat) (x : Int), g = 3 - k ∧ k ≤ 2 ∧ y = .int .i64 x ∧ i = .int .i64 (k + 1 : Nat) ∧ Hid (runC s (a.toNat - 224) k = x) ∧ Hid (contTo s k = true) ∧ 0 ≤ x ∧ x ≤ 8388607 ∧ Hid ((k = 0 → x ≤ 31) ∧ (k = 1 → x ≤ 2047) ∧ (k = 2 → x ≤ 131071)) ∧ wr = w)
      case atStart => exact ⟨0, a.toNat - 224, rfl, by omega, rfl, rfl, rfl, rfl, by omega, by omega, ⟨fun _ => by omega, fun h => by omega, fun h => by omega⟩, rfl⟩
      case round =>
        obtain ⟨k, x, rfl, hk, rfl, rfl, HX, HC, x0, x1, HD, rfl⟩ := hrel
        by_cases hlt : k < 2
        · obtain ⟨z, hz⟩ : ∃ z, s.get! (k + 1) = z := ⟨_, rfl⟩
          have hsz : s[k + 1]'(by omega) = z := by rw [at_bt s (k + 1) (by omega)]; exact hz
          have hbz : bt s (k + 1) = z.toNat := by unfold bt; rw [hz]
          have lz : z.toNat < 256 := z.toNat_lt
          have HC1 : Hid (contTo s (k + 1) = (decide (128 ≤ z.toNat) && decide (z.toNat ≤ 191))) := by show (contTo s k && (decide (128 ≤ bt s (k + 1)) && decide (bt s (k + 1) ≤ 191))) = _; rw [HC.out, hbz]; rfl
          have HX1 : Hid (runC s (a.toNat - 224) (k + 1) = 64 * x + z.toNat - 128) := by show 64 * runC s (a.toNat - 224) k + (bt s (k + 1) : Int) - 128 = _; rw [HX.out, hbz]
          clear hz hbz
          have hkz : (k : Int) + 1 < (s.size : Int) := by omega
          by_cases hy : z.toNat < 128
          · have hyd : decide ((z.toNat : Int) < 128) = true := decide_eq_true (by omega)
            have Hy := hid hy
            clear hy
            go_wp2_with fail
            go_ret2
            refine ⟨⟨0, ?_⟩, rfl⟩
            rw [H2.out, if_pos (contTo_false (j := k + 1) (by omega) (by rw [HC1.out]; have := Hy.out; simp; omega))]
            rfl
          · by_cases hy2 : 191 < z.toNat
            · have hyd : decide ((z.toNat : Int) < 128) = false := decide_eq_false (by omega)
              have hyd2 : decide ((191 : Int) < (z.toNat : Int)) = true := decide_eq_true (by omega)
              have Hy := hid hy2
              clear hy hy2
              go_wp2_with fail
              go_ret2
              refine ⟨⟨0, ?_⟩, rfl⟩
              rw [H2.out, if_pos (contTo_false (j := k + 1) (by omega) (by rw [HC1.out]; have := Hy.out; simp; omega))]
              rfl
            · have hyd : decide ((z.toNat : Int) < 128) = false := decide_eq_false (by omega)
              have hyd2 : decide ((191 : Int) < (z.toNat : Int)) = false := decide_eq_false (by omega)
              go_wp2_with fail
              go_roundg (3 - (k + 1))
              case rel =>
                refine ⟨k + 1, 64 * x + z.toNat - 128, rfl, by omega, by go_num, by go_num, HX1, ?_, by omega, ?_, ?_, rfl⟩
                · show contTo s (k + 1) = true
                  rw [HC1.out]
                  simp
                  omega
                · obtain ⟨d0, d1, d2⟩ := HD.out
                  have : k = 0 ∨ k = 1 ∨ k = 2 := by omega
                  rcases this with rfl | rfl | rfl
                  · have := d0 rfl; omega
                  · have := d1 rfl; omega
                  · have := d2 rfl; omega
                · obtain ⟨d0, d1, d2⟩ := HD.out
                  refine ⟨fun h => by omega, fun h => ?_, fun h => ?_⟩
                  · have := d0 (by omega); omega
                  · have := d1 (by omega); omega
              case measure => omega
        · obtain rfl : k = 2 := by omega
          have H3 : Hid (utfN s = if badRune 2048 x = true then 0 else 3) := by show utfN s = _; rw [H2.out, HX.out, if_neg (by rw [HC.out]; simp)]
          by_cases b1 : x < 2048
          · have H4 : Hid (utfN s = 0) := by show utfN s = _; rw [H3.out, if_pos (by simp [badRune]; omega)]
            go_wp2_with fail
            go_ret2
            exact ⟨⟨0, by rw [H4.out]; rfl⟩, rfl⟩
          by_cases b2 : 1114111 < x
          · have H4 : Hid (utfN s = 0) := by show utfN s = _; rw [H3.out, if_pos (by simp [badRune]; omega)]
            go_wp2_with fail
            go_ret2
            exact ⟨⟨0, by rw [H4.out]; rfl⟩, rfl⟩
          by_cases b3 : 55296 ≤ x
          · by_cases b4 : x < 57344
            · have H4 : Hid (utfN s = 0) := by show utfN s = _; rw [H3.out, if_pos (by simp [badRune]; omega)]
              go_wp2_with fail
              go_ret2
              exact ⟨⟨0, by rw [H4.out]; rfl⟩, rfl⟩
            · have H4 : Hid (utfN s = 3) := by show utfN s = _; rw [H3.out, if_neg (by simp [badRune]; omega)]
              go_wp2_with fail
              go_ret2
              exact ⟨⟨x, by rw [H4.out]; rfl⟩, rfl⟩
          · have H4 : Hid (utfN s = 3) := by show utfN s = _; rw [H3.out, if_neg (by simp [badRune]; omega)]
            go_wp2_with fail
            go_ret2
            exact ⟨⟨x, by rw [H4.out]; rfl⟩, rfl⟩
  by_cases hl4 : 240 ≤ a.toNat ∧ a.toNat < 248
  · have H0 : Hid (utfN s = finN s 4 65536 (a.toNat - 240)) := by show utfN s = _; unfold utfN; rw [hba, if_neg h1, if_neg hl2, if_neg hl3, if_pos hl4]
    obtain ⟨hc, hd⟩ := hl4
    clear hba ha h1 hl2 hl3
    have gc : (240 : Int) ≤ (a.toNat : Int) := by omega
    have gd : (a.toNat : Int) < 248 := by omega
    by_cases hn : s.size < 4
    · have H1 : Hid (utfN s = 0) := by show utfN s = _; rw [H0.out]; unfold finN; rw [if_pos hn]
      go_enter Tryd.func72, Tryd.ntmps72
      go_wp2_with fail
      go_ret2
      exact ⟨⟨_, by rw [H1.out]; rfl⟩, rfl⟩
    · have H2 : Hid (utfN s = if contTo s 3 = false then 0 else if badRune 65536 (runC s (a.toNat - 240) 3) = true then 0 else 4) := by show utfN s = _; rw [H0.out]; unfold finN; rw [if_neg hn]
      go_enter Tryd.func72, Tryd.ntmps72
      go_wp2_with fail
      go_loopg [7, 8] 4 (fun g y i wr => ∃ (k : Nat) (x : Int), g = 4 - k ∧ k ≤ 3 ∧ y = .int .i64 x ∧ i = .int .i64 (k + 1 : Nat) ∧ Hid (runC s (a.toNat - 240) k = x) ∧ Hid (contTo s k = true) ∧ 0 ≤ x ∧ x ≤ 8388607 ∧ Hid ((k = 0 → x ≤ 31) ∧ (k = 1 → x ≤ 2047) ∧ (k = 2 → x ≤ 131071)) ∧ wr = w)
      case atStart => exact ⟨0, a.toNat - 240, rfl, by omega, rfl, rfl, rfl, rfl, by omega, by omega, ⟨fun _ => by omega, fun h => by omega, fun h => by omega⟩, rfl⟩
      case round =>
        obtain ⟨k, x, rfl, hk, rfl, rfl, HX, HC, x0, x1, HD, rfl⟩ := hrel
        by_cases hlt : k < 3
        · obtain ⟨z, hz⟩ : ∃ z, s.get! (k + 1) = z := ⟨_, rfl⟩
          have hsz : s[k + 1]'(by omega) = z := by rw [at_bt s (k + 1) (by omega)]; exact hz
          have hbz : bt s (k + 1) = z.toNat := by unfold bt; rw [hz]
          have lz : z.toNat < 256 := z.toNat_lt
          have HC1 : Hid (contTo s (k + 1) = (decide (128 ≤ z.toNat) && decide (z.toNat ≤ 191))) := by show (contTo s k && (decide (128 ≤ bt s (k + 1)) && decide (bt s (k + 1) ≤ 191))) = _; rw [HC.out, hbz]; rfl
          have HX1 : Hid (runC s (a.toNat - 240) (k + 1) = 64 * x + z.toNat - 128) := by show 64 * runC s (a.toNat - 240) k + (bt s (k + 1) : Int) - 128 = _; rw [HX.out, hbz]
          clear hz hbz
          have hkz : (k : Int) + 1 < (s.size : Int) := by omega
          by_cases hy : z.toNat < 128
          · have hyd : decide ((z.toNat : Int) < 128) = true := decide_eq_true (by omega)
            have Hy := hid hy
            clear hy
            go_wp2_with fail
            go_ret2
            refine ⟨⟨0, ?_⟩, rfl⟩
            rw [H2.out, if_pos (contTo_false (j := k + 1) (by omega) (by rw [HC1.out]; have := Hy.out; simp; omega))]
            rfl
          · by_cases hy2 : 191 < z.toNat
            · have hyd : decide ((z.toNat : Int) < 128) = false := decide_eq_false (by omega)
              have hyd2 : decide ((191 : Int) < (z.toNat : Int)) = true := decide_eq_true (by omega)
              have Hy := hid hy2
              clear hy hy2
              go_wp2_with fail
              go_ret2
              refine ⟨⟨0, ?_⟩, rfl⟩
              rw [H2.out, if_pos (contTo_false (j := k + 1) (by omega) (by rw [HC1.out]; have := Hy.out; simp; omega))]
              rfl
            · have hyd : decide ((z.toNat : Int) < 128) = false := decide_eq_false (by omega)
              have hyd2 : decide ((191 : Int) < (z.toNat : Int)) = false := decide_eq_false (by omega)
              go_wp2_with fail
              go_roundg (4 - (k + 1))
              case rel =>
                refine ⟨k + 1, 64 * x + z.toNat - 128, rfl, by omega, by go_num, by go_num, HX1, ?_, by omega, ?_, ?_, rfl⟩
                · show contTo s (k + 1) = true
                  rw [HC1.out]
                  simp
                  omega
                · obtain ⟨d0, d1, d2⟩ := HD.out
                  have : k = 0 ∨ k = 1 ∨ k = 2 := by omega
                  rcases this with rfl | rfl | rfl
                  · have := d0 rfl; omega
                  · have := d1 rfl; omega
                  · have := d2 rfl; omega
                · obtain ⟨d0, d1, d2⟩ := HD.out
                  refine ⟨fun h => by omega, fun h => ?_, fun h => ?_⟩
                  · have := d0 (by omega); omega
                  · have := d1 (by omega); omega
              case measure => omega
        · obtain rfl : k = 3 := by omega
          have H3 : Hid (utfN s = if badRune 65536 x = true then 0 else 4) := by show utfN s = _; rw [H2.out, HX.out, if_neg (by rw [HC.out]; simp)]
          by_cases b1 : x < 65536
          · have H4 : Hid (utfN s = 0) := by show utfN s = _; rw [H3.out, if_pos (by simp [badRune]; omega)]
            go_wp2_with fail
            go_ret2
            exact ⟨⟨0, by rw [H4.out]; rfl⟩, rfl⟩
          by_cases b2 : 1114111 < x
          · have H4 : Hid (utfN s = 0) := by show utfN s = _; rw [H3.out, if_pos (by simp [badRune]; omega)]
            go_wp2_with fail
            go_ret2
            exact ⟨⟨0, by rw [H4.out]; rfl⟩, rfl⟩
          by_cases b3 : 55296 ≤ x
          · by_cases b4 : x < 57344
            · have H4 : Hid (utfN s = 0) := by show utfN s = _; rw [H3.out, if_pos (by simp [badRune]; omega)]
              go_wp2_with fail
              go_ret2
              exact ⟨⟨0, by rw [H4.out]; rfl⟩, rfl⟩
            · have H4 : Hid (utfN s = 4) := by show utfN s = _; rw [H3.out, if_neg (by simp [badRune]; omega)]
              go_wp2_with fail
              go_ret2
              exact ⟨⟨x, by rw [H4.out]; rfl⟩, rfl⟩
          · have H4 : Hid (utfN s = 4) := by show utfN s = _; rw [H3.out, if_neg (by simp [badRune]; omega)]
            go_wp2_with fail
            go_ret2
            exact ⟨⟨x, by rw [H4.out]; rfl⟩, rfl⟩
  have H1 : Hid (utfN s = 0) := by show utfN s = _; unfold utfN; rw [hba, if_neg h1, if_neg hl2, if_neg hl3, if_neg hl4]
  clear hba ha
  by_cases g1 : a.toNat < 192
  · clear hl2 hl3 hl4
    go_enter Tryd.func72, Tryd.ntmps72
    go_wp2_with fail
    go_ret2
    exact ⟨⟨0, by rw [H1.out]; rfl⟩, rfl⟩
  · have g2 : 248 ≤ a.toNat := by omega
    clear hl2 hl3 hl4 h1 g1
    go_enter Tryd.func72, Tryd.ntmps72
    go_wp2_with fail
    go_ret2
    exact ⟨⟨0, by rw [H1.out]; rfl⟩, rfl⟩
end Go.Proofs.YtknakfpciccoaaaDoor
