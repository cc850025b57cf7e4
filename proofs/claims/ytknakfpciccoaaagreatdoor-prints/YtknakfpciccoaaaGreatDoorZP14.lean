import Derived.Test.YtknakfpciccoaaaGreatDoorZP4
import Derived.Test.YtknakfpciccoaaaGreatDoorZP3
import Derived.Lib.ValidAsc
import Derived.Lib.IndexBytes
/- The walks of utf and proper. -/
namespace Go.Proofs.YtknakfpciccoaaaGreatDoor
open Go.RowKit

theorem at_bt (s : ByteArray) (k : Nat) (h : k < s.size) : s[k] = s.get! k := by
  cases s with
  | mk d => exact (getElem!_pos d k h).symm

set_option maxHeartbeats 1000000 in
set_option maxRecDepth 100000 in
theorem utf_any (s : ByteArray) (w : World) (h0 : 0 < s.size) (hs : s.size ≤ 9223372036854775807) :
    Calls Tryz.prog 166 #[.string s] w fun e w' => (∃ x : Int, e = .returned (.tuple #[.int .i64 (utfN s), .int .i64 x])) ∧ w' = w := by
  obtain ⟨a, ha⟩ : ∃ a, s.get! 0 = a := ⟨_, rfl⟩
  have hsa : s[0] = a := by rw [at_bt s 0 h0]; exact ha
  have hba : bt s 0 = a.toNat := by unfold bt; rw [ha]
  have la : a.toNat < 256 := a.toNat_lt
  by_cases h1 : a.toNat < 128
  · have H0 : Hid (utfN s = 1) := by show utfN s = 1; unfold utfN; rw [hba, if_pos h1]
    clear hba ha
    go_enter Tryz.func166, Tryz.ntmps166
    go_wp2_with fail
    go_ret2
    exact ⟨⟨_, by rw [H0.out]; rfl⟩, rfl⟩
  by_cases hl2 : 192 ≤ a.toNat ∧ a.toNat < 224
  · have H0 : Hid (utfN s = finN s 2 128 (a.toNat - 192)) := by show utfN s = _; unfold utfN; rw [hba, if_neg h1, if_pos hl2]
    obtain ⟨hc, hd⟩ := hl2
    clear hba ha h1
    have gc : (192 : Int) ≤ (a.toNat : Int) := by omega
    have gd : (a.toNat : Int) < 224 := by omega
    by_cases hn : s.size < 2
    · have H1 : Hid (utfN s = 0) := by show utfN s = _; rw [H0.out]; unfold finN; rw [if_pos hn]
      go_enter Tryz.func166, Tryz.ntmps166
      go_wp2_with fail
      go_ret2
      exact ⟨⟨_, by rw [H1.out]; rfl⟩, rfl⟩
    · have H2 : Hid (utfN s = if contTo s 1 = false then 0 else if badRune 128 (runC s (a.toNat - 192) 1) = true then 0 else 2) := by show utfN s = _; rw [H0.out]; unfold finN; rw [if_neg hn]
      go_enter Tryz.func166, Tryz.ntmps166
      go_wp2_with fail
      go_loopg [7, 8] 2 (fun g y i wr => ∃ (k : Nat) (x : Int), g = 2 - k ∧ k ≤ 1 ∧ y = .int .i64 x ∧ i = .int .i64 (k + 1 : Nat) ∧ Hid (runC s (a.toNat - 192) k = x) ∧ Hid (contTo s k = true) ∧ 0 ≤ x ∧ x ≤ 8388607 ∧ Hid ((k = 0 → x ≤ 31) ∧ (k = 1 → x ≤ 2047) ∧ (k = 2 → x ≤ 131071)) ∧ wr = w)
      case atStart => exact ⟨0, a.toNat - 192, rfl, by omega, rfl, rfl, rfl, rfl, by omega, by omega, ⟨fun _ => by omega, fun h => by omega, fun h => by omega⟩, rfl⟩
      case round =>
        obtain ⟨k, x, rfl, hk, rfl, rfl, HX, HC, x0, x1, HD, rfl⟩ := hrel
        by_cases hlt : k < 1
        · obtain ⟨z, hz⟩ : ∃ z, s.get! (k + 1) = z := ⟨_, rfl⟩
          have hsz : s[k + 1]'(by omega) = z := by rw [at_bt s (k + 1) (by omega)]; exact hz
          have hbz : bt s (k + 1) = z.toNat := by unfold bt; rw [hz]
          have lz : z.toNat < 256 := z.toNat_lt
          have HC1 : Hid (contTo s (k + 1) = (decide (128 ≤ z.toNat) && decide (z.toNat ≤ 191))) := by show (contTo s k && (decide (128 ≤ bt s (k + 1)) && decide (bt s (k + 1) ≤ 191))) = _; rw [HC.out, hbz]; rfl
          have HX1 : Hid (runC s (a.toNat - 192) (k + 1) = 64 * x + z.toNat - 128) := by show 64 * runC s (a.toNat - 192) k + (bt s (k + 1) : Int) - 128 = _; rw [HX.out, hbz]
          clear hz hbz
          have hkz : (k : Int) + 1 < (s.size : Int) := by omega
          by_cases hy : z.toNat < 128
          · have hyd : decide ((z.toNat : Int) < 128) = true := decide_eq_true (by omega)
            have Hy := hid hy
            clear hy
            go_wp2_with fail
            go_ret2
            refine ⟨⟨0, ?_⟩, rfl⟩
            rw [H2.out, if_pos (contTo_false (j := k + 1) (by omega) (by rw [HC1.out]; have := Hy.out; simp; omega))]
            rfl
          · by_cases hy2 : 191 < z.toNat
            · have hyd : decide ((z.toNat : Int) < 128) = false := decide_eq_false (by omega)
              have hyd2 : decide ((191 : Int) < (z.toNat : Int)) = true := decide_eq_true (by omega)
              have Hy := hid hy2
              clear hy hy2
              go_wp2_with fail
              go_ret2
              refine ⟨⟨0, ?_⟩, rfl⟩
              rw [H2.out, if_pos (contTo_false (j := k + 1) (by omega) (by rw [HC1.out]; have := Hy.out; simp; omega))]
              rfl
            · have hyd : decide ((z.toNat : Int) < 128) = false := decide_eq_false (by omega)
              have hyd2 : decide ((191 : Int) < (z.toNat : Int)) = false := decide_eq_false (by omega)
              go_wp2_with fail
              go_roundg (2 - (k + 1))
              case rel =>
                refine ⟨k + 1, 64 * x + z.toNat - 128, rfl, by omega, by go_num, by go_num, HX1, ?_, by omega, ?_, ?_, rfl⟩
                · show contTo s (k + 1) = true
                  rw [HC1.out]
                  simp
                  omega
                · obtain ⟨d0, d1, d2⟩ := HD.out
                  have : k = 0 ∨ k = 1 ∨ k = 2 := by omega
                  rcases this with rfl | rfl | rfl
                  · have := d0 rfl; omega
                  · have := d1 rfl; omega
                  · have := d2 rfl; omega
                · obtain ⟨d0, d1, d2⟩ := HD.out
                  refine ⟨fun h => by omega, fun h => ?_, fun h => ?_⟩
                  · have := d0 (by omega); omega
                  · have := d1 (by omega); omega
              case measure => omega
        · obtain rfl : k = 1 := by omega
          have H3 : Hid (utfN s = if badRune 128 x = true then 0 else 2) := by show utfN s = _; rw [H2.out, HX.out, if_neg (by rw [HC.out]; simp)]
          by_cases b1 : x < 128
          · have H4 : Hid (utfN s = 0) := by show utfN s = _; rw [H3.out, if_pos (by simp [badRune]; omega)]
            go_wp2_with fail
            go_ret2
            exact ⟨⟨0, by rw [H4.out]; rfl⟩, rfl⟩
          by_cases b2 : 1114111 < x
          · have H4 : Hid (utfN s = 0) := by show utfN s = _; rw [H3.out, if_pos (by simp [badRune]; omega)]
            go_wp2_with fail
            go_ret2
            exact ⟨⟨0, by rw [H4.out]; rfl⟩, rfl⟩
          by_cases b3 : 55296 ≤ x
          · by_cases b4 : x < 57344
            · have H4 : Hid (utfN s = 0) := by show utfN s = _; rw [H3.out, if_pos (by simp [badRune]; omega)]
              go_wp2_with fail
              go_ret2
              exact ⟨⟨0, by rw [H4.out]; rfl⟩, rfl⟩
            · have H4 : Hid (utfN s = 2) := by show utfN s = _; rw [H3.out, if_neg (by simp [badRune]; omega)]
              go_wp2_with fail
              go_ret2
              exact ⟨⟨x, by rw [H4.out]; rfl⟩, rfl⟩
          · have H4 : Hid (utfN s = 2) := by show utfN s = _; rw [H3.out, if_neg (by simp [badRune]; omega)]
            go_wp2_with fail
            go_ret2
            exact ⟨⟨x, by rw [H4.out]; rfl⟩, rfl⟩
  by_cases hl3 : 224 ≤ a.toNat ∧ a.toNat < 240
  · have H0 : Hid (utfN s = finN s 3 2048 (a.toNat - 224)) := by show utfN s = _; unfold utfN; rw [hba, if_neg h1, if_neg hl2, if_pos hl3]
    obtain ⟨hc, hd⟩ := hl3
    clear hba ha h1 hl2
    have gc : (224 : Int) ≤ (a.toNat : Int) := by omega
    have gd : (a.toNat : Int) < 240 := by omega
    by_cases hn : s.size < 3
    · have H1 : Hid (utfN s = 0) := by show utfN s = _; rw [H0.out]; unfold finN; rw [if_pos hn]
      go_enter Tryz.func166, Tryz.ntmps166
      go_wp2_with fail
      go_ret2
      exact ⟨⟨_, by rw [H1.out]; rfl⟩, rfl⟩
    · have H2 : Hid (utfN s = if contTo s 2 = false then 0 else if badRune 2048 (runC s (a.toNat - 224) 2) = true then 0 else 3) := by show utfN s = _; rw [H0.out]; unfold finN; rw [if_neg hn]
      go_enter Tryz.func166, Tryz.ntmps166
      go_wp2_with fail
      go_loopg [7, 8] 3 (fun g y i wr => ∃ (k : Nat) (x : Int), g = 3 - k ∧ k ≤ 2 ∧ y = .int .i64 x ∧ i = .int .i64 (k + 1 : Nat) ∧ Hid (runC s (a.toNat - 224) k = x) ∧ Hid (contTo s k = true) ∧ 0 ≤ x ∧ x ≤ 8388607 ∧ Hid ((k = 0 → x ≤ 31) ∧ (k = 1 → x ≤ 2047) ∧ (k = 2 → x ≤ 131071)) ∧ wr = w)
      case atStart => exact ⟨0, a.toNat - 224, rfl, by omega, rfl, rfl, rfl, rfl, by omega, by omega, ⟨fun _ => by omega, fun h => by omega, fun h => by omega⟩, rfl⟩
      case round =>
        obtain ⟨k, x, rfl, hk, rfl, rfl, HX, HC, x0, x1, HD, rfl⟩ := hrel
        by_cases hlt : k < 2
        · obtain ⟨z, hz⟩ : ∃ z, s.get! (k + 1) = z := ⟨_, rfl⟩
          have hsz : s[k + 1]'(by omega) = z := by rw [at_bt s (k + 1) (by omega)]; exact hz
          have hbz : bt s (k + 1) = z.toNat := by unfold bt; rw [hz]
          have lz : z.toNat < 256 := z.toNat_lt
          have HC1 : Hid (contTo s (k + 1) = (decide (128 ≤ z.toNat) && decide (z.toNat ≤ 191))) := by show (contTo s k && (decide (128 ≤ bt s (k + 1)) && decide (bt s (k + 1) ≤ 191))) = _; rw [HC.out, hbz]; rfl
          have HX1 : Hid (runC s (a.toNat - 224) (k + 1) = 64 * x + z.toNat - 128) := by show 64 * runC s (a.toNat - 224) k + (bt s (k + 1) : Int) - 128 = _; rw [HX.out, hbz]
          clear hz hbz
          have hkz : (k : Int) + 1 < (s.size : Int) := by omega
          by_cases hy : z.toNat < 128
          · have hyd : decide ((z.toNat : Int) < 128) = true := decide_eq_true (by omega)
            have Hy := hid hy
            clear hy
            go_wp2_with fail
            go_ret2
            refine ⟨⟨0, ?_⟩, rfl⟩
            rw [H2.out, if_pos (contTo_false (j := k + 1) (by omega) (by rw [HC1.out]; have := Hy.out; simp; omega))]
            rfl
          · by_cases hy2 : 191 < z.toNat
            · have hyd : decide ((z.toNat : Int) < 128) = false := decide_eq_false (by omega)
              have hyd2 : decide ((191 : Int) < (z.toNat : Int)) = true := decide_eq_true (by omega)
              have Hy := hid hy2
              clear hy hy2
              go_wp2_with fail
              go_ret2
              refine ⟨⟨0, ?_⟩, rfl⟩
              rw [H2.out, if_pos (contTo_false (j := k + 1) (by omega) (by rw [HC1.out]; have := Hy.out; simp; omega))]
              rfl
            · have hyd : decide ((z.toNat : Int) < 128) = false := decide_eq_false (by omega)
              have hyd2 : decide ((191 : Int) < (z.toNat : Int)) = false := decide_eq_false (by omega)
              go_wp2_with fail
              go_roundg (3 - (k + 1))
              case rel =>
                refine ⟨k + 1, 64 * x + z.toNat - 128, rfl, by omega, by go_num, by go_num, HX1, ?_, by omega, ?_, ?_, rfl⟩
                · show contTo s (k + 1) = true
                  rw [HC1.out]
                  simp
                  omega
                · obtain ⟨d0, d1, d2⟩ := HD.out
                  have : k = 0 ∨ k = 1 ∨ k = 2 := by omega
                  rcases this with rfl | rfl | rfl
                  · have := d0 rfl; omega
                  · have := d1 rfl; omega
                  · have := d2 rfl; omega
                · obtain ⟨d0, d1, d2⟩ := HD.out
                  refine ⟨fun h => by omega, fun h => ?_, fun h => ?_⟩
                  · have := d0 (by omega); omega
                  · have := d1 (by omega); omega
              case measure => omega
        · obtain rfl : k = 2 := by omega
          have H3 : Hid (utfN s = if badRune 2048 x = true then 0 else 3) := by show utfN s = _; rw [H2.out, HX.out, if_neg (by rw [HC.out]; simp)]
          by_cases b1 : x < 2048
          · have H4 : Hid (utfN s = 0) := by show utfN s = _; rw [H3.out, if_pos (by simp [badRune]; omega)]
            go_wp2_with fail
            go_ret2
            exact ⟨⟨0, by rw [H4.out]; rfl⟩, rfl⟩
          by_cases b2 : 1114111 < x
          · have H4 : Hid (utfN s = 0) := by show utfN s = _; rw [H3.out, if_pos (by simp [badRune]; omega)]
            go_wp2_with fail
            go_ret2
            exact ⟨⟨0, by rw [H4.out]; rfl⟩, rfl⟩
          by_cases b3 : 55296 ≤ x
          · by_cases b4 : x < 57344
            · have H4 : Hid (utfN s = 0) := by show utfN s = _; rw [H3.out, if_pos (by simp [badRune]; omega)]
              go_wp2_with fail
              go_ret2
              exact ⟨⟨0, by rw [H4.out]; rfl⟩, rfl⟩
            · have H4 : Hid (utfN s = 3) := by show utfN s = _; rw [H3.out, if_neg (by simp [badRune]; omega)]
              go_wp2_with fail
              go_ret2
              exact ⟨⟨x, by rw [H4.out]; rfl⟩, rfl⟩
          · have H4 : Hid (utfN s = 3) := by show utfN s = _; rw [H3.out, if_neg (by simp [badRune]; omega)]
            go_wp2_with fail
            go_ret2
            exact ⟨⟨x, by rw [H4.out]; rfl⟩, rfl⟩
  by_cases hl4 : 240 ≤ a.toNat ∧ a.toNat < 248
  · have H0 : Hid (utfN s = finN s 4 65536 (a.toNat - 240)) := by show utfN s = _; unfold utfN; rw [hba, if_neg h1, if_neg hl2, if_neg hl3, if_pos hl4]
    obtain ⟨hc, hd⟩ := hl4
    clear hba ha h1 hl2 hl3
    have gc : (240 : Int) ≤ (a.toNat : Int) := by omega
    have gd : (a.toNat : Int) < 248 := by omega
    by_cases hn : s.size < 4
    · have H1 : Hid (utfN s = 0) := by show utfN s = _; rw [H0.out]; unfold finN; rw [if_pos hn]
      go_enter Tryz.func166, Tryz.ntmps166
      go_wp2_with fail
      go_ret2
      exact ⟨⟨_, by rw [H1.out]; rfl⟩, rfl⟩
    · have H2 : Hid (utfN s = if contTo s 3 = false then 0 else if badRune 65536 (runC s (a.toNat - 240) 3) = true then 0 else 4) := by show utfN s = _; rw [H0.out]; unfold finN; rw [if_neg hn]
      go_enter Tryz.func166, Tryz.ntmps166
      go_wp2_with fail
      go_loopg [7, 8] 4 (fun g y i wr => ∃ (k : Nat) (x : Int), g = 4 - k ∧ k ≤ 3 ∧ y = .int .i64 x ∧ i = .int .i64 (k + 1 : Nat) ∧ Hid (runC s (a.toNat - 240) k = x) ∧ Hid (contTo s k = true) ∧ 0 ≤ x ∧ x ≤ 8388607 ∧ Hid ((k = 0 → x ≤ 31) ∧ (k = 1 → x ≤ 2047) ∧ (k = 2 → x ≤ 131071)) ∧ wr = w)
      case atStart => exact ⟨0, a.toNat - 240, rfl, by omega, rfl, rfl, rfl, rfl, by omega, by omega, ⟨fun _ => by omega, fun h => by omega, fun h => by omega⟩, rfl⟩
      case round =>
        obtain ⟨k, x, rfl, hk, rfl, rfl, HX, HC, x0, x1, HD, rfl⟩ := hrel
        by_cases hlt : k < 3
        · obtain ⟨z, hz⟩ : ∃ z, s.get! (k + 1) = z := ⟨_, rfl⟩
          have hsz : s[k + 1]'(by omega) = z := by rw [at_bt s (k + 1) (by omega)]; exact hz
          have hbz : bt s (k + 1) = z.toNat := by unfold bt; rw [hz]
          have lz : z.toNat < 256 := z.toNat_lt
          have HC1 : Hid (contTo s (k + 1) = (decide (128 ≤ z.toNat) && decide (z.toNat ≤ 191))) := by show (contTo s k && (decide (128 ≤ bt s (k + 1)) && decide (bt s (k + 1) ≤ 191))) = _; rw [HC.out, hbz]; rfl
          have HX1 : Hid (runC s (a.toNat - 240) (k + 1) = 64 * x + z.toNat - 128) := by show 64 * runC s (a.toNat - 240) k + (bt s (k + 1) : Int) - 128 = _; rw [HX.out, hbz]
          clear hz hbz
          have hkz : (k : Int) + 1 < (s.size : Int) := by omega
          by_cases hy : z.toNat < 128
          · have hyd : decide ((z.toNat : Int) < 128) = true := decide_eq_true (by omega)
            have Hy := hid hy
            clear hy
            go_wp2_with fail
            go_ret2
            refine ⟨⟨0, ?_⟩, rfl⟩
            rw [H2.out, if_pos (contTo_false (j := k + 1) (by omega) (by rw [HC1.out]; have := Hy.out; simp; omega))]
            rfl
          · by_cases hy2 : 191 < z.toNat
            · have hyd : decide ((z.toNat : Int) < 128) = false := decide_eq_false (by omega)
              have hyd2 : decide ((191 : Int) < (z.toNat : Int)) = true := decide_eq_true (by omega)
              have Hy := hid hy2
              clear hy hy2
              go_wp2_with fail
              go_ret2
              refine ⟨⟨0, ?_⟩, rfl⟩
              rw [H2.out, if_pos (contTo_false (j := k + 1) (by omega) (by rw [HC1.out]; have := Hy.out; simp; omega))]
              rfl
            · have hyd : decide ((z.toNat : Int) < 128) = false := decide_eq_false (by omega)
              have hyd2 : decide ((191 : Int) < (z.toNat : Int)) = false := decide_eq_false (by omega)
              go_wp2_with fail
              go_roundg (4 - (k + 1))
              case rel =>
                refine ⟨k + 1, 64 * x + z.toNat - 128, rfl, by omega, by go_num, by go_num, HX1, ?_, by omega, ?_, ?_, rfl⟩
                · show contTo s (k + 1) = true
                  rw [HC1.out]
                  simp
                  omega
                · obtain ⟨d0, d1, d2⟩ := HD.out
                  have : k = 0 ∨ k = 1 ∨ k = 2 := by omega
                  rcases this with rfl | rfl | rfl
                  · have := d0 rfl; omega
                  · have := d1 rfl; omega
                  · have := d2 rfl; omega
                · obtain ⟨d0, d1, d2⟩ := HD.out
                  refine ⟨fun h => by omega, fun h => ?_, fun h => ?_⟩
                  · have := d0 (by omega); omega
                  · have := d1 (by omega); omega
              case measure => omega
        · obtain rfl : k = 3 := by omega
          have H3 : Hid (utfN s = if badRune 65536 x = true then 0 else 4) := by show utfN s = _; rw [H2.out, HX.out, if_neg (by rw [HC.out]; simp)]
          by_cases b1 : x < 65536
          · have H4 : Hid (utfN s = 0) := by show utfN s = _; rw [H3.out, if_pos (by simp [badRune]; omega)]
            go_wp2_with fail
            go_ret2
            exact ⟨⟨0, by rw [H4.out]; rfl⟩, rfl⟩
          by_cases b2 : 1114111 < x
          · have H4 : Hid (utfN s = 0) := by show utfN s = _; rw [H3.out, if_pos (by simp [badRune]; omega)]
            go_wp2_with fail
            go_ret2
            exact ⟨⟨0, by rw [H4.out]; rfl⟩, rfl⟩
          by_cases b3 : 55296 ≤ x
          · by_cases b4 : x < 57344
            · have H4 : Hid (utfN s = 0) := by show utfN s = _; rw [H3.out, if_pos (by simp [badRune]; omega)]
              go_wp2_with fail
              go_ret2
              exact ⟨⟨0, by rw [H4.out]; rfl⟩, rfl⟩
            · have H4 : Hid (utfN s = 4) := by show utfN s = _; rw [H3.out, if_neg (by simp [badRune]; omega)]
              go_wp2_with fail
              go_ret2
              exact ⟨⟨x, by rw [H4.out]; rfl⟩, rfl⟩
          · have H4 : Hid (utfN s = 4) := by show utfN s = _; rw [H3.out, if_neg (by simp [badRune]; omega)]
            go_wp2_with fail
            go_ret2
            exact ⟨⟨x, by rw [H4.out]; rfl⟩, rfl⟩
  have H1 : Hid (utfN s = 0) := by show utfN s = _; unfold utfN; rw [hba, if_neg h1, if_neg hl2, if_neg hl3, if_neg hl4]
  clear hba ha
  by_cases g1 : a.toNat < 192
  · clear hl2 hl3 hl4
    go_enter Tryz.func166, Tryz.ntmps166
    go_wp2_with fail
    go_ret2
    exact ⟨⟨0, by rw [H1.out]; rfl⟩, rfl⟩
  · have g2 : 248 ≤ a.toNat := by omega
    clear hl2 hl3 hl4 h1 g1
    go_enter Tryz.func166, Tryz.ntmps166
    go_wp2_with fail
    go_ret2
    exact ⟨⟨0, by rw [H1.out]; rfl⟩, rfl⟩
end Go.Proofs.YtknakfpciccoaaaGreatDoor
/- The walk of proper. -/
namespace Go.Proofs.YtknakfpciccoaaaGreatDoor
open Go.RowKit

theorem finN_le (s : ByteArray) (n : Nat) (a b : Int) : finN s n a b ≤ s.size := by
  unfold finN
  split
  · omega
  · split
    · omega
    · split <;> omega
theorem utfN_le (s : ByteArray) (h : 0 < s.size) : utfN s ≤ s.size := by
  unfold utfN
  split
  · omega
  · split
    · exact finN_le _ _ _ _
    · split
      · exact finN_le _ _ _ _
      · split
        · exact finN_le _ _ _ _
        · omega
theorem proper_step (s : ByteArray) (k : Nat) (h : k < s.size) : Lib.validD (s.data.toList.drop k) = if utfN (s.extract k s.size) = 0 then false else Lib.validD (s.data.toList.drop (k + utfN (s.extract k s.size))) := by
  have hl : s.data.toList.length = s.size := rfl
  have hne : s.data.toList.drop k ≠ [] := by
    intro e
    have := congrArg List.length e
    rw [List.length_drop] at this
    simp only [List.length_nil] at this
    omega
  have he : (s.extract k s.size).data.toList = s.data.toList.drop k := Lib.extract_to_end s k
  have hd : Lib.decodeL (s.data.toList.drop k) = Utf8.decode (s.extract k s.size) 0 := by rw [← he]; exact decodeL_eq _
  rw [Lib.validD_step _ hne, hd, utfN_decode]
  have hw := Lib.decodeL_width (s.data.toList.drop k)
  rw [hd] at hw
  by_cases hb : (Utf8.decode (s.extract k s.size) 0).1 = 65533 ∧ (Utf8.decode (s.extract k s.size) 0).2 = 1
  · rw [if_pos hb, if_pos hb, if_pos rfl]
  · rw [if_neg hb, if_neg hb, if_neg (by omega), List.drop_drop]

set_option maxHeartbeats 1000000 in
set_option maxRecDepth 100000 in
theorem proper_any (s : ByteArray) (w : World) (hs : s.size ≤ 140737488355328) :
    Calls Tryz.prog 130 #[.string s] w fun e w' => e = .returned (.bool (okS s)) ∧ w' = w := by
  go_enter Tryz.func130, Tryz.ntmps130
  go_wp2_with fail
  go_loopg [3] s.size (fun g i wr => ∃ k : Nat, g = s.size - k ∧ k ≤ s.size ∧ i = .int .i64 k ∧ Hid (Lib.validD (s.data.toList.drop k) = okS s) ∧ wr = w)
  case atStart => exact ⟨0, rfl, Nat.zero_le _, rfl, rfl, rfl⟩
  case round =>
    obtain ⟨k, rfl, hk, rfl, HV, rfl⟩ := hrel
    by_cases hlt : k < s.size
    · have Hst := hid (proper_step s k hlt)
      have hsz : (s.extract k s.size).size = s.size - k := Lib.ext_size s k
      have Hle := hid (utfN_le (s.extract k s.size) (by omega))
      have Hsz := hid hsz
      clear hsz
      go_wp2_with fail
      refine (utf_any (s.extract k s.size) _ (by rw [Hsz.out]; omega) (by rw [Hsz.out]; omega)).mono ?_
      rintro e w2 ⟨⟨x, rfl⟩, rfl⟩
      have hle : utfN (s.extract k s.size) ≤ s.size - k := by have := Hle.out; rw [Hsz.out] at this; exact this
      generalize hn : utfN (s.extract k s.size) = n at hle ⊢
      have Hst2 : Hid (okS s = if n = 0 then false else Lib.validD (s.data.toList.drop (k + n))) := by show okS s = _; rw [← HV.out, Hst.out, hn]
      clear hn Hst Hle
      by_cases h0 : n = 0
      · subst h0
        go_wp2_with fail
        go_ret
        exact ⟨ret_bool (by rw [Hst2.out]; rfl), rfl⟩
      · have hz : ((n : Int) == 0) = false := by simp; omega
        go_wp2_with fail
        go_roundg (s.size - (k + n))
        case rel => exact ⟨k + n, rfl, by omega, by go_num, by show _ = _; rw [Hst2.out, if_neg h0], rfl⟩
        case measure => omega
    · obtain rfl : k = s.size := by omega
      go_wp2_with fail
      go_ret
      refine ⟨ret_bool ?_, rfl⟩
      rw [← HV.out, List.drop_of_length_le (show s.data.toList.length ≤ s.size from Nat.le_refl _)]
      rfl
end Go.Proofs.YtknakfpciccoaaaGreatDoor
/- The walk of form, kind by kind. -/
namespace Go.Proofs.YtknakfpciccoaaaGreatDoor
open Go.RowKit

def FormSaid (m : Nat) : Prop := ∀ (f : Nat) (v : Value) (t : T) (w : World), At w f v t → m ≤ 100 →
    Calls Tryz.prog 82 #[v, .int .i64 ((m : Int) - 1)] w fun e w' => e = .returned (.bool (formT m t)) ∧ Below w.heap.size w w'

set_option maxHeartbeats 1000000 in
set_option maxRecDepth 100000 in
theorem form_k1 (m : Nat) (_ih : FormSaid m) (f : Nat) (v : Value) (t : T) (w : World) (h : At w f v t) (hm : m + 1 ≤ 100) (hk0 : kindOf t = 1) :
    Calls Tryz.prog 82 #[v, .int .i64 (((m + 1 : Nat) : Int) - 1)] w fun e w' => e = .returned (.bool (formT (m + 1) t)) ∧ Below w.heap.size w w' := by
  obtain ⟨f, La, Ka, Lc, Kc, rfl, rfl, hf, hl, hk⟩ := h.open
  have hlen := hf.l1
  have klen := hf.m1
  have slen := hf.s1
  clear h hf
  have em : (((m + 1 : Nat) : Int) - 1) = (m : Int) := by omega
  rw [em]
  have e0 : ¬ ((m : Int) < 0) := by omega
  have K0 := hid hk0
  have g1 : (kindOf t == 1) = true := by rw [hk0]; rfl
  have n1 : (kindOf t != 1) = false := by rw [hk0]; rfl
  have g2 : (kindOf t == 2) = false := by rw [hk0]; rfl
  have n2 : (kindOf t != 2) = true := by rw [hk0]; rfl
  have g3 : (kindOf t == 3) = false := by rw [hk0]; rfl
  have n3 : (kindOf t != 3) = true := by rw [hk0]; rfl
  have g4 : (kindOf t == 4) = false := by rw [hk0]; rfl
  have n4 : (kindOf t != 4) = true := by rw [hk0]; rfl
  have g5 : (kindOf t == 5) = false := by rw [hk0]; rfl
  have n5 : (kindOf t != 5) = true := by rw [hk0]; rfl
  have g6 : (kindOf t == 6) = false := by rw [hk0]; rfl
  have n6 : (kindOf t != 6) = true := by rw [hk0]; rfl
  clear hk0
  by_cases ca : nOf t = 0
  · have ea : (nOf t != 0) = false := by simp [ca]
    by_cases cb : noText t = true
    · have eb : (sOf t).toList.isEmpty = true := cb
      by_cases cc : nK t = 0
      · have ec : nK t = 0 := cc
        by_cases cd : nL t = 0
        · have ed : nL t = 0 := cd
          have Ca := hid ca
          have Cb := hid cb
          have Cc := hid cc
          have Cd := hid cd
          clear ca cb cc cd
          have HF : Hid (formT (m + 1) t = allL (formT m) t (nL t)) := by show formT (m + 1) t = _; simp only [formT]; rw [show headF t = true from by simp [headF, K0.out, Ca.out, Cb.out, Cc.out, Cd.out], show kindF t = true from by simp [kindF, K0.out]]; rfl
          go_enter Tryz.func82, Tryz.ntmps82
          go_wp2_with fail
          go_loopg [8] 1 (fun g i wr => i = .int .i64 0 ∧ wr = w.alloc (.cells #[.int .i64 (kindOf t), .int .i64 (nOf t), .string (sOf t), .slice La 0 Lc, .slice Ka 0 Kc] 25))
          case atStart => exact ⟨rfl, rfl⟩
          case round =>
            obtain ⟨rfl, rfl⟩ := hrel
            go_wp2_with fail
            go_ret
            exact ⟨ret_bool (by rw [HF.out, Cd.out]; rfl), (Below.refl _ _).alloc (Nat.le_refl _) _⟩
        · have ed : (0 : Int) < (nL t : Int) := by omega
          have HF : Hid (formT (m + 1) t = false) := formT_head (by simp [headF, K0.out, cd])
          go_enter Tryz.func82, Tryz.ntmps82
          go_wp2_with fail
          go_ret
          exact ⟨ret_bool HF.out.symm, (Below.refl _ _).alloc (Nat.le_refl _) _⟩
      · have ec : (0 : Int) < (nK t : Int) := by omega
        have HF : Hid (formT (m + 1) t = false) := formT_head (by simp [headF, K0.out, cc])
        go_enter Tryz.func82, Tryz.ntmps82
        go_wp2_with fail
        go_ret
        exact ⟨ret_bool HF.out.symm, (Below.refl _ _).alloc (Nat.le_refl _) _⟩
    · have eb : (sOf t).toList.isEmpty = false := by simpa [noText] using cb
      have HF : Hid (formT (m + 1) t = false) := formT_head (by simp [headF, K0.out, cb])
      go_enter Tryz.func82, Tryz.ntmps82
      go_wp2_with fail
      go_ret
      exact ⟨ret_bool HF.out.symm, (Below.refl _ _).alloc (Nat.le_refl _) _⟩
  · have ea : (nOf t != 0) = true := by simpa using ca
    have HF : Hid (formT (m + 1) t = false) := formT_head (by simp [headF, K0.out, ca])
    go_enter Tryz.func82, Tryz.ntmps82
    go_wp2_with fail
    go_ret
    exact ⟨ret_bool HF.out.symm, (Below.refl _ _).alloc (Nat.le_refl _) _⟩

set_option maxHeartbeats 1000000 in
set_option maxRecDepth 100000 in
theorem form_k2 (m : Nat) (_ih : FormSaid m) (f : Nat) (v : Value) (t : T) (w : World) (h : At w f v t) (hm : m + 1 ≤ 100) (hk0 : kindOf t = 2) :
    Calls Tryz.prog 82 #[v, .int .i64 (((m + 1 : Nat) : Int) - 1)] w fun e w' => e = .returned (.bool (formT (m + 1) t)) ∧ Below w.heap.size w w' := by
  obtain ⟨f, La, Ka, Lc, Kc, rfl, rfl, hf, hl, hk⟩ := h.open
  have hlen := hf.l1
  have klen := hf.m1
  have slen := hf.s1
  clear h hf
  have em : (((m + 1 : Nat) : Int) - 1) = (m : Int) := by omega
  rw [em]
  have e0 : ¬ ((m : Int) < 0) := by omega
  have K0 := hid hk0
  have g1 : (kindOf t == 1) = false := by rw [hk0]; rfl
  have n1 : (kindOf t != 1) = true := by rw [hk0]; rfl
  have g2 : (kindOf t == 2) = true := by rw [hk0]; rfl
  have n2 : (kindOf t != 2) = false := by rw [hk0]; rfl
  have g3 : (kindOf t == 3) = false := by rw [hk0]; rfl
  have n3 : (kindOf t != 3) = true := by rw [hk0]; rfl
  have g4 : (kindOf t == 4) = false := by rw [hk0]; rfl
  have n4 : (kindOf t != 4) = true := by rw [hk0]; rfl
  have g5 : (kindOf t == 5) = false := by rw [hk0]; rfl
  have n5 : (kindOf t != 5) = true := by rw [hk0]; rfl
  have g6 : (kindOf t == 6) = false := by rw [hk0]; rfl
  have n6 : (kindOf t != 6) = true := by rw [hk0]; rfl
  clear hk0
  by_cases cb : noText t = true
  · have eb : (sOf t).toList.isEmpty = true := cb
    by_cases cc : nK t = 0
    · have ec : nK t = 0 := cc
      by_cases cd : nL t = 0
      · have ed : nL t = 0 := cd
        have Cb := hid cb
        have Cc := hid cc
        have Cd := hid cd
        clear cb cc cd
        by_cases cn : nOf t = 0 ∨ nOf t = 1
        · have en : (nOf t != 0) = false ∨ (nOf t != 0) = true ∧ (nOf t != 1) = false := by rcases cn with h | h <;> simp [h]
          have HF : Hid (formT (m + 1) t = allL (formT m) t (nL t)) := by show formT (m + 1) t = _; simp only [formT]; rw [show headF t = true from by simp [headF, K0.out, Cb.out, Cc.out, Cd.out], show kindF t = true from by simp [kindF, K0.out, cn]]; rfl
          clear cn
          rcases en with en | ⟨en, en1⟩
          all_goals
            go_enter Tryz.func82, Tryz.ntmps82
            go_wp2_with fail
            go_loopg [8] 1 (fun g i wr => i = .int .i64 0 ∧ wr = w.alloc (.cells #[.int .i64 (kindOf t), .int .i64 (nOf t), .string (sOf t), .slice La 0 Lc, .slice Ka 0 Kc] 25))
            case atStart => exact ⟨rfl, rfl⟩
            case round =>
              obtain ⟨rfl, rfl⟩ := hrel
              go_wp2_with fail
              go_ret
              exact ⟨ret_bool (by rw [HF.out, Cd.out]; rfl), (Below.refl _ _).alloc (Nat.le_refl _) _⟩
        · have en : (nOf t != 0) = true := by simp; omega
          have en1 : (nOf t != 1) = true := by simp; omega
          have HF : Hid (formT (m + 1) t = false) := formT_kind (by simp [kindF, K0.out]; omega)
          clear cn
          go_enter Tryz.func82, Tryz.ntmps82
          go_wp2_with fail
          go_ret
          exact ⟨ret_bool HF.out.symm, (Below.refl _ _).alloc (Nat.le_refl _) _⟩
      · have ed : (0 : Int) < (nL t : Int) := by omega
        have HF : Hid (formT (m + 1) t = false) := formT_head (by simp [headF, K0.out, cd])
        go_enter Tryz.func82, Tryz.ntmps82
        go_wp2_with fail
        go_ret
        exact ⟨ret_bool HF.out.symm, (Below.refl _ _).alloc (Nat.le_refl _) _⟩
    · have ec : (0 : Int) < (nK t : Int) := by omega
      have HF : Hid (formT (m + 1) t = false) := formT_head (by simp [headF, K0.out, cc])
      go_enter Tryz.func82, Tryz.ntmps82
      go_wp2_with fail
      go_ret
      exact ⟨ret_bool HF.out.symm, (Below.refl _ _).alloc (Nat.le_refl _) _⟩
  · have eb : (sOf t).toList.isEmpty = false := by simpa [noText] using cb
    have HF : Hid (formT (m + 1) t = false) := formT_head (by simp [headF, K0.out, cb])
    go_enter Tryz.func82, Tryz.ntmps82
    go_wp2_with fail
    go_ret
    exact ⟨ret_bool HF.out.symm, (Below.refl _ _).alloc (Nat.le_refl _) _⟩

set_option maxHeartbeats 1000000 in
set_option maxRecDepth 100000 in
theorem form_k3 (m : Nat) (_ih : FormSaid m) (f : Nat) (v : Value) (t : T) (w : World) (h : At w f v t) (hm : m + 1 ≤ 100) (hk0 : kindOf t = 3) :
    Calls Tryz.prog 82 #[v, .int .i64 (((m + 1 : Nat) : Int) - 1)] w fun e w' => e = .returned (.bool (formT (m + 1) t)) ∧ Below w.heap.size w w' := by
  obtain ⟨f, La, Ka, Lc, Kc, rfl, rfl, hf, hl, hk⟩ := h.open
  have hlen := hf.l1
  have klen := hf.m1
  have slen := hf.s1
  clear h hf
  have em : (((m + 1 : Nat) : Int) - 1) = (m : Int) := by omega
  rw [em]
  have e0 : ¬ ((m : Int) < 0) := by omega
  have K0 := hid hk0
  have g1 : (kindOf t == 1) = false := by rw [hk0]; rfl
  have n1 : (kindOf t != 1) = true := by rw [hk0]; rfl
  have g2 : (kindOf t == 2) = false := by rw [hk0]; rfl
  have n2 : (kindOf t != 2) = true := by rw [hk0]; rfl
  have g3 : (kindOf t == 3) = true := by rw [hk0]; rfl
  have n3 : (kindOf t != 3) = false := by rw [hk0]; rfl
  have g4 : (kindOf t == 4) = false := by rw [hk0]; rfl
  have n4 : (kindOf t != 4) = true := by rw [hk0]; rfl
  have g5 : (kindOf t == 5) = false := by rw [hk0]; rfl
  have n5 : (kindOf t != 5) = true := by rw [hk0]; rfl
  have g6 : (kindOf t == 6) = false := by rw [hk0]; rfl
  have n6 : (kindOf t != 6) = true := by rw [hk0]; rfl
  clear hk0
  by_cases cb : noText t = true
  · have eb : (sOf t).toList.isEmpty = true := cb
    by_cases cc : nK t = 0
    · have ec : nK t = 0 := cc
      by_cases cd : nL t = 0
      · have ed : nL t = 0 := cd
        have Cb := hid cb
        have Cc := hid cc
        have Cd := hid cd
        clear cb cc cd
        have HF : Hid (formT (m + 1) t = allL (formT m) t (nL t)) := by show formT (m + 1) t = _; simp only [formT]; rw [show headF t = true from by simp [headF, K0.out, Cb.out, Cc.out, Cd.out], show kindF t = true from by simp [kindF, K0.out]]; rfl
        go_enter Tryz.func82, Tryz.ntmps82
        go_wp2_with fail
        go_loopg [8] 1 (fun g i wr => i = .int .i64 0 ∧ wr = w.alloc (.cells #[.int .i64 (kindOf t), .int .i64 (nOf t), .string (sOf t), .slice La 0 Lc, .slice Ka 0 Kc] 25))
        case atStart => exact ⟨rfl, rfl⟩
        case round =>
          obtain ⟨rfl, rfl⟩ := hrel
          go_wp2_with fail
          go_ret
          exact ⟨ret_bool (by rw [HF.out, Cd.out]; rfl), (Below.refl _ _).alloc (Nat.le_refl _) _⟩
      · have ed : (0 : Int) < (nL t : Int) := by omega
        have HF : Hid (formT (m + 1) t = false) := formT_head (by simp [headF, K0.out, cd])
        go_enter Tryz.func82, Tryz.ntmps82
        go_wp2_with fail
        go_ret
        exact ⟨ret_bool HF.out.symm, (Below.refl _ _).alloc (Nat.le_refl _) _⟩
    · have ec : (0 : Int) < (nK t : Int) := by omega
      have HF : Hid (formT (m + 1) t = false) := formT_head (by simp [headF, K0.out, cc])
      go_enter Tryz.func82, Tryz.ntmps82
      go_wp2_with fail
      go_ret
      exact ⟨ret_bool HF.out.symm, (Below.refl _ _).alloc (Nat.le_refl _) _⟩
  · have eb : (sOf t).toList.isEmpty = false := by simpa [noText] using cb
    have HF : Hid (formT (m + 1) t = false) := formT_head (by simp [headF, K0.out, cb])
    go_enter Tryz.func82, Tryz.ntmps82
    go_wp2_with fail
    go_ret
    exact ⟨ret_bool HF.out.symm, (Below.refl _ _).alloc (Nat.le_refl _) _⟩

set_option maxHeartbeats 1000000 in
set_option maxRecDepth 100000 in
theorem form_k0 (m : Nat) (_ih : FormSaid m) (f : Nat) (v : Value) (t : T) (w : World) (h : At w f v t) (hm : m + 1 ≤ 100) (hk0 : kindOf t ≠ 1 ∧ kindOf t ≠ 2 ∧ kindOf t ≠ 3 ∧ kindOf t ≠ 4 ∧ kindOf t ≠ 5 ∧ kindOf t ≠ 6) :
    Calls Tryz.prog 82 #[v, .int .i64 (((m + 1 : Nat) : Int) - 1)] w fun e w' => e = .returned (.bool (formT (m + 1) t)) ∧ Below w.heap.size w w' := by
  obtain ⟨f, La, Ka, Lc, Kc, rfl, rfl, hf, hl, hk⟩ := h.open
  have hlen := hf.l1
  have klen := hf.m1
  have slen := hf.s1
  clear h hf
  have em : (((m + 1 : Nat) : Int) - 1) = (m : Int) := by omega
  rw [em]
  have e0 : ¬ ((m : Int) < 0) := by omega
  obtain ⟨h1, h2, h3, h4, h5, h6⟩ := hk0
  have g1 : (kindOf t == 1) = false := by simpa using h1
  have n1 : (kindOf t != 1) = true := by simpa using h1
  have g2 : (kindOf t == 2) = false := by simpa using h2
  have n2 : (kindOf t != 2) = true := by simpa using h2
  have g3 : (kindOf t == 3) = false := by simpa using h3
  have n3 : (kindOf t != 3) = true := by simpa using h3
  have g4 : (kindOf t == 4) = false := by simpa using h4
  have n4 : (kindOf t != 4) = true := by simpa using h4
  have g5 : (kindOf t == 5) = false := by simpa using h5
  have n5 : (kindOf t != 5) = true := by simpa using h5
  have g6 : (kindOf t == 6) = false := by simpa using h6
  have n6 : (kindOf t != 6) = true := by simpa using h6
  by_cases ca : nOf t = 0
  · have ea : (nOf t != 0) = false := by simp [ca]
    by_cases cb : noText t = true
    · have eb : (sOf t).toList.isEmpty = true := cb
      by_cases cc : nK t = 0
      · have ec : nK t = 0 := cc
        by_cases cd : nL t = 0
        · have ed : nL t = 0 := cd
          have Ca := hid ca
          have Cb := hid cb
          have Cc := hid cc
          have Cd := hid cd
          clear ca cb cc cd
          have HF : Hid (formT (m + 1) t = false) := formT_kind (by simp [kindF, h1, h2, h3, h4, h5, h6])
          go_enter Tryz.func82, Tryz.ntmps82
          go_wp2_with fail
          go_ret
          exact ⟨ret_bool HF.out.symm, (Below.refl _ _).alloc (Nat.le_refl _) _⟩
        · have ed : (0 : Int) < (nL t : Int) := by omega
          have HF : Hid (formT (m + 1) t = false) := formT_head (by simp [headF, h2, h3, h4, h5, h6, cd])
          go_enter Tryz.func82, Tryz.ntmps82
          go_wp2_with fail
          go_ret
          exact ⟨ret_bool HF.out.symm, (Below.refl _ _).alloc (Nat.le_refl _) _⟩
      · have ec : (0 : Int) < (nK t : Int) := by omega
        have HF : Hid (formT (m + 1) t = false) := formT_head (by simp [headF, h2, h3, h4, h5, h6, cc])
        go_enter Tryz.func82, Tryz.ntmps82
        go_wp2_with fail
        go_ret
        exact ⟨ret_bool HF.out.symm, (Below.refl _ _).alloc (Nat.le_refl _) _⟩
    · have eb : (sOf t).toList.isEmpty = false := by simpa [noText] using cb
      have HF : Hid (formT (m + 1) t = false) := formT_head (by simp [headF, h2, h3, h4, h5, h6, cb])
      go_enter Tryz.func82, Tryz.ntmps82
      go_wp2_with fail
      go_ret
      exact ⟨ret_bool HF.out.symm, (Below.refl _ _).alloc (Nat.le_refl _) _⟩
  · have ea : (nOf t != 0) = true := by simpa using ca
    have HF : Hid (formT (m + 1) t = false) := formT_head (by simp [headF, h2, h3, h4, h5, h6, ca])
    go_enter Tryz.func82, Tryz.ntmps82
    go_wp2_with fail
    go_ret
    exact ⟨ret_bool HF.out.symm, (Below.refl _ _).alloc (Nat.le_refl _) _⟩
end Go.Proofs.YtknakfpciccoaaaGreatDoor
