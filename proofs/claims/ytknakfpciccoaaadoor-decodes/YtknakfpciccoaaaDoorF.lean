/- The rune at the front of a text: the reference's reading of it, and the decoder's. -/
import Derived.Test.YtknakfpciccoaaaDoorD
import Derived.Lib.ValidLaws
namespace Go.Proofs.YtknakfpciccoaaaDoor
open Go.RowKit

def bt (s : ByteArray) (i : Nat) : Nat := (s.get! i).toNat
theorem bt_lt (s : ByteArray) (i : Nat) : bt s i < 256 := (s.get! i).toNat_lt
/-- The bytes 1 to k go on. -/
def contTo (s : ByteArray) : Nat → Bool
  | 0 => true
  | k + 1 => contTo s k && (decide (128 ≤ bt s (k + 1)) && decide (bt s (k + 1) ≤ 191))
def runC (s : ByteArray) (c0 : Int) : Nat → Int
  | 0 => c0
  | k + 1 => 64 * runC s c0 k + (bt s (k + 1) : Int) - 128
theorem contTo_false {s : ByteArray} {j k : Nat} (h : j ≤ k) (hc : contTo s j = false) : contTo s k = false := by
  induction h with
  | refl => exact hc
  | step _ ih => simp [contTo, ih]
def badRune (least c : Int) : Bool := decide (c < least) || decide (1114111 < c) || (decide (55296 ≤ c) && decide (c < 57344))
/-- A lead byte's rest: how many bytes, or none. -/
def finN (s : ByteArray) (n : Nat) (least c0 : Int) : Nat :=
  if s.size < n then 0 else if contTo s (n - 1) = false then 0 else if badRune least (runC s c0 (n - 1)) = true then 0 else n
def utfN (s : ByteArray) : Nat :=
  if bt s 0 < 128 then 1 else if 192 ≤ bt s 0 ∧ bt s 0 < 224 then finN s 2 128 (bt s 0 - 192) else if 224 ≤ bt s 0 ∧ bt s 0 < 240 then finN s 3 2048 (bt s 0 - 224) else if 240 ≤ bt s 0 ∧ bt s 0 < 248 then finN s 4 65536 (bt s 0 - 240) else 0

theorem decodeL_eq (s : ByteArray) : Lib.decodeL s.data.toList = Utf8.decode s 0 := by
  unfold Lib.decodeL
  cases s with
  | mk d => rfl
/-- The reference's number of bytes is the decoder's, 0 where she yields the error of one byte. -/
theorem utfN_decode (s : ByteArray) : utfN s = if (Utf8.decode s 0).1 = 65533 ∧ (Utf8.decode s 0).2 = 1 then 0 else (Utf8.decode s 0).2 := by
  have l0 := bt_lt s 0
  have l1 := bt_lt s 1
  have l2 := bt_lt s 2
  have l3 := bt_lt s 3
  simp only [utfN, finN, contTo, runC, badRune, Utf8.decode, Utf8.runeError, Utf8.valid, Nat.zero_add]
  simp only [← bt.eq_def]
  generalize bt s 0 = a at *
  generalize bt s 1 = b at *
  generalize bt s 2 = c at *
  generalize bt s 3 = d at *
  generalize s.size = n at *
  by_cases h1 : a < 128
  · simp only [h1, if_true]
    rw [if_neg (by omega)]
  rw [if_neg h1, if_neg h1]
  by_cases h2 : 192 ≤ a ∧ a < 224
  · have e : (a / 32 == 6) = true := by simp; omega
    rw [if_pos h2]
    by_cases hc : 1 < n ∧ b / 64 = 2
    · have e1 : (decide (1 < n) && b / 64 == 2) = true := by simp; exact hc
      rw [e, e1]
      simp only [Bool.and_self, if_true]
      rw [if_neg (by omega), if_neg (by simp; omega)]
      by_cases hv : a % 32 * 64 + b % 64 ≥ 128
      · rw [if_pos hv, if_neg (by simp; omega)]
        simp
      · rw [if_neg hv, if_pos (by simp; omega)]
        simp
    · have e1 : (decide (1 < n) && b / 64 == 2) = false := by
        simp only [Bool.and_eq_false_iff, decide_eq_false_iff_not, beq_eq_false_iff_ne]; omega
      have e2 : (a / 16 == 14) = false := by simp; omega
      have e3 : (a / 8 == 30) = false := by simp; omega
      rw [e1, e2, e3]
      simp only [Bool.and_false, Bool.false_and, Bool.false_eq_true, if_false]
      by_cases hn : n < 2
      · simp [hn]
      · rw [if_neg hn, if_pos (by simp; omega)]
        simp
  rw [if_neg h2]
  have g2 : (a / 32 == 6) = false := by simp; omega
  rw [g2]
  simp only [Bool.false_and, Bool.false_eq_true, if_false]
  by_cases h3 : 224 ≤ a ∧ a < 240
  · have e : (a / 16 == 14) = true := by simp; omega
    rw [if_pos h3]
    by_cases hc : (1 < n ∧ b / 64 = 2) ∧ 2 < n ∧ c / 64 = 2
    · have e1 : (decide (1 < n) && b / 64 == 2) = true := by simp; exact hc.1
      have e2 : (decide (2 < n) && c / 64 == 2) = true := by simp; exact hc.2
      rw [e, e1, e2]
      simp only [Bool.and_self, if_true]
      rw [if_neg (by omega), if_neg (by simp; omega)]
      generalize hX : a % 16 * 4096 + b % 64 * 64 + c % 64 = X at *
      by_cases hv : 2048 ≤ X ∧ (X < 55296 ∨ 57344 ≤ X)
      · have hi : (decide (X ≥ 2048) && (decide ((0 : Int) ≤ X) && decide ((X : Int) < 55296) || decide ((57344 : Int) ≤ X) && decide ((X : Int) ≤ 1114111))) = true := by simp; omega
        rw [hi, if_neg (by simp; omega)]
        simp
      · have hi : (decide (X ≥ 2048) && (decide ((0 : Int) ≤ X) && decide ((X : Int) < 55296) || decide ((57344 : Int) ≤ X) && decide ((X : Int) ≤ 1114111))) = false := by
          simp only [Bool.and_eq_false_iff, Bool.or_eq_false_iff, decide_eq_false_iff_not]; omega
        rw [hi, if_pos (by simp; omega)]
        simp
    · have e1 : ((decide (1 < n) && b / 64 == 2) && (decide (2 < n) && c / 64 == 2)) = false := by
        simp only [Bool.and_eq_false_iff, decide_eq_false_iff_not, beq_eq_false_iff_ne]; omega
      have e3 : (a / 8 == 30) = false := by simp; omega
      rw [e, e3]
      simp only [Bool.true_and, Bool.false_and]
      rw [e1]
      simp only [Bool.false_eq_true, if_false]
      by_cases hn : n < 3
      · simp [hn]
      · rw [if_neg hn, if_pos (by simp; omega)]
        simp
  rw [if_neg h3]
  have g3 : (a / 16 == 14) = false := by simp; omega
  rw [g3]
  simp only [Bool.false_and, Bool.false_eq_true, if_false]
  by_cases h4 : 240 ≤ a ∧ a < 248
  · have e : (a / 8 == 30) = true := by simp; omega
    rw [if_pos h4]
    by_cases hc : (1 < n ∧ b / 64 = 2) ∧ (2 < n ∧ c / 64 = 2) ∧ 3 < n ∧ d / 64 = 2
    · have e1 : (decide (1 < n) && b / 64 == 2) = true := by simp; exact hc.1
      have e2 : (decide (2 < n) && c / 64 == 2) = true := by simp; exact hc.2.1
      have e3 : (decide (3 < n) && d / 64 == 2) = true := by simp; exact hc.2.2
      rw [e, e1, e2, e3]
      simp only [Bool.and_self, if_true]
      rw [if_neg (by omega), if_neg (by simp; omega)]
      generalize hX : a % 8 * 262144 + b % 64 * 4096 + c % 64 * 64 + d % 64 = X at *
      by_cases hv : 65536 ≤ X ∧ X ≤ 1114111
      · have hi : (decide (X ≥ 65536) && (decide ((0 : Int) ≤ X) && decide ((X : Int) < 55296) || decide ((57344 : Int) ≤ X) && decide ((X : Int) ≤ 1114111))) = true := by simp; omega
        rw [hi, if_neg (by simp; omega)]
        simp
      · have hi : (decide (X ≥ 65536) && (decide ((0 : Int) ≤ X) && decide ((X : Int) < 55296) || decide ((57344 : Int) ≤ X) && decide ((X : Int) ≤ 1114111))) = false := by
          simp only [Bool.and_eq_false_iff, Bool.or_eq_false_iff, decide_eq_false_iff_not]; omega
        rw [hi, if_pos (by simp; omega)]
        simp
    · have e1 : (((decide (1 < n) && b / 64 == 2) && (decide (2 < n) && c / 64 == 2)) && (decide (3 < n) && d / 64 == 2)) = false := by
        simp only [Bool.and_eq_false_iff, decide_eq_false_iff_not, beq_eq_false_iff_ne]; omega
      rw [e]
      simp only [Bool.true_and]
      rw [e1]
      simp only [Bool.false_eq_true, if_false]
      by_cases hn : n < 4
      · simp [hn]
      · rw [if_neg hn, if_pos (by simp; omega)]
        simp
  rw [if_neg h4]
  have g4 : (a / 8 == 30) = false := by simp; omega
  rw [g4]
  simp
end Go.Proofs.YtknakfpciccoaaaDoor
