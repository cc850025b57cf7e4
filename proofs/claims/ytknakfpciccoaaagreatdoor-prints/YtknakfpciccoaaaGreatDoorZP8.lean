import Derived.Test.YtknakfpciccoaaaGreatDoorZP7
import Derived.Test.YtknakfpciccoaaaGreatDoorZP6
/- The walks of printValue's leaves. -/
namespace Go.Proofs.YtknakfpciccoaaaGreatDoor
open Go.RowKit

def trueL : List UInt8 := [116, 114, 117, 101]
def falseL : List UInt8 := [102, 97, 108, 115, 101]
def FmtSaid (Tb : World → Prop) : Prop := ∀ (n : Int) (w : World), -9223372036854775808 ≤ n → n ≤ 9223372036854775807 → Tb w → Calls Tryz.prog 76 #[.int .i64 n, .int .i64 10] w fun e w' => e = .returned (.string (baL (Lib.itoa n))) ∧ Below w.heap.size w w'
set_option maxHeartbeats 4000000 in
set_option maxRecDepth 100000 in
theorem fbool_in (b : Bool) (w : World) : Calls Tryz.prog 126 #[.bool b] w fun e w' => e = .returned (.string (baL (if b then trueL else falseL))) ∧ w' = w := by
  go_enter Tryz.func126, Tryz.ntmps126
  cases b
  · go_wp2_with fail
    go_ret
    exact ⟨rfl, rfl⟩
  · go_wp2_with fail
    go_ret
    exact ⟨rfl, rfl⟩
set_option maxHeartbeats 4000000 in
set_option maxRecDepth 100000 in
theorem fbool_any (b : Bool) (w : World) : Calls Tryz.prog 75 #[.bool b] w fun e w' => e = .returned (.string (baL (if b then trueL else falseL))) ∧ w' = w := by
  have HF := hid (fbool_in b w)
  generalize baL (if b = true then trueL else falseL) = s at HF ⊢
  go_enter Tryz.func75, Tryz.ntmps75
  go_wp2_with fail
  refine HF.out.mono ?_
  rintro e w1 ⟨rfl, rfl⟩
  go_wp2_with fail
  go_ret
  exact ⟨rfl, rfl⟩
/-- The contract of a value, so deep. -/
def PrSaid (Tb : World → Prop) (w0 : World) (m : Nat) : Prop := ∀ (f : Nat) (v : Value) (t : T) (acc : List UInt8) (b : Nat) (w : World),
  At w0 f v t → Good m t → Below w0.heap.size w0 w → Lib.IsBuilderF 65 5 w0.heap.size b (Lib.byteCells acc) w → Tb w → acc.length + (wrT m t).length ≤ 100000000 →
    Calls Tryz.prog 41 #[.pointer (some ⟨b, 0, none⟩), v] w (Wrote w0.heap.size b (acc ++ wrT m t) w)
theorem wrT_leaf {m : Nat} {t : T} (h5 : kindOf t ≠ 5) (h6 : kindOf t ≠ 6) : wrT m t = leafW t := by
  cases m with
  | zero => rfl
  | succ m => unfold wrT; rw [if_neg h5, if_neg h6]
set_option maxHeartbeats 4000000 in
set_option maxRecDepth 100000 in
theorem print_leaf {Tb : World → Prop} (hF : FmtSaid Tb) (w0 : World) (hS : Stays Tb w0.heap.size) (t : T) (hg : leafGood t) (ht : Fits t) (acc : List UInt8) (b : Nat) (w : World) (La Ka : Option Addr) (Lc Kc : Nat)
    (hb : Below w0.heap.size w0 w) (h : Lib.IsBuilderF 65 5 w0.heap.size b (Lib.byteCells acc) w) (hT : Tb w) (hl : acc.length + (leafW t).length ≤ 100000000) :
    Calls Tryz.prog 41 #[.pointer (some ⟨b, 0, none⟩), .agg #[.int .i64 (kindOf t), .int .i64 (nOf t), .string (sOf t), .slice La (nL t) Lc, .slice Ka (nK t) Kc]] w (Wrote w0.heap.size b (acc ++ leafW t) w) := by
  have HS := hid (WrP.start h hb.size)
  have HB1 : Hid (Below w.heap.size w (w.alloc (.cells #[.int .i64 (kindOf t), .int .i64 (nOf t), .string (sOf t), .slice La (nL t) Lc, .slice Ka (nK t) Kc] 25))) := (Below.refl _ _).alloc (Nat.le_refl _) _
  have HS1 := hid (HS.out.keep HB1.out)
  have HT1 := hid (hS _ _ hT (HB1.out.mono hb.size))
  have HF := hid hF
  have HFt := hid ht
  have HST := hid hS
  have Hb := hid hb
  clear h hF ht hT hS hb
  obtain ⟨g1, g2, hg⟩ := hg
  clear g1 g2
  rcases hg with ⟨hk, g3⟩ | ⟨hk, g3⟩ | ⟨hk, g3⟩ | ⟨hk, g3, hsz, g4⟩
  all_goals clear g3
  · have e1 : (kindOf t == 1) = true := by rw [hk]; rfl
    have HW : Hid (leafW t = [110, 117, 108, 108]) := by show _ = _; unfold leafW; rw [if_pos hk]
    rw [HW.out] at hl ⊢
    clear hk
    go_enter Tryz.func41, Tryz.ntmps41
    go_wp2_with fail
    refine (wstr_any w0.heap.size b acc ⟨#[110, 117, 108, 108]⟩ w _ HS1.out (by show _ + 4 ≤ _; omega)).mono ?_
    rintro e w2 ⟨rfl, hw2⟩
    have H2 := hid (HS1.out.trans hw2)
    clear hw2
    go_wp2_with fail
    refine bodyPost_end (v := .tuple #[]) (by simp [results, Tryz.results41, go_sem]) rfl ?_
    exact ⟨rfl, H2.out⟩
  · have e1 : (kindOf t == 1) = false := by rw [hk]; rfl
    have e2 : (kindOf t == 2) = true := by rw [hk]; rfl
    by_cases hn : nOf t = 1
    · have HW : Hid (leafW t = trueL) := by show _ = _; unfold leafW; rw [if_neg (by omega), if_pos hk, if_pos (by omega)]; rfl
      have y : (nOf t == 1) = true := by rw [beq_iff_eq]; exact hn
      have HP := hid (fbool_any true (w.alloc (.cells #[.int .i64 (kindOf t), .int .i64 (nOf t), .string (sOf t), .slice La (nL t) Lc, .slice Ka (nK t) Kc] 25)))
      rw [HW.out] at hl ⊢
      have hl0 : acc.length ≤ 100000000 := by omega
      clear hk hn hl
      go_enter Tryz.func41, Tryz.ntmps41
      go_wp2_with fail
      refine HP.out.mono ?_
      rintro e w2 ⟨rfl, rfl⟩
      go_wp2_with fail
      refine (wstr_any w0.heap.size b acc (baL trueL) w _ HS1.out (by show _ + 4 ≤ _; omega)).mono ?_
      rintro e w2 ⟨rfl, hw2⟩
      have H2 := hid (HS1.out.trans hw2)
      clear hw2
      go_wp2_with fail
      refine bodyPost_end (v := .tuple #[]) (by simp [results, Tryz.results41, go_sem]) rfl ?_
      exact ⟨rfl, H2.out⟩
    · have HW : Hid (leafW t = falseL) := by show _ = _; unfold leafW; rw [if_neg (by omega), if_pos hk, if_neg (by omega)]; rfl
      have y : (nOf t == 1) = false := by rw [beq_eq_false_iff_ne]; exact hn
      have HP := hid (fbool_any false (w.alloc (.cells #[.int .i64 (kindOf t), .int .i64 (nOf t), .string (sOf t), .slice La (nL t) Lc, .slice Ka (nK t) Kc] 25)))
      rw [HW.out] at hl ⊢
      have hl0 : acc.length ≤ 100000000 := by omega
      clear hk hn hl
      go_enter Tryz.func41, Tryz.ntmps41
      go_wp2_with fail
      refine HP.out.mono ?_
      rintro e w2 ⟨rfl, rfl⟩
      go_wp2_with fail
      refine (wstr_any w0.heap.size b acc (baL falseL) w _ HS1.out (by show _ + 5 ≤ _; omega)).mono ?_
      rintro e w2 ⟨rfl, hw2⟩
      have H2 := hid (HS1.out.trans hw2)
      clear hw2
      go_wp2_with fail
      refine bodyPost_end (v := .tuple #[]) (by simp [results, Tryz.results41, go_sem]) rfl ?_
      exact ⟨rfl, H2.out⟩
  · have e1 : (kindOf t == 1) = false := by rw [hk]; rfl
    have e2 : (kindOf t == 2) = false := by rw [hk]; rfl
    have e3 : (kindOf t == 3) = true := by rw [hk]; rfl
    have HW : Hid (leafW t = Lib.itoa (nOf t)) := by show _ = _; unfold leafW; rw [hk]; rfl
    rw [HW.out] at hl ⊢
    have hl0 : acc.length ≤ 100000000 := by omega
    have HSZ := hid (baL_size (Lib.itoa (nOf t)))
    have HLI := hid (baL_list (Lib.itoa (nOf t)))
    clear hk
    go_enter Tryz.func41, Tryz.ntmps41
    go_wp2_with fail
    refine (HF.out _ _ HFt.out.n0 HFt.out.n1 HT1.out).mono ?_
    rintro e w2 ⟨rfl, hb2⟩
    have HS2 := hid (HS1.out.keep hb2)
    clear hb2
    generalize baL (Lib.itoa (nOf t)) = s at HSZ HLI ⊢
    go_wp2_with fail
    refine (wstr_any w0.heap.size b acc s w _ HS2.out (by have := HSZ.out; omega)).mono ?_
    rintro e w3 ⟨rfl, hw3⟩
    have H3 := hid (HS2.out.trans hw3)
    clear hw3
    go_wp2_with fail
    refine bodyPost_end (v := .tuple #[]) (by simp [results, Tryz.results41, go_sem]) rfl ?_
    exact ⟨rfl, H3.out.acc (by rw [HLI.out])⟩
  · have e1 : (kindOf t == 1) = false := by rw [hk]; rfl
    have e2 : (kindOf t == 2) = false := by rw [hk]; rfl
    have e3 : (kindOf t == 3) = false := by rw [hk]; rfl
    have e4 : (kindOf t == 4) = true := by rw [hk]; rfl
    have HW : Hid (leafW t = quoL (sOf t)) := by show _ = _; unfold leafW; rw [hk]; rfl
    rw [HW.out] at hl ⊢
    have HP := hid (printText_any w0.heap.size b acc (sOf t) _ HS1.out.isb HS1.out.lo' hl (by omega))
    clear hk hl g4 hsz
    go_enter Tryz.func41, Tryz.ntmps41
    go_wp2_with fail
    refine HP.out.mono ?_
    rintro e w2 ⟨rfl, hw2⟩
    have H2 := hid (HS1.out.trans hw2)
    clear hw2 HP
    go_wp2_with fail
    refine bodyPost_end (v := .tuple #[]) (by simp [results, Tryz.results41, go_sem]) rfl ?_
    exact ⟨rfl, H2.out⟩
end Go.Proofs.YtknakfpciccoaaaGreatDoor
/- The walks of printList, printObject, printValue. -/
namespace Go.Proofs.YtknakfpciccoaaaGreatDoor
open Go.RowKit

theorem WrP.blt {B b : Nat} {acc : List UInt8} {w w' : World} (h : WrP B b acc w w') : b < w'.heap.size := h.isb.elim (fun x => x.lt) (fun x => x.lt)
theorem oth_box {w wr : World} {b : Nat} {c0 c1 c2 c3 c4 : Value} (ho : Lib.OthersKept 5 (some b) (w.alloc (.cells #[c0, c1, c2, c3, c4] 25)) wr) (hb : b < w.heap.size) :
    wr.cell? ⟨w.heap.size, 0, none⟩ = some c0 ∧ wr.cell? ⟨w.heap.size, 1, none⟩ = some c1 ∧ wr.cell? ⟨w.heap.size, 2, none⟩ = some c2 ∧ wr.cell? ⟨w.heap.size, 3, none⟩ = some c3 ∧ wr.cell? ⟨w.heap.size, 4, none⟩ = some c4 := by
  have e0 : (w.alloc (.cells #[c0, c1, c2, c3, c4] 25)).heap[w.heap.size]? = some (.cells #[c0, c1, c2, c3, c4] 25) := by show (w.heap.push _)[w.heap.size]? = _; simp
  have e := ho w.heap.size _ e0 (by simp; omega) (fun c fz h => by injection h with _ h2; exact absurd h2 (by decide))
  refine ⟨?_, ?_, ?_, ?_, ?_⟩ <;> simp [World.cell?, e]
set_option maxHeartbeats 4000000 in
set_option maxRecDepth 100000 in
theorem printList_any {Tb : World → Prop} (w0 : World) (hS : Stays Tb w0.heap.size) (m : Nat) (ih : PrSaid Tb w0 m) (f : Nat) (La : Option Addr) (Lc : Nat) (t : T) (acc : List UInt8) (b : Nat) (w : World)
    (hl : ElemsAt w0 f La t) (hn : nL t ≤ 1759218604442) (hg : ∀ i, i < nL t → Good m (elt t i)) (hb : Below w0.heap.size w0 w) (h : Lib.IsBuilderF 65 5 w0.heap.size b (Lib.byteCells acc) w) (hT : Tb w)
    (hlen : acc.length + (joinL (wrT m) t (nL t)).length + 2 ≤ 100000000) :
    Calls Tryz.prog 78 #[.pointer (some ⟨b, 0, none⟩), .slice La (nL t) Lc] w (Wrote w0.heap.size b (acc ++ (91 :: (joinL (wrT m) t (nL t) ++ [93]))) w) := by
  have HS := hid (WrP.start h hb.size)
  have HST := hid hS
  have Hih := hid ih
  have Hl := hid hl
  have Hg := hid hg
  have Hb := hid hb
  have HT := hid hT
  have HM : Hid (∀ k, k ≤ nL t → (joinL (wrT m) t k).length + acc.length + 2 ≤ 100000000) := hid (fun k hk => by have := joinL_mono (wrT m) t hk; omega)
  have HE : Hid (acc ++ (91 :: (joinL (wrT m) t (nL t) ++ [93])) = acc ++ [91] ++ joinL (wrT m) t (nL t) ++ [93]) := by show _ = _; simp
  have hl0 : acc.length ≤ 100000000 := by omega
  clear h hS ih hl hg hb hT hlen
  go_enter Tryz.func78, Tryz.ntmps78
  go_wp2_with fail
  refine (wbyte_any w0.heap.size b acc 91 w w HS.out (by omega)).mono ?_
  rintro e w1 ⟨rfl, hw1⟩
  have H1 := hid hw1
  clear hw1
  go_wp2_with fail
  go_loopg [10] (nL t) (fun g i wr => ∃ k : Nat, g = nL t - k ∧ k ≤ nL t ∧ i = .int .i64 k ∧ Hid (WrP w0.heap.size b (acc ++ [91] ++ joinL (wrT m) t k) w wr))
  case atStart => exact ⟨0, rfl, Nat.zero_le _, rfl, H1.out.acc (by simp [joinL])⟩
  case round =>
    obtain ⟨k, rfl, hk, rfl, HW⟩ := hrel
    have Hbr := hid (Hb.out.trans HW.out.below)
    have HTr := hid (HST.out _ _ HT.out HW.out.below)
    by_cases hlt : k < nL t
    · obtain ⟨bb, o, A, B, C, D, rfl, hbl, p0, p1, p2, p3, p4, Ha⟩ := Hl.out.shape Hbr.out k hlt
      have HM1 := hid (HM.out (k + 1) hlt)
      have hm0 := HM.out k hk
      have HG := hid (Hg.out k hlt)
      have hblt := HW.out.blt
      have hB1 : Below wr.heap.size wr (wr.alloc (.cells #[.int .i64 (kindOf (elt t k)), .int .i64 (nOf (elt t k)), .string (sOf (elt t k)), .slice A (nL (elt t k)) B, .slice C (nK (elt t k)) D] 25)) := (Below.refl _ _).alloc (Nat.le_refl _) _
      have HB1 := hid hB1
      have HW1 := hid (HW.out.keep hB1)
      have HT1 := hid (HST.out _ _ HTr.out (hB1.mono HW.out.lo'))
      have Hb1 := hid (Hb.out.trans HW1.out.below)
      clear hB1
      by_cases hk0 : k = 0
      · have HJ : Hid (joinL (wrT m) t (k + 1) = joinL (wrT m) t k ++ wrT m (elt t k)) := by show joinL (wrT m) t k ++ _ = _; rw [if_pos hk0]; simp
        subst hk0
        simp only [Nat.zero_mul, Nat.add_zero] at p0 p1 p2 p3 p4
        go_wp2_with fail
        refine (Hih.out f _ (elt t 0) (acc ++ [91] ++ joinL (wrT m) t 0) b _ Ha.out HG.out Hb1.out HW1.out.isb HT1.out (by have := HM1.out; rw [HJ.out] at this; simp only [List.length_append, List.length_cons, List.length_nil] at this ⊢; omega)).mono ?_
        rintro e w2 ⟨rfl, hw2⟩
        have H2 := hid (HW1.out.trans hw2)
        clear hw2
        go_wp2_with fail
        go_roundg (nL t - (0 + 1))
        case rel => exact ⟨0 + 1, rfl, by omega, by go_num, H2.out.acc (by rw [HJ.out]; simp)⟩
        case measure => omega
      · have HJ : Hid (joinL (wrT m) t (k + 1) = joinL (wrT m) t k ++ ([44] ++ wrT m (elt t k))) := by show joinL (wrT m) t k ++ _ = _; rw [if_neg hk0]
        have y0 : 0 < k := by omega
        have y1 : (0 : Int) < (k : Int) := by omega
        clear hk0
        go_wp2_with fail
        refine (wbyte_any w0.heap.size b _ 44 w _ HW1.out (by simp only [List.length_append, List.length_cons, List.length_nil]; omega)).mono ?_
        rintro e w2 ⟨rfl, hw2⟩
        obtain ⟨r0, r1, r2, r3, r4⟩ := oth_box hw2.oth hblt
        have HW2 := hid (HW1.out.trans hw2)
        have HT2 := hid (HST.out _ _ HT1.out hw2.below)
        have Hb2 := hid (Hb.out.trans HW2.out.below)
        clear hw2
        go_wp2_with fail
        refine (Hih.out f _ (elt t k) (acc ++ [91] ++ joinL (wrT m) t k ++ [44]) b _ Ha.out HG.out Hb2.out HW2.out.isb HT2.out (by have := HM1.out; rw [HJ.out] at this; simp only [List.length_append, List.length_cons, List.length_nil] at this ⊢; omega)).mono ?_
        rintro e w3 ⟨rfl, hw3⟩
        have H3 := hid (HW2.out.trans hw3)
        clear hw3
        go_wp2_with fail
        go_roundg (nL t - (k + 1))
        case rel => exact ⟨k + 1, rfl, by omega, by go_num, H3.out.acc (by rw [HJ.out]; simp)⟩
        case measure => omega
    · obtain rfl : k = nL t := by omega
      have hm0 := HM.out (nL t) hk
      go_wp2_with fail
      refine (wbyte_any w0.heap.size b _ 93 w wr HW.out (by simp only [List.length_append, List.length_cons, List.length_nil]; omega)).mono ?_
      rintro e w2 ⟨rfl, hw2⟩
      have H2 := hid (HW.out.trans hw2)
      clear hw2
      go_wp2_with fail
      refine bodyPost_end (v := .tuple #[]) (by simp [results, Tryz.results78, go_sem]) rfl ?_
      exact ⟨rfl, H2.out.acc HE.out.symm⟩
end Go.Proofs.YtknakfpciccoaaaGreatDoor
/- The walks of the checker: values, and a value. -/
namespace Go.Proofs.YtknakfpciccoaaaGreatDoor
open Go.RowKit

/-- The contract of a value, so deep. -/
def ChkSaid (Tb : World → Prop) (c : Nat) (w0 : World) (m : Nat) : Prop := ∀ (f : Nat) (v : Value) (t : T) (l : Int) (w : World),
  At w0 f v t → Below w0.heap.size w0 w → Holds c l w → Tb w → 0 ≤ l → l ≤ 1048576 →
    Calls Tryz.prog 73 #[.pointer (some ⟨c, 0, none⟩), v, .int .i64 (12 - (m : Int))] w fun e w' => ChkPost c w (chkT m t l) e w'

set_option maxHeartbeats 1000000 in
theorem values_any {Tb : World → Prop} (c : Nat) (hS : Stays Tb c) (w0 : World) (hN : w0.heap.size ≤ c) (m : Nat) (ih : ChkSaid Tb c w0 m) (f : Nat) (La : Option Addr) (Lc : Nat) (t : T) (l : Int) (w : World)
    (hl : ElemsAt w0 f La t) (hn : nL t ≤ 1759218604442) (hb0 : Below w0.heap.size w0 w) (h : Holds c l w) (hT : Tb w) (l0 : 0 ≤ l) (l1 : l ≤ 1048576) :
    Calls Tryz.prog 123 #[.pointer (some ⟨c, 0, none⟩), .slice La (nL t) Lc, .int .i64 (12 - (m : Int))] w fun e w' => ChkPost c w (valuesL (chkT m) t (nL t) l) e w' := by
  have H := hid h
  have HT := hid hT
  have Hl := hid hl
  have Hb0 := hid hb0
  have Hih := hid ih
  clear h hT hl hb0 ih
  go_enter Tryz.func123, Tryz.ntmps123
  go_wp2_with fail
  go_loopg [11] (nL t) (fun g i wr => ∃ (k : Nat) (x : Int), g = nL t - k ∧ k ≤ nL t ∧ i = .int .i64 k ∧ 0 ≤ x ∧ x ≤ 1048576 ∧ Hid (valuesL (chkT m) t k l = some x) ∧ Hid (Holds c x wr) ∧ Hid (But c w wr))
  case atStart => exact ⟨0, l, rfl, Nat.zero_le _, rfl, l0, l1, rfl, H, But.refl _ _⟩
  case round =>
    obtain ⟨k, x, rfl, hk1, rfl, x0, x1, HX, HH, HB⟩ := hrel
    have Hbr := hid (Hb0.out.trans ((HB.out.below (Nat.le_of_lt H.out.lt)).mono hN))
    by_cases hlt : k < nL t
    · obtain ⟨b, o, A, B, C, D, rfl, hbl, p0, p1, p2, p3, p4, Ha⟩ := Hl.out.shape Hbr.out k hlt
      go_wp2_with fail
      have B1 : Below wr.heap.size wr (wr.alloc (.cells #[.int .i64 (kindOf (elt t k)), .int .i64 (nOf (elt t k)), .string (sOf (elt t k)), .slice A (nL (elt t k)) B, .slice C (nK (elt t k)) D] 25)) := (Below.refl _ _).alloc (Nat.le_refl _) _
      have HB1 := hid B1
      clear B1
      refine (Hih.out f _ (elt t k) x _ Ha.out (Hbr.out.trans (HB1.out.mono (Nat.le_trans hN (Nat.le_of_lt HH.out.lt)))) (HH.out.keep HB1.out) (hS _ _ (hS _ _ HT.out (HB.out.below (Nat.le_of_lt H.out.lt))) (HB1.out.mono (Nat.le_of_lt HH.out.lt))) x0 x1).mono ?_
      rintro e w2 ⟨B2, l', K2, hr⟩
      have HB2 := hid ((But.of HB1.out).trans B2)
      have HK2 := hid K2
      clear B2 K2
      have step : valuesL (chkT m) t (k + 1) l = chkT m (elt t k) x := by
        show (valuesL (chkT m) t k l).bind (chkT m (elt t k)) = _
        rw [HX.out]
        rfl
      have Hst := hid step
      clear step
      rcases hr with ⟨hr, y0, y1, rfl⟩ | ⟨hr, rfl⟩
      · have Hr := hid hr
        clear hr
        go_wp2_with fail
        go_roundg (nL t - (k + 1))
        case rel => exact ⟨k + 1, l', rfl, by omega, by go_num, y0, y1, Hst.out.trans Hr.out, HK2, HB.out.trans HB2.out⟩
        case measure => omega
      · have Hr := hid hr
        clear hr
        go_wp2_with fail
        go_ret
        exact ⟨HB.out.trans HB2.out, l', HK2.out, Or.inr ⟨valuesL_none hlt (Hst.out.trans Hr.out), rfl⟩⟩
    · obtain rfl : k = nL t := by omega
      go_wp2_with fail
      go_ret
      exact ⟨HB.out, x, HH.out, Or.inl ⟨HX.out, x0, x1, rfl⟩⟩
end Go.Proofs.YtknakfpciccoaaaGreatDoor
/- The walk of the checker's value, kind by kind. -/
namespace Go.Proofs.YtknakfpciccoaaaGreatDoor
open Go.RowKit

theorem noText_iff (t : T) : ((sOf t).toList.isEmpty = true) = (noText t = true) := rfl

set_option maxHeartbeats 1000000 in
theorem chk_k1 {Tb : World → Prop} (c : Nat) (hS : Stays Tb c) (w0 : World) (hN : w0.heap.size ≤ c) (m : Nat)  (f : Nat) (v : Value) (t : T) (l : Int) (w : World)
    (h : At w0 f v t) (hb0 : Below w0.heap.size w0 w) (hH : Holds c l w) (hT : Tb w) (l0 : 0 ≤ l) (l1 : l ≤ 1048576) (hk0 : kindOf t = 1) :
    Calls Tryz.prog 73 #[.pointer (some ⟨c, 0, none⟩), v, .int .i64 (12 - (m : Int))] w fun e w' => ChkPost c w (chkT m t l) e w' := by
  obtain ⟨f, La, Ka, Lc, Kc, rfl, rfl, hf, hl, hk⟩ := h.open
  have HB1 : Hid (Below w.heap.size w (w.alloc (.cells #[.int .i64 (kindOf t), .int .i64 (nOf t), .string (sOf t), .slice La (nL t) Lc, .slice Ka (nK t) Kc] 25))) := (Below.refl _ _).alloc (Nat.le_refl _) _
  have HK1 := hid (hH.keep HB1.out)
  have HT1 := hid (hS _ _ hT (HB1.out.mono (Nat.le_of_lt hH.lt)))
  have Hb1 := hid (hb0.trans (HB1.out.mono (Nat.le_trans hN (Nat.le_of_lt hH.lt))))
  have HA := hid (h.keep Hb1.out)
  clear h hb0 hH hT hf hl hk
  have HR0 : Hid (chkT m t l = if nOf t = 0 ∧ noText t = true ∧ noLists t = true then takeO 1 l else none) := by
    show chkT m t l = _
    cases m <;> simp [chkT, leafO, hk0]
  have g1 : (kindOf t == 1) = true := by rw [hk0]; rfl
  clear hk0
  by_cases n0 : nOf t = 0
  · have en : (nOf t == 0) = true := by rw [n0]; rfl
    by_cases s0 : noText t = true
    · have es : (sOf t).toList.isEmpty = true := s0
      have N0 := hid n0
      have S0 := hid s0
      clear n0 s0
      go_enter Tryz.func73, Tryz.ntmps73
      go_wp2_with fail
      refine (hasNoLists_any _ _ _ _ HA.out).mono ?_
      rintro e w2 ⟨rfl, B2⟩
      have HB2 := hid B2
      clear B2
      cases hn : noLists t with
      | false =>
        have HR : Hid (chkT m t l = none) := by show chkT m t l = none; rw [HR0.out, if_neg (by rw [hn]; simp)]
        clear hn
        go_wp2_with fail
        go_ret
        exact ⟨(But.of HB1.out).trans (But.of HB2.out), l, HK1.out.keep HB2.out, Or.inr ⟨HR.out, rfl⟩⟩
      | true =>
        have HR : Hid (chkT m t l = takeO 1 l) := by show chkT m t l = _; rw [HR0.out, if_pos (⟨N0.out, S0.out, hn⟩)]
        clear hn
        go_wp2_with fail
        refine (take2_any c l 1 w2 (HK1.out.keep HB2.out) l0 l1 (by omega) (by omega)).mono ?_
        rintro e w3 ⟨rfl, K3, B3⟩
        have HK3 := hid K3
        have HB3 := hid B3
        clear K3 B3
        by_cases h9 : 1 ≤ l
        · have HR2 : Hid (takeO 1 l = some (l - 1)) := by show takeO 1 l = _; unfold takeO; rw [if_pos h9]
          go_wp2_with fail
          go_ret
          exact ⟨((But.of HB1.out).trans (But.of HB2.out)).trans HB3.out, l - 1, HK3.out, Or.inl ⟨HR.out.trans HR2.out, by omega, by omega, rfl⟩⟩
        · have HR2 : Hid (takeO 1 l = none) := by show takeO 1 l = _; unfold takeO; rw [if_neg h9]
          have hd : decide ((1 : Int) ≤ l) = false := decide_eq_false h9
          clear h9
          go_wp2_with fail
          go_ret
          exact ⟨((But.of HB1.out).trans (But.of HB2.out)).trans HB3.out, l - 1, HK3.out, Or.inr ⟨HR.out.trans HR2.out, rfl⟩⟩

    · have es : (sOf t).toList.isEmpty = false := by simpa [noText] using s0
      have HR : Hid (chkT m t l = none) := by show chkT m t l = none; rw [HR0.out, if_neg (by exact fun h => s0 h.2.1)]
      clear n0 s0
      go_enter Tryz.func73, Tryz.ntmps73
      go_wp2_with fail
      go_ret
      exact ⟨But.of HB1.out, l, HK1.out, Or.inr ⟨HR.out, rfl⟩⟩
  · have en : (nOf t == 0) = false := by simpa using n0
    have HR : Hid (chkT m t l = none) := by show chkT m t l = none; rw [HR0.out, if_neg (by exact fun h => n0 h.1)]
    clear n0
    go_enter Tryz.func73, Tryz.ntmps73
    go_wp2_with fail
    go_ret
    exact ⟨But.of HB1.out, l, HK1.out, Or.inr ⟨HR.out, rfl⟩⟩

set_option maxHeartbeats 1000000 in
theorem chk_k2 {Tb : World → Prop} (c : Nat) (hS : Stays Tb c) (w0 : World) (hN : w0.heap.size ≤ c) (m : Nat)  (f : Nat) (v : Value) (t : T) (l : Int) (w : World)
    (h : At w0 f v t) (hb0 : Below w0.heap.size w0 w) (hH : Holds c l w) (hT : Tb w) (l0 : 0 ≤ l) (l1 : l ≤ 1048576) (hk0 : kindOf t = 2) :
    Calls Tryz.prog 73 #[.pointer (some ⟨c, 0, none⟩), v, .int .i64 (12 - (m : Int))] w fun e w' => ChkPost c w (chkT m t l) e w' := by
  obtain ⟨f, La, Ka, Lc, Kc, rfl, rfl, hf, hl, hk⟩ := h.open
  have HB1 : Hid (Below w.heap.size w (w.alloc (.cells #[.int .i64 (kindOf t), .int .i64 (nOf t), .string (sOf t), .slice La (nL t) Lc, .slice Ka (nK t) Kc] 25))) := (Below.refl _ _).alloc (Nat.le_refl _) _
  have HK1 := hid (hH.keep HB1.out)
  have HT1 := hid (hS _ _ hT (HB1.out.mono (Nat.le_of_lt hH.lt)))
  have Hb1 := hid (hb0.trans (HB1.out.mono (Nat.le_trans hN (Nat.le_of_lt hH.lt))))
  have HA := hid (h.keep Hb1.out)
  clear h hb0 hH hT hf hl hk
  have HR0 : Hid (chkT m t l = if (nOf t = 0 ∨ nOf t = 1) ∧ noText t = true ∧ noLists t = true then takeO 2 l else none) := by
    show chkT m t l = _
    cases m <;> simp [chkT, leafO, hk0]
  have g1 : (kindOf t == 1) = false := by first | (rw [hk0]; rfl) | (simp; omega)
  have g2 : (kindOf t == 2) = true := by rw [hk0]; rfl
  clear hk0
  by_cases n0 : nOf t = 0 ∨ nOf t = 1
  · have en : (nOf t == 0) = true ∨ (nOf t == 0) = false ∧ (nOf t == 1) = true := by rcases n0 with h | h <;> simp [h]
    by_cases s0 : noText t = true
    · have es : (sOf t).toList.isEmpty = true := s0
      have N0 := hid n0
      have S0 := hid s0
      clear n0 s0
      rcases en with en | ⟨en, en1⟩
      all_goals
        go_enter Tryz.func73, Tryz.ntmps73
        go_wp2_with fail
        refine (hasNoLists_any _ _ _ _ HA.out).mono ?_
        rintro e w2 ⟨rfl, B2⟩
        have HB2 := hid B2
        clear B2
        cases hn : noLists t with
        | false =>
          have HR : Hid (chkT m t l = none) := by show chkT m t l = none; rw [HR0.out, if_neg (by rw [hn]; simp)]
          clear hn
          go_wp2_with fail
          go_ret
          exact ⟨(But.of HB1.out).trans (But.of HB2.out), l, HK1.out.keep HB2.out, Or.inr ⟨HR.out, rfl⟩⟩
        | true =>
          have HR : Hid (chkT m t l = takeO 2 l) := by show chkT m t l = _; rw [HR0.out, if_pos (⟨N0.out, S0.out, hn⟩)]
          clear hn
          go_wp2_with fail
          refine (take2_any c l 2 w2 (HK1.out.keep HB2.out) l0 l1 (by omega) (by omega)).mono ?_
          rintro e w3 ⟨rfl, K3, B3⟩
          have HK3 := hid K3
          have HB3 := hid B3
          clear K3 B3
          by_cases h9 : 2 ≤ l
          · have HR2 : Hid (takeO 2 l = some (l - 2)) := by show takeO 2 l = _; unfold takeO; rw [if_pos h9]
            go_wp2_with fail
            go_ret
            exact ⟨((But.of HB1.out).trans (But.of HB2.out)).trans HB3.out, l - 2, HK3.out, Or.inl ⟨HR.out.trans HR2.out, by omega, by omega, rfl⟩⟩
          · have HR2 : Hid (takeO 2 l = none) := by show takeO 2 l = _; unfold takeO; rw [if_neg h9]
            have hd : decide ((2 : Int) ≤ l) = false := decide_eq_false h9
            clear h9
            go_wp2_with fail
            go_ret
            exact ⟨((But.of HB1.out).trans (But.of HB2.out)).trans HB3.out, l - 2, HK3.out, Or.inr ⟨HR.out.trans HR2.out, rfl⟩⟩

    · have es : (sOf t).toList.isEmpty = false := by simpa [noText] using s0
      have HR : Hid (chkT m t l = none) := by show chkT m t l = none; rw [HR0.out, if_neg (by exact fun h => s0 h.2.1)]
      clear n0 s0
      rcases en with en | ⟨en, en1⟩
      all_goals
        go_enter Tryz.func73, Tryz.ntmps73
        go_wp2_with fail
        go_ret
        exact ⟨But.of HB1.out, l, HK1.out, Or.inr ⟨HR.out, rfl⟩⟩
  · have en : (nOf t == 0) = false := by simp; omega
    have en1 : (nOf t == 1) = false := by simp; omega
    have HR : Hid (chkT m t l = none) := by show chkT m t l = none; rw [HR0.out, if_neg (by exact fun h => n0 h.1)]
    clear n0
    go_enter Tryz.func73, Tryz.ntmps73
    go_wp2_with fail
    go_ret
    exact ⟨But.of HB1.out, l, HK1.out, Or.inr ⟨HR.out, rfl⟩⟩

set_option maxHeartbeats 1000000 in
theorem chk_k3 {Tb : World → Prop} (c : Nat) (hS : Stays Tb c) (w0 : World) (hN : w0.heap.size ≤ c) (m : Nat)  (f : Nat) (v : Value) (t : T) (l : Int) (w : World)
    (h : At w0 f v t) (hb0 : Below w0.heap.size w0 w) (hH : Holds c l w) (hT : Tb w) (l0 : 0 ≤ l) (l1 : l ≤ 1048576) (hk0 : kindOf t = 3) :
    Calls Tryz.prog 73 #[.pointer (some ⟨c, 0, none⟩), v, .int .i64 (12 - (m : Int))] w fun e w' => ChkPost c w (chkT m t l) e w' := by
  obtain ⟨f, La, Ka, Lc, Kc, rfl, rfl, hf, hl, hk⟩ := h.open
  have HB1 : Hid (Below w.heap.size w (w.alloc (.cells #[.int .i64 (kindOf t), .int .i64 (nOf t), .string (sOf t), .slice La (nL t) Lc, .slice Ka (nK t) Kc] 25))) := (Below.refl _ _).alloc (Nat.le_refl _) _
  have HK1 := hid (hH.keep HB1.out)
  have HT1 := hid (hS _ _ hT (HB1.out.mono (Nat.le_of_lt hH.lt)))
  have Hb1 := hid (hb0.trans (HB1.out.mono (Nat.le_trans hN (Nat.le_of_lt hH.lt))))
  have HA := hid (h.keep Hb1.out)
  clear h hb0 hH hT hf hl hk
  have HR0 : Hid (chkT m t l = if noText t = true ∧ noLists t = true then takeO 9 l else none) := by
    show chkT m t l = _
    cases m <;> simp [chkT, leafO, hk0]
  have g1 : (kindOf t == 1) = false := by first | (rw [hk0]; rfl) | (simp; omega)
  have g2 : (kindOf t == 2) = false := by first | (rw [hk0]; rfl) | (simp; omega)
  have g3 : (kindOf t == 3) = true := by rw [hk0]; rfl
  clear hk0
  by_cases s0 : noText t = true
  · have es : (sOf t).toList.isEmpty = true := s0
    have S0 := hid s0
    clear s0
    go_enter Tryz.func73, Tryz.ntmps73
    go_wp2_with fail
    refine (hasNoLists_any _ _ _ _ HA.out).mono ?_
    rintro e w2 ⟨rfl, B2⟩
    have HB2 := hid B2
    clear B2
    cases hn : noLists t with
    | false =>
      have HR : Hid (chkT m t l = none) := by show chkT m t l = none; rw [HR0.out, if_neg (by rw [hn]; simp)]
      clear hn
      go_wp2_with fail
      go_ret
      exact ⟨(But.of HB1.out).trans (But.of HB2.out), l, HK1.out.keep HB2.out, Or.inr ⟨HR.out, rfl⟩⟩
    | true =>
      have HR : Hid (chkT m t l = takeO 9 l) := by show chkT m t l = _; rw [HR0.out, if_pos (⟨S0.out, hn⟩)]
      clear hn
      go_wp2_with fail
      refine (take2_any c l 9 w2 (HK1.out.keep HB2.out) l0 l1 (by omega) (by omega)).mono ?_
      rintro e w3 ⟨rfl, K3, B3⟩
      have HK3 := hid K3
      have HB3 := hid B3
      clear K3 B3
      by_cases h9 : 9 ≤ l
      · have HR2 : Hid (takeO 9 l = some (l - 9)) := by show takeO 9 l = _; unfold takeO; rw [if_pos h9]
        go_wp2_with fail
        go_ret
        exact ⟨((But.of HB1.out).trans (But.of HB2.out)).trans HB3.out, l - 9, HK3.out, Or.inl ⟨HR.out.trans HR2.out, by omega, by omega, rfl⟩⟩
      · have HR2 : Hid (takeO 9 l = none) := by show takeO 9 l = _; unfold takeO; rw [if_neg h9]
        have hd : decide ((9 : Int) ≤ l) = false := decide_eq_false h9
        clear h9
        go_wp2_with fail
        go_ret
        exact ⟨((But.of HB1.out).trans (But.of HB2.out)).trans HB3.out, l - 9, HK3.out, Or.inr ⟨HR.out.trans HR2.out, rfl⟩⟩

  · have es : (sOf t).toList.isEmpty = false := by simpa [noText] using s0
    have HR : Hid (chkT m t l = none) := by show chkT m t l = none; rw [HR0.out, if_neg (by exact fun h => s0 h.1)]
    clear s0
    go_enter Tryz.func73, Tryz.ntmps73
    go_wp2_with fail
    go_ret
    exact ⟨But.of HB1.out, l, HK1.out, Or.inr ⟨HR.out, rfl⟩⟩

set_option maxHeartbeats 1000000 in
theorem chk_other {Tb : World → Prop} (c : Nat) (hS : Stays Tb c) (w0 : World) (hN : w0.heap.size ≤ c) (m : Nat)  (f : Nat) (v : Value) (t : T) (l : Int) (w : World)
    (h : At w0 f v t) (hb0 : Below w0.heap.size w0 w) (hH : Holds c l w) (hT : Tb w) (_l0 : 0 ≤ l) (_l1 : l ≤ 1048576) (hk0 : kindOf t ≠ 1 ∧ kindOf t ≠ 2 ∧ kindOf t ≠ 3 ∧ kindOf t ≠ 4 ∧ kindOf t ≠ 5 ∧ kindOf t ≠ 6) :
    Calls Tryz.prog 73 #[.pointer (some ⟨c, 0, none⟩), v, .int .i64 (12 - (m : Int))] w fun e w' => ChkPost c w (chkT m t l) e w' := by
  obtain ⟨f, La, Ka, Lc, Kc, rfl, rfl, hf, hl, hk⟩ := h.open
  have HB1 : Hid (Below w.heap.size w (w.alloc (.cells #[.int .i64 (kindOf t), .int .i64 (nOf t), .string (sOf t), .slice La (nL t) Lc, .slice Ka (nK t) Kc] 25))) := (Below.refl _ _).alloc (Nat.le_refl _) _
  have HK1 := hid (hH.keep HB1.out)
  have HT1 := hid (hS _ _ hT (HB1.out.mono (Nat.le_of_lt hH.lt)))
  have Hb1 := hid (hb0.trans (HB1.out.mono (Nat.le_trans hN (Nat.le_of_lt hH.lt))))
  have HA := hid (h.keep Hb1.out)
  clear h hb0 hH hT hf hl hk
  obtain ⟨h1, h2, h3, h4, h5, h6⟩ := hk0
  have HR : Hid (chkT m t l = none) := by
    show chkT m t l = _
    cases m <;> simp [chkT, leafO, h1, h2, h3, h4, h5, h6]
  have g1 : (kindOf t == 1) = false := by simp; omega
  have g2 : (kindOf t == 2) = false := by simp; omega
  have g3 : (kindOf t == 3) = false := by simp; omega
  have g4 : (kindOf t == 4) = false := by simp; omega
  have g5 : (kindOf t == 5) = false := by simp; omega
  have g6 : (kindOf t == 6) = false := by simp; omega
  clear h1 h2 h3 h4 h5 h6
  go_enter Tryz.func73, Tryz.ntmps73
  go_wp2_with fail
  go_ret
  exact ⟨But.of HB1.out, l, HK1.out, Or.inr ⟨HR.out, rfl⟩⟩
end Go.Proofs.YtknakfpciccoaaaGreatDoor
