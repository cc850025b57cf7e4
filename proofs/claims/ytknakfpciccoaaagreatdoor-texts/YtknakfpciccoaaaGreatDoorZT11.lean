import Derived.Test.YtknakfpciccoaaaGreatDoorZT10
import Derived.Test.YtknakfpciccoaaaGreatDoorZT9
import Derived.Lib.ItoaLen
/- The walks of printObject, printValue and Print. -/
namespace Go.Proofs.YtknakfpciccoaaaGreatDoor
open Go.RowKit

set_option maxHeartbeats 4000000 in
set_option maxRecDepth 100000 in
theorem printObject_any {Tb : World → Prop} (w0 : World) (hS : Stays Tb w0.heap.size) (m : Nat) (ih : PrSaid Tb w0 m) (f : Nat) (La Ka : Option Addr) (Lc Kc : Nat) (t : T) (acc : List UInt8) (b : Nat) (w : World)
    (hl : ElemsAt w0 f La t) (hkn : NamesAt w0 Ka t) (hn : nL t ≤ 1759218604442) (hn' : nK t ≤ 1759218604442) (hnk : nK t = nL t) (hg : ∀ i, i < nL t → Good m (elt t i)) (hb : Below w0.heap.size w0 w) (h : Lib.IsBuilderF 65 5 w0.heap.size b (Lib.byteCells acc) w) (hT : Tb w)
    (hlen : acc.length + (joinO (wrT m) t (nK t)).length + 2 ≤ 100000000) :
    Calls Tryz.prog 79 #[.pointer (some ⟨b, 0, none⟩), .agg #[.int .i64 (kindOf t), .int .i64 (nOf t), .string (sOf t), .slice La (nL t) Lc, .slice Ka (nK t) Kc]] w (Wrote w0.heap.size b (acc ++ (123 :: (joinO (wrT m) t (nK t) ++ [125]))) w) := by
  have HS := hid (WrP.start h hb.size)
  have hblt0 := HS.out.blt
  have HB1 : Hid (Below w.heap.size w (w.alloc (.cells #[.int .i64 (kindOf t), .int .i64 (nOf t), .string (sOf t), .slice La (nL t) Lc, .slice Ka (nK t) Kc] 25))) := (Below.refl _ _).alloc (Nat.le_refl _) _
  have HSx := hid (HS.out.keep HB1.out)
  have HX0 := hid (WrP.start HSx.out.isb HSx.out.lo')
  have HTx := hid (hS _ _ hT (HB1.out.mono hb.size))
  have Hbx := hid (hb.trans HSx.out.below)
  have HST := hid hS
  have Hih := hid ih
  have Hl := hid hl
  have HK := hid hkn
  have Hg := hid hg
  have HNK := hid hnk
  have HM : Hid (∀ k, k ≤ nK t → (joinO (wrT m) t k).length + acc.length + 2 ≤ 100000000) := hid (fun k hk => by have := joinO_mono (wrT m) t hk; omega)
  have HE : Hid (acc ++ (123 :: (joinO (wrT m) t (nK t) ++ [125])) = acc ++ [123] ++ joinO (wrT m) t (nK t) ++ [125]) := by show _ = _; simp
  have hl0 : acc.length ≤ 100000000 := by omega
  clear h hS ih hl hkn hg hb hT hlen HS hnk
  go_enter Tryz.func79, Tryz.ntmps79
  go_wp2_with fail
  refine (wbyte_any w0.heap.size b acc 123 _ _ HX0.out (by omega)).mono ?_
  rintro e w1 ⟨rfl, hw1⟩
  obtain ⟨r0, r1, r2, r3, r4⟩ := oth_box hw1.oth hblt0
  have H1 := hid hw1
  clear hw1 HX0
  go_wp2_with fail
  clear r0 r1 r2 r3 r4
  go_loopg [11] (nK t) (fun g i wr => ∃ k : Nat, g = nK t - k ∧ k ≤ nK t ∧ i = .int .i64 k ∧ Hid (WrP w0.heap.size b (acc ++ [123] ++ joinO (wrT m) t k) (w.alloc (.cells #[.int .i64 (kindOf t), .int .i64 (nOf t), .string (sOf t), .slice La (nL t) Lc, .slice Ka (nK t) Kc] 25)) wr))
  case atStart => exact ⟨0, rfl, Nat.zero_le _, rfl, H1.out.acc (by simp [joinO])⟩
  case round =>
    obtain ⟨k, rfl, hk, rfl, HW⟩ := hrel
    have Hbr := hid (Hbx.out.trans HW.out.below)
    by_cases hlt : k < nK t
    · obtain ⟨kb, ko, rfl, hkb, hks, hkc⟩ := HK.out.keep Hbr.out k hlt
      have hltL : k < nL t := by have := HNK.out; omega
      have HM1 := hid (HM.out (k + 1) hlt)
      have hm0 := HM.out k hk
      have HG := hid (Hg.out k hltL)
      -- what comes behind the comma
      have HREST : Hid (∀ (acc2 : List UInt8) (w2 : World), WrP w0.heap.size b acc2 (w.alloc (.cells #[.int .i64 (kindOf t), .int .i64 (nOf t), .string (sOf t), .slice La (nL t) Lc, .slice (some ⟨kb, ko, none⟩) (nK t) Kc] 25)) w2 → acc2.length + (quoL (nam t k)).length ≤ 100000000 → Calls Tryz.prog 77 #[.pointer (some ⟨b, 0, none⟩), .string (nam t k)] w2 (Wrote w0.heap.size b (acc2 ++ quoL (nam t k)) w2)) :=
        hid (fun acc2 w2 h2 hl2 => printText_any w0.heap.size b acc2 (nam t k) w2 h2.isb h2.lo' hl2 hks)
      by_cases hk0 : k = 0
      · have HJ : Hid (joinO (wrT m) t (k + 1) = joinO (wrT m) t k ++ (quoL (nam t k) ++ (58 :: wrT m (elt t k)))) := by show joinO (wrT m) t k ++ _ = _; rw [if_pos hk0]; simp
        have HL1 : Hid ((joinO (wrT m) t k).length + (quoL (nam t k)).length + (wrT m (elt t k)).length + acc.length + 3 ≤ 100000000) := by show _ ≤ _; have := HM1.out; rw [HJ.out] at this; simp only [List.length_append, List.length_cons] at this; omega
        subst hk0
        simp only [Nat.add_zero] at hkc
        go_wp2_with fail
        refine (HREST.out (acc ++ [123] ++ joinO (wrT m) t 0) _ HW.out (by have := HL1.out; simp only [List.length_append, List.length_cons, List.length_nil] at this ⊢; omega)).mono ?_
        rintro e w2 ⟨rfl, hw2⟩
        have HW2 := hid (HW.out.trans hw2)
        clear hw2 hkc HREST
        go_wp2_with fail
        refine (wbyte_any w0.heap.size b _ 58 _ _ HW2.out (by have := HL1.out; simp only [List.length_append, List.length_cons, List.length_nil] at this ⊢; omega)).mono ?_
        rintro e w3 ⟨rfl, hw3⟩
        have HW3 := hid (HW2.out.trans hw3)
        clear hw3
        obtain ⟨r0, r1, r2, r3, r4⟩ := oth_box HW3.out.oth hblt0
        have Hb3 := hid (Hbx.out.trans HW3.out.below)
        have HT3 := hid (HST.out _ _ HTx.out HW3.out.below)
        obtain ⟨bb, o, A, B, C, D, rfl, hbl, p0, p1, p2, p3, p4, Ha⟩ := Hl.out.shape Hb3.out 0 hltL
        simp only [Nat.zero_mul, Nat.add_zero] at p0 p1 p2 p3 p4
        go_wp2_with fail
        refine (Hih.out f _ (elt t 0) _ b _ Ha.out HG.out Hb3.out HW3.out.isb HT3.out (by have := HL1.out; simp only [List.length_append, List.length_cons, List.length_nil] at this ⊢; omega)).mono ?_
        rintro e w4 ⟨rfl, hw4⟩
        have H4 := hid (HW3.out.trans hw4)
        clear hw4
        go_wp2_with fail
        go_roundg (nK t - (0 + 1))
        case rel => exact ⟨0 + 1, rfl, by omega, by go_num, H4.out.acc (by rw [HJ.out]; simp)⟩
        case measure => omega
      · have HJ : Hid (joinO (wrT m) t (k + 1) = joinO (wrT m) t k ++ ([44] ++ (quoL (nam t k) ++ (58 :: wrT m (elt t k))))) := by show joinO (wrT m) t k ++ _ = _; rw [if_neg hk0]
        have HL1 : Hid ((joinO (wrT m) t k).length + (quoL (nam t k)).length + (wrT m (elt t k)).length + acc.length + 4 ≤ 100000000) := by show _ ≤ _; have := HM1.out; rw [HJ.out] at this; simp only [List.length_append, List.length_cons, List.length_nil] at this; omega
        have y0 : 0 < k := by omega
        have y1 : (0 : Int) < (k : Int) := by omega
        clear hk0
        go_wp2_with fail
        refine (wbyte_any w0.heap.size b _ 44 _ _ HW.out (by have := HL1.out; simp only [List.length_append, List.length_cons, List.length_nil] at this ⊢; omega)).mono ?_
        rintro e w1' ⟨rfl, hw1'⟩
        have HW1 := hid (HW.out.trans hw1')
        clear hw1' hkc
        go_wp2_with fail
        refine (HREST.out (acc ++ [123] ++ joinO (wrT m) t k ++ [44]) _ HW1.out (by have := HL1.out; simp only [List.length_append, List.length_cons, List.length_nil] at this ⊢; omega)).mono ?_
        rintro e w2 ⟨rfl, hw2⟩
        have HW2 := hid (HW1.out.trans hw2)
        clear hw2 HREST
        go_wp2_with fail
        refine (wbyte_any w0.heap.size b _ 58 _ _ HW2.out (by have := HL1.out; simp only [List.length_append, List.length_cons, List.length_nil] at this ⊢; omega)).mono ?_
        rintro e w3 ⟨rfl, hw3⟩
        have HW3 := hid (HW2.out.trans hw3)
        clear hw3
        obtain ⟨r0, r1, r2, r3, r4⟩ := oth_box HW3.out.oth hblt0
        have Hb3 := hid (Hbx.out.trans HW3.out.below)
        have HT3 := hid (HST.out _ _ HTx.out HW3.out.below)
        obtain ⟨bb, o, A, B, C, D, rfl, hbl, p0, p1, p2, p3, p4, Ha⟩ := Hl.out.shape Hb3.out k hltL
        go_wp2_with fail
        refine (Hih.out f _ (elt t k) _ b _ Ha.out HG.out Hb3.out HW3.out.isb HT3.out (by have := HL1.out; simp only [List.length_append, List.length_cons, List.length_nil] at this ⊢; omega)).mono ?_
        rintro e w4 ⟨rfl, hw4⟩
        have H4 := hid (HW3.out.trans hw4)
        clear hw4
        go_wp2_with fail
        go_roundg (nK t - (k + 1))
        case rel => exact ⟨k + 1, rfl, by omega, by go_num, H4.out.acc (by rw [HJ.out]; simp)⟩
        case measure => omega
    · obtain rfl : k = nK t := by omega
      have hm0 := HM.out (nK t) hk
      go_wp2_with fail
      refine (wbyte_any w0.heap.size b _ 125 _ wr HW.out (by simp only [List.length_append, List.length_cons, List.length_nil]; omega)).mono ?_
      rintro e w2 ⟨rfl, hw2⟩
      have H2 := hid (HW.out.trans hw2)
      clear hw2
      go_wp2_with fail
      refine bodyPost_end (v := .tuple #[]) (by simp [results, Tryz.results79, go_sem]) rfl ?_
      exact ⟨rfl, (HSx.out.trans H2.out).acc HE.out.symm⟩
end Go.Proofs.YtknakfpciccoaaaGreatDoor
/- The walks of printValue and Print. -/
namespace Go.Proofs.YtknakfpciccoaaaGreatDoor
open Go.RowKit

theorem leaf_len {t : T} (hf : Fits t) : (leafW t).length + 1 ≤ 6 * leafBytes t := by
  unfold leafW leafBytes
  by_cases k1 : kindOf t = 1
  · rw [if_pos k1, if_pos k1]; simp
  rw [if_neg k1, if_neg k1]
  by_cases k2 : kindOf t = 2
  · rw [if_pos k2, if_pos k2]; split <;> simp
  rw [if_neg k2, if_neg k2]
  by_cases k3 : kindOf t = 3
  · rw [if_pos k3, if_pos k3]
    have := Lib.itoa_length_le (nOf t) hf.n0 hf.n1
    omega
  rw [if_neg k3, if_neg k3]
  split
  · have := quoL_len (sOf t)
    omega
  · simp
    omega
theorem joinL_len {g : T → List UInt8} {h : T → Nat} {t : T} : ∀ k, (∀ i, i < k → (g (elt t i)).length + 1 ≤ 6 * h (elt t i)) → (joinL g t k).length ≤ 6 * sumL h t k
  | 0, _ => by simp [joinL]
  | k + 1, hh => by
    have ih := joinL_len k (fun i hi => hh i (by omega))
    have hk := hh k (by omega)
    have hc : ((if k = 0 then [] else [44] : List UInt8)).length ≤ 1 := by split <;> simp
    simp only [joinL, sumL, List.length_append]
    omega
theorem joinO_len {g : T → List UInt8} {h : T → Nat} {t : T} : ∀ k, (∀ i, i < k → (g (elt t i)).length + 1 ≤ 6 * h (elt t i)) → (joinO g t k).length ≤ 6 * (sumK t k + sumL h t k)
  | 0, _ => by simp [joinO]
  | k + 1, hh => by
    have ih := joinO_len k (fun i hi => hh i (by omega))
    have hk := hh k (by omega)
    have hc : ((if k = 0 then [] else [44] : List UInt8)).length ≤ 1 := by split <;> simp
    have hq := quoL_len (nam t k)
    simp only [joinO, sumL, sumK, List.length_append, List.length_cons]
    omega
theorem good_leafK {t : T} (h : leafGood t) : kindOf t ≠ 5 ∧ kindOf t ≠ 6 := by
  obtain ⟨_, _, h⟩ := h
  rcases h with ⟨h, _⟩ | ⟨h, _⟩ | ⟨h, _⟩ | ⟨h, _⟩ <;> omega
theorem wr_len {w : World} : ∀ (m f : Nat) (v : Value) (t : T), At w f v t → Good m t → (wrT m t).length + 1 ≤ 6 * bytesT m t
  | 0, f, v, t, h, hg => by
    obtain ⟨g, La, Ka, Lc, Kc, _, _, hf, _⟩ := h.open
    exact leaf_len hf
  | m + 1, f, v, t, h, hg => by
    obtain ⟨g, La, Ka, Lc, Kc, _, _, hf, hl, _⟩ := h.open
    rcases hg with hg | ⟨_, _, he, hk⟩
    · obtain ⟨k5, k6⟩ := good_leafK hg
      unfold wrT bytesT
      rw [if_neg k5, if_neg k6, if_neg k5, if_neg k6]
      exact leaf_len hf
    · have hi : ∀ i, i < nL t → (wrT m (elt t i)).length + 1 ≤ 6 * bytesT m (elt t i) := fun i hi => by
        obtain ⟨b, o, c0, c1, c2, c3, c4, _, _, _, _, _, _, _, ha⟩ := hl.out i hi
        exact wr_len m g _ _ ha.out (he i hi)
      unfold wrT bytesT
      rcases hk with ⟨k5, _⟩ | ⟨k6, hnk, _⟩
      · rw [if_pos k5, if_pos k5]
        have := joinL_len (g := wrT m) (h := bytesT m) (nL t) hi
        simp only [List.length_cons, List.length_append, List.length_nil]
        omega
      · have k5 : kindOf t ≠ 5 := by omega
        rw [if_neg k5, if_pos k6, if_neg k5, if_pos k6, hnk]
        have := joinO_len (g := wrT m) (h := bytesT m) (nL t) hi
        simp only [List.length_cons, List.length_append, List.length_nil]
        omega
set_option maxHeartbeats 4000000 in
set_option maxRecDepth 100000 in
theorem print_step {Tb : World → Prop} (hF : FmtSaid Tb) (w0 : World) (hS : Stays Tb w0.heap.size) (m : Nat) (ih : PrSaid Tb w0 m) : PrSaid Tb w0 (m + 1) := by
  intro f v t acc b w h hg hb hi hT hl
  obtain ⟨g, La, Ka, Lc, Kc, rfl, rfl, hf, hl', hk'⟩ := h.open
  rcases hg with hg | ⟨g1, g2, he, hk⟩
  · obtain ⟨k5, k6⟩ := good_leafK hg
    rw [wrT_leaf k5 k6] at hl ⊢
    exact print_leaf hF w0 hS t hg hf acc b w La Ka Lc Kc hb hi hT hl
  clear g1 g2
  have HS := hid (WrP.start hi hb.size)
  have HB1 : Hid (Below w.heap.size w (w.alloc (.cells #[.int .i64 (kindOf t), .int .i64 (nOf t), .string (sOf t), .slice La (nL t) Lc, .slice Ka (nK t) Kc] 25))) := (Below.refl _ _).alloc (Nat.le_refl _) _
  have HS1 := hid (HS.out.keep HB1.out)
  have HT1 := hid (hS _ _ hT (HB1.out.mono hb.size))
  have Hb1 := hid (hb.trans HS1.out.below)
  rcases hk with ⟨hk, g3⟩ | ⟨hk, hnk, g4, g5⟩
  · have e1 : (kindOf t == 1) = false := by rw [hk]; rfl
    have e2 : (kindOf t == 2) = false := by rw [hk]; rfl
    have e3 : (kindOf t == 3) = false := by rw [hk]; rfl
    have e4 : (kindOf t == 4) = false := by rw [hk]; rfl
    have e5 : (kindOf t == 5) = true := by rw [hk]; rfl
    have HW : Hid (wrT (m + 1) t = 91 :: (joinL (wrT m) t (nL t) ++ [93])) := by show _ = _; rw [wrT, if_pos hk]
    rw [HW.out] at hl ⊢
    have HP := hid (printList_any w0 hS m ih g La Lc t acc b _ hl'.out hf.l1 he Hb1.out HS1.out.isb HT1.out (by simp only [List.length_cons, List.length_append, List.length_nil] at hl; omega))
    clear hk hl g3 he hi hT hb hf hl' hk' ih hS hF h
    go_enter Tryz.func41, Tryz.ntmps41
    go_wp2_with fail
    refine HP.out.mono ?_
    rintro e w2 ⟨rfl, hw2⟩
    have H2 := hid (HS1.out.trans hw2)
    clear hw2 HP
    go_wp2_with fail
    refine bodyPost_end (v := .tuple #[]) (by simp [results, Tryz.results41, go_sem]) rfl ?_
    exact ⟨rfl, H2.out⟩
  · have e1 : (kindOf t == 1) = false := by rw [hk]; rfl
    have e2 : (kindOf t == 2) = false := by rw [hk]; rfl
    have e3 : (kindOf t == 3) = false := by rw [hk]; rfl
    have e4 : (kindOf t == 4) = false := by rw [hk]; rfl
    have e5 : (kindOf t == 5) = false := by rw [hk]; rfl
    have e6 : (kindOf t == 6) = true := by rw [hk]; rfl
    have HW : Hid (wrT (m + 1) t = 123 :: (joinO (wrT m) t (nK t) ++ [125])) := by show _ = _; rw [wrT, if_neg (by omega), if_pos hk]
    rw [HW.out] at hl ⊢
    have HP := hid (printObject_any w0 hS m ih g La Ka Lc Kc t acc b _ hl'.out hk'.out hf.l1 (by rw [hnk]; exact hf.l1) hnk he Hb1.out HS1.out.isb HT1.out (by simp only [List.length_cons, List.length_append, List.length_nil] at hl; omega))
    clear hk hl g4 g5 hnk he hi hT hb hf hl' hk' ih hS hF h
    go_enter Tryz.func41, Tryz.ntmps41
    go_wp2_with fail
    refine HP.out.mono ?_
    rintro e w2 ⟨rfl, hw2⟩
    have H2 := hid (HS1.out.trans hw2)
    clear hw2 HP
    go_wp2_with fail
    refine bodyPost_end (v := .tuple #[]) (by simp [results, Tryz.results41, go_sem]) rfl ?_
    exact ⟨rfl, H2.out⟩
theorem print_any {Tb : World → Prop} (hF : FmtSaid Tb) (w0 : World) (hS : Stays Tb w0.heap.size) : ∀ m, PrSaid Tb w0 m
  | 0 => by
    intro f v t acc b w h hg hb hi hT hl
    obtain ⟨g, La, Ka, Lc, Kc, rfl, rfl, hf, _, _⟩ := h.open
    exact print_leaf hF w0 hS t hg hf acc b w La Ka Lc Kc hb hi hT hl
  | m + 1 => print_step hF w0 hS m (print_any hF w0 hS m)
/-- What is answered. -/
def ansS (ok : Bool) (l : List UInt8) : ByteArray := if ok then baL l else ⟨#[]⟩
def ansF (ok : Bool) : Int := if ok then 0 else 5
set_option maxHeartbeats 4000000 in
set_option maxRecDepth 100000 in
theorem tPrint_any {Tb : World → Prop} (hV : ValidSaid Tb) (hF : FmtSaid Tb) (hL : Lies Tb) (f : Nat) (v : Value) (t : T) (w : World) (h : At w f v t) (hT : Tb w) :
    Calls Tryz.prog 13 #[v] w fun e w' => e = .returned (.tuple #[.string (ansS (isV t) (wrT 12 t)), .int .i64 (ansF (isV t))]) ∧ Below w.heap.size w w' := by
  have HA := hid h
  have HT := hid hT
  have HF := hid hF
  have HL := hid hL
  have HV := hid hV
  obtain ⟨f1, La, Ka, Lc, Kc, hf1, rfl, hf, hl, hk⟩ := h.open
  clear h hf hf1 hl hk hT hF hL hV
  have HB1 : Hid (Below w.heap.size w (w.alloc (.cells #[.int .i64 (kindOf t), .int .i64 (nOf t), .string (sOf t), .slice La (nL t) Lc, .slice Ka (nK t) Kc] 25))) := (Below.refl _ _).alloc (Nat.le_refl _) _
  have HI := hid (isValue_any HV.out HL.out f _ t _ (HA.out.keep HB1.out) (HL.out w HT.out _ _ HT.out HB1.out))
  go_enter Tryz.func13, Tryz.ntmps13
  go_wp2_with fail
  refine HI.out.mono ?_
  rintro e w2 ⟨rfl, b2⟩
  have HB2 : Hid (Below (w.heap.size + 1) (w.alloc (.cells #[.int .i64 (kindOf t), .int .i64 (nOf t), .string (sOf t), .slice La (nL t) Lc, .slice Ka (nK t) Kc] 25)) w2) := b2.mono (by simp)
  obtain ⟨q0, q1, q2, q3, q4, hz, hbw⟩ := box_facts HB2.out
  have Hbw := hid hbw
  clear b2 hbw HI
  cases hi : isV t with
  | false =>
    have Hi := hid hi
    clear hi
    go_wp2_with fail
    go_ret2
    exact ⟨by rw [Hi.out]; rfl, Hbw.out⟩
  | true =>
    have Hi := hid hi
    have HG := hid ((isV_iff t).1 hi)
    have HT2 := hid (HL.out w HT.out _ _ HT.out Hbw.out)
    have HA2 := hid (HA.out.keep Hbw.out)
    have HW := hid (wr_len 12 f _ t HA2.out HG.out.1)
    have HFr : Hid (Lib.IsBuilderF 65 5 w2.heap.size w2.heap.size (Lib.byteCells []) (w2.alloc (.cells #[.pointer none, .slice none 0 0] 65))) := Lib.IsBuilderF.of (Lib.fresh_isBuilder 65 5 w2)
    have HBa : Hid (Below w2.heap.size w2 (w2.alloc (.cells #[.pointer none, .slice none 0 0] 65))) := (Below.refl _ _).alloc (Nat.le_refl _) _
    have HP := hid (print_any HF.out w2 (HL.out w2 HT2.out) 12 f _ t [] w2.heap.size _ HA2.out HG.out.1 HBa.out HFr.out (HL.out w2 HT2.out _ _ HT2.out HBa.out) (by have := HW.out; have := HG.out.2; simp only [List.length_nil]; omega))
    clear hi
    go_wp2_with fail
    refine HP.out.mono ?_
    rintro e w3 ⟨rfl, hw3⟩
    have H3 := hid hw3
    have HB3 := hid (Hbw.out.trans ((HBa.out.trans hw3.below).mono (Nat.le_of_lt hz)))
    clear hw3 HP
    go_wp2_with fail
    refine (string_any w2.heap.size w2.heap.size _ _ H3.out.isb H3.out.lo').mono ?_
    rintro e w4 ⟨rfl, b4⟩
    have HB4 := hid (HB3.out.trans (b4.mono (Nat.le_of_lt hz)))
    clear b4
    go_wp2_with fail
    go_ret2
    exact ⟨by rw [Hi.out]; rfl, HB4.out⟩
end Go.Proofs.YtknakfpciccoaaaGreatDoor
/- Texts and values, pure: what was written is read as it was: lists and objects. -/
namespace Go.Proofs.YtknakfpciccoaaaGreatDoor
open Go.RowKit

/-- An entry, with its name; entries from one on. -/
def entE (g : T → List UInt8) (t : T) (o : Bool) (k : Nat) : List UInt8 := (if o = true then quoL (nam t k) ++ [58] else []) ++ g (elt t k)
def jn (g : T → List UInt8) (t : T) (o : Bool) : Nat → List UInt8
  | 0 => []
  | k + 1 => jn g t o k ++ ((if k = 0 then [] else [44]) ++ entE g t o k)
def rl (g : T → List UInt8) (t : T) (o : Bool) : Nat → Nat → List UInt8
  | _, 0 => []
  | k, j + 1 => entE g t o k ++ (if j = 0 then [] else 44 :: rl g t o (k + 1) j)
theorem jn_list (g : T → List UInt8) (t : T) : ∀ k, joinL g t k = jn g t false k
  | 0 => rfl
  | k + 1 => by rw [joinL, jn, jn_list g t k]; rfl
theorem jn_obj (g : T → List UInt8) (t : T) : ∀ k, joinO g t k = jn g t true k
  | 0 => rfl
  | k + 1 => by rw [joinO, jn, jn_obj g t k, entE, if_pos rfl]; simp
theorem jn_rl (g : T → List UInt8) (t : T) (o : Bool) : ∀ j k, jn g t o k ++ ((if k = 0 ∨ j = 0 then [] else [44]) ++ rl g t o k j) = jn g t o (k + j)
  | 0, k => by simp [rl]
  | j + 1, k => by
    have ih := jn_rl g t o j (k + 1)
    rw [show k + (j + 1) = k + 1 + j by omega, ← ih, jn, rl]
    by_cases hk : k = 0
    · by_cases hj : j = 0
      · subst hj; simp [hk, rl]
      · simp [hk, hj]
    · by_cases hj : j = 0
      · subst hj; simp [hk, rl]
      · simp [hk, hj]
theorem rl_all (g : T → List UInt8) (t : T) (o : Bool) (n : Nat) : rl g t o 0 n = jn g t o n := by
  have := jn_rl g t o n 0
  simpa [jn] using this
theorem sk_id {s : ByteArray} {i : Nat} (h : blank (cB s i) = false) : sk s i = i := by rw [sk_step, h]; rfl
theorem std_pfx {s : ByteArray} {i : Nat} {x : ByteArray} (h : Std s i x.data.toList) (h0 : x.data.toList ≠ []) : pfx s i x = true := by
  have hle := h.le h0
  have hx : x.data.toList.length = x.size := rfl
  rw [hx] at hle
  unfold pfx
  rw [decide_eq_true hle]
  have e : s.extract i (i + x.size) = x := by
    apply ba_extT
    rw [cut_list]
    exact h.take
  rw [e]
  simp
theorem pfx_not {s : ByteArray} {i : Nat} {x : ByteArray} {c : UInt8} {r : List UInt8} (hx : x.data.toList = c :: r) (h : cB s i ≠ c.toNat) : pfx s i x = false := by
  cases hp : pfx s i x with
  | false => rfl
  | true => exact absurd (pfx_head hx hp) h
def EndsD (s : ByteArray) (i : Nat) : Prop := isD (cB s i) = false
theorem bare_leaf {F : Nat → Option (T × Nat)} {s : ByteArray} {i : Nat} {t : T} (hg : leafGood t) (hf : Fits t) (h : Std s i (leafW t)) (he : EndsD s (i + (leafW t).length)) : bareV F s i = some (leafT (kindOf t) (nOf t) (sOf t), i + (leafW t).length) ∧ blank (cB s i) = false := by
  obtain ⟨_, _, hg⟩ := hg
  rcases hg with ⟨hk, hn, ht⟩ | ⟨hk, hn, ht⟩ | ⟨hk, ht⟩ | ⟨hk, hn, hz, hok⟩
  · have e : leafW t = [110, 117, 108, 108] := by unfold leafW; rw [if_pos hk]
    rw [e] at h ⊢
    have c0 : cB s i = 110 := (Std.head h).1
    have hp := std_pfx (x := wNull) h (by decide)
    refine ⟨?_, by rw [c0]; rfl⟩
    unfold bareV
    rw [c0, if_neg (by omega), if_neg (by omega), if_neg (by omega), if_neg (by decide), if_pos hp, hk, hn, noText_eq ht]
    rfl
  · rcases hn with hn | hn
    · have e : leafW t = [102, 97, 108, 115, 101] := by unfold leafW; rw [if_neg (by omega), if_pos hk, if_neg (by omega)]
      rw [e] at h ⊢
      have c0 : cB s i = 102 := (Std.head h).1
      have hp := std_pfx (x := wFalse) h (by decide)
      have h1 := pfx_not (s := s) (i := i) (x := wNull) (c := 110) (r := [117, 108, 108]) rfl (by rw [c0]; decide)
      have h2 := pfx_not (s := s) (i := i) (x := wTrue) (c := 116) (r := [114, 117, 101]) rfl (by rw [c0]; decide)
      refine ⟨?_, by rw [c0]; rfl⟩
      unfold bareV
      rw [c0, if_neg (by omega), if_neg (by omega), if_neg (by omega), if_neg (by decide), h1, h2, hp, hk, hn, noText_eq ht]
      rfl
    · have e : leafW t = [116, 114, 117, 101] := by unfold leafW; rw [if_neg (by omega), if_pos hk, if_pos hn]
      rw [e] at h ⊢
      have c0 : cB s i = 116 := (Std.head h).1
      have hp := std_pfx (x := wTrue) h (by decide)
      have h1 := pfx_not (s := s) (i := i) (x := wNull) (c := 110) (r := [117, 108, 108]) rfl (by rw [c0]; decide)
      refine ⟨?_, by rw [c0]; rfl⟩
      unfold bareV
      rw [c0, if_neg (by omega), if_neg (by omega), if_neg (by omega), if_neg (by decide), h1, hp, hk, hn, noText_eq ht]
      rfl
  · have e : leafW t = Lib.itoa (nOf t) := by unfold leafW; rw [if_neg (by omega), if_neg (by omega), if_pos hk]
    rw [e] at h he ⊢
    obtain ⟨h1, h2⟩ := num_itoa hf.n0 hf.n1 h he
    have hc : cB s i = 45 ∨ (48 ≤ cB s i ∧ cB s i ≤ 57) := by
      rcases h2 with h2 | h2
      · exact .inl h2
      · unfold isD at h2; simp at h2; exact .inr h2
    refine ⟨?_, by unfold blank; simp; omega⟩
    unfold bareV
    rw [if_neg (by omega), if_neg (by omega), if_neg (by omega), if_pos h2, h1, hk, noText_eq ht]
    rfl
  · have e : leafW t = quoL (sOf t) := by unfold leafW; rw [if_neg (by omega), if_neg (by omega), if_neg (by omega), if_pos hk]
    rw [e] at h ⊢
    have c0 : cB s i = 34 := (Std.head (c := 34) h).1
    refine ⟨?_, by rw [c0]; rfl⟩
    unfold bareV
    rw [if_pos c0, txt_quo hok h, hk, hn]
    rfl
theorem key_at {s : ByteArray} {o : Bool} {i : Nat} {t : T} {k : Nat} {g : T → List UInt8} (hok : o = true → okS (nam t k) = true) (h : Std s i (entE g t o k)) : keyS s o i = some (if o = true then nam t k else ByteArray.empty, i + (if o = true then quoL (nam t k) ++ [58] else []).length) ∧ Std s (i + (if o = true then quoL (nam t k) ++ [58] else []).length) (g (elt t k)) := by
  unfold entE at h
  obtain ⟨h1, h2⟩ := h.app
  refine ⟨?_, h2⟩
  unfold keyS
  cases o with
  | false => simp
  | true =>
    simp only [if_true] at h1 ⊢
    obtain ⟨h3, h4⟩ := h1.app
    have c0 : cB s i = 34 := (Std.head (c := 34) h3).1
    have c1 : cB s (i + (quoL (nam t k)).length) = 58 := (Std.head (c := 58) h4).1
    rw [sk_id (i := i) (by rw [c0]; rfl), txt_quo (hok rfl) h3]
    simp only [Option.bind_some]
    rw [sk_id (i := i + (quoL (nam t k)).length) (by rw [c1]; rfl), if_pos c1, List.length_append]
    rfl
theorem it_rl {f : Nat → Option (T × Nat)} {s : ByteArray} {o : Bool} {t : T} {g : T → List UInt8} {c : T → T} (cc : UInt8) (hcc : cc.toNat = cl o)
    (hf : ∀ k, k < nL t → ∀ p, Std s p (g (elt t k)) → EndsD s (p + (g (elt t k)).length) → f p = some (c (elt t k), p + (g (elt t k)).length))
    (h6 : o = true → nK t = nL t ∧ ∀ k, k < nL t → okS (nam t k) = true) :
    ∀ j k m i, k + (j + 1) = nL t → Std s i (rl g t o k (j + 1) ++ [cc]) → j < m → itm f s o m i = some ((if o = true then (kOf t).drop k else [], ((lOf t).drop k).map c), i + (rl g t o k (j + 1)).length + 1) := by
  have hco : cl o = 93 ∨ cl o = 125 := by cases o <;> simp [cl]
  intro j
  induction j with
  | zero =>
    intro k m i hk h hm
    obtain ⟨m, rfl⟩ : ∃ x, m = x + 1 := ⟨m - 1, by omega⟩
    have e : rl g t o k (0 + 1) = entE g t o k := by simp [rl]
    rw [e] at h ⊢
    obtain ⟨h1, h2⟩ := h.app
    have cE : cB s (i + (entE g t o k).length) = cl o := by rw [(Std.head h2).1]; exact hcc
    obtain ⟨hkey, h3⟩ := key_at (fun ho => (h6 ho).2 k (by omega)) h1
    have hl : (entE g t o k).length = (if o = true then quoL (nam t k) ++ [58] else []).length + (g (elt t k)).length := by unfold entE; rw [List.length_append]
    have hfk := hf k (by omega) _ h3 (by unfold EndsD; rw [Nat.add_assoc, ← hl, cE]; rcases hco with hco | hco <;> rw [hco] <;> rfl)
    rw [Nat.add_assoc, ← hl] at hfk
    rw [itm, hkey]
    simp only [Option.bind_some]
    rw [hfk]
    simp only [Option.bind_some]
    rw [sk_id (i := i + (entE g t o k).length) (by rw [cE]; rcases hco with hco | hco <;> rw [hco] <;> rfl), cE, if_neg (by omega), if_pos rfl]
    have eL : (lOf t).drop k = elt t k :: (lOf t).drop (k + 1) := dropC (show k < nL t by omega)
    have eL2 : (lOf t).drop (k + 1) = [] := List.drop_eq_nil_of_le (by show nL t ≤ k + 1; omega)
    rw [eL, eL2]
    cases o with
    | false => rfl
    | true =>
      have hnk := (h6 rfl).1
      have eK : (kOf t).drop k = nam t k :: (kOf t).drop (k + 1) := dropC (show k < nK t by omega)
      have eK2 : (kOf t).drop (k + 1) = [] := List.drop_eq_nil_of_le (by show nK t ≤ k + 1; omega)
      rw [eK, eK2]
      rfl
  | succ j ih =>
    intro k m i hk h hm
    obtain ⟨m, rfl⟩ : ∃ x, m = x + 1 := ⟨m - 1, by omega⟩
    have e : rl g t o k (j + 1 + 1) = entE g t o k ++ (44 :: rl g t o (k + 1) (j + 1)) := by rw [rl, if_neg (by omega)]
    rw [e, List.append_assoc] at h
    obtain ⟨h1, h2⟩ := h.app
    obtain ⟨c44, h4⟩ := Std.head (c := 44) h2
    have cE : cB s (i + (entE g t o k).length) = 44 := c44
    obtain ⟨hkey, h3⟩ := key_at (fun ho => (h6 ho).2 k (by omega)) h1
    have hl : (entE g t o k).length = (if o = true then quoL (nam t k) ++ [58] else []).length + (g (elt t k)).length := by unfold entE; rw [List.length_append]
    have hfk := hf k (by omega) _ h3 (by unfold EndsD; rw [Nat.add_assoc, ← hl, cE]; rfl)
    rw [Nat.add_assoc, ← hl] at hfk
    have ih' := ih (k + 1) m (i + (entE g t o k).length + 1) (by omega) h4 (by omega)
    rw [itm, hkey]
    simp only [Option.bind_some]
    rw [hfk]
    simp only [Option.bind_some]
    rw [sk_id (i := i + (entE g t o k).length) (by rw [cE]; rfl), cE, if_pos rfl, ih', e]
    have eL : (lOf t).drop k = elt t k :: (lOf t).drop (k + 1) := dropC (show k < nL t by omega)
    have hp : i + (entE g t o k).length + 1 + (rl g t o (k + 1) (j + 1)).length + 1 = i + (entE g t o k ++ 44 :: rl g t o (k + 1) (j + 1)).length + 1 := by rw [List.length_append, List.length_cons]; omega
    rw [eL, hp]
    cases o with
    | false => rfl
    | true =>
      have hnk := (h6 rfl).1
      have eK : (kOf t).drop k = nam t k :: (kOf t).drop (k + 1) := dropC (show k < nK t by omega)
      rw [eK]
      rfl
end Go.Proofs.YtknakfpciccoaaaGreatDoor
