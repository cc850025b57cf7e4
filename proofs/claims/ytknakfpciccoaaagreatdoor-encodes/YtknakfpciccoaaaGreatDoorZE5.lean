import Derived.Test.YtknakfpciccoaaaGreatDoorProg
import Derived.Test.YtknakfpciccoaaaGreatDoorZE1
import Derived.WalkKit
import Derived.WalkSpells
import Derived.WalkLawsBesides
import Derived.Deep.LoopGhost
import Derived.Test.YtknakfpciccoaaaGreatDoorZE4
/- The walks of sheafref.numbers and its kin: what each returns. -/
namespace Go.Proofs.YtknakfpciccoaaaGreatDoor
open Go.RowKit

set_option maxHeartbeats 400000 in
theorem numbers_any (a b : Int) (w : World) :
    Calls Tryz.prog 170 #[.int .i64 a, .int .i64 b] w fun e w' => e = .returned (.int .i64 (cmpI a b)) ∧ w' = w := by
  go_enter Tryz.func170, Tryz.ntmps170
  go_wp2
  all_goals (go_ret; refine ⟨?_, rfl⟩)
  · exact ret_int (cmpI_lt (by assumption)).symm
  · exact ret_int (cmpI_gt (by assumption)).symm
  · exact ret_int (cmpI_eq (by assumption) (by assumption)).symm

set_option maxHeartbeats 400000 in
theorem deep_any (m : Nat) : ∀ (f : Nat) (v : Value) (t : T) (w : World), At w f v t → m ≤ 100 →
    Calls Tryz.prog 129 #[v, .int .i64 m] w fun e w' => e = .returned (.int .i64 (deepT m t)) ∧ Below w.heap.size w w' := by
  induction m with
  | zero =>
    intro f v t w h _
    obtain ⟨f, La, Ka, Lc, Kc, rfl, rfl, hf, hl, hk⟩ := h.open
    go_enter Tryz.func129, Tryz.ntmps129
    go_wp2_with fail
    go_ret
    exact ⟨by simp [deepT], (Below.refl _ _).alloc (Nat.le_refl _) _⟩
  | succ m ih =>
    intro f v t w h hm
    obtain ⟨f, La, Ka, Lc, Kc, rfl, rfl, hf, hl, hk⟩ := h.open
    have hlen := hf.l1
    clear h hf hk
    by_cases h5 : isBox t = true
    · have e5 : ((kindOf t) != 5) = true ∧ ((kindOf t != 6)) = false ∨ ((kindOf t) != 5) = false := by
        simp only [isBox, Bool.or_eq_true, beq_iff_eq] at h5
        rcases h5 with h5 | h5 <;> simp [h5]
      have Hr : Hid (deepT (m + 1) t = deepL (deepT m) t (nL t) + 1) := by show deepT (m + 1) t = _; simp only [deepT, h5, if_true]
      have e0 : ((m : Int) + 1 == 0) = false := beq_eq_false_iff_ne.2 (by omega)
      clear h5
      rcases e5 with ⟨e5, e6⟩ | e5
      all_goals
        go_enter Tryz.func129, Tryz.ntmps129
        go_wp2_with fail
        go_loopg [5, 6] (nL t) (fun g n i wr => ∃ k : Nat, g = nL t - k ∧ k ≤ nL t ∧ i = .int .i64 k ∧ n = .int .i64 (deepL (deepT m) t k : Nat) ∧ Below (w.heap.size + 1) (w.alloc (.cells #[.int .i64 (kindOf t), .int .i64 (nOf t), .string (sOf t), .slice La (nL t) Lc, .slice Ka (nK t) Kc] 25)) wr)
        case atStart => exact ⟨0, rfl, Nat.zero_le _, rfl, rfl, Below.refl _ _⟩
        case round =>
          obtain ⟨k, rfl, hk, rfl, rfl, hb⟩ := hrel
          obtain ⟨q0, q1, q2, q3, q4, hz, hbw⟩ := box_facts hb
          have Hb := hid hb
          clear hb
          have hd0 := deepL_le (deepT_le m) t k
          by_cases hlt : k < nL t
          · obtain ⟨b, o, c0, c1, c2, c3, c4, rfl, hbl, p0, p1, p2, p3, p4, Ha⟩ := hl.out.keep hbw k hlt
            have em : ((m : Int) + 1 - 1) = (m : Int) := by omega
            have hd1 := deepT_le m (elt t k)
            have Hs : Hid (deepL (deepT m) t (k + 1) = max (deepL (deepT m) t k) (deepT m (elt t k))) := rfl
            go_wp2_with fail
            refine (ih _ _ _ _ Ha.out (by omega)).mono ?_
            rintro e w2 ⟨rfl, hb2⟩
            have hb3 := Hb.out.trans (hb2.mono (by omega))
            go_wp2_with fail
            all_goals
              go_roundg (nL t - (k + 1))
              case rel => exact ⟨k + 1, rfl, by omega, by go_num, by rw [Hs.out]; go_num, hb3⟩
              case measure => omega
          · go_wp2_with fail
            go_ret
            have : k = nL t := by omega
            subst this
            exact ⟨ret_int (by rw [Hr.out]; rfl), hbw⟩
    · have e5 : (kindOf t != 5) = true := by simp [isBox] at h5; simp; omega
      have e6 : (kindOf t != 6) = true := by simp [isBox] at h5; simp; omega
      have H : Hid (deepT (m + 1) t = 0) := by show deepT (m + 1) t = _; simp [deepT, h5]
      clear h5
      go_enter Tryz.func129, Tryz.ntmps129
      go_wp2_with fail
      go_ret
      exact ⟨ret_int (by rw [H.out]; rfl), (Below.refl _ _).alloc (Nat.le_refl _) _⟩
end Go.Proofs.YtknakfpciccoaaaGreatDoor
/- The walk of appendValue, of leaves. -/
namespace Go.Proofs.YtknakfpciccoaaaGreatDoor
open Go.RowKit

theorem QG.from {w0 w w1 : World} {o : Obj} {r r1 : Value} {a a1 : List UInt8} (hr : w.ownsRow w0.heap.size 5 1 r a.length (bytesV a)) (h : QG w0 r (w.alloc o) r1 a1 w1) : QG w0 r w r1 a1 w1 :=
  ((QG.refl hr).keep ((Below.refl _ _).alloc (Nat.le_refl _) o)).trans h
theorem QG.here {w0 w : World} {o : Obj} {r : Value} {a : List UInt8} (hr : w.ownsRow w0.heap.size 5 1 r a.length (bytesV a)) : QG w0 r (w.alloc o) r a (w.alloc o) :=
  QG.refl ((QG.refl hr).keep ((Below.refl _ _).alloc (Nat.le_refl _) o)).row
theorem wrapB (n : Int) : IntKind.u8.wrap n = ((byAt n 0).toNat : Int) := by rw [IntKind.wrap_u8, byAt_toNat]; simp
theorem wrapU_nonneg (n : Int) : 0 ≤ n % 18446744073709551616 ∧ n % 18446744073709551616 < 18446744073709551616 := ⟨Int.emod_nonneg _ (by omega), Int.emod_lt_of_pos _ (by omega)⟩
def AvSaid (w0 : World) (m : Nat) : Prop := ∀ (f : Nat) (v : Value) (t : T) (acc : List UInt8) (r : Value) (w : World), At w0 f v t → Good m t → Below w0.heap.size w0 w → w.ownsRow w0.heap.size 5 1 r acc.length (bytesV acc) → acc.length + (encT m t).length ≤ 100000000 →
    Calls Tryz.prog 46 #[r, v] w fun e w' => ∃ r', e = .returned r' ∧ QG w0 r w r' (acc ++ encT m t) w'
set_option maxHeartbeats 4000000 in
set_option maxRecDepth 100000 in
theorem appVal_leaf (w0 : World) (t : T) (hg : leafGood t) (ht : Fits t) (acc : List UInt8) (r : Value) (w : World) (La Ka : Option Addr) (Lc Kc : Nat) (hb : w0.heap.size ≤ w.heap.size) (hr : w.ownsRow w0.heap.size 5 1 r acc.length (bytesV acc)) (hl : acc.length + (leafE t).length ≤ 100000000) :
    Calls Tryz.prog 46 #[r, .agg #[.int .i64 (kindOf t), .int .i64 (nOf t), .string (sOf t), .slice La (nL t) Lc, .slice Ka (nK t) Kc]] w fun e w' => ∃ r', e = .returned r' ∧ QG w0 r w r' (acc ++ leafE t) w' := by
  obtain ⟨iB, hiB, zB0, zB1, zB2⟩ := info_parts infoBE
  have HR := hid hr
  have HFt := hid ht
  have hl1 : acc.length ≤ 100000000 := by omega
  have Hl := hid hl
  clear hr ht hl
  have fk : IntKind.u8.wrap (kindOf t) = ((kindB t).toNat : Int) := wrapB _
  have H0 : Hid (QG w0 r (w.alloc (.cells #[.int .i64 (kindOf t), .int .i64 (nOf t), .string (sOf t), .slice La (nL t) Lc, .slice Ka (nK t) Kc] 25)) r acc (w.alloc (.cells #[.int .i64 (kindOf t), .int .i64 (nOf t), .string (sOf t), .slice La (nL t) Lc, .slice Ka (nK t) Kc] 25))) := QG.here HR.out
  have HB1 : Hid (Below (w.heap.size + 1) (w.alloc (.cells #[.int .i64 (kindOf t), .int .i64 (nOf t), .string (sOf t), .slice La (nL t) Lc, .slice Ka (nK t) Kc] 25)) ((w.alloc (.cells #[.int .i64 (kindOf t), .int .i64 (nOf t), .string (sOf t), .slice La (nL t) Lc, .slice Ka (nK t) Kc] 25)).alloc (.cells #[.int .u8 ((kindB t).toNat : Int)] 5))) := (Below.refl _ _).alloc (by simp) _
  have HI1 := hid (H0.out.keep (HB1.out.mono (by simp)))
  have HSb : Hid (Src Tryz.prog 1 63 (.slice (some ⟨w.heap.size + 1, 0, none⟩) 1 1) 1 (bytesV [kindB t]) ((w.alloc (.cells #[.int .i64 (kindOf t), .int .i64 (nOf t), .string (sOf t), .slice La (nL t) Lc, .slice Ka (nK t) Kc] 25)).alloc (.cells #[.int .u8 ((kindB t).toNat : Int)] 5))) := by
    have := srcE_built (w.alloc (.cells #[.int .i64 (kindOf t), .int .i64 (nOf t), .string (sOf t), .slice La (nL t) Lc, .slice Ka (nK t) Kc] 25)) [kindB t]
    apply hid
    simpa [bytesV] using this
  have hbz : w0.heap.size ≤ ((w.alloc (.cells #[.int .i64 (kindOf t), .int .i64 (nOf t), .string (sOf t), .slice La (nL t) Lc, .slice Ka (nK t) Kc] 25)).alloc (.cells #[.int .u8 ((kindB t).toNat : Int)] 5)).heap.size := by simp; omega
  obtain ⟨g1, g2, hg⟩ := hg
  clear g1 g2
  rcases hg with ⟨hk, g3⟩ | ⟨hk, hn, g3⟩ | ⟨hk, g3⟩ | ⟨hk, g3, hsz, g4⟩
  all_goals clear g3
  · skip
    have e2 : (kindOf t == 2) = false := by rw [hk]; rfl
    have e3 : (kindOf t == 3) = false := by rw [hk]; rfl
    have e4 : (kindOf t == 4) = false := by rw [hk]; rfl
    have e5 : (kindOf t == 5) = false := by rw [hk]; rfl
    have e6 : (kindOf t == 6) = false := by rw [hk]; rfl
    have HW : Hid (leafE t = [kindB t]) := by show _ = _; unfold leafE; rw [if_neg (by omega), if_neg (by omega), if_neg (by omega)]
    clear hk
    go_enter Tryz.func46, Tryz.ntmps46
    go_wp2_with (at_builtin; refine wpList_append_src _ rfl (.tmp 5) (.tmp 9) 63 63 rfl w0.heap.size 5 iB _ 1 1 Tryz.underlying63 hiB zB0 zB1 zB2 rfl r acc.length (bytesV acc) rfl HI1.out.row (.slice (some ⟨w.heap.size + 1, 0, none⟩) 1 1) 1 (bytesV [kindB t]) rfl HSb.out (by unfold maxLen; omega) (by omega) hbz ?_; intro r1 w1 hO1 hG1 hat1; have HQ1 := hid (HI1.out.grow (l := [kindB t]) hO1 hG1 hat1); clear hO1 hG1 hat1 HI1 HSb HB1 H0 hbz; obtain ⟨q0, q1, q2, q3, q4, hz⟩ := QG.box HR.out HQ1.out; have hb1 : w0.heap.size ≤ w1.heap.size := by omega)
    go_ret
    exact ⟨_, rfl, by rw [HW.out]; exact HQ1.out.from HR.out⟩
  · skip
    have e2 : (kindOf t == 2) = true := by rw [hk]; rfl
    have HW : Hid (leafE t = [kindB t] ++ [byAt (nOf t) 0]) := by show _ = _; unfold leafE; rw [if_pos hk]; rfl
    have fn : IntKind.u8.wrap (nOf t) = ((byAt (nOf t) 0).toNat : Int) := wrapB _
    have HSc := hid (fun w : World => srcE_built w [byAt (nOf t) 0])
    generalize hc : byAt (nOf t) 0 = c at fn HSc
    have Hc := hid hc
    clear hk hn hc
    go_enter Tryz.func46, Tryz.ntmps46
    go_wp2_with (first | (at_builtin; refine wpList_append_src _ rfl (.tmp 5) (.tmp 9) 63 63 rfl w0.heap.size 5 iB _ 1 1 Tryz.underlying63 hiB zB0 zB1 zB2 rfl r acc.length (bytesV acc) rfl HI1.out.row (.slice (some ⟨w.heap.size + 1, 0, none⟩) 1 1) 1 (bytesV [kindB t]) rfl HSb.out (by unfold maxLen; omega) (by omega) hbz ?_; intro r1 w1 hO1 hG1 hat1; have HQ1 := hid (HI1.out.grow (l := [kindB t]) hO1 hG1 hat1); clear hO1 hG1 hat1 HI1 HSb HB1 H0 hbz; obtain ⟨q0, q1, q2, q3, q4, hz⟩ := QG.box HR.out HQ1.out; have hb1 : w0.heap.size ≤ w1.heap.size := by omega) | (at_builtin; refine wpList_append_src _ rfl (.tmp 15) (.tmp 19) 63 63 rfl w0.heap.size 5 iB _ 1 1 Tryz.underlying63 hiB zB0 zB1 zB2 rfl r1 (acc ++ [kindB t]).length (bytesV (acc ++ [kindB t])) rfl (HQ1.out.keep ((Below.refl _ _).alloc (Nat.le_refl _) (.cells #[.int .u8 (c.toNat : Int)] 5))).row (.slice (some ⟨w1.heap.size, 0, none⟩) 1 1) 1 (bytesV [c]) rfl (HSc.out w1) (by simp only [List.length_append, List.length_cons, List.length_nil]; unfold maxLen; omega) (by simp only [List.length_append, List.length_cons, List.length_nil]; omega) (by simp; omega) ?_; intro r2 w2 hO2 hG2 hat2; have HQ2 := hid ((HQ1.out.keep ((Below.refl _ _).alloc (Nat.le_refl _) (.cells #[.int .u8 (c.toNat : Int)] 5))).grow (l := [c]) hO2 hG2 hat2); clear hO2 hG2 hat2))
    go_ret
    exact ⟨_, rfl, by rw [HW.out, Hc.out, ← List.append_assoc]; exact HQ2.out.from HR.out⟩
  · skip
    have e2 : (kindOf t == 2) = false := by rw [hk]; rfl
    have e3 : (kindOf t == 3) = true := by rw [hk]; rfl
    have HW : Hid (leafE t = [kindB t] ++ beL (nOf t) 8) := by show _ = _; unfold leafE; rw [if_neg (by omega), if_pos hk]; rfl
    obtain ⟨N, hN⟩ : ∃ N : Int, N = nOf t % 18446744073709551616 := ⟨_, rfl⟩
    have fn : IntKind.u64.wrap (nOf t) = N := by rw [hN, IntKind.wrap_u64]
    have HN : Hid (beL N 8 = beL (nOf t) 8) := by show _ = _; rw [hN]; exact beL_wrap _ 8 (by omega)
    have HN2 := hid (hN ▸ wrapU_nonneg (nOf t))
    clear hk hN
    go_enter Tryz.func46, Tryz.ntmps46
    go_wp2_with (at_builtin; refine wpList_append_src _ rfl (.tmp 5) (.tmp 9) 63 63 rfl w0.heap.size 5 iB _ 1 1 Tryz.underlying63 hiB zB0 zB1 zB2 rfl r acc.length (bytesV acc) rfl HI1.out.row (.slice (some ⟨w.heap.size + 1, 0, none⟩) 1 1) 1 (bytesV [kindB t]) rfl HSb.out (by unfold maxLen; omega) (by omega) hbz ?_; intro r1 w1 hO1 hG1 hat1; have HQ1 := hid (HI1.out.grow (l := [kindB t]) hO1 hG1 hat1); clear hO1 hG1 hat1 HI1 HSb HB1 H0 hbz; obtain ⟨q0, q1, q2, q3, q4, hz⟩ := QG.box HR.out HQ1.out; have hb1 : w0.heap.size ≤ w1.heap.size := by omega)
    rw [show (Value.int .i64 8) = .int .i64 ((8 : Nat) : Int) from rfl]
    refine (appNum_any w0 r1 (acc ++ [kindB t]) N 8 w1 HQ1.out.row hb1 HN2.out.1 HN2.out.2 (by omega) (by simp only [List.length_append, List.length_cons, List.length_nil]; omega)).mono ?_
    rintro e w2 ⟨r2, rfl, hq2⟩
    have HQ2 := hid (HQ1.out.trans hq2)
    clear hq2
    go_wp2_with fail
    go_ret
    exact ⟨_, rfl, by rw [HW.out, ← HN.out, ← List.append_assoc]; exact HQ2.out.from HR.out⟩
  · skip
    have e2 : (kindOf t == 2) = false := by rw [hk]; rfl
    have e3 : (kindOf t == 3) = false := by rw [hk]; rfl
    have e4 : (kindOf t == 4) = true := by rw [hk]; rfl
    have HW : Hid (leafE t = [kindB t] ++ beL (sOf t).size 4 ++ (sOf t).data.toList) := by show _ = _; unfold leafE; rw [if_neg (by omega), if_neg (by omega), if_pos hk]; simp
    generalize sOf t = s at *
    clear hk
    go_enter Tryz.func46, Tryz.ntmps46
    go_wp2_with (at_builtin; refine wpList_append_src _ rfl (.tmp 5) (.tmp 9) 63 63 rfl w0.heap.size 5 iB _ 1 1 Tryz.underlying63 hiB zB0 zB1 zB2 rfl r acc.length (bytesV acc) rfl HI1.out.row (.slice (some ⟨w.heap.size + 1, 0, none⟩) 1 1) 1 (bytesV [kindB t]) rfl HSb.out (by unfold maxLen; omega) (by omega) hbz ?_; intro r1 w1 hO1 hG1 hat1; have HQ1 := hid (HI1.out.grow (l := [kindB t]) hO1 hG1 hat1); clear hO1 hG1 hat1 HI1 HSb HB1 H0 hbz; obtain ⟨q0, q1, q2, q3, q4, hz⟩ := QG.box HR.out HQ1.out; have hb1 : w0.heap.size ≤ w1.heap.size := by omega)
    have fz : IntKind.u64.wrap (s.size : Int) = (s.size : Int) := by rw [IntKind.wrap_u64]; omega
    have HQd := hid (HQ1.out.keep (below_drew w1))
    have hbd : w0.heap.size ≤ w1.drew.heap.size := by simpa using hb1
    have hl2 : (acc ++ [kindB t]).length ≤ 100000001 := by simp only [List.length_append, List.length_cons, List.length_nil]; omega
    have HC := hid (appNum_any w0 r1 (acc ++ [kindB t]) (s.size : Int) 4 w1.drew HQd.out.row hbd (by omega) (by omega) (by omega) (by omega))
    have hl3 : ((acc ++ [kindB t]) ++ beL (s.size : Int) 4).length ≤ 100000005 := by rw [List.length_append, beL_len]; omega
    generalize hA : (acc ++ [kindB t]) ++ beL (s.size : Int) 4 = acc2 at HC hl3
    have HA := hid hA
    clear hA hl2 g4
    go_region_law (first | (refine step_append_src _ (by rfl) (.tmp 35) (.tmp 37) 63 9 (by rfl) w0.heap.size 5 iB _ 1 1 Tryz.underlying63 hiB zB0 zB1 zB2 rfl r2 acc2.length (bytesV acc2) (by rfl) HQ2.out.row (.string s) s.size (bytesV s.data.toList) (by rfl) (src_bytes _ Tryz.underlying9 s) (by unfold maxLen; omega) (by omega) hb2 ?_; intro r3 w3 hO3 hG3 hat3) | (go_simp; go_wp2_with (go_at_call 86; refine HC.out.mono ?_; rintro e w2 ⟨r2, rfl, hq2⟩; have HQ2 := hid (HQd.out.trans hq2); obtain ⟨p0, p1, p2, p3, p4, hz2⟩ := QG.box HR.out HQ2.out; have hb2 : w0.heap.size ≤ w2.heap.size := by omega)))
    all_goals
      have HQ3 := hid (HQ2.out.grow (l := s.data.toList) hO3 hG3 hat3)
      clear hO3 hG3 hat3 hq2 HQ2
      go_wp2_with fail
      go_ret
      exact ⟨_, rfl, by rw [HW.out, ← List.append_assoc, ← List.append_assoc, HA.out]; exact HQ3.out.from HR.out⟩
end Go.Proofs.YtknakfpciccoaaaGreatDoor
/- The walks of cmp.Compare, of the mark, and of the checker's small parts. -/
namespace Go.Proofs.YtknakfpciccoaaaGreatDoor
open Go.RowKit

set_option maxHeartbeats 400000 in
theorem cmpInt_any (a b : Int) (w : World) :
    Calls Tryz.prog 103 #[.int .i64 a, .int .i64 b] w fun e w' => e = .returned (.int .i64 (cmpI a b)) ∧ w' = w := by
  go_enter Tryz.func103, Tryz.ntmps103
  go_wp2
  all_goals (go_ret; refine ⟨?_, rfl⟩)
  · exact ret_int (cmpI_lt (by assumption)).symm
  · exact ret_int (cmpI_gt (by assumption)).symm
  · exact ret_int (cmpI_eq (by assumption) (by assumption)).symm
set_option maxHeartbeats 400000 in
theorem cmpInt64_any (a b : Int) (w : World) :
    Calls Tryz.prog 104 #[.int .i64 a, .int .i64 b] w fun e w' => e = .returned (.int .i64 (cmpI a b)) ∧ w' = w := by
  go_enter Tryz.func104, Tryz.ntmps104
  go_wp2
  all_goals (go_ret; refine ⟨?_, rfl⟩)
  · exact ret_int (cmpI_lt (by assumption)).symm
  · exact ret_int (cmpI_gt (by assumption)).symm
  · exact ret_int (cmpI_eq (by assumption) (by assumption)).symm
set_option maxHeartbeats 400000 in
theorem cmpString_any (a b : ByteArray) (w : World) :
    Calls Tryz.prog 105 #[.string a, .string b] w fun e w' => e = .returned (.int .i64 (cmpS a b)) ∧ w' = w := by
  go_enter Tryz.func105, Tryz.ntmps105
  go_wp2
  all_goals (go_ret; refine ⟨?_, rfl⟩)
  · exact ret_int (cmpS_lt (by assumption)).symm
  · exact ret_int (cmpS_gt (by assumption) (by assumption)).symm
  · exact ret_int (cmpS_eq (by assumption) (by assumption)).symm

def own3 : ByteArray := ⟨#[111, 119, 110]⟩
set_option maxHeartbeats 400000 in
theorem mark77_any (w : World) :
    Calls Tryz.prog 43 #[.int .i64 77] w fun e w' => e = .returned (.agg #[.int .i64 (-77), .int .i64 0, .string own3, .slice none 0 0, .slice none 0 0]) ∧ Below w.heap.size w w' := by
  go_enter Tryz.func43, Tryz.ntmps43
  go_wp2
  exact bodyPost_ret (v := .agg #[.int .i64 (-77), .int .i64 0, .string own3, .slice none 0 0, .slice none 0 0]) (by simp [results, Tryz.results43, go_sem, own3]) rfl ⟨rfl, (Below.refl _ _).alloc (Nat.le_refl _) _⟩

set_option maxHeartbeats 400000 in
theorem hasNoLists_any (f : Nat) (v : Value) (t : T) (w : World) (h : At w f v t) :
    Calls Tryz.prog 120 #[v] w fun e w' => e = .returned (.bool (noLists t)) ∧ Below w.heap.size w w' := by
  obtain ⟨f, La, Ka, Lc, Kc, rfl, rfl, hf, hl, hk⟩ := h.open
  clear h hf hl hk
  by_cases h1 : nL t = 0
  · have g1 : ((nL t : Int) == 0) = true := by simp [h1]
    have H1 := hid h1
    clear h1
    by_cases h2 : nK t = 0
    · have g2 : ((nK t : Int) == 0) = true := by simp [h2]
      have H2 := hid h2
      clear h2
      go_enter Tryz.func120, Tryz.ntmps120
      go_wp2_with fail
      go_ret
      exact ⟨ret_bool (by simp [noLists, H1.out, H2.out]), (Below.refl _ _).alloc (Nat.le_refl _) _⟩
    · have g2 : ((nK t : Int) == 0) = false := by simp; omega
      have H2 := hid h2
      clear h2
      go_enter Tryz.func120, Tryz.ntmps120
      go_wp2_with fail
      go_ret
      exact ⟨ret_bool (by simp [noLists, H1.out, H2.out]), (Below.refl _ _).alloc (Nat.le_refl _) _⟩
  · have g1 : ((nL t : Int) == 0) = false := by simp; omega
    have H1 := hid h1
    clear h1
    go_enter Tryz.func120, Tryz.ntmps120
    go_wp2_with fail
    go_ret
    exact ⟨ret_bool (by simp [noLists, H1.out]), (Below.refl _ _).alloc (Nat.le_refl _) _⟩

set_option maxHeartbeats 400000 in
theorem take_any (c : Nat) (l n : Int) (w : World) (hc : w.cell? ⟨c, 0, none⟩ = some (.int .i64 l)) (hz : w.frozen? ⟨c, 0, none⟩ = false) (l0 : -1000000 ≤ l) (l1 : l ≤ 1048576) (n0 : 0 ≤ n) (n1 : n ≤ 1000000) :
    Calls Tryz.prog 121 #[.pointer (some ⟨c, 0, none⟩), .int .i64 n] w fun e w' => e = .returned (.bool (decide (n ≤ l))) ∧ w' = w.setCell ⟨c, 0, none⟩ (.int .i64 (l - n)) := by
  go_enter Tryz.func121, Tryz.ntmps121
  go_wp2_with fail
  go_ret
  exact ⟨rfl, rfl⟩
end Go.Proofs.YtknakfpciccoaaaGreatDoor
/- The walk of areDifferent. -/
namespace Go.Proofs.YtknakfpciccoaaaGreatDoor
open Go.RowKit Go.Maps Go.WideMaps

theorem law9 : Keyed Tryz.prog 9 := string_keyed Tryz.underlying9
theorem make_hint (n : Int) (w : World) : (Instr.makeMap 203 (some (.int .i64 n))).run Tryz.prog w = .ok (.map (some w.heap.size)) (w.alloc (.map #[] 0)) := by kernel_rfl
set_option maxHeartbeats 400000 in
set_option maxRecDepth 100000 in
theorem different_any (Ka : Option Addr) (Kc : Nat) (t : T) (w : World) (hk : NamesAt w Ka t) (hn : nK t ≤ 8796093022208) :
    Calls Tryz.prog 141 #[.slice Ka (nK t) Kc] w fun e w' => e = .returned (.bool (!dupTo t (nK t))) ∧ Below w.heap.size w w' := by
  have hmm := make_hint (nK t)
  have hk' := hid hk
  clear hk
  have Hs := hid (size_Sn t)
  go_enter Tryz.func141, Tryz.ntmps141
  go_wp2_with fail
  go_loopg [11] (nK t) (fun g i wr => ∃ k : Nat, g = nK t - k ∧ k ≤ nK t ∧ i = .int .i64 k ∧ Hid (wr.ownsMap Tryz.prog 9 (unitElem (H := Unit)) w.heap.size k (Sn t k)) ∧ Hid (Below w.heap.size w wr))
  case atStart => exact ⟨0, rfl, Nat.zero_le _, rfl, by rw [Sn_zero]; exact World.ownsMap_made _ _ _ _, (Below.refl _ _).alloc (Nat.le_refl _) _⟩
  case round =>
    obtain ⟨k, rfl, hk1, rfl, Hown, Hnx⟩ := hrel
    by_cases hlt : k < nK t
    · obtain ⟨kb, ko, rfl, hkb, hks, hkc⟩ := hk'.out.keep Hnx.out k hlt
      have hkey : keyOf Tryz.prog 9 (.string (nam t k)) = some (keyAt t k) := keyOf_string_mk Tryz.underlying9 (by unfold maxLen; omega)
      go_wp2_with (first
        | (at_mapUpdate; refine wpList_mapUpdate_own _ rfl _ _ _ 203 rfl 9 204 law9 Tryz.underlying203 (unitElem (H := Unit)) w.heap.size k _ rfl Hown.out (by unfold maxLen; omega) _ _ _ rfl rfl hkey _ [] unitElem_mk ?_; intro w1 hown1 hgrow1)
        | fail)
      go_roundg (nK t - (k + 1))
      case rel => exact ⟨k + 1, rfl, by omega, by go_num, (Sn_succ t k).symm ▸ hown1, Hnx.out.grown hgrow1 Hnx.out.size (fun j hj => by cases hj; exact Nat.le_refl _)⟩
      case measure => omega
    · obtain rfl : k = nK t := by omega
      have hsz := (Hs.out (nK t)).1
      go_wp2_with (first
        | (at_len; refine wpList_len_own _ rfl _ 203 rfl 9 204 Tryz.underlying203 (unitElem (H := Unit)) w.heap.size (nK t) _ rfl Hown.out ?_)
        | fail)
      go_ret
      refine ⟨ret_bool ?_, Hnx.out⟩
      have := (Hs.out (nK t)).2
      cases hd : dupTo t (nK t) with
      | true =>
        rw [hd] at this
        simp
        intro e
        have := this.1 (by omega)
        cases this
      | false =>
        rw [hd] at this
        simp [this.2 rfl]
end Go.Proofs.YtknakfpciccoaaaGreatDoor
/- The walks of the checker's parts: a text, names. -/
namespace Go.Proofs.YtknakfpciccoaaaGreatDoor
open Go.RowKit

/-- What is asked of utf8.ValidString: her contract, where the tables lie as they must. -/
def ValidSaid (Tb : World → Prop) : Prop := ∀ (s : ByteArray) (w : World), s.size ≤ 9223372036854775807 → Tb w →
  Calls Tryz.prog 160 #[.string s] w fun e w' => e = .returned (.bool (okS s)) ∧ Below w.heap.size w w'
/-- The tables lie below a block. -/
def Stays (Tb : World → Prop) (c : Nat) : Prop := ∀ w w' : World, Tb w → Below c w w' → Tb w'

set_option maxHeartbeats 400000 in
theorem take2_any (c : Nat) (l n : Int) (w : World) (h : Holds c l w) (l0 : 0 ≤ l) (l1 : l ≤ 1048576) (n0 : 0 ≤ n) (n1 : n ≤ 1000000) :
    Calls Tryz.prog 121 #[.pointer (some ⟨c, 0, none⟩), .int .i64 n] w fun e w' => e = .returned (.bool (decide (n ≤ l))) ∧ Holds c (l - n) w' ∧ But c w w' := by
  refine (take_any c l n w h.cell h.free (by omega) l1 n0 n1).mono ?_
  rintro e w' ⟨rfl, rfl⟩
  exact ⟨rfl, (h.set _).1, (h.set _).2⟩

set_option maxHeartbeats 400000 in
theorem text_any {Tb : World → Prop} (hV : ValidSaid Tb) (c : Nat) (hS : Stays Tb c) (s : ByteArray) (l : Int) (w : World) (h : Holds c l w) (hT : Tb w) (l0 : 0 ≤ l) (l1 : l ≤ 1048576) (hs : s.size ≤ 140737488355328) :
    Calls Tryz.prog 122 #[.pointer (some ⟨c, 0, none⟩), .string s] w fun e w' => ChkPost c w (textO s l) e w' := by
  have H := hid h
  have HT := hid hT
  clear h hT
  by_cases h1 : s.size ≤ 4000
  · by_cases h2 : (s.size : Int) ≤ l
    · go_enter Tryz.func122, Tryz.ntmps122
      go_wp2_with fail
      refine (take2_any c l s.size w H.out l0 l1 (by omega) (by omega)).mono ?_
      rintro e w1 ⟨rfl, K1, B1⟩
      have HK1 := hid K1
      have HB1 := hid B1
      clear K1 B1
      go_wp2_with fail
      refine (hV s w1 (by omega) (hS _ _ HT.out (HB1.out.below (Nat.le_of_lt H.out.lt)))).mono ?_
      rintro e w2 ⟨rfl, B2⟩
      have HB2 := hid B2
      clear B2
      cases hv : okS s with
      | true =>
        have Hv := hid hv
        clear hv
        go_wp2_with fail
        go_ret
        exact ⟨HB1.out.trans (But.of HB2.out), l - s.size, HK1.out.keep HB2.out, Or.inl ⟨by unfold textO; rw [if_pos ⟨h1, h2, Hv.out⟩], by omega, by omega, rfl⟩⟩
      | false =>
        have Hv := hid hv
        clear hv
        go_wp2_with fail
        go_ret
        exact ⟨HB1.out.trans (But.of HB2.out), l - s.size, HK1.out.keep HB2.out, Or.inr ⟨by unfold textO; rw [if_neg (by rw [Hv.out]; simp)], rfl⟩⟩
    · go_enter Tryz.func122, Tryz.ntmps122
      go_wp2_with fail
      refine (take2_any c l s.size w H.out l0 l1 (by omega) (by omega)).mono ?_
      rintro e w1 ⟨rfl, K1, B1⟩
      have HK1 := hid K1
      have HB1 := hid B1
      clear K1 B1
      have hd : decide ((s.size : Int) ≤ l) = false := decide_eq_false (by omega)
      have H2 := hid h2
      clear h2
      go_wp2_with fail
      go_ret
      exact ⟨HB1.out, l - s.size, HK1.out, Or.inr ⟨by unfold textO; rw [if_neg (fun h => by have := H2.out; omega)], rfl⟩⟩
  · have H1 := hid h1
    have hd : decide ((s.size : Int) ≤ 4000) = false := decide_eq_false (by omega)
    clear h1
    go_enter Tryz.func122, Tryz.ntmps122
    go_wp2_with fail
    go_ret
    exact ⟨But.refl _ _, l, H.out, Or.inr ⟨by unfold textO; rw [if_neg (fun h => H1.out h.1)], rfl⟩⟩

set_option maxHeartbeats 1000000 in
theorem names_any {Tb : World → Prop} (hV : ValidSaid Tb) (c : Nat) (hS : Stays Tb c) (w0 : World) (hN : w0.heap.size ≤ c) (Ka : Option Addr) (Kc : Nat) (t : T) (l : Int) (w : World)
    (hk : NamesAt w0 Ka t) (hn : nK t ≤ 8796093022208) (hb0 : Below w0.heap.size w0 w) (h : Holds c l w) (hT : Tb w) (l0 : 0 ≤ l) (l1 : l ≤ 1048576) :
    Calls Tryz.prog 124 #[.pointer (some ⟨c, 0, none⟩), .slice Ka (nK t) Kc] w fun e w' => ChkPost c w (namesO t l) e w' := by
  have H := hid h
  have HT := hid hT
  have Hk := hid hk
  have Hb0 := hid hb0
  clear h hT hk hb0
  go_enter Tryz.func124, Tryz.ntmps124
  go_wp2_with fail
  go_loopg [9] (nK t) (fun g i wr => ∃ (k : Nat) (x : Int), g = nK t - k ∧ k ≤ nK t ∧ i = .int .i64 k ∧ 0 ≤ x ∧ x ≤ 1048576 ∧ Hid (namesL t k l = some x) ∧ Hid (Holds c x wr) ∧ Hid (But c w wr))
  case atStart => exact ⟨0, l, rfl, Nat.zero_le _, rfl, l0, l1, rfl, H, But.refl _ _⟩
  case round =>
    obtain ⟨k, x, rfl, hk1, rfl, x0, x1, HX, HH, HB⟩ := hrel
    have Hbr := hid (Hb0.out.trans ((HB.out.below (Nat.le_of_lt H.out.lt)).mono hN))
    by_cases hlt : k < nK t
    · obtain ⟨kb, ko, rfl, hkb, hks, hkc⟩ := Hk.out.keep Hbr.out k hlt
      go_wp2_with fail
      refine (take2_any c x 2 wr HH.out x0 x1 (by omega) (by omega)).mono ?_
      rintro e w1 ⟨rfl, K1, B1⟩
      have HK1 := hid K1
      have HB1 := hid B1
      clear K1 B1
      by_cases h2 : 2 ≤ x
      · go_wp2_with fail
        refine (text_any hV c hS (nam t k) (x - 2) w1 HK1.out (hS _ _ HT.out ((HB.out.trans HB1.out).below (Nat.le_of_lt H.out.lt))) (by omega) (by omega) hks).mono ?_
        rintro e w2 ⟨B2, l', K2, hr⟩
        have HB2 := hid B2
        have HK2 := hid K2
        clear B2 K2
        rcases hr with ⟨hr, y0, y1, rfl⟩ | ⟨hr, rfl⟩
        · have Hr := hid hr
          clear hr
          go_wp2_with fail
          go_roundg (nK t - (k + 1))
          case rel =>
            refine ⟨k + 1, l', rfl, by omega, by go_num, y0, y1, ?_, HK2, HB.out.trans (HB1.out.trans HB2.out)⟩
            show ((namesL t k l).bind fun x => (takeO 2 x).bind (textO (nam t k))) = _
            rw [HX.out]
            simp only [Option.bind_some, takeO, if_pos h2]
            exact Hr.out
          case measure => omega
        · have Hr := hid hr
          clear hr
          go_wp2_with fail
          go_ret
          refine ⟨HB.out.trans (HB1.out.trans HB2.out), l', HK2.out, Or.inr ⟨?_, rfl⟩⟩
          unfold namesO
          rw [namesL_none (j := k + 1) hlt]
          · rfl
          · show ((namesL t k l).bind fun x => (takeO 2 x).bind (textO (nam t k))) = _
            rw [HX.out]
            simp only [Option.bind_some, takeO, if_pos h2]
            exact Hr.out
      · have hd : decide ((2 : Int) ≤ x) = false := decide_eq_false h2
        have H2 := hid h2
        clear h2
        go_wp2_with fail
        go_ret
        refine ⟨HB.out.trans HB1.out, x - 2, HK1.out, Or.inr ⟨?_, rfl⟩⟩
        unfold namesO
        rw [namesL_none (j := k + 1) hlt]
        · rfl
        · show ((namesL t k l).bind fun x => (takeO 2 x).bind (textO (nam t k))) = _
          rw [HX.out]
          simp only [Option.bind_some, takeO]
          rw [if_neg (by have := H2.out; omega)]
          rfl
    · obtain rfl : k = nK t := by omega
      go_wp2_with fail
      refine (different_any Ka Kc t wr (Hk.out.keep Hbr.out) hn).mono ?_
      rintro e w1 ⟨rfl, B1⟩
      have HB1 := hid B1
      clear B1
      cases hd : dupTo t (nK t) with
      | true =>
        have Hd := hid hd
        clear hd
        go_wp2_with fail
        go_ret
        refine ⟨HB.out.trans (But.of HB1.out), x, HH.out.keep HB1.out, Or.inr ⟨?_, rfl⟩⟩
        unfold namesO
        rw [HX.out, Hd.out]
        rfl
      | false =>
        have Hd := hid hd
        clear hd
        go_wp2_with fail
        go_ret
        refine ⟨HB.out.trans (But.of HB1.out), x, HH.out.keep HB1.out, Or.inl ⟨?_, x0, x1, rfl⟩⟩
        unfold namesO
        rw [HX.out, Hd.out]
        rfl
end Go.Proofs.YtknakfpciccoaaaGreatDoor
/- The walks of the checker: values, and a value. -/
namespace Go.Proofs.YtknakfpciccoaaaGreatDoor
open Go.RowKit

/-- The contract of a value, so deep. -/
def ChkSaid (Tb : World → Prop) (c : Nat) (w0 : World) (m : Nat) : Prop := ∀ (f : Nat) (v : Value) (t : T) (l : Int) (w : World),
  At w0 f v t → Below w0.heap.size w0 w → Holds c l w → Tb w → 0 ≤ l → l ≤ 1048576 →
    Calls Tryz.prog 73 #[.pointer (some ⟨c, 0, none⟩), v, .int .i64 (12 - (m : Int))] w fun e w' => ChkPost c w (chkT m t l) e w'

set_option maxHeartbeats 1000000 in
theorem values_any {Tb : World → Prop} (c : Nat) (hS : Stays Tb c) (w0 : World) (hN : w0.heap.size ≤ c) (m : Nat) (ih : ChkSaid Tb c w0 m) (f : Nat) (La : Option Addr) (Lc : Nat) (t : T) (l : Int) (w : World)
    (hl : ElemsAt w0 f La t) (hn : nL t ≤ 1759218604442) (hb0 : Below w0.heap.size w0 w) (h : Holds c l w) (hT : Tb w) (l0 : 0 ≤ l) (l1 : l ≤ 1048576) :
    Calls Tryz.prog 123 #[.pointer (some ⟨c, 0, none⟩), .slice La (nL t) Lc, .int .i64 (12 - (m : Int))] w fun e w' => ChkPost c w (valuesL (chkT m) t (nL t) l) e w' := by
  have H := hid h
  have HT := hid hT
  have Hl := hid hl
  have Hb0 := hid hb0
  have Hih := hid ih
  clear h hT hl hb0 ih
  go_enter Tryz.func123, Tryz.ntmps123
  go_wp2_with fail
  go_loopg [11] (nL t) (fun g i wr => ∃ (k : Nat) (x : Int), g = nL t - k ∧ k ≤ nL t ∧ i = .int .i64 k ∧ 0 ≤ x ∧ x ≤ 1048576 ∧ Hid (valuesL (chkT m) t k l = some x) ∧ Hid (Holds c x wr) ∧ Hid (But c w wr))
  case atStart => exact ⟨0, l, rfl, Nat.zero_le _, rfl, l0, l1, rfl, H, But.refl _ _⟩
  case round =>
    obtain ⟨k, x, rfl, hk1, rfl, x0, x1, HX, HH, HB⟩ := hrel
    have Hbr := hid (Hb0.out.trans ((HB.out.below (Nat.le_of_lt H.out.lt)).mono hN))
    by_cases hlt : k < nL t
    · obtain ⟨b, o, A, B, C, D, rfl, hbl, p0, p1, p2, p3, p4, Ha⟩ := Hl.out.shape Hbr.out k hlt
      go_wp2_with fail
      have B1 : Below wr.heap.size wr (wr.alloc (.cells #[.int .i64 (kindOf (elt t k)), .int .i64 (nOf (elt t k)), .string (sOf (elt t k)), .slice A (nL (elt t k)) B, .slice C (nK (elt t k)) D] 25)) := (Below.refl _ _).alloc (Nat.le_refl _) _
      have HB1 := hid B1
      clear B1
      refine (Hih.out f _ (elt t k) x _ Ha.out (Hbr.out.trans (HB1.out.mono (Nat.le_trans hN (Nat.le_of_lt HH.out.lt)))) (HH.out.keep HB1.out) (hS _ _ (hS _ _ HT.out (HB.out.below (Nat.le_of_lt H.out.lt))) (HB1.out.mono (Nat.le_of_lt HH.out.lt))) x0 x1).mono ?_
      rintro e w2 ⟨B2, l', K2, hr⟩
      have HB2 := hid ((But.of HB1.out).trans B2)
      have HK2 := hid K2
      clear B2 K2
      have step : valuesL (chkT m) t (k + 1) l = chkT m (elt t k) x := by
        show (valuesL (chkT m) t k l).bind (chkT m (elt t k)) = _
        rw [HX.out]
        rfl
      have Hst := hid step
      clear step
      rcases hr with ⟨hr, y0, y1, rfl⟩ | ⟨hr, rfl⟩
      · have Hr := hid hr
        clear hr
        go_wp2_with fail
        go_roundg (nL t - (k + 1))
        case rel => exact ⟨k + 1, l', rfl, by omega, by go_num, y0, y1, Hst.out.trans Hr.out, HK2, HB.out.trans HB2.out⟩
        case measure => omega
      · have Hr := hid hr
        clear hr
        go_wp2_with fail
        go_ret
        exact ⟨HB.out.trans HB2.out, l', HK2.out, Or.inr ⟨valuesL_none hlt (Hst.out.trans Hr.out), rfl⟩⟩
    · obtain rfl : k = nL t := by omega
      go_wp2_with fail
      go_ret
      exact ⟨HB.out, x, HH.out, Or.inl ⟨HX.out, x0, x1, rfl⟩⟩
end Go.Proofs.YtknakfpciccoaaaGreatDoor
