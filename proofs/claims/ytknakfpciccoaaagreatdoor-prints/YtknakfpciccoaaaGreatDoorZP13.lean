import Derived.Test.YtknakfpciccoaaaGreatDoorZP12
import Derived.Test.YtknakfpciccoaaaGreatDoorZP4
import Derived.BigQuiet
import Derived.Deep.QuietTactic
/- The walk of written, of objects. -/
namespace Go.Proofs.YtknakfpciccoaaaGreatDoor
open Go.RowKit

set_option maxHeartbeats 4000000 in
set_option maxRecDepth 100000 in
theorem written_object (m : Nat) (ih : WtSaid m) (f : Nat) (t : T) (w : World) (La Ka : Option Addr) (Lc Kc : Nat) (hl : ElemsAt w f La t) (hkn : NamesAt w Ka t) (hnk : nK t = nL t) (hsz : ∀ i, i < nK t → (nam t i).size ≤ 1048576) (hn : nL t ≤ 1759218604442) (hg : ∀ i, i < nL t → Good m (elt t i)) (hk : kindOf t = 6) (hlen : (joinO (wrT m) t (nL t)).length + 2 ≤ 100000000) :
    Calls Tryz.prog 45 #[.agg #[.int .i64 (kindOf t), .int .i64 (nOf t), .string (sOf t), .slice La (nL t) Lc, .slice Ka (nK t) Kc]] w fun e w' => e = .returned (.string (baL (123 :: (joinO (wrT m) t (nL t) ++ [125])))) ∧ Below w.heap.size w w' := by
  have e1 : (kindOf t == 1) = false := by rw [hk]; rfl
  have e2 : (kindOf t == 2) = false := by rw [hk]; rfl
  have e3 : (kindOf t == 3) = false := by rw [hk]; rfl
  have e4 : (kindOf t == 4) = false := by rw [hk]; rfl
  have e6 : (kindOf t == 6) = true := by rw [hk]; rfl
  have Hl := hid hl
  have Hg := hid hg
  have Hih := hid ih
  have HK := hid hkn
  have HNK := hid hnk
  have HSZ := hid hsz
  have HM : Hid (∀ k, k ≤ nL t → (joinO (wrT m) t k).length + 2 ≤ 100000000) := hid (fun k hk => by have := joinO_mono (wrT m) t hk; omega)
  clear hl hg ih hk hlen hkn hnk hsz
  go_enter Tryz.func45, Tryz.ntmps45
  go_wp2_with fail
  go_loopg [3, 4] (nL t) (fun g o i wr => ∃ (k : Nat) (out : ByteArray), g = nL t - k ∧ k ≤ nL t ∧ o = .string out ∧ i = .int .i64 k ∧ Hid (out = baL (joinO (wrT m) t k)) ∧ Hid (Below (w.heap.size + 1) (w.alloc (.cells #[.int .i64 (kindOf t), .int .i64 (nOf t), .string (sOf t), .slice La (nL t) Lc, .slice Ka (nK t) Kc] 25)) wr))
  case atStart => exact ⟨0, ⟨#[]⟩, rfl, Nat.zero_le _, rfl, rfl, rfl, Below.refl _ _⟩
  case round =>
    obtain ⟨k, out, rfl, hk, rfl, rfl, HO, HB⟩ := hrel
    obtain ⟨q0, q1, q2, q3, q4, hz, hbw⟩ := box_facts HB.out
    have Hbr := hid hbw
    clear hbw
    by_cases hlt : k < nL t
    · have hltK : k < nK t := by have := HNK.out; omega
      obtain ⟨kb, ko, rfl, hkb, hks, hkc⟩ := HK.out.keep Hbr.out k hltK
      have hm1 := HM.out (k + 1) hlt
      have HG := hid (Hg.out k hlt)
      have hn2 : nK t ≤ 1759218604442 := by have := HNK.out; omega
      by_cases hk0 : k = 0
      · have HJ : Hid (joinO (wrT m) t (k + 1) = joinO (wrT m) t k ++ quoL (nam t k) ++ [58] ++ wrT m (elt t k)) := by show joinO (wrT m) t k ++ _ = _; rw [if_pos hk0]; simp
        rw [HJ.out] at hm1
        simp only [List.length_append, List.length_cons, List.length_nil] at hm1
        have hwl : (wrT m (elt t k)).length ≤ 100000000 := by omega
        have HQ := hid (quoted_any (nam t k) wr (HSZ.out k hltK))
        obtain ⟨c1, y1, g1⟩ := cat_ex out (baL (quoL (nam t k))) _ _ HO.out rfl (by (try simp only [List.length_append, List.length_cons, List.length_nil]); omega)
        obtain ⟨c2, y2, g2⟩ := cat_ex c1 ⟨#[58]⟩ _ [58] y1 rfl (by (try simp only [List.length_append, List.length_cons, List.length_nil]); omega)
        obtain ⟨c, y3, g3⟩ := cat_ex c2 (baL (wrT m (elt t k))) _ _ y2 rfl (by (try simp only [List.length_append, List.length_cons, List.length_nil]); omega)
        rw [← HJ.out] at y3
        have HY := hid y3
        clear y1 y2 y3 hm1 
        have HIH := hid (fun (w' : World) (v : Value) (ha : At w' f v (elt t k)) => Hih.out f v (elt t k) w' ha HG.out hwl)
        clear hwl
        generalize baL (wrT m (elt t k)) = s at HIH g3
        generalize baL (quoL (nam t k)) = s0 at HQ g1
        subst hk0
        simp only [Nat.add_zero] at hkc
        go_wp2_with fail
        refine HQ.out.mono ?_
        rintro e w2 ⟨rfl, hb2⟩
        have HB2 := hid (HB.out.trans (hb2.mono (by omega)))
        clear hb2 HQ q0 q1 q2 q3 q4 hkc
        obtain ⟨q0, q1, q2, q3, q4, hz2, hbw2⟩ := box_facts HB2.out
        obtain ⟨bb, o, A, B, C, D, rfl, hbl, p0, p1, p2, p3, p4, Ha⟩ := Hl.out.shape hbw2 0 hlt
        simp only [Nat.zero_mul, Nat.add_zero] at p0 p1 p2 p3 p4
        have HA := hid (At.keep hbw2 Ha.out)
        clear hbw2
        go_wp2_with fail
        refine (HIH.out _ _ HA.out).mono ?_
        rintro e w3 ⟨rfl, hb3⟩
        have HB3 := hid (HB2.out.trans (hb3.mono (by omega)))
        clear hb3
        go_wp2_with fail
        go_roundg (nL t - (0 + 1))
        case rel => exact ⟨0 + 1, c, rfl, by omega, rfl, by go_num, HY, HB3⟩
        case measure => omega
      · have HJ : Hid (joinO (wrT m) t (k + 1) = joinO (wrT m) t k ++ [44] ++ quoL (nam t k) ++ [58] ++ wrT m (elt t k)) := by show joinO (wrT m) t k ++ _ = _; rw [if_neg hk0]; simp
        rw [HJ.out] at hm1
        simp only [List.length_append, List.length_cons, List.length_nil] at hm1
        have hwl : (wrT m (elt t k)).length ≤ 100000000 := by omega
        have HQ := hid (quoted_any (nam t k) wr (HSZ.out k hltK))
        obtain ⟨c0, y0, g0⟩ := cat_ex out ⟨#[44]⟩ _ [44] HO.out rfl (by simp only [List.length_cons, List.length_nil]; omega)
        obtain ⟨c1, y1, g1⟩ := cat_ex c0 (baL (quoL (nam t k))) _ _ y0 rfl (by (try simp only [List.length_append, List.length_cons, List.length_nil]); omega)
        obtain ⟨c2, y2, g2⟩ := cat_ex c1 ⟨#[58]⟩ _ [58] y1 rfl (by (try simp only [List.length_append, List.length_cons, List.length_nil]); omega)
        obtain ⟨c, y3, g3⟩ := cat_ex c2 (baL (wrT m (elt t k))) _ _ y2 rfl (by (try simp only [List.length_append, List.length_cons, List.length_nil]); omega)
        rw [← HJ.out] at y3
        have HY := hid y3
        clear y1 y2 y3 hm1 y0
        have HIH := hid (fun (w' : World) (v : Value) (ha : At w' f v (elt t k)) => Hih.out f v (elt t k) w' ha HG.out hwl)
        clear hwl
        generalize baL (wrT m (elt t k)) = s at HIH g3
        generalize baL (quoL (nam t k)) = s0 at HQ g1
        have z0 : 0 < k := by omega
        have z1 : (0 : Int) < (k : Int) := by omega
        clear hk0
        go_wp2_with fail
        refine HQ.out.mono ?_
        rintro e w2 ⟨rfl, hb2⟩
        have HB2 := hid (HB.out.trans (hb2.mono (by omega)))
        clear hb2 HQ q0 q1 q2 q3 q4 hkc
        obtain ⟨q0, q1, q2, q3, q4, hz2, hbw2⟩ := box_facts HB2.out
        obtain ⟨bb, o, A, B, C, D, rfl, hbl, p0, p1, p2, p3, p4, Ha⟩ := Hl.out.shape hbw2 k hlt
        skip
        have HA := hid (At.keep hbw2 Ha.out)
        clear hbw2
        go_wp2_with fail
        refine (HIH.out _ _ HA.out).mono ?_
        rintro e w3 ⟨rfl, hb3⟩
        have HB3 := hid (HB2.out.trans (hb3.mono (by omega)))
        clear hb3
        go_wp2_with fail
        go_roundg (nL t - (k + 1))
        case rel => exact ⟨k + 1, c, rfl, by omega, rfl, by go_num, HY, HB3⟩
        case measure => omega
    · obtain rfl : k = nL t := by omega
      have hm0 := HM.out (nL t) hk
      obtain ⟨a1, y1, g1⟩ := cat_ex ⟨#[123]⟩ out [123] (joinO (wrT m) t (nL t)) rfl HO.out (by simp only [List.length_cons, List.length_nil]; omega)
      obtain ⟨a2, y2, g2⟩ := cat_ex a1 ⟨#[125]⟩ _ [125] y1 rfl (by simp only [List.length_cons, List.length_nil, List.length_append]; omega)
      have HE : Hid (a2 = baL (123 :: (joinO (wrT m) t (nL t) ++ [125]))) := by show _ = _; rw [y2]; simp
      clear y1 y2 hlt
      go_wp2_with fail
      go_ret
      exact ⟨by rw [← HE.out]; rfl, Hbr.out⟩
end Go.Proofs.YtknakfpciccoaaaGreatDoor
/- The walks of texts, Deep and twice. -/
namespace Go.Proofs.YtknakfpciccoaaaGreatDoor
open Go.RowKit

set_option maxHeartbeats 400000 in
theorem texts_any (a b : ByteArray) (w : World) :
    Calls Tryz.prog 171 #[.string a, .string b] w fun e w' => e = .returned (.int .i64 (cmpS a b)) ∧ w' = w := by
  go_enter Tryz.func171, Tryz.ntmps171
  go_wp2
  all_goals (go_ret; refine ⟨?_, rfl⟩)
  · exact ret_int (cmpS_lt (by assumption)).symm
  · exact ret_int (cmpS_gt (by assumption) (by assumption)).symm
  · exact ret_int (cmpS_eq (by assumption) (by assumption)).symm

set_option maxHeartbeats 400000 in
theorem Deep_any (f : Nat) (v : Value) (t : T) (w : World) (h : At w f v t) :
    Calls Tryz.prog 81 #[v] w fun e w' => e = .returned (.int .i64 (deepT 16 t)) ∧ Below w.heap.size w w' := by
  obtain ⟨f, La, Ka, Lc, Kc, rfl, rfl, hf, hl, hk⟩ := h.open
  have H := hid h
  clear h
  go_enter Tryz.func81, Tryz.ntmps81
  go_wp2_with fail
  have hb : Below w.heap.size w (w.alloc (.cells #[.int .i64 (kindOf t), .int .i64 (nOf t), .string (sOf t), .slice La (nL t) Lc, .slice Ka (nK t) Kc] 25)) := (Below.refl _ _).alloc (Nat.le_refl _) _
  refine (deep_any 16 _ _ _ _ (H.out.keep hb) (by omega)).mono ?_
  rintro e w2 ⟨rfl, hb2⟩
  go_wp2_with fail
  go_ret
  exact ⟨rfl, hb.trans (hb2.mono (by simp))⟩

set_option maxHeartbeats 400000 in
theorem twice_any (f : Nat) : ∀ (v : Value) (t : T) (w : World), At w f v t →
    Calls Tryz.prog 83 #[v] w fun e w' => e = .returned (.bool (twiceT f t)) ∧ Below w.heap.size w w' := by
  induction f with
  | zero => intro v t w h; exact h.elim
  | succ f ih =>
    intro v t w h
    obtain ⟨g, La, Ka, Lc, Kc, hg, rfl, hf, hl, hk⟩ := h.open
    obtain rfl : f = g := by omega
    have hlen := hf.l1
    have klen := hf.m1
    clear h hf
    go_enter Tryz.func83, Tryz.ntmps83
    go_wp2_with fail
    go_loopg [3, 4] (nK t) (fun g i z wr => ∃ k : Nat, g = nK t - k ∧ k ≤ nK t ∧ i = .int .i64 k ∧ Hid (dupTo t k = false) ∧ Below (w.heap.size + 1) (w.alloc (.cells #[.int .i64 (kindOf t), .int .i64 (nOf t), .string (sOf t), .slice La (nL t) Lc, .slice Ka (nK t) Kc] 25)) wr)
    case atStart => exact ⟨0, rfl, Nat.zero_le _, rfl, rfl, Below.refl _ _⟩
    case round =>
      obtain ⟨k, rfl, hk1, rfl, hd, hb⟩ := hrel
      obtain ⟨q0, q1, q2, q3, q4, hz, hbw⟩ := box_facts hb
      have Hb := hid hb
      clear hb
      by_cases hlt : k < nK t
      · obtain ⟨kb, ko, rfl, hkb, hks, hkc⟩ := hk.out.keep hbw k hlt
        go_wp2_with fail
        go_loopg [4] k (fun g z wx => ∃ j : Nat, g = k - j ∧ j ≤ k ∧ z = .int .i64 j ∧ Hid (dupIn t k j = false) ∧ Below (w.heap.size + 1) (w.alloc (.cells #[.int .i64 (kindOf t), .int .i64 (nOf t), .string (sOf t), .slice La (nL t) Lc, .slice (some ⟨kb, ko, none⟩) (nK t) Kc] 25)) wx)
        case atStart => exact ⟨0, rfl, Nat.zero_le _, rfl, rfl, Hb.out⟩
        case round =>
          obtain ⟨j, rfl, hj, rfl, hdj, hbx⟩ := hrel
          obtain ⟨x0, x1, x2, x3, x4, hzx, hbxw⟩ := box_facts hbx
          have Hbx := hid hbx
          clear hbx
          by_cases hjl : j < k
          · obtain ⟨kb1, ko1, e1, hkb1, hks1, hkc1⟩ := hk.out.keep hbxw k hlt
            obtain ⟨kb2, ko2, e2, hkb2, hks2, hkc2⟩ := hk.out.keep hbxw j (by omega)
            cases e1
            cases e2
            have b1 : (j : Int) < (nK t : Int) := by omega
            have b2 : (k : Int) < (nK t : Int) := by omega
            go_wp2_with fail
            go_quiet (fail)
            go_wp2_with fail
            · rename_i hq
              go_ret
              refine ⟨ret_bool ?_, ?_⟩
              · show true = (dupTo t (nK t) || anyL (twiceT f) t (nL t))
                rw [dup_found hlt hjl hq]
                rfl
              · exact below_drewN hbxw _
            · rename_i hq
              go_roundg (k - (j + 1))
              case rel =>
                refine ⟨j + 1, rfl, by omega, by go_num, ?_, below_drewN Hbx.out _⟩
                show (dupIn t k j || ((nam t k).toList == (nam t j).toList)) = false
                rw [hdj.out]
                simpa using hq
              case measure => omega
          · go_wp2_with fail
            obtain rfl : j = k := by omega
            go_roundg (nK t - (j + 1))
            case rel =>
              refine ⟨j + 1, rfl, by omega, by go_num, ?_, Hbx.out⟩
              show (dupTo t j || dupIn t j j) = false
              rw [hd.out, hdj.out]
              rfl
            case measure => omega
      · go_wp2_with fail
        obtain rfl : k = nK t := by omega
        go_loopg [5, 6] (nL t) (fun g i z wx => ∃ k : Nat, g = nL t - k ∧ k ≤ nL t ∧ i = .int .i64 k ∧ Hid (anyL (twiceT f) t k = false) ∧ Below (w.heap.size + 1) (w.alloc (.cells #[.int .i64 (kindOf t), .int .i64 (nOf t), .string (sOf t), .slice La (nL t) Lc, .slice Ka (nK t) Kc] 25)) wx)
        case atStart => exact ⟨0, rfl, Nat.zero_le _, rfl, rfl, Hb.out⟩
        case round =>
          obtain ⟨k, rfl, hk2, rfl, hd2, hbx⟩ := hrel
          obtain ⟨x0, x1, x2, x3, x4, hzx, hbxw⟩ := box_facts hbx
          have Hbx := hid hbx
          clear hbx
          by_cases hlt2 : k < nL t
          · obtain ⟨b, o, c0, c1, c2, c3, c4, rfl, hbl, p0, p1, p2, p3, p4, Ha⟩ := hl.out.keep hbxw k hlt2
            go_wp2_with fail
            refine (ih _ _ _ Ha.out).mono ?_
            rintro e w2 ⟨rfl, hb2⟩
            have hb3 := hid (Hbx.out.trans (hb2.mono (by omega)))
            cases hv : twiceT f (elt t k) with
            | true =>
              go_wp2_with fail
              go_ret
              refine ⟨ret_bool ?_, ((Below.refl _ _).alloc (Nat.le_refl _) _).trans (hb3.out.mono (by omega))⟩
              show true = (dupTo t (nK t) || anyL (twiceT f) t (nL t))
              rw [anyL_at hlt2 hv, Bool.or_true]
            | false =>
              go_wp2_with fail
              go_roundg (nL t - (k + 1))
              case rel =>
                refine ⟨k + 1, rfl, by omega, by go_num, ?_, hb3.out⟩
                show (anyL (twiceT f) t k || twiceT f (elt t k)) = false
                rw [hd2.out, hv]
                rfl
              case measure => omega
          · go_wp2_with fail
            obtain rfl : k = nL t := by omega
            go_ret
            refine ⟨ret_bool ?_, hbxw⟩
            show false = (dupTo t (nK t) || anyL (twiceT f) t (nL t))
            rw [hd.out, hd2.out]
            rfl
end Go.Proofs.YtknakfpciccoaaaGreatDoor
/- The walks of cells, vast and room. -/
namespace Go.Proofs.YtknakfpciccoaaaGreatDoor
open Go.RowKit

set_option maxHeartbeats 400000 in
theorem cells_any (m : Nat) : ∀ (f : Nat) (v : Value) (t : T) (l : Int) (w : World), At w f v t → m ≤ 100 → 0 ≤ l → l ≤ 1048576 →
    Calls Tryz.prog 39 #[v, .int .i64 l, .int .i64 m] w fun e w' => e = .returned (.int .i64 (cellsT m t l)) ∧ Below w.heap.size w w' ∧ -17592186044416 ≤ cellsT m t l ∧ cellsT m t l ≤ 1048576 := by
  induction m with
  | zero =>
    intro f v t l w h _ hl0 hl1
    obtain ⟨f, La, Ka, Lc, Kc, rfl, rfl, hf, hl, hk⟩ := h.open
    have hlen := hf.l1
    have klen := hf.m1
    clear h hf hl hk
    go_enter Tryz.func39, Tryz.ntmps39
    go_wp2_with fail
    go_loopg [1, 7] 1 (fun g x i wr => x = .int .i64 (l - nL t - nK t) ∧ i = .int .i64 0 ∧ wr = (w.alloc (.cells #[.int .i64 (kindOf t), .int .i64 (nOf t), .string (sOf t), .slice La (nL t) Lc, .slice Ka (nK t) Kc] 25)))
    case atStart => exact ⟨rfl, rfl, rfl⟩
    case round =>
      obtain ⟨rfl, rfl, rfl⟩ := hrel
      by_cases h1 : 0 < nL t
      · by_cases h2 : 0 ≤ l - nL t - nK t
        · go_wp2_with fail
          go_ret
          exact ⟨rfl, (Below.refl _ _).alloc (Nat.le_refl _) _, by simp only [cellsT]; omega, by simp only [cellsT]; omega⟩
        · go_wp2_with fail
          go_ret
          exact ⟨rfl, (Below.refl _ _).alloc (Nat.le_refl _) _, by simp only [cellsT]; omega, by simp only [cellsT]; omega⟩
      · go_wp2_with fail
        go_ret
        exact ⟨rfl, (Below.refl _ _).alloc (Nat.le_refl _) _, by simp only [cellsT]; omega, by simp only [cellsT]; omega⟩
  | succ m ih =>
    intro f v t l w h hm hl0 hl1
    obtain ⟨f, La, Ka, Lc, Kc, rfl, rfl, hf, hl, hk⟩ := h.open
    have hlen := hf.l1
    have klen := hf.m1
    clear h hf hk
    have hm1 : (0 : Int) < (m : Int) + 1 := by omega
    have em : ((m : Int) + 1 - 1) = (m : Int) := by omega
    have H0 : Hid (cellsT (m + 1) t l = cellsL (cellsT m) t (nL t) (l - nL t - nK t)) := rfl
    go_enter Tryz.func39, Tryz.ntmps39
    go_wp2_with fail
    go_loopg [1, 7] (nL t) (fun g y i wr => ∃ (k : Nat) (x : Int), g = nL t - k ∧ k ≤ nL t ∧ y = .int .i64 x ∧ i = .int .i64 k ∧ Hid (cellsL (cellsT m) t k (l - nL t - nK t) = x) ∧ -17592186044416 ≤ x ∧ x ≤ 1048576 ∧ Below (w.heap.size + 1) (w.alloc (.cells #[.int .i64 (kindOf t), .int .i64 (nOf t), .string (sOf t), .slice La (nL t) Lc, .slice Ka (nK t) Kc] 25)) wr)
    case atStart => exact ⟨0, _, rfl, Nat.zero_le _, rfl, rfl, rfl, by omega, by omega, Below.refl _ _⟩
    case round =>
      obtain ⟨k, x, rfl, hk, rfl, rfl, HX, hx0, hx1, hb⟩ := hrel
      obtain ⟨q0, q1, q2, q3, q4, hz, hbw⟩ := box_facts hb
      have Hb := hid hb
      clear hb
      by_cases hlt : k < nL t
      · by_cases hge : 0 ≤ x
        · obtain ⟨b, o, c0, c1, c2, c3, c4, rfl, hbl, p0, p1, p2, p3, p4, Ha⟩ := hl.out.keep hbw k hlt
          go_wp2_with fail
          refine (ih _ _ _ _ _ Ha.out (by omega) hge hx1).mono ?_
          rintro e w2 ⟨rfl, hb2, y0, y1⟩
          have hb3 := hid (Hb.out.trans (hb2.mono (by omega)))
          go_wp2_with fail
          go_roundg (nL t - (k + 1))
          case rel =>
            refine ⟨k + 1, _, rfl, by omega, rfl, by go_num, ?_, y0, y1, hb3.out⟩
            show (if 0 ≤ cellsL (cellsT m) t k (l - nL t - nK t) then cellsT m (elt t k) (cellsL (cellsT m) t k (l - nL t - nK t)) else cellsL (cellsT m) t k (l - nL t - nK t)) = _
            rw [HX.out, if_pos hge]
          case measure => omega
        · go_wp2_with fail
          go_ret
          have e : cellsT (m + 1) t l = x := by rw [H0.out, cellsL_stop hk (by rw [HX.out]; omega), HX.out]
          exact ⟨ret_int e.symm, hbw, by rw [e]; exact hx0, by rw [e]; exact hx1⟩
      · go_wp2_with fail
        go_ret
        have e : cellsT (m + 1) t l = x := by rw [H0.out, ← HX.out]; congr 1; omega
        exact ⟨ret_int e.symm, hbw, by rw [e]; exact hx0, by rw [e]; exact hx1⟩

def vastT (t : T) : Bool := decide (cellsT 16 t 1048576 < 0)
set_option maxHeartbeats 400000 in
theorem vast_any (f : Nat) (v : Value) (t : T) (w : World) (h : At w f v t) :
    Calls Tryz.prog 12 #[v] w fun e w' => e = .returned (.bool (vastT t)) ∧ Below w.heap.size w w' := by
  obtain ⟨f, La, Ka, Lc, Kc, rfl, rfl, hf, hl, hk⟩ := h.open
  have H := hid h
  clear h
  go_enter Tryz.func12, Tryz.ntmps12
  go_wp2_with fail
  have hb : Below w.heap.size w (w.alloc (.cells #[.int .i64 (kindOf t), .int .i64 (nOf t), .string (sOf t), .slice La (nL t) Lc, .slice Ka (nK t) Kc] 25)) := (Below.refl _ _).alloc (Nat.le_refl _) _
  refine (cells_any 16 _ _ _ _ _ (H.out.keep hb) (by omega) (by omega) (by omega)).mono ?_
  rintro e w2 ⟨rfl, hb2, y0, y1⟩
  have hb3 := hid (hb.trans (hb2.mono (by simp)))
  generalize hv : cellsT 16 t 1048576 = X at y0 y1 ⊢
  have Hv := hid hv
  clear hv
  go_wp2_with fail
  go_ret
  exact ⟨ret_bool (by unfold vastT; rw [Hv.out]), hb3.out⟩

set_option maxHeartbeats 400000 in
theorem room_any (m : Nat) : ∀ (f : Nat) (v : Value) (t : T) (l : Int) (w : World), At w f v t → m ≤ 100 → -140737488355330 ≤ l → l ≤ 1048576 →
    Calls Tryz.prog 80 #[v, .int .i64 l, .int .i64 ((m : Int) - 1)] w fun e w' => e = .returned (.int .i64 (roomT m t l)) ∧ Below w.heap.size w w' ∧ -281474976710700 ≤ roomT m t l ∧ roomT m t l ≤ 1048576 := by
  induction m with
  | zero =>
    intro f v t l w h _ hl0 hl1
    obtain ⟨f, La, Ka, Lc, Kc, rfl, rfl, hf, hl, hk⟩ := h.open
    clear h hf hl hk
    go_enter Tryz.func80, Tryz.ntmps80
    go_wp2_with fail
    go_ret
    exact ⟨rfl, (Below.refl _ _).alloc (Nat.le_refl _) _, by simp [roomT], by simp [roomT]⟩
  | succ m ih =>
    intro f v t l w h hm hl0 hl1
    obtain ⟨f, La, Ka, Lc, Kc, rfl, rfl, hf, hl, hk⟩ := h.open
    have hlen := hf.l1
    have klen := hf.m1
    have slen := hf.s1
    clear h hf
    have em : (((m + 1 : Nat) : Int) - 1) = (m : Int) := by omega
    rw [em]
    have e0 : ¬ ((m : Int) < 0) := by omega
    by_cases k2 : kindOf t = 2
    · have g2 : (kindOf t == 2) = true := by simp [k2]
      have H0 : Hid (roomT (m + 1) t l = l - 2) := by show roomT (m + 1) t l = _; simp only [roomT, k2, if_true]
      clear k2
      go_enter Tryz.func80, Tryz.ntmps80
      go_wp2_with fail
      go_ret
      refine ⟨ret_int (by rw [H0.out]; omega), (Below.refl _ _).alloc (Nat.le_refl _) _, by rw [H0.out]; omega, by rw [H0.out]; omega⟩
    by_cases k3 : kindOf t = 3
    · have g2 : (kindOf t == 2) = false := by simp [k3]
      have g3 : (kindOf t == 3) = true := by simp [k3]
      have H0 : Hid (roomT (m + 1) t l = l - 9) := by show roomT (m + 1) t l = _; simp [roomT, k3]
      clear k2 k3
      go_enter Tryz.func80, Tryz.ntmps80
      go_wp2_with fail
      go_ret
      refine ⟨ret_int (by rw [H0.out]; omega), (Below.refl _ _).alloc (Nat.le_refl _) _, by rw [H0.out]; omega, by rw [H0.out]; omega⟩
    by_cases k4 : kindOf t = 4
    · have g2 : (kindOf t == 2) = false := by simp [k4]
      have g3 : (kindOf t == 3) = false := by simp [k4]
      have g4 : (kindOf t == 4) = true := by simp [k4]
      have H0 : Hid (roomT (m + 1) t l = l - 5 - (sOf t).size) := by show roomT (m + 1) t l = _; simp [roomT, k4]
      clear k2 k3 k4
      go_enter Tryz.func80, Tryz.ntmps80
      go_wp2_with fail
      go_ret
      refine ⟨ret_int (by rw [H0.out]; omega), (Below.refl _ _).alloc (Nat.le_refl _) _, by rw [H0.out]; omega, by rw [H0.out]; omega⟩
    by_cases k5 : isBox t = true
    · have g2 : (kindOf t == 2) = false := by simp [k2]
      have g3 : (kindOf t == 3) = false := by simp [k3]
      have g4 : (kindOf t == 4) = false := by simp [k4]
      have H0 : Hid (roomT (m + 1) t l = roomL (roomT m) t (nL t) (l - 5)) := by show roomT (m + 1) t l = _; simp [roomT, k2, k3, k4, k5]
      have K6 : Hid (kindOf t = 6 ↔ (kindOf t == 6) = true) := by simp [Hid]
      have g5 : (kindOf t == 5) = true ∧ (kindOf t == 6) = false ∨ (kindOf t == 5) = false ∧ (kindOf t == 6) = true := by
        simp only [isBox, Bool.or_eq_true, beq_iff_eq] at k5
        rcases k5 with h5 | h5 <;> simp [h5]
      clear k2 k3 k4 k5
      rcases g5 with ⟨g5, g6⟩ | ⟨g5, g6⟩
      all_goals
        go_enter Tryz.func80, Tryz.ntmps80
        go_wp2_with fail
        go_loopg [1, 7] (nL t) (fun g y i wr => ∃ (k : Nat) (x : Int), g = nL t - k ∧ k ≤ nL t ∧ y = .int .i64 x ∧ i = .int .i64 k ∧ Hid (roomL (roomT m) t k (l - 5) = x) ∧ -281474976710700 ≤ x ∧ x ≤ 1048576 ∧ Below (w.heap.size + 1) (w.alloc (.cells #[.int .i64 (kindOf t), .int .i64 (nOf t), .string (sOf t), .slice La (nL t) Lc, .slice Ka (nK t) Kc] 25)) wr)
        case atStart => exact ⟨0, l - 5, rfl, Nat.zero_le _, by go_num, rfl, rfl, by omega, by omega, Below.refl _ _⟩
        case round =>
          obtain ⟨k, x, rfl, hk1, rfl, rfl, HX, hx0, hx1, hb⟩ := hrel
          obtain ⟨q0, q1, q2, q3, q4, hz, hbw⟩ := box_facts hb
          have Hb := hid hb
          clear hb
          by_cases hlt : k < nL t
          · by_cases hge : 0 ≤ x
            · obtain ⟨b, o, c0, c1, c2, c3, c4, rfl, hbl, p0, p1, p2, p3, p4, Ha⟩ := hl.out.keep hbw k hlt
              have fin : ∀ (y : Int), Hid (x - nameCost t k = y) → Hid (roomL (roomT m) t (k + 1) (l - 5) = roomT m (elt t k) y) := by
                intro y hy
                show (if 0 ≤ roomL (roomT m) t k (l - 5) then roomT m (elt t k) (roomL (roomT m) t k (l - 5) - nameCost t k) else roomL (roomT m) t k (l - 5)) = _
                rw [HX.out, if_pos hge, hy.out]
              by_cases hkk : k < nK t
              · obtain ⟨kb, ko, rfl, hkb, hks, hkc⟩ := hk.out.keep hbw k hkk
                go_wp2_with fail
                refine (ih _ _ _ _ _ Ha.out (by omega) (by omega) (by omega)).mono ?_
                rintro e w2 ⟨rfl, hb2, y0, y1⟩
                have hb3 := hid (Hb.out.trans (hb2.mono (by omega)))
                go_wp2_with fail
                go_roundg (nL t - (k + 1))
                case rel =>
                  refine ⟨k + 1, _, rfl, by omega, rfl, by go_num, fin _ ?_, y0, y1, hb3.out⟩
                  show x - nameCost t k = _
                  unfold nameCost
                  first
                    | (rw [if_neg (fun h => by have := K6.out.1 h.1; rw [g6] at this; cases this)]; omega)
                    | (rw [if_pos ⟨K6.out.2 g6, hkk⟩]; omega)
                case measure => omega
              · go_wp2_with fail
                refine (ih _ _ _ _ _ Ha.out (by omega) (by omega) (by omega)).mono ?_
                rintro e w2 ⟨rfl, hb2, y0, y1⟩
                have hb3 := hid (Hb.out.trans (hb2.mono (by omega)))
                go_wp2_with fail
                go_roundg (nL t - (k + 1))
                case rel =>
                  refine ⟨k + 1, _, rfl, by omega, rfl, by go_num, fin _ ?_, y0, y1, hb3.out⟩
                  show x - nameCost t k = _
                  unfold nameCost
                  rw [if_neg (fun h => hkk h.2)]
                  omega
                case measure => omega
            · go_wp2_with fail
              go_ret
              have e : roomT (m + 1) t l = x := by rw [H0.out, roomL_stop hk1 (by rw [HX.out]; omega), HX.out]
              exact ⟨ret_int e.symm, hbw, by rw [e]; exact hx0, by rw [e]; exact hx1⟩
          · go_wp2_with fail
            go_ret
            have e : roomT (m + 1) t l = x := by rw [H0.out, ← HX.out]; congr 1; omega
            exact ⟨ret_int e.symm, hbw, by rw [e]; exact hx0, by rw [e]; exact hx1⟩
    · have g2 : (kindOf t == 2) = false := by simp [k2]
      have g3 : (kindOf t == 3) = false := by simp [k3]
      have g4 : (kindOf t == 4) = false := by simp [k4]
      have H0 : Hid (roomT (m + 1) t l = l - 1) := by show roomT (m + 1) t l = _; simp [roomT, k2, k3, k4, k5]
      have g5 : (kindOf t == 5) = false ∧ (kindOf t == 6) = false := by simp [isBox] at k5; simp; exact k5
      obtain ⟨g5, g6⟩ := g5
      clear k2 k3 k4 k5
      go_enter Tryz.func80, Tryz.ntmps80
      go_wp2_with fail
      go_ret
      refine ⟨ret_int (by rw [H0.out]), (Below.refl _ _).alloc (Nat.le_refl _) _, by rw [H0.out]; omega, by rw [H0.out]; omega⟩
end Go.Proofs.YtknakfpciccoaaaGreatDoor
