import Derived.Test.YtknakfpciccoaaaGreatDoorZT20
import Derived.Test.YtknakfpciccoaaaGreatDoorZT6
import Derived.Test.YtknakfpciccoaaaGreatDoorZT1
import Derived.BigQuiet
import Derived.Deep.QuietTactic
import Derived.Deep.RegionHeld
/- The walk of appendEntries. -/
namespace Go.Proofs.YtknakfpciccoaaaGreatDoor
open Go.RowKit

theorem splice_mid (a z b c : List UInt8) (h : z.length = 4) : (a ++ z ++ c).take a.length ++ (b ++ (a ++ z ++ c).drop (a.length + 4)) = a ++ (b ++ c) := by
  have e1 : (a ++ z ++ c).take a.length = a := by rw [List.append_assoc]; exact List.take_left
  have e2 : (a ++ z ++ c).drop (a.length + 4) = c := by rw [← h, ← List.length_append]; exact List.drop_left
  rw [e1, e2]
theorem rowE_src {w : World} {lo : Nat} {l : List UInt8} {v : Value} {n g cap : Nat} (h : w.ownsRow lo 5 1 v n (bytesV ([] ++ l))) (hv : v = .slice (some ⟨g, 0, none⟩) n cap) : ∀ j u, (bytesV l)[j]? = some u → w.cell? ((⟨g, 0, none⟩ : Addr).add j) = some u := by
  subst hv
  exact h.cells (g := g) rfl
set_option maxHeartbeats 4000000 in
set_option maxRecDepth 100000 in
theorem appEnt_any (w0 : World) (m : Nat) (ih : AvSaid w0 m) (f : Nat) (La Ka : Option Addr) (Lc Kc : Nat) (t : T) (acc : List UInt8) (r : Value) (w : World)
    (hl : ElemsAt w0 f La t) (hkn : NamesAt w0 Ka t) (hn : nL t ≤ 1759218604442) (hnk : kindOf t = 6 → nK t = nL t) (hg : ∀ i, i < nL t → Good m (elt t i)) (hb : Below w0.heap.size w0 w) (hr : w.ownsRow w0.heap.size 5 1 r acc.length (bytesV acc))
    (hlen : acc.length + (catB (encT m) t (nL t)).length + 4 ≤ 100000000) :
    Calls Tryz.prog 87 #[r, .agg #[.int .i64 (kindOf t), .int .i64 (nOf t), .string (sOf t), .slice La (nL t) Lc, .slice Ka (nK t) Kc]] w fun e w' => ∃ r', e = .returned r' ∧ QG w0 r w r' (acc ++ (beL (catB (encT m) t (nL t)).length 4 ++ catB (encT m) t (nL t))) w' := by
  obtain ⟨iB, hiB, zB0, zB1, zB2⟩ := info_parts infoBE
  have HR := hid hr
  have H0 : Hid (QG w0 r (w.alloc (.cells #[.int .i64 (kindOf t), .int .i64 (nOf t), .string (sOf t), .slice La (nL t) Lc, .slice Ka (nK t) Kc] 25)) r acc (w.alloc (.cells #[.int .i64 (kindOf t), .int .i64 (nOf t), .string (sOf t), .slice La (nL t) Lc, .slice Ka (nK t) Kc] 25))) := QG.here HR.out
  have HB1 : Hid (Below w0.heap.size w0 (w.alloc (.cells #[.int .i64 (kindOf t), .int .i64 (nOf t), .string (sOf t), .slice La (nL t) Lc, .slice Ka (nK t) Kc] 25))) := hb.alloc hb.size _
  have HC0 := hid (appNum_any w0 r acc 0 4 _ H0.out.row HB1.out.size (by omega) (by omega) (by omega) (by omega))
  obtain ⟨A0, c0, hs0⟩ := rowE_shape0 hr
  have Hih := hid ih
  have Hl := hid hl
  have HK := hid hkn
  have Hg := hid hg
  have HNK := hid hnk
  have hl0 : acc.length ≤ 100000000 := by omega
  obtain ⟨p, hp⟩ : ∃ p, p = acc.length := ⟨_, rfl⟩
  have HM : Hid (∀ k, k ≤ nL t → (catB (encT m) t k).length + p + 4 ≤ 100000000) := hid (fun k hk => by have := catB_mono (encT m) t hk; omega)
  rw [← hp] at hs0 hl0
  have Hp := hid hp
  have Hs0 := hid hs0
  clear hr ih hl hkn hg hb hlen hnk hp
  go_enter Tryz.func87, Tryz.ntmps87
  rw [hs0]
  clear hs0
  go_wp2_with fail
  rw [← Hs0.out]
  refine HC0.out.mono ?_
  rintro e w1 ⟨r1, rfl, hq1⟩
  obtain ⟨q0, q1, q2, q3, q4, hz⟩ := QG.box HR.out hq1
  obtain ⟨A1, c1, hs1⟩ := rowE_shape0 hq1.row
  rw [List.length_append, beL_len, ← Hp.out] at hs1
  have Hs1 := hid hs1
  subst hs1
  have HQ1 := hid hq1
  clear hq1 HC0
  go_wp2_with fail
  clear q0 q1 q2 q3 q4 hz
  go_loopg [0, 18] (nL t) (fun g o i wr => ∃ k : Nat, g = nL t - k ∧ k ≤ nL t ∧ i = .int .i64 k ∧ Hid (QG w0 r (w.alloc (.cells #[.int .i64 (kindOf t), .int .i64 (nOf t), .string (sOf t), .slice La (nL t) Lc, .slice Ka (nK t) Kc] 25)) o (acc ++ beL 0 4 ++ catB (encT m) t k) wr))
  case atStart => exact ⟨0, rfl, Nat.zero_le _, rfl, HQ1.out.acc (by simp [catB])⟩
  case round =>
    obtain ⟨k, rfl, hk, rfl, HQ⟩ := hrel
    obtain ⟨q0, q1, q2, q3, q4, hz⟩ := QG.box HR.out HQ.out
    have Hbr := hid (HQ.out.below H0.out.row HB1.out)
    by_cases hlt : k < nL t
    · obtain ⟨bb, oo, A, B, C, D, rfl, hbl, p0, p1, p2, p3, p4, Ha⟩ := Hl.out.shape Hbr.out k hlt
      have hm1 := HM.out (k + 1) hlt
      have HG := hid (Hg.out k hlt)
      have HBi : Hid (Below wr.heap.size wr (wr.alloc (.cells #[.int .i64 (kindOf (elt t k)), .int .i64 (nOf (elt t k)), .string (sOf (elt t k)), .slice A (nL (elt t k)) B, .slice C (nK (elt t k)) D] 25))) := (Below.refl _ _).alloc (Nat.le_refl _) _
      have HX := hid (HQ.out.keep HBi.out)
      have Hb2 := hid (Hbr.out.trans (HBi.out.mono Hbr.out.size))
      by_cases k6 : kindOf t = 6
      · have e6 : (kindOf t == 6) = true := by simpa using k6
        have hltK : k < nK t := by have := HNK.out k6; omega
        have hn2 : nK t ≤ 1759218604442 := by have := HNK.out k6; omega
        obtain ⟨kb, ko, rfl, hkb, hks, hkc⟩ := HK.out k hltK
        have HN : Hid (∀ wx, Below w0.heap.size w0 wx → wx.cell? ⟨kb, ko + k, none⟩ = some (.string (nam t k))) := hid (fun wx hB => (hB.cell (p := ⟨kb, ko + k, none⟩) hkb).trans hkc)
        have HJ : Hid (catB (encT m) t (k + 1) = catB (encT m) t k ++ beL (nam t k).size 2 ++ (nam t k).data.toList ++ encT m (elt t k)) := by show catB (encT m) t k ++ _ = _; unfold nameE; rw [if_pos k6]; simp
        rw [HJ.out] at hm1
        have hsz : (nam t k).data.toList.length = (nam t k).size := rfl
        simp only [List.length_append, beL_len, hsz] at hm1
        have hkw := HN.out _ Hb2.out
        clear k6 hkc hsz
        generalize nam t k = s at *
        have fz : IntKind.u64.wrap (s.size : Int) = (s.size : Int) := by rw [IntKind.wrap_u64]; omega
        have hpl : p = acc.length := Hp.out
        have hlK : (acc ++ beL 0 4 ++ catB (encT m) t k).length = p + 4 + (catB (encT m) t k).length := by rw [List.length_append, List.length_append, beL_len, hpl]
        clear hpl
        have HC := hid (appNum_any w0 u0 (acc ++ beL 0 4 ++ catB (encT m) t k) (s.size : Int) 2 _ HX.out.row Hb2.out.size (by omega) (by omega) (by omega) (by omega))
        generalize hL : acc ++ beL 0 4 ++ catB (encT m) t k = accK at *
        have HL := hid hL
        have HlK := hid hlK
        clear hL hlK
        go_wp2_with fail
        refine HC.out.mono ?_
        rintro e w2 ⟨r2, rfl, hq2⟩
        have HQ2 := hid (HX.out.trans hq2)
        have HI2 := hid hq2
        have Hbw2 := hid (HQ2.out.below H0.out.row HB1.out)
        clear hq2 q0 q1 q2 q3 q4 hz HC hkw
        obtain ⟨q0, q1, q2, q3, q4, hz⟩ := QG.box HR.out HQ2.out
        have hkw := HN.out _ Hbw2.out
        have hlen2 : (accK ++ beL (s.size : Int) 2).length ≤ 100000000 := by have := HlK.out; rw [List.length_append, beL_len]; omega
        generalize hL2 : accK ++ beL (s.size : Int) 2 = acc2 at *
        have HL2 := hid hL2
        clear hL2
        go_wp2_with (at_builtin; refine wpList_append_src _ rfl (.tmp 35) (.tmp 40) 63 9 rfl w0.heap.size 5 iB _ 1 1 Tryz.underlying63 hiB zB0 zB1 zB2 rfl r2 acc2.length (bytesV acc2) rfl HI2.out.row (.string s) s.size (bytesV s.data.toList) rfl (src_bytes _ Tryz.underlying9 s) (by unfold maxLen; omega) (by omega) Hbw2.out.size ?_; intro r3 w3 hO3 hG3 hat3; have HI3 := hid (HI2.out.grow (l := s.data.toList) hO3 hG3 hat3); clear hO3 hG3 hat3; obtain ⟨j0, j1, j2, j3, j4, jz⟩ := QG.box HQ.out.row HI3.out)
        have HX3 := hid (HX.out.trans HI3.out)
        have hlen3 : (acc2 ++ s.data.toList).length + (encT m (elt t k)).length ≤ 100000000 := by
          have h1 := HlK.out
          have h2 : s.data.toList.length = s.size := rfl
          rw [← HL2.out, List.length_append, List.length_append, beL_len, h2]
          omega
        refine (Hih.out f _ (elt t k) (acc2 ++ s.data.toList) r3 w3 Ha.out HG.out (HX3.out.below H0.out.row HB1.out) HX3.out.row hlen3).mono ?_
        rintro e w4 ⟨r4, rfl, hq4⟩
        have HQ4 := hid (HX3.out.trans hq4)
        clear hq4 q0 q1 q2 q3 q4 hz j0 j1 j2 j3 j4 jz hkw
        go_wp2_with fail
        go_roundg (nL t - (k + 1))
        case rel => exact ⟨k + 1, rfl, by omega, by go_num, HQ4.out.acc (by rw [HJ.out, ← HL2.out, ← HL.out]; simp)⟩
        case measure => omega
      · have e6 : (kindOf t == 6) = false := by simpa using k6
        have HJ : Hid (catB (encT m) t (k + 1) = catB (encT m) t k ++ encT m (elt t k)) := by show catB (encT m) t k ++ _ = _; unfold nameE; rw [if_neg k6]; simp
        rw [HJ.out] at hm1
        clear k6
        go_wp2_with fail
        refine (Hih.out f _ (elt t k) _ u0 _ Ha.out HG.out Hb2.out HX.out.row (by rw [List.length_append] at hm1; rw [List.length_append, List.length_append, beL_len, ← Hp.out]; omega)).mono ?_
        rintro e w2 ⟨r2, rfl, hq2⟩
        have HQ2 := hid (HX.out.trans hq2)
        clear hq2 q0 q1 q2 q3 q4 hz
        go_wp2_with fail
        go_roundg (nL t - (k + 1))
        case rel => exact ⟨k + 1, rfl, by omega, by go_num, HQ2.out.acc (by rw [HJ.out]; simp)⟩
        case measure => omega
    · obtain rfl : k = nL t := by omega
      have hm0 := HM.out (nL t) hk
      obtain ⟨L, hL⟩ : ∃ L, L = (catB (encT m) t (nL t)).length := ⟨_, rfl⟩
      have hlen : (acc ++ beL 0 4 ++ catB (encT m) t (nL t)).length = p + 4 + L := by rw [List.length_append, List.length_append, beL_len, ← Hp.out, hL]
      obtain ⟨g, cap, hs, hcap, hcm⟩ := rowE_shape HQ.out.row (by omega)
      obtain ⟨n, hn3⟩ : ∃ n, n = p + 4 + L := ⟨_, rfl⟩
      rw [hlen, ← hn3] at hs hcap
      rw [← hL] at hm0
      have f1 : IntKind.i64.wrap ((n : Int) - ((p : Int) + 4)) = (L : Int) := by rw [IntKind.wrap_i64]; omega
      have f2 : IntKind.u64.wrap (L : Int) = (L : Int) := by rw [IntKind.wrap_u64]; omega
      have f3 : p + 4 ≤ cap := by omega
      have HQd := hid (HQ.out.keep (below_drew wr))
      have hbd : w0.heap.size ≤ wr.drew.heap.size := by have := Hbr.out.size; simpa using this
      have HC := hid (appNum_any w0 (.slice none 0 0) [] (L : Int) 4 wr.drew (World.ownsRow_nil _ _ _ _) hbd (by omega) (by omega) (by omega) (by simp))
      have x1 : (0 : Int) ≤ (p : Int) + 4 := by omega
      have x2 : (p : Int) + 4 ≤ (cap : Int) := by omega
      have x3 : ((p : Int) + 4).toNat = p + 4 := by omega
      have x5 : (cap = p) = False := by simp only [eq_iff_iff, iff_false]; omega
      have HL := hid hL
      have Hn3 := hid hn3
      have Hlen := hid hlen
      clear hL hn3 hlen hm0 hcap hcm hlt
      subst hs
      have HCP := hid (fun (w5 : World) (h5 : QG w0 r (w.alloc (.cells #[.int .i64 (kindOf t), .int .i64 (nOf t), .string (sOf t), .slice La (nL t) Lc, .slice Ka (nK t) Kc] 25)) (.slice (some ⟨g, 0, none⟩) n cap) (acc ++ beL 0 4 ++ catB (encT m) t (nL t)) w5) => QG.copy (off := p) (cs := beL (L : Int) 4) (out := acc ++ (beL (L : Int) 4 ++ catB (encT m) t (nL t))) (by rw [Hlen.out, Hn3.out]) h5 (by rw [Hlen.out, beL_len]; omega) (by rw [beL_len, Hp.out]; exact (splice_mid acc (beL 0 4) _ _ (by rw [beL_len])).symm))
      have hszB : (Tryz.prog.info? 5).map (·.size) = some 1 := by rw [hiB]; simp [zB1]
      have hmin : (bytesV (beL (L : Int) 4)).length = Nat.min 4 4 := by rw [bytesV_length, beL_len]; rfl
      have honeB : ∀ v ∈ bytesV (beL (L : Int) 4), v.oneCell' = true := fun u hu => by obtain ⟨b, _, rfl⟩ := List.mem_map.1 hu; rfl
      go_wp2_with fail
      go_region_law (first | (refine step_copy_row (by rfl) (.tmp 49) (.tmp 55) 63 63 (by rfl) 5 Tryz.underlying63 hszB g p 4 (cap - p) ⟨g5, 0, none⟩ 4 cap5 (by rfl) (by rfl) cur 5 hcur (bytesV (beL (L : Int) 4)) hmin hsrc hfit honeB _ rfl ?_) | (go_simp; go_wp2_with (go_at_call 86; refine HC.out.mono ?_; rintro e w5 ⟨r5, rfl, hq5⟩; obtain ⟨g5, cap5, hs5, hcap5, hcm5⟩ := rowE_shape hq5.row (by simp [beL_len]); obtain ⟨cur, hcur, hfit, hnc, hQ6⟩ := HCP.out _ (HQd.out.beside hq5); have hsrc := (rowE_src hq5.row hs5); rw [List.nil_append, beL_len] at hs5; subst hs5)))
      all_goals
        rw [bytesV_length, beL_len] at hQ6
        generalize w5.setRow g (List.take p cur.toList ++ (bytesV (beL (L : Int) 4) ++ List.drop (p + 4) cur.toList)).toArray = w6 at hQ6 ⊢
        have HQ6 := hid hQ6
        clear hQ6 hq5 hsrc hcur hfit hnc hcap5 hcm5
        go_wp2_with fail
        go_ret
        exact ⟨_, rfl, by rw [← HL.out, ← Hs0.out]; exact HQ6.out.from HR.out⟩
end Go.Proofs.YtknakfpciccoaaaGreatDoor
/- The walks of appendValue and of Encode. -/
namespace Go.Proofs.YtknakfpciccoaaaGreatDoor
open Go.RowKit

set_option maxHeartbeats 4000000 in
set_option maxRecDepth 100000 in
theorem appVal_box (w0 : World) (m : Nat) (ih : AvSaid w0 m) (f : Nat) (La Ka : Option Addr) (Lc Kc : Nat) (t : T) (acc : List UInt8) (r : Value) (w : World)
    (hl : ElemsAt w0 f La t) (hkn : NamesAt w0 Ka t) (hn : nL t ≤ 1759218604442) (hnk : kindOf t = 6 → nK t = nL t) (hg : ∀ i, i < nL t → Good m (elt t i)) (hk : kindOf t = 5 ∨ kindOf t = 6) (hb0 : Below w0.heap.size w0 w) (hr : w.ownsRow w0.heap.size 5 1 r acc.length (bytesV acc))
    (hlen : acc.length + (catB (encT m) t (nL t)).length + 5 ≤ 100000000) :
    Calls Tryz.prog 46 #[r, .agg #[.int .i64 (kindOf t), .int .i64 (nOf t), .string (sOf t), .slice La (nL t) Lc, .slice Ka (nK t) Kc]] w fun e w' => ∃ r', e = .returned r' ∧ QG w0 r w r' (acc ++ boxE t (catB (encT m) t (nL t))) w' := by
  obtain ⟨iB, hiB, zB0, zB1, zB2⟩ := info_parts infoBE
  have HR := hid hr
  have hb : w0.heap.size ≤ w.heap.size := hb0.size
  have HBx : Hid (Below w0.heap.size w0 (w.alloc (.cells #[.int .i64 (kindOf t), .int .i64 (nOf t), .string (sOf t), .slice La (nL t) Lc, .slice Ka (nK t) Kc] 25))) := hb0.alloc hb0.size _
  have hl1 : acc.length ≤ 100000000 := by omega
  have fk : IntKind.u8.wrap (kindOf t) = ((kindB t).toNat : Int) := wrapB _
  have HE := hid (fun (r1 : Value) (w1 : World) (hb1 : Below w0.heap.size w0 w1) (hr1 : w1.ownsRow w0.heap.size 5 1 r1 (acc ++ [kindB t]).length (bytesV (acc ++ [kindB t]))) => appEnt_any w0 m ih f La Ka Lc Kc t (acc ++ [kindB t]) r1 w1 hl hkn hn hnk hg hb1 hr1 (by simp only [List.length_append, List.length_cons, List.length_nil]; omega))
  have HW : Hid (acc ++ boxE t (catB (encT m) t (nL t)) = acc ++ [kindB t] ++ (beL (catB (encT m) t (nL t)).length 4 ++ catB (encT m) t (nL t))) := by show _ = _; simp [boxE]
  clear hr hl hkn hn hnk hg hlen ih hb0
  have H0 : Hid (QG w0 r (w.alloc (.cells #[.int .i64 (kindOf t), .int .i64 (nOf t), .string (sOf t), .slice La (nL t) Lc, .slice Ka (nK t) Kc] 25)) r acc (w.alloc (.cells #[.int .i64 (kindOf t), .int .i64 (nOf t), .string (sOf t), .slice La (nL t) Lc, .slice Ka (nK t) Kc] 25))) := QG.here HR.out
  have HB1 : Hid (Below (w.heap.size + 1) (w.alloc (.cells #[.int .i64 (kindOf t), .int .i64 (nOf t), .string (sOf t), .slice La (nL t) Lc, .slice Ka (nK t) Kc] 25)) ((w.alloc (.cells #[.int .i64 (kindOf t), .int .i64 (nOf t), .string (sOf t), .slice La (nL t) Lc, .slice Ka (nK t) Kc] 25)).alloc (.cells #[.int .u8 ((kindB t).toNat : Int)] 5))) := (Below.refl _ _).alloc (by simp) _
  have HI1 := hid (H0.out.keep (HB1.out.mono (by simp)))
  have HSb : Hid (Src Tryz.prog 1 63 (.slice (some ⟨w.heap.size + 1, 0, none⟩) 1 1) 1 (bytesV [kindB t]) ((w.alloc (.cells #[.int .i64 (kindOf t), .int .i64 (nOf t), .string (sOf t), .slice La (nL t) Lc, .slice Ka (nK t) Kc] 25)).alloc (.cells #[.int .u8 ((kindB t).toNat : Int)] 5))) := by
    have := srcE_built (w.alloc (.cells #[.int .i64 (kindOf t), .int .i64 (nOf t), .string (sOf t), .slice La (nL t) Lc, .slice Ka (nK t) Kc] 25)) [kindB t]
    apply hid
    simpa [bytesV] using this
  have hbz : w0.heap.size ≤ ((w.alloc (.cells #[.int .i64 (kindOf t), .int .i64 (nOf t), .string (sOf t), .slice La (nL t) Lc, .slice Ka (nK t) Kc] 25)).alloc (.cells #[.int .u8 ((kindB t).toNat : Int)] 5)).heap.size := by simp; omega
  have HR0 := hid H0.out.row
  rcases hk with hk | hk
  · have e2 : (kindOf t == 2) = false := by rw [hk]; rfl
    have e3 : (kindOf t == 3) = false := by rw [hk]; rfl
    have e4 : (kindOf t == 4) = false := by rw [hk]; rfl
    have e5 : (kindOf t == 5) = true := by rw [hk]; rfl
    clear hk
    go_enter Tryz.func46, Tryz.ntmps46
    go_wp2_with (at_builtin; refine wpList_append_src _ rfl (.tmp 5) (.tmp 9) 63 63 rfl w0.heap.size 5 iB _ 1 1 Tryz.underlying63 hiB zB0 zB1 zB2 rfl r acc.length (bytesV acc) rfl HI1.out.row (.slice (some ⟨w.heap.size + 1, 0, none⟩) 1 1) 1 (bytesV [kindB t]) rfl HSb.out (by unfold maxLen; omega) (by omega) hbz ?_; intro r1 w1 hO1 hG1 hat1; have HQ1 := hid (HI1.out.grow (l := [kindB t]) hO1 hG1 hat1); clear hO1 hG1 hat1 HI1 HSb HB1 H0 hbz; obtain ⟨q0, q1, q2, q3, q4, hz⟩ := QG.box HR.out HQ1.out; have hb1 : w0.heap.size ≤ w1.heap.size := by omega)
    refine (HE.out r1 w1 (HQ1.out.below HR0.out HBx.out) HQ1.out.row).mono ?_
    rintro e w2 ⟨r2, rfl, hq2⟩
    have HQ2 := hid (HQ1.out.trans hq2)
    clear hq2 q0 q1 q2 q3 q4 hz
    go_wp2_with fail
    go_ret
    exact ⟨_, rfl, by rw [HW.out]; exact HQ2.out.from HR.out⟩
  · have e2 : (kindOf t == 2) = false := by rw [hk]; rfl
    have e3 : (kindOf t == 3) = false := by rw [hk]; rfl
    have e4 : (kindOf t == 4) = false := by rw [hk]; rfl
    have e5 : (kindOf t == 5) = false := by rw [hk]; rfl
    have e6 : (kindOf t == 6) = true := by rw [hk]; rfl
    clear hk
    go_enter Tryz.func46, Tryz.ntmps46
    go_wp2_with (at_builtin; refine wpList_append_src _ rfl (.tmp 5) (.tmp 9) 63 63 rfl w0.heap.size 5 iB _ 1 1 Tryz.underlying63 hiB zB0 zB1 zB2 rfl r acc.length (bytesV acc) rfl HI1.out.row (.slice (some ⟨w.heap.size + 1, 0, none⟩) 1 1) 1 (bytesV [kindB t]) rfl HSb.out (by unfold maxLen; omega) (by omega) hbz ?_; intro r1 w1 hO1 hG1 hat1; have HQ1 := hid (HI1.out.grow (l := [kindB t]) hO1 hG1 hat1); clear hO1 hG1 hat1 HI1 HSb HB1 H0 hbz; obtain ⟨q0, q1, q2, q3, q4, hz⟩ := QG.box HR.out HQ1.out; have hb1 : w0.heap.size ≤ w1.heap.size := by omega)
    refine (HE.out r1 w1 (HQ1.out.below HR0.out HBx.out) HQ1.out.row).mono ?_
    rintro e w2 ⟨r2, rfl, hq2⟩
    have HQ2 := hid (HQ1.out.trans hq2)
    clear hq2 q0 q1 q2 q3 q4 hz
    go_wp2_with fail
    go_ret
    exact ⟨_, rfl, by rw [HW.out]; exact HQ2.out.from HR.out⟩
theorem leafK {t : T} (h : leafGood t) : kindOf t ≠ 5 ∧ kindOf t ≠ 6 := by
  obtain ⟨_, _, h⟩ := h
  rcases h with ⟨h, _⟩ | ⟨h, _⟩ | ⟨h, _⟩ | ⟨h, _⟩ <;> omega
theorem appVal_any (w0 : World) : ∀ m, AvSaid w0 m
  | 0 => by
    intro f v t acc r w h hg hb hr hl
    obtain ⟨g, La, Ka, Lc, Kc, rfl, rfl, hf, _, _⟩ := h.open
    exact appVal_leaf w0 t hg hf acc r w La Ka Lc Kc hb.size hr hl
  | m + 1 => by
    intro f v t acc r w h hg hb hr hl
    obtain ⟨g, La, Ka, Lc, Kc, rfl, rfl, hf, hl', hk'⟩ := h.open
    rcases hg with hg | ⟨_, _, he, hk⟩
    · obtain ⟨k5, k6⟩ := leafK hg
      rw [encT_leaf k5 k6] at hl ⊢
      exact appVal_leaf w0 t hg hf acc r w La Ka Lc Kc hb.size hr hl
    · have hk2 : kindOf t = 5 ∨ kindOf t = 6 := by rcases hk with ⟨hk, _⟩ | ⟨hk, _⟩ <;> omega
      rw [encT_box hk2] at hl ⊢
      simp only [boxE, List.length_cons, List.length_append, beL_len] at hl
      exact appVal_box w0 m (appVal_any w0 m) g La Ka Lc Kc t acc r w hl'.out hk'.out hf.l1 (fun h6 => by rcases hk with ⟨hk, _⟩ | ⟨_, hk, _⟩; · omega
                                                                                                          · exact hk) he hk2 hb hr (by omega)
end Go.Proofs.YtknakfpciccoaaaGreatDoor
/- The walk of text.Encode. -/
namespace Go.Proofs.YtknakfpciccoaaaGreatDoor
open Go.RowKit

/-- What is answered. -/
def encS (ok : Bool) (l : List UInt8) : ByteArray := if ok then baL l else ⟨#[]⟩
def encF (ok : Bool) : Int := if ok then 0 else 5
set_option maxHeartbeats 4000000 in
set_option maxRecDepth 100000 in
theorem tEncode_any {Tb : World → Prop} (hV : ValidSaid Tb) (hL : Lies Tb) (f : Nat) (v : Value) (t : T) (w : World) (h : At w f v t) (hT : Tb w) :
    Calls Tryz.prog 18 #[v] w fun e w' => e = .returned (.tuple #[.string (encS (isV t) (encT 12 t)), .int .i64 (encF (isV t))]) ∧ Below w.heap.size w w' := by
  have HA := hid h
  have HT := hid hT
  have HL := hid hL
  have HV := hid hV
  obtain ⟨f1, La, Ka, Lc, Kc, hf1, rfl, hf, hl, hk⟩ := h.open
  clear h hf hf1 hl hk hT hL hV
  have HB1 : Hid (Below w.heap.size w (w.alloc (.cells #[.int .i64 (kindOf t), .int .i64 (nOf t), .string (sOf t), .slice La (nL t) Lc, .slice Ka (nK t) Kc] 25))) := (Below.refl _ _).alloc (Nat.le_refl _) _
  have HI := hid (isValue_any HV.out HL.out f _ t _ (HA.out.keep HB1.out) (HL.out w HT.out _ _ HT.out HB1.out))
  go_enter Tryz.func18, Tryz.ntmps18
  go_wp2_with fail
  refine HI.out.mono ?_
  rintro e w2 ⟨rfl, b2⟩
  have HB2 : Hid (Below (w.heap.size + 1) (w.alloc (.cells #[.int .i64 (kindOf t), .int .i64 (nOf t), .string (sOf t), .slice La (nL t) Lc, .slice Ka (nK t) Kc] 25)) w2) := b2.mono (by simp)
  obtain ⟨q0, q1, q2, q3, q4, hz, hbw⟩ := box_facts HB2.out
  have Hbw := hid hbw
  clear b2 hbw HI
  cases hi : isV t with
  | false =>
    have Hi := hid hi
    clear hi
    go_wp2_with fail
    go_ret2
    exact ⟨by rw [Hi.out]; rfl, Hbw.out⟩
  | true =>
    have Hi := hid hi
    have HG := hid ((isV_iff t).1 hi)
    have HA2 := hid (HA.out.keep Hbw.out)
    have HW := hid (encT_len 12 t HG.out.1)
    have HP := hid (appVal_any w2 12 f _ t [] (.slice none 0 0) w2 HA2.out HG.out.1 (Below.refl _ _) (World.ownsRow_nil _ _ _ _) (by have := HW.out; have := HG.out.2; simp only [List.length_nil]; omega))
    clear hi
    go_wp2_with fail
    refine HP.out.mono ?_
    rintro e w3 ⟨r3, rfl, hq3⟩
    have HB3 := hid (Hbw.out.trans ((hq3.below (a := []) (World.ownsRow_nil _ _ _ _) (Below.refl _ _)).mono (Nat.le_of_lt hz)))
    have hcv := conv_own (P := Tryz.prog) Tryz.underlying63 Tryz.underlying5 Tryz.underlying9 hq3.row
    rw [List.nil_append] at hcv
    clear hq3 HP q0 q1 q2 q3 q4 hz
    go_wp2_with fail
    go_ret2
    exact ⟨by rw [Hi.out]; rfl, HB3.out⟩
end Go.Proofs.YtknakfpciccoaaaGreatDoor
/- The walks of slices.CompareFunc and compareObjects, over one another's contract. -/
namespace Go.Proofs.YtknakfpciccoaaaGreatDoor
open Go.RowKit

def CmpSaid (f : Nat) : Prop := ∀ (g : Nat) (va vb : Value) (a b : T) (w : World), At w f va a → At w g vb b → okK f a → okK f b →
    Calls Tryz.prog 58 #[va, vb] w fun e w' => e = .returned (.int .i64 (cmpT f a b)) ∧ Below w.heap.size w w'

theorem ordE_none {g : T → T → Int} {a b : T} {k : Nat} (h : min (nL a) (nL b) = k) (h0 : ordL g a b k = 0) : ordE g a b = cmpI (nL a) (nL b) := by
  rw [ordE, h, h0]; rfl
theorem ordE_some {g : T → T → Int} {a b : T} {k : Nat} {x : Int} (ha : k < nL a) (hb : k < nL b) (h : ordL g a b (k + 1) = x) (h0 : x ≠ 0) : ordE g a b = x := by
  rw [ordE, ordL_stop (j := k + 1) (by omega) (by rw [h]; exact h0), h, if_pos h0]

set_option maxHeartbeats 1000000 in
set_option maxRecDepth 100000 in
theorem CompareFunc_any (f : Nat) (hc : CmpSaid f) (g : Nat) (La Ma : Option Addr) (Lc Mc : Nat) (a b : T) (w : World) (hl : ElemsAt w f La a) (hl' : ElemsAt w g Ma b) (hlen : nL a ≤ 1759218604442) (_hlen' : nL b ≤ 1759218604442)
    (k5 : kindOf a ≠ 6) (oka : ∀ i, i < nL a → okK f (elt a i)) (okb : ∀ i, i < nL b → okK f (elt b i)) :
    Calls Tryz.prog 106 #[.slice La (nL a) Lc, .slice Ma (nL b) Mc, .func (Fn.func 58) #[] #[]] w fun e w' => e = .returned (.int .i64 (ordE (cmpT f) a b)) ∧ Below w.heap.size w w' := by
  have Hc := hid hc
  have Hl := hid hl
  have Hl' := hid hl'
  have K5 := hid k5
  have Hoa := hid oka
  have Hob := hid okb
  clear hc hl hl' k5 oka okb
  go_enter Tryz.func106, Tryz.ntmps106
  go_wp2_with fail
  go_loopg [13] (nL a) (fun g i wr => ∃ k : Nat, g = nL a - k ∧ k ≤ nL a ∧ k ≤ nL b ∧ i = .int .i64 k ∧ Hid (ordL (cmpT f) a b k = 0) ∧ Hid (Below w.heap.size w wr))
  case atStart => exact ⟨0, rfl, Nat.zero_le _, Nat.zero_le _, rfl, rfl, Below.refl _ _⟩
  case round =>
    obtain ⟨k, rfl, hka, hkb, rfl, HO, Hb⟩ := hrel
    by_cases hlt : k < nL a
    · obtain ⟨ba, oa, A, B, C, D, rfl, hba, p0, p1, p2, p3, p4, Ha⟩ := Hl.out.shape Hb.out k hlt
      by_cases hlt' : k < nL b
      · obtain ⟨bb, ob, P, Q, R, S, rfl, hbb, t0, t1, t2, t3, t4, Hd⟩ := Hl'.out.shape Hb.out k hlt'
        have x1 : (k : Int) < (nL a : Int) := by omega
        have x2 : (k : Int) < (nL b : Int) := by omega
        have hsz := Hb.out.size
        have s1 : ba < wr.heap.size := by omega
        have s2 : bb < wr.heap.size := by omega
        have HB1 : Hid (Below wr.heap.size wr ((wr.alloc (.cells #[.int .i64 (kindOf (elt a k)), .int .i64 (nOf (elt a k)), .string (sOf (elt a k)), .slice A (nL (elt a k)) B, .slice C (nK (elt a k)) D] 25)).alloc (.cells #[.int .i64 (kindOf (elt b k)), .int .i64 (nOf (elt b k)), .string (sOf (elt b k)), .slice P (nL (elt b k)) Q, .slice R (nK (elt b k)) S] 25))) := ((Below.refl _ _).alloc (Nat.le_refl _) _).alloc (by simp) _
        have bd := cmpT_bd f (elt a k) (elt b k)
        go_wp2_with fail
        refine (Hc.out _ _ _ _ _ _ (Ha.out.keep (Hb.out.trans (HB1.out.mono hsz))) (Hd.out.keep (Hb.out.trans (HB1.out.mono hsz))) (Hoa.out k hlt) (Hob.out k hlt')).mono ?_
        rintro e w2 ⟨rfl, hb2⟩
        have HB2 := hid (Hb.out.trans ((HB1.out.trans (hb2.mono HB1.out.size)).mono hsz))
        clear hb2
        have HS := hid (ordL_step (g := cmpT f) (b := b) HO.out)
        generalize hx : cmpT f (elt a k) (elt b k) = x at bd ⊢
        have HS2 : Hid (ordL (cmpT f) a b (k + 1) = x) := by show _ = _; rw [HS.out, if_neg (fun h => K5.out h.1), hx]
        clear hx
        by_cases hx0 : x = 0
        · subst hx0
          go_wp2_with fail
          go_roundg (nL a - (k + 1))
          case rel => exact ⟨k + 1, rfl, by omega, by omega, by go_num, HS2, HB2⟩
          case measure => omega
        · have ex : (x != 0) = true := by simpa using hx0
          have HX := hid hx0
          clear hx0
          go_wp2_with fail
          go_ret
          exact ⟨ret_int (ordE_some hlt hlt' HS2.out HX.out).symm, HB2.out⟩
      · have HE := hid (ordE_none (g := cmpT f) (k := k) (show min (nL a) (nL b) = k by omega) HO.out)
        have HE2 := hid (cmpI_gt (show (nL b : Int) < (nL a : Int) by omega))
        have s1 : ba < wr.heap.size := by have := Hb.out.size; omega
        go_wp2_with fail
        go_ret
        exact ⟨ret_int (by rw [HE.out, HE2.out]), Hb.out.trans (((Below.refl _ _).alloc (Nat.le_refl _) _).mono Hb.out.size)⟩
    · have HE := hid (ordE_none (g := cmpT f) (k := k) (show min (nL a) (nL b) = k by omega) HO.out)
      by_cases h3 : nL a < nL b
      · have HE2 := hid (cmpI_lt (show (nL a : Int) < (nL b : Int) by omega))
        go_wp2_with fail
        go_ret
        exact ⟨ret_int (by rw [HE.out, HE2.out]), Hb.out⟩
      · have HE2 := hid (cmpI_eq (show (nL b : Int) ≤ (nL a : Int) by omega) (show (nL a : Int) ≤ (nL b : Int) by omega))
        go_wp2_with fail
        go_ret
        exact ⟨ret_int (by rw [HE.out, HE2.out]), Hb.out⟩

set_option maxHeartbeats 1000000 in
set_option maxRecDepth 100000 in
theorem compareObjects_any (f : Nat) (hc : CmpSaid f) (g : Nat) (va vb : Value) (a b : T) (w : World) (h : At w (f + 1) va a) (h' : At w g vb b) (ka : okK (f + 1) a) (kb : okK (f + 1) b) (k6 : kindOf a = 6) (k6b : kindOf b = 6) :
    Calls Tryz.prog 107 #[va, vb] w fun e w' => e = .returned (.int .i64 (ordE (cmpT f) a b)) ∧ Below w.heap.size w w' := by
  obtain ⟨f1, La, Ka, Lc, Kc, hf1, rfl, hf, hl, hk⟩ := h.open
  obtain rfl : f = f1 := by omega
  obtain ⟨g1, Ma, Na, Mc, Nc, hg1, rfl, hf', hl', hk'⟩ := h'.open
  have hlen := hf.l1
  have hlen' := hf'.l1
  have HKa := hid ka
  have HKb := hid kb
  have K6 := hid k6
  have K6b := hid k6b
  have Hih := hid hc
  clear h h' hf hf' hf1 hg1 ka kb hc k6 k6b
  obtain ⟨M, HM, hMa, hMb, hcase⟩ : ∃ M : Nat, Hid (min (nL a) (nL b) = M) ∧ M ≤ nL a ∧ M ≤ nL b ∧ ((nL a : Int) ≤ (nL b : Int) ∧ Hid (M = nL a) ∨ (nL b : Int) < (nL a : Int) ∧ Hid (M = nL b)) := by
    by_cases hh : nL a ≤ nL b
    · exact ⟨nL a, by show min _ _ = _; omega, by omega, by omega, Or.inl ⟨by omega, rfl⟩⟩
    · exact ⟨nL b, by show min _ _ = _; omega, by omega, by omega, Or.inr ⟨by omega, rfl⟩⟩
  rcases hcase with ⟨hcs, HMM⟩ | ⟨hcs, HMM⟩
  all_goals
    have hmm := HMM.out
    go_enter Tryz.func107, Tryz.ntmps107
    go_wp2_with fail
    go_loopg [15] M (fun g i wr => ∃ k : Nat, g = M - k ∧ k ≤ M ∧ i = .int .i64 k ∧ Hid (ordL (cmpT f) a b k = 0) ∧ Below (w.heap.size + 2) ((w.alloc (.cells #[.int .i64 (kindOf a), .int .i64 (nOf a), .string (sOf a), .slice La (nL a) Lc, .slice Ka (nK a) Kc] 25)).alloc (.cells #[.int .i64 (kindOf b), .int .i64 (nOf b), .string (sOf b), .slice Ma (nL b) Mc, .slice Na (nK b) Nc] 25)) wr)
    case atStart => exact ⟨0, rfl, Nat.zero_le _, rfl, rfl, Below.refl _ _⟩
    case round =>
      obtain ⟨k, rfl, hkm, rfl, HO, hb⟩ := hrel
      obtain ⟨⟨q0, q1, q2, q3, q4⟩, ⟨r0, r1, r2, r3, r4⟩, hz, hbw⟩ := box2_facts hb
      have Hb := hid hb
      clear hb
      have hz0 : w.heap.size < wr.heap.size := by omega
      by_cases hlt : k < M
      · have hlta : k < nL a := by omega
        have hltb : k < nL b := by omega
        obtain ⟨ba, oa, c0, c1, c2, c3, c4, rfl, hba, p0, p1, p2, p3, p4, Ha⟩ := hl.out.keep hbw k hlta
        obtain ⟨bb, ob, d0, d1, d2, d3, d4, rfl, hbb, t0, t1, t2, t3, t4, Hc⟩ := hl'.out.keep hbw k hltb
        have x1 : (k : Int) < (nL a : Int) := by omega
        have x2 : (k : Int) < (nL b : Int) := by omega
        clear hmm
        have HS := hid (ordL_step (g := cmpT f) (b := b) HO.out)
        have na : k < nK a := by rw [HKa.out.1 K6.out]; exact hlta
        have nb : k < nK b := by rw [HKb.out.1 K6b.out]; exact hltb
        obtain ⟨ea, fa, rfl, hea, hsa, n0⟩ := hk.out.keep hbw k na
        obtain ⟨eb, fb, rfl, heb, hsb, m0⟩ := hk'.out.keep hbw k nb
        have x3 : (k : Int) < (nK a : Int) := by omega
        have x4 : (k : Int) < (nK b : Int) := by omega
        have bc := cmpS_bd (nam a k) (nam b k)
        go_wp2_with fail
        go_quiet ((go_at_call 105; exact Calls.quiet_of_same (cmpString_any _ _ _)))
        generalize hcc : cmpS (nam a k) (nam b k) = c at bc ⊢
        have HCC := hid hcc
        clear hcc
        have Hbq : Hid (Below wr.heap.size wr (wr.drewN nq)) := below_drewN (Below.refl _ _) nq
        generalize wr.drewN nq = wq at Hbq ⊢
        have hzq := Hbq.out.size
        have y0 := (Hbq.out.cell (p := ⟨w.heap.size, 3, none⟩) hz0).trans q3
        have y1 := (Hbq.out.cell (p := ⟨w.heap.size + 1, 3, none⟩) hz).trans r3
        have u0 := (Hbq.out.cell (p := ⟨ba, oa + k * 5, none⟩) hba).trans p0
        have u1 := (Hbq.out.cell (p := ⟨ba, oa + k * 5 + 1, none⟩) hba).trans p1
        have u2 := (Hbq.out.cell (p := ⟨ba, oa + k * 5 + 2, none⟩) hba).trans p2
        have u3 := (Hbq.out.cell (p := ⟨ba, oa + k * 5 + 3, none⟩) hba).trans p3
        have u4 := (Hbq.out.cell (p := ⟨ba, oa + k * 5 + 4, none⟩) hba).trans p4
        have v0 := (Hbq.out.cell (p := ⟨bb, ob + k * 5, none⟩) hbb).trans t0
        have v1 := (Hbq.out.cell (p := ⟨bb, ob + k * 5 + 1, none⟩) hbb).trans t1
        have v2 := (Hbq.out.cell (p := ⟨bb, ob + k * 5 + 2, none⟩) hbb).trans t2
        have v3 := (Hbq.out.cell (p := ⟨bb, ob + k * 5 + 3, none⟩) hbb).trans t3
        have v4 := (Hbq.out.cell (p := ⟨bb, ob + k * 5 + 4, none⟩) hbb).trans t4
        have Hbq2 := hid (Hb.out.trans (Hbq.out.mono (by omega)))
        have hz0' : w.heap.size < wq.heap.size := Nat.lt_of_lt_of_le hz0 hzq
        have hz1' : w.heap.size + 1 < wq.heap.size := Nat.lt_of_lt_of_le hz hzq
        have hba' : ba < wq.heap.size := Nat.lt_of_lt_of_le hba hzq
        have hbb' : bb < wq.heap.size := Nat.lt_of_lt_of_le hbb hzq
        clear q0 q1 q2 q3 q4 r0 r1 r2 r3 r4 p0 p1 p2 p3 p4 t0 t1 t2 t3 t4 n0 m0
        by_cases hc0 : c = 0
        · subst hc0
          have HC0 := HCC
          go_wp2_with fail
          have HA1 := hid (Ha.out.keep ((Hbq.out).trans ((below_drew wq).mono Hbq.out.size)))
          have HC1 := hid (Hc.out.keep ((Hbq.out).trans ((below_drew wq).mono Hbq.out.size)))
          have HOa := hid (HKa.out.2 k hlta)
          have HOb := hid (HKb.out.2 k hltb)
          have bd := cmpT_bd f (elt a k) (elt b k)
          have HSS : Hid (∀ wx : World, Below wq.drew.heap.size wq.drew wx → wx.cell? ⟨w.heap.size, 3, none⟩ = some (.slice (some ⟨ba, oa, none⟩) (nL a) Lc) ∧ wx.cell? ⟨w.heap.size + 1, 3, none⟩ = some (.slice (some ⟨bb, ob, none⟩) (nL b) Mc) ∧ wx.cell? ⟨ba, oa + k * 5, none⟩ = some c0 ∧ wx.cell? ⟨ba, oa + k * 5 + 1, none⟩ = some c1 ∧ wx.cell? ⟨ba, oa + k * 5 + 2, none⟩ = some c2 ∧ wx.cell? ⟨ba, oa + k * 5 + 3, none⟩ = some c3 ∧ wx.cell? ⟨ba, oa + k * 5 + 4, none⟩ = some c4 ∧ wx.cell? ⟨bb, ob + k * 5, none⟩ = some d0 ∧ wx.cell? ⟨bb, ob + k * 5 + 1, none⟩ = some d1 ∧ wx.cell? ⟨bb, ob + k * 5 + 2, none⟩ = some d2 ∧ wx.cell? ⟨bb, ob + k * 5 + 3, none⟩ = some d3 ∧ wx.cell? ⟨bb, ob + k * 5 + 4, none⟩ = some d4) := by
            intro wx hx
            have hh := (below_drew wq).trans hx
            refine ⟨?_, ?_, ?_, ?_, ?_, ?_, ?_, ?_, ?_, ?_, ?_, ?_⟩
            all_goals (rw [hh.cell (p := ⟨_, _, none⟩) (by first | assumption | omega)]; assumption)
          go_region_held (fun wx => wx.cell? ⟨w.heap.size, 3, none⟩ = some (.slice (some ⟨ba, oa, none⟩) (nL a) Lc) ∧ wx.cell? ⟨w.heap.size + 1, 3, none⟩ = some (.slice (some ⟨bb, ob, none⟩) (nL b) Mc) ∧ wx.cell? ⟨ba, oa + k * 5, none⟩ = some c0 ∧ wx.cell? ⟨ba, oa + k * 5 + 1, none⟩ = some c1 ∧ wx.cell? ⟨ba, oa + k * 5 + 2, none⟩ = some c2 ∧ wx.cell? ⟨ba, oa + k * 5 + 3, none⟩ = some c3 ∧ wx.cell? ⟨ba, oa + k * 5 + 4, none⟩ = some c4 ∧ wx.cell? ⟨bb, ob + k * 5, none⟩ = some d0 ∧ wx.cell? ⟨bb, ob + k * 5 + 1, none⟩ = some d1 ∧ wx.cell? ⟨bb, ob + k * 5 + 2, none⟩ = some d2 ∧ wx.cell? ⟨bb, ob + k * 5 + 3, none⟩ = some d3 ∧ wx.cell? ⟨bb, ob + k * 5 + 4, none⟩ = some d4) (go_keep) ((go_at_call 58; refine (Hih.out _ _ _ _ _ _ HA1.out HC1.out HOa.out HOb.out).mono ?_; rintro e w2 ⟨rfl, hb2⟩; have hc2 := HSS.out _ hb2))
          have HB2 := hid (Hbq2.out.trans (((below_drew wq).trans hb2).mono (by omega)))
          clear hb2 hc2 HA1 HC1
          generalize hx : cmpT f (elt a k) (elt b k) = x at bd ⊢
          have HS2 : Hid (ordL (cmpT f) a b (k + 1) = x) := by show _ = _; rw [HS.out, if_neg (fun h => h.2 HC0.out), hx]
          clear hx
          by_cases hx0 : x = 0
          · subst hx0
            go_wp2_with fail
            go_roundg (M - (k + 1))
            case rel => exact ⟨k + 1, rfl, by omega, by go_num, HS2, HB2.out⟩
            case measure => omega
          · have ex : (x != 0) = true := by simpa using hx0
            have HX := hid hx0
            clear hx0
            go_wp2_with fail
            go_ret
            refine ⟨ret_int ?_, (((Below.refl _ _).alloc (Nat.le_refl _) _).alloc (by simp) _).trans (HB2.out.mono (by omega))⟩
            exact (ordE_some hlta hltb HS2.out HX.out).symm
        · have ex : (c != 0) = true := by simpa using hc0
          have HX := hid hc0
          clear hc0
          have HS2 : Hid (ordL (cmpT f) a b (k + 1) = c) := by show _ = _; rw [HS.out, HCC.out, if_pos ⟨K6.out, HX.out⟩]
          go_wp2_with fail
          go_ret
          refine ⟨ret_int ?_, (((Below.refl _ _).alloc (Nat.le_refl _) _).alloc (by simp) _).trans (Hbq2.out.mono (by omega))⟩
          exact (ordE_some hlta hltb HS2.out HX.out).symm
      · have HE := hid (ordE_none (g := cmpT f) (k := k) (by rw [HM.out]; omega) HO.out)
        go_wp2_with fail
        refine (cmpInt_any _ _ _).mono ?_
        rintro e w2 ⟨rfl, rfl⟩
        go_wp2_with fail
        go_ret
        exact ⟨ret_int (by rw [HE.out]), hbw⟩
end Go.Proofs.YtknakfpciccoaaaGreatDoor
/- The walk of compare. -/
namespace Go.Proofs.YtknakfpciccoaaaGreatDoor
open Go.RowKit

set_option maxHeartbeats 2000000 in
set_option maxRecDepth 100000 in
theorem compare_any (f : Nat) : CmpSaid f := by
  induction f with
  | zero => intro g va vb a b w h; exact h.elim
  | succ f ih =>
    intro g va vb a b w h h' ka kb
    have HA := hid h
    have HA' := hid h'
    obtain ⟨f1, La, Ka, Lc, Kc, hf1, rfl, hf, hl, hk⟩ := h.open
    obtain rfl : f = f1 := by omega
    obtain ⟨g1, Ma, Na, Mc, Nc, hg1, rfl, hf', hl', hk'⟩ := h'.open
    have hlen := hf.l1
    have hlen' := hf'.l1
    have HKa := hid ka
    have HKb := hid kb
    have Hih := hid ih
    have HB1 : Hid (Below w.heap.size w ((w.alloc (.cells #[.int .i64 (kindOf a), .int .i64 (nOf a), .string (sOf a), .slice La (nL a) Lc, .slice Ka (nK a) Kc] 25)).alloc (.cells #[.int .i64 (kindOf b), .int .i64 (nOf b), .string (sOf b), .slice Ma (nL b) Mc, .slice Na (nK b) Nc] 25))) := ((Below.refl _ _).alloc (Nat.le_refl _) _).alloc (by simp) _
    clear h h' hf hf' hf1 hg1 ka kb ih hk hk'
    by_cases k1 : kindOf a = kindOf b
    · have e1 : (kindOf a != kindOf b) = false := by simp [k1]
      by_cases k0 : kindOf a = 2
      · have HR : Hid (cmpT (f + 1) a b = cmpI (nOf a) (nOf b)) := by show cmpT (f + 1) a b = _; simp [cmpT, ← k1, k0]
        have g2 : (kindOf a == 2) = true := by rw [k0]; rfl
        have g3 : (kindOf a == 3) = false := by rw [k0]; rfl
        have g4 : (kindOf a == 4) = false := by rw [k0]; rfl
        have g5 : (kindOf a == 5) = false := by rw [k0]; rfl
        have g6 : (kindOf a == 6) = false := by rw [k0]; rfl
        clear k0 k1
        go_enter Tryz.func58, Tryz.ntmps58
        go_wp2_with fail
        refine (cmpInt64_any _ _ _).mono ?_
        rintro e w2 ⟨rfl, rfl⟩
        go_wp2_with fail
        go_ret
        exact ⟨ret_int (by rw [HR.out]), HB1.out⟩
      by_cases k0 : kindOf a = 3
      · have HR : Hid (cmpT (f + 1) a b = cmpI (nOf a) (nOf b)) := by show cmpT (f + 1) a b = _; simp [cmpT, ← k1, k0]
        have g2 : (kindOf a == 2) = false := by rw [k0]; rfl
        have g3 : (kindOf a == 3) = true := by rw [k0]; rfl
        have g4 : (kindOf a == 4) = false := by rw [k0]; rfl
        have g5 : (kindOf a == 5) = false := by rw [k0]; rfl
        have g6 : (kindOf a == 6) = false := by rw [k0]; rfl
        clear k0 k1
        go_enter Tryz.func58, Tryz.ntmps58
        go_wp2_with fail
        refine (cmpInt64_any _ _ _).mono ?_
        rintro e w2 ⟨rfl, rfl⟩
        go_wp2_with fail
        go_ret
        exact ⟨ret_int (by rw [HR.out]), HB1.out⟩
      by_cases k0 : kindOf a = 4
      · have HR : Hid (cmpT (f + 1) a b = cmpS (sOf a) (sOf b)) := by show cmpT (f + 1) a b = _; simp [cmpT, ← k1, k0]
        have g2 : (kindOf a == 2) = false := by rw [k0]; rfl
        have g3 : (kindOf a == 3) = false := by rw [k0]; rfl
        have g4 : (kindOf a == 4) = true := by rw [k0]; rfl
        have g5 : (kindOf a == 5) = false := by rw [k0]; rfl
        have g6 : (kindOf a == 6) = false := by rw [k0]; rfl
        clear k0 k1
        go_enter Tryz.func58, Tryz.ntmps58
        go_wp2_with fail
        refine (cmpString_any _ _ _).mono ?_
        rintro e w2 ⟨rfl, rfl⟩
        go_wp2_with fail
        go_ret
        exact ⟨ret_int (by rw [HR.out]), HB1.out⟩
      by_cases k0 : kindOf a = 5
      · have HR : Hid (cmpT (f + 1) a b = ordE (cmpT f) a b) := by show cmpT (f + 1) a b = _; simp [cmpT, ← k1, k0, isBox]
        have g2 : (kindOf a == 2) = false := by rw [k0]; rfl
        have g3 : (kindOf a == 3) = false := by rw [k0]; rfl
        have g4 : (kindOf a == 4) = false := by rw [k0]; rfl
        have g5 : (kindOf a == 5) = true := by rw [k0]; rfl
        have g6 : (kindOf a == 6) = false := by rw [k0]; rfl
        have K5 : Hid (kindOf a ≠ 6) := by show kindOf a ≠ 6; omega
        clear k0 k1
        go_enter Tryz.func58, Tryz.ntmps58
        go_wp2_with fail
        refine (CompareFunc_any f Hih.out _ La Ma Lc Mc a b _ (hl.out.keep HB1.out) (hl'.out.keep HB1.out) hlen hlen' K5.out HKa.out.2 HKb.out.2).mono ?_
        rintro e w2 ⟨rfl, hb2⟩
        have HB2 := hid (HB1.out.trans (hb2.mono HB1.out.size))
        clear hb2
        go_wp2_with fail
        go_ret
        exact ⟨ret_int (by rw [HR.out]), HB2.out⟩
      by_cases k0 : kindOf a = 6
      · have HR : Hid (cmpT (f + 1) a b = ordE (cmpT f) a b) := by show cmpT (f + 1) a b = _; simp [cmpT, ← k1, k0, isBox]
        have g2 : (kindOf a == 2) = false := by rw [k0]; rfl
        have g3 : (kindOf a == 3) = false := by rw [k0]; rfl
        have g4 : (kindOf a == 4) = false := by rw [k0]; rfl
        have g5 : (kindOf a == 5) = false := by rw [k0]; rfl
        have g6 : (kindOf a == 6) = true := by rw [k0]; rfl
        have K6 := hid k0
        have K6b : Hid (kindOf b = 6) := by show kindOf b = 6; omega
        clear k0 k1
        go_enter Tryz.func58, Tryz.ntmps58
        go_wp2_with fail
        refine (compareObjects_any f Hih.out _ _ _ a b _ (HA.out.keep HB1.out) (HA'.out.keep HB1.out) HKa.out HKb.out K6.out K6b.out).mono ?_
        rintro e w2 ⟨rfl, hb2⟩
        have HB2 := hid (HB1.out.trans (hb2.mono HB1.out.size))
        clear hb2
        go_wp2_with fail
        go_ret
        exact ⟨ret_int (by rw [HR.out]), HB2.out⟩
      have HR : Hid (cmpT (f + 1) a b = 0) := by
        show cmpT (f + 1) a b = _
        simp only [cmpT, isBox]
        rw [if_neg (by omega), if_neg (by omega), if_neg (by omega)]
        exact if_neg (by simp; omega)
      have g2 : (kindOf a == 2) = false := by simp; omega
      have g3 : (kindOf a == 3) = false := by simp; omega
      have g4 : (kindOf a == 4) = false := by simp; omega
      have g5 : (kindOf a == 5) = false := by simp; omega
      have g6 : (kindOf a == 6) = false := by simp; omega
      clear k1
      go_enter Tryz.func58, Tryz.ntmps58
      go_wp2_with fail
      go_ret
      exact ⟨ret_int (by rw [HR.out]), HB1.out⟩
    · have e1 : (kindOf a != kindOf b) = true := by simpa using k1
      have HR : Hid (cmpT (f + 1) a b = cmpI (kindOf a) (kindOf b)) := by show cmpT (f + 1) a b = _; simp only [cmpT]; rw [if_pos k1]
      clear k1
      go_enter Tryz.func58, Tryz.ntmps58
      go_wp2_with fail
      refine (cmpInt_any _ _ _).mono ?_
      rintro e w2 ⟨rfl, rfl⟩
      go_wp2_with fail
      go_ret
      exact ⟨ret_int (by rw [HR.out]), HB1.out⟩
end Go.Proofs.YtknakfpciccoaaaGreatDoor
