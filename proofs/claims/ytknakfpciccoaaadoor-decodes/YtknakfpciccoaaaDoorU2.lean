/- The walk of Decodes. -/
import Derived.Test.YtknakfpciccoaaaDoorU1
namespace Go.Proofs.YtknakfpciccoaaaDoor
open Go.RowKit

set_option maxHeartbeats 4000000 in
set_option maxRecDepth 100000 in
theorem Decodes_any {Tb : World → Prop} (hV : ValidSaid Tb) (hL : Lies Tb) (s : ByteArray) (w : World) (hs : s.size ≤ 140737488355328) (hT : Tb w) :
    Calls Tryd.prog 4 #[.string s] w fun e w' => e = .returned (.bool true) ∧ Below w.heap.size w w' := by
  have HD7 := hid (decode7 hV hL w hT)
  have HT : Hid (∀ w' : World, Below w.heap.size w w' → Tb w') := fun w' hb => hL w hT w w' hT hb
  clear hT
  go_enter Tryd.func4, Tryd.ntmps4
  go_wp2_with fail
  refine HD7.out.mono ?_
  rintro e w1 ⟨hb1, b7, o7, B7, C7, D7, rfl, hlt7, hc7⟩
  have hba : Below w1.heap.size w1 (w1.alloc (.cells #[.int .i64 5, .int .i64 0, .string ⟨#[]⟩, .slice (some ⟨b7, o7, none⟩) 1 B7, .slice C7 0 D7] 26)) := (Below.refl _ _).alloc (Nat.le_refl _) _
  have hc7a : (w1.alloc (.cells #[.int .i64 5, .int .i64 0, .string ⟨#[]⟩, .slice (some ⟨b7, o7, none⟩) 1 B7, .slice C7 0 D7] 26)).cell? ⟨b7, o7 + 1, none⟩ = some (.int .i64 1) := (hba.cell (p := ⟨b7, o7 + 1, none⟩) hlt7).trans hc7
  have HB1 := hid (hb1.trans (hba.mono hb1.size))
  clear hb1 hba hc7 HD7
  go_wp2_with fail
  clear hc7a hlt7
  generalize w1.alloc (.cells #[.int .i64 5, .int .i64 0, .string ⟨#[]⟩, .slice (some ⟨b7, o7, none⟩) 1 B7, .slice C7 0 D7] 26) = v1 at HB1 ⊢
  refine (ref_u s v1 hs).mono ?_
  rintro e w2 ⟨hb2, A2, B2, C2, D2, rfl, hA2⟩
  have hba : Below w2.heap.size w2 (w2.alloc (.cells #[.int .i64 (kindOf (tD s)), .int .i64 (nOf (tD s)), .string (sOf (tD s)), .slice A2 (nL (tD s)) B2, .slice C2 (nK (tD s)) D2] 26)) := (Below.refl _ _).alloc (Nat.le_refl _) _
  have HAw := hid (hA2.keep hba)
  have HBw := hid (box_new w2 (.int .i64 (kindOf (tD s))) (.int .i64 (nOf (tD s))) (.string (sOf (tD s))) (.slice A2 (nL (tD s)) B2) (.slice C2 (nK (tD s)) D2))
  have HB2 := hid ((HB1.out.trans (hb2.mono HB1.out.size)).trans (hba.mono (Nat.le_trans HB1.out.size hb2.size)))
  clear hb2 hA2 hba HB1
  go_wp2_with fail
  generalize w2.alloc (.cells #[.int .i64 (kindOf (tD s)), .int .i64 (nOf (tD s)), .string (sOf (tD s)), .slice A2 (nL (tD s)) B2, .slice C2 (nK (tD s)) D2] 26) = v2 at HAw HBw HB2 ⊢
  generalize w2.heap.size = bw at HBw ⊢
  have hbw := HBw.out.lt
  refine (decode_u hV hL s v2 hs (HT.out v2 HB2.out)).mono ?_
  rintro e w3 ⟨hb3, es, A3, B3, C3, D3, rfl, hF3, hS3, hl3, hd3⟩
  have hba : Below w3.heap.size w3 (w3.alloc (.cells #[.int .i64 (kindOf (tD s)), .int .i64 (nOf (tD s)), .string (sOf (tD s)), .slice A3 (nL (tD s)) B3, .slice C3 (nK (tD s)) D3] 26)) := (Below.refl _ _).alloc (Nat.le_refl _) _
  have hs3 := hb3.size
  have HF3 := hid (hF3.keep hS3 hba)
  have HS3 := hid (hS3.keep hba.size)
  have HBx := hid (box_new w3 (.int .i64 (kindOf (tD s))) (.int .i64 (nOf (tD s))) (.string (sOf (tD s))) (.slice A3 (nL (tD s)) B3) (.slice C3 (nK (tD s)) D3))
  have HV3 := hid (hb3.trans (hba.mono hs3))
  have Hd3 := hid hd3
  have HBw3 := hid (HBw.out.keep HV3.out hbw)
  have hbx0 : v2.heap.size ≤ w3.heap.size := hs3
  clear hb3 hF3 hS3 hd3 hba
  have r0 := HBw3.out.q0
  have r1 := HBw3.out.q1
  have r2 := HBw3.out.q2
  have r3 := HBw3.out.q3
  have r4 := HBw3.out.q4
  go_wp2_with fail
  clear r0 r1 r2 r3 r4
  generalize w3.alloc (.cells #[.int .i64 (kindOf (tD s)), .int .i64 (nOf (tD s)), .string (sOf (tD s)), .slice A3 (nL (tD s)) B3, .slice C3 (nK (tD s)) D3] 26) = v3 at HF3 HS3 HBx HV3 HBw3 ⊢
  generalize w3.heap.size = bx at HBx hbx0 hs3 ⊢
  refine (same_any 16 (by omega) 13 14 _ _ (tD s) v3 HF3.out.at (HAw.out.keep HV3.out)).mono ?_
  rintro e w4 ⟨rfl, hb4⟩
  have HF4 := hid (HF3.out.keep HS3.out hb4)
  have HS4 := hid (HS3.out.keep hb4.size)
  have HBx4 := hid (HBx.out.keep hb4 HBx.out.lt)
  have HV4 := hid (HV3.out.trans (hb4.mono HV3.out.size))
  clear hb4 HF3 HS3 HBx HV3 HBw3
  have r0 := HBx4.out.q0
  have r1 := HBx4.out.q1
  have r2 := HBx4.out.q2
  have r3 := HBx4.out.q3
  have r4 := HBx4.out.q4
  have HO4 : Hid (Calls Tryd.prog 11 #[.agg #[.int .i64 (kindOf (tD s)), .int .i64 (nOf (tD s)), .string (sOf (tD s)), .slice A3 (nL (tD s)) B3, .slice C3 (nK (tD s)) D3], .int .i64 1] w4 (OwnPost v2.heap.size es 1 w4)) := own_any v2.heap.size 1 _ (tD s) es w4 HF4.out HS4.out HV4.out.size (by omega) hl3 Hd3.out
  go_wp2_with fail
  clear r0 r1 r2 r3 r4
  refine HO4.out.mono ?_
  rintro e w5 ⟨hb5, R, A5, B5, C5, D5, hRl, rfl, hK5⟩
  have hba : Below w5.heap.size w5 (w5.alloc (.cells #[.slice A5 R.length B5, .slice C5 R.length D5, .int .i64 ((1 : Nat) : Int)] 34)) := (Below.refl _ _).alloc (Nat.le_refl _) _
  have HV5 := hid ((HV4.out.trans hb5).trans (hba.mono (Nat.le_trans HV4.out.size hb5.size)))
  have HB5 := hid (box3_new w5 (.slice A5 R.length B5) (.slice C5 R.length D5) (.int .i64 ((1 : Nat) : Int)))
  have HK5 := hid (hK5.keep hba)
  have hR5 : R.length ≤ 4194304 := by omega
  clear hb5 hK5 hba HF4 HS4 HBx4 HV4 HO4 Hd3 hRl hl3
  go_wp2_with fail
  generalize w5.alloc (.cells #[.slice A5 R.length B5, .slice C5 R.length D5, .int .i64 ((1 : Nat) : Int)] 34) = v5 at HV5 HB5 HK5 ⊢
  generalize w5.heap.size = b5 at HB5 ⊢
  have hb5l := HB5.out.lt
  have hv5 := HV5.out.size
  have HBw5 := hid (HBw.out.keep HV5.out hbw)
  have HA5 := hid (HAw.out.keep HV5.out)
  refine (decode_u hV hL s v5 hs (HT.out v5 (HB2.out.trans (HV5.out.mono HB2.out.size)))).mono ?_
  rintro e w6 ⟨hb6, es6, A6, B6, C6, D6, rfl, hF6, hS6, hl6, hd6⟩
  have hba : Below w6.heap.size w6 (w6.alloc (.cells #[.int .i64 (kindOf (tD s)), .int .i64 (nOf (tD s)), .string (sOf (tD s)), .slice A6 (nL (tD s)) B6, .slice C6 (nK (tD s)) D6] 26)) := (Below.refl _ _).alloc (Nat.le_refl _) _
  have HF6 := hid (hF6.keep hS6 hba)
  have HS6 := hid (hS6.keep hba.size)
  have HBy := hid (box_new w6 (.int .i64 (kindOf (tD s))) (.int .i64 (nOf (tD s))) (.string (sOf (tD s))) (.slice A6 (nL (tD s)) B6) (.slice C6 (nK (tD s)) D6))
  have HV6 := hid (hb6.trans (hba.mono hb6.size))
  have Hd6 := hid hd6
  have HBw6 := hid (HBw5.out.keep HV6.out (by omega))
  clear hb6 hF6 hS6 hd6 hba
  have r0 := HBw6.out.q0
  have r1 := HBw6.out.q1
  have r2 := HBw6.out.q2
  have r3 := HBw6.out.q3
  have r4 := HBw6.out.q4
  go_wp2_with fail
  clear r0 r1 r2 r3 r4
  generalize w6.alloc (.cells #[.int .i64 (kindOf (tD s)), .int .i64 (nOf (tD s)), .string (sOf (tD s)), .slice A6 (nL (tD s)) B6, .slice C6 (nK (tD s)) D6] 26) = v6 at HF6 HS6 HBy HV6 HBw6 ⊢
  generalize w6.heap.size = b6 at HBy ⊢
  refine (same_any 16 (by omega) 13 14 _ _ (tD s) v6 HF6.out.at (HA5.out.keep HV6.out)).mono ?_
  rintro e w7 ⟨rfl, hb7⟩
  have HF7 := hid (HF6.out.keep HS6.out hb7)
  have HS7 := hid (HS6.out.keep hb7.size)
  have HBy7 := hid (HBy.out.keep hb7 HBy.out.lt)
  have HV7 := hid (HV6.out.trans (hb7.mono HV6.out.size))
  clear hb7 HF6 HS6 HBy HV6 HBw6
  have r0 := HBy7.out.q0
  have r1 := HBy7.out.q1
  have r2 := HBy7.out.q2
  have r3 := HBy7.out.q3
  have r4 := HBy7.out.q4
  have HO7 : Hid (Calls Tryd.prog 11 #[.agg #[.int .i64 (kindOf (tD s)), .int .i64 (nOf (tD s)), .string (sOf (tD s)), .slice A6 (nL (tD s)) B6, .slice C6 (nK (tD s)) D6], .int .i64 1000000] w7 (OwnPost v5.heap.size es6 1000000 w7)) := own_any v5.heap.size 1000000 _ (tD s) es6 w7 HF7.out HS7.out HV7.out.size (by omega) hl6 Hd6.out
  go_wp2_with fail
  clear r0 r1 r2 r3 r4
  refine HO7.out.mono ?_
  rintro e w8 ⟨hb8, R8, A8, B8, C8, D8, hRl8, rfl, hK8⟩
  have hba : Below w8.heap.size w8 (w8.alloc (.cells #[.slice A8 R8.length B8, .slice C8 R8.length D8, .int .i64 1000000] 34)) := (Below.refl _ _).alloc (Nat.le_refl _) _
  have HV8 := hid ((HV7.out.trans hb8).trans (hba.mono (Nat.le_trans HV7.out.size hb8.size)))
  have HB8 := hid (box3_new w8 (.slice A8 R8.length B8) (.slice C8 R8.length D8) (.int .i64 1000000))
  have HK8 := hid (hK8.keep hba)
  have hR8 : R8.length ≤ 4194304 := by omega
  have HB58 := hid (HB5.out.keep HV8.out hb5l)
  have HK58 := hid (HK5.out.keep HV8.out)
  clear hb8 hK8 hba HF7 HS7 HBy7 HV7 HO7 Hd6 hRl8 hl6
  have r0 := HB58.out.q0
  have r1 := HB58.out.q1
  have r2 := HB58.out.q2
  go_wp2_with fail
  clear r0 r1 r2
  generalize w8.alloc (.cells #[.slice A8 R8.length B8, .slice C8 R8.length D8, .int .i64 1000000] 34) = v8 at HV8 HB8 HK8 HB58 HK58 ⊢
  generalize w8.heap.size = b8 at HB8 ⊢
  refine (kept_any R 1 A5 C5 B5 D5 v8 HK58.out (by omega) hR5).mono ?_
  rintro e w9 ⟨rfl, hb9⟩
  have HB89 := hid (HB8.out.keep hb9 HB8.out.lt)
  have HK89 := hid (HK8.out.keep hb9)
  have HV9 := hid (HV8.out.trans (hb9.mono HV8.out.size))
  clear hb9 HB8 HK8 HV8 HB58 HK58
  have r0 := HB89.out.q0
  have r1 := HB89.out.q1
  have r2 := HB89.out.q2
  go_wp2_with fail
  clear r0 r1 r2
  refine (kept_any R8 1000000 A8 C8 B8 D8 w9 HK89.out (by omega) hR8).mono ?_
  rintro e w10 ⟨rfl, hb10⟩
  have HBF := hid ((HB2.out.trans (HV5.out.mono HB2.out.size)).trans ((HV9.out.trans (hb10.mono HV9.out.size)).mono (Nat.le_trans HB2.out.size hv5)))
  clear hb10
  go_wp2_with fail
  go_ret
  exact ⟨by simp, HBF.out⟩
end Go.Proofs.YtknakfpciccoaaaDoor
