import Derived.Test.YtknakfpciccoaaaDoorZO16
import Derived.Test.YtknakfpciccoaaaDoorZO6
import Derived.Test.YtknakfpciccoaaaDoorZO14
/- The walks of the reference's parser: numbers. -/
namespace Go.Proofs.YtknakfpciccoaaaDoor
open Go.RowKit

set_option maxHeartbeats 8000000 in
set_option maxRecDepth 100000 in
theorem rnum_neg (n c : Nat) (s : ByteArray) (i : Nat) (w : World) (h : RL c s i false w) (hs : s.size ≤ 4000) (hd : cB s i = 45) :
    Calls Tryd.prog 44 #[.pointer (some ⟨c, 0, none⟩)] w (RVPost (n + 1) c s ((numS s i).map fun p => (leafT 3 p.1 ByteArray.empty, p.2)) w) := by
  have hlt : i < s.size := cB_in (by omega)
  have hpk : pk s i = 45 := by rw [pk_eq (by omega), hd]
  have Hsg : Hid (sgn s i = i + 1) := by show _ = _; unfold sgn; rw [if_pos hd]
  have H45 := hid hd
  have HB0 : Hid (Below w.heap.size w (w.alloc (.cells #[.int .i64 0, .int .i64 0, .string ⟨#[]⟩, .slice none 0 0, .slice none 0 0] 26))) := (Below.refl _ _).alloc (Nat.le_refl _) _
  have HR0 : Hid (BoxAt w.heap.size (.int .i64 0) (.int .i64 0) (.string ⟨#[]⟩) (.slice none 0 0) (.slice none 0 0) (w.alloc (.cells #[.int .i64 0, .int .i64 0, .string ⟨#[]⟩, .slice none 0 0, .slice none 0 0] 26))) := box_new w _ _ _ _ _
  have hlc := h.lt
  have HL0 := hid (h.keep HB0.out)
  have q1 := HL0.out.q1
  have HP := hid (rpeek_any c s i false _ HL0.out)
  have hz1 : w.heap.size < (w.alloc (.cells #[.int .i64 0, .int .i64 0, .string ⟨#[]⟩, .slice none 0 0, .slice none 0 0] 26)).heap.size := by simp
  clear h hd
  go_enter Tryd.func44, Tryd.ntmps44
  go_wp2_with fail
  refine HP.out.mono ?_
  rintro e w1 ⟨rfl, b1⟩
  have HL1 := hid (HL0.out.keep b1)
  have HR1 := hid (HR0.out.keepB b1)
  have HW1 := hid (But.of (c := c) (HB0.out.trans (b1.mono (Nat.le_of_lt hz1))))
  clear b1 HP HR0 HB0 HL0 hz1 q1
  have r1 := HL1.out.q1
  have r2 := HL1.out.f1
  rw [hpk]
  have HL2 := hid (HL1.out.set (i + 1))
  have HR2 := hid (HR1.out.setB (d := c) (by omega) 1 (.int .i64 ((i + 1 : Nat) : Int)))
  have HW2 := hid (HW1.out.trans (But.set w1 c 1 (.int .i64 ((i + 1 : Nat) : Int))))
  have e1 : ((i + 1 : Nat) : Int) = (i : Int) + 1 := by omega
  rw [e1] at HR2 HW2
  have HL2' : Hid (RL c s (i + 1) false (w1.setCell ⟨c, 1, none⟩ (.int .i64 ((i : Int) + 1)))) := by
    have := HL2.out
    rw [e1] at this
    exact this
  go_wp2_with fail
  have HN0 : Hid (NI c s (i + 1) (i + 1) w1.heap.size w 0 ((w1.setCell ⟨c, 1, none⟩ (.int .i64 ((i : Int) + 1))).alloc (.cells #[.int .i64 3, .int .i64 0, .string ⟨#[]⟩, .slice none 0 0, .slice none 0 0] 26))) := by
    have hb : Below (w1.setCell ⟨c, 1, none⟩ (.int .i64 ((i : Int) + 1))).heap.size (w1.setCell ⟨c, 1, none⟩ (.int .i64 ((i : Int) + 1))) ((w1.setCell ⟨c, 1, none⟩ (.int .i64 ((i : Int) + 1))).alloc (.cells #[.int .i64 3, .int .i64 0, .string ⟨#[]⟩, .slice none 0 0, .slice none 0 0] 26)) := (Below.refl _ _).alloc (Nat.le_refl _) _
    have ev : (w1.setCell ⟨c, 1, none⟩ (.int .i64 ((i : Int) + 1))).heap.size = w1.heap.size := by simp [World.setCell]
    have hbx := box_new (w1.setCell ⟨c, 1, none⟩ (.int .i64 ((i : Int) + 1))) (.int .i64 3) (.int .i64 0) (.string ⟨#[]⟩) (.slice none 0 0) (.slice none 0 0)
    rw [ev] at hbx
    exact ⟨HL2'.out.keep hb, HR2.out.keepB hb, hbx, HW2.out.trans (But.of hb), by rw [Nat.sub_self]; rfl, rfl, HR1.out.lt, hlc⟩
  have hvb := HN0.out.lv
  generalize w1.heap.size = vb at HN0 hvb ⊢
  clear HL2 HR2 HW2 HL2' HL1 HR1 HW1 r1 r2 e1
  go_loopg [6] (s.size - (i + 1)) (fun g z wr => ∃ (k : Nat) (N : Int), g = s.size - k ∧ i + 1 ≤ k ∧ k ≤ s.size ∧ N ≤ 0 ∧ -9223372036854775808 ≤ N ∧ Hid (NI c s (i + 1) k vb w N wr))
  case atStart => exact ⟨i + 1, 0, rfl, Nat.le_refl _, by omega, by omega, by omega, HN0⟩
  case round =>
    clear HN0
    obtain ⟨k, N, rfl, hk1, hk2, hN0, hN1, HI⟩ := hrel
    go_wp2_with fail
    refine (rpeek_any c s k false wr HI.out.rd).mono ?_
    rintro e w2 ⟨rfl, hb2⟩
    have HI2 := hid (HI.out.keep hb2)
    clear hb2 HI
    go_wp2_with fail
    refine (rdigit_any (pk s k) w2).mono ?_
    rintro e w2 ⟨rfl, rfl⟩
    rw [isD_pk]
    by_cases hD : isD (cB s k) = true
    · have hq : 48 ≤ cB s k ∧ cB s k ≤ 57 := by unfold isD at hD; simp at hD; exact hD
      have hkl : k < s.size := cB_in (by omega)
      have hpk2 : pk s k = cB s k := pk_eq (by omega)
      rw [hD]
      go_wp2_with fail
      refine (rpeek_any c s k false w2 HI2.out.rd).mono ?_
      rintro e w3 ⟨rfl, hb3⟩
      have HI3 := hid (HI2.out.keep hb3)
      clear hb3 HI2
      rw [hpk2]
      have v0 := HI3.out.box.q0
      have v1 := HI3.out.box.q1
      have v2 := HI3.out.box.q2
      have v3 := HI3.out.box.q3
      have v4 := HI3.out.box.q4
      have g1 := HI3.out.box.f1
      have p1 := HI3.out.rd.q1
      have p2 := HI3.out.rd.f1
      have p3 := HI3.out.rd.q2
      have p4 := HI3.out.rd.f2
      have Hq := hid hq
      have HD := hid hD
      have Hpk := hid hpk2
      clear hq hD hpk2
      obtain ⟨C, hC⟩ : ∃ C : Int, (cB s k : Int) - 48 = C := ⟨_, rfl⟩
      have hC0 : 0 ≤ C ∧ C ≤ 9 := by have := Hq.out; omega
      obtain ⟨hC1, hC2⟩ := hC0
      have u1 : IntKind.u8.wrap ((cB s k : Int) - 48) = C := by rw [hC, IntKind.wrap_u8]; omega
      have u2 : IntKind.i64.wrap C = C := by rw [IntKind.wrap_i64]; omega
      by_cases hover : N < -922337203685477580 ∨ (N = -922337203685477580 ∧ 8 < C)
      · have HZ : Hid ((numS s i).map (fun p => (leafT 3 p.1 ByteArray.empty, p.2)) = none) := by
          show _ = _
          have h1 : dv s (i + 1) (k + 1 - (i + 1)) = dv s (i + 1) (k - (i + 1)) * 10 + (cB s k - 48) := by
            have e1 : k + 1 - (i + 1) = (k - (i + 1)) + 1 := by omega
            have e2 : i + 1 + (k - (i + 1)) = k := by omega
            rw [e1, dv, e2]
          have h2 := HI3.out.val
          have h3 : k + 1 ≤ dg s (i + 1) := by
            rw [← HI3.out.dig]
            unfold dg
            rw [pass_step isD_end s k, if_pos HD.out]
            exact pass_ge _ _ _
          have h4 := Hq.out
          rw [numS_over (k := k + 1) (by rw [Hsg.out]; omega) (by rw [Hsg.out]; exact h3) (by rw [Hsg.out, h1]; omega)]
          rfl
        have r0 := HI3.out.res.q0
        have r1 := HI3.out.res.q1
        have r2 := HI3.out.res.q2
        have r3 := HI3.out.res.q3
        have r4 := HI3.out.res.q4
        have s0 := HI3.out.res.f0
        have s1 := HI3.out.res.f1
        have s2 := HI3.out.res.f2
        have s3 := HI3.out.res.f3
        have s4 := HI3.out.res.f4
        have hvb2 := HI3.out.lv
        by_cases hov1 : N < -922337203685477580
        · have y1 : decide (N < -922337203685477580) = true := decide_eq_true hov1
          clear hover hov1
          go_wp2_with fail
          refine bodyPost_ret (v := .agg #[.int .i64 3, .int .i64 N, .string ⟨#[]⟩, .slice none 0 0, .slice none 0 0]) (by simp [results, Tryd.results44, go_sem, *]) rfl ?_
          exact fin_rb 3 N ByteArray.empty (by omega) (by omega) (by omega) (by simp) HZ.out (HI3.out.but.trans (But.set w3 c 2 (.bool true))) hlc ⟨k, by omega, HI3.out.rd.mark true⟩
        · have y1 : decide (N < -922337203685477580) = false := decide_eq_false hov1
          have y2 : (N == -922337203685477580) = true := by rw [beq_iff_eq]; omega
          have y3 : decide (8 < C) = true := decide_eq_true (by omega)
          clear hover hov1
          go_wp2_with fail
          refine bodyPost_ret (v := .agg #[.int .i64 3, .int .i64 N, .string ⟨#[]⟩, .slice none 0 0, .slice none 0 0]) (by simp [results, Tryd.results44, go_sem, *]) rfl ?_
          exact fin_rb 3 N ByteArray.empty (by omega) (by omega) (by omega) (by simp) HZ.out (HI3.out.but.trans (But.set w3 c 2 (.bool true))) hlc ⟨k, by omega, HI3.out.rd.mark true⟩
      · have y1 : decide (N < -922337203685477580) = false := decide_eq_false (by omega)
        have hnl : -922337203685477580 ≤ N := by omega
        have hfit : -9223372036854775808 ≤ 10 * N - C := by omega
        have t1 : IntKind.i64.wrap (10 * N) = 10 * N := by rw [IntKind.wrap_i64]; omega
        have t2 : IntKind.i64.wrap (10 * N - C) = 10 * N - C := by rw [IntKind.wrap_i64]; omega
        have HS := hid (HI3.out.step hk1 HD.out (E := 10 * N - C) (by omega))
        by_cases hov2 : N = -922337203685477580
        · have y2 : (N == -922337203685477580) = true := by rw [beq_iff_eq]; omega
          have y3 : decide (8 < C) = false := decide_eq_false (by omega)
          have hvb2 := HI3.out.lv
          clear hover hov2
          go_wp2_with fail
          go_roundg (s.size - (k + 1))
          case rel => exact ⟨k + 1, _, rfl, by omega, by omega, by omega, by omega, HS⟩
          case measure => omega
        · have y2 : (N == -922337203685477580) = false := by rw [beq_eq_false_iff_ne]; exact hov2
          have hvb2 := HI3.out.lv
          clear hover hov2
          go_wp2_with fail
          go_roundg (s.size - (k + 1))
          case rel => exact ⟨k + 1, _, rfl, by omega, by omega, by omega, by omega, HS⟩
          case measure => omega
    · have hDf : isD (cB s k) = false := by simpa using hD
      have Hdg : Hid (dg s (i + 1) = k) := by
        show _ = _
        rw [← HI2.out.dig]
        unfold dg
        rw [pass_step isD_end s k, if_neg hD]
      rw [hDf]
      clear hD hDf
      have v0 := HI2.out.box.q0
      have v1 := HI2.out.box.q1
      have v2 := HI2.out.box.q2
      have v3 := HI2.out.box.q3
      have v4 := HI2.out.box.q4
      have g1 := HI2.out.box.f1
      have p0 := HI2.out.rd.q0
      have p1 := HI2.out.rd.q1
      have p2 := HI2.out.rd.f1
      have p3 := HI2.out.rd.q2
      have p4 := HI2.out.rd.f2
      have r0 := HI2.out.res.q0
      have r1 := HI2.out.res.q1
      have r2 := HI2.out.res.q2
      have r3 := HI2.out.res.q3
      have r4 := HI2.out.res.q4
      have s0 := HI2.out.res.f0
      have s1 := HI2.out.res.f1
      have s2 := HI2.out.res.f2
      have s3 := HI2.out.res.f3
      have s4 := HI2.out.res.f4
      have hvb2 := HI2.out.lv
      have Hval := hid HI2.out.val
      by_cases hk0 : k = i + 1
      · have HZ : Hid ((numS s i).map (fun p => (leafT 3 p.1 ByteArray.empty, p.2)) = none) := by
          show _ = _
          unfold numS
          rw [Hsg.out, if_pos (by rw [Hdg.out]; exact hk0)]
          rfl
        have y1 : ((k : Int) == ((i : Int) + 1)) = true := by rw [beq_iff_eq]; omega
        clear hk0
        go_wp2_with fail
        refine bodyPost_ret (v := .agg #[.int .i64 3, .int .i64 N, .string ⟨#[]⟩, .slice none 0 0, .slice none 0 0]) (by simp [results, Tryd.results44, go_sem, *]) rfl ?_
        exact fin_rb 3 N ByteArray.empty (by omega) (by omega) (by omega) (by simp) HZ.out (HI2.out.but.trans (But.set w2 c 2 (.bool true))) hlc ⟨k, by omega, HI2.out.rd.mark true⟩
      · have y1 : ((k : Int) == ((i : Int) + 1)) = false := by rw [beq_eq_false_iff_ne]; omega
        have hdl : i + 1 < s.size := by omega
        have hdl2 : ((i : Int) + 1) < (s.size : Int) := by omega
        obtain ⟨z, hz, hzc⟩ := cB_get hdl
        have Hzc := hid hzc
        clear hzc
        by_cases h48 : z.toNat = 48
        · have y2 : ((z.toNat : Int) == 48) = true := by rw [beq_iff_eq]; omega
          by_cases hk2' : i + 1 + 1 < k
          · have HZ : Hid ((numS s i).map (fun p => (leafT 3 p.1 ByteArray.empty, p.2)) = none) := by
              show _ = _
              rw [numS_zero (by rw [Hsg.out, Hdg.out]; exact hk2') (by rw [Hsg.out, Hzc.out]; exact h48)]
              rfl
            have y3 : decide (((i : Int) + 1) + 1 < (k : Int)) = true := decide_eq_true (by omega)
            have u1 : IntKind.i64.wrap (((i : Int) + 1) + 1) = ((i : Int) + 1) + 1 := by rw [IntKind.wrap_i64]; omega
            clear hk0 h48 hk2'
            go_wp2_with fail
            refine bodyPost_ret (v := .agg #[.int .i64 3, .int .i64 N, .string ⟨#[]⟩, .slice none 0 0, .slice none 0 0]) (by simp [results, Tryd.results44, go_sem, *]) rfl ?_
            exact fin_rb 3 N ByteArray.empty (by omega) (by omega) (by omega) (by simp) HZ.out (HI2.out.but.trans (But.set w2 c 2 (.bool true))) hlc ⟨k, by omega, HI2.out.rd.mark true⟩
          · have HX : Hid (numS s i = if dv s (i + 1) (k - (i + 1)) ≤ 9223372036854775808 then some (-(dv s (i + 1) (k - (i + 1)) : Int), k) else none) := by
              show _ = _
              unfold numS
              rw [Hsg.out, Hdg.out, if_neg hk0, if_neg (fun h => hk2' h.1), if_pos H45.out]
            have y3 : decide (((i : Int) + 1) + 1 < (k : Int)) = false := decide_eq_false (by omega)
            have u1 : IntKind.i64.wrap (((i : Int) + 1) + 1) = ((i : Int) + 1) + 1 := by rw [IntKind.wrap_i64]; omega
            clear hk0 h48 hk2'
            have HZ : Hid ((numS s i).map (fun p => (leafT 3 p.1 ByteArray.empty, p.2)) = some (leafT 3 N ByteArray.empty, k)) := by
              show _ = _
              have hv := Hval.out
              rw [HX.out, if_pos (by omega), ← hv]
              rfl
            have z1 : (((i : Int) + 1) == (i : Int)) = false := by rw [beq_eq_false_iff_ne]; omega
            go_wp2_with fail
            refine bodyPost_ret (v := .agg #[.int .i64 3, .int .i64 N, .string ⟨#[]⟩, .slice none 0 0, .slice none 0 0]) (by simp [results, Tryd.results44, go_sem, *]) rfl ?_
            exact fin_r 3 N ByteArray.empty (by omega) (by omega) (by omega) (by simp) HZ.out HI2.out.but hlc HI2.out.rd
        · have y2 : ((z.toNat : Int) == 48) = false := by rw [beq_eq_false_iff_ne]; omega
          have HX : Hid (numS s i = if dv s (i + 1) (k - (i + 1)) ≤ 9223372036854775808 then some (-(dv s (i + 1) (k - (i + 1)) : Int), k) else none) := by
            show _ = _
            unfold numS
            rw [Hsg.out, Hdg.out, if_neg hk0, if_neg (fun h => h48 (by rw [← Hzc.out]; exact h.2)), if_pos H45.out]
          clear hk0 h48
          have HZ : Hid ((numS s i).map (fun p => (leafT 3 p.1 ByteArray.empty, p.2)) = some (leafT 3 N ByteArray.empty, k)) := by
            show _ = _
            have hv := Hval.out
            rw [HX.out, if_pos (by omega), ← hv]
            rfl
          have z1 : (((i : Int) + 1) == (i : Int)) = false := by rw [beq_eq_false_iff_ne]; omega
          go_wp2_with fail
          refine bodyPost_ret (v := .agg #[.int .i64 3, .int .i64 N, .string ⟨#[]⟩, .slice none 0 0, .slice none 0 0]) (by simp [results, Tryd.results44, go_sem, *]) rfl ?_
          exact fin_r 3 N ByteArray.empty (by omega) (by omega) (by omega) (by simp) HZ.out HI2.out.but hlc HI2.out.rd
set_option maxHeartbeats 8000000 in
set_option maxRecDepth 100000 in
theorem rnum_pos (n c : Nat) (s : ByteArray) (i : Nat) (w : World) (h : RL c s i false w) (hs : s.size ≤ 4000) (hd : isD (cB s i) = true) :
    Calls Tryd.prog 44 #[.pointer (some ⟨c, 0, none⟩)] w (RVPost (n + 1) c s ((numS s i).map fun p => (leafT 3 p.1 ByteArray.empty, p.2)) w) := by
  have hq : 48 ≤ cB s i ∧ cB s i ≤ 57 := by unfold isD at hd; simp at hd; exact hd
  have hlt : i < s.size := cB_in (by omega)
  have hpk : ((pk s i : Int) == 45) = false := by rw [pk_eq (by omega), beq_eq_false_iff_ne]; omega
  have Hsg : Hid (sgn s i = i) := by show _ = _; unfold sgn; rw [if_neg (by omega)]
  have H45 : Hid (cB s i ≠ 45) := by show _ ≠ _; omega
  clear hq
  have HB0 : Hid (Below w.heap.size w (w.alloc (.cells #[.int .i64 0, .int .i64 0, .string ⟨#[]⟩, .slice none 0 0, .slice none 0 0] 26))) := (Below.refl _ _).alloc (Nat.le_refl _) _
  have HR0 : Hid (BoxAt w.heap.size (.int .i64 0) (.int .i64 0) (.string ⟨#[]⟩) (.slice none 0 0) (.slice none 0 0) (w.alloc (.cells #[.int .i64 0, .int .i64 0, .string ⟨#[]⟩, .slice none 0 0, .slice none 0 0] 26))) := box_new w _ _ _ _ _
  have hlc := h.lt
  have HL0 := hid (h.keep HB0.out)
  have q1 := HL0.out.q1
  have HP := hid (rpeek_any c s i false _ HL0.out)
  have hz1 : w.heap.size < (w.alloc (.cells #[.int .i64 0, .int .i64 0, .string ⟨#[]⟩, .slice none 0 0, .slice none 0 0] 26)).heap.size := by simp
  clear h hd
  go_enter Tryd.func44, Tryd.ntmps44
  go_wp2_with fail
  refine HP.out.mono ?_
  rintro e w1 ⟨rfl, b1⟩
  have HL1 := hid (HL0.out.keep b1)
  have HR1 := hid (HR0.out.keepB b1)
  have HW1 := hid (But.of (c := c) (HB0.out.trans (b1.mono (Nat.le_of_lt hz1))))
  clear b1 HP HR0 HB0 HL0 hz1 q1
  have r1 := HL1.out.q1
  have r2 := HL1.out.f1
  go_wp2_with fail
  have HN0 : Hid (NI c s (i) (i) w1.heap.size w 0 (w1.alloc (.cells #[.int .i64 3, .int .i64 0, .string ⟨#[]⟩, .slice none 0 0, .slice none 0 0] 26))) := by
    have hb : Below w1.heap.size w1 (w1.alloc (.cells #[.int .i64 3, .int .i64 0, .string ⟨#[]⟩, .slice none 0 0, .slice none 0 0] 26)) := (Below.refl _ _).alloc (Nat.le_refl _) _
    have ev : w1.heap.size = w1.heap.size := by rfl
    have hbx := box_new w1 (.int .i64 3) (.int .i64 0) (.string ⟨#[]⟩) (.slice none 0 0) (.slice none 0 0)
    rw [ev] at hbx
    exact ⟨HL1.out.keep hb, HR1.out.keepB hb, hbx, HW1.out.trans (But.of hb), by rw [Nat.sub_self]; rfl, rfl, HR1.out.lt, hlc⟩
  have hvb := HN0.out.lv
  generalize w1.heap.size = vb at HN0 hvb ⊢
  clear HL1 HR1 HW1 r1 r2
  go_loopg [6] (s.size - (i)) (fun g z wr => ∃ (k : Nat) (N : Int), g = s.size - k ∧ i ≤ k ∧ k ≤ s.size ∧ N ≤ 0 ∧ -9223372036854775808 ≤ N ∧ Hid (NI c s (i) k vb w N wr))
  case atStart => exact ⟨i, 0, rfl, Nat.le_refl _, by omega, by omega, by omega, HN0⟩
  case round =>
    clear HN0
    obtain ⟨k, N, rfl, hk1, hk2, hN0, hN1, HI⟩ := hrel
    go_wp2_with fail
    refine (rpeek_any c s k false wr HI.out.rd).mono ?_
    rintro e w2 ⟨rfl, hb2⟩
    have HI2 := hid (HI.out.keep hb2)
    clear hb2 HI
    go_wp2_with fail
    refine (rdigit_any (pk s k) w2).mono ?_
    rintro e w2 ⟨rfl, rfl⟩
    rw [isD_pk]
    by_cases hD : isD (cB s k) = true
    · have hq : 48 ≤ cB s k ∧ cB s k ≤ 57 := by unfold isD at hD; simp at hD; exact hD
      have hkl : k < s.size := cB_in (by omega)
      have hpk2 : pk s k = cB s k := pk_eq (by omega)
      rw [hD]
      go_wp2_with fail
      refine (rpeek_any c s k false w2 HI2.out.rd).mono ?_
      rintro e w3 ⟨rfl, hb3⟩
      have HI3 := hid (HI2.out.keep hb3)
      clear hb3 HI2
      rw [hpk2]
      have v0 := HI3.out.box.q0
      have v1 := HI3.out.box.q1
      have v2 := HI3.out.box.q2
      have v3 := HI3.out.box.q3
      have v4 := HI3.out.box.q4
      have g1 := HI3.out.box.f1
      have p1 := HI3.out.rd.q1
      have p2 := HI3.out.rd.f1
      have p3 := HI3.out.rd.q2
      have p4 := HI3.out.rd.f2
      have Hq := hid hq
      have HD := hid hD
      have Hpk := hid hpk2
      clear hq hD hpk2
      obtain ⟨C, hC⟩ : ∃ C : Int, (cB s k : Int) - 48 = C := ⟨_, rfl⟩
      have hC0 : 0 ≤ C ∧ C ≤ 9 := by have := Hq.out; omega
      obtain ⟨hC1, hC2⟩ := hC0
      have u1 : IntKind.u8.wrap ((cB s k : Int) - 48) = C := by rw [hC, IntKind.wrap_u8]; omega
      have u2 : IntKind.i64.wrap C = C := by rw [IntKind.wrap_i64]; omega
      by_cases hover : N < -922337203685477580 ∨ (N = -922337203685477580 ∧ 8 < C)
      · have HZ : Hid ((numS s i).map (fun p => (leafT 3 p.1 ByteArray.empty, p.2)) = none) := by
          show _ = _
          have h1 : dv s (i) (k + 1 - (i)) = dv s (i) (k - (i)) * 10 + (cB s k - 48) := by
            have e1 : k + 1 - (i) = (k - (i)) + 1 := by omega
            have e2 : i + (k - (i)) = k := by omega
            rw [e1, dv, e2]
          have h2 := HI3.out.val
          have h3 : k + 1 ≤ dg s (i) := by
            rw [← HI3.out.dig]
            unfold dg
            rw [pass_step isD_end s k, if_pos HD.out]
            exact pass_ge _ _ _
          have h4 := Hq.out
          rw [numS_over (k := k + 1) (by rw [Hsg.out]; omega) (by rw [Hsg.out]; exact h3) (by rw [Hsg.out, h1]; omega)]
          rfl
        have r0 := HI3.out.res.q0
        have r1 := HI3.out.res.q1
        have r2 := HI3.out.res.q2
        have r3 := HI3.out.res.q3
        have r4 := HI3.out.res.q4
        have s0 := HI3.out.res.f0
        have s1 := HI3.out.res.f1
        have s2 := HI3.out.res.f2
        have s3 := HI3.out.res.f3
        have s4 := HI3.out.res.f4
        have hvb2 := HI3.out.lv
        by_cases hov1 : N < -922337203685477580
        · have y1 : decide (N < -922337203685477580) = true := decide_eq_true hov1
          clear hover hov1
          go_wp2_with fail
          refine bodyPost_ret (v := .agg #[.int .i64 3, .int .i64 N, .string ⟨#[]⟩, .slice none 0 0, .slice none 0 0]) (by simp [results, Tryd.results44, go_sem, *]) rfl ?_
          exact fin_rb 3 N ByteArray.empty (by omega) (by omega) (by omega) (by simp) HZ.out (HI3.out.but.trans (But.set w3 c 2 (.bool true))) hlc ⟨k, by omega, HI3.out.rd.mark true⟩
        · have y1 : decide (N < -922337203685477580) = false := decide_eq_false hov1
          have y2 : (N == -922337203685477580) = true := by rw [beq_iff_eq]; omega
          have y3 : decide (8 < C) = true := decide_eq_true (by omega)
          clear hover hov1
          go_wp2_with fail
          refine bodyPost_ret (v := .agg #[.int .i64 3, .int .i64 N, .string ⟨#[]⟩, .slice none 0 0, .slice none 0 0]) (by simp [results, Tryd.results44, go_sem, *]) rfl ?_
          exact fin_rb 3 N ByteArray.empty (by omega) (by omega) (by omega) (by simp) HZ.out (HI3.out.but.trans (But.set w3 c 2 (.bool true))) hlc ⟨k, by omega, HI3.out.rd.mark true⟩
      · have y1 : decide (N < -922337203685477580) = false := decide_eq_false (by omega)
        have hnl : -922337203685477580 ≤ N := by omega
        have hfit : -9223372036854775808 ≤ 10 * N - C := by omega
        have t1 : IntKind.i64.wrap (10 * N) = 10 * N := by rw [IntKind.wrap_i64]; omega
        have t2 : IntKind.i64.wrap (10 * N - C) = 10 * N - C := by rw [IntKind.wrap_i64]; omega
        have HS := hid (HI3.out.step hk1 HD.out (E := 10 * N - C) (by omega))
        by_cases hov2 : N = -922337203685477580
        · have y2 : (N == -922337203685477580) = true := by rw [beq_iff_eq]; omega
          have y3 : decide (8 < C) = false := decide_eq_false (by omega)
          have hvb2 := HI3.out.lv
          clear hover hov2
          go_wp2_with fail
          go_roundg (s.size - (k + 1))
          case rel => exact ⟨k + 1, _, rfl, by omega, by omega, by omega, by omega, HS⟩
          case measure => omega
        · have y2 : (N == -922337203685477580) = false := by rw [beq_eq_false_iff_ne]; exact hov2
          have hvb2 := HI3.out.lv
          clear hover hov2
          go_wp2_with fail
          go_roundg (s.size - (k + 1))
          case rel => exact ⟨k + 1, _, rfl, by omega, by omega, by omega, by omega, HS⟩
          case measure => omega
    · have hDf : isD (cB s k) = false := by simpa using hD
      have Hdg : Hid (dg s (i) = k) := by
        show _ = _
        rw [← HI2.out.dig]
        unfold dg
        rw [pass_step isD_end s k, if_neg hD]
      rw [hDf]
      clear hD hDf
      have v0 := HI2.out.box.q0
      have v1 := HI2.out.box.q1
      have v2 := HI2.out.box.q2
      have v3 := HI2.out.box.q3
      have v4 := HI2.out.box.q4
      have g1 := HI2.out.box.f1
      have p0 := HI2.out.rd.q0
      have p1 := HI2.out.rd.q1
      have p2 := HI2.out.rd.f1
      have p3 := HI2.out.rd.q2
      have p4 := HI2.out.rd.f2
      have r0 := HI2.out.res.q0
      have r1 := HI2.out.res.q1
      have r2 := HI2.out.res.q2
      have r3 := HI2.out.res.q3
      have r4 := HI2.out.res.q4
      have s0 := HI2.out.res.f0
      have s1 := HI2.out.res.f1
      have s2 := HI2.out.res.f2
      have s3 := HI2.out.res.f3
      have s4 := HI2.out.res.f4
      have hvb2 := HI2.out.lv
      have Hval := hid HI2.out.val
      by_cases hk0 : k = i
      · have HZ : Hid ((numS s i).map (fun p => (leafT 3 p.1 ByteArray.empty, p.2)) = none) := by
          show _ = _
          unfold numS
          rw [Hsg.out, if_pos (by rw [Hdg.out]; exact hk0)]
          rfl
        have y1 : ((k : Int) == ((i : Int))) = true := by rw [beq_iff_eq]; omega
        clear hk0
        go_wp2_with fail
        refine bodyPost_ret (v := .agg #[.int .i64 3, .int .i64 N, .string ⟨#[]⟩, .slice none 0 0, .slice none 0 0]) (by simp [results, Tryd.results44, go_sem, *]) rfl ?_
        exact fin_rb 3 N ByteArray.empty (by omega) (by omega) (by omega) (by simp) HZ.out (HI2.out.but.trans (But.set w2 c 2 (.bool true))) hlc ⟨k, by omega, HI2.out.rd.mark true⟩
      · have y1 : ((k : Int) == ((i : Int))) = false := by rw [beq_eq_false_iff_ne]; omega
        have hdl : i < s.size := by omega
        have hdl2 : ((i : Int)) < (s.size : Int) := by omega
        obtain ⟨z, hz, hzc⟩ := cB_get hdl
        have Hzc := hid hzc
        clear hzc
        by_cases h48 : z.toNat = 48
        · have y2 : ((z.toNat : Int) == 48) = true := by rw [beq_iff_eq]; omega
          by_cases hk2' : i + 1 < k
          · have HZ : Hid ((numS s i).map (fun p => (leafT 3 p.1 ByteArray.empty, p.2)) = none) := by
              show _ = _
              rw [numS_zero (by rw [Hsg.out, Hdg.out]; exact hk2') (by rw [Hsg.out, Hzc.out]; exact h48)]
              rfl
            have y3 : decide (((i : Int)) + 1 < (k : Int)) = true := decide_eq_true (by omega)
            have u1 : IntKind.i64.wrap (((i : Int)) + 1) = ((i : Int)) + 1 := by rw [IntKind.wrap_i64]; omega
            clear hk0 h48 hk2'
            go_wp2_with fail
            refine bodyPost_ret (v := .agg #[.int .i64 3, .int .i64 N, .string ⟨#[]⟩, .slice none 0 0, .slice none 0 0]) (by simp [results, Tryd.results44, go_sem, *]) rfl ?_
            exact fin_rb 3 N ByteArray.empty (by omega) (by omega) (by omega) (by simp) HZ.out (HI2.out.but.trans (But.set w2 c 2 (.bool true))) hlc ⟨k, by omega, HI2.out.rd.mark true⟩
          · have HX : Hid (numS s i = if dv s i (k - i) < 9223372036854775808 then some ((dv s i (k - i) : Int), k) else none) := by
              show _ = _
              unfold numS
              rw [Hsg.out, Hdg.out, if_neg hk0, if_neg (fun h => hk2' h.1), if_neg H45.out]
            have y3 : decide (((i : Int)) + 1 < (k : Int)) = false := decide_eq_false (by omega)
            have u1 : IntKind.i64.wrap (((i : Int)) + 1) = ((i : Int)) + 1 := by rw [IntKind.wrap_i64]; omega
            clear hk0 h48 hk2'
            by_cases hmin : N = -9223372036854775808
            · have HZ : Hid ((numS s i).map (fun p => (leafT 3 p.1 ByteArray.empty, p.2)) = none) := by
                show _ = _
                have hv := Hval.out
                rw [HX.out, if_neg (by omega)]
                rfl
              have z1 : (N == -9223372036854775808) = true := by rw [beq_iff_eq]; exact hmin
              have z2 : IntKind.i64.wrap (-N) = N := by rw [IntKind.wrap_i64]; omega
              clear hmin
              go_wp2_with fail
              refine bodyPost_ret (v := .agg #[.int .i64 3, .int .i64 N, .string ⟨#[]⟩, .slice none 0 0, .slice none 0 0]) (by simp [results, Tryd.results44, go_sem, *]) rfl ?_
              exact fin_rb 3 N ByteArray.empty (by omega) (by omega) (by omega) (by simp) HZ.out ((HI2.out.but.trans (But.set w2 c 2 (.bool true))).setNew (by omega) _ _) hlc ⟨k, by omega, (HI2.out.rd.mark true).setB (by omega) _ _⟩
            · have HZ : Hid ((numS s i).map (fun p => (leafT 3 p.1 ByteArray.empty, p.2)) = some (leafT 3 (-N) ByteArray.empty, k)) := by
                show _ = _
                have hv := Hval.out
                have e : -N = (dv s i (k - i) : Int) := by omega
                rw [HX.out, if_pos (by omega), e]
                rfl
              have z1 : (N == -9223372036854775808) = false := by rw [beq_eq_false_iff_ne]; exact hmin
              have z2 : IntKind.i64.wrap (-N) = -N := by rw [IntKind.wrap_i64]; omega
              have hmm : -9223372036854775808 ≤ -N ∧ -N ≤ 9223372036854775807 := by omega
              clear hmin
              go_wp2_with fail
              refine bodyPost_ret (v := .agg #[.int .i64 3, .int .i64 (-N), .string ⟨#[]⟩, .slice none 0 0, .slice none 0 0]) (by simp [results, Tryd.results44, go_sem, *]) rfl ?_
              exact fin_r 3 (-N) ByteArray.empty (by omega) (by omega) hmm (by simp) HZ.out ((HI2.out.but.trans (But.set w2 c 2 (.bool false))).setNew (by omega) _ _) hlc ((HI2.out.rd.mark false).setB (by omega) _ _)
        · have y2 : ((z.toNat : Int) == 48) = false := by rw [beq_eq_false_iff_ne]; omega
          have HX : Hid (numS s i = if dv s i (k - i) < 9223372036854775808 then some ((dv s i (k - i) : Int), k) else none) := by
            show _ = _
            unfold numS
            rw [Hsg.out, Hdg.out, if_neg hk0, if_neg (fun h => h48 (by rw [← Hzc.out]; exact h.2)), if_neg H45.out]
          clear hk0 h48
          by_cases hmin : N = -9223372036854775808
          · have HZ : Hid ((numS s i).map (fun p => (leafT 3 p.1 ByteArray.empty, p.2)) = none) := by
              show _ = _
              have hv := Hval.out
              rw [HX.out, if_neg (by omega)]
              rfl
            have z1 : (N == -9223372036854775808) = true := by rw [beq_iff_eq]; exact hmin
            have z2 : IntKind.i64.wrap (-N) = N := by rw [IntKind.wrap_i64]; omega
            clear hmin
            go_wp2_with fail
            refine bodyPost_ret (v := .agg #[.int .i64 3, .int .i64 N, .string ⟨#[]⟩, .slice none 0 0, .slice none 0 0]) (by simp [results, Tryd.results44, go_sem, *]) rfl ?_
            exact fin_rb 3 N ByteArray.empty (by omega) (by omega) (by omega) (by simp) HZ.out ((HI2.out.but.trans (But.set w2 c 2 (.bool true))).setNew (by omega) _ _) hlc ⟨k, by omega, (HI2.out.rd.mark true).setB (by omega) _ _⟩
          · have HZ : Hid ((numS s i).map (fun p => (leafT 3 p.1 ByteArray.empty, p.2)) = some (leafT 3 (-N) ByteArray.empty, k)) := by
              show _ = _
              have hv := Hval.out
              have e : -N = (dv s i (k - i) : Int) := by omega
              rw [HX.out, if_pos (by omega), e]
              rfl
            have z1 : (N == -9223372036854775808) = false := by rw [beq_eq_false_iff_ne]; exact hmin
            have z2 : IntKind.i64.wrap (-N) = -N := by rw [IntKind.wrap_i64]; omega
            have hmm : -9223372036854775808 ≤ -N ∧ -N ≤ 9223372036854775807 := by omega
            clear hmin
            go_wp2_with fail
            refine bodyPost_ret (v := .agg #[.int .i64 3, .int .i64 (-N), .string ⟨#[]⟩, .slice none 0 0, .slice none 0 0]) (by simp [results, Tryd.results44, go_sem, *]) rfl ?_
            exact fin_r 3 (-N) ByteArray.empty (by omega) (by omega) hmm (by simp) HZ.out ((HI2.out.but.trans (But.set w2 c 2 (.bool false))).setNew (by omega) _ _) hlc ((HI2.out.rd.mark false).setB (by omega) _ _)
end Go.Proofs.YtknakfpciccoaaaDoor
/- The walks of the reference: number, cut, sized. -/
namespace Go.Proofs.YtknakfpciccoaaaDoor
open Go.RowKit

set_option maxHeartbeats 1000000 in
set_option maxRecDepth 100000 in
theorem cut_any (s : ByteArray) (n : Nat) (w : World) (_hn : n < 9223372036854775808) (_hs : s.size ≤ 140737488355328) :
    Calls Tryd.prog 56 #[.string s, .int .i64 n] w fun e w' => Below w.heap.size w w' ∧ ((n ≤ s.size ∧ e = .returned (.tuple #[.string (pre s n), .string (suf s n), .bool true])) ∨ (s.size < n ∧ e = .returned (.tuple #[.string ⟨#[]⟩, .string ⟨#[]⟩, .bool false]))) := by
  by_cases h : n ≤ s.size
  · go_enter Tryd.func56, Tryd.ntmps56
    go_wp2_with fail
    go_region
    all_goals (try go_wp2)
    all_goals (refine bodyPost_ret (v := .tuple #[.string (pre s n), .string (suf s n), .bool true]) (by simp [results, Tryd.results56, go_sem, pre, suf]) rfl ⟨below_drew w, Or.inl ⟨h, rfl⟩⟩)
  · go_enter Tryd.func56, Tryd.ntmps56
    go_wp2_with fail
    refine bodyPost_ret (v := .tuple #[.string ⟨#[]⟩, .string ⟨#[]⟩, .bool false]) (by simp [results, Tryd.results56, go_sem]) rfl ⟨Below.refl _ _, Or.inr ⟨by omega, rfl⟩⟩
theorem or_add (m x : Nat) (hx : x < 256) : m * 256 ||| x = m * 256 + x := by
  have h := Nat.two_pow_add_eq_or_of_lt (i := 8) (b := x) (by omega) m
  rw [Nat.mul_comm m 256]
  exact h.symm
theorem bits_or_byte (m x : Nat) (hm : m < 72057594037927936) (hx : x < 256) : bits .or .i64 (wrap64 ((m : Int) * 256)) (x : Int) = IntKind.i64.wrap ((m * 256 + x : Nat) : Int) := by
  show IntKind.i64.wrap ((BitVec.ofInt 64 (wrap64 ((m : Int) * 256)) ||| BitVec.ofInt 64 (x : Int)).toNat : Int) = _
  have h1 : (BitVec.ofInt 64 (wrap64 ((m : Int) * 256))).toNat = m * 256 := by
    rw [BitVec.toNat_ofInt, wrap64]
    omega
  have h2 : (BitVec.ofInt 64 (x : Int)).toNat = x := by
    rw [BitVec.toNat_ofInt]
    omega
  rw [BitVec.toNat_or, h1, h2, or_add m x hx]
set_option maxHeartbeats 1000000 in
set_option maxRecDepth 100000 in
theorem numberR_any (s : ByteArray) (w : World) (hs : s.size ≤ 8) :
    Calls Tryd.prog 57 #[.string s] w fun e w' => e = .returned (.int .i64 (IntKind.i64.wrap (numB s))) ∧ w' = w := by
  go_enter Tryd.func57, Tryd.ntmps57
  go_wp2_with fail
  go_loopg [3, 4] s.size (fun g n i wr => ∃ k : Nat, g = s.size - k ∧ k ≤ s.size ∧ i = .int .i64 k ∧ n = .int .i64 (IntKind.i64.wrap (numTo s k)) ∧ wr = w)
  case atStart => exact ⟨0, rfl, Nat.zero_le _, rfl, rfl, rfl⟩
  case round =>
    obtain ⟨k, rfl, hk, rfl, rfl, rfl⟩ := hrel
    by_cases hlt : k < s.size
    · have hn2 : numTo s k < 72057594037927936 := Nat.lt_of_lt_of_le (numTo_lt s k) (Nat.pow_le_pow_right (show 0 < 256 by decide) (show k ≤ 7 by omega))
      have hn1 := numTo_succ s k hlt
      have hx := (s[k]'hlt).toNat_lt
      have Hn1 := hid hn1
      clear hn1
      generalize hm : numTo s k = m at hn2 Hn1 ⊢
      have ew : IntKind.i64.wrap (m : Int) = (m : Int) := by rw [IntKind.wrap_i64]; omega
      rw [ew]
      clear ew hm
      have Hor := hid (bits_or_byte m (s[k]'hlt).toNat hn2 hx)
      go_wp2_with fail
      go_roundg (s.size - (k + 1))
      case rel => exact ⟨k + 1, rfl, by omega, by go_num, by rw [Hn1.out, Hor.out], rfl⟩
      case measure => omega
    · have Hk : Hid (k = s.size) := by show k = _; omega
      go_wp2_with fail
      go_ret
      refine ⟨?_, rfl⟩
      rw [Hk.out, numTo_all]
      rfl
set_option maxHeartbeats 1000000 in
set_option maxRecDepth 100000 in
/-- The bytes that tell a length, and the bytes. -/
theorem sized_any (s : ByteArray) (b : Nat) (w : World) (hb : b ≤ 4) (hs : s.size ≤ 140737488355328) :
    Calls Tryd.prog 58 #[.string s, .int .i64 b] w fun e w' => Below w.heap.size w w' ∧ ((∃ x r, szB s b = some (x, r) ∧ e = .returned (.tuple #[.string x, .string r, .bool true])) ∨ (szB s b = none ∧ e = .returned (.tuple #[.string ⟨#[]⟩, .string ⟨#[]⟩, .bool false]))) := by
  have HC := hid (cut_any s b w (by omega) hs)
  go_enter Tryd.func58, Tryd.ntmps58
  go_wp2_with fail
  refine HC.out.mono ?_
  rintro e w1 ⟨hb1, ⟨h1, rfl⟩ | ⟨h1, rfl⟩⟩
  · have hps := pre_size h1
    have hsz := suf_size s b
    have hlt := numB_lt (pre s b)
    rw [hps] at hlt
    have hlt4 : numB (pre s b) < 4294967296 := Nat.lt_of_lt_of_le hlt (Nat.pow_le_pow_right (show 0 < 256 by decide) hb)
    have ew : IntKind.i64.wrap (numB (pre s b) : Int) = (numB (pre s b) : Int) := by rw [IntKind.wrap_i64]; omega
    have hN := numberR_any (pre s b) w1 (by omega)
    rw [ew] at hN
    have HN := hid hN
    have HC2 := hid (cut_any (suf s b) (numB (pre s b)) w1 (by omega) (by omega))
    have HB1 := hid hb1
    have hs1 := hb1.size
    clear hb1 HC hN ew hlt hps
    go_wp2_with fail
    refine HN.out.mono ?_
    rintro e w2 ⟨rfl, rfl⟩
    go_wp2_with fail
    refine HC2.out.mono ?_
    rintro e w3 ⟨hb3, ⟨h3, rfl⟩ | ⟨h3, rfl⟩⟩
    · have HB3 := hid (HB1.out.trans (hb3.mono hs1))
      clear hb3
      go_wp2_with fail
      refine bodyPost_ret (v := .tuple #[.string (pre (suf s b) (numB (pre s b))), .string (suf (suf s b) (numB (pre s b))), .bool true]) (by simp [results, Tryd.results58, go_sem]) rfl ⟨HB3.out, Or.inl ⟨_, _, szB_some h1 h3, rfl⟩⟩
    · have HB3 := hid (HB1.out.trans (hb3.mono hs1))
      clear hb3
      go_wp2_with fail
      refine bodyPost_ret (v := .tuple #[.string ⟨#[]⟩, .string ⟨#[]⟩, .bool false]) (by simp [results, Tryd.results58, go_sem]) rfl ⟨HB3.out, Or.inr ⟨szB_none h1 h3, rfl⟩⟩
  · have HB1 := hid hb1
    clear hb1
    go_wp2_with fail
    refine bodyPost_ret (v := .tuple #[.string ⟨#[]⟩, .string ⟨#[]⟩, .bool false]) (by simp [results, Tryd.results58, go_sem]) rfl ⟨HB1.out, Or.inr ⟨szB_short h1, rfl⟩⟩
end Go.Proofs.YtknakfpciccoaaaDoor
