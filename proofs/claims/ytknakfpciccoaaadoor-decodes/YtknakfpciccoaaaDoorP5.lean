/- The walk of the program's reader: value, of numbers; and all. -/
import Derived.Test.YtknakfpciccoaaaDoorP4
namespace Go.Proofs.YtknakfpciccoaaaDoor
open Go.RowKit

theorem fin_leaf {c d : Nat} {s r : ByteArray} {w wr : World} (k n : Int) (x : ByteArray) (hk0 : 0 ≤ k) (hk1 : k ≤ 100) (hn : -9223372036854775808 ≤ n ∧ n ≤ 9223372036854775807) (hx : x.size ≤ 140737488355328) (hd : decP d s = some (leafT k n x, r)) (hB : But c w wr) (hc : c < w.heap.size) (hL : Left c r wr) :
    ValPost c d s w (.returned (.agg #[.int .i64 k, .int .i64 n, .string x, .slice none 0 0, .slice none 0 0])) (((((wr.setCell ⟨w.heap.size, 0, none⟩ (.int .i64 k)).setCell ⟨w.heap.size, 1, none⟩ (.int .i64 n)).setCell ⟨w.heap.size, 2, none⟩ (.string x)).setCell ⟨w.heap.size, 3, none⟩ (.slice none 0 0)).setCell ⟨w.heap.size, 4, none⟩ (.slice none 0 0)) := by
  obtain ⟨p1, p2, p3, p4⟩ := put_res hB hc (flat_leaf wr d k n x hk0 hk1 hn.1 hn.2 hx) (sep_leaf (w.heap.size + 1) wr) (by omega) hL (.int .i64 k) (.int .i64 n) (.string x) (.slice none 0 0) (.slice none 0 0)
  exact ⟨p1, Or.inl ⟨leafT k n x, r, _, none, 0, none, 0, hd, rfl, p2, p3, p4⟩⟩
set_option maxHeartbeats 4000000 in
set_option maxRecDepth 100000 in
theorem value_3 (d : Nat) (hd : d ≤ 12) (c : Nat) (s : ByteArray) (w : World) (hnum : numB (pre s 1) = 3) (h : Left c s w) (hs : s.size ≤ 140737488355328) : Calls Tryd.prog 55 #[.pointer (some ⟨c, 0, none⟩), .int .i64 ((12 - d : Nat) : Int)] w (ValPost c d s w) := by
  have HB0 : Hid (Below w.heap.size w (w.alloc (.cells #[.int .i64 0, .int .i64 0, .string ⟨#[]⟩, .slice none 0 0, .slice none 0 0] 26))) := (Below.refl _ _).alloc (Nat.le_refl _) _
  have HR0 : Hid (BoxAt w.heap.size (.int .i64 0) (.int .i64 0) (.string ⟨#[]⟩) (.slice none 0 0) (.slice none 0 0) (w.alloc (.cells #[.int .i64 0, .int .i64 0, .string ⟨#[]⟩, .slice none 0 0, .slice none 0 0] 26))) := box_new w _ _ _ _ _
  have hlc := h.lt
  have HN := hid (number_bytes c s 1 _ (h.keep HB0.out) (by omega) hs)
  have Hnn := hid hnum
  clear hnum
  obtain ⟨a0, ha, ha1⟩ : ∃ a : Nat, 12 - d = a ∧ a ≤ 12 := ⟨_, rfl, by omega⟩
  rw [ha]
  have Ha := hid ha
  clear h ha
  go_enter Tryd.func55, Tryd.ntmps55
  go_wp2_with fail
  refine HN.out.mono ?_
  rintro e w1 ⟨B1, ⟨h1, rfl, L1⟩ | ⟨h1, rfl⟩⟩
  · have hn := numB_lt (pre s 1)
    rw [pre_size h1] at hn
    have hsz := suf_size s 1
    have HL1 := hid L1
    have HR1 := hid (HR0.out.move B1.size (B1.block _ HR0.out.lt (by omega)))
    have HW1 := hid ((But.of (c := c) HB0.out).trans B1)
    clear B1 L1 HN HR0 HB0
    have r0 := HR1.out.q0
    have r1 := HR1.out.q1
    have r2 := HR1.out.q2
    have r3 := HR1.out.q3
    have r4 := HR1.out.q4
    have s0 := HR1.out.f0
    have s1 := HR1.out.f1
    have s2 := HR1.out.f2
    have s3 := HR1.out.f3
    have s4 := HR1.out.f4
    rw [Hnn.out]
    have HN2 := hid (number_bytes c (suf s 1) 8 w1 HL1.out (by omega) (by omega))
    go_wp2_with fail
    refine HN2.out.mono ?_
    rintro e w2 ⟨B2, ⟨h2, rfl, L2⟩ | ⟨h2, rfl⟩⟩
    · have HL2 := hid L2
      have HR2 := hid (HR1.out.move B2.size (B2.block _ HR1.out.lt (by omega)))
      have HW2 := hid (HW1.out.trans B2)
      have hn2 := numB_pre_lt h2 (by omega)
      clear B2 L2 HN2 r0 r1 r2 r3 r4 s0 s1 s2 s3 s4
      have r0 := HR2.out.q0
      have r1 := HR2.out.q1
      have r2 := HR2.out.q2
      have r3 := HR2.out.q3
      have r4 := HR2.out.q4
      have s0 := HR2.out.f0
      have s1 := HR2.out.f1
      have s2 := HR2.out.f2
      have s3 := HR2.out.f3
      have s4 := HR2.out.f4
      generalize hm : numB (pre (suf s 1) 8) = m at hn2 ⊢
      have Hm := hid hm
      clear hm
      go_wp2_with fail
      refine bodyPost_ret (v := .agg #[.int .i64 3, .int .i64 (wrap64 m), .string ⟨#[]⟩, .slice none 0 0, .slice none 0 0]) (by simp [results, Tryd.results55, go_sem, *]) rfl ?_
      refine fin_leaf 3 (wrap64 m) ⟨#[]⟩ (by decide) (by decide) (wrap64_b2 _) (by show (0 : Nat) ≤ _; omega) ?_ HW2.out hlc HL2.out
      rw [decP_eq, stepD_3 h1 Hnn.out, if_neg (by omega), Hm.out, wrap64_e]
      rfl
    · have HW2 := hid (HW1.out.trans B2)
      clear B2
      go_wp2_with fail
      exact ⟨rfl, HW2.out, Or.inr ⟨by rw [decP_eq, stepD_3 h1 Hnn.out, if_pos (by omega)], rfl⟩⟩
  · have HW1 := hid ((But.of (c := c) HB0.out).trans B1)
    clear B1
    go_wp2_with fail
    exact ⟨rfl, HW1.out, Or.inr ⟨by rw [decP_eq, stepD_0 h1], rfl⟩⟩
theorem value_step (d : Nat) (hd : d ≤ 12) (ih : ∀ d', d = d' + 1 → ValSaid d') : ValSaid d := by
  intro c s w h hs
  by_cases n1 : numB (pre s 1) = 1
  · exact value_1 d hd c s w n1 h hs
  · by_cases n2 : numB (pre s 1) = 2
    · exact value_2 d hd c s w n2 h hs
    · by_cases n3 : numB (pre s 1) = 3
      · exact value_3 d hd c s w n3 h hs
      · by_cases n4 : numB (pre s 1) = 4
        · exact value_4 d hd c s w n4 h hs
        · by_cases n5 : numB (pre s 1) = 5
          · exact value_5 d hd ih c s w n5 h hs
          · by_cases n6 : numB (pre s 1) = 6
            · exact value_6 d hd ih c s w n6 h hs
            · exact value_7 d hd c s w (by omega) h hs
theorem value_any : ∀ (d : Nat), d ≤ 12 → ValSaid d
  | 0, h => value_step 0 h (fun d' e => by omega)
  | d + 1, h => value_step (d + 1) h (fun d' e => (Nat.succ.inj e) ▸ value_any d (by omega))
end Go.Proofs.YtknakfpciccoaaaDoor
