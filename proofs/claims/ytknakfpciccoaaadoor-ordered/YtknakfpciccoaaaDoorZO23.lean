import Derived.Test.YtknakfpciccoaaaDoorZO22
import Derived.Shelf.LaysM
import Derived.Shelf.Strconv.Itoa3
import Derived.Test.YtknakfpciccoaaaDoorProg
import Derived.Test.YtknakfpciccoaaaDoorZO7
/- The walks of the reference's parser: escapes. -/
namespace Go.Proofs.YtknakfpciccoaaaDoor
open Go.RowKit

def REscPost (c : Nat) (s : ByteArray) (x : Option (Nat × Nat)) (w : World) (e : Ending) (w' : World) : Prop :=
  But c w w' ∧ ((∃ r j, x = some (r, j) ∧ e = .returned (.string (baL (Lib.encodeRune (r : Int)))) ∧ RL c s j false w') ∨ (x = none ∧ (∃ y : ByteArray, y.size ≤ 4 ∧ e = .returned (.string y)) ∧ RB c s w'))
theorem enc_ascii (a : Nat) (h : a < 128) : baL (Lib.encodeRune (a : Int)) = ⟨#[byteZ (a : Int)]⟩ := enc_of (Lib.encodeRuneZ_one (r := (a : Int)) (by omega) (by omega))
theorem conv1_set (w : World) (c : Nat) (u : Value) (a : Int) (ha : 0 ≤ a ∧ a < 256) : (convert 60 9 (.slice (some ⟨w.heap.size, 0, none⟩) 1 1)).run Tryd.prog ((w.setCell ⟨c, 1, none⟩ u).alloc (.cells #[.int .u8 a] 5)) = .ok (.string ⟨#[byteZ a]⟩) ((w.setCell ⟨c, 1, none⟩ u).alloc (.cells #[.int .u8 a] 5)) := by
  have h := conv1 (w.setCell ⟨c, 1, none⟩ u) a ha
  have e : (w.setCell ⟨c, 1, none⟩ u).heap.size = w.heap.size := by simp [World.setCell]
  rw [e] at h
  exact h
theorem pfx_two (s : ByteArray) (k : Nat) : pfx s k ⟨#[92, 117]⟩ = decide (cB s k = 92 ∧ cB s (k + 1) = 117) := by
  by_cases h : k + 2 ≤ s.size
  · have hl : (s.extract k (k + 2)).data.toList = [s.data.toList[k]'(by show k < s.size; omega), s.data.toList[k + 1]'(by show k + 1 < s.size; omega)] := by
      rw [cut_list, cut_succ s k 1 (by omega), cut_succ s k 0 (by omega), List.take_zero]
      rfl
    have h1 := bt_at s k (by omega)
    have h2 := bt_at s (k + 1) (by omega)
    rw [cB_bt (by omega : k < s.size), cB_bt (by omega : k + 1 < s.size), ← h1, ← h2]
    unfold pfx
    have hsz : (⟨#[92, 117]⟩ : ByteArray).size = 2 := rfl
    rw [hsz, decide_eq_true h, Bool.true_and]
    apply decide_eq_decide.2
    constructor
    · intro e
      have e2 : (s.extract k (k + 2)).data.toList = [92, 117] := by rw [e]
      rw [hl] at e2
      simp only [List.cons.injEq, and_true] at e2
      rw [e2.1, e2.2]
      exact ⟨rfl, rfl⟩
    · intro e
      apply ba_ext
      rw [hl]
      have a1 : s.data.toList[k]'(by show k < s.size; omega) = 92 := UInt8.toNat_inj.1 e.1
      have a2 : s.data.toList[k + 1]'(by show k + 1 < s.size; omega) = 117 := UInt8.toNat_inj.1 e.2
      rw [a1, a2]
  · have hp : pfx s k ⟨#[92, 117]⟩ = false := by unfold pfx; rw [decide_eq_false (by show ¬ (k + 2 ≤ s.size); omega), Bool.false_and]
    rw [hp]
    symm
    apply decide_eq_false
    rintro ⟨e1, e2⟩
    have := cB_in (s := s) (i := k + 1) (by omega)
    omega
set_option maxHeartbeats 4000000 in
set_option maxRecDepth 100000 in
theorem resc_34 (c : Nat) (s : ByteArray) (i : Nat) (w : World) (h : RL c s i false w) (hs : s.size ≤ 4000) (ha : cB s i = 34) :
    Calls Tryd.prog 71 #[.pointer (some ⟨c, 0, none⟩)] w (REscPost c s (escR s i) w) := by
  have HL := hid h
  have HP := hid (rpeek_any c s i false w h)
  have HX : Hid (escR s i = some (34, i + 1)) := by show _ = _; unfold escR; rw [if_pos (by omega), ha]
  have hpk := pk_of ha (by omega)
  have hi : i < s.size := cB_in (by omega)
  have HE := hid (enc_ascii 34 (by omega))
  rw [hpk] at HP
  clear h hpk ha
  go_enter Tryd.func71, Tryd.ntmps71
  go_wp2_with fail
  refine HP.out.mono ?_
  rintro e w1 ⟨rfl, b1⟩
  have HL1 := hid (HL.out.keep b1)
  have HB1 := hid (But.of (c := c) b1)
  have q1 := HL1.out.q1
  have q2 := HL1.out.f1
  have hcv := conv1_set w1 c (.int .i64 ((i : Int) + 1)) 34 (by omega)
  clear b1 HP
  go_wp2_with fail
  go_ret
  exact ⟨(HB1.out.trans (But.set w1 c 1 _)).trans (But.of ((Below.refl _ _).alloc (Nat.le_refl _) _)), Or.inl ⟨34, i + 1, HX.out, by rw [HE.out]; rfl, (HL1.out.set (i + 1)).keep ((Below.refl _ _).alloc (Nat.le_refl _) _)⟩⟩
set_option maxHeartbeats 4000000 in
set_option maxRecDepth 100000 in
theorem resc_92 (c : Nat) (s : ByteArray) (i : Nat) (w : World) (h : RL c s i false w) (hs : s.size ≤ 4000) (ha : cB s i = 92) :
    Calls Tryd.prog 71 #[.pointer (some ⟨c, 0, none⟩)] w (REscPost c s (escR s i) w) := by
  have HL := hid h
  have HP := hid (rpeek_any c s i false w h)
  have HX : Hid (escR s i = some (92, i + 1)) := by show _ = _; unfold escR; rw [if_pos (by omega), ha]
  have hpk := pk_of ha (by omega)
  have hi : i < s.size := cB_in (by omega)
  have HE := hid (enc_ascii 92 (by omega))
  rw [hpk] at HP
  clear h hpk ha
  go_enter Tryd.func71, Tryd.ntmps71
  go_wp2_with fail
  refine HP.out.mono ?_
  rintro e w1 ⟨rfl, b1⟩
  have HL1 := hid (HL.out.keep b1)
  have HB1 := hid (But.of (c := c) b1)
  have q1 := HL1.out.q1
  have q2 := HL1.out.f1
  have hcv := conv1_set w1 c (.int .i64 ((i : Int) + 1)) 92 (by omega)
  clear b1 HP
  go_wp2_with fail
  go_ret
  exact ⟨(HB1.out.trans (But.set w1 c 1 _)).trans (But.of ((Below.refl _ _).alloc (Nat.le_refl _) _)), Or.inl ⟨92, i + 1, HX.out, by rw [HE.out]; rfl, (HL1.out.set (i + 1)).keep ((Below.refl _ _).alloc (Nat.le_refl _) _)⟩⟩
set_option maxHeartbeats 4000000 in
set_option maxRecDepth 100000 in
theorem resc_47 (c : Nat) (s : ByteArray) (i : Nat) (w : World) (h : RL c s i false w) (hs : s.size ≤ 4000) (ha : cB s i = 47) :
    Calls Tryd.prog 71 #[.pointer (some ⟨c, 0, none⟩)] w (REscPost c s (escR s i) w) := by
  have HL := hid h
  have HP := hid (rpeek_any c s i false w h)
  have HX : Hid (escR s i = some (47, i + 1)) := by show _ = _; unfold escR; rw [if_pos (by omega), ha]
  have hpk := pk_of ha (by omega)
  have hi : i < s.size := cB_in (by omega)
  have HE := hid (enc_ascii 47 (by omega))
  rw [hpk] at HP
  clear h hpk ha
  go_enter Tryd.func71, Tryd.ntmps71
  go_wp2_with fail
  refine HP.out.mono ?_
  rintro e w1 ⟨rfl, b1⟩
  have HL1 := hid (HL.out.keep b1)
  have HB1 := hid (But.of (c := c) b1)
  have q1 := HL1.out.q1
  have q2 := HL1.out.f1
  have hcv := conv1_set w1 c (.int .i64 ((i : Int) + 1)) 47 (by omega)
  clear b1 HP
  go_wp2_with fail
  go_ret
  exact ⟨(HB1.out.trans (But.set w1 c 1 _)).trans (But.of ((Below.refl _ _).alloc (Nat.le_refl _) _)), Or.inl ⟨47, i + 1, HX.out, by rw [HE.out]; rfl, (HL1.out.set (i + 1)).keep ((Below.refl _ _).alloc (Nat.le_refl _) _)⟩⟩
set_option maxHeartbeats 4000000 in
set_option maxRecDepth 100000 in
theorem resc_98 (c : Nat) (s : ByteArray) (i : Nat) (w : World) (h : RL c s i false w) (hs : s.size ≤ 4000) (ha : cB s i = 98) :
    Calls Tryd.prog 71 #[.pointer (some ⟨c, 0, none⟩)] w (REscPost c s (escR s i) w) := by
  have HL := hid h
  have HP := hid (rpeek_any c s i false w h)
  have HX : Hid (escR s i = some (8, i + 1)) := by show _ = _; unfold escR; rw [if_neg (by omega), if_pos ha]
  have hpk := pk_of ha (by omega)
  have hi : i < s.size := cB_in (by omega)
  have HE := hid (enc_ascii 8 (by omega))
  rw [hpk] at HP
  clear h hpk ha
  go_enter Tryd.func71, Tryd.ntmps71
  go_wp2_with fail
  refine HP.out.mono ?_
  rintro e w1 ⟨rfl, b1⟩
  have HL1 := hid (HL.out.keep b1)
  have HB1 := hid (But.of (c := c) b1)
  have q1 := HL1.out.q1
  have q2 := HL1.out.f1
  clear b1 HP
  go_wp2_with fail
  go_ret
  exact ⟨HB1.out.trans (But.set w1 c 1 _), Or.inl ⟨8, i + 1, HX.out, by rw [HE.out]; rfl, HL1.out.set (i + 1)⟩⟩
set_option maxHeartbeats 4000000 in
set_option maxRecDepth 100000 in
theorem resc_102 (c : Nat) (s : ByteArray) (i : Nat) (w : World) (h : RL c s i false w) (hs : s.size ≤ 4000) (ha : cB s i = 102) :
    Calls Tryd.prog 71 #[.pointer (some ⟨c, 0, none⟩)] w (REscPost c s (escR s i) w) := by
  have HL := hid h
  have HP := hid (rpeek_any c s i false w h)
  have HX : Hid (escR s i = some (12, i + 1)) := by show _ = _; unfold escR; rw [if_neg (by omega), if_neg (by omega), if_pos ha]
  have hpk := pk_of ha (by omega)
  have hi : i < s.size := cB_in (by omega)
  have HE := hid (enc_ascii 12 (by omega))
  rw [hpk] at HP
  clear h hpk ha
  go_enter Tryd.func71, Tryd.ntmps71
  go_wp2_with fail
  refine HP.out.mono ?_
  rintro e w1 ⟨rfl, b1⟩
  have HL1 := hid (HL.out.keep b1)
  have HB1 := hid (But.of (c := c) b1)
  have q1 := HL1.out.q1
  have q2 := HL1.out.f1
  clear b1 HP
  go_wp2_with fail
  go_ret
  exact ⟨HB1.out.trans (But.set w1 c 1 _), Or.inl ⟨12, i + 1, HX.out, by rw [HE.out]; rfl, HL1.out.set (i + 1)⟩⟩
set_option maxHeartbeats 4000000 in
set_option maxRecDepth 100000 in
theorem resc_110 (c : Nat) (s : ByteArray) (i : Nat) (w : World) (h : RL c s i false w) (hs : s.size ≤ 4000) (ha : cB s i = 110) :
    Calls Tryd.prog 71 #[.pointer (some ⟨c, 0, none⟩)] w (REscPost c s (escR s i) w) := by
  have HL := hid h
  have HP := hid (rpeek_any c s i false w h)
  have HX : Hid (escR s i = some (10, i + 1)) := by show _ = _; unfold escR; rw [if_neg (by omega), if_neg (by omega), if_neg (by omega), if_pos ha]
  have hpk := pk_of ha (by omega)
  have hi : i < s.size := cB_in (by omega)
  have HE := hid (enc_ascii 10 (by omega))
  rw [hpk] at HP
  clear h hpk ha
  go_enter Tryd.func71, Tryd.ntmps71
  go_wp2_with fail
  refine HP.out.mono ?_
  rintro e w1 ⟨rfl, b1⟩
  have HL1 := hid (HL.out.keep b1)
  have HB1 := hid (But.of (c := c) b1)
  have q1 := HL1.out.q1
  have q2 := HL1.out.f1
  clear b1 HP
  go_wp2_with fail
  go_ret
  exact ⟨HB1.out.trans (But.set w1 c 1 _), Or.inl ⟨10, i + 1, HX.out, by rw [HE.out]; rfl, HL1.out.set (i + 1)⟩⟩
set_option maxHeartbeats 4000000 in
set_option maxRecDepth 100000 in
theorem resc_114 (c : Nat) (s : ByteArray) (i : Nat) (w : World) (h : RL c s i false w) (hs : s.size ≤ 4000) (ha : cB s i = 114) :
    Calls Tryd.prog 71 #[.pointer (some ⟨c, 0, none⟩)] w (REscPost c s (escR s i) w) := by
  have HL := hid h
  have HP := hid (rpeek_any c s i false w h)
  have HX : Hid (escR s i = some (13, i + 1)) := by show _ = _; unfold escR; rw [if_neg (by omega), if_neg (by omega), if_neg (by omega), if_neg (by omega), if_pos ha]
  have hpk := pk_of ha (by omega)
  have hi : i < s.size := cB_in (by omega)
  have HE := hid (enc_ascii 13 (by omega))
  rw [hpk] at HP
  clear h hpk ha
  go_enter Tryd.func71, Tryd.ntmps71
  go_wp2_with fail
  refine HP.out.mono ?_
  rintro e w1 ⟨rfl, b1⟩
  have HL1 := hid (HL.out.keep b1)
  have HB1 := hid (But.of (c := c) b1)
  have q1 := HL1.out.q1
  have q2 := HL1.out.f1
  clear b1 HP
  go_wp2_with fail
  go_ret
  exact ⟨HB1.out.trans (But.set w1 c 1 _), Or.inl ⟨13, i + 1, HX.out, by rw [HE.out]; rfl, HL1.out.set (i + 1)⟩⟩
set_option maxHeartbeats 4000000 in
set_option maxRecDepth 100000 in
theorem resc_116 (c : Nat) (s : ByteArray) (i : Nat) (w : World) (h : RL c s i false w) (hs : s.size ≤ 4000) (ha : cB s i = 116) :
    Calls Tryd.prog 71 #[.pointer (some ⟨c, 0, none⟩)] w (REscPost c s (escR s i) w) := by
  have HL := hid h
  have HP := hid (rpeek_any c s i false w h)
  have HX : Hid (escR s i = some (9, i + 1)) := by show _ = _; unfold escR; rw [if_neg (by omega), if_neg (by omega), if_neg (by omega), if_neg (by omega), if_neg (by omega), if_pos ha]
  have hpk := pk_of ha (by omega)
  have hi : i < s.size := cB_in (by omega)
  have HE := hid (enc_ascii 9 (by omega))
  rw [hpk] at HP
  clear h hpk ha
  go_enter Tryd.func71, Tryd.ntmps71
  go_wp2_with fail
  refine HP.out.mono ?_
  rintro e w1 ⟨rfl, b1⟩
  have HL1 := hid (HL.out.keep b1)
  have HB1 := hid (But.of (c := c) b1)
  have q1 := HL1.out.q1
  have q2 := HL1.out.f1
  clear b1 HP
  go_wp2_with fail
  go_ret
  exact ⟨HB1.out.trans (But.set w1 c 1 _), Or.inl ⟨9, i + 1, HX.out, by rw [HE.out]; rfl, HL1.out.set (i + 1)⟩⟩
set_option maxHeartbeats 4000000 in
set_option maxRecDepth 100000 in
theorem resc_no (c : Nat) (s : ByteArray) (i : Nat) (w : World) (h : RL c s i false w) (hs : s.size ≤ 4000) (hi : i ≤ s.size) (hn : cB s i ≠ 34 ∧ cB s i ≠ 92 ∧ cB s i ≠ 47 ∧ cB s i ≠ 98 ∧ cB s i ≠ 102 ∧ cB s i ≠ 110 ∧ cB s i ≠ 114 ∧ cB s i ≠ 116 ∧ cB s i ≠ 117) :
    Calls Tryd.prog 71 #[.pointer (some ⟨c, 0, none⟩)] w (REscPost c s (escR s i) w) := by
  have HL := hid h
  have HP := hid (rpeek_any c s i false w h)
  obtain ⟨n1, n2, n3, n4, n5, n6, n7, n8, n9⟩ := hn
  have HX : Hid (escR s i = none) := by show _ = _; unfold escR; rw [if_neg (by omega), if_neg n4, if_neg n5, if_neg n6, if_neg n7, if_neg n8, if_neg n9]
  have p1 := pk_ne n1 (by omega)
  have p2 := pk_ne n2 (by omega)
  have p3 := pk_ne n3 (by omega)
  have p4 := pk_ne n4 (by omega)
  have p5 := pk_ne n5 (by omega)
  have p6 := pk_ne n6 (by omega)
  have p7 := pk_ne n7 (by omega)
  have p8 := pk_ne n8 (by omega)
  have p9 := pk_ne n9 (by omega)
  clear h n1 n2 n3 n4 n5 n6 n7 n8 n9
  generalize pk s i = a at HP p1 p2 p3 p4 p5 p6 p7 p8 p9
  have y1 : ((a : Int) == 34) = false := by rw [beq_eq_false_iff_ne]; omega
  have y2 : ((a : Int) == 92) = false := by rw [beq_eq_false_iff_ne]; omega
  have y3 : ((a : Int) == 47) = false := by rw [beq_eq_false_iff_ne]; omega
  have y4 : ((a : Int) == 98) = false := by rw [beq_eq_false_iff_ne]; omega
  have y5 : ((a : Int) == 102) = false := by rw [beq_eq_false_iff_ne]; omega
  have y6 : ((a : Int) == 110) = false := by rw [beq_eq_false_iff_ne]; omega
  have y7 : ((a : Int) == 114) = false := by rw [beq_eq_false_iff_ne]; omega
  have y8 : ((a : Int) == 116) = false := by rw [beq_eq_false_iff_ne]; omega
  have y9 : ((a : Int) == 117) = false := by rw [beq_eq_false_iff_ne]; omega
  clear p1 p2 p3 p4 p5 p6 p7 p8 p9
  go_enter Tryd.func71, Tryd.ntmps71
  go_wp2_with fail
  refine HP.out.mono ?_
  rintro e w1 ⟨rfl, b1⟩
  have HL1 := hid (HL.out.keep b1)
  have HB1 := hid (But.of (c := c) b1)
  have HL2 := hid (HL1.out.set (i + 1))
  have q1 := HL1.out.q1
  have q2 := HL1.out.f1
  have q3 := HL1.out.q2
  have q4 := HL1.out.f2
  clear b1 HP
  go_wp2_with fail
  go_ret
  exact ⟨(HB1.out.trans (But.set w1 c 1 _)).trans (But.set _ c 2 _), Or.inr ⟨HX.out, ⟨⟨#[]⟩, by show (0 : Nat) ≤ 4; omega, rfl⟩, i + 1, by omega, HL2.out.mark true⟩⟩
set_option maxHeartbeats 8000000 in
set_option maxRecDepth 100000 in
theorem resc_u (c : Nat) (s : ByteArray) (i : Nat) (w : World) (h : RL c s i false w) (hs : s.size ≤ 4000) (ha : cB s i = 117) :
    Calls Tryd.prog 71 #[.pointer (some ⟨c, 0, none⟩)] w (REscPost c s (escR s i) w) := by
  have HL := hid h
  have HP := hid (rpeek_any c s i false w h)
  have HX : Hid (escR s i = (hex4 s (i + 1)).bind fun a => low s (i + 5) a) := by show _ = _; unfold escR; rw [if_neg (by omega), if_neg (by omega), if_neg (by omega), if_neg (by omega), if_neg (by omega), if_neg (by omega), if_pos ha]
  have hpk := pk_of ha (by omega)
  have hi : i < s.size := cB_in (by omega)
  rw [hpk] at HP
  clear h hpk ha
  go_enter Tryd.func71, Tryd.ntmps71
  go_wp2_with fail
  refine HP.out.mono ?_
  rintro e w1 ⟨rfl, b1⟩
  have HL1 := hid (HL.out.keep b1)
  have HB1 := hid (But.of (c := c) b1)
  have q1 := HL1.out.q1
  have q2 := HL1.out.f1
  have HL2 := hid (HL1.out.set (i + 1))
  have HB2 := hid (HB1.out.trans (But.set w1 c 1 (.int .i64 ((i + 1 : Nat) : Int))))
  have HH : Hid (Calls Tryd.prog 89 #[.pointer (some ⟨c, 0, none⟩)] (w1.setCell ⟨c, 1, none⟩ (.int .i64 ((i : Int) + 1))) (RHexPost c s (i + 1) false (w1.setCell ⟨c, 1, none⟩ (.int .i64 ((i + 1 : Nat) : Int))))) := rhex_any c s (i + 1) false _ HL2.out hs (by omega)
  clear b1 HP HL HL1 HB1
  go_wp2_with fail
  refine HH.out.mono ?_
  clear HL2
  generalize w1.setCell ⟨c, 1, none⟩ (.int .i64 ((i + 1 : Nat) : Int)) = w2 at HB2 ⊢
  rintro e w3 ⟨B3, ⟨a, hx, rfl, L3⟩ | ⟨hx, rfl, L3⟩⟩
  · have HB3 := hid (HB2.out.trans B3)
    obtain ⟨m, hm⟩ : ∃ m : Nat, m = i + 5 := ⟨_, rfl⟩
    have HL3 : Hid (RL c s m false w3) := by rw [hm]; exact L3
    have ha : a < 65536 := (hexN_lt hx).1
    have hi5 : m ≤ s.size := by have := (hexN_lt hx).2 (by omega); omega
    have HY : Hid (escR s i = low s m a) := by show _ = _; rw [HX.out, hx, hm]; rfl
    have p2 := HL3.out.q2
    have p3 := HL3.out.f2
    clear B3 L3 hx HH q1 q2 HX HB2 hm
    by_cases hs1 : a < 55296 ∨ 57343 < a
    · have HZ : Hid (low s (m) a = some (a, m)) := by show _ = _; unfold low; rw [if_pos hs1]
      have hm : max (a : Int) 0 = (a : Int) := by omega
      have HEn := hid (encoded_any a (w3.setCell ⟨c, 2, none⟩ (.bool false)) (by omega) (by omega))
      have y0 : decide ((a : Int) < 0) = false := decide_eq_false (by omega)
      by_cases hs2 : a < 55296
      · have y1 : decide ((a : Int) < 55296) = true := decide_eq_true (by omega)
        clear hs1 hs2
        go_wp2_with fail
        refine HEn.out.mono ?_
        rintro e w4 ⟨rfl, b4⟩
        have HL4 := hid ((HL3.out.mark false).keep b4)
        have HB4 := hid ((HB3.out.trans (But.set w3 c 2 (.bool false))).trans (But.of b4))
        clear b4
        go_wp2_with fail
        go_ret
        exact ⟨HB4.out, Or.inl ⟨a, m, HY.out.trans HZ.out, rfl, HL4.out⟩⟩
      · have y1 : decide ((a : Int) < 55296) = false := decide_eq_false (by omega)
        have y2 : decide ((57344 : Int) ≤ (a : Int)) = true := decide_eq_true (by omega)
        clear hs1 hs2
        go_wp2_with fail
        refine HEn.out.mono ?_
        rintro e w4 ⟨rfl, b4⟩
        have HL4 := hid ((HL3.out.mark false).keep b4)
        have HB4 := hid ((HB3.out.trans (But.set w3 c 2 (.bool false))).trans (But.of b4))
        clear b4
        go_wp2_with fail
        go_ret
        exact ⟨HB4.out, Or.inl ⟨a, m, HY.out.trans HZ.out, rfl, HL4.out⟩⟩
    · have y1 : decide ((a : Int) < 55296) = false := decide_eq_false (by omega)
      have y2 : decide ((57344 : Int) ≤ (a : Int)) = false := decide_eq_false (by omega)
      have p0 := HL3.out.q0
      have p1 := HL3.out.q1
      have p4 := HL3.out.f1
      by_cases hs2 : 56319 < a
      · have HZ : Hid (low s (m) a = none) := by show _ = _; unfold low; rw [if_neg hs1, if_pos hs2]
        have y3 : decide ((56320 : Int) ≤ (a : Int)) = true := decide_eq_true (by omega)
        clear hs1 hs2
        go_wp2_with fail
        go_quiet (fail)
        have HBq := hid (below_drewN (Below.refl w3.heap.size w3) nq)
        generalize w3.drewN nq = w4 at HBq ⊢
        have HL4 := hid (HL3.out.keep HBq.out)
        have HB4 := hid (HB3.out.trans (But.of HBq.out))
        clear p0 p1 p2 p3 p4
        have p2 := HL4.out.q2
        have p3 := HL4.out.f2
        go_wp2_with fail
        go_ret
        exact ⟨HB4.out.trans (But.set w4 c 2 _), Or.inr ⟨HY.out.trans HZ.out, ⟨⟨#[]⟩, by show (0 : Nat) ≤ 4; omega, rfl⟩, m, by omega, HL4.out.mark true⟩⟩
      · have y3 : decide ((56320 : Int) ≤ (a : Int)) = false := decide_eq_false (by omega)
        have HZ0 : Hid (low s (m) a = if cB s (m) = 92 ∧ cB s (m + 1) = 117 then (hex4 s (m + 2)).bind fun b => if b < 56320 ∨ 57343 < b then none else some (65536 + 1024 * (a - 55296) + (b - 56320), m + 6) else none) := by show _ = _; unfold low; rw [if_neg hs1, if_neg hs2]
        have hr1 : 55296 ≤ a := by omega
        have hr2 : a ≤ 56319 := by omega
        clear hs1 hs2
        have w1e : IntKind.i64.wrap ((m : Int) + 2) = (m : Int) + 2 := by rw [IntKind.wrap_i64]; omega
        by_cases hl : m + 2 ≤ s.size
        · have y4 : decide ((s.size : Int) < (m : Int) + 2) = false := decide_eq_false (by omega)
          have z1 : (m : Int) ≤ (m : Int) + 2 := by omega
          have z2 : (m : Int) + 2 ≤ (s.size : Int) := by omega
          have hpt := pfx_two s (m)
          rw [pfx_eq (by show m + 2 ≤ s.size; omega)] at hpt
          by_cases hpu : cB s (m) = 92 ∧ cB s (m + 1) = 117
          · have hq : s.extract (m) (m + 2) = ⟨#[92, 117]⟩ := by
              rw [decide_eq_true hpu] at hpt
              exact of_decide_eq_true hpt
            have HZ1 : Hid (low s (m) a = (hex4 s (m + 2)).bind fun b => if b < 56320 ∨ 57343 < b then none else some (65536 + 1024 * (a - 55296) + (b - 56320), m + 6)) := by show _ = _; rw [HZ0.out, if_pos hpu]
            clear hpu hpt HZ0
            go_wp2_with fail
            go_quiet (fail)
            have HBq := hid (below_drewN (Below.refl w3.heap.size w3) nq)
            generalize w3.drewN nq = w4 at HBq ⊢
            have HL4 := hid (HL3.out.keep HBq.out)
            have HB4 := hid (HB3.out.trans (But.of HBq.out))
            clear p0 p1 p2 p3 p4 hq w1e y4 z1 z2
            have p1 := HL4.out.q1
            have p4 := HL4.out.f1
            have HL5 := hid (HL4.out.set (m + 2))
            have HB5 := hid (HB4.out.trans (But.set w4 c 1 (.int .i64 ((m + 2 : Nat) : Int))))
            have HH : Hid (Calls Tryd.prog 89 #[.pointer (some ⟨c, 0, none⟩)] (w4.setCell ⟨c, 1, none⟩ (.int .i64 ((m : Int) + 2))) (RHexPost c s (m + 2) false (w4.setCell ⟨c, 1, none⟩ (.int .i64 ((m + 2 : Nat) : Int))))) := rhex_any c s (m + 2) false _ HL5.out hs (by omega)
            go_wp2_with fail
            refine HH.out.mono ?_
            clear HL5 HH
            generalize w4.setCell ⟨c, 1, none⟩ (.int .i64 ((m + 2 : Nat) : Int)) = w5 at HB5 ⊢
            rintro e w6 ⟨B6, ⟨b, hx, rfl, L6⟩ | ⟨hx, rfl, L6⟩⟩
            · have HB6 := hid (HB5.out.trans B6)
              have HL6 := hid L6
              have hb : b < 65536 := (hexN_lt hx).1
              have hi6 : m + 2 + 4 ≤ s.size := (hexN_lt hx).2 (by omega)
              have HZ2 : Hid (low s (m) a = if b < 56320 ∨ 57343 < b then none else some (65536 + 1024 * (a - 55296) + (b - 56320), m + 6)) := by show _ = _; rw [HZ1.out]; show (hex4 s (m + 2)).bind _ = _; rw [hx]; rfl
              have r2 := HL6.out.q2
              have r3 := HL6.out.f2
              clear B6 L6 hx HZ1 p1 p4
              by_cases hb1 : b < 56320 ∨ 57343 < b
              · have HZ : Hid (low s (m) a = none) := by show _ = _; rw [HZ2.out, if_pos hb1]
                by_cases hb2 : b < 56320
                · have y5 : decide ((b : Int) < 56320) = true := decide_eq_true (by omega)
                  clear hb1 hb2
                  go_wp2_with fail
                  go_ret
                  exact ⟨HB6.out.trans (But.set w6 c 2 _), Or.inr ⟨HY.out.trans HZ.out, ⟨⟨#[]⟩, by show (0 : Nat) ≤ 4; omega, rfl⟩, _, by omega, HL6.out.mark true⟩⟩
                · have y5 : decide ((b : Int) < 56320) = false := decide_eq_false (by omega)
                  have y6 : decide ((57344 : Int) ≤ (b : Int)) = true := decide_eq_true (by omega)
                  clear hb1 hb2
                  go_wp2_with fail
                  go_ret
                  exact ⟨HB6.out.trans (But.set w6 c 2 _), Or.inr ⟨HY.out.trans HZ.out, ⟨⟨#[]⟩, by show (0 : Nat) ≤ 4; omega, rfl⟩, _, by omega, HL6.out.mark true⟩⟩
              · have HZ : Hid (low s (m) a = some (65536 + 1024 * (a - 55296) + (b - 56320), m + 6)) := by show _ = _; rw [HZ2.out, if_neg hb1]
                have y5 : decide ((b : Int) < 56320) = false := decide_eq_false (by omega)
                have y6 : decide ((57344 : Int) ≤ (b : Int)) = false := decide_eq_false (by omega)
                have hr3 : 56320 ≤ b := by omega
                have hr4 : b ≤ 57343 := by omega
                clear hb1
                have HEn : Hid (Calls Tryd.prog 90 #[.int .i64 (65536 + 1024 * ((a : Int) - 55296) + (b : Int) - 56320)] w6 fun e w' => e = .returned (.string (baL (Lib.encodeRune ((65536 + 1024 * (a - 55296) + (b - 56320) : Nat) : Int)))) ∧ Below w6.heap.size w6 w') := by
                  have := encoded_any (65536 + 1024 * (a - 55296) + (b - 56320)) w6 (by omega) (by omega)
                  have e1 : ((65536 + 1024 * (a - 55296) + (b - 56320) : Nat) : Int) = 65536 + 1024 * ((a : Int) - 55296) + (b : Int) - 56320 := by omega
                  rw [e1] at this ⊢
                  exact this
                go_wp2_with fail
                refine HEn.out.mono ?_
                rintro e w7 ⟨rfl, b7⟩
                have HL7 := hid (HL6.out.keep b7)
                have HB7 := hid (HB6.out.trans (But.of b7))
                clear b7
                go_wp2_with fail
                go_ret
                exact ⟨HB7.out, Or.inl ⟨_, m + 6, HY.out.trans HZ.out, rfl, HL7.out⟩⟩
            · have HB6 := hid (HB5.out.trans B6)
              have HL6 := hid L6
              have HZ : Hid (low s (m) a = none) := by show _ = _; rw [HZ1.out]; show (hex4 s (m + 2)).bind _ = _; rw [hx]; rfl
              have r2 := HL6.out.q2
              have r3 := HL6.out.f2
              clear B6 L6 hx HZ1 p1 p4
              go_wp2_with fail
              go_ret
              exact ⟨HB6.out.trans (But.set w6 c 2 _), Or.inr ⟨HY.out.trans HZ.out, ⟨⟨#[]⟩, by show (0 : Nat) ≤ 4; omega, rfl⟩, _, by omega, HL6.out.mark true⟩⟩
          · have hq : ((s.extract m (m + 2)).toList == ([92, 117] : List UInt8)) = false := by
              have h1 := list_ne (s.extract m (m + 2)) ⟨#[92, 117]⟩
              have h2 : (⟨#[92, 117]⟩ : ByteArray).toList = [92, 117] := by rw [ByteArray.toList_eq]
              rw [h2] at h1
              rw [h1]
              rw [decide_eq_false hpu] at hpt
              exact hpt
            have HZ : Hid (low s (m) a = none) := by show _ = _; rw [HZ0.out, if_neg hpu]
            clear hpu hpt HZ0
            go_wp2_with fail
            go_quiet (fail)
            have HBq := hid (below_drewN (Below.refl w3.heap.size w3) nq)
            generalize w3.drewN nq = w4 at HBq ⊢
            have HL4 := hid (HL3.out.keep HBq.out)
            have HB4 := hid (HB3.out.trans (But.of HBq.out))
            clear p0 p1 p2 p3 p4
            have p2 := HL4.out.q2
            have p3 := HL4.out.f2
            go_wp2_with fail
            go_ret
            exact ⟨HB4.out.trans (But.set w4 c 2 _), Or.inr ⟨HY.out.trans HZ.out, ⟨⟨#[]⟩, by show (0 : Nat) ≤ 4; omega, rfl⟩, m, by omega, HL4.out.mark true⟩⟩
        · have y4 : decide ((s.size : Int) < (m : Int) + 2) = true := decide_eq_true (by omega)
          have HZ : Hid (low s (m) a = none) := by
            show _ = _
            rw [HZ0.out, if_neg]
            rintro ⟨_, h2⟩
            have := cB_in (s := s) (i := m + 1) (by omega)
            omega
          clear HZ0
          go_wp2_with fail
          go_quiet (fail)
          have HBq := hid (below_drewN (Below.refl w3.heap.size w3) nq)
          generalize w3.drewN nq = w4 at HBq ⊢
          have HL4 := hid (HL3.out.keep HBq.out)
          have HB4 := hid (HB3.out.trans (But.of HBq.out))
          clear p0 p1 p2 p3 p4
          have p2 := HL4.out.q2
          have p3 := HL4.out.f2
          go_wp2_with fail
          go_ret
          exact ⟨HB4.out.trans (But.set w4 c 2 _), Or.inr ⟨HY.out.trans HZ.out, ⟨⟨#[]⟩, by show (0 : Nat) ≤ 4; omega, rfl⟩, m, by omega, HL4.out.mark true⟩⟩
  · have HB3 := hid (HB2.out.trans B3)
    have HL3 := hid L3
    have HY : Hid (escR s i = none) := by show _ = _; rw [HX.out, hx]; rfl
    have p2 := HL3.out.q2
    have p3 := HL3.out.f2
    have HEn := hid (encoded_any 0 (w3.setCell ⟨c, 2, none⟩ (.bool true)) (by omega) (by omega))
    clear B3 L3 hx HH q1 q2 HX HB2
    go_wp2_with fail
    refine HEn.out.mono ?_
    rintro e w4 ⟨rfl, b4⟩
    have HL4 := hid ((HL3.out.mark true).keep b4)
    have HB4 := hid ((HB3.out.trans (But.set w3 c 2 (.bool true))).trans (But.of b4))
    clear b4
    go_wp2_with fail
    go_ret
    exact ⟨HB4.out, Or.inr ⟨HY.out, ⟨_, by have := enc_ascii 0 (by omega); rw [show ((0 : Nat) : Int) = 0 from rfl] at this; rw [this]; show (1 : Nat) ≤ 4; omega, rfl⟩, i + 1, by omega, HL4.out⟩⟩
theorem rescape_any (c : Nat) (s : ByteArray) (i : Nat) (w : World) (h : RL c s i false w) (hs : s.size ≤ 4000) (hi : i ≤ s.size) :
    Calls Tryd.prog 71 #[.pointer (some ⟨c, 0, none⟩)] w (REscPost c s (escR s i) w) := by
  by_cases h34 : cB s i = 34
  · exact resc_34 c s i w h hs h34
  by_cases h92 : cB s i = 92
  · exact resc_92 c s i w h hs h92
  by_cases h47 : cB s i = 47
  · exact resc_47 c s i w h hs h47
  by_cases h98 : cB s i = 98
  · exact resc_98 c s i w h hs h98
  by_cases h102 : cB s i = 102
  · exact resc_102 c s i w h hs h102
  by_cases h110 : cB s i = 110
  · exact resc_110 c s i w h hs h110
  by_cases h114 : cB s i = 114
  · exact resc_114 c s i w h hs h114
  by_cases h116 : cB s i = 116
  · exact resc_116 c s i w h hs h116
  by_cases h117 : cB s i = 117
  · exact resc_u c s i w h hs h117
  · exact resc_no c s i w h hs hi ⟨h34, h92, h47, h98, h102, h110, h114, h116, h117⟩
end Go.Proofs.YtknakfpciccoaaaDoor
/- The contract of strconv.Itoa, of the library's shelf, laid at this dump. -/
namespace Go.Proofs
open Go.Shelf
def Tryd.laysItoa_ren : Go.Shelf.Ren := ⟨fun | 171 => 40 | 243 => 70 | 246 => 88 | 283 => 102 | 284 => 103 | 285 => 104 | 286 => 105 | 129 => 117 | 317 => 116 | 318 => 118 | 319 => 119 | 320 => 120 | 337 => 129 | 338 => 130 | n => n, fun | 3 => 3 | 9 => 9 | 2 => 2 | 4 => 4 | 171 => 102 | 0 => 0 | 53 => 87 | 37 => 60 | 5 => 5 | 173 => 105 | 212 => 126 | 51 => 127 | 20 => 20 | 213 => 128 | 46 => 91 | 232 => 145 | 233 => 146 | n => n, fun | 17 => 2 | 18 => 3 | 19 => 4 | n => n⟩
theorem Tryd.laysItoa : Go.Proofs.LaysM.n171 Tryd.prog Tryd.laysItoa_ren := {
  mixed := by kernel_rfl
  f129 := Tryd.func117.trans (congrArg some (by kernel_rfl))
  f171 := Tryd.func40.trans (congrArg some (by kernel_rfl))
  f243 := Tryd.func70.trans (congrArg some (by kernel_rfl))
  f246 := Tryd.func88.trans (congrArg some (by kernel_rfl))
  f283 := Tryd.func102.trans (congrArg some (by kernel_rfl))
  f284 := Tryd.func103.trans (congrArg some (by kernel_rfl))
  f285 := Tryd.func104.trans (congrArg some (by kernel_rfl))
  f286 := Tryd.func105.trans (congrArg some (by kernel_rfl))
  f317 := Tryd.func116.trans (congrArg some (by kernel_rfl))
  f318 := Tryd.func118.trans (congrArg some (by kernel_rfl))
  f319 := Tryd.func119.trans (congrArg some (by kernel_rfl))
  f320 := Tryd.func120.trans (congrArg some (by kernel_rfl))
  f337 := Tryd.func129.trans (congrArg some (by kernel_rfl))
  f338 := Tryd.func130.trans (congrArg some (by kernel_rfl))
  t0 := Tryd.underlying0
  a0 := Tryd.isAgg0
  z0 := Tryd.sizeOf0
  v0 := Tryd.zeroValue0
  t2 := Tryd.underlying2
  a2 := Tryd.isAgg2
  z2 := Tryd.sizeOf2
  v2 := Tryd.zeroValue2
  t3 := Tryd.underlying3
  a3 := Tryd.isAgg3
  z3 := Tryd.sizeOf3
  v3 := Tryd.zeroValue3
  t4 := Tryd.underlying4
  a4 := Tryd.isAgg4
  z4 := Tryd.sizeOf4
  v4 := Tryd.zeroValue4
  t5 := Tryd.underlying5
  a5 := Tryd.isAgg5
  z5 := Tryd.sizeOf5
  v5 := Tryd.zeroValue5
  t9 := Tryd.underlying9
  a9 := Tryd.isAgg9
  z9 := Tryd.sizeOf9
  v9 := Tryd.zeroValue9
  t20 := Tryd.underlying20
  a20 := Tryd.isAgg20
  z20 := Tryd.sizeOf20
  v20 := Tryd.zeroValue20
  t37 := Tryd.underlying60
  a37 := Tryd.isAgg60
  z37 := Tryd.sizeOf60
  v37 := Tryd.zeroValue60
  t46 := Tryd.underlying91
  a46 := Tryd.isAgg91
  z46 := Tryd.sizeOf91
  v46 := Tryd.zeroValue91
  t51 := Tryd.underlying127
  a51 := Tryd.isAgg127
  z51 := Tryd.sizeOf127
  v51 := Tryd.zeroValue127
  t53 := Tryd.underlying87
  a53 := Tryd.isAgg87
  z53 := Tryd.sizeOf87
  v53 := Tryd.zeroValue87
  t171 := Tryd.underlying102
  a171 := Tryd.isAgg102
  z171 := Tryd.sizeOf102
  v171 := Tryd.zeroValue102
  t173 := Tryd.underlying105
  a173 := Tryd.isAgg105
  z173 := Tryd.sizeOf105
  v173 := Tryd.zeroValue105
  t212 := Tryd.underlying126
  a212 := Tryd.isAgg126
  z212 := Tryd.sizeOf126
  v212 := Tryd.zeroValue126
  t213 := Tryd.underlying128
  a213 := Tryd.isAgg128
  z213 := Tryd.sizeOf128
  t232 := Tryd.underlying145
  a232 := Tryd.isAgg145
  z232 := Tryd.sizeOf145
  v232 := Tryd.zeroValue145
  t233 := Tryd.underlying146
  a233 := Tryd.isAgg146
  z233 := Tryd.sizeOf146
  v233 := Tryd.zeroValue146
  g17 := by kernel_rfl
  g18 := by kernel_rfl
  g19 := by kernel_rfl
  i0 := by kernel_rfl
  i2 := by kernel_rfl
  i3 := by kernel_rfl
  i4 := by kernel_rfl
  i5 := by kernel_rfl
  i9 := by kernel_rfl
  i20 := by kernel_rfl
  i37 := by kernel_rfl
  i46 := by kernel_rfl
  i51 := by kernel_rfl
  i53 := by kernel_rfl
  i171 := by kernel_rfl
  i173 := by kernel_rfl
  i212 := by kernel_rfl
  i232 := by kernel_rfl
  i233 := by kernel_rfl
  m17 := by kernel_rfl
  m18 := by kernel_rfl
  m19 := by kernel_rfl }
end Go.Proofs
/- The walks of pick and value. -/
namespace Go.Proofs.YtknakfpciccoaaaDoor
open Go.RowKit

def ItoaSaid (Tb : World → Prop) : Prop := ∀ (n : Int) (w : World), -9223372036854775808 ≤ n → n ≤ 9223372036854775807 → Tb w → Calls Tryd.prog 40 #[.int .i64 n] w fun e w' => e = .returned (.string (baL (Lib.itoa n))) ∧ Below w.heap.size w w'
def absZ (c : Int) : Int := if c < 0 then -(c + 1) else c
theorem absZ_bd {c : Int} (h0 : -9223372036854775808 ≤ c) (h1 : c ≤ 9223372036854775807) : 0 ≤ absZ c ∧ absZ c ≤ 9223372036854775807 := by unfold absZ; split <;> omega
set_option maxHeartbeats 4000000 in
set_option maxRecDepth 100000 in
theorem pick_any (c n : Int) (w : World) (h0 : -9223372036854775808 ≤ c) (h1 : c ≤ 9223372036854775807) (hn : 0 < n) (hn2 : n ≤ 1099511627776) :
    Calls Tryd.prog 39 #[.int .i64 c, .int .i64 n] w fun e w' => e = .returned (.int .i64 (absZ c % n)) ∧ w' = w := by
  have hz : (n == 0) = false := by rw [beq_eq_false_iff_ne]; omega
  have hz2 : n ≠ 0 := by omega
  by_cases hc : c < 0
  · have HX : Hid (absZ c = -(c + 1)) := by show _ = _; unfold absZ; rw [if_pos hc]
    have hx : 0 ≤ -(c + 1) := by omega
    go_enter Tryd.func39, Tryd.ntmps39
    go_wp2_with fail
    go_ret
    exact ⟨ret_int (by rw [HX.out, ← Int.neg_tmod, Int.tmod_eq_emod_of_nonneg hx]), rfl⟩
  · have HX : Hid (absZ c = c) := by show _ = _; unfold absZ; rw [if_neg hc]
    have hx : 0 ≤ c := by omega
    go_enter Tryd.func39, Tryd.ntmps39
    go_wp2_with fail
    go_ret
    exact ⟨ret_int (by rw [HX.out]), rfl⟩
theorem itoa_small {n : Int} (h0 : 0 ≤ n) (h1 : n < 4) : ∃ k : Nat, k < 4 ∧ (k : Int) = n ∧ Lib.itoa n = [(k + 48).toUInt8] := by
  refine ⟨n.toNat, by omega, by omega, ?_⟩
  have := itoa_pos n.toNat (by omega)
  rw [Int.toNat_of_nonneg h0] at this
  exact this
theorem isV_list {x y : Int} (hx : 0 ≤ x) (hx4 : x < 4) (hy : 0 ≤ y) (hy4 : y < 4) : IsV ((((⟨#[91]⟩ ++ baL (Lib.itoa x)) ++ ⟨#[44]⟩) ++ baL (Lib.itoa y)) ++ ⟨#[93]⟩) := by
  obtain ⟨a, ha, _, ea⟩ := itoa_small hx hx4
  obtain ⟨b, hb, _, eb⟩ := itoa_small hy hy4
  rw [ea, eb]
  refine ⟨16 + 4 * a + b, by omega, ?_⟩
  obtain rfl | rfl | rfl | rfl : a = 0 ∨ a = 1 ∨ a = 2 ∨ a = 3 := by omega
  all_goals
    obtain rfl | rfl | rfl | rfl : b = 0 ∨ b = 1 ∨ b = 2 ∨ b = 3 := by omega
    all_goals kernel_rfl
theorem isV_obj {x : Int} (hx : 0 ≤ x) (hx4 : x < 4) : IsV ((⟨#[123, 34, 98, 34, 58]⟩ ++ baL (Lib.itoa x)) ++ ⟨#[125]⟩) := by
  obtain ⟨a, ha, _, ea⟩ := itoa_small hx hx4
  rw [ea]
  refine ⟨32 + a, by omega, ?_⟩
  obtain rfl | rfl | rfl | rfl : a = 0 ∨ a = 1 ∨ a = 2 ∨ a = 3 := by omega
  all_goals kernel_rfl
theorem isV_txt {x : Int} (hx : 0 ≤ x) (hx3 : x < 3) : IsV ((⟨#[34]⟩ ++ ⟨#[byteZ (97 + x)]⟩) ++ ⟨#[34]⟩) := by
  obtain rfl | rfl | rfl : x = 0 ∨ x = 1 ∨ x = 2 := by omega
  · exact ⟨12, by omega, by kernel_rfl⟩
  · exact ⟨13, by omega, by kernel_rfl⟩
  · exact ⟨14, by omega, by kernel_rfl⟩
/-- Two texts, one behind the other. -/
theorem cat_run (a b : ByteArray) (n m : Nat) (ha : a.size = n) (hb : b.size = m) (h : n + m ≤ 1000000) : ∃ c : ByteArray, c = a ++ b ∧ c.size = n + m ∧ ∀ w : World, (Op.stringOp .add a b).run Tryd.prog w = .ok (.string c) w :=
  ⟨a ++ b, rfl, by rw [ByteArray.size_append]; omega, fun w => run_string_add_sum w a b (by omega)⟩
theorem itoa_size {n : Int} (h0 : 0 ≤ n) (h1 : n < 4) : (baL (Lib.itoa n)).size = 1 := by
  obtain ⟨k, _, _, e⟩ := itoa_small h0 h1
  rw [e]
  rfl
def ValPostV (w : World) (e : Ending) (w' : World) : Prop := ∃ s, IsV s ∧ e = .returned (.string s) ∧ Below w.heap.size w w'
set_option maxHeartbeats 8000000 in
set_option maxRecDepth 100000 in
theorem value_any' {Tb : World → Prop} (hI : ItoaSaid Tb) (hL : Lies Tb) (c : Int) (w : World) (h0 : -9223372036854775808 ≤ c) (h1 : c ≤ 9223372036854775807) (hT : Tb w) :
    Calls Tryd.prog 20 #[.int .i64 c] w (ValPostV w) := by
  have HP1 := hid (pick_any c 1099511627776 w h0 h1 (by omega) (by omega))
  have HP2 := hid (pick_any c 8 w h0 h1 (by omega) (by omega))
  have hb := absZ_bd h0 h1
  obtain ⟨P, hP⟩ : ∃ P, absZ c % 1099511627776 = P := ⟨_, rfl⟩
  obtain ⟨k, hk⟩ : ∃ k, absZ c % 8 = k := ⟨_, rfl⟩
  have p0 : 0 ≤ P := by omega
  have p1 : P ≤ 1099511627776 := by omega
  have k8 : k = 0 ∨ k = 1 ∨ k = 2 ∨ k = 3 ∨ k = 4 ∨ k = 5 ∨ k = 6 ∨ k = 7 := by omega
  rw [hP] at HP1
  rw [hk] at HP2
  clear hP hk hb h0 h1
  have HT := hid hT
  have HI := hid hI
  clear hT hI
  rcases k8 with rfl | rfl | rfl | rfl | rfl | rfl | rfl | rfl
  · go_enter Tryd.func20, Tryd.ntmps20
    go_wp2_with fail
    refine HP1.out.mono ?_
    rintro e w ⟨rfl, rfl⟩
    go_wp2_with fail
    refine HP2.out.mono ?_
    rintro e w ⟨rfl, rfl⟩
    have HC := hid (HI.out (P / 8 % 9 - 4) w (by omega) (by omega) HT.out)
    go_wp2_with fail
    refine HC.out.mono ?_
    rintro e w1 ⟨rfl, b1⟩
    have HB := hid b1
    clear b1
    go_wp2_with fail
    go_ret
    exact ⟨_, isV_num (P / 8), rfl, HB.out⟩
  · go_enter Tryd.func20, Tryd.ntmps20
    go_wp2_with fail
    refine HP1.out.mono ?_
    rintro e w ⟨rfl, rfl⟩
    go_wp2_with fail
    refine HP2.out.mono ?_
    rintro e w ⟨rfl, rfl⟩
    have HC := hid (HI.out (P / 8 % 9 - 4) w (by omega) (by omega) HT.out)
    go_wp2_with fail
    refine HC.out.mono ?_
    rintro e w1 ⟨rfl, b1⟩
    have HB := hid b1
    clear b1
    go_wp2_with fail
    go_ret
    exact ⟨_, isV_num (P / 8), rfl, HB.out⟩
  · go_enter Tryd.func20, Tryd.ntmps20
    go_wp2_with fail
    refine HP1.out.mono ?_
    rintro e w ⟨rfl, rfl⟩
    go_wp2_with fail
    refine HP2.out.mono ?_
    rintro e w ⟨rfl, rfl⟩
    have HC := hid (HI.out (P / 8 % 9 - 4) w (by omega) (by omega) HT.out)
    go_wp2_with fail
    refine HC.out.mono ?_
    rintro e w1 ⟨rfl, b1⟩
    have HB := hid b1
    clear b1
    go_wp2_with fail
    go_ret
    exact ⟨_, isV_num (P / 8), rfl, HB.out⟩
  · have hcv := conv1 w (97 + P / 8 % 3) (by omega)
    have e1 : IntKind.u8.wrap (97 + P / 8 % 3) = 97 + P / 8 % 3 := by rw [IntKind.wrap_u8]; omega
    go_enter Tryd.func20, Tryd.ntmps20
    go_wp2_with fail
    refine HP1.out.mono ?_
    rintro e w ⟨rfl, rfl⟩
    go_wp2_with fail
    refine HP2.out.mono ?_
    rintro e w ⟨rfl, rfl⟩
    go_wp2_with fail
    go_ret
    exact ⟨_, isV_txt (x := P / 8 % 3) (by omega) (by omega), rfl, (Below.refl _ _).alloc (Nat.le_refl _) _⟩
  · go_enter Tryd.func20, Tryd.ntmps20
    go_wp2_with fail
    refine HP1.out.mono ?_
    rintro e w ⟨rfl, rfl⟩
    go_wp2_with fail
    refine HP2.out.mono ?_
    rintro e w ⟨rfl, rfl⟩
    have HC := hid (HI.out (P / 8 % 4) w (by omega) (by omega) HT.out)
    have HV := hid (isV_list (x := P / 8 % 4) (y := P / 8 / 4 % 4) (by omega) (by omega) (by omega) (by omega))
    have z1 := itoa_size (n := P / 8 % 4) (by omega) (by omega)
    have z2 := itoa_size (n := P / 8 / 4 % 4) (by omega) (by omega)
    have HC2 := hid (fun w1 b1 => HI.out (P / 8 / 4 % 4) w1 (by omega) (by omega) (hL w HT.out w w1 HT.out b1))
    generalize baL (Lib.itoa (P / 8 % 4)) = s1 at HC HV z1
    generalize baL (Lib.itoa (P / 8 / 4 % 4)) = s2 at HC2 HV z2
    obtain ⟨a1, e1, y1, g1⟩ := cat_run ⟨#[91]⟩ s1 1 1 rfl z1 (by omega)
    obtain ⟨a2, e2, y2, g2⟩ := cat_run a1 ⟨#[44]⟩ 2 1 y1 rfl (by omega)
    obtain ⟨a3, e3, y3, g3⟩ := cat_run a2 s2 3 1 y2 z2 (by omega)
    obtain ⟨a4, e4, y4, g4⟩ := cat_run a3 ⟨#[93]⟩ 4 1 y3 rfl (by omega)
    rw [← e1, ← e2, ← e3, ← e4] at HV
    clear e1 e2 e3 e4 y1 y2 y3 y4 z1 z2
    go_wp2_with fail
    refine HC.out.mono ?_
    rintro e w1 ⟨rfl, b1⟩
    have HB := hid b1
    have HC3 := hid (HC2.out w1 b1)
    clear b1
    go_wp2_with fail
    refine HC3.out.mono ?_
    rintro e w2 ⟨rfl, b2⟩
    have HB2 := hid (HB.out.trans (b2.mono HB.out.size))
    clear b2
    go_wp2_with fail
    go_ret
    exact ⟨_, HV.out, rfl, HB2.out⟩
  · go_enter Tryd.func20, Tryd.ntmps20
    go_wp2_with fail
    refine HP1.out.mono ?_
    rintro e w ⟨rfl, rfl⟩
    go_wp2_with fail
    refine HP2.out.mono ?_
    rintro e w ⟨rfl, rfl⟩
    have HC := hid (HI.out (P / 8 % 4) w (by omega) (by omega) HT.out)
    have HV := hid (isV_obj (x := P / 8 % 4) (by omega) (by omega))
    have z1 := itoa_size (n := P / 8 % 4) (by omega) (by omega)
    generalize baL (Lib.itoa (P / 8 % 4)) = s1 at HC HV z1
    obtain ⟨a1, e1, y1, g1⟩ := cat_run ⟨#[123, 34, 98, 34, 58]⟩ s1 5 1 rfl z1 (by omega)
    obtain ⟨a2, e2, y2, g2⟩ := cat_run a1 ⟨#[125]⟩ 6 1 y1 rfl (by omega)
    rw [← e1, ← e2] at HV
    clear e1 e2 y1 y2 z1
    go_wp2_with fail
    refine HC.out.mono ?_
    rintro e w1 ⟨rfl, b1⟩
    have HB := hid b1
    clear b1
    go_wp2_with fail
    go_ret
    exact ⟨_, HV.out, rfl, HB.out⟩
  · obtain ⟨m, hm⟩ : ∃ m, P / 8 % 3 = m := ⟨_, rfl⟩
    obtain h | h | h : m = 0 ∨ m = 1 ∨ m = 2 := by omega
    all_goals
      subst h
      go_enter Tryd.func20, Tryd.ntmps20
      go_wp2_with fail
      refine HP1.out.mono ?_
      rintro e w ⟨rfl, rfl⟩
      go_wp2_with fail
      refine HP2.out.mono ?_
      rintro e w ⟨rfl, rfl⟩
      go_wp2_with fail
      go_ret
    · exact ⟨_, ⟨0, by omega, rfl⟩, rfl, (Below.refl _ _).alloc (Nat.le_refl _) _⟩
    · exact ⟨_, ⟨2, by omega, rfl⟩, rfl, (Below.refl _ _).alloc (Nat.le_refl _) _⟩
    · exact ⟨_, ⟨1, by omega, rfl⟩, rfl, (Below.refl _ _).alloc (Nat.le_refl _) _⟩
  · go_enter Tryd.func20, Tryd.ntmps20
    go_wp2_with fail
    refine HP1.out.mono ?_
    rintro e w ⟨rfl, rfl⟩
    go_wp2_with fail
    refine HP2.out.mono ?_
    rintro e w ⟨rfl, rfl⟩
    go_wp2_with fail
    go_ret
    exact ⟨_, ⟨15, by omega, rfl⟩, rfl, Below.refl _ _⟩
end Go.Proofs.YtknakfpciccoaaaDoor
