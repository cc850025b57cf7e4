import Derived.Test.YtknakfpciccoaaaDoorZP22
import Derived.Test.YtknakfpciccoaaaDoorZP1
import Derived.Deep.AppendSrc
import Derived.Deep.AppendLies
import Derived.Laws.BytesArg
import Derived.Laws.IdiomStrings
/- The walks of the reference's parser: escapes. -/
namespace Go.Proofs.YtknakfpciccoaaaDoor
open Go.RowKit

def REscPost (c : Nat) (s : ByteArray) (x : Option (Nat × Nat)) (w : World) (e : Ending) (w' : World) : Prop :=
  But c w w' ∧ ((∃ r j, x = some (r, j) ∧ e = .returned (.string (baL (Lib.encodeRune (r : Int)))) ∧ RL c s j false w') ∨ (x = none ∧ (∃ y : ByteArray, y.size ≤ 4 ∧ e = .returned (.string y)) ∧ RB c s w'))
theorem enc_ascii (a : Nat) (h : a < 128) : baL (Lib.encodeRune (a : Int)) = ⟨#[byteZ (a : Int)]⟩ := enc_of (Lib.encodeRuneZ_one (r := (a : Int)) (by omega) (by omega))
theorem conv1_set (w : World) (c : Nat) (u : Value) (a : Int) (ha : 0 ≤ a ∧ a < 256) : (convert 60 9 (.slice (some ⟨w.heap.size, 0, none⟩) 1 1)).run Tryd.prog ((w.setCell ⟨c, 1, none⟩ u).alloc (.cells #[.int .u8 a] 5)) = .ok (.string ⟨#[byteZ a]⟩) ((w.setCell ⟨c, 1, none⟩ u).alloc (.cells #[.int .u8 a] 5)) := by
  have h := conv1 (w.setCell ⟨c, 1, none⟩ u) a ha
  have e : (w.setCell ⟨c, 1, none⟩ u).heap.size = w.heap.size := by simp [World.setCell]
  rw [e] at h
  exact h
theorem pfx_two (s : ByteArray) (k : Nat) : pfx s k ⟨#[92, 117]⟩ = decide (cB s k = 92 ∧ cB s (k + 1) = 117) := by
  by_cases h : k + 2 ≤ s.size
  · have hl : (s.extract k (k + 2)).data.toList = [s.data.toList[k]'(by show k < s.size; omega), s.data.toList[k + 1]'(by show k + 1 < s.size; omega)] := by
      rw [cut_list, cut_succ s k 1 (by omega), cut_succ s k 0 (by omega), List.take_zero]
      rfl
    have h1 := bt_at s k (by omega)
    have h2 := bt_at s (k + 1) (by omega)
    rw [cB_bt (by omega : k < s.size), cB_bt (by omega : k + 1 < s.size), ← h1, ← h2]
    unfold pfx
    have hsz : (⟨#[92, 117]⟩ : ByteArray).size = 2 := rfl
    rw [hsz, decide_eq_true h, Bool.true_and]
    apply decide_eq_decide.2
    constructor
    · intro e
      have e2 : (s.extract k (k + 2)).data.toList = [92, 117] := by rw [e]
      rw [hl] at e2
      simp only [List.cons.injEq, and_true] at e2
      rw [e2.1, e2.2]
      exact ⟨rfl, rfl⟩
    · intro e
      apply ba_ext
      rw [hl]
      have a1 : s.data.toList[k]'(by show k < s.size; omega) = 92 := UInt8.toNat_inj.1 e.1
      have a2 : s.data.toList[k + 1]'(by show k + 1 < s.size; omega) = 117 := UInt8.toNat_inj.1 e.2
      rw [a1, a2]
  · have hp : pfx s k ⟨#[92, 117]⟩ = false := by unfold pfx; rw [decide_eq_false (by show ¬ (k + 2 ≤ s.size); omega), Bool.false_and]
    rw [hp]
    symm
    apply decide_eq_false
    rintro ⟨e1, e2⟩
    have := cB_in (s := s) (i := k + 1) (by omega)
    omega
set_option maxHeartbeats 4000000 in
set_option maxRecDepth 100000 in
theorem resc_34 (c : Nat) (s : ByteArray) (i : Nat) (w : World) (h : RL c s i false w) (hs : s.size ≤ 4000) (ha : cB s i = 34) :
    Calls Tryd.prog 71 #[.pointer (some ⟨c, 0, none⟩)] w (REscPost c s (escR s i) w) := by
  have HL := hid h
  have HP := hid (rpeek_any c s i false w h)
  have HX : Hid (escR s i = some (34, i + 1)) := by show _ = _; unfold escR; rw [if_pos (by omega), ha]
  have hpk := pk_of ha (by omega)
  have hi : i < s.size := cB_in (by omega)
  have HE := hid (enc_ascii 34 (by omega))
  rw [hpk] at HP
  clear h hpk ha
  go_enter Tryd.func71, Tryd.ntmps71
  go_wp2_with fail
  refine HP.out.mono ?_
  rintro e w1 ⟨rfl, b1⟩
  have HL1 := hid (HL.out.keep b1)
  have HB1 := hid (But.of (c := c) b1)
  have q1 := HL1.out.q1
  have q2 := HL1.out.f1
  have hcv := conv1_set w1 c (.int .i64 ((i : Int) + 1)) 34 (by omega)
  clear b1 HP
  go_wp2_with fail
  go_ret
  exact ⟨(HB1.out.trans (But.set w1 c 1 _)).trans (But.of ((Below.refl _ _).alloc (Nat.le_refl _) _)), Or.inl ⟨34, i + 1, HX.out, by rw [HE.out]; rfl, (HL1.out.set (i + 1)).keep ((Below.refl _ _).alloc (Nat.le_refl _) _)⟩⟩
set_option maxHeartbeats 4000000 in
set_option maxRecDepth 100000 in
theorem resc_92 (c : Nat) (s : ByteArray) (i : Nat) (w : World) (h : RL c s i false w) (hs : s.size ≤ 4000) (ha : cB s i = 92) :
    Calls Tryd.prog 71 #[.pointer (some ⟨c, 0, none⟩)] w (REscPost c s (escR s i) w) := by
  have HL := hid h
  have HP := hid (rpeek_any c s i false w h)
  have HX : Hid (escR s i = some (92, i + 1)) := by show _ = _; unfold escR; rw [if_pos (by omega), ha]
  have hpk := pk_of ha (by omega)
  have hi : i < s.size := cB_in (by omega)
  have HE := hid (enc_ascii 92 (by omega))
  rw [hpk] at HP
  clear h hpk ha
  go_enter Tryd.func71, Tryd.ntmps71
  go_wp2_with fail
  refine HP.out.mono ?_
  rintro e w1 ⟨rfl, b1⟩
  have HL1 := hid (HL.out.keep b1)
  have HB1 := hid (But.of (c := c) b1)
  have q1 := HL1.out.q1
  have q2 := HL1.out.f1
  have hcv := conv1_set w1 c (.int .i64 ((i : Int) + 1)) 92 (by omega)
  clear b1 HP
  go_wp2_with fail
  go_ret
  exact ⟨(HB1.out.trans (But.set w1 c 1 _)).trans (But.of ((Below.refl _ _).alloc (Nat.le_refl _) _)), Or.inl ⟨92, i + 1, HX.out, by rw [HE.out]; rfl, (HL1.out.set (i + 1)).keep ((Below.refl _ _).alloc (Nat.le_refl _) _)⟩⟩
set_option maxHeartbeats 4000000 in
set_option maxRecDepth 100000 in
theorem resc_47 (c : Nat) (s : ByteArray) (i : Nat) (w : World) (h : RL c s i false w) (hs : s.size ≤ 4000) (ha : cB s i = 47) :
    Calls Tryd.prog 71 #[.pointer (some ⟨c, 0, none⟩)] w (REscPost c s (escR s i) w) := by
  have HL := hid h
  have HP := hid (rpeek_any c s i false w h)
  have HX : Hid (escR s i = some (47, i + 1)) := by show _ = _; unfold escR; rw [if_pos (by omega), ha]
  have hpk := pk_of ha (by omega)
  have hi : i < s.size := cB_in (by omega)
  have HE := hid (enc_ascii 47 (by omega))
  rw [hpk] at HP
  clear h hpk ha
  go_enter Tryd.func71, Tryd.ntmps71
  go_wp2_with fail
  refine HP.out.mono ?_
  rintro e w1 ⟨rfl, b1⟩
  have HL1 := hid (HL.out.keep b1)
  have HB1 := hid (But.of (c := c) b1)
  have q1 := HL1.out.q1
  have q2 := HL1.out.f1
  have hcv := conv1_set w1 c (.int .i64 ((i : Int) + 1)) 47 (by omega)
  clear b1 HP
  go_wp2_with fail
  go_ret
  exact ⟨(HB1.out.trans (But.set w1 c 1 _)).trans (But.of ((Below.refl _ _).alloc (Nat.le_refl _) _)), Or.inl ⟨47, i + 1, HX.out, by rw [HE.out]; rfl, (HL1.out.set (i + 1)).keep ((Below.refl _ _).alloc (Nat.le_refl _) _)⟩⟩
set_option maxHeartbeats 4000000 in
set_option maxRecDepth 100000 in
theorem resc_98 (c : Nat) (s : ByteArray) (i : Nat) (w : World) (h : RL c s i false w) (hs : s.size ≤ 4000) (ha : cB s i = 98) :
    Calls Tryd.prog 71 #[.pointer (some ⟨c, 0, none⟩)] w (REscPost c s (escR s i) w) := by
  have HL := hid h
  have HP := hid (rpeek_any c s i false w h)
  have HX : Hid (escR s i = some (8, i + 1)) := by show _ = _; unfold escR; rw [if_neg (by omega), if_pos ha]
  have hpk := pk_of ha (by omega)
  have hi : i < s.size := cB_in (by omega)
  have HE := hid (enc_ascii 8 (by omega))
  rw [hpk] at HP
  clear h hpk ha
  go_enter Tryd.func71, Tryd.ntmps71
  go_wp2_with fail
  refine HP.out.mono ?_
  rintro e w1 ⟨rfl, b1⟩
  have HL1 := hid (HL.out.keep b1)
  have HB1 := hid (But.of (c := c) b1)
  have q1 := HL1.out.q1
  have q2 := HL1.out.f1
  clear b1 HP
  go_wp2_with fail
  go_ret
  exact ⟨HB1.out.trans (But.set w1 c 1 _), Or.inl ⟨8, i + 1, HX.out, by rw [HE.out]; rfl, HL1.out.set (i + 1)⟩⟩
set_option maxHeartbeats 4000000 in
set_option maxRecDepth 100000 in
theorem resc_102 (c : Nat) (s : ByteArray) (i : Nat) (w : World) (h : RL c s i false w) (hs : s.size ≤ 4000) (ha : cB s i = 102) :
    Calls Tryd.prog 71 #[.pointer (some ⟨c, 0, none⟩)] w (REscPost c s (escR s i) w) := by
  have HL := hid h
  have HP := hid (rpeek_any c s i false w h)
  have HX : Hid (escR s i = some (12, i + 1)) := by show _ = _; unfold escR; rw [if_neg (by omega), if_neg (by omega), if_pos ha]
  have hpk := pk_of ha (by omega)
  have hi : i < s.size := cB_in (by omega)
  have HE := hid (enc_ascii 12 (by omega))
  rw [hpk] at HP
  clear h hpk ha
  go_enter Tryd.func71, Tryd.ntmps71
  go_wp2_with fail
  refine HP.out.mono ?_
  rintro e w1 ⟨rfl, b1⟩
  have HL1 := hid (HL.out.keep b1)
  have HB1 := hid (But.of (c := c) b1)
  have q1 := HL1.out.q1
  have q2 := HL1.out.f1
  clear b1 HP
  go_wp2_with fail
  go_ret
  exact ⟨HB1.out.trans (But.set w1 c 1 _), Or.inl ⟨12, i + 1, HX.out, by rw [HE.out]; rfl, HL1.out.set (i + 1)⟩⟩
set_option maxHeartbeats 4000000 in
set_option maxRecDepth 100000 in
theorem resc_110 (c : Nat) (s : ByteArray) (i : Nat) (w : World) (h : RL c s i false w) (hs : s.size ≤ 4000) (ha : cB s i = 110) :
    Calls Tryd.prog 71 #[.pointer (some ⟨c, 0, none⟩)] w (REscPost c s (escR s i) w) := by
  have HL := hid h
  have HP := hid (rpeek_any c s i false w h)
  have HX : Hid (escR s i = some (10, i + 1)) := by show _ = _; unfold escR; rw [if_neg (by omega), if_neg (by omega), if_neg (by omega), if_pos ha]
  have hpk := pk_of ha (by omega)
  have hi : i < s.size := cB_in (by omega)
  have HE := hid (enc_ascii 10 (by omega))
  rw [hpk] at HP
  clear h hpk ha
  go_enter Tryd.func71, Tryd.ntmps71
  go_wp2_with fail
  refine HP.out.mono ?_
  rintro e w1 ⟨rfl, b1⟩
  have HL1 := hid (HL.out.keep b1)
  have HB1 := hid (But.of (c := c) b1)
  have q1 := HL1.out.q1
  have q2 := HL1.out.f1
  clear b1 HP
  go_wp2_with fail
  go_ret
  exact ⟨HB1.out.trans (But.set w1 c 1 _), Or.inl ⟨10, i + 1, HX.out, by rw [HE.out]; rfl, HL1.out.set (i + 1)⟩⟩
set_option maxHeartbeats 4000000 in
set_option maxRecDepth 100000 in
theorem resc_114 (c : Nat) (s : ByteArray) (i : Nat) (w : World) (h : RL c s i false w) (hs : s.size ≤ 4000) (ha : cB s i = 114) :
    Calls Tryd.prog 71 #[.pointer (some ⟨c, 0, none⟩)] w (REscPost c s (escR s i) w) := by
  have HL := hid h
  have HP := hid (rpeek_any c s i false w h)
  have HX : Hid (escR s i = some (13, i + 1)) := by show _ = _; unfold escR; rw [if_neg (by omega), if_neg (by omega), if_neg (by omega), if_neg (by omega), if_pos ha]
  have hpk := pk_of ha (by omega)
  have hi : i < s.size := cB_in (by omega)
  have HE := hid (enc_ascii 13 (by omega))
  rw [hpk] at HP
  clear h hpk ha
  go_enter Tryd.func71, Tryd.ntmps71
  go_wp2_with fail
  refine HP.out.mono ?_
  rintro e w1 ⟨rfl, b1⟩
  have HL1 := hid (HL.out.keep b1)
  have HB1 := hid (But.of (c := c) b1)
  have q1 := HL1.out.q1
  have q2 := HL1.out.f1
  clear b1 HP
  go_wp2_with fail
  go_ret
  exact ⟨HB1.out.trans (But.set w1 c 1 _), Or.inl ⟨13, i + 1, HX.out, by rw [HE.out]; rfl, HL1.out.set (i + 1)⟩⟩
set_option maxHeartbeats 4000000 in
set_option maxRecDepth 100000 in
theorem resc_116 (c : Nat) (s : ByteArray) (i : Nat) (w : World) (h : RL c s i false w) (hs : s.size ≤ 4000) (ha : cB s i = 116) :
    Calls Tryd.prog 71 #[.pointer (some ⟨c, 0, none⟩)] w (REscPost c s (escR s i) w) := by
  have HL := hid h
  have HP := hid (rpeek_any c s i false w h)
  have HX : Hid (escR s i = some (9, i + 1)) := by show _ = _; unfold escR; rw [if_neg (by omega), if_neg (by omega), if_neg (by omega), if_neg (by omega), if_neg (by omega), if_pos ha]
  have hpk := pk_of ha (by omega)
  have hi : i < s.size := cB_in (by omega)
  have HE := hid (enc_ascii 9 (by omega))
  rw [hpk] at HP
  clear h hpk ha
  go_enter Tryd.func71, Tryd.ntmps71
  go_wp2_with fail
  refine HP.out.mono ?_
  rintro e w1 ⟨rfl, b1⟩
  have HL1 := hid (HL.out.keep b1)
  have HB1 := hid (But.of (c := c) b1)
  have q1 := HL1.out.q1
  have q2 := HL1.out.f1
  clear b1 HP
  go_wp2_with fail
  go_ret
  exact ⟨HB1.out.trans (But.set w1 c 1 _), Or.inl ⟨9, i + 1, HX.out, by rw [HE.out]; rfl, HL1.out.set (i + 1)⟩⟩
set_option maxHeartbeats 4000000 in
set_option maxRecDepth 100000 in
theorem resc_no (c : Nat) (s : ByteArray) (i : Nat) (w : World) (h : RL c s i false w) (hs : s.size ≤ 4000) (hi : i ≤ s.size) (hn : cB s i ≠ 34 ∧ cB s i ≠ 92 ∧ cB s i ≠ 47 ∧ cB s i ≠ 98 ∧ cB s i ≠ 102 ∧ cB s i ≠ 110 ∧ cB s i ≠ 114 ∧ cB s i ≠ 116 ∧ cB s i ≠ 117) :
    Calls Tryd.prog 71 #[.pointer (some ⟨c, 0, none⟩)] w (REscPost c s (escR s i) w) := by
  have HL := hid h
  have HP := hid (rpeek_any c s i false w h)
  obtain ⟨n1, n2, n3, n4, n5, n6, n7, n8, n9⟩ := hn
  have HX : Hid (escR s i = none) := by show _ = _; unfold escR; rw [if_neg (by omega), if_neg n4, if_neg n5, if_neg n6, if_neg n7, if_neg n8, if_neg n9]
  have p1 := pk_ne n1 (by omega)
  have p2 := pk_ne n2 (by omega)
  have p3 := pk_ne n3 (by omega)
  have p4 := pk_ne n4 (by omega)
  have p5 := pk_ne n5 (by omega)
  have p6 := pk_ne n6 (by omega)
  have p7 := pk_ne n7 (by omega)
  have p8 := pk_ne n8 (by omega)
  have p9 := pk_ne n9 (by omega)
  clear h n1 n2 n3 n4 n5 n6 n7 n8 n9
  generalize pk s i = a at HP p1 p2 p3 p4 p5 p6 p7 p8 p9
  have y1 : ((a : Int) == 34) = false := by rw [beq_eq_false_iff_ne]; omega
  have y2 : ((a : Int) == 92) = false := by rw [beq_eq_false_iff_ne]; omega
  have y3 : ((a : Int) == 47) = false := by rw [beq_eq_false_iff_ne]; omega
  have y4 : ((a : Int) == 98) = false := by rw [beq_eq_false_iff_ne]; omega
  have y5 : ((a : Int) == 102) = false := by rw [beq_eq_false_iff_ne]; omega
  have y6 : ((a : Int) == 110) = false := by rw [beq_eq_false_iff_ne]; omega
  have y7 : ((a : Int) == 114) = false := by rw [beq_eq_false_iff_ne]; omega
  have y8 : ((a : Int) == 116) = false := by rw [beq_eq_false_iff_ne]; omega
  have y9 : ((a : Int) == 117) = false := by rw [beq_eq_false_iff_ne]; omega
  clear p1 p2 p3 p4 p5 p6 p7 p8 p9
  go_enter Tryd.func71, Tryd.ntmps71
  go_wp2_with fail
  refine HP.out.mono ?_
  rintro e w1 ⟨rfl, b1⟩
  have HL1 := hid (HL.out.keep b1)
  have HB1 := hid (But.of (c := c) b1)
  have HL2 := hid (HL1.out.set (i + 1))
  have q1 := HL1.out.q1
  have q2 := HL1.out.f1
  have q3 := HL1.out.q2
  have q4 := HL1.out.f2
  clear b1 HP
  go_wp2_with fail
  go_ret
  exact ⟨(HB1.out.trans (But.set w1 c 1 _)).trans (But.set _ c 2 _), Or.inr ⟨HX.out, ⟨⟨#[]⟩, by show (0 : Nat) ≤ 4; omega, rfl⟩, i + 1, by omega, HL2.out.mark true⟩⟩
set_option maxHeartbeats 8000000 in
set_option maxRecDepth 100000 in
theorem resc_u (c : Nat) (s : ByteArray) (i : Nat) (w : World) (h : RL c s i false w) (hs : s.size ≤ 4000) (ha : cB s i = 117) :
    Calls Tryd.prog 71 #[.pointer (some ⟨c, 0, none⟩)] w (REscPost c s (escR s i) w) := by
  have HL := hid h
  have HP := hid (rpeek_any c s i false w h)
  have HX : Hid (escR s i = (hex4 s (i + 1)).bind fun a => low s (i + 5) a) := by show _ = _; unfold escR; rw [if_neg (by omega), if_neg (by omega), if_neg (by omega), if_neg (by omega), if_neg (by omega), if_neg (by omega), if_pos ha]
  have hpk := pk_of ha (by omega)
  have hi : i < s.size := cB_in (by omega)
  rw [hpk] at HP
  clear h hpk ha
  go_enter Tryd.func71, Tryd.ntmps71
  go_wp2_with fail
  refine HP.out.mono ?_
  rintro e w1 ⟨rfl, b1⟩
  have HL1 := hid (HL.out.keep b1)
  have HB1 := hid (But.of (c := c) b1)
  have q1 := HL1.out.q1
  have q2 := HL1.out.f1
  have HL2 := hid (HL1.out.set (i + 1))
  have HB2 := hid (HB1.out.trans (But.set w1 c 1 (.int .i64 ((i + 1 : Nat) : Int))))
  have HH : Hid (Calls Tryd.prog 89 #[.pointer (some ⟨c, 0, none⟩)] (w1.setCell ⟨c, 1, none⟩ (.int .i64 ((i : Int) + 1))) (RHexPost c s (i + 1) false (w1.setCell ⟨c, 1, none⟩ (.int .i64 ((i + 1 : Nat) : Int))))) := rhex_any c s (i + 1) false _ HL2.out hs (by omega)
  clear b1 HP HL HL1 HB1
  go_wp2_with fail
  refine HH.out.mono ?_
  clear HL2
  generalize w1.setCell ⟨c, 1, none⟩ (.int .i64 ((i + 1 : Nat) : Int)) = w2 at HB2 ⊢
  rintro e w3 ⟨B3, ⟨a, hx, rfl, L3⟩ | ⟨hx, rfl, L3⟩⟩
  · have HB3 := hid (HB2.out.trans B3)
    obtain ⟨m, hm⟩ : ∃ m : Nat, m = i + 5 := ⟨_, rfl⟩
    have HL3 : Hid (RL c s m false w3) := by rw [hm]; exact L3
    have ha : a < 65536 := (hexN_lt hx).1
    have hi5 : m ≤ s.size := by have := (hexN_lt hx).2 (by omega); omega
    have HY : Hid (escR s i = low s m a) := by show _ = _; rw [HX.out, hx, hm]; rfl
    have p2 := HL3.out.q2
    have p3 := HL3.out.f2
    clear B3 L3 hx HH q1 q2 HX HB2 hm
    by_cases hs1 : a < 55296 ∨ 57343 < a
    · have HZ : Hid (low s (m) a = some (a, m)) := by show _ = _; unfold low; rw [if_pos hs1]
      have hm : max (a : Int) 0 = (a : Int) := by omega
      have HEn := hid (encoded_any a (w3.setCell ⟨c, 2, none⟩ (.bool false)) (by omega) (by omega))
      have y0 : decide ((a : Int) < 0) = false := decide_eq_false (by omega)
      by_cases hs2 : a < 55296
      · have y1 : decide ((a : Int) < 55296) = true := decide_eq_true (by omega)
        clear hs1 hs2
        go_wp2_with fail
        refine HEn.out.mono ?_
        rintro e w4 ⟨rfl, b4⟩
        have HL4 := hid ((HL3.out.mark false).keep b4)
        have HB4 := hid ((HB3.out.trans (But.set w3 c 2 (.bool false))).trans (But.of b4))
        clear b4
        go_wp2_with fail
        go_ret
        exact ⟨HB4.out, Or.inl ⟨a, m, HY.out.trans HZ.out, rfl, HL4.out⟩⟩
      · have y1 : decide ((a : Int) < 55296) = false := decide_eq_false (by omega)
        have y2 : decide ((57344 : Int) ≤ (a : Int)) = true := decide_eq_true (by omega)
        clear hs1 hs2
        go_wp2_with fail
        refine HEn.out.mono ?_
        rintro e w4 ⟨rfl, b4⟩
        have HL4 := hid ((HL3.out.mark false).keep b4)
        have HB4 := hid ((HB3.out.trans (But.set w3 c 2 (.bool false))).trans (But.of b4))
        clear b4
        go_wp2_with fail
        go_ret
        exact ⟨HB4.out, Or.inl ⟨a, m, HY.out.trans HZ.out, rfl, HL4.out⟩⟩
    · have y1 : decide ((a : Int) < 55296) = false := decide_eq_false (by omega)
      have y2 : decide ((57344 : Int) ≤ (a : Int)) = false := decide_eq_false (by omega)
      have p0 := HL3.out.q0
      have p1 := HL3.out.q1
      have p4 := HL3.out.f1
      by_cases hs2 : 56319 < a
      · have HZ : Hid (low s (m) a = none) := by show _ = _; unfold low; rw [if_neg hs1, if_pos hs2]
        have y3 : decide ((56320 : Int) ≤ (a : Int)) = true := decide_eq_true (by omega)
        clear hs1 hs2
        go_wp2_with fail
        go_quiet (fail)
        have HBq := hid (below_drewN (Below.refl w3.heap.size w3) nq)
        generalize w3.drewN nq = w4 at HBq ⊢
        have HL4 := hid (HL3.out.keep HBq.out)
        have HB4 := hid (HB3.out.trans (But.of HBq.out))
        clear p0 p1 p2 p3 p4
        have p2 := HL4.out.q2
        have p3 := HL4.out.f2
        go_wp2_with fail
        go_ret
        exact ⟨HB4.out.trans (But.set w4 c 2 _), Or.inr ⟨HY.out.trans HZ.out, ⟨⟨#[]⟩, by show (0 : Nat) ≤ 4; omega, rfl⟩, m, by omega, HL4.out.mark true⟩⟩
      · have y3 : decide ((56320 : Int) ≤ (a : Int)) = false := decide_eq_false (by omega)
        have HZ0 : Hid (low s (m) a = if cB s (m) = 92 ∧ cB s (m + 1) = 117 then (hex4 s (m + 2)).bind fun b => if b < 56320 ∨ 57343 < b then none else some (65536 + 1024 * (a - 55296) + (b - 56320), m + 6) else none) := by show _ = _; unfold low; rw [if_neg hs1, if_neg hs2]
        have hr1 : 55296 ≤ a := by omega
        have hr2 : a ≤ 56319 := by omega
        clear hs1 hs2
        have w1e : IntKind.i64.wrap ((m : Int) + 2) = (m : Int) + 2 := by rw [IntKind.wrap_i64]; omega
        by_cases hl : m + 2 ≤ s.size
        · have y4 : decide ((s.size : Int) < (m : Int) + 2) = false := decide_eq_false (by omega)
          have z1 : (m : Int) ≤ (m : Int) + 2 := by omega
          have z2 : (m : Int) + 2 ≤ (s.size : Int) := by omega
          have hpt := pfx_two s (m)
          rw [pfx_eq (by show m + 2 ≤ s.size; omega)] at hpt
          by_cases hpu : cB s (m) = 92 ∧ cB s (m + 1) = 117
          · have hq : s.extract (m) (m + 2) = ⟨#[92, 117]⟩ := by
              rw [decide_eq_true hpu] at hpt
              exact of_decide_eq_true hpt
            have HZ1 : Hid (low s (m) a = (hex4 s (m + 2)).bind fun b => if b < 56320 ∨ 57343 < b then none else some (65536 + 1024 * (a - 55296) + (b - 56320), m + 6)) := by show _ = _; rw [HZ0.out, if_pos hpu]
            clear hpu hpt HZ0
            go_wp2_with fail
            go_quiet (fail)
            have HBq := hid (below_drewN (Below.refl w3.heap.size w3) nq)
            generalize w3.drewN nq = w4 at HBq ⊢
            have HL4 := hid (HL3.out.keep HBq.out)
            have HB4 := hid (HB3.out.trans (But.of HBq.out))
            clear p0 p1 p2 p3 p4 hq w1e y4 z1 z2
            have p1 := HL4.out.q1
            have p4 := HL4.out.f1
            have HL5 := hid (HL4.out.set (m + 2))
            have HB5 := hid (HB4.out.trans (But.set w4 c 1 (.int .i64 ((m + 2 : Nat) : Int))))
            have HH : Hid (Calls Tryd.prog 89 #[.pointer (some ⟨c, 0, none⟩)] (w4.setCell ⟨c, 1, none⟩ (.int .i64 ((m : Int) + 2))) (RHexPost c s (m + 2) false (w4.setCell ⟨c, 1, none⟩ (.int .i64 ((m + 2 : Nat) : Int))))) := rhex_any c s (m + 2) false _ HL5.out hs (by omega)
            go_wp2_with fail
            refine HH.out.mono ?_
            clear HL5 HH
            generalize w4.setCell ⟨c, 1, none⟩ (.int .i64 ((m + 2 : Nat) : Int)) = w5 at HB5 ⊢
            rintro e w6 ⟨B6, ⟨b, hx, rfl, L6⟩ | ⟨hx, rfl, L6⟩⟩
            · have HB6 := hid (HB5.out.trans B6)
              have HL6 := hid L6
              have hb : b < 65536 := (hexN_lt hx).1
              have hi6 : m + 2 + 4 ≤ s.size := (hexN_lt hx).2 (by omega)
              have HZ2 : Hid (low s (m) a = if b < 56320 ∨ 57343 < b then none else some (65536 + 1024 * (a - 55296) + (b - 56320), m + 6)) := by show _ = _; rw [HZ1.out]; show (hex4 s (m + 2)).bind _ = _; rw [hx]; rfl
              have r2 := HL6.out.q2
              have r3 := HL6.out.f2
              clear B6 L6 hx HZ1 p1 p4
              by_cases hb1 : b < 56320 ∨ 57343 < b
              · have HZ : Hid (low s (m) a = none) := by show _ = _; rw [HZ2.out, if_pos hb1]
                by_cases hb2 : b < 56320
                · have y5 : decide ((b : Int) < 56320) = true := decide_eq_true (by omega)
                  clear hb1 hb2
                  go_wp2_with fail
                  go_ret
                  exact ⟨HB6.out.trans (But.set w6 c 2 _), Or.inr ⟨HY.out.trans HZ.out, ⟨⟨#[]⟩, by show (0 : Nat) ≤ 4; omega, rfl⟩, _, by omega, HL6.out.mark true⟩⟩
                · have y5 : decide ((b : Int) < 56320) = false := decide_eq_false (by omega)
                  have y6 : decide ((57344 : Int) ≤ (b : Int)) = true := decide_eq_true (by omega)
                  clear hb1 hb2
                  go_wp2_with fail
                  go_ret
                  exact ⟨HB6.out.trans (But.set w6 c 2 _), Or.inr ⟨HY.out.trans HZ.out, ⟨⟨#[]⟩, by show (0 : Nat) ≤ 4; omega, rfl⟩, _, by omega, HL6.out.mark true⟩⟩
              · have HZ : Hid (low s (m) a = some (65536 + 1024 * (a - 55296) + (b - 56320), m + 6)) := by show _ = _; rw [HZ2.out, if_neg hb1]
                have y5 : decide ((b : Int) < 56320) = false := decide_eq_false (by omega)
                have y6 : decide ((57344 : Int) ≤ (b : Int)) = false := decide_eq_false (by omega)
                have hr3 : 56320 ≤ b := by omega
                have hr4 : b ≤ 57343 := by omega
                clear hb1
                have HEn : Hid (Calls Tryd.prog 90 #[.int .i64 (65536 + 1024 * ((a : Int) - 55296) + (b : Int) - 56320)] w6 fun e w' => e = .returned (.string (baL (Lib.encodeRune ((65536 + 1024 * (a - 55296) + (b - 56320) : Nat) : Int)))) ∧ Below w6.heap.size w6 w') := by
                  have := encoded_any (65536 + 1024 * (a - 55296) + (b - 56320)) w6 (by omega) (by omega)
                  have e1 : ((65536 + 1024 * (a - 55296) + (b - 56320) : Nat) : Int) = 65536 + 1024 * ((a : Int) - 55296) + (b : Int) - 56320 := by omega
                  rw [e1] at this ⊢
                  exact this
                go_wp2_with fail
                refine HEn.out.mono ?_
                rintro e w7 ⟨rfl, b7⟩
                have HL7 := hid (HL6.out.keep b7)
                have HB7 := hid (HB6.out.trans (But.of b7))
                clear b7
                go_wp2_with fail
                go_ret
                exact ⟨HB7.out, Or.inl ⟨_, m + 6, HY.out.trans HZ.out, rfl, HL7.out⟩⟩
            · have HB6 := hid (HB5.out.trans B6)
              have HL6 := hid L6
              have HZ : Hid (low s (m) a = none) := by show _ = _; rw [HZ1.out]; show (hex4 s (m + 2)).bind _ = _; rw [hx]; rfl
              have r2 := HL6.out.q2
              have r3 := HL6.out.f2
              clear B6 L6 hx HZ1 p1 p4
              go_wp2_with fail
              go_ret
              exact ⟨HB6.out.trans (But.set w6 c 2 _), Or.inr ⟨HY.out.trans HZ.out, ⟨⟨#[]⟩, by show (0 : Nat) ≤ 4; omega, rfl⟩, _, by omega, HL6.out.mark true⟩⟩
          · have hq : ((s.extract m (m + 2)).toList == ([92, 117] : List UInt8)) = false := by
              have h1 := list_ne (s.extract m (m + 2)) ⟨#[92, 117]⟩
              have h2 : (⟨#[92, 117]⟩ : ByteArray).toList = [92, 117] := by rw [ByteArray.toList_eq]
              rw [h2] at h1
              rw [h1]
              rw [decide_eq_false hpu] at hpt
              exact hpt
            have HZ : Hid (low s (m) a = none) := by show _ = _; rw [HZ0.out, if_neg hpu]
            clear hpu hpt HZ0
            go_wp2_with fail
            go_quiet (fail)
            have HBq := hid (below_drewN (Below.refl w3.heap.size w3) nq)
            generalize w3.drewN nq = w4 at HBq ⊢
            have HL4 := hid (HL3.out.keep HBq.out)
            have HB4 := hid (HB3.out.trans (But.of HBq.out))
            clear p0 p1 p2 p3 p4
            have p2 := HL4.out.q2
            have p3 := HL4.out.f2
            go_wp2_with fail
            go_ret
            exact ⟨HB4.out.trans (But.set w4 c 2 _), Or.inr ⟨HY.out.trans HZ.out, ⟨⟨#[]⟩, by show (0 : Nat) ≤ 4; omega, rfl⟩, m, by omega, HL4.out.mark true⟩⟩
        · have y4 : decide ((s.size : Int) < (m : Int) + 2) = true := decide_eq_true (by omega)
          have HZ : Hid (low s (m) a = none) := by
            show _ = _
            rw [HZ0.out, if_neg]
            rintro ⟨_, h2⟩
            have := cB_in (s := s) (i := m + 1) (by omega)
            omega
          clear HZ0
          go_wp2_with fail
          go_quiet (fail)
          have HBq := hid (below_drewN (Below.refl w3.heap.size w3) nq)
          generalize w3.drewN nq = w4 at HBq ⊢
          have HL4 := hid (HL3.out.keep HBq.out)
          have HB4 := hid (HB3.out.trans (But.of HBq.out))
          clear p0 p1 p2 p3 p4
          have p2 := HL4.out.q2
          have p3 := HL4.out.f2
          go_wp2_with fail
          go_ret
          exact ⟨HB4.out.trans (But.set w4 c 2 _), Or.inr ⟨HY.out.trans HZ.out, ⟨⟨#[]⟩, by show (0 : Nat) ≤ 4; omega, rfl⟩, m, by omega, HL4.out.mark true⟩⟩
  · have HB3 := hid (HB2.out.trans B3)
    have HL3 := hid L3
    have HY : Hid (escR s i = none) := by show _ = _; rw [HX.out, hx]; rfl
    have p2 := HL3.out.q2
    have p3 := HL3.out.f2
    have HEn := hid (encoded_any 0 (w3.setCell ⟨c, 2, none⟩ (.bool true)) (by omega) (by omega))
    clear B3 L3 hx HH q1 q2 HX HB2
    go_wp2_with fail
    refine HEn.out.mono ?_
    rintro e w4 ⟨rfl, b4⟩
    have HL4 := hid ((HL3.out.mark true).keep b4)
    have HB4 := hid ((HB3.out.trans (But.set w3 c 2 (.bool true))).trans (But.of b4))
    clear b4
    go_wp2_with fail
    go_ret
    exact ⟨HB4.out, Or.inr ⟨HY.out, ⟨_, by have := enc_ascii 0 (by omega); rw [show ((0 : Nat) : Int) = 0 from rfl] at this; rw [this]; show (1 : Nat) ≤ 4; omega, rfl⟩, i + 1, by omega, HL4.out⟩⟩
theorem rescape_any (c : Nat) (s : ByteArray) (i : Nat) (w : World) (h : RL c s i false w) (hs : s.size ≤ 4000) (hi : i ≤ s.size) :
    Calls Tryd.prog 71 #[.pointer (some ⟨c, 0, none⟩)] w (REscPost c s (escR s i) w) := by
  by_cases h34 : cB s i = 34
  · exact resc_34 c s i w h hs h34
  by_cases h92 : cB s i = 92
  · exact resc_92 c s i w h hs h92
  by_cases h47 : cB s i = 47
  · exact resc_47 c s i w h hs h47
  by_cases h98 : cB s i = 98
  · exact resc_98 c s i w h hs h98
  by_cases h102 : cB s i = 102
  · exact resc_102 c s i w h hs h102
  by_cases h110 : cB s i = 110
  · exact resc_110 c s i w h hs h110
  by_cases h114 : cB s i = 114
  · exact resc_114 c s i w h hs h114
  by_cases h116 : cB s i = 116
  · exact resc_116 c s i w h hs h116
  by_cases h117 : cB s i = 117
  · exact resc_u c s i w h hs h117
  · exact resc_no c s i w h hs hi ⟨h34, h92, h47, h98, h102, h110, h114, h116, h117⟩
end Go.Proofs.YtknakfpciccoaaaDoor
/- append onto a slice of one's own, of whatever is appended: a text's bytes too. -/
namespace Go.Proofs.YtknakfpciccoaaaDoor
open Go.RowKit

theorem run_append_src {P : Program} (w : World) (base : Nat) (t tx ty e : TypeId) (i : TypeInfo) (z : Value) (size bytes : Nat) (ht : P.underlying t = some (.slice e)) (hi : P.info? e = some i) (hz : i.zero = some z)
    (hsize : i.size = size) (hby : i.bytes = bytes) (hzs : z.cells.size = size)
    (v : Value) (n : Nat) (xs : List Value) (hown : w.ownsRow base e size v n xs) (x : Value) (m : Nat) (news : List Value) (hs : Src P size tx x m news w)
    (h63 : n + m ≤ maxLen) (hbytes : (n + m) * bytes ≤ 140737488355328) (hbase : base ≤ w.heap.size) :
    ∃ v' w', (Builtin.append_ #[t, tx] ty #[v, x]).run P w = .ok v' w' ∧ w'.ownsRow base e size v' (n + m) (xs ++ news) ∧ w.grownBy w' v.ownBlock ∧ (v'.ownBlock = v.ownBlock ∨ v'.ownBlock = some w.heap.size) := by
  subst hsize
  subst hby
  have hsmall : n + m ≤ 9223372036854775807 := by simp only [maxLen] at h63; omega
  have hl := hs.newsLen
  have hlen : (xs ++ news).length = (n + m) * i.size := by rw [List.length_append, hown.1, hl, Nat.add_mul]
  have grown : ∀ (old : Nat), ∀ (row : Option Nat),
      (w.drew.alloc (.cells ((xs ++ news).toArray ++ Builtin.zeroCells z.cells (grownCap w (n + m) old e - (n + m))) e)).ownsRow base e i.size
        (.slice (some ⟨w.heap.size, 0, none⟩) (n + m) (grownCap w (n + m) old e)) (n + m) (xs ++ news) ∧
      w.grownBy (w.drew.alloc (.cells ((xs ++ news).toArray ++ Builtin.zeroCells z.cells (grownCap w (n + m) old e - (n + m))) e)) row := by
    intro old row
    have hge := grownCap_ge w (n + m) old e
    have hcm : grownCap w (n + m) old e ≤ maxLen := grownCap_le_maxLen w (n + m) old e h63
    refine ⟨⟨hlen, .inr ⟨w.heap.size, _, _, rfl, hbase, heap_alloc_new w.drew _, hge, hcm, ?_, ?_⟩⟩, ⟨rfl, rfl, rfl, by simp, fun k hk _ => heap_alloc_old w.drew _ hk⟩⟩
    · simp only [Array.size_append, List.size_toArray, size_zeroCells, hzs, hlen, ← Nat.add_mul]
      congr 1
      omega
    · simp only [Array.toList_append]
      rw [← hlen]
      exact List.take_left
  rcases hown.2 with ⟨rfl, rfl⟩ | ⟨g, cap, cur, rfl, hbg, hg, hnc, hcm, hcs, htake⟩
  · have hx : xs = [] := List.eq_nil_of_length_eq_zero (by simpa using hown.1)
    subst hx
    by_cases hm : m = 0
    · subst hm
      have hn : news = [] := List.eq_nil_of_length_eq_zero (by simpa using hl)
      subst hn
      refine ⟨.slice none 0 0, w, ?_, World.ownsRow_nil w base e i.size, ⟨rfl, rfl, rfl, Nat.le_refl _, fun _ _ _ => rfl⟩, Or.inl rfl⟩
      rcases hs.kind with ⟨e', hk⟩ | hk <;> simp [Builtin.append_, run_underlying ht, run_underlying hk, sizeOf, typeInfo, hi, hs.len, hs.cells]
    · have hr := run_append_grow_src (P := P) w t tx ty e i z ht hi hz none 0 0 [] (run_firstCells_none w.drew i.size 0 0 0) x m news hs (by omega) (by omega) (growslice_fits (by omega) hbytes)
      have hgr := grown 0 (Value.ownBlock (.slice none 0 0))
      exact ⟨_, _, hr, hgr.1, hgr.2, Or.inr rfl⟩
  · by_cases hroom : n + m ≤ cap
    · have hfit : n * i.size + news.length ≤ cur.size := by rw [hl, hcs, ← Nat.add_mul]; exact Nat.mul_le_mul_right _ hroom
      have hst := run_storeCells_at P g (n * i.size) e news 0 cur w hg (by simpa using hfit) hs.one
      simp only [Nat.add_zero] at hst
      have hr : (Builtin.append_ #[t, tx] ty #[.slice (some ⟨g, 0, none⟩) n cap, x]).run P w = .ok (.slice (some ⟨g, 0, none⟩) (n + m) cap) (w.setRow g (cur.toList.take (n * i.size) ++ news ++ cur.toList.drop (n * i.size + news.length)).toArray) := by
        rcases hs.kind with ⟨e', hk⟩ | hk <;> simp [Builtin.append_, run_underlying ht, run_underlying hk, sizeOf, typeInfo, hi, hs.len, hroom, hs.cells, Addr.add_lit, hst]
      refine ⟨_, _, hr, ⟨hlen, .inr ⟨g, cap, _, rfl, hbg, setRow_heap w g cur _ e _ hg, hroom, hcm, ?_, ?_⟩⟩, ⟨rfl, rfl, rfl, by simp, fun k _ hk => setRow_other w g k _ (fun e => hk (by simp [Value.ownBlock, e]))⟩, Or.inl rfl⟩
      · simp only [List.size_toArray, List.length_append, List.length_take, List.length_drop, Array.length_toList]
        omega
      · rw [htake, ← hlen]
        exact List.take_left
    · have holds : ∀ j u, xs[j]? = some u → w.cell? ((⟨g, 0, none⟩ : Addr).add j) = some u := hown.cells (g := g) rfl
      have hr := run_append_grow_src (P := P) w t tx ty e i z ht hi hz (some ⟨g, 0, none⟩) n cap xs (run_firstCells_some w.drew i.size n ⟨g, 0, none⟩ n cap xs hown.1 (by simpa using holds)) x m news hs (by omega) (by omega) (growslice_fits (by omega) hbytes)
      have hgr := grown cap (Value.ownBlock (.slice (some ⟨g, 0, none⟩) n cap))
      exact ⟨_, _, hr, hgr.1, hgr.2, Or.inr rfl⟩
theorem wp_append_src {P : Program} (w : World) {o : Oper} {a : Act} {K : Act → World → Prop} {Q : Exit → Act → World → Prop} (s xo : Operand) (t tx : TypeId)
    (ho : o.op = .call { callee := .builtin .append, args := #[s, xo], argTypes := #[t, tx] })
    (base : Nat) (e : TypeId) (i : TypeInfo) (z : Value) (size bytes : Nat) (ht : P.underlying t = some (.slice e)) (hi : P.info? e = some i) (hz : i.zero = some z)
    (hsize : i.size = size) (hby : i.bytes = bytes) (hzs : z.cells.size = size)
    (v : Value) (n : Nat) (xs : List Value) (hsv : a.eval s = v) (hown : w.ownsRow base e size v n xs) (x : Value) (m : Nat) (news : List Value) (hx : a.eval xo = x) (hs : Src P size tx x m news w)
    (h63 : n + m ≤ maxLen) (hbytes : (n + m) * bytes ≤ 140737488355328) (hbase : base ≤ w.heap.size)
    (h : ∀ v' w', w'.ownsRow base e size v' (n + m) (xs ++ news) → w.grownBy w' v.ownBlock → (v'.ownBlock = v.ownBlock ∨ v'.ownBlock = some w.heap.size) → K (a.put o.dst v') w') : o.wp P a w K Q := by
  obtain ⟨v', w', hr, h2, h3, h4⟩ := run_append_src (P := P) w base t tx o.type e i z size bytes ht hi hz hsize hby hzs v n xs hown x m news hs h63 hbytes hbase
  unfold Oper.wp execOp
  simp only [ho, resolve, invoke, builtin, Sem.run_bind, Sem.run_pure, Result.andThen_ok, List.map_toArray, List.map_cons, List.map_nil, hsv, hx, hr]
  exact h v' w' h2 h3 h4
theorem wpList_append_src {P : Program} (w : World) {ops : Array Oper} {rest : List Oper} {o : Oper} {a : Act} {Q : Exit → Act → World → Prop} (hgd : o.guard = none) (s xo : Operand) (t tx : TypeId)
    (ho : o.op = .call { callee := .builtin .append, args := #[s, xo], argTypes := #[t, tx] })
    (base : Nat) (e : TypeId) (i : TypeInfo) (z : Value) (size bytes : Nat) (ht : P.underlying t = some (.slice e)) (hi : P.info? e = some i) (hz : i.zero = some z)
    (hsize : i.size = size) (hby : i.bytes = bytes) (hzs : z.cells.size = size)
    (v : Value) (n : Nat) (xs : List Value) (hsv : a.eval s = v) (hown : w.ownsRow base e size v n xs) (x : Value) (m : Nat) (news : List Value) (hx : a.eval xo = x) (hs : Src P size tx x m news w)
    (h63 : n + m ≤ maxLen) (hbytes : (n + m) * bytes ≤ 140737488355328) (hbase : base ≤ w.heap.size)
    (h : ∀ v' w', w'.ownsRow base e size v' (n + m) (xs ++ news) → w.grownBy w' v.ownBlock → (v'.ownBlock = v.ownBlock ∨ v'.ownBlock = some w.heap.size) → wpList P ops Q rest (a.put o.dst v') w') : wpList P ops Q (o :: rest) a w :=
  wpList_plain hgd fun _ hK => wp_append_src w s xo t tx ho base e i z size bytes ht hi hz hsize hby hzs v n xs hsv hown x m news hx hs h63 hbytes hbase fun v' w' h2 h3 h4 => hK _ _ (h v' w' h2 h3 h4)
theorem step_append_src {P : Program} (w : World) {ops : Array Oper} {o : Oper} {a : Act} {K : Act → World → Prop} {Q : Exit → Act → World → Prop} {E : Prop} (hgd : o.guard = none) (s xo : Operand) (t tx : TypeId)
    (ho : o.op = .call { callee := .builtin .append, args := #[s, xo], argTypes := #[t, tx] })
    (base : Nat) (e : TypeId) (i : TypeInfo) (z : Value) (size bytes : Nat) (ht : P.underlying t = some (.slice e)) (hi : P.info? e = some i) (hz : i.zero = some z)
    (hsize : i.size = size) (hby : i.bytes = bytes) (hzs : z.cells.size = size)
    (v : Value) (n : Nat) (xs : List Value) (hsv : a.eval s = v) (hown : w.ownsRow base e size v n xs) (x : Value) (m : Nat) (news : List Value) (hx : a.eval xo = x) (hs : Src P size tx x m news w)
    (h63 : n + m ≤ maxLen) (hbytes : (n + m) * bytes ≤ 140737488355328) (hbase : base ≤ w.heap.size)
    (h : ∀ v' w', w'.ownsRow base e size v' (n + m) (xs ++ news) → w.grownBy w' v.ownBlock → (v'.ownBlock = v.ownBlock ∨ v'.ownBlock = some w.heap.size) → K (a.put o.dst v') w') :
    if Region.wanted o (yielded ops a.tmps) = true then Oper.wp P o a w K Q else E := by
  have hw : Region.wanted o (yielded ops a.tmps) = true := by simp [Region.wanted, hgd]
  rw [if_pos hw]
  exact wp_append_src w s xo t tx ho base e i z size bytes ht hi hz hsize hby hzs v n xs hsv hown x m news hx hs h63 hbytes hbase h
/-- A text's bytes, as cells. -/
def bytesV (l : List UInt8) : List Value := l.map fun b => Value.int .u8 b.toNat
theorem bytesV_append (a b : List UInt8) : bytesV (a ++ b) = bytesV a ++ bytesV b := List.map_append ..
theorem bytesV_length (a : List UInt8) : (bytesV a).length = a.length := List.length_map ..
theorem src_bytes {P : Program} (w : World) {tx : TypeId} (hk : P.underlying tx = some .string) (s : ByteArray) : Src P 1 tx (.string s) s.size (bytesV s.data.toList) w := Src.ofString w hk s
/-- A list of bytes of one's own, as a text. -/
theorem conv_own {P : Program} {w : World} {base : Nat} {src dst e : TypeId} {v : Value} {l : List UInt8} (hs : P.underlying src = some (.slice e)) (he : P.underlying e = some (.int .u8)) (hd : P.underlying dst = some .string)
    (h : w.ownsRow base e 1 v l.length (bytesV l)) : (convert src dst v).run P w = .ok (.string ⟨l.toArray⟩) w := by
  rcases h.2 with ⟨rfl, h0⟩ | ⟨g, cap, cur, rfl, hbg, hg, hnc, hcm, hcs, htake⟩
  · have : l = [] := List.eq_nil_of_length_eq_zero h0
    subst this
    exact run_convert_bytes_nil w src e hs he 0 0 dst hd
  · refine run_convert_bytes_back (P := P) w src dst e ⟨g, 0, none⟩ cap l hs he hd fun j hj => ?_
    have := h.cells (g := g) rfl j (.int .u8 ((l[j]'hj).toNat : Nat)) (by unfold bytesV; rw [List.getElem?_map, List.getElem?_eq_getElem hj]; rfl)
    exact this
end Go.Proofs.YtknakfpciccoaaaDoor
