import Derived.Test.YtknakfpciccoaaaDoorZO4
import Derived.Test.YtknakfpciccoaaaDoorZO6
import Derived.Test.YtknakfpciccoaaaDoorZO7
import Derived.BigQuiet
import Derived.Deep.QuietTactic
import Derived.Deep.LoopGhost
import Derived.Shelf.Strings.Prefix
import Derived.Shelf.Strings.BuilderK
import Derived.Shelf.Strings.BuilderRune
import Derived.Shelf.Unicode.DecodeAny
import Derived.Shelf.Strconv.ErrVarParseInt
import Derived.Test.YtknakfpciccoaaaDoorProg
/- The walks of the program's parser: bytes. -/
namespace Go.Proofs.YtknakfpciccoaaaDoor
open Go.RowKit

abbrev refusedT (n : Int) : Ending := .panicked [{ v := .iface 66 (.int .i64 n), recovered := false }]
/-- The parser's cells: the text, and the place. -/
structure PL (c : Nat) (s : ByteArray) (i : Nat) (w : World) : Prop where
  q0 : w.cell? ⟨c, 0, none⟩ = some (.string s)
  q1 : w.cell? ⟨c, 1, none⟩ = some (.int .i64 i)
  f1 : w.frozen? ⟨c, 1, none⟩ = false
  lt : c < w.heap.size
theorem PL.set {c : Nat} {s : ByteArray} {i : Nat} {w : World} (h : PL c s i w) (j : Nat) : PL c s j (w.setCell ⟨c, 1, none⟩ (.int .i64 j)) := by
  have h0 := h.q0
  have h1 := h.q1
  have h2 := h.f1
  refine ⟨?_, ?_, ?_, by simp [World.setCell]; exact h.lt⟩
  · simp [go_sem, h0]
  · simp [go_sem, h1]
  · simp [go_sem, h2]
theorem PL.move {c : Nat} {s : ByteArray} {i : Nat} {w w' : World} (h : PL c s i w) (hs : w.heap.size ≤ w'.heap.size) (hb : w'.heap[c]? = w.heap[c]?) : PL c s i w' :=
  ⟨(World.cell?_of_block (w := w) (a := ⟨c, _, none⟩) hb).trans h.q0, (World.cell?_of_block (w := w) (a := ⟨c, _, none⟩) hb).trans h.q1, (World.frozen?_of_block (w := w) (a := ⟨c, _, none⟩) hb).trans h.f1, Nat.lt_of_lt_of_le h.lt hs⟩
theorem PL.keep {c : Nat} {s : ByteArray} {i : Nat} {w w' : World} (h : PL c s i w) (hb : Below w.heap.size w w') : PL c s i w' := h.move hb.size (hb.block _ h.lt)
theorem cB_get {s : ByteArray} {i : Nat} (h : i < s.size) : ∃ z : UInt8, s[i]'h = z ∧ cB s i = z.toNat := by
  refine ⟨s[i]'h, rfl, ?_⟩
  rw [cB_bt h]
  unfold bt
  cases s with
  | mk d => exact congrArg UInt8.toNat (getElem!_pos d i h)
def pk (s : ByteArray) (i : Nat) : Nat := if i < s.size then cB s i else 0
set_option maxHeartbeats 1000000 in
set_option maxRecDepth 100000 in
theorem peek_any (c : Nat) (s : ByteArray) (i : Nat) (w : World) (h : PL c s i w) (hi : i ≤ s.size) :
    Calls Tryd.prog 92 #[.pointer (some ⟨c, 0, none⟩)] w fun e w' => e = .returned (.int .u8 (pk s i)) ∧ Below w.heap.size w w' := by
  have q0 := h.q0
  have q1 := h.q1
  clear h
  by_cases hlt : i < s.size
  · obtain ⟨z, hz, hc⟩ := cB_get hlt
    have HP : Hid (pk s i = z.toNat) := by show pk s i = _; unfold pk; rw [if_pos hlt, hc]
    have x1 : (i : Int) < (s.size : Int) := by omega
    have x2 : ¬ ((i : Int) = (s.size : Int)) := by omega
    clear hc
    go_enter Tryd.func92, Tryd.ntmps92
    go_wp2_with fail
    go_quiet (fail)
    go_wp2_with fail
    go_quiet (fail)
    go_wp2_with fail
    go_ret
    exact ⟨ret_int (by rw [HP.out]), below_drewN (below_drewN (Below.refl _ _) _) _⟩
  · have HP : Hid (pk s i = 0) := by show pk s i = _; unfold pk; rw [if_neg hlt]
    have hi2 : i = s.size := by omega
    clear hlt hi
    subst hi2
    go_enter Tryd.func92, Tryd.ntmps92
    go_wp2_with fail
    go_quiet (fail)
    go_wp2_with fail
    go_ret
    exact ⟨ret_int (by rw [HP.out]; rfl), below_drewN (Below.refl _ _) _⟩

def AccPost (c : Nat) (s : ByteArray) (b : Bool) (j : Nat) (w : World) (e : Ending) (w' : World) : Prop :=
  e = .returned (.bool b) ∧ But c w w' ∧ PL c s j w'
set_option maxHeartbeats 1000000 in
set_option maxRecDepth 100000 in
theorem accept_yes (c : Nat) (s : ByteArray) (i : Nat) (a : Int) (w : World) (h : PL c s i w) (hs : s.size ≤ 4000) (ha : (cB s i : Int) = a) (hb : a < 256) :
    Calls Tryd.prog 91 #[.pointer (some ⟨c, 0, none⟩), .int .u8 a] w (AccPost c s true (i + 1) w) := by
  have hlt : i < s.size := cB_in (by omega)
  obtain ⟨z, hz, hc⟩ := cB_get hlt
  have HL := hid h
  have q0 := h.q0
  have q1 := h.q1
  have q2 := h.f1
  clear h
  rw [hc] at ha
  subst ha
  have x1 : (i : Int) < (s.size : Int) := by omega
  have x2 : ((i : Int) == (s.size : Int)) = false := by rw [beq_eq_false_iff_ne]; omega
  clear hc
  go_enter Tryd.func91, Tryd.ntmps91
  go_wp2_with fail
  go_quiet (fail)
  have HB := hid (below_drewN (Below.refl w.heap.size w) nq)
  generalize w.drewN nq = w1 at HB ⊢
  have HL1 := hid (HL.out.keep HB.out)
  have r1 := HL1.out.q1
  have r2 := HL1.out.f1
  clear q0 q1 q2
  go_wp2_with fail
  go_ret
  refine ⟨rfl, (But.of HB.out).trans (But.set w1 c 1 _), ?_⟩
  have := HL1.out.set (i + 1)
  exact this
set_option maxHeartbeats 1000000 in
set_option maxRecDepth 100000 in
theorem accept_no (c : Nat) (s : ByteArray) (i : Nat) (a : Int) (w : World) (h : PL c s i w) (hi : i ≤ s.size) (ha : (cB s i : Int) ≠ a) :
    Calls Tryd.prog 91 #[.pointer (some ⟨c, 0, none⟩), .int .u8 a] w (AccPost c s false i w) := by
  have HL := hid h
  have q0 := h.q0
  have q1 := h.q1
  clear h
  by_cases hlt : i < s.size
  · obtain ⟨z, hz, hc⟩ := cB_get hlt
    rw [hc] at ha
    have x1 : (i : Int) < (s.size : Int) := by omega
    have x2 : ((i : Int) == (s.size : Int)) = false := by rw [beq_eq_false_iff_ne]; omega
    clear hc
    go_enter Tryd.func91, Tryd.ntmps91
    go_wp2_with fail
    go_quiet (fail)
    have HB := hid (below_drewN (Below.refl w.heap.size w) nq)
    generalize w.drewN nq = w1 at HB ⊢
    go_wp2_with fail
    go_ret
    exact ⟨rfl, But.of HB.out, HL.out.keep HB.out⟩
  · have hi2 : i = s.size := by omega
    clear hlt hi ha
    subst hi2
    go_enter Tryd.func91, Tryd.ntmps91
    go_wp2_with fail
    go_quiet (fail)
    have HB := hid (below_drewN (Below.refl w.heap.size w) nq)
    generalize w.drewN nq = w1 at HB ⊢
    go_wp2_with fail
    go_ret
    exact ⟨rfl, But.of HB.out, HL.out.keep HB.out⟩
set_option maxHeartbeats 1000000 in
set_option maxRecDepth 100000 in
theorem next_any (c : Nat) (s : ByteArray) (i : Nat) (w : World) (h : PL c s i w) (hs : s.size ≤ 4000) (hi : i ≤ s.size) :
    Calls Tryd.prog 121 #[.pointer (some ⟨c, 0, none⟩)] w fun e w' => But c w w' ∧ ((i < s.size ∧ e = .returned (.int .u8 (cB s i)) ∧ PL c s (i + 1) w') ∨ (i = s.size ∧ e = refusedT 2)) := by
  have HL := hid h
  have q0 := h.q0
  have q1 := h.q1
  clear h
  by_cases hlt : i < s.size
  · obtain ⟨z, hz, hc⟩ := cB_get hlt
    have HC := hid hc
    have x1 : (i : Int) < (s.size : Int) := by omega
    have x2 : ¬ ((i : Int) = (s.size : Int)) := by omega
    clear hc
    go_enter Tryd.func121, Tryd.ntmps121
    go_wp2_with fail
    go_quiet (fail)
    have HB := hid (below_drewN (Below.refl w.heap.size w) nq)
    generalize w.drewN nq = w1 at HB ⊢
    have HL1 := hid (HL.out.keep HB.out)
    have r1 := HL1.out.q1
    have r2 := HL1.out.f1
    clear q0 q1
    go_wp2_with fail
    have HL2 := hid (HL1.out.set (i + 1))
    have HB2 := hid ((But.of (c := c) HB.out).trans (But.set w1 c 1 (.int .i64 ((i + 1 : Nat) : Int))))
    have e1 : ((i + 1 : Nat) : Int) = (i : Int) + 1 := by omega
    rw [e1] at HL2 HB2
    have s0 := HL2.out.q0
    have s1 := HL2.out.q1
    clear r1 r2 HL1 HB
    generalize w1.setCell ⟨c, 1, none⟩ (.int .i64 ((i : Int) + 1)) = w2 at HL2 HB2 s0 s1 ⊢
    have e2 : IntKind.i64.wrap ((i : Int) + 1 - 1) = (i : Int) := by rw [IntKind.wrap_i64]; omega
    rw [e1] at s1
    go_quiet (fail)
    have HB3 := hid (below_drewN (Below.refl w2.heap.size w2) nq)
    generalize w2.drewN nq = w3 at HB3 ⊢
    go_wp2_with fail
    go_ret
    exact ⟨HB2.out.trans (But.of HB3.out), Or.inl ⟨hlt, ret_int (by rw [HC.out]), HL2.out.keep HB3.out⟩⟩
  · have hi2 : i = s.size := by omega
    clear hlt hi
    subst hi2
    go_enter Tryd.func121, Tryd.ntmps121
    go_wp2_with fail
    go_quiet (fail)
    have HB := hid (below_drewN (Below.refl w.heap.size w) nq)
    generalize w.drewN nq = w1 at HB ⊢
    go_wp2_with fail
    exact ⟨rfl, But.of HB.out, Or.inr ⟨trivial, rfl⟩⟩
end Go.Proofs.YtknakfpciccoaaaDoor
/- The walks of the program's parser: tokens, digits, escapes. -/
namespace Go.Proofs.YtknakfpciccoaaaDoor
open Go.RowKit

set_option maxHeartbeats 1000000 in
set_option maxRecDepth 100000 in
theorem expect_yes (c : Nat) (s : ByteArray) (i : Nat) (a : Int) (w : World) (h : PL c s i w) (hs : s.size ≤ 4000) (ha : (cB s i : Int) = a) (hb : a < 256) :
    Calls Tryd.prog 106 #[.pointer (some ⟨c, 0, none⟩), .int .u8 a] w fun e w' => e = .returned (.tuple #[]) ∧ But c w w' ∧ PL c s (i + 1) w' := by
  have hlt : i < s.size := cB_in (by omega)
  have HN := hid (next_any c s i w h hs (by omega))
  clear h
  subst ha
  go_enter Tryd.func106, Tryd.ntmps106
  go_wp2_with fail
  refine HN.out.mono ?_
  rintro e w1 ⟨hB, ⟨_, rfl, hL⟩ | ⟨hh, _⟩⟩
  · have HB := hid hB
    have HL := hid hL
    clear hB hL HN
    go_wp2_with fail
    refine bodyPost_end (v := .tuple #[]) (by simp [results, Tryd.results106, go_sem]) rfl ?_
    exact ⟨rfl, HB.out, HL.out⟩
  · omega
set_option maxHeartbeats 1000000 in
set_option maxRecDepth 100000 in
theorem expect_no (c : Nat) (s : ByteArray) (i : Nat) (a : Int) (w : World) (h : PL c s i w) (hs : s.size ≤ 4000) (hi : i ≤ s.size) (ha : (cB s i : Int) ≠ a) :
    Calls Tryd.prog 106 #[.pointer (some ⟨c, 0, none⟩), .int .u8 a] w fun e w' => e = refusedT 2 ∧ But c w w' := by
  have HN := hid (next_any c s i w h hs hi)
  clear h
  go_enter Tryd.func106, Tryd.ntmps106
  go_wp2_with fail
  refine HN.out.mono ?_
  rintro e w1 ⟨hB, ⟨_, rfl, _⟩ | ⟨_, rfl⟩⟩
  · have HB := hid hB
    clear hB HN
    go_wp2_with fail
    exact ⟨rfl, rfl, HB.out⟩
  · have HB := hid hB
    clear hB HN
    go_wp2_with fail
    exact ⟨rfl, rfl, HB.out⟩
theorem blank_no {n : Nat} (h : blank n = false) : n ≠ 32 ∧ n ≠ 9 ∧ n ≠ 10 ∧ n ≠ 13 := by
  unfold blank at h
  simp at h
  omega
set_option maxHeartbeats 1000000 in
set_option maxRecDepth 100000 in
theorem skip_any (c : Nat) (s : ByteArray) (i : Nat) (w : World) (h : PL c s i w) (hs : s.size ≤ 4000) (hi : i ≤ s.size) :
    Calls Tryd.prog 73 #[.pointer (some ⟨c, 0, none⟩)] w fun e w' => e = .returned (.tuple #[]) ∧ But c w w' ∧ PL c s (sk s i) w' := by
  have HL0 := hid h
  clear h
  go_enter Tryd.func73, Tryd.ntmps73
  go_wp2_with fail
  go_loopg [] (s.size - i) (fun g wr => ∃ k : Nat, g = s.size - k ∧ k ≤ s.size ∧ Hid (PL c s k wr) ∧ Hid (But c w wr) ∧ Hid (sk s k = sk s i))
  case atStart => exact ⟨i, rfl, hi, HL0, But.refl _ _, rfl⟩
  case round =>
    clear HL0
    obtain ⟨k, rfl, hk, HL, HB, HK⟩ := hrel
    by_cases hb : blank (cB s k) = true
    · have hlt : k < s.size := by
        apply cB_in (s := s)
        unfold blank at hb
        simp at hb
        omega
      have HK1 : Hid (sk s (k + 1) = sk s i) := by show _ = _; rw [← HK.out, sk_step s k, if_pos hb]
      have h4 : cB s k = 32 ∨ cB s k = 9 ∨ cB s k = 10 ∨ cB s k = 13 := by
        unfold blank at hb
        simp at hb
        omega
      clear HK hb
      by_cases h1 : cB s k = 32
      · go_wp2_with fail
        refine (accept_yes c s k 32 _ HL.out hs (by omega) (by omega)).mono ?_
        rintro e w1 ⟨rfl, hB1, hL1⟩
        have HB1 := hid (HB.out.trans hB1)
        have HL1 := hid hL1
        clear hB1 hL1 HL HB
        go_wp2_with fail
        go_roundg (s.size - (k + 1))
        case rel => exact ⟨k + 1, rfl, by omega, HL1, HB1, HK1⟩
        case measure => omega
      · go_wp2_with fail
        refine (accept_no c s k 32 _ HL.out hk (by omega)).mono ?_
        rintro e w1 ⟨rfl, hB1, hL1⟩
        have HB1 := hid (HB.out.trans hB1)
        have HL1 := hid hL1
        clear hB1 hL1 HL HB
        by_cases h2 : cB s k = 9
        · go_wp2_with fail
          refine (accept_yes c s k 9 _ HL1.out hs (by omega) (by omega)).mono ?_
          rintro e w2 ⟨rfl, hB2, hL2⟩
          have HB2 := hid (HB1.out.trans hB2)
          have HL2 := hid hL2
          clear hB2 hL2 HL1 HB1
          go_wp2_with fail
          go_roundg (s.size - (k + 1))
          case rel => exact ⟨k + 1, rfl, by omega, HL2, HB2, HK1⟩
          case measure => omega
        · go_wp2_with fail
          refine (accept_no c s k 9 _ HL1.out hk (by omega)).mono ?_
          rintro e w2 ⟨rfl, hB2, hL2⟩
          have HB2 := hid (HB1.out.trans hB2)
          have HL2 := hid hL2
          clear hB2 hL2 HL1 HB1
          by_cases h3 : cB s k = 10
          · go_wp2_with fail
            refine (accept_yes c s k 10 _ HL2.out hs (by omega) (by omega)).mono ?_
            rintro e w3 ⟨rfl, hB3, hL3⟩
            have HB3 := hid (HB2.out.trans hB3)
            have HL3 := hid hL3
            clear hB3 hL3 HL2 HB2
            go_wp2_with fail
            go_roundg (s.size - (k + 1))
            case rel => exact ⟨k + 1, rfl, by omega, HL3, HB3, HK1⟩
            case measure => omega
          · go_wp2_with fail
            refine (accept_no c s k 10 _ HL2.out hk (by omega)).mono ?_
            rintro e w3 ⟨rfl, hB3, hL3⟩
            have HB3 := hid (HB2.out.trans hB3)
            have HL3 := hid hL3
            clear hB3 hL3 HL2 HB2
            go_wp2_with fail
            refine (accept_yes c s k 13 _ HL3.out hs (by omega) (by omega)).mono ?_
            rintro e w4 ⟨rfl, hB4, hL4⟩
            have HB4 := hid (HB3.out.trans hB4)
            have HL4 := hid hL4
            clear hB4 hL4 HL3 HB3
            go_wp2_with fail
            go_roundg (s.size - (k + 1))
            case rel => exact ⟨k + 1, rfl, by omega, HL4, HB4, HK1⟩
            case measure => omega
    · have hb2 : blank (cB s k) = false := by simpa using hb
      have HK1 : Hid (sk s i = k) := by show _ = _; rw [← HK.out, sk_step s k, if_neg hb]
      obtain ⟨h1, h2, h3, h4⟩ := blank_no hb2
      clear hb hb2 HK
      go_wp2_with fail
      refine (accept_no c s k 32 _ HL.out hk (by omega)).mono ?_
      rintro e w1 ⟨rfl, hB1, hL1⟩
      have HB1 := hid (HB.out.trans hB1)
      have HL1 := hid hL1
      clear hB1 hL1 HL HB
      go_wp2_with fail
      refine (accept_no c s k 9 _ HL1.out hk (by omega)).mono ?_
      rintro e w2 ⟨rfl, hB2, hL2⟩
      have HB2 := hid (HB1.out.trans hB2)
      have HL2 := hid hL2
      clear hB2 hL2 HL1 HB1
      go_wp2_with fail
      refine (accept_no c s k 10 _ HL2.out hk (by omega)).mono ?_
      rintro e w3 ⟨rfl, hB3, hL3⟩
      have HB3 := hid (HB2.out.trans hB3)
      have HL3 := hid hL3
      clear hB3 hL3 HL2 HB2
      go_wp2_with fail
      refine (accept_no c s k 13 _ HL3.out hk (by omega)).mono ?_
      rintro e w4 ⟨rfl, hB4, hL4⟩
      have HB4 := hid (HB3.out.trans hB4)
      have HL4 := hid hL4
      clear hB4 hL4 HL3 HB3
      go_wp2_with fail
      refine bodyPost_end (v := .tuple #[]) (by simp [results, Tryd.results73, go_sem]) rfl ?_
      refine ⟨rfl, HB4.out, ?_⟩
      rw [HK1.out]
      exact HL4.out
set_option maxHeartbeats 1000000 in
set_option maxRecDepth 100000 in
theorem isDigit_any (x : Int) (w : World) : Calls Tryd.prog 96 #[.int .u8 x] w fun e w' => e = .returned (.bool (decide (48 ≤ x) && decide (x ≤ 57))) ∧ w' = w := by
  by_cases h1 : (48 : Int) ≤ x
  · have h1d : decide ((48 : Int) ≤ x) = true := decide_eq_true h1
    go_enter Tryd.func96, Tryd.ntmps96
    go_wp2_with fail
    go_ret
    refine ⟨?_, rfl⟩
    rw [h1d, Bool.true_and]
    rfl
  · have h1d : decide ((48 : Int) ≤ x) = false := decide_eq_false h1
    go_enter Tryd.func96, Tryd.ntmps96
    go_wp2_with fail
    go_ret
    exact ⟨rfl, rfl⟩
theorem isDigit_nat (x : Nat) (w : World) : Calls Tryd.prog 96 #[.int .u8 (x : Int)] w fun e w' => e = .returned (.bool (isD x)) ∧ w' = w := by
  refine (isDigit_any (x : Int) w).mono ?_
  rintro e w' ⟨rfl, rfl⟩
  refine ⟨ret_bool ?_, rfl⟩
  unfold isD
  congr 1
  · apply decide_eq_decide.2; omega
  · apply decide_eq_decide.2; omega
set_option maxHeartbeats 1000000 in
set_option maxRecDepth 100000 in
theorem hexa_any (x : Nat) (w : World) (hx : x < 256) : Calls Tryd.prog 145 #[.int .u8 (x : Int)] w fun e w' => w' = w ∧ ((∃ n, hexV x = some n ∧ e = .returned (.int .i32 (n : Int))) ∨ (hexV x = none ∧ e = refusedT 2)) := by
  have HD := hid (isDigit_nat x w)
  by_cases h1 : isD x = true
  · have hh : 48 ≤ x ∧ x ≤ 57 := by unfold isD at h1; simp at h1; exact h1
    have HV : Hid (hexV x = some (x - 48)) := by show _ = _; unfold hexV; rw [if_pos h1]
    go_enter Tryd.func145, Tryd.ntmps145
    go_wp2_with fail
    refine HD.out.mono ?_
    rintro e w1 ⟨rfl, rfl⟩
    go_wp2_with fail
    go_ret
    refine ⟨rfl, Or.inl ⟨_, HV.out, ret_int ?_⟩⟩
    go_num
  · have hh : ¬ (48 ≤ x ∧ x ≤ 57) := by unfold isD at h1; simp at h1; omega
    by_cases h2 : 97 ≤ x ∧ x ≤ 102
    · have HV : Hid (hexV x = some (x - 87)) := by show _ = _; unfold hexV; rw [if_neg h1, if_pos h2]
      have y1 : decide ((97 : Int) ≤ (x : Int)) = true := decide_eq_true (by omega)
      have y2 : ((x : Int) ≤ 102) := by omega
      go_enter Tryd.func145, Tryd.ntmps145
      go_wp2_with fail
      refine HD.out.mono ?_
      rintro e w1 ⟨rfl, rfl⟩
      go_wp2_with fail
      go_ret
      refine ⟨rfl, Or.inl ⟨_, HV.out, ret_int ?_⟩⟩
      go_num
    · by_cases h3 : 65 ≤ x ∧ x ≤ 70
      · have HV : Hid (hexV x = some (x - 55)) := by show _ = _; unfold hexV; rw [if_neg h1, if_neg h2, if_pos h3]
        have y1 : decide ((97 : Int) ≤ (x : Int)) = false := decide_eq_false (by omega)
        have y3 : decide ((65 : Int) ≤ (x : Int)) = true := decide_eq_true (by omega)
        have y4 : ((x : Int) ≤ 70) := by omega
        go_enter Tryd.func145, Tryd.ntmps145
        go_wp2_with fail
        refine HD.out.mono ?_
        rintro e w1 ⟨rfl, rfl⟩
        go_wp2_with fail
        go_ret
        refine ⟨rfl, Or.inl ⟨_, HV.out, ret_int ?_⟩⟩
        go_num
      · have HV : Hid (hexV x = none) := by show _ = _; unfold hexV; rw [if_neg h1, if_neg h2, if_neg h3]
        by_cases h4 : 97 ≤ x
        · have y1 : decide ((97 : Int) ≤ (x : Int)) = true := decide_eq_true (by omega)
          have y2 : ¬ ((x : Int) ≤ 102) := by omega
          have y3 : decide ((65 : Int) ≤ (x : Int)) = true := decide_eq_true (by omega)
          have y4 : ¬ ((x : Int) ≤ 70) := by omega
          go_enter Tryd.func145, Tryd.ntmps145
          go_wp2_with fail
          refine HD.out.mono ?_
          rintro e w1 ⟨rfl, rfl⟩
          go_wp2_with fail
          exact ⟨rfl, rfl, Or.inr ⟨HV.out, rfl⟩⟩
        · have y1 : decide ((97 : Int) ≤ (x : Int)) = false := decide_eq_false (by omega)
          by_cases h5 : 65 ≤ x
          · have y3 : decide ((65 : Int) ≤ (x : Int)) = true := decide_eq_true (by omega)
            have y4 : ¬ ((x : Int) ≤ 70) := by omega
            go_enter Tryd.func145, Tryd.ntmps145
            go_wp2_with fail
            refine HD.out.mono ?_
            rintro e w1 ⟨rfl, rfl⟩
            go_wp2_with fail
            exact ⟨rfl, rfl, Or.inr ⟨HV.out, rfl⟩⟩
          · have y3 : decide ((65 : Int) ≤ (x : Int)) = false := decide_eq_false (by omega)
            go_enter Tryd.func145, Tryd.ntmps145
            go_wp2_with fail
            refine HD.out.mono ?_
            rintro e w1 ⟨rfl, rfl⟩
            go_wp2_with fail
            exact ⟨rfl, rfl, Or.inr ⟨HV.out, rfl⟩⟩
end Go.Proofs.YtknakfpciccoaaaDoor
/- The walks of the program's parser: brackets, escapes. -/
namespace Go.Proofs.YtknakfpciccoaaaDoor
open Go.RowKit

set_option maxHeartbeats 1000000 in
set_option maxRecDepth 100000 in
theorem opens_any (c : Nat) (s : ByteArray) (i : Nat) (a b : Int) (w : World) (h : PL c s i w) (hs : s.size ≤ 4000) (ha : (cB s i : Int) = a) (ha2 : a < 256) (hb2 : b < 256) :
    Calls Tryd.prog 110 #[.pointer (some ⟨c, 0, none⟩), .int .u8 a, .int .u8 b] w fun e w' => But c w w' ∧ (((cB s (sk s (i + 1)) : Int) = b ∧ e = .returned (.bool false) ∧ PL c s (sk s (i + 1) + 1) w') ∨ ((cB s (sk s (i + 1)) : Int) ≠ b ∧ e = .returned (.bool true) ∧ PL c s (sk s (i + 1)) w')) := by
  have hlt : i < s.size := cB_in (by omega)
  have hle := sk_le (s := s) (i := i + 1) (by omega)
  have HE := hid (expect_yes c s i a w h hs ha ha2)
  clear h
  go_enter Tryd.func110, Tryd.ntmps110
  go_wp2_with fail
  refine HE.out.mono ?_
  rintro e w1 ⟨rfl, hB1, hL1⟩
  have HB1 := hid hB1
  have HL1 := hid hL1
  clear hB1 hL1 HE
  go_wp2_with fail
  refine (skip_any c s (i + 1) w1 HL1.out hs (by omega)).mono ?_
  rintro e w2 ⟨rfl, hB2, hL2⟩
  have HB2 := hid (HB1.out.trans hB2)
  have HL2 := hid hL2
  clear hB2 hL2 HB1 HL1
  by_cases hc : (cB s (sk s (i + 1)) : Int) = b
  · have HA := hid (accept_yes c s _ b w2 HL2.out hs hc hb2)
    go_wp2_with fail
    refine HA.out.mono ?_
    rintro e w3 ⟨rfl, hB3, hL3⟩
    have HB3 := hid (HB2.out.trans hB3)
    have HL3 := hid hL3
    have HC := hid hc
    clear hB3 hL3 HB2 HL2 HA hc
    go_wp2_with fail
    go_ret
    exact ⟨HB3.out, Or.inl ⟨HC.out, rfl, HL3.out⟩⟩
  · have HA := hid (accept_no c s _ b w2 HL2.out hle hc)
    go_wp2_with fail
    refine HA.out.mono ?_
    rintro e w3 ⟨rfl, hB3, hL3⟩
    have HB3 := hid (HB2.out.trans hB3)
    have HL3 := hid hL3
    have HC := hid hc
    clear hB3 hL3 HB2 HL2 HA hc
    go_wp2_with fail
    go_ret
    exact ⟨HB3.out, Or.inr ⟨HC.out, rfl, HL3.out⟩⟩
set_option maxHeartbeats 1000000 in
set_option maxRecDepth 100000 in
theorem goesOn_any (c : Nat) (s : ByteArray) (i : Nat) (b : Int) (w : World) (h : PL c s i w) (hs : s.size ≤ 4000) (hi : i ≤ s.size) (hb2 : b < 256) :
    Calls Tryd.prog 111 #[.pointer (some ⟨c, 0, none⟩), .int .u8 b] w fun e w' => But c w w' ∧ ((cB s i = 44 ∧ e = .returned (.bool true) ∧ PL c s (i + 1) w') ∨ ((cB s i : Int) = b ∧ e = .returned (.bool false) ∧ PL c s (i + 1) w') ∨ (cB s i ≠ 44 ∧ (cB s i : Int) ≠ b ∧ e = refusedT 2)) := by
  have HL := hid h
  clear h
  by_cases h44 : cB s i = 44
  · have HA := hid (accept_yes c s i 44 w HL.out hs (by omega) (by omega))
    have HC := hid h44
    clear h44
    go_enter Tryd.func111, Tryd.ntmps111
    go_wp2_with fail
    refine HA.out.mono ?_
    rintro e w3 ⟨rfl, hB3, hL3⟩
    have HB3 := hid hB3
    have HL3 := hid hL3
    clear hB3 hL3 HA
    go_wp2_with fail
    go_ret
    exact ⟨HB3.out, Or.inl ⟨HC.out, rfl, HL3.out⟩⟩
  · have HA := hid (accept_no c s i 44 w HL.out hi (by omega))
    have HC := hid h44
    clear h44
    go_enter Tryd.func111, Tryd.ntmps111
    go_wp2_with fail
    refine HA.out.mono ?_
    rintro e w3 ⟨rfl, hB3, hL3⟩
    have HB3 := hid hB3
    have HL3 := hid hL3
    clear hB3 hL3 HA
    by_cases hc : (cB s i : Int) = b
    · have HE := hid (expect_yes c s i b w3 HL3.out hs hc hb2)
      have HD := hid hc
      clear hc
      go_wp2_with fail
      refine HE.out.mono ?_
      rintro e w4 ⟨rfl, hB4, hL4⟩
      have HB4 := hid (HB3.out.trans hB4)
      have HL4 := hid hL4
      clear hB4 hL4 HE
      go_wp2_with fail
      go_ret
      exact ⟨HB4.out, Or.inr (Or.inl ⟨HD.out, rfl, HL4.out⟩)⟩
    · have HE := hid (expect_no c s i b w3 HL3.out hs hi hc)
      have HD := hid hc
      clear hc
      go_wp2_with fail
      refine HE.out.mono ?_
      rintro e w4 ⟨rfl, hB4⟩
      have HB4 := hid (HB3.out.trans hB4)
      clear hB4 HE
      go_wp2_with fail
      exact ⟨rfl, HB4.out, Or.inr (Or.inr ⟨HC.out, HD.out, rfl⟩)⟩
theorem hexN_next {s : ByteArray} {i k a b : Nat} (h : hexN s i k = some a) (hb : hexV (cB s (i + k)) = some b) : hexN s i (k + 1) = some (16 * a + b) := by
  rw [hexN, h]
  simp only [Option.bind_some]
  rw [hb]
  rfl
theorem hexN_stop {s : ByteArray} {i k a : Nat} (h : hexN s i k = some a) (hb : hexV (cB s (i + k)) = none) (hk : k < 4) : hex4 s i = none := by
  refine hexN_none (k := k + 1) (by omega) ?_
  rw [hexN, h]
  simp only [Option.bind_some]
  rw [hb]
  rfl
def FourPost (c : Nat) (s : ByteArray) (i : Nat) (w : World) (e : Ending) (w' : World) : Prop :=
  But c w w' ∧ ((∃ n, hex4 s i = some n ∧ e = .returned (.int .i32 (n : Int)) ∧ PL c s (i + 4) w') ∨ (hex4 s i = none ∧ e = refusedT 2))
set_option maxHeartbeats 1000000 in
set_option maxRecDepth 100000 in
theorem four_any (c : Nat) (s : ByteArray) (i : Nat) (w : World) (h : PL c s i w) (hs : s.size ≤ 4000) (hi : i ≤ s.size) :
    Calls Tryd.prog 141 #[.pointer (some ⟨c, 0, none⟩)] w (FourPost c s i w) := by
  have HL0 := hid h
  clear h
  go_enter Tryd.func141, Tryd.ntmps141
  go_wp2_with fail
  go_loopg [3, 4] 4 (fun g r j wr => ∃ k a : Nat, g = 4 - k ∧ k ≤ 4 ∧ j = .int .i64 (k : Int) ∧ r = .int .i32 (a : Int) ∧ a < 16 ^ k ∧ i + k ≤ s.size ∧ Hid (PL c s (i + k) wr) ∧ Hid (But c w wr) ∧ Hid (hexN s i k = some a))
  case atStart => exact ⟨0, 0, rfl, by omega, rfl, rfl, by omega, by omega, HL0, But.refl _ _, rfl⟩
  case round =>
    clear HL0
    obtain ⟨k, a, rfl, hk, rfl, rfl, ha, hik, HL, HB, HX⟩ := hrel
    by_cases hlt : k < 4
    · have ha2 : a < 65536 := Nat.lt_of_lt_of_le ha (Nat.pow_le_pow_right (show 0 < 16 by decide) hk)
      have ha3 : a < 4096 := Nat.lt_of_lt_of_le ha (Nat.pow_le_pow_right (show 0 < 16 by decide) (show k ≤ 3 by omega))
      have x1 : (k : Int) < 4 := by omega
      clear ha
      go_wp2_with fail
      refine (next_any c s (i + k) wr HL.out hs hik).mono ?_
      rintro e w1 ⟨hB1, ⟨hlt1, rfl, hL1⟩ | ⟨he1, rfl⟩⟩
      · have HB1 := hid (HB.out.trans hB1)
        have HL1 := hid hL1
        clear hB1 hL1 HL HB
        go_wp2_with fail
        refine (hexa_any (cB s (i + k)) w1 (cB_lt hlt1)).mono ?_
        rintro e w2 ⟨rfl, ⟨n, hn, rfl⟩ | ⟨hn, rfl⟩⟩
        · have HX1 := hid (hexN_next HX.out hn)
          have hn2 := hexV_lt hn
          have hx2 := hexN_lt HX1.out
          clear HX hn
          go_wp2_with fail
          go_roundg (4 - (k + 1))
          case rel => exact ⟨k + 1, 16 * a + n, rfl, by omega, by go_num, by go_num, hx2.1, by omega, HL1, HB1, HX1⟩
          case measure => omega
        · have HX1 := hid (hexN_stop HX.out hn hlt)
          clear HX hn
          go_wp2_with fail
          exact ⟨rfl, HB1.out, Or.inr ⟨HX1.out, rfl⟩⟩
      · have HB1 := hid (HB.out.trans hB1)
        have hn : hexV (cB s (i + k)) = none := by rw [cB_end (by omega)]; rfl
        have HX1 := hid (hexN_stop HX.out hn hlt)
        clear HX hn hB1 HB
        go_wp2_with fail
        exact ⟨rfl, HB1.out, Or.inr ⟨HX1.out, rfl⟩⟩
    · have hk4 : k = 4 := by omega
      subst hk4
      go_wp2_with fail
      go_ret
      exact ⟨HB.out, Or.inl ⟨a, HX.out, rfl, HL.out⟩⟩
end Go.Proofs.YtknakfpciccoaaaDoor
/- Contracts of the library's shelf, laid at this dump: strings.HasPrefix, utf8.DecodeRuneInString, strings.Builder, strconv.ParseInt. -/
namespace Go.Proofs
open Go.Shelf
def Tryd.laysPrefix_ren : Go.Shelf.Ren := ⟨fun | 99 => 128 | 206 => 140 | n => n, fun | 9 => 9 | 4 => 4 | 3 => 3 | n => n, fun | n => n⟩
theorem Tryd.laysPrefix : Go.Proofs.Lays.n99 Tryd.prog Tryd.laysPrefix_ren := {
  mixed := by kernel_rfl
  f99 := Tryd.func128.trans (congrArg some (by kernel_rfl))
  f206 := Tryd.func140.trans (congrArg some (by kernel_rfl))
  t3 := Tryd.underlying3
  a3 := Tryd.isAgg3
  z3 := Tryd.sizeOf3
  v3 := Tryd.zeroValue3
  t4 := Tryd.underlying4
  a4 := Tryd.isAgg4
  z4 := Tryd.sizeOf4
  v4 := Tryd.zeroValue4
  t9 := Tryd.underlying9
  a9 := Tryd.isAgg9
  z9 := Tryd.sizeOf9
  v9 := Tryd.zeroValue9 }
def Tryd.laysDecode_ren : Go.Shelf.Ren := ⟨fun | 197 => 125 | 260 => 134 | n => n, fun | 9 => 9 | 21 => 21 | 3 => 3 | 4 => 4 | 5 => 5 | 105 => 131 | 119 => 120 | 0 => 0 | 46 => 91 | 139 => 123 | 138 => 122 | n => n, fun | 3 => 0 | 4 => 1 | n => n⟩
theorem Tryd.laysDecode : Go.Proofs.Lays.n197 Tryd.prog Tryd.laysDecode_ren := {
  mixed := by kernel_rfl
  f197 := Tryd.func125.trans (congrArg some (by kernel_rfl))
  f260 := Tryd.func134.trans (congrArg some (by kernel_rfl))
  t0 := Tryd.underlying0
  a0 := Tryd.isAgg0
  z0 := Tryd.sizeOf0
  v0 := Tryd.zeroValue0
  t3 := Tryd.underlying3
  a3 := Tryd.isAgg3
  z3 := Tryd.sizeOf3
  v3 := Tryd.zeroValue3
  t4 := Tryd.underlying4
  a4 := Tryd.isAgg4
  z4 := Tryd.sizeOf4
  v4 := Tryd.zeroValue4
  t5 := Tryd.underlying5
  a5 := Tryd.isAgg5
  z5 := Tryd.sizeOf5
  v5 := Tryd.zeroValue5
  t9 := Tryd.underlying9
  a9 := Tryd.isAgg9
  z9 := Tryd.sizeOf9
  v9 := Tryd.zeroValue9
  t21 := Tryd.underlying21
  a21 := Tryd.isAgg21
  z21 := Tryd.sizeOf21
  v21 := Tryd.zeroValue21
  t46 := Tryd.underlying91
  a46 := Tryd.isAgg91
  z46 := Tryd.sizeOf91
  v46 := Tryd.zeroValue91
  t105 := Tryd.underlying131
  a105 := Tryd.isAgg131
  z105 := Tryd.sizeOf131
  v105 := Tryd.zeroValue131
  t119 := Tryd.underlying120
  a119 := Tryd.isAgg120
  z119 := Tryd.sizeOf120
  t138 := Tryd.underlying122
  a138 := Tryd.isAgg122
  z138 := Tryd.sizeOf122
  v138 := Tryd.zeroValue122
  t139 := Tryd.underlying123
  a139 := Tryd.isAgg123
  z139 := Tryd.sizeOf123
  v139 := Tryd.zeroValue123
  g3 := by kernel_rfl
  g4 := by kernel_rfl }
def Tryd.laysString_ren : Go.Shelf.Ren := ⟨fun | 169 => 109 | n => n, fun | 70 => 108 | 9 => 9 | 0 => 0 | 72 => 110 | 37 => 60 | 127 => 133 | 3 => 3 | 5 => 5 | n => n, fun | n => n⟩
theorem Tryd.laysString : Go.Proofs.Lays.n169 Tryd.prog Tryd.laysString_ren := {
  mixed := by kernel_rfl
  f169 := Tryd.func109.trans (congrArg some (by kernel_rfl))
  t0 := Tryd.underlying0
  a0 := Tryd.isAgg0
  z0 := Tryd.sizeOf0
  v0 := Tryd.zeroValue0
  t3 := Tryd.underlying3
  a3 := Tryd.isAgg3
  z3 := Tryd.sizeOf3
  v3 := Tryd.zeroValue3
  t9 := Tryd.underlying9
  a9 := Tryd.isAgg9
  z9 := Tryd.sizeOf9
  v9 := Tryd.zeroValue9
  t37 := Tryd.underlying60
  a37 := Tryd.isAgg60
  z37 := Tryd.sizeOf60
  v37 := Tryd.zeroValue60
  t70 := Tryd.underlying108
  a70 := Tryd.isAgg108
  z70 := Tryd.sizeOf108
  v70 := Tryd.zeroValue108
  t72 := Tryd.underlying110
  a72 := Tryd.isAgg110
  z72 := Tryd.sizeOf110
  v72 := Tryd.zeroValue110
  t127 := Tryd.underlying133
  a127 := Tryd.isAgg133
  z127 := Tryd.sizeOf133
  v127 := Tryd.zeroValue133 }
def Tryd.laysParseInt_ren : Go.Shelf.Ren := ⟨fun | 174 => 112 | 247 => 126 | 245 => 127 | 287 => 135 | 279 => 136 | 280 => 137 | 281 => 138 | 282 => 139 | 321 => 142 | 322 => 143 | 316 => 114 | 171 => 40 | 205 => 144 | 243 => 70 | 246 => 88 | 283 => 102 | 284 => 103 | 285 => 104 | 286 => 105 | 129 => 117 | 317 => 116 | 318 => 118 | 319 => 119 | 320 => 120 | 337 => 129 | 338 => 130 | n => n, fun | 9 => 9 | 3 => 3 | 2 => 2 | 75 => 112 | 85 => 117 | 4 => 4 | 167 => 139 | 5 => 5 | 53 => 87 | 175 => 140 | 46 => 91 | 168 => 142 | 37 => 60 | 0 => 0 | 210 => 149 | 21 => 21 | 127 => 133 | 145 => 154 | 143 => 152 | 171 => 102 | 173 => 105 | 212 => 126 | 51 => 127 | 20 => 20 | 213 => 128 | 232 => 145 | 233 => 146 | 80 => 62 | n => n, fun | 15 => 5 | 16 => 6 | 17 => 2 | 18 => 3 | 19 => 4 | n => n⟩
theorem Tryd.laysParseInt : Go.Proofs.LaysC.n174 Tryd.prog Tryd.laysParseInt_ren := {
  mixed := by kernel_rfl
  f129 := Tryd.func117.trans (congrArg some (by kernel_rfl))
  f171 := Tryd.func40.trans (congrArg some (by kernel_rfl))
  f174 := Tryd.func112.trans (congrArg some (by kernel_rfl))
  f205 := Tryd.func144.trans (congrArg some (by kernel_rfl))
  f243 := Tryd.func70.trans (congrArg some (by kernel_rfl))
  f245 := Tryd.func127.trans (congrArg some (by kernel_rfl))
  f246 := Tryd.func88.trans (congrArg some (by kernel_rfl))
  f247 := Tryd.func126.trans (congrArg some (by kernel_rfl))
  f279 := Tryd.func136.trans (congrArg some (by kernel_rfl))
  f280 := Tryd.func137.trans (congrArg some (by kernel_rfl))
  f281 := Tryd.func138.trans (congrArg some (by kernel_rfl))
  f282 := Tryd.func139.trans (congrArg some (by kernel_rfl))
  f283 := Tryd.func102.trans (congrArg some (by kernel_rfl))
  f284 := Tryd.func103.trans (congrArg some (by kernel_rfl))
  f285 := Tryd.func104.trans (congrArg some (by kernel_rfl))
  f286 := Tryd.func105.trans (congrArg some (by kernel_rfl))
  f287 := Tryd.func135.trans (congrArg some (by kernel_rfl))
  f316 := Tryd.func114.trans (congrArg some (by kernel_rfl))
  f317 := Tryd.func116.trans (congrArg some (by kernel_rfl))
  f318 := Tryd.func118.trans (congrArg some (by kernel_rfl))
  f319 := Tryd.func119.trans (congrArg some (by kernel_rfl))
  f320 := Tryd.func120.trans (congrArg some (by kernel_rfl))
  f321 := Tryd.func142.trans (congrArg some (by kernel_rfl))
  f322 := Tryd.func143.trans (congrArg some (by kernel_rfl))
  f337 := Tryd.func129.trans (congrArg some (by kernel_rfl))
  f338 := Tryd.func130.trans (congrArg some (by kernel_rfl))
  t0 := Tryd.underlying0
  a0 := Tryd.isAgg0
  z0 := Tryd.sizeOf0
  v0 := Tryd.zeroValue0
  t2 := Tryd.underlying2
  a2 := Tryd.isAgg2
  z2 := Tryd.sizeOf2
  v2 := Tryd.zeroValue2
  t3 := Tryd.underlying3
  a3 := Tryd.isAgg3
  z3 := Tryd.sizeOf3
  v3 := Tryd.zeroValue3
  t4 := Tryd.underlying4
  a4 := Tryd.isAgg4
  z4 := Tryd.sizeOf4
  v4 := Tryd.zeroValue4
  t5 := Tryd.underlying5
  a5 := Tryd.isAgg5
  z5 := Tryd.sizeOf5
  v5 := Tryd.zeroValue5
  t9 := Tryd.underlying9
  a9 := Tryd.isAgg9
  z9 := Tryd.sizeOf9
  v9 := Tryd.zeroValue9
  t20 := Tryd.underlying20
  a20 := Tryd.isAgg20
  z20 := Tryd.sizeOf20
  v20 := Tryd.zeroValue20
  t21 := Tryd.underlying21
  a21 := Tryd.isAgg21
  z21 := Tryd.sizeOf21
  v21 := Tryd.zeroValue21
  t37 := Tryd.underlying60
  a37 := Tryd.isAgg60
  z37 := Tryd.sizeOf60
  v37 := Tryd.zeroValue60
  t46 := Tryd.underlying91
  a46 := Tryd.isAgg91
  z46 := Tryd.sizeOf91
  v46 := Tryd.zeroValue91
  t51 := Tryd.underlying127
  a51 := Tryd.isAgg127
  z51 := Tryd.sizeOf127
  v51 := Tryd.zeroValue127
  t53 := Tryd.underlying87
  a53 := Tryd.isAgg87
  z53 := Tryd.sizeOf87
  v53 := Tryd.zeroValue87
  t75 := Tryd.underlying112
  a75 := Tryd.isAgg112
  z75 := Tryd.sizeOf112
  v75 := Tryd.zeroValue112
  t85 := Tryd.underlying117
  a85 := Tryd.isAgg117
  z85 := Tryd.sizeOf117
  v85 := Tryd.zeroValue117
  t127 := Tryd.underlying133
  a127 := Tryd.isAgg133
  z127 := Tryd.sizeOf133
  v127 := Tryd.zeroValue133
  t143 := Tryd.underlying152
  a143 := Tryd.isAgg152
  z143 := Tryd.sizeOf152
  v143 := Tryd.zeroValue152
  t145 := Tryd.underlying154
  a145 := Tryd.isAgg154
  z145 := Tryd.sizeOf154
  v145 := Tryd.zeroValue154
  t167 := Tryd.underlying139
  a167 := Tryd.isAgg139
  z167 := Tryd.sizeOf139
  v167 := Tryd.zeroValue139
  t168 := Tryd.underlying142
  a168 := Tryd.isAgg142
  z168 := Tryd.sizeOf142
  v168 := Tryd.zeroValue142
  t171 := Tryd.underlying102
  a171 := Tryd.isAgg102
  z171 := Tryd.sizeOf102
  v171 := Tryd.zeroValue102
  t173 := Tryd.underlying105
  a173 := Tryd.isAgg105
  z173 := Tryd.sizeOf105
  v173 := Tryd.zeroValue105
  t175 := Tryd.underlying140
  a175 := Tryd.isAgg140
  z175 := Tryd.sizeOf140
  v175 := Tryd.zeroValue140
  t210 := Tryd.underlying149
  a210 := Tryd.isAgg149
  z210 := Tryd.sizeOf149
  v210 := Tryd.zeroValue149
  t212 := Tryd.underlying126
  a212 := Tryd.isAgg126
  z212 := Tryd.sizeOf126
  v212 := Tryd.zeroValue126
  t213 := Tryd.underlying128
  a213 := Tryd.isAgg128
  z213 := Tryd.sizeOf128
  t232 := Tryd.underlying145
  a232 := Tryd.isAgg145
  z232 := Tryd.sizeOf145
  v232 := Tryd.zeroValue145
  t233 := Tryd.underlying146
  a233 := Tryd.isAgg146
  z233 := Tryd.sizeOf146
  v233 := Tryd.zeroValue146
  g15 := by kernel_rfl
  g16 := by kernel_rfl
  g17 := by kernel_rfl
  g18 := by kernel_rfl
  g19 := by kernel_rfl
  t80 := Tryd.underlying62
  a80 := Tryd.isAgg62
  z80 := Tryd.sizeOf62
  v80 := Tryd.zeroValue62
  i0 := by kernel_rfl
  i2 := by kernel_rfl
  i3 := by kernel_rfl
  i4 := by kernel_rfl
  i5 := by kernel_rfl
  i9 := by kernel_rfl
  i20 := by kernel_rfl
  i21 := by kernel_rfl
  i37 := by kernel_rfl
  i46 := by kernel_rfl
  i51 := by kernel_rfl
  i53 := by kernel_rfl
  i75 := by kernel_rfl
  i80 := by kernel_rfl
  i85 := by kernel_rfl
  i127 := by kernel_rfl
  i143 := by kernel_rfl
  i145 := by kernel_rfl
  i167 := by kernel_rfl
  i168 := by kernel_rfl
  i171 := by kernel_rfl
  i173 := by kernel_rfl
  i175 := by kernel_rfl
  i210 := by kernel_rfl
  i212 := by kernel_rfl
  i232 := by kernel_rfl
  i233 := by kernel_rfl
  m15 := by kernel_rfl
  m16 := by kernel_rfl
  m17 := by kernel_rfl
  m18 := by kernel_rfl
  m19 := by kernel_rfl
  c0 := by kernel_rfl
  c2 := by kernel_rfl
  c3 := by kernel_rfl
  c4 := by kernel_rfl
  c5 := by kernel_rfl
  c9 := by kernel_rfl
  c20 := by kernel_rfl
  c21 := by kernel_rfl
  c37 := by kernel_rfl
  c46 := by kernel_rfl
  c51 := by kernel_rfl
  c53 := by kernel_rfl
  c75 := by kernel_rfl
  c80 := by kernel_rfl
  c85 := by kernel_rfl
  c127 := by kernel_rfl
  c143 := by kernel_rfl
  c145 := by kernel_rfl
  c167 := by kernel_rfl
  c168 := by kernel_rfl
  c171 := by kernel_rfl
  c173 := by kernel_rfl
  c175 := by kernel_rfl
  c210 := by kernel_rfl
  c212 := by kernel_rfl
  c213 := by kernel_rfl
  c232 := by kernel_rfl
  c233 := by kernel_rfl }
def Tryd.laysWriteRune_ren : Go.Shelf.Ren := ⟨fun | 168 => 107 | 240 => 122 | 242 => 123 | 276 => 131 | 278 => 132 | n => n, fun | 0 => 0 | 3 => 3 | 4 => 4 | 5 => 5 | 9 => 9 | 20 => 20 | 21 => 21 | 37 => 60 | 46 => 91 | 51 => 127 | 70 => 108 | 72 => 110 | 75 => 112 | 164 => 137 | 80 => 62 | n => n, fun | n => n⟩
theorem Tryd.laysWriteRune : Go.Proofs.Lays.n168 Tryd.prog Tryd.laysWriteRune_ren := {
  mixed := by kernel_rfl
  f168 := Tryd.func107.trans (congrArg some (by kernel_rfl))
  f240 := Tryd.func122.trans (congrArg some (by kernel_rfl))
  f242 := Tryd.func123.trans (congrArg some (by kernel_rfl))
  f276 := Tryd.func131.trans (congrArg some (by kernel_rfl))
  f278 := Tryd.func132.trans (congrArg some (by kernel_rfl))
  t0 := Tryd.underlying0
  a0 := Tryd.isAgg0
  z0 := Tryd.sizeOf0
  v0 := Tryd.zeroValue0
  t3 := Tryd.underlying3
  a3 := Tryd.isAgg3
  z3 := Tryd.sizeOf3
  v3 := Tryd.zeroValue3
  t4 := Tryd.underlying4
  a4 := Tryd.isAgg4
  z4 := Tryd.sizeOf4
  v4 := Tryd.zeroValue4
  t5 := Tryd.underlying5
  a5 := Tryd.isAgg5
  z5 := Tryd.sizeOf5
  v5 := Tryd.zeroValue5
  t9 := Tryd.underlying9
  a9 := Tryd.isAgg9
  z9 := Tryd.sizeOf9
  v9 := Tryd.zeroValue9
  t20 := Tryd.underlying20
  a20 := Tryd.isAgg20
  z20 := Tryd.sizeOf20
  v20 := Tryd.zeroValue20
  t21 := Tryd.underlying21
  a21 := Tryd.isAgg21
  z21 := Tryd.sizeOf21
  v21 := Tryd.zeroValue21
  t37 := Tryd.underlying60
  a37 := Tryd.isAgg60
  z37 := Tryd.sizeOf60
  v37 := Tryd.zeroValue60
  t46 := Tryd.underlying91
  a46 := Tryd.isAgg91
  z46 := Tryd.sizeOf91
  v46 := Tryd.zeroValue91
  t51 := Tryd.underlying127
  a51 := Tryd.isAgg127
  z51 := Tryd.sizeOf127
  v51 := Tryd.zeroValue127
  t70 := Tryd.underlying108
  a70 := Tryd.isAgg108
  z70 := Tryd.sizeOf108
  v70 := Tryd.zeroValue108
  t72 := Tryd.underlying110
  a72 := Tryd.isAgg110
  z72 := Tryd.sizeOf110
  v72 := Tryd.zeroValue110
  t75 := Tryd.underlying112
  a75 := Tryd.isAgg112
  z75 := Tryd.sizeOf112
  v75 := Tryd.zeroValue112
  t164 := Tryd.underlying137
  a164 := Tryd.isAgg137
  z164 := Tryd.sizeOf137
  v164 := Tryd.zeroValue137 }
theorem Tryd.extraWriteRune : Go.Proofs.Builder.Extra Tryd.prog Tryd.laysWriteRune_ren := {
  sizeBuilder := by kernel_rfl
  liesBuilder := by kernel_rfl
  t5 := Tryd.underlying5
  a5 := Tryd.isAgg5
  z5 := Tryd.sizeOf5
  v5 := Tryd.zeroValue5
  infoByte := by kernel_rfl
  cellsByte := by kernel_rfl
  sizeByte := by kernel_rfl
  neB5 := by decide }
theorem Tryd.extraString : Go.Proofs.Builder.Extra Tryd.prog Tryd.laysString_ren := {
  sizeBuilder := by kernel_rfl
  liesBuilder := by kernel_rfl
  t5 := Tryd.underlying5
  a5 := Tryd.isAgg5
  z5 := Tryd.sizeOf5
  v5 := Tryd.zeroValue5
  infoByte := by kernel_rfl
  cellsByte := by kernel_rfl
  sizeByte := by kernel_rfl
  neB5 := by decide }
end Go.Proofs
