import Derived.Test.YtknakfpciccoaaaDoorZO15
/- The walks of the reference's parser: tokens, digits. -/
namespace Go.Proofs.YtknakfpciccoaaaDoor
open Go.RowKit

def HasPost (c : Nat) (s : ByteArray) (r : Bool) (j : Nat) (b : Bool) (w : World) (e : Ending) (w' : World) : Prop :=
  e = .returned (.bool r) ∧ But c w w' ∧ RL c s j b w'
set_option maxHeartbeats 4000000 in
set_option maxRecDepth 100000 in
theorem has_bad (c : Nat) (s : ByteArray) (i : Nat) (t : ByteArray) (w : World) (h : RL c s i true w) (hs : s.size ≤ 4000) (hi : i ≤ s.size + 1) :
    Calls Tryd.prog 45 #[.pointer (some ⟨c, 0, none⟩), .string t] w (HasPost c s false (sk s i) true w) := by
  have HA := hid (blanks_any c s i true w h hs hi)
  clear h
  go_enter Tryd.func45, Tryd.ntmps45
  go_wp2_with fail
  refine HA.out.mono ?_
  rintro e w1 ⟨rfl, hB1, hL1⟩
  have HB1 := hid hB1
  have HL1 := hid hL1
  have q2 := hL1.q2
  clear hB1 hL1 HA
  go_wp2_with fail
  go_quiet (fail)
  have HBq := hid (below_drewN (Below.refl w1.heap.size w1) nq)
  generalize w1.drewN nq = w2 at HBq ⊢
  go_wp2_with fail
  go_ret
  exact ⟨rfl, HB1.out.trans (But.of HBq.out), HL1.out.keep HBq.out⟩
theorem pfx_eq {s : ByteArray} {i : Nat} {t : ByteArray} (h : i + t.size ≤ s.size) : pfx s i t = decide (s.extract i (i + t.size) = t) := by
  unfold pfx
  rw [decide_eq_true h, Bool.true_and]
theorem list_ne (a b : ByteArray) : (a.toList == b.toList) = decide (a = b) := by
  rw [ByteArray.toList_eq, ByteArray.toList_eq]
  by_cases h : a = b
  · subst h; simp
  · rw [decide_eq_false h]
    apply beq_false_of_ne
    exact fun e => h (ba_ext e)
set_option maxHeartbeats 4000000 in
set_option maxRecDepth 100000 in
theorem has_any (c : Nat) (s : ByteArray) (i : Nat) (t : ByteArray) (w : World) (h : RL c s i false w) (hs : s.size ≤ 4000) (hi : i ≤ s.size) (ht : t.size ≤ 100) :
    Calls Tryd.prog 45 #[.pointer (some ⟨c, 0, none⟩), .string t] w (HasPost c s (pfx s (sk s i) t) (if pfx s (sk s i) t = true then sk s i + t.size else sk s i) false w) := by
  have HA := hid (blanks_any c s i false w h hs (by omega))
  have hle := sk_le hi
  clear h
  generalize sk s i = j at *
  by_cases h1 : j + t.size ≤ s.size
  · have HP := hid (pfx_eq h1)
    have e1 : IntKind.i64.wrap ((s.size : Int) - (j : Int)) = (s.size : Int) - (j : Int) := by rw [IntKind.wrap_i64]; omega
    have e2 : IntKind.i64.wrap ((j : Int) + (t.size : Int)) = (j : Int) + (t.size : Int) := by rw [IntKind.wrap_i64]; omega
    have x1 : decide ((s.size : Int) - (j : Int) < (t.size : Int)) = false := decide_eq_false (by omega)
    have x2 : (j : Int) + (t.size : Int) ≤ (s.size : Int) := by omega
    have x3 : (j : Int) ≤ (j : Int) + (t.size : Int) := by omega
    cases hp : pfx s j t with
    | true =>
      have Hq : Hid (s.extract j (j + t.size) = t) := by
        show _ = _
        have := hp
        rw [HP.out] at this
        simpa using this
      rw [if_pos rfl]
      clear hp HP
      go_enter Tryd.func45, Tryd.ntmps45
      go_wp2_with fail
      refine HA.out.mono ?_
      rintro e w1 ⟨rfl, hB1, hL1⟩
      have HB1 := hid hB1
      have HL1 := hid hL1
      have q0 := hL1.q0
      have q1 := hL1.q1
      have q2 := hL1.q2
      clear hB1 hL1 HA
      have hq := Hq.out
      go_wp2_with fail
      go_quiet (fail)
      have HBq := hid (below_drewN (Below.refl w1.heap.size w1) nq)
      generalize w1.drewN nq = w2 at HBq ⊢
      have HL2 := hid (HL1.out.keep HBq.out)
      have r1 := HL2.out.q1
      have r2 := HL2.out.f1
      clear q0 q1 q2 hq
      go_wp2_with fail
      go_ret
      exact ⟨rfl, (HB1.out.trans (But.of HBq.out)).trans (But.set w2 c 1 _), HL2.out.set (j + t.size)⟩
    | false =>
      have hne : s.extract j (j + t.size) ≠ t := by
        have := hp
        rw [HP.out] at this
        simpa using this
      have hq1 : ((s.extract j (j + t.size)).toList == t.toList) = false := by rw [list_ne]; exact decide_eq_false hne
      have hq2 : ((s.extract j (j + t.size)).toList != t.toList) = true := by unfold bne; rw [hq1]; rfl
      rw [if_neg (by simp)]
      clear hp HP
      go_enter Tryd.func45, Tryd.ntmps45
      go_wp2_with fail
      refine HA.out.mono ?_
      rintro e w1 ⟨rfl, hB1, hL1⟩
      have HB1 := hid hB1
      have HL1 := hid hL1
      have q0 := hL1.q0
      have q1 := hL1.q1
      have q2 := hL1.q2
      clear hB1 hL1 HA
      go_wp2_with fail
      go_quiet (fail)
      have HBq := hid (below_drewN (Below.refl w1.heap.size w1) nq)
      generalize w1.drewN nq = w2 at HBq ⊢
      go_wp2_with fail
      go_ret
      exact ⟨rfl, HB1.out.trans (But.of HBq.out), HL1.out.keep HBq.out⟩
  · have hp : pfx s j t = false := by unfold pfx; rw [decide_eq_false h1, Bool.false_and]
    have e1 : IntKind.i64.wrap ((s.size : Int) - (j : Int)) = (s.size : Int) - (j : Int) := by rw [IntKind.wrap_i64]; omega
    have x1 : decide ((s.size : Int) - (j : Int) < (t.size : Int)) = true := decide_eq_true (by omega)
    rw [hp, if_neg (by simp)]
    clear hp h1
    go_enter Tryd.func45, Tryd.ntmps45
    go_wp2_with fail
    refine HA.out.mono ?_
    rintro e w1 ⟨rfl, hB1, hL1⟩
    have HB1 := hid hB1
    have HL1 := hid hL1
    have q0 := hL1.q0
    have q1 := hL1.q1
    have q2 := hL1.q2
    clear hB1 hL1 HA
    go_wp2_with fail
    go_quiet (fail)
    have HBq := hid (below_drewN (Below.refl w1.heap.size w1) nq)
    generalize w1.drewN nq = w2 at HBq ⊢
    go_wp2_with fail
    go_ret
    exact ⟨rfl, HB1.out.trans (But.of HBq.out), HL1.out.keep HBq.out⟩
theorem has_yes (c : Nat) (s : ByteArray) (i : Nat) (t : ByteArray) (w : World) (h : RL c s i false w) (hs : s.size ≤ 4000) (hi : i ≤ s.size) (ht : t.size ≤ 100) (hp : pfx s (sk s i) t = true) :
    Calls Tryd.prog 45 #[.pointer (some ⟨c, 0, none⟩), .string t] w (HasPost c s true (sk s i + t.size) false w) := by
  have := has_any c s i t w h hs hi ht
  rw [hp, if_pos rfl] at this
  exact this
theorem has_no (c : Nat) (s : ByteArray) (i : Nat) (t : ByteArray) (w : World) (h : RL c s i false w) (hs : s.size ≤ 4000) (hi : i ≤ s.size) (ht : t.size ≤ 100) (hp : pfx s (sk s i) t = false) :
    Calls Tryd.prog 45 #[.pointer (some ⟨c, 0, none⟩), .string t] w (HasPost c s false (sk s i) false w) := by
  have := has_any c s i t w h hs hi ht
  rw [hp, if_neg (by simp)] at this
  exact this
set_option maxHeartbeats 4000000 in
set_option maxRecDepth 100000 in
theorem must_yes (c : Nat) (s : ByteArray) (i : Nat) (t : ByteArray) (w : World) (h : RL c s i false w) (hs : s.size ≤ 4000) (hi : i ≤ s.size) (ht : t.size ≤ 100) (hp : pfx s (sk s i) t = true) :
    Calls Tryd.prog 47 #[.pointer (some ⟨c, 0, none⟩), .string t] w fun e w' => e = .returned (.tuple #[]) ∧ But c w w' ∧ RL c s (sk s i + t.size) false w' := by
  have HA := hid (has_yes c s i t w h hs hi ht hp)
  clear h hp
  go_enter Tryd.func47, Tryd.ntmps47
  go_wp2_with fail
  refine HA.out.mono ?_
  rintro e w1 ⟨rfl, hB1, hL1⟩
  have HB1 := hid hB1
  have HL1 := hid hL1
  have q2 := hL1.q2
  have q3 := hL1.f2
  clear hB1 hL1 HA
  go_wp2_with fail
  refine bodyPost_end (v := .tuple #[]) (by simp [results, Tryd.results47, go_sem]) rfl ?_
  exact ⟨rfl, HB1.out.trans (But.set w1 c 2 _), HL1.out.mark false⟩
set_option maxHeartbeats 4000000 in
set_option maxRecDepth 100000 in
theorem must_no (c : Nat) (s : ByteArray) (i : Nat) (t : ByteArray) (w : World) (h : RL c s i false w) (hs : s.size ≤ 4000) (hi : i ≤ s.size) (ht : t.size ≤ 100) (hp : pfx s (sk s i) t = false) :
    Calls Tryd.prog 47 #[.pointer (some ⟨c, 0, none⟩), .string t] w fun e w' => e = .returned (.tuple #[]) ∧ But c w w' ∧ RB c s w' := by
  have HA := hid (has_no c s i t w h hs hi ht hp)
  have hle := sk_le hi
  clear h hp
  go_enter Tryd.func47, Tryd.ntmps47
  go_wp2_with fail
  refine HA.out.mono ?_
  rintro e w1 ⟨rfl, hB1, hL1⟩
  have HB1 := hid hB1
  have HL1 := hid hL1
  have q2 := hL1.q2
  have q3 := hL1.f2
  clear hB1 hL1 HA
  go_wp2_with fail
  refine bodyPost_end (v := .tuple #[]) (by simp [results, Tryd.results47, go_sem]) rfl ?_
  exact ⟨rfl, HB1.out.trans (But.set w1 c 2 _), sk s i, by omega, HL1.out.mark true⟩
set_option maxHeartbeats 4000000 in
set_option maxRecDepth 100000 in
theorem must_bad (c : Nat) (s : ByteArray) (t : ByteArray) (w : World) (h : RB c s w) (hs : s.size ≤ 4000) :
    Calls Tryd.prog 47 #[.pointer (some ⟨c, 0, none⟩), .string t] w fun e w' => e = .returned (.tuple #[]) ∧ But c w w' ∧ RB c s w' := by
  obtain ⟨i, hi, h⟩ := h
  have HA := hid (has_bad c s i t w h hs hi)
  have hle := sk_le1 hi
  clear h
  go_enter Tryd.func47, Tryd.ntmps47
  go_wp2_with fail
  refine HA.out.mono ?_
  rintro e w1 ⟨rfl, hB1, hL1⟩
  have HB1 := hid hB1
  have HL1 := hid hL1
  have q2 := hL1.q2
  have q3 := hL1.f2
  clear hB1 hL1 HA
  go_wp2_with fail
  refine bodyPost_end (v := .tuple #[]) (by simp [results, Tryd.results47, go_sem]) rfl ?_
  exact ⟨rfl, HB1.out.trans (But.set w1 c 2 _), sk s i, by omega, HL1.out.mark true⟩
set_option maxHeartbeats 1000000 in
set_option maxRecDepth 100000 in
theorem rdigit_int (x : Int) (w : World) : Calls Tryd.prog 43 #[.int .u8 x] w fun e w' => e = .returned (.bool (decide (48 ≤ x) && decide (x ≤ 57))) ∧ w' = w := by
  by_cases h1 : (48 : Int) ≤ x
  · have h1d : decide ((48 : Int) ≤ x) = true := decide_eq_true h1
    go_enter Tryd.func43, Tryd.ntmps43
    go_wp2_with fail
    go_ret
    refine ⟨?_, rfl⟩
    rw [h1d, Bool.true_and]
    rfl
  · have h1d : decide ((48 : Int) ≤ x) = false := decide_eq_false h1
    go_enter Tryd.func43, Tryd.ntmps43
    go_wp2_with fail
    go_ret
    exact ⟨rfl, rfl⟩
theorem rdigit_any (x : Nat) (w : World) : Calls Tryd.prog 43 #[.int .u8 (x : Int)] w fun e w' => e = .returned (.bool (isD x)) ∧ w' = w := by
  refine (rdigit_int (x : Int) w).mono ?_
  rintro e w' ⟨rfl, rfl⟩
  refine ⟨ret_bool ?_, rfl⟩
  unfold isD
  congr 1
  · apply decide_eq_decide.2; omega
  · apply decide_eq_decide.2; omega
end Go.Proofs.YtknakfpciccoaaaDoor
/- The walks of the reference's parser: numbers. -/
namespace Go.Proofs.YtknakfpciccoaaaDoor
open Go.RowKit

/-- How the reference's value ends. -/
def RVal (n : Nat) (lo : Nat) (e : Ending) (w' : World) : Prop := ∃ t es A B C D, e = .returned (five t A B C D) ∧ Flat w' n (five t A B C D) t es ∧ Sep lo w' es
def RVPost (n c : Nat) (s : ByteArray) (x : Option (T × Nat)) (w : World) (e : Ending) (w' : World) : Prop :=
  But c w w' ∧ ((∃ t j es A B C D, x = some (t, j) ∧ e = .returned (five t A B C D) ∧ Flat w' n (five t A B C D) t es ∧ Sep w.heap.size w' es ∧ RL c s j false w') ∨ (x = none ∧ RVal n w.heap.size e w' ∧ RB c s w'))
theorem BoxAt.put1 {b : Nat} {c0 c1 c2 c3 c4 : Value} {w : World} (h : BoxAt b c0 c1 c2 c3 c4 w) {E N : Int} (he : E = N) : BoxAt b c0 (.int .i64 N) c2 c3 c4 (w.setCell ⟨b, 1, none⟩ (.int .i64 E)) := by
  subst he
  refine ⟨?_, ?_, ?_, ?_, ?_, ?_, ?_, ?_, ?_, ?_, by simp [World.setCell]; exact h.lt⟩
  · rw [set_other (by omega)]; exact h.q0
  · exact World.cell?_setCell_same _ _ _ h.q1
  · rw [set_other (by omega)]; exact h.q2
  · rw [set_other (by omega)]; exact h.q3
  · rw [set_other (by omega)]; exact h.q4
  · rw [World.frozen?_setCell]; exact h.f0
  · rw [World.frozen?_setCell]; exact h.f1
  · rw [World.frozen?_setCell]; exact h.f2
  · rw [World.frozen?_setCell]; exact h.f3
  · rw [World.frozen?_setCell]; exact h.f4
theorem RL.same {c : Nat} {s : ByteArray} {i : Nat} {b : Bool} {w w' : World} (h : RL c s i b w) (hb : w'.heap[c]? = w.heap[c]?) (hs : w.heap.size ≤ w'.heap.size) : RL c s i b w' := h.move hs hb
theorem BoxAt.setB {b : Nat} {c0 c1 c2 c3 c4 : Value} {w : World} (h : BoxAt b c0 c1 c2 c3 c4 w) {d : Nat} (hd : b ≠ d) (o : Nat) (u : Value) : BoxAt b c0 c1 c2 c3 c4 (w.setCell ⟨d, o, none⟩ u) := h.move (by simp [World.setCell]) (Below.heap_setCell _ _ _ _ (by simpa using hd))
theorem RL.setB {c : Nat} {s : ByteArray} {i : Nat} {b : Bool} {w : World} (h : RL c s i b w) {d : Nat} (hd : c ≠ d) (o : Nat) (u : Value) : RL c s i b (w.setCell ⟨d, o, none⟩ u) := h.move (by simp [World.setCell]) (Below.heap_setCell _ _ _ _ (by simpa using hd))
theorem numS_over {s : ByteArray} {i k : Nat} (hd : sgn s i ≤ k) (hk : k ≤ dg s (sgn s i)) (h : 9223372036854775808 < dv s (sgn s i) (k - sgn s i)) : numS s i = none := by
  have hm := dv_mono s (sgn s i) (k := k - sgn s i) (m := dg s (sgn s i) - sgn s i) (by omega)
  unfold numS
  split
  · rfl
  · split
    · rfl
    · split
      · rw [if_neg (by omega)]
      · rw [if_neg (by omega)]
theorem fin_r {n c : Nat} {s : ByteArray} {w wr : World} {x : Option (T × Nat)} {j : Nat} (k m : Int) (y : ByteArray) (hk0 : 0 ≤ k) (hk1 : k ≤ 100) (hm : -9223372036854775808 ≤ m ∧ m ≤ 9223372036854775807) (hy : y.size ≤ 140737488355328) (hx : x = some (leafT k m y, j)) (hB : But c w wr) (hc : c < w.heap.size) (hL : RL c s j false wr) :
    RVPost (n + 1) c s x w (.returned (.agg #[.int .i64 k, .int .i64 m, .string y, .slice none 0 0, .slice none 0 0])) (((((wr.setCell ⟨w.heap.size, 0, none⟩ (.int .i64 k)).setCell ⟨w.heap.size, 1, none⟩ (.int .i64 m)).setCell ⟨w.heap.size, 2, none⟩ (.string y)).setCell ⟨w.heap.size, 3, none⟩ (.slice none 0 0)).setCell ⟨w.heap.size, 4, none⟩ (.slice none 0 0)) := by
  have hp := put_five (rb := w.heap.size) hB hc (flat_leaf wr n k m y hk0 hk1 hm.1 hm.2 hy) (sep_leaf (w.heap.size + 1) wr) (Nat.le_refl _) (by omega) (.int .i64 k) (.int .i64 m) (.string y) (.slice none 0 0) (.slice none 0 0)
  exact ⟨hp.1, Or.inl ⟨leafT k m y, j, _, none, 0, none, 0, hx, rfl, hp.2.1, hp.2.2.1, hL.same hp.2.2.2.1 (by rw [hp.2.2.2.2]; exact Nat.le_refl _)⟩⟩
theorem fin_rb {n c : Nat} {s : ByteArray} {w wr : World} {x : Option (T × Nat)} (k m : Int) (y : ByteArray) (hk0 : 0 ≤ k) (hk1 : k ≤ 100) (hm : -9223372036854775808 ≤ m ∧ m ≤ 9223372036854775807) (hy : y.size ≤ 140737488355328) (hx : x = none) (hB : But c w wr) (hc : c < w.heap.size) (hL : RB c s wr) :
    RVPost (n + 1) c s x w (.returned (.agg #[.int .i64 k, .int .i64 m, .string y, .slice none 0 0, .slice none 0 0])) (((((wr.setCell ⟨w.heap.size, 0, none⟩ (.int .i64 k)).setCell ⟨w.heap.size, 1, none⟩ (.int .i64 m)).setCell ⟨w.heap.size, 2, none⟩ (.string y)).setCell ⟨w.heap.size, 3, none⟩ (.slice none 0 0)).setCell ⟨w.heap.size, 4, none⟩ (.slice none 0 0)) := by
  have hp := put_five (rb := w.heap.size) hB hc (flat_leaf wr n k m y hk0 hk1 hm.1 hm.2 hy) (sep_leaf (w.heap.size + 1) wr) (Nat.le_refl _) (by omega) (.int .i64 k) (.int .i64 m) (.string y) (.slice none 0 0) (.slice none 0 0)
  obtain ⟨j, hj, hL⟩ := hL
  exact ⟨hp.1, Or.inr ⟨hx, ⟨leafT k m y, _, none, 0, none, 0, rfl, hp.2.1, hp.2.2.1⟩, j, hj, hL.same hp.2.2.2.1 (by rw [hp.2.2.2.2]; exact Nat.le_refl _)⟩⟩
/-- What holds while digits are read. -/
structure NI (c : Nat) (s : ByteArray) (d k vb : Nat) (w : World) (N : Int) (wr : World) : Prop where
  rd : RL c s k false wr
  res : BoxAt w.heap.size (.int .i64 0) (.int .i64 0) (.string ⟨#[]⟩) (.slice none 0 0) (.slice none 0 0) wr
  box : BoxAt vb (.int .i64 3) (.int .i64 N) (.string ⟨#[]⟩) (.slice none 0 0) (.slice none 0 0) wr
  but : But c w wr
  val : N = -(dv s d (k - d) : Int)
  dig : dg s k = dg s d
  lv : w.heap.size < vb
  lc : c < w.heap.size
theorem NI.keep {c : Nat} {s : ByteArray} {d k vb : Nat} {w : World} {N : Int} {wr w1 : World} (h : NI c s d k vb w N wr) (hb : Below wr.heap.size wr w1) : NI c s d k vb w N w1 :=
  ⟨h.rd.keep hb, h.res.keepB hb, h.box.keepB hb, h.but.trans (But.of hb), h.val, h.dig, h.lv, h.lc⟩
theorem NI.step {c : Nat} {s : ByteArray} {d k vb : Nat} {w : World} {N E : Int} {wr : World} (h : NI c s d k vb w N wr) (hdk : d ≤ k) (hD : isD (cB s k) = true) (hE : E = 10 * N - ((cB s k : Int) - 48)) :
    NI c s d (k + 1) vb w (10 * N - ((cB s k : Int) - 48)) ((wr.setCell ⟨vb, 1, none⟩ (.int .i64 E)).setCell ⟨c, 1, none⟩ (.int .i64 ((k : Int) + 1))) := by
  have h1 := h.lv
  have h2 := h.lc
  have hd : 48 ≤ cB s k ∧ cB s k ≤ 57 := by unfold isD at hD; simp at hD; exact hD
  refine ⟨?_, (h.res.setB (by omega) _ _).setB (by omega) _ _, (h.box.put1 hE).setB (by omega) _ _, ?_, ?_, ?_, h1, h2⟩
  · have := (h.rd.setB (d := vb) (by omega) 1 (.int .i64 E)).set (k + 1)
    exact this
  · exact (h.but.setNew (by omega) _ _).trans (But.set _ c 1 _)
  · have e : k + 1 - d = (k - d) + 1 := by omega
    have e2 : d + (k - d) = k := by omega
    rw [e, dv, e2, h.val]
    omega
  · rw [← h.dig]
    unfold dg
    rw [pass_step isD_end s k, if_pos hD]
end Go.Proofs.YtknakfpciccoaaaDoor
