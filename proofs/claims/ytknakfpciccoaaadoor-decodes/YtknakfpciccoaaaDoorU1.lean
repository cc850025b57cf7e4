/- The walk of Decodes. -/
import Derived.Test.YtknakfpciccoaaaDoorT5
import Derived.KernelRfl
namespace Go.Proofs.YtknakfpciccoaaaDoor
open Go.RowKit

theorem res7 : resT ⟨#[5, 0, 0, 0, 2, 2, 1]⟩ = some (mkT 5 0 ByteArray.empty [leafT 2 1 ByteArray.empty] []) := by kernel_rfl
/-- What bytes are taken for: a value of zeros, if they are none. -/
def tD (s : ByteArray) : T := (resT s).getD (leafT 0 0 ByteArray.empty)
def eD (s : ByteArray) : Int := if (resT s).isSome then 0 else 6
def DecU (s : ByteArray) (w : World) (e : Ending) (w' : World) : Prop :=
  Below w.heap.size w w' ∧ ∃ es A B C D, e = .returned (.tuple #[.agg #[.int .i64 (kindOf (tD s)), .int .i64 (nOf (tD s)), .string (sOf (tD s)), .slice A (nL (tD s)) B, .slice C (nK (tD s)) D], .int .i64 (eD s)]) ∧
    Flat w' 13 (.agg #[.int .i64 (kindOf (tD s)), .int .i64 (nOf (tD s)), .string (sOf (tD s)), .slice A (nL (tD s)) B, .slice C (nK (tD s)) D]) (tD s) es ∧ Sep w.heap.size w' es ∧ es.length ≤ 1048576 ∧ ∀ x ∈ es, x.n ≤ 1048576 ∧ x.m ≤ 1048576
theorem decode_u {Tb : World → Prop} (hV : ValidSaid Tb) (hL : Lies Tb) (s : ByteArray) (w : World) (hs : s.size ≤ 140737488355328) (hT : Tb w) : Calls Tryd.prog 13 #[.string s] w (DecU s w) := by
  refine (decode_any hV hL s w hs hT).mono ?_
  rintro e w' ⟨hb, ⟨t, es, A, B, C, D, hr, rfl, hF, hS⟩ | ⟨hr, rfl⟩⟩
  · have hg := resT_good hr
    have hc := flat_count hF hg.1
    have e1 : tD s = t := by unfold tD; rw [hr]; rfl
    have e2 : eD s = 0 := by unfold eD; rw [hr]; rfl
    refine ⟨hb, es, A, B, C, D, ?_, ?_, hS, by omega, fun x hx => ?_⟩
    · rw [e1, e2]; rfl
    · rw [e1]; exact hF
    · have := hc.2 x hx; omega
  · have e1 : tD s = leafT 0 0 ByteArray.empty := by unfold tD; rw [hr]; rfl
    have e2 : eD s = 6 := by unfold eD; rw [hr]; rfl
    refine ⟨hb, _, none, 0, none, 0, ?_, ?_, sep_leaf _ _, by simp, fun x hx => ?_⟩
    · rw [e1, e2]; rfl
    · rw [e1]; exact flat_leaf w' 12 0 0 ByteArray.empty (by omega) (by omega) (by omega) (by omega) (by simp)
    · simp only [List.mem_singleton] at hx
      subst hx
      exact ⟨Nat.zero_le _, Nat.zero_le _⟩
def RefU (s : ByteArray) (w : World) (e : Ending) (w' : World) : Prop :=
  Below w.heap.size w w' ∧ ∃ A B C D, e = .returned (.tuple #[.agg #[.int .i64 (kindOf (tD s)), .int .i64 (nOf (tD s)), .string (sOf (tD s)), .slice A (nL (tD s)) B, .slice C (nK (tD s)) D], .int .i64 (eD s)]) ∧
    At w' 14 (.agg #[.int .i64 (kindOf (tD s)), .int .i64 (nOf (tD s)), .string (sOf (tD s)), .slice A (nL (tD s)) B, .slice C (nK (tD s)) D]) (tD s)
theorem ref_u (s : ByteArray) (w : World) (hs : s.size ≤ 140737488355328) : Calls Tryd.prog 14 #[.string s] w (RefU s w) := by
  refine (refDecode_any s w hs).mono ?_
  rintro e w' ⟨hb, ⟨t, A, B, C, D, hr, rfl, hA⟩ | ⟨hr, rfl⟩⟩
  · have e1 : tD s = t := by unfold tD; rw [hr]; rfl
    have e2 : eD s = 0 := by unfold eD; rw [hr]; rfl
    refine ⟨hb, A, B, C, D, ?_, ?_⟩
    · rw [e1, e2]; rfl
    · rw [e1]; exact hA
  · have e1 : tD s = leafT 0 0 ByteArray.empty := by unfold tD; rw [hr]; rfl
    have e2 : eD s = 6 := by unfold eD; rw [hr]; rfl
    refine ⟨hb, none, 0, none, 0, ?_, ?_⟩
    · rw [e1, e2]; rfl
    · rw [e1]; exact (flat_leaf w' 13 0 0 ByteArray.empty (by omega) (by omega) (by omega) (by omega) (by simp)).at
theorem decode7 {Tb : World → Prop} (hV : ValidSaid Tb) (hL : Lies Tb) (w : World) (hT : Tb w) : Calls Tryd.prog 13 #[.string ⟨#[5, 0, 0, 0, 2, 2, 1]⟩] w fun e w' =>
    Below w.heap.size w w' ∧ ∃ b o B C D, e = .returned (.tuple #[.agg #[.int .i64 5, .int .i64 0, .string ⟨#[]⟩, .slice (some ⟨b, o, none⟩) 1 B, .slice C 0 D], .int .i64 0]) ∧ b < w'.heap.size ∧ w'.cell? ⟨b, o + 1, none⟩ = some (.int .i64 1) := by
  refine (decode_any hV hL _ w (by show (7 : Nat) ≤ _; omega) hT).mono ?_
  rintro e w' ⟨hb, ⟨t, es, A, B, C, D, hr, rfl, hF, hS⟩ | ⟨hr, rfl⟩⟩
  · rw [res7] at hr
    cases hr
    obtain ⟨g, La, Ka, Lc, Kc, _, hv, _, hl, _⟩ := hF.at.open
    obtain ⟨b, o, c0, c1, c2, c3, c4, hA, hlt, q0, q1, q2, q3, q4, ha⟩ := hl.out 0 (by show (0 : Nat) < 1; omega)
    obtain ⟨g', La', Ka', Lc', Kc', _, hv', _⟩ := ha.out.open
    have e1 : c1 = .int .i64 1 := by
      simp only [Value.agg.injEq, Array.mk.injEq, List.cons.injEq] at hv'
      exact hv'.2.1
    subst e1
    have eA : A = La := by
      unfold five at hv
      simp only [Value.agg.injEq, Array.mk.injEq, List.cons.injEq, Value.slice.injEq] at hv
      exact hv.2.2.2.1.1
    subst eA
    subst hA
    refine ⟨hb, b, o, B, C, D, rfl, hlt, ?_⟩
    simpa using q1
  · rw [res7] at hr
    cases hr
/-- A box of three cells. -/
structure Box3 (b : Nat) (c0 c1 c2 : Value) (w : World) : Prop where
  q0 : w.cell? ⟨b, 0, none⟩ = some c0
  q1 : w.cell? ⟨b, 1, none⟩ = some c1
  q2 : w.cell? ⟨b, 2, none⟩ = some c2
  lt : b < w.heap.size
theorem Box3.keep {b : Nat} {c0 c1 c2 : Value} {w w' : World} {B : Nat} (h : Box3 b c0 c1 c2 w) (hb : Below B w w') (hB : b < B) : Box3 b c0 c1 c2 w' :=
  ⟨(hb.cell (p := ⟨_, _, none⟩) hB).trans h.q0, (hb.cell (p := ⟨_, _, none⟩) hB).trans h.q1, (hb.cell (p := ⟨_, _, none⟩) hB).trans h.q2, Nat.lt_of_lt_of_le h.lt hb.size⟩
theorem box3_new (w : World) (c0 c1 c2 : Value) : Box3 w.heap.size c0 c1 c2 (w.alloc (.cells #[c0, c1, c2] 34)) := by
  refine ⟨?_, ?_, ?_, ?_⟩ <;> simp [go_sem]
theorem BoxAt.keep {b : Nat} {c0 c1 c2 c3 c4 : Value} {w w' : World} {B : Nat} (h : BoxAt b c0 c1 c2 c3 c4 w) (hb : Below B w w') (hB : b < B) : BoxAt b c0 c1 c2 c3 c4 w' := h.move hb.size (hb.block _ hB)
end Go.Proofs.YtknakfpciccoaaaDoor
