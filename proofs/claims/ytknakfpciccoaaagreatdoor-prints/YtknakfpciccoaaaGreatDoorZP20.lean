import Derived.Test.YtknakfpciccoaaaGreatDoorZP19
import Derived.Test.YtknakfpciccoaaaGreatDoorZP13
/- parsed answers true: the seat's own copy of the part of X1 that needs no reference. -/
namespace Go.Proofs.YtknakfpciccoaaaGreatDoor
open Go.RowKit

def PrsU (s : ByteArray) (w : World) (e : Ending) (w' : World) : Prop :=
  Below w.heap.size w w' ∧ ∃ es A B C D, e = .returned (.tuple #[.agg #[.int .i64 (kindOf (tJ s)), .int .i64 (nOf (tJ s)), .string (sOf (tJ s)), .slice A (nL (tJ s)) B, .slice C (nK (tJ s)) D], .int .i64 (eJ s)]) ∧
    Flat w' 13 (.agg #[.int .i64 (kindOf (tJ s)), .int .i64 (nOf (tJ s)), .string (sOf (tJ s)), .slice A (nL (tJ s)) B, .slice C (nK (tJ s)) D]) (tJ s) es ∧ Sep w.heap.size w' es ∧ es.length ≤ 1048576 ∧ ∀ x ∈ es, x.n ≤ 1048576 ∧ x.m ≤ 1048576
theorem prs_u {s : ByteArray} {w : World} {e : Ending} {w' : World} (h : ParsePost s w e w') : PrsU s w e w' := by
  obtain ⟨hb, ⟨t, es, A, B, C, D, ⟨h0, rfl⟩, rfl, hF, hS⟩ | ⟨h0, rfl⟩⟩ := h
  · have hc := tJ_cnt h0 13
    have hf := flat_cnt hF hc.2
    refine ⟨hb, es, A, B, C, D, by rw [h0]; rfl, hF, hS, by omega, fun x hx => ?_⟩
    have := hf.2 x hx
    omega
  · have e1 : tJ s = leafT 0 0 ByteArray.empty := by unfold tJ; rw [if_neg h0]
    refine ⟨hb, _, none, 0, none, 0, ?_, ?_, sep_leaf _ _, by simp, fun x hx => ?_⟩
    · rw [e1]; rfl
    · rw [e1]; exact flat_leaf w' 12 0 0 ByteArray.empty (by omega) (by omega) (by omega) (by omega) (by simp)
    · simp only [List.mem_singleton] at hx
      subst hx
      exact ⟨Nat.zero_le _, Nat.zero_le _⟩
theorem parse_u {Tb : World → Prop} (hD : DecSaid Tb) (hN : IntSaid Tb) (hL : Lies Tb) (s : ByteArray) (w : World) (hs : s.size ≤ 140737488355328) (hT : Tb w) : Calls Tryz.prog 22 #[.string s] w (PrsU s w) :=
  (parse_any hD hN hL s w hs hT).mono fun _ _ h => prs_u h
/-- The text that is tried first. -/
def sLive : ByteArray := ⟨#[32, 91, 32, 116, 114, 117, 101, 32, 93, 32]⟩
theorem live_t : tJ sLive = mkT 5 0 ByteArray.empty [leafT 2 1 ByteArray.empty] [] := by kernel_rfl
theorem live_e : eJ sLive = 0 := by kernel_rfl
theorem parse_live {Tb : World → Prop} (hD : DecSaid Tb) (hN : IntSaid Tb) (hL : Lies Tb) (w : World) (hT : Tb w) : Calls Tryz.prog 22 #[.string sLive] w fun e w' =>
    Below w.heap.size w w' ∧ ∃ b o B C D, e = .returned (.tuple #[.agg #[.int .i64 5, .int .i64 0, .string ⟨#[]⟩, .slice (some ⟨b, o, none⟩) 1 B, .slice C 0 D], .int .i64 0]) ∧ b < w'.heap.size ∧ w'.cell? ⟨b, o, none⟩ = some (.int .i64 2) ∧ w'.cell? ⟨b, o + 1, none⟩ = some (.int .i64 1) := by
  refine (parse_u hD hN hL _ w (by show (10 : Nat) ≤ _; omega) hT).mono ?_
  rintro e w' ⟨hb, es, A, B, C, D, rfl, hF, _⟩
  rw [live_t] at hF
  obtain ⟨g, La, Ka, Lc, Kc, _, hv, _, hl, _⟩ := hF.at.open
  obtain ⟨b, o, c0, c1, c2, c3, c4, hA, hlt, q0, q1, q2, q3, q4, ha⟩ := hl.out 0 (by show (0 : Nat) < 1; omega)
  obtain ⟨g', La', Ka', Lc', Kc', _, hv', _⟩ := ha.out.open
  simp only [Value.agg.injEq, Array.mk.injEq, List.cons.injEq] at hv'
  have e0 : c0 = .int .i64 2 := hv'.1
  have e1 : c1 = .int .i64 1 := hv'.2.1
  subst e0
  subst e1
  have eA : A = La := by
    simp only [Value.agg.injEq, Array.mk.injEq, List.cons.injEq, Value.slice.injEq] at hv
    exact hv.2.2.2.1.1
  subst eA
  subst hA
  refine ⟨hb, b, o, B, C, D, ?_, hlt, by simpa using q0, by simpa using q1⟩
  rw [live_t, live_e]
  rfl
set_option maxHeartbeats 4000000 in
set_option maxRecDepth 100000 in
theorem parsed_any {Tb : World → Prop} (hD : DecSaid Tb) (hN : IntSaid Tb) (hL : Lies Tb) (w : World) (hT : Tb w) :
    Calls Tryz.prog 11 #[] w fun e w' => e = .returned (.bool true) ∧ Below w.heap.size w w' := by
  have HP := hid (parse_live hD hN hL w hT)
  clear hT
  go_enter Tryz.func11, Tryz.ntmps11
  go_wp2_with fail
  refine HP.out.mono ?_
  rintro e w1 ⟨hb1, b, o, B, C, D, rfl, hlt, q0, q1⟩
  have hba : Below w1.heap.size w1 (w1.alloc (.cells #[.int .i64 5, .int .i64 0, .string ⟨#[]⟩, .slice (some ⟨b, o, none⟩) 1 B, .slice C 0 D] 25)) := (Below.refl _ _).alloc (Nat.le_refl _) _
  have q0a : (w1.alloc (.cells #[.int .i64 5, .int .i64 0, .string ⟨#[]⟩, .slice (some ⟨b, o, none⟩) 1 B, .slice C 0 D] 25)).cell? ⟨b, o, none⟩ = some (.int .i64 2) := (hba.cell (p := ⟨b, o, none⟩) hlt).trans q0
  have q1a : (w1.alloc (.cells #[.int .i64 5, .int .i64 0, .string ⟨#[]⟩, .slice (some ⟨b, o, none⟩) 1 B, .slice C 0 D] 25)).cell? ⟨b, o + 1, none⟩ = some (.int .i64 1) := (hba.cell (p := ⟨b, o + 1, none⟩) hlt).trans q1
  have HB := hid (hb1.trans (hba.mono hb1.size))
  clear hb1 hba q0 q1 HP
  go_wp2_with fail
  go_ret
  exact ⟨rfl, HB.out⟩
end Go.Proofs.YtknakfpciccoaaaGreatDoor
/- A box of a value in memory. -/
namespace Go.Proofs.YtknakfpciccoaaaGreatDoor
open Go.RowKit

/-- Five cells of a block. -/
def Box (w : World) (b : Nat) (c0 c1 c2 c3 c4 : Value) : Prop := (w.cell? ⟨b, 0, none⟩ = some c0 ∧ w.cell? ⟨b, 1, none⟩ = some c1 ∧ w.cell? ⟨b, 2, none⟩ = some c2 ∧ w.cell? ⟨b, 3, none⟩ = some c3 ∧ w.cell? ⟨b, 4, none⟩ = some c4) ∧ b < w.heap.size
theorem Box.keep {w w' : World} {b : Nat} {c0 c1 c2 c3 c4 : Value} (h : Box w b c0 c1 c2 c3 c4) (hb : Below w.heap.size w w') : Box w' b c0 c1 c2 c3 c4 := by
  obtain ⟨⟨a0, a1, a2, a3, a4⟩, hl⟩ := h
  exact ⟨⟨(hb.cell (p := ⟨b, 0, none⟩) hl).trans a0, (hb.cell (p := ⟨b, 1, none⟩) hl).trans a1, (hb.cell (p := ⟨b, 2, none⟩) hl).trans a2, (hb.cell (p := ⟨b, 3, none⟩) hl).trans a3, (hb.cell (p := ⟨b, 4, none⟩) hl).trans a4⟩, Nat.lt_of_lt_of_le hl hb.size⟩
theorem Box.made (w : World) (c0 c1 c2 c3 c4 : Value) : Box (w.alloc (.cells #[c0, c1, c2, c3, c4] 25)) w.heap.size c0 c1 c2 c3 c4 := by
  refine ⟨⟨?_, ?_, ?_, ?_, ?_⟩, by simp⟩ <;> simp [go_sem]
theorem below_alloc (w : World) (o : Obj) : Below w.heap.size w (w.alloc o) := (Below.refl _ _).alloc (Nat.le_refl _) _
end Go.Proofs.YtknakfpciccoaaaGreatDoor
