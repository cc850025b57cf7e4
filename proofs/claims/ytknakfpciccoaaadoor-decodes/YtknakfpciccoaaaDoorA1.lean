import Derived.Test.YtknakfpciccoaaaDoorH
import Derived.Test.YtknakfpciccoaaaDoorProg
import Derived.WalkKit
import Derived.WalkSpells
import Derived.WalkLawsBesides
import Derived.Defers
import Derived.Recover
namespace Go.Proofs.YtknakfpciccoaaaDoor
open Go.RowKit
theorem assert_refusal (n : Int) (w : World) : (Instr.typeAssert (.iface 66 (.int .i64 n)) 20 66 true).run Tryd.prog w = .ok (.tuple #[.int .i64 n, .bool true]) w := by kernel_rfl
set_option maxHeartbeats 1000000 in
set_option maxRecDepth 100000 in
theorem catch_refusal (be : Nat) (n : Int) (w : World) (x : Value) (h5 : w.cell? ⟨be, 0, none⟩ = some x) (f5 : w.frozen? ⟨be, 0, none⟩ = false) :
    CallsD Tryd.prog 50 #[.pointer (some ⟨be, 0, none⟩)] (.panicking [{ v := .iface 66 (.int .i64 n), recovered := false }]) w fun e u' w' =>
      e = .returned (.tuple #[]) ∧ u' = .panicking [{ v := .iface 66 (.int .i64 n), recovered := true }] ∧ w' = w.setCell ⟨be, 0, none⟩ (.int .i64 n) := by
  refine callsD_of_wpS Tryd.func50 rfl fun c₀ cs hu => ?_
  apply wpS_seq
  apply wpS_region
  simp [wpOpsS, go_sem, recoverD, hu, Tryd.ntmps50, Exit.thenS]
  refine wpS_of_wp ?_
  have hta := assert_refusal n
  have e : (#[Value.pointer (some { block := be, off := 0 })] ++ (Array.replicate 10 undef).setIfInBounds 3 (Value.iface 66 (Value.int IntKind.i64 n))) = #[.pointer (some ⟨be, 0, none⟩), undef, undef, undef, .iface 66 (.int .i64 n), undef, undef, undef, undef, undef, undef] := rfl
  rw [e]
  go_wp2_with fail
  simp [bodyPostS, results, Tryd.results50]

set_option maxHeartbeats 1000000 in
set_option maxRecDepth 100000 in
theorem catch_idle (be : Nat) (w : World) :
    CallsD Tryd.prog 50 #[.pointer (some ⟨be, 0, none⟩)] .returning w fun e u' w' => e = .returned (.tuple #[]) ∧ u' = .returning ∧ w' = w := by
  refine callsD_of_wpS Tryd.func50 rfl fun c₀ cs hu => ?_
  apply wpS_seq
  apply wpS_region
  simp [wpOpsS, go_sem, recoverD, hu, Tryd.ntmps50, Exit.thenS]
  refine wpS_of_wp ?_
  go_wp2_with fail
  cases c₀
  simp_all [bodyPostS, results, Tryd.results50]

def zeroV : Value := .agg #[.int .i64 0, .int .i64 0, .string ⟨#[]⟩, .slice none 0 0, .slice none 0 0]
/-- How a call of a parser ends: with a value, or with a refusal. -/
def Ends (Q : Int → Prop) (R : Value → World → Prop) (w : World) (e : Ending) (w' : World) : Prop :=
  Below w.heap.size w w' ∧ ((∃ t A B C D, e = .returned (five t A B C D) ∧ R (five t A B C D) w') ∨ ∃ n, Q n ∧ e = .panicked [{ v := .iface 66 (.int .i64 n), recovered := false }])
/-- What lies at so many and behind is as it was. -/
structure Above (k : Nat) (w w' : World) : Prop where
  size : w'.heap.size = w.heap.size
  block : ∀ b, k ≤ b → w'.heap[b]? = w.heap[b]?
theorem Above.refl (k : Nat) (w : World) : Above k w w := ⟨rfl, fun _ _ => rfl⟩
theorem Above.set {k : Nat} {w w' : World} (h : Above k w w') {c : Nat} (hc : c < k) (o : Nat) (u : Value) : Above k w (w'.setCell ⟨c, o, none⟩ u) :=
  ⟨by simpa [World.setCell] using h.size, fun b hb => (Below.heap_setCell _ _ _ _ (by simpa using (by omega : b ≠ c))).trans (h.block b hb)⟩
set_option maxHeartbeats 1000000 in
set_option maxRecDepth 100000 in
theorem attempt (g : Nat) (hg : ∀ (a : Array Value) (w : World), (callFunc g a).run Tryd.prog w = .ok (.enter g a) w) (Q : Int → Prop) (R : Value → World → Prop) (p : Value) (w : World)
    (h : Calls Tryd.prog g #[p] ((w.alloc (.cells #[.int .i64 0, .int .i64 0, .string ⟨#[]⟩, .slice none 0 0, .slice none 0 0] 26)).alloc (.cells #[.int .i64 0] 27)) (Ends Q R ((w.alloc (.cells #[.int .i64 0, .int .i64 0, .string ⟨#[]⟩, .slice none 0 0, .slice none 0 0] 26)).alloc (.cells #[.int .i64 0] 27)))) :
    Calls Tryd.prog 25 #[.func (Fn.func g) #[] #[p]] w fun e w' => Below w.heap.size w w' ∧ ((∃ x w2, e = .returned (.tuple #[x, .int .i64 0]) ∧ R x w2 ∧ Above (w.heap.size + 2) w2 w') ∨ ∃ n, Q n ∧ e = .returned (.tuple #[zeroV, .int .i64 n])) := by
  have hmf : ∀ (fn : Fn) (first cap : Array Value) (w : World), (Instr.makeFunc fn first cap).run Tryd.prog w = .ok (.func fn first cap) w := fun _ _ _ _ => rfl
  have H := hid h
  clear h
  go_enter_defers Tryd.func25, Tryd.ntmps25
  go_wp2_with fail
  have HC : Hid (((w.alloc (.cells #[.int .i64 0, .int .i64 0, .string ⟨#[]⟩, .slice none 0 0, .slice none 0 0] 26)).alloc (.cells #[.int .i64 0] 27)).cell? ⟨w.heap.size, 0, none⟩ = some (.int .i64 0) ∧ ((w.alloc (.cells #[.int .i64 0, .int .i64 0, .string ⟨#[]⟩, .slice none 0 0, .slice none 0 0] 26)).alloc (.cells #[.int .i64 0] 27)).cell? ⟨w.heap.size, 1, none⟩ = some (.int .i64 0) ∧ ((w.alloc (.cells #[.int .i64 0, .int .i64 0, .string ⟨#[]⟩, .slice none 0 0, .slice none 0 0] 26)).alloc (.cells #[.int .i64 0] 27)).cell? ⟨w.heap.size, 2, none⟩ = some (.string ⟨#[]⟩) ∧ ((w.alloc (.cells #[.int .i64 0, .int .i64 0, .string ⟨#[]⟩, .slice none 0 0, .slice none 0 0] 26)).alloc (.cells #[.int .i64 0] 27)).cell? ⟨w.heap.size, 3, none⟩ = some (.slice none 0 0) ∧ ((w.alloc (.cells #[.int .i64 0, .int .i64 0, .string ⟨#[]⟩, .slice none 0 0, .slice none 0 0] 26)).alloc (.cells #[.int .i64 0] 27)).cell? ⟨w.heap.size, 4, none⟩ = some (.slice none 0 0) ∧ ((w.alloc (.cells #[.int .i64 0, .int .i64 0, .string ⟨#[]⟩, .slice none 0 0, .slice none 0 0] 26)).alloc (.cells #[.int .i64 0] 27)).cell? ⟨w.heap.size + 1, 0, none⟩ = some (.int .i64 0)) := by
    refine ⟨?_, ?_, ?_, ?_, ?_, ?_⟩ <;> simp [go_sem]
  have HZ : Hid (((w.alloc (.cells #[.int .i64 0, .int .i64 0, .string ⟨#[]⟩, .slice none 0 0, .slice none 0 0] 26)).alloc (.cells #[.int .i64 0] 27)).frozen? ⟨w.heap.size, 0, none⟩ = false ∧ ((w.alloc (.cells #[.int .i64 0, .int .i64 0, .string ⟨#[]⟩, .slice none 0 0, .slice none 0 0] 26)).alloc (.cells #[.int .i64 0] 27)).frozen? ⟨w.heap.size, 1, none⟩ = false ∧ ((w.alloc (.cells #[.int .i64 0, .int .i64 0, .string ⟨#[]⟩, .slice none 0 0, .slice none 0 0] 26)).alloc (.cells #[.int .i64 0] 27)).frozen? ⟨w.heap.size, 2, none⟩ = false ∧ ((w.alloc (.cells #[.int .i64 0, .int .i64 0, .string ⟨#[]⟩, .slice none 0 0, .slice none 0 0] 26)).alloc (.cells #[.int .i64 0] 27)).frozen? ⟨w.heap.size, 3, none⟩ = false ∧ ((w.alloc (.cells #[.int .i64 0, .int .i64 0, .string ⟨#[]⟩, .slice none 0 0, .slice none 0 0] 26)).alloc (.cells #[.int .i64 0] 27)).frozen? ⟨w.heap.size, 4, none⟩ = false ∧ ((w.alloc (.cells #[.int .i64 0, .int .i64 0, .string ⟨#[]⟩, .slice none 0 0, .slice none 0 0] 26)).alloc (.cells #[.int .i64 0] 27)).frozen? ⟨w.heap.size + 1, 0, none⟩ = false) := by
    refine ⟨?_, ?_, ?_, ?_, ?_, ?_⟩ <;> simp [go_sem]
  have HB0 : Hid (Below w.heap.size w ((w.alloc (.cells #[.int .i64 0, .int .i64 0, .string ⟨#[]⟩, .slice none 0 0, .slice none 0 0] 26)).alloc (.cells #[.int .i64 0] 27))) := ((Below.refl _ _).alloc (Nat.le_refl _) _).alloc (by simp) _
  refine H.out.mono ?_
  rintro e w1 ⟨hb, hr⟩
  have l0 : w.heap.size < ((w.alloc (.cells #[.int .i64 0, .int .i64 0, .string ⟨#[]⟩, .slice none 0 0, .slice none 0 0] 26)).alloc (.cells #[.int .i64 0] 27)).heap.size := by simp; omega
  have l1 : w.heap.size + 1 < ((w.alloc (.cells #[.int .i64 0, .int .i64 0, .string ⟨#[]⟩, .slice none 0 0, .slice none 0 0] 26)).alloc (.cells #[.int .i64 0] 27)).heap.size := by simp
  have a0 := (hb.cell (p := ⟨w.heap.size, 0, none⟩) l0).trans HC.out.1
  have a1 := (hb.cell (p := ⟨w.heap.size, 1, none⟩) l0).trans HC.out.2.1
  have a2 := (hb.cell (p := ⟨w.heap.size, 2, none⟩) l0).trans HC.out.2.2.1
  have a3 := (hb.cell (p := ⟨w.heap.size, 3, none⟩) l0).trans HC.out.2.2.2.1
  have a4 := (hb.cell (p := ⟨w.heap.size, 4, none⟩) l0).trans HC.out.2.2.2.2.1
  have a5 := (hb.cell (p := ⟨w.heap.size + 1, 0, none⟩) l1).trans HC.out.2.2.2.2.2
  have z0 := (hb.frozen (p := ⟨w.heap.size, 0, none⟩) l0).trans HZ.out.1
  have z1 := (hb.frozen (p := ⟨w.heap.size, 1, none⟩) l0).trans HZ.out.2.1
  have z2 := (hb.frozen (p := ⟨w.heap.size, 2, none⟩) l0).trans HZ.out.2.2.1
  have z3 := (hb.frozen (p := ⟨w.heap.size, 3, none⟩) l0).trans HZ.out.2.2.2.1
  have z4 := (hb.frozen (p := ⟨w.heap.size, 4, none⟩) l0).trans HZ.out.2.2.2.2.1
  have z5 := (hb.frozen (p := ⟨w.heap.size + 1, 0, none⟩) l1).trans HZ.out.2.2.2.2.2
  have HB := hid (HB0.out.trans (hb.mono HB0.out.size))
  clear hb HC HZ HB0 l0 l1 H
  rcases hr with ⟨t, A, B, C, D, rfl, hR⟩ | ⟨n, hQ, rfl⟩
  · have HR := hid hR
    clear hR
    unfold five at HR ⊢
    go_wp2_with fail
    refine leaves_cons (f := 50) (args := #[.pointer (some ⟨w.heap.size + 1, 0, none⟩)]) (by simp) (by simp [go_sem]) ?_
    refine (catch_idle (w.heap.size + 1) _).mono ?_
    rintro e u' w'' ⟨rfl, rfl, rfl⟩
    simp only [Leaves, settle]
    refine ⟨_, by simp [results, Tryd.results25, go_sem, *], ?_, Or.inl ⟨_, w1, rfl, HR.out, ?_⟩⟩
    · exact (((((HB.out.setCell (Nat.le_refl _) _).setCell (Nat.le_refl _) _).setCell (Nat.le_refl _) _).setCell (Nat.le_refl _) _).setCell (Nat.le_refl _) _).setCell (by simp) _
    · exact ((((((Above.refl _ _).set (by omega) _ _).set (by omega) _ _).set (by omega) _ _).set (by omega) _ _).set (by omega) _ _).set (by omega) _ _
  · have HQ := hid hQ
    clear hQ
    go_wp2_with fail
    refine leaves_cons (f := 50) (args := #[.pointer (some ⟨w.heap.size + 1, 0, none⟩)]) (by simp) (by simp [go_sem]) ?_
    refine (catch_refusal (w.heap.size + 1) n _ _ a5 z5).mono ?_
    rintro e u' w'' ⟨rfl, rfl, rfl⟩
    simp only [settle]
    refine ⟨_, by simp [results, Tryd.results25, go_sem, *]; rfl, ?_, Or.inr ⟨n, HQ.out, rfl⟩⟩
    exact HB.out.setCell (by simp) _
end Go.Proofs.YtknakfpciccoaaaDoor
