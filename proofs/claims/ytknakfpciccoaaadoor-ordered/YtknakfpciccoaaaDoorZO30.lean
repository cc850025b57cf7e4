import Derived.Test.YtknakfpciccoaaaDoorZO29
import Derived.KernelRfl
import Derived.Test.YtknakfpciccoaaaDoorZO27
import Derived.Test.YtknakfpciccoaaaDoorZO6
import Derived.Test.YtknakfpciccoaaaDoorZO19
import Derived.Test.YtknakfpciccoaaaDoorZO1
import Derived.Deep.RegionHeld
/- The walk of kept: the lists read as their owner left them. -/
namespace Go.Proofs.YtknakfpciccoaaaDoor
open Go.RowKit

theorem KeptR.keep {R : List Ent} {n : Nat} {vs ns : Value} {w w' : World} (h : KeptR R n vs ns w) (hb : Below w.heap.size w w') : KeptR R n vs ns w' :=
  ⟨own_move h.rowL fun g e => hb.block g (h.rowL.lt g e).2, own_move h.rowK fun g e => hb.block g (h.rowK.lt g e).2,
   fun q r hr => (h.recL q r hr).move fun _ _ _ hc => hb.block _ (Array.getElem?_eq_some_iff.1 hc).1, fun q r hr => (h.recK q r hr).move fun _ _ _ hc => hb.block _ (Array.getElem?_eq_some_iff.1 hc).1⟩
def markT (m : Nat) : T := mkT (-(m : Int)) 0 mark3 [] []
theorem mark_at (w : World) (m : Nat) (hm : m ≤ 1000000000) : At w 1 (.agg #[.int .i64 (-(m : Int)), .int .i64 0, .string mark3, .slice none 0 0, .slice none 0 0]) (markT m) := by
  unfold markT
  refine ⟨none, none, 0, 0, ?_, ⟨?_, ?_, ?_, ?_, ?_, ?_, ?_⟩, fun i hi => ?_, fun i hi => ?_⟩
  · rw [kindOf_mk, nOf_mk, sOf_mk, nL_mk, nK_mk]; rfl
  · rw [kindOf_mk]; omega
  · rw [kindOf_mk]; omega
  · rw [nOf_mk]; omega
  · rw [nOf_mk]; omega
  · rw [sOf_mk]; show (3 : Nat) ≤ _; omega
  · rw [nL_mk]; simp
  · rw [nK_mk]; simp
  · rw [nL_mk] at hi; simp at hi
  · rw [nK_mk] at hi; simp at hi
/-- What the loops read. -/
structure KI (R : List Ent) (n : Nat) (vs ns : Value) (w wr : World) : Prop where
  kept : KeptR R n vs ns wr
  q0 : wr.cell? ⟨w.heap.size, 0, none⟩ = some vs
  q1 : wr.cell? ⟨w.heap.size, 1, none⟩ = some ns
  q2 : wr.cell? ⟨w.heap.size, 2, none⟩ = some (.int .i64 n)
  lt : w.heap.size < wr.heap.size
  bel : Below w.heap.size w wr
theorem KI.keep {R : List Ent} {n : Nat} {vs ns : Value} {w wr w1 : World} (h : KI R n vs ns w wr) (hb : Below wr.heap.size wr w1) : KI R n vs ns w w1 :=
  ⟨h.kept.keep hb, (hb.cell (p := ⟨_, _, none⟩) h.lt).trans h.q0, (hb.cell (p := ⟨_, _, none⟩) h.lt).trans h.q1, (hb.cell (p := ⟨_, _, none⟩) h.lt).trans h.q2, Nat.lt_of_lt_of_le h.lt hb.size, h.bel.trans (hb.mono (Nat.le_of_lt h.lt))⟩
set_option maxHeartbeats 4000000 in
set_option maxRecDepth 100000 in
theorem kept_any (R : List Ent) (n : Nat) (A C : Option Addr) (B D : Nat) (w : World) (h : KeptR R n (.slice A R.length B) (.slice C R.length D) w) (hn : n ≤ 2000000) (hR : R.length ≤ 4194304) :
    Calls Tryd.prog 12 #[.agg #[.slice A R.length B, .slice C R.length D, .int .i64 n]] w fun e w' => e = .returned (.bool true) ∧ Below w.heap.size w w' := by
  have HK0 : Hid (KI R n (.slice A R.length B) (.slice C R.length D) w (w.alloc (.cells #[.slice A R.length B, .slice C R.length D, .int .i64 n] 34))) := by
    refine ⟨h.keep ((Below.refl _ _).alloc (Nat.le_refl _) _), ?_, ?_, ?_, ?_, (Below.refl _ _).alloc (Nat.le_refl _) _⟩ <;> simp [go_sem]
  clear h
  go_enter Tryd.func12, Tryd.ntmps12
  go_wp2_with fail
  go_loopg [3] R.length (fun g i wr => ∃ k : Nat, g = R.length - k ∧ k ≤ R.length ∧ i = .int .i64 k ∧ Hid (KI R n (.slice A R.length B) (.slice C R.length D) w wr))
  case atStart => exact ⟨0, rfl, Nat.zero_le _, rfl, HK0⟩
  case round =>
    clear HK0
    obtain ⟨k, rfl, hk, rfl, HK⟩ := hrel
    have a0 := HK.out.q0
    by_cases hlt : k < R.length
    · have x1 : (k : Int) < (R.length : Int) := by omega
      obtain ⟨r, hr⟩ : ∃ r, R[k]? = some r := ⟨R[k], List.getElem?_eq_getElem hlt⟩
      obtain ⟨La, Lc, hle, hmL⟩ := (HK.out.kept.recL k r hr).1
      obtain ⟨Ka, Kc, hke, hmK⟩ := (HK.out.kept.recK k r hr).1
      simp only [maxLen] at hmL hmK
      obtain ⟨gv, cv, ev, hz1, hz2, hz3, hz4, hz5⟩ := own_cell HK.out.kept.rowL (by omega)
      clear hz1 hz2 hz3 hz4 hz5
      simp only [Value.slice.injEq, true_and] at ev
      obtain ⟨rfl, rfl⟩ := ev
      obtain ⟨gn, cn, en, hz1, hz2, hz3, hz4, hz5⟩ := own_cell HK.out.kept.rowK (by omega)
      clear hz1 hz2 hz3 hz4 hz5
      simp only [Value.slice.injEq, true_and] at en
      obtain ⟨rfl, rfl⟩ := en
      have Hr := hid hr
      have Hle := hid hle
      have Hke := hid hke
      clear hr hle hke
      have ew0 : IntKind.i64.wrap ((k : Int) / 4) = (k : Int) / 4 := by rw [IntKind.wrap_i64]; omega
      have ew : IntKind.i64.wrap ((n : Int) + (k : Int) / 4) = (n : Int) + (k : Int) / 4 := by rw [IntKind.wrap_i64]; omega
      have HMk : Hid (∀ w5 : World, Calls Tryd.prog 29 #[.int .i64 ((n : Int) + (k : Int) / 4)] w5 fun e w' => e = .returned (.agg #[.int .i64 (-((n + k / 4 : Nat) : Int)), .int .i64 0, .string mark3, .slice none 0 0, .slice none 0 0]) ∧ Below w5.heap.size w5 w') := by
        intro w5
        have := markV_any (n + k / 4) w5 (by omega)
        have ec : ((n + k / 4 : Nat) : Int) = (n : Int) + (k : Int) / 4 := by omega
        rw [ec] at this ⊢
        exact this
      have HNk : Hid (∀ w5 : World, Calls Tryd.prog 30 #[.int .i64 ((n : Int) + (k : Int) / 4)] w5 fun e w' => e = .returned (.string (nameB (n + k / 4))) ∧ Below w5.heap.size w5 w') := by
        intro w5
        have := markName_any (n + k / 4) w5 (by omega)
        have ec : ((n + k / 4 : Nat) : Int) = (n : Int) + (k : Int) / 4 := by omega
        rw [ec] at this
        exact this
      have HSm : Hid (∀ w5 : World, Calls Tryd.prog 10 #[.agg #[.int .i64 (-((n + k / 4 : Nat) : Int)), .int .i64 0, .string mark3, .slice none 0 0, .slice none 0 0], .agg #[.int .i64 (-((n + k / 4 : Nat) : Int)), .int .i64 0, .string mark3, .slice none 0 0, .slice none 0 0], .int .i64 1] w5 fun e w' => e = .returned (.bool true) ∧ Below w5.heap.size w5 w') := fun w5 => same_any 1 (by omega) 1 1 _ _ (markT (n + k / 4)) w5 (mark_at w5 _ (by omega)) (mark_at w5 _ (by omega))
      go_wp2_with fail
      go_loopg [4] r.n (fun g i wr => ∃ q : Nat, g = r.n - q ∧ q ≤ r.n ∧ i = .int .i64 q ∧ Hid (KI R n (.slice (some ⟨gv, 0, none⟩) R.length B) (.slice (some ⟨gn, 0, none⟩) R.length D) w wr))
      case atStart => exact ⟨0, rfl, Nat.zero_le _, rfl, HK⟩
      case round =>
        clear HK a0
        obtain ⟨q, rfl, hq, rfl, HK⟩ := hrel
        have a0 := HK.out.q0
        have a2 := HK.out.q2
        have a1 : wr.cell? ⟨gv, k, none⟩ = some (.slice La r.n Lc) := by rw [HK.out.kept.rowL.cellAt k (by omega), ← Hle.out]; simp [Hr.out]
        by_cases hqn : q < r.n
        · obtain ⟨g, cap, hgl, hgs, hgc⟩ := (HK.out.kept.recL k r Hr.out).cell hqn
          have hel := Hle.out
          rw [hgl] at hel
          simp only [Value.slice.injEq, true_and] at hel
          obtain ⟨rfl, rfl⟩ := hel
          have y1 : (q : Int) < (r.n : Int) := by omega
          have p0 : wr.cell? ⟨g, q * 5, none⟩ = some (.int .i64 (-((n + k / 4 : Nat) : Int))) := hgc 0 (by omega)
          have p1 : wr.cell? ⟨g, q * 5 + 1, none⟩ = some (.int .i64 0) := hgc 1 (by omega)
          have p2 : wr.cell? ⟨g, q * 5 + 2, none⟩ = some (.string mark3) := hgc 2 (by omega)
          have p3 : wr.cell? ⟨g, q * 5 + 3, none⟩ = some (.slice none 0 0) := hgc 3 (by omega)
          have p4 : wr.cell? ⟨g, q * 5 + 4, none⟩ = some (.slice none 0 0) := hgc 4 (by omega)
          have hlv := (HK.out.kept.rowL.lt gv rfl).2
          have hlb := HK.out.lt
          have HSw : Hid (∀ w0 w5 : World, Below wr.heap.size wr w0 → Below w0.heap.size w0 w5 → (w5.cell? ⟨w.heap.size, 0, none⟩ = some (.slice (some ⟨gv, 0, none⟩) R.length B) ∧ w5.cell? ⟨gv, k, none⟩ = some (.slice (some ⟨g, 0, none⟩) r.n cap) ∧ w5.cell? ⟨w.heap.size, 2, none⟩ = some (.int .i64 n) ∧ w5.cell? ⟨g, q * 5, none⟩ = some (.int .i64 (-((n + k / 4 : Nat) : Int))) ∧ w5.cell? ⟨g, q * 5 + 1, none⟩ = some (.int .i64 0) ∧ w5.cell? ⟨g, q * 5 + 2, none⟩ = some (.string mark3) ∧ w5.cell? ⟨g, q * 5 + 3, none⟩ = some (.slice none 0 0) ∧ w5.cell? ⟨g, q * 5 + 4, none⟩ = some (.slice none 0 0))) := by
            intro w0 w5 hb0 hb5
            have hh := hb0.trans (hb5.mono hb0.size)
            refine ⟨?_, ?_, ?_, ?_, ?_, ?_, ?_, ?_⟩
            · rw [hh.cell (p := ⟨w.heap.size, _, none⟩) hlb]; exact a0
            · rw [hh.cell (p := ⟨_, _, none⟩) hlv]; exact a1
            · rw [hh.cell (p := ⟨w.heap.size, _, none⟩) hlb]; exact a2
            · rw [hh.cell (p := ⟨_, _, none⟩) hgs]; exact p0
            · rw [hh.cell (p := ⟨_, _, none⟩) hgs]; exact p1
            · rw [hh.cell (p := ⟨_, _, none⟩) hgs]; exact p2
            · rw [hh.cell (p := ⟨_, _, none⟩) hgs]; exact p3
            · rw [hh.cell (p := ⟨_, _, none⟩) hgs]; exact p4
          have HSd := hid (HSw.out wr wr.drew (Below.refl _ _) (below_drew wr))
          go_wp2_with fail
          go_region_held3 (fun wx => wx.cell? ⟨w.heap.size, 0, none⟩ = some (.slice (some ⟨gv, 0, none⟩) R.length B) ∧ wx.cell? ⟨gv, k, none⟩ = some (.slice (some ⟨g, 0, none⟩) r.n cap) ∧ wx.cell? ⟨w.heap.size, 2, none⟩ = some (.int .i64 n) ∧ wx.cell? ⟨g, q * 5, none⟩ = some (.int .i64 (-((n + k / 4 : Nat) : Int))) ∧ wx.cell? ⟨g, q * 5 + 1, none⟩ = some (.int .i64 0) ∧ wx.cell? ⟨g, q * 5 + 2, none⟩ = some (.string mark3) ∧ wx.cell? ⟨g, q * 5 + 3, none⟩ = some (.slice none 0 0) ∧ wx.cell? ⟨g, q * 5 + 4, none⟩ = some (.slice none 0 0)) (first | exact hc6 | exact hc5 | exact HSd.out) (first | (go_at_call 29; refine (HMk.out _).mono ?_; rintro e5 w5 ⟨rfl, hb5⟩; have hc5 := HSw.out _ _ (below_drew wr) hb5) | (go_at_call 10; refine (HSm.out _).mono ?_; rintro e6 w6 ⟨rfl, hb6⟩; have hc6 := HSw.out _ _ ((below_drew wr).trans hb5) hb6))
          have HK6 := hid ((HK.out.keep ((below_drew wr).trans hb5)).keep hb6)
          clear hb5 hb6 hc5 hc6 HSw HSd HK a0 a1 a2 p0 p1 p2 p3 p4
          go_wp2_with fail
          go_roundg (r.n - (q + 1))
          case rel => exact ⟨q + 1, rfl, by omega, by go_num, HK6⟩
          case measure => omega
        · have y1 : ¬ ((q : Int) < (r.n : Int)) := by omega
          go_wp2_with fail
          go_loopg [6] r.m (fun g i wr => ∃ q : Nat, g = r.m - q ∧ q ≤ r.m ∧ i = .int .i64 q ∧ Hid (KI R n (.slice (some ⟨gv, 0, none⟩) R.length B) (.slice (some ⟨gn, 0, none⟩) R.length D) w wr))
          case atStart => exact ⟨0, rfl, Nat.zero_le _, rfl, HK⟩
          case round =>
            clear HK a0 a1 a2 y1 hq hqn
            obtain ⟨q, rfl, hq, rfl, HK⟩ := hrel
            have a0 := HK.out.q1
            have a2 := HK.out.q2
            have a1 : wr.cell? ⟨gn, k, none⟩ = some (.slice Ka r.m Kc) := by rw [HK.out.kept.rowK.cellAt k (by omega), ← Hke.out]; simp [Hr.out]
            by_cases hqm : q < r.m
            · obtain ⟨g, cap, hgl, hgs, hgc⟩ := (HK.out.kept.recK k r Hr.out).cell hqm
              have hel := Hke.out
              rw [hgl] at hel
              simp only [Value.slice.injEq, true_and] at hel
              obtain ⟨rfl, rfl⟩ := hel
              have y1 : (q : Int) < (r.m : Int) := by omega
              have p0 : wr.cell? ⟨g, q, none⟩ = some (.string (nameB (n + k / 4))) := by have := hgc 0 (by omega); simpa [nc] using this
              have hlv := (HK.out.kept.rowK.lt gn rfl).2
              have hlb := HK.out.lt
              have HSw : Hid (∀ w5 : World, Below wr.heap.size wr w5 → (w5.cell? ⟨w.heap.size, 1, none⟩ = some (.slice (some ⟨gn, 0, none⟩) R.length D) ∧ w5.cell? ⟨gn, k, none⟩ = some (.slice (some ⟨g, 0, none⟩) r.m cap) ∧ w5.cell? ⟨w.heap.size, 2, none⟩ = some (.int .i64 n) ∧ w5.cell? ⟨g, q, none⟩ = some (.string (nameB (n + k / 4))))) := by
                intro w5 hh
                refine ⟨?_, ?_, ?_, ?_⟩
                · rw [hh.cell (p := ⟨w.heap.size, _, none⟩) hlb]; exact a0
                · rw [hh.cell (p := ⟨_, _, none⟩) hlv]; exact a1
                · rw [hh.cell (p := ⟨w.heap.size, _, none⟩) hlb]; exact a2
                · rw [hh.cell (p := ⟨_, _, none⟩) hgs]; exact p0
              have HSd := hid (HSw.out wr.drew (below_drew wr))
              clear hgc hgl
              go_wp2_with fail
              go_region_held3 (fun wx => wx.cell? ⟨w.heap.size, 1, none⟩ = some (.slice (some ⟨gn, 0, none⟩) R.length D) ∧ wx.cell? ⟨gn, k, none⟩ = some (.slice (some ⟨g, 0, none⟩) r.m cap) ∧ wx.cell? ⟨w.heap.size, 2, none⟩ = some (.int .i64 n) ∧ wx.cell? ⟨g, q, none⟩ = some (.string (nameB (n + k / 4)))) (first | exact hc5 | exact HSd.out) ((go_at_call 30; refine (HNk.out _).mono ?_; rintro e5 w5 ⟨rfl, hb5⟩; have hc5 := HSw.out _ ((below_drew wr).trans hb5)))
              have HK6 := hid (HK.out.keep ((below_drew wr).trans hb5))
              clear hb5 hc5 HSw HSd HK a0 a1 a2 p0
              go_wp2_with fail
              go_roundg (r.m - (q + 1))
              case rel => exact ⟨q + 1, rfl, by omega, by go_num, HK6⟩
              case measure => omega
            · have y1 : ¬ ((q : Int) < (r.m : Int)) := by omega
              go_wp2_with fail
              go_roundg (R.length - (k + 1))
              case rel => exact ⟨k + 1, rfl, by omega, by go_num, HK⟩
              case measure => omega
    · have x1 : ¬ ((k : Int) < (R.length : Int)) := by omega
      have HB := hid HK.out.bel
      go_wp2_with fail
      go_ret
      exact ⟨rfl, HB.out⟩
end Go.Proofs.YtknakfpciccoaaaDoor
/- The walk of Decodes. -/
namespace Go.Proofs.YtknakfpciccoaaaDoor
open Go.RowKit

theorem res7 : resT ⟨#[5, 0, 0, 0, 2, 2, 1]⟩ = some (mkT 5 0 ByteArray.empty [leafT 2 1 ByteArray.empty] []) := by kernel_rfl
/-- What bytes are taken for: a value of zeros, if they are none. -/
def tD (s : ByteArray) : T := (resT s).getD (leafT 0 0 ByteArray.empty)
def eD (s : ByteArray) : Int := if (resT s).isSome then 0 else 6
def DecU (s : ByteArray) (w : World) (e : Ending) (w' : World) : Prop :=
  Below w.heap.size w w' ∧ ∃ es A B C D, e = .returned (.tuple #[.agg #[.int .i64 (kindOf (tD s)), .int .i64 (nOf (tD s)), .string (sOf (tD s)), .slice A (nL (tD s)) B, .slice C (nK (tD s)) D], .int .i64 (eD s)]) ∧
    Flat w' 13 (.agg #[.int .i64 (kindOf (tD s)), .int .i64 (nOf (tD s)), .string (sOf (tD s)), .slice A (nL (tD s)) B, .slice C (nK (tD s)) D]) (tD s) es ∧ Sep w.heap.size w' es ∧ es.length ≤ 1048576 ∧ ∀ x ∈ es, x.n ≤ 1048576 ∧ x.m ≤ 1048576
theorem decode_u {Tb : World → Prop} (hV : ValidSaid Tb) (hL : Lies Tb) (s : ByteArray) (w : World) (hs : s.size ≤ 140737488355328) (hT : Tb w) : Calls Tryd.prog 13 #[.string s] w (DecU s w) := by
  refine (decode_any hV hL s w hs hT).mono ?_
  rintro e w' ⟨hb, ⟨t, es, A, B, C, D, hr, rfl, hF, hS⟩ | ⟨hr, rfl⟩⟩
  · have hg := resT_good hr
    have hc := flat_count hF hg.1
    have e1 : tD s = t := by unfold tD; rw [hr]; rfl
    have e2 : eD s = 0 := by unfold eD; rw [hr]; rfl
    refine ⟨hb, es, A, B, C, D, ?_, ?_, hS, by omega, fun x hx => ?_⟩
    · rw [e1, e2]; rfl
    · rw [e1]; exact hF
    · have := hc.2 x hx; omega
  · have e1 : tD s = leafT 0 0 ByteArray.empty := by unfold tD; rw [hr]; rfl
    have e2 : eD s = 6 := by unfold eD; rw [hr]; rfl
    refine ⟨hb, _, none, 0, none, 0, ?_, ?_, sep_leaf _ _, by simp, fun x hx => ?_⟩
    · rw [e1, e2]; rfl
    · rw [e1]; exact flat_leaf w' 12 0 0 ByteArray.empty (by omega) (by omega) (by omega) (by omega) (by simp)
    · simp only [List.mem_singleton] at hx
      subst hx
      exact ⟨Nat.zero_le _, Nat.zero_le _⟩
def RefU (s : ByteArray) (w : World) (e : Ending) (w' : World) : Prop :=
  Below w.heap.size w w' ∧ ∃ A B C D, e = .returned (.tuple #[.agg #[.int .i64 (kindOf (tD s)), .int .i64 (nOf (tD s)), .string (sOf (tD s)), .slice A (nL (tD s)) B, .slice C (nK (tD s)) D], .int .i64 (eD s)]) ∧
    At w' 14 (.agg #[.int .i64 (kindOf (tD s)), .int .i64 (nOf (tD s)), .string (sOf (tD s)), .slice A (nL (tD s)) B, .slice C (nK (tD s)) D]) (tD s)
theorem ref_u (s : ByteArray) (w : World) (hs : s.size ≤ 140737488355328) : Calls Tryd.prog 14 #[.string s] w (RefU s w) := by
  refine (refDecode_any s w hs).mono ?_
  rintro e w' ⟨hb, ⟨t, A, B, C, D, hr, rfl, hA⟩ | ⟨hr, rfl⟩⟩
  · have e1 : tD s = t := by unfold tD; rw [hr]; rfl
    have e2 : eD s = 0 := by unfold eD; rw [hr]; rfl
    refine ⟨hb, A, B, C, D, ?_, ?_⟩
    · rw [e1, e2]; rfl
    · rw [e1]; exact hA
  · have e1 : tD s = leafT 0 0 ByteArray.empty := by unfold tD; rw [hr]; rfl
    have e2 : eD s = 6 := by unfold eD; rw [hr]; rfl
    refine ⟨hb, none, 0, none, 0, ?_, ?_⟩
    · rw [e1, e2]; rfl
    · rw [e1]; exact (flat_leaf w' 13 0 0 ByteArray.empty (by omega) (by omega) (by omega) (by omega) (by simp)).at
theorem decode7 {Tb : World → Prop} (hV : ValidSaid Tb) (hL : Lies Tb) (w : World) (hT : Tb w) : Calls Tryd.prog 13 #[.string ⟨#[5, 0, 0, 0, 2, 2, 1]⟩] w fun e w' =>
    Below w.heap.size w w' ∧ ∃ b o B C D, e = .returned (.tuple #[.agg #[.int .i64 5, .int .i64 0, .string ⟨#[]⟩, .slice (some ⟨b, o, none⟩) 1 B, .slice C 0 D], .int .i64 0]) ∧ b < w'.heap.size ∧ w'.cell? ⟨b, o + 1, none⟩ = some (.int .i64 1) := by
  refine (decode_any hV hL _ w (by show (7 : Nat) ≤ _; omega) hT).mono ?_
  rintro e w' ⟨hb, ⟨t, es, A, B, C, D, hr, rfl, hF, hS⟩ | ⟨hr, rfl⟩⟩
  · rw [res7] at hr
    cases hr
    obtain ⟨g, La, Ka, Lc, Kc, _, hv, _, hl, _⟩ := hF.at.open
    obtain ⟨b, o, c0, c1, c2, c3, c4, hA, hlt, q0, q1, q2, q3, q4, ha⟩ := hl.out 0 (by show (0 : Nat) < 1; omega)
    obtain ⟨g', La', Ka', Lc', Kc', _, hv', _⟩ := ha.out.open
    have e1 : c1 = .int .i64 1 := by
      simp only [Value.agg.injEq, Array.mk.injEq, List.cons.injEq] at hv'
      exact hv'.2.1
    subst e1
    have eA : A = La := by
      unfold five at hv
      simp only [Value.agg.injEq, Array.mk.injEq, List.cons.injEq, Value.slice.injEq] at hv
      exact hv.2.2.2.1.1
    subst eA
    subst hA
    refine ⟨hb, b, o, B, C, D, rfl, hlt, ?_⟩
    simpa using q1
  · rw [res7] at hr
    cases hr
/-- A box of three cells. -/
structure Box3 (b : Nat) (c0 c1 c2 : Value) (w : World) : Prop where
  q0 : w.cell? ⟨b, 0, none⟩ = some c0
  q1 : w.cell? ⟨b, 1, none⟩ = some c1
  q2 : w.cell? ⟨b, 2, none⟩ = some c2
  lt : b < w.heap.size
theorem Box3.keep {b : Nat} {c0 c1 c2 : Value} {w w' : World} {B : Nat} (h : Box3 b c0 c1 c2 w) (hb : Below B w w') (hB : b < B) : Box3 b c0 c1 c2 w' :=
  ⟨(hb.cell (p := ⟨_, _, none⟩) hB).trans h.q0, (hb.cell (p := ⟨_, _, none⟩) hB).trans h.q1, (hb.cell (p := ⟨_, _, none⟩) hB).trans h.q2, Nat.lt_of_lt_of_le h.lt hb.size⟩
theorem box3_new (w : World) (c0 c1 c2 : Value) : Box3 w.heap.size c0 c1 c2 (w.alloc (.cells #[c0, c1, c2] 34)) := by
  refine ⟨?_, ?_, ?_, ?_⟩ <;> simp [go_sem]
theorem BoxAt.keep {b : Nat} {c0 c1 c2 c3 c4 : Value} {w w' : World} {B : Nat} (h : BoxAt b c0 c1 c2 c3 c4 w) (hb : Below B w w') (hB : b < B) : BoxAt b c0 c1 c2 c3 c4 w' := h.move hb.size (hb.block _ hB)
end Go.Proofs.YtknakfpciccoaaaDoor
/- The walks of parsed and Parses. -/
namespace Go.Proofs.YtknakfpciccoaaaDoor
open Go.RowKit

def PrsU (s : ByteArray) (w : World) (e : Ending) (w' : World) : Prop :=
  Below w.heap.size w w' ∧ ∃ es A B C D, e = .returned (.tuple #[.agg #[.int .i64 (kindOf (tJ s)), .int .i64 (nOf (tJ s)), .string (sOf (tJ s)), .slice A (nL (tJ s)) B, .slice C (nK (tJ s)) D], .int .i64 (eJ s)]) ∧
    Flat w' 13 (.agg #[.int .i64 (kindOf (tJ s)), .int .i64 (nOf (tJ s)), .string (sOf (tJ s)), .slice A (nL (tJ s)) B, .slice C (nK (tJ s)) D]) (tJ s) es ∧ Sep w.heap.size w' es ∧ es.length ≤ 1048576 ∧ ∀ x ∈ es, x.n ≤ 1048576 ∧ x.m ≤ 1048576
theorem prs_u {s : ByteArray} {w : World} {e : Ending} {w' : World} (h : ParsePost s w e w') : PrsU s w e w' := by
  obtain ⟨hb, ⟨t, es, A, B, C, D, ⟨h0, rfl⟩, rfl, hF, hS⟩ | ⟨h0, rfl⟩⟩ := h
  · have hc := tJ_cnt h0 13
    have hf := flat_cnt hF hc.2
    refine ⟨hb, es, A, B, C, D, by rw [h0]; rfl, hF, hS, by omega, fun x hx => ?_⟩
    have := hf.2 x hx
    omega
  · have e1 : tJ s = leafT 0 0 ByteArray.empty := by unfold tJ; rw [if_neg h0]
    refine ⟨hb, _, none, 0, none, 0, ?_, ?_, sep_leaf _ _, by simp, fun x hx => ?_⟩
    · rw [e1]; rfl
    · rw [e1]; exact flat_leaf w' 12 0 0 ByteArray.empty (by omega) (by omega) (by omega) (by omega) (by simp)
    · simp only [List.mem_singleton] at hx
      subst hx
      exact ⟨Nat.zero_le _, Nat.zero_le _⟩
theorem parse_u {Tb : World → Prop} (hD : DecSaid Tb) (hN : IntSaid Tb) (hL : Lies Tb) (s : ByteArray) (w : World) (hs : s.size ≤ 140737488355328) (hT : Tb w) : Calls Tryd.prog 9 #[.string s] w (PrsU s w) :=
  (parse_any hD hN hL s w hs hT).mono fun _ _ h => prs_u h
theorem refp_u (s : ByteArray) (w : World) : Calls Tryd.prog 8 #[.string s] w (PrsU s w) := (refParse_any s w).mono fun _ _ h => prs_u h
/-- The text that is tried first. -/
def sLive : ByteArray := ⟨#[32, 91, 32, 116, 114, 117, 101, 32, 93, 32]⟩
theorem live_t : tJ sLive = mkT 5 0 ByteArray.empty [leafT 2 1 ByteArray.empty] [] := by kernel_rfl
theorem live_e : eJ sLive = 0 := by kernel_rfl
theorem parse_live {Tb : World → Prop} (hD : DecSaid Tb) (hN : IntSaid Tb) (hL : Lies Tb) (w : World) (hT : Tb w) : Calls Tryd.prog 9 #[.string sLive] w fun e w' =>
    Below w.heap.size w w' ∧ ∃ b o B C D, e = .returned (.tuple #[.agg #[.int .i64 5, .int .i64 0, .string ⟨#[]⟩, .slice (some ⟨b, o, none⟩) 1 B, .slice C 0 D], .int .i64 0]) ∧ b < w'.heap.size ∧ w'.cell? ⟨b, o, none⟩ = some (.int .i64 2) ∧ w'.cell? ⟨b, o + 1, none⟩ = some (.int .i64 1) := by
  refine (parse_u hD hN hL _ w (by show (10 : Nat) ≤ _; omega) hT).mono ?_
  rintro e w' ⟨hb, es, A, B, C, D, rfl, hF, _⟩
  rw [live_t] at hF
  obtain ⟨g, La, Ka, Lc, Kc, _, hv, _, hl, _⟩ := hF.at.open
  obtain ⟨b, o, c0, c1, c2, c3, c4, hA, hlt, q0, q1, q2, q3, q4, ha⟩ := hl.out 0 (by show (0 : Nat) < 1; omega)
  obtain ⟨g', La', Ka', Lc', Kc', _, hv', _⟩ := ha.out.open
  simp only [Value.agg.injEq, Array.mk.injEq, List.cons.injEq] at hv'
  have e0 : c0 = .int .i64 2 := hv'.1
  have e1 : c1 = .int .i64 1 := hv'.2.1
  subst e0
  subst e1
  have eA : A = La := by
    simp only [Value.agg.injEq, Array.mk.injEq, List.cons.injEq, Value.slice.injEq] at hv
    exact hv.2.2.2.1.1
  subst eA
  subst hA
  refine ⟨hb, b, o, B, C, D, ?_, hlt, by simpa using q0, by simpa using q1⟩
  rw [live_t, live_e]
  rfl
set_option maxHeartbeats 4000000 in
set_option maxRecDepth 100000 in
theorem parsed_any {Tb : World → Prop} (hD : DecSaid Tb) (hN : IntSaid Tb) (hL : Lies Tb) (w : World) (hT : Tb w) :
    Calls Tryd.prog 7 #[] w fun e w' => e = .returned (.bool true) ∧ Below w.heap.size w w' := by
  have HP := hid (parse_live hD hN hL w hT)
  clear hT
  go_enter Tryd.func7, Tryd.ntmps7
  go_wp2_with fail
  refine HP.out.mono ?_
  rintro e w1 ⟨hb1, b, o, B, C, D, rfl, hlt, q0, q1⟩
  have hba : Below w1.heap.size w1 (w1.alloc (.cells #[.int .i64 5, .int .i64 0, .string ⟨#[]⟩, .slice (some ⟨b, o, none⟩) 1 B, .slice C 0 D] 26)) := (Below.refl _ _).alloc (Nat.le_refl _) _
  have q0a : (w1.alloc (.cells #[.int .i64 5, .int .i64 0, .string ⟨#[]⟩, .slice (some ⟨b, o, none⟩) 1 B, .slice C 0 D] 26)).cell? ⟨b, o, none⟩ = some (.int .i64 2) := (hba.cell (p := ⟨b, o, none⟩) hlt).trans q0
  have q1a : (w1.alloc (.cells #[.int .i64 5, .int .i64 0, .string ⟨#[]⟩, .slice (some ⟨b, o, none⟩) 1 B, .slice C 0 D] 26)).cell? ⟨b, o + 1, none⟩ = some (.int .i64 1) := (hba.cell (p := ⟨b, o + 1, none⟩) hlt).trans q1
  have HB := hid (hb1.trans (hba.mono hb1.size))
  clear hb1 hba q0 q1 HP
  go_wp2_with fail
  go_ret
  exact ⟨rfl, HB.out⟩
end Go.Proofs.YtknakfpciccoaaaDoor
/- The walk of Order. -/
namespace Go.Proofs.YtknakfpciccoaaaDoor
open Go.RowKit

theorem sEq (a b : ByteArray) : (a.toList == b.toList) = true ↔ a = b := by rw [beq_iff_eq]; exact toList_eq_iff a b
set_option maxHeartbeats 1000000 in
set_option maxRecDepth 100000 in
theorem Order_any (f : Nat) : ∀ (g : Nat) (va vb : Value) (a b : T) (w : World), At w f va a → At w g vb b → okK f a → okK f b →
    Calls Tryd.prog 38 #[va, vb] w fun e w' => e = .returned (.int .i64 (ordT f a b)) ∧ Below w.heap.size w w' := by
  induction f with
  | zero => intro g va vb a b w h; exact h.elim
  | succ f ih =>
    intro g va vb a b w h h' ka kb
    obtain ⟨f1, La, Ka, Lc, Kc, hf1, rfl, hf, hl, hk⟩ := h.open
    obtain rfl : f = f1 := by omega
    obtain ⟨g1, Ma, Na, Mc, Nc, hg1, rfl, hf', hl', hk'⟩ := h'.open
    have hlen := hf.l1
    have hlen' := hf'.l1
    have HKa := hid ka
    have HKb := hid kb
    clear h h' hf hf' hf1 hg1 ka kb
    have Hih := hid ih
    clear ih
    by_cases k1 : kindOf a = kindOf b
    · have e1 : (kindOf a != kindOf b) = false := by simp [k1]
      by_cases k2 : nOf a = nOf b ∧ sOf a = sOf b
      · have e2 : (nOf a != nOf b) = false := by simp [k2.1]
        have e3 : ((sOf a).toList == (sOf b).toList) = true := by rw [k2.2]; simp
        have HR : Hid (ordT (f + 1) a b = ordE (ordT f) a b) := by show ordT (f + 1) a b = _; simp only [ordT]; rw [if_neg (by simp [k1]), if_neg (by simp [k2.1, k2.2])]
        have K1 := hid k1
        clear k1 k2
        go_enter Tryd.func38, Tryd.ntmps38
        go_wp2_with fail
        go_loopg [5] (nL a) (fun g i wr => ∃ k : Nat, g = nL a - k ∧ k ≤ nL a ∧ k ≤ nL b ∧ i = .int .i64 k ∧ Hid (ordL (ordT f) a b k = 0) ∧ Below (w.heap.size + 2) ((w.alloc (.cells #[.int .i64 (kindOf a), .int .i64 (nOf a), .string (sOf a), .slice La (nL a) Lc, .slice Ka (nK a) Kc] 26)).alloc (.cells #[.int .i64 (kindOf b), .int .i64 (nOf b), .string (sOf b), .slice Ma (nL b) Mc, .slice Na (nK b) Nc] 26)) wr)
        case atStart => exact ⟨0, rfl, Nat.zero_le _, Nat.zero_le _, rfl, rfl, Below.refl _ _⟩
        case round =>
          obtain ⟨k, rfl, hka, hkb, rfl, HO, hb⟩ := hrel
          obtain ⟨⟨q0, q1, q2, q3, q4⟩, ⟨r0, r1, r2, r3, r4⟩, hz, hbw⟩ := box2_facts hb
          have Hb := hid hb
          clear hb
          have hz0 : w.heap.size < wr.heap.size := by omega
          by_cases hlt : k < nL a
          · by_cases hlt' : k < nL b
            · obtain ⟨ba, oa, c0, c1, c2, c3, c4, rfl, hba, p0, p1, p2, p3, p4, Ha⟩ := hl.out.keep hbw k hlt
              obtain ⟨bb, ob, d0, d1, d2, d3, d4, rfl, hbb, t0, t1, t2, t3, t4, Hc⟩ := hl'.out.keep hbw k hlt'
              have x1 : (k : Int) < (nL a : Int) := by omega
              have x2 : (k : Int) < (nL b : Int) := by omega
              by_cases k6 : kindOf a = 6
              · have e6 : (kindOf a == 6) = true := by simpa using k6
                have HS := hid (ordL_step (g := ordT f) (b := b) HO.out)
                have na : k < nK a := by rw [HKa.out.1 k6]; exact hlt
                have nb : k < nK b := by rw [HKb.out.1 (K1.out ▸ k6)]; exact hlt'
                obtain ⟨ea, fa, rfl, hea, hsa, n0⟩ := hk.out.keep hbw k na
                obtain ⟨eb, fb, rfl, heb, hsb, m0⟩ := hk'.out.keep hbw k nb
                have x3 : (k : Int) < (nK a : Int) := by omega
                have x4 : (k : Int) < (nK b : Int) := by omega
                have K6 := hid k6
                have bc := cmpS_bd (nam a k) (nam b k)
                clear k6
                go_wp2_with fail
                go_quiet ((go_at_call 69; exact Calls.quiet_of_same (texts_any _ _ _)))
                generalize hcc : cmpS (nam a k) (nam b k) = c at bc ⊢
                have HCC := hid hcc
                clear hcc
                have Hbq : Hid (Below wr.heap.size wr (wr.drewN nq)) := below_drewN (Below.refl _ _) nq
                generalize wr.drewN nq = wq at Hbq ⊢
                have hzq := Hbq.out.size
                have y0 := (Hbq.out.cell (p := ⟨w.heap.size, 3, none⟩) hz0).trans q3
                have y1 := (Hbq.out.cell (p := ⟨w.heap.size + 1, 3, none⟩) hz).trans r3
                have u0 := (Hbq.out.cell (p := ⟨ba, oa + k * 5, none⟩) hba).trans p0
                have u1 := (Hbq.out.cell (p := ⟨ba, oa + k * 5 + 1, none⟩) hba).trans p1
                have u2 := (Hbq.out.cell (p := ⟨ba, oa + k * 5 + 2, none⟩) hba).trans p2
                have u3 := (Hbq.out.cell (p := ⟨ba, oa + k * 5 + 3, none⟩) hba).trans p3
                have u4 := (Hbq.out.cell (p := ⟨ba, oa + k * 5 + 4, none⟩) hba).trans p4
                have v0 := (Hbq.out.cell (p := ⟨bb, ob + k * 5, none⟩) hbb).trans t0
                have v1 := (Hbq.out.cell (p := ⟨bb, ob + k * 5 + 1, none⟩) hbb).trans t1
                have v2 := (Hbq.out.cell (p := ⟨bb, ob + k * 5 + 2, none⟩) hbb).trans t2
                have v3 := (Hbq.out.cell (p := ⟨bb, ob + k * 5 + 3, none⟩) hbb).trans t3
                have v4 := (Hbq.out.cell (p := ⟨bb, ob + k * 5 + 4, none⟩) hbb).trans t4
                have Hbq2 := hid (Hb.out.trans (Hbq.out.mono (by omega)))
                have hz0' : w.heap.size < wq.heap.size := Nat.lt_of_lt_of_le hz0 hzq
                have hz1' : w.heap.size + 1 < wq.heap.size := Nat.lt_of_lt_of_le hz hzq
                have hba' : ba < wq.heap.size := Nat.lt_of_lt_of_le hba hzq
                have hbb' : bb < wq.heap.size := Nat.lt_of_lt_of_le hbb hzq
                clear q0 q1 q2 q3 q4 r0 r1 r2 r3 r4 p0 p1 p2 p3 p4 t0 t1 t2 t3 t4 n0 m0
                by_cases hc0 : c = 0
                · subst hc0
                  have HC0 := HCC
                  go_wp2_with fail
                  have HA1 := hid (Ha.out.keep ((Hbq.out).trans ((below_drew wq).mono Hbq.out.size)))
                  have HC1 := hid (Hc.out.keep ((Hbq.out).trans ((below_drew wq).mono Hbq.out.size)))
                  have HOa := hid (HKa.out.2 k hlt)
                  have HOb := hid (HKb.out.2 k hlt')
                  have bd := ordT_bd f (elt a k) (elt b k)
                  have HSS : Hid (∀ wx : World, Below wq.drew.heap.size wq.drew wx → wx.cell? ⟨w.heap.size, 3, none⟩ = some (.slice (some ⟨ba, oa, none⟩) (nL a) Lc) ∧ wx.cell? ⟨w.heap.size + 1, 3, none⟩ = some (.slice (some ⟨bb, ob, none⟩) (nL b) Mc) ∧ wx.cell? ⟨ba, oa + k * 5, none⟩ = some c0 ∧ wx.cell? ⟨ba, oa + k * 5 + 1, none⟩ = some c1 ∧ wx.cell? ⟨ba, oa + k * 5 + 2, none⟩ = some c2 ∧ wx.cell? ⟨ba, oa + k * 5 + 3, none⟩ = some c3 ∧ wx.cell? ⟨ba, oa + k * 5 + 4, none⟩ = some c4 ∧ wx.cell? ⟨bb, ob + k * 5, none⟩ = some d0 ∧ wx.cell? ⟨bb, ob + k * 5 + 1, none⟩ = some d1 ∧ wx.cell? ⟨bb, ob + k * 5 + 2, none⟩ = some d2 ∧ wx.cell? ⟨bb, ob + k * 5 + 3, none⟩ = some d3 ∧ wx.cell? ⟨bb, ob + k * 5 + 4, none⟩ = some d4) := by
                    intro wx hx
                    have hh := (below_drew wq).trans hx
                    refine ⟨?_, ?_, ?_, ?_, ?_, ?_, ?_, ?_, ?_, ?_, ?_, ?_⟩
                    all_goals (rw [hh.cell (p := ⟨_, _, none⟩) (by first | assumption | omega)]; assumption)
                  go_region_held (fun wx => wx.cell? ⟨w.heap.size, 3, none⟩ = some (.slice (some ⟨ba, oa, none⟩) (nL a) Lc) ∧ wx.cell? ⟨w.heap.size + 1, 3, none⟩ = some (.slice (some ⟨bb, ob, none⟩) (nL b) Mc) ∧ wx.cell? ⟨ba, oa + k * 5, none⟩ = some c0 ∧ wx.cell? ⟨ba, oa + k * 5 + 1, none⟩ = some c1 ∧ wx.cell? ⟨ba, oa + k * 5 + 2, none⟩ = some c2 ∧ wx.cell? ⟨ba, oa + k * 5 + 3, none⟩ = some c3 ∧ wx.cell? ⟨ba, oa + k * 5 + 4, none⟩ = some c4 ∧ wx.cell? ⟨bb, ob + k * 5, none⟩ = some d0 ∧ wx.cell? ⟨bb, ob + k * 5 + 1, none⟩ = some d1 ∧ wx.cell? ⟨bb, ob + k * 5 + 2, none⟩ = some d2 ∧ wx.cell? ⟨bb, ob + k * 5 + 3, none⟩ = some d3 ∧ wx.cell? ⟨bb, ob + k * 5 + 4, none⟩ = some d4) (go_keep) ((go_at_call 38; refine (Hih.out _ _ _ _ _ _ HA1.out HC1.out HOa.out HOb.out).mono ?_; rintro e w2 ⟨rfl, hb2⟩; have hc2 := HSS.out _ hb2))
                  have HB2 := hid (Hbq2.out.trans (((below_drew wq).trans hb2).mono (by omega)))
                  clear hb2 hc2 HA1 HC1
                  generalize hx : ordT f (elt a k) (elt b k) = x at bd ⊢
                  have HS2 : Hid (ordL (ordT f) a b (k + 1) = x) := by show _ = _; rw [HS.out, if_neg (fun h => h.2 HC0.out), hx]
                  clear hx
                  by_cases hx0 : x = 0
                  · subst hx0
                    go_wp2_with fail
                    go_roundg (nL a - (k + 1))
                    case rel => exact ⟨k + 1, rfl, by omega, by omega, by go_num, HS2, HB2.out⟩
                    case measure => omega
                  · have ex : (x != 0) = true := by simpa using hx0
                    have HX := hid hx0
                    clear hx0
                    go_wp2_with fail
                    go_ret
                    refine ⟨ret_int ?_, (((Below.refl _ _).alloc (Nat.le_refl _) _).alloc (by simp) _).trans (HB2.out.mono (by omega))⟩
                    rw [HR.out, ordE, ordL_stop (j := k + 1) (by omega) (by rw [HS2.out]; exact HX.out), HS2.out, if_pos HX.out]
                · have ex : (c != 0) = true := by simpa using hc0
                  have HX := hid hc0
                  clear hc0
                  have HS2 : Hid (ordL (ordT f) a b (k + 1) = c) := by show _ = _; rw [HS.out, HCC.out, if_pos ⟨K6.out, HX.out⟩]
                  go_wp2_with fail
                  go_ret
                  refine ⟨ret_int ?_, (((Below.refl _ _).alloc (Nat.le_refl _) _).alloc (by simp) _).trans (Hbq2.out.mono (by omega))⟩
                  rw [HR.out, ordE, ordL_stop (j := k + 1) (by omega) (by rw [HS2.out]; exact HX.out), HS2.out, if_pos HX.out]
              · have e6 : (kindOf a == 6) = false := by simpa using k6
                have HS := hid (ordL_step HO.out)
                have K6 := hid k6
                clear k6
                go_wp2_with fail
                have HA1 := hid (Ha.out.keep (below_drew wr))
                have HC1 := hid (Hc.out.keep (below_drew wr))
                have HOa := hid (HKa.out.2 k hlt)
                have HOb := hid (HKb.out.2 k hlt')
                have bd := ordT_bd f (elt a k) (elt b k)
                have HSS : Hid (∀ wx : World, Below wr.drew.heap.size wr.drew wx → wx.cell? ⟨w.heap.size, 3, none⟩ = some (.slice (some ⟨ba, oa, none⟩) (nL a) Lc) ∧ wx.cell? ⟨w.heap.size + 1, 3, none⟩ = some (.slice (some ⟨bb, ob, none⟩) (nL b) Mc) ∧ wx.cell? ⟨ba, oa + k * 5, none⟩ = some c0 ∧ wx.cell? ⟨ba, oa + k * 5 + 1, none⟩ = some c1 ∧ wx.cell? ⟨ba, oa + k * 5 + 2, none⟩ = some c2 ∧ wx.cell? ⟨ba, oa + k * 5 + 3, none⟩ = some c3 ∧ wx.cell? ⟨ba, oa + k * 5 + 4, none⟩ = some c4 ∧ wx.cell? ⟨bb, ob + k * 5, none⟩ = some d0 ∧ wx.cell? ⟨bb, ob + k * 5 + 1, none⟩ = some d1 ∧ wx.cell? ⟨bb, ob + k * 5 + 2, none⟩ = some d2 ∧ wx.cell? ⟨bb, ob + k * 5 + 3, none⟩ = some d3 ∧ wx.cell? ⟨bb, ob + k * 5 + 4, none⟩ = some d4) := by
                  intro wx hx
                  have hh := (below_drew wr).trans hx
                  refine ⟨?_, ?_, ?_, ?_, ?_, ?_, ?_, ?_, ?_, ?_, ?_, ?_⟩
                  all_goals (rw [hh.cell (p := ⟨_, _, none⟩) (by first | assumption | omega)]; assumption)
                go_region_held (fun wx => wx.cell? ⟨w.heap.size, 3, none⟩ = some (.slice (some ⟨ba, oa, none⟩) (nL a) Lc) ∧ wx.cell? ⟨w.heap.size + 1, 3, none⟩ = some (.slice (some ⟨bb, ob, none⟩) (nL b) Mc) ∧ wx.cell? ⟨ba, oa + k * 5, none⟩ = some c0 ∧ wx.cell? ⟨ba, oa + k * 5 + 1, none⟩ = some c1 ∧ wx.cell? ⟨ba, oa + k * 5 + 2, none⟩ = some c2 ∧ wx.cell? ⟨ba, oa + k * 5 + 3, none⟩ = some c3 ∧ wx.cell? ⟨ba, oa + k * 5 + 4, none⟩ = some c4 ∧ wx.cell? ⟨bb, ob + k * 5, none⟩ = some d0 ∧ wx.cell? ⟨bb, ob + k * 5 + 1, none⟩ = some d1 ∧ wx.cell? ⟨bb, ob + k * 5 + 2, none⟩ = some d2 ∧ wx.cell? ⟨bb, ob + k * 5 + 3, none⟩ = some d3 ∧ wx.cell? ⟨bb, ob + k * 5 + 4, none⟩ = some d4) (go_keep) ((go_at_call 38; refine (Hih.out _ _ _ _ _ _ HA1.out HC1.out HOa.out HOb.out).mono ?_; rintro e w2 ⟨rfl, hb2⟩; have hc2 := HSS.out _ hb2))
                have HB2 := hid (Hb.out.trans (((below_drew wr).trans hb2).mono (by omega)))
                clear hb2 hc2 HA1 HC1
                generalize hx : ordT f (elt a k) (elt b k) = x at bd ⊢
                have HS2 : Hid (ordL (ordT f) a b (k + 1) = x) := by show _ = _; rw [HS.out, if_neg (fun h => K6.out h.1), hx]
                clear hx
                by_cases hx0 : x = 0
                · subst hx0
                  go_wp2_with fail
                  go_roundg (nL a - (k + 1))
                  case rel => exact ⟨k + 1, rfl, by omega, by omega, by go_num, HS2, HB2.out⟩
                  case measure => omega
                · have ex : (x != 0) = true := by simpa using hx0
                  have HX := hid hx0
                  clear hx0
                  go_wp2_with fail
                  go_ret
                  refine ⟨ret_int ?_, (((Below.refl _ _).alloc (Nat.le_refl _) _).alloc (by simp) _).trans (HB2.out.mono (by omega))⟩
                  rw [HR.out, ordE, ordL_stop (j := k + 1) (by omega) (by rw [HS2.out]; exact HX.out), HS2.out, if_pos HX.out]
            · have e6 : (nL b : Int) ≤ (k : Int) := by omega
              have HE : Hid (ordT (f + 1) a b = cmpI (nL a) (nL b)) := by
                show ordT (f + 1) a b = _
                rw [HR.out, ordE, show min (nL a) (nL b) = k from by omega, HO.out]
                rfl
              go_wp2_with fail
              refine (numbers_any _ _ _).mono ?_
              rintro e w2 ⟨rfl, rfl⟩
              go_wp2_with fail
              go_ret
              exact ⟨ret_int (by rw [HE.out]), hbw⟩
          · have e6 : (nL a : Int) ≤ (k : Int) := by omega
            have HE : Hid (ordT (f + 1) a b = cmpI (nL a) (nL b)) := by
              show ordT (f + 1) a b = _
              rw [HR.out, ordE, show min (nL a) (nL b) = k from by omega, HO.out]
              rfl
            go_wp2_with fail
            refine (numbers_any _ _ _).mono ?_
            rintro e w2 ⟨rfl, rfl⟩
            go_wp2_with fail
            go_ret
            exact ⟨ret_int (by rw [HE.out]), hbw⟩
      · have HR : Hid (ordT (f + 1) a b = cmpI (nOf a) (nOf b) + cmpS (sOf a) (sOf b)) := by
          show ordT (f + 1) a b = _
          simp only [ordT]
          rw [if_neg (by simp [k1]), if_pos (by by_cases h : nOf a = nOf b; exact Or.inr (fun h2 => k2 ⟨h, h2⟩); exact Or.inl h)]
        have b1 := cmpI_bd (nOf a) (nOf b)
        have b2 := cmpS_bd (sOf a) (sOf b)
        have cs : (nOf a != nOf b) = true ∨ (nOf a != nOf b) = false ∧ ((sOf a).toList == (sOf b).toList) = false := by
          by_cases h : nOf a = nOf b
          · right
            refine ⟨by simp [h], ?_⟩
            cases hc : ((sOf a).toList == (sOf b).toList) with
            | false => rfl
            | true => exact absurd ⟨h, (sEq _ _).1 hc⟩ k2
          · left; simpa using h
        clear k1 k2
        rcases cs with cs | ⟨cs, cs2⟩
        all_goals
          go_enter Tryd.func38, Tryd.ntmps38
          go_wp2_with fail
          go_quiet (first | (go_at_call 68; exact Calls.quiet_of_same (numbers_any _ _ _)) | (go_at_call 69; exact Calls.quiet_of_same (texts_any _ _ _)))
          go_wp2_with fail
          go_ret
          exact ⟨ret_int (by rw [HR.out]), below_drewN (((Below.refl _ _).alloc (Nat.le_refl _) _).alloc (by simp) _) _⟩
    · have e1 : (kindOf a != kindOf b) = true := by simpa using k1
      have HR : Hid (ordT (f + 1) a b = cmpI (kindOf a) (kindOf b)) := by show ordT (f + 1) a b = _; simp only [ordT]; rw [if_pos k1]
      clear k1
      go_enter Tryd.func38, Tryd.ntmps38
      go_wp2_with fail
      refine (numbers_any _ _ _).mono ?_
      rintro e w2 ⟨rfl, rfl⟩
      go_wp2_with fail
      go_ret
      exact ⟨ret_int (by rw [HR.out]), ((Below.refl _ _).alloc (Nat.le_refl _) _).alloc (by simp) _⟩
end Go.Proofs.YtknakfpciccoaaaDoor
