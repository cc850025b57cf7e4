import Derived.Test.YtknakfpciccoaaaDoorZP30
import Derived.KernelRfl
import Derived.Test.YtknakfpciccoaaaDoorZP27
/- The walk of kept: the lists read as their owner left them. -/
namespace Go.Proofs.YtknakfpciccoaaaDoor
open Go.RowKit

theorem KeptR.keep {R : List Ent} {n : Nat} {vs ns : Value} {w w' : World} (h : KeptR R n vs ns w) (hb : Below w.heap.size w w') : KeptR R n vs ns w' :=
  ⟨own_move h.rowL fun g e => hb.block g (h.rowL.lt g e).2, own_move h.rowK fun g e => hb.block g (h.rowK.lt g e).2,
   fun q r hr => (h.recL q r hr).move fun _ _ _ hc => hb.block _ (Array.getElem?_eq_some_iff.1 hc).1, fun q r hr => (h.recK q r hr).move fun _ _ _ hc => hb.block _ (Array.getElem?_eq_some_iff.1 hc).1⟩
def markT (m : Nat) : T := mkT (-(m : Int)) 0 mark3 [] []
theorem mark_at (w : World) (m : Nat) (hm : m ≤ 1000000000) : At w 1 (.agg #[.int .i64 (-(m : Int)), .int .i64 0, .string mark3, .slice none 0 0, .slice none 0 0]) (markT m) := by
  unfold markT
  refine ⟨none, none, 0, 0, ?_, ⟨?_, ?_, ?_, ?_, ?_, ?_, ?_⟩, fun i hi => ?_, fun i hi => ?_⟩
  · rw [kindOf_mk, nOf_mk, sOf_mk, nL_mk, nK_mk]; rfl
  · rw [kindOf_mk]; omega
  · rw [kindOf_mk]; omega
  · rw [nOf_mk]; omega
  · rw [nOf_mk]; omega
  · rw [sOf_mk]; show (3 : Nat) ≤ _; omega
  · rw [nL_mk]; simp
  · rw [nK_mk]; simp
  · rw [nL_mk] at hi; simp at hi
  · rw [nK_mk] at hi; simp at hi
/-- What the loops read. -/
structure KI (R : List Ent) (n : Nat) (vs ns : Value) (w wr : World) : Prop where
  kept : KeptR R n vs ns wr
  q0 : wr.cell? ⟨w.heap.size, 0, none⟩ = some vs
  q1 : wr.cell? ⟨w.heap.size, 1, none⟩ = some ns
  q2 : wr.cell? ⟨w.heap.size, 2, none⟩ = some (.int .i64 n)
  lt : w.heap.size < wr.heap.size
  bel : Below w.heap.size w wr
theorem KI.keep {R : List Ent} {n : Nat} {vs ns : Value} {w wr w1 : World} (h : KI R n vs ns w wr) (hb : Below wr.heap.size wr w1) : KI R n vs ns w w1 :=
  ⟨h.kept.keep hb, (hb.cell (p := ⟨_, _, none⟩) h.lt).trans h.q0, (hb.cell (p := ⟨_, _, none⟩) h.lt).trans h.q1, (hb.cell (p := ⟨_, _, none⟩) h.lt).trans h.q2, Nat.lt_of_lt_of_le h.lt hb.size, h.bel.trans (hb.mono (Nat.le_of_lt h.lt))⟩
set_option maxHeartbeats 4000000 in
set_option maxRecDepth 100000 in
theorem kept_any (R : List Ent) (n : Nat) (A C : Option Addr) (B D : Nat) (w : World) (h : KeptR R n (.slice A R.length B) (.slice C R.length D) w) (hn : n ≤ 2000000) (hR : R.length ≤ 4194304) :
    Calls Tryd.prog 12 #[.agg #[.slice A R.length B, .slice C R.length D, .int .i64 n]] w fun e w' => e = .returned (.bool true) ∧ Below w.heap.size w w' := by
  have HK0 : Hid (KI R n (.slice A R.length B) (.slice C R.length D) w (w.alloc (.cells #[.slice A R.length B, .slice C R.length D, .int .i64 n] 34))) := by
    refine ⟨h.keep ((Below.refl _ _).alloc (Nat.le_refl _) _), ?_, ?_, ?_, ?_, (Below.refl _ _).alloc (Nat.le_refl _) _⟩ <;> simp [go_sem]
  clear h
  go_enter Tryd.func12, Tryd.ntmps12
  go_wp2_with fail
  go_loopg [3] R.length (fun g i wr => ∃ k : Nat, g = R.length - k ∧ k ≤ R.length ∧ i = .int .i64 k ∧ Hid (KI R n (.slice A R.length B) (.slice C R.length D) w wr))
  case atStart => exact ⟨0, rfl, Nat.zero_le _, rfl, HK0⟩
  case round =>
    clear HK0
    obtain ⟨k, rfl, hk, rfl, HK⟩ := hrel
    have a0 := HK.out.q0
    by_cases hlt : k < R.length
    · have x1 : (k : Int) < (R.length : Int) := by omega
      obtain ⟨r, hr⟩ : ∃ r, R[k]? = some r := ⟨R[k], List.getElem?_eq_getElem hlt⟩
      obtain ⟨La, Lc, hle, hmL⟩ := (HK.out.kept.recL k r hr).1
      obtain ⟨Ka, Kc, hke, hmK⟩ := (HK.out.kept.recK k r hr).1
      simp only [maxLen] at hmL hmK
      obtain ⟨gv, cv, ev, hz1, hz2, hz3, hz4, hz5⟩ := own_cell HK.out.kept.rowL (by omega)
      clear hz1 hz2 hz3 hz4 hz5
      simp only [Value.slice.injEq, true_and] at ev
      obtain ⟨rfl, rfl⟩ := ev
      obtain ⟨gn, cn, en, hz1, hz2, hz3, hz4, hz5⟩ := own_cell HK.out.kept.rowK (by omega)
      clear hz1 hz2 hz3 hz4 hz5
      simp only [Value.slice.injEq, true_and] at en
      obtain ⟨rfl, rfl⟩ := en
      have Hr := hid hr
      have Hle := hid hle
      have Hke := hid hke
      clear hr hle hke
      have ew0 : IntKind.i64.wrap ((k : Int) / 4) = (k : Int) / 4 := by rw [IntKind.wrap_i64]; omega
      have ew : IntKind.i64.wrap ((n : Int) + (k : Int) / 4) = (n : Int) + (k : Int) / 4 := by rw [IntKind.wrap_i64]; omega
      have HMk : Hid (∀ w5 : World, Calls Tryd.prog 29 #[.int .i64 ((n : Int) + (k : Int) / 4)] w5 fun e w' => e = .returned (.agg #[.int .i64 (-((n + k / 4 : Nat) : Int)), .int .i64 0, .string mark3, .slice none 0 0, .slice none 0 0]) ∧ Below w5.heap.size w5 w') := by
        intro w5
        have := markV_any (n + k / 4) w5 (by omega)
        have ec : ((n + k / 4 : Nat) : Int) = (n : Int) + (k : Int) / 4 := by omega
        rw [ec] at this ⊢
        exact this
      have HNk : Hid (∀ w5 : World, Calls Tryd.prog 30 #[.int .i64 ((n : Int) + (k : Int) / 4)] w5 fun e w' => e = .returned (.string (nameB (n + k / 4))) ∧ Below w5.heap.size w5 w') := by
        intro w5
        have := markName_any (n + k / 4) w5 (by omega)
        have ec : ((n + k / 4 : Nat) : Int) = (n : Int) + (k : Int) / 4 := by omega
        rw [ec] at this
        exact this
      have HSm : Hid (∀ w5 : World, Calls Tryd.prog 10 #[.agg #[.int .i64 (-((n + k / 4 : Nat) : Int)), .int .i64 0, .string mark3, .slice none 0 0, .slice none 0 0], .agg #[.int .i64 (-((n + k / 4 : Nat) : Int)), .int .i64 0, .string mark3, .slice none 0 0, .slice none 0 0], .int .i64 1] w5 fun e w' => e = .returned (.bool true) ∧ Below w5.heap.size w5 w') := fun w5 => same_any 1 (by omega) 1 1 _ _ (markT (n + k / 4)) w5 (mark_at w5 _ (by omega)) (mark_at w5 _ (by omega))
      go_wp2_with fail
      go_loopg [4] r.n (fun g i wr => ∃ q : Nat, g = r.n - q ∧ q ≤ r.n ∧ i = .int .i64 q ∧ Hid (KI R n (.slice (some ⟨gv, 0, none⟩) R.length B) (.slice (some ⟨gn, 0, none⟩) R.length D) w wr))
      case atStart => exact ⟨0, rfl, Nat.zero_le _, rfl, HK⟩
      case round =>
        clear HK a0
        obtain ⟨q, rfl, hq, rfl, HK⟩ := hrel
        have a0 := HK.out.q0
        have a2 := HK.out.q2
        have a1 : wr.cell? ⟨gv, k, none⟩ = some (.slice La r.n Lc) := by rw [HK.out.kept.rowL.cellAt k (by omega), ← Hle.out]; simp [Hr.out]
        by_cases hqn : q < r.n
        · obtain ⟨g, cap, hgl, hgs, hgc⟩ := (HK.out.kept.recL k r Hr.out).cell hqn
          have hel := Hle.out
          rw [hgl] at hel
          simp only [Value.slice.injEq, true_and] at hel
          obtain ⟨rfl, rfl⟩ := hel
          have y1 : (q : Int) < (r.n : Int) := by omega
          have p0 : wr.cell? ⟨g, q * 5, none⟩ = some (.int .i64 (-((n + k / 4 : Nat) : Int))) := hgc 0 (by omega)
          have p1 : wr.cell? ⟨g, q * 5 + 1, none⟩ = some (.int .i64 0) := hgc 1 (by omega)
          have p2 : wr.cell? ⟨g, q * 5 + 2, none⟩ = some (.string mark3) := hgc 2 (by omega)
          have p3 : wr.cell? ⟨g, q * 5 + 3, none⟩ = some (.slice none 0 0) := hgc 3 (by omega)
          have p4 : wr.cell? ⟨g, q * 5 + 4, none⟩ = some (.slice none 0 0) := hgc 4 (by omega)
          have hlv := (HK.out.kept.rowL.lt gv rfl).2
          have hlb := HK.out.lt
          have HSw : Hid (∀ w0 w5 : World, Below wr.heap.size wr w0 → Below w0.heap.size w0 w5 → (w5.cell? ⟨w.heap.size, 0, none⟩ = some (.slice (some ⟨gv, 0, none⟩) R.length B) ∧ w5.cell? ⟨gv, k, none⟩ = some (.slice (some ⟨g, 0, none⟩) r.n cap) ∧ w5.cell? ⟨w.heap.size, 2, none⟩ = some (.int .i64 n) ∧ w5.cell? ⟨g, q * 5, none⟩ = some (.int .i64 (-((n + k / 4 : Nat) : Int))) ∧ w5.cell? ⟨g, q * 5 + 1, none⟩ = some (.int .i64 0) ∧ w5.cell? ⟨g, q * 5 + 2, none⟩ = some (.string mark3) ∧ w5.cell? ⟨g, q * 5 + 3, none⟩ = some (.slice none 0 0) ∧ w5.cell? ⟨g, q * 5 + 4, none⟩ = some (.slice none 0 0))) := by
            intro w0 w5 hb0 hb5
            have hh := hb0.trans (hb5.mono hb0.size)
            refine ⟨?_, ?_, ?_, ?_, ?_, ?_, ?_, ?_⟩
            · rw [hh.cell (p := ⟨w.heap.size, _, none⟩) hlb]; exact a0
            · rw [hh.cell (p := ⟨_, _, none⟩) hlv]; exact a1
            · rw [hh.cell (p := ⟨w.heap.size, _, none⟩) hlb]; exact a2
            · rw [hh.cell (p := ⟨_, _, none⟩) hgs]; exact p0
            · rw [hh.cell (p := ⟨_, _, none⟩) hgs]; exact p1
            · rw [hh.cell (p := ⟨_, _, none⟩) hgs]; exact p2
            · rw [hh.cell (p := ⟨_, _, none⟩) hgs]; exact p3
            · rw [hh.cell (p := ⟨_, _, none⟩) hgs]; exact p4
          have HSd := hid (HSw.out wr wr.drew (Below.refl _ _) (below_drew wr))
          go_wp2_with fail
          go_region_held3 (fun wx => wx.cell? ⟨w.heap.size, 0, none⟩ = some (.slice (some ⟨gv, 0, none⟩) R.length B) ∧ wx.cell? ⟨gv, k, none⟩ = some (.slice (some ⟨g, 0, none⟩) r.n cap) ∧ wx.cell? ⟨w.heap.size, 2, none⟩ = some (.int .i64 n) ∧ wx.cell? ⟨g, q * 5, none⟩ = some (.int .i64 (-((n + k / 4 : Nat) : Int))) ∧ wx.cell? ⟨g, q * 5 + 1, none⟩ = some (.int .i64 0) ∧ wx.cell? ⟨g, q * 5 + 2, none⟩ = some (.string mark3) ∧ wx.cell? ⟨g, q * 5 + 3, none⟩ = some (.slice none 0 0) ∧ wx.cell? ⟨g, q * 5 + 4, none⟩ = some (.slice none 0 0)) (first | exact hc6 | exact hc5 | exact HSd.out) (first | (go_at_call 29; refine (HMk.out _).mono ?_; rintro e5 w5 ⟨rfl, hb5⟩; have hc5 := HSw.out _ _ (below_drew wr) hb5) | (go_at_call 10; refine (HSm.out _).mono ?_; rintro e6 w6 ⟨rfl, hb6⟩; have hc6 := HSw.out _ _ ((below_drew wr).trans hb5) hb6))
          have HK6 := hid ((HK.out.keep ((below_drew wr).trans hb5)).keep hb6)
          clear hb5 hb6 hc5 hc6 HSw HSd HK a0 a1 a2 p0 p1 p2 p3 p4
          go_wp2_with fail
          go_roundg (r.n - (q + 1))
          case rel => exact ⟨q + 1, rfl, by omega, by go_num, HK6⟩
          case measure => omega
        · have y1 : ¬ ((q : Int) < (r.n : Int)) := by omega
          go_wp2_with fail
          go_loopg [6] r.m (fun g i wr => ∃ q : Nat, g = r.m - q ∧ q ≤ r.m ∧ i = .int .i64 q ∧ Hid (KI R n (.slice (some ⟨gv, 0, none⟩) R.length B) (.slice (some ⟨gn, 0, none⟩) R.length D) w wr))
          case atStart => exact ⟨0, rfl, Nat.zero_le _, rfl, HK⟩
          case round =>
            clear HK a0 a1 a2 y1 hq hqn
            obtain ⟨q, rfl, hq, rfl, HK⟩ := hrel
            have a0 := HK.out.q1
            have a2 := HK.out.q2
            have a1 : wr.cell? ⟨gn, k, none⟩ = some (.slice Ka r.m Kc) := by rw [HK.out.kept.rowK.cellAt k (by omega), ← Hke.out]; simp [Hr.out]
            by_cases hqm : q < r.m
            · obtain ⟨g, cap, hgl, hgs, hgc⟩ := (HK.out.kept.recK k r Hr.out).cell hqm
              have hel := Hke.out
              rw [hgl] at hel
              simp only [Value.slice.injEq, true_and] at hel
              obtain ⟨rfl, rfl⟩ := hel
              have y1 : (q : Int) < (r.m : Int) := by omega
              have p0 : wr.cell? ⟨g, q, none⟩ = some (.string (nameB (n + k / 4))) := by have := hgc 0 (by omega); simpa [nc] using this
              have hlv := (HK.out.kept.rowK.lt gn rfl).2
              have hlb := HK.out.lt
              have HSw : Hid (∀ w5 : World, Below wr.heap.size wr w5 → (w5.cell? ⟨w.heap.size, 1, none⟩ = some (.slice (some ⟨gn, 0, none⟩) R.length D) ∧ w5.cell? ⟨gn, k, none⟩ = some (.slice (some ⟨g, 0, none⟩) r.m cap) ∧ w5.cell? ⟨w.heap.size, 2, none⟩ = some (.int .i64 n) ∧ w5.cell? ⟨g, q, none⟩ = some (.string (nameB (n + k / 4))))) := by
                intro w5 hh
                refine ⟨?_, ?_, ?_, ?_⟩
                · rw [hh.cell (p := ⟨w.heap.size, _, none⟩) hlb]; exact a0
                · rw [hh.cell (p := ⟨_, _, none⟩) hlv]; exact a1
                · rw [hh.cell (p := ⟨w.heap.size, _, none⟩) hlb]; exact a2
                · rw [hh.cell (p := ⟨_, _, none⟩) hgs]; exact p0
              have HSd := hid (HSw.out wr.drew (below_drew wr))
              clear hgc hgl
              go_wp2_with fail
              go_region_held3 (fun wx => wx.cell? ⟨w.heap.size, 1, none⟩ = some (.slice (some ⟨gn, 0, none⟩) R.length D) ∧ wx.cell? ⟨gn, k, none⟩ = some (.slice (some ⟨g, 0, none⟩) r.m cap) ∧ wx.cell? ⟨w.heap.size, 2, none⟩ = some (.int .i64 n) ∧ wx.cell? ⟨g, q, none⟩ = some (.string (nameB (n + k / 4)))) (first | exact hc5 | exact HSd.out) ((go_at_call 30; refine (HNk.out _).mono ?_; rintro e5 w5 ⟨rfl, hb5⟩; have hc5 := HSw.out _ ((below_drew wr).trans hb5)))
              have HK6 := hid (HK.out.keep ((below_drew wr).trans hb5))
              clear hb5 hc5 HSw HSd HK a0 a1 a2 p0
              go_wp2_with fail
              go_roundg (r.m - (q + 1))
              case rel => exact ⟨q + 1, rfl, by omega, by go_num, HK6⟩
              case measure => omega
            · have y1 : ¬ ((q : Int) < (r.m : Int)) := by omega
              go_wp2_with fail
              go_roundg (R.length - (k + 1))
              case rel => exact ⟨k + 1, rfl, by omega, by go_num, HK⟩
              case measure => omega
    · have x1 : ¬ ((k : Int) < (R.length : Int)) := by omega
      have HB := hid HK.out.bel
      go_wp2_with fail
      go_ret
      exact ⟨rfl, HB.out⟩
end Go.Proofs.YtknakfpciccoaaaDoor
/- The walk of Decodes. -/
namespace Go.Proofs.YtknakfpciccoaaaDoor
open Go.RowKit

theorem res7 : resT ⟨#[5, 0, 0, 0, 2, 2, 1]⟩ = some (mkT 5 0 ByteArray.empty [leafT 2 1 ByteArray.empty] []) := by kernel_rfl
/-- What bytes are taken for: a value of zeros, if they are none. -/
def tD (s : ByteArray) : T := (resT s).getD (leafT 0 0 ByteArray.empty)
def eD (s : ByteArray) : Int := if (resT s).isSome then 0 else 6
def DecU (s : ByteArray) (w : World) (e : Ending) (w' : World) : Prop :=
  Below w.heap.size w w' ∧ ∃ es A B C D, e = .returned (.tuple #[.agg #[.int .i64 (kindOf (tD s)), .int .i64 (nOf (tD s)), .string (sOf (tD s)), .slice A (nL (tD s)) B, .slice C (nK (tD s)) D], .int .i64 (eD s)]) ∧
    Flat w' 13 (.agg #[.int .i64 (kindOf (tD s)), .int .i64 (nOf (tD s)), .string (sOf (tD s)), .slice A (nL (tD s)) B, .slice C (nK (tD s)) D]) (tD s) es ∧ Sep w.heap.size w' es ∧ es.length ≤ 1048576 ∧ ∀ x ∈ es, x.n ≤ 1048576 ∧ x.m ≤ 1048576
theorem decode_u {Tb : World → Prop} (hV : ValidSaid Tb) (hL : Lies Tb) (s : ByteArray) (w : World) (hs : s.size ≤ 140737488355328) (hT : Tb w) : Calls Tryd.prog 13 #[.string s] w (DecU s w) := by
  refine (decode_any hV hL s w hs hT).mono ?_
  rintro e w' ⟨hb, ⟨t, es, A, B, C, D, hr, rfl, hF, hS⟩ | ⟨hr, rfl⟩⟩
  · have hg := resT_good hr
    have hc := flat_count hF hg.1
    have e1 : tD s = t := by unfold tD; rw [hr]; rfl
    have e2 : eD s = 0 := by unfold eD; rw [hr]; rfl
    refine ⟨hb, es, A, B, C, D, ?_, ?_, hS, by omega, fun x hx => ?_⟩
    · rw [e1, e2]; rfl
    · rw [e1]; exact hF
    · have := hc.2 x hx; omega
  · have e1 : tD s = leafT 0 0 ByteArray.empty := by unfold tD; rw [hr]; rfl
    have e2 : eD s = 6 := by unfold eD; rw [hr]; rfl
    refine ⟨hb, _, none, 0, none, 0, ?_, ?_, sep_leaf _ _, by simp, fun x hx => ?_⟩
    · rw [e1, e2]; rfl
    · rw [e1]; exact flat_leaf w' 12 0 0 ByteArray.empty (by omega) (by omega) (by omega) (by omega) (by simp)
    · simp only [List.mem_singleton] at hx
      subst hx
      exact ⟨Nat.zero_le _, Nat.zero_le _⟩
def RefU (s : ByteArray) (w : World) (e : Ending) (w' : World) : Prop :=
  Below w.heap.size w w' ∧ ∃ A B C D, e = .returned (.tuple #[.agg #[.int .i64 (kindOf (tD s)), .int .i64 (nOf (tD s)), .string (sOf (tD s)), .slice A (nL (tD s)) B, .slice C (nK (tD s)) D], .int .i64 (eD s)]) ∧
    At w' 14 (.agg #[.int .i64 (kindOf (tD s)), .int .i64 (nOf (tD s)), .string (sOf (tD s)), .slice A (nL (tD s)) B, .slice C (nK (tD s)) D]) (tD s)
theorem ref_u (s : ByteArray) (w : World) (hs : s.size ≤ 140737488355328) : Calls Tryd.prog 14 #[.string s] w (RefU s w) := by
  refine (refDecode_any s w hs).mono ?_
  rintro e w' ⟨hb, ⟨t, A, B, C, D, hr, rfl, hA⟩ | ⟨hr, rfl⟩⟩
  · have e1 : tD s = t := by unfold tD; rw [hr]; rfl
    have e2 : eD s = 0 := by unfold eD; rw [hr]; rfl
    refine ⟨hb, A, B, C, D, ?_, ?_⟩
    · rw [e1, e2]; rfl
    · rw [e1]; exact hA
  · have e1 : tD s = leafT 0 0 ByteArray.empty := by unfold tD; rw [hr]; rfl
    have e2 : eD s = 6 := by unfold eD; rw [hr]; rfl
    refine ⟨hb, none, 0, none, 0, ?_, ?_⟩
    · rw [e1, e2]; rfl
    · rw [e1]; exact (flat_leaf w' 13 0 0 ByteArray.empty (by omega) (by omega) (by omega) (by omega) (by simp)).at
theorem decode7 {Tb : World → Prop} (hV : ValidSaid Tb) (hL : Lies Tb) (w : World) (hT : Tb w) : Calls Tryd.prog 13 #[.string ⟨#[5, 0, 0, 0, 2, 2, 1]⟩] w fun e w' =>
    Below w.heap.size w w' ∧ ∃ b o B C D, e = .returned (.tuple #[.agg #[.int .i64 5, .int .i64 0, .string ⟨#[]⟩, .slice (some ⟨b, o, none⟩) 1 B, .slice C 0 D], .int .i64 0]) ∧ b < w'.heap.size ∧ w'.cell? ⟨b, o + 1, none⟩ = some (.int .i64 1) := by
  refine (decode_any hV hL _ w (by show (7 : Nat) ≤ _; omega) hT).mono ?_
  rintro e w' ⟨hb, ⟨t, es, A, B, C, D, hr, rfl, hF, hS⟩ | ⟨hr, rfl⟩⟩
  · rw [res7] at hr
    cases hr
    obtain ⟨g, La, Ka, Lc, Kc, _, hv, _, hl, _⟩ := hF.at.open
    obtain ⟨b, o, c0, c1, c2, c3, c4, hA, hlt, q0, q1, q2, q3, q4, ha⟩ := hl.out 0 (by show (0 : Nat) < 1; omega)
    obtain ⟨g', La', Ka', Lc', Kc', _, hv', _⟩ := ha.out.open
    have e1 : c1 = .int .i64 1 := by
      simp only [Value.agg.injEq, Array.mk.injEq, List.cons.injEq] at hv'
      exact hv'.2.1
    subst e1
    have eA : A = La := by
      unfold five at hv
      simp only [Value.agg.injEq, Array.mk.injEq, List.cons.injEq, Value.slice.injEq] at hv
      exact hv.2.2.2.1.1
    subst eA
    subst hA
    refine ⟨hb, b, o, B, C, D, rfl, hlt, ?_⟩
    simpa using q1
  · rw [res7] at hr
    cases hr
/-- A box of three cells. -/
structure Box3 (b : Nat) (c0 c1 c2 : Value) (w : World) : Prop where
  q0 : w.cell? ⟨b, 0, none⟩ = some c0
  q1 : w.cell? ⟨b, 1, none⟩ = some c1
  q2 : w.cell? ⟨b, 2, none⟩ = some c2
  lt : b < w.heap.size
theorem Box3.keep {b : Nat} {c0 c1 c2 : Value} {w w' : World} {B : Nat} (h : Box3 b c0 c1 c2 w) (hb : Below B w w') (hB : b < B) : Box3 b c0 c1 c2 w' :=
  ⟨(hb.cell (p := ⟨_, _, none⟩) hB).trans h.q0, (hb.cell (p := ⟨_, _, none⟩) hB).trans h.q1, (hb.cell (p := ⟨_, _, none⟩) hB).trans h.q2, Nat.lt_of_lt_of_le h.lt hb.size⟩
theorem box3_new (w : World) (c0 c1 c2 : Value) : Box3 w.heap.size c0 c1 c2 (w.alloc (.cells #[c0, c1, c2] 34)) := by
  refine ⟨?_, ?_, ?_, ?_⟩ <;> simp [go_sem]
theorem BoxAt.keep {b : Nat} {c0 c1 c2 c3 c4 : Value} {w w' : World} {B : Nat} (h : BoxAt b c0 c1 c2 c3 c4 w) (hb : Below B w w') (hB : b < B) : BoxAt b c0 c1 c2 c3 c4 w' := h.move hb.size (hb.block _ hB)
end Go.Proofs.YtknakfpciccoaaaDoor
/- The walks of parsed and Parses. -/
namespace Go.Proofs.YtknakfpciccoaaaDoor
open Go.RowKit

def PrsU (s : ByteArray) (w : World) (e : Ending) (w' : World) : Prop :=
  Below w.heap.size w w' ∧ ∃ es A B C D, e = .returned (.tuple #[.agg #[.int .i64 (kindOf (tJ s)), .int .i64 (nOf (tJ s)), .string (sOf (tJ s)), .slice A (nL (tJ s)) B, .slice C (nK (tJ s)) D], .int .i64 (eJ s)]) ∧
    Flat w' 13 (.agg #[.int .i64 (kindOf (tJ s)), .int .i64 (nOf (tJ s)), .string (sOf (tJ s)), .slice A (nL (tJ s)) B, .slice C (nK (tJ s)) D]) (tJ s) es ∧ Sep w.heap.size w' es ∧ es.length ≤ 1048576 ∧ ∀ x ∈ es, x.n ≤ 1048576 ∧ x.m ≤ 1048576
theorem prs_u {s : ByteArray} {w : World} {e : Ending} {w' : World} (h : ParsePost s w e w') : PrsU s w e w' := by
  obtain ⟨hb, ⟨t, es, A, B, C, D, ⟨h0, rfl⟩, rfl, hF, hS⟩ | ⟨h0, rfl⟩⟩ := h
  · have hc := tJ_cnt h0 13
    have hf := flat_cnt hF hc.2
    refine ⟨hb, es, A, B, C, D, by rw [h0]; rfl, hF, hS, by omega, fun x hx => ?_⟩
    have := hf.2 x hx
    omega
  · have e1 : tJ s = leafT 0 0 ByteArray.empty := by unfold tJ; rw [if_neg h0]
    refine ⟨hb, _, none, 0, none, 0, ?_, ?_, sep_leaf _ _, by simp, fun x hx => ?_⟩
    · rw [e1]; rfl
    · rw [e1]; exact flat_leaf w' 12 0 0 ByteArray.empty (by omega) (by omega) (by omega) (by omega) (by simp)
    · simp only [List.mem_singleton] at hx
      subst hx
      exact ⟨Nat.zero_le _, Nat.zero_le _⟩
theorem parse_u {Tb : World → Prop} (hD : DecSaid Tb) (hN : IntSaid Tb) (hL : Lies Tb) (s : ByteArray) (w : World) (hs : s.size ≤ 140737488355328) (hT : Tb w) : Calls Tryd.prog 9 #[.string s] w (PrsU s w) :=
  (parse_any hD hN hL s w hs hT).mono fun _ _ h => prs_u h
theorem refp_u (s : ByteArray) (w : World) : Calls Tryd.prog 8 #[.string s] w (PrsU s w) := (refParse_any s w).mono fun _ _ h => prs_u h
/-- The text that is tried first. -/
def sLive : ByteArray := ⟨#[32, 91, 32, 116, 114, 117, 101, 32, 93, 32]⟩
theorem live_t : tJ sLive = mkT 5 0 ByteArray.empty [leafT 2 1 ByteArray.empty] [] := by kernel_rfl
theorem live_e : eJ sLive = 0 := by kernel_rfl
theorem parse_live {Tb : World → Prop} (hD : DecSaid Tb) (hN : IntSaid Tb) (hL : Lies Tb) (w : World) (hT : Tb w) : Calls Tryd.prog 9 #[.string sLive] w fun e w' =>
    Below w.heap.size w w' ∧ ∃ b o B C D, e = .returned (.tuple #[.agg #[.int .i64 5, .int .i64 0, .string ⟨#[]⟩, .slice (some ⟨b, o, none⟩) 1 B, .slice C 0 D], .int .i64 0]) ∧ b < w'.heap.size ∧ w'.cell? ⟨b, o, none⟩ = some (.int .i64 2) ∧ w'.cell? ⟨b, o + 1, none⟩ = some (.int .i64 1) := by
  refine (parse_u hD hN hL _ w (by show (10 : Nat) ≤ _; omega) hT).mono ?_
  rintro e w' ⟨hb, es, A, B, C, D, rfl, hF, _⟩
  rw [live_t] at hF
  obtain ⟨g, La, Ka, Lc, Kc, _, hv, _, hl, _⟩ := hF.at.open
  obtain ⟨b, o, c0, c1, c2, c3, c4, hA, hlt, q0, q1, q2, q3, q4, ha⟩ := hl.out 0 (by show (0 : Nat) < 1; omega)
  obtain ⟨g', La', Ka', Lc', Kc', _, hv', _⟩ := ha.out.open
  simp only [Value.agg.injEq, Array.mk.injEq, List.cons.injEq] at hv'
  have e0 : c0 = .int .i64 2 := hv'.1
  have e1 : c1 = .int .i64 1 := hv'.2.1
  subst e0
  subst e1
  have eA : A = La := by
    simp only [Value.agg.injEq, Array.mk.injEq, List.cons.injEq, Value.slice.injEq] at hv
    exact hv.2.2.2.1.1
  subst eA
  subst hA
  refine ⟨hb, b, o, B, C, D, ?_, hlt, by simpa using q0, by simpa using q1⟩
  rw [live_t, live_e]
  rfl
set_option maxHeartbeats 4000000 in
set_option maxRecDepth 100000 in
theorem parsed_any {Tb : World → Prop} (hD : DecSaid Tb) (hN : IntSaid Tb) (hL : Lies Tb) (w : World) (hT : Tb w) :
    Calls Tryd.prog 7 #[] w fun e w' => e = .returned (.bool true) ∧ Below w.heap.size w w' := by
  have HP := hid (parse_live hD hN hL w hT)
  clear hT
  go_enter Tryd.func7, Tryd.ntmps7
  go_wp2_with fail
  refine HP.out.mono ?_
  rintro e w1 ⟨hb1, b, o, B, C, D, rfl, hlt, q0, q1⟩
  have hba : Below w1.heap.size w1 (w1.alloc (.cells #[.int .i64 5, .int .i64 0, .string ⟨#[]⟩, .slice (some ⟨b, o, none⟩) 1 B, .slice C 0 D] 26)) := (Below.refl _ _).alloc (Nat.le_refl _) _
  have q0a : (w1.alloc (.cells #[.int .i64 5, .int .i64 0, .string ⟨#[]⟩, .slice (some ⟨b, o, none⟩) 1 B, .slice C 0 D] 26)).cell? ⟨b, o, none⟩ = some (.int .i64 2) := (hba.cell (p := ⟨b, o, none⟩) hlt).trans q0
  have q1a : (w1.alloc (.cells #[.int .i64 5, .int .i64 0, .string ⟨#[]⟩, .slice (some ⟨b, o, none⟩) 1 B, .slice C 0 D] 26)).cell? ⟨b, o + 1, none⟩ = some (.int .i64 1) := (hba.cell (p := ⟨b, o + 1, none⟩) hlt).trans q1
  have HB := hid (hb1.trans (hba.mono hb1.size))
  clear hb1 hba q0 q1 HP
  go_wp2_with fail
  go_ret
  exact ⟨rfl, HB.out⟩
end Go.Proofs.YtknakfpciccoaaaDoor
/- The walk of Parses. -/
namespace Go.Proofs.YtknakfpciccoaaaDoor
open Go.RowKit

set_option maxHeartbeats 4000000 in
set_option maxRecDepth 100000 in
theorem Parses_any {Tb : World → Prop} (hD : DecSaid Tb) (hN : IntSaid Tb) (hL : Lies Tb) (s : ByteArray) (w : World) (hs : s.size ≤ 140737488355328) (hT : Tb w) :
    Calls Tryd.prog 3 #[.string s] w fun e w' => e = .returned (.bool true) ∧ Below w.heap.size w w' := by
  have HD7 := hid (parsed_any hD hN hL w hT)
  have HT : Hid (∀ w' : World, Below w.heap.size w w' → Tb w') := fun w' hb => hL w hT w w' hT hb
  clear hT
  go_enter Tryd.func3, Tryd.ntmps3
  go_wp2_with fail
  refine HD7.out.mono ?_
  rintro e v1 ⟨rfl, hb1⟩
  have HB1 := hid hb1
  clear hb1 HD7
  go_wp2_with fail
  refine (refp_u s v1).mono ?_
  rintro e w2 ⟨hb2, es2, A2, B2, C2, D2, rfl, hF2, _⟩
  have hA2 := hF2.at
  clear hF2
  have hba : Below w2.heap.size w2 (w2.alloc (.cells #[.int .i64 (kindOf (tJ s)), .int .i64 (nOf (tJ s)), .string (sOf (tJ s)), .slice A2 (nL (tJ s)) B2, .slice C2 (nK (tJ s)) D2] 26)) := (Below.refl _ _).alloc (Nat.le_refl _) _
  have HAw := hid (hA2.keep hba)
  have HBw := hid (box_new w2 (.int .i64 (kindOf (tJ s))) (.int .i64 (nOf (tJ s))) (.string (sOf (tJ s))) (.slice A2 (nL (tJ s)) B2) (.slice C2 (nK (tJ s)) D2))
  have HB2 := hid ((HB1.out.trans (hb2.mono HB1.out.size)).trans (hba.mono (Nat.le_trans HB1.out.size hb2.size)))
  clear hb2 hA2 hba HB1
  go_wp2_with fail
  generalize w2.alloc (.cells #[.int .i64 (kindOf (tJ s)), .int .i64 (nOf (tJ s)), .string (sOf (tJ s)), .slice A2 (nL (tJ s)) B2, .slice C2 (nK (tJ s)) D2] 26) = v2 at HAw HBw HB2 ⊢
  generalize w2.heap.size = bw at HBw ⊢
  have hbw := HBw.out.lt
  refine (parse_u hD hN hL s v2 hs (HT.out v2 HB2.out)).mono ?_
  rintro e w3 ⟨hb3, es, A3, B3, C3, D3, rfl, hF3, hS3, hl3, hd3⟩
  have hba : Below w3.heap.size w3 (w3.alloc (.cells #[.int .i64 (kindOf (tJ s)), .int .i64 (nOf (tJ s)), .string (sOf (tJ s)), .slice A3 (nL (tJ s)) B3, .slice C3 (nK (tJ s)) D3] 26)) := (Below.refl _ _).alloc (Nat.le_refl _) _
  have hs3 := hb3.size
  have HF3 := hid (hF3.keep hS3 hba)
  have HS3 := hid (hS3.keep hba.size)
  have HBx := hid (box_new w3 (.int .i64 (kindOf (tJ s))) (.int .i64 (nOf (tJ s))) (.string (sOf (tJ s))) (.slice A3 (nL (tJ s)) B3) (.slice C3 (nK (tJ s)) D3))
  have HV3 := hid (hb3.trans (hba.mono hs3))
  have Hd3 := hid hd3
  have HBw3 := hid (HBw.out.keep HV3.out hbw)
  have hbx0 : v2.heap.size ≤ w3.heap.size := hs3
  clear hb3 hF3 hS3 hd3 hba
  have r0 := HBw3.out.q0
  have r1 := HBw3.out.q1
  have r2 := HBw3.out.q2
  have r3 := HBw3.out.q3
  have r4 := HBw3.out.q4
  go_wp2_with fail
  clear r0 r1 r2 r3 r4
  generalize w3.alloc (.cells #[.int .i64 (kindOf (tJ s)), .int .i64 (nOf (tJ s)), .string (sOf (tJ s)), .slice A3 (nL (tJ s)) B3, .slice C3 (nK (tJ s)) D3] 26) = v3 at HF3 HS3 HBx HV3 HBw3 ⊢
  generalize w3.heap.size = bx at HBx hbx0 hs3 ⊢
  refine (same_any 16 (by omega) 13 13 _ _ (tJ s) v3 HF3.out.at (HAw.out.keep HV3.out)).mono ?_
  rintro e w4 ⟨rfl, hb4⟩
  have HF4 := hid (HF3.out.keep HS3.out hb4)
  have HS4 := hid (HS3.out.keep hb4.size)
  have HBx4 := hid (HBx.out.keep hb4 HBx.out.lt)
  have HV4 := hid (HV3.out.trans (hb4.mono HV3.out.size))
  clear hb4 HF3 HS3 HBx HV3 HBw3
  have r0 := HBx4.out.q0
  have r1 := HBx4.out.q1
  have r2 := HBx4.out.q2
  have r3 := HBx4.out.q3
  have r4 := HBx4.out.q4
  have HO4 : Hid (Calls Tryd.prog 11 #[.agg #[.int .i64 (kindOf (tJ s)), .int .i64 (nOf (tJ s)), .string (sOf (tJ s)), .slice A3 (nL (tJ s)) B3, .slice C3 (nK (tJ s)) D3], .int .i64 1] w4 (OwnPost v2.heap.size es 1 w4)) := own_any v2.heap.size 1 _ (tJ s) es w4 HF4.out HS4.out HV4.out.size (by omega) hl3 Hd3.out
  go_wp2_with fail
  clear r0 r1 r2 r3 r4
  refine HO4.out.mono ?_
  rintro e w5 ⟨hb5, R, A5, B5, C5, D5, hRl, rfl, hK5⟩
  have hba : Below w5.heap.size w5 (w5.alloc (.cells #[.slice A5 R.length B5, .slice C5 R.length D5, .int .i64 ((1 : Nat) : Int)] 34)) := (Below.refl _ _).alloc (Nat.le_refl _) _
  have HV5 := hid ((HV4.out.trans hb5).trans (hba.mono (Nat.le_trans HV4.out.size hb5.size)))
  have HB5 := hid (box3_new w5 (.slice A5 R.length B5) (.slice C5 R.length D5) (.int .i64 ((1 : Nat) : Int)))
  have HK5 := hid (hK5.keep hba)
  have hR5 : R.length ≤ 4194304 := by omega
  clear hb5 hK5 hba HF4 HS4 HBx4 HV4 HO4 Hd3 hRl hl3
  go_wp2_with fail
  generalize w5.alloc (.cells #[.slice A5 R.length B5, .slice C5 R.length D5, .int .i64 ((1 : Nat) : Int)] 34) = v5 at HV5 HB5 HK5 ⊢
  generalize w5.heap.size = b5 at HB5 ⊢
  have hb5l := HB5.out.lt
  have hv5 := HV5.out.size
  have HBw5 := hid (HBw.out.keep HV5.out hbw)
  have HA5 := hid (HAw.out.keep HV5.out)
  refine (parse_u hD hN hL s v5 hs (HT.out v5 (HB2.out.trans (HV5.out.mono HB2.out.size)))).mono ?_
  rintro e w6 ⟨hb6, es6, A6, B6, C6, D6, rfl, hF6, hS6, hl6, hd6⟩
  have hba : Below w6.heap.size w6 (w6.alloc (.cells #[.int .i64 (kindOf (tJ s)), .int .i64 (nOf (tJ s)), .string (sOf (tJ s)), .slice A6 (nL (tJ s)) B6, .slice C6 (nK (tJ s)) D6] 26)) := (Below.refl _ _).alloc (Nat.le_refl _) _
  have HF6 := hid (hF6.keep hS6 hba)
  have HS6 := hid (hS6.keep hba.size)
  have HBy := hid (box_new w6 (.int .i64 (kindOf (tJ s))) (.int .i64 (nOf (tJ s))) (.string (sOf (tJ s))) (.slice A6 (nL (tJ s)) B6) (.slice C6 (nK (tJ s)) D6))
  have HV6 := hid (hb6.trans (hba.mono hb6.size))
  have Hd6 := hid hd6
  have HBw6 := hid (HBw5.out.keep HV6.out (by omega))
  clear hb6 hF6 hS6 hd6 hba
  have r0 := HBw6.out.q0
  have r1 := HBw6.out.q1
  have r2 := HBw6.out.q2
  have r3 := HBw6.out.q3
  have r4 := HBw6.out.q4
  go_wp2_with fail
  clear r0 r1 r2 r3 r4
  generalize w6.alloc (.cells #[.int .i64 (kindOf (tJ s)), .int .i64 (nOf (tJ s)), .string (sOf (tJ s)), .slice A6 (nL (tJ s)) B6, .slice C6 (nK (tJ s)) D6] 26) = v6 at HF6 HS6 HBy HV6 HBw6 ⊢
  generalize w6.heap.size = b6 at HBy ⊢
  refine (same_any 16 (by omega) 13 13 _ _ (tJ s) v6 HF6.out.at (HA5.out.keep HV6.out)).mono ?_
  rintro e w7 ⟨rfl, hb7⟩
  have HF7 := hid (HF6.out.keep HS6.out hb7)
  have HS7 := hid (HS6.out.keep hb7.size)
  have HBy7 := hid (HBy.out.keep hb7 HBy.out.lt)
  have HV7 := hid (HV6.out.trans (hb7.mono HV6.out.size))
  clear hb7 HF6 HS6 HBy HV6 HBw6
  have r0 := HBy7.out.q0
  have r1 := HBy7.out.q1
  have r2 := HBy7.out.q2
  have r3 := HBy7.out.q3
  have r4 := HBy7.out.q4
  have HO7 : Hid (Calls Tryd.prog 11 #[.agg #[.int .i64 (kindOf (tJ s)), .int .i64 (nOf (tJ s)), .string (sOf (tJ s)), .slice A6 (nL (tJ s)) B6, .slice C6 (nK (tJ s)) D6], .int .i64 1000000] w7 (OwnPost v5.heap.size es6 1000000 w7)) := own_any v5.heap.size 1000000 _ (tJ s) es6 w7 HF7.out HS7.out HV7.out.size (by omega) hl6 Hd6.out
  go_wp2_with fail
  clear r0 r1 r2 r3 r4
  refine HO7.out.mono ?_
  rintro e w8 ⟨hb8, R8, A8, B8, C8, D8, hRl8, rfl, hK8⟩
  have hba : Below w8.heap.size w8 (w8.alloc (.cells #[.slice A8 R8.length B8, .slice C8 R8.length D8, .int .i64 1000000] 34)) := (Below.refl _ _).alloc (Nat.le_refl _) _
  have HV8 := hid ((HV7.out.trans hb8).trans (hba.mono (Nat.le_trans HV7.out.size hb8.size)))
  have HB8 := hid (box3_new w8 (.slice A8 R8.length B8) (.slice C8 R8.length D8) (.int .i64 1000000))
  have HK8 := hid (hK8.keep hba)
  have hR8 : R8.length ≤ 4194304 := by omega
  have HB58 := hid (HB5.out.keep HV8.out hb5l)
  have HK58 := hid (HK5.out.keep HV8.out)
  clear hb8 hK8 hba HF7 HS7 HBy7 HV7 HO7 Hd6 hRl8 hl6
  have r0 := HB58.out.q0
  have r1 := HB58.out.q1
  have r2 := HB58.out.q2
  go_wp2_with fail
  clear r0 r1 r2
  generalize w8.alloc (.cells #[.slice A8 R8.length B8, .slice C8 R8.length D8, .int .i64 1000000] 34) = v8 at HV8 HB8 HK8 HB58 HK58 ⊢
  generalize w8.heap.size = b8 at HB8 ⊢
  refine (kept_any R 1 A5 C5 B5 D5 v8 HK58.out (by omega) hR5).mono ?_
  rintro e w9 ⟨rfl, hb9⟩
  have HB89 := hid (HB8.out.keep hb9 HB8.out.lt)
  have HK89 := hid (HK8.out.keep hb9)
  have HV9 := hid (HV8.out.trans (hb9.mono HV8.out.size))
  clear hb9 HB8 HK8 HV8 HB58 HK58
  have r0 := HB89.out.q0
  have r1 := HB89.out.q1
  have r2 := HB89.out.q2
  go_wp2_with fail
  clear r0 r1 r2
  refine (kept_any R8 1000000 A8 C8 B8 D8 w9 HK89.out (by omega) hR8).mono ?_
  rintro e w10 ⟨rfl, hb10⟩
  have HBF := hid ((HB2.out.trans (HV5.out.mono HB2.out.size)).trans ((HV9.out.trans (hb10.mono HV9.out.size)).mono (Nat.le_trans HB2.out.size hv5)))
  clear hb10
  go_wp2_with fail
  go_ret
  exact ⟨by simp, HBF.out⟩
end Go.Proofs.YtknakfpciccoaaaDoor
