/- The walk of kept: the lists read as their owner left them. -/
import Derived.Test.YtknakfpciccoaaaDoorT4
import Derived.Test.YtknakfpciccoaaaDoorC20
namespace Go.Proofs.YtknakfpciccoaaaDoor
open Go.RowKit

theorem KeptR.keep {R : List Ent} {n : Nat} {vs ns : Value} {w w' : World} (h : KeptR R n vs ns w) (hb : Below w.heap.size w w') : KeptR R n vs ns w' :=
  ⟨own_move h.rowL fun g e => hb.block g (h.rowL.lt g e).2, own_move h.rowK fun g e => hb.block g (h.rowK.lt g e).2,
   fun q r hr => (h.recL q r hr).move fun _ _ _ hc => hb.block _ (Array.getElem?_eq_some_iff.1 hc).1, fun q r hr => (h.recK q r hr).move fun _ _ _ hc => hb.block _ (Array.getElem?_eq_some_iff.1 hc).1⟩
def markT (m : Nat) : T := mkT (-(m : Int)) 0 mark3 [] []
theorem mark_at (w : World) (m : Nat) (hm : m ≤ 1000000000) : At w 1 (.agg #[.int .i64 (-(m : Int)), .int .i64 0, .string mark3, .slice none 0 0, .slice none 0 0]) (markT m) := by
  unfold markT
  refine ⟨none, none, 0, 0, ?_, ⟨?_, ?_, ?_, ?_, ?_, ?_, ?_⟩, fun i hi => ?_, fun i hi => ?_⟩
  · rw [kindOf_mk, nOf_mk, sOf_mk, nL_mk, nK_mk]; rfl
  · rw [kindOf_mk]; omega
  · rw [kindOf_mk]; omega
  · rw [nOf_mk]; omega
  · rw [nOf_mk]; omega
  · rw [sOf_mk]; show (3 : Nat) ≤ _; omega
  · rw [nL_mk]; simp
  · rw [nK_mk]; simp
  · rw [nL_mk] at hi; simp at hi
  · rw [nK_mk] at hi; simp at hi
/-- What the loops read. -/
structure KI (R : List Ent) (n : Nat) (vs ns : Value) (w wr : World) : Prop where
  kept : KeptR R n vs ns wr
  q0 : wr.cell? ⟨w.heap.size, 0, none⟩ = some vs
  q1 : wr.cell? ⟨w.heap.size, 1, none⟩ = some ns
  q2 : wr.cell? ⟨w.heap.size, 2, none⟩ = some (.int .i64 n)
  lt : w.heap.size < wr.heap.size
  bel : Below w.heap.size w wr
theorem KI.keep {R : List Ent} {n : Nat} {vs ns : Value} {w wr w1 : World} (h : KI R n vs ns w wr) (hb : Below wr.heap.size wr w1) : KI R n vs ns w w1 :=
  ⟨h.kept.keep hb, (hb.cell (p := ⟨_, _, none⟩) h.lt).trans h.q0, (hb.cell (p := ⟨_, _, none⟩) h.lt).trans h.q1, (hb.cell (p := ⟨_, _, none⟩) h.lt).trans h.q2, Nat.lt_of_lt_of_le h.lt hb.size, h.bel.trans (hb.mono (Nat.le_of_lt h.lt))⟩
set_option maxHeartbeats 4000000 in
set_option maxRecDepth 100000 in
theorem kept_any (R : List Ent) (n : Nat) (A C : Option Addr) (B D : Nat) (w : World) (h : KeptR R n (.slice A R.length B) (.slice C R.length D) w) (hn : n ≤ 2000000) (hR : R.length ≤ 4194304) :
    Calls Tryd.prog 12 #[.agg #[.slice A R.length B, .slice C R.length D, .int .i64 n]] w fun e w' => e = .returned (.bool true) ∧ Below w.heap.size w w' := by
  have HK0 : Hid (KI R n (.slice A R.length B) (.slice C R.length D) w (w.alloc (.cells #[.slice A R.length B, .slice C R.length D, .int .i64 n] 34))) := by
    refine ⟨h.keep ((Below.refl _ _).alloc (Nat.le_refl _) _), ?_, ?_, ?_, ?_, (Below.refl _ _).alloc (Nat.le_refl _) _⟩ <;> simp [go_sem]
  clear h
  go_enter Tryd.func12, Tryd.ntmps12
  go_wp2_with fail
  go_loopg [3] R.length (fun g i wr => ∃ k : Nat, g = R.length - k ∧ k ≤ R.length ∧ i = .int .i64 k ∧ Hid (KI R n (.slice A R.length B) (.slice C R.length D) w wr))
  case atStart => exact ⟨0, rfl, Nat.zero_le _, rfl, HK0⟩
  case round =>
    clear HK0
    obtain ⟨k, rfl, hk, rfl, HK⟩ := hrel
    have a0 := HK.out.q0
    by_cases hlt : k < R.length
    · have x1 : (k : Int) < (R.length : Int) := by omega
      obtain ⟨r, hr⟩ : ∃ r, R[k]? = some r := ⟨R[k], List.getElem?_eq_getElem hlt⟩
      obtain ⟨La, Lc, hle, hmL⟩ := (HK.out.kept.recL k r hr).1
      obtain ⟨Ka, Kc, hke, hmK⟩ := (HK.out.kept.recK k r hr).1
      simp only [maxLen] at hmL hmK
      obtain ⟨gv, cv, ev, hz1, hz2, hz3, hz4, hz5⟩ := own_cell HK.out.kept.rowL (by omega)
      clear hz1 hz2 hz3 hz4 hz5
      simp only [Value.slice.injEq, true_and] at ev
      obtain ⟨rfl, rfl⟩ := ev
      obtain ⟨gn, cn, en, hz1, hz2, hz3, hz4, hz5⟩ := own_cell HK.out.kept.rowK (by omega)
      clear hz1 hz2 hz3 hz4 hz5
      simp only [Value.slice.injEq, true_and] at en
      obtain ⟨rfl, rfl⟩ := en
      have Hr := hid hr
      have Hle := hid hle
      have Hke := hid hke
      clear hr hle hke
      have ew0 : IntKind.i64.wrap ((k : Int) / 4) = (k : Int) / 4 := by rw [IntKind.wrap_i64]; omega
      have ew : IntKind.i64.wrap ((n : Int) + (k : Int) / 4) = (n : Int) + (k : Int) / 4 := by rw [IntKind.wrap_i64]; omega
      have HMk : Hid (∀ w5 : World, Calls Tryd.prog 29 #[.int .i64 ((n : Int) + (k : Int) / 4)] w5 fun e w' => e = .returned (.agg #[.int .i64 (-((n + k / 4 : Nat) : Int)), .int .i64 0, .string mark3, .slice none 0 0, .slice none 0 0]) ∧ Below w5.heap.size w5 w') := by
        intro w5
        have := markV_any (n + k / 4) w5 (by omega)
        have ec : ((n + k / 4 : Nat) : Int) = (n : Int) + (k : Int) / 4 := by omega
        rw [ec] at this ⊢
        exact this
      have HNk : Hid (∀ w5 : World, Calls Tryd.prog 30 #[.int .i64 ((n : Int) + (k : Int) / 4)] w5 fun e w' => e = .returned (.string (nameB (n + k / 4))) ∧ Below w5.heap.size w5 w') := by
        intro w5
        have := markName_any (n + k / 4) w5 (by omega)
        have ec : ((n + k / 4 : Nat) : Int) = (n : Int) + (k : Int) / 4 := by omega
        rw [ec] at this
        exact this
      have HSm : Hid (∀ w5 : World, Calls Tryd.prog 10 #[.agg #[.int .i64 (-((n + k / 4 : Nat) : Int)), .int .i64 0, .string mark3, .slice none 0 0, .slice none 0 0], .agg #[.int .i64 (-((n + k / 4 : Nat) : Int)), .int .i64 0, .string mark3, .slice none 0 0, .slice none 0 0], .int .i64 1] w5 fun e w' => e = .returned (.bool true) ∧ Below w5.heap.size w5 w') := fun w5 => same_any 1 (by omega) 1 1 _ _ (markT (n + k / 4)) w5 (mark_at w5 _ (by omega)) (mark_at w5 _ (by omega))
      go_wp2_with fail
      go_loopg [4] r.n (fun g i wr => ∃ q : Nat, g = r.n - q ∧ q ≤ r.n ∧ i = .int .i64 q ∧ Hid (KI R n (.slice (some ⟨gv, 0, none⟩) R.length B) (.slice (some ⟨gn, 0, none⟩) R.length D) w wr))
      case atStart => exact ⟨0, rfl, Nat.zero_le _, rfl, HK⟩
      case round =>
        clear HK a0
        obtain ⟨q, rfl, hq, rfl, HK⟩ := hrel
        have a0 := HK.out.q0
        have a2 := HK.out.q2
        have a1 : wr.cell? ⟨gv, k, none⟩ = some (.slice La r.n Lc) := by rw [HK.out.kept.rowL.cellAt k (by omega), ← Hle.out]; simp [Hr.out]
        by_cases hqn : q < r.n
        · obtain ⟨g, cap, hgl, hgs, hgc⟩ := (HK.out.kept.recL k r Hr.out).cell hqn
          have hel := Hle.out
          rw [hgl] at hel
          simp only [Value.slice.injEq, true_and] at hel
          obtain ⟨rfl, rfl⟩ := hel
          have y1 : (q : Int) < (r.n : Int) := by omega
          have p0 : wr.cell? ⟨g, q * 5, none⟩ = some (.int .i64 (-((n + k / 4 : Nat) : Int))) := hgc 0 (by omega)
          have p1 : wr.cell? ⟨g, q * 5 + 1, none⟩ = some (.int .i64 0) := hgc 1 (by omega)
          have p2 : wr.cell? ⟨g, q * 5 + 2, none⟩ = some (.string mark3) := hgc 2 (by omega)
          have p3 : wr.cell? ⟨g, q * 5 + 3, none⟩ = some (.slice none 0 0) := hgc 3 (by omega)
          have p4 : wr.cell? ⟨g, q * 5 + 4, none⟩ = some (.slice none 0 0) := hgc 4 (by omega)
          have hlv := (HK.out.kept.rowL.lt gv rfl).2
          have hlb := HK.out.lt
          have HSw : Hid (∀ w0 w5 : World, Below wr.heap.size wr w0 → Below w0.heap.size w0 w5 → (w5.cell? ⟨w.heap.size, 0, none⟩ = some (.slice (some ⟨gv, 0, none⟩) R.length B) ∧ w5.cell? ⟨gv, k, none⟩ = some (.slice (some ⟨g, 0, none⟩) r.n cap) ∧ w5.cell? ⟨w.heap.size, 2, none⟩ = some (.int .i64 n) ∧ w5.cell? ⟨g, q * 5, none⟩ = some (.int .i64 (-((n + k / 4 : Nat) : Int))) ∧ w5.cell? ⟨g, q * 5 + 1, none⟩ = some (.int .i64 0) ∧ w5.cell? ⟨g, q * 5 + 2, none⟩ = some (.string mark3) ∧ w5.cell? ⟨g, q * 5 + 3, none⟩ = some (.slice none 0 0) ∧ w5.cell? ⟨g, q * 5 + 4, none⟩ = some (.slice none 0 0))) := by
            intro w0 w5 hb0 hb5
            have hh := hb0.trans (hb5.mono hb0.size)
            refine ⟨?_, ?_, ?_, ?_, ?_, ?_, ?_, ?_⟩
            · rw [hh.cell (p := ⟨w.heap.size, _, none⟩) hlb]; exact a0
            · rw [hh.cell (p := ⟨_, _, none⟩) hlv]; exact a1
            · rw [hh.cell (p := ⟨w.heap.size, _, none⟩) hlb]; exact a2
            · rw [hh.cell (p := ⟨_, _, none⟩) hgs]; exact p0
            · rw [hh.cell (p := ⟨_, _, none⟩) hgs]; exact p1
            · rw [hh.cell (p := ⟨_, _, none⟩) hgs]; exact p2
            · rw [hh.cell (p := ⟨_, _, none⟩) hgs]; exact p3
            · rw [hh.cell (p := ⟨_, _, none⟩) hgs]; exact p4
          have HSd := hid (HSw.out wr wr.drew (Below.refl _ _) (below_drew wr))
          go_wp2_with fail
          go_region_held3 (fun wx => wx.cell? ⟨w.heap.size, 0, none⟩ = some (.slice (some ⟨gv, 0, none⟩) R.length B) ∧ wx.cell? ⟨gv, k, none⟩ = some (.slice (some ⟨g, 0, none⟩) r.n cap) ∧ wx.cell? ⟨w.heap.size, 2, none⟩ = some (.int .i64 n) ∧ wx.cell? ⟨g, q * 5, none⟩ = some (.int .i64 (-((n + k / 4 : Nat) : Int))) ∧ wx.cell? ⟨g, q * 5 + 1, none⟩ = some (.int .i64 0) ∧ wx.cell? ⟨g, q * 5 + 2, none⟩ = some (.string mark3) ∧ wx.cell? ⟨g, q * 5 + 3, none⟩ = some (.slice none 0 0) ∧ wx.cell? ⟨g, q * 5 + 4, none⟩ = some (.slice none 0 0)) (first | exact hc6 | exact hc5 | exact HSd.out) (first | (go_at_call 29; refine (HMk.out _).mono ?_; rintro e5 w5 ⟨rfl, hb5⟩; have hc5 := HSw.out _ _ (below_drew wr) hb5) | (go_at_call 10; refine (HSm.out _).mono ?_; rintro e6 w6 ⟨rfl, hb6⟩; have hc6 := HSw.out _ _ ((below_drew wr).trans hb5) hb6))
          have HK6 := hid ((HK.out.keep ((below_drew wr).trans hb5)).keep hb6)
          clear hb5 hb6 hc5 hc6 HSw HSd HK a0 a1 a2 p0 p1 p2 p3 p4
          go_wp2_with fail
          go_roundg (r.n - (q + 1))
          case rel => exact ⟨q + 1, rfl, by omega, by go_num, HK6⟩
          case measure => omega
        · have y1 : ¬ ((q : Int) < (r.n : Int)) := by omega
          go_wp2_with fail
          go_loopg [6] r.m (fun g i wr => ∃ q : Nat, g = r.m - q ∧ q ≤ r.m ∧ i = .int .i64 q ∧ Hid (KI R n (.slice (some ⟨gv, 0, none⟩) R.length B) (.slice (some ⟨gn, 0, none⟩) R.length D) w wr))
          case atStart => exact ⟨0, rfl, Nat.zero_le _, rfl, HK⟩
          case round =>
            clear HK a0 a1 a2 y1 hq hqn
            obtain ⟨q, rfl, hq, rfl, HK⟩ := hrel
            have a0 := HK.out.q1
            have a2 := HK.out.q2
            have a1 : wr.cell? ⟨gn, k, none⟩ = some (.slice Ka r.m Kc) := by rw [HK.out.kept.rowK.cellAt k (by omega), ← Hke.out]; simp [Hr.out]
            by_cases hqm : q < r.m
            · obtain ⟨g, cap, hgl, hgs, hgc⟩ := (HK.out.kept.recK k r Hr.out).cell hqm
              have hel := Hke.out
              rw [hgl] at hel
              simp only [Value.slice.injEq, true_and] at hel
              obtain ⟨rfl, rfl⟩ := hel
              have y1 : (q : Int) < (r.m : Int) := by omega
              have p0 : wr.cell? ⟨g, q, none⟩ = some (.string (nameB (n + k / 4))) := by have := hgc 0 (by omega); simpa [nc] using this
              have hlv := (HK.out.kept.rowK.lt gn rfl).2
              have hlb := HK.out.lt
              have HSw : Hid (∀ w5 : World, Below wr.heap.size wr w5 → (w5.cell? ⟨w.heap.size, 1, none⟩ = some (.slice (some ⟨gn, 0, none⟩) R.length D) ∧ w5.cell? ⟨gn, k, none⟩ = some (.slice (some ⟨g, 0, none⟩) r.m cap) ∧ w5.cell? ⟨w.heap.size, 2, none⟩ = some (.int .i64 n) ∧ w5.cell? ⟨g, q, none⟩ = some (.string (nameB (n + k / 4))))) := by
                intro w5 hh
                refine ⟨?_, ?_, ?_, ?_⟩
                · rw [hh.cell (p := ⟨w.heap.size, _, none⟩) hlb]; exact a0
                · rw [hh.cell (p := ⟨_, _, none⟩) hlv]; exact a1
                · rw [hh.cell (p := ⟨w.heap.size, _, none⟩) hlb]; exact a2
                · rw [hh.cell (p := ⟨_, _, none⟩) hgs]; exact p0
              have HSd := hid (HSw.out wr.drew (below_drew wr))
              clear hgc hgl
              go_wp2_with fail
              go_region_held3 (fun wx => wx.cell? ⟨w.heap.size, 1, none⟩ = some (.slice (some ⟨gn, 0, none⟩) R.length D) ∧ wx.cell? ⟨gn, k, none⟩ = some (.slice (some ⟨g, 0, none⟩) r.m cap) ∧ wx.cell? ⟨w.heap.size, 2, none⟩ = some (.int .i64 n) ∧ wx.cell? ⟨g, q, none⟩ = some (.string (nameB (n + k / 4)))) (first | exact hc5 | exact HSd.out) ((go_at_call 30; refine (HNk.out _).mono ?_; rintro e5 w5 ⟨rfl, hb5⟩; have hc5 := HSw.out _ ((below_drew wr).trans hb5)))
              have HK6 := hid (HK.out.keep ((below_drew wr).trans hb5))
              clear hb5 hc5 HSw HSd HK a0 a1 a2 p0
              go_wp2_with fail
              go_roundg (r.m - (q + 1))
              case rel => exact ⟨q + 1, rfl, by omega, by go_num, HK6⟩
              case measure => omega
            · have y1 : ¬ ((q : Int) < (r.m : Int)) := by omega
              go_wp2_with fail
              go_roundg (R.length - (k + 1))
              case rel => exact ⟨k + 1, rfl, by omega, by go_num, HK⟩
              case measure => omega
    · have x1 : ¬ ((k : Int) < (R.length : Int)) := by omega
      have HB := hid HK.out.bel
      go_wp2_with fail
      go_ret
      exact ⟨rfl, HB.out⟩
end Go.Proofs.YtknakfpciccoaaaDoor
