import Derived.Test.YtknakfpciccoaabGreatDoorZS19
import Derived.Test.YtknakfpciccoaabGreatDoorZS7
import Derived.Test.YtknakfpciccoaabGreatDoorZS16
/- The walk of parseFilter. -/
namespace Go.Proofs.YtknakfpciccoaabGreatDoor
open Go.RowKit

theorem pcond_any {Tb : World → Prop} (hS : SplitSaid Tb) (hL : Lies Tb) (w0 : Org) (f m : Nat) (ih : PfsSaid Tb w0 f) (x : ByteArray) (j : T) (v : Value) (w : World) (hx : x.size ≤ 4000) (hm : f ≤ m + 1) (ha : At0 w0 f v j) (hf : f ≤ 16) (kj : okA j) (hb0 : Below w0.w.heap.size w0.w w) (hT : Tb w) :
    Calls Tryz.prog 117 #[.string x, v] w (CPost w0 m x j w) := by
  by_cases gAnd : x = opAnd
  · exact pcondAnd_any hL w0 f m ih x j v w hm ha hf kj hb0 hT gAnd
  by_cases gOr : x = opOr
  · exact pcondOr_any hL w0 f m ih x j v w hm ha hf kj hb0 hT gOr
  by_cases gNor : x = opNor
  · exact pcondNor_any hL w0 f m ih x j v w hm ha hf kj hb0 hT gNor
  exact pcondHas_any hS hL w0 f m x j v w hx ha hf kj hb0 hT ⟨gAnd, gOr, gNor⟩
set_option maxHeartbeats 4000000 in
set_option maxRecDepth 100000 in
theorem pf_step {Tb : World → Prop} (hS : SplitSaid Tb) (hL : Lies Tb) (w0 : Org) (f : Nat) (ih : PfsSaid Tb w0 f) : PfSaid Tb w0 (f + 1) := by
  intro m v t w hm ha hf kj hb0 hT
  obtain ⟨m, rfl⟩ : ∃ x, m = x + 1 := ⟨m - 1, by omega⟩
  obtain ⟨iC, hiC, zC0, zC1, zC2⟩ := info_parts infoC
  obtain ⟨g1, La, Ka, Lc, Kc, hg1, rfl, hfj, hel, hnm⟩ := ha.open
  obtain rfl : g1 = f := by omega
  have HB1 : Hid (Below w.heap.size w (w.alloc (.cells #[.int .i64 (kindOf t), .int .i64 (nOf t), .string (sOf t), .slice La (nL t) Lc, .slice Ka (nK t) Kc] 36))) := (Below.refl _ _).alloc (Nat.le_refl _) _
  have HT : Hid (∀ w' : World, Below w.heap.size w w' → Tb w') := fun w' hb => hL w hT w w' hT hb
  have HPc : Hid (∀ (x : ByteArray) (j : T) (v : Value) (w : World), x.size ≤ 4000 → At0 w0 g1 v j → okA j → Below w0.w.heap.size w0.w w → Tb w → Calls Tryz.prog 117 #[.string x, v] w (CPost w0 m x j w)) := fun x j v w hx ha kj hb hT => pcond_any hS hL w0 g1 m ih x j v w hx (by omega) ha (by omega) kj hb hT
  have HKj := hid kj
  have Hel := hid hel.out
  have Hnm := hid hnm.out
  have hnk := kj.small.1
  have hnl := kj.small.2
  clear ha kj ih hel hnm hg1 hfj hT hL hS
  by_cases k6 : kindOf t = 6
  · have e6 : (kindOf t == 6) = true := by simpa using k6
    have HKL := hid (HKj.out.names k6)
    have HOK : Hid (okFil (m + 1) t = allN (fun i => okC (okFil m) (nam t i) (elt t i)) (nK t)) := by show _ = _; rw [okFil, e6]; rfl
    clear k6
    go_enter Tryz.func85, Tryz.ntmps85
    go_wp2_with fail
    refine (need_any true _).mono ?_
    rintro e w2 ⟨rfl, he⟩
    simp only [if_true] at he
    subst he
    go_wp2_with fail
    go_loopg [3, 13] (nK t) (fun g o i wr => ∃ (k : Nat) (xs : List Value), g = nK t - k ∧ k ≤ nK t ∧ i = .int .i64 k ∧ Hid (Below (w.heap.size + 1) (w.alloc (.cells #[.int .i64 (kindOf t), .int .i64 (nOf t), .string (sOf t), .slice La (nL t) Lc, .slice Ka (nK t) Kc] 36)) wr) ∧ Hid (Bld (CondE w0 m) 1 128 (w.heap.size + 1) o ((prs t).take k) xs wr) ∧ Hid (allN (fun i => okC (okFil m) (nam t i) (elt t i)) k = true))
    case atStart => exact ⟨0, [], rfl, Nat.zero_le _, rfl, Below.refl _ _, Bld.nil _ _ _ _ _, rfl⟩
    case round =>
      obtain ⟨k, xs, rfl, hk, rfl, HB, HL, HN⟩ := hrel
      obtain ⟨q0, q1, q2, q3, q4, hz, hbw⟩ := box_facts HB.out
      have Hbr := hid (hb0.trans (hbw.mono hb0.size))
      have Hbw := hid hbw
      clear hbw
      by_cases hlt : k < nK t
      · have hltL : k < nL t := by have := HKL.out; omega
        obtain ⟨kb, ko, rfl, hkb, hks, hkc⟩ := Hnm.out.keep Hbr.out k hlt
        obtain ⟨bb, oo, A, B, C, D, rfl, hbl, p0, p1, p2, p3, p4, Ha⟩ := Hel.out.shape Hbr.out k hltL
        have HC := hid (HPc.out (nam t k) (elt t k) _ wr (HKj.out.nam hlt) Ha.out (HKj.out.elt hltL) Hbr.out (HT.out _ Hbw.out))
        have HA : Hid (allN (fun i => okC (okFil m) (nam t i) (elt t i)) (k + 1) = okC (okFil m) (nam t k) (elt t k)) := by show _ = _; rw [allN, HN.out]; simp
        have HA2 : Hid (okC (okFil m) (nam t k) (elt t k) = false → okFil (m + 1) t = false) := fun h => by rw [HOK.out]; exact allN_no (p := fun i => okC (okFil m) (nam t i) (elt t i)) h _ hlt
        have HTk := hid (prs_take hlt)
        have hxl : ((prs t).take k).length = k := by rw [List.length_take, prs_len]; omega
        go_wp2_with fail
        refine HC.out.mono ?_
        rintro e w3 ⟨b3, ⟨hok, fv, rfl, ht⟩ | ⟨hok, rfl⟩⟩
        · obtain ⟨t6, v6, rfl⟩ := ht.shape
          have HA3 := hid (HA.out.trans hok)
          have HTt := hid ht
          have Hb3 := hid b3
          have HB4 : Hid (Below w3.heap.size w3 (w3.alloc (.cells #[.iface t6 v6] 128))) := (Below.refl _ _).alloc (Nat.le_refl _) _
          have HL4 := hid ((HL.out.keep (condE_moves w0 m) Hb3.out).keep (condE_moves w0 m) HB4.out)
          have HSrc : Hid (Src Tryz.prog 1 70 (.slice (some ⟨w3.heap.size, 0, none⟩) 1 1) 1 [.iface t6 v6] (w3.alloc (.cells #[.iface t6 v6] 128))) := Src.ofSlice _ Tryz.underlying70 ⟨w3.heap.size, 0, none⟩ 1 1 [.iface t6 v6] (by simp) (World.news_of_block (heap_alloc_new w3 _)) (by simp [Value.oneCell'])
          have hlo : w.heap.size + 1 ≤ (w3.alloc (.cells #[.iface t6 v6] 128)).heap.size := by have := Hb3.out.size; simp; omega
          clear b3 hok ht HC HA HA2
          go_wp2_with (at_builtin; refine wpList_append_src _ rfl (.tmp 18) (.tmp 26) 70 70 rfl (w.heap.size + 1) 128 iC _ 1 16 Tryz.underlying70 hiC zC0 zC1 zC2 rfl u3 ((prs t).take k).length xs rfl HL4.out.row (.slice (some ⟨w3.heap.size, 0, none⟩) 1 1) 1 [.iface t6 v6] rfl HSrc.out (by unfold maxLen; omega) (by omega) hlo ?_; intro v' w6 hO6 hG6 hat6)
          have HL6 := hid (HL.out.grow (x := (nam t k, elt t k)) (cs := [.iface t6 v6]) (condE_moves w0 m) (Hb3.out.trans (HB4.out.mono Hb3.out.size)) rfl (condE_moves w0 m _ _ _ _ _ _ ⟨_, rfl, HTt.out⟩ (fun b hb => ⟨HB4.out.block b hb.2, hb⟩)) (fun b hb => ⟨hb.1, Nat.lt_of_lt_of_le hb.2 HB4.out.size⟩) (by omega) hO6 hG6 hat6)
          have HB6 := hid (below_grown ((HB.out.trans (Hb3.out.mono (by omega))).trans (HB4.out.mono (by have := Hb3.out.size; omega))) HL4.out.row (Nat.le_refl _) (by omega) hG6)
          rw [← HTk.out] at HL6
          clear hO6 hG6 hat6
          go_wp2_with fail
          go_roundg (nK t - (k + 1))
          case rel => exact ⟨k + 1, _, rfl, by omega, by go_num, HB6, HL6, HA3⟩
          case measure => omega
        · have HA4 := hid (HA2.out hok)
          exact ⟨rfl, Hbw.out.trans (b3.mono Hbw.out.size), .inr ⟨HA4.out, rfl⟩⟩
      · obtain rfl : k = nK t := by omega
        have HPl : Hid ((prs t).take (nK t) = prs t) := by show _ = _; rw [List.take_of_length_le (by rw [prs_len]; omega)]
        rw [HPl.out] at HL
        have HRow : Hid (FilB w0 wr (newB w wr) (m + 1) u3 t) := by
          obtain ⟨A, c, hv, hr⟩ := bld_one (w := w) HL.out (by omega)
          rw [prs_len] at hv
          refine ⟨A, c, hv, by omega, fun i hi => ?_⟩
          obtain ⟨b, u, h1, h2, h3, h4⟩ := hr i (by rw [prs_len]; exact hi)
          obtain ⟨u', h5, h6⟩ := HL.out.el i (by rw [prs_len]; exact hi)
          have h7 := h3 u' h5
          subst h7
          rw [prs_get] at h6
          have mv : ∀ b, newX (w.heap.size + 1) u3 wr b → wr.heap[b]? = wr.heap[b]? ∧ newB w wr b := fun b hb => ⟨rfl, by have := hb.1; omega, hb.2.1⟩
          exact ⟨b, 0, u', h1, h2, h4, h6.move mv (FilB.move mv m)⟩
        have HOK2 := hid (HOK.out.trans HN.out)
        go_wp2_with fail
        go_ret
        exact ⟨Hbw.out, .inl ⟨HOK2.out, _, rfl, HRow.out⟩⟩
  · have e6 : (kindOf t == 6) = false := by simpa using k6
    have HOK : Hid (okFil (m + 1) t = false) := by show _ = _; rw [okFil, e6]; rfl
    clear k6
    go_enter Tryz.func85, Tryz.ntmps85
    go_wp2_with fail
    refine (need_any false _).mono ?_
    rintro e w2 ⟨rfl, he⟩
    simp only [Bool.false_eq_true, if_false] at he
    subst he
    exact ⟨rfl, HB1.out, .inr ⟨HOK.out, rfl⟩⟩
theorem pf_any {Tb : World → Prop} (hS : SplitSaid Tb) (hL : Lies Tb) (w0 : Org) : ∀ f, PfSaid Tb w0 f
  | 0 => fun _ _ _ _ _ h => h.elim
  | 1 => pf_step hS hL w0 0 (fun _ _ _ _ _ h => h.elim)
  | f + 2 => pf_step hS hL w0 (f + 1) (pfs_step hL w0 f (pf_any hS hL w0 f))
end Go.Proofs.YtknakfpciccoaabGreatDoor
/- refusal.Attempt for filters; filter.Parse. -/
namespace Go.Proofs.YtknakfpciccoaabGreatDoor
open Go.RowKit
set_option maxHeartbeats 1000000 in
set_option maxRecDepth 100000 in
theorem catchF_refusal (be : Nat) (n : Int) (w : World) (x : Value) (h5 : w.cell? ⟨be, 0, none⟩ = some x) (f5 : w.frozen? ⟨be, 0, none⟩ = false) :
    CallsD Tryz.prog 115 #[.pointer (some ⟨be, 0, none⟩)] (.panicking [{ v := .iface 88 (.int .i64 n), recovered := false }]) w fun e u' w' =>
      e = .returned (.tuple #[]) ∧ u' = .panicking [{ v := .iface 88 (.int .i64 n), recovered := true }] ∧ w' = w.setCell ⟨be, 0, none⟩ (.int .i64 n) := by
  refine callsD_of_wpS Tryz.func115 rfl fun c₀ cs hu => ?_
  apply wpS_seq
  apply wpS_region
  simp [wpOpsS, go_sem, recoverD, hu, Tryz.ntmps115, Exit.thenS]
  refine wpS_of_wp ?_
  have hta := assert_refusal n
  have e : (#[Value.pointer (some { block := be, off := 0 })] ++ (Array.replicate 10 undef).setIfInBounds 3 (Value.iface 88 (Value.int IntKind.i64 n))) = #[.pointer (some ⟨be, 0, none⟩), undef, undef, undef, .iface 88 (.int .i64 n), undef, undef, undef, undef, undef, undef] := rfl
  rw [e]
  go_wp2_with fail
  simp [bodyPostS, results, Tryz.results115]
set_option maxHeartbeats 1000000 in
set_option maxRecDepth 100000 in
theorem catchF_idle (be : Nat) (w : World) :
    CallsD Tryz.prog 115 #[.pointer (some ⟨be, 0, none⟩)] .returning w fun e u' w' => e = .returned (.tuple #[]) ∧ u' = .returning ∧ w' = w := by
  refine callsD_of_wpS Tryz.func115 rfl fun c₀ cs hu => ?_
  apply wpS_seq
  apply wpS_region
  simp [wpOpsS, go_sem, recoverD, hu, Tryz.ntmps115, Exit.thenS]
  refine wpS_of_wp ?_
  go_wp2_with fail
  cases c₀
  simp_all [bodyPostS, results, Tryz.results115]
def boxErr (w : World) : World := w.alloc (.cells #[.int .i64 0] 29)
theorem boxErr_facts (w : World) : (boxErr w).cell? ⟨w.heap.size, 0, none⟩ = some (.int .i64 0) ∧ (boxErr w).frozen? ⟨w.heap.size, 0, none⟩ = false ∧ (boxErr w).heap.size = w.heap.size + 1 ∧ Below w.heap.size w (boxErr w) :=
  ⟨by simp [boxErr, go_sem], by simp [boxErr, go_sem], by simp [boxErr], (Below.refl _ _).alloc (Nat.le_refl _) _⟩
/-- How a reader of a filter ends. -/
def EndsF (Q : Prop) (R : Value → World → Prop) (w : World) (e : Ending) (w' : World) : Prop :=
  Below w.heap.size w w' ∧ ((∃ v, e = .returned v ∧ R v w') ∨ (Q ∧ e = refused 8))
set_option maxHeartbeats 1000000 in
set_option maxRecDepth 100000 in
theorem attemptF (g : Nat) (hg : ∀ (a : Array Value) (w : World), (callFunc g a).run Tryz.prog w = .ok (.enter g a) w) (Q : Prop) (R : Value → World → Prop) (p : Value) (w : World)
    (h : Calls Tryz.prog g #[p] (boxErr w) (EndsF Q R (boxErr w))) :
    Calls Tryz.prog 83 #[.func (Fn.func g) #[] #[p]] w fun e w' => Below w.heap.size w w' ∧ ((∃ x w2, e = .returned (.tuple #[x, .int .i64 0]) ∧ R x w2 ∧ Above (w.heap.size + 1) w2 w' ∧ Below w.heap.size w w2) ∨ (Q ∧ e = .returned (.tuple #[.slice none 0 0, .int .i64 8]))) := by
  have hmf : ∀ (fn : Fn) (first cap : Array Value) (w : World), (Instr.makeFunc fn first cap).run Tryz.prog w = .ok (.func fn first cap) w := fun _ _ _ _ => rfl
  have H := hid h
  have HF := hid (boxErr_facts w)
  clear h
  go_enter_defers Tryz.func83, Tryz.ntmps83
  go_wp2_with fail
  refine H.out.mono ?_
  rintro e w1 ⟨hb, hr⟩
  have l0 : w.heap.size < (boxErr w).heap.size := by have := HF.out.2.2.1; omega
  have a5 := (hb.cell (p := ⟨w.heap.size, 0, none⟩) l0).trans HF.out.1
  have z5 := (hb.frozen (p := ⟨w.heap.size, 0, none⟩) l0).trans HF.out.2.1
  have HB := hid (HF.out.2.2.2.trans (hb.mono HF.out.2.2.2.size))
  clear hb l0 H
  rcases hr with ⟨v, rfl, hR⟩ | ⟨hQ, rfl⟩
  · have HR := hid hR
    clear hR
    go_wp2_with fail
    refine leaves_cons (f := 115) (args := #[.pointer (some ⟨w.heap.size, 0, none⟩)]) (by simp) (by simp [go_sem]) ?_
    refine (catchF_idle w.heap.size _).mono ?_
    rintro e u' w'' ⟨rfl, rfl, rfl⟩
    simp only [Leaves, settle]
    refine ⟨_, by simp [results, Tryz.results83, go_sem, *], ?_, Or.inl ⟨_, w1, rfl, HR.out, ?_, HB.out⟩⟩
    · exact HB.out.setCell (Nat.le_refl _) _
    · exact (Above.refl _ _).set (by omega) _ _
  · have HQ := hid hQ
    clear hQ
    go_wp2_with fail
    refine leaves_cons (f := 115) (args := #[.pointer (some ⟨w.heap.size, 0, none⟩)]) (by simp) (by simp [go_sem]) ?_
    refine (catchF_refusal w.heap.size 8 _ _ a5 z5).mono ?_
    rintro e u' w'' ⟨rfl, rfl, rfl⟩
    simp only [settle]
    refine ⟨_, by simp [results, Tryz.results83, go_sem, *], ?_, Or.inr ⟨HQ.out, rfl⟩⟩
    exact HB.out.setCell (Nat.le_refl _) _
/-- What filter.Parse answers. -/
def FilPost (w0 : Org) (t : T) (w : World) (e : Ending) (w' : World) : Prop :=
  Below w.heap.size w w' ∧ ((okFil 16 t = true ∧ ∃ fv, e = .returned (.tuple #[fv, .int .i64 0]) ∧ FilB w0 w' (newB w w') 16 fv t) ∨ (okFil 16 t = false ∧ e = .returned (.tuple #[.slice none 0 0, .int .i64 8])))
set_option maxHeartbeats 4000000 in
set_option maxRecDepth 100000 in
theorem fParseIn_any {Tb : World → Prop} (hS : SplitSaid Tb) (hL : Lies Tb) (w0 : Org) (f : Nat) (v : Value) (t : T) (w : World) (hf : f ≤ 16) (ha : At0 w0 f v t) (kj : okA t) (hb0 : Below w0.w.heap.size w0.w w) (hT : Tb w) (p : Nat)
    (La Ka : Option Addr) (Lc Kc : Nat) (hv : v = .agg #[.int .i64 (kindOf t), .int .i64 (nOf t), .string (sOf t), .slice La (nL t) Lc, .slice Ka (nK t) Kc])
    (q0 : w.cell? ⟨p, 0, none⟩ = some (.int .i64 (kindOf t))) (q1 : w.cell? ⟨p, 1, none⟩ = some (.int .i64 (nOf t))) (q2 : w.cell? ⟨p, 2, none⟩ = some (.string (sOf t))) (q3 : w.cell? ⟨p, 3, none⟩ = some (.slice La (nL t) Lc)) (q4 : w.cell? ⟨p, 4, none⟩ = some (.slice Ka (nK t) Kc)) :
    Calls Tryz.prog 84 #[.pointer (some ⟨p, 0, none⟩)] w (EndsF (okFil 16 t = false) (fun fv w' => okFil 16 t = true ∧ FilB w0 w' (newB w w') 16 fv t) w) := by
  subst hv
  have HC := hid (pf_any hS hL w0 f 16 _ t w hf ha hf kj hb0 hT)
  clear ha kj hb0 hT hS hL hf
  go_enter Tryz.func84, Tryz.ntmps84
  go_wp2_with fail
  refine HC.out.mono ?_
  rintro e w3 ⟨b3, ⟨hok, fv, rfl, hr⟩ | ⟨hok, rfl⟩⟩
  · have HB3 := hid b3
    have HR := hid hr
    have HK := hid hok
    clear b3 hr hok
    go_wp2_with fail
    go_ret
    exact ⟨HB3.out, .inl ⟨_, rfl, HK.out, HR.out⟩⟩
  · exact ⟨rfl, b3, .inr ⟨hok, rfl⟩⟩
set_option maxHeartbeats 4000000 in
set_option maxRecDepth 100000 in
theorem fParse_any {Tb : World → Prop} (hS : SplitSaid Tb) (hL : Lies Tb) (w0 : Org) (f : Nat) (v : Value) (t : T) (w : World) (hf : f ≤ 16) (ha : At0 w0 f v t) (kj : okA t) (hb0 : Below w0.w.heap.size w0.w w) (hT : Tb w) :
    Calls Tryz.prog 55 #[v] w (FilPost w0 t w) := by
  have hmf : ∀ (fn : Fn) (first cap : Array Value) (w : World), (Instr.makeFunc fn first cap).run Tryz.prog w = .ok (.func fn first cap) w := fun _ _ _ _ => rfl
  obtain ⟨g1, La, Ka, Lc, Kc, hg1, hv, _, _, _⟩ := ha.open
  have HB1 : Hid (Below w.heap.size w (w.alloc (.cells #[.int .i64 (kindOf t), .int .i64 (nOf t), .string (sOf t), .slice La (nL t) Lc, .slice Ka (nK t) Kc] 36))) := (Below.refl _ _).alloc (Nat.le_refl _) _
  have HE := hid (boxErr_facts (w.alloc (.cells #[.int .i64 (kindOf t), .int .i64 (nOf t), .string (sOf t), .slice La (nL t) Lc, .slice Ka (nK t) Kc] 36)))
  have hbb : Below (w.heap.size + 1) (w.alloc (.cells #[.int .i64 (kindOf t), .int .i64 (nOf t), .string (sOf t), .slice La (nL t) Lc, .slice Ka (nK t) Kc] 36)) (boxErr (w.alloc (.cells #[.int .i64 (kindOf t), .int .i64 (nOf t), .string (sOf t), .slice La (nL t) Lc, .slice Ka (nK t) Kc] 36))) := HE.out.2.2.2.mono (by simp)
  obtain ⟨q0, q1, q2, q3, q4, hz, hbw⟩ := box_facts hbb
  have HI := hid (fParseIn_any hS hL w0 f v t (boxErr (w.alloc (.cells #[.int .i64 (kindOf t), .int .i64 (nOf t), .string (sOf t), .slice La (nL t) Lc, .slice Ka (nK t) Kc] 36))) hf ha kj (hb0.trans (hbw.mono hb0.size)) (hL w hT _ _ hT hbw) w.heap.size La Ka Lc Kc hv q0 q1 q2 q3 q4)
  have HA := hid (attemptF 84 (fun _ _ => rfl) (okFil 16 t = false) _ (.pointer (some ⟨w.heap.size, 0, none⟩)) _ HI.out)
  subst hv
  clear ha kj hb0 hT hS hL hf hbb q0 q1 q2 q3 q4 hz hbw HI
  go_enter Tryz.func55, Tryz.ntmps55
  go_wp2_with fail
  refine HA.out.mono ?_
  rintro e w3 ⟨b3, ⟨x, w2, rfl, ⟨hok, hr⟩, hab, hb2⟩ | ⟨hok, rfl⟩⟩
  · have HB3 := hid (HB1.out.trans (b3.mono HB1.out.size))
    have HK := hid hok
    have mv : ∀ b, newB (boxErr (w.alloc (.cells #[.int .i64 (kindOf t), .int .i64 (nOf t), .string (sOf t), .slice La (nL t) Lc, .slice Ka (nK t) Kc] 36))) w2 b → w3.heap[b]? = w2.heap[b]? ∧ newB w w3 b := fun b hb => by
      have h1 := HE.out.2.2.1
      have h2 := hb.1
      have h3 := hab.size
      have h4 := hb.2
      have h5 : (w.alloc (.cells #[.int .i64 (kindOf t), .int .i64 (nOf t), .string (sOf t), .slice La (nL t) Lc, .slice Ka (nK t) Kc] 36)).heap.size = w.heap.size + 1 := by simp
      exact ⟨hab.block b (by omega), by omega, by omega⟩
    have HR := hid (FilB.move (w0 := w0) mv 16 _ _ hr)
    clear b3 hr hok hab hb2 mv
    go_wp2_with fail
    refine bodyPost_ret (v := .tuple #[x, .int .i64 0]) (by simp [results, Tryz.results55, go_sem, *]) rfl ?_
    exact ⟨HB3.out, .inl ⟨HK.out, _, rfl, HR.out⟩⟩
  · have HB3 := hid (HB1.out.trans (b3.mono HB1.out.size))
    have HK := hid hok
    clear b3 hok
    go_wp2_with fail
    refine bodyPost_ret (v := .tuple #[.slice none 0 0, .int .i64 8]) (by simp [results, Tryz.results55, go_sem, *]) rfl ?_
    exact ⟨HB3.out, .inr ⟨HK.out, rfl⟩⟩
end Go.Proofs.YtknakfpciccoaabGreatDoor
/- Expressions are read: what a reader's answer says, wherever what is older is kept; OnlyEntry; the leaves. -/
namespace Go.Proofs.YtknakfpciccoaabGreatDoor
open Go.RowKit

theorem get_lt {w w' : World} {b : Nat} (h : b < w.heap.size) (e : w'.heap[b]? = w.heap[b]?) : b < w'.heap.size := by
  rw [Array.getElem?_eq_getElem h] at e
  exact (Array.getElem?_eq_some_iff.1 e).1
/-- What holds in all worlds that have what wB has, and what w has in some blocks of X. -/
def Sat (wB w : World) (X : Nat → Prop) (P : World → Prop) : Prop := ∃ Y : Nat → Prop, (∀ b, Y b → X b ∧ b < w.heap.size) ∧ ∀ w' : World, Below wB.heap.size wB w' → (∀ b, Y b → w'.heap[b]? = w.heap[b]?) → P w'
theorem Sat.move {wB w w1 : World} {X X1 : Nat → Prop} {P : World → Prop} (h : Sat wB w X P) (hb : ∀ b, X b → w1.heap[b]? = w.heap[b]? ∧ X1 b) : Sat wB w1 X1 P := by
  obtain ⟨Y, h1, h2⟩ := h
  exact ⟨Y, fun b hy => ⟨(hb b (h1 b hy).1).2, get_lt (h1 b hy).2 (hb b (h1 b hy).1).1⟩, fun w' hw hy => h2 w' hw fun b hb' => (hy b hb').trans (hb b (h1 b hb').1).1⟩
theorem Sat.mono {wB w : World} {X : Nat → Prop} {P Q : World → Prop} (h : Sat wB w X P) (hPQ : ∀ w' : World, Below wB.heap.size wB w' → P w' → Q w') : Sat wB w X Q := by
  obtain ⟨Y, h1, h2⟩ := h
  exact ⟨Y, h1, fun w' hw hy => hPQ w' hw (h2 w' hw hy)⟩
theorem Sat.and {wB w : World} {X : Nat → Prop} {P Q : World → Prop} (h : Sat wB w X P) (h' : Sat wB w X Q) : Sat wB w X (fun x => P x ∧ Q x) := by
  obtain ⟨Y, h1, h2⟩ := h
  obtain ⟨Z, h3, h4⟩ := h'
  exact ⟨fun b => Y b ∨ Z b, fun b hb => hb.elim (h1 b) (h3 b), fun w' hw hy => ⟨h2 w' hw fun b hb => hy b (.inl hb), h4 w' hw fun b hb => hy b (.inr hb)⟩⟩
theorem Sat.at {wB w : World} {X : Nat → Prop} {P : World → Prop} (h : Sat wB w X P) (hb : Below wB.heap.size wB w) : P w := by
  obtain ⟨Y, h1, h2⟩ := h
  exact h2 w hb fun _ _ => rfl
theorem Sat.all {wB w : World} {X : Nat → Prop} {P : World → Prop} (h : ∀ w' : World, Below wB.heap.size wB w' → P w') : Sat wB w X P := ⟨fun _ => False, fun _ hb => hb.elim, fun w' hw _ => h w' hw⟩
theorem Sat.later {wB w0 wa w1 w2 : World} {P : World → Prop} (h : Sat wB w1 (newB w0 w1) P) (hb : Below w1.heap.size w1 w2) (hs : wa.heap.size ≤ w0.heap.size) : Sat wB w2 (newB wa w2) P :=
  h.move fun b hx => ⟨hb.block b hx.2, Nat.le_trans hs hx.1, Nat.lt_of_lt_of_le hx.2 hb.size⟩
/-- How a reader of expressions ends well. -/
def XpPost (Tb : World → Prop) (wB : World) (g : T → Int ⊕ T) (w : World) (e : Ending) (w' : World) : Prop :=
  Below w.heap.size w w' ∧ ∃ ty p, e = .returned (.iface ty p) ∧ Sat wB w' (newB w w') (fun x => ExprOk Tb x (.iface ty p) g)
def PxSaid (Tb : World → Prop) (t : T) (g : T → Int ⊕ T) : Prop := ∀ (v : Value) (wB w : World), At wB 13 v t → okA t → Below wB.heap.size wB w → Tb w → Calls Tryz.prog 177 #[v] w (XpPost Tb wB g w)
set_option maxHeartbeats 4000000 in
set_option maxRecDepth 100000 in
theorem needE_any (w : World) : Calls Tryz.prog 187 #[.bool true] w fun e w' => w' = w ∧ e = .returned (.tuple #[]) := by
  have HC := hid (unless_any true 9 w)
  simp only [if_true] at HC
  go_enter Tryz.func187, Tryz.ntmps187
  go_wp2_with fail
  refine HC.out.mono ?_
  rintro e w2 ⟨rfl, rfl⟩
  go_wp2_with fail
  refine bodyPost_end (v := .tuple #[]) (by simp [results, Tryz.results187, go_sem]) rfl ?_
  exact ⟨rfl, rfl⟩
set_option maxHeartbeats 4000000 in
set_option maxRecDepth 100000 in
theorem needP_any (w : World) : Calls Tryz.prog 93 #[.bool true] w fun e w' => w' = w ∧ e = .returned (.tuple #[]) := by
  have HC := hid (unless_any true 9 w)
  simp only [if_true] at HC
  go_enter Tryz.func93, Tryz.ntmps93
  go_wp2_with fail
  refine HC.out.mono ?_
  rintro e w2 ⟨rfl, rfl⟩
  go_wp2_with fail
  refine bodyPost_end (v := .tuple #[]) (by simp [results, Tryz.results93, go_sem]) rfl ?_
  exact ⟨rfl, rfl⟩
set_option maxHeartbeats 4000000 in
set_option maxRecDepth 100000 in
theorem only_any (t j : T) (hj : elt t 0 = j) (v : Value) (w0 w : World) (h : At w0 13 v t) (hk : okA t) (k6 : kindOf t = 6) (k1 : nK t = 1) (hb0 : Below w0.heap.size w0 w) :
    Calls Tryz.prog 147 #[v] w fun e w' => Below w.heap.size w w' ∧ ∃ A B C D, e = .returned (.tuple #[.string (nam t 0), .agg #[.int .i64 (kindOf j), .int .i64 (nOf j), .string (sOf j), .slice A (nL j) B, .slice C (nK j) D], .bool true]) ∧ At w0 13 (.agg #[.int .i64 (kindOf j), .int .i64 (nOf j), .string (sOf j), .slice A (nL j) B, .slice C (nK j) D]) j := by
  obtain ⟨g1, La, Ka, Lc, Kc, hg1, rfl, hfj, hel, hnm⟩ := h.open
  have l1 : nL t = 1 := by have := hk.names k6; omega
  have HB1 : Hid (Below w.heap.size w ((w.alloc (.cells #[.int .i64 (kindOf t), .int .i64 (nOf t), .string (sOf t), .slice La (nL t) Lc, .slice Ka (nK t) Kc] 36)).alloc (.cells #[.int .i64 0, .int .i64 0, .string ⟨#[]⟩, .slice none 0 0, .slice none 0 0] 36))) := ((Below.refl _ _).alloc (Nat.le_refl _) _).alloc (by simp) _
  obtain ⟨kb, ko, rfl, hkb, hks, hkc⟩ := hnm.out.keep (hb0.trans (HB1.out.drew.mono hb0.size)) 0 (by omega)
  obtain ⟨bb, oo, A, B, C, D, rfl, hbl, p0, p1, p2, p3, p4, Ha⟩ := hel.out.shape (hb0.trans (HB1.out.drew.mono hb0.size)) 0 (by omega)
  simp only [Nat.add_zero, Nat.zero_mul] at hkc p0 p1 p2 p3 p4
  rw [hj] at p0 p1 p2 p3 p4 Ha
  have HAt := hid (Ha.out.up (show g1 ≤ 13 by omega))
  rw [k6, k1, l1] at *
  clear h hk hel hnm hfj Ha hb0 hg1 hks hkb hbl
  go_enter Tryz.func147, Tryz.ntmps147
  go_wp2_with fail
  go_region_law (fail)
  all_goals
    go_wp2_with fail
    refine bodyPost_ret (v := .tuple #[.string (nam t 0), .agg #[.int .i64 (kindOf j), .int .i64 (nOf j), .string (sOf j), .slice A (nL j) B, .slice C (nK j) D], .bool true]) (by simp [results, Tryz.results147, go_sem, *]) rfl ?_
    have hb : Below w.heap.size w (((w.alloc (.cells #[.int .i64 6, .int .i64 (nOf t), .string (sOf t), .slice (some ⟨bb, oo, none⟩) 1 Lc, .slice (some ⟨kb, ko, none⟩) 1 Kc] 36)).alloc (.cells #[.int .i64 (kindOf j), .int .i64 (nOf j), .string (sOf j), .slice A (nL j) B, .slice C (nK j) D] 36)).drew) := (((Below.refl _ _).alloc (Nat.le_refl _) _).alloc (by simp) _).drew
    exact ⟨hb, A, B, C, D, rfl, HAt.out⟩
end Go.Proofs.YtknakfpciccoaabGreatDoor
/- Expressions are read: texts, values themselves; expr.Parse. -/
namespace Go.Proofs.YtknakfpciccoaabGreatDoor
open Go.RowKit

set_option maxHeartbeats 4000000 in
set_option maxRecDepth 100000 in
theorem ptext_found {Tb : World → Prop} (hA : AtoiSaid Tb) (hI : ItoaSaid Tb) (hSp : SplitSaid Tb) (hL : Lies Tb) (t : T) (x : ByteArray) (v : Value) (wB w : World) (ha : At wB 13 v t) (hop : isOp (sOf t) = true) (hx : (sOf t).extract 1 (sOf t).size = x) (h1 : 1 ≤ (sOf t).size) (h2 : (sOf t).size ≤ 1048576) (hp : pathOk x = true) (hT : Tb w) : Calls Tryz.prog 186 #[v] w (XpPost Tb wB (fun d => .inr (orNull (splitP x) d)) w) := by
  obtain ⟨g1, La, Ka, Lc, Kc, hg1, rfl, _, _, _⟩ := ha.open
  have HB1 : Hid (Below w.heap.size w (w.alloc (.cells #[.int .i64 (kindOf t), .int .i64 (nOf t), .string (sOf t), .slice La (nL t) Lc, .slice Ka (nK t) Kc] 36))) := (Below.refl _ _).alloc (Nat.le_refl _) _
  have hxs : x.size ≤ 1048576 := by rw [← hx, ByteArray.size_extract]; omega
  have HP := hid (pathParse_any hSp x _ hxs (hL w hT _ _ hT HB1.out))
  have HF : Hid (∀ (pv : Value) (w1 w' : World), StrsB w1 (newB w w1) pv (splitP x) → Sat wB w1 (newB w w1) (fun y => ExprOk Tb y (.iface 266 (.agg #[pv])) (fun d => .inr (orNull (splitP x) d)))) := fun pv w1 w' hs => ⟨newB w w1, fun b hb => ⟨hb, hb.2⟩, fun w2 hw hy => found_ok hA hI hL ((hs.move (X' := fun b => b < w2.heap.size) fun b hb => ⟨hy b hb, get_lt hb.2 (hy b hb)⟩).at fun b hb => hb)⟩
  have HC := hid (isOperator_any (sOf t))
  rw [hop] at HC
  have h1i : (1 : Int) ≤ ((sOf t).size : Int) := by omega
  clear ha hop hg1 hT hA hI hSp hL
  go_enter Tryz.func186, Tryz.ntmps186
  go_wp2_with fail
  refine (HC.out _).mono ?_
  rintro e w2 ⟨rfl, rfl⟩
  go_wp2_with fail
  refine HP.out.mono ?_
  rintro e w3 ⟨b3, ⟨_, pv, rfl, hs⟩ | ⟨h, _⟩⟩
  · have HB3 := hid (HB1.out.trans (b3.mono HB1.out.size))
    have HSt := hid (HF.out pv w3 w3 (hs.move fun b hb => ⟨rfl, by have := hb.1; simp at this; omega, hb.2⟩))
    obtain ⟨PA, pc, hpv, hz1, hz2⟩ := hs
    subst hpv
    clear b3 HP HF hz1 hz2
    go_wp2_with fail
    refine (needE_any _).mono ?_
    rintro e w4 ⟨rfl, rfl⟩
    go_wp2_with fail
    go_ret
    exact ⟨HB3.out, _, _, rfl, HSt.out⟩
  · rw [hp] at h; cases h
set_option maxHeartbeats 4000000 in
set_option maxRecDepth 100000 in
theorem pexpr_leaf (Tb : World → Prop) (t : T) (h : kindOf t = 1 ∨ kindOf t = 2 ∨ kindOf t = 3) : PxSaid Tb t (fun _ => .inr t) := by
  intro v wB w ha hk hb0 hT
  have Ha := hid ha
  obtain ⟨g1, La, Ka, Lc, Kc, hg1, rfl, _, _, _⟩ := ha.open
  have HB1 : Hid (Below w.heap.size w (w.alloc (.cells #[.int .i64 (kindOf t), .int .i64 (nOf t), .string (sOf t), .slice La (nL t) Lc, .slice Ka (nK t) Kc] 36))) := (Below.refl _ _).alloc (Nat.le_refl _) _
  have HS : Hid (∀ (x : World) (X : Nat → Prop), Sat wB x X (fun x => ExprOk Tb x (.iface 257 (.agg #[.int .i64 (kindOf t), .int .i64 (nOf t), .string (sOf t), .slice La (nL t) Lc, .slice Ka (nK t) Kc])) (fun _ => .inr t))) := fun x X => Sat.all fun w' hb => itself_ok Tb (Ha.out.keep hb) hk
  clear ha hk hg1 Ha hb0 hT
  rcases h with k | k | k
  all_goals
    rw [k] at HS HB1 ⊢
    go_enter Tryz.func177, Tryz.ntmps177
    go_wp2_with fail
    go_ret
    exact ⟨HB1.out, _, _, rfl, HS.out _ _⟩
set_option maxHeartbeats 4000000 in
set_option maxRecDepth 100000 in
theorem pexpr_text {Tb : World → Prop} (hL : Lies Tb) (t : T) (g : T → Int ⊕ T) (k4 : kindOf t = 4) (h : ∀ (v : Value) (wB w : World), At wB 13 v t → okA t → Below wB.heap.size wB w → Tb w → Calls Tryz.prog 186 #[v] w (XpPost Tb wB g w)) : PxSaid Tb t g := by
  intro v wB w ha hk hb0 hT
  obtain ⟨g1, La, Ka, Lc, Kc, hg1, rfl, _, _, _⟩ := ha.open
  have HB1 : Hid (Below w.heap.size w (w.alloc (.cells #[.int .i64 (kindOf t), .int .i64 (nOf t), .string (sOf t), .slice La (nL t) Lc, .slice Ka (nK t) Kc] 36))) := (Below.refl _ _).alloc (Nat.le_refl _) _
  have HC := hid (h _ wB _ ha hk (hb0.trans (HB1.out.mono hb0.size)) (hL w hT _ _ hT HB1.out))
  rw [k4] at HB1 HC ⊢
  clear ha hk hg1 hb0 hT h hL k4
  go_enter Tryz.func177, Tryz.ntmps177
  go_wp2_with fail
  refine HC.out.mono ?_
  rintro e w2 ⟨b2, ty, p, rfl, hs⟩
  have HB2 := hid (HB1.out.trans (b2.mono HB1.out.size))
  have HS := hid (hs.later (wa := w) (Below.refl _ _) (by simp))
  clear b2 hs HC
  go_wp2_with fail
  go_ret
  exact ⟨HB2.out, _, _, rfl, HS.out⟩
end Go.Proofs.YtknakfpciccoaabGreatDoor
/- expr.Parse; what the readers of pipelines read first. -/
namespace Go.Proofs.YtknakfpciccoaabGreatDoor
open Go.RowKit

set_option maxHeartbeats 1000000 in
set_option maxRecDepth 100000 in
theorem catchE_idle (be : Nat) (w : World) :
    CallsD Tryz.prog 185 #[.pointer (some ⟨be, 0, none⟩)] .returning w fun e u' w' => e = .returned (.tuple #[]) ∧ u' = .returning ∧ w' = w := by
  refine callsD_of_wpS Tryz.func185 rfl fun c₀ cs hu => ?_
  apply wpS_seq
  apply wpS_region
  simp [wpOpsS, go_sem, recoverD, hu, Tryz.ntmps185, Exit.thenS]
  refine wpS_of_wp ?_
  go_wp2_with fail
  cases c₀
  simp_all [bodyPostS, results, Tryz.results185]
set_option maxHeartbeats 1000000 in
set_option maxRecDepth 100000 in
theorem attemptE (g : Nat) (hg : ∀ (a : Array Value) (w : World), (callFunc g a).run Tryz.prog w = .ok (.enter g a) w) (R : Value → World → Prop) (p : Value) (w : World)
    (h : Calls Tryz.prog g #[p] (boxErr w) fun e w' => Below (boxErr w).heap.size (boxErr w) w' ∧ ∃ v, e = .returned v ∧ R v w') :
    Calls Tryz.prog 175 #[.func (Fn.func g) #[] #[p]] w fun e w' => Below w.heap.size w w' ∧ ∃ x w2, e = .returned (.tuple #[x, .int .i64 0]) ∧ R x w2 ∧ Above (w.heap.size + 1) w2 w' ∧ Below w.heap.size w w2 := by
  have hmf : ∀ (fn : Fn) (first cap : Array Value) (w : World), (Instr.makeFunc fn first cap).run Tryz.prog w = .ok (.func fn first cap) w := fun _ _ _ _ => rfl
  have H := hid h
  have HF := hid (boxErr_facts w)
  clear h
  go_enter_defers Tryz.func175, Tryz.ntmps175
  go_wp2_with fail
  refine H.out.mono ?_
  rintro e w1 ⟨hb, v, rfl, hR⟩
  have l0 : w.heap.size < (boxErr w).heap.size := by have := HF.out.2.2.1; omega
  have a5 := (hb.cell (p := ⟨w.heap.size, 0, none⟩) l0).trans HF.out.1
  have z5 := (hb.frozen (p := ⟨w.heap.size, 0, none⟩) l0).trans HF.out.2.1
  have HB := hid (HF.out.2.2.2.trans (hb.mono HF.out.2.2.2.size))
  clear hb l0 H
  have HR := hid hR
  clear hR
  go_wp2_with fail
  refine leaves_cons (f := 185) (args := #[.pointer (some ⟨w.heap.size, 0, none⟩)]) (by simp) (by simp [go_sem]) ?_
  refine (catchE_idle w.heap.size _).mono ?_
  rintro e u' w'' ⟨rfl, rfl, rfl⟩
  simp only [Leaves, settle]
  refine ⟨_, by simp [results, Tryz.results175, go_sem, *], ?_, _, w1, rfl, HR.out, ?_, HB.out⟩
  · exact HB.out.setCell (Nat.le_refl _) _
  · exact (Above.refl _ _).set (by omega) _ _
set_option maxHeartbeats 1000000 in
set_option maxRecDepth 100000 in
theorem catchP_idle (be : Nat) (w : World) :
    CallsD Tryz.prog 92 #[.pointer (some ⟨be, 0, none⟩)] .returning w fun e u' w' => e = .returned (.tuple #[]) ∧ u' = .returning ∧ w' = w := by
  refine callsD_of_wpS Tryz.func92 rfl fun c₀ cs hu => ?_
  apply wpS_seq
  apply wpS_region
  simp [wpOpsS, go_sem, recoverD, hu, Tryz.ntmps92, Exit.thenS]
  refine wpS_of_wp ?_
  go_wp2_with fail
  cases c₀
  simp_all [bodyPostS, results, Tryz.results92]
set_option maxHeartbeats 1000000 in
set_option maxRecDepth 100000 in
theorem attemptP (g : Nat) (hg : ∀ (a : Array Value) (w : World), (callFunc g a).run Tryz.prog w = .ok (.enter g a) w) (R : Value → World → Prop) (p : Value) (w : World)
    (h : Calls Tryz.prog g #[p] (boxErr w) fun e w' => Below (boxErr w).heap.size (boxErr w) w' ∧ ∃ v, e = .returned v ∧ R v w') :
    Calls Tryz.prog 62 #[.func (Fn.func g) #[] #[p]] w fun e w' => Below w.heap.size w w' ∧ ∃ x w2, e = .returned (.tuple #[x, .int .i64 0]) ∧ R x w2 ∧ Above (w.heap.size + 1) w2 w' ∧ Below w.heap.size w w2 := by
  have hmf : ∀ (fn : Fn) (first cap : Array Value) (w : World), (Instr.makeFunc fn first cap).run Tryz.prog w = .ok (.func fn first cap) w := fun _ _ _ _ => rfl
  have H := hid h
  have HF := hid (boxErr_facts w)
  clear h
  go_enter_defers Tryz.func62, Tryz.ntmps62
  go_wp2_with fail
  refine H.out.mono ?_
  rintro e w1 ⟨hb, v, rfl, hR⟩
  have l0 : w.heap.size < (boxErr w).heap.size := by have := HF.out.2.2.1; omega
  have a5 := (hb.cell (p := ⟨w.heap.size, 0, none⟩) l0).trans HF.out.1
  have z5 := (hb.frozen (p := ⟨w.heap.size, 0, none⟩) l0).trans HF.out.2.1
  have HB := hid (HF.out.2.2.2.trans (hb.mono HF.out.2.2.2.size))
  clear hb l0 H
  have HR := hid hR
  clear hR
  go_wp2_with fail
  refine leaves_cons (f := 92) (args := #[.pointer (some ⟨w.heap.size, 0, none⟩)]) (by simp) (by simp [go_sem]) ?_
  refine (catchP_idle w.heap.size _).mono ?_
  rintro e u' w'' ⟨rfl, rfl, rfl⟩
  simp only [Leaves, settle]
  refine ⟨_, by simp [results, Tryz.results62, go_sem, *], ?_, _, w1, rfl, HR.out, ?_, HB.out⟩
  · exact HB.out.setCell (Nat.le_refl _) _
  · exact (Above.refl _ _).set (by omega) _ _
/-- What is known of blocks behind an attempt. -/
theorem Sat.attempt {wB w W w2 w3 : World} {P : World → Prop} (h : Sat wB w2 (newB (boxErr W) w2) P) (hW : w.heap.size ≤ W.heap.size) (hab : Above (W.heap.size + 1) w2 w3) : Sat wB w3 (newB w w3) P :=
  h.move fun b hb => by
    have h1 := (boxErr_facts W).2.2.1
    have h2 := hb.1
    have h3 := hab.size
    have h4 := hb.2
    exact ⟨hab.block b (by omega), by omega, by omega⟩
set_option maxHeartbeats 4000000 in
set_option maxRecDepth 100000 in
theorem eParseIn_any {Tb : World → Prop} (t : T) (g : T → Int ⊕ T) (h : PxSaid Tb t g) (v : Value) (wB w : World) (ha : At wB 13 v t) (hk : okA t) (hb0 : Below wB.heap.size wB w) (hT : Tb w) (p : Nat)
    (La Ka : Option Addr) (Lc Kc : Nat) (hv : v = .agg #[.int .i64 (kindOf t), .int .i64 (nOf t), .string (sOf t), .slice La (nL t) Lc, .slice Ka (nK t) Kc])
    (q0 : w.cell? ⟨p, 0, none⟩ = some (.int .i64 (kindOf t))) (q1 : w.cell? ⟨p, 1, none⟩ = some (.int .i64 (nOf t))) (q2 : w.cell? ⟨p, 2, none⟩ = some (.string (sOf t))) (q3 : w.cell? ⟨p, 3, none⟩ = some (.slice La (nL t) Lc)) (q4 : w.cell? ⟨p, 4, none⟩ = some (.slice Ka (nK t) Kc)) :
    Calls Tryz.prog 176 #[.pointer (some ⟨p, 0, none⟩)] w (XpPost Tb wB g w) := by
  subst hv
  have HC := hid (h _ wB w ha hk hb0 hT)
  clear ha hk hb0 hT h
  go_enter Tryz.func176, Tryz.ntmps176
  go_wp2_with fail
  refine HC.out.mono ?_
  rintro e w3 ⟨b3, ty, q, rfl, hs⟩
  have HB3 := hid b3
  have HS := hid hs
  clear b3 hs
  go_wp2_with fail
  go_ret
  exact ⟨HB3.out, _, _, rfl, HS.out⟩
set_option maxHeartbeats 4000000 in
set_option maxRecDepth 100000 in
theorem eParse_any {Tb : World → Prop} (hL : Lies Tb) (t : T) (g : T → Int ⊕ T) (h : PxSaid Tb t g) (v : Value) (wB w : World) (ha : At wB 13 v t) (hk : okA t) (hb0 : Below wB.heap.size wB w) (hT : Tb w) :
    Calls Tryz.prog 161 #[v] w fun e w' => Below w.heap.size w w' ∧ ∃ ty p, e = .returned (.tuple #[.iface ty p, .int .i64 0]) ∧ Sat wB w' (newB w w') (fun x => ExprOk Tb x (.iface ty p) g) := by
  have hmf : ∀ (fn : Fn) (first cap : Array Value) (w : World), (Instr.makeFunc fn first cap).run Tryz.prog w = .ok (.func fn first cap) w := fun _ _ _ _ => rfl
  obtain ⟨g1, La, Ka, Lc, Kc, hg1, hv, _, _, _⟩ := ha.open
  have HB1 : Hid (Below w.heap.size w (w.alloc (.cells #[.int .i64 (kindOf t), .int .i64 (nOf t), .string (sOf t), .slice La (nL t) Lc, .slice Ka (nK t) Kc] 36))) := (Below.refl _ _).alloc (Nat.le_refl _) _
  have HE := hid (boxErr_facts (w.alloc (.cells #[.int .i64 (kindOf t), .int .i64 (nOf t), .string (sOf t), .slice La (nL t) Lc, .slice Ka (nK t) Kc] 36)))
  have hbb : Below (w.heap.size + 1) (w.alloc (.cells #[.int .i64 (kindOf t), .int .i64 (nOf t), .string (sOf t), .slice La (nL t) Lc, .slice Ka (nK t) Kc] 36)) (boxErr (w.alloc (.cells #[.int .i64 (kindOf t), .int .i64 (nOf t), .string (sOf t), .slice La (nL t) Lc, .slice Ka (nK t) Kc] 36))) := HE.out.2.2.2.mono (by simp)
  obtain ⟨q0, q1, q2, q3, q4, hz, hbw⟩ := box_facts hbb
  have HI := hid (eParseIn_any t g h v wB (boxErr (w.alloc (.cells #[.int .i64 (kindOf t), .int .i64 (nOf t), .string (sOf t), .slice La (nL t) Lc, .slice Ka (nK t) Kc] 36))) ha hk (hb0.trans (hbw.mono hb0.size)) (hL w hT _ _ hT hbw) w.heap.size La Ka Lc Kc hv q0 q1 q2 q3 q4)
  have HA := hid (attemptE 176 (fun _ _ => rfl) (fun v w' => ∃ ty p, v = .iface ty p ∧ Sat wB w' (newB (boxErr (w.alloc (.cells #[.int .i64 (kindOf t), .int .i64 (nOf t), .string (sOf t), .slice La (nL t) Lc, .slice Ka (nK t) Kc] 36))) w') (fun x => ExprOk Tb x (.iface ty p) g)) (.pointer (some ⟨w.heap.size, 0, none⟩)) _ (HI.out.mono fun e w' hh => by
    obtain ⟨h1, ty, p, h2, h3⟩ := hh
    exact ⟨h1, _, h2, ty, p, rfl, h3⟩))
  subst hv
  clear ha hk hb0 hT h hL hbb q0 q1 q2 q3 q4 hz hbw HI hg1 HE
  go_enter Tryz.func161, Tryz.ntmps161
  go_wp2_with fail
  refine HA.out.mono ?_
  rintro e w3 ⟨b3, x, w2, rfl, ⟨ty, p, rfl, hs⟩, hab, hb2⟩
  have HB3 := hid (HB1.out.trans (b3.mono HB1.out.size))
  have HS := hid (hs.attempt (w := w) (by simp) hab)
  clear b3 hs hab hb2 HA
  go_wp2_with fail
  refine bodyPost_ret (v := .tuple #[.iface ty p, .int .i64 0]) (by simp [results, Tryz.results161, go_sem, *]) rfl ?_
  exact ⟨HB3.out, _, _, rfl, HS.out⟩
set_option maxHeartbeats 4000000 in
set_option maxRecDepth 100000 in
theorem ppExpr_any {Tb : World → Prop} (hL : Lies Tb) (t : T) (g : T → Int ⊕ T) (h : PxSaid Tb t g) (v : Value) (wB w : World) (ha : At wB 13 v t) (hk : okA t) (hb0 : Below wB.heap.size wB w) (hT : Tb w) :
    Calls Tryz.prog 148 #[v] w (XpPost Tb wB g w) := by
  obtain ⟨g1, La, Ka, Lc, Kc, hg1, hv, _, _, _⟩ := ha.open
  have HB1 : Hid (Below w.heap.size w (w.alloc (.cells #[.int .i64 (kindOf t), .int .i64 (nOf t), .string (sOf t), .slice La (nL t) Lc, .slice Ka (nK t) Kc] 36))) := (Below.refl _ _).alloc (Nat.le_refl _) _
  have HC := hid (eParse_any hL t g h v wB _ ha hk (hb0.trans (HB1.out.mono hb0.size)) (hL w hT _ _ hT HB1.out))
  subst hv
  clear ha hk hb0 hT h hL hg1
  go_enter Tryz.func148, Tryz.ntmps148
  go_wp2_with fail
  refine HC.out.mono ?_
  rintro e w3 ⟨b3, ty, p, rfl, hs⟩
  have HB3 := hid (HB1.out.trans (b3.mono HB1.out.size))
  have HS := hid (hs.later (wa := w) (Below.refl _ _) (by simp))
  clear b3 hs HC
  go_wp2_with fail
  refine (needP_any _).mono ?_
  rintro e w4 ⟨rfl, rfl⟩
  go_wp2_with fail
  go_ret
  exact ⟨HB3.out, _, _, rfl, HS.out⟩
set_option maxHeartbeats 4000000 in
set_option maxRecDepth 100000 in
theorem ppOp_any (t j : T) (x : ByteArray) (hj : elt t 0 = j) (hx : nam t 0 = x) (v : Value) (w0 w : World) (h : At w0 13 v t) (hk : okA t) (k6 : kindOf t = 6) (k1 : nK t = 1) (hb0 : Below w0.heap.size w0 w) :
    Calls Tryz.prog 121 #[v] w fun e w' => Below w.heap.size w w' ∧ ∃ A B C D, e = .returned (.tuple #[.string x, .agg #[.int .i64 (kindOf j), .int .i64 (nOf j), .string (sOf j), .slice A (nL j) B, .slice C (nK j) D]]) ∧ At w0 13 (.agg #[.int .i64 (kindOf j), .int .i64 (nOf j), .string (sOf j), .slice A (nL j) B, .slice C (nK j) D]) j := by
  have Ha := hid h
  obtain ⟨g1, La, Ka, Lc, Kc, hg1, rfl, _, _, _⟩ := h.open
  have HB1 : Hid (Below w.heap.size w ((w.alloc (.cells #[.int .i64 (kindOf t), .int .i64 (nOf t), .string (sOf t), .slice La (nL t) Lc, .slice Ka (nK t) Kc] 36)).alloc (.cells #[.int .i64 0, .int .i64 0, .string ⟨#[]⟩, .slice none 0 0, .slice none 0 0] 36))) := ((Below.refl _ _).alloc (Nat.le_refl _) _).alloc (by simp) _
  have HX : Hid (BoxAt (w.heap.size + 1) (.int .i64 0) (.int .i64 0) (.string ⟨#[]⟩) (.slice none 0 0) (.slice none 0 0) ((w.alloc (.cells #[.int .i64 (kindOf t), .int .i64 (nOf t), .string (sOf t), .slice La (nL t) Lc, .slice Ka (nK t) Kc] 36)).alloc (.cells #[.int .i64 0, .int .i64 0, .string ⟨#[]⟩, .slice none 0 0, .slice none 0 0] 36))) := by
    show BoxAt _ _ _ _ _ _ _
    have := box_new (w.alloc (.cells #[.int .i64 (kindOf t), .int .i64 (nOf t), .string (sOf t), .slice La (nL t) Lc, .slice Ka (nK t) Kc] 36)) (.int .i64 0) (.int .i64 0) (.string ⟨#[]⟩) (.slice none 0 0) (.slice none 0 0)
    simpa using this
  have HC := hid (only_any t j hj _ w0 _ Ha.out hk k6 k1 (hb0.trans (HB1.out.mono hb0.size)))
  rw [hx] at HC
  clear h hk hg1 hb0 k6 k1 hj hx Ha
  go_enter Tryz.func121, Tryz.ntmps121
  go_wp2_with fail
  refine HC.out.mono ?_
  rintro e w2 ⟨b2, A, B, C, D, rfl, hat⟩
  have HBa : Hid (Below w2.heap.size w2 (w2.alloc (.cells #[.int .i64 (kindOf j), .int .i64 (nOf j), .string (sOf j), .slice A (nL j) B, .slice C (nK j) D] 36))) := (Below.refl _ _).alloc (Nat.le_refl _) _
  have HX3 := hid ((HX.out.stay b2).stay HBa.out)
  have HB2 := hid (HB1.out.trans (b2.mono HB1.out.size))
  have HB3 := hid (HB2.out.trans (HBa.out.mono HB2.out.size))
  have HY := hid (box_new w2 (.int .i64 (kindOf j)) (.int .i64 (nOf j)) (.string (sOf j)) (.slice A (nL j) B) (.slice C (nK j) D))
  have HAt := hid hat
  clear b2 hat HC HBa HB2
  go_wp2_with fail
  refine (needP_any _).mono ?_
  rintro e w4 ⟨rfl, rfl⟩
  generalize w2.alloc (.cells #[.int .i64 (kindOf j), .int .i64 (nOf j), .string (sOf j), .slice A (nL j) B, .slice C (nK j) D] 36) = W at HY HX3 HB3 ⊢
  generalize w2.heap.size = wb at HY ⊢
  have HO := hid (HX3.out.put5 (.int .i64 (kindOf j)) (.int .i64 (nOf j)) (.string (sOf j)) (.slice A (nL j) B) (.slice C (nK j) D))
  have HBf := hid (below_res HB3.out (b := w.heap.size + 1) (by omega) (by have := HX3.out.lt; omega) (.int .i64 (kindOf j)) (.int .i64 (nOf j)) (.string (sOf j)) (.slice A (nL j) B) (.slice C (nK j) D)).drew
  unfold put5 at HO HBf
  have y0 := HY.out.q0
  have y1 := HY.out.q1
  have y2 := HY.out.q2
  have y3 := HY.out.q3
  have y4 := HY.out.q4
  have r0 := HX3.out.q0
  have r1 := HX3.out.q1
  have r2 := HX3.out.q2
  have r3 := HX3.out.q3
  have r4 := HX3.out.q4
  have z0 := HX3.out.f0
  have z1 := HX3.out.f1
  have z2 := HX3.out.f2
  have z3 := HX3.out.f3
  have z4 := HX3.out.f4
  go_wp2_with fail
  go_region_law (fail)
  all_goals
    go_wp2_with fail
    clear r0 r1 r2 r3 r4 z0 z1 z2 z3 z4
    have HO1 := hid HO.out
    have r0 := HO1.out.q0
    have r1 := HO1.out.q1
    have r2 := HO1.out.q2
    have r3 := HO1.out.q3
    have r4 := HO1.out.q4
    refine bodyPost_ret (v := .tuple #[.string x, .agg #[.int .i64 (kindOf j), .int .i64 (nOf j), .string (sOf j), .slice A (nL j) B, .slice C (nK j) D]]) (by simp [results, Tryz.results121, go_sem, *]) rfl ?_
    exact ⟨HBf.out, A, B, C, D, rfl, HAt.out⟩
end Go.Proofs.YtknakfpciccoaabGreatDoor
