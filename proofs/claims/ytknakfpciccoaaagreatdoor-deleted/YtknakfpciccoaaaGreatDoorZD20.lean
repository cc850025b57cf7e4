import Derived.Test.YtknakfpciccoaaaGreatDoorZD19
import Derived.Test.YtknakfpciccoaaaGreatDoorZD7
import Derived.Shelf.LaysM
import Derived.Shelf.Strings.BuilderK
import Derived.Shelf.Strconv.Itoa4
import Derived.Test.YtknakfpciccoaaaGreatDoorProg
import Derived.Test.YtknakfpciccoaaaGreatDoorZD4
import Derived.Test.YtknakfpciccoaaaGreatDoorZD8
/- The walk of parseFilter. -/
namespace Go.Proofs.YtknakfpciccoaaaGreatDoor
open Go.RowKit

theorem pcond_any {Tb : World → Prop} (hS : SplitSaid Tb) (hL : Lies Tb) (w0 : Org) (f m : Nat) (ih : PfsSaid Tb w0 f) (x : ByteArray) (j : T) (v : Value) (w : World) (hx : x.size ≤ 4000) (hm : f ≤ m + 1) (ha : At0 w0 f v j) (hf : f ≤ 16) (kj : okA j) (hb0 : Below w0.w.heap.size w0.w w) (hT : Tb w) :
    Calls Tryz.prog 190 #[.string x, v] w (CPost w0 m x j w) := by
  by_cases gAnd : x = opAnd
  · exact pcondAnd_any hL w0 f m ih x j v w hm ha hf kj hb0 hT gAnd
  by_cases gOr : x = opOr
  · exact pcondOr_any hL w0 f m ih x j v w hm ha hf kj hb0 hT gOr
  by_cases gNor : x = opNor
  · exact pcondNor_any hL w0 f m ih x j v w hm ha hf kj hb0 hT gNor
  exact pcondHas_any hS hL w0 f m x j v w hx ha hf kj hb0 hT ⟨gAnd, gOr, gNor⟩
set_option maxHeartbeats 4000000 in
set_option maxRecDepth 100000 in
theorem pf_step {Tb : World → Prop} (hS : SplitSaid Tb) (hL : Lies Tb) (w0 : Org) (f : Nat) (ih : PfsSaid Tb w0 f) : PfSaid Tb w0 (f + 1) := by
  intro m v t w hm ha hf kj hb0 hT
  obtain ⟨m, rfl⟩ : ∃ x, m = x + 1 := ⟨m - 1, by omega⟩
  obtain ⟨iC, hiC, zC0, zC1, zC2⟩ := info_parts infoC
  obtain ⟨g1, La, Ka, Lc, Kc, hg1, rfl, hfj, hel, hnm⟩ := ha.open
  obtain rfl : g1 = f := by omega
  have HB1 : Hid (Below w.heap.size w (w.alloc (.cells #[.int .i64 (kindOf t), .int .i64 (nOf t), .string (sOf t), .slice La (nL t) Lc, .slice Ka (nK t) Kc] 25))) := (Below.refl _ _).alloc (Nat.le_refl _) _
  have HT : Hid (∀ w' : World, Below w.heap.size w w' → Tb w') := fun w' hb => hL w hT w w' hT hb
  have HPc : Hid (∀ (x : ByteArray) (j : T) (v : Value) (w : World), x.size ≤ 4000 → At0 w0 g1 v j → okA j → Below w0.w.heap.size w0.w w → Tb w → Calls Tryz.prog 190 #[.string x, v] w (CPost w0 m x j w)) := fun x j v w hx ha kj hb hT => pcond_any hS hL w0 g1 m ih x j v w hx (by omega) ha (by omega) kj hb hT
  have HKj := hid kj
  have Hel := hid hel.out
  have Hnm := hid hnm.out
  have hnk := kj.small.1
  have hnl := kj.small.2
  clear ha kj ih hel hnm hg1 hfj hT hL hS
  by_cases k6 : kindOf t = 6
  · have e6 : (kindOf t == 6) = true := by simpa using k6
    have HKL := hid (HKj.out.names k6)
    have HOK : Hid (okFil (m + 1) t = allN (fun i => okC (okFil m) (nam t i) (elt t i)) (nK t)) := by show _ = _; rw [okFil, e6]; rfl
    clear k6
    go_enter Tryz.func150, Tryz.ntmps150
    go_wp2_with fail
    refine (need_any true _).mono ?_
    rintro e w2 ⟨rfl, he⟩
    simp only [if_true] at he
    subst he
    go_wp2_with fail
    go_loopg [3, 13] (nK t) (fun g o i wr => ∃ (k : Nat) (xs : List Value), g = nK t - k ∧ k ≤ nK t ∧ i = .int .i64 k ∧ Hid (Below (w.heap.size + 1) (w.alloc (.cells #[.int .i64 (kindOf t), .int .i64 (nOf t), .string (sOf t), .slice La (nL t) Lc, .slice Ka (nK t) Kc] 25)) wr) ∧ Hid (Bld (CondE w0 m) 1 175 (w.heap.size + 1) o ((prs t).take k) xs wr) ∧ Hid (allN (fun i => okC (okFil m) (nam t i) (elt t i)) k = true))
    case atStart => exact ⟨0, [], rfl, Nat.zero_le _, rfl, Below.refl _ _, Bld.nil _ _ _ _ _, rfl⟩
    case round =>
      obtain ⟨k, xs, rfl, hk, rfl, HB, HL, HN⟩ := hrel
      obtain ⟨q0, q1, q2, q3, q4, hz, hbw⟩ := box_facts HB.out
      have Hbr := hid (hb0.trans (hbw.mono hb0.size))
      have Hbw := hid hbw
      clear hbw
      by_cases hlt : k < nK t
      · have hltL : k < nL t := by have := HKL.out; omega
        obtain ⟨kb, ko, rfl, hkb, hks, hkc⟩ := Hnm.out.keep Hbr.out k hlt
        obtain ⟨bb, oo, A, B, C, D, rfl, hbl, p0, p1, p2, p3, p4, Ha⟩ := Hel.out.shape Hbr.out k hltL
        have HC := hid (HPc.out (nam t k) (elt t k) _ wr (HKj.out.nam hlt) Ha.out (HKj.out.elt hltL) Hbr.out (HT.out _ Hbw.out))
        have HA : Hid (allN (fun i => okC (okFil m) (nam t i) (elt t i)) (k + 1) = okC (okFil m) (nam t k) (elt t k)) := by show _ = _; rw [allN, HN.out]; simp
        have HA2 : Hid (okC (okFil m) (nam t k) (elt t k) = false → okFil (m + 1) t = false) := fun h => by rw [HOK.out]; exact allN_no (p := fun i => okC (okFil m) (nam t i) (elt t i)) h _ hlt
        have HTk := hid (prs_take hlt)
        have hxl : ((prs t).take k).length = k := by rw [List.length_take, prs_len]; omega
        go_wp2_with fail
        refine HC.out.mono ?_
        rintro e w3 ⟨b3, ⟨hok, fv, rfl, ht⟩ | ⟨hok, rfl⟩⟩
        · obtain ⟨t6, v6, rfl⟩ := ht.shape
          have HA3 := hid (HA.out.trans hok)
          have HTt := hid ht
          have Hb3 := hid b3
          have HB4 : Hid (Below w3.heap.size w3 (w3.alloc (.cells #[.iface t6 v6] 175))) := (Below.refl _ _).alloc (Nat.le_refl _) _
          have HL4 := hid ((HL.out.keep (condE_moves w0 m) Hb3.out).keep (condE_moves w0 m) HB4.out)
          have HSrc : Hid (Src Tryz.prog 1 92 (.slice (some ⟨w3.heap.size, 0, none⟩) 1 1) 1 [.iface t6 v6] (w3.alloc (.cells #[.iface t6 v6] 175))) := Src.ofSlice _ Tryz.underlying92 ⟨w3.heap.size, 0, none⟩ 1 1 [.iface t6 v6] (by simp) (World.news_of_block (heap_alloc_new w3 _)) (by simp [Value.oneCell'])
          have hlo : w.heap.size + 1 ≤ (w3.alloc (.cells #[.iface t6 v6] 175)).heap.size := by have := Hb3.out.size; simp; omega
          clear b3 hok ht HC HA HA2
          go_wp2_with (at_builtin; refine wpList_append_src _ rfl (.tmp 18) (.tmp 26) 92 92 rfl (w.heap.size + 1) 175 iC _ 1 16 Tryz.underlying92 hiC zC0 zC1 zC2 rfl u3 ((prs t).take k).length xs rfl HL4.out.row (.slice (some ⟨w3.heap.size, 0, none⟩) 1 1) 1 [.iface t6 v6] rfl HSrc.out (by unfold maxLen; omega) (by omega) hlo ?_; intro v' w6 hO6 hG6 hat6)
          have HL6 := hid (HL.out.grow (x := (nam t k, elt t k)) (cs := [.iface t6 v6]) (condE_moves w0 m) (Hb3.out.trans (HB4.out.mono Hb3.out.size)) rfl (condE_moves w0 m _ _ _ _ _ _ ⟨_, rfl, HTt.out⟩ (fun b hb => ⟨HB4.out.block b hb.2, hb⟩)) (fun b hb => ⟨hb.1, Nat.lt_of_lt_of_le hb.2 HB4.out.size⟩) (by omega) hO6 hG6 hat6)
          have HB6 := hid (below_grown ((HB.out.trans (Hb3.out.mono (by omega))).trans (HB4.out.mono (by have := Hb3.out.size; omega))) HL4.out.row (Nat.le_refl _) (by omega) hG6)
          rw [← HTk.out] at HL6
          clear hO6 hG6 hat6
          go_wp2_with fail
          go_roundg (nK t - (k + 1))
          case rel => exact ⟨k + 1, _, rfl, by omega, by go_num, HB6, HL6, HA3⟩
          case measure => omega
        · have HA4 := hid (HA2.out hok)
          exact ⟨rfl, Hbw.out.trans (b3.mono Hbw.out.size), .inr ⟨HA4.out, rfl⟩⟩
      · obtain rfl : k = nK t := by omega
        have HPl : Hid ((prs t).take (nK t) = prs t) := by show _ = _; rw [List.take_of_length_le (by rw [prs_len]; omega)]
        rw [HPl.out] at HL
        have HRow : Hid (FilB w0 wr (newB w wr) (m + 1) u3 t) := by
          obtain ⟨A, c, hv, hr⟩ := bld_one (w := w) HL.out (by omega)
          rw [prs_len] at hv
          refine ⟨A, c, hv, by omega, fun i hi => ?_⟩
          obtain ⟨b, u, h1, h2, h3, h4⟩ := hr i (by rw [prs_len]; exact hi)
          obtain ⟨u', h5, h6⟩ := HL.out.el i (by rw [prs_len]; exact hi)
          have h7 := h3 u' h5
          subst h7
          rw [prs_get] at h6
          have mv : ∀ b, newX (w.heap.size + 1) u3 wr b → wr.heap[b]? = wr.heap[b]? ∧ newB w wr b := fun b hb => ⟨rfl, by have := hb.1; omega, hb.2.1⟩
          exact ⟨b, 0, u', h1, h2, h4, h6.move mv (FilB.move mv m)⟩
        have HOK2 := hid (HOK.out.trans HN.out)
        go_wp2_with fail
        go_ret
        exact ⟨Hbw.out, .inl ⟨HOK2.out, _, rfl, HRow.out⟩⟩
  · have e6 : (kindOf t == 6) = false := by simpa using k6
    have HOK : Hid (okFil (m + 1) t = false) := by show _ = _; rw [okFil, e6]; rfl
    clear k6
    go_enter Tryz.func150, Tryz.ntmps150
    go_wp2_with fail
    refine (need_any false _).mono ?_
    rintro e w2 ⟨rfl, he⟩
    simp only [Bool.false_eq_true, if_false] at he
    subst he
    exact ⟨rfl, HB1.out, .inr ⟨HOK.out, rfl⟩⟩
theorem pf_any {Tb : World → Prop} (hS : SplitSaid Tb) (hL : Lies Tb) (w0 : Org) : ∀ f, PfSaid Tb w0 f
  | 0 => fun _ _ _ _ _ h => h.elim
  | 1 => pf_step hS hL w0 0 (fun _ _ _ _ _ h => h.elim)
  | f + 2 => pf_step hS hL w0 (f + 1) (pfs_step hL w0 f (pf_any hS hL w0 f))
end Go.Proofs.YtknakfpciccoaaaGreatDoor
/- refusal.Attempt for filters; filter.Parse. -/
namespace Go.Proofs.YtknakfpciccoaaaGreatDoor
open Go.RowKit
set_option maxHeartbeats 1000000 in
set_option maxRecDepth 100000 in
theorem catchF_refusal (be : Nat) (n : Int) (w : World) (x : Value) (h5 : w.cell? ⟨be, 0, none⟩ = some x) (f5 : w.frozen? ⟨be, 0, none⟩ = false) :
    CallsD Tryz.prog 188 #[.pointer (some ⟨be, 0, none⟩)] (.panicking [{ v := .iface 132 (.int .i64 n), recovered := false }]) w fun e u' w' =>
      e = .returned (.tuple #[]) ∧ u' = .panicking [{ v := .iface 132 (.int .i64 n), recovered := true }] ∧ w' = w.setCell ⟨be, 0, none⟩ (.int .i64 n) := by
  refine callsD_of_wpS Tryz.func188 rfl fun c₀ cs hu => ?_
  apply wpS_seq
  apply wpS_region
  simp [wpOpsS, go_sem, recoverD, hu, Tryz.ntmps188, Exit.thenS]
  refine wpS_of_wp ?_
  have hta := assert_refusal n
  have e : (#[Value.pointer (some { block := be, off := 0 })] ++ (Array.replicate 10 undef).setIfInBounds 3 (Value.iface 132 (Value.int IntKind.i64 n))) = #[.pointer (some ⟨be, 0, none⟩), undef, undef, undef, .iface 132 (.int .i64 n), undef, undef, undef, undef, undef, undef] := rfl
  rw [e]
  go_wp2_with fail
  simp [bodyPostS, results, Tryz.results188]
set_option maxHeartbeats 1000000 in
set_option maxRecDepth 100000 in
theorem catchF_idle (be : Nat) (w : World) :
    CallsD Tryz.prog 188 #[.pointer (some ⟨be, 0, none⟩)] .returning w fun e u' w' => e = .returned (.tuple #[]) ∧ u' = .returning ∧ w' = w := by
  refine callsD_of_wpS Tryz.func188 rfl fun c₀ cs hu => ?_
  apply wpS_seq
  apply wpS_region
  simp [wpOpsS, go_sem, recoverD, hu, Tryz.ntmps188, Exit.thenS]
  refine wpS_of_wp ?_
  go_wp2_with fail
  cases c₀
  simp_all [bodyPostS, results, Tryz.results188]
def boxErr (w : World) : World := w.alloc (.cells #[.int .i64 0] 28)
theorem boxErr_facts (w : World) : (boxErr w).cell? ⟨w.heap.size, 0, none⟩ = some (.int .i64 0) ∧ (boxErr w).frozen? ⟨w.heap.size, 0, none⟩ = false ∧ (boxErr w).heap.size = w.heap.size + 1 ∧ Below w.heap.size w (boxErr w) :=
  ⟨by simp [boxErr, go_sem], by simp [boxErr, go_sem], by simp [boxErr], (Below.refl _ _).alloc (Nat.le_refl _) _⟩
/-- How a reader of a filter ends. -/
def EndsF (Q : Prop) (R : Value → World → Prop) (w : World) (e : Ending) (w' : World) : Prop :=
  Below w.heap.size w w' ∧ ((∃ v, e = .returned v ∧ R v w') ∨ (Q ∧ e = refused 8))
set_option maxHeartbeats 1000000 in
set_option maxRecDepth 100000 in
theorem attemptF (g : Nat) (hg : ∀ (a : Array Value) (w : World), (callFunc g a).run Tryz.prog w = .ok (.enter g a) w) (Q : Prop) (R : Value → World → Prop) (p : Value) (w : World)
    (h : Calls Tryz.prog g #[p] (boxErr w) (EndsF Q R (boxErr w))) :
    Calls Tryz.prog 148 #[.func (Fn.func g) #[] #[p]] w fun e w' => Below w.heap.size w w' ∧ ((∃ x w2, e = .returned (.tuple #[x, .int .i64 0]) ∧ R x w2 ∧ Above (w.heap.size + 1) w2 w' ∧ Below w.heap.size w w2) ∨ (Q ∧ e = .returned (.tuple #[.slice none 0 0, .int .i64 8]))) := by
  have hmf : ∀ (fn : Fn) (first cap : Array Value) (w : World), (Instr.makeFunc fn first cap).run Tryz.prog w = .ok (.func fn first cap) w := fun _ _ _ _ => rfl
  have H := hid h
  have HF := hid (boxErr_facts w)
  clear h
  go_enter_defers Tryz.func148, Tryz.ntmps148
  go_wp2_with fail
  refine H.out.mono ?_
  rintro e w1 ⟨hb, hr⟩
  have l0 : w.heap.size < (boxErr w).heap.size := by have := HF.out.2.2.1; omega
  have a5 := (hb.cell (p := ⟨w.heap.size, 0, none⟩) l0).trans HF.out.1
  have z5 := (hb.frozen (p := ⟨w.heap.size, 0, none⟩) l0).trans HF.out.2.1
  have HB := hid (HF.out.2.2.2.trans (hb.mono HF.out.2.2.2.size))
  clear hb l0 H
  rcases hr with ⟨v, rfl, hR⟩ | ⟨hQ, rfl⟩
  · have HR := hid hR
    clear hR
    go_wp2_with fail
    refine leaves_cons (f := 188) (args := #[.pointer (some ⟨w.heap.size, 0, none⟩)]) (by simp) (by simp [go_sem]) ?_
    refine (catchF_idle w.heap.size _).mono ?_
    rintro e u' w'' ⟨rfl, rfl, rfl⟩
    simp only [Leaves, settle]
    refine ⟨_, by simp [results, Tryz.results148, go_sem, *], ?_, Or.inl ⟨_, w1, rfl, HR.out, ?_, HB.out⟩⟩
    · exact HB.out.setCell (Nat.le_refl _) _
    · exact (Above.refl _ _).set (by omega) _ _
  · have HQ := hid hQ
    clear hQ
    go_wp2_with fail
    refine leaves_cons (f := 188) (args := #[.pointer (some ⟨w.heap.size, 0, none⟩)]) (by simp) (by simp [go_sem]) ?_
    refine (catchF_refusal w.heap.size 8 _ _ a5 z5).mono ?_
    rintro e u' w'' ⟨rfl, rfl, rfl⟩
    simp only [settle]
    refine ⟨_, by simp [results, Tryz.results148, go_sem, *], ?_, Or.inr ⟨HQ.out, rfl⟩⟩
    exact HB.out.setCell (Nat.le_refl _) _
/-- What filter.Parse answers. -/
def FilPost (w0 : Org) (t : T) (w : World) (e : Ending) (w' : World) : Prop :=
  Below w.heap.size w w' ∧ ((okFil 16 t = true ∧ ∃ fv, e = .returned (.tuple #[fv, .int .i64 0]) ∧ FilB w0 w' (newB w w') 16 fv t) ∨ (okFil 16 t = false ∧ e = .returned (.tuple #[.slice none 0 0, .int .i64 8])))
set_option maxHeartbeats 4000000 in
set_option maxRecDepth 100000 in
theorem fParseIn_any {Tb : World → Prop} (hS : SplitSaid Tb) (hL : Lies Tb) (w0 : Org) (f : Nat) (v : Value) (t : T) (w : World) (hf : f ≤ 16) (ha : At0 w0 f v t) (kj : okA t) (hb0 : Below w0.w.heap.size w0.w w) (hT : Tb w) (p : Nat)
    (La Ka : Option Addr) (Lc Kc : Nat) (hv : v = .agg #[.int .i64 (kindOf t), .int .i64 (nOf t), .string (sOf t), .slice La (nL t) Lc, .slice Ka (nK t) Kc])
    (q0 : w.cell? ⟨p, 0, none⟩ = some (.int .i64 (kindOf t))) (q1 : w.cell? ⟨p, 1, none⟩ = some (.int .i64 (nOf t))) (q2 : w.cell? ⟨p, 2, none⟩ = some (.string (sOf t))) (q3 : w.cell? ⟨p, 3, none⟩ = some (.slice La (nL t) Lc)) (q4 : w.cell? ⟨p, 4, none⟩ = some (.slice Ka (nK t) Kc)) :
    Calls Tryz.prog 149 #[.pointer (some ⟨p, 0, none⟩)] w (EndsF (okFil 16 t = false) (fun fv w' => okFil 16 t = true ∧ FilB w0 w' (newB w w') 16 fv t) w) := by
  subst hv
  have HC := hid (pf_any hS hL w0 f 16 _ t w hf ha hf kj hb0 hT)
  clear ha kj hb0 hT hS hL hf
  go_enter Tryz.func149, Tryz.ntmps149
  go_wp2_with fail
  refine HC.out.mono ?_
  rintro e w3 ⟨b3, ⟨hok, fv, rfl, hr⟩ | ⟨hok, rfl⟩⟩
  · have HB3 := hid b3
    have HR := hid hr
    have HK := hid hok
    clear b3 hr hok
    go_wp2_with fail
    go_ret
    exact ⟨HB3.out, .inl ⟨_, rfl, HK.out, HR.out⟩⟩
  · exact ⟨rfl, b3, .inr ⟨hok, rfl⟩⟩
set_option maxHeartbeats 4000000 in
set_option maxRecDepth 100000 in
theorem fParse_any {Tb : World → Prop} (hS : SplitSaid Tb) (hL : Lies Tb) (w0 : Org) (f : Nat) (v : Value) (t : T) (w : World) (hf : f ≤ 16) (ha : At0 w0 f v t) (kj : okA t) (hb0 : Below w0.w.heap.size w0.w w) (hT : Tb w) :
    Calls Tryz.prog 110 #[v] w (FilPost w0 t w) := by
  have hmf : ∀ (fn : Fn) (first cap : Array Value) (w : World), (Instr.makeFunc fn first cap).run Tryz.prog w = .ok (.func fn first cap) w := fun _ _ _ _ => rfl
  obtain ⟨g1, La, Ka, Lc, Kc, hg1, hv, _, _, _⟩ := ha.open
  have HB1 : Hid (Below w.heap.size w (w.alloc (.cells #[.int .i64 (kindOf t), .int .i64 (nOf t), .string (sOf t), .slice La (nL t) Lc, .slice Ka (nK t) Kc] 25))) := (Below.refl _ _).alloc (Nat.le_refl _) _
  have HE := hid (boxErr_facts (w.alloc (.cells #[.int .i64 (kindOf t), .int .i64 (nOf t), .string (sOf t), .slice La (nL t) Lc, .slice Ka (nK t) Kc] 25)))
  have hbb : Below (w.heap.size + 1) (w.alloc (.cells #[.int .i64 (kindOf t), .int .i64 (nOf t), .string (sOf t), .slice La (nL t) Lc, .slice Ka (nK t) Kc] 25)) (boxErr (w.alloc (.cells #[.int .i64 (kindOf t), .int .i64 (nOf t), .string (sOf t), .slice La (nL t) Lc, .slice Ka (nK t) Kc] 25))) := HE.out.2.2.2.mono (by simp)
  obtain ⟨q0, q1, q2, q3, q4, hz, hbw⟩ := box_facts hbb
  have HI := hid (fParseIn_any hS hL w0 f v t (boxErr (w.alloc (.cells #[.int .i64 (kindOf t), .int .i64 (nOf t), .string (sOf t), .slice La (nL t) Lc, .slice Ka (nK t) Kc] 25))) hf ha kj (hb0.trans (hbw.mono hb0.size)) (hL w hT _ _ hT hbw) w.heap.size La Ka Lc Kc hv q0 q1 q2 q3 q4)
  have HA := hid (attemptF 149 (fun _ _ => rfl) (okFil 16 t = false) _ (.pointer (some ⟨w.heap.size, 0, none⟩)) _ HI.out)
  subst hv
  clear ha kj hb0 hT hS hL hf hbb q0 q1 q2 q3 q4 hz hbw HI
  go_enter Tryz.func110, Tryz.ntmps110
  go_wp2_with fail
  refine HA.out.mono ?_
  rintro e w3 ⟨b3, ⟨x, w2, rfl, ⟨hok, hr⟩, hab, hb2⟩ | ⟨hok, rfl⟩⟩
  · have HB3 := hid (HB1.out.trans (b3.mono HB1.out.size))
    have HK := hid hok
    have mv : ∀ b, newB (boxErr (w.alloc (.cells #[.int .i64 (kindOf t), .int .i64 (nOf t), .string (sOf t), .slice La (nL t) Lc, .slice Ka (nK t) Kc] 25))) w2 b → w3.heap[b]? = w2.heap[b]? ∧ newB w w3 b := fun b hb => by
      have h1 := HE.out.2.2.1
      have h2 := hb.1
      have h3 := hab.size
      have h4 := hb.2
      have h5 : (w.alloc (.cells #[.int .i64 (kindOf t), .int .i64 (nOf t), .string (sOf t), .slice La (nL t) Lc, .slice Ka (nK t) Kc] 25)).heap.size = w.heap.size + 1 := by simp
      exact ⟨hab.block b (by omega), by omega, by omega⟩
    have HR := hid (FilB.move (w0 := w0) mv 16 _ _ hr)
    clear b3 hr hok hab hb2 mv
    go_wp2_with fail
    refine bodyPost_ret (v := .tuple #[x, .int .i64 0]) (by simp [results, Tryz.results110, go_sem, *]) rfl ?_
    exact ⟨HB3.out, .inl ⟨HK.out, _, rfl, HR.out⟩⟩
  · have HB3 := hid (HB1.out.trans (b3.mono HB1.out.size))
    have HK := hid hok
    clear b3 hok
    go_wp2_with fail
    refine bodyPost_ret (v := .tuple #[.slice none 0 0, .int .i64 8]) (by simp [results, Tryz.results110, go_sem, *]) rfl ?_
    exact ⟨HB3.out, .inr ⟨HK.out, rfl⟩⟩
end Go.Proofs.YtknakfpciccoaaaGreatDoor
/- Contracts of the library's shelf, laid at this dump: strings.Builder's WriteByte and WriteString, strconv.FormatInt. -/
namespace Go.Proofs
open Go.Shelf
def Tryz.laysWriteByte_ren : Go.Shelf.Ren := ⟨fun | 167 => 128 | 240 => 125 | 276 => 161 | n => n, fun | 0 => 0 | 4 => 4 | 5 => 5 | 9 => 9 | 20 => 20 | 37 => 63 | 70 => 62 | 72 => 65 | 75 => 116 | 164 => 185 | 80 => 67 | n => n, fun | n => n⟩
theorem Tryz.laysWriteByte : Go.Proofs.Lays.n167 Tryz.prog Tryz.laysWriteByte_ren := {
  mixed := by kernel_rfl
  f167 := Tryz.func128.trans (congrArg some (by kernel_rfl))
  f240 := Tryz.func125.trans (congrArg some (by kernel_rfl))
  f276 := Tryz.func161.trans (congrArg some (by kernel_rfl))
  t0 := Tryz.underlying0
  a0 := Tryz.isAgg0
  z0 := Tryz.sizeOf0
  v0 := Tryz.zeroValue0
  t4 := Tryz.underlying4
  a4 := Tryz.isAgg4
  z4 := Tryz.sizeOf4
  v4 := Tryz.zeroValue4
  t5 := Tryz.underlying5
  a5 := Tryz.isAgg5
  z5 := Tryz.sizeOf5
  v5 := Tryz.zeroValue5
  t9 := Tryz.underlying9
  a9 := Tryz.isAgg9
  z9 := Tryz.sizeOf9
  v9 := Tryz.zeroValue9
  t20 := Tryz.underlying20
  a20 := Tryz.isAgg20
  z20 := Tryz.sizeOf20
  v20 := Tryz.zeroValue20
  t37 := Tryz.underlying63
  a37 := Tryz.isAgg63
  z37 := Tryz.sizeOf63
  v37 := Tryz.zeroValue63
  t70 := Tryz.underlying62
  a70 := Tryz.isAgg62
  z70 := Tryz.sizeOf62
  v70 := Tryz.zeroValue62
  t72 := Tryz.underlying65
  a72 := Tryz.isAgg65
  z72 := Tryz.sizeOf65
  v72 := Tryz.zeroValue65
  t75 := Tryz.underlying116
  a75 := Tryz.isAgg116
  z75 := Tryz.sizeOf116
  v75 := Tryz.zeroValue116
  t164 := Tryz.underlying185
  a164 := Tryz.isAgg185
  z164 := Tryz.sizeOf185
  v164 := Tryz.zeroValue185 }
theorem Tryz.extraWriteByte : Go.Proofs.Builder.Extra Tryz.prog Tryz.laysWriteByte_ren := {
  sizeBuilder := by kernel_rfl
  liesBuilder := by kernel_rfl
  t5 := Tryz.underlying5
  a5 := Tryz.isAgg5
  z5 := Tryz.sizeOf5
  v5 := Tryz.zeroValue5
  infoByte := by kernel_rfl
  cellsByte := by kernel_rfl
  sizeByte := by kernel_rfl
  neB5 := by decide }
def Tryz.laysWriteString_ren : Go.Shelf.Ren := ⟨fun | 166 => 74 | 240 => 125 | 276 => 161 | n => n, fun | 0 => 0 | 3 => 3 | 4 => 4 | 9 => 9 | 20 => 20 | 37 => 63 | 70 => 62 | 72 => 65 | 75 => 116 | 164 => 185 | 80 => 67 | n => n, fun | n => n⟩
theorem Tryz.laysWriteString : Go.Proofs.Lays.n166 Tryz.prog Tryz.laysWriteString_ren := {
  mixed := by kernel_rfl
  f166 := Tryz.func74.trans (congrArg some (by kernel_rfl))
  f240 := Tryz.func125.trans (congrArg some (by kernel_rfl))
  f276 := Tryz.func161.trans (congrArg some (by kernel_rfl))
  t0 := Tryz.underlying0
  a0 := Tryz.isAgg0
  z0 := Tryz.sizeOf0
  v0 := Tryz.zeroValue0
  t3 := Tryz.underlying3
  a3 := Tryz.isAgg3
  z3 := Tryz.sizeOf3
  v3 := Tryz.zeroValue3
  t4 := Tryz.underlying4
  a4 := Tryz.isAgg4
  z4 := Tryz.sizeOf4
  v4 := Tryz.zeroValue4
  t9 := Tryz.underlying9
  a9 := Tryz.isAgg9
  z9 := Tryz.sizeOf9
  v9 := Tryz.zeroValue9
  t20 := Tryz.underlying20
  a20 := Tryz.isAgg20
  z20 := Tryz.sizeOf20
  v20 := Tryz.zeroValue20
  t37 := Tryz.underlying63
  a37 := Tryz.isAgg63
  z37 := Tryz.sizeOf63
  v37 := Tryz.zeroValue63
  t70 := Tryz.underlying62
  a70 := Tryz.isAgg62
  z70 := Tryz.sizeOf62
  v70 := Tryz.zeroValue62
  t72 := Tryz.underlying65
  a72 := Tryz.isAgg65
  z72 := Tryz.sizeOf65
  v72 := Tryz.zeroValue65
  t75 := Tryz.underlying116
  a75 := Tryz.isAgg116
  z75 := Tryz.sizeOf116
  v75 := Tryz.zeroValue116
  t164 := Tryz.underlying185
  a164 := Tryz.isAgg185
  z164 := Tryz.sizeOf185
  v164 := Tryz.zeroValue185 }
theorem Tryz.extraWriteString : Go.Proofs.Builder.Extra Tryz.prog Tryz.laysWriteString_ren := {
  sizeBuilder := by kernel_rfl
  liesBuilder := by kernel_rfl
  t5 := Tryz.underlying5
  a5 := Tryz.isAgg5
  z5 := Tryz.sizeOf5
  v5 := Tryz.zeroValue5
  infoByte := by kernel_rfl
  cellsByte := by kernel_rfl
  sizeByte := by kernel_rfl
  neB5 := by decide }
def Tryz.laysFormat_ren : Go.Shelf.Ren := ⟨fun | 173 => 76 | 246 => 127 | 283 => 162 | 284 => 163 | 285 => 164 | 286 => 165 | 129 => 196 | 317 => 195 | 318 => 197 | 319 => 198 | 320 => 199 | 337 => 240 | 338 => 241 | n => n, fun | 2 => 2 | 3 => 3 | 9 => 9 | 4 => 4 | 171 => 187 | 0 => 0 | 53 => 127 | 37 => 63 | 5 => 5 | 173 => 190 | 212 => 215 | 51 => 216 | 20 => 20 | 213 => 217 | 46 => 155 | 232 => 301 | 233 => 302 | n => n, fun | 17 => 2 | 18 => 3 | 19 => 4 | n => n⟩
theorem Tryz.laysFormat : Go.Proofs.LaysM.n173 Tryz.prog Tryz.laysFormat_ren := {
  mixed := by kernel_rfl
  f129 := Tryz.func196.trans (congrArg some (by kernel_rfl))
  f173 := Tryz.func76.trans (congrArg some (by kernel_rfl))
  f246 := Tryz.func127.trans (congrArg some (by kernel_rfl))
  f283 := Tryz.func162.trans (congrArg some (by kernel_rfl))
  f284 := Tryz.func163.trans (congrArg some (by kernel_rfl))
  f285 := Tryz.func164.trans (congrArg some (by kernel_rfl))
  f286 := Tryz.func165.trans (congrArg some (by kernel_rfl))
  f317 := Tryz.func195.trans (congrArg some (by kernel_rfl))
  f318 := Tryz.func197.trans (congrArg some (by kernel_rfl))
  f319 := Tryz.func198.trans (congrArg some (by kernel_rfl))
  f320 := Tryz.func199.trans (congrArg some (by kernel_rfl))
  f337 := Tryz.func240.trans (congrArg some (by kernel_rfl))
  f338 := Tryz.func241.trans (congrArg some (by kernel_rfl))
  t0 := Tryz.underlying0
  a0 := Tryz.isAgg0
  z0 := Tryz.sizeOf0
  v0 := Tryz.zeroValue0
  t2 := Tryz.underlying2
  a2 := Tryz.isAgg2
  z2 := Tryz.sizeOf2
  v2 := Tryz.zeroValue2
  t3 := Tryz.underlying3
  a3 := Tryz.isAgg3
  z3 := Tryz.sizeOf3
  v3 := Tryz.zeroValue3
  t4 := Tryz.underlying4
  a4 := Tryz.isAgg4
  z4 := Tryz.sizeOf4
  v4 := Tryz.zeroValue4
  t5 := Tryz.underlying5
  a5 := Tryz.isAgg5
  z5 := Tryz.sizeOf5
  v5 := Tryz.zeroValue5
  t9 := Tryz.underlying9
  a9 := Tryz.isAgg9
  z9 := Tryz.sizeOf9
  v9 := Tryz.zeroValue9
  t20 := Tryz.underlying20
  a20 := Tryz.isAgg20
  z20 := Tryz.sizeOf20
  v20 := Tryz.zeroValue20
  t37 := Tryz.underlying63
  a37 := Tryz.isAgg63
  z37 := Tryz.sizeOf63
  v37 := Tryz.zeroValue63
  t46 := Tryz.underlying155
  a46 := Tryz.isAgg155
  z46 := Tryz.sizeOf155
  v46 := Tryz.zeroValue155
  t51 := Tryz.underlying216
  a51 := Tryz.isAgg216
  z51 := Tryz.sizeOf216
  v51 := Tryz.zeroValue216
  t53 := Tryz.underlying127
  a53 := Tryz.isAgg127
  z53 := Tryz.sizeOf127
  v53 := Tryz.zeroValue127
  t171 := Tryz.underlying187
  a171 := Tryz.isAgg187
  z171 := Tryz.sizeOf187
  v171 := Tryz.zeroValue187
  t173 := Tryz.underlying190
  a173 := Tryz.isAgg190
  z173 := Tryz.sizeOf190
  v173 := Tryz.zeroValue190
  t212 := Tryz.underlying215
  a212 := Tryz.isAgg215
  z212 := Tryz.sizeOf215
  v212 := Tryz.zeroValue215
  t213 := Tryz.underlying217
  a213 := Tryz.isAgg217
  z213 := Tryz.sizeOf217
  t232 := Tryz.underlying301
  a232 := Tryz.isAgg301
  z232 := Tryz.sizeOf301
  v232 := Tryz.zeroValue301
  t233 := Tryz.underlying302
  a233 := Tryz.isAgg302
  z233 := Tryz.sizeOf302
  v233 := Tryz.zeroValue302
  g17 := by kernel_rfl
  g18 := by kernel_rfl
  g19 := by kernel_rfl
  i0 := by kernel_rfl
  i2 := by kernel_rfl
  i3 := by kernel_rfl
  i4 := by kernel_rfl
  i5 := by kernel_rfl
  i9 := by kernel_rfl
  i20 := by kernel_rfl
  i37 := by kernel_rfl
  i46 := by kernel_rfl
  i51 := by kernel_rfl
  i53 := by kernel_rfl
  i171 := by kernel_rfl
  i173 := by kernel_rfl
  i212 := by kernel_rfl
  i232 := by kernel_rfl
  i233 := by kernel_rfl
  m17 := by kernel_rfl
  m18 := by kernel_rfl
  m19 := by kernel_rfl }
end Go.Proofs
/- Values as texts, pure: what is written; the builder's writers. -/
namespace Go.Proofs.YtknakfpciccoaaaGreatDoor
open Go.RowKit

def hexC (n : Nat) : UInt8 := if n < 10 then UInt8.ofNat (48 + n) else UInt8.ofNat (87 + n)
def escC (c : UInt8) : List UInt8 := if c.toNat = 34 ∨ c.toNat = 92 then [92, c] else if c.toNat < 32 then [92, 117, 48, 48, hexC (c.toNat / 16), hexC (c.toNat % 16)] else [c]
def escTo (s : ByteArray) (k : Nat) : List UInt8 := (s.data.toList.take k).flatMap escC
def quoL (s : ByteArray) : List UInt8 := 34 :: (escTo s s.size ++ [34])
theorem escTo_zero (s : ByteArray) : escTo s 0 = [] := by simp [escTo]
theorem escTo_succ {s : ByteArray} {k : Nat} {z : UInt8} (h : s.data[k]? = some z) : escTo s (k + 1) = escTo s k ++ escC z := by
  have h' : s.data.toList[k]? = some z := by rw [Array.getElem?_toList]; exact h
  unfold escTo
  rw [List.take_add_one, h']
  simp
theorem get_some {s : ByteArray} {k : Nat} {z : UInt8} (h : k < s.size) (e : s[k]'h = z) : s.data[k]? = some z := by
  rw [← e]
  exact Array.getElem?_eq_getElem h
theorem escC_len (c : UInt8) : (escC c).length ≤ 6 := by unfold escC; split; · simp
                                                         · split <;> simp
theorem escTo_len (s : ByteArray) : ∀ k, (escTo s k).length ≤ 6 * k
  | 0 => by simp [escTo]
  | k + 1 => by
    have ih := escTo_len s k
    cases h : s.data[k]? with
    | none =>
      have h' : s.data.toList.length ≤ k := by simpa using h
      have : escTo s (k + 1) = escTo s k := by unfold escTo; rw [List.take_of_length_le (by omega), List.take_of_length_le h']
      rw [this]
      omega
    | some z =>
      rw [escTo_succ h, List.length_append]
      have := escC_len z
      omega
theorem quoL_len (s : ByteArray) : (quoL s).length ≤ 6 * s.size + 2 := by
  have := escTo_len s s.size
  simp [quoL]
  omega
def leafW (t : T) : List UInt8 :=
  if kindOf t = 1 then [110, 117, 108, 108] else if kindOf t = 2 then (if nOf t = 1 then [116, 114, 117, 101] else [102, 97, 108, 115, 101]) else if kindOf t = 3 then Lib.itoa (nOf t) else if kindOf t = 4 then quoL (sOf t) else []
def joinL (g : T → List UInt8) (t : T) : Nat → List UInt8
  | 0 => []
  | k + 1 => joinL g t k ++ ((if k = 0 then [] else [44]) ++ g (elt t k))
def joinO (g : T → List UInt8) (t : T) : Nat → List UInt8
  | 0 => []
  | k + 1 => joinO g t k ++ ((if k = 0 then [] else [44]) ++ (quoL (nam t k) ++ (58 :: g (elt t k))))
def wrT : Nat → T → List UInt8
  | 0, t => leafW t
  | m + 1, t => if kindOf t = 5 then 91 :: (joinL (wrT m) t (nL t) ++ [93]) else if kindOf t = 6 then 123 :: (joinO (wrT m) t (nK t) ++ [125]) else leafW t
theorem joinL_mono (g : T → List UInt8) (t : T) {k n : Nat} (h : k ≤ n) : (joinL g t k).length ≤ (joinL g t n).length := by
  induction n with
  | zero => have : k = 0 := by omega
            subst this; exact Nat.le_refl _
  | succ n ih =>
    by_cases e : k = n + 1
    · subst e; exact Nat.le_refl _
    · have := ih (by omega)
      simp only [joinL, List.length_append]
      omega
theorem joinO_mono (g : T → List UInt8) (t : T) {k n : Nat} (h : k ≤ n) : (joinO g t k).length ≤ (joinO g t n).length := by
  induction n with
  | zero => have : k = 0 := by omega
            subst this; exact Nat.le_refl _
  | succ n ih =>
    by_cases e : k = n + 1
    · subst e; exact Nat.le_refl _
    · have := ih (by omega)
      simp only [joinO, List.length_append]
      omega

/-- The builder's state behind a writer. -/
structure WrP (B b : Nat) (acc : List UInt8) (w w' : World) : Prop where
  isb : Lib.IsBuilderF 65 5 B b (Lib.byteCells acc) w'
  below : Below B w w'
  oth : Lib.OthersKept 5 (some b) w w'
  lo : B ≤ w.heap.size
theorem WrP.trans {B b : Nat} {acc acc' : List UInt8} {w w1 w2 : World} (h : WrP B b acc w w1) (k : WrP B b acc' w1 w2) : WrP B b acc' w w2 :=
  ⟨k.isb, h.below.trans k.below, h.oth.trans k.oth, h.lo⟩
theorem WrP.lo' {B b : Nat} {acc : List UInt8} {w w1 : World} (h : WrP B b acc w w1) : B ≤ w1.heap.size := Nat.le_trans h.lo h.below.size
theorem WrP.acc {B b : Nat} {acc acc' : List UInt8} {w w1 : World} (h : WrP B b acc w w1) (e : acc = acc') : WrP B b acc' w w1 := e ▸ h
/-- A world that grows alone. -/
theorem WrP.keep {B b : Nat} {acc : List UInt8} {w w1 w2 : World} (h : WrP B b acc w w1) (k : Below w1.heap.size w1 w2) : WrP B b acc w w2 :=
  ⟨h.isb.elim (fun x => .inl ⟨x.1, by
      obtain ⟨v, hb, hown, hne⟩ := x.2
      exact ⟨v, (k.block b (Array.getElem?_eq_some_iff.1 hb).1).trans hb, rowF_move hown (fun i _ h2 => k.block i h2), hne⟩⟩) (fun x => .inr ⟨x.1, by
      obtain ⟨v, hb, hown, hne⟩ := x.2
      exact ⟨v, (k.block b (Array.getElem?_eq_some_iff.1 hb).1).trans hb, rowF_move hown (fun i _ h2 => k.block i h2), hne⟩⟩),
    h.below.trans (k.mono (Nat.le_trans h.lo h.below.size)),
    fun i o hi hb ho => by
      have h1 := h.oth i o hi hb ho
      exact (k.block i (Array.getElem?_eq_some_iff.1 h1).1).trans h1, h.lo⟩
theorem WrP.start {B b : Nat} {acc : List UInt8} {w : World} (h : Lib.IsBuilderF 65 5 B b (Lib.byteCells acc) w) (hB : B ≤ w.heap.size) : WrP B b acc w w :=
  ⟨h, Below.refl _ _, Lib.OthersKept.refl _ _ _, hB⟩
def Wrote (B b : Nat) (acc : List UInt8) (w : World) (e : Ending) (w' : World) : Prop := e = .returned (.tuple #[]) ∧ WrP B b acc w w'
theorem wbyte_any (B b : Nat) (acc : List UInt8) (c : UInt8) (w0 w : World) (h : WrP B b acc w0 w) (hl : acc.length ≤ 1000000000) :
    Calls Tryz.prog 128 #[.pointer (some ⟨b, 0, none⟩), .int .u8 (c.toNat : Int)] w fun e w' => e = .returned .nilIface ∧ WrP B b (acc ++ [c]) w w' := by
  refine (Any.Builder_WriteByte_k Tryz.laysWriteByte Tryz.extraWriteByte B b (Lib.byteCells acc) (c.toNat : Int) w h.isb (by rw [Lib.byteCells_length]; omega) h.lo').mono ?_
  rintro e w' ⟨rfl, h1, b1, o1⟩
  refine ⟨rfl, ⟨Or.inr ?_, b1, o1, h.lo'⟩⟩
  rw [Lib.byteCells_append]
  exact h1
theorem wstr_any (B b : Nat) (acc : List UInt8) (s : ByteArray) (w0 w : World) (h : WrP B b acc w0 w) (hl : acc.length + s.size ≤ 1000000000) :
    Calls Tryz.prog 74 #[.pointer (some ⟨b, 0, none⟩), .string s] w fun e w' => e = .returned (.tuple #[.int .i64 s.size, .nilIface]) ∧ WrP B b (acc ++ s.data.toList) w w' := by
  refine (Any.Builder_WriteString_k Tryz.laysWriteString Tryz.extraWriteString B b (Lib.byteCells acc) s w h.isb (by rw [Lib.byteCells_length]; omega) h.lo').mono ?_
  rintro e w' ⟨rfl, h1, b1, o1⟩
  refine ⟨rfl, ⟨Or.inr ?_, b1, o1, h.lo'⟩⟩
  rw [Lib.byteCells_append]
  exact h1
/-- What is one index behind another one. -/
theorem escC_q {c : UInt8} (h : c.toNat = 34 ∨ c.toNat = 92) : escC c = [92, c] := by unfold escC; rw [if_pos h]
theorem escC_u {c : UInt8} (h : ¬ (c.toNat = 34 ∨ c.toNat = 92)) (h' : c.toNat < 32) : escC c = [92, 117, 48, 48, hexC (c.toNat / 16), hexC (c.toNat % 16)] := by unfold escC; rw [if_neg h, if_pos h']
theorem escC_p {c : UInt8} (h : ¬ (c.toNat = 34 ∨ c.toNat = 92)) (h' : ¬ c.toNat < 32) : escC c = [c] := by unfold escC; rw [if_neg h, if_neg h']
def hexS : ByteArray := ⟨#[48, 49, 50, 51, 52, 53, 54, 55, 56, 57, 97, 98, 99, 100, 101, 102]⟩
theorem hexS_get : ∀ n : Fin 16, hexS[n.1]'n.2 = hexC n.1 := by decide
theorem hexS_at {n : Nat} (h : n < 16) : hexS[n]'h = hexC n := hexS_get ⟨n, h⟩
theorem escTo_mono (s : ByteArray) (k : Nat) : (escTo s k).length ≤ (escTo s s.size).length := by
  have e : escTo s s.size = escTo s k ++ (s.data.toList.drop k).flatMap escC := by
    unfold escTo
    have e2 : s.data.toList.take s.size = s.data.toList := List.take_of_length_le (by show s.data.toList.length ≤ s.data.size; rw [Array.length_toList]; exact Nat.le_refl _)
    rw [e2, ← List.flatMap_append, List.take_append_drop]
  rw [e]
  simp
end Go.Proofs.YtknakfpciccoaaaGreatDoor
/- The walk of printText. -/
namespace Go.Proofs.YtknakfpciccoaaaGreatDoor
open Go.RowKit

set_option maxHeartbeats 4000000 in
set_option maxRecDepth 100000 in
theorem printText_any (B b : Nat) (acc : List UInt8) (s : ByteArray) (w : World) (h : Lib.IsBuilderF 65 5 B b (Lib.byteCells acc) w) (hB : B ≤ w.heap.size) (hl : acc.length + (quoL s).length ≤ 100000000) (hs : s.size ≤ 140737488355328) :
    Calls Tryz.prog 77 #[.pointer (some ⟨b, 0, none⟩), .string s] w (Wrote B b (acc ++ quoL s) w) := by
  have HQ : Hid (∀ k, k ≤ s.size → (escTo s k).length + acc.length + 1 ≤ 100000000) := hid (fun k hk => by
    have := escTo_mono s k
    simp [quoL] at hl
    omega)
  have HE : Hid (acc ++ quoL s = acc ++ [34] ++ escTo s s.size ++ [34]) := by show _ = _; simp [quoL]
  have hl0 : acc.length ≤ 100000000 := by omega
  have HS := hid (WrP.start h hB)
  clear h hl
  go_enter Tryz.func77, Tryz.ntmps77
  go_wp2_with fail
  refine (wbyte_any B b acc 34 w w HS.out (by omega)).mono ?_
  rintro e w1 ⟨rfl, hw1⟩
  have H1 := hid hw1
  clear hw1
  go_wp2_with fail
  go_loopg [10] (s.size) (fun g i wr => ∃ k : Nat, g = s.size - k ∧ k ≤ s.size ∧ i = .int .i64 k ∧ Hid (WrP B b (acc ++ [34] ++ escTo s k) w wr))
  case atStart => exact ⟨0, rfl, Nat.zero_le _, rfl, H1.out.acc (by simp [escTo_zero])⟩
  case round =>
    obtain ⟨k, rfl, hk, rfl, HW⟩ := hrel
    have hq := HQ.out k hk
    have hlk : (acc ++ [34] ++ escTo s k).length ≤ 100000000 := by simp; omega
    by_cases hlt : k < s.size
    · obtain ⟨z, hz⟩ : ∃ z : UInt8, s[k]'hlt = z := ⟨_, rfl⟩
      have HZ := hid (escTo_succ (get_some hlt hz))
      have x1 : (k : Int) < (s.size : Int) := by omega
      have lz : z.toNat < 256 := z.toNat_lt
      have hne : ∀ (a : List UInt8), (acc ++ [34] ++ escTo s k ++ a).length ≤ 100000000 + a.length := fun a => by rw [List.length_append]; omega
      have HN := hid hne
      clear hne
      by_cases hq2 : z.toNat = 34 ∨ z.toNat = 92
      · have HC := hid (escC_q hq2)
        rcases hq2 with hq2 | hq2
        · have y1 : ((z.toNat : Int) == 34) = true := by rw [beq_iff_eq]; omega
          clear hq2
          go_wp2_with fail
          refine (wbyte_any B b _ 92 w wr HW.out (by omega)).mono ?_
          rintro e w2 ⟨rfl, hw2⟩
          have H2 := hid (HW.out.trans hw2)
          clear hw2
          go_wp2_with fail
          refine (wbyte_any B b _ z w w2 H2.out (by have := HN.out [92]; simp only [List.length_singleton] at this; omega)).mono ?_
          rintro e w3 ⟨rfl, hw3⟩
          have H3 := hid (H2.out.trans hw3)
          clear hw3
          go_wp2_with fail
          go_roundg (s.size - (k + 1))
          case rel => exact ⟨k + 1, rfl, by omega, by go_num, H3.out.acc (by rw [HZ.out, HC.out]; simp)⟩
          case measure => omega
        · have y0 : ((z.toNat : Int) == 34) = false := by rw [beq_eq_false_iff_ne]; omega
          have y1 : ((z.toNat : Int) == 92) = true := by rw [beq_iff_eq]; omega
          clear hq2
          go_wp2_with fail
          refine (wbyte_any B b _ 92 w wr HW.out (by omega)).mono ?_
          rintro e w2 ⟨rfl, hw2⟩
          have H2 := hid (HW.out.trans hw2)
          clear hw2
          go_wp2_with fail
          refine (wbyte_any B b _ z w w2 H2.out (by have := HN.out [92]; simp only [List.length_singleton] at this; omega)).mono ?_
          rintro e w3 ⟨rfl, hw3⟩
          have H3 := hid (H2.out.trans hw3)
          clear hw3
          go_wp2_with fail
          go_roundg (s.size - (k + 1))
          case rel => exact ⟨k + 1, rfl, by omega, by go_num, H3.out.acc (by rw [HZ.out, HC.out]; simp)⟩
          case measure => omega
      · have y34 : ((z.toNat : Int) == 34) = false := by rw [beq_eq_false_iff_ne]; omega
        have y92 : ((z.toNat : Int) == 92) = false := by rw [beq_eq_false_iff_ne]; omega
        by_cases hu : z.toNat < 32
        · have HC := hid (escC_u hq2 hu)
          have y1 : decide ((z.toNat : Int) < 32) = true := decide_eq_true (by omega)
          clear hq2
          go_wp2_with fail
          refine (wstr_any B b _ ⟨#[92, 117, 48, 48]⟩ w wr HW.out (by show _ + 4 ≤ _; omega)).mono ?_
          rintro e w2 ⟨rfl, hw2⟩
          have H2 := hid (HW.out.trans hw2)
          clear hw2
          have n1 : z.toNat / 16 < 16 := by omega
          have n2 : z.toNat % 16 < 16 := by omega
          go_wp2_with fail
          refine (wbyte_any B b _ (hexS[z.toNat / 16]'n1) w w2 H2.out (by have := HN.out [92, 117, 48, 48]; simp only [List.length_cons, List.length_nil] at this; simp only [List.length_append, List.length_cons, List.length_nil] at this ⊢; omega)).mono ?_
          rintro e w3 ⟨rfl, hw3⟩
          have H3 := hid (H2.out.trans hw3)
          clear hw3
          go_wp2_with fail
          refine (wbyte_any B b _ (hexS[z.toNat % 16]'n2) w w3 H3.out (by have := HN.out [92, 117, 48, 48]; simp only [List.length_append, List.length_cons, List.length_nil] at this ⊢; omega)).mono ?_
          rintro e w4 ⟨rfl, hw4⟩
          have H4 := hid (H3.out.trans hw4)
          clear hw4
          go_wp2_with fail
          go_roundg (s.size - (k + 1))
          case rel => exact ⟨k + 1, rfl, by omega, by go_num, H4.out.acc (by rw [HZ.out, HC.out, hexS_at, hexS_at]; simp)⟩
          case measure => omega
        · have HC := hid (escC_p hq2 hu)
          have y1 : decide ((z.toNat : Int) < 32) = false := decide_eq_false (by omega)
          clear hq2
          go_wp2_with fail
          refine (wbyte_any B b _ z w wr HW.out (by omega)).mono ?_
          rintro e w2 ⟨rfl, hw2⟩
          have H2 := hid (HW.out.trans hw2)
          clear hw2
          go_wp2_with fail
          go_roundg (s.size - (k + 1))
          case rel => exact ⟨k + 1, rfl, by omega, by go_num, H2.out.acc (by rw [HZ.out, HC.out]; simp)⟩
          case measure => omega
    · obtain rfl : k = s.size := by omega
      go_wp2_with fail
      refine (wbyte_any B b _ 34 w wr HW.out (by omega)).mono ?_
      rintro e w2 ⟨rfl, hw2⟩
      have H2 := hid hw2
      clear hw2
      go_wp2_with fail
      refine bodyPost_end (v := .tuple #[]) (by simp [results, Tryz.results77, go_sem]) rfl ?_
      exact ⟨rfl, (HW.out.trans H2.out).acc HE.out.symm⟩
end Go.Proofs.YtknakfpciccoaaaGreatDoor
