import Derived.Test.YtknakfpciccoaaaGreatDoorZO18
import Derived.Test.YtknakfpciccoaaaGreatDoorZO1
import Derived.Deep.AppendSrc
import Derived.Deep.AppendLies
import Derived.Laws.BytesArg
import Derived.Laws.IdiomStrings
import Derived.Test.YtknakfpciccoaaaGreatDoorZO11
/- The walks of allHold, oneHolds, noneHold. -/
namespace Go.Proofs.YtknakfpciccoaaaGreatDoor
open Go.RowKit

theorem allL_no {f : T → Bool} {t : T} {j k : Nat} (h : j < k) (hd : f (elt t j) = false) : allL f t k = false := allL_at h hd
set_option maxHeartbeats 4000000 in
set_option maxRecDepth 100000 in
theorem allHold_any {Tb : World → Prop} (hL : Lies Tb) (m : Nat) (ih : FilSaid Tb m) (l : Value) (j : T) (f : Nat) (x : Value) (v : T) (w : World) (hl : RowF w (FilAt w m) l j) (hv : At w f x v) (hf : f ≤ 16) (kv : okA v) (hT : Tb w) :
    Calls Tryz.prog 327 #[l, x] w fun e w' => e = .returned (.bool (allL (fun y => evF m y v) j (nL j))) ∧ Below w.heap.size w w' := by
  obtain ⟨g1, La, Ka, Lc, Kc, hg1, rfl, _, _, _⟩ := hv.open
  obtain ⟨A, c, rfl, hn, hrow⟩ := hl
  have HRow := hid hrow
  have HT : Hid (∀ w' : World, Below w.heap.size w w' → Tb w') := fun w' hb => hL w hT w w' hT hb
  have HV := hid hv
  have HKv := hid kv
  have HIh := hid ih
  clear hrow hv kv ih hg1 hT hL
  go_enter Tryz.func327, Tryz.ntmps327
  go_wp2_with fail
  go_loopg [9] (nL j) (fun g' i wr => ∃ k : Nat, g' = nL j - k ∧ k ≤ nL j ∧ i = .int .i64 k ∧ Hid (Below (w.heap.size + 1) (w.alloc (.cells #[.int .i64 (kindOf v), .int .i64 (nOf v), .string (sOf v), .slice La (nL v) Lc, .slice Ka (nK v) Kc] 25)) wr) ∧ Hid (allL (fun y => evF m y v) j k = true))
  case atStart => exact ⟨0, rfl, Nat.zero_le _, rfl, Below.refl _ _, rfl⟩
  case round =>
    obtain ⟨k, rfl, hk, rfl, HB, HN⟩ := hrel
    obtain ⟨q0, q1, q2, q3, q4, hz, hbw⟩ := box_facts HB.out
    have Hbw := hid hbw
    clear hbw
    by_cases hlt : k < nL j
    · obtain ⟨b, o, u, rfl, hbl, p0, hr⟩ := HRow.out k hlt
      replace p0 := (Hbw.out.cell (p := ⟨b, o + k, none⟩) hbl).trans p0
      have HC := hid (HIh.out u (elt j k) f _ v wr (FilAt.keep Hbw.out m _ _ hr) (HV.out.keep Hbw.out) hf HKv.out (HT.out wr Hbw.out))
      have HA : Hid (allL (fun y => evF m y v) j (k + 1) = evF m (elt j k) v) := by show _ = _; rw [allL, HN.out]; simp
      have HA2 : Hid (evF m (elt j k) v = false → allL (fun y => evF m y v) j (nL j) = false) := fun h => allL_no hlt h
      clear hr
      generalize evF m (elt j k) v = r at HC HA HA2
      go_wp2_with fail
      refine HC.out.mono ?_
      rintro e w2 ⟨rfl, b2⟩
      have HB4 := hid (HB.out.trans (b2.mono (by omega)))
      clear b2 HC
      cases r with
      | true =>
        go_wp2_with fail
        go_roundg (nL j - (k + 1))
        case rel => exact ⟨k + 1, rfl, by omega, by go_num, HB4, HA⟩
        case measure => omega
      | false =>
        have HA3 := hid (HA2.out rfl)
        have HB5 := hid (((Below.refl w.heap.size w).alloc (Nat.le_refl _) (.cells #[.int .i64 (kindOf v), .int .i64 (nOf v), .string (sOf v), .slice La (nL v) Lc, .slice Ka (nK v) Kc] 25)).trans (HB4.out.mono (by omega)))
        clear HA2
        go_wp2_with fail
        go_ret
        exact ⟨ret_bool (by rw [HA3.out]), HB5.out⟩
    · obtain rfl : k = nL j := by omega
      go_wp2_with fail
      go_ret
      exact ⟨ret_bool (by rw [HN.out]), Hbw.out⟩
set_option maxHeartbeats 4000000 in
set_option maxRecDepth 100000 in
theorem one1_any {Tb : World → Prop} (m : Nat) (ih : FilSaid Tb m) (b : Nat) (f : Nat) (fv : Value) (y v : T) (A C : Option Addr) (B D : Nat) (w : World) (h0 : w.cell? ⟨b, 0, none⟩ = some (.int .i64 (kindOf v))) (h1 : w.cell? ⟨b, 1, none⟩ = some (.int .i64 (nOf v))) (h2 : w.cell? ⟨b, 2, none⟩ = some (.string (sOf v))) (h3 : w.cell? ⟨b, 3, none⟩ = some (.slice A (nL v) B)) (h4 : w.cell? ⟨b, 4, none⟩ = some (.slice C (nK v) D)) (hy : FilAt w m fv y)
    (ha : At w f (.agg #[.int .i64 (kindOf v), .int .i64 (nOf v), .string (sOf v), .slice A (nL v) B, .slice C (nK v) D]) v) (hf : f ≤ 16) (ka : okA v) (hT : Tb w) :
    Calls Tryz.prog 330 #[fv, .pointer (some ⟨b, 0, none⟩)] w fun e w' => e = .returned (.bool (evF m y v)) ∧ Below w.heap.size w w' := by
  have HC := hid (ih fv y f _ v w hy ha hf ka hT)
  generalize evF m y v = r at HC
  clear ha hy ka ih hT
  go_enter Tryz.func330, Tryz.ntmps330
  go_wp2_with fail
  refine HC.out.mono ?_
  rintro e w2 ⟨rfl, b2⟩
  have HB2 := hid b2
  clear b2
  go_wp2_with fail
  go_ret
  exact ⟨rfl, HB2.out⟩
set_option maxHeartbeats 4000000 in
set_option maxRecDepth 100000 in
theorem indexFil_any (P : T → Bool) (g : FuncId) (hg : ∀ (a : Array Value) (w : World), (callFunc g a).run Tryz.prog w = .ok (.enter g a) w) (p : Value) (R : World → Value → T → Prop) (hR : ∀ w w' u y, Below w.heap.size w w' → R w u y → R w' u y) (l : Value) (t : T) (w : World) (hl : RowF w (R w) l t)
    (hP : ∀ k, k < nL t → ∀ (wr : World) (u : Value), Below w.heap.size w wr → R wr u (elt t k) → Calls Tryz.prog g #[u, p] wr fun e w' => e = .returned (.bool (P (elt t k))) ∧ Below wr.heap.size wr w') :
    Calls Tryz.prog 331 #[l, .func (Fn.func g) #[] #[p]] w fun e w' => Below w.heap.size w w' ∧ ∃ n : Int, e = .returned (.int .i64 n) ∧ ((n = -1 ∧ anyL P t (nL t) = false) ∨ ∃ k : Nat, n = (k : Int) ∧ k < nL t ∧ P (elt t k) = true) := by
  obtain ⟨A, c, rfl, hn, hrow⟩ := hl
  have HRow := hid hrow
  have HR := hid hR
  have HP := hid hP
  clear hrow hP hR
  go_enter Tryz.func331, Tryz.ntmps331
  go_wp2_with fail
  go_loopg [8] (nL t) (fun g' i wr => ∃ k : Nat, g' = nL t - k ∧ k ≤ nL t ∧ i = .int .i64 k ∧ Hid (Below w.heap.size w wr) ∧ Hid (anyL P t k = false))
  case atStart => exact ⟨0, rfl, Nat.zero_le _, rfl, Below.refl _ _, rfl⟩
  case round =>
    obtain ⟨k, rfl, hk, rfl, HB, HN⟩ := hrel
    by_cases hlt : k < nL t
    · obtain ⟨b, o, u, rfl, hbl, p0, hr⟩ := HRow.out k hlt
      replace p0 := (HB.out.cell (p := ⟨b, o + k, none⟩) hbl).trans p0
      have HC := hid (HP.out k hlt wr u HB.out (HR.out _ _ _ _ HB.out hr))
      clear hr
      cases hp : P (elt t k) with
      | true =>
        rw [hp] at HC
        have Hp := hid hp
        clear hp
        go_wp2_with fail
        refine HC.out.mono ?_
        rintro e w2 ⟨rfl, b2⟩
        have HB2 := hid (HB.out.trans (b2.mono HB.out.size))
        clear b2
        go_wp2_with fail
        go_ret
        exact ⟨HB2.out, _, rfl, .inr ⟨k, rfl, hlt, Hp.out⟩⟩
      | false =>
        rw [hp] at HC
        have HN2 : Hid (anyL P t (k + 1) = false) := by show _ = _; rw [anyL, HN.out, hp]; rfl
        clear hp
        go_wp2_with fail
        refine HC.out.mono ?_
        rintro e w2 ⟨rfl, b2⟩
        have HB2 := hid (HB.out.trans (b2.mono HB.out.size))
        clear b2
        go_wp2_with fail
        go_roundg (nL t - (k + 1))
        case rel => exact ⟨k + 1, rfl, by omega, by go_num, HB2, HN2⟩
        case measure => omega
    · obtain rfl : k = nL t := by omega
      go_wp2_with fail
      go_ret
      exact ⟨HB.out, _, rfl, .inl ⟨rfl, HN.out⟩⟩
set_option maxHeartbeats 4000000 in
set_option maxRecDepth 100000 in
theorem containsFil_any (P : T → Bool) (g : FuncId) (hg : ∀ (a : Array Value) (w : World), (callFunc g a).run Tryz.prog w = .ok (.enter g a) w) (p : Value) (R : World → Value → T → Prop) (hR : ∀ w w' u y, Below w.heap.size w w' → R w u y → R w' u y) (l : Value) (t : T) (w : World) (hl : RowF w (R w) l t)
    (hP : ∀ k, k < nL t → ∀ (wr : World) (u : Value), Below w.heap.size w wr → R wr u (elt t k) → Calls Tryz.prog g #[u, p] wr fun e w' => e = .returned (.bool (P (elt t k))) ∧ Below wr.heap.size wr w') :
    Calls Tryz.prog 329 #[l, .func (Fn.func g) #[] #[p]] w fun e w' => e = .returned (.bool (anyL P t (nL t))) ∧ Below w.heap.size w w' := by
  have HC := hid (indexFil_any P g hg p R hR l t w hl hP)
  clear hl hP hR
  go_enter Tryz.func329, Tryz.ntmps329
  go_wp2_with fail
  refine HC.out.mono ?_
  rintro e w2 ⟨b2, n, rfl, ⟨rfl, hn⟩ | ⟨k, rfl, hk, hp⟩⟩
  · have HB := hid b2
    have HN := hid hn
    clear b2 hn
    go_wp2_with fail
    go_ret
    exact ⟨ret_bool HN.out.symm, HB.out⟩
  · have HB := hid b2
    have HN := hid (anyL_at hk hp)
    clear b2 hp
    go_wp2_with fail
    go_ret
    exact ⟨ret_bool HN.out.symm, HB.out⟩
set_option maxHeartbeats 4000000 in
set_option maxRecDepth 100000 in
theorem oneHolds_any {Tb : World → Prop} (hL : Lies Tb) (m : Nat) (ih : FilSaid Tb m) (l : Value) (j : T) (f : Nat) (x : Value) (v : T) (w : World) (hl : RowF w (FilAt w m) l j) (hv : At w f x v) (hf : f ≤ 16) (kv : okA v) (hT : Tb w) :
    Calls Tryz.prog 328 #[l, x] w fun e w' => e = .returned (.bool (anyL (fun y => evF m y v) j (nL j))) ∧ Below w.heap.size w w' := by
  obtain ⟨g1, La, Ka, Lc, Kc, hg1, rfl, _, _, _⟩ := hv.open
  have HB : Hid (Below w.heap.size w (w.alloc (.cells #[.int .i64 (kindOf v), .int .i64 (nOf v), .string (sOf v), .slice La (nL v) Lc, .slice Ka (nK v) Kc] 25))) := (Below.refl _ _).alloc (Nat.le_refl _) _
  have HX : Hid (BoxAt w.heap.size (.int .i64 (kindOf v)) (.int .i64 (nOf v)) (.string (sOf v)) (.slice La (nL v) Lc) (.slice Ka (nK v) Kc) (w.alloc (.cells #[.int .i64 (kindOf v), .int .i64 (nOf v), .string (sOf v), .slice La (nL v) Lc, .slice Ka (nK v) Kc] 25))) := by
    constructor <;> simp [go_sem]
  have HC := hid (containsFil_any (fun y => evF m y v) 330 (fun _ _ => rfl) (.pointer (some ⟨w.heap.size, 0, none⟩)) (fun w => FilAt w m) (fun w w' u y hb h => FilAt.keep hb m u y h) l j _ (hl.keep HB.out (FilAt.keep HB.out m)) (fun k hk wr u hb hu => by
      have hbx := HX.out.stay hb
      have hbw := HB.out.trans (hb.mono HB.out.size)
      exact one1_any m ih w.heap.size f u (elt j k) v La Ka Lc Kc wr hbx.q0 hbx.q1 hbx.q2 hbx.q3 hbx.q4 hu (hv.keep hbw) hf kv (hL w hT _ _ hT hbw)))
  generalize anyL (fun y => evF m y v) j (nL j) = r at HC
  clear hv kv hl ih hT hL hg1
  go_enter Tryz.func328, Tryz.ntmps328
  go_wp2_with fail
  refine HC.out.mono ?_
  rintro e w2 ⟨rfl, b2⟩
  have HB3 := hid (HB.out.trans (b2.mono HB.out.size))
  clear b2
  go_wp2_with fail
  go_ret
  exact ⟨rfl, HB3.out⟩
set_option maxHeartbeats 4000000 in
set_option maxRecDepth 100000 in
theorem noneHold_any {Tb : World → Prop} (hL : Lies Tb) (m : Nat) (ih : FilSaid Tb m) (l : Value) (j : T) (f : Nat) (x : Value) (v : T) (w : World) (hl : RowF w (FilAt w m) l j) (hv : At w f x v) (hf : f ≤ 16) (kv : okA v) (hT : Tb w) :
    Calls Tryz.prog 332 #[l, x] w fun e w' => e = .returned (.bool (!(anyL (fun y => evF m y v) j (nL j)))) ∧ Below w.heap.size w w' := by
  obtain ⟨g1, La, Ka, Lc, Kc, hg1, rfl, _, _, _⟩ := hv.open
  have HB : Hid (Below w.heap.size w (w.alloc (.cells #[.int .i64 (kindOf v), .int .i64 (nOf v), .string (sOf v), .slice La (nL v) Lc, .slice Ka (nK v) Kc] 25))) := (Below.refl _ _).alloc (Nat.le_refl _) _
  have HC := hid (oneHolds_any hL m ih l j f _ v _ (hl.keep HB.out (FilAt.keep HB.out m)) (hv.keep HB.out) hf kv (hL w hT _ _ hT HB.out))
  generalize anyL (fun y => evF m y v) j (nL j) = r at HC
  clear hv kv hl ih hT hL hg1
  go_enter Tryz.func332, Tryz.ntmps332
  go_wp2_with fail
  refine HC.out.mono ?_
  rintro e w2 ⟨rfl, b2⟩
  have HB3 := hid (HB.out.trans (b2.mono HB.out.size))
  clear b2
  go_wp2_with fail
  go_ret
  exact ⟨rfl, HB3.out⟩
end Go.Proofs.YtknakfpciccoaaaGreatDoor
/- The walk of Filter.Holds. -/
namespace Go.Proofs.YtknakfpciccoaaaGreatDoor
open Go.RowKit

theorem allN_no {p : Nat → Bool} {i : Nat} (hp : p i = false) : ∀ n, i < n → allN p n = false
  | 0, h => by omega
  | n + 1, h => by
    rw [allN]
    by_cases e : i = n
    · subst e; rw [hp]; simp
    · rw [allN_no hp n (by omega)]; rfl
theorem meth_all (l : Value) (w : World) : (method 381 238 l "sheaf/filter.holds").run Tryz.prog w = .ok (327, l) w := by kernel_rfl
theorem meth_one (l : Value) (w : World) : (method 381 240 l "sheaf/filter.holds").run Tryz.prog w = .ok (328, l) w := by kernel_rfl
theorem meth_none (l : Value) (w : World) : (method 381 241 l "sheaf/filter.holds").run Tryz.prog w = .ok (332, l) w := by kernel_rfl
theorem meth_has (l : Value) (w : World) : (method 381 249 l "sheaf/filter.holds").run Tryz.prog w = .ok (335, l) w := by kernel_rfl
set_option maxHeartbeats 4000000 in
set_option maxRecDepth 100000 in
theorem fil_step {Tb : World → Prop} (hA : AtoiSaid Tb) (hI : ItoaSaid Tb) (hL : Lies Tb) (m : Nat) (ih : FilSaid Tb m) : FilSaid Tb (m + 1) := by
  intro fv t f x v w hfl hv hf kv hT
  obtain ⟨g1, La, Ka, Lc, Kc, hg1, rfl, _, _, _⟩ := hv.open
  obtain ⟨A, c, rfl, hn, hrow⟩ := hfl
  have HRow := hid hrow
  have HT : Hid (∀ w' : World, Below w.heap.size w w' → Tb w') := fun w' hb => hL w hT w w' hT hb
  have HV := hid hv
  have HKv := hid kv
  have HIh := hid ih
  have HL := hid hL
  have HAt := hid hA
  have HIt := hid hI
  clear hrow hv kv ih hg1 hT hL hA hI
  go_enter Tryz.func111, Tryz.ntmps111
  go_wp2_with fail
  go_loopg [9] (nK t) (fun g' i wr => ∃ k : Nat, g' = nK t - k ∧ k ≤ nK t ∧ i = .int .i64 k ∧ Hid (Below (w.heap.size + 1) (w.alloc (.cells #[.int .i64 (kindOf v), .int .i64 (nOf v), .string (sOf v), .slice La (nL v) Lc, .slice Ka (nK v) Kc] 25)) wr) ∧ Hid (allN (fun i => evC (evF m) (nam t i) (elt t i) v) k = true))
  case atStart => exact ⟨0, rfl, Nat.zero_le _, rfl, Below.refl _ _, rfl⟩
  case round =>
    obtain ⟨k, rfl, hk, rfl, HB, HN⟩ := hrel
    obtain ⟨q0, q1, q2, q3, q4, hz, hbw⟩ := box_facts HB.out
    have Hbw := hid hbw
    clear hbw
    by_cases hlt : k < nK t
    · obtain ⟨b, o, u, rfl, hbl, p0, hr⟩ := HRow.out k hlt
      replace p0 := (Hbw.out.cell (p := ⟨b, o + k, none⟩) hbl).trans p0
      have HA : Hid (allN (fun i => evC (evF m) (nam t i) (elt t i) v) (k + 1) = evC (evF m) (nam t k) (elt t k) v) := by show _ = _; rw [allN, HN.out]; simp
      have HA2 : Hid (evC (evF m) (nam t k) (elt t k) v = false → evF (m + 1) t v = false) := fun h => allN_no (p := fun i => evC (evF m) (nam t i) (elt t i) v) h _ hlt
      have HVr := hid (HV.out.keep Hbw.out)
      have HTr := hid (HT.out wr Hbw.out)
      rcases hr with ⟨hx, l, rfl, hl⟩ | ⟨hx, l, rfl, hl⟩ | ⟨hx, l, rfl, hl⟩ | ⟨hx, pv, tv, rfl, hpv, htv⟩
      · have HC := hid (allHold_any HL.out m HIh.out l (elt t k) f _ v wr (hl.keep Hbw.out (FilAt.keep Hbw.out m)) HVr.out hf HKv.out HTr.out)
        have HE : Hid (evC (evF m) (nam t k) (elt t k) v = allL (fun y => evF m y v) (elt t k) (nL (elt t k))) := by show _ = _; unfold evC; rw [if_pos hx]
        rw [← HE.out] at HC
        have hm := meth_all l wr
        clear hl hx HE
        generalize evC (evF m) (nam t k) (elt t k) v = r at HC HA HA2
        go_wp2_with fail
        refine HC.out.mono ?_
        rintro e w2 ⟨rfl, b2⟩
        have HB4 := hid (HB.out.trans (b2.mono (by omega)))
        clear b2 HC
        cases r with
        | true =>
          go_wp2_with fail
          go_roundg (nK t - (k + 1))
          case rel => exact ⟨k + 1, rfl, by omega, by go_num, HB4, HA⟩
          case measure => omega
        | false =>
          have HA3 := hid (HA2.out rfl)
          have HB5 := hid (((Below.refl w.heap.size w).alloc (Nat.le_refl _) (.cells #[.int .i64 (kindOf v), .int .i64 (nOf v), .string (sOf v), .slice La (nL v) Lc, .slice Ka (nK v) Kc] 25)).trans (HB4.out.mono (by omega)))
          clear HA2
          go_wp2_with fail
          go_ret
          exact ⟨ret_bool (by rw [HA3.out]), HB5.out⟩
      · have HC := hid (oneHolds_any HL.out m HIh.out l (elt t k) f _ v wr (hl.keep Hbw.out (FilAt.keep Hbw.out m)) HVr.out hf HKv.out HTr.out)
        have HE : Hid (evC (evF m) (nam t k) (elt t k) v = anyL (fun y => evF m y v) (elt t k) (nL (elt t k))) := by show _ = _; unfold evC; rw [if_neg (by rw [hx]; decide), if_pos hx]
        rw [← HE.out] at HC
        have hm := meth_one l wr
        clear hl hx HE
        generalize evC (evF m) (nam t k) (elt t k) v = r at HC HA HA2
        go_wp2_with fail
        refine HC.out.mono ?_
        rintro e w2 ⟨rfl, b2⟩
        have HB4 := hid (HB.out.trans (b2.mono (by omega)))
        clear b2 HC
        cases r with
        | true =>
          go_wp2_with fail
          go_roundg (nK t - (k + 1))
          case rel => exact ⟨k + 1, rfl, by omega, by go_num, HB4, HA⟩
          case measure => omega
        | false =>
          have HA3 := hid (HA2.out rfl)
          have HB5 := hid (((Below.refl w.heap.size w).alloc (Nat.le_refl _) (.cells #[.int .i64 (kindOf v), .int .i64 (nOf v), .string (sOf v), .slice La (nL v) Lc, .slice Ka (nK v) Kc] 25)).trans (HB4.out.mono (by omega)))
          clear HA2
          go_wp2_with fail
          go_ret
          exact ⟨ret_bool (by rw [HA3.out]), HB5.out⟩
      · have HC := hid (noneHold_any HL.out m HIh.out l (elt t k) f _ v wr (hl.keep Hbw.out (FilAt.keep Hbw.out m)) HVr.out hf HKv.out HTr.out)
        have HE : Hid (evC (evF m) (nam t k) (elt t k) v = !(anyL (fun y => evF m y v) (elt t k) (nL (elt t k)))) := by show _ = _; unfold evC; rw [if_neg (by rw [hx]; decide), if_neg (by rw [hx]; decide), if_pos hx]
        rw [← HE.out] at HC
        have hm := meth_none l wr
        clear hl hx HE
        generalize evC (evF m) (nam t k) (elt t k) v = r at HC HA HA2
        go_wp2_with fail
        refine HC.out.mono ?_
        rintro e w2 ⟨rfl, b2⟩
        have HB4 := hid (HB.out.trans (b2.mono (by omega)))
        clear b2 HC
        cases r with
        | true =>
          go_wp2_with fail
          go_roundg (nK t - (k + 1))
          case rel => exact ⟨k + 1, rfl, by omega, by go_num, HB4, HA⟩
          case measure => omega
        | false =>
          have HA3 := hid (HA2.out rfl)
          have HB5 := hid (((Below.refl w.heap.size w).alloc (Nat.le_refl _) (.cells #[.int .i64 (kindOf v), .int .i64 (nOf v), .string (sOf v), .slice La (nL v) Lc, .slice Ka (nK v) Kc] 25)).trans (HB4.out.mono (by omega)))
          clear HA2
          go_wp2_with fail
          go_ret
          exact ⟨ret_bool (by rw [HA3.out]), HB5.out⟩
      · have HC := hid (valueHas_any HAt.out HIt.out HL.out (nam t k) (elt t k) pv tv f _ v wr (hpv.keep Hbw.out) (htv.keep Hbw.out) HVr.out hf HKv.out HTr.out)
        have HE : Hid (evC (evF m) (nam t k) (elt t k) v = evP (splitP (nam t k)) (exps (elt t k)) v) := by show _ = _; unfold evC; rw [if_neg hx.1, if_neg hx.2.1, if_neg hx.2.2]
        rw [← HE.out] at HC
        have hm := meth_has (.agg #[pv, tv]) wr
        clear hpv htv hx HE
        generalize evC (evF m) (nam t k) (elt t k) v = r at HC HA HA2
        go_wp2_with fail
        refine HC.out.mono ?_
        rintro e w2 ⟨rfl, b2⟩
        have HB4 := hid (HB.out.trans (b2.mono (by omega)))
        clear b2 HC
        cases r with
        | true =>
          go_wp2_with fail
          go_roundg (nK t - (k + 1))
          case rel => exact ⟨k + 1, rfl, by omega, by go_num, HB4, HA⟩
          case measure => omega
        | false =>
          have HA3 := hid (HA2.out rfl)
          have HB5 := hid (((Below.refl w.heap.size w).alloc (Nat.le_refl _) (.cells #[.int .i64 (kindOf v), .int .i64 (nOf v), .string (sOf v), .slice La (nL v) Lc, .slice Ka (nK v) Kc] 25)).trans (HB4.out.mono (by omega)))
          clear HA2
          go_wp2_with fail
          go_ret
          exact ⟨ret_bool (by rw [HA3.out]), HB5.out⟩
    · obtain rfl : k = nK t := by omega
      go_wp2_with fail
      go_ret
      exact ⟨ret_bool (by rw [evF, HN.out]), Hbw.out⟩
theorem fil_any {Tb : World → Prop} (hA : AtoiSaid Tb) (hI : ItoaSaid Tb) (hL : Lies Tb) : ∀ m, FilSaid Tb m
  | 0 => fun _ _ _ _ _ _ h => h.elim
  | m + 1 => fil_step hA hI hL m (fil_any hA hI hL m)
end Go.Proofs.YtknakfpciccoaaaGreatDoor
/- append onto a slice of one's own, of whatever is appended: a text's bytes too. -/
namespace Go.Proofs.YtknakfpciccoaaaGreatDoor
open Go.RowKit

theorem run_append_src {P : Program} (w : World) (base : Nat) (t tx ty e : TypeId) (i : TypeInfo) (z : Value) (size bytes : Nat) (ht : P.underlying t = some (.slice e)) (hi : P.info? e = some i) (hz : i.zero = some z)
    (hsize : i.size = size) (hby : i.bytes = bytes) (hzs : z.cells.size = size)
    (v : Value) (n : Nat) (xs : List Value) (hown : w.ownsRow base e size v n xs) (x : Value) (m : Nat) (news : List Value) (hs : Src P size tx x m news w)
    (h63 : n + m ≤ maxLen) (hbytes : (n + m) * bytes ≤ 140737488355328) (hbase : base ≤ w.heap.size) :
    ∃ v' w', (Builtin.append_ #[t, tx] ty #[v, x]).run P w = .ok v' w' ∧ w'.ownsRow base e size v' (n + m) (xs ++ news) ∧ w.grownBy w' v.ownBlock ∧ (v'.ownBlock = v.ownBlock ∨ v'.ownBlock = some w.heap.size) := by
  subst hsize
  subst hby
  have hsmall : n + m ≤ 9223372036854775807 := by simp only [maxLen] at h63; omega
  have hl := hs.newsLen
  have hlen : (xs ++ news).length = (n + m) * i.size := by rw [List.length_append, hown.1, hl, Nat.add_mul]
  have grown : ∀ (old : Nat), ∀ (row : Option Nat),
      (w.drew.alloc (.cells ((xs ++ news).toArray ++ Builtin.zeroCells z.cells (grownCap w (n + m) old e - (n + m))) e)).ownsRow base e i.size
        (.slice (some ⟨w.heap.size, 0, none⟩) (n + m) (grownCap w (n + m) old e)) (n + m) (xs ++ news) ∧
      w.grownBy (w.drew.alloc (.cells ((xs ++ news).toArray ++ Builtin.zeroCells z.cells (grownCap w (n + m) old e - (n + m))) e)) row := by
    intro old row
    have hge := grownCap_ge w (n + m) old e
    have hcm : grownCap w (n + m) old e ≤ maxLen := grownCap_le_maxLen w (n + m) old e h63
    refine ⟨⟨hlen, .inr ⟨w.heap.size, _, _, rfl, hbase, heap_alloc_new w.drew _, hge, hcm, ?_, ?_⟩⟩, ⟨rfl, rfl, rfl, by simp, fun k hk _ => heap_alloc_old w.drew _ hk⟩⟩
    · simp only [Array.size_append, List.size_toArray, size_zeroCells, hzs, hlen, ← Nat.add_mul]
      congr 1
      omega
    · simp only [Array.toList_append]
      rw [← hlen]
      exact List.take_left
  rcases hown.2 with ⟨rfl, rfl⟩ | ⟨g, cap, cur, rfl, hbg, hg, hnc, hcm, hcs, htake⟩
  · have hx : xs = [] := List.eq_nil_of_length_eq_zero (by simpa using hown.1)
    subst hx
    by_cases hm : m = 0
    · subst hm
      have hn : news = [] := List.eq_nil_of_length_eq_zero (by simpa using hl)
      subst hn
      refine ⟨.slice none 0 0, w, ?_, World.ownsRow_nil w base e i.size, ⟨rfl, rfl, rfl, Nat.le_refl _, fun _ _ _ => rfl⟩, Or.inl rfl⟩
      rcases hs.kind with ⟨e', hk⟩ | hk <;> simp [Builtin.append_, run_underlying ht, run_underlying hk, sizeOf, typeInfo, hi, hs.len, hs.cells]
    · have hr := run_append_grow_src (P := P) w t tx ty e i z ht hi hz none 0 0 [] (run_firstCells_none w.drew i.size 0 0 0) x m news hs (by omega) (by omega) (growslice_fits (by omega) hbytes)
      have hgr := grown 0 (Value.ownBlock (.slice none 0 0))
      exact ⟨_, _, hr, hgr.1, hgr.2, Or.inr rfl⟩
  · by_cases hroom : n + m ≤ cap
    · have hfit : n * i.size + news.length ≤ cur.size := by rw [hl, hcs, ← Nat.add_mul]; exact Nat.mul_le_mul_right _ hroom
      have hst := run_storeCells_at P g (n * i.size) e news 0 cur w hg (by simpa using hfit) hs.one
      simp only [Nat.add_zero] at hst
      have hr : (Builtin.append_ #[t, tx] ty #[.slice (some ⟨g, 0, none⟩) n cap, x]).run P w = .ok (.slice (some ⟨g, 0, none⟩) (n + m) cap) (w.setRow g (cur.toList.take (n * i.size) ++ news ++ cur.toList.drop (n * i.size + news.length)).toArray) := by
        rcases hs.kind with ⟨e', hk⟩ | hk <;> simp [Builtin.append_, run_underlying ht, run_underlying hk, sizeOf, typeInfo, hi, hs.len, hroom, hs.cells, Addr.add_lit, hst]
      refine ⟨_, _, hr, ⟨hlen, .inr ⟨g, cap, _, rfl, hbg, setRow_heap w g cur _ e _ hg, hroom, hcm, ?_, ?_⟩⟩, ⟨rfl, rfl, rfl, by simp, fun k _ hk => setRow_other w g k _ (fun e => hk (by simp [Value.ownBlock, e]))⟩, Or.inl rfl⟩
      · simp only [List.size_toArray, List.length_append, List.length_take, List.length_drop, Array.length_toList]
        omega
      · rw [htake, ← hlen]
        exact List.take_left
    · have holds : ∀ j u, xs[j]? = some u → w.cell? ((⟨g, 0, none⟩ : Addr).add j) = some u := hown.cells (g := g) rfl
      have hr := run_append_grow_src (P := P) w t tx ty e i z ht hi hz (some ⟨g, 0, none⟩) n cap xs (run_firstCells_some w.drew i.size n ⟨g, 0, none⟩ n cap xs hown.1 (by simpa using holds)) x m news hs (by omega) (by omega) (growslice_fits (by omega) hbytes)
      have hgr := grown cap (Value.ownBlock (.slice (some ⟨g, 0, none⟩) n cap))
      exact ⟨_, _, hr, hgr.1, hgr.2, Or.inr rfl⟩
theorem wp_append_src {P : Program} (w : World) {o : Oper} {a : Act} {K : Act → World → Prop} {Q : Exit → Act → World → Prop} (s xo : Operand) (t tx : TypeId)
    (ho : o.op = .call { callee := .builtin .append, args := #[s, xo], argTypes := #[t, tx] })
    (base : Nat) (e : TypeId) (i : TypeInfo) (z : Value) (size bytes : Nat) (ht : P.underlying t = some (.slice e)) (hi : P.info? e = some i) (hz : i.zero = some z)
    (hsize : i.size = size) (hby : i.bytes = bytes) (hzs : z.cells.size = size)
    (v : Value) (n : Nat) (xs : List Value) (hsv : a.eval s = v) (hown : w.ownsRow base e size v n xs) (x : Value) (m : Nat) (news : List Value) (hx : a.eval xo = x) (hs : Src P size tx x m news w)
    (h63 : n + m ≤ maxLen) (hbytes : (n + m) * bytes ≤ 140737488355328) (hbase : base ≤ w.heap.size)
    (h : ∀ v' w', w'.ownsRow base e size v' (n + m) (xs ++ news) → w.grownBy w' v.ownBlock → (v'.ownBlock = v.ownBlock ∨ v'.ownBlock = some w.heap.size) → K (a.put o.dst v') w') : o.wp P a w K Q := by
  obtain ⟨v', w', hr, h2, h3, h4⟩ := run_append_src (P := P) w base t tx o.type e i z size bytes ht hi hz hsize hby hzs v n xs hown x m news hs h63 hbytes hbase
  unfold Oper.wp execOp
  simp only [ho, resolve, invoke, builtin, Sem.run_bind, Sem.run_pure, Result.andThen_ok, List.map_toArray, List.map_cons, List.map_nil, hsv, hx, hr]
  exact h v' w' h2 h3 h4
theorem wpList_append_src {P : Program} (w : World) {ops : Array Oper} {rest : List Oper} {o : Oper} {a : Act} {Q : Exit → Act → World → Prop} (hgd : o.guard = none) (s xo : Operand) (t tx : TypeId)
    (ho : o.op = .call { callee := .builtin .append, args := #[s, xo], argTypes := #[t, tx] })
    (base : Nat) (e : TypeId) (i : TypeInfo) (z : Value) (size bytes : Nat) (ht : P.underlying t = some (.slice e)) (hi : P.info? e = some i) (hz : i.zero = some z)
    (hsize : i.size = size) (hby : i.bytes = bytes) (hzs : z.cells.size = size)
    (v : Value) (n : Nat) (xs : List Value) (hsv : a.eval s = v) (hown : w.ownsRow base e size v n xs) (x : Value) (m : Nat) (news : List Value) (hx : a.eval xo = x) (hs : Src P size tx x m news w)
    (h63 : n + m ≤ maxLen) (hbytes : (n + m) * bytes ≤ 140737488355328) (hbase : base ≤ w.heap.size)
    (h : ∀ v' w', w'.ownsRow base e size v' (n + m) (xs ++ news) → w.grownBy w' v.ownBlock → (v'.ownBlock = v.ownBlock ∨ v'.ownBlock = some w.heap.size) → wpList P ops Q rest (a.put o.dst v') w') : wpList P ops Q (o :: rest) a w :=
  wpList_plain hgd fun _ hK => wp_append_src w s xo t tx ho base e i z size bytes ht hi hz hsize hby hzs v n xs hsv hown x m news hx hs h63 hbytes hbase fun v' w' h2 h3 h4 => hK _ _ (h v' w' h2 h3 h4)
theorem step_append_src {P : Program} (w : World) {ops : Array Oper} {o : Oper} {a : Act} {K : Act → World → Prop} {Q : Exit → Act → World → Prop} {E : Prop} (hgd : o.guard = none) (s xo : Operand) (t tx : TypeId)
    (ho : o.op = .call { callee := .builtin .append, args := #[s, xo], argTypes := #[t, tx] })
    (base : Nat) (e : TypeId) (i : TypeInfo) (z : Value) (size bytes : Nat) (ht : P.underlying t = some (.slice e)) (hi : P.info? e = some i) (hz : i.zero = some z)
    (hsize : i.size = size) (hby : i.bytes = bytes) (hzs : z.cells.size = size)
    (v : Value) (n : Nat) (xs : List Value) (hsv : a.eval s = v) (hown : w.ownsRow base e size v n xs) (x : Value) (m : Nat) (news : List Value) (hx : a.eval xo = x) (hs : Src P size tx x m news w)
    (h63 : n + m ≤ maxLen) (hbytes : (n + m) * bytes ≤ 140737488355328) (hbase : base ≤ w.heap.size)
    (h : ∀ v' w', w'.ownsRow base e size v' (n + m) (xs ++ news) → w.grownBy w' v.ownBlock → (v'.ownBlock = v.ownBlock ∨ v'.ownBlock = some w.heap.size) → K (a.put o.dst v') w') :
    if Region.wanted o (yielded ops a.tmps) = true then Oper.wp P o a w K Q else E := by
  have hw : Region.wanted o (yielded ops a.tmps) = true := by simp [Region.wanted, hgd]
  rw [if_pos hw]
  exact wp_append_src w s xo t tx ho base e i z size bytes ht hi hz hsize hby hzs v n xs hsv hown x m news hx hs h63 hbytes hbase h
/-- A text's bytes, as cells. -/
def bytesV (l : List UInt8) : List Value := l.map fun b => Value.int .u8 b.toNat
theorem bytesV_append (a b : List UInt8) : bytesV (a ++ b) = bytesV a ++ bytesV b := List.map_append ..
theorem bytesV_length (a : List UInt8) : (bytesV a).length = a.length := List.length_map ..
theorem src_bytes {P : Program} (w : World) {tx : TypeId} (hk : P.underlying tx = some .string) (s : ByteArray) : Src P 1 tx (.string s) s.size (bytesV s.data.toList) w := Src.ofString w hk s
/-- A list of bytes of one's own, as a text. -/
theorem conv_own {P : Program} {w : World} {base : Nat} {src dst e : TypeId} {v : Value} {l : List UInt8} (hs : P.underlying src = some (.slice e)) (he : P.underlying e = some (.int .u8)) (hd : P.underlying dst = some .string)
    (h : w.ownsRow base e 1 v l.length (bytesV l)) : (convert src dst v).run P w = .ok (.string ⟨l.toArray⟩) w := by
  rcases h.2 with ⟨rfl, h0⟩ | ⟨g, cap, cur, rfl, hbg, hg, hnc, hcm, hcs, htake⟩
  · have : l = [] := List.eq_nil_of_length_eq_zero h0
    subst this
    exact run_convert_bytes_nil w src e hs he 0 0 dst hd
  · refine run_convert_bytes_back (P := P) w src dst e ⟨g, 0, none⟩ cap l hs he hd fun j hj => ?_
    have := h.cells (g := g) rfl j (.int .u8 ((l[j]'hj).toNat : Nat)) (by unfold bytesV; rw [List.getElem?_map, List.getElem?_eq_getElem hj]; rfl)
    exact this
end Go.Proofs.YtknakfpciccoaaaGreatDoor
/- The walk of Filter.Among. -/
namespace Go.Proofs.YtknakfpciccoaaaGreatDoor
open Go.RowKit

/-- Those of a list's elements that are chosen. -/
def keepL (p : T → Bool) (t : T) : Nat → List T
  | 0 => []
  | k + 1 => keepL p t k ++ (if p (elt t k) = true then [elt t k] else [])
theorem keepL_le (p : T → Bool) (t : T) : ∀ k, (keepL p t k).length ≤ k
  | 0 => by simp [keepL]
  | k + 1 => by
    have := keepL_le p t k
    rw [keepL, List.length_append]
    split <;> simp <;> omega
/-- Values in a row of one's own, that lie elsewhere. -/
structure Held (w0 : World) (f : Nat) (hv : Value) (l : List T) (xs : List Value) (wr : World) : Prop where
  row : wr.ownsRow w0.heap.size 25 5 hv l.length xs
  at_ : ∀ i, (h : i < l.length) → At w0 f (fv xs i) l[i]
  low : Below w0.heap.size w0 wr
theorem rowH_move {w w' : World} {lo : Nat} {e : TypeId} {size n : Nat} {v : Value} {xs : List Value} (h : w.ownsRow lo e size v n xs) (hb : ∀ b, lo ≤ b → b < w.heap.size → w'.heap[b]? = w.heap[b]?) : w'.ownsRow lo e size v n xs := by
  refine ⟨h.1, ?_⟩
  rcases h.2 with hn | ⟨g, cap, cur, rfl, hb0, hg, rest⟩
  · exact .inl hn
  · exact .inr ⟨g, cap, cur, rfl, hb0, (hb g hb0 (Array.getElem?_eq_some_iff.1 hg).1).trans hg, rest⟩
theorem Held.keep {w0 : World} {f : Nat} {hv : Value} {l : List T} {xs : List Value} {wr w1 : World} (h : Held w0 f hv l xs wr) (hb : Below wr.heap.size wr w1) : Held w0 f hv l xs w1 :=
  ⟨rowH_move h.row fun b _ h2 => hb.block b h2, h.at_, h.low.trans (hb.mono h.low.size)⟩
theorem Held.nil (w0 : World) (f : Nat) (wr : World) (h : Below w0.heap.size w0 wr) : Held w0 f (.slice none 0 0) [] [] wr := ⟨World.ownsRow_nil _ _ _ _, fun i h => absurd h (Nat.not_lt_zero i), h⟩
theorem cx_left {xs ys : List Value} {j : Nat} (h : j < xs.length) : cx (xs ++ ys) j = cx xs j := by unfold cx; rw [List.getElem?_append_left h]
theorem cx_right {xs ys : List Value} {j : Nat} : cx (xs ++ ys) (xs.length + j) = cx ys j := by unfold cx; rw [List.getElem?_append_right (by omega)]; congr 2; omega
theorem Held.grow {w0 : World} {f : Nat} {hv v' : Value} {l : List T} {xs : List Value} {wr w2 : World} {c0 c1 c2 c3 c4 : Value} {x : T} (h : Held w0 f hv l xs wr) (ha : At w0 f (.agg #[c0, c1, c2, c3, c4]) x) (hO : w2.ownsRow w0.heap.size 25 5 v' (l.length + 1) (xs ++ [c0, c1, c2, c3, c4])) (hG : wr.grownBy w2 hv.ownBlock) : Held w0 f v' (l ++ [x]) (xs ++ [c0, c1, c2, c3, c4]) w2 := by
  have hx : xs.length = l.length * 5 := h.row.1
  refine ⟨by rw [List.length_append]; exact hO, fun i hi => ?_, ⟨hG.os.trans h.low.os, hG.tape.trans h.low.tape, hG.output.trans h.low.output, Nat.le_trans h.low.size hG.size, fun k hk => ?_⟩⟩
  · rw [List.length_append, List.length_cons, List.length_nil] at hi
    by_cases e : i < l.length
    · have := h.at_ i e
      rw [List.getElem_append_left e]
      unfold fv at this ⊢
      rw [cx_left (by omega), cx_left (by omega), cx_left (by omega), cx_left (by omega), cx_left (by omega)]
      exact this
    · obtain rfl : i = l.length := by omega
      rw [List.getElem_append_right (by omega)]
      simp only [Nat.sub_self, List.getElem_cons_zero]
      unfold fv
      rw [← hx, show xs.length = xs.length + 0 from rfl, cx_right, Nat.add_assoc, cx_right, Nat.add_assoc, cx_right, Nat.add_assoc, cx_right, Nat.add_assoc, cx_right]
      exact ha
  · rw [hG.block k (Nat.lt_of_lt_of_le hk h.low.size) ?_, h.low.block k hk]
    intro e
    rcases h.row.2 with ⟨rfl, _⟩ | ⟨g, cap, cur, rfl, hb0, _⟩
    · cases e
    · have : k = g := by simpa [Value.ownBlock] using e
      omega
set_option maxHeartbeats 4000000 in
set_option maxRecDepth 100000 in
theorem among_docs {Tb : World → Prop} (hL : Lies Tb) (m : Nat) (hfil : FilSaid Tb m) (fv' : Value) (t d : T) (f : Nat) (La : Option Addr) (Lc : Nat) (w : World) (hfl : FilAt w m fv' t) (hl : ElemsAt w f La d) (hn : nL d ≤ 1000000) (hf : f ≤ 16) (hk : ∀ i, i < nL d → okA (elt d i)) (hT : Tb w) :
    Calls Tryz.prog 65 #[fv', .slice La (nL d) Lc] w fun e w' => ∃ hv xs, e = .returned hv ∧ Held w f hv (keepL (evF m t) d (nL d)) xs w' := by
  obtain ⟨iV, hiV, zV0, zV1, zV2⟩ := info_parts infoV
  have HFl := hid hfl
  have Hl := hid hl
  have HK := hid hk
  have HFil := hid hfil
  have HT : Hid (∀ w' : World, Below w.heap.size w w' → Tb w') := fun w' hb => hL w hT w w' hT hb
  clear hfl hl hk hfil hT hL
  go_enter Tryz.func65, Tryz.ntmps65
  go_wp2_with fail
  go_loopg [5, 10] (nL d) (fun g o i wr => ∃ (k : Nat) (xs : List Value), g = nL d - k ∧ k ≤ nL d ∧ i = .int .i64 k ∧ Hid (Held w f o (keepL (evF m t) d k) xs wr))
  case atStart => exact ⟨0, [], rfl, Nat.zero_le _, rfl, Held.nil w f w (Below.refl _ _)⟩
  case round =>
    obtain ⟨k, xs, rfl, hk, rfl, HH⟩ := hrel
    by_cases hlt : k < nL d
    · obtain ⟨bb, oo, A, B, C, D, rfl, hbl, p0, p1, p2, p3, p4, Ha⟩ := Hl.out.shape HH.out.low k hlt
      have HBi : Hid (Below wr.heap.size wr (wr.alloc (.cells #[.int .i64 (kindOf (elt d k)), .int .i64 (nOf (elt d k)), .string (sOf (elt d k)), .slice A (nL (elt d k)) B, .slice C (nK (elt d k)) D] 25))) := (Below.refl _ _).alloc (Nat.le_refl _) _
      have HB2 := hid (HH.out.low.trans (HBi.out.mono HH.out.low.size))
      have HC := hid (HFil.out fv' t f _ (elt d k) _ (FilAt.keep HB2.out m _ _ HFl.out) (Ha.out.keep HB2.out) hf (HK.out k hlt) (HT.out _ HB2.out))
      have hkl := keepL_le (evF m t) d k
      cases hp : evF m t (elt d k) with
      | true =>
        rw [hp] at HC
        have HE : Hid (keepL (evF m t) d (k + 1) = keepL (evF m t) d k ++ [elt d k]) := by show _ = _; rw [keepL, if_pos hp]
        clear hp
        go_wp2_with fail
        refine HC.out.mono ?_
        rintro e w2 ⟨rfl, b2⟩
        have HX2 : Hid (BoxAt wr.heap.size (.int .i64 (kindOf (elt d k))) (.int .i64 (nOf (elt d k))) (.string (sOf (elt d k))) (.slice A (nL (elt d k)) B) (.slice C (nK (elt d k)) D) w2) := by
          refine BoxAt.stay (w := wr.alloc (.cells #[.int .i64 (kindOf (elt d k)), .int .i64 (nOf (elt d k)), .string (sOf (elt d k)), .slice A (nL (elt d k)) B, .slice C (nK (elt d k)) D] 25)) ?_ b2
          constructor <;> simp [go_sem]
        have HH2 := hid ((HH.out.keep HBi.out).keep b2)
        have HH3 := hid (HH2.out.keep ((Below.refl w2.heap.size w2).alloc (Nat.le_refl _) (.cells #[.int .i64 (kindOf (elt d k)), .int .i64 (nOf (elt d k)), .string (sOf (elt d k)), .slice A (nL (elt d k)) B, .slice C (nK (elt d k)) D] 25)))
        have HSrc : Hid (Src Tryz.prog 5 22 (.slice (some ⟨w2.heap.size, 0, none⟩) 1 1) 1 [.int .i64 (kindOf (elt d k)), .int .i64 (nOf (elt d k)), .string (sOf (elt d k)), .slice A (nL (elt d k)) B, .slice C (nK (elt d k)) D] (w2.alloc (.cells #[.int .i64 (kindOf (elt d k)), .int .i64 (nOf (elt d k)), .string (sOf (elt d k)), .slice A (nL (elt d k)) B, .slice C (nK (elt d k)) D] 25))) := Src.ofSlice _ Tryz.underlying22 ⟨w2.heap.size, 0, none⟩ 1 1 [.int .i64 (kindOf (elt d k)), .int .i64 (nOf (elt d k)), .string (sOf (elt d k)), .slice A (nL (elt d k)) B, .slice C (nK (elt d k)) D] (by simp) (World.news_of_block (heap_alloc_new w2 _)) (by simp [Value.oneCell'])
        have q0 := HX2.out.q0
        have q1 := HX2.out.q1
        have q2 := HX2.out.q2
        have q3 := HX2.out.q3
        have q4 := HX2.out.q4
        have hlo := HH3.out.low.size
        clear b2 HC
        go_wp2_with (at_builtin; refine wpList_append_src _ rfl (.tmp 17) (.tmp 19) 22 22 rfl w.heap.size 25 iV _ 5 80 Tryz.underlying22 hiV zV0 zV1 zV2 rfl u5 (keepL (evF m t) d k).length xs rfl HH3.out.row (.slice (some ⟨w2.heap.size, 0, none⟩) 1 1) 1 [.int .i64 (kindOf (elt d k)), .int .i64 (nOf (elt d k)), .string (sOf (elt d k)), .slice A (nL (elt d k)) B, .slice C (nK (elt d k)) D] rfl HSrc.out (by unfold maxLen; omega) (by omega) hlo ?_; intro v' w6 hO6 hG6 hat6)
        have H6 := hid (HH3.out.grow Ha.out hO6 hG6)
        clear hO6 hG6 hat6 q0 q1 q2 q3 q4
        go_wp2_with fail
        go_roundg (nL d - (k + 1))
        case rel => exact ⟨k + 1, _, rfl, by omega, by go_num, by rw [HE.out]; exact H6⟩
        case measure => omega
      | false =>
        rw [hp] at HC
        have HE : Hid (keepL (evF m t) d (k + 1) = keepL (evF m t) d k) := by show _ = _; rw [keepL, hp]; simp
        clear hp
        go_wp2_with fail
        refine HC.out.mono ?_
        rintro e w2 ⟨rfl, b2⟩
        have HH2 := hid ((HH.out.keep HBi.out).keep b2)
        clear b2 HC
        go_wp2_with fail
        go_roundg (nL d - (k + 1))
        case rel => exact ⟨k + 1, _, rfl, by omega, by go_num, by rw [HE.out]; exact HH2⟩
        case measure => omega
    · obtain rfl : k = nL d := by omega
      go_wp2_with fail
      go_ret
      exact ⟨_, _, rfl, HH.out⟩
end Go.Proofs.YtknakfpciccoaaaGreatDoor
