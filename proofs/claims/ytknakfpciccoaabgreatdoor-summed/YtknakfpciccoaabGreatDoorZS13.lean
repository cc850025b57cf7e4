import Derived.Test.YtknakfpciccoaabGreatDoorZS2
import Derived.Test.YtknakfpciccoaabGreatDoorZS3
import Derived.Test.YtknakfpciccoaabGreatDoorZS12
import Derived.Test.YtknakfpciccoaabGreatDoorZS4
import Derived.Test.YtknakfpciccoaabGreatDoorZS1
import Derived.Test.YtknakfpciccoaabGreatDoorZS9
/- Places in values: slices.Index of names, elementOf, placeOf; order.Equal. -/
namespace Go.Proofs.YtknakfpciccoaabGreatDoor
open Go.RowKit

/-- No list is long, however deep. -/
def smK : Nat → T → Prop
  | 0, _ => True
  | f + 1, t => nK t ≤ 1048576 ∧ nL t ≤ 1048576 ∧ (∀ i, i < nK t → (nam t i).size ≤ 4000) ∧ ∀ i, i < nL t → smK f (elt t i)
/-- Objects have a name for each entry, and no list is long, however deep. -/
def okA (t : T) : Prop := (∀ f, okK f t) ∧ ∀ f, smK f t
theorem okA.elt {t : T} (h : okA t) {i : Nat} (hi : i < nL t) : okA (elt t i) := ⟨fun f => (h.1 (f + 1)).2 i hi, fun f => (h.2 (f + 1)).2.2.2 i hi⟩
theorem okA.names {t : T} (h : okA t) (k : kindOf t = 6) : nK t = nL t := (h.1 1).1 k
theorem okA.small {t : T} (h : okA t) : nK t ≤ 1048576 ∧ nL t ≤ 1048576 := ⟨(h.2 1).1, (h.2 1).2.1⟩
theorem okA.nam {t : T} (h : okA t) {i : Nat} (hi : i < nK t) : (nam t i).size ≤ 4000 := (h.2 1).2.2.1 i hi
theorem nam_leA {t : T} : ∀ k, namesF t k = true → ∀ i, i < k → (nam t i).size ≤ 4000
  | 0, _, i, hi => absurd hi (by omega)
  | k + 1, h, i, hi => by
    simp only [namesF, Bool.and_eq_true, decide_eq_true_eq] at h
    by_cases e : i = k
    · subst e; exact h.2.2
    · exact nam_leA k h.1 i (by omega)
theorem bytes_posA : ∀ (m : Nat) (t : T), 1 ≤ bytesT m t := by
  have hl : ∀ t, 1 ≤ leafBytes t := fun t => by
    unfold leafBytes
    split
    · exact Nat.le_refl _
    · split
      · omega
      · split <;> omega
  intro m t
  cases m with
  | zero => exact hl t
  | succ m =>
    unfold bytesT
    split
    · omega
    · split
      · omega
      · exact hl t
theorem sumL_geA {g : T → Nat} {t : T} (hg : ∀ x, 1 ≤ g x) : ∀ k, k ≤ sumL g t k
  | 0 => Nat.zero_le _
  | k + 1 => by have := sumL_geA hg (t := t) k; have := hg (elt t k); rw [sumL]; omega
theorem sumL_oneA {g : T → Nat} {t : T} {i : Nat} : ∀ k, i < k → g (elt t i) ≤ sumL g t k
  | 0, h => by omega
  | k + 1, h => by
    rw [sumL]
    by_cases e : i = k
    · subst e; omega
    · have := sumL_oneA (g := g) (t := t) k (show i < k by omega); omega
theorem good_smK : ∀ (f m : Nat) (t : T), Good m t → bytesT m t ≤ 1048576 → smK f t
  | 0, _, _, _, _ => trivial
  | f + 1, 0, t, h, _ => ⟨by rw [h.2.1]; omega, by rw [h.1]; omega, fun i hi => by rw [h.2.1] at hi; omega, fun i hi => by rw [h.1] at hi; omega⟩
  | f + 1, m + 1, t, h, hb => by
    rcases h with h | ⟨_, _, he, hk⟩
    · exact ⟨by rw [h.2.1]; omega, by rw [h.1]; omega, fun i hi => by rw [h.2.1] at hi; omega, fun i hi => by rw [h.1] at hi; omega⟩
    · have hs := sumL_geA (g := bytesT m) (t := t) (bytes_posA m) (nL t)
      have hsum : sumL (bytesT m) t (nL t) ≤ 1048576 := by
        unfold bytesT at hb
        rcases hk with ⟨hk, _⟩ | ⟨hk, _⟩
        · rw [if_pos hk] at hb; omega
        · rw [if_neg (by omega), if_pos hk] at hb; omega
      refine ⟨?_, by omega, fun i hi => ?_, fun i hi => good_smK f m _ (he i hi) ?_⟩
      · rcases hk with ⟨_, hk⟩ | ⟨_, hk, _⟩ <;> omega
      · rcases hk with ⟨_, hk⟩ | ⟨_, _, hk, _⟩
        · omega
        · exact nam_leA _ hk i hi
      · have := sumL_oneA (g := bytesT m) (t := t) (nL t) hi; omega
theorem good_okA {m : Nat} {t : T} (h : Good m t) (hb : bytesT m t ≤ 1048576) : okA t := ⟨fun f => good_okK f m t h, fun f => good_smK f m t h hb⟩
/-- Texts in memory, one behind the other. -/
def StrsAt (w : World) (v : Value) (l : List ByteArray) : Prop :=
  ∃ (A : Option Addr) (c : Nat), v = .slice A l.length c ∧ l.length ≤ 8796093022208 ∧ ∀ i, i < l.length → ∃ b o, A = some ⟨b, o, none⟩ ∧ b < w.heap.size ∧ (l.getD i ByteArray.empty).size ≤ 140737488355328 ∧ w.cell? ⟨b, o + i, none⟩ = some (.string (l.getD i ByteArray.empty))
theorem StrsAt.keep {w w' : World} {v : Value} {l : List ByteArray} (h : StrsAt w v l) (hb : Below w.heap.size w w') : StrsAt w' v l := by
  obtain ⟨A, c, hv, hl, h⟩ := h
  refine ⟨A, c, hv, hl, fun i hi => ?_⟩
  obtain ⟨b, o, h0, h1, h2, h3⟩ := h i hi
  exact ⟨b, o, h0, Nat.lt_of_lt_of_le h1 hb.size, h2, (hb.cell (p := ⟨b, o + i, none⟩) h1).trans h3⟩
theorem names_strs {w : World} {Ka : Option Addr} {t : T} {Kc : Nat} (h : NamesAt w Ka t) (hn : nK t ≤ 8796093022208) : StrsAt w (.slice Ka (nK t) Kc) (kOf t) := ⟨Ka, Kc, rfl, hn, h⟩
/-- Where a text is first. -/
def idxL (x : ByteArray) : List ByteArray → Option Nat
  | [] => none
  | y :: l => if x = y then some 0 else (idxL x l).map (· + 1)
def idxI (o : Option Nat) : Int := match o with | some k => (k : Int) | none => -1
theorem idxL_lt {x : ByteArray} : ∀ {l : List ByteArray} {k : Nat}, idxL x l = some k → k < l.length
  | [], k, h => by cases h
  | y :: l, k, h => by
    rw [idxL] at h
    split at h
    · simp only [Option.some.injEq] at h; subst h; simp
    · cases hi : idxL x l with
      | none => rw [hi] at h; cases h
      | some j =>
        rw [hi] at h
        simp only [Option.map_some, Option.some.injEq] at h
        have := idxL_lt hi
        simp only [List.length_cons]
        omega
theorem idxL_drop_eq {x : ByteArray} {l : List ByteArray} {k : Nat} (h : k < l.length) (e : x = l.getD k ByteArray.empty) : idxL x (l.drop k) = some 0 := by
  rw [List.drop_eq_getElem_cons h, idxL, if_pos (by rw [e]; simp [List.getD_eq_getElem?_getD, h])]
theorem idxL_drop_ne {x : ByteArray} {l : List ByteArray} {k : Nat} (h : k < l.length) (e : x ≠ l.getD k ByteArray.empty) : idxL x (l.drop k) = (idxL x (l.drop (k + 1))).map (· + 1) := by
  rw [List.drop_eq_getElem_cons h, idxL, if_neg (by intro e2; apply e; rw [e2]; simp [List.getD_eq_getElem?_getD, h])]
theorem str_beq (a b : ByteArray) : (a.toList == b.toList) = decide (a = b) := by
  by_cases h : a = b
  · subst h; simp
  · rw [decide_eq_false h, beq_eq_false_iff_ne]
    exact fun e => h ((toList_eq_iff a b).1 e)
set_option maxHeartbeats 4000000 in
set_option maxRecDepth 100000 in
theorem index_any (v : Value) (l : List ByteArray) (x : ByteArray) (w : World) (h : StrsAt w v l) :
    Calls Tryz.prog 91 #[v, .string x] w fun e w' => e = .returned (.int .i64 (idxI (idxL x l))) ∧ w' = w := by
  obtain ⟨A, c, rfl, hl, h⟩ := h
  have H := hid h
  clear h
  go_enter Tryz.func91, Tryz.ntmps91
  go_wp2_with fail
  go_loopg [8] (l.length) (fun g i wr => ∃ k : Nat, g = l.length - k ∧ k ≤ l.length ∧ i = .int .i64 k ∧ wr = w ∧ Hid (idxL x l = (idxL x (l.drop k)).map (· + k)))
  case atStart => exact ⟨0, rfl, Nat.zero_le _, rfl, rfl, by show _ = _; simp⟩
  case round =>
    obtain ⟨k, rfl, hk, rfl, rfl, HE⟩ := hrel
    by_cases hlt : k < l.length
    · obtain ⟨b, o, rfl, hb, hs, hc⟩ := H.out k hlt
      by_cases he : x = l.getD k ByteArray.empty
      · have HD := hid (idxL_drop_eq hlt he)
        have HR : Hid (idxL x l = some k) := by show _ = _; rw [HE.out, HD.out]; simp
        rw [← he] at hc
        clear he hs
        go_wp2_with fail
        go_ret
        exact ⟨ret_int (by rw [HR.out]; rfl), rfl⟩
      · have HD := hid (idxL_drop_ne hlt he)
        have e0 : (x.toList == (l.getD k ByteArray.empty).toList) = false := by rw [str_beq]; exact decide_eq_false he
        generalize l.getD k ByteArray.empty = y at hc e0
        clear he hs
        go_wp2_with fail
        go_roundg (l.length - (k + 1))
        case rel => exact ⟨k + 1, rfl, by omega, by go_num, rfl, by show _ = _; rw [HE.out, HD.out, Option.map_map]; congr 1; funext j; show j + 1 + k = j + (k + 1); omega⟩
        case measure => omega
    · obtain rfl : k = l.length := by omega
      have HR : Hid (idxL x l = none) := by show _ = _; rw [HE.out, List.drop_length]; rfl
      go_wp2_with fail
      go_ret
      exact ⟨ret_int (by rw [HR.out]; rfl), rfl⟩
/-- strconv.Atoi, of any text. -/
def AtoiSaid (Tb : World → Prop) : Prop := ∀ (s : ByteArray) (w : World), s.size ≤ 140737488355328 → Tb w → Calls Tryz.prog 236 #[.string s] w fun e w' => Below w.heap.size w w' ∧ ((∃ v : Int, Lib.atoiAll s.data.toList = .ok v ∧ e = .returned (.tuple #[.int .i64 v, .nilIface])) ∨ ((∀ v, Lib.atoiAll s.data.toList ≠ .ok v) ∧ ∃ n te pe, e = .returned (.tuple #[.int .i64 n, .iface te pe])))
def elN (x : ByteArray) (n : Nat) : Option Nat := match Lib.atoiAll x.data.toList with
  | .ok v => if 0 ≤ v ∧ v < n ∧ baL (Lib.itoa v) = x then some v.toNat else none
  | _ => none
theorem elN_ok {x : ByteArray} {n : Nat} {v : Int} (h : Lib.atoiAll x.data.toList = .ok v) : elN x n = if 0 ≤ v ∧ v < n ∧ baL (Lib.itoa v) = x then some v.toNat else none := by unfold elN; rw [h]
theorem elN_no {x : ByteArray} {n : Nat} (h : ∀ v, Lib.atoiAll x.data.toList ≠ .ok v) : elN x n = none := by
  unfold elN
  cases ha : Lib.atoiAll x.data.toList with
  | ok v => exact absurd ha (h v)
  | «syntax» => rfl
  | range => rfl
theorem elN_lt {x : ByteArray} {n k : Nat} (h : elN x n = some k) : k < n := by
  unfold elN at h
  split at h
  · split at h
    · simp only [Option.some.injEq] at h; omega
    · cases h
  · cases h
set_option maxHeartbeats 4000000 in
set_option maxRecDepth 100000 in
theorem elementOf_any {Tb : World → Prop} (hA : AtoiSaid Tb) (hI : ItoaSaid Tb) (hL : Lies Tb) (x : ByteArray) (n : Nat) (w : World) (hx : x.size ≤ 140737488355328) (hn : n ≤ 1759218604442) (hT : Tb w) :
    Calls Tryz.prog 235 #[.string x, .int .i64 n] w fun e w' => e = .returned (.int .i64 (idxI (elN x n))) ∧ Below w.heap.size w w' := by
  have HA := hid (hA x w hx hT)
  have HI := hid hI
  have HT := hid hT
  have HL := hid hL
  clear hA hI hT hL
  go_enter Tryz.func235, Tryz.ntmps235
  go_wp2_with fail
  refine HA.out.mono ?_
  rintro e w1 ⟨b1, ⟨v, hv, rfl⟩ | ⟨hv, m, te, pe, rfl⟩⟩
  · have HB := hid b1
    have HE := hid (elN_ok (n := n) hv)
    clear b1 HA hv
    by_cases h0 : v < 0
    · have HR : Hid (elN x n = none) := by show _ = _; rw [HE.out, if_neg (by omega)]
      go_wp2_with fail
      go_ret
      exact ⟨ret_int (by rw [HR.out]; rfl), HB.out⟩
    · by_cases h1 : (n : Int) ≤ v
      · have HR : Hid (elN x n = none) := by show _ = _; rw [HE.out, if_neg (by omega)]
        have h0' : (0 : Int) ≤ v := by omega
        clear h0
        go_wp2_with fail
        go_ret
        exact ⟨ret_int (by rw [HR.out]; rfl), HB.out⟩
      · have h0' : (0 : Int) ≤ v := by omega
        have h1' : v < (n : Int) := by omega
        have HC := hid (HI.out v w1 (by omega) (by omega) (HL.out w HT.out _ _ HT.out HB.out))
        clear h0 h1
        by_cases h2 : baL (Lib.itoa v) = x
        · have HR : Hid (elN x n = some v.toNat) := by show _ = _; rw [HE.out, if_pos ⟨h0', h1', h2⟩]
          rw [h2] at HC
          clear h2
          go_wp2_with fail
          refine HC.out.mono ?_
          rintro e w2 ⟨rfl, b2⟩
          have HB2 := hid (HB.out.trans (b2.mono HB.out.size))
          clear b2
          go_wp2_with fail
          go_ret
          exact ⟨ret_int (by rw [HR.out]; show v = (v.toNat : Int); omega), HB2.out⟩
        · have HR : Hid (elN x n = none) := by show _ = _; rw [HE.out, if_neg (fun h => h2 h.2.2)]
          have e2 : ((baL (Lib.itoa v)).toList == x.toList) = false := by rw [str_beq]; exact decide_eq_false h2
          generalize baL (Lib.itoa v) = y at HC e2 h2
          clear h2
          go_wp2_with fail
          refine HC.out.mono ?_
          rintro e w2 ⟨rfl, b2⟩
          have HB2 := hid (HB.out.trans (b2.mono HB.out.size))
          clear b2
          go_wp2_with fail
          go_ret
          exact ⟨ret_int (by rw [HR.out]; rfl), HB2.out⟩
  · have HB := hid b1
    have HR := hid (elN_no (n := n) hv)
    clear b1 HA hv
    go_wp2_with fail
    go_ret
    exact ⟨ret_int (by rw [HR.out]; rfl), HB.out⟩
/-- Where a value goes on by a name. -/
def plc (x : ByteArray) (t : T) : Option Nat := if kindOf t = 6 then idxL x (kOf t) else if kindOf t = 5 then elN x (nL t) else none
set_option maxHeartbeats 4000000 in
set_option maxRecDepth 100000 in
theorem placeOf_any {Tb : World → Prop} (hA : AtoiSaid Tb) (hI : ItoaSaid Tb) (hL : Lies Tb) (x : ByteArray) (f : Nat) (v : Value) (t : T) (w : World) (hx : x.size ≤ 140737488355328) (h : At w f v t) (hT : Tb w) :
    Calls Tryz.prog 233 #[.string x, v] w fun e w' => e = .returned (.int .i64 (idxI (plc x t))) ∧ Below w.heap.size w w' := by
  obtain ⟨g, La, Ka, Lc, Kc, rfl, rfl, hf, hl, hk⟩ := h.open
  have HB1 : Hid (Below w.heap.size w (w.alloc (.cells #[.int .i64 (kindOf t), .int .i64 (nOf t), .string (sOf t), .slice La (nL t) Lc, .slice Ka (nK t) Kc] 36))) := (Below.refl _ _).alloc (Nat.le_refl _) _
  have HS := hid ((names_strs (Kc := Kc) hk.out hf.m1).keep HB1.out)
  have HE := hid (elementOf_any hA hI hL x (nL t) _ hx hf.l1 (hL w hT _ _ hT HB1.out))
  clear h hf hl hk hT hA hI hL
  by_cases k6 : kindOf t = 6
  · have e6 : (kindOf t == 6) = true := by simpa using k6
    have HP : Hid (plc x t = idxL x (kOf t)) := by show _ = _; unfold plc; rw [if_pos k6]
    clear k6
    go_enter Tryz.func233, Tryz.ntmps233
    go_wp2_with fail
    refine (index_any _ _ x _ HS.out).mono ?_
    rintro e w2 ⟨rfl, rfl⟩
    go_wp2_with fail
    go_ret
    exact ⟨ret_int (by rw [HP.out]), HB1.out⟩
  · have e6 : (kindOf t == 6) = false := by simpa using k6
    by_cases k5 : kindOf t = 5
    · have e5 : (kindOf t == 5) = true := by simpa using k5
      have HP : Hid (plc x t = elN x (nL t)) := by show _ = _; unfold plc; rw [if_neg k6, if_pos k5]
      clear k5 k6
      go_enter Tryz.func233, Tryz.ntmps233
      go_wp2_with fail
      refine HE.out.mono ?_
      rintro e w2 ⟨rfl, b2⟩
      have HB2 := hid (HB1.out.trans (b2.mono HB1.out.size))
      clear b2
      go_wp2_with fail
      go_ret
      exact ⟨ret_int (by rw [HP.out]), HB2.out⟩
    · have e5 : (kindOf t == 5) = false := by simpa using k5
      have HP : Hid (plc x t = none) := by show _ = _; unfold plc; rw [if_neg k6, if_neg k5]
      clear k5 k6
      go_enter Tryz.func233, Tryz.ntmps233
      go_wp2_with fail
      go_ret
      exact ⟨ret_int (by rw [HP.out]; rfl), HB1.out⟩
set_option maxHeartbeats 4000000 in
set_option maxRecDepth 100000 in
theorem equal_any (f g : Nat) (va vb : Value) (a b : T) (w : World) (h : At w f va a) (h' : At w g vb b) (ka : okK f a) (kb : okK f b) :
    Calls Tryz.prog 90 #[va, vb] w fun e w' => e = .returned (.bool (cmpT f a b == 0)) ∧ Below w.heap.size w w' := by
  have HA := hid h
  have HA' := hid h'
  have HK := hid ka
  have HK' := hid kb
  obtain ⟨f1, La, Ka, Lc, Kc, hf1, rfl, hf, hl, hk⟩ := h.open
  obtain ⟨g1, Ma, Na, Mc, Nc, hg1, rfl, hf', hl', hk'⟩ := h'.open
  clear h h' hf hf' hf1 hg1 hl hk hl' hk' ka kb
  have HB1 : Hid (Below w.heap.size w ((w.alloc (.cells #[.int .i64 (kindOf a), .int .i64 (nOf a), .string (sOf a), .slice La (nL a) Lc, .slice Ka (nK a) Kc] 36)).alloc (.cells #[.int .i64 (kindOf b), .int .i64 (nOf b), .string (sOf b), .slice Ma (nL b) Mc, .slice Na (nK b) Nc] 36))) := ((Below.refl _ _).alloc (Nat.le_refl _) _).alloc (by simp) _
  have HC := hid (compare_any f g _ _ a b _ (HA.out.keep HB1.out) (HA'.out.keep HB1.out) HK.out HK'.out)
  generalize cmpT f a b = n at HC
  go_enter Tryz.func90, Tryz.ntmps90
  go_wp2_with fail
  refine HC.out.mono ?_
  rintro e w2 ⟨rfl, b2⟩
  have HB2 := hid (HB1.out.trans (b2.mono HB1.out.size))
  clear b2
  go_wp2_with fail
  go_ret
  exact ⟨rfl, HB2.out⟩
end Go.Proofs.YtknakfpciccoaabGreatDoor
/- The walks of cells, vast and room. -/
namespace Go.Proofs.YtknakfpciccoaabGreatDoor
open Go.RowKit

end Go.Proofs.YtknakfpciccoaabGreatDoor
/- A box of a value in memory. -/
namespace Go.Proofs.YtknakfpciccoaabGreatDoor
open Go.RowKit

/-- Five cells of a block. -/
def Box (w : World) (b : Nat) (c0 c1 c2 c3 c4 : Value) : Prop := (w.cell? ⟨b, 0, none⟩ = some c0 ∧ w.cell? ⟨b, 1, none⟩ = some c1 ∧ w.cell? ⟨b, 2, none⟩ = some c2 ∧ w.cell? ⟨b, 3, none⟩ = some c3 ∧ w.cell? ⟨b, 4, none⟩ = some c4) ∧ b < w.heap.size
theorem Box.keep {w w' : World} {b : Nat} {c0 c1 c2 c3 c4 : Value} (h : Box w b c0 c1 c2 c3 c4) (hb : Below w.heap.size w w') : Box w' b c0 c1 c2 c3 c4 := by
  obtain ⟨⟨a0, a1, a2, a3, a4⟩, hl⟩ := h
  exact ⟨⟨(hb.cell (p := ⟨b, 0, none⟩) hl).trans a0, (hb.cell (p := ⟨b, 1, none⟩) hl).trans a1, (hb.cell (p := ⟨b, 2, none⟩) hl).trans a2, (hb.cell (p := ⟨b, 3, none⟩) hl).trans a3, (hb.cell (p := ⟨b, 4, none⟩) hl).trans a4⟩, Nat.lt_of_lt_of_le hl hb.size⟩
theorem Box.made (w : World) (c0 c1 c2 c3 c4 : Value) : Box (w.alloc (.cells #[c0, c1, c2, c3, c4] 36)) w.heap.size c0 c1 c2 c3 c4 := by
  refine ⟨⟨?_, ?_, ?_, ?_, ?_⟩, by simp⟩ <;> simp [go_sem]
end Go.Proofs.YtknakfpciccoaabGreatDoor
/- The walk of Path.From. -/
namespace Go.Proofs.YtknakfpciccoaabGreatDoor
open Go.RowKit

/-- What a path leads to. -/
def fromP : List ByteArray → T → Option T
  | [], t => some t
  | x :: p, t => (plc x t).bind fun k => fromP p (elt t k)
theorem plc_lt {x : ByteArray} {t : T} {k : Nat} (h : plc x t = some k) (hok : kindOf t = 6 → nK t = nL t) : k < nL t := by
  unfold plc at h
  split at h
  · have := idxL_lt h
    have := hok ‹_›
    show k < nL t
    unfold nK at this
    omega
  · split at h
    · exact elN_lt h
    · cases h
/-- What From answers. -/
def FromPost (w0 : World) (ps : List ByteArray) (t : T) (f : Nat) (w : World) (e : Ending) (w' : World) : Prop :=
  Below w.heap.size w w' ∧ ((∃ r g A B C D, fromP ps t = some r ∧ g ≤ f ∧ e = .returned (.tuple #[.agg #[.int .i64 (kindOf r), .int .i64 (nOf r), .string (sOf r), .slice A (nL r) B, .slice C (nK r) D], .bool true]) ∧ At w0 g (.agg #[.int .i64 (kindOf r), .int .i64 (nOf r), .string (sOf r), .slice A (nL r) B, .slice C (nK r) D]) r ∧ okA r) ∨
    (fromP ps t = none ∧ e = .returned (.tuple #[.agg #[.int .i64 0, .int .i64 0, .string ⟨#[]⟩, .slice none 0 0, .slice none 0 0], .bool false])))
theorem BoxAt.put0 {b : Nat} {c0 c1 c2 c3 c4 : Value} {w : World} (h : BoxAt b c0 c1 c2 c3 c4 w) (u : Value) : BoxAt b u c1 c2 c3 c4 (w.setCell ⟨b, 0, none⟩ u) := by
  refine ⟨?_, ?_, ?_, ?_, ?_, ?_, ?_, ?_, ?_, ?_, by simp [World.setCell]; exact h.lt⟩
  · exact World.cell?_setCell_same _ _ _ h.q0
  · rw [set_other (by omega)]; exact h.q1
  · rw [set_other (by omega)]; exact h.q2
  · rw [set_other (by omega)]; exact h.q3
  · rw [set_other (by omega)]; exact h.q4
  · rw [World.frozen?_setCell]; exact h.f0
  · rw [World.frozen?_setCell]; exact h.f1
  · rw [World.frozen?_setCell]; exact h.f2
  · rw [World.frozen?_setCell]; exact h.f3
  · rw [World.frozen?_setCell]; exact h.f4
theorem BoxAt.put1c {b : Nat} {c0 c1 c2 c3 c4 : Value} {w : World} (h : BoxAt b c0 c1 c2 c3 c4 w) (u : Value) : BoxAt b c0 u c2 c3 c4 (w.setCell ⟨b, 1, none⟩ u) := by
  refine ⟨?_, ?_, ?_, ?_, ?_, ?_, ?_, ?_, ?_, ?_, by simp [World.setCell]; exact h.lt⟩
  · rw [set_other (by omega)]; exact h.q0
  · exact World.cell?_setCell_same _ _ _ h.q1
  · rw [set_other (by omega)]; exact h.q2
  · rw [set_other (by omega)]; exact h.q3
  · rw [set_other (by omega)]; exact h.q4
  · rw [World.frozen?_setCell]; exact h.f0
  · rw [World.frozen?_setCell]; exact h.f1
  · rw [World.frozen?_setCell]; exact h.f2
  · rw [World.frozen?_setCell]; exact h.f3
  · rw [World.frozen?_setCell]; exact h.f4
theorem BoxAt.put2 {b : Nat} {c0 c1 c2 c3 c4 : Value} {w : World} (h : BoxAt b c0 c1 c2 c3 c4 w) (u : Value) : BoxAt b c0 c1 u c3 c4 (w.setCell ⟨b, 2, none⟩ u) := by
  refine ⟨?_, ?_, ?_, ?_, ?_, ?_, ?_, ?_, ?_, ?_, by simp [World.setCell]; exact h.lt⟩
  · rw [set_other (by omega)]; exact h.q0
  · rw [set_other (by omega)]; exact h.q1
  · exact World.cell?_setCell_same _ _ _ h.q2
  · rw [set_other (by omega)]; exact h.q3
  · rw [set_other (by omega)]; exact h.q4
  · rw [World.frozen?_setCell]; exact h.f0
  · rw [World.frozen?_setCell]; exact h.f1
  · rw [World.frozen?_setCell]; exact h.f2
  · rw [World.frozen?_setCell]; exact h.f3
  · rw [World.frozen?_setCell]; exact h.f4
/-- Five cells are written. -/
def put5 (w : World) (b : Nat) (u0 u1 u2 u3 u4 : Value) : World := ((((w.setCell ⟨b, 0, none⟩ u0).setCell ⟨b, 1, none⟩ u1).setCell ⟨b, 2, none⟩ u2).setCell ⟨b, 3, none⟩ u3).setCell ⟨b, 4, none⟩ u4
theorem BoxAt.put5 {b : Nat} {c0 c1 c2 c3 c4 : Value} {w : World} (h : BoxAt b c0 c1 c2 c3 c4 w) (u0 u1 u2 u3 u4 : Value) : BoxAt b u0 u1 u2 u3 u4 (put5 w b u0 u1 u2 u3 u4) :=
  ((((h.put0 u0).put1c u1).put2 u2).put3 u3).put4 u4
theorem put5_other (w : World) {b b' : Nat} (h : b' ≠ b) (u0 u1 u2 u3 u4 : Value) : (put5 w b u0 u1 u2 u3 u4).heap[b']? = w.heap[b']? := by
  have hset : ∀ (w1 : World) (o : Nat) (u : Value), (w1.setCell ⟨b, o, none⟩ u).heap[b']? = w1.heap[b']? := fun w1 o u => Below.heap_setCell _ _ _ _ (by simpa using h)
  unfold YtknakfpciccoaabGreatDoor.put5
  rw [hset, hset, hset, hset, hset]
theorem put5_size (w : World) (b : Nat) (u0 u1 u2 u3 u4 : Value) : (put5 w b u0 u1 u2 u3 u4).heap.size = w.heap.size := by
  unfold YtknakfpciccoaabGreatDoor.put5
  simp [World.setCell]
theorem put5_but (w : World) (b : Nat) (u0 u1 u2 u3 u4 : Value) : But b w (put5 w b u0 u1 u2 u3 u4) :=
  ((((But.set w b 0 u0).trans (But.set _ b 1 u1)).trans (But.set _ b 2 u2)).trans (But.set _ b 3 u3)).trans (But.set _ b 4 u4)
/-- The two boxes of From. -/
structure FS (w : World) (c0 c1 c2 c3 c4 : Value) (wr : World) : Prop where
  low : Below w.heap.size w wr
  v : BoxAt w.heap.size c0 c1 c2 c3 c4 wr
  r : BoxAt (w.heap.size + 1) (.int .i64 0) (.int .i64 0) (.string ⟨#[]⟩) (.slice none 0 0) (.slice none 0 0) wr
theorem FS.keep {w : World} {c0 c1 c2 c3 c4 : Value} {wr w2 : World} (h : FS w c0 c1 c2 c3 c4 wr) (hb : Below wr.heap.size wr w2) : FS w c0 c1 c2 c3 c4 w2 :=
  ⟨h.low.trans (hb.mono h.low.size), h.v.move hb.size (hb.block _ h.v.lt), h.r.move hb.size (hb.block _ h.r.lt)⟩
theorem FS.put {w : World} {c0 c1 c2 c3 c4 : Value} {wr : World} (h : FS w c0 c1 c2 c3 c4 wr) (u0 u1 u2 u3 u4 : Value) : FS w u0 u1 u2 u3 u4 (put5 wr w.heap.size u0 u1 u2 u3 u4) :=
  ⟨h.low.trans ((put5_but wr w.heap.size u0 u1 u2 u3 u4).below h.low.size), h.v.put5 u0 u1 u2 u3 u4, h.r.move (by rw [put5_size]; exact Nat.le_refl _) (put5_other wr (by omega) _ _ _ _ _)⟩
theorem FS.res {w : World} {c0 c1 c2 c3 c4 : Value} {wr : World} (h : FS w c0 c1 c2 c3 c4 wr) (u0 u1 u2 u3 u4 : Value) : BoxAt (w.heap.size + 1) u0 u1 u2 u3 u4 (put5 wr (w.heap.size + 1) u0 u1 u2 u3 u4) ∧ Below w.heap.size w (put5 wr (w.heap.size + 1) u0 u1 u2 u3 u4) :=
  ⟨h.r.put5 u0 u1 u2 u3 u4, h.low.trans (((put5_but wr (w.heap.size + 1) u0 u1 u2 u3 u4).below (by have := h.r.lt; omega)).mono (by omega))⟩
theorem drop_cons {ps : List ByteArray} {k : Nat} (h : k < ps.length) : ps.drop k = ps.getD k ByteArray.empty :: ps.drop (k + 1) := by
  rw [List.drop_eq_getElem_cons h]
  simp [List.getD_eq_getElem?_getD, h]
set_option maxHeartbeats 4000000 in
set_option maxRecDepth 100000 in
theorem from_any {Tb : World → Prop} (hA : AtoiSaid Tb) (hI : ItoaSaid Tb) (hL : Lies Tb) (p : Value) (ps : List ByteArray) (f : Nat) (v : Value) (t : T) (w0 w : World) (hb0 : Below w0.heap.size w0 w) (hp : StrsAt w p ps) (h : At w0 f v t) (hok : okA t) (hT : Tb w) :
    Calls Tryz.prog 231 #[p, v] w (FromPost w0 ps t f w) := by
  have HB0 := hid hb0
  clear hb0
  obtain ⟨PA, pc, rfl, hpl, hps⟩ := hp
  have HA0 := hid h
  have HK0 := hid hok
  obtain ⟨g, La, Ka, Lc, Kc, hfg, rfl, hf, hl, hk⟩ := h.open
  have HPS := hid hps
  have HT := hid hT
  have HL := hid hL
  have HPl : Hid (∀ (w' : World), Below w.heap.size w w' → ∀ x f v t, x.size ≤ 140737488355328 → At w' f v t → Calls Tryz.prog 233 #[.string x, v] w' fun e w2 => e = .returned (.int .i64 (idxI (plc x t))) ∧ Below w'.heap.size w' w2) := fun w' hb x f v t hx ha => placeOf_any hA hI hL x f v t w' hx ha (hL w hT _ _ hT hb)
  clear h hok hf hl hk hfg hps hT hL hA hI
  go_enter Tryz.func231, Tryz.ntmps231
  go_wp2_with fail
  go_loopg [11] (ps.length) (fun g i wr => ∃ (k : Nat) (tk : T) (gk : Nat) (A B C D : _), g = ps.length - k ∧ k ≤ ps.length ∧ i = .int .i64 k ∧ gk ≤ f ∧ Hid (At w0 gk (.agg #[.int .i64 (kindOf tk), .int .i64 (nOf tk), .string (sOf tk), .slice A (nL tk) B, .slice C (nK tk) D]) tk) ∧ Hid (okA tk) ∧ Hid (fromP (ps.drop k) tk = fromP ps t) ∧ Hid (FS w (.int .i64 (kindOf tk)) (.int .i64 (nOf tk)) (.string (sOf tk)) (.slice A (nL tk) B) (.slice C (nK tk) D) wr))
  case atStart =>
    refine ⟨0, t, f, La, Lc, Ka, Kc, rfl, Nat.zero_le _, rfl, Nat.le_refl _, HA0, HK0, rfl, ⟨((Below.refl _ _).alloc (Nat.le_refl _) _).alloc (by simp) _, ?_, ?_⟩⟩
    · constructor <;> simp [go_sem]
    · constructor <;> simp [go_sem]
  case round =>
    obtain ⟨k, tk, gk, A, B, C, D, rfl, hk, rfl, hgk, HA, HK, HE, HS⟩ := hrel
    by_cases hlt : k < ps.length
    · obtain ⟨pb, po, rfl, hpb, hxs, hxc⟩ := HPS.out k hlt
      have HD := hid (drop_cons hlt)
      generalize ps.getD k ByteArray.empty = x at hxs hxc HD
      have hxw := (HS.out.low.cell (p := ⟨pb, po + k, none⟩) hpb).trans hxc
      have HC := hid (HPl.out wr HS.out.low x gk _ tk hxs (HA.out.keep (HB0.out.trans (HS.out.low.mono HB0.out.size))))
      have q0 := HS.out.v.q0
      have q1 := HS.out.v.q1
      have q2 := HS.out.v.q2
      have q3 := HS.out.v.q3
      have q4 := HS.out.v.q4
      have HF : Hid (fromP ps t = (plc x tk).bind fun j => fromP (ps.drop (k + 1)) (elt tk j)) := by show _ = _; rw [← HE.out, HD.out]; rfl
      clear hxc
      cases hpl : plc x tk with
      | none =>
        rw [hpl] at HC HF
        have HN : Hid (fromP ps t = none) := HF.out
        clear hpl HF
        simp only [idxI] at HC
        go_wp2_with fail
        refine HC.out.mono ?_
        rintro e w2 ⟨rfl, b2⟩
        have HS2 := hid (HS.out.keep b2)
        clear b2 HC q0 q1 q2 q3 q4
        have HR2 := hid HS2.out.r
        have HO := hid (HS2.out.res (.int .i64 0) (.int .i64 0) (.string ⟨#[]⟩) (.slice none 0 0) (.slice none 0 0))
        have r0 := HR2.out.q0
        have r1 := HR2.out.q1
        have r2 := HR2.out.q2
        have r3 := HR2.out.q3
        have r4 := HR2.out.q4
        have s0 := HR2.out.f0
        have s1 := HR2.out.f1
        have s2 := HR2.out.f2
        have s3 := HR2.out.f3
        have s4 := HR2.out.f4
        unfold put5 at HO
        go_wp2_with fail
        clear r0 r1 r2 r3 r4 s0 s1 s2 s3 s4
        have HO1 := hid HO.out.1
        have r0 := HO1.out.q0
        have r1 := HO1.out.q1
        have r2 := HO1.out.q2
        have r3 := HO1.out.q3
        have r4 := HO1.out.q4
        refine bodyPost_ret (v := .tuple #[.agg #[.int .i64 0, .int .i64 0, .string ⟨#[]⟩, .slice none 0 0, .slice none 0 0], .bool false]) (by simp [results, Tryz.results231, go_sem, *]) rfl ?_
        exact ⟨HO.out.2, .inr ⟨HN.out, rfl⟩⟩
      | some j =>
        have hj := plc_lt hpl HK.out.names
        rw [hpl] at HC HF
        have HF2 : Hid (fromP ps t = fromP (ps.drop (k + 1)) (elt tk j)) := HF.out
        clear hpl HF
        simp only [idxI] at HC
        obtain ⟨g', A', C', B', D', hg', hv', hfk, hel, _⟩ := HA.out.open
        have hnl := hfk.l1
        simp only [Value.agg.injEq, Array.mk.injEq, List.cons.injEq, Value.slice.injEq, and_true, true_and] at hv'
        obtain ⟨⟨rfl, rfl⟩, rfl, rfl⟩ := hv'
        have HOK : Hid (okA (elt tk j)) := HK.out.elt hj
        have Hel := hid hel.out
        go_wp2_with fail
        refine HC.out.mono ?_
        rintro e w2 ⟨rfl, b2⟩
        have HS2 := hid (HS.out.keep b2)
        clear b2 HC q0 q1 q2 q3 q4
        obtain ⟨bb, oo, A2, B2, C2, D2, rfl, hbl, p0, p1, p2, p3, p4, Ha⟩ := Hel.out.shape (HB0.out.trans (HS2.out.low.mono HB0.out.size)) j hj
        have HV2 := hid HS2.out.v
        have HP := hid (HS2.out.put (.int .i64 (kindOf (elt tk j))) (.int .i64 (nOf (elt tk j))) (.string (sOf (elt tk j))) (.slice A2 (nL (elt tk j)) B2) (.slice C2 (nK (elt tk j)) D2))
        have r0 := HV2.out.q0
        have r1 := HV2.out.q1
        have r2 := HV2.out.q2
        have r3 := HV2.out.q3
        have r4 := HV2.out.q4
        have s0 := HV2.out.f0
        have s1 := HV2.out.f1
        have s2 := HV2.out.f2
        have s3 := HV2.out.f3
        have s4 := HV2.out.f4
        unfold put5 at HP
        go_wp2_with fail
        clear r0 r1 r2 r3 r4 s0 s1 s2 s3 s4
        go_roundg (ps.length - (k + 1))
        case rel => exact ⟨k + 1, elt tk j, g', A2, B2, C2, D2, rfl, by omega, by go_num, by omega, Ha, HOK, HF2.out.symm, HP⟩
        case measure => omega
    · obtain rfl : k = ps.length := by omega
      have HF : Hid (fromP ps t = some tk) := by show _ = _; rw [← HE.out, List.drop_length]; rfl
      have HR2 := hid HS.out.r
      have HV2 := hid HS.out.v
      have HO := hid (HS.out.res (.int .i64 (kindOf tk)) (.int .i64 (nOf tk)) (.string (sOf tk)) (.slice A (nL tk) B) (.slice C (nK tk) D))
      have v0 := HV2.out.q0
      have v1 := HV2.out.q1
      have v2 := HV2.out.q2
      have v3 := HV2.out.q3
      have v4 := HV2.out.q4
      have r0 := HR2.out.q0
      have r1 := HR2.out.q1
      have r2 := HR2.out.q2
      have r3 := HR2.out.q3
      have r4 := HR2.out.q4
      have s0 := HR2.out.f0
      have s1 := HR2.out.f1
      have s2 := HR2.out.f2
      have s3 := HR2.out.f3
      have s4 := HR2.out.f4
      unfold put5 at HO
      go_wp2_with fail
      clear r0 r1 r2 r3 r4 s0 s1 s2 s3 s4
      have HO1 := hid HO.out.1
      have r0 := HO1.out.q0
      have r1 := HO1.out.q1
      have r2 := HO1.out.q2
      have r3 := HO1.out.q3
      have r4 := HO1.out.q4
      refine bodyPost_ret (v := .tuple #[.agg #[.int .i64 (kindOf tk), .int .i64 (nOf tk), .string (sOf tk), .slice A (nL tk) B, .slice C (nK tk) D], .bool true]) (by simp [results, Tryz.results231, go_sem, *]) rfl ?_
      exact ⟨HO.out.2, .inl ⟨tk, gk, A, B, C, D, HF.out, hgk, rfl, HA.out, HK.out⟩⟩
end Go.Proofs.YtknakfpciccoaabGreatDoor
/- slices.IndexFunc and ContainsFunc of values, of a function that only looks. -/
namespace Go.Proofs.YtknakfpciccoaabGreatDoor
open Go.RowKit

set_option maxHeartbeats 4000000 in
set_option maxRecDepth 100000 in
theorem indexFuncC_any (P : T → Bool) (g : FuncId) (hg : ∀ (a : Array Value) (w : World), (callFunc g a).run Tryz.prog w = .ok (.enter g a) w) (p : Value) (f : Nat) (La : Option Addr) (Lc : Nat) (t : T) (w : World) (hl : ElemsAt w f La t) (hn : nL t ≤ 1759218604442)
    (hP : ∀ k, k < nL t → ∀ (wr : World) (v : Value), Below w.heap.size w wr → At wr f v (elt t k) → Calls Tryz.prog g #[v, p] wr fun e w' => e = .returned (.bool (P (elt t k))) ∧ Below wr.heap.size wr w') :
    Calls Tryz.prog 119 #[.slice La (nL t) Lc, .func (Fn.func g) #[] #[p]] w fun e w' => Below w.heap.size w w' ∧ ∃ n : Int, e = .returned (.int .i64 n) ∧ ((n = -1 ∧ anyL P t (nL t) = false) ∨ ∃ k : Nat, n = (k : Int) ∧ k < nL t ∧ P (elt t k) = true ∧ anyL P t k = false) := by
  have Hl := hid hl
  have HP := hid hP
  clear hl hP
  go_enter Tryz.func119, Tryz.ntmps119
  go_wp2_with fail
  go_loopg [8] (nL t) (fun g' i wr => ∃ k : Nat, g' = nL t - k ∧ k ≤ nL t ∧ i = .int .i64 k ∧ Hid (Below w.heap.size w wr) ∧ Hid (anyL P t k = false))
  case atStart => exact ⟨0, rfl, Nat.zero_le _, rfl, Below.refl _ _, rfl⟩
  case round =>
    obtain ⟨k, rfl, hk, rfl, HB, HN⟩ := hrel
    by_cases hlt : k < nL t
    · obtain ⟨bb, o, A, B, C, D, rfl, hbl, p0, p1, p2, p3, p4, Ha⟩ := Hl.out.shape HB.out k hlt
      have HC := hid (HP.out k hlt wr _ HB.out (At.keep HB.out Ha.out))
      cases hp : P (elt t k) with
      | true =>
        rw [hp] at HC
        have Hp := hid hp
        clear hp
        go_wp2_with fail
        refine HC.out.mono ?_
        rintro e w2 ⟨rfl, b2⟩
        have HB2 := hid (HB.out.trans (b2.mono HB.out.size))
        clear b2
        go_wp2_with fail
        go_ret
        exact ⟨HB2.out, _, rfl, .inr ⟨k, rfl, hlt, Hp.out, HN.out⟩⟩
      | false =>
        rw [hp] at HC
        have HN2 : Hid (anyL P t (k + 1) = false) := by show _ = _; rw [anyL, HN.out, hp]; rfl
        clear hp
        go_wp2_with fail
        refine HC.out.mono ?_
        rintro e w2 ⟨rfl, b2⟩
        have HB2 := hid (HB.out.trans (b2.mono HB.out.size))
        clear b2
        go_wp2_with fail
        go_roundg (nL t - (k + 1))
        case rel => exact ⟨k + 1, rfl, by omega, by go_num, HB2, HN2⟩
        case measure => omega
    · obtain rfl : k = nL t := by omega
      go_wp2_with fail
      go_ret
      exact ⟨HB.out, _, rfl, .inl ⟨rfl, HN.out⟩⟩
set_option maxHeartbeats 4000000 in
set_option maxRecDepth 100000 in
theorem containsFuncC_any (P : T → Bool) (g : FuncId) (hg : ∀ (a : Array Value) (w : World), (callFunc g a).run Tryz.prog w = .ok (.enter g a) w) (p : Value) (f : Nat) (La : Option Addr) (Lc : Nat) (t : T) (w : World) (hl : ElemsAt w f La t) (hn : nL t ≤ 1759218604442)
    (hP : ∀ k, k < nL t → ∀ (wr : World) (v : Value), Below w.heap.size w wr → At wr f v (elt t k) → Calls Tryz.prog g #[v, p] wr fun e w' => e = .returned (.bool (P (elt t k))) ∧ Below wr.heap.size wr w') :
    Calls Tryz.prog 88 #[.slice La (nL t) Lc, .func (Fn.func g) #[] #[p]] w fun e w' => e = .returned (.bool (anyL P t (nL t))) ∧ Below w.heap.size w w' := by
  have HC := hid (indexFuncC_any P g hg p f La Lc t w hl hn hP)
  clear hl hP hn
  go_enter Tryz.func88, Tryz.ntmps88
  go_wp2_with fail
  refine HC.out.mono ?_
  rintro e w2 ⟨b2, n, rfl, ⟨rfl, hn⟩ | ⟨k, rfl, hk, hp, _⟩⟩
  · have HB := hid b2
    have HN := hid hn
    clear b2 hn
    go_wp2_with fail
    go_ret
    exact ⟨ret_bool HN.out.symm, HB.out⟩
  · have HB := hid b2
    have HN := hid (anyL_at hk hp)
    clear b2 hp
    go_wp2_with fail
    go_ret
    exact ⟨ret_bool HN.out.symm, HB.out⟩
set_option maxHeartbeats 4000000 in
set_option maxRecDepth 100000 in
theorem indexFuncB_any (P : T → Bool) (g : FuncId) (hg : ∀ (a : Array Value) (w : World), (callFunc g a).run Tryz.prog w = .ok (.enter g a) w) (p : Value) (f : Nat) (La : Option Addr) (Lc : Nat) (t : T) (w : World) (hl : ElemsAt w f La t) (hn : nL t ≤ 1759218604442)
    (hP : ∀ k, k < nL t → ∀ (wr : World) (v : Value), Below w.heap.size w wr → At wr f v (elt t k) → Calls Tryz.prog g #[p, v] wr fun e w' => e = .returned (.bool (P (elt t k))) ∧ Below wr.heap.size wr w') :
    Calls Tryz.prog 119 #[.slice La (nL t) Lc, .func (Fn.func g) #[p] #[]] w fun e w' => Below w.heap.size w w' ∧ ∃ n : Int, e = .returned (.int .i64 n) ∧ ((n = -1 ∧ anyL P t (nL t) = false) ∨ ∃ k : Nat, n = (k : Int) ∧ k < nL t ∧ P (elt t k) = true ∧ anyL P t k = false) := by
  have Hl := hid hl
  have HP := hid hP
  clear hl hP
  go_enter Tryz.func119, Tryz.ntmps119
  go_wp2_with fail
  go_loopg [8] (nL t) (fun g' i wr => ∃ k : Nat, g' = nL t - k ∧ k ≤ nL t ∧ i = .int .i64 k ∧ Hid (Below w.heap.size w wr) ∧ Hid (anyL P t k = false))
  case atStart => exact ⟨0, rfl, Nat.zero_le _, rfl, Below.refl _ _, rfl⟩
  case round =>
    obtain ⟨k, rfl, hk, rfl, HB, HN⟩ := hrel
    by_cases hlt : k < nL t
    · obtain ⟨bb, o, A, B, C, D, rfl, hbl, p0, p1, p2, p3, p4, Ha⟩ := Hl.out.shape HB.out k hlt
      have HC := hid (HP.out k hlt wr _ HB.out (At.keep HB.out Ha.out))
      cases hp : P (elt t k) with
      | true =>
        rw [hp] at HC
        have Hp := hid hp
        clear hp
        go_wp2_with fail
        refine HC.out.mono ?_
        rintro e w2 ⟨rfl, b2⟩
        have HB2 := hid (HB.out.trans (b2.mono HB.out.size))
        clear b2
        go_wp2_with fail
        go_ret
        exact ⟨HB2.out, _, rfl, .inr ⟨k, rfl, hlt, Hp.out, HN.out⟩⟩
      | false =>
        rw [hp] at HC
        have HN2 : Hid (anyL P t (k + 1) = false) := by show _ = _; rw [anyL, HN.out, hp]; rfl
        clear hp
        go_wp2_with fail
        refine HC.out.mono ?_
        rintro e w2 ⟨rfl, b2⟩
        have HB2 := hid (HB.out.trans (b2.mono HB.out.size))
        clear b2
        go_wp2_with fail
        go_roundg (nL t - (k + 1))
        case rel => exact ⟨k + 1, rfl, by omega, by go_num, HB2, HN2⟩
        case measure => omega
    · obtain rfl : k = nL t := by omega
      go_wp2_with fail
      go_ret
      exact ⟨HB.out, _, rfl, .inl ⟨rfl, HN.out⟩⟩
set_option maxHeartbeats 4000000 in
set_option maxRecDepth 100000 in
theorem containsFuncB_any (P : T → Bool) (g : FuncId) (hg : ∀ (a : Array Value) (w : World), (callFunc g a).run Tryz.prog w = .ok (.enter g a) w) (p : Value) (f : Nat) (La : Option Addr) (Lc : Nat) (t : T) (w : World) (hl : ElemsAt w f La t) (hn : nL t ≤ 1759218604442)
    (hP : ∀ k, k < nL t → ∀ (wr : World) (v : Value), Below w.heap.size w wr → At wr f v (elt t k) → Calls Tryz.prog g #[p, v] wr fun e w' => e = .returned (.bool (P (elt t k))) ∧ Below wr.heap.size wr w') :
    Calls Tryz.prog 88 #[.slice La (nL t) Lc, .func (Fn.func g) #[p] #[]] w fun e w' => e = .returned (.bool (anyL P t (nL t))) ∧ Below w.heap.size w w' := by
  have HC := hid (indexFuncB_any P g hg p f La Lc t w hl hn hP)
  clear hl hP hn
  go_enter Tryz.func88, Tryz.ntmps88
  go_wp2_with fail
  refine HC.out.mono ?_
  rintro e w2 ⟨b2, n, rfl, ⟨rfl, hn⟩ | ⟨k, rfl, hk, hp, _⟩⟩
  · have HB := hid b2
    have HN := hid hn
    clear b2 hn
    go_wp2_with fail
    go_ret
    exact ⟨ret_bool HN.out.symm, HB.out⟩
  · have HB := hid b2
    have HN := hid (anyL_at hk hp)
    clear b2 hp
    go_wp2_with fail
    go_ret
    exact ⟨ret_bool HN.out.symm, HB.out⟩
end Go.Proofs.YtknakfpciccoaabGreatDoor
/- Tests of filters: what they say, how they lie in memory. -/
namespace Go.Proofs.YtknakfpciccoaabGreatDoor
open Go.RowKit

def opNe : ByteArray := ⟨#[36, 110, 101]⟩
def opNin : ByteArray := ⟨#[36, 110, 105, 110]⟩
def opNot : ByteArray := ⟨#[36, 110, 111, 116]⟩
def opExists : ByteArray := ⟨#[36, 101, 120, 105, 115, 116, 115]⟩
def opEq : ByteArray := ⟨#[36, 101, 113]⟩
def opIn : ByteArray := ⟨#[36, 105, 110]⟩
def opSize : ByteArray := ⟨#[36, 115, 105, 122, 101]⟩
def opKind : ByteArray := ⟨#[36, 107, 105, 110, 100]⟩
def opAny : ByteArray := ⟨#[36, 97, 110, 121]⟩
def opGte : ByteArray := ⟨#[36, 103, 116, 101]⟩
def opGt : ByteArray := ⟨#[36, 103, 116]⟩
def opLte : ByteArray := ⟨#[36, 108, 116, 101]⟩
def opLt : ByteArray := ⟨#[36, 108, 116]⟩
/-- One order of values, as deep as it may be. -/
theorem ordL_same {g g' : T → T → Int} {a b : T} : ∀ k, (∀ i, i < k → g (elt a i) (elt b i) = g' (elt a i) (elt b i)) → ordL g a b k = ordL g' a b k
  | 0, _ => rfl
  | k + 1, h => by rw [ordL, ordL, ordL_same k (fun i hi => h i (by omega)), h k (by omega)]
theorem cmpT_shal : ∀ (f f' : Nat) (a b : T), Shal f a → f ≤ f' → cmpT f' a b = cmpT f a b
  | 0, f', a, b, h, _ => h.elim
  | f + 1, f', a, b, h, hf => by
    obtain ⟨f', rfl⟩ : ∃ x, f' = x + 1 := ⟨f' - 1, by omega⟩
    have e : ordE (cmpT f') a b = ordE (cmpT f) a b := by
      unfold ordE
      rw [ordL_same (min (nL a) (nL b)) (fun i hi => cmpT_shal f f' _ _ (h i (by omega)) (by omega))]
    unfold cmpT
    rw [e]
def eqT (a b : T) : Bool := cmpT 16 a b == 0
def inOrd (op : ByteArray) (c : Int) : Bool := if op = opGte then (c == 0 || decide (0 < c)) else if op = opGt then decide (0 < c) else if op = opLte then (c == 0 || decide (c < 0)) else if op = opLt then decide (c < 0) else false
def prs (j : T) : List (ByteArray × T) := (List.range (nK j)).map fun i => (nam j i, elt j i)
/-- What a test says of a value that is there, or isn't. -/
def evT : Nat → ByteArray × T → T → Bool → Bool
  | 0, _, _, _ => false
  | m + 1, p, v, there =>
    if p.1 = opNe then !(there && eqT v p.2)
    else if p.1 = opNin then !(there && anyL (eqT v) p.2 (nL p.2))
    else if p.1 = opNot then !((prs p.2).all fun q => evT m q v there)
    else if p.1 = opExists then there == (nOf p.2 == 1)
    else there && (if p.1 = opEq then eqT v p.2 else if p.1 = opIn then anyL (eqT v) p.2 (nL p.2)
      else if p.1 = opSize then (kindOf v == 5 && ((nL v : Int) == nOf p.2)) else if p.1 = opKind then kindOf v == nOf p.2
      else if p.1 = opAny then (kindOf v == 5 && anyL (fun e => (prs p.2).all fun q => evT m q e true) v (nL v))
      else (kindOf v == kindOf p.2 && inOrd p.1 (cmpT 16 v p.2)))
def evA (m : Nat) (ps : List (ByteArray × T)) (v : T) (there : Bool) : Bool := ps.all fun q => evT m q v there
def isInn (op : ByteArray) : Prop := op = opNot ∨ op = opAny
abbrev R7 := Value → Value → Value → Value → Value → Value → Value → ByteArray × T → Prop
/-- Tests in memory, one behind the other. -/
def RowT (w : World) (R : R7) (v : Value) (ps : List (ByteArray × T)) : Prop :=
  ∃ (A : Option Addr) (c : Nat), v = .slice A ps.length c ∧ ps.length ≤ 1000000000 ∧ ∀ i, (h : i < ps.length) → ∃ b o c0 c1 c2 c3 c4 c5 c6, A = some ⟨b, o, none⟩ ∧ b < w.heap.size ∧ w.cell? ⟨b, o + i * 7, none⟩ = some c0 ∧ w.cell? ⟨b, o + i * 7 + 1, none⟩ = some c1 ∧ w.cell? ⟨b, o + i * 7 + 2, none⟩ = some c2 ∧ w.cell? ⟨b, o + i * 7 + 3, none⟩ = some c3 ∧ w.cell? ⟨b, o + i * 7 + 4, none⟩ = some c4 ∧ w.cell? ⟨b, o + i * 7 + 5, none⟩ = some c5 ∧ w.cell? ⟨b, o + i * 7 + 6, none⟩ = some c6 ∧ R c0 c1 c2 c3 c4 c5 c6 ps[i]
theorem RowT.keep {w w' : World} {R R' : R7} {v : Value} {ps : List (ByteArray × T)} (h : RowT w R v ps) (hb : Below w.heap.size w w') (hR : ∀ c0 c1 c2 c3 c4 c5 c6 p, R c0 c1 c2 c3 c4 c5 c6 p → R' c0 c1 c2 c3 c4 c5 c6 p) : RowT w' R' v ps := by
  obtain ⟨A, c, hv, hn, h⟩ := h
  refine ⟨A, c, hv, hn, fun i hi => ?_⟩
  obtain ⟨b, o, c0, c1, c2, c3, c4, c5, c6, h0, hl, q0, q1, q2, q3, q4, q5, q6, hr⟩ := h i hi
  exact ⟨b, o, c0, c1, c2, c3, c4, c5, c6, h0, Nat.lt_of_lt_of_le hl hb.size, (hb.cell (p := ⟨b, _, none⟩) hl).trans q0, (hb.cell (p := ⟨b, _, none⟩) hl).trans q1, (hb.cell (p := ⟨b, _, none⟩) hl).trans q2, (hb.cell (p := ⟨b, _, none⟩) hl).trans q3, (hb.cell (p := ⟨b, _, none⟩) hl).trans q4, (hb.cell (p := ⟨b, _, none⟩) hl).trans q5, (hb.cell (p := ⟨b, _, none⟩) hl).trans q6, hR _ _ _ _ _ _ _ _ hr⟩
/-- A test in memory. -/
def TestAt (w : World) : Nat → R7
  | 0 => fun _ _ _ _ _ _ _ _ => False
  | m + 1 => fun c0 c1 c2 c3 c4 c5 c6 p => c0 = .string p.1 ∧ p.1.size ≤ 140737488355328 ∧
      ((isInn p.1 ∧ c1 = .int .i64 0 ∧ c2 = .int .i64 0 ∧ c3 = .string ⟨#[]⟩ ∧ c4 = .slice none 0 0 ∧ c5 = .slice none 0 0 ∧ RowT w (TestAt w m) c6 (prs p.2)) ∨
       (¬ isInn p.1 ∧ c6 = .slice none 0 0 ∧ ∃ g A B C D, g ≤ 16 ∧ c1 = .int .i64 (kindOf p.2) ∧ c2 = .int .i64 (nOf p.2) ∧ c3 = .string (sOf p.2) ∧ c4 = .slice A (nL p.2) B ∧ c5 = .slice C (nK p.2) D ∧ At w g (.agg #[.int .i64 (kindOf p.2), .int .i64 (nOf p.2), .string (sOf p.2), .slice A (nL p.2) B, .slice C (nK p.2) D]) p.2 ∧ okA p.2))
theorem TestAt.keep {w w' : World} (hb : Below w.heap.size w w') : ∀ (m : Nat) (c0 c1 c2 c3 c4 c5 c6 : Value) (p : ByteArray × T), TestAt w m c0 c1 c2 c3 c4 c5 c6 p → TestAt w' m c0 c1 c2 c3 c4 c5 c6 p
  | 0, _, _, _, _, _, _, _, _, h => h
  | m + 1, c0, c1, c2, c3, c4, c5, c6, p, h => by
    obtain ⟨h0, h1, ⟨hi, z1, z2, z3, z4, z5, hr⟩ | ⟨hi, z6, g, A, B, C, D, hg, z1, z2, z3, z4, z5, ha, hk⟩⟩ := h
    · exact ⟨h0, h1, .inl ⟨hi, z1, z2, z3, z4, z5, hr.keep hb (TestAt.keep hb m)⟩⟩
    · exact ⟨h0, h1, .inr ⟨hi, z6, g, A, B, C, D, hg, z1, z2, z3, z4, z5, ha.keep hb, hk⟩⟩
def TestsAt (w : World) (m : Nat) (v : Value) (ps : List (ByteArray × T)) : Prop := RowT w (TestAt w m) v ps
theorem TestsAt.keep {w w' : World} {m : Nat} {v : Value} {ps : List (ByteArray × T)} (h : TestsAt w m v ps) (hb : Below w.heap.size w w') : TestsAt w' m v ps := RowT.keep h hb (TestAt.keep hb m)
theorem equal16 {w : World} {f g : Nat} {va vb : Value} {a b : T} (h : At w f va a) (h' : At w g vb b) (hf : f ≤ 16) (ka : okA a) (kb : okA b) :
    Calls Tryz.prog 90 #[va, vb] w fun e w' => e = .returned (.bool (eqT a b)) ∧ Below w.heap.size w w' := by
  have := equal_any f g va vb a b w h h' (ka.1 f) (kb.1 f)
  have e : eqT a b = (cmpT f a b == 0) := by unfold eqT; rw [cmpT_shal f 16 a b h.shal hf]
  rw [e]
  exact this
end Go.Proofs.YtknakfpciccoaabGreatDoor
