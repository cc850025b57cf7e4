import Derived.Test.YtknakfpciccoaaaGreatDoorZE3
import Derived.Lib.IndexBytes
import Derived.Test.YtknakfpciccoaaaGreatDoorZE1
import Derived.Deep.AppendSrc
import Derived.Deep.AppendLies
import Derived.Laws.BytesArg
import Derived.Laws.IdiomStrings
import Derived.Test.YtknakfpciccoaaaGreatDoorProg
import Derived.Test.YtknakfpciccoaaaGreatDoorZE2
import Derived.Deep.RegionHeldLaw
import Derived.Deep.RegionLaw
import Derived.Deep.LoopGhost
import Derived.BigQuiet
/- Texts as values: texts, lists, objects. -/
namespace Go.Proofs.YtknakfpciccoaaaGreatDoor
open Go.RowKit

theorem suf_list (s : ByteArray) (i : Nat) : (suf s i).data.toList = s.data.toList.drop i := Lib.extract_to_end s i
theorem cut_list (s : ByteArray) (i n : Nat) : (s.extract i (i + n)).data.toList = (s.data.toList.drop i).take n := by
  rw [ByteArray.data_extract, Array.toList_extract, List.extract_eq_take_drop]
  congr 1
  omega
theorem bt_list (s : ByteArray) (i : Nat) : bt s i = (s.data.toList.getD i 0).toNat := by
  unfold bt
  cases s with
  | mk d =>
    show (d[i]!).toNat = _
    simp only [List.getD_eq_getElem?_getD, Array.getElem?_toList]
    rw [getElem!_def]
    cases d[i]? <;> rfl
theorem bt_suf (s : ByteArray) (i k : Nat) : bt (suf s i) k = bt s (i + k) := by
  rw [bt_list, bt_list, suf_list]
  simp [List.getD_eq_getElem?_getD, List.getElem?_drop]
theorem decode_range (x : ByteArray) (h : 0 < x.size) : 1 ≤ (Utf8.decode x 0).2 ∧ (Utf8.decode x 0).2 ≤ x.size ∧ (Utf8.decode x 0).1 ≤ 1114111 ∧ ((Utf8.decode x 0).1 < 32 ↔ bt x 0 < 32) := by
  have l0 := bt_lt x 0
  have e0 : (x.get! 0).toNat = bt x 0 := rfl
  rw [Lib.decode_at]
  simp only [Nat.sub_zero, Nat.zero_add, e0]
  rcases Lib.decodeN_shape x.size (bt x 0) (x.get! 1).toNat (x.get! 2).toNat (x.get! 3).toNat with ⟨c, e⟩ | ⟨c1, c2, c3, cv, e⟩ | ⟨c1, c2, c3, c4, cv, cs, e⟩ | ⟨c1, c2, c3, c4, c5, cv, cw, e⟩ | e
  · rw [e]; dsimp only; omega
  · rw [e]; dsimp only; omega
  · rw [e]; dsimp only; omega
  · rw [e]; dsimp only; omega
  · rw [e]
    dsimp only
    refine ⟨by omega, by omega, by omega, ?_⟩
    by_cases hb : bt x 0 < 32
    · exfalso
      unfold Lib.decodeN at e
      rw [if_pos (by omega)] at e
      simp only [Prod.mk.injEq] at e
      omega
    · omega
theorem decG_eq {x : ByteArray} (h : 0 < x.size) : decG x = Utf8.decode x 0 := by unfold decG; rw [if_neg (by omega)]
theorem decG_nil {x : ByteArray} (h : x.size = 0) : decG x = (65533, 0) := by unfold decG; rw [if_pos h]
theorem letS_adv {s : ByteArray} {i r e : Nat} (h : letS s i = some (r, e)) : i < e ∧ e ≤ s.size ∧ r ≤ 1114111 := by
  unfold letS at h
  split at h
  · have := escR_adv h
    omega
  · split at h
    · cases h
    · rename_i h2
      simp only [Option.some.injEq, Prod.mk.injEq] at h
      have hz := suf_size s i
      by_cases h0 : (suf s i).size = 0
      · rw [decG_nil h0] at h2
        simp at h2
      · have hd := decode_range (suf s i) (by omega)
        rw [decG_eq (by omega)] at h
        omega
/-- How the reference reads the same rune. -/
theorem letS_bad {s : ByteArray} {i : Nat} (hi : i < s.size) (h92 : cB s i ≠ 92) (h : cB s i < 32 ∨ utfN (suf s i) = 0) : letS s i = none := by
  have hz := suf_size s i
  have hd := decode_range (suf s i) (by omega)
  have hb := bt_suf s i 0
  have hu := utfN_decode (suf s i)
  unfold letS
  rw [if_neg h92, decG_eq (by omega), if_pos]
  rw [cB_bt hi] at h
  rw [hb] at hd
  rcases h with h | h
  · exact .inl (hd.2.2.2.2 h)
  · rw [h] at hu
    split at hu
    · rename_i hh
      exact .inr ⟨hh.1, by omega⟩
    · omega
theorem letS_end {s : ByteArray} {i : Nat} (hi : s.size ≤ i) : letS s i = none := by
  have hz := suf_size s i
  unfold letS
  rw [cB_end hi, if_neg (by omega), decG_nil (by omega)]
  rfl
theorem letS_good {s : ByteArray} {i : Nat} (hi : i < s.size) (h92 : cB s i ≠ 92) (h0 : 32 ≤ cB s i) (hu0 : utfN (suf s i) ≠ 0) : ∃ r, letS s i = some (r, i + utfN (suf s i)) ∧ Lib.encodeRune (r : Int) = (s.extract i (i + utfN (suf s i))).data.toList ∧ i + utfN (suf s i) ≤ s.size := by
  have hz := suf_size s i
  have hd := decode_range (suf s i) (by omega)
  have hb := bt_suf s i 0
  have hu := utfN_decode (suf s i)
  rw [cB_bt hi] at h0
  rw [hb] at hd
  have hne : (suf s i).data.toList ≠ [] := by
    intro e
    have := congrArg List.length e
    rw [suf_list, List.length_drop] at this
    have hl : s.data.toList.length = s.size := rfl
    simp only [List.length_nil] at this
    omega
  by_cases hv : (Utf8.decode (suf s i) 0).1 = 65533 ∧ (Utf8.decode (suf s i) 0).2 = 1
  · rw [if_pos hv] at hu; omega
  · rw [if_neg hv] at hu
    have he := Lib.encode_decode (suf s i).data.toList hne (by rw [decodeL_eq]; exact hv)
    rw [decodeL_eq, suf_list] at he
    refine ⟨(Utf8.decode (suf s i) 0).1, ?_, ?_, by omega⟩
    · unfold letS
      rw [if_neg h92, decG_eq (by omega), if_neg, hu]
      intro hh
      rcases hh with hh | hh
      · have := hd.2.2.2.1 hh; simp at this; omega
      · exact hv ⟨hh.1, by omega⟩
    · rw [cut_list, hu]
      exact he

/-- A text: behind its first quote. -/
def txtN (s : ByteArray) : Nat → Nat → Option (List UInt8 × Nat)
  | 0, _ => none
  | n + 1, i => if cB s i = 34 then some ([], i + 1) else (letS s i).bind fun p => (txtN s n p.2).map fun q => (Lib.encodeRune (p.1 : Int) ++ q.1, q.2)
def baL (l : List UInt8) : ByteArray := ⟨l.toArray⟩
theorem baL_list (l : List UInt8) : (baL l).data.toList = l := by simp [baL]
theorem baL_size (l : List UInt8) : (baL l).size = l.length := by simp [baL, ByteArray.size]
def txtS (s : ByteArray) (i : Nat) : Option (ByteArray × Nat) := if cB s i = 34 then (txtN s (s.size + 1) (i + 1)).map fun p => (baL p.1, p.2) else none
theorem txtN_quote {s : ByteArray} {n i : Nat} (h : cB s i = 34) : txtN s (n + 1) i = some ([], i + 1) := by rw [txtN, if_pos h]
theorem txtN_let {s : ByteArray} {n i r e : Nat} (acc : List UInt8) (h : cB s i ≠ 34) (hl : letS s i = some (r, e)) : (txtN s (n + 1) i).map (fun p => (acc ++ p.1, p.2)) = (txtN s n e).map fun p => ((acc ++ Lib.encodeRune (r : Int)) ++ p.1, p.2) := by
  rw [txtN, if_neg h, hl]
  simp only [Option.bind_some, Option.map_map]
  congr 1
  funext p
  simp
theorem txtN_none {s : ByteArray} {n i : Nat} (h : cB s i ≠ 34) (hl : letS s i = none) : txtN s (n + 1) i = none := by
  rw [txtN, if_neg h, hl]; rfl
theorem txtN_adv {s : ByteArray} : ∀ {n i : Nat} {l : List UInt8} {e : Nat}, txtN s n i = some (l, e) → i < e ∧ e ≤ s.size ∧ l.length ≤ 4 * (e - i)
  | 0, i, l, e, h => by cases h
  | n + 1, i, l, e, h => by
    rw [txtN] at h
    split at h
    · rename_i hc
      simp only [Option.some.injEq, Prod.mk.injEq] at h
      have := cB_in (s := s) (i := i) (by omega)
      obtain ⟨rfl, rfl⟩ := h
      simp
      omega
    · cases hl : letS s i with
      | none => rw [hl] at h; cases h
      | some p =>
        rw [hl] at h
        simp only [Option.bind_some] at h
        cases ht : txtN s n p.2 with
        | none => rw [ht] at h; cases h
        | some q =>
          rw [ht] at h
          simp only [Option.map_some, Option.some.injEq, Prod.mk.injEq] at h
          obtain ⟨rfl, rfl⟩ := h
          have h1 := letS_adv (r := p.1) (e := p.2) hl
          have h2 := txtN_adv (l := q.1) (e := q.2) ht
          have h3 := Lib.runeCells_le (p.1 : Int)
          rw [Lib.runeCells_length] at h3
          rw [List.length_append]
          omega
theorem txtS_adv {s : ByteArray} {i : Nat} {x : ByteArray} {e : Nat} (h : txtS s i = some (x, e)) : i + 1 < e ∧ e ≤ s.size ∧ x.size ≤ 4 * s.size := by
  unfold txtS at h
  split at h
  · cases ht : txtN s (s.size + 1) (i + 1) with
    | none => rw [ht] at h; cases h
    | some q =>
      rw [ht] at h
      simp only [Option.map_some, Option.some.injEq, Prod.mk.injEq] at h
      obtain ⟨rfl, rfl⟩ := h
      have := txtN_adv (l := q.1) (e := q.2) ht
      rw [baL_size]
      omega
  · cases h

theorem dg_ge (s : ByteArray) (i : Nat) : i ≤ dg s i := pass_ge _ s i
theorem dg_le {s : ByteArray} {i : Nat} (h : i ≤ s.size) : dg s i ≤ s.size := pass_le _ h
theorem numS_adv {s : ByteArray} {i : Nat} {v : Int} {e : Nat} (hi : i ≤ s.size) (h : numS s i = some (v, e)) : i < e ∧ e ≤ s.size ∧ -9223372036854775808 ≤ v ∧ v ≤ 9223372036854775807 := by
  have hs : sgn s i ≤ s.size ∧ i ≤ sgn s i := by
    unfold sgn
    split
    · rename_i hc
      have := cB_in (s := s) (i := i) (by omega)
      omega
    · omega
  have h1 := dg_ge s (sgn s i)
  have h2 := dg_le hs.1
  unfold numS at h
  split at h
  · cases h
  · split at h
    · cases h
    · split at h
      · split at h
        · simp only [Option.some.injEq, Prod.mk.injEq] at h
          omega
        · cases h
      · split at h
        · simp only [Option.some.injEq, Prod.mk.injEq] at h
          omega
        · cases h

/-- What stands ahead of a value in an object: a name and a colon. -/
def keyS (s : ByteArray) (o : Bool) (i : Nat) : Option (ByteArray × Nat) :=
  if o = true then (txtS s (sk s i)).bind fun p => if cB s (sk s p.2) = 58 then some (p.1, sk s p.2 + 1) else none else some (ByteArray.empty, i)
def cl (o : Bool) : Nat := if o = true then 125 else 93
def app (o : Bool) (k : ByteArray) (t : T) (r : (List ByteArray × List T) × Nat) : (List ByteArray × List T) × Nat := ((if o = true then k :: r.1.1 else r.1.1, t :: r.1.2), r.2)
def itm (f : Nat → Option (T × Nat)) (s : ByteArray) (o : Bool) : Nat → Nat → Option ((List ByteArray × List T) × Nat)
  | 0, _ => none
  | m + 1, i => (keyS s o i).bind fun p => (f p.2).bind fun q =>
      if cB s (sk s q.2) = 44 then (itm f s o m (sk s q.2 + 1)).map (app o p.1 q.1)
      else if cB s (sk s q.2) = cl o then some (app o p.1 q.1 (([], []), sk s q.2 + 1)) else none
/-- Behind a bracket. -/
def boxS (f : Nat → Option (T × Nat)) (s : ByteArray) (o : Bool) (j : Nat) : Option ((List ByteArray × List T) × Nat) :=
  if cB s (sk s j) = cl o then some (([], []), sk s j + 1) else itm f s o (s.size + 1) (sk s j)
def wNull : ByteArray := ⟨#[110, 117, 108, 108]⟩
def wTrue : ByteArray := ⟨#[116, 114, 117, 101]⟩
def wFalse : ByteArray := ⟨#[102, 97, 108, 115, 101]⟩
def bareV (f : Nat → Option (T × Nat)) (s : ByteArray) (j : Nat) : Option (T × Nat) :=
  if cB s j = 34 then (txtS s j).map fun p => (leafT 4 0 p.1, p.2)
  else if cB s j = 91 then (boxS f s false (j + 1)).map fun r => (mkT 5 0 ByteArray.empty r.1.2 r.1.1, r.2)
  else if cB s j = 123 then (boxS f s true (j + 1)).map fun r => (mkT 6 0 ByteArray.empty r.1.2 r.1.1, r.2)
  else if cB s j = 45 ∨ isD (cB s j) = true then (numS s j).map fun p => (leafT 3 p.1 ByteArray.empty, p.2)
  else if pfx s j wNull = true then some (leafT 1 0 ByteArray.empty, j + 4)
  else if pfx s j wTrue = true then some (leafT 2 1 ByteArray.empty, j + 4)
  else if pfx s j wFalse = true then some (leafT 2 0 ByteArray.empty, j + 5)
  else none
def valN (s : ByteArray) : Nat → Nat → Option (T × Nat)
  | 0, _ => none
  | n + 1, i => bareV (valN s n) s (sk s i)
theorem pfx_le {s : ByteArray} {i : Nat} {t : ByteArray} (h : pfx s i t = true) : i + t.size ≤ s.size := by
  unfold pfx at h
  simp only [Bool.and_eq_true, decide_eq_true_eq] at h
  exact h.1
theorem keyS_adv {s : ByteArray} {o : Bool} {i : Nat} {p : ByteArray × Nat} (hi : i ≤ s.size) (h : keyS s o i = some p) : i ≤ p.2 ∧ p.2 ≤ s.size ∧ p.1.size ≤ 4 * s.size := by
  unfold keyS at h
  split at h
  · cases ht : txtS s (sk s i) with
    | none => rw [ht] at h; cases h
    | some q =>
      rw [ht] at h
      simp only [Option.bind_some] at h
      have h1 := txtS_adv (x := q.1) (e := q.2) ht
      have h2 := sk_ge s i
      have h3 := sk_ge s q.2
      split at h
      · rename_i hc
        have := cB_in (s := s) (i := sk s q.2) (by omega)
        simp only [Option.some.injEq] at h
        subst h
        dsimp only
        omega
      · cases h
  · simp only [Option.some.injEq] at h
    subst h
    refine ⟨Nat.le_refl _, hi, ?_⟩
    show 0 ≤ _
    omega
theorem itm_adv {f : Nat → Option (T × Nat)} {s : ByteArray} (hf : ∀ i t e, i ≤ s.size → f i = some (t, e) → i < e ∧ e ≤ s.size) (o : Bool) : ∀ (m i : Nat) (r : (List ByteArray × List T) × Nat), i ≤ s.size → itm f s o m i = some r → i < r.2 ∧ r.2 ≤ s.size
  | 0, i, r, _, h => by cases h
  | m + 1, i, r, hi, h => by
    rw [itm] at h
    cases hk : keyS s o i with
    | none => rw [hk] at h; cases h
    | some p =>
      rw [hk] at h
      simp only [Option.bind_some] at h
      have h1 := keyS_adv hi hk
      cases hq : f p.2 with
      | none => rw [hq] at h; cases h
      | some q =>
        rw [hq] at h
        simp only [Option.bind_some] at h
        have h2 := hf p.2 q.1 q.2 h1.2.1 hq
        have h3 := sk_ge s q.2
        split at h
        · rename_i hc
          have h4 := cB_in (s := s) (i := sk s q.2) (by omega)
          cases hr : itm f s o m (sk s q.2 + 1) with
          | none => rw [hr] at h; cases h
          | some r' =>
            rw [hr] at h
            simp only [Option.map_some, Option.some.injEq] at h
            have h5 := itm_adv hf o m _ r' (by omega) hr
            subst h
            simp only [app]
            omega
        · split at h
          · rename_i hc
            have h4 := cB_in (s := s) (i := sk s q.2) (by unfold cl at hc; split at hc <;> omega)
            simp only [Option.some.injEq] at h
            subst h
            simp only [app]
            omega
          · cases h
theorem bareV_adv {f : Nat → Option (T × Nat)} {s : ByteArray} (hf : ∀ i t e, i ≤ s.size → f i = some (t, e) → i < e ∧ e ≤ s.size) {j : Nat} {t : T} {e : Nat} (hj : j ≤ s.size) (h : bareV f s j = some (t, e)) : j < e ∧ e ≤ s.size := by
  have hbox : ∀ (o : Bool) (k : Int), cB s j < 256 → (boxS f s o (j + 1)).map (fun r => (mkT k 0 ByteArray.empty r.1.2 r.1.1, r.2)) = some (t, e) → j < e ∧ e ≤ s.size := by
    intro o k hc hh
    have hj1 := cB_in hc
    have h3 := sk_ge s (j + 1)
    have h5 := sk_le (s := s) (i := j + 1) (by omega)
    cases hb : boxS f s o (j + 1) with
    | none => rw [hb] at hh; cases hh
    | some r =>
      rw [hb] at hh
      simp only [Option.map_some, Option.some.injEq, Prod.mk.injEq] at hh
      unfold boxS at hb
      split at hb
      · rename_i hc
        have h4 := cB_in (s := s) (i := sk s (j + 1)) (by unfold cl at hc; split at hc <;> omega)
        simp only [Option.some.injEq] at hb
        subst hb
        dsimp only at hh
        omega
      · have := itm_adv hf o _ _ r h5 hb
        omega
  unfold bareV at h
  split at h
  · cases ht : txtS s j with
    | none => rw [ht] at h; cases h
    | some q =>
      rw [ht] at h
      simp only [Option.map_some, Option.some.injEq, Prod.mk.injEq] at h
      have h1 := txtS_adv (x := q.1) (e := q.2) ht
      omega
  · split at h
    · exact hbox _ _ (by omega) h
    · split at h
      · exact hbox _ _ (by omega) h
      · split at h
        · cases ht : numS s j with
          | none => rw [ht] at h; cases h
          | some q =>
            rw [ht] at h
            simp only [Option.map_some, Option.some.injEq, Prod.mk.injEq] at h
            have h1 := numS_adv (v := q.1) (e := q.2) hj ht
            omega
        · split at h
          · rename_i hp
            have h4 := pfx_le hp
            simp only [Option.some.injEq, Prod.mk.injEq] at h
            have : wNull.size = 4 := rfl
            omega
          · split at h
            · rename_i hp
              have h4 := pfx_le hp
              simp only [Option.some.injEq, Prod.mk.injEq] at h
              have : wTrue.size = 4 := rfl
              omega
            · split at h
              · rename_i hp
                have h4 := pfx_le hp
                simp only [Option.some.injEq, Prod.mk.injEq] at h
                have : wFalse.size = 5 := rfl
                omega
              · cases h
theorem valN_adv {s : ByteArray} : ∀ (n i : Nat) (t : T) (e : Nat), i ≤ s.size → valN s n i = some (t, e) → i < e ∧ e ≤ s.size
  | 0, _, _, _, _, h => by cases h
  | n + 1, i, t, e, hi, h => by
    rw [valN] at h
    have := bareV_adv (fun i t e => valN_adv n i t e) (sk_le hi) h
    have := sk_ge s i
    omega

/-- A list so far, and the next entry. -/
def onto (K : List ByteArray) (L : List T) (r : (List ByteArray × List T) × Nat) : (List ByteArray × List T) × Nat := ((K ++ r.1.1, L ++ r.1.2), r.2)
theorem onto_nil (x : Option ((List ByteArray × List T) × Nat)) : x = x.map (onto [] []) := by cases x <;> rfl
theorem itm_nokey {f : Nat → Option (T × Nat)} {s : ByteArray} {o : Bool} {m i : Nat} (hk : keyS s o i = none) : itm f s o (m + 1) i = none := by rw [itm, hk]; rfl
theorem itm_noval {f : Nat → Option (T × Nat)} {s : ByteArray} {o : Bool} {m i : Nat} {p : ByteArray × Nat} (hk : keyS s o i = some p) (hq : f p.2 = none) : itm f s o (m + 1) i = none := by rw [itm, hk]; simp only [Option.bind_some]; rw [hq]; rfl
theorem itm_more {f : Nat → Option (T × Nat)} {s : ByteArray} {o : Bool} {m i : Nat} {p : ByteArray × Nat} {q : T × Nat} (K : List ByteArray) (L : List T) (hk : keyS s o i = some p) (hq : f p.2 = some q) (h : cB s (sk s q.2) = 44) :
    (itm f s o (m + 1) i).map (onto K L) = (itm f s o m (sk s q.2 + 1)).map (onto (if o = true then K ++ [p.1] else K) (L ++ [q.1])) := by
  rw [itm, hk]
  simp only [Option.bind_some]
  rw [hq]
  simp only [Option.bind_some]
  rw [if_pos h, Option.map_map]
  congr 1
  funext r
  cases o <;> simp [onto, app]
theorem itm_done {f : Nat → Option (T × Nat)} {s : ByteArray} {o : Bool} {m i : Nat} {p : ByteArray × Nat} {q : T × Nat} (K : List ByteArray) (L : List T) (hk : keyS s o i = some p) (hq : f p.2 = some q) (h : cB s (sk s q.2) = cl o) :
    (itm f s o (m + 1) i).map (onto K L) = some (((if o = true then K ++ [p.1] else K), L ++ [q.1]), sk s q.2 + 1) := by
  rw [itm, hk]
  simp only [Option.bind_some]
  rw [hq]
  simp only [Option.bind_some]
  have h44 : cB s (sk s q.2) ≠ 44 := by rw [h]; cases o <;> decide
  rw [if_neg h44, if_pos h]
  cases o <;> simp [onto, app]
theorem itm_torn {f : Nat → Option (T × Nat)} {s : ByteArray} {o : Bool} {m i : Nat} {p : ByteArray × Nat} {q : T × Nat} (hk : keyS s o i = some p) (hq : f p.2 = some q) (h : cB s (sk s q.2) ≠ 44) (h2 : cB s (sk s q.2) ≠ cl o) :
    itm f s o (m + 1) i = none := by
  rw [itm, hk]
  simp only [Option.bind_some]
  rw [hq]
  simp only [Option.bind_some]
  rw [if_neg h, if_neg h2]
end Go.Proofs.YtknakfpciccoaaaGreatDoor
/- append onto a slice of one's own, of whatever is appended: a text's bytes too. -/
namespace Go.Proofs.YtknakfpciccoaaaGreatDoor
open Go.RowKit

theorem run_append_src {P : Program} (w : World) (base : Nat) (t tx ty e : TypeId) (i : TypeInfo) (z : Value) (size bytes : Nat) (ht : P.underlying t = some (.slice e)) (hi : P.info? e = some i) (hz : i.zero = some z)
    (hsize : i.size = size) (hby : i.bytes = bytes) (hzs : z.cells.size = size)
    (v : Value) (n : Nat) (xs : List Value) (hown : w.ownsRow base e size v n xs) (x : Value) (m : Nat) (news : List Value) (hs : Src P size tx x m news w)
    (h63 : n + m ≤ maxLen) (hbytes : (n + m) * bytes ≤ 140737488355328) (hbase : base ≤ w.heap.size) :
    ∃ v' w', (Builtin.append_ #[t, tx] ty #[v, x]).run P w = .ok v' w' ∧ w'.ownsRow base e size v' (n + m) (xs ++ news) ∧ w.grownBy w' v.ownBlock ∧ (v'.ownBlock = v.ownBlock ∨ v'.ownBlock = some w.heap.size) := by
  subst hsize
  subst hby
  have hsmall : n + m ≤ 9223372036854775807 := by simp only [maxLen] at h63; omega
  have hl := hs.newsLen
  have hlen : (xs ++ news).length = (n + m) * i.size := by rw [List.length_append, hown.1, hl, Nat.add_mul]
  have grown : ∀ (old : Nat), ∀ (row : Option Nat),
      (w.drew.alloc (.cells ((xs ++ news).toArray ++ Builtin.zeroCells z.cells (grownCap w (n + m) old e - (n + m))) e)).ownsRow base e i.size
        (.slice (some ⟨w.heap.size, 0, none⟩) (n + m) (grownCap w (n + m) old e)) (n + m) (xs ++ news) ∧
      w.grownBy (w.drew.alloc (.cells ((xs ++ news).toArray ++ Builtin.zeroCells z.cells (grownCap w (n + m) old e - (n + m))) e)) row := by
    intro old row
    have hge := grownCap_ge w (n + m) old e
    have hcm : grownCap w (n + m) old e ≤ maxLen := grownCap_le_maxLen w (n + m) old e h63
    refine ⟨⟨hlen, .inr ⟨w.heap.size, _, _, rfl, hbase, heap_alloc_new w.drew _, hge, hcm, ?_, ?_⟩⟩, ⟨rfl, rfl, rfl, by simp, fun k hk _ => heap_alloc_old w.drew _ hk⟩⟩
    · simp only [Array.size_append, List.size_toArray, size_zeroCells, hzs, hlen, ← Nat.add_mul]
      congr 1
      omega
    · simp only [Array.toList_append]
      rw [← hlen]
      exact List.take_left
  rcases hown.2 with ⟨rfl, rfl⟩ | ⟨g, cap, cur, rfl, hbg, hg, hnc, hcm, hcs, htake⟩
  · have hx : xs = [] := List.eq_nil_of_length_eq_zero (by simpa using hown.1)
    subst hx
    by_cases hm : m = 0
    · subst hm
      have hn : news = [] := List.eq_nil_of_length_eq_zero (by simpa using hl)
      subst hn
      refine ⟨.slice none 0 0, w, ?_, World.ownsRow_nil w base e i.size, ⟨rfl, rfl, rfl, Nat.le_refl _, fun _ _ _ => rfl⟩, Or.inl rfl⟩
      rcases hs.kind with ⟨e', hk⟩ | hk <;> simp [Builtin.append_, run_underlying ht, run_underlying hk, sizeOf, typeInfo, hi, hs.len, hs.cells]
    · have hr := run_append_grow_src (P := P) w t tx ty e i z ht hi hz none 0 0 [] (run_firstCells_none w.drew i.size 0 0 0) x m news hs (by omega) (by omega) (growslice_fits (by omega) hbytes)
      have hgr := grown 0 (Value.ownBlock (.slice none 0 0))
      exact ⟨_, _, hr, hgr.1, hgr.2, Or.inr rfl⟩
  · by_cases hroom : n + m ≤ cap
    · have hfit : n * i.size + news.length ≤ cur.size := by rw [hl, hcs, ← Nat.add_mul]; exact Nat.mul_le_mul_right _ hroom
      have hst := run_storeCells_at P g (n * i.size) e news 0 cur w hg (by simpa using hfit) hs.one
      simp only [Nat.add_zero] at hst
      have hr : (Builtin.append_ #[t, tx] ty #[.slice (some ⟨g, 0, none⟩) n cap, x]).run P w = .ok (.slice (some ⟨g, 0, none⟩) (n + m) cap) (w.setRow g (cur.toList.take (n * i.size) ++ news ++ cur.toList.drop (n * i.size + news.length)).toArray) := by
        rcases hs.kind with ⟨e', hk⟩ | hk <;> simp [Builtin.append_, run_underlying ht, run_underlying hk, sizeOf, typeInfo, hi, hs.len, hroom, hs.cells, Addr.add_lit, hst]
      refine ⟨_, _, hr, ⟨hlen, .inr ⟨g, cap, _, rfl, hbg, setRow_heap w g cur _ e _ hg, hroom, hcm, ?_, ?_⟩⟩, ⟨rfl, rfl, rfl, by simp, fun k _ hk => setRow_other w g k _ (fun e => hk (by simp [Value.ownBlock, e]))⟩, Or.inl rfl⟩
      · simp only [List.size_toArray, List.length_append, List.length_take, List.length_drop, Array.length_toList]
        omega
      · rw [htake, ← hlen]
        exact List.take_left
    · have holds : ∀ j u, xs[j]? = some u → w.cell? ((⟨g, 0, none⟩ : Addr).add j) = some u := hown.cells (g := g) rfl
      have hr := run_append_grow_src (P := P) w t tx ty e i z ht hi hz (some ⟨g, 0, none⟩) n cap xs (run_firstCells_some w.drew i.size n ⟨g, 0, none⟩ n cap xs hown.1 (by simpa using holds)) x m news hs (by omega) (by omega) (growslice_fits (by omega) hbytes)
      have hgr := grown cap (Value.ownBlock (.slice (some ⟨g, 0, none⟩) n cap))
      exact ⟨_, _, hr, hgr.1, hgr.2, Or.inr rfl⟩
theorem wp_append_src {P : Program} (w : World) {o : Oper} {a : Act} {K : Act → World → Prop} {Q : Exit → Act → World → Prop} (s xo : Operand) (t tx : TypeId)
    (ho : o.op = .call { callee := .builtin .append, args := #[s, xo], argTypes := #[t, tx] })
    (base : Nat) (e : TypeId) (i : TypeInfo) (z : Value) (size bytes : Nat) (ht : P.underlying t = some (.slice e)) (hi : P.info? e = some i) (hz : i.zero = some z)
    (hsize : i.size = size) (hby : i.bytes = bytes) (hzs : z.cells.size = size)
    (v : Value) (n : Nat) (xs : List Value) (hsv : a.eval s = v) (hown : w.ownsRow base e size v n xs) (x : Value) (m : Nat) (news : List Value) (hx : a.eval xo = x) (hs : Src P size tx x m news w)
    (h63 : n + m ≤ maxLen) (hbytes : (n + m) * bytes ≤ 140737488355328) (hbase : base ≤ w.heap.size)
    (h : ∀ v' w', w'.ownsRow base e size v' (n + m) (xs ++ news) → w.grownBy w' v.ownBlock → (v'.ownBlock = v.ownBlock ∨ v'.ownBlock = some w.heap.size) → K (a.put o.dst v') w') : o.wp P a w K Q := by
  obtain ⟨v', w', hr, h2, h3, h4⟩ := run_append_src (P := P) w base t tx o.type e i z size bytes ht hi hz hsize hby hzs v n xs hown x m news hs h63 hbytes hbase
  unfold Oper.wp execOp
  simp only [ho, resolve, invoke, builtin, Sem.run_bind, Sem.run_pure, Result.andThen_ok, List.map_toArray, List.map_cons, List.map_nil, hsv, hx, hr]
  exact h v' w' h2 h3 h4
theorem wpList_append_src {P : Program} (w : World) {ops : Array Oper} {rest : List Oper} {o : Oper} {a : Act} {Q : Exit → Act → World → Prop} (hgd : o.guard = none) (s xo : Operand) (t tx : TypeId)
    (ho : o.op = .call { callee := .builtin .append, args := #[s, xo], argTypes := #[t, tx] })
    (base : Nat) (e : TypeId) (i : TypeInfo) (z : Value) (size bytes : Nat) (ht : P.underlying t = some (.slice e)) (hi : P.info? e = some i) (hz : i.zero = some z)
    (hsize : i.size = size) (hby : i.bytes = bytes) (hzs : z.cells.size = size)
    (v : Value) (n : Nat) (xs : List Value) (hsv : a.eval s = v) (hown : w.ownsRow base e size v n xs) (x : Value) (m : Nat) (news : List Value) (hx : a.eval xo = x) (hs : Src P size tx x m news w)
    (h63 : n + m ≤ maxLen) (hbytes : (n + m) * bytes ≤ 140737488355328) (hbase : base ≤ w.heap.size)
    (h : ∀ v' w', w'.ownsRow base e size v' (n + m) (xs ++ news) → w.grownBy w' v.ownBlock → (v'.ownBlock = v.ownBlock ∨ v'.ownBlock = some w.heap.size) → wpList P ops Q rest (a.put o.dst v') w') : wpList P ops Q (o :: rest) a w :=
  wpList_plain hgd fun _ hK => wp_append_src w s xo t tx ho base e i z size bytes ht hi hz hsize hby hzs v n xs hsv hown x m news hx hs h63 hbytes hbase fun v' w' h2 h3 h4 => hK _ _ (h v' w' h2 h3 h4)
theorem step_append_src {P : Program} (w : World) {ops : Array Oper} {o : Oper} {a : Act} {K : Act → World → Prop} {Q : Exit → Act → World → Prop} {E : Prop} (hgd : o.guard = none) (s xo : Operand) (t tx : TypeId)
    (ho : o.op = .call { callee := .builtin .append, args := #[s, xo], argTypes := #[t, tx] })
    (base : Nat) (e : TypeId) (i : TypeInfo) (z : Value) (size bytes : Nat) (ht : P.underlying t = some (.slice e)) (hi : P.info? e = some i) (hz : i.zero = some z)
    (hsize : i.size = size) (hby : i.bytes = bytes) (hzs : z.cells.size = size)
    (v : Value) (n : Nat) (xs : List Value) (hsv : a.eval s = v) (hown : w.ownsRow base e size v n xs) (x : Value) (m : Nat) (news : List Value) (hx : a.eval xo = x) (hs : Src P size tx x m news w)
    (h63 : n + m ≤ maxLen) (hbytes : (n + m) * bytes ≤ 140737488355328) (hbase : base ≤ w.heap.size)
    (h : ∀ v' w', w'.ownsRow base e size v' (n + m) (xs ++ news) → w.grownBy w' v.ownBlock → (v'.ownBlock = v.ownBlock ∨ v'.ownBlock = some w.heap.size) → K (a.put o.dst v') w') :
    if Region.wanted o (yielded ops a.tmps) = true then Oper.wp P o a w K Q else E := by
  have hw : Region.wanted o (yielded ops a.tmps) = true := by simp [Region.wanted, hgd]
  rw [if_pos hw]
  exact wp_append_src w s xo t tx ho base e i z size bytes ht hi hz hsize hby hzs v n xs hsv hown x m news hx hs h63 hbytes hbase h
/-- A text's bytes, as cells. -/
def bytesV (l : List UInt8) : List Value := l.map fun b => Value.int .u8 b.toNat
theorem bytesV_append (a b : List UInt8) : bytesV (a ++ b) = bytesV a ++ bytesV b := List.map_append ..
theorem bytesV_length (a : List UInt8) : (bytesV a).length = a.length := List.length_map ..
theorem src_bytes {P : Program} (w : World) {tx : TypeId} (hk : P.underlying tx = some .string) (s : ByteArray) : Src P 1 tx (.string s) s.size (bytesV s.data.toList) w := Src.ofString w hk s
/-- A list of bytes of one's own, as a text. -/
theorem conv_own {P : Program} {w : World} {base : Nat} {src dst e : TypeId} {v : Value} {l : List UInt8} (hs : P.underlying src = some (.slice e)) (he : P.underlying e = some (.int .u8)) (hd : P.underlying dst = some .string)
    (h : w.ownsRow base e 1 v l.length (bytesV l)) : (convert src dst v).run P w = .ok (.string ⟨l.toArray⟩) w := by
  rcases h.2 with ⟨rfl, h0⟩ | ⟨g, cap, cur, rfl, hbg, hg, hnc, hcm, hcs, htake⟩
  · have : l = [] := List.eq_nil_of_length_eq_zero h0
    subst this
    exact run_convert_bytes_nil w src e hs he 0 0 dst hd
  · refine run_convert_bytes_back (P := P) w src dst e ⟨g, 0, none⟩ cap l hs he hd fun j hj => ?_
    have := h.cells (g := g) rfl j (.int .u8 ((l[j]'hj).toNat : Nat)) (by unfold bytesV; rw [List.getElem?_map, List.getElem?_eq_getElem hj]; rfl)
    exact this
end Go.Proofs.YtknakfpciccoaaaGreatDoor
/- Values as bytes, pure: what is written; a row of bytes of one's own that grows. -/
namespace Go.Proofs.YtknakfpciccoaaaGreatDoor
open Go.RowKit

/-- The byte at a place, counted from the lowest. -/
def byAt (n : Int) (k : Nat) : UInt8 := UInt8.ofNat (n / 256 ^ k % 256).toNat
theorem byAt_toNat (n : Int) (k : Nat) : ((byAt n k).toNat : Int) = n / 256 ^ k % 256 := by
  unfold byAt
  rw [UInt8.toNat_ofNat']
  have h0 := Int.emod_nonneg (n / 256 ^ k) (show (256 : Int) ≠ 0 by decide)
  have h1 := Int.emod_lt_of_pos (n / 256 ^ k) (show (0 : Int) < 256 by decide)
  omega
theorem by_eq {a b : UInt8} (h : (a.toNat : Int) = b.toNat) : a = b := UInt8.toNat_inj.1 (by omega)
/-- So many of the lowest bytes, the highest first. -/
def beL (n : Int) : Nat → List UInt8
  | 0 => []
  | k + 1 => byAt n k :: beL n k
theorem beL_len (n : Int) : ∀ k, (beL n k).length = k
  | 0 => rfl
  | k + 1 => by simp [beL, beL_len n k]
theorem pow_dvd (k : Nat) (h : k < 8) : ∃ c : Int, (18446744073709551616 : Int) = 256 ^ k * (256 * c) := by
  have : ∀ k : Fin 8, (18446744073709551616 : Int) = 256 ^ k.1 * (256 * (256 ^ (7 - k.1))) := by decide
  exact ⟨_, this ⟨k, h⟩⟩
theorem byAt_wrap (n : Int) (k : Nat) (h : k < 8) : byAt (n % 18446744073709551616) k = byAt n k := by
  apply by_eq
  rw [byAt_toNat, byAt_toNat]
  obtain ⟨c, hc⟩ := pow_dvd k h
  have hp : (256 : Int) ^ k ≠ 0 := by
    have : (0 : Int) < 256 ^ k := Int.pow_pos (by decide)
    omega
  have e := Int.emod_add_mul_ediv n 18446744073709551616
  generalize n % 18446744073709551616 = r at e ⊢
  generalize n / 18446744073709551616 = q at e
  rw [← e, hc, Int.mul_assoc, Int.add_mul_ediv_left _ _ hp, Int.mul_assoc, Int.add_mul_emod_self_left]
theorem beL_wrap (n : Int) : ∀ k, k ≤ 8 → beL (n % 18446744073709551616) k = beL n k
  | 0, _ => rfl
  | k + 1, h => by rw [beL, beL, byAt_wrap n k (by omega), beL_wrap n k (by omega)]
def kindB (t : T) : UInt8 := byAt (kindOf t) 0
def leafE (t : T) : List UInt8 :=
  kindB t :: (if kindOf t = 2 then [byAt (nOf t) 0] else if kindOf t = 3 then beL (nOf t) 8 else if kindOf t = 4 then beL (sOf t).size 4 ++ (sOf t).data.toList else [])
def nameE (t : T) (k : Nat) : List UInt8 := if kindOf t = 6 then beL (nam t k).size 2 ++ (nam t k).data.toList else []
def catB (g : T → List UInt8) (t : T) : Nat → List UInt8
  | 0 => []
  | k + 1 => catB g t k ++ (nameE t k ++ g (elt t k))
def boxE (t : T) (body : List UInt8) : List UInt8 := kindB t :: (beL body.length 4 ++ body)
def encT : Nat → T → List UInt8
  | 0, t => leafE t
  | m + 1, t => if kindOf t = 5 ∨ kindOf t = 6 then boxE t (catB (encT m) t (nL t)) else leafE t
theorem encT_leaf {m : Nat} {t : T} (h5 : kindOf t ≠ 5) (h6 : kindOf t ≠ 6) : encT m t = leafE t := by
  cases m with
  | zero => rfl
  | succ m => unfold encT; rw [if_neg (by omega)]
theorem encT_box {m : Nat} {t : T} (h : kindOf t = 5 ∨ kindOf t = 6) : encT (m + 1) t = boxE t (catB (encT m) t (nL t)) := by rw [encT, if_pos h]
theorem catB_mono (g : T → List UInt8) (t : T) {k n : Nat} (h : k ≤ n) : (catB g t k).length ≤ (catB g t n).length := by
  induction n with
  | zero => have : k = 0 := by omega
            subst this; exact Nat.le_refl _
  | succ n ih =>
    by_cases e : k = n + 1
    · subst e; exact Nat.le_refl _
    · have := ih (by omega)
      simp only [catB, List.length_append]
      omega
theorem leafE_len {t : T} (h : leafGood t) : (leafE t).length = leafBytes t := by
  obtain ⟨_, _, h⟩ := h
  unfold leafE leafBytes
  rcases h with ⟨h, _⟩ | ⟨h, _⟩ | ⟨h, _⟩ | ⟨h, _⟩ <;> simp [h, beL_len]
  omega
theorem catB_len5 {g : T → List UInt8} {h : T → Nat} {t : T} (h5 : kindOf t ≠ 6) : ∀ k, (∀ i, i < k → (g (elt t i)).length = h (elt t i)) → (catB g t k).length = sumL h t k
  | 0, _ => rfl
  | k + 1, hh => by
    have ih := catB_len5 h5 k (fun i hi => hh i (by omega))
    have hk := hh k (by omega)
    simp only [catB, sumL, nameE, if_neg h5, List.length_append, List.length_nil]
    omega
theorem catB_len6 {g : T → List UInt8} {h : T → Nat} {t : T} (h6 : kindOf t = 6) : ∀ k, (∀ i, i < k → (g (elt t i)).length = h (elt t i)) → (catB g t k).length = sumK t k + sumL h t k
  | 0, _ => rfl
  | k + 1, hh => by
    have ih := catB_len6 h6 k (fun i hi => hh i (by omega))
    have hk := hh k (by omega)
    have e : (nam t k).data.toList.length = (nam t k).size := rfl
    simp only [catB, sumL, sumK, nameE, if_pos h6, List.length_append, beL_len]
    omega
theorem encT_len : ∀ (m : Nat) (t : T), Good m t → (encT m t).length = bytesT m t
  | 0, t, hg => leafE_len hg
  | m + 1, t, hg => by
    rcases hg with hg | ⟨_, _, he, hk⟩
    · have k5 : kindOf t ≠ 5 ∧ kindOf t ≠ 6 := by
        obtain ⟨_, _, h⟩ := hg
        rcases h with ⟨h, _⟩ | ⟨h, _⟩ | ⟨h, _⟩ | ⟨h, _⟩ <;> omega
      unfold encT bytesT
      rw [if_neg (by omega), if_neg k5.1, if_neg k5.2]
      exact leafE_len hg
    · have hi : ∀ i, i < nL t → (encT m (elt t i)).length = bytesT m (elt t i) := fun i hi => encT_len m _ (he i hi)
      unfold encT bytesT
      rcases hk with ⟨k5, _⟩ | ⟨k6, hnk, _⟩
      · rw [if_pos (.inl k5), if_pos k5]
        have := catB_len5 (g := encT m) (h := bytesT m) (by omega) (nL t) hi
        simp only [boxE, List.length_cons, List.length_append, beL_len]
        omega
      · rw [if_pos (.inr k6), if_neg (by omega), if_pos k6, hnk]
        have := catB_len6 (g := encT m) (h := bytesT m) k6 (nL t) hi
        simp only [boxE, List.length_cons, List.length_append, beL_len]
        omega

theorem infoBE : (Tryz.prog.info? 5).map (fun i => (i.zero, i.size, i.bytes)) = some (some (.int .u8 0), 1, 1) := by kernel_rfl
/-- A row of bytes of one's own, and what else was kept since an earlier one. -/
structure QG (w0 : World) (r : Value) (w : World) (r' : Value) (acc : List UInt8) (w' : World) : Prop where
  row : w'.ownsRow w0.heap.size 5 1 r' acc.length (bytesV acc)
  grown : w.grownBy w' r.ownBlock
  own : r'.ownBlock = r.ownBlock ∨ ∃ b, r'.ownBlock = some b ∧ w.heap.size ≤ b
theorem ownBlock_lt {w : World} {lo : Nat} {e : TypeId} {size n : Nat} {v : Value} {xs : List Value} (h : w.ownsRow lo e size v n xs) {b : Nat} (hb : v.ownBlock = some b) : lo ≤ b ∧ b < w.heap.size := by
  rcases h.2 with ⟨rfl, _⟩ | ⟨g, cap, cur, rfl, hb0, hg, rest⟩
  · cases hb
  · have : b = g := by simpa [Value.ownBlock] using hb.symm
    subst this
    exact ⟨hb0, (Array.getElem?_eq_some_iff.1 hg).1⟩
theorem rowE_move {w w' : World} {lo : Nat} {e : TypeId} {size n : Nat} {v : Value} {xs : List Value} (h : w.ownsRow lo e size v n xs) (hb : ∀ b, lo ≤ b → b < w.heap.size → w'.heap[b]? = w.heap[b]?) : w'.ownsRow lo e size v n xs := by
  refine ⟨h.1, ?_⟩
  rcases h.2 with hn | ⟨g, cap, cur, rfl, hb0, hg, rest⟩
  · exact .inl hn
  · exact .inr ⟨g, cap, cur, rfl, hb0, (hb g hb0 (Array.getElem?_eq_some_iff.1 hg).1).trans hg, rest⟩
theorem grown_refl (w : World) (r : Option Nat) : w.grownBy w r := ⟨rfl, rfl, rfl, Nat.le_refl _, fun _ _ _ => rfl⟩
theorem QG.refl {w0 w : World} {r : Value} {acc : List UInt8} (h : w.ownsRow w0.heap.size 5 1 r acc.length (bytesV acc)) : QG w0 r w r acc w := ⟨h, grown_refl w _, .inl rfl⟩
theorem QG.trans {w0 w w1 w2 : World} {r r1 r2 : Value} {a1 a2 : List UInt8} (h : QG w0 r w r1 a1 w1) (k : QG w0 r1 w1 r2 a2 w2) : QG w0 r w r2 a2 w2 := by
  refine ⟨k.row, ⟨k.grown.os.trans h.grown.os, k.grown.tape.trans h.grown.tape, k.grown.output.trans h.grown.output, Nat.le_trans h.grown.size k.grown.size, fun b hb hne => ?_⟩, ?_⟩
  · rw [k.grown.block b (Nat.lt_of_lt_of_le hb h.grown.size) ?_, h.grown.block b hb hne]
    intro e
    rcases h.own with h1 | ⟨c, h1, h2⟩
    · rw [h1] at e; exact hne e
    · rw [h1] at e
      simp only [Option.some.injEq] at e
      omega
  · rcases k.own with k1 | ⟨c, k1, k2⟩
    · rcases h.own with h1 | ⟨c, h1, h2⟩
      · exact .inl (k1.trans h1)
      · exact .inr ⟨c, k1.trans h1, h2⟩
    · exact .inr ⟨c, k1, Nat.le_trans h.grown.size k2⟩
theorem QG.acc {w0 w w1 : World} {r r1 : Value} {a a' : List UInt8} (h : QG w0 r w r1 a w1) (e : a = a') : QG w0 r w r1 a' w1 := e ▸ h
/-- A world that grows alone. -/
theorem QG.keep {w0 w w1 w2 : World} {r r1 : Value} {a1 : List UInt8} (h : QG w0 r w r1 a1 w1) (k : Below w1.heap.size w1 w2) : QG w0 r w r1 a1 w2 :=
  ⟨rowE_move h.row fun b _ h2 => k.block b h2, ⟨k.os.trans h.grown.os, k.tape.trans h.grown.tape, k.output.trans h.grown.output, Nat.le_trans h.grown.size k.size, fun b hb hne => (k.block b (Nat.lt_of_lt_of_le hb h.grown.size)).trans (h.grown.block b hb hne)⟩, h.own⟩
theorem QG.grow {w0 w w1 w2 : World} {r r1 r2 : Value} {acc l : List UInt8} (h : QG w0 r w r1 acc w1) (hO : w2.ownsRow w0.heap.size 5 1 r2 (acc.length + l.length) (bytesV acc ++ bytesV l)) (hG : w1.grownBy w2 r1.ownBlock) (hat : r2.ownBlock = r1.ownBlock ∨ r2.ownBlock = some w1.heap.size) : QG w0 r w r2 (acc ++ l) w2 :=
  h.trans ⟨by rw [List.length_append, bytesV_append]; exact hO, hG, hat.imp id fun h => ⟨_, h, Nat.le_refl _⟩⟩
/-- What lies below the row's base is kept. -/
theorem QG.below {w0 w w1 : World} {r r1 : Value} {a a1 : List UInt8} (h : QG w0 r w r1 a1 w1) (hr : w.ownsRow w0.heap.size 5 1 r a.length (bytesV a)) (hb : Below w0.heap.size w0 w) : Below w0.heap.size w0 w1 :=
  ⟨h.grown.os.trans hb.os, h.grown.tape.trans hb.tape, h.grown.output.trans hb.output, Nat.le_trans hb.size h.grown.size, fun k hk => (h.grown.block k (Nat.lt_of_lt_of_le hk hb.size) (fun e => by have := (ownBlock_lt hr e.symm).1; omega)).trans (hb.block k hk)⟩
/-- The cells of a box that lies behind the row. -/
theorem QG.box {w0 w w1 : World} {r r1 : Value} {a a1 : List UInt8} {c0 c1 c2 c3 c4 : Value} (hr : w.ownsRow w0.heap.size 5 1 r a.length (bytesV a)) (h : QG w0 r (w.alloc (.cells #[c0, c1, c2, c3, c4] 25)) r1 a1 w1) :
    w1.cell? ⟨w.heap.size, 0, none⟩ = some c0 ∧ w1.cell? ⟨w.heap.size, 1, none⟩ = some c1 ∧ w1.cell? ⟨w.heap.size, 2, none⟩ = some c2 ∧ w1.cell? ⟨w.heap.size, 3, none⟩ = some c3 ∧ w1.cell? ⟨w.heap.size, 4, none⟩ = some c4 ∧ w.heap.size < w1.heap.size := by
  have hz := h.grown.size
  have hb : w1.heap[w.heap.size]? = (w.alloc (.cells #[c0, c1, c2, c3, c4] 25)).heap[w.heap.size]? := h.grown.block w.heap.size (by simp) (fun e => by have := (ownBlock_lt hr e.symm).2; omega)
  refine ⟨?_, ?_, ?_, ?_, ?_, by simp at hz; omega⟩
  · rw [World.cell?_of_block (a := ⟨w.heap.size, 0, none⟩) hb]; simp [go_sem]
  · rw [World.cell?_of_block (a := ⟨w.heap.size, 1, none⟩) hb]; simp [go_sem]
  · rw [World.cell?_of_block (a := ⟨w.heap.size, 2, none⟩) hb]; simp [go_sem]
  · rw [World.cell?_of_block (a := ⟨w.heap.size, 3, none⟩) hb]; simp [go_sem]
  · rw [World.cell?_of_block (a := ⟨w.heap.size, 4, none⟩) hb]; simp [go_sem]
theorem builtE_cell (w : World) (l : List UInt8) (j : Nat) (u : Value) (hj : (bytesV l)[j]? = some u) : (w.alloc (.cells (bytesV l).toArray 5)).cell? ((⟨w.heap.size, 0, none⟩ : Addr).add j) = some u := by
  have e0 : (w.alloc (.cells (bytesV l).toArray 5)).heap[w.heap.size]? = some (.cells (bytesV l).toArray 5) := by show (w.heap.push _)[w.heap.size]? = _; simp
  have e1 : ((⟨w.heap.size, 0, none⟩ : Addr).add j) = ⟨w.heap.size, j, none⟩ := by simp [Addr.add]; intro h; exact h.symm
  rw [e1]
  unfold World.cell?
  rw [e0]
  show (if _ then none else (bytesV l).toArray[j]?) = some u
  rw [if_neg (by simp)]
  simpa using hj
theorem srcE_built (w : World) (l : List UInt8) : Src Tryz.prog 1 63 (.slice (some ⟨w.heap.size, 0, none⟩) l.length l.length) l.length (bytesV l) (w.alloc (.cells (bytesV l).toArray 5)) :=
  Src.ofSlice _ Tryz.underlying63 ⟨w.heap.size, 0, none⟩ l.length l.length (bytesV l) (by rw [bytesV_length]; omega) (builtE_cell w l) (fun u hu => by obtain ⟨b, _, rfl⟩ := List.mem_map.1 hu; rfl)
end Go.Proofs.YtknakfpciccoaaaGreatDoor
/- The walk of appendNumber. -/
namespace Go.Proofs.YtknakfpciccoaaaGreatDoor
open Go.RowKit

set_option maxHeartbeats 4000000 in
set_option maxRecDepth 100000 in
theorem appNum_any (w0 : World) (r : Value) (acc : List UInt8) (n : Int) (m : Nat) (w : World) (hr : w.ownsRow w0.heap.size 5 1 r acc.length (bytesV acc)) (hb : w0.heap.size ≤ w.heap.size) (_hn0 : 0 ≤ n) (_hn1 : n < 18446744073709551616) (hm : m ≤ 8) (hl : acc.length ≤ 1000000000) :
    Calls Tryz.prog 86 #[r, .int .u64 n, .int .i64 m] w fun e w' => ∃ r', e = .returned r' ∧ QG w0 r w r' (acc ++ beL n m) w' := by
  obtain ⟨iB, hiB, zB0, zB1, zB2⟩ := info_parts infoBE
  have HR := hid (QG.refl hr)
  clear hr
  go_enter Tryz.func86, Tryz.ntmps86
  go_wp2_with fail
  go_loopg [0, 7] m (fun g o i wr => ∃ (j : Nat) (a : List UInt8), g = j ∧ j ≤ m ∧ i = .int .i64 ((j : Int) - 1) ∧ a.length ≤ 1000000008 - j ∧ Hid (a ++ beL n j = acc ++ beL n m) ∧ Hid (QG w0 r w o a wr))
  case atStart => exact ⟨m, acc, rfl, Nat.le_refl _, by go_num, by omega, rfl, HR⟩
  case round =>
    obtain ⟨_, a, rfl, hj, rfl, hla, HE, HQ⟩ := hrel
    cases gk with
    | zero =>
      have e1 : ((0 : Nat) : Int) - 1 = -1 := by omega
      rw [e1]
      have HA : Hid (a = acc ++ beL n m) := by have := HE.out; show _ = _; simpa [beL] using this
      go_wp2_with fail
      go_ret
      exact ⟨_, rfl, HQ.out.acc HA.out⟩
    | succ i =>
      have e1 : ((i + 1 : Nat) : Int) - 1 = (i : Int) := by omega
      rw [e1]
      obtain ⟨q, hq⟩ : ∃ q : Nat, q = 8 * i := ⟨_, rfl⟩
      have f1 : IntKind.i64.wrap (8 * (i : Int)) = (q : Int) := by rw [IntKind.wrap_i64]; omega
      have f2 : q ≤ 56 := by omega
      have f3 : ((byAt n i).toNat : Int) = n / 2 ^ q % 256 := by rw [byAt_toNat, hq, Int.pow_mul]; rfl
      have f4 : IntKind.u8.wrap (n / 2 ^ q) = ((byAt n i).toNat : Int) := by rw [IntKind.wrap_u8]; omega
      have Hq := hid hq
      clear hq f3
      have hbw : w0.heap.size ≤ wr.heap.size := Nat.le_trans hb HQ.out.grown.size
      have HB1 : Hid (Below wr.heap.size wr (wr.alloc (.cells #[.int .u8 ((byAt n i).toNat : Int)] 5))) := (Below.refl _ _).alloc (Nat.le_refl _) _
      have HI1 := hid (HQ.out.keep HB1.out)
      have HSb : Hid (Src Tryz.prog 1 63 (.slice (some ⟨wr.heap.size, 0, none⟩) 1 1) 1 (bytesV [byAt n i]) (wr.alloc (.cells #[.int .u8 ((byAt n i).toNat : Int)] 5))) := hid (srcE_built wr [byAt n i])
      go_wp2_with (at_builtin; refine wpList_append_src _ rfl (.tmp 14) (.tmp 20) 63 63 rfl w0.heap.size 5 iB _ 1 1 Tryz.underlying63 hiB zB0 zB1 zB2 rfl u0 a.length (bytesV a) rfl HI1.out.row (.slice (some ⟨wr.heap.size, 0, none⟩) 1 1) 1 (bytesV [byAt n i]) rfl HSb.out (by unfold maxLen; omega) (by omega) (Nat.le_trans hbw HB1.out.size) ?_; intro v' w6 hO6 hG6 hat6)
      have H6 := hid (HI1.out.grow (l := [byAt n i]) hO6 hG6 hat6)
      clear hO6 hG6 hat6 HI1 HSb HB1
      have HE2 : Hid ((a ++ [byAt n i]) ++ beL n i = acc ++ beL n m) := by have := HE.out; show _ = _; rw [← this]; simp [beL]
      go_wp2_with fail
      go_roundg i
      case rel => exact ⟨i, a ++ [byAt n i], rfl, by omega, by go_num, by simp only [List.length_append, List.length_cons, List.length_nil]; omega, HE2, H6⟩
      case measure => omega
end Go.Proofs.YtknakfpciccoaaaGreatDoor
