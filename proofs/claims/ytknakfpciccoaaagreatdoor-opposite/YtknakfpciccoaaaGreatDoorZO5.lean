import Derived.Test.YtknakfpciccoaaaGreatDoorZO4
import Derived.Test.YtknakfpciccoaaaGreatDoorZO1
import Derived.Lib.ValidLaws
import Derived.Lib.MapLaws
/- Bytes as values: what the program's reader and the reference's take them for. -/
namespace Go.Proofs.YtknakfpciccoaaaGreatDoor
open Go.RowKit

def pre (s : ByteArray) (n : Nat) : ByteArray := s.extract 0 n
def suf (s : ByteArray) (n : Nat) : ByteArray := s.extract n s.size
theorem pre_size {s : ByteArray} {n : Nat} (h : n ≤ s.size) : (pre s n).size = n := by simp [pre, ByteArray.size_extract]; omega
theorem suf_size (s : ByteArray) (n : Nat) : (suf s n).size = s.size - n := by simp [suf, ByteArray.size_extract]
def numL (l : List UInt8) : Nat := l.foldl (fun n c => n * 256 + c.toNat) 0
def numB (s : ByteArray) : Nat := numL s.data.toList
def numTo (s : ByteArray) (k : Nat) : Nat := numL (s.data.toList.take k)
theorem numL_lt : ∀ (l : List UInt8) (a : Nat), l.foldl (fun n c => n * 256 + c.toNat) a < (a + 1) * 256 ^ l.length
  | [], a => by simp
  | c :: l, a => by
    have h := numL_lt l (a * 256 + c.toNat)
    have hc := c.toNat_lt
    simp only [List.foldl_cons, List.length_cons]
    refine Nat.lt_of_lt_of_le h ?_
    rw [Nat.pow_succ, Nat.mul_comm (256 ^ l.length) 256, ← Nat.mul_assoc]
    exact Nat.mul_le_mul_right _ (by omega)
theorem numB_lt (s : ByteArray) : numB s < 256 ^ s.size := by
  have h := numL_lt s.data.toList 0
  have e : s.data.toList.length = s.size := rfl
  rw [e] at h
  simpa [numB, numL] using h
theorem numTo_lt (s : ByteArray) (k : Nat) : numTo s k < 256 ^ k := by
  have h := numL_lt (s.data.toList.take k) 0
  have hl : (s.data.toList.take k).length ≤ k := by rw [List.length_take]; omega
  have := Nat.pow_le_pow_right (show 0 < 256 by decide) hl
  simp only [Nat.zero_add, Nat.one_mul] at h
  unfold numTo numL
  omega
theorem numTo_zero (s : ByteArray) : numTo s 0 = 0 := rfl
theorem numTo_all (s : ByteArray) : numTo s s.size = numB s := by
  unfold numTo numB
  rw [List.take_of_length_le (l := s.data.toList) (i := s.size) (Nat.le_refl _)]
theorem numTo_succ (s : ByteArray) (k : Nat) (h : k < s.size) : numTo s (k + 1) = numTo s k * 256 + (s[k]'h).toNat := by
  have hl : k < s.data.toList.length := h
  unfold numTo numL
  rw [List.take_succ_eq_append_getElem hl, List.foldl_append]
  rfl

/-- Bytes whose number stands in so many bytes ahead of them, and the rest. -/
def szB (s : ByteArray) (b : Nat) : Option (ByteArray × ByteArray) :=
  if s.size < b then none else if (suf s b).size < numB (pre s b) then none else some (pre (suf s b) (numB (pre s b)), suf (suf s b) (numB (pre s b)))
theorem szB_size {s : ByteArray} {b : Nat} {x r : ByteArray} (h : szB s b = some (x, r)) : s.size = b + x.size + r.size ∧ x.size < 256 ^ b := by
  unfold szB at h
  split at h
  · cases h
  · split at h
    · cases h
    · rename_i h1 h2
      simp only [Option.some.injEq, Prod.mk.injEq] at h
      obtain ⟨rfl, rfl⟩ := h
      have hn := numB_lt (pre s b)
      rw [pre_size (by omega)] at hn
      rw [pre_size (by omega), suf_size, suf_size]
      rw [suf_size] at h2
      omega

/-- What is in a list or object: names and values. -/
def ents (f : ByteArray → Option (T × ByteArray)) (o : Bool) : Nat → ByteArray → Option (List ByteArray × List T)
  | 0, a => if a.size = 0 then some ([], []) else none
  | n + 1, a => if a.size = 0 then some ([], []) else
      (if o then szB a 2 else some (ByteArray.empty, a)).bind fun p => (f p.2).bind fun q => (ents f o n q.2).bind fun r => some (if o then p.1 :: r.1 else r.1, q.1 :: r.2)
def leafT (k n : Int) (s : ByteArray) : T := mkT k n s [] []
def stepD (c : Bool) (b : Option (ByteArray → Option (T × ByteArray))) (s : ByteArray) : Option (T × ByteArray) :=
  if s.size < 1 then none else
  if numB (pre s 1) = 1 then some (leafT 1 0 ByteArray.empty, suf s 1)
  else if numB (pre s 1) = 2 then (if (suf s 1).size < 1 then none else if c = true ∧ 2 ≤ numB (pre (suf s 1) 1) then none else some (leafT 2 (numB (pre (suf s 1) 1)) ByteArray.empty, suf (suf s 1) 1))
  else if numB (pre s 1) = 3 then (if (suf s 1).size < 8 then none else some (leafT 3 (IntKind.i64.wrap (numB (pre (suf s 1) 8))) ByteArray.empty, suf (suf s 1) 8))
  else if numB (pre s 1) = 4 then (szB (suf s 1) 4).bind fun p => some (leafT 4 0 p.1, p.2)
  else if numB (pre s 1) = 5 ∨ numB (pre s 1) = 6 then b.bind fun f => (szB (suf s 1) 4).bind fun p => (ents f (numB (pre s 1) == 6) p.1.size p.1).bind fun q => some (mkT (numB (pre s 1)) 0 ByteArray.empty q.2 q.1, p.2)
  else none
/-- The program's: so deep. -/
def decP : Nat → ByteArray → Option (T × ByteArray)
  | 0 => stepD false none
  | d + 1 => stepD false (some (decP d))
/-- The reference's: one less deep. -/
def decR : Nat → ByteArray → Option (T × ByteArray)
  | 0 => fun _ => none
  | m + 1 => stepD true (some (decR m))

theorem stepD_size {c : Bool} {b : Option (ByteArray → Option (T × ByteArray))} {s r : ByteArray} {t : T} (h : stepD c b s = some (t, r)) : r.size < s.size := by
  unfold stepD at h
  split at h
  · cases h
  · rename_i h0
    have h1 := suf_size s 1
    split at h
    · simp only [Option.some.injEq, Prod.mk.injEq] at h
      obtain ⟨_, rfl⟩ := h
      omega
    · split at h
      · split at h
        · cases h
        · split at h
          · cases h
          · simp only [Option.some.injEq, Prod.mk.injEq] at h
            obtain ⟨_, rfl⟩ := h
            have := suf_size (suf s 1) 1
            omega
      · split at h
        · split at h
          · cases h
          · simp only [Option.some.injEq, Prod.mk.injEq] at h
            obtain ⟨_, rfl⟩ := h
            have := suf_size (suf s 1) 8
            omega
        · split at h
          · cases hz : szB (suf s 1) 4 with
            | none => rw [hz] at h; cases h
            | some p =>
              rw [hz] at h
              simp only [Option.bind_some, Option.some.injEq, Prod.mk.injEq] at h
              obtain ⟨_, rfl⟩ := h
              have := szB_size (x := p.1) (r := p.2) hz
              omega
          · split at h
            · cases b with
              | none => cases h
              | some f =>
                cases hz : szB (suf s 1) 4 with
                | none => rw [hz] at h; cases h
                | some p =>
                  rw [hz] at h
                  simp only [Option.bind_some] at h
                  cases he : ents f (numB (pre s 1) == 6) p.1.size p.1 with
                  | none => rw [he] at h; cases h
                  | some q =>
                    rw [he] at h
                    simp only [Option.bind_some, Option.some.injEq, Prod.mk.injEq] at h
                    obtain ⟨_, rfl⟩ := h
                    have := szB_size (x := p.1) (r := p.2) hz
                    omega
            · cases h
theorem decP_size {d : Nat} {s r : ByteArray} {t : T} (h : decP d s = some (t, r)) : r.size < s.size := by
  cases d <;> exact stepD_size h
theorem decR_size {d : Nat} {s r : ByteArray} {t : T} (h : decR d s = some (t, r)) : r.size < s.size := by
  cases d with
  | zero => cases h
  | succ d => exact stepD_size h

theorem ents_mono {f g : ByteArray → Option (T × ByteArray)} {p : T → Prop} (h : ∀ s t r, f s = some (t, r) → p t → g s = some (t, r)) (o : Bool) : ∀ (n : Nat) (a : ByteArray) (ks : List ByteArray) (ls : List T), ents f o n a = some (ks, ls) → (∀ x ∈ ls, p x) → ents g o n a = some (ks, ls)
  | 0, a, ks, ls, he, _ => he
  | n + 1, a, ks, ls, he, hp => by
    unfold ents at he ⊢
    split at he
    · rename_i h0; rw [if_pos h0]; exact he
    · rename_i h0
      rw [if_neg h0]
      generalize (if o then szB a 2 else some (ByteArray.empty, a)) = k at he ⊢
      cases k with
      | none => exact he
      | some p1 =>
        simp only [Option.bind_some] at he ⊢
        cases hf : f p1.2 with
        | none => rw [hf] at he; cases he
        | some q =>
          rw [hf] at he
          simp only [Option.bind_some] at he
          cases hr : ents f o n q.2 with
          | none => rw [hr] at he; cases he
          | some r =>
            rw [hr] at he
            simp only [Option.bind_some, Option.some.injEq, Prod.mk.injEq] at he
            obtain ⟨rfl, rfl⟩ := he
            have hq := h p1.2 q.1 q.2 hf (hp _ (by simp))
            have hrr := ents_mono h o n q.2 r.1 r.2 hr (fun x hx => hp x (by simp [hx]))
            rw [hq]
            simp only [Option.bind_some]
            rw [hrr]
            rfl
theorem elt_mk (k n : Int) (s : ByteArray) (l : List T) (ks : List ByteArray) (i : Nat) : elt (mkT k n s l ks) i = l.getD i .nil := rfl
theorem nL_mk (k n : Int) (s : ByteArray) (l : List T) (ks : List ByteArray) : nL (mkT k n s l ks) = l.length := rfl
theorem nK_mk (k n : Int) (s : ByteArray) (l : List T) (ks : List ByteArray) : nK (mkT k n s l ks) = ks.length := by unfold nK; rw [kOf_mk]
theorem nam_mk (k n : Int) (s : ByteArray) (l : List T) (ks : List ByteArray) (i : Nat) : nam (mkT k n s l ks) i = ks.getD i ByteArray.empty := by unfold nam; rw [kOf_mk]
theorem good_mem {d : Nat} {k : Int} {l : List T} {ks : List ByteArray} (hk : k = 5 ∨ k = 6) (h : Good d (mkT k 0 ByteArray.empty l ks)) : ∃ d', d = d' + 1 ∧ ∀ x ∈ l, Good d' x := by
  cases d with
  | zero =>
    have h2 := leaf_not_box (t := mkT k 0 ByteArray.empty l ks) h
    rw [kindOf_mk] at h2
    omega
  | succ d =>
    refine ⟨d, rfl, fun x hx => ?_⟩
    rcases h with h | ⟨_, _, h, _⟩
    · have h2 := leaf_not_box h
      rw [kindOf_mk] at h2
      omega
    · obtain ⟨i, hi, rfl⟩ := List.getElem_of_mem hx
      have := h i hi
      rw [elt_mk] at this
      simpa [List.getD_eq_getElem?_getD, List.getElem?_eq_getElem hi] using this
theorem good_bool {d : Nat} {n : Nat} (h : Good d (leafT 2 n ByteArray.empty)) : n < 2 := by
  have h2 : leafGood (leafT 2 n ByteArray.empty) := by
    cases d with
    | zero => exact h
    | succ d =>
      rcases h with h | ⟨_, _, _, h⟩
      · exact h
      · unfold leafT at h
        rw [kindOf_mk] at h
        omega
  obtain ⟨_, _, h2⟩ := h2
  unfold leafT at h2
  rw [kindOf_mk, nOf_mk] at h2
  rcases h2 with h2 | h2 | h2 | h2 <;> omega

theorem step_move {c c' : Bool} {b b' : Option (ByteArray → Option (T × ByteArray))} {d : Nat} {s r : ByteArray} {t : T}
    (hb : ∀ d', d = d' + 1 → ∀ f, b = some f → ∃ g, b' = some g ∧ ∀ s t r, f s = some (t, r) → Good d' t → g s = some (t, r)) (h : stepD c b s = some (t, r)) (hg : Good d t) : stepD c' b' s = some (t, r) := by
  unfold stepD at h ⊢
  split at h
  · cases h
  · rename_i h0
    rw [if_neg h0]
    split at h
    · rename_i h1; rw [if_pos h1]; exact h
    · rename_i h1
      rw [if_neg h1]
      split at h
      · rename_i h2
        rw [if_pos h2]
        split at h
        · cases h
        · rename_i h3
          rw [if_neg h3]
          split at h
          · cases h
          · simp only [Option.some.injEq, Prod.mk.injEq] at h
            obtain ⟨rfl, rfl⟩ := h
            have := good_bool hg
            rw [if_neg (by omega)]
      · rename_i h2
        rw [if_neg h2]
        split at h
        · rename_i h3; rw [if_pos h3]; exact h
        · rename_i h3
          rw [if_neg h3]
          split at h
          · rename_i h4; rw [if_pos h4]; exact h
          · rename_i h4
            rw [if_neg h4]
            split at h
            · rename_i h5
              rw [if_pos h5]
              cases b with
              | none => cases h
              | some f =>
                simp only [Option.bind_some] at h
                cases hz : szB (suf s 1) 4 with
                | none => rw [hz] at h; cases h
                | some p =>
                  rw [hz] at h
                  simp only [Option.bind_some] at h
                  cases he : ents f (numB (pre s 1) == 6) p.1.size p.1 with
                  | none => rw [he] at h; cases h
                  | some q =>
                    rw [he] at h
                    simp only [Option.bind_some, Option.some.injEq, Prod.mk.injEq] at h
                    obtain ⟨rfl, rfl⟩ := h
                    obtain ⟨d', rfl, hm⟩ := good_mem (by omega) hg
                    obtain ⟨g, rfl, hfg⟩ := hb d' rfl f rfl
                    simp only [Option.bind_some]
                    rw [ents_mono hfg _ _ _ q.1 q.2 he hm]
                    rfl
            · cases h
theorem P_to_R : ∀ (d m : Nat) (s r : ByteArray) (t : T), d < m → decP d s = some (t, r) → Good d t → decR m s = some (t, r)
  | d, 0, s, r, t, hm, _, _ => by omega
  | 0, m + 1, s, r, t, hm, h, hg => step_move (b := none) (fun d' e => by omega) h hg
  | d + 1, m + 1, s, r, t, hm, h, hg => step_move (b := some (decP d)) (fun d' e f hf => by
      cases hf
      have : d' = d := by omega
      subst this
      exact ⟨_, rfl, fun s t r h hg => P_to_R d' m s r t (by omega) h hg⟩) h hg
theorem R_to_P : ∀ (d m : Nat) (s r : ByteArray) (t : T), decR m s = some (t, r) → Good d t → decP d s = some (t, r)
  | d, 0, s, r, t, h, _ => by cases h
  | 0, m + 1, s, r, t, h, hg => step_move (b := some (decR m)) (fun d' e => by omega) h hg
  | d + 1, m + 1, s, r, t, h, hg => step_move (b := some (decR m)) (fun d' e f hf => by
      cases hf
      have : d' = d := by omega
      subst this
      exact ⟨_, rfl, fun s t r h hg => R_to_P d' m s r t h hg⟩) h hg

/-- How many bytes were taken. -/
theorem sumL_list (g : T → Nat) (t : T) : ∀ k, k ≤ nL t → sumL g t k = (((lOf t).take k).map g).sum
  | 0, _ => by simp [sumL]
  | k + 1, h => by
    have hk : k < (lOf t).length := h
    rw [sumL, sumL_list g t k (by omega), List.take_succ_eq_append_getElem hk, List.map_append, List.sum_append]
    have e : elt t k = (lOf t)[k] := by simp [elt, List.getD_eq_getElem?_getD, hk]
    rw [e]
    rfl
theorem sumK_list (t : T) : ∀ k, k ≤ nK t → sumK t k = (((kOf t).take k).map fun s => 2 + s.size).sum
  | 0, _ => by simp [sumK]
  | k + 1, h => by
    have hk : k < (kOf t).length := h
    rw [sumK, sumK_list t k (by omega), List.take_succ_eq_append_getElem hk, List.map_append, List.sum_append]
    have e : nam t k = (kOf t)[k] := by simp [nam, List.getD_eq_getElem?_getD, hk]
    rw [e]
    rfl
theorem ents_bytes {f : ByteArray → Option (T × ByteArray)} {g : T → Nat} {p : T → Prop} (h : ∀ s t r, f s = some (t, r) → p t → s.size = g t + r.size) (o : Bool) : ∀ (n : Nat) (a : ByteArray) (ks : List ByteArray) (ls : List T), ents f o n a = some (ks, ls) → (∀ x ∈ ls, p x) → a.size = (ks.map fun s => 2 + s.size).sum + (ls.map g).sum
  | 0, a, ks, ls, he, _ => by
    unfold ents at he
    split at he
    · simp only [Option.some.injEq, Prod.mk.injEq] at he
      obtain ⟨rfl, rfl⟩ := he
      show a.size = 0
      assumption
    · cases he
  | n + 1, a, ks, ls, he, hp => by
    unfold ents at he
    split at he
    · simp only [Option.some.injEq, Prod.mk.injEq] at he
      obtain ⟨rfl, rfl⟩ := he
      show a.size = 0
      assumption
    · cases o with
      | false =>
        simp only [Bool.false_eq_true, if_false, Option.bind_some] at he
        cases hf : f a with
        | none => rw [hf] at he; cases he
        | some q =>
          rw [hf] at he
          simp only [Option.bind_some] at he
          cases hr : ents f false n q.2 with
          | none => rw [hr] at he; cases he
          | some r =>
            rw [hr] at he
            simp only [Option.bind_some, Option.some.injEq, Prod.mk.injEq] at he
            obtain ⟨rfl, rfl⟩ := he
            have h1 := h a q.1 q.2 hf (hp _ (by simp))
            have h2 := ents_bytes h false n q.2 r.1 r.2 hr (fun x hx => hp x (by simp [hx]))
            simp only [List.map_cons, List.sum_cons]
            omega
      | true =>
        simp only [if_true] at he
        cases hz : szB a 2 with
        | none => rw [hz] at he; cases he
        | some p1 =>
          rw [hz] at he
          simp only [Option.bind_some] at he
          cases hf : f p1.2 with
          | none => rw [hf] at he; cases he
          | some q =>
            rw [hf] at he
            simp only [Option.bind_some] at he
            cases hr : ents f true n q.2 with
            | none => rw [hr] at he; cases he
            | some r =>
              rw [hr] at he
              simp only [Option.bind_some, Option.some.injEq, Prod.mk.injEq] at he
              obtain ⟨rfl, rfl⟩ := he
              have h0 := szB_size (x := p1.1) (r := p1.2) hz
              have h1 := h p1.2 q.1 q.2 hf (hp _ (by simp))
              have h2 := ents_bytes h true n q.2 r.1 r.2 hr (fun x hx => hp x (by simp [hx]))
              simp only [List.map_cons, List.sum_cons]
              omega
theorem ents_noK {f : ByteArray → Option (T × ByteArray)} : ∀ (n : Nat) (a : ByteArray) (ks : List ByteArray) (ls : List T), ents f false n a = some (ks, ls) → ks = []
  | 0, a, ks, ls, he => by
    unfold ents at he
    split at he
    · simp only [Option.some.injEq, Prod.mk.injEq] at he
      exact he.1.symm
    · cases he
  | n + 1, a, ks, ls, he => by
    unfold ents at he
    split at he
    · simp only [Option.some.injEq, Prod.mk.injEq] at he
      exact he.1.symm
    · simp only [Bool.false_eq_true, if_false, Option.bind_some] at he
      cases hf : f a with
      | none => rw [hf] at he; cases he
      | some q =>
        rw [hf] at he
        simp only [Option.bind_some] at he
        cases hr : ents f false n q.2 with
        | none => rw [hr] at he; cases he
        | some r =>
          rw [hr] at he
          simp only [Option.bind_some, Option.some.injEq, Prod.mk.injEq] at he
          rw [← he.1]
          exact ents_noK n q.2 r.1 r.2 hr
end Go.Proofs.YtknakfpciccoaaaGreatDoor
/- Bytes as values: both answers are one. -/
namespace Go.Proofs.YtknakfpciccoaaaGreatDoor
open Go.RowKit

theorem bytes_leaf (d : Nat) (t : T) (h5 : kindOf t ≠ 5) (h6 : kindOf t ≠ 6) : bytesT d t = leafBytes t := by
  cases d with
  | zero => rfl
  | succ d => unfold bytesT; rw [if_neg h5, if_neg h6]
theorem bytes_box (d : Nat) (k : Int) (l : List T) (ks : List ByteArray) (hk : k = 5 ∨ k = 6) (h5 : k = 5 → ks = []) :
    bytesT (d + 1) (mkT k 0 ByteArray.empty l ks) = 5 + (ks.map fun s => 2 + s.size).sum + (l.map (bytesT d)).sum := by
  have e1 : sumL (bytesT d) (mkT k 0 ByteArray.empty l ks) (nL (mkT k 0 ByteArray.empty l ks)) = (l.map (bytesT d)).sum := by
    rw [sumL_list _ _ _ (Nat.le_refl _), lOf_mk, nL_mk, List.take_length]
  have e2 : sumK (mkT k 0 ByteArray.empty l ks) (nK (mkT k 0 ByteArray.empty l ks)) = (ks.map fun s => 2 + s.size).sum := by
    rw [sumK_list _ _ (Nat.le_refl _), kOf_mk, nK_mk, List.take_length]
  unfold bytesT
  rw [kindOf_mk]
  rcases hk with hk | hk
  · rw [if_pos hk, e1, h5 hk]
    simp
  · rw [if_neg (by omega), if_pos hk, e1, e2]
theorem step_bytes {c : Bool} {b : Option (ByteArray → Option (T × ByteArray))} {d : Nat} {s r : ByteArray} {t : T}
    (hb : ∀ d', d = d' + 1 → ∀ f, b = some f → ∀ s t r, f s = some (t, r) → Good d' t → s.size = bytesT d' t + r.size) (h : stepD c b s = some (t, r)) (hg : Good d t) : s.size = bytesT d t + r.size := by
  unfold stepD at h
  split at h
  · cases h
  · rename_i h0
    have s1 := suf_size s 1
    split at h
    · simp only [Option.some.injEq, Prod.mk.injEq] at h
      obtain ⟨rfl, rfl⟩ := h
      rw [bytes_leaf _ _ (by simp [leafT, kindOf_mk]) (by simp [leafT, kindOf_mk])]
      simp [leafBytes, leafT, kindOf_mk]
      omega
    · split at h
      · split at h
        · cases h
        · split at h
          · cases h
          · simp only [Option.some.injEq, Prod.mk.injEq] at h
            obtain ⟨rfl, rfl⟩ := h
            have s2 := suf_size (suf s 1) 1
            rw [bytes_leaf _ _ (by simp [leafT, kindOf_mk]) (by simp [leafT, kindOf_mk])]
            simp [leafBytes, leafT, kindOf_mk]
            omega
      · split at h
        · split at h
          · cases h
          · simp only [Option.some.injEq, Prod.mk.injEq] at h
            obtain ⟨rfl, rfl⟩ := h
            have s2 := suf_size (suf s 1) 8
            rw [bytes_leaf _ _ (by simp [leafT, kindOf_mk]) (by simp [leafT, kindOf_mk])]
            simp [leafBytes, leafT, kindOf_mk]
            omega
        · split at h
          · cases hz : szB (suf s 1) 4 with
            | none => rw [hz] at h; cases h
            | some p =>
              rw [hz] at h
              simp only [Option.bind_some, Option.some.injEq, Prod.mk.injEq] at h
              obtain ⟨rfl, rfl⟩ := h
              have := szB_size (x := p.1) (r := p.2) hz
              rw [bytes_leaf _ _ (by simp [leafT, kindOf_mk]) (by simp [leafT, kindOf_mk])]
              simp [leafBytes, leafT, kindOf_mk, sOf_mk]
              omega
          · split at h
            · rename_i hk
              cases b with
              | none => cases h
              | some f =>
                simp only [Option.bind_some] at h
                cases hz : szB (suf s 1) 4 with
                | none => rw [hz] at h; cases h
                | some p =>
                  rw [hz] at h
                  simp only [Option.bind_some] at h
                  cases he : ents f (numB (pre s 1) == 6) p.1.size p.1 with
                  | none => rw [he] at h; cases h
                  | some q =>
                    rw [he] at h
                    simp only [Option.bind_some, Option.some.injEq, Prod.mk.injEq] at h
                    obtain ⟨rfl, rfl⟩ := h
                    have hzz := szB_size (x := p.1) (r := p.2) hz
                    obtain ⟨d', rfl, hm⟩ := good_mem (by omega) hg
                    have hbb := ents_bytes (hb d' rfl f rfl) _ _ _ q.1 q.2 he hm
                    rw [bytes_box d' _ q.2 q.1 (by omega) (fun e => ?_)]
                    · omega
                    · have e6 : (numB (pre s 1) == 6) = false := by simp; omega
                      rw [e6] at he
                      exact ents_noK _ _ _ _ he
            · cases h
theorem P_bytes : ∀ (d : Nat) (s r : ByteArray) (t : T), decP d s = some (t, r) → Good d t → s.size = bytesT d t + r.size
  | 0, s, r, t, h, hg => step_bytes (b := none) (fun d' e => by omega) h hg
  | d + 1, s, r, t, h, hg => step_bytes (b := some (decP d)) (fun d' e f hf => by
      cases hf
      have : d' = d := by omega
      subst this
      exact fun s t r h hg => P_bytes d' s r t h hg) h hg

def okT (p : T × ByteArray) : Option T := if p.2.size = 0 ∧ (chkT 12 p.1 1048576).isSome = true then some p.1 else none
/-- What bytes are, as a value; nothing, if they are none. -/
def resT (s : ByteArray) : Option T := (decR 14 s).bind okT
theorem resT_P (s : ByteArray) : resT s = if 1048576 < s.size then none else (decP 12 s).bind okT := by
  have key : ∀ t, (if 1048576 < s.size then none else (decP 12 s).bind okT) = some t ↔ ∃ r, decP 12 s = some (t, r) ∧ r.size = 0 ∧ (chkT 12 t 1048576).isSome = true := by
    intro t
    constructor
    · intro h
      split at h
      · cases h
      · cases hd : decP 12 s with
        | none => rw [hd] at h; cases h
        | some p =>
          rw [hd] at h
          simp only [Option.bind_some, okT] at h
          split at h
          · rename_i hc
            simp only [Option.some.injEq] at h
            subst h
            exact ⟨p.2, rfl, hc.1, hc.2⟩
          · cases h
    · rintro ⟨r, hd, h1, h2⟩
      have hg := (isV_iff t).1 h2
      have hb := P_bytes 12 s r t hd hg.1
      rw [if_neg (by omega), hd]
      simp only [Option.bind_some, okT]
      rw [if_pos ⟨h1, h2⟩]
  have key2 : ∀ t, resT s = some t ↔ ∃ r, decR 14 s = some (t, r) ∧ r.size = 0 ∧ (chkT 12 t 1048576).isSome = true := by
    intro t
    unfold resT
    constructor
    · intro h
      cases hd : decR 14 s with
      | none => rw [hd] at h; cases h
      | some p =>
        rw [hd] at h
        simp only [Option.bind_some, okT] at h
        split at h
        · rename_i hc
          simp only [Option.some.injEq] at h
          subst h
          exact ⟨p.2, rfl, hc.1, hc.2⟩
        · cases h
    · rintro ⟨r, hd, h1, h2⟩
      rw [hd]
      simp only [Option.bind_some, okT]
      rw [if_pos ⟨h1, h2⟩]
  have both : ∀ t, resT s = some t ↔ (if 1048576 < s.size then none else (decP 12 s).bind okT) = some t := by
    intro t
    rw [key, key2]
    constructor
    · rintro ⟨r, hd, h1, h2⟩
      exact ⟨r, R_to_P 12 14 s r t hd ((isV_iff t).1 h2).1, h1, h2⟩
    · rintro ⟨r, hd, h1, h2⟩
      exact ⟨r, P_to_R 12 14 s r t (by omega) hd ((isV_iff t).1 h2).1, h1, h2⟩
  cases ha : resT s with
  | some t => exact ((both t).1 ha).symm
  | none =>
    cases hb : (if 1048576 < s.size then none else (decP 12 s).bind okT) with
    | none => rfl
    | some t => rw [(both t).2 hb] at ha; cases ha
theorem resT_good {s : ByteArray} {t : T} (h : resT s = some t) : Good 12 t ∧ (bytesT 12 t : Int) ≤ 1048576 := by
  unfold resT at h
  cases hd : decR 14 s with
  | none => rw [hd] at h; cases h
  | some p =>
    rw [hd] at h
    simp only [Option.bind_some, okT] at h
    split at h
    · rename_i hc
      simp only [Option.some.injEq] at h
      subst h
      exact (isV_iff _).1 hc.2
    · cases h
end Go.Proofs.YtknakfpciccoaaaGreatDoor
/- The rune at the front of a text: the reference's reading of it, and the decoder's. -/
namespace Go.Proofs.YtknakfpciccoaaaGreatDoor
open Go.RowKit

def bt (s : ByteArray) (i : Nat) : Nat := (s.get! i).toNat
theorem bt_lt (s : ByteArray) (i : Nat) : bt s i < 256 := (s.get! i).toNat_lt
/-- The bytes 1 to k go on. -/
def contTo (s : ByteArray) : Nat → Bool
  | 0 => true
  | k + 1 => contTo s k && (decide (128 ≤ bt s (k + 1)) && decide (bt s (k + 1) ≤ 191))
def runC (s : ByteArray) (c0 : Int) : Nat → Int
  | 0 => c0
  | k + 1 => 64 * runC s c0 k + (bt s (k + 1) : Int) - 128
theorem contTo_false {s : ByteArray} {j k : Nat} (h : j ≤ k) (hc : contTo s j = false) : contTo s k = false := by
  induction h with
  | refl => exact hc
  | step _ ih => simp [contTo, ih]
def badRune (least c : Int) : Bool := decide (c < least) || decide (1114111 < c) || (decide (55296 ≤ c) && decide (c < 57344))
/-- A lead byte's rest: how many bytes, or none. -/
def finN (s : ByteArray) (n : Nat) (least c0 : Int) : Nat :=
  if s.size < n then 0 else if contTo s (n - 1) = false then 0 else if badRune least (runC s c0 (n - 1)) = true then 0 else n
def utfN (s : ByteArray) : Nat :=
  if bt s 0 < 128 then 1 else if 192 ≤ bt s 0 ∧ bt s 0 < 224 then finN s 2 128 (bt s 0 - 192) else if 224 ≤ bt s 0 ∧ bt s 0 < 240 then finN s 3 2048 (bt s 0 - 224) else if 240 ≤ bt s 0 ∧ bt s 0 < 248 then finN s 4 65536 (bt s 0 - 240) else 0

theorem decodeL_eq (s : ByteArray) : Lib.decodeL s.data.toList = Utf8.decode s 0 := by
  unfold Lib.decodeL
  cases s with
  | mk d => rfl
/-- The reference's number of bytes is the decoder's, 0 where she yields the error of one byte. -/
theorem utfN_decode (s : ByteArray) : utfN s = if (Utf8.decode s 0).1 = 65533 ∧ (Utf8.decode s 0).2 = 1 then 0 else (Utf8.decode s 0).2 := by
  have l0 := bt_lt s 0
  have l1 := bt_lt s 1
  have l2 := bt_lt s 2
  have l3 := bt_lt s 3
  simp only [utfN, finN, contTo, runC, badRune, Utf8.decode, Utf8.runeError, Utf8.valid, Nat.zero_add]
  simp only [← bt.eq_def]
  generalize bt s 0 = a at *
  generalize bt s 1 = b at *
  generalize bt s 2 = c at *
  generalize bt s 3 = d at *
  generalize s.size = n at *
  by_cases h1 : a < 128
  · simp only [h1, if_true]
    rw [if_neg (by omega)]
  rw [if_neg h1, if_neg h1]
  by_cases h2 : 192 ≤ a ∧ a < 224
  · have e : (a / 32 == 6) = true := by simp; omega
    rw [if_pos h2]
    by_cases hc : 1 < n ∧ b / 64 = 2
    · have e1 : (decide (1 < n) && b / 64 == 2) = true := by simp; exact hc
      rw [e, e1]
      simp only [Bool.and_self, if_true]
      rw [if_neg (by omega), if_neg (by simp; omega)]
      by_cases hv : a % 32 * 64 + b % 64 ≥ 128
      · rw [if_pos hv, if_neg (by simp; omega)]
        simp
      · rw [if_neg hv, if_pos (by simp; omega)]
        simp
    · have e1 : (decide (1 < n) && b / 64 == 2) = false := by
        simp only [Bool.and_eq_false_iff, decide_eq_false_iff_not, beq_eq_false_iff_ne]; omega
      have e2 : (a / 16 == 14) = false := by simp; omega
      have e3 : (a / 8 == 30) = false := by simp; omega
      rw [e1, e2, e3]
      simp only [Bool.and_false, Bool.false_and, Bool.false_eq_true, if_false]
      by_cases hn : n < 2
      · simp [hn]
      · rw [if_neg hn, if_pos (by simp; omega)]
        simp
  rw [if_neg h2]
  have g2 : (a / 32 == 6) = false := by simp; omega
  rw [g2]
  simp only [Bool.false_and, Bool.false_eq_true, if_false]
  by_cases h3 : 224 ≤ a ∧ a < 240
  · have e : (a / 16 == 14) = true := by simp; omega
    rw [if_pos h3]
    by_cases hc : (1 < n ∧ b / 64 = 2) ∧ 2 < n ∧ c / 64 = 2
    · have e1 : (decide (1 < n) && b / 64 == 2) = true := by simp; exact hc.1
      have e2 : (decide (2 < n) && c / 64 == 2) = true := by simp; exact hc.2
      rw [e, e1, e2]
      simp only [Bool.and_self, if_true]
      rw [if_neg (by omega), if_neg (by simp; omega)]
      generalize hX : a % 16 * 4096 + b % 64 * 64 + c % 64 = X at *
      by_cases hv : 2048 ≤ X ∧ (X < 55296 ∨ 57344 ≤ X)
      · have hi : (decide (X ≥ 2048) && (decide ((0 : Int) ≤ X) && decide ((X : Int) < 55296) || decide ((57344 : Int) ≤ X) && decide ((X : Int) ≤ 1114111))) = true := by simp; omega
        rw [hi, if_neg (by simp; omega)]
        simp
      · have hi : (decide (X ≥ 2048) && (decide ((0 : Int) ≤ X) && decide ((X : Int) < 55296) || decide ((57344 : Int) ≤ X) && decide ((X : Int) ≤ 1114111))) = false := by
          simp only [Bool.and_eq_false_iff, Bool.or_eq_false_iff, decide_eq_false_iff_not]; omega
        rw [hi, if_pos (by simp; omega)]
        simp
    · have e1 : ((decide (1 < n) && b / 64 == 2) && (decide (2 < n) && c / 64 == 2)) = false := by
        simp only [Bool.and_eq_false_iff, decide_eq_false_iff_not, beq_eq_false_iff_ne]; omega
      have e3 : (a / 8 == 30) = false := by simp; omega
      rw [e, e3]
      simp only [Bool.true_and, Bool.false_and]
      rw [e1]
      simp only [Bool.false_eq_true, if_false]
      by_cases hn : n < 3
      · simp [hn]
      · rw [if_neg hn, if_pos (by simp; omega)]
        simp
  rw [if_neg h3]
  have g3 : (a / 16 == 14) = false := by simp; omega
  rw [g3]
  simp only [Bool.false_and, Bool.false_eq_true, if_false]
  by_cases h4 : 240 ≤ a ∧ a < 248
  · have e : (a / 8 == 30) = true := by simp; omega
    rw [if_pos h4]
    by_cases hc : (1 < n ∧ b / 64 = 2) ∧ (2 < n ∧ c / 64 = 2) ∧ 3 < n ∧ d / 64 = 2
    · have e1 : (decide (1 < n) && b / 64 == 2) = true := by simp; exact hc.1
      have e2 : (decide (2 < n) && c / 64 == 2) = true := by simp; exact hc.2.1
      have e3 : (decide (3 < n) && d / 64 == 2) = true := by simp; exact hc.2.2
      rw [e, e1, e2, e3]
      simp only [Bool.and_self, if_true]
      rw [if_neg (by omega), if_neg (by simp; omega)]
      generalize hX : a % 8 * 262144 + b % 64 * 4096 + c % 64 * 64 + d % 64 = X at *
      by_cases hv : 65536 ≤ X ∧ X ≤ 1114111
      · have hi : (decide (X ≥ 65536) && (decide ((0 : Int) ≤ X) && decide ((X : Int) < 55296) || decide ((57344 : Int) ≤ X) && decide ((X : Int) ≤ 1114111))) = true := by simp; omega
        rw [hi, if_neg (by simp; omega)]
        simp
      · have hi : (decide (X ≥ 65536) && (decide ((0 : Int) ≤ X) && decide ((X : Int) < 55296) || decide ((57344 : Int) ≤ X) && decide ((X : Int) ≤ 1114111))) = false := by
          simp only [Bool.and_eq_false_iff, Bool.or_eq_false_iff, decide_eq_false_iff_not]; omega
        rw [hi, if_pos (by simp; omega)]
        simp
    · have e1 : (((decide (1 < n) && b / 64 == 2) && (decide (2 < n) && c / 64 == 2)) && (decide (3 < n) && d / 64 == 2)) = false := by
        simp only [Bool.and_eq_false_iff, decide_eq_false_iff_not, beq_eq_false_iff_ne]; omega
      rw [e]
      simp only [Bool.true_and]
      rw [e1]
      simp only [Bool.false_eq_true, if_false]
      by_cases hn : n < 4
      · simp [hn]
      · rw [if_neg hn, if_pos (by simp; omega)]
        simp
  rw [if_neg h4]
  have g4 : (a / 8 == 30) = false := by simp; omega
  rw [g4]
  simp
end Go.Proofs.YtknakfpciccoaaaGreatDoor
/- Texts as values: what a text reads as. -/
namespace Go.Proofs.YtknakfpciccoaaaGreatDoor
open Go.RowKit

/-- The byte at a place; 256: none is there. -/
def cB (s : ByteArray) (i : Nat) : Nat := if i < s.size then bt s i else 256
theorem cB_in {s : ByteArray} {i : Nat} (h : cB s i < 256) : i < s.size := by
  unfold cB at h
  split at h
  · assumption
  · omega
theorem cB_bt {s : ByteArray} {i : Nat} (h : i < s.size) : cB s i = bt s i := by unfold cB; rw [if_pos h]
theorem cB_end {s : ByteArray} {i : Nat} (h : s.size ≤ i) : cB s i = 256 := by unfold cB; rw [if_neg (by omega)]
theorem cB_lt {s : ByteArray} {i : Nat} (h : i < s.size) : cB s i < 256 := by rw [cB_bt h]; exact bt_lt _ _
theorem cB_le (s : ByteArray) (i : Nat) : cB s i ≤ 256 := by
  unfold cB
  split
  · have := bt_lt s i; omega
  · omega

/-- Blanks are passed. -/
def blank (c : Nat) : Bool := c == 32 || c == 9 || c == 10 || c == 13
def passN (p : Nat → Bool) (s : ByteArray) : Nat → Nat → Nat
  | 0, i => i
  | n + 1, i => if p (cB s i) = true then passN p s n (i + 1) else i
def pass (p : Nat → Bool) (s : ByteArray) (i : Nat) : Nat := passN p s (s.size - i) i
theorem pass_step {p : Nat → Bool} (hp : p 256 = false) (s : ByteArray) (i : Nat) : pass p s i = if p (cB s i) = true then pass p s (i + 1) else i := by
  unfold pass
  by_cases h : i < s.size
  · have e : s.size - i = (s.size - (i + 1)) + 1 := by omega
    rw [e, passN]
  · have e : s.size - i = 0 := by omega
    rw [e, passN, cB_end (by omega), hp]
    rfl
theorem passN_ge (p : Nat → Bool) (s : ByteArray) : ∀ n i, i ≤ passN p s n i
  | 0, i => Nat.le_refl _
  | n + 1, i => by
    rw [passN]
    split
    · have := passN_ge p s n (i + 1); omega
    · exact Nat.le_refl _
theorem passN_le (p : Nat → Bool) (s : ByteArray) : ∀ n i, passN p s n i ≤ i + n
  | 0, i => by rw [passN]; omega
  | n + 1, i => by
    rw [passN]
    split
    · have := passN_le p s n (i + 1); omega
    · omega
theorem pass_ge (p : Nat → Bool) (s : ByteArray) (i : Nat) : i ≤ pass p s i := passN_ge p s _ i
theorem pass_le (p : Nat → Bool) {s : ByteArray} {i : Nat} (h : i ≤ s.size) : pass p s i ≤ s.size := by
  have := passN_le p s (s.size - i) i
  unfold pass
  omega
theorem pass_not {p : Nat → Bool} (hp : p 256 = false) (s : ByteArray) : ∀ (n i : Nat), s.size - i ≤ n → p (cB s (pass p s i)) = false
  | 0, i, h => by
    rw [pass_step hp]
    have : cB s i = 256 := cB_end (by omega)
    rw [this, hp]
    simp [this, hp]
  | n + 1, i, h => by
    rw [pass_step hp]
    by_cases hh : p (cB s i) = true
    · rw [if_pos hh]
      exact pass_not hp s n (i + 1) (by omega)
    · rw [if_neg hh]
      simpa using hh
theorem pass_idem {p : Nat → Bool} (hp : p 256 = false) (s : ByteArray) (i : Nat) : pass p s (pass p s i) = pass p s i := by
  rw [pass_step hp, pass_not hp s _ i (Nat.le_refl _)]
  rfl
theorem pass_all {p : Nat → Bool} (hp : p 256 = false) (s : ByteArray) : ∀ (n i j : Nat), s.size - i ≤ n → i ≤ j → j < pass p s i → p (cB s j) = true
  | 0, i, j, h, h1, h2 => by
    rw [pass_step hp, cB_end (by omega), hp] at h2
    simp at h2
    omega
  | n + 1, i, j, h, h1, h2 => by
    rw [pass_step hp] at h2
    by_cases hh : p (cB s i) = true
    · rw [if_pos hh] at h2
      by_cases e : i = j
      · subst e; exact hh
      · exact pass_all hp s n (i + 1) j (by omega) (by omega) h2
    · rw [if_neg hh] at h2
      omega
theorem blank_end : blank 256 = false := rfl
def sk (s : ByteArray) (i : Nat) : Nat := pass blank s i
theorem sk_step (s : ByteArray) (i : Nat) : sk s i = if blank (cB s i) = true then sk s (i + 1) else i := pass_step blank_end s i
theorem sk_ge (s : ByteArray) (i : Nat) : i ≤ sk s i := pass_ge _ s i
theorem sk_le {s : ByteArray} {i : Nat} (h : i ≤ s.size) : sk s i ≤ s.size := pass_le _ h
theorem sk_not (s : ByteArray) (i : Nat) : blank (cB s (sk s i)) = false := pass_not blank_end s _ i (Nat.le_refl _)
theorem sk_idem (s : ByteArray) (i : Nat) : sk s (sk s i) = sk s i := pass_idem blank_end s i

/-- Digits. -/
def isD (c : Nat) : Bool := decide (48 ≤ c) && decide (c ≤ 57)
theorem isD_end : isD 256 = false := rfl
def dg (s : ByteArray) (i : Nat) : Nat := pass isD s i
/-- What so many digits from a place on spell. -/
def dv (s : ByteArray) (d : Nat) : Nat → Nat
  | 0 => 0
  | k + 1 => dv s d k * 10 + (cB s (d + k) - 48)
theorem dv_mono (s : ByteArray) (d : Nat) : ∀ {k m : Nat}, k ≤ m → dv s d k ≤ dv s d m := by
  intro k m h
  induction h with
  | refl => exact Nat.le_refl _
  | step _ ih => rw [dv]; omega
def sgn (s : ByteArray) (i : Nat) : Nat := if cB s i = 45 then i + 1 else i
def numS (s : ByteArray) (i : Nat) : Option (Int × Nat) :=
  if dg s (sgn s i) = sgn s i then none
  else if sgn s i + 1 < dg s (sgn s i) ∧ cB s (sgn s i) = 48 then none
  else if cB s i = 45 then (if dv s (sgn s i) (dg s (sgn s i) - sgn s i) ≤ 9223372036854775808 then some (-(dv s (sgn s i) (dg s (sgn s i) - sgn s i) : Int), dg s (sgn s i)) else none)
  else (if dv s (sgn s i) (dg s (sgn s i) - sgn s i) < 9223372036854775808 then some ((dv s (sgn s i) (dg s (sgn s i) - sgn s i) : Int), dg s (sgn s i)) else none)

/-- A token stands at a place. -/
def pfx (s : ByteArray) (i : Nat) (t : ByteArray) : Bool := decide (i + t.size ≤ s.size) && decide (s.extract i (i + t.size) = t)

/-- Hexadecimal digits. -/
def hexV (c : Nat) : Option Nat := if isD c = true then some (c - 48) else if 97 ≤ c ∧ c ≤ 102 then some (c - 87) else if 65 ≤ c ∧ c ≤ 70 then some (c - 55) else none
theorem hexV_lt {c n : Nat} (h : hexV c = some n) : n < 16 ∧ c < 256 := by
  unfold hexV isD at h
  split at h
  · rename_i hh
    simp only [Option.some.injEq] at h
    simp at hh
    omega
  · split at h
    · simp only [Option.some.injEq] at h
      omega
    · split at h
      · simp only [Option.some.injEq] at h
        omega
      · cases h
def hexN (s : ByteArray) (i : Nat) : Nat → Option Nat
  | 0 => some 0
  | k + 1 => (hexN s i k).bind fun a => (hexV (cB s (i + k))).bind fun b => some (16 * a + b)
theorem hexN_lt {s : ByteArray} {i : Nat} : ∀ {k n : Nat}, hexN s i k = some n → n < 16 ^ k ∧ (0 < k → i + k ≤ s.size)
  | 0, n, h => by
    simp only [hexN, Option.some.injEq] at h
    subst h
    exact ⟨by simp, fun h => by omega⟩
  | k + 1, n, h => by
    rw [hexN] at h
    cases h1 : hexN s i k with
    | none => rw [h1] at h; cases h
    | some a =>
      rw [h1] at h
      simp only [Option.bind_some] at h
      cases h2 : hexV (cB s (i + k)) with
      | none => rw [h2] at h; cases h
      | some b =>
        rw [h2] at h
        simp only [Option.bind_some, Option.some.injEq] at h
        have h3 := hexN_lt h1
        have h4 := hexV_lt h2
        have h5 := cB_in h4.2
        refine ⟨?_, fun _ => by omega⟩
        rw [Nat.pow_succ]
        omega
def hex4 (s : ByteArray) (i : Nat) : Option Nat := hexN s i 4
theorem hexN_none {s : ByteArray} {i : Nat} : ∀ {k m : Nat}, k ≤ m → hexN s i k = none → hexN s i m = none := by
  intro k m h h0
  induction h with
  | refl => exact h0
  | step _ ih => rw [hexN, ih]; rfl

/-- What is behind a backslash: a rune, and where it ends. -/
def low (s : ByteArray) (i a : Nat) : Option (Nat × Nat) :=
  if a < 55296 ∨ 57343 < a then some (a, i)
  else if 56319 < a then none
  else if cB s i = 92 ∧ cB s (i + 1) = 117 then (hex4 s (i + 2)).bind fun b => if b < 56320 ∨ 57343 < b then none else some (65536 + 1024 * (a - 55296) + (b - 56320), i + 6)
  else none
def escR (s : ByteArray) (i : Nat) : Option (Nat × Nat) :=
  if cB s i = 34 ∨ cB s i = 92 ∨ cB s i = 47 then some (cB s i, i + 1)
  else if cB s i = 98 then some (8, i + 1)
  else if cB s i = 102 then some (12, i + 1)
  else if cB s i = 110 then some (10, i + 1)
  else if cB s i = 114 then some (13, i + 1)
  else if cB s i = 116 then some (9, i + 1)
  else if cB s i = 117 then (hex4 s (i + 1)).bind fun a => low s (i + 5) a
  else none
theorem low_adv {s : ByteArray} {i a r e : Nat} (ha : a < 65536) (hi : i ≤ s.size) (h : low s i a = some (r, e)) : i ≤ e ∧ e ≤ s.size ∧ r ≤ 1114111 := by
  unfold low at h
  split at h
  · simp only [Option.some.injEq, Prod.mk.injEq] at h
    omega
  · split at h
    · cases h
    · split at h
      · cases hh : hex4 s (i + 2) with
        | none => rw [hh] at h; cases h
        | some b =>
          rw [hh] at h
          simp only [Option.bind_some] at h
          have := hexN_lt hh
          split at h
          · cases h
          · simp only [Option.some.injEq, Prod.mk.injEq] at h
            omega
      · cases h
theorem escR_adv {s : ByteArray} {i r e : Nat} (h : escR s i = some (r, e)) : i < e ∧ e ≤ s.size ∧ r ≤ 1114111 := by
  have key : ∀ (c x : Nat), cB s i = c → c < 256 → some (x, i + 1) = some (r, e) → x < 256 → i < e ∧ e ≤ s.size ∧ r ≤ 1114111 := by
    intro c x h1 h2 h3 h4
    have := cB_in (h1 ▸ h2)
    simp only [Option.some.injEq, Prod.mk.injEq] at h3
    omega
  unfold escR at h
  split at h
  · rename_i hh
    exact key _ _ rfl (by omega) h (by omega)
  · split at h
    · rename_i hh; exact key _ _ hh (by omega) h (by omega)
    · split at h
      · rename_i hh; exact key _ _ hh (by omega) h (by omega)
      · split at h
        · rename_i hh; exact key _ _ hh (by omega) h (by omega)
        · split at h
          · rename_i hh; exact key _ _ hh (by omega) h (by omega)
          · split at h
            · rename_i hh; exact key _ _ hh (by omega) h (by omega)
            · split at h
              · cases hx : hex4 s (i + 1) with
                | none => rw [hx] at h; cases h
                | some a =>
                  rw [hx] at h
                  simp only [Option.bind_some] at h
                  have h1 := hexN_lt hx
                  have := low_adv (by omega) (by omega) h
                  omega
              · cases h

/-- A rune of a text: as it is, or escaped. -/
def decG (s : ByteArray) : Nat × Nat := if s.size = 0 then (65533, 0) else Utf8.decode s 0
def letS (s : ByteArray) (i : Nat) : Option (Nat × Nat) :=
  if cB s i = 92 then escR s (i + 1)
  else if (decG (suf s i)).1 < 32 ∨ ((decG (suf s i)).1 = 65533 ∧ (decG (suf s i)).2 ≤ 1) then none
  else some ((decG (suf s i)).1, i + (decG (suf s i)).2)
end Go.Proofs.YtknakfpciccoaaaGreatDoor
