/- Bytes as values: what the program's reader and the reference's take them for. -/
import Derived.Test.YtknakfpciccoaaaDoorM3
namespace Go.Proofs.YtknakfpciccoaaaDoor
open Go.RowKit

def pre (s : ByteArray) (n : Nat) : ByteArray := s.extract 0 n
def suf (s : ByteArray) (n : Nat) : ByteArray := s.extract n s.size
theorem pre_size {s : ByteArray} {n : Nat} (h : n ≤ s.size) : (pre s n).size = n := by simp [pre, ByteArray.size_extract]; omega
theorem suf_size (s : ByteArray) (n : Nat) : (suf s n).size = s.size - n := by simp [suf, ByteArray.size_extract]
def numL (l : List UInt8) : Nat := l.foldl (fun n c => n * 256 + c.toNat) 0
def numB (s : ByteArray) : Nat := numL s.data.toList
def numTo (s : ByteArray) (k : Nat) : Nat := numL (s.data.toList.take k)
theorem numL_lt : ∀ (l : List UInt8) (a : Nat), l.foldl (fun n c => n * 256 + c.toNat) a < (a + 1) * 256 ^ l.length
  | [], a => by simp
  | c :: l, a => by
    have h := numL_lt l (a * 256 + c.toNat)
    have hc := c.toNat_lt
    simp only [List.foldl_cons, List.length_cons]
    refine Nat.lt_of_lt_of_le h ?_
    rw [Nat.pow_succ, Nat.mul_comm (256 ^ l.length) 256, ← Nat.mul_assoc]
    exact Nat.mul_le_mul_right _ (by omega)
theorem numB_lt (s : ByteArray) : numB s < 256 ^ s.size := by
  have h := numL_lt s.data.toList 0
  have e : s.data.toList.length = s.size := rfl
  rw [e] at h
  simpa [numB, numL] using h
theorem numTo_lt (s : ByteArray) (k : Nat) : numTo s k < 256 ^ k := by
  have h := numL_lt (s.data.toList.take k) 0
  have hl : (s.data.toList.take k).length ≤ k := by rw [List.length_take]; omega
  have := Nat.pow_le_pow_right (show 0 < 256 by decide) hl
  simp only [Nat.zero_add, Nat.one_mul] at h
  unfold numTo numL
  omega
theorem numTo_zero (s : ByteArray) : numTo s 0 = 0 := rfl
theorem numTo_all (s : ByteArray) : numTo s s.size = numB s := by
  unfold numTo numB
  rw [List.take_of_length_le (l := s.data.toList) (i := s.size) (Nat.le_refl _)]
theorem numTo_succ (s : ByteArray) (k : Nat) (h : k < s.size) : numTo s (k + 1) = numTo s k * 256 + (s[k]'h).toNat := by
  have hl : k < s.data.toList.length := h
  unfold numTo numL
  rw [List.take_succ_eq_append_getElem hl, List.foldl_append]
  rfl

/-- Bytes whose number stands in so many bytes ahead of them, and the rest. -/
def szB (s : ByteArray) (b : Nat) : Option (ByteArray × ByteArray) :=
  if s.size < b then none else if (suf s b).size < numB (pre s b) then none else some (pre (suf s b) (numB (pre s b)), suf (suf s b) (numB (pre s b)))
theorem szB_size {s : ByteArray} {b : Nat} {x r : ByteArray} (h : szB s b = some (x, r)) : s.size = b + x.size + r.size ∧ x.size < 256 ^ b := by
  unfold szB at h
  split at h
  · cases h
  · split at h
    · cases h
    · rename_i h1 h2
      simp only [Option.some.injEq, Prod.mk.injEq] at h
      obtain ⟨rfl, rfl⟩ := h
      have hn := numB_lt (pre s b)
      rw [pre_size (by omega)] at hn
      rw [pre_size (by omega), suf_size, suf_size]
      rw [suf_size] at h2
      omega

/-- What is in a list or object: names and values. -/
def ents (f : ByteArray → Option (T × ByteArray)) (o : Bool) : Nat → ByteArray → Option (List ByteArray × List T)
  | 0, a => if a.size = 0 then some ([], []) else none
  | n + 1, a => if a.size = 0 then some ([], []) else
      (if o then szB a 2 else some (ByteArray.empty, a)).bind fun p => (f p.2).bind fun q => (ents f o n q.2).bind fun r => some (if o then p.1 :: r.1 else r.1, q.1 :: r.2)
def leafT (k n : Int) (s : ByteArray) : T := mkT k n s [] []
def stepD (c : Bool) (b : Option (ByteArray → Option (T × ByteArray))) (s : ByteArray) : Option (T × ByteArray) :=
  if s.size < 1 then none else
  if numB (pre s 1) = 1 then some (leafT 1 0 ByteArray.empty, suf s 1)
  else if numB (pre s 1) = 2 then (if (suf s 1).size < 1 then none else if c = true ∧ 2 ≤ numB (pre (suf s 1) 1) then none else some (leafT 2 (numB (pre (suf s 1) 1)) ByteArray.empty, suf (suf s 1) 1))
  else if numB (pre s 1) = 3 then (if (suf s 1).size < 8 then none else some (leafT 3 (IntKind.i64.wrap (numB (pre (suf s 1) 8))) ByteArray.empty, suf (suf s 1) 8))
  else if numB (pre s 1) = 4 then (szB (suf s 1) 4).bind fun p => some (leafT 4 0 p.1, p.2)
  else if numB (pre s 1) = 5 ∨ numB (pre s 1) = 6 then b.bind fun f => (szB (suf s 1) 4).bind fun p => (ents f (numB (pre s 1) == 6) p.1.size p.1).bind fun q => some (mkT (numB (pre s 1)) 0 ByteArray.empty q.2 q.1, p.2)
  else none
/-- The program's: so deep. -/
def decP : Nat → ByteArray → Option (T × ByteArray)
  | 0 => stepD false none
  | d + 1 => stepD false (some (decP d))
/-- The reference's: one less deep. -/
def decR : Nat → ByteArray → Option (T × ByteArray)
  | 0 => fun _ => none
  | m + 1 => stepD true (some (decR m))

theorem stepD_size {c : Bool} {b : Option (ByteArray → Option (T × ByteArray))} {s r : ByteArray} {t : T} (h : stepD c b s = some (t, r)) : r.size < s.size := by
  unfold stepD at h
  split at h
  · cases h
  · rename_i h0
    have h1 := suf_size s 1
    split at h
    · simp only [Option.some.injEq, Prod.mk.injEq] at h
      obtain ⟨_, rfl⟩ := h
      omega
    · split at h
      · split at h
        · cases h
        · split at h
          · cases h
          · simp only [Option.some.injEq, Prod.mk.injEq] at h
            obtain ⟨_, rfl⟩ := h
            have := suf_size (suf s 1) 1
            omega
      · split at h
        · split at h
          · cases h
          · simp only [Option.some.injEq, Prod.mk.injEq] at h
            obtain ⟨_, rfl⟩ := h
            have := suf_size (suf s 1) 8
            omega
        · split at h
          · cases hz : szB (suf s 1) 4 with
            | none => rw [hz] at h; cases h
            | some p =>
              rw [hz] at h
              simp only [Option.bind_some, Option.some.injEq, Prod.mk.injEq] at h
              obtain ⟨_, rfl⟩ := h
              have := szB_size (x := p.1) (r := p.2) hz
              omega
          · split at h
            · cases b with
              | none => cases h
              | some f =>
                cases hz : szB (suf s 1) 4 with
                | none => rw [hz] at h; cases h
                | some p =>
                  rw [hz] at h
                  simp only [Option.bind_some] at h
                  cases he : ents f (numB (pre s 1) == 6) p.1.size p.1 with
                  | none => rw [he] at h; cases h
                  | some q =>
                    rw [he] at h
                    simp only [Option.bind_some, Option.some.injEq, Prod.mk.injEq] at h
                    obtain ⟨_, rfl⟩ := h
                    have := szB_size (x := p.1) (r := p.2) hz
                    omega
            · cases h
theorem decP_size {d : Nat} {s r : ByteArray} {t : T} (h : decP d s = some (t, r)) : r.size < s.size := by
  cases d <;> exact stepD_size h
theorem decR_size {d : Nat} {s r : ByteArray} {t : T} (h : decR d s = some (t, r)) : r.size < s.size := by
  cases d with
  | zero => cases h
  | succ d => exact stepD_size h

theorem ents_mono {f g : ByteArray → Option (T × ByteArray)} {p : T → Prop} (h : ∀ s t r, f s = some (t, r) → p t → g s = some (t, r)) (o : Bool) : ∀ (n : Nat) (a : ByteArray) (ks : List ByteArray) (ls : List T), ents f o n a = some (ks, ls) → (∀ x ∈ ls, p x) → ents g o n a = some (ks, ls)
  | 0, a, ks, ls, he, _ => he
  | n + 1, a, ks, ls, he, hp => by
    unfold ents at he ⊢
    split at he
    · rename_i h0; rw [if_pos h0]; exact he
    · rename_i h0
      rw [if_neg h0]
      generalize (if o then szB a 2 else some (ByteArray.empty, a)) = k at he ⊢
      cases k with
      | none => exact he
      | some p1 =>
        simp only [Option.bind_some] at he ⊢
        cases hf : f p1.2 with
        | none => rw [hf] at he; cases he
        | some q =>
          rw [hf] at he
          simp only [Option.bind_some] at he
          cases hr : ents f o n q.2 with
          | none => rw [hr] at he; cases he
          | some r =>
            rw [hr] at he
            simp only [Option.bind_some, Option.some.injEq, Prod.mk.injEq] at he
            obtain ⟨rfl, rfl⟩ := he
            have hq := h p1.2 q.1 q.2 hf (hp _ (by simp))
            have hrr := ents_mono h o n q.2 r.1 r.2 hr (fun x hx => hp x (by simp [hx]))
            rw [hq]
            simp only [Option.bind_some]
            rw [hrr]
            rfl
theorem elt_mk (k n : Int) (s : ByteArray) (l : List T) (ks : List ByteArray) (i : Nat) : elt (mkT k n s l ks) i = l.getD i .nil := rfl
theorem nL_mk (k n : Int) (s : ByteArray) (l : List T) (ks : List ByteArray) : nL (mkT k n s l ks) = l.length := rfl
theorem nK_mk (k n : Int) (s : ByteArray) (l : List T) (ks : List ByteArray) : nK (mkT k n s l ks) = ks.length := by unfold nK; rw [kOf_mk]
theorem nam_mk (k n : Int) (s : ByteArray) (l : List T) (ks : List ByteArray) (i : Nat) : nam (mkT k n s l ks) i = ks.getD i ByteArray.empty := by unfold nam; rw [kOf_mk]
theorem good_mem {d : Nat} {k : Int} {l : List T} {ks : List ByteArray} (hk : k = 5 ∨ k = 6) (h : Good d (mkT k 0 ByteArray.empty l ks)) : ∃ d', d = d' + 1 ∧ ∀ x ∈ l, Good d' x := by
  cases d with
  | zero =>
    have h2 := leaf_not_box (t := mkT k 0 ByteArray.empty l ks) h
    rw [kindOf_mk] at h2
    omega
  | succ d =>
    refine ⟨d, rfl, fun x hx => ?_⟩
    rcases h with h | ⟨_, _, h, _⟩
    · have h2 := leaf_not_box h
      rw [kindOf_mk] at h2
      omega
    · obtain ⟨i, hi, rfl⟩ := List.getElem_of_mem hx
      have := h i hi
      rw [elt_mk] at this
      simpa [List.getD_eq_getElem?_getD, List.getElem?_eq_getElem hi] using this
theorem good_bool {d : Nat} {n : Nat} (h : Good d (leafT 2 n ByteArray.empty)) : n < 2 := by
  have h2 : leafGood (leafT 2 n ByteArray.empty) := by
    cases d with
    | zero => exact h
    | succ d =>
      rcases h with h | ⟨_, _, _, h⟩
      · exact h
      · unfold leafT at h
        rw [kindOf_mk] at h
        omega
  obtain ⟨_, _, h2⟩ := h2
  unfold leafT at h2
  rw [kindOf_mk, nOf_mk] at h2
  rcases h2 with h2 | h2 | h2 | h2 <;> omega

theorem step_move {c c' : Bool} {b b' : Option (ByteArray → Option (T × ByteArray))} {d : Nat} {s r : ByteArray} {t : T}
    (hb : ∀ d', d = d' + 1 → ∀ f, b = some f → ∃ g, b' = some g ∧ ∀ s t r, f s = some (t, r) → Good d' t → g s = some (t, r)) (h : stepD c b s = some (t, r)) (hg : Good d t) : stepD c' b' s = some (t, r) := by
  unfold stepD at h ⊢
  split at h
  · cases h
  · rename_i h0
    rw [if_neg h0]
    split at h
    · rename_i h1; rw [if_pos h1]; exact h
    · rename_i h1
      rw [if_neg h1]
      split at h
      · rename_i h2
        rw [if_pos h2]
        split at h
        · cases h
        · rename_i h3
          rw [if_neg h3]
          split at h
          · cases h
          · simp only [Option.some.injEq, Prod.mk.injEq] at h
            obtain ⟨rfl, rfl⟩ := h
            have := good_bool hg
            rw [if_neg (by omega)]
      · rename_i h2
        rw [if_neg h2]
        split at h
        · rename_i h3; rw [if_pos h3]; exact h
        · rename_i h3
          rw [if_neg h3]
          split at h
          · rename_i h4; rw [if_pos h4]; exact h
          · rename_i h4
            rw [if_neg h4]
            split at h
            · rename_i h5
              rw [if_pos h5]
              cases b with
              | none => cases h
              | some f =>
                simp only [Option.bind_some] at h
                cases hz : szB (suf s 1) 4 with
                | none => rw [hz] at h; cases h
                | some p =>
                  rw [hz] at h
                  simp only [Option.bind_some] at h
                  cases he : ents f (numB (pre s 1) == 6) p.1.size p.1 with
                  | none => rw [he] at h; cases h
                  | some q =>
                    rw [he] at h
                    simp only [Option.bind_some, Option.some.injEq, Prod.mk.injEq] at h
                    obtain ⟨rfl, rfl⟩ := h
                    obtain ⟨d', rfl, hm⟩ := good_mem (by omega) hg
                    obtain ⟨g, rfl, hfg⟩ := hb d' rfl f rfl
                    simp only [Option.bind_some]
                    rw [ents_mono hfg _ _ _ q.1 q.2 he hm]
                    rfl
            · cases h
theorem P_to_R : ∀ (d m : Nat) (s r : ByteArray) (t : T), d < m → decP d s = some (t, r) → Good d t → decR m s = some (t, r)
  | d, 0, s, r, t, hm, _, _ => by omega
  | 0, m + 1, s, r, t, hm, h, hg => step_move (b := none) (fun d' e => by omega) h hg
  | d + 1, m + 1, s, r, t, hm, h, hg => step_move (b := some (decP d)) (fun d' e f hf => by
      cases hf
      have : d' = d := by omega
      subst this
      exact ⟨_, rfl, fun s t r h hg => P_to_R d' m s r t (by omega) h hg⟩) h hg
theorem R_to_P : ∀ (d m : Nat) (s r : ByteArray) (t : T), decR m s = some (t, r) → Good d t → decP d s = some (t, r)
  | d, 0, s, r, t, h, _ => by cases h
  | 0, m + 1, s, r, t, h, hg => step_move (b := some (decR m)) (fun d' e => by omega) h hg
  | d + 1, m + 1, s, r, t, h, hg => step_move (b := some (decR m)) (fun d' e f hf => by
      cases hf
      have : d' = d := by omega
      subst this
      exact ⟨_, rfl, fun s t r h hg => R_to_P d' m s r t h hg⟩) h hg

/-- How many bytes were taken. -/
theorem sumL_list (g : T → Nat) (t : T) : ∀ k, k ≤ nL t → sumL g t k = (((lOf t).take k).map g).sum
  | 0, _ => by simp [sumL]
  | k + 1, h => by
    have hk : k < (lOf t).length := h
    rw [sumL, sumL_list g t k (by omega), List.take_succ_eq_append_getElem hk, List.map_append, List.sum_append]
    have e : elt t k = (lOf t)[k] := by simp [elt, List.getD_eq_getElem?_getD, hk]
    rw [e]
    rfl
theorem sumK_list (t : T) : ∀ k, k ≤ nK t → sumK t k = (((kOf t).take k).map fun s => 2 + s.size).sum
  | 0, _ => by simp [sumK]
  | k + 1, h => by
    have hk : k < (kOf t).length := h
    rw [sumK, sumK_list t k (by omega), List.take_succ_eq_append_getElem hk, List.map_append, List.sum_append]
    have e : nam t k = (kOf t)[k] := by simp [nam, List.getD_eq_getElem?_getD, hk]
    rw [e]
    rfl
theorem ents_bytes {f : ByteArray → Option (T × ByteArray)} {g : T → Nat} {p : T → Prop} (h : ∀ s t r, f s = some (t, r) → p t → s.size = g t + r.size) (o : Bool) : ∀ (n : Nat) (a : ByteArray) (ks : List ByteArray) (ls : List T), ents f o n a = some (ks, ls) → (∀ x ∈ ls, p x) → a.size = (ks.map fun s => 2 + s.size).sum + (ls.map g).sum
  | 0, a, ks, ls, he, _ => by
    unfold ents at he
    split at he
    · simp only [Option.some.injEq, Prod.mk.injEq] at he
      obtain ⟨rfl, rfl⟩ := he
      show a.size = 0
      assumption
    · cases he
  | n + 1, a, ks, ls, he, hp => by
    unfold ents at he
    split at he
    · simp only [Option.some.injEq, Prod.mk.injEq] at he
      obtain ⟨rfl, rfl⟩ := he
      show a.size = 0
      assumption
    · cases o with
      | false =>
        simp only [Bool.false_eq_true, if_false, Option.bind_some] at he
        cases hf : f a with
        | none => rw [hf] at he; cases he
        | some q =>
          rw [hf] at he
          simp only [Option.bind_some] at he
          cases hr : ents f false n q.2 with
          | none => rw [hr] at he; cases he
          | some r =>
            rw [hr] at he
            simp only [Option.bind_some, Option.some.injEq, Prod.mk.injEq] at he
            obtain ⟨rfl, rfl⟩ := he
            have h1 := h a q.1 q.2 hf (hp _ (by simp))
            have h2 := ents_bytes h false n q.2 r.1 r.2 hr (fun x hx => hp x (by simp [hx]))
            simp only [List.map_cons, List.sum_cons]
            omega
      | true =>
        simp only [if_true] at he
        cases hz : szB a 2 with
        | none => rw [hz] at he; cases he
        | some p1 =>
          rw [hz] at he
          simp only [Option.bind_some] at he
          cases hf : f p1.2 with
          | none => rw [hf] at he; cases he
          | some q =>
            rw [hf] at he
            simp only [Option.bind_some] at he
            cases hr : ents f true n q.2 with
            | none => rw [hr] at he; cases he
            | some r =>
              rw [hr] at he
              simp only [Option.bind_some, Option.some.injEq, Prod.mk.injEq] at he
              obtain ⟨rfl, rfl⟩ := he
              have h0 := szB_size (x := p1.1) (r := p1.2) hz
              have h1 := h p1.2 q.1 q.2 hf (hp _ (by simp))
              have h2 := ents_bytes h true n q.2 r.1 r.2 hr (fun x hx => hp x (by simp [hx]))
              simp only [List.map_cons, List.sum_cons]
              omega
theorem ents_noK {f : ByteArray → Option (T × ByteArray)} : ∀ (n : Nat) (a : ByteArray) (ks : List ByteArray) (ls : List T), ents f false n a = some (ks, ls) → ks = []
  | 0, a, ks, ls, he => by
    unfold ents at he
    split at he
    · simp only [Option.some.injEq, Prod.mk.injEq] at he
      exact he.1.symm
    · cases he
  | n + 1, a, ks, ls, he => by
    unfold ents at he
    split at he
    · simp only [Option.some.injEq, Prod.mk.injEq] at he
      exact he.1.symm
    · simp only [Bool.false_eq_true, if_false, Option.bind_some] at he
      cases hf : f a with
      | none => rw [hf] at he; cases he
      | some q =>
        rw [hf] at he
        simp only [Option.bind_some] at he
        cases hr : ents f false n q.2 with
        | none => rw [hr] at he; cases he
        | some r =>
          rw [hr] at he
          simp only [Option.bind_some, Option.some.injEq, Prod.mk.injEq] at he
          rw [← he.1]
          exact ents_noK n q.2 r.1 r.2 hr
end Go.Proofs.YtknakfpciccoaaaDoor
/- Bytes as values: both answers are one. -/
namespace Go.Proofs.YtknakfpciccoaaaDoor
open Go.RowKit

theorem bytes_leaf (d : Nat) (t : T) (h5 : kindOf t ≠ 5) (h6 : kindOf t ≠ 6) : bytesT d t = leafBytes t := by
  cases d with
  | zero => rfl
  | succ d => unfold bytesT; rw [if_neg h5, if_neg h6]
theorem bytes_box (d : Nat) (k : Int) (l : List T) (ks : List ByteArray) (hk : k = 5 ∨ k = 6) (h5 : k = 5 → ks = []) :
    bytesT (d + 1) (mkT k 0 ByteArray.empty l ks) = 5 + (ks.map fun s => 2 + s.size).sum + (l.map (bytesT d)).sum := by
  have e1 : sumL (bytesT d) (mkT k 0 ByteArray.empty l ks) (nL (mkT k 0 ByteArray.empty l ks)) = (l.map (bytesT d)).sum := by
    rw [sumL_list _ _ _ (Nat.le_refl _), lOf_mk, nL_mk, List.take_length]
  have e2 : sumK (mkT k 0 ByteArray.empty l ks) (nK (mkT k 0 ByteArray.empty l ks)) = (ks.map fun s => 2 + s.size).sum := by
    rw [sumK_list _ _ (Nat.le_refl _), kOf_mk, nK_mk, List.take_length]
  unfold bytesT
  rw [kindOf_mk]
  rcases hk with hk | hk
  · rw [if_pos hk, e1, h5 hk]
    simp
  · rw [if_neg (by omega), if_pos hk, e1, e2]
theorem step_bytes {c : Bool} {b : Option (ByteArray → Option (T × ByteArray))} {d : Nat} {s r : ByteArray} {t : T}
    (hb : ∀ d', d = d' + 1 → ∀ f, b = some f → ∀ s t r, f s = some (t, r) → Good d' t → s.size = bytesT d' t + r.size) (h : stepD c b s = some (t, r)) (hg : Good d t) : s.size = bytesT d t + r.size := by
  unfold stepD at h
  split at h
  · cases h
  · rename_i h0
    have s1 := suf_size s 1
    split at h
    · simp only [Option.some.injEq, Prod.mk.injEq] at h
      obtain ⟨rfl, rfl⟩ := h
      rw [bytes_leaf _ _ (by simp [leafT, kindOf_mk]) (by simp [leafT, kindOf_mk])]
      simp [leafBytes, leafT, kindOf_mk]
      omega
    · split at h
      · split at h
        · cases h
        · split at h
          · cases h
          · simp only [Option.some.injEq, Prod.mk.injEq] at h
            obtain ⟨rfl, rfl⟩ := h
            have s2 := suf_size (suf s 1) 1
            rw [bytes_leaf _ _ (by simp [leafT, kindOf_mk]) (by simp [leafT, kindOf_mk])]
            simp [leafBytes, leafT, kindOf_mk]
            omega
      · split at h
        · split at h
          · cases h
          · simp only [Option.some.injEq, Prod.mk.injEq] at h
            obtain ⟨rfl, rfl⟩ := h
            have s2 := suf_size (suf s 1) 8
            rw [bytes_leaf _ _ (by simp [leafT, kindOf_mk]) (by simp [leafT, kindOf_mk])]
            simp [leafBytes, leafT, kindOf_mk]
            omega
        · split at h
          · cases hz : szB (suf s 1) 4 with
            | none => rw [hz] at h; cases h
            | some p =>
              rw [hz] at h
              simp only [Option.bind_some, Option.some.injEq, Prod.mk.injEq] at h
              obtain ⟨rfl, rfl⟩ := h
              have := szB_size (x := p.1) (r := p.2) hz
              rw [bytes_leaf _ _ (by simp [leafT, kindOf_mk]) (by simp [leafT, kindOf_mk])]
              simp [leafBytes, leafT, kindOf_mk, sOf_mk]
              omega
          · split at h
            · rename_i hk
              cases b with
              | none => cases h
              | some f =>
                simp only [Option.bind_some] at h
                cases hz : szB (suf s 1) 4 with
                | none => rw [hz] at h; cases h
                | some p =>
                  rw [hz] at h
                  simp only [Option.bind_some] at h
                  cases he : ents f (numB (pre s 1) == 6) p.1.size p.1 with
                  | none => rw [he] at h; cases h
                  | some q =>
                    rw [he] at h
                    simp only [Option.bind_some, Option.some.injEq, Prod.mk.injEq] at h
                    obtain ⟨rfl, rfl⟩ := h
                    have hzz := szB_size (x := p.1) (r := p.2) hz
                    obtain ⟨d', rfl, hm⟩ := good_mem (by omega) hg
                    have hbb := ents_bytes (hb d' rfl f rfl) _ _ _ q.1 q.2 he hm
                    rw [bytes_box d' _ q.2 q.1 (by omega) (fun e => ?_)]
                    · omega
                    · have e6 : (numB (pre s 1) == 6) = false := by simp; omega
                      rw [e6] at he
                      exact ents_noK _ _ _ _ he
            · cases h
theorem P_bytes : ∀ (d : Nat) (s r : ByteArray) (t : T), decP d s = some (t, r) → Good d t → s.size = bytesT d t + r.size
  | 0, s, r, t, h, hg => step_bytes (b := none) (fun d' e => by omega) h hg
  | d + 1, s, r, t, h, hg => step_bytes (b := some (decP d)) (fun d' e f hf => by
      cases hf
      have : d' = d := by omega
      subst this
      exact fun s t r h hg => P_bytes d' s r t h hg) h hg

def okT (p : T × ByteArray) : Option T := if p.2.size = 0 ∧ (chkT 12 p.1 1048576).isSome = true then some p.1 else none
/-- What bytes are, as a value; nothing, if they are none. -/
def resT (s : ByteArray) : Option T := (decR 14 s).bind okT
theorem resT_P (s : ByteArray) : resT s = if 1048576 < s.size then none else (decP 12 s).bind okT := by
  have key : ∀ t, (if 1048576 < s.size then none else (decP 12 s).bind okT) = some t ↔ ∃ r, decP 12 s = some (t, r) ∧ r.size = 0 ∧ (chkT 12 t 1048576).isSome = true := by
    intro t
    constructor
    · intro h
      split at h
      · cases h
      · cases hd : decP 12 s with
        | none => rw [hd] at h; cases h
        | some p =>
          rw [hd] at h
          simp only [Option.bind_some, okT] at h
          split at h
          · rename_i hc
            simp only [Option.some.injEq] at h
            subst h
            exact ⟨p.2, rfl, hc.1, hc.2⟩
          · cases h
    · rintro ⟨r, hd, h1, h2⟩
      have hg := (isV_iff t).1 h2
      have hb := P_bytes 12 s r t hd hg.1
      rw [if_neg (by omega), hd]
      simp only [Option.bind_some, okT]
      rw [if_pos ⟨h1, h2⟩]
  have key2 : ∀ t, resT s = some t ↔ ∃ r, decR 14 s = some (t, r) ∧ r.size = 0 ∧ (chkT 12 t 1048576).isSome = true := by
    intro t
    unfold resT
    constructor
    · intro h
      cases hd : decR 14 s with
      | none => rw [hd] at h; cases h
      | some p =>
        rw [hd] at h
        simp only [Option.bind_some, okT] at h
        split at h
        · rename_i hc
          simp only [Option.some.injEq] at h
          subst h
          exact ⟨p.2, rfl, hc.1, hc.2⟩
        · cases h
    · rintro ⟨r, hd, h1, h2⟩
      rw [hd]
      simp only [Option.bind_some, okT]
      rw [if_pos ⟨h1, h2⟩]
  have both : ∀ t, resT s = some t ↔ (if 1048576 < s.size then none else (decP 12 s).bind okT) = some t := by
    intro t
    rw [key, key2]
    constructor
    · rintro ⟨r, hd, h1, h2⟩
      exact ⟨r, R_to_P 12 14 s r t hd ((isV_iff t).1 h2).1, h1, h2⟩
    · rintro ⟨r, hd, h1, h2⟩
      exact ⟨r, P_to_R 12 14 s r t (by omega) hd ((isV_iff t).1 h2).1, h1, h2⟩
  cases ha : resT s with
  | some t => exact ((both t).1 ha).symm
  | none =>
    cases hb : (if 1048576 < s.size then none else (decP 12 s).bind okT) with
    | none => rfl
    | some t => rw [(both t).2 hb] at ha; cases ha
theorem resT_good {s : ByteArray} {t : T} (h : resT s = some t) : Good 12 t ∧ (bytesT 12 t : Int) ≤ 1048576 := by
  unfold resT at h
  cases hd : decR 14 s with
  | none => rw [hd] at h; cases h
  | some p =>
    rw [hd] at h
    simp only [Option.bind_some, okT] at h
    split at h
    · rename_i hc
      simp only [Option.some.injEq] at h
      subst h
      exact (isV_iff _).1 hc.2
    · cases h
end Go.Proofs.YtknakfpciccoaaaDoor
