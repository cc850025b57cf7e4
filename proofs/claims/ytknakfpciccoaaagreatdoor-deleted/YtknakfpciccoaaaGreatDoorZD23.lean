import Derived.Test.YtknakfpciccoaaaGreatDoorZD22
import Derived.Test.YtknakfpciccoaaaGreatDoorZD21
import Derived.Test.YtknakfpciccoaaaGreatDoorZD12
import Derived.Test.YtknakfpciccoaaaGreatDoorZD6
import Derived.Lib.QuoteLoop
/- Texts and values, pure: what was written is read as it was: lists and objects. -/
namespace Go.Proofs.YtknakfpciccoaaaGreatDoor
open Go.RowKit

/-- An entry, with its name; entries from one on. -/
def entE (g : T → List UInt8) (t : T) (o : Bool) (k : Nat) : List UInt8 := (if o = true then quoL (nam t k) ++ [58] else []) ++ g (elt t k)
def jn (g : T → List UInt8) (t : T) (o : Bool) : Nat → List UInt8
  | 0 => []
  | k + 1 => jn g t o k ++ ((if k = 0 then [] else [44]) ++ entE g t o k)
def rl (g : T → List UInt8) (t : T) (o : Bool) : Nat → Nat → List UInt8
  | _, 0 => []
  | k, j + 1 => entE g t o k ++ (if j = 0 then [] else 44 :: rl g t o (k + 1) j)
theorem jn_list (g : T → List UInt8) (t : T) : ∀ k, joinL g t k = jn g t false k
  | 0 => rfl
  | k + 1 => by rw [joinL, jn, jn_list g t k]; rfl
theorem jn_obj (g : T → List UInt8) (t : T) : ∀ k, joinO g t k = jn g t true k
  | 0 => rfl
  | k + 1 => by rw [joinO, jn, jn_obj g t k, entE, if_pos rfl]; simp
theorem jn_rl (g : T → List UInt8) (t : T) (o : Bool) : ∀ j k, jn g t o k ++ ((if k = 0 ∨ j = 0 then [] else [44]) ++ rl g t o k j) = jn g t o (k + j)
  | 0, k => by simp [rl]
  | j + 1, k => by
    have ih := jn_rl g t o j (k + 1)
    rw [show k + (j + 1) = k + 1 + j by omega, ← ih, jn, rl]
    by_cases hk : k = 0
    · by_cases hj : j = 0
      · subst hj; simp [hk, rl]
      · simp [hk, hj]
    · by_cases hj : j = 0
      · subst hj; simp [hk, rl]
      · simp [hk, hj]
theorem rl_all (g : T → List UInt8) (t : T) (o : Bool) (n : Nat) : rl g t o 0 n = jn g t o n := by
  have := jn_rl g t o n 0
  simpa [jn] using this
theorem sk_id {s : ByteArray} {i : Nat} (h : blank (cB s i) = false) : sk s i = i := by rw [sk_step, h]; rfl
theorem std_pfx {s : ByteArray} {i : Nat} {x : ByteArray} (h : Std s i x.data.toList) (h0 : x.data.toList ≠ []) : pfx s i x = true := by
  have hle := h.le h0
  have hx : x.data.toList.length = x.size := rfl
  rw [hx] at hle
  unfold pfx
  rw [decide_eq_true hle]
  have e : s.extract i (i + x.size) = x := by
    apply ba_extT
    rw [cut_list]
    exact h.take
  rw [e]
  simp
theorem pfx_not {s : ByteArray} {i : Nat} {x : ByteArray} {c : UInt8} {r : List UInt8} (hx : x.data.toList = c :: r) (h : cB s i ≠ c.toNat) : pfx s i x = false := by
  cases hp : pfx s i x with
  | false => rfl
  | true => exact absurd (pfx_head hx hp) h
def EndsD (s : ByteArray) (i : Nat) : Prop := isD (cB s i) = false
theorem bare_leaf {F : Nat → Option (T × Nat)} {s : ByteArray} {i : Nat} {t : T} (hg : leafGood t) (hf : Fits t) (h : Std s i (leafW t)) (he : EndsD s (i + (leafW t).length)) : bareV F s i = some (leafT (kindOf t) (nOf t) (sOf t), i + (leafW t).length) ∧ blank (cB s i) = false := by
  obtain ⟨_, _, hg⟩ := hg
  rcases hg with ⟨hk, hn, ht⟩ | ⟨hk, hn, ht⟩ | ⟨hk, ht⟩ | ⟨hk, hn, hz, hok⟩
  · have e : leafW t = [110, 117, 108, 108] := by unfold leafW; rw [if_pos hk]
    rw [e] at h ⊢
    have c0 : cB s i = 110 := (Std.head h).1
    have hp := std_pfx (x := wNull) h (by decide)
    refine ⟨?_, by rw [c0]; rfl⟩
    unfold bareV
    rw [c0, if_neg (by omega), if_neg (by omega), if_neg (by omega), if_neg (by decide), if_pos hp, hk, hn, noText_eq ht]
    rfl
  · rcases hn with hn | hn
    · have e : leafW t = [102, 97, 108, 115, 101] := by unfold leafW; rw [if_neg (by omega), if_pos hk, if_neg (by omega)]
      rw [e] at h ⊢
      have c0 : cB s i = 102 := (Std.head h).1
      have hp := std_pfx (x := wFalse) h (by decide)
      have h1 := pfx_not (s := s) (i := i) (x := wNull) (c := 110) (r := [117, 108, 108]) rfl (by rw [c0]; decide)
      have h2 := pfx_not (s := s) (i := i) (x := wTrue) (c := 116) (r := [114, 117, 101]) rfl (by rw [c0]; decide)
      refine ⟨?_, by rw [c0]; rfl⟩
      unfold bareV
      rw [c0, if_neg (by omega), if_neg (by omega), if_neg (by omega), if_neg (by decide), h1, h2, hp, hk, hn, noText_eq ht]
      rfl
    · have e : leafW t = [116, 114, 117, 101] := by unfold leafW; rw [if_neg (by omega), if_pos hk, if_pos hn]
      rw [e] at h ⊢
      have c0 : cB s i = 116 := (Std.head h).1
      have hp := std_pfx (x := wTrue) h (by decide)
      have h1 := pfx_not (s := s) (i := i) (x := wNull) (c := 110) (r := [117, 108, 108]) rfl (by rw [c0]; decide)
      refine ⟨?_, by rw [c0]; rfl⟩
      unfold bareV
      rw [c0, if_neg (by omega), if_neg (by omega), if_neg (by omega), if_neg (by decide), h1, hp, hk, hn, noText_eq ht]
      rfl
  · have e : leafW t = Lib.itoa (nOf t) := by unfold leafW; rw [if_neg (by omega), if_neg (by omega), if_pos hk]
    rw [e] at h he ⊢
    obtain ⟨h1, h2⟩ := num_itoa hf.n0 hf.n1 h he
    have hc : cB s i = 45 ∨ (48 ≤ cB s i ∧ cB s i ≤ 57) := by
      rcases h2 with h2 | h2
      · exact .inl h2
      · unfold isD at h2; simp at h2; exact .inr h2
    refine ⟨?_, by unfold blank; simp; omega⟩
    unfold bareV
    rw [if_neg (by omega), if_neg (by omega), if_neg (by omega), if_pos h2, h1, hk, noText_eq ht]
    rfl
  · have e : leafW t = quoL (sOf t) := by unfold leafW; rw [if_neg (by omega), if_neg (by omega), if_neg (by omega), if_pos hk]
    rw [e] at h ⊢
    have c0 : cB s i = 34 := (Std.head (c := 34) h).1
    refine ⟨?_, by rw [c0]; rfl⟩
    unfold bareV
    rw [if_pos c0, txt_quo hok h, hk, hn]
    rfl
theorem key_at {s : ByteArray} {o : Bool} {i : Nat} {t : T} {k : Nat} {g : T → List UInt8} (hok : o = true → okS (nam t k) = true) (h : Std s i (entE g t o k)) : keyS s o i = some (if o = true then nam t k else ByteArray.empty, i + (if o = true then quoL (nam t k) ++ [58] else []).length) ∧ Std s (i + (if o = true then quoL (nam t k) ++ [58] else []).length) (g (elt t k)) := by
  unfold entE at h
  obtain ⟨h1, h2⟩ := h.app
  refine ⟨?_, h2⟩
  unfold keyS
  cases o with
  | false => simp
  | true =>
    simp only [if_true] at h1 ⊢
    obtain ⟨h3, h4⟩ := h1.app
    have c0 : cB s i = 34 := (Std.head (c := 34) h3).1
    have c1 : cB s (i + (quoL (nam t k)).length) = 58 := (Std.head (c := 58) h4).1
    rw [sk_id (i := i) (by rw [c0]; rfl), txt_quo (hok rfl) h3]
    simp only [Option.bind_some]
    rw [sk_id (i := i + (quoL (nam t k)).length) (by rw [c1]; rfl), if_pos c1, List.length_append]
    rfl
theorem it_rl {f : Nat → Option (T × Nat)} {s : ByteArray} {o : Bool} {t : T} {g : T → List UInt8} {c : T → T} (cc : UInt8) (hcc : cc.toNat = cl o)
    (hf : ∀ k, k < nL t → ∀ p, Std s p (g (elt t k)) → EndsD s (p + (g (elt t k)).length) → f p = some (c (elt t k), p + (g (elt t k)).length))
    (h6 : o = true → nK t = nL t ∧ ∀ k, k < nL t → okS (nam t k) = true) :
    ∀ j k m i, k + (j + 1) = nL t → Std s i (rl g t o k (j + 1) ++ [cc]) → j < m → itm f s o m i = some ((if o = true then (kOf t).drop k else [], ((lOf t).drop k).map c), i + (rl g t o k (j + 1)).length + 1) := by
  have hco : cl o = 93 ∨ cl o = 125 := by cases o <;> simp [cl]
  intro j
  induction j with
  | zero =>
    intro k m i hk h hm
    obtain ⟨m, rfl⟩ : ∃ x, m = x + 1 := ⟨m - 1, by omega⟩
    have e : rl g t o k (0 + 1) = entE g t o k := by simp [rl]
    rw [e] at h ⊢
    obtain ⟨h1, h2⟩ := h.app
    have cE : cB s (i + (entE g t o k).length) = cl o := by rw [(Std.head h2).1]; exact hcc
    obtain ⟨hkey, h3⟩ := key_at (fun ho => (h6 ho).2 k (by omega)) h1
    have hl : (entE g t o k).length = (if o = true then quoL (nam t k) ++ [58] else []).length + (g (elt t k)).length := by unfold entE; rw [List.length_append]
    have hfk := hf k (by omega) _ h3 (by unfold EndsD; rw [Nat.add_assoc, ← hl, cE]; rcases hco with hco | hco <;> rw [hco] <;> rfl)
    rw [Nat.add_assoc, ← hl] at hfk
    rw [itm, hkey]
    simp only [Option.bind_some]
    rw [hfk]
    simp only [Option.bind_some]
    rw [sk_id (i := i + (entE g t o k).length) (by rw [cE]; rcases hco with hco | hco <;> rw [hco] <;> rfl), cE, if_neg (by omega), if_pos rfl]
    have eL : (lOf t).drop k = elt t k :: (lOf t).drop (k + 1) := dropC (show k < nL t by omega)
    have eL2 : (lOf t).drop (k + 1) = [] := List.drop_eq_nil_of_le (by show nL t ≤ k + 1; omega)
    rw [eL, eL2]
    cases o with
    | false => rfl
    | true =>
      have hnk := (h6 rfl).1
      have eK : (kOf t).drop k = nam t k :: (kOf t).drop (k + 1) := dropC (show k < nK t by omega)
      have eK2 : (kOf t).drop (k + 1) = [] := List.drop_eq_nil_of_le (by show nK t ≤ k + 1; omega)
      rw [eK, eK2]
      rfl
  | succ j ih =>
    intro k m i hk h hm
    obtain ⟨m, rfl⟩ : ∃ x, m = x + 1 := ⟨m - 1, by omega⟩
    have e : rl g t o k (j + 1 + 1) = entE g t o k ++ (44 :: rl g t o (k + 1) (j + 1)) := by rw [rl, if_neg (by omega)]
    rw [e, List.append_assoc] at h
    obtain ⟨h1, h2⟩ := h.app
    obtain ⟨c44, h4⟩ := Std.head (c := 44) h2
    have cE : cB s (i + (entE g t o k).length) = 44 := c44
    obtain ⟨hkey, h3⟩ := key_at (fun ho => (h6 ho).2 k (by omega)) h1
    have hl : (entE g t o k).length = (if o = true then quoL (nam t k) ++ [58] else []).length + (g (elt t k)).length := by unfold entE; rw [List.length_append]
    have hfk := hf k (by omega) _ h3 (by unfold EndsD; rw [Nat.add_assoc, ← hl, cE]; rfl)
    rw [Nat.add_assoc, ← hl] at hfk
    have ih' := ih (k + 1) m (i + (entE g t o k).length + 1) (by omega) h4 (by omega)
    rw [itm, hkey]
    simp only [Option.bind_some]
    rw [hfk]
    simp only [Option.bind_some]
    rw [sk_id (i := i + (entE g t o k).length) (by rw [cE]; rfl), cE, if_pos rfl, ih', e]
    have eL : (lOf t).drop k = elt t k :: (lOf t).drop (k + 1) := dropC (show k < nL t by omega)
    have hp : i + (entE g t o k).length + 1 + (rl g t o (k + 1) (j + 1)).length + 1 = i + (entE g t o k ++ 44 :: rl g t o (k + 1) (j + 1)).length + 1 := by rw [List.length_append, List.length_cons]; omega
    rw [eL, hp]
    cases o with
    | false => rfl
    | true =>
      have hnk := (h6 rfl).1
      have eK : (kOf t).drop k = nam t k :: (kOf t).drop (k + 1) := dropC (show k < nK t by omega)
      rw [eK]
      rfl
end Go.Proofs.YtknakfpciccoaaaGreatDoor
/- Texts and values, pure: what was printed is parsed as it was. -/
namespace Go.Proofs.YtknakfpciccoaaaGreatDoor
open Go.RowKit

theorem itoa_head (n : Int) : ∃ c l, Lib.itoa n = c :: l ∧ (c.toNat = 45 ∨ (48 ≤ c.toNat ∧ c.toNat ≤ 57)) := by
  by_cases hn : n < 0
  · obtain ⟨k, rfl⟩ : ∃ k : Nat, n = -(k : Int) := ⟨n.natAbs, by omega⟩
    exact ⟨45, _, Lib.itoa_neg k (by omega), .inl rfl⟩
  · obtain ⟨k, rfl⟩ : ∃ k : Nat, n = (k : Int) := ⟨n.toNat, by omega⟩
    obtain ⟨d1, _, d3, _⟩ := dec_digits k
    rw [Lib.itoa_nonneg]
    cases hd : Lib.decDigits k with
    | nil => rw [hd] at d3; simp at d3
    | cons c l => exact ⟨c, l, rfl, .inr (d1 c (by rw [hd]; simp))⟩
def headOk (l : List UInt8) : Prop := ∃ c r, l = c :: r ∧ blank c.toNat = false ∧ c.toNat ≠ 93 ∧ c.toNat ≠ 125
theorem leaf_head {t : T} (hg : leafGood t) : headOk (leafW t) := by
  obtain ⟨_, _, hg⟩ := hg
  unfold leafW
  rcases hg with ⟨hk, _⟩ | ⟨hk, hn, _⟩ | ⟨hk, _⟩ | ⟨hk, _⟩
  · rw [if_pos hk]
    exact ⟨_, _, rfl, by decide, by decide, by decide⟩
  · rw [if_neg (by omega), if_pos hk]
    split
    · exact ⟨_, _, rfl, by decide, by decide, by decide⟩
    · exact ⟨_, _, rfl, by decide, by decide, by decide⟩
  · rw [if_neg (by omega), if_neg (by omega), if_pos hk]
    obtain ⟨c, l, e, h⟩ := itoa_head (nOf t)
    exact ⟨c, l, e, by unfold blank; simp; omega, by omega, by omega⟩
  · rw [if_neg (by omega), if_neg (by omega), if_neg (by omega), if_pos hk]
    exact ⟨_, _, rfl, by decide, by decide, by decide⟩
theorem wr_head : ∀ (m : Nat) (t : T), Good m t → headOk (wrT m t)
  | 0, t, h => leaf_head h
  | m + 1, t, h => by
    rcases h with h | ⟨_, _, _, hk⟩
    · rw [wrT_leaf (good_leafK h).1 (good_leafK h).2]
      exact leaf_head h
    · unfold wrT
      rcases hk with ⟨hk, _⟩ | ⟨hk, _⟩
      · rw [if_pos hk]
        exact ⟨_, _, rfl, by decide, by decide, by decide⟩
      · rw [if_neg (by omega), if_pos hk]
        exact ⟨_, _, rfl, by decide, by decide, by decide⟩
theorem head_len {l : List UInt8} (h : headOk l) : 1 ≤ l.length := by
  obtain ⟨c, r, rfl, _⟩ := h
  simp
theorem rl_len {g : T → List UInt8} {t : T} {o : Bool} (hg : ∀ k, k < nL t → 1 ≤ (g (elt t k)).length) : ∀ j k, k + j ≤ nL t → j ≤ (rl g t o k j).length
  | 0, k, _ => Nat.zero_le _
  | j + 1, k, h => by
    have h0 := hg k (by omega)
    have ih := rl_len (o := o) hg j (k + 1) (by omega)
    have he : (g (elt t k)).length ≤ (entE g t o k).length := by unfold entE; rw [List.length_append]; omega
    rw [rl, List.length_append]
    split
    · simp only [List.length_nil]; omega
    · rw [List.length_cons]; omega
theorem ent_len {g : T → List UInt8} {t : T} {o : Bool} : ∀ n k, k < n → (g (elt t k)).length ≤ (jn g t o n).length
  | 0, k, h => by omega
  | n + 1, k, h => by
    rw [jn, List.length_append, List.length_append]
    by_cases e : k = n
    · subst e
      unfold entE
      rw [List.length_append]
      omega
    · have := ent_len (g := g) (t := t) (o := o) n k (by omega)
      omega
theorem rl_head {g : T → List UInt8} {t : T} {o : Bool} {j : Nat} (hg : headOk (g (elt t 0))) : headOk (rl g t o 0 (j + 1)) := by
  rw [rl]
  unfold entE
  cases o with
  | true => exact ⟨34, _, rfl, by decide, by decide, by decide⟩
  | false =>
    obtain ⟨c, r, e, h⟩ := hg
    rw [e]
    exact ⟨c, _, rfl, h⟩
/-- Lists and objects, behind their bracket. -/
theorem box_at {f : Nat → Option (T × Nat)} {s : ByteArray} {o : Bool} {t : T} {g : T → List UInt8} {c : T → T} {i : Nat} (cc : UInt8) (hcc : cc.toNat = cl o)
    (hf : ∀ k, k < nL t → ∀ p, Std s p (g (elt t k)) → EndsD s (p + (g (elt t k)).length) → f p = some (c (elt t k), p + (g (elt t k)).length))
    (h6 : o = true → nK t = nL t ∧ ∀ k, k < nL t → okS (nam t k) = true) (h5 : o = false → kOf t = []) (hg : ∀ k, k < nL t → headOk (g (elt t k))) (h : Std s i (jn g t o (nL t) ++ [cc])) :
    boxS f s o i = some ((kOf t, (lOf t).map c), i + (jn g t o (nL t)).length + 1) := by
  have hco : cl o = 93 ∨ cl o = 125 := by cases o <;> simp [cl]
  unfold boxS
  by_cases h0 : nL t = 0
  · have eL : lOf t = [] := nil_of h0
    have eK : kOf t = [] := by
      cases o with
      | false => exact h5 rfl
      | true => exact nil_of (show nK t = 0 by have := (h6 rfl).1; omega)
    rw [h0] at h ⊢
    have cE : cB s i = cl o := by rw [(Std.head (c := cc) h).1]; exact hcc
    rw [sk_id (i := i) (by rw [cE]; rcases hco with hco | hco <;> rw [hco] <;> rfl), if_pos cE, eL, eK]
    rfl
  · obtain ⟨j, hj⟩ : ∃ j, nL t = j + 1 := ⟨nL t - 1, by omega⟩
    have hr := rl_all g t o (nL t)
    obtain ⟨c0, r0, e0, b0, n93, n125⟩ := rl_head (g := g) (t := t) (o := o) (j := j) (hg 0 (by omega))
    have hle := h.le (by simp)
    have hln := rl_len (o := o) (fun k hk => head_len (hg k hk)) (nL t) 0 (by omega)
    rw [hr] at hln
    rw [← hr, hj] at h ⊢
    have cE : cB s i = c0.toNat := by
      have := h.app.1
      rw [e0] at this
      exact this.head.1
    rw [List.length_append, List.length_cons, List.length_nil] at hle
    rw [sk_id (i := i) (by rw [cE]; exact b0), cE, if_neg (by rcases hco with hco | hco <;> omega), it_rl cc hcc hf h6 j 0 (s.size + 1) i (by omega) h (by omega)]
    cases o with
    | false => rw [if_neg (by simp), List.drop_zero, h5 rfl]
    | true => rw [if_pos rfl, List.drop_zero, List.drop_zero]
theorem names_ok {t : T} : ∀ k, namesF t k = true → ∀ i, i < k → okS (nam t i) = true
  | 0, _, i, hi => absurd hi (by omega)
  | k + 1, h, i, hi => by
    simp only [namesF, Bool.and_eq_true, decide_eq_true_eq] at h
    by_cases e : i = k
    · subst e; exact h.2.1
    · exact names_ok k h.1 i (by omega)
theorem val_wr {w : World} {s : ByteArray} : ∀ (m n f : Nat) (v : Value) (t : T) (i : Nat), At w f v t → Good m t → (wrT m t).length < n → Std s i (wrT m t) → EndsD s (i + (wrT m t).length) → valN s n i = some (canT m t, i + (wrT m t).length)
  | 0, n, f, v, t, i, ha, hg, hn, h, he => by
    obtain ⟨n, rfl⟩ : ∃ x, n = x + 1 := ⟨n - 1, by omega⟩
    obtain ⟨_, La, Ka, Lc, Kc, _, _, hf, _⟩ := ha.open
    obtain ⟨h1, h2⟩ := bare_leaf (F := valN s n) hg hf h he
    rw [valN, sk_id h2, canT_leaf 0 hg.1 hg.2.1]
    exact h1
  | m + 1, n, f, v, t, i, ha, hg, hn, h, he => by
    obtain ⟨n, rfl⟩ : ∃ x, n = x + 1 := ⟨n - 1, by omega⟩
    obtain ⟨f', La, Ka, Lc, Kc, _, _, hf, hel, _⟩ := ha.open
    rcases hg with hg | ⟨hn0, ht, hgi, hk⟩
    · have k56 := good_leafK hg
      rw [wrT_leaf k56.1 k56.2] at h he hn ⊢
      obtain ⟨h1, h2⟩ := bare_leaf (F := valN s n) hg hf h he
      rw [valN, sk_id h2, canT_leaf (m + 1) hg.1 hg.2.1]
      exact h1
    · rcases hk with ⟨hk, hk0⟩ | ⟨hk, hnk, hnf, _⟩
      · have e : wrT (m + 1) t = 91 :: (jn (wrT m) t false (nL t) ++ [93]) := by rw [wrT, if_pos hk, jn_list]
        rw [e] at h hn ⊢
        obtain ⟨c0, h⟩ := h.head
        have c0' : cB s i = 91 := c0
        rw [List.length_cons, List.length_append, List.length_cons, List.length_nil] at hn
        have hb := box_at (f := valN s n) (g := wrT m) (c := canT m) (t := t) (o := false) 93 rfl (fun k hk p h1 h2 => by
            obtain ⟨b, o, c0, c1, c2, c3, c4, _, _, _, _, _, _, _, hak⟩ := hel.out k hk
            exact val_wr m n f' _ _ p hak.out (hgi k hk) (by have := ent_len (g := wrT m) (t := t) (o := false) (nL t) k hk; omega) h1 h2)
          (fun h => by cases h) (fun _ => nil_of hk0) (fun k hk => wr_head m _ (hgi k hk)) h
        rw [valN, sk_id (i := i) (by rw [c0']; rfl)]
        unfold bareV
        rw [c0', if_neg (by omega), if_pos rfl, hb]
        simp only [Option.map_some, Option.some.injEq, Prod.mk.injEq]
        refine ⟨?_, by rw [List.length_cons, List.length_append, List.length_cons, List.length_nil]; omega⟩
        rw [canT, hk, hn0, noText_eq ht]
      · have e : wrT (m + 1) t = 123 :: (jn (wrT m) t true (nL t) ++ [125]) := by rw [wrT, if_neg (by omega), if_pos hk, jn_obj, hnk]
        rw [e] at h hn ⊢
        obtain ⟨c0, h⟩ := h.head
        have c0' : cB s i = 123 := c0
        rw [List.length_cons, List.length_append, List.length_cons, List.length_nil] at hn
        have hb := box_at (f := valN s n) (g := wrT m) (c := canT m) (t := t) (o := true) 125 rfl (fun k hk p h1 h2 => by
            obtain ⟨b, o, c0, c1, c2, c3, c4, _, _, _, _, _, _, _, hak⟩ := hel.out k hk
            exact val_wr m n f' _ _ p hak.out (hgi k hk) (by have := ent_len (g := wrT m) (t := t) (o := true) (nL t) k hk; omega) h1 h2)
          (fun _ => ⟨hnk, fun k hk => names_ok _ hnf k (by omega)⟩) (fun h => by cases h) (fun k hk => wr_head m _ (hgi k hk)) h
        rw [valN, sk_id (i := i) (by rw [c0']; rfl)]
        unfold bareV
        rw [c0', if_neg (by omega), if_neg (by omega), if_pos rfl, hb]
        simp only [Option.map_some, Option.some.injEq, Prod.mk.injEq]
        refine ⟨?_, by rw [List.length_cons, List.length_append, List.length_cons, List.length_nil]; omega⟩
        rw [canT, hk, hn0, noText_eq ht]
theorem good_deep : ∀ (m n : Nat) (t : T), Good m t → deepT n t ≤ m
  | m, 0, t, _ => Nat.zero_le _
  | 0, n + 1, t, h => by
    have k56 := good_leafK h
    have : isBox t = false := by unfold isBox; simp [k56.1, k56.2]
    unfold deepT
    rw [this]
    simp
  | m + 1, n + 1, t, h => by
    rcases h with h | ⟨_, _, he, _⟩
    · have k56 := good_leafK h
      have : isBox t = false := by unfold isBox; simp [k56.1, k56.2]
      unfold deepT
      rw [this]
      simp
    · have key : ∀ k, k ≤ nL t → deepL (deepT n) t k ≤ m := by
        intro k
        induction k with
        | zero => intro _; exact Nat.zero_le _
        | succ k ih =>
          intro hk
          have h1 := ih (by omega)
          have h2 := good_deep m n _ (he k (by omega))
          rw [deepL]
          omega
      have := key (nL t) (Nat.le_refl _)
      unfold deepT
      split <;> omega
theorem good_once : ∀ (m n : Nat) (t : T), Good m t → twiceT n t = false
  | m, 0, t, _ => rfl
  | 0, n + 1, t, h => by
    unfold twiceT
    rw [h.1, h.2.1]
    rfl
  | m + 1, n + 1, t, h => by
    rcases h with h | ⟨_, _, he, hk⟩
    · unfold twiceT
      rw [h.1, h.2.1]
      rfl
    · have key : ∀ k, k ≤ nL t → anyL (twiceT n) t k = false := by
        intro k
        induction k with
        | zero => intro _; rfl
        | succ k ih =>
          intro hk
          rw [anyL, ih (by omega), good_once m n _ (he k (by omega))]
          rfl
      have hd : dupTo t (nK t) = false := by
        rcases hk with ⟨_, hk⟩ | ⟨_, _, _, hk⟩
        · rw [hk]; rfl
        · exact hk
      unfold twiceT
      rw [hd, key (nL t) (Nat.le_refl _)]
      rfl
/-- What is printed is parsed: the same value; or it is too long. -/
theorem parse_wr {w : World} {f : Nat} {v : Value} {t : T} (ha : At w f v t) (hg : Good 12 t) : (4000 < (wrT 12 t).length → eJ (baL (wrT 12 t)) = 1) ∧ ((wrT 12 t).length ≤ 4000 → eJ (baL (wrT 12 t)) = 0 ∧ tJ (baL (wrT 12 t)) = canT 12 t) := by
  have hz := baL_size (wrT 12 t)
  constructor
  · intro h
    exact eJ_long (by omega)
  · intro h
    have hs : Std (baL (wrT 12 t)) 0 (wrT 12 t) := ⟨[], by rw [baL_list]; simp⟩
    have he : cB (baL (wrT 12 t)) (0 + (wrT 12 t).length) = 256 := cB_end (by omega)
    have hv := val_wr 12 ((baL (wrT 12 t)).size + 1) f v t 0 ha hg (by omega) hs (by unfold EndsD; rw [he]; rfl)
    have hf : fullJ (baL (wrT 12 t)) = some (canT 12 t) := full_some hv (by rw [sk_id (by rw [he]; rfl), hz]; omega)
    have hc := good_can 12 t hg
    have e0 : eJ (baL (wrT 12 t)) = 0 := by
      rw [eJ_some (by omega) hf, if_neg (by have := good_deep 12 ((baL (wrT 12 t)).size + 1) _ hc; omega), good_once 12 _ _ hc]
      rfl
    exact ⟨e0, tJ_some e0 hf⟩
end Go.Proofs.YtknakfpciccoaaaGreatDoor
/- Texts as values, pure: what is parsed is a value. -/
namespace Go.Proofs.YtknakfpciccoaaaGreatDoor
open Go.RowKit

theorem valid_utf {a l : List UInt8} (h0 : a ≠ []) (hu : utfN (baL (a ++ l)) = a.length) : Lib.validD (a ++ l) = Lib.validD l := by
  have hne : a ++ l ≠ [] := by simp [h0]
  have hp : 0 < a.length := List.length_pos_iff.2 h0
  have hd := decodeL_eq (baL (a ++ l))
  rw [baL_list] at hd
  have h2 := utfN_decode (baL (a ++ l))
  rw [← hd, hu] at h2
  rw [Lib.validD_step _ hne]
  split at h2
  · omega
  · rename_i h3
    rw [if_neg h3, ← h2, List.drop_left]
theorem fin_ok {s : ByteArray} {n : Nat} {least c0 r : Int} (hs : n ≤ s.size) (hc : contTo s (n - 1) = true) (hr : runC s c0 (n - 1) = r) (hb : badRune least r = false) : finN s n least c0 = n := by
  unfold finN
  rw [if_neg (by omega), hc, hr, hb]
  simp
theorem byte_of {x : Int} (h0 : 0 ≤ x) (h1 : x < 256) : ((x.toNat.toUInt8).toNat : Int) = x := by
  rw [Nat.toUInt8, UInt8.toNat_ofNat']
  omega
theorem rune_utf {r : Int} (h0 : 0 ≤ r) (h1 : r ≤ 1114111) (h2 : r < 55296 ∨ 57343 < r) (l : List UInt8) : utfN (baL (Lib.encodeRune r ++ l)) = (Lib.encodeRune r).length := by
  by_cases c1 : r ≤ 127
  · have e : Lib.encodeRune r = [r.toNat.toUInt8] := by unfold Lib.encodeRune; rw [Lib.encodeRuneZ_one h0 c1]; rfl
    have b0 := byte_of h0 (show r < 256 by omega)
    rw [e]
    unfold utfN
    rw [bt_baL, if_pos (by simp only [List.cons_append, List.getD_cons_zero]; omega)]
    rfl
  · by_cases c2 : r ≤ 2047
    · have e : Lib.encodeRune r = [(192 + r / 64).toNat.toUInt8, (128 + r % 64).toNat.toUInt8] := by unfold Lib.encodeRune; rw [Lib.encodeRuneZ_two (by omega) c2]; rfl
      have b0 := byte_of (x := 192 + r / 64) (by omega) (by omega)
      have b1 := byte_of (x := 128 + r % 64) (by omega) (by omega)
      rw [e]
      generalize (192 + r / 64).toNat.toUInt8 = x0 at *
      generalize (128 + r % 64).toNat.toUInt8 = x1 at *
      have t0 : bt (baL ([x0, x1] ++ l)) 0 = x0.toNat := by rw [bt_baL]; rfl
      have t1 : bt (baL ([x0, x1] ++ l)) 1 = x1.toNat := by rw [bt_baL]; rfl
      unfold utfN
      rw [t0, if_neg (by omega), if_pos (by omega)]
      refine fin_ok (r := r) (by rw [baL_size]; simp) ?_ ?_ ?_
      · simp only [contTo, Bool.true_and]; rw [t1, decide_eq_true (by omega), decide_eq_true (by omega)]; rfl
      · simp only [runC]; rw [t1]; omega
      · unfold badRune; simp; omega
    · by_cases c3 : r ≤ 65535
      · have e : Lib.encodeRune r = [(224 + r / 4096).toNat.toUInt8, (128 + r / 64 % 64).toNat.toUInt8, (128 + r % 64).toNat.toUInt8] := by unfold Lib.encodeRune; rw [Lib.encodeRuneZ_three (by omega)]; rfl
        have b0 := byte_of (x := 224 + r / 4096) (by omega) (by omega)
        have b1 := byte_of (x := 128 + r / 64 % 64) (by omega) (by omega)
        have b2 := byte_of (x := 128 + r % 64) (by omega) (by omega)
        rw [e]
        generalize (224 + r / 4096).toNat.toUInt8 = x0 at *
        generalize (128 + r / 64 % 64).toNat.toUInt8 = x1 at *
        generalize (128 + r % 64).toNat.toUInt8 = x2 at *
        have t0 : bt (baL ([x0, x1, x2] ++ l)) 0 = x0.toNat := by rw [bt_baL]; rfl
        have t1 : bt (baL ([x0, x1, x2] ++ l)) 1 = x1.toNat := by rw [bt_baL]; rfl
        have t2 : bt (baL ([x0, x1, x2] ++ l)) 2 = x2.toNat := by rw [bt_baL]; rfl
        unfold utfN
        rw [t0, if_neg (by omega), if_neg (by omega), if_pos (by omega)]
        refine fin_ok (r := r) (by rw [baL_size]; simp) ?_ ?_ ?_
        · simp only [contTo, Bool.true_and]; rw [t1, t2, decide_eq_true (by omega), decide_eq_true (by omega), decide_eq_true (by omega), decide_eq_true (by omega)]; rfl
        · simp only [runC]; rw [t1, t2]; omega
        · unfold badRune; simp; omega
      · have e : Lib.encodeRune r = [(240 + r / 262144).toNat.toUInt8, (128 + r / 4096 % 64).toNat.toUInt8, (128 + r / 64 % 64).toNat.toUInt8, (128 + r % 64).toNat.toUInt8] := by unfold Lib.encodeRune; rw [Lib.encodeRuneZ_four (by omega) (by omega)]; rfl
        have b0 := byte_of (x := 240 + r / 262144) (by omega) (by omega)
        have b1 := byte_of (x := 128 + r / 4096 % 64) (by omega) (by omega)
        have b2 := byte_of (x := 128 + r / 64 % 64) (by omega) (by omega)
        have b3 := byte_of (x := 128 + r % 64) (by omega) (by omega)
        rw [e]
        generalize (240 + r / 262144).toNat.toUInt8 = x0 at *
        generalize (128 + r / 4096 % 64).toNat.toUInt8 = x1 at *
        generalize (128 + r / 64 % 64).toNat.toUInt8 = x2 at *
        generalize (128 + r % 64).toNat.toUInt8 = x3 at *
        have t0 : bt (baL ([x0, x1, x2, x3] ++ l)) 0 = x0.toNat := by rw [bt_baL]; rfl
        have t1 : bt (baL ([x0, x1, x2, x3] ++ l)) 1 = x1.toNat := by rw [bt_baL]; rfl
        have t2 : bt (baL ([x0, x1, x2, x3] ++ l)) 2 = x2.toNat := by rw [bt_baL]; rfl
        have t3 : bt (baL ([x0, x1, x2, x3] ++ l)) 3 = x3.toNat := by rw [bt_baL]; rfl
        unfold utfN
        rw [t0, if_neg (by omega), if_neg (by omega), if_neg (by omega), if_pos (by omega)]
        refine fin_ok (r := r) (by rw [baL_size]; simp) ?_ ?_ ?_
        · simp only [contTo, Bool.true_and]; rw [t1, t2, t3, decide_eq_true (by omega), decide_eq_true (by omega), decide_eq_true (by omega), decide_eq_true (by omega), decide_eq_true (by omega), decide_eq_true (by omega)]; rfl
        · simp only [runC]; rw [t1, t2, t3]; omega
        · unfold badRune; simp; omega
theorem rune_ne (r : Int) : Lib.encodeRune r ≠ [] := by
  unfold Lib.encodeRune Lib.encodeRuneZ
  split
  · simp
  · split
    · simp
    · split
      · simp
      · split <;> simp
theorem rune_len4 (r : Int) : (Lib.encodeRune r).length ≤ 4 := by
  unfold Lib.encodeRune
  rw [List.length_map]
  exact Lib.encodeRuneZ_length_le r
theorem rune_len1 {r : Nat} (h : r < 128) : (Lib.encodeRune (r : Int)).length = 1 := by
  unfold Lib.encodeRune
  rw [List.length_map, Lib.encodeRuneZ_one (by omega) (by omega)]
  rfl
theorem low_fine {s : ByteArray} {i a r e : Nat} (ha : a < 65536) (h : low s i a = some (r, e)) : i ≤ e ∧ r ≤ 1114111 ∧ (r < 55296 ∨ 57343 < r) := by
  unfold low at h
  split at h
  · simp only [Option.some.injEq, Prod.mk.injEq] at h
    omega
  · split at h
    · cases h
    · split at h
      · cases hh : hex4 s (i + 2) with
        | none => rw [hh] at h; cases h
        | some b =>
          rw [hh] at h
          simp only [Option.bind_some] at h
          split at h
          · cases h
          · simp only [Option.some.injEq, Prod.mk.injEq] at h
            omega
      · cases h
/-- A rune of a text: proper, and no longer than what it is read from. -/
theorem let_fine {s : ByteArray} {i r e : Nat} (h : letS s i = some (r, e)) : (∀ l, Lib.validD (Lib.encodeRune (r : Int) ++ l) = Lib.validD l) ∧ i + (Lib.encodeRune (r : Int)).length ≤ e := by
  have esc : ∀ c, c < 128 → i + 2 ≤ e → r = c → (∀ l, Lib.validD (Lib.encodeRune (r : Int) ++ l) = Lib.validD l) ∧ i + (Lib.encodeRune (r : Int)).length ≤ e := by
    intro c hc he hr
    subst hr
    exact ⟨fun l => valid_utf (rune_ne _) (rune_utf (by omega) (by omega) (by omega) l), by rw [rune_len1 hc]; omega⟩
  by_cases h92 : cB s i = 92
  · unfold letS at h
    rw [if_pos h92] at h
    unfold escR at h
    split at h
    · rename_i hh
      simp only [Option.some.injEq, Prod.mk.injEq] at h
      exact esc (cB s (i + 1)) (by omega) (by omega) (by omega)
    · split at h
      · simp only [Option.some.injEq, Prod.mk.injEq] at h; exact esc 8 (by omega) (by omega) (by omega)
      · split at h
        · simp only [Option.some.injEq, Prod.mk.injEq] at h; exact esc 12 (by omega) (by omega) (by omega)
        · split at h
          · simp only [Option.some.injEq, Prod.mk.injEq] at h; exact esc 10 (by omega) (by omega) (by omega)
          · split at h
            · simp only [Option.some.injEq, Prod.mk.injEq] at h; exact esc 13 (by omega) (by omega) (by omega)
            · split at h
              · simp only [Option.some.injEq, Prod.mk.injEq] at h; exact esc 9 (by omega) (by omega) (by omega)
              · split at h
                · cases hx : hex4 s (i + 1 + 1) with
                  | none => rw [hx] at h; cases h
                  | some a =>
                    rw [hx] at h
                    simp only [Option.bind_some] at h
                    have h1 := hexN_lt hx
                    have h2 := low_fine (by omega) h
                    have h3 := rune_len4 (r : Int)
                    exact ⟨fun l => valid_utf (rune_ne _) (rune_utf (by omega) (by omega) (by omega) l), by omega⟩
                · cases h
  · by_cases hi : i < s.size
    · by_cases hb : cB s i < 32 ∨ utfN (suf s i) = 0
      · rw [letS_bad hi h92 hb] at h
        cases h
      · obtain ⟨r', h1, h2, h3⟩ := letS_good hi h92 (by omega) (by omega)
        rw [h1] at h
        simp only [Option.some.injEq, Prod.mk.injEq] at h
        obtain ⟨rfl, rfl⟩ := h
        have hl : (s.extract i (i + utfN (suf s i))).data.toList.length = utfN (suf s i) := by
          rw [cut_list, List.length_take, List.length_drop]
          have : s.data.toList.length = s.size := rfl
          omega
        rw [h2]
        refine ⟨fun l => valid_utf (by intro e; rw [e] at hl; simp at hl; omega) ?_, by omega⟩
        rw [hl]
        refine utfN_same (by omega) (by rw [baL_size, List.length_append, hl]; omega) fun j hj => ?_
        rw [bt_suf, bt_baL, bt_list]
        congr 1
        simp only [List.getD_eq_getElem?_getD]
        rw [List.getElem?_append_left (by omega), cut_list, List.getElem?_take, if_pos hj, List.getElem?_drop]
    · rw [letS_end (by omega)] at h
      cases h
theorem txtN_fine {s : ByteArray} : ∀ {n i : Nat} {l : List UInt8} {e : Nat}, txtN s n i = some (l, e) → Lib.validD l = true ∧ i + l.length + 1 ≤ e
  | 0, i, l, e, h => by cases h
  | n + 1, i, l, e, h => by
    rw [txtN] at h
    split at h
    · simp only [Option.some.injEq, Prod.mk.injEq] at h
      obtain ⟨rfl, rfl⟩ := h
      exact ⟨rfl, by simp⟩
    · cases hl : letS s i with
      | none => rw [hl] at h; cases h
      | some p =>
        rw [hl] at h
        simp only [Option.bind_some] at h
        cases ht : txtN s n p.2 with
        | none => rw [ht] at h; cases h
        | some q =>
          rw [ht] at h
          simp only [Option.map_some, Option.some.injEq, Prod.mk.injEq] at h
          obtain ⟨rfl, rfl⟩ := h
          obtain ⟨h1, h2⟩ := let_fine (r := p.1) (e := p.2) hl
          obtain ⟨h3, h4⟩ := txtN_fine (l := q.1) (e := q.2) ht
          exact ⟨by rw [h1]; exact h3, by rw [List.length_append]; omega⟩
theorem txtS_fine {s : ByteArray} {i : Nat} {x : ByteArray} {e : Nat} (h : txtS s i = some (x, e)) : okS x = true ∧ i + x.size + 2 ≤ e := by
  unfold txtS at h
  split at h
  · cases ht : txtN s (s.size + 1) (i + 1) with
    | none => rw [ht] at h; cases h
    | some q =>
      rw [ht] at h
      simp only [Option.map_some, Option.some.injEq, Prod.mk.injEq] at h
      obtain ⟨rfl, rfl⟩ := h
      obtain ⟨h1, h2⟩ := txtN_fine (l := q.1) (e := q.2) ht
      refine ⟨by unfold okS; rw [baL_list]; exact h1, by rw [baL_size]; omega⟩
  · cases h
end Go.Proofs.YtknakfpciccoaaaGreatDoor
