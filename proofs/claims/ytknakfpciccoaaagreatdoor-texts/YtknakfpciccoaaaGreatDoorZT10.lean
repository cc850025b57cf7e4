import Derived.Test.YtknakfpciccoaaaGreatDoorZT7
import Derived.Test.YtknakfpciccoaaaGreatDoorZT4
import Derived.Test.YtknakfpciccoaaaGreatDoorZT9
import Derived.Lib.ItoaLen
import Derived.Test.YtknakfpciccoaaaGreatDoorZT6
/- Texts and values, pure: what was written is read as it was: texts and numbers. -/
namespace Go.Proofs.YtknakfpciccoaaaGreatDoor
open Go.RowKit

/-- So many signs stand at a place. -/
def Std (s : ByteArray) (i : Nat) (l : List UInt8) : Prop := ∃ r, s.data.toList.drop i = l ++ r
theorem Std.app {s : ByteArray} {i : Nat} {a b : List UInt8} (h : Std s i (a ++ b)) : Std s i a ∧ Std s (i + a.length) b := by
  obtain ⟨r, h⟩ := h
  refine ⟨⟨b ++ r, by rw [h, List.append_assoc]⟩, ⟨r, ?_⟩⟩
  rw [← List.drop_drop, h, List.append_assoc, List.drop_left]
theorem Std.le {s : ByteArray} {i : Nat} {l : List UInt8} (h : Std s i l) (h0 : l ≠ []) : i + l.length ≤ s.size := by
  obtain ⟨r, h⟩ := h
  have hs : s.data.toList.length = s.size := rfl
  have := congrArg List.length h
  rw [List.length_drop, List.length_append, hs] at this
  have : 0 < l.length := List.length_pos_iff.2 h0
  omega
theorem Std.byte {s : ByteArray} {i j : Nat} {l : List UInt8} (h : Std s i l) (hj : j < l.length) : bt s (i + j) = (l.getD j 0).toNat := by
  obtain ⟨r, h⟩ := h
  rw [bt_list]
  congr 1
  have : (s.data.toList.drop i).getD j 0 = (l ++ r).getD j 0 := by rw [h]
  simp only [List.getD_eq_getElem?_getD, List.getElem?_drop] at this ⊢
  rw [this, List.getElem?_append_left hj]
theorem Std.at {s : ByteArray} {i j : Nat} {l : List UInt8} (h : Std s i l) (hj : j < l.length) : cB s (i + j) = (l.getD j 0).toNat := by
  have := h.le (by intro e; subst e; simp at hj)
  rw [cB_bt (by omega), h.byte hj]
theorem Std.head {s : ByteArray} {i : Nat} {c : UInt8} {l : List UInt8} (h : Std s i (c :: l)) : cB s i = c.toNat ∧ Std s (i + 1) l := by
  refine ⟨?_, (Std.app (a := [c]) (b := l) h).2⟩
  have := h.at (j := 0) (by simp)
  simpa using this
theorem Std.take {s : ByteArray} {i : Nat} {l : List UInt8} (h : Std s i l) : (s.data.toList.drop i).take l.length = l := by
  obtain ⟨r, h⟩ := h
  rw [h, List.take_left]
theorem hexV_hexC {n : Nat} (h : n < 16) : hexV (hexC n).toNat = some n := by
  have : ∀ n : Fin 16, hexV (hexC n.1).toNat = some n.1 := by decide
  exact this ⟨n, h⟩
theorem rune_one {c : UInt8} (h : c.toNat < 128) : Lib.encodeRune (c.toNat : Int) = [c] := by
  unfold Lib.encodeRune
  rw [Lib.encodeRuneZ_one (by omega) (by omega)]
  simp
theorem hex4_esc {s : ByteArray} {i : Nat} {c : UInt8} (h : Std s i [48, 48, hexC (c.toNat / 16), hexC (c.toNat % 16)]) (hc : c.toNat < 32) : hex4 s i = some c.toNat := by
  have h0 := h.at (j := 0) (by simp)
  have h1 := h.at (j := 1) (by simp)
  have h2 := h.at (j := 2) (by simp)
  have h3 := h.at (j := 3) (by simp)
  simp only [List.getD_cons_zero, List.getD_cons_succ] at h0 h1 h2 h3
  have e : hexV (48 : UInt8).toNat = some 0 := by decide
  unfold hex4
  simp only [hexN, Option.bind_some]
  rw [h0, h1, h2, h3, e, hexV_hexC (by omega), hexV_hexC (by omega)]
  simp only [Option.bind_some, Option.some.injEq]
  omega
theorem contTo_same {a b : ByteArray} : ∀ k, (∀ j, j ≤ k → bt a j = bt b j) → contTo a k = contTo b k
  | 0, _ => rfl
  | k + 1, h => by rw [contTo, contTo, contTo_same k (fun j hj => h j (by omega)), h (k + 1) (Nat.le_refl _)]
theorem runC_same {a b : ByteArray} (c : Int) : ∀ k, (∀ j, j ≤ k → bt a j = bt b j) → runC a c k = runC b c k
  | 0, _ => rfl
  | k + 1, h => by rw [runC, runC, runC_same c k (fun j hj => h j (by omega)), h (k + 1) (Nat.le_refl _)]
theorem finN_same {a b : ByteArray} {n : Nat} {least c : Int} (hn : 0 < n) (h0 : finN a n least c ≠ 0) (hb : finN a n least c ≤ b.size) (h : ∀ j, j < finN a n least c → bt a j = bt b j) : finN b n least c = finN a n least c := by
  have hn2 : finN a n least c = n := by
    unfold finN at h0 ⊢
    split
    · rename_i h1; rw [if_pos h1] at h0; exact absurd rfl h0
    · rename_i h1
      rw [if_neg h1] at h0
      split
      · rename_i h2; rw [if_pos h2] at h0; exact absurd rfl h0
      · rename_i h2
        rw [if_neg h2] at h0
        split
        · rename_i h3; rw [if_pos h3] at h0; exact absurd rfl h0
        · rfl
  rw [hn2] at hb h
  have e1 := contTo_same (a := a) (b := b) (n - 1) (fun j hj => h j (by omega))
  have e2 := runC_same (a := a) (b := b) c (n - 1) (fun j hj => h j (by omega))
  have ha := h0
  unfold finN at ha ⊢
  rw [if_neg (by omega), ← e1, ← e2]
  split at ha
  · exact absurd rfl ha
  · rename_i h1
    rw [if_neg h1]
theorem utfN_same {a b : ByteArray} (h0 : utfN a ≠ 0) (hb : utfN a ≤ b.size) (h : ∀ j, j < utfN a → bt a j = bt b j) : utfN b = utfN a := by
  have hb0 : bt b 0 = bt a 0 := (h 0 (by omega)).symm
  unfold utfN at h0 hb h ⊢
  rw [hb0]
  split
  · rfl
  · rename_i h1
    rw [if_neg h1] at h0 hb h
    split
    · rename_i h2; rw [if_pos h2] at h0 hb h; exact finN_same (by omega) h0 hb h
    · rename_i h2
      rw [if_neg h2] at h0 hb h
      split
      · rename_i h3; rw [if_pos h3] at h0 hb h; exact finN_same (by omega) h0 hb h
      · rename_i h3
        rw [if_neg h3] at h0 hb h
        split
        · rename_i h4; rw [if_pos h4] at h0 hb h; exact finN_same (by omega) h0 hb h
        · rfl
/-- The bytes of a rune are written as they are. -/
theorem escC_id {c : UInt8} (h1 : c.toNat ≠ 34) (h2 : c.toNat ≠ 92) (h3 : 32 ≤ c.toNat) : escC c = [c] := escC_p (by omega) (by omega)
theorem flat_id {l : List UInt8} (h : ∀ c ∈ l, escC c = [c]) : l.flatMap escC = l := by
  induction l with
  | nil => rfl
  | cons c l ih => rw [List.flatMap_cons, h c (by simp), ih (fun x hx => h x (by simp [hx]))]; rfl
theorem contTo_at {s : ByteArray} : ∀ k, contTo s k = true → ∀ j, 1 ≤ j → j ≤ k → 128 ≤ bt s j
  | 0, _, j, h1, h2 => by omega
  | k + 1, h, j, h1, h2 => by
    simp only [contTo, Bool.and_eq_true, decide_eq_true_eq] at h
    by_cases e : j = k + 1
    · subst e; exact h.2.1
    · exact contTo_at k h.1 j h1 (by omega)
theorem finN_at {s : ByteArray} {n : Nat} {least c : Int} (h0 : finN s n least c ≠ 0) : finN s n least c = n ∧ contTo s (n - 1) = true := by
  unfold finN at h0 ⊢
  split at h0
  · exact absurd rfl h0
  · rename_i h1
    rw [if_neg h1]
    split at h0
    · exact absurd rfl h0
    · rename_i h2
      rw [if_neg h2]
      split at h0
      · exact absurd rfl h0
      · rename_i h3
        rw [if_neg h3]
        exact ⟨rfl, by simpa using h2⟩
theorem utfN_high {s : ByteArray} (h0 : utfN s ≠ 0) : ∀ j, 1 ≤ j → j < utfN s → 128 ≤ bt s j := by
  intro j hj1 hj2
  unfold utfN at h0 hj2
  split at hj2
  · omega
  · rename_i h1
    rw [if_neg h1] at h0
    split at hj2
    · rename_i h2
      rw [if_pos h2] at h0
      obtain ⟨e1, e2⟩ := finN_at h0
      exact contTo_at _ e2 j hj1 (by omega)
    · rename_i h2
      rw [if_neg h2] at h0
      split at hj2
      · rename_i h3
        rw [if_pos h3] at h0
        obtain ⟨e1, e2⟩ := finN_at h0
        exact contTo_at _ e2 j hj1 (by omega)
      · rename_i h3
        rw [if_neg h3] at h0
        split at hj2
        · rename_i h4
          rw [if_pos h4] at h0
          obtain ⟨e1, e2⟩ := finN_at h0
          exact contTo_at _ e2 j hj1 (by omega)
        · omega
/-- A rune at the front of what is proper. -/
theorem rune_front {l : List UInt8} (hne : l ≠ []) (hv : Lib.validD l = true) : ∃ u, 1 ≤ u ∧ u ≤ l.length ∧ utfN (baL l) = u ∧ Lib.validD (l.drop u) = true := by
  have hd := decodeL_eq (baL l)
  rw [baL_list] at hd
  have hu := utfN_decode (baL l)
  rw [← hd] at hu
  rw [Lib.validD_step l hne] at hv
  split at hv
  · cases hv
  · rename_i h1
    rw [if_neg h1] at hu
    have hp : 0 < l.length := List.length_pos_iff.2 hne
    have hr := decode_range (baL l) (by rw [baL_size]; exact hp)
    rw [← hd, baL_size] at hr
    exact ⟨_, hr.1, hr.2.1, hu, hv⟩
theorem bt_baL (l : List UInt8) (j : Nat) : bt (baL l) j = (l.getD j 0).toNat := by rw [bt_list, baL_list]
theorem txt_esc {s : ByteArray} : ∀ (N : Nat) (l : List UInt8) (n i : Nat), l.length ≤ N → Lib.validD l = true → Std s i (l.flatMap escC ++ [34]) → l.length < n → txtN s n i = some (l, i + (l.flatMap escC).length + 1)
  | N, [], n, i, _, _, h, hn => by
    obtain ⟨n, rfl⟩ : ∃ m, n = m + 1 := ⟨n - 1, by simp at hn; omega⟩
    have := (Std.head (c := 34) (l := []) h).1
    rw [txtN_quote (by rw [this]; rfl)]
    rfl
  | 0, c :: l, n, i, hN, _, _, _ => by simp at hN
  | N + 1, c :: l, n, i, hN, hv, h, hn => by
    obtain ⟨n, rfl⟩ : ∃ m, n = m + 1 := ⟨n - 1, by simp at hn; omega⟩
    simp only [List.length_cons] at hN hn
    by_cases hq : c.toNat = 34 ∨ c.toNat = 92
    · have e : (c :: l).flatMap escC ++ [34] = 92 :: c :: (l.flatMap escC ++ [34]) := by rw [List.flatMap_cons, escC_q hq]; rfl
      rw [e] at h
      obtain ⟨h1, h⟩ := h.head
      obtain ⟨h2, h⟩ := h.head
      have h1' : cB s i = 92 := h1
      have ih := txt_esc N l n (i + 1 + 1) (by omega) (by rw [Lib.validD_cons c l (by omega)] at hv; exact hv) h (by omega)
      have hl : letS s i = some (c.toNat, i + 1 + 1) := by
        unfold letS
        rw [if_pos h1']
        unfold escR
        rw [h2, if_pos (by omega)]
      rw [txtN, if_neg (by omega), hl]
      simp only [Option.bind_some]
      rw [ih, List.flatMap_cons, escC_q hq, List.length_append, rune_one (by omega)]
      simp only [Option.map_some, List.length_cons, List.length_nil, List.cons_append, List.nil_append, Option.some.injEq, Prod.mk.injEq, true_and]
      omega
    · by_cases hu : c.toNat < 32
      · have e : (c :: l).flatMap escC ++ [34] = [92, 117] ++ ([48, 48, hexC (c.toNat / 16), hexC (c.toNat % 16)] ++ (l.flatMap escC ++ [34])) := by rw [List.flatMap_cons, escC_u hq hu]; rfl
        rw [e] at h
        obtain ⟨h0, h⟩ := h.app
        obtain ⟨h3, h⟩ := h.app
        have h1 : cB s i = 92 := (Std.head (c := 92) h0).1
        have h2 : cB s (i + 1) = 117 := (Std.head (c := 117) (Std.head (c := 92) h0).2).1
        have h4 := hex4_esc h3 hu
        have h4' : hex4 s (i + 1 + 1) = some c.toNat := h4
        have ih := txt_esc N l n (i + 6) (by omega) (by rw [Lib.validD_cons c l (by omega)] at hv; exact hv) h (by omega)
        have hl : letS s i = some (c.toNat, i + 6) := by
          unfold letS
          rw [if_pos h1]
          unfold escR
          rw [h2, if_neg (by omega), if_neg (by omega), if_neg (by omega), if_neg (by omega), if_neg (by omega), if_neg (by omega), if_pos rfl, h4']
          simp only [Option.bind_some]
          unfold low
          rw [if_pos (by omega)]
        rw [txtN, if_neg (by omega), hl]
        simp only [Option.bind_some]
        rw [ih, List.flatMap_cons, escC_u hq hu, List.length_append, rune_one (by omega)]
        simp only [Option.map_some, List.length_cons, List.length_nil, List.cons_append, List.nil_append, Option.some.injEq, Prod.mk.injEq, true_and]
        omega
      · obtain ⟨u, u1, u2, hun, hvu⟩ := rune_front (l := c :: l) (by simp) hv
        have hid1 : ((c :: l).take u).flatMap escC = (c :: l).take u := by
          apply flat_id
          intro x hx
          obtain ⟨j, hj, rfl⟩ := List.getElem_of_mem hx
          rw [List.length_take] at hj
          rw [List.getElem_take]
          by_cases hj0 : j = 0
          · subst hj0
            exact escC_id (by simp; omega) (by simp; omega) (by simp; omega)
          · have hh := utfN_high (s := baL (c :: l)) (by omega) j (by omega) (by omega)
            rw [bt_baL] at hh
            have hjl : j < (c :: l).length := by omega
            simp only [List.getD_eq_getElem?_getD, List.getElem?_eq_getElem hjl, Option.getD_some] at hh
            exact escC_id (by omega) (by omega) (by omega)
        have e : (c :: l).flatMap escC = (c :: l).take u ++ ((c :: l).drop u).flatMap escC := by
          conv => lhs; rw [← List.take_append_drop u (c :: l), List.flatMap_append, hid1]
        rw [e, List.append_assoc] at h
        obtain ⟨h1, h2⟩ := h.app
        have hlt : ((c :: l).take u).length = u := by rw [List.length_take]; omega
        rw [hlt] at h2
        have hne : (c :: l).take u ≠ [] := by intro e2; rw [e2] at hlt; simp at hlt; omega
        have hle := h1.le hne
        rw [hlt] at hle
        have hc0 : cB s i = c.toNat := by
          have := h1.at (j := 0) (by omega)
          rw [Nat.add_zero] at this
          rw [this]
          obtain ⟨u', rfl⟩ : ∃ u', u = u' + 1 := ⟨u - 1, by omega⟩
          rfl
        have hus : utfN (suf s i) = u := by
          rw [← hun]
          refine utfN_same (by omega) (by rw [suf_size]; omega) fun j hj => ?_
          rw [hun] at hj
          rw [bt_suf, h1.byte (by omega), bt_baL]
          simp only [List.getD_eq_getElem?_getD, List.getElem?_take]
          rw [if_pos hj]
        obtain ⟨r, hl, hen, _⟩ := letS_good (s := s) (i := i) (by omega) (by omega) (by omega) (by omega)
        rw [hus] at hl hen
        have hen2 : Lib.encodeRune (r : Int) = (c :: l).take u := by
          rw [hen, cut_list]
          have := h1.take
          rw [hlt] at this
          exact this
        have hdl : ((c :: l).drop u).length ≤ N := by rw [List.length_drop, List.length_cons]; omega
        have ih := txt_esc N ((c :: l).drop u) n (i + u) hdl hvu h2 (by rw [List.length_drop, List.length_cons]; omega)
        rw [txtN, if_neg (by omega), hl]
        simp only [Option.bind_some]
        rw [ih, hen2, e, List.length_append, hlt]
        simp only [Option.map_some, List.take_append_drop, Option.some.injEq, Prod.mk.injEq, true_and]
        omega
theorem escC_pos (c : UInt8) : 1 ≤ (escC c).length := by
  unfold escC
  split
  · simp
  · split <;> simp
theorem txt_quo {s x : ByteArray} {i : Nat} (hv : okS x = true) (h : Std s i (quoL x)) : txtS s i = some (x, i + (quoL x).length) := by
  have hx : x.data.toList.length = x.size := rfl
  have e0 : escTo x x.size = x.data.toList.flatMap escC := by unfold escTo; rw [List.take_of_length_le (Nat.le_of_eq hx)]
  have hle := h.le (by simp [quoL])
  unfold quoL at h
  obtain ⟨h1, h2⟩ := h.head
  rw [e0] at h2
  have hlen : (quoL x).length = (x.data.toList.flatMap escC).length + 2 := by simp [quoL, e0]
  have hge : x.data.toList.length ≤ (x.data.toList.flatMap escC).length := by
    have : ∀ l : List UInt8, l.length ≤ (l.flatMap escC).length := by
      intro l
      induction l with
      | nil => simp
      | cons c l ih =>
        have := escC_pos c
        rw [List.flatMap_cons, List.length_append, List.length_cons]
        omega
    exact this _
  have := txt_esc x.data.toList.length x.data.toList (s.size + 1) (i + 1) (Nat.le_refl _) hv h2 (by omega)
  unfold txtS
  rw [if_pos (by rw [h1]; rfl), this]
  simp only [Option.map_some, Option.some.injEq, Prod.mk.injEq]
  exact ⟨baL_self x, by omega⟩
/-- Digits. -/
theorem dec_digits : ∀ n : Nat, Digits (Lib.decDigits n) ∧ decL 0 (Lib.decDigits n) = n ∧ 1 ≤ (Lib.decDigits n).length ∧ (1 ≤ n → ((Lib.decDigits n).getD 0 0).toNat ≠ 48) ∧ (n < 10 → (Lib.decDigits n).length = 1) := by
  intro n
  induction n using Nat.strongRecOn with
  | ind n ih =>
    have hb : ∀ d : Nat, d < 10 → (UInt8.ofNat (48 + d)).toNat = 48 + d := fun d hd => by rw [UInt8.toNat_ofNat']; omega
    by_cases hs : n < 10
    · rw [Lib.decDigits_one hs]
      refine ⟨fun c hc => ?_, ?_, by simp, fun h => ?_, fun _ => by simp⟩
      · simp only [List.mem_singleton] at hc
        subst hc
        rw [hb n hs]
        omega
      · rw [decL_cons, decL_nil, hb n hs]
        omega
      · simp only [List.getD_cons_zero]
        rw [hb n hs]
        omega
    · have e : Lib.decDigits n = Lib.decDigits (n / 10) ++ [UInt8.ofNat (48 + n % 10)] := by rw [Lib.decDigits, dif_neg hs]
      obtain ⟨i1, i2, i3, i4, _⟩ := ih (n / 10) (by omega)
      rw [e]
      refine ⟨fun c hc => ?_, ?_, by simp, fun _ => ?_, fun h => by omega⟩
      · rw [List.mem_append] at hc
        rcases hc with hc | hc
        · exact i1 c hc
        · simp only [List.mem_singleton] at hc
          subst hc
          rw [hb _ (by omega)]
          omega
      · rw [decL_append, i2, decL_cons, decL_nil, hb _ (by omega)]
        omega
      · have := i4 (by omega)
        simp only [List.getD_eq_getElem?_getD] at this ⊢
        rw [List.getElem?_append_left (by omega)]
        exact this
theorem pass_run {p : Nat → Bool} (hp : p 256 = false) (s : ByteArray) : ∀ (k i : Nat), (∀ j, j < k → p (cB s (i + j)) = true) → p (cB s (i + k)) = false → pass p s i = i + k
  | 0, i, _, h => by
    rw [Nat.add_zero] at h
    rw [pass_step hp, h]
    rfl
  | k + 1, i, h, h2 => by
    have h0 := h 0 (by omega)
    rw [Nat.add_zero] at h0
    rw [pass_step hp, if_pos h0, pass_run hp s k (i + 1) (fun j hj => by rw [show i + 1 + j = i + (j + 1) by omega]; exact h (j + 1) (by omega)) (by rw [show i + 1 + k = i + (k + 1) by omega]; exact h2)]
    omega
theorem dig_at {s : ByteArray} {i : Nat} {n : Nat} (h : Std s i (Lib.decDigits n)) (hend : isD (cB s (i + (Lib.decDigits n).length)) = false) : dg s i = i + (Lib.decDigits n).length ∧ dv s i (Lib.decDigits n).length = n ∧ isD (cB s i) = true ∧ (cB s i = 48 → (Lib.decDigits n).length = 1) := by
  obtain ⟨d1, d2, d3, d4, d5⟩ := dec_digits n
  have hne : Lib.decDigits n ≠ [] := by intro e; rw [e] at d3; simp at d3
  have hle := h.le hne
  have hdig : ∀ j, j < (Lib.decDigits n).length → isD (cB s (i + j)) = true := fun j hj => by
    rw [h.at hj]
    have hm : (Lib.decDigits n).getD j 0 ∈ Lib.decDigits n := by
      simp only [List.getD_eq_getElem?_getD, List.getElem?_eq_getElem hj, Option.getD_some]
      exact List.getElem_mem hj
    have := d1 _ hm
    unfold isD
    rw [decide_eq_true this.1, decide_eq_true this.2]
    rfl
  refine ⟨pass_run isD_end s _ i hdig hend, ?_, ?_, fun hc => ?_⟩
  · rw [← dv_list s i _ hle, h.take, d2]
  · have := hdig 0 (by omega)
    rwa [Nat.add_zero] at this
  · by_cases h10 : n < 10
    · exact d5 h10
    · have h0 := h.at (j := 0) (by omega)
      rw [Nat.add_zero] at h0
      exact absurd (h0.symm.trans hc) (d4 (by omega))
theorem num_itoa {s : ByteArray} {i : Nat} {n : Int} (h0 : -9223372036854775808 ≤ n) (h1 : n ≤ 9223372036854775807) (h : Std s i (Lib.itoa n)) (hend : isD (cB s (i + (Lib.itoa n).length)) = false) : numS s i = some (n, i + (Lib.itoa n).length) ∧ (cB s i = 45 ∨ isD (cB s i) = true) := by
  by_cases hn : n < 0
  · obtain ⟨k, rfl⟩ : ∃ k : Nat, n = -(k : Int) := ⟨n.natAbs, by omega⟩
    have e : Lib.itoa (-(k : Int)) = 45 :: Lib.decDigits k := Lib.itoa_neg k (by omega)
    rw [e] at h hend ⊢
    obtain ⟨c0, h⟩ := h.head
    have c0' : cB s i = 45 := c0
    rw [List.length_cons, show i + ((Lib.decDigits k).length + 1) = i + 1 + (Lib.decDigits k).length by omega] at hend
    obtain ⟨e1, e2, e3, e4⟩ := dig_at h hend
    have hd := (dec_digits k).2.2.1
    have hs : sgn s i = i + 1 := by unfold sgn; rw [if_pos c0']
    refine ⟨?_, .inl c0'⟩
    unfold numS
    rw [hs, e1, if_neg (by omega), if_neg (by intro hh; have := e4 hh.2; omega), if_pos c0', show i + 1 + (Lib.decDigits k).length - (i + 1) = (Lib.decDigits k).length by omega, e2, if_pos (by omega), List.length_cons]
    simp only [Option.some.injEq, Prod.mk.injEq, true_and]
    omega
  · obtain ⟨k, rfl⟩ : ∃ k : Nat, n = (k : Int) := ⟨n.toNat, by omega⟩
    have e : Lib.itoa (k : Int) = Lib.decDigits k := Lib.itoa_nonneg k
    rw [e] at h hend ⊢
    obtain ⟨e1, e2, e3, e4⟩ := dig_at h hend
    have hd := (dec_digits k).2.2.1
    have c45 : cB s i ≠ 45 := by
      intro hc
      rw [hc] at e3
      cases e3
    have hs : sgn s i = i := by unfold sgn; rw [if_neg c45]
    refine ⟨?_, .inr e3⟩
    unfold numS
    rw [hs, e1, if_neg (by omega), if_neg (by intro hh; have := e4 hh.2; omega), if_neg c45, show i + (Lib.decDigits k).length - i = (Lib.decDigits k).length by omega, e2, if_pos (by omega)]
end Go.Proofs.YtknakfpciccoaaaGreatDoor
/- The walk of printText. -/
namespace Go.Proofs.YtknakfpciccoaaaGreatDoor
open Go.RowKit

set_option maxHeartbeats 4000000 in
set_option maxRecDepth 100000 in
theorem printText_any (B b : Nat) (acc : List UInt8) (s : ByteArray) (w : World) (h : Lib.IsBuilderF 65 5 B b (Lib.byteCells acc) w) (hB : B ≤ w.heap.size) (hl : acc.length + (quoL s).length ≤ 100000000) (hs : s.size ≤ 140737488355328) :
    Calls Tryz.prog 77 #[.pointer (some ⟨b, 0, none⟩), .string s] w (Wrote B b (acc ++ quoL s) w) := by
  have HQ : Hid (∀ k, k ≤ s.size → (escTo s k).length + acc.length + 1 ≤ 100000000) := hid (fun k hk => by
    have := escTo_mono s k
    simp [quoL] at hl
    omega)
  have HE : Hid (acc ++ quoL s = acc ++ [34] ++ escTo s s.size ++ [34]) := by show _ = _; simp [quoL]
  have hl0 : acc.length ≤ 100000000 := by omega
  have HS := hid (WrP.start h hB)
  clear h hl
  go_enter Tryz.func77, Tryz.ntmps77
  go_wp2_with fail
  refine (wbyte_any B b acc 34 w w HS.out (by omega)).mono ?_
  rintro e w1 ⟨rfl, hw1⟩
  have H1 := hid hw1
  clear hw1
  go_wp2_with fail
  go_loopg [10] (s.size) (fun g i wr => ∃ k : Nat, g = s.size - k ∧ k ≤ s.size ∧ i = .int .i64 k ∧ Hid (WrP B b (acc ++ [34] ++ escTo s k) w wr))
  case atStart => exact ⟨0, rfl, Nat.zero_le _, rfl, H1.out.acc (by simp [escTo_zero])⟩
  case round =>
    obtain ⟨k, rfl, hk, rfl, HW⟩ := hrel
    have hq := HQ.out k hk
    have hlk : (acc ++ [34] ++ escTo s k).length ≤ 100000000 := by simp; omega
    by_cases hlt : k < s.size
    · obtain ⟨z, hz⟩ : ∃ z : UInt8, s[k]'hlt = z := ⟨_, rfl⟩
      have HZ := hid (escTo_succ (get_some hlt hz))
      have x1 : (k : Int) < (s.size : Int) := by omega
      have lz : z.toNat < 256 := z.toNat_lt
      have hne : ∀ (a : List UInt8), (acc ++ [34] ++ escTo s k ++ a).length ≤ 100000000 + a.length := fun a => by rw [List.length_append]; omega
      have HN := hid hne
      clear hne
      by_cases hq2 : z.toNat = 34 ∨ z.toNat = 92
      · have HC := hid (escC_q hq2)
        rcases hq2 with hq2 | hq2
        · have y1 : ((z.toNat : Int) == 34) = true := by rw [beq_iff_eq]; omega
          clear hq2
          go_wp2_with fail
          refine (wbyte_any B b _ 92 w wr HW.out (by omega)).mono ?_
          rintro e w2 ⟨rfl, hw2⟩
          have H2 := hid (HW.out.trans hw2)
          clear hw2
          go_wp2_with fail
          refine (wbyte_any B b _ z w w2 H2.out (by have := HN.out [92]; simp only [List.length_singleton] at this; omega)).mono ?_
          rintro e w3 ⟨rfl, hw3⟩
          have H3 := hid (H2.out.trans hw3)
          clear hw3
          go_wp2_with fail
          go_roundg (s.size - (k + 1))
          case rel => exact ⟨k + 1, rfl, by omega, by go_num, H3.out.acc (by rw [HZ.out, HC.out]; simp)⟩
          case measure => omega
        · have y0 : ((z.toNat : Int) == 34) = false := by rw [beq_eq_false_iff_ne]; omega
          have y1 : ((z.toNat : Int) == 92) = true := by rw [beq_iff_eq]; omega
          clear hq2
          go_wp2_with fail
          refine (wbyte_any B b _ 92 w wr HW.out (by omega)).mono ?_
          rintro e w2 ⟨rfl, hw2⟩
          have H2 := hid (HW.out.trans hw2)
          clear hw2
          go_wp2_with fail
          refine (wbyte_any B b _ z w w2 H2.out (by have := HN.out [92]; simp only [List.length_singleton] at this; omega)).mono ?_
          rintro e w3 ⟨rfl, hw3⟩
          have H3 := hid (H2.out.trans hw3)
          clear hw3
          go_wp2_with fail
          go_roundg (s.size - (k + 1))
          case rel => exact ⟨k + 1, rfl, by omega, by go_num, H3.out.acc (by rw [HZ.out, HC.out]; simp)⟩
          case measure => omega
      · have y34 : ((z.toNat : Int) == 34) = false := by rw [beq_eq_false_iff_ne]; omega
        have y92 : ((z.toNat : Int) == 92) = false := by rw [beq_eq_false_iff_ne]; omega
        by_cases hu : z.toNat < 32
        · have HC := hid (escC_u hq2 hu)
          have y1 : decide ((z.toNat : Int) < 32) = true := decide_eq_true (by omega)
          clear hq2
          go_wp2_with fail
          refine (wstr_any B b _ ⟨#[92, 117, 48, 48]⟩ w wr HW.out (by show _ + 4 ≤ _; omega)).mono ?_
          rintro e w2 ⟨rfl, hw2⟩
          have H2 := hid (HW.out.trans hw2)
          clear hw2
          have n1 : z.toNat / 16 < 16 := by omega
          have n2 : z.toNat % 16 < 16 := by omega
          go_wp2_with fail
          refine (wbyte_any B b _ (hexS[z.toNat / 16]'n1) w w2 H2.out (by have := HN.out [92, 117, 48, 48]; simp only [List.length_cons, List.length_nil] at this; simp only [List.length_append, List.length_cons, List.length_nil] at this ⊢; omega)).mono ?_
          rintro e w3 ⟨rfl, hw3⟩
          have H3 := hid (H2.out.trans hw3)
          clear hw3
          go_wp2_with fail
          refine (wbyte_any B b _ (hexS[z.toNat % 16]'n2) w w3 H3.out (by have := HN.out [92, 117, 48, 48]; simp only [List.length_append, List.length_cons, List.length_nil] at this ⊢; omega)).mono ?_
          rintro e w4 ⟨rfl, hw4⟩
          have H4 := hid (H3.out.trans hw4)
          clear hw4
          go_wp2_with fail
          go_roundg (s.size - (k + 1))
          case rel => exact ⟨k + 1, rfl, by omega, by go_num, H4.out.acc (by rw [HZ.out, HC.out, hexS_at, hexS_at]; simp)⟩
          case measure => omega
        · have HC := hid (escC_p hq2 hu)
          have y1 : decide ((z.toNat : Int) < 32) = false := decide_eq_false (by omega)
          clear hq2
          go_wp2_with fail
          refine (wbyte_any B b _ z w wr HW.out (by omega)).mono ?_
          rintro e w2 ⟨rfl, hw2⟩
          have H2 := hid (HW.out.trans hw2)
          clear hw2
          go_wp2_with fail
          go_roundg (s.size - (k + 1))
          case rel => exact ⟨k + 1, rfl, by omega, by go_num, H2.out.acc (by rw [HZ.out, HC.out]; simp)⟩
          case measure => omega
    · obtain rfl : k = s.size := by omega
      go_wp2_with fail
      refine (wbyte_any B b _ 34 w wr HW.out (by omega)).mono ?_
      rintro e w2 ⟨rfl, hw2⟩
      have H2 := hid hw2
      clear hw2
      go_wp2_with fail
      refine bodyPost_end (v := .tuple #[]) (by simp [results, Tryz.results77, go_sem]) rfl ?_
      exact ⟨rfl, (HW.out.trans H2.out).acc HE.out.symm⟩
end Go.Proofs.YtknakfpciccoaaaGreatDoor
/- The walks of printValue's leaves. -/
namespace Go.Proofs.YtknakfpciccoaaaGreatDoor
open Go.RowKit

def trueL : List UInt8 := [116, 114, 117, 101]
def falseL : List UInt8 := [102, 97, 108, 115, 101]
def FmtSaid (Tb : World → Prop) : Prop := ∀ (n : Int) (w : World), -9223372036854775808 ≤ n → n ≤ 9223372036854775807 → Tb w → Calls Tryz.prog 76 #[.int .i64 n, .int .i64 10] w fun e w' => e = .returned (.string (baL (Lib.itoa n))) ∧ Below w.heap.size w w'
set_option maxHeartbeats 4000000 in
set_option maxRecDepth 100000 in
theorem fbool_in (b : Bool) (w : World) : Calls Tryz.prog 126 #[.bool b] w fun e w' => e = .returned (.string (baL (if b then trueL else falseL))) ∧ w' = w := by
  go_enter Tryz.func126, Tryz.ntmps126
  cases b
  · go_wp2_with fail
    go_ret
    exact ⟨rfl, rfl⟩
  · go_wp2_with fail
    go_ret
    exact ⟨rfl, rfl⟩
set_option maxHeartbeats 4000000 in
set_option maxRecDepth 100000 in
theorem fbool_any (b : Bool) (w : World) : Calls Tryz.prog 75 #[.bool b] w fun e w' => e = .returned (.string (baL (if b then trueL else falseL))) ∧ w' = w := by
  have HF := hid (fbool_in b w)
  generalize baL (if b = true then trueL else falseL) = s at HF ⊢
  go_enter Tryz.func75, Tryz.ntmps75
  go_wp2_with fail
  refine HF.out.mono ?_
  rintro e w1 ⟨rfl, rfl⟩
  go_wp2_with fail
  go_ret
  exact ⟨rfl, rfl⟩
/-- The contract of a value, so deep. -/
def PrSaid (Tb : World → Prop) (w0 : World) (m : Nat) : Prop := ∀ (f : Nat) (v : Value) (t : T) (acc : List UInt8) (b : Nat) (w : World),
  At w0 f v t → Good m t → Below w0.heap.size w0 w → Lib.IsBuilderF 65 5 w0.heap.size b (Lib.byteCells acc) w → Tb w → acc.length + (wrT m t).length ≤ 100000000 →
    Calls Tryz.prog 41 #[.pointer (some ⟨b, 0, none⟩), v] w (Wrote w0.heap.size b (acc ++ wrT m t) w)
theorem wrT_leaf {m : Nat} {t : T} (h5 : kindOf t ≠ 5) (h6 : kindOf t ≠ 6) : wrT m t = leafW t := by
  cases m with
  | zero => rfl
  | succ m => unfold wrT; rw [if_neg h5, if_neg h6]
set_option maxHeartbeats 4000000 in
set_option maxRecDepth 100000 in
theorem print_leaf {Tb : World → Prop} (hF : FmtSaid Tb) (w0 : World) (hS : Stays Tb w0.heap.size) (t : T) (hg : leafGood t) (ht : Fits t) (acc : List UInt8) (b : Nat) (w : World) (La Ka : Option Addr) (Lc Kc : Nat)
    (hb : Below w0.heap.size w0 w) (h : Lib.IsBuilderF 65 5 w0.heap.size b (Lib.byteCells acc) w) (hT : Tb w) (hl : acc.length + (leafW t).length ≤ 100000000) :
    Calls Tryz.prog 41 #[.pointer (some ⟨b, 0, none⟩), .agg #[.int .i64 (kindOf t), .int .i64 (nOf t), .string (sOf t), .slice La (nL t) Lc, .slice Ka (nK t) Kc]] w (Wrote w0.heap.size b (acc ++ leafW t) w) := by
  have HS := hid (WrP.start h hb.size)
  have HB1 : Hid (Below w.heap.size w (w.alloc (.cells #[.int .i64 (kindOf t), .int .i64 (nOf t), .string (sOf t), .slice La (nL t) Lc, .slice Ka (nK t) Kc] 25))) := (Below.refl _ _).alloc (Nat.le_refl _) _
  have HS1 := hid (HS.out.keep HB1.out)
  have HT1 := hid (hS _ _ hT (HB1.out.mono hb.size))
  have HF := hid hF
  have HFt := hid ht
  have HST := hid hS
  have Hb := hid hb
  clear h hF ht hT hS hb
  obtain ⟨g1, g2, hg⟩ := hg
  clear g1 g2
  rcases hg with ⟨hk, g3⟩ | ⟨hk, g3⟩ | ⟨hk, g3⟩ | ⟨hk, g3, hsz, g4⟩
  all_goals clear g3
  · have e1 : (kindOf t == 1) = true := by rw [hk]; rfl
    have HW : Hid (leafW t = [110, 117, 108, 108]) := by show _ = _; unfold leafW; rw [if_pos hk]
    rw [HW.out] at hl ⊢
    clear hk
    go_enter Tryz.func41, Tryz.ntmps41
    go_wp2_with fail
    refine (wstr_any w0.heap.size b acc ⟨#[110, 117, 108, 108]⟩ w _ HS1.out (by show _ + 4 ≤ _; omega)).mono ?_
    rintro e w2 ⟨rfl, hw2⟩
    have H2 := hid (HS1.out.trans hw2)
    clear hw2
    go_wp2_with fail
    refine bodyPost_end (v := .tuple #[]) (by simp [results, Tryz.results41, go_sem]) rfl ?_
    exact ⟨rfl, H2.out⟩
  · have e1 : (kindOf t == 1) = false := by rw [hk]; rfl
    have e2 : (kindOf t == 2) = true := by rw [hk]; rfl
    by_cases hn : nOf t = 1
    · have HW : Hid (leafW t = trueL) := by show _ = _; unfold leafW; rw [if_neg (by omega), if_pos hk, if_pos (by omega)]; rfl
      have y : (nOf t == 1) = true := by rw [beq_iff_eq]; exact hn
      have HP := hid (fbool_any true (w.alloc (.cells #[.int .i64 (kindOf t), .int .i64 (nOf t), .string (sOf t), .slice La (nL t) Lc, .slice Ka (nK t) Kc] 25)))
      rw [HW.out] at hl ⊢
      have hl0 : acc.length ≤ 100000000 := by omega
      clear hk hn hl
      go_enter Tryz.func41, Tryz.ntmps41
      go_wp2_with fail
      refine HP.out.mono ?_
      rintro e w2 ⟨rfl, rfl⟩
      go_wp2_with fail
      refine (wstr_any w0.heap.size b acc (baL trueL) w _ HS1.out (by show _ + 4 ≤ _; omega)).mono ?_
      rintro e w2 ⟨rfl, hw2⟩
      have H2 := hid (HS1.out.trans hw2)
      clear hw2
      go_wp2_with fail
      refine bodyPost_end (v := .tuple #[]) (by simp [results, Tryz.results41, go_sem]) rfl ?_
      exact ⟨rfl, H2.out⟩
    · have HW : Hid (leafW t = falseL) := by show _ = _; unfold leafW; rw [if_neg (by omega), if_pos hk, if_neg (by omega)]; rfl
      have y : (nOf t == 1) = false := by rw [beq_eq_false_iff_ne]; exact hn
      have HP := hid (fbool_any false (w.alloc (.cells #[.int .i64 (kindOf t), .int .i64 (nOf t), .string (sOf t), .slice La (nL t) Lc, .slice Ka (nK t) Kc] 25)))
      rw [HW.out] at hl ⊢
      have hl0 : acc.length ≤ 100000000 := by omega
      clear hk hn hl
      go_enter Tryz.func41, Tryz.ntmps41
      go_wp2_with fail
      refine HP.out.mono ?_
      rintro e w2 ⟨rfl, rfl⟩
      go_wp2_with fail
      refine (wstr_any w0.heap.size b acc (baL falseL) w _ HS1.out (by show _ + 5 ≤ _; omega)).mono ?_
      rintro e w2 ⟨rfl, hw2⟩
      have H2 := hid (HS1.out.trans hw2)
      clear hw2
      go_wp2_with fail
      refine bodyPost_end (v := .tuple #[]) (by simp [results, Tryz.results41, go_sem]) rfl ?_
      exact ⟨rfl, H2.out⟩
  · have e1 : (kindOf t == 1) = false := by rw [hk]; rfl
    have e2 : (kindOf t == 2) = false := by rw [hk]; rfl
    have e3 : (kindOf t == 3) = true := by rw [hk]; rfl
    have HW : Hid (leafW t = Lib.itoa (nOf t)) := by show _ = _; unfold leafW; rw [hk]; rfl
    rw [HW.out] at hl ⊢
    have hl0 : acc.length ≤ 100000000 := by omega
    have HSZ := hid (baL_size (Lib.itoa (nOf t)))
    have HLI := hid (baL_list (Lib.itoa (nOf t)))
    clear hk
    go_enter Tryz.func41, Tryz.ntmps41
    go_wp2_with fail
    refine (HF.out _ _ HFt.out.n0 HFt.out.n1 HT1.out).mono ?_
    rintro e w2 ⟨rfl, hb2⟩
    have HS2 := hid (HS1.out.keep hb2)
    clear hb2
    generalize baL (Lib.itoa (nOf t)) = s at HSZ HLI ⊢
    go_wp2_with fail
    refine (wstr_any w0.heap.size b acc s w _ HS2.out (by have := HSZ.out; omega)).mono ?_
    rintro e w3 ⟨rfl, hw3⟩
    have H3 := hid (HS2.out.trans hw3)
    clear hw3
    go_wp2_with fail
    refine bodyPost_end (v := .tuple #[]) (by simp [results, Tryz.results41, go_sem]) rfl ?_
    exact ⟨rfl, H3.out.acc (by rw [HLI.out])⟩
  · have e1 : (kindOf t == 1) = false := by rw [hk]; rfl
    have e2 : (kindOf t == 2) = false := by rw [hk]; rfl
    have e3 : (kindOf t == 3) = false := by rw [hk]; rfl
    have e4 : (kindOf t == 4) = true := by rw [hk]; rfl
    have HW : Hid (leafW t = quoL (sOf t)) := by show _ = _; unfold leafW; rw [hk]; rfl
    rw [HW.out] at hl ⊢
    have HP := hid (printText_any w0.heap.size b acc (sOf t) _ HS1.out.isb HS1.out.lo' hl (by omega))
    clear hk hl g4 hsz
    go_enter Tryz.func41, Tryz.ntmps41
    go_wp2_with fail
    refine HP.out.mono ?_
    rintro e w2 ⟨rfl, hw2⟩
    have H2 := hid (HS1.out.trans hw2)
    clear hw2 HP
    go_wp2_with fail
    refine bodyPost_end (v := .tuple #[]) (by simp [results, Tryz.results41, go_sem]) rfl ?_
    exact ⟨rfl, H2.out⟩
end Go.Proofs.YtknakfpciccoaaaGreatDoor
/- The walks of printList, printObject, printValue. -/
namespace Go.Proofs.YtknakfpciccoaaaGreatDoor
open Go.RowKit

theorem WrP.blt {B b : Nat} {acc : List UInt8} {w w' : World} (h : WrP B b acc w w') : b < w'.heap.size := h.isb.elim (fun x => x.lt) (fun x => x.lt)
theorem oth_box {w wr : World} {b : Nat} {c0 c1 c2 c3 c4 : Value} (ho : Lib.OthersKept 5 (some b) (w.alloc (.cells #[c0, c1, c2, c3, c4] 25)) wr) (hb : b < w.heap.size) :
    wr.cell? ⟨w.heap.size, 0, none⟩ = some c0 ∧ wr.cell? ⟨w.heap.size, 1, none⟩ = some c1 ∧ wr.cell? ⟨w.heap.size, 2, none⟩ = some c2 ∧ wr.cell? ⟨w.heap.size, 3, none⟩ = some c3 ∧ wr.cell? ⟨w.heap.size, 4, none⟩ = some c4 := by
  have e0 : (w.alloc (.cells #[c0, c1, c2, c3, c4] 25)).heap[w.heap.size]? = some (.cells #[c0, c1, c2, c3, c4] 25) := by show (w.heap.push _)[w.heap.size]? = _; simp
  have e := ho w.heap.size _ e0 (by simp; omega) (fun c fz h => by injection h with _ h2; exact absurd h2 (by decide))
  refine ⟨?_, ?_, ?_, ?_, ?_⟩ <;> simp [World.cell?, e]
set_option maxHeartbeats 4000000 in
set_option maxRecDepth 100000 in
theorem printList_any {Tb : World → Prop} (w0 : World) (hS : Stays Tb w0.heap.size) (m : Nat) (ih : PrSaid Tb w0 m) (f : Nat) (La : Option Addr) (Lc : Nat) (t : T) (acc : List UInt8) (b : Nat) (w : World)
    (hl : ElemsAt w0 f La t) (hn : nL t ≤ 1759218604442) (hg : ∀ i, i < nL t → Good m (elt t i)) (hb : Below w0.heap.size w0 w) (h : Lib.IsBuilderF 65 5 w0.heap.size b (Lib.byteCells acc) w) (hT : Tb w)
    (hlen : acc.length + (joinL (wrT m) t (nL t)).length + 2 ≤ 100000000) :
    Calls Tryz.prog 78 #[.pointer (some ⟨b, 0, none⟩), .slice La (nL t) Lc] w (Wrote w0.heap.size b (acc ++ (91 :: (joinL (wrT m) t (nL t) ++ [93]))) w) := by
  have HS := hid (WrP.start h hb.size)
  have HST := hid hS
  have Hih := hid ih
  have Hl := hid hl
  have Hg := hid hg
  have Hb := hid hb
  have HT := hid hT
  have HM : Hid (∀ k, k ≤ nL t → (joinL (wrT m) t k).length + acc.length + 2 ≤ 100000000) := hid (fun k hk => by have := joinL_mono (wrT m) t hk; omega)
  have HE : Hid (acc ++ (91 :: (joinL (wrT m) t (nL t) ++ [93])) = acc ++ [91] ++ joinL (wrT m) t (nL t) ++ [93]) := by show _ = _; simp
  have hl0 : acc.length ≤ 100000000 := by omega
  clear h hS ih hl hg hb hT hlen
  go_enter Tryz.func78, Tryz.ntmps78
  go_wp2_with fail
  refine (wbyte_any w0.heap.size b acc 91 w w HS.out (by omega)).mono ?_
  rintro e w1 ⟨rfl, hw1⟩
  have H1 := hid hw1
  clear hw1
  go_wp2_with fail
  go_loopg [10] (nL t) (fun g i wr => ∃ k : Nat, g = nL t - k ∧ k ≤ nL t ∧ i = .int .i64 k ∧ Hid (WrP w0.heap.size b (acc ++ [91] ++ joinL (wrT m) t k) w wr))
  case atStart => exact ⟨0, rfl, Nat.zero_le _, rfl, H1.out.acc (by simp [joinL])⟩
  case round =>
    obtain ⟨k, rfl, hk, rfl, HW⟩ := hrel
    have Hbr := hid (Hb.out.trans HW.out.below)
    have HTr := hid (HST.out _ _ HT.out HW.out.below)
    by_cases hlt : k < nL t
    · obtain ⟨bb, o, A, B, C, D, rfl, hbl, p0, p1, p2, p3, p4, Ha⟩ := Hl.out.shape Hbr.out k hlt
      have HM1 := hid (HM.out (k + 1) hlt)
      have hm0 := HM.out k hk
      have HG := hid (Hg.out k hlt)
      have hblt := HW.out.blt
      have hB1 : Below wr.heap.size wr (wr.alloc (.cells #[.int .i64 (kindOf (elt t k)), .int .i64 (nOf (elt t k)), .string (sOf (elt t k)), .slice A (nL (elt t k)) B, .slice C (nK (elt t k)) D] 25)) := (Below.refl _ _).alloc (Nat.le_refl _) _
      have HB1 := hid hB1
      have HW1 := hid (HW.out.keep hB1)
      have HT1 := hid (HST.out _ _ HTr.out (hB1.mono HW.out.lo'))
      have Hb1 := hid (Hb.out.trans HW1.out.below)
      clear hB1
      by_cases hk0 : k = 0
      · have HJ : Hid (joinL (wrT m) t (k + 1) = joinL (wrT m) t k ++ wrT m (elt t k)) := by show joinL (wrT m) t k ++ _ = _; rw [if_pos hk0]; simp
        subst hk0
        simp only [Nat.zero_mul, Nat.add_zero] at p0 p1 p2 p3 p4
        go_wp2_with fail
        refine (Hih.out f _ (elt t 0) (acc ++ [91] ++ joinL (wrT m) t 0) b _ Ha.out HG.out Hb1.out HW1.out.isb HT1.out (by have := HM1.out; rw [HJ.out] at this; simp only [List.length_append, List.length_cons, List.length_nil] at this ⊢; omega)).mono ?_
        rintro e w2 ⟨rfl, hw2⟩
        have H2 := hid (HW1.out.trans hw2)
        clear hw2
        go_wp2_with fail
        go_roundg (nL t - (0 + 1))
        case rel => exact ⟨0 + 1, rfl, by omega, by go_num, H2.out.acc (by rw [HJ.out]; simp)⟩
        case measure => omega
      · have HJ : Hid (joinL (wrT m) t (k + 1) = joinL (wrT m) t k ++ ([44] ++ wrT m (elt t k))) := by show joinL (wrT m) t k ++ _ = _; rw [if_neg hk0]
        have y0 : 0 < k := by omega
        have y1 : (0 : Int) < (k : Int) := by omega
        clear hk0
        go_wp2_with fail
        refine (wbyte_any w0.heap.size b _ 44 w _ HW1.out (by simp only [List.length_append, List.length_cons, List.length_nil]; omega)).mono ?_
        rintro e w2 ⟨rfl, hw2⟩
        obtain ⟨r0, r1, r2, r3, r4⟩ := oth_box hw2.oth hblt
        have HW2 := hid (HW1.out.trans hw2)
        have HT2 := hid (HST.out _ _ HT1.out hw2.below)
        have Hb2 := hid (Hb.out.trans HW2.out.below)
        clear hw2
        go_wp2_with fail
        refine (Hih.out f _ (elt t k) (acc ++ [91] ++ joinL (wrT m) t k ++ [44]) b _ Ha.out HG.out Hb2.out HW2.out.isb HT2.out (by have := HM1.out; rw [HJ.out] at this; simp only [List.length_append, List.length_cons, List.length_nil] at this ⊢; omega)).mono ?_
        rintro e w3 ⟨rfl, hw3⟩
        have H3 := hid (HW2.out.trans hw3)
        clear hw3
        go_wp2_with fail
        go_roundg (nL t - (k + 1))
        case rel => exact ⟨k + 1, rfl, by omega, by go_num, H3.out.acc (by rw [HJ.out]; simp)⟩
        case measure => omega
    · obtain rfl : k = nL t := by omega
      have hm0 := HM.out (nL t) hk
      go_wp2_with fail
      refine (wbyte_any w0.heap.size b _ 93 w wr HW.out (by simp only [List.length_append, List.length_cons, List.length_nil]; omega)).mono ?_
      rintro e w2 ⟨rfl, hw2⟩
      have H2 := hid (HW.out.trans hw2)
      clear hw2
      go_wp2_with fail
      refine bodyPost_end (v := .tuple #[]) (by simp [results, Tryz.results78, go_sem]) rfl ?_
      exact ⟨rfl, H2.out.acc HE.out.symm⟩
end Go.Proofs.YtknakfpciccoaaaGreatDoor
