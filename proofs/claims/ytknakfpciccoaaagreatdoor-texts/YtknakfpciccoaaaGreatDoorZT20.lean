import Derived.Test.YtknakfpciccoaaaGreatDoorZT9
import Derived.Test.YtknakfpciccoaaaGreatDoorZT8
import Derived.Test.YtknakfpciccoaaaGreatDoorZT1
import Derived.Deep.LoopGhost
import Derived.Laws.IdiomStrings
import Derived.BigQuiet
import Derived.Test.YtknakfpciccoaaaGreatDoorZT4
import Derived.Laws.CopyOwn
/- Bytes and values, pure: what was read is written as it was. -/
namespace Go.Proofs.YtknakfpciccoaaaGreatDoor
open Go.RowKit

theorem presuf_list (s : ByteArray) (n : Nat) : s.data.toList = (pre s n).data.toList ++ (suf s n).data.toList := by
  by_cases h : n ≤ s.size
  · have hs : s.data.toList.length = s.size := rfl
    simp only [pre, suf, ByteArray.data_extract, Array.toList_extract, List.extract_eq_take_drop]
    simp only [List.drop_zero, Nat.sub_zero]
    rw [List.take_of_length_le (l := s.data.toList.drop n) (by rw [List.length_drop]; omega), List.take_append_drop]
  · have hs : s.data.toList.length = s.size := rfl
    simp only [pre, suf, ByteArray.data_extract, Array.toList_extract, List.extract_eq_take_drop]
    simp only [List.drop_zero, Nat.sub_zero]
    rw [List.drop_eq_nil_of_le (by omega), List.take_of_length_le (by omega)]
    simp
theorem byAt_add (n q : Int) {j k : Nat} (h : j < k) : byAt (n + 256 ^ k * q) j = byAt n j := by
  apply by_eq
  rw [byAt_toNat, byAt_toNat]
  have hp : (256 : Int) ^ j ≠ 0 := by
    have : (0 : Int) < 256 ^ j := Int.pow_pos (by decide)
    omega
  have e : (256 : Int) ^ k * q = 256 ^ j * (256 * (256 ^ (k - j - 1) * q)) := by
    have : k = j + (1 + (k - j - 1)) := by omega
    conv => lhs; rw [this, Int.pow_add, Int.pow_add]
    simp [Int.mul_assoc]
  rw [e, Int.add_mul_ediv_left _ _ hp, Int.add_mul_emod_self_left]
theorem beL_add (n q : Int) : ∀ (j k : Nat), j ≤ k → beL (n + 256 ^ k * q) j = beL n j
  | 0, _, _ => rfl
  | j + 1, k, h => by rw [beL, beL, byAt_add n q (by omega), beL_add n q j k (by omega)]
theorem numL_cons (c : UInt8) (l : List UInt8) : (numL (c :: l) : Int) = numL l + 256 ^ l.length * c.toNat := by
  have h : ∀ (l : List UInt8) (a : Nat), ((l.foldl (fun n c => n * 256 + c.toNat) a : Nat) : Int) = a * 256 ^ l.length + (l.foldl (fun n c => n * 256 + c.toNat) 0 : Nat) := by
    intro l
    induction l with
    | nil => intro a; simp
    | cons d l ih =>
      intro a
      rw [List.foldl_cons, List.foldl_cons, ih, ih (0 * 256 + d.toNat), List.length_cons, Int.pow_succ]
      have e1 : ((a * 256 + d.toNat : Nat) : Int) = a * 256 + d.toNat := by rw [Int.natCast_add, Int.natCast_mul]; rfl
      have e2 : ((0 * 256 + d.toNat : Nat) : Int) = d.toNat := by simp
      rw [e1, e2, Int.add_mul, Int.mul_assoc, Int.mul_comm 256 (256 ^ l.length)]
      omega
  unfold numL
  rw [List.foldl_cons, h]
  have e2 : ((0 * 256 + c.toNat : Nat) : Int) = c.toNat := by simp
  rw [e2, Int.mul_comm]
  omega
theorem beL_num : ∀ l : List UInt8, beL (numL l : Int) l.length = l
  | [] => rfl
  | c :: l => by
    have ih := beL_num l
    have hlt : (numL l : Int) < 256 ^ l.length := by
      have h1 := numL_lt l 0
      simp only [Nat.zero_add, Nat.one_mul] at h1
      have e : ((256 ^ l.length : Nat) : Int) = (256 : Int) ^ l.length := Int.natCast_pow 256 l.length
      rw [← e]
      exact Int.ofNat_lt.2 h1
    have hp : (0 : Int) < 256 ^ l.length := Int.pow_pos (by decide)
    rw [List.length_cons, beL, numL_cons, beL_add _ _ _ _ (Nat.le_refl _), ih]
    congr 1
    apply by_eq
    rw [byAt_toNat, Int.add_mul_ediv_left _ _ (by omega), Int.ediv_eq_zero_of_lt (by omega) hlt]
    have := c.toNat_lt
    omega
theorem beL_numB (s : ByteArray) {b : Nat} (h : s.size = b) : beL (numB s : Int) b = s.data.toList := by
  have := beL_num s.data.toList
  rw [show s.data.toList.length = b from h] at this
  exact this
theorem szB_list {s x r : ByteArray} {b : Nat} (h : szB s b = some (x, r)) : s.data.toList = beL (x.size : Int) b ++ (x.data.toList ++ r.data.toList) := by
  unfold szB at h
  split at h
  · cases h
  · split at h
    · cases h
    · rename_i h1 h2
      simp only [Option.some.injEq, Prod.mk.injEq] at h
      obtain ⟨rfl, rfl⟩ := h
      rw [pre_size (by omega), beL_numB _ (pre_size (by omega)), ← presuf_list, ← presuf_list]
/-- What entries are, as bytes. -/
def bodyL (g : T → List UInt8) : Bool → List ByteArray → List T → List UInt8
  | _, _, [] => []
  | false, ks, l :: ls => g l ++ bodyL g false ks ls
  | true, [], l :: ls => g l ++ bodyL g true [] ls
  | true, k :: ks, l :: ls => beL (k.size : Int) 2 ++ (k.data.toList ++ (g l ++ bodyL g true ks ls))
theorem body_false (g : T → List UInt8) (a b : List ByteArray) : ∀ ls : List T, bodyL g false a ls = bodyL g false b ls
  | [] => rfl
  | l :: ls => by rw [bodyL, bodyL, body_false g a b ls]
theorem list_nil {a : ByteArray} (h : a.size = 0) : a.data.toList = [] := nil_of h
theorem ents_list {f : ByteArray → Option (T × ByteArray)} {g : T → List UInt8} {p : T → Prop} (h : ∀ s t r, f s = some (t, r) → p t → s.data.toList = g t ++ r.data.toList) (o : Bool) : ∀ (n : Nat) (a : ByteArray) (ks : List ByteArray) (ls : List T), ents f o n a = some (ks, ls) → (∀ x ∈ ls, p x) → a.data.toList = bodyL g o ks ls
  | 0, a, ks, ls, he, _ => by
    unfold ents at he
    split at he
    · simp only [Option.some.injEq, Prod.mk.injEq] at he
      obtain ⟨rfl, rfl⟩ := he
      rw [list_nil ‹_›]
      cases o <;> rfl
    · cases he
  | n + 1, a, ks, ls, he, hp => by
    unfold ents at he
    split at he
    · simp only [Option.some.injEq, Prod.mk.injEq] at he
      obtain ⟨rfl, rfl⟩ := he
      rw [list_nil ‹_›]
      cases o <;> rfl
    · cases o with
      | false =>
        simp only [Bool.false_eq_true, if_false, Option.bind_some] at he
        cases hf : f a with
        | none => rw [hf] at he; cases he
        | some q =>
          rw [hf] at he
          simp only [Option.bind_some] at he
          cases hr : ents f false n q.2 with
          | none => rw [hr] at he; cases he
          | some r =>
            rw [hr] at he
            simp only [Option.bind_some, Option.some.injEq, Prod.mk.injEq] at he
            obtain ⟨rfl, rfl⟩ := he
            rw [h a q.1 q.2 hf (hp _ (by simp)), ents_list h false n q.2 r.1 r.2 hr (fun x hx => hp x (by simp [hx]))]
            rfl
      | true =>
        simp only [if_true] at he
        cases hz : szB a 2 with
        | none => rw [hz] at he; cases he
        | some p1 =>
          rw [hz] at he
          simp only [Option.bind_some] at he
          cases hf : f p1.2 with
          | none => rw [hf] at he; cases he
          | some q =>
            rw [hf] at he
            simp only [Option.bind_some] at he
            cases hr : ents f true n q.2 with
            | none => rw [hr] at he; cases he
            | some r =>
              rw [hr] at he
              simp only [Option.bind_some, Option.some.injEq, Prod.mk.injEq] at he
              obtain ⟨rfl, rfl⟩ := he
              rw [szB_list (x := p1.1) (r := p1.2) hz, h p1.2 q.1 q.2 hf (hp _ (by simp)), ents_list h true n q.2 r.1 r.2 hr (fun x hx => hp x (by simp [hx]))]
              rfl
theorem rest_body {g : T → List UInt8} {t : T} (h6 : kindOf t = 6 → nK t = nL t) : ∀ j k, k + j = nL t → restB g t k j = bodyL g (kindOf t == 6) ((kOf t).drop k) ((lOf t).drop k)
  | 0, k, hk => by
    have h1 : (lOf t).drop k = [] := List.drop_eq_nil_of_le (by show nL t ≤ k; omega)
    rw [h1]
    cases (kindOf t == 6) <;> rfl
  | j + 1, k, hk => by
    have hkl : k < nL t := by omega
    have ih := rest_body (g := g) h6 j (k + 1) (by omega)
    have eL : (lOf t).drop k = elt t k :: (lOf t).drop (k + 1) := dropC hkl
    rw [restB, ih, eL]
    by_cases k6 : kindOf t = 6
    · have e6 : (kindOf t == 6) = true := by simpa using k6
      have hkk : k < nK t := by have := h6 k6; omega
      have eK : (kOf t).drop k = nam t k :: (kOf t).drop (k + 1) := dropC hkk
      rw [e6, eK, nameE, if_pos k6]
      simp [bodyL]
    · have e6 : (kindOf t == 6) = false := by simpa using k6
      rw [e6, nameE, if_neg k6]
      rw [body_false g ((kOf t).drop (k + 1)) ((kOf t).drop k)]
      rfl
theorem num1 {s : ByteArray} (h : ¬ s.size < 1) {k : Int} (hk : (numB (pre s 1) : Int) = k) : s.data.toList = byAt k 0 :: (suf s 1).data.toList := by
  have h1 := beL_numB (pre s 1) (pre_size (by omega : 1 ≤ s.size))
  have h2 := presuf_list s 1
  rw [h2, ← h1, hk]
  rfl
theorem wrap_same (x : Int) : beL (IntKind.i64.wrap x) 8 = beL x 8 := by
  rw [← beL_wrap (IntKind.i64.wrap x) 8 (by omega), ← beL_wrap x 8 (by omega), IntKind.wrap_i64]
  congr 1
  omega
theorem leafE1 : leafE (leafT 1 0 ByteArray.empty) = [byAt 1 0] := rfl
theorem leafE2 (n : Int) : leafE (leafT 2 n ByteArray.empty) = [byAt 2 0, byAt n 0] := rfl
theorem leafE3 (n : Int) : leafE (leafT 3 n ByteArray.empty) = byAt 3 0 :: beL n 8 := rfl
theorem leafE4 (s : ByteArray) : leafE (leafT 4 0 s) = byAt 4 0 :: (beL s.size 4 ++ s.data.toList) := rfl
theorem step_enc {c : Bool} {b : Option (ByteArray → Option (T × ByteArray))} {d : Nat} {s r : ByteArray} {t : T}
    (hb : ∀ d', d = d' + 1 → ∀ f, b = some f → ∀ s t r, f s = some (t, r) → Good d' t → s.data.toList = encT d' t ++ r.data.toList) (h : stepD c b s = some (t, r)) (hg : Good d t) : s.data.toList = encT d t ++ r.data.toList := by
  have lf : ∀ (k n : Int) (x : ByteArray), k ≠ 5 → k ≠ 6 → encT d (leafT k n x) = leafE (leafT k n x) := fun k n x h5 h6 => encT_leaf h5 h6
  unfold stepD at h
  split at h
  · cases h
  · rename_i h0
    split at h
    · rename_i h1
      simp only [Option.some.injEq, Prod.mk.injEq] at h
      obtain ⟨rfl, rfl⟩ := h
      rw [lf _ _ _ (by omega) (by omega), num1 h0 (k := 1) (by omega), leafE1]
      rfl
    · split at h
      · rename_i h1
        split at h
        · cases h
        · rename_i h2
          split at h
          · cases h
          · simp only [Option.some.injEq, Prod.mk.injEq] at h
            obtain ⟨rfl, rfl⟩ := h
            rw [lf _ _ _ (by omega) (by omega), num1 h0 (k := 2) (by omega), num1 h2 rfl, leafE2]
            rfl
      · split at h
        · rename_i h1
          split at h
          · cases h
          · rename_i h2
            simp only [Option.some.injEq, Prod.mk.injEq] at h
            obtain ⟨rfl, rfl⟩ := h
            have e : leafE (leafT 3 (IntKind.i64.wrap (numB (pre (suf s 1) 8))) ByteArray.empty) = byAt 3 0 :: beL (IntKind.i64.wrap (numB (pre (suf s 1) 8))) 8 := leafE3 _
            rw [lf _ _ _ (by omega) (by omega), num1 h0 (k := 3) (by omega), e, wrap_same, beL_numB _ (pre_size (by omega)), List.cons_append, ← presuf_list]
        · split at h
          · rename_i h1
            cases hz : szB (suf s 1) 4 with
            | none => rw [hz] at h; cases h
            | some p =>
              rw [hz] at h
              simp only [Option.bind_some, Option.some.injEq, Prod.mk.injEq] at h
              obtain ⟨rfl, rfl⟩ := h
              have e : leafE (leafT 4 0 p.1) = byAt 4 0 :: (beL p.1.size 4 ++ p.1.data.toList) := leafE4 _
              rw [lf _ _ _ (by omega) (by omega), num1 h0 (k := 4) (by omega), e, szB_list (x := p.1) (r := p.2) hz]
              simp
          · split at h
            · rename_i hk
              cases b with
              | none => cases h
              | some f =>
                simp only [Option.bind_some] at h
                cases hz : szB (suf s 1) 4 with
                | none => rw [hz] at h; cases h
                | some p =>
                  rw [hz] at h
                  simp only [Option.bind_some] at h
                  cases he : ents f (numB (pre s 1) == 6) p.1.size p.1 with
                  | none => rw [he] at h; cases h
                  | some q =>
                    rw [he] at h
                    simp only [Option.bind_some, Option.some.injEq, Prod.mk.injEq] at h
                    obtain ⟨rfl, rfl⟩ := h
                    obtain ⟨d', rfl, hm⟩ := good_mem (by omega) hg
                    have hbb := ents_list (hb d' rfl f rfl) _ _ _ q.1 q.2 he hm
                    have hk2 : kindOf (mkT (numB (pre s 1)) 0 ByteArray.empty q.2 q.1) = (numB (pre s 1) : Int) := kindOf_mk _ _ _ _ _
                    have h6 : kindOf (mkT (numB (pre s 1)) 0 ByteArray.empty q.2 q.1) = 6 → nK (mkT (numB (pre s 1)) 0 ByteArray.empty q.2 q.1) = nL (mkT (numB (pre s 1)) 0 ByteArray.empty q.2 q.1) := fun h6 => by
                      rcases hg with ⟨_, _, hg⟩ | ⟨_, _, _, ⟨hg, _⟩ | ⟨_, hg, _⟩⟩
                      · rcases hg with ⟨hg, _⟩ | ⟨hg, _⟩ | ⟨hg, _⟩ | ⟨hg, _⟩ <;> omega
                      · omega
                      · exact hg
                    have hrb := rest_body (g := encT d') h6 _ 0 (Nat.zero_add _)
                    have hcr := catB_rest (encT d') (mkT (numB (pre s 1)) 0 ByteArray.empty q.2 q.1) (nL (mkT (numB (pre s 1)) 0 ByteArray.empty q.2 q.1)) 0
                    simp only [catB, List.nil_append, Nat.zero_add] at hcr
                    rw [List.drop_zero, List.drop_zero, lOf_mk, kOf_mk] at hrb
                    have h66 : (kindOf (mkT (numB (pre s 1)) 0 ByteArray.empty q.2 q.1) == 6) = (numB (pre s 1) == 6) := by
                      rw [hk2]
                      by_cases k6 : numB (pre s 1) = 6
                      · rw [k6]; rfl
                      · rw [beq_eq_false_iff_ne.2 k6, beq_eq_false_iff_ne.2 (by omega)]
                    rw [h66, ← hbb] at hrb
                    rw [encT_box (by rw [hk2]; omega), ← hcr, hrb, num1 h0 hk2.symm, szB_list (x := p.1) (r := p.2) hz]
                    have hl : p.1.data.toList.length = p.1.size := rfl
                    simp [boxE, kindB]
            · cases h
theorem P_enc : ∀ (d : Nat) (s r : ByteArray) (t : T), decP d s = some (t, r) → Good d t → s.data.toList = encT d t ++ r.data.toList
  | 0, s, r, t, h, hg => step_enc (b := none) (fun d' e => by omega) h hg
  | d + 1, s, r, t, h, hg => step_enc (b := some (decP d)) (fun d' e f hf => by
      cases hf
      have : d' = d := by omega
      subst this
      exact fun s t r h hg => P_enc d' s r t h hg) h hg
/-- What is read is written so. -/
theorem res_dec {s : ByteArray} {t : T} (h : resT s = some t) : s = baL (encT 12 t) ∧ isV t = true := by
  have hg := resT_good h
  have hv : isV t = true := (isV_iff t).2 hg
  rw [resT_P] at h
  split at h
  · cases h
  · cases hd : decP 12 s with
    | none => rw [hd] at h; cases h
    | some p =>
      rw [hd] at h
      simp only [Option.bind_some, okT] at h
      split at h
      · rename_i hc
        simp only [Option.some.injEq] at h
        subst h
        have := P_enc 12 s p.2 p.1 hd hg.1
        rw [list_nil hc.1, List.append_nil] at this
        exact ⟨by apply ba_extT; rw [this, baL_list], hv⟩
      · cases h
end Go.Proofs.YtknakfpciccoaaaGreatDoor
/- The walk of appendNumber. -/
namespace Go.Proofs.YtknakfpciccoaaaGreatDoor
open Go.RowKit

set_option maxHeartbeats 4000000 in
set_option maxRecDepth 100000 in
theorem appNum_any (w0 : World) (r : Value) (acc : List UInt8) (n : Int) (m : Nat) (w : World) (hr : w.ownsRow w0.heap.size 5 1 r acc.length (bytesV acc)) (hb : w0.heap.size ≤ w.heap.size) (_hn0 : 0 ≤ n) (_hn1 : n < 18446744073709551616) (hm : m ≤ 8) (hl : acc.length ≤ 1000000000) :
    Calls Tryz.prog 86 #[r, .int .u64 n, .int .i64 m] w fun e w' => ∃ r', e = .returned r' ∧ QG w0 r w r' (acc ++ beL n m) w' := by
  obtain ⟨iB, hiB, zB0, zB1, zB2⟩ := info_parts infoBE
  have HR := hid (QG.refl hr)
  clear hr
  go_enter Tryz.func86, Tryz.ntmps86
  go_wp2_with fail
  go_loopg [0, 7] m (fun g o i wr => ∃ (j : Nat) (a : List UInt8), g = j ∧ j ≤ m ∧ i = .int .i64 ((j : Int) - 1) ∧ a.length ≤ 1000000008 - j ∧ Hid (a ++ beL n j = acc ++ beL n m) ∧ Hid (QG w0 r w o a wr))
  case atStart => exact ⟨m, acc, rfl, Nat.le_refl _, by go_num, by omega, rfl, HR⟩
  case round =>
    obtain ⟨_, a, rfl, hj, rfl, hla, HE, HQ⟩ := hrel
    cases gk with
    | zero =>
      have e1 : ((0 : Nat) : Int) - 1 = -1 := by omega
      rw [e1]
      have HA : Hid (a = acc ++ beL n m) := by have := HE.out; show _ = _; simpa [beL] using this
      go_wp2_with fail
      go_ret
      exact ⟨_, rfl, HQ.out.acc HA.out⟩
    | succ i =>
      have e1 : ((i + 1 : Nat) : Int) - 1 = (i : Int) := by omega
      rw [e1]
      obtain ⟨q, hq⟩ : ∃ q : Nat, q = 8 * i := ⟨_, rfl⟩
      have f1 : IntKind.i64.wrap (8 * (i : Int)) = (q : Int) := by rw [IntKind.wrap_i64]; omega
      have f2 : q ≤ 56 := by omega
      have f3 : ((byAt n i).toNat : Int) = n / 2 ^ q % 256 := by rw [byAt_toNat, hq, Int.pow_mul]; rfl
      have f4 : IntKind.u8.wrap (n / 2 ^ q) = ((byAt n i).toNat : Int) := by rw [IntKind.wrap_u8]; omega
      have Hq := hid hq
      clear hq f3
      have hbw : w0.heap.size ≤ wr.heap.size := Nat.le_trans hb HQ.out.grown.size
      have HB1 : Hid (Below wr.heap.size wr (wr.alloc (.cells #[.int .u8 ((byAt n i).toNat : Int)] 5))) := (Below.refl _ _).alloc (Nat.le_refl _) _
      have HI1 := hid (HQ.out.keep HB1.out)
      have HSb : Hid (Src Tryz.prog 1 63 (.slice (some ⟨wr.heap.size, 0, none⟩) 1 1) 1 (bytesV [byAt n i]) (wr.alloc (.cells #[.int .u8 ((byAt n i).toNat : Int)] 5))) := hid (srcE_built wr [byAt n i])
      go_wp2_with (at_builtin; refine wpList_append_src _ rfl (.tmp 14) (.tmp 20) 63 63 rfl w0.heap.size 5 iB _ 1 1 Tryz.underlying63 hiB zB0 zB1 zB2 rfl u0 a.length (bytesV a) rfl HI1.out.row (.slice (some ⟨wr.heap.size, 0, none⟩) 1 1) 1 (bytesV [byAt n i]) rfl HSb.out (by unfold maxLen; omega) (by omega) (Nat.le_trans hbw HB1.out.size) ?_; intro v' w6 hO6 hG6 hat6)
      have H6 := hid (HI1.out.grow (l := [byAt n i]) hO6 hG6 hat6)
      clear hO6 hG6 hat6 HI1 HSb HB1
      have HE2 : Hid ((a ++ [byAt n i]) ++ beL n i = acc ++ beL n m) := by have := HE.out; show _ = _; rw [← this]; simp [beL]
      go_wp2_with fail
      go_roundg i
      case rel => exact ⟨i, a ++ [byAt n i], rfl, by omega, by go_num, by simp only [List.length_append, List.length_cons, List.length_nil]; omega, HE2, H6⟩
      case measure => omega
end Go.Proofs.YtknakfpciccoaaaGreatDoor
/- The walk of appendValue, of leaves. -/
namespace Go.Proofs.YtknakfpciccoaaaGreatDoor
open Go.RowKit

theorem QG.from {w0 w w1 : World} {o : Obj} {r r1 : Value} {a a1 : List UInt8} (hr : w.ownsRow w0.heap.size 5 1 r a.length (bytesV a)) (h : QG w0 r (w.alloc o) r1 a1 w1) : QG w0 r w r1 a1 w1 :=
  ((QG.refl hr).keep ((Below.refl _ _).alloc (Nat.le_refl _) o)).trans h
theorem QG.here {w0 w : World} {o : Obj} {r : Value} {a : List UInt8} (hr : w.ownsRow w0.heap.size 5 1 r a.length (bytesV a)) : QG w0 r (w.alloc o) r a (w.alloc o) :=
  QG.refl ((QG.refl hr).keep ((Below.refl _ _).alloc (Nat.le_refl _) o)).row
theorem wrapB (n : Int) : IntKind.u8.wrap n = ((byAt n 0).toNat : Int) := by rw [IntKind.wrap_u8, byAt_toNat]; simp
theorem wrapU_nonneg (n : Int) : 0 ≤ n % 18446744073709551616 ∧ n % 18446744073709551616 < 18446744073709551616 := ⟨Int.emod_nonneg _ (by omega), Int.emod_lt_of_pos _ (by omega)⟩
def AvSaid (w0 : World) (m : Nat) : Prop := ∀ (f : Nat) (v : Value) (t : T) (acc : List UInt8) (r : Value) (w : World), At w0 f v t → Good m t → Below w0.heap.size w0 w → w.ownsRow w0.heap.size 5 1 r acc.length (bytesV acc) → acc.length + (encT m t).length ≤ 100000000 →
    Calls Tryz.prog 46 #[r, v] w fun e w' => ∃ r', e = .returned r' ∧ QG w0 r w r' (acc ++ encT m t) w'
set_option maxHeartbeats 4000000 in
set_option maxRecDepth 100000 in
theorem appVal_leaf (w0 : World) (t : T) (hg : leafGood t) (ht : Fits t) (acc : List UInt8) (r : Value) (w : World) (La Ka : Option Addr) (Lc Kc : Nat) (hb : w0.heap.size ≤ w.heap.size) (hr : w.ownsRow w0.heap.size 5 1 r acc.length (bytesV acc)) (hl : acc.length + (leafE t).length ≤ 100000000) :
    Calls Tryz.prog 46 #[r, .agg #[.int .i64 (kindOf t), .int .i64 (nOf t), .string (sOf t), .slice La (nL t) Lc, .slice Ka (nK t) Kc]] w fun e w' => ∃ r', e = .returned r' ∧ QG w0 r w r' (acc ++ leafE t) w' := by
  obtain ⟨iB, hiB, zB0, zB1, zB2⟩ := info_parts infoBE
  have HR := hid hr
  have HFt := hid ht
  have hl1 : acc.length ≤ 100000000 := by omega
  have Hl := hid hl
  clear hr ht hl
  have fk : IntKind.u8.wrap (kindOf t) = ((kindB t).toNat : Int) := wrapB _
  have H0 : Hid (QG w0 r (w.alloc (.cells #[.int .i64 (kindOf t), .int .i64 (nOf t), .string (sOf t), .slice La (nL t) Lc, .slice Ka (nK t) Kc] 25)) r acc (w.alloc (.cells #[.int .i64 (kindOf t), .int .i64 (nOf t), .string (sOf t), .slice La (nL t) Lc, .slice Ka (nK t) Kc] 25))) := QG.here HR.out
  have HB1 : Hid (Below (w.heap.size + 1) (w.alloc (.cells #[.int .i64 (kindOf t), .int .i64 (nOf t), .string (sOf t), .slice La (nL t) Lc, .slice Ka (nK t) Kc] 25)) ((w.alloc (.cells #[.int .i64 (kindOf t), .int .i64 (nOf t), .string (sOf t), .slice La (nL t) Lc, .slice Ka (nK t) Kc] 25)).alloc (.cells #[.int .u8 ((kindB t).toNat : Int)] 5))) := (Below.refl _ _).alloc (by simp) _
  have HI1 := hid (H0.out.keep (HB1.out.mono (by simp)))
  have HSb : Hid (Src Tryz.prog 1 63 (.slice (some ⟨w.heap.size + 1, 0, none⟩) 1 1) 1 (bytesV [kindB t]) ((w.alloc (.cells #[.int .i64 (kindOf t), .int .i64 (nOf t), .string (sOf t), .slice La (nL t) Lc, .slice Ka (nK t) Kc] 25)).alloc (.cells #[.int .u8 ((kindB t).toNat : Int)] 5))) := by
    have := srcE_built (w.alloc (.cells #[.int .i64 (kindOf t), .int .i64 (nOf t), .string (sOf t), .slice La (nL t) Lc, .slice Ka (nK t) Kc] 25)) [kindB t]
    apply hid
    simpa [bytesV] using this
  have hbz : w0.heap.size ≤ ((w.alloc (.cells #[.int .i64 (kindOf t), .int .i64 (nOf t), .string (sOf t), .slice La (nL t) Lc, .slice Ka (nK t) Kc] 25)).alloc (.cells #[.int .u8 ((kindB t).toNat : Int)] 5)).heap.size := by simp; omega
  obtain ⟨g1, g2, hg⟩ := hg
  clear g1 g2
  rcases hg with ⟨hk, g3⟩ | ⟨hk, hn, g3⟩ | ⟨hk, g3⟩ | ⟨hk, g3, hsz, g4⟩
  all_goals clear g3
  · skip
    have e2 : (kindOf t == 2) = false := by rw [hk]; rfl
    have e3 : (kindOf t == 3) = false := by rw [hk]; rfl
    have e4 : (kindOf t == 4) = false := by rw [hk]; rfl
    have e5 : (kindOf t == 5) = false := by rw [hk]; rfl
    have e6 : (kindOf t == 6) = false := by rw [hk]; rfl
    have HW : Hid (leafE t = [kindB t]) := by show _ = _; unfold leafE; rw [if_neg (by omega), if_neg (by omega), if_neg (by omega)]
    clear hk
    go_enter Tryz.func46, Tryz.ntmps46
    go_wp2_with (at_builtin; refine wpList_append_src _ rfl (.tmp 5) (.tmp 9) 63 63 rfl w0.heap.size 5 iB _ 1 1 Tryz.underlying63 hiB zB0 zB1 zB2 rfl r acc.length (bytesV acc) rfl HI1.out.row (.slice (some ⟨w.heap.size + 1, 0, none⟩) 1 1) 1 (bytesV [kindB t]) rfl HSb.out (by unfold maxLen; omega) (by omega) hbz ?_; intro r1 w1 hO1 hG1 hat1; have HQ1 := hid (HI1.out.grow (l := [kindB t]) hO1 hG1 hat1); clear hO1 hG1 hat1 HI1 HSb HB1 H0 hbz; obtain ⟨q0, q1, q2, q3, q4, hz⟩ := QG.box HR.out HQ1.out; have hb1 : w0.heap.size ≤ w1.heap.size := by omega)
    go_ret
    exact ⟨_, rfl, by rw [HW.out]; exact HQ1.out.from HR.out⟩
  · skip
    have e2 : (kindOf t == 2) = true := by rw [hk]; rfl
    have HW : Hid (leafE t = [kindB t] ++ [byAt (nOf t) 0]) := by show _ = _; unfold leafE; rw [if_pos hk]; rfl
    have fn : IntKind.u8.wrap (nOf t) = ((byAt (nOf t) 0).toNat : Int) := wrapB _
    have HSc := hid (fun w : World => srcE_built w [byAt (nOf t) 0])
    generalize hc : byAt (nOf t) 0 = c at fn HSc
    have Hc := hid hc
    clear hk hn hc
    go_enter Tryz.func46, Tryz.ntmps46
    go_wp2_with (first | (at_builtin; refine wpList_append_src _ rfl (.tmp 5) (.tmp 9) 63 63 rfl w0.heap.size 5 iB _ 1 1 Tryz.underlying63 hiB zB0 zB1 zB2 rfl r acc.length (bytesV acc) rfl HI1.out.row (.slice (some ⟨w.heap.size + 1, 0, none⟩) 1 1) 1 (bytesV [kindB t]) rfl HSb.out (by unfold maxLen; omega) (by omega) hbz ?_; intro r1 w1 hO1 hG1 hat1; have HQ1 := hid (HI1.out.grow (l := [kindB t]) hO1 hG1 hat1); clear hO1 hG1 hat1 HI1 HSb HB1 H0 hbz; obtain ⟨q0, q1, q2, q3, q4, hz⟩ := QG.box HR.out HQ1.out; have hb1 : w0.heap.size ≤ w1.heap.size := by omega) | (at_builtin; refine wpList_append_src _ rfl (.tmp 15) (.tmp 19) 63 63 rfl w0.heap.size 5 iB _ 1 1 Tryz.underlying63 hiB zB0 zB1 zB2 rfl r1 (acc ++ [kindB t]).length (bytesV (acc ++ [kindB t])) rfl (HQ1.out.keep ((Below.refl _ _).alloc (Nat.le_refl _) (.cells #[.int .u8 (c.toNat : Int)] 5))).row (.slice (some ⟨w1.heap.size, 0, none⟩) 1 1) 1 (bytesV [c]) rfl (HSc.out w1) (by simp only [List.length_append, List.length_cons, List.length_nil]; unfold maxLen; omega) (by simp only [List.length_append, List.length_cons, List.length_nil]; omega) (by simp; omega) ?_; intro r2 w2 hO2 hG2 hat2; have HQ2 := hid ((HQ1.out.keep ((Below.refl _ _).alloc (Nat.le_refl _) (.cells #[.int .u8 (c.toNat : Int)] 5))).grow (l := [c]) hO2 hG2 hat2); clear hO2 hG2 hat2))
    go_ret
    exact ⟨_, rfl, by rw [HW.out, Hc.out, ← List.append_assoc]; exact HQ2.out.from HR.out⟩
  · skip
    have e2 : (kindOf t == 2) = false := by rw [hk]; rfl
    have e3 : (kindOf t == 3) = true := by rw [hk]; rfl
    have HW : Hid (leafE t = [kindB t] ++ beL (nOf t) 8) := by show _ = _; unfold leafE; rw [if_neg (by omega), if_pos hk]; rfl
    obtain ⟨N, hN⟩ : ∃ N : Int, N = nOf t % 18446744073709551616 := ⟨_, rfl⟩
    have fn : IntKind.u64.wrap (nOf t) = N := by rw [hN, IntKind.wrap_u64]
    have HN : Hid (beL N 8 = beL (nOf t) 8) := by show _ = _; rw [hN]; exact beL_wrap _ 8 (by omega)
    have HN2 := hid (hN ▸ wrapU_nonneg (nOf t))
    clear hk hN
    go_enter Tryz.func46, Tryz.ntmps46
    go_wp2_with (at_builtin; refine wpList_append_src _ rfl (.tmp 5) (.tmp 9) 63 63 rfl w0.heap.size 5 iB _ 1 1 Tryz.underlying63 hiB zB0 zB1 zB2 rfl r acc.length (bytesV acc) rfl HI1.out.row (.slice (some ⟨w.heap.size + 1, 0, none⟩) 1 1) 1 (bytesV [kindB t]) rfl HSb.out (by unfold maxLen; omega) (by omega) hbz ?_; intro r1 w1 hO1 hG1 hat1; have HQ1 := hid (HI1.out.grow (l := [kindB t]) hO1 hG1 hat1); clear hO1 hG1 hat1 HI1 HSb HB1 H0 hbz; obtain ⟨q0, q1, q2, q3, q4, hz⟩ := QG.box HR.out HQ1.out; have hb1 : w0.heap.size ≤ w1.heap.size := by omega)
    rw [show (Value.int .i64 8) = .int .i64 ((8 : Nat) : Int) from rfl]
    refine (appNum_any w0 r1 (acc ++ [kindB t]) N 8 w1 HQ1.out.row hb1 HN2.out.1 HN2.out.2 (by omega) (by simp only [List.length_append, List.length_cons, List.length_nil]; omega)).mono ?_
    rintro e w2 ⟨r2, rfl, hq2⟩
    have HQ2 := hid (HQ1.out.trans hq2)
    clear hq2
    go_wp2_with fail
    go_ret
    exact ⟨_, rfl, by rw [HW.out, ← HN.out, ← List.append_assoc]; exact HQ2.out.from HR.out⟩
  · skip
    have e2 : (kindOf t == 2) = false := by rw [hk]; rfl
    have e3 : (kindOf t == 3) = false := by rw [hk]; rfl
    have e4 : (kindOf t == 4) = true := by rw [hk]; rfl
    have HW : Hid (leafE t = [kindB t] ++ beL (sOf t).size 4 ++ (sOf t).data.toList) := by show _ = _; unfold leafE; rw [if_neg (by omega), if_neg (by omega), if_pos hk]; simp
    generalize sOf t = s at *
    clear hk
    go_enter Tryz.func46, Tryz.ntmps46
    go_wp2_with (at_builtin; refine wpList_append_src _ rfl (.tmp 5) (.tmp 9) 63 63 rfl w0.heap.size 5 iB _ 1 1 Tryz.underlying63 hiB zB0 zB1 zB2 rfl r acc.length (bytesV acc) rfl HI1.out.row (.slice (some ⟨w.heap.size + 1, 0, none⟩) 1 1) 1 (bytesV [kindB t]) rfl HSb.out (by unfold maxLen; omega) (by omega) hbz ?_; intro r1 w1 hO1 hG1 hat1; have HQ1 := hid (HI1.out.grow (l := [kindB t]) hO1 hG1 hat1); clear hO1 hG1 hat1 HI1 HSb HB1 H0 hbz; obtain ⟨q0, q1, q2, q3, q4, hz⟩ := QG.box HR.out HQ1.out; have hb1 : w0.heap.size ≤ w1.heap.size := by omega)
    have fz : IntKind.u64.wrap (s.size : Int) = (s.size : Int) := by rw [IntKind.wrap_u64]; omega
    have HQd := hid (HQ1.out.keep (below_drew w1))
    have hbd : w0.heap.size ≤ w1.drew.heap.size := by simpa using hb1
    have hl2 : (acc ++ [kindB t]).length ≤ 100000001 := by simp only [List.length_append, List.length_cons, List.length_nil]; omega
    have HC := hid (appNum_any w0 r1 (acc ++ [kindB t]) (s.size : Int) 4 w1.drew HQd.out.row hbd (by omega) (by omega) (by omega) (by omega))
    have hl3 : ((acc ++ [kindB t]) ++ beL (s.size : Int) 4).length ≤ 100000005 := by rw [List.length_append, beL_len]; omega
    generalize hA : (acc ++ [kindB t]) ++ beL (s.size : Int) 4 = acc2 at HC hl3
    have HA := hid hA
    clear hA hl2 g4
    go_region_law (first | (refine step_append_src _ (by rfl) (.tmp 35) (.tmp 37) 63 9 (by rfl) w0.heap.size 5 iB _ 1 1 Tryz.underlying63 hiB zB0 zB1 zB2 rfl r2 acc2.length (bytesV acc2) (by rfl) HQ2.out.row (.string s) s.size (bytesV s.data.toList) (by rfl) (src_bytes _ Tryz.underlying9 s) (by unfold maxLen; omega) (by omega) hb2 ?_; intro r3 w3 hO3 hG3 hat3) | (go_simp; go_wp2_with (go_at_call 86; refine HC.out.mono ?_; rintro e w2 ⟨r2, rfl, hq2⟩; have HQ2 := hid (HQd.out.trans hq2); obtain ⟨p0, p1, p2, p3, p4, hz2⟩ := QG.box HR.out HQ2.out; have hb2 : w0.heap.size ≤ w2.heap.size := by omega)))
    all_goals
      have HQ3 := hid (HQ2.out.grow (l := s.data.toList) hO3 hG3 hat3)
      clear hO3 hG3 hat3 hq2 HQ2
      go_wp2_with fail
      go_ret
      exact ⟨_, rfl, by rw [HW.out, ← List.append_assoc, ← List.append_assoc, HA.out]; exact HQ3.out.from HR.out⟩
end Go.Proofs.YtknakfpciccoaaaGreatDoor
/- The walk of appendEntries: laws, and the loop. -/
namespace Go.Proofs.YtknakfpciccoaaaGreatDoor
open Go.RowKit

theorem step_copy_row {P : Program} {ops : Array Oper} {o : Oper} {a : Act} {w : World} {K : Act → World → Prop} {Q : Exit → Act → World → Prop} {E : Prop} (hgd : o.guard = none) (d s : Operand) (dT sT : TypeId)
    (ho : o.op = .call { callee := .builtin .copy, args := #[d, s], argTypes := #[dT, sT] }) (elem : TypeId) (hu : P.underlying dT = some (.slice elem)) (hsz : (P.info? elem).map (·.size) = some 1)
    (g off dLen dCap : Nat) (ad : Addr) (sLen sCap : Nat) (hd : a.eval d = .slice (some ⟨g, off, none⟩) dLen dCap) (hs : a.eval s = .slice (some ad) sLen sCap)
    (cur : Array Value) (t : TypeId) (hg : w.heap[g]? = some (.cells cur t (0, 0))) (cs : List Value) (hn : cs.length = Nat.min sLen dLen)
    (hsrc : ∀ j v, cs[j]? = some v → w.cell? (ad.add j) = some v) (hfit : off + cs.length ≤ cur.size) (h1 : ∀ v ∈ cs, v.oneCell' = true) (w' : World) (hw' : w' = w.setRow g (cur.toList.take off ++ (cs ++ cur.toList.drop (off + cs.length))).toArray)
    (h : K (a.put o.dst (goInt cs.length)) w') :
    if Region.wanted o (yielded ops a.tmps) = true then Oper.wp P o a w K Q else E := by
  subst hw'
  have hw : Region.wanted o (yielded ops a.tmps) = true := by simp [Region.wanted, hgd]
  rw [if_pos hw]
  have hrun := run_copy_row (P := P) w dT sT o.type elem g off dLen dCap ad sLen sCap cur t cs hu hsz hg hn hsrc hfit h1
  unfold Oper.wp
  simp [execOp, ho, resolve, invoke, builtin, hd, hs, hrun, Result.andThen]
  exact h
theorem take_splice {α : Type} (xs rest cs : List α) (off : Nat) (h : off + cs.length ≤ xs.length) : ((xs ++ rest).take off ++ (cs ++ (xs ++ rest).drop (off + cs.length))).take xs.length = xs.take off ++ (cs ++ xs.drop (off + cs.length)) := by
  have e1 : (xs ++ rest).take off = xs.take off := List.take_append_of_le_length (by omega)
  have e2 : (xs ++ rest).drop (off + cs.length) = xs.drop (off + cs.length) ++ rest := List.drop_append_of_le_length h
  rw [e1, e2]
  have e : xs.take off ++ (cs ++ (xs.drop (off + cs.length) ++ rest)) = (xs.take off ++ (cs ++ xs.drop (off + cs.length))) ++ rest := by simp
  rw [e]
  have hl : (xs.take off ++ (cs ++ xs.drop (off + cs.length))).length = xs.length := by simp; omega
  rw [← hl]
  exact List.take_left
theorem QG.copy {w0 w w1 : World} {r : Value} {g cap n : Nat} {all cs out : List UInt8} {off : Nat} (hn : n = all.length) (h : QG w0 r w (.slice (some ⟨g, 0, none⟩) n cap) all w1) (hfit : off + cs.length ≤ all.length) (ho : out = all.take off ++ (cs ++ all.drop (off + cs.length))) :
    ∃ cur, w1.heap[g]? = some (.cells cur 5 (0, 0)) ∧ off + (bytesV cs).length ≤ cur.size ∧ n ≤ cap ∧ QG w0 r w (.slice (some ⟨g, 0, none⟩) n cap) out (w1.setRow g (cur.toList.take off ++ (bytesV cs ++ cur.toList.drop (off + (bytesV cs).length))).toArray) := by
  subst ho
  have hl : (all.take off ++ (cs ++ all.drop (off + cs.length))).length = all.length := by simp; omega
  obtain ⟨hx, ⟨h1, _⟩ | ⟨g', cap', cur, he, hb0, hg, hnc, hcm, hcs, ht⟩⟩ := h.row
  · cases h1
  simp only [Value.slice.injEq, Option.some.injEq, Addr.mk.injEq] at he
  obtain ⟨⟨rfl, _⟩, _, rfl⟩ := he
  rw [Nat.mul_one] at ht hcs
  have hc : cur.toList = bytesV all ++ cur.toList.drop all.length := by conv => lhs; rw [← List.take_append_drop all.length cur.toList, ht]
  have hbl := bytesV_length cs
  have hba := bytesV_length all
  refine ⟨cur, hg, by omega, by omega, ⟨?_, ⟨h.grown.os, h.grown.tape, h.grown.output, by simpa using h.grown.size, fun k hk hne => ?_⟩, h.own⟩⟩
  · rw [hl]
    refine ⟨by rw [bytesV_length, hl, Nat.mul_one], .inr ⟨g, cap, _, by rw [hn], hb0, setRow_heap w1 g cur _ _ _ hg, hnc, hcm, ?_, ?_⟩⟩
    · simp only [List.size_toArray, List.length_append, List.length_take, List.length_drop, Array.length_toList]
      omega
    · rw [Nat.mul_one]
      show List.take all.length (_ : Array Value).toList = _
      have := take_splice (bytesV all) (cur.toList.drop all.length) (bytesV cs) off (by omega)
      rw [← hc, hba] at this
      simp only [bytesV_append]
      refine (by simpa using this : _ = _).trans ?_
      simp [bytesV, List.map_take, List.map_drop]
  · rw [setRow_other w1 g k _ (fun e => ?_), h.grown.block k hk hne]
    subst e
    rcases h.own with h1 | ⟨b, h1, h2⟩
    · exact hne h1
    · simp only [Value.ownBlock, Option.some.injEq] at h1
      omega
theorem rowE_shape {w : World} {lo : Nat} {e : TypeId} {size n : Nat} {v : Value} {xs : List Value} (h : w.ownsRow lo e size v n xs) (h0 : 0 < n) : ∃ g cap, v = .slice (some ⟨g, 0, none⟩) n cap ∧ n ≤ cap ∧ cap ≤ maxLen := by
  rcases h.2 with ⟨rfl, rfl⟩ | ⟨g, cap, cur, rfl, hlo, hg, hnc, hm, _⟩
  · omega
  · exact ⟨g, cap, rfl, hnc, hm⟩
theorem rowE_shape0 {w : World} {lo : Nat} {e : TypeId} {size n : Nat} {v : Value} {xs : List Value} (h : w.ownsRow lo e size v n xs) : ∃ A cap, v = .slice A n cap := by
  rcases h.2 with ⟨rfl, rfl⟩ | ⟨g, cap, cur, rfl, hlo, hg, hnc, hm, _⟩
  · exact ⟨none, 0, rfl⟩
  · exact ⟨_, cap, rfl⟩
theorem QG.nil (w0 w : World) : QG w0 (.slice none 0 0) w (.slice none 0 0) [] w := QG.refl (World.ownsRow_nil w w0.heap.size 5 1)
/-- What a row of one's own beside another one leaves as it was. -/
theorem QG.beside {w0 w w1 w2 : World} {r r1 r2 : Value} {a1 a2 : List UInt8} (h : QG w0 r w r1 a1 w1) (k : QG w0 (.slice none 0 0) w1 r2 a2 w2) : QG w0 r w r1 a1 w2 :=
  h.keep ⟨k.grown.os, k.grown.tape, k.grown.output, k.grown.size, fun b hb => k.grown.block b hb (by simp [Value.ownBlock])⟩
end Go.Proofs.YtknakfpciccoaaaGreatDoor
