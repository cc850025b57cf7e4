import Derived.Test.YtknakfpciccoaaaDoorZO5
import Derived.Test.YtknakfpciccoaaaDoorZO2
import Derived.Test.YtknakfpciccoaaaDoorProg
import Derived.Test.YtknakfpciccoaaaDoorZO1
import Derived.WalkKit
import Derived.WalkSpells
import Derived.WalkLawsBesides
import Derived.Deep.LoopGhost
/- Texts as values: how much a value holds that was read. -/
namespace Go.Proofs.YtknakfpciccoaaaDoor
open Go.RowKit

theorem elt_mem {k n : Int} {s : ByteArray} {l : List T} {ks : List ByteArray} {i : Nat} (hi : i < nL (mkT k n s l ks)) : elt (mkT k n s l ks) i ∈ l := by
  unfold elt
  unfold nL at hi
  rw [lOf_mk] at hi ⊢
  have e : l.getD i DataW.nil = l[i] := by simp [List.getD, List.getElem?_eq_getElem hi]
  rw [e]
  exact List.getElem_mem hi
theorem shal_mk {f : Nat} {k n : Int} {s : ByteArray} {l : List T} {ks : List ByteArray} (hl : ∀ x ∈ l, Shal f x) : Shal (f + 1) (mkT k n s l ks) := fun _ hi => hl _ (elt_mem hi)
theorem bareV_shal {f : Nat → Option (T × Nat)} {s : ByteArray} {n : Nat} (hf : ∀ i t e, i ≤ s.size → f i = some (t, e) → i < e ∧ e ≤ s.size) (hg : ∀ i t e, i ≤ s.size → f i = some (t, e) → Shal n t) {j : Nat} {t : T} {e : Nat} (h : bareV f s j = some (t, e)) : Shal (n + 1) t := by
  have hleaf : ∀ k m x, t = leafT k m x → Shal (n + 1) t := by
    intro k m x hx
    subst hx
    exact shal_mk (by simp)
  have hbox : ∀ (o : Bool) (k : Int), cB s j < 256 → (boxS f s o (j + 1)).map (fun r => (mkT k 0 ByteArray.empty r.1.2 r.1.1, r.2)) = some (t, e) → Shal (n + 1) t := by
    intro o k hc hh
    have hj1 := cB_in hc
    have h5 := sk_le (s := s) (i := j + 1) (by omega)
    cases hb : boxS f s o (j + 1) with
    | none => rw [hb] at hh; cases hh
    | some r =>
      rw [hb] at hh
      simp only [Option.map_some, Option.some.injEq, Prod.mk.injEq] at hh
      obtain ⟨rfl, rfl⟩ := hh
      unfold boxS at hb
      split at hb
      · simp only [Option.some.injEq] at hb
        subst hb
        exact shal_mk (by simp)
      · exact shal_mk (itm_cnt (g := fun _ => 0) (P := Shal n) hf (fun i t e hi h => ⟨Nat.zero_le _, hg i t e hi h⟩) o _ _ r h5 hb).2.1
  unfold bareV at h
  split at h
  · cases ht : txtS s j with
    | none => rw [ht] at h; cases h
    | some q =>
      rw [ht] at h
      simp only [Option.map_some, Option.some.injEq, Prod.mk.injEq] at h
      exact hleaf _ _ _ h.1.symm
  · split at h
    · exact hbox _ _ (by omega) h
    · split at h
      · exact hbox _ _ (by omega) h
      · split at h
        · cases ht : numS s j with
          | none => rw [ht] at h; cases h
          | some q =>
            rw [ht] at h
            simp only [Option.map_some, Option.some.injEq, Prod.mk.injEq] at h
            exact hleaf _ _ _ h.1.symm
        · split at h
          · simp only [Option.some.injEq, Prod.mk.injEq] at h
            exact hleaf _ _ _ h.1.symm
          · split at h
            · simp only [Option.some.injEq, Prod.mk.injEq] at h
              exact hleaf _ _ _ h.1.symm
            · split at h
              · simp only [Option.some.injEq, Prod.mk.injEq] at h
                exact hleaf _ _ _ h.1.symm
              · cases h
theorem valN_shal {s : ByteArray} : ∀ (n i : Nat) (t : T) (e : Nat), i ≤ s.size → valN s n i = some (t, e) → Shal n t
  | 0, _, _, _, _, h => by cases h
  | n + 1, i, t, e, _, h => by
    rw [valN] at h
    exact bareV_shal (fun i t e => valN_adv n i t e) (fun i t e => valN_shal n i t e) h
theorem tame_shal : ∀ (f m : Nat) (t : T), Shal f t → Tame f t → Tame m t
  | 0, _, _, h, _ => h.elim
  | _ + 1, 0, _, _, _ => trivial
  | f + 1, m + 1, _, h, ht => ⟨ht.1, ht.2.1, fun i hi => tame_shal f m _ (h i hi) (ht.2.2 i hi)⟩
theorem sumL_le {g g' : T → Nat} {t : T} : ∀ k, (∀ i, i < k → g (elt t i) ≤ g' (elt t i)) → sumL g t k ≤ sumL g' t k
  | 0, _ => Nat.le_refl _
  | k + 1, h => by
    have h1 := sumL_le (g := g) (g' := g') (t := t) k (fun i hi => h i (by omega))
    have h2 := h k (by omega)
    simp only [sumL]
    omega
theorem cnt_shal : ∀ (f m : Nat) (t : T), Shal f t → cntT m t ≤ cntT f t
  | 0, _, _, h => h.elim
  | f + 1, 0, _, _ => by simp only [cntT]; omega
  | f + 1, m + 1, t, h => by
    have := sumL_le (g := cntT m) (g' := cntT f) (t := t) (nL t) (fun i hi => cnt_shal f m _ (h i hi))
    simp only [cntT]
    omega
/-- A text that is one. -/
theorem eJ_zero {s : ByteArray} (h : eJ s = 0) : s.size ≤ 4000 ∧ ∃ j, valN s (s.size + 1) 0 = some (tJ s, j) ∧ sk s j = s.size ∧ deepT (s.size + 1) (tJ s) ≤ 12 ∧ twiceT (s.size + 1) (tJ s) = false := by
  have hs : s.size ≤ 4000 := by
    rcases Nat.lt_or_ge 4000 s.size with hl | hl
    · unfold eJ at h; rw [if_pos hl] at h; omega
    · exact hl
  refine ⟨hs, ?_⟩
  cases hf : fullJ s with
  | none => unfold eJ at h; rw [if_neg (by omega), hf] at h; cases h
  | some t =>
    have ht : tJ s = t := by unfold tJ; rw [if_pos h, hf]; rfl
    unfold eJ at h
    rw [if_neg (by omega), hf] at h
    simp only [Option.map_some, Option.getD_some] at h
    unfold fullJ at hf
    cases hv : valN s (s.size + 1) 0 with
    | none => rw [hv] at hf; cases hf
    | some p =>
      rw [hv] at hf
      simp only [Option.bind_some] at hf
      split at hf
      · rename_i hsk
        simp only [Option.some.injEq] at hf
        subst hf
        rw [ht]
        refine ⟨p.2, rfl, hsk, ?_, ?_⟩
        · rcases Nat.lt_or_ge 12 (deepT (s.size + 1) p.1) with hl | hl
          · rw [if_pos hl] at h; omega
          · exact hl
        · by_cases hd : 12 < deepT (s.size + 1) p.1
          · rw [if_pos hd] at h; omega
          · rw [if_neg hd] at h
            cases htw : twiceT (s.size + 1) p.1 with
            | false => rfl
            | true => rw [htw] at h; simp at h
      · cases hf
theorem tJ_cnt {s : ByteArray} (h : eJ s = 0) (m : Nat) : cntT m (tJ s) ≤ 4000 ∧ Tame m (tJ s) := by
  obtain ⟨hs, j, hv, hj, _⟩ := eJ_zero h
  have h1 := valN_cnt _ _ _ _ (by omega) hv
  have h2 := valN_shal _ _ _ _ (by omega) hv
  have h3 := cnt_shal _ m _ h2
  have h4 := valN_adv _ _ _ _ (by omega) hv
  exact ⟨by omega, tame_shal _ m _ h2 h1.2⟩
end Go.Proofs.YtknakfpciccoaaaDoor
/- The walks of sheafref.numbers and its kin: what each returns. -/
namespace Go.Proofs.YtknakfpciccoaaaDoor
open Go.RowKit

set_option maxHeartbeats 400000 in
theorem numbers_any (a b : Int) (w : World) :
    Calls Tryd.prog 68 #[.int .i64 a, .int .i64 b] w fun e w' => e = .returned (.int .i64 (cmpI a b)) ∧ w' = w := by
  go_enter Tryd.func68, Tryd.ntmps68
  go_wp2
  all_goals (go_ret; refine ⟨?_, rfl⟩)
  · exact ret_int (cmpI_lt (by assumption)).symm
  · exact ret_int (cmpI_gt (by assumption)).symm
  · exact ret_int (cmpI_eq (by assumption) (by assumption)).symm

set_option maxHeartbeats 400000 in
theorem deep_any (m : Nat) : ∀ (f : Nat) (v : Value) (t : T) (w : World), At w f v t → m ≤ 100 →
    Calls Tryd.prog 49 #[v, .int .i64 m] w fun e w' => e = .returned (.int .i64 (deepT m t)) ∧ Below w.heap.size w w' := by
  induction m with
  | zero =>
    intro f v t w h _
    obtain ⟨f, La, Ka, Lc, Kc, rfl, rfl, hf, hl, hk⟩ := h.open
    go_enter Tryd.func49, Tryd.ntmps49
    go_wp2_with fail
    go_ret
    exact ⟨by simp [deepT], (Below.refl _ _).alloc (Nat.le_refl _) _⟩
  | succ m ih =>
    intro f v t w h hm
    obtain ⟨f, La, Ka, Lc, Kc, rfl, rfl, hf, hl, hk⟩ := h.open
    have hlen := hf.l1
    clear h hf hk
    by_cases h5 : isBox t = true
    · have e5 : ((kindOf t) != 5) = true ∧ ((kindOf t != 6)) = false ∨ ((kindOf t) != 5) = false := by
        simp only [isBox, Bool.or_eq_true, beq_iff_eq] at h5
        rcases h5 with h5 | h5 <;> simp [h5]
      have Hr : Hid (deepT (m + 1) t = deepL (deepT m) t (nL t) + 1) := by show deepT (m + 1) t = _; simp only [deepT, h5, if_true]
      have e0 : ((m : Int) + 1 == 0) = false := beq_eq_false_iff_ne.2 (by omega)
      clear h5
      rcases e5 with ⟨e5, e6⟩ | e5
      all_goals
        go_enter Tryd.func49, Tryd.ntmps49
        go_wp2_with fail
        go_loopg [5, 6] (nL t) (fun g n i wr => ∃ k : Nat, g = nL t - k ∧ k ≤ nL t ∧ i = .int .i64 k ∧ n = .int .i64 (deepL (deepT m) t k : Nat) ∧ Below (w.heap.size + 1) (w.alloc (.cells #[.int .i64 (kindOf t), .int .i64 (nOf t), .string (sOf t), .slice La (nL t) Lc, .slice Ka (nK t) Kc] 26)) wr)
        case atStart => exact ⟨0, rfl, Nat.zero_le _, rfl, rfl, Below.refl _ _⟩
        case round =>
          obtain ⟨k, rfl, hk, rfl, rfl, hb⟩ := hrel
          obtain ⟨q0, q1, q2, q3, q4, hz, hbw⟩ := box_facts hb
          have Hb := hid hb
          clear hb
          have hd0 := deepL_le (deepT_le m) t k
          by_cases hlt : k < nL t
          · obtain ⟨b, o, c0, c1, c2, c3, c4, rfl, hbl, p0, p1, p2, p3, p4, Ha⟩ := hl.out.keep hbw k hlt
            have em : ((m : Int) + 1 - 1) = (m : Int) := by omega
            have hd1 := deepT_le m (elt t k)
            have Hs : Hid (deepL (deepT m) t (k + 1) = max (deepL (deepT m) t k) (deepT m (elt t k))) := rfl
            go_wp2_with fail
            refine (ih _ _ _ _ Ha.out (by omega)).mono ?_
            rintro e w2 ⟨rfl, hb2⟩
            have hb3 := Hb.out.trans (hb2.mono (by omega))
            go_wp2_with fail
            all_goals
              go_roundg (nL t - (k + 1))
              case rel => exact ⟨k + 1, rfl, by omega, by go_num, by rw [Hs.out]; go_num, hb3⟩
              case measure => omega
          · go_wp2_with fail
            go_ret
            have : k = nL t := by omega
            subst this
            exact ⟨ret_int (by rw [Hr.out]; rfl), hbw⟩
    · have e5 : (kindOf t != 5) = true := by simp [isBox] at h5; simp; omega
      have e6 : (kindOf t != 6) = true := by simp [isBox] at h5; simp; omega
      have H : Hid (deepT (m + 1) t = 0) := by show deepT (m + 1) t = _; simp [deepT, h5]
      clear h5
      go_enter Tryd.func49, Tryd.ntmps49
      go_wp2_with fail
      go_ret
      exact ⟨ret_int (by rw [H.out]; rfl), (Below.refl _ _).alloc (Nat.le_refl _) _⟩
end Go.Proofs.YtknakfpciccoaaaDoor
/- The walks of cmp.Compare, of the mark, and of the checker's small parts. -/
namespace Go.Proofs.YtknakfpciccoaaaDoor
open Go.RowKit

set_option maxHeartbeats 400000 in
theorem cmpInt_any (a b : Int) (w : World) :
    Calls Tryd.prog 63 #[.int .i64 a, .int .i64 b] w fun e w' => e = .returned (.int .i64 (cmpI a b)) ∧ w' = w := by
  go_enter Tryd.func63, Tryd.ntmps63
  go_wp2
  all_goals (go_ret; refine ⟨?_, rfl⟩)
  · exact ret_int (cmpI_lt (by assumption)).symm
  · exact ret_int (cmpI_gt (by assumption)).symm
  · exact ret_int (cmpI_eq (by assumption) (by assumption)).symm
set_option maxHeartbeats 400000 in
theorem cmpInt64_any (a b : Int) (w : World) :
    Calls Tryd.prog 64 #[.int .i64 a, .int .i64 b] w fun e w' => e = .returned (.int .i64 (cmpI a b)) ∧ w' = w := by
  go_enter Tryd.func64, Tryd.ntmps64
  go_wp2
  all_goals (go_ret; refine ⟨?_, rfl⟩)
  · exact ret_int (cmpI_lt (by assumption)).symm
  · exact ret_int (cmpI_gt (by assumption)).symm
  · exact ret_int (cmpI_eq (by assumption) (by assumption)).symm
set_option maxHeartbeats 400000 in
theorem cmpString_any (a b : ByteArray) (w : World) :
    Calls Tryd.prog 65 #[.string a, .string b] w fun e w' => e = .returned (.int .i64 (cmpS a b)) ∧ w' = w := by
  go_enter Tryd.func65, Tryd.ntmps65
  go_wp2
  all_goals (go_ret; refine ⟨?_, rfl⟩)
  · exact ret_int (cmpS_lt (by assumption)).symm
  · exact ret_int (cmpS_gt (by assumption) (by assumption)).symm
  · exact ret_int (cmpS_eq (by assumption) (by assumption)).symm

def own3 : ByteArray := ⟨#[111, 119, 110]⟩
set_option maxHeartbeats 400000 in
theorem mark77_any (w : World) :
    Calls Tryd.prog 29 #[.int .i64 77] w fun e w' => e = .returned (.agg #[.int .i64 (-77), .int .i64 0, .string own3, .slice none 0 0, .slice none 0 0]) ∧ Below w.heap.size w w' := by
  go_enter Tryd.func29, Tryd.ntmps29
  go_wp2
  exact bodyPost_ret (v := .agg #[.int .i64 (-77), .int .i64 0, .string own3, .slice none 0 0, .slice none 0 0]) (by simp [results, Tryd.results29, go_sem, own3]) rfl ⟨rfl, (Below.refl _ _).alloc (Nat.le_refl _) _⟩

set_option maxHeartbeats 400000 in
theorem hasNoLists_any (f : Nat) (v : Value) (t : T) (w : World) (h : At w f v t) :
    Calls Tryd.prog 80 #[v] w fun e w' => e = .returned (.bool (noLists t)) ∧ Below w.heap.size w w' := by
  obtain ⟨f, La, Ka, Lc, Kc, rfl, rfl, hf, hl, hk⟩ := h.open
  clear h hf hl hk
  by_cases h1 : nL t = 0
  · have g1 : ((nL t : Int) == 0) = true := by simp [h1]
    have H1 := hid h1
    clear h1
    by_cases h2 : nK t = 0
    · have g2 : ((nK t : Int) == 0) = true := by simp [h2]
      have H2 := hid h2
      clear h2
      go_enter Tryd.func80, Tryd.ntmps80
      go_wp2_with fail
      go_ret
      exact ⟨ret_bool (by simp [noLists, H1.out, H2.out]), (Below.refl _ _).alloc (Nat.le_refl _) _⟩
    · have g2 : ((nK t : Int) == 0) = false := by simp; omega
      have H2 := hid h2
      clear h2
      go_enter Tryd.func80, Tryd.ntmps80
      go_wp2_with fail
      go_ret
      exact ⟨ret_bool (by simp [noLists, H1.out, H2.out]), (Below.refl _ _).alloc (Nat.le_refl _) _⟩
  · have g1 : ((nL t : Int) == 0) = false := by simp; omega
    have H1 := hid h1
    clear h1
    go_enter Tryd.func80, Tryd.ntmps80
    go_wp2_with fail
    go_ret
    exact ⟨ret_bool (by simp [noLists, H1.out]), (Below.refl _ _).alloc (Nat.le_refl _) _⟩

set_option maxHeartbeats 400000 in
theorem take_any (c : Nat) (l n : Int) (w : World) (hc : w.cell? ⟨c, 0, none⟩ = some (.int .i64 l)) (hz : w.frozen? ⟨c, 0, none⟩ = false) (l0 : -1000000 ≤ l) (l1 : l ≤ 1048576) (n0 : 0 ≤ n) (n1 : n ≤ 1000000) :
    Calls Tryd.prog 81 #[.pointer (some ⟨c, 0, none⟩), .int .i64 n] w fun e w' => e = .returned (.bool (decide (n ≤ l))) ∧ w' = w.setCell ⟨c, 0, none⟩ (.int .i64 (l - n)) := by
  go_enter Tryd.func81, Tryd.ntmps81
  go_wp2_with fail
  go_ret
  exact ⟨rfl, rfl⟩
end Go.Proofs.YtknakfpciccoaaaDoor
/- The walk of areDifferent. -/
namespace Go.Proofs.YtknakfpciccoaaaDoor
open Go.RowKit Go.Maps Go.WideMaps

theorem law9 : Keyed Tryd.prog 9 := string_keyed Tryd.underlying9
theorem make_hint (n : Int) (w : World) : (Instr.makeMap 99 (some (.int .i64 n))).run Tryd.prog w = .ok (.map (some w.heap.size)) (w.alloc (.map #[] 0)) := by kernel_rfl
set_option maxHeartbeats 400000 in
set_option maxRecDepth 100000 in
theorem different_any (Ka : Option Addr) (Kc : Nat) (t : T) (w : World) (hk : NamesAt w Ka t) (hn : nK t ≤ 8796093022208) :
    Calls Tryd.prog 75 #[.slice Ka (nK t) Kc] w fun e w' => e = .returned (.bool (!dupTo t (nK t))) ∧ Below w.heap.size w w' := by
  have hmm := make_hint (nK t)
  have hk' := hid hk
  clear hk
  have Hs := hid (size_Sn t)
  go_enter Tryd.func75, Tryd.ntmps75
  go_wp2_with fail
  go_loopg [11] (nK t) (fun g i wr => ∃ k : Nat, g = nK t - k ∧ k ≤ nK t ∧ i = .int .i64 k ∧ Hid (wr.ownsMap Tryd.prog 9 (unitElem (H := Unit)) w.heap.size k (Sn t k)) ∧ Hid (Below w.heap.size w wr))
  case atStart => exact ⟨0, rfl, Nat.zero_le _, rfl, by rw [Sn_zero]; exact World.ownsMap_made _ _ _ _, (Below.refl _ _).alloc (Nat.le_refl _) _⟩
  case round =>
    obtain ⟨k, rfl, hk1, rfl, Hown, Hnx⟩ := hrel
    by_cases hlt : k < nK t
    · obtain ⟨kb, ko, rfl, hkb, hks, hkc⟩ := hk'.out.keep Hnx.out k hlt
      have hkey : keyOf Tryd.prog 9 (.string (nam t k)) = some (keyAt t k) := keyOf_string_mk Tryd.underlying9 (by unfold maxLen; omega)
      go_wp2_with (first
        | (at_mapUpdate; refine wpList_mapUpdate_own _ rfl _ _ _ 99 rfl 9 100 law9 Tryd.underlying99 (unitElem (H := Unit)) w.heap.size k _ rfl Hown.out (by unfold maxLen; omega) _ _ _ rfl rfl hkey _ [] unitElem_mk ?_; intro w1 hown1 hgrow1)
        | fail)
      go_roundg (nK t - (k + 1))
      case rel => exact ⟨k + 1, rfl, by omega, by go_num, (Sn_succ t k).symm ▸ hown1, Hnx.out.grown hgrow1 Hnx.out.size (fun j hj => by cases hj; exact Nat.le_refl _)⟩
      case measure => omega
    · obtain rfl : k = nK t := by omega
      have hsz := (Hs.out (nK t)).1
      go_wp2_with (first
        | (at_len; refine wpList_len_own _ rfl _ 99 rfl 9 100 Tryd.underlying99 (unitElem (H := Unit)) w.heap.size (nK t) _ rfl Hown.out ?_)
        | fail)
      go_ret
      refine ⟨ret_bool ?_, Hnx.out⟩
      have := (Hs.out (nK t)).2
      cases hd : dupTo t (nK t) with
      | true =>
        rw [hd] at this
        simp
        intro e
        have := this.1 (by omega)
        cases this
      | false =>
        rw [hd] at this
        simp [this.2 rfl]
end Go.Proofs.YtknakfpciccoaaaDoor
/- The walks of the checker's parts: a text, names. -/
namespace Go.Proofs.YtknakfpciccoaaaDoor
open Go.RowKit

/-- What is asked of utf8.ValidString: her contract, where the tables lie as they must. -/
def ValidSaid (Tb : World → Prop) : Prop := ∀ (s : ByteArray) (w : World), s.size ≤ 9223372036854775807 → Tb w →
  Calls Tryd.prog 101 #[.string s] w fun e w' => e = .returned (.bool (okS s)) ∧ Below w.heap.size w w'
/-- The tables lie below a block. -/
def Stays (Tb : World → Prop) (c : Nat) : Prop := ∀ w w' : World, Tb w → Below c w w' → Tb w'

set_option maxHeartbeats 400000 in
theorem take2_any (c : Nat) (l n : Int) (w : World) (h : Holds c l w) (l0 : 0 ≤ l) (l1 : l ≤ 1048576) (n0 : 0 ≤ n) (n1 : n ≤ 1000000) :
    Calls Tryd.prog 81 #[.pointer (some ⟨c, 0, none⟩), .int .i64 n] w fun e w' => e = .returned (.bool (decide (n ≤ l))) ∧ Holds c (l - n) w' ∧ But c w w' := by
  refine (take_any c l n w h.cell h.free (by omega) l1 n0 n1).mono ?_
  rintro e w' ⟨rfl, rfl⟩
  exact ⟨rfl, (h.set _).1, (h.set _).2⟩

set_option maxHeartbeats 400000 in
theorem text_any {Tb : World → Prop} (hV : ValidSaid Tb) (c : Nat) (hS : Stays Tb c) (s : ByteArray) (l : Int) (w : World) (h : Holds c l w) (hT : Tb w) (l0 : 0 ≤ l) (l1 : l ≤ 1048576) (hs : s.size ≤ 140737488355328) :
    Calls Tryd.prog 82 #[.pointer (some ⟨c, 0, none⟩), .string s] w fun e w' => ChkPost c w (textO s l) e w' := by
  have H := hid h
  have HT := hid hT
  clear h hT
  by_cases h1 : s.size ≤ 4000
  · by_cases h2 : (s.size : Int) ≤ l
    · go_enter Tryd.func82, Tryd.ntmps82
      go_wp2_with fail
      refine (take2_any c l s.size w H.out l0 l1 (by omega) (by omega)).mono ?_
      rintro e w1 ⟨rfl, K1, B1⟩
      have HK1 := hid K1
      have HB1 := hid B1
      clear K1 B1
      go_wp2_with fail
      refine (hV s w1 (by omega) (hS _ _ HT.out (HB1.out.below (Nat.le_of_lt H.out.lt)))).mono ?_
      rintro e w2 ⟨rfl, B2⟩
      have HB2 := hid B2
      clear B2
      cases hv : okS s with
      | true =>
        have Hv := hid hv
        clear hv
        go_wp2_with fail
        go_ret
        exact ⟨HB1.out.trans (But.of HB2.out), l - s.size, HK1.out.keep HB2.out, Or.inl ⟨by unfold textO; rw [if_pos ⟨h1, h2, Hv.out⟩], by omega, by omega, rfl⟩⟩
      | false =>
        have Hv := hid hv
        clear hv
        go_wp2_with fail
        go_ret
        exact ⟨HB1.out.trans (But.of HB2.out), l - s.size, HK1.out.keep HB2.out, Or.inr ⟨by unfold textO; rw [if_neg (by rw [Hv.out]; simp)], rfl⟩⟩
    · go_enter Tryd.func82, Tryd.ntmps82
      go_wp2_with fail
      refine (take2_any c l s.size w H.out l0 l1 (by omega) (by omega)).mono ?_
      rintro e w1 ⟨rfl, K1, B1⟩
      have HK1 := hid K1
      have HB1 := hid B1
      clear K1 B1
      have hd : decide ((s.size : Int) ≤ l) = false := decide_eq_false (by omega)
      have H2 := hid h2
      clear h2
      go_wp2_with fail
      go_ret
      exact ⟨HB1.out, l - s.size, HK1.out, Or.inr ⟨by unfold textO; rw [if_neg (fun h => by have := H2.out; omega)], rfl⟩⟩
  · have H1 := hid h1
    have hd : decide ((s.size : Int) ≤ 4000) = false := decide_eq_false (by omega)
    clear h1
    go_enter Tryd.func82, Tryd.ntmps82
    go_wp2_with fail
    go_ret
    exact ⟨But.refl _ _, l, H.out, Or.inr ⟨by unfold textO; rw [if_neg (fun h => H1.out h.1)], rfl⟩⟩

set_option maxHeartbeats 1000000 in
theorem names_any {Tb : World → Prop} (hV : ValidSaid Tb) (c : Nat) (hS : Stays Tb c) (w0 : World) (hN : w0.heap.size ≤ c) (Ka : Option Addr) (Kc : Nat) (t : T) (l : Int) (w : World)
    (hk : NamesAt w0 Ka t) (hn : nK t ≤ 8796093022208) (hb0 : Below w0.heap.size w0 w) (h : Holds c l w) (hT : Tb w) (l0 : 0 ≤ l) (l1 : l ≤ 1048576) :
    Calls Tryd.prog 84 #[.pointer (some ⟨c, 0, none⟩), .slice Ka (nK t) Kc] w fun e w' => ChkPost c w (namesO t l) e w' := by
  have H := hid h
  have HT := hid hT
  have Hk := hid hk
  have Hb0 := hid hb0
  clear h hT hk hb0
  go_enter Tryd.func84, Tryd.ntmps84
  go_wp2_with fail
  go_loopg [9] (nK t) (fun g i wr => ∃ (k : Nat) (x : Int), g = nK t - k ∧ k ≤ nK t ∧ i = .int .i64 k ∧ 0 ≤ x ∧ x ≤ 1048576 ∧ Hid (namesL t k l = some x) ∧ Hid (Holds c x wr) ∧ Hid (But c w wr))
  case atStart => exact ⟨0, l, rfl, Nat.zero_le _, rfl, l0, l1, rfl, H, But.refl _ _⟩
  case round =>
    obtain ⟨k, x, rfl, hk1, rfl, x0, x1, HX, HH, HB⟩ := hrel
    have Hbr := hid (Hb0.out.trans ((HB.out.below (Nat.le_of_lt H.out.lt)).mono hN))
    by_cases hlt : k < nK t
    · obtain ⟨kb, ko, rfl, hkb, hks, hkc⟩ := Hk.out.keep Hbr.out k hlt
      go_wp2_with fail
      refine (take2_any c x 2 wr HH.out x0 x1 (by omega) (by omega)).mono ?_
      rintro e w1 ⟨rfl, K1, B1⟩
      have HK1 := hid K1
      have HB1 := hid B1
      clear K1 B1
      by_cases h2 : 2 ≤ x
      · go_wp2_with fail
        refine (text_any hV c hS (nam t k) (x - 2) w1 HK1.out (hS _ _ HT.out ((HB.out.trans HB1.out).below (Nat.le_of_lt H.out.lt))) (by omega) (by omega) hks).mono ?_
        rintro e w2 ⟨B2, l', K2, hr⟩
        have HB2 := hid B2
        have HK2 := hid K2
        clear B2 K2
        rcases hr with ⟨hr, y0, y1, rfl⟩ | ⟨hr, rfl⟩
        · have Hr := hid hr
          clear hr
          go_wp2_with fail
          go_roundg (nK t - (k + 1))
          case rel =>
            refine ⟨k + 1, l', rfl, by omega, by go_num, y0, y1, ?_, HK2, HB.out.trans (HB1.out.trans HB2.out)⟩
            show ((namesL t k l).bind fun x => (takeO 2 x).bind (textO (nam t k))) = _
            rw [HX.out]
            simp only [Option.bind_some, takeO, if_pos h2]
            exact Hr.out
          case measure => omega
        · have Hr := hid hr
          clear hr
          go_wp2_with fail
          go_ret
          refine ⟨HB.out.trans (HB1.out.trans HB2.out), l', HK2.out, Or.inr ⟨?_, rfl⟩⟩
          unfold namesO
          rw [namesL_none (j := k + 1) hlt]
          · rfl
          · show ((namesL t k l).bind fun x => (takeO 2 x).bind (textO (nam t k))) = _
            rw [HX.out]
            simp only [Option.bind_some, takeO, if_pos h2]
            exact Hr.out
      · have hd : decide ((2 : Int) ≤ x) = false := decide_eq_false h2
        have H2 := hid h2
        clear h2
        go_wp2_with fail
        go_ret
        refine ⟨HB.out.trans HB1.out, x - 2, HK1.out, Or.inr ⟨?_, rfl⟩⟩
        unfold namesO
        rw [namesL_none (j := k + 1) hlt]
        · rfl
        · show ((namesL t k l).bind fun x => (takeO 2 x).bind (textO (nam t k))) = _
          rw [HX.out]
          simp only [Option.bind_some, takeO]
          rw [if_neg (by have := H2.out; omega)]
          rfl
    · obtain rfl : k = nK t := by omega
      go_wp2_with fail
      refine (different_any Ka Kc t wr (Hk.out.keep Hbr.out) hn).mono ?_
      rintro e w1 ⟨rfl, B1⟩
      have HB1 := hid B1
      clear B1
      cases hd : dupTo t (nK t) with
      | true =>
        have Hd := hid hd
        clear hd
        go_wp2_with fail
        go_ret
        refine ⟨HB.out.trans (But.of HB1.out), x, HH.out.keep HB1.out, Or.inr ⟨?_, rfl⟩⟩
        unfold namesO
        rw [HX.out, Hd.out]
        rfl
      | false =>
        have Hd := hid hd
        clear hd
        go_wp2_with fail
        go_ret
        refine ⟨HB.out.trans (But.of HB1.out), x, HH.out.keep HB1.out, Or.inl ⟨?_, x0, x1, rfl⟩⟩
        unfold namesO
        rw [HX.out, Hd.out]
        rfl
end Go.Proofs.YtknakfpciccoaaaDoor
/- The walks of the checker: values, and a value. -/
namespace Go.Proofs.YtknakfpciccoaaaDoor
open Go.RowKit

/-- The contract of a value, so deep. -/
def ChkSaid (Tb : World → Prop) (c : Nat) (w0 : World) (m : Nat) : Prop := ∀ (f : Nat) (v : Value) (t : T) (l : Int) (w : World),
  At w0 f v t → Below w0.heap.size w0 w → Holds c l w → Tb w → 0 ≤ l → l ≤ 1048576 →
    Calls Tryd.prog 62 #[.pointer (some ⟨c, 0, none⟩), v, .int .i64 (12 - (m : Int))] w fun e w' => ChkPost c w (chkT m t l) e w'

set_option maxHeartbeats 1000000 in
theorem values_any {Tb : World → Prop} (c : Nat) (hS : Stays Tb c) (w0 : World) (hN : w0.heap.size ≤ c) (m : Nat) (ih : ChkSaid Tb c w0 m) (f : Nat) (La : Option Addr) (Lc : Nat) (t : T) (l : Int) (w : World)
    (hl : ElemsAt w0 f La t) (hn : nL t ≤ 1759218604442) (hb0 : Below w0.heap.size w0 w) (h : Holds c l w) (hT : Tb w) (l0 : 0 ≤ l) (l1 : l ≤ 1048576) :
    Calls Tryd.prog 83 #[.pointer (some ⟨c, 0, none⟩), .slice La (nL t) Lc, .int .i64 (12 - (m : Int))] w fun e w' => ChkPost c w (valuesL (chkT m) t (nL t) l) e w' := by
  have H := hid h
  have HT := hid hT
  have Hl := hid hl
  have Hb0 := hid hb0
  have Hih := hid ih
  clear h hT hl hb0 ih
  go_enter Tryd.func83, Tryd.ntmps83
  go_wp2_with fail
  go_loopg [11] (nL t) (fun g i wr => ∃ (k : Nat) (x : Int), g = nL t - k ∧ k ≤ nL t ∧ i = .int .i64 k ∧ 0 ≤ x ∧ x ≤ 1048576 ∧ Hid (valuesL (chkT m) t k l = some x) ∧ Hid (Holds c x wr) ∧ Hid (But c w wr))
  case atStart => exact ⟨0, l, rfl, Nat.zero_le _, rfl, l0, l1, rfl, H, But.refl _ _⟩
  case round =>
    obtain ⟨k, x, rfl, hk1, rfl, x0, x1, HX, HH, HB⟩ := hrel
    have Hbr := hid (Hb0.out.trans ((HB.out.below (Nat.le_of_lt H.out.lt)).mono hN))
    by_cases hlt : k < nL t
    · obtain ⟨b, o, A, B, C, D, rfl, hbl, p0, p1, p2, p3, p4, Ha⟩ := Hl.out.shape Hbr.out k hlt
      go_wp2_with fail
      have B1 : Below wr.heap.size wr (wr.alloc (.cells #[.int .i64 (kindOf (elt t k)), .int .i64 (nOf (elt t k)), .string (sOf (elt t k)), .slice A (nL (elt t k)) B, .slice C (nK (elt t k)) D] 26)) := (Below.refl _ _).alloc (Nat.le_refl _) _
      have HB1 := hid B1
      clear B1
      refine (Hih.out f _ (elt t k) x _ Ha.out (Hbr.out.trans (HB1.out.mono (Nat.le_trans hN (Nat.le_of_lt HH.out.lt)))) (HH.out.keep HB1.out) (hS _ _ (hS _ _ HT.out (HB.out.below (Nat.le_of_lt H.out.lt))) (HB1.out.mono (Nat.le_of_lt HH.out.lt))) x0 x1).mono ?_
      rintro e w2 ⟨B2, l', K2, hr⟩
      have HB2 := hid ((But.of HB1.out).trans B2)
      have HK2 := hid K2
      clear B2 K2
      have step : valuesL (chkT m) t (k + 1) l = chkT m (elt t k) x := by
        show (valuesL (chkT m) t k l).bind (chkT m (elt t k)) = _
        rw [HX.out]
        rfl
      have Hst := hid step
      clear step
      rcases hr with ⟨hr, y0, y1, rfl⟩ | ⟨hr, rfl⟩
      · have Hr := hid hr
        clear hr
        go_wp2_with fail
        go_roundg (nL t - (k + 1))
        case rel => exact ⟨k + 1, l', rfl, by omega, by go_num, y0, y1, Hst.out.trans Hr.out, HK2, HB.out.trans HB2.out⟩
        case measure => omega
      · have Hr := hid hr
        clear hr
        go_wp2_with fail
        go_ret
        exact ⟨HB.out.trans HB2.out, l', HK2.out, Or.inr ⟨valuesL_none hlt (Hst.out.trans Hr.out), rfl⟩⟩
    · obtain rfl : k = nL t := by omega
      go_wp2_with fail
      go_ret
      exact ⟨HB.out, x, HH.out, Or.inl ⟨HX.out, x0, x1, rfl⟩⟩
end Go.Proofs.YtknakfpciccoaaaDoor
/- The walk of the checker's value, kind by kind. -/
namespace Go.Proofs.YtknakfpciccoaaaDoor
open Go.RowKit

theorem noText_iff (t : T) : ((sOf t).toList.isEmpty = true) = (noText t = true) := rfl

set_option maxHeartbeats 1000000 in
theorem chk_k1 {Tb : World → Prop} (c : Nat) (hS : Stays Tb c) (w0 : World) (hN : w0.heap.size ≤ c) (m : Nat)  (f : Nat) (v : Value) (t : T) (l : Int) (w : World)
    (h : At w0 f v t) (hb0 : Below w0.heap.size w0 w) (hH : Holds c l w) (hT : Tb w) (l0 : 0 ≤ l) (l1 : l ≤ 1048576) (hk0 : kindOf t = 1) :
    Calls Tryd.prog 62 #[.pointer (some ⟨c, 0, none⟩), v, .int .i64 (12 - (m : Int))] w fun e w' => ChkPost c w (chkT m t l) e w' := by
  obtain ⟨f, La, Ka, Lc, Kc, rfl, rfl, hf, hl, hk⟩ := h.open
  have HB1 : Hid (Below w.heap.size w (w.alloc (.cells #[.int .i64 (kindOf t), .int .i64 (nOf t), .string (sOf t), .slice La (nL t) Lc, .slice Ka (nK t) Kc] 26))) := (Below.refl _ _).alloc (Nat.le_refl _) _
  have HK1 := hid (hH.keep HB1.out)
  have HT1 := hid (hS _ _ hT (HB1.out.mono (Nat.le_of_lt hH.lt)))
  have Hb1 := hid (hb0.trans (HB1.out.mono (Nat.le_trans hN (Nat.le_of_lt hH.lt))))
  have HA := hid (h.keep Hb1.out)
  clear h hb0 hH hT hf hl hk
  have HR0 : Hid (chkT m t l = if nOf t = 0 ∧ noText t = true ∧ noLists t = true then takeO 1 l else none) := by
    show chkT m t l = _
    cases m <;> simp [chkT, leafO, hk0]
  have g1 : (kindOf t == 1) = true := by rw [hk0]; rfl
  clear hk0
  by_cases n0 : nOf t = 0
  · have en : (nOf t == 0) = true := by rw [n0]; rfl
    by_cases s0 : noText t = true
    · have es : (sOf t).toList.isEmpty = true := s0
      have N0 := hid n0
      have S0 := hid s0
      clear n0 s0
      go_enter Tryd.func62, Tryd.ntmps62
      go_wp2_with fail
      refine (hasNoLists_any _ _ _ _ HA.out).mono ?_
      rintro e w2 ⟨rfl, B2⟩
      have HB2 := hid B2
      clear B2
      cases hn : noLists t with
      | false =>
        have HR : Hid (chkT m t l = none) := by show chkT m t l = none; rw [HR0.out, if_neg (by rw [hn]; simp)]
        clear hn
        go_wp2_with fail
        go_ret
        exact ⟨(But.of HB1.out).trans (But.of HB2.out), l, HK1.out.keep HB2.out, Or.inr ⟨HR.out, rfl⟩⟩
      | true =>
        have HR : Hid (chkT m t l = takeO 1 l) := by show chkT m t l = _; rw [HR0.out, if_pos (⟨N0.out, S0.out, hn⟩)]
        clear hn
        go_wp2_with fail
        refine (take2_any c l 1 w2 (HK1.out.keep HB2.out) l0 l1 (by omega) (by omega)).mono ?_
        rintro e w3 ⟨rfl, K3, B3⟩
        have HK3 := hid K3
        have HB3 := hid B3
        clear K3 B3
        by_cases h9 : 1 ≤ l
        · have HR2 : Hid (takeO 1 l = some (l - 1)) := by show takeO 1 l = _; unfold takeO; rw [if_pos h9]
          go_wp2_with fail
          go_ret
          exact ⟨((But.of HB1.out).trans (But.of HB2.out)).trans HB3.out, l - 1, HK3.out, Or.inl ⟨HR.out.trans HR2.out, by omega, by omega, rfl⟩⟩
        · have HR2 : Hid (takeO 1 l = none) := by show takeO 1 l = _; unfold takeO; rw [if_neg h9]
          have hd : decide ((1 : Int) ≤ l) = false := decide_eq_false h9
          clear h9
          go_wp2_with fail
          go_ret
          exact ⟨((But.of HB1.out).trans (But.of HB2.out)).trans HB3.out, l - 1, HK3.out, Or.inr ⟨HR.out.trans HR2.out, rfl⟩⟩

    · have es : (sOf t).toList.isEmpty = false := by simpa [noText] using s0
      have HR : Hid (chkT m t l = none) := by show chkT m t l = none; rw [HR0.out, if_neg (by exact fun h => s0 h.2.1)]
      clear n0 s0
      go_enter Tryd.func62, Tryd.ntmps62
      go_wp2_with fail
      go_ret
      exact ⟨But.of HB1.out, l, HK1.out, Or.inr ⟨HR.out, rfl⟩⟩
  · have en : (nOf t == 0) = false := by simpa using n0
    have HR : Hid (chkT m t l = none) := by show chkT m t l = none; rw [HR0.out, if_neg (by exact fun h => n0 h.1)]
    clear n0
    go_enter Tryd.func62, Tryd.ntmps62
    go_wp2_with fail
    go_ret
    exact ⟨But.of HB1.out, l, HK1.out, Or.inr ⟨HR.out, rfl⟩⟩

set_option maxHeartbeats 1000000 in
theorem chk_k2 {Tb : World → Prop} (c : Nat) (hS : Stays Tb c) (w0 : World) (hN : w0.heap.size ≤ c) (m : Nat)  (f : Nat) (v : Value) (t : T) (l : Int) (w : World)
    (h : At w0 f v t) (hb0 : Below w0.heap.size w0 w) (hH : Holds c l w) (hT : Tb w) (l0 : 0 ≤ l) (l1 : l ≤ 1048576) (hk0 : kindOf t = 2) :
    Calls Tryd.prog 62 #[.pointer (some ⟨c, 0, none⟩), v, .int .i64 (12 - (m : Int))] w fun e w' => ChkPost c w (chkT m t l) e w' := by
  obtain ⟨f, La, Ka, Lc, Kc, rfl, rfl, hf, hl, hk⟩ := h.open
  have HB1 : Hid (Below w.heap.size w (w.alloc (.cells #[.int .i64 (kindOf t), .int .i64 (nOf t), .string (sOf t), .slice La (nL t) Lc, .slice Ka (nK t) Kc] 26))) := (Below.refl _ _).alloc (Nat.le_refl _) _
  have HK1 := hid (hH.keep HB1.out)
  have HT1 := hid (hS _ _ hT (HB1.out.mono (Nat.le_of_lt hH.lt)))
  have Hb1 := hid (hb0.trans (HB1.out.mono (Nat.le_trans hN (Nat.le_of_lt hH.lt))))
  have HA := hid (h.keep Hb1.out)
  clear h hb0 hH hT hf hl hk
  have HR0 : Hid (chkT m t l = if (nOf t = 0 ∨ nOf t = 1) ∧ noText t = true ∧ noLists t = true then takeO 2 l else none) := by
    show chkT m t l = _
    cases m <;> simp [chkT, leafO, hk0]
  have g1 : (kindOf t == 1) = false := by first | (rw [hk0]; rfl) | (simp; omega)
  have g2 : (kindOf t == 2) = true := by rw [hk0]; rfl
  clear hk0
  by_cases n0 : nOf t = 0 ∨ nOf t = 1
  · have en : (nOf t == 0) = true ∨ (nOf t == 0) = false ∧ (nOf t == 1) = true := by rcases n0 with h | h <;> simp [h]
    by_cases s0 : noText t = true
    · have es : (sOf t).toList.isEmpty = true := s0
      have N0 := hid n0
      have S0 := hid s0
      clear n0 s0
      rcases en with en | ⟨en, en1⟩
      all_goals
        go_enter Tryd.func62, Tryd.ntmps62
        go_wp2_with fail
        refine (hasNoLists_any _ _ _ _ HA.out).mono ?_
        rintro e w2 ⟨rfl, B2⟩
        have HB2 := hid B2
        clear B2
        cases hn : noLists t with
        | false =>
          have HR : Hid (chkT m t l = none) := by show chkT m t l = none; rw [HR0.out, if_neg (by rw [hn]; simp)]
          clear hn
          go_wp2_with fail
          go_ret
          exact ⟨(But.of HB1.out).trans (But.of HB2.out), l, HK1.out.keep HB2.out, Or.inr ⟨HR.out, rfl⟩⟩
        | true =>
          have HR : Hid (chkT m t l = takeO 2 l) := by show chkT m t l = _; rw [HR0.out, if_pos (⟨N0.out, S0.out, hn⟩)]
          clear hn
          go_wp2_with fail
          refine (take2_any c l 2 w2 (HK1.out.keep HB2.out) l0 l1 (by omega) (by omega)).mono ?_
          rintro e w3 ⟨rfl, K3, B3⟩
          have HK3 := hid K3
          have HB3 := hid B3
          clear K3 B3
          by_cases h9 : 2 ≤ l
          · have HR2 : Hid (takeO 2 l = some (l - 2)) := by show takeO 2 l = _; unfold takeO; rw [if_pos h9]
            go_wp2_with fail
            go_ret
            exact ⟨((But.of HB1.out).trans (But.of HB2.out)).trans HB3.out, l - 2, HK3.out, Or.inl ⟨HR.out.trans HR2.out, by omega, by omega, rfl⟩⟩
          · have HR2 : Hid (takeO 2 l = none) := by show takeO 2 l = _; unfold takeO; rw [if_neg h9]
            have hd : decide ((2 : Int) ≤ l) = false := decide_eq_false h9
            clear h9
            go_wp2_with fail
            go_ret
            exact ⟨((But.of HB1.out).trans (But.of HB2.out)).trans HB3.out, l - 2, HK3.out, Or.inr ⟨HR.out.trans HR2.out, rfl⟩⟩

    · have es : (sOf t).toList.isEmpty = false := by simpa [noText] using s0
      have HR : Hid (chkT m t l = none) := by show chkT m t l = none; rw [HR0.out, if_neg (by exact fun h => s0 h.2.1)]
      clear n0 s0
      rcases en with en | ⟨en, en1⟩
      all_goals
        go_enter Tryd.func62, Tryd.ntmps62
        go_wp2_with fail
        go_ret
        exact ⟨But.of HB1.out, l, HK1.out, Or.inr ⟨HR.out, rfl⟩⟩
  · have en : (nOf t == 0) = false := by simp; omega
    have en1 : (nOf t == 1) = false := by simp; omega
    have HR : Hid (chkT m t l = none) := by show chkT m t l = none; rw [HR0.out, if_neg (by exact fun h => n0 h.1)]
    clear n0
    go_enter Tryd.func62, Tryd.ntmps62
    go_wp2_with fail
    go_ret
    exact ⟨But.of HB1.out, l, HK1.out, Or.inr ⟨HR.out, rfl⟩⟩

set_option maxHeartbeats 1000000 in
theorem chk_k3 {Tb : World → Prop} (c : Nat) (hS : Stays Tb c) (w0 : World) (hN : w0.heap.size ≤ c) (m : Nat)  (f : Nat) (v : Value) (t : T) (l : Int) (w : World)
    (h : At w0 f v t) (hb0 : Below w0.heap.size w0 w) (hH : Holds c l w) (hT : Tb w) (l0 : 0 ≤ l) (l1 : l ≤ 1048576) (hk0 : kindOf t = 3) :
    Calls Tryd.prog 62 #[.pointer (some ⟨c, 0, none⟩), v, .int .i64 (12 - (m : Int))] w fun e w' => ChkPost c w (chkT m t l) e w' := by
  obtain ⟨f, La, Ka, Lc, Kc, rfl, rfl, hf, hl, hk⟩ := h.open
  have HB1 : Hid (Below w.heap.size w (w.alloc (.cells #[.int .i64 (kindOf t), .int .i64 (nOf t), .string (sOf t), .slice La (nL t) Lc, .slice Ka (nK t) Kc] 26))) := (Below.refl _ _).alloc (Nat.le_refl _) _
  have HK1 := hid (hH.keep HB1.out)
  have HT1 := hid (hS _ _ hT (HB1.out.mono (Nat.le_of_lt hH.lt)))
  have Hb1 := hid (hb0.trans (HB1.out.mono (Nat.le_trans hN (Nat.le_of_lt hH.lt))))
  have HA := hid (h.keep Hb1.out)
  clear h hb0 hH hT hf hl hk
  have HR0 : Hid (chkT m t l = if noText t = true ∧ noLists t = true then takeO 9 l else none) := by
    show chkT m t l = _
    cases m <;> simp [chkT, leafO, hk0]
  have g1 : (kindOf t == 1) = false := by first | (rw [hk0]; rfl) | (simp; omega)
  have g2 : (kindOf t == 2) = false := by first | (rw [hk0]; rfl) | (simp; omega)
  have g3 : (kindOf t == 3) = true := by rw [hk0]; rfl
  clear hk0
  by_cases s0 : noText t = true
  · have es : (sOf t).toList.isEmpty = true := s0
    have S0 := hid s0
    clear s0
    go_enter Tryd.func62, Tryd.ntmps62
    go_wp2_with fail
    refine (hasNoLists_any _ _ _ _ HA.out).mono ?_
    rintro e w2 ⟨rfl, B2⟩
    have HB2 := hid B2
    clear B2
    cases hn : noLists t with
    | false =>
      have HR : Hid (chkT m t l = none) := by show chkT m t l = none; rw [HR0.out, if_neg (by rw [hn]; simp)]
      clear hn
      go_wp2_with fail
      go_ret
      exact ⟨(But.of HB1.out).trans (But.of HB2.out), l, HK1.out.keep HB2.out, Or.inr ⟨HR.out, rfl⟩⟩
    | true =>
      have HR : Hid (chkT m t l = takeO 9 l) := by show chkT m t l = _; rw [HR0.out, if_pos (⟨S0.out, hn⟩)]
      clear hn
      go_wp2_with fail
      refine (take2_any c l 9 w2 (HK1.out.keep HB2.out) l0 l1 (by omega) (by omega)).mono ?_
      rintro e w3 ⟨rfl, K3, B3⟩
      have HK3 := hid K3
      have HB3 := hid B3
      clear K3 B3
      by_cases h9 : 9 ≤ l
      · have HR2 : Hid (takeO 9 l = some (l - 9)) := by show takeO 9 l = _; unfold takeO; rw [if_pos h9]
        go_wp2_with fail
        go_ret
        exact ⟨((But.of HB1.out).trans (But.of HB2.out)).trans HB3.out, l - 9, HK3.out, Or.inl ⟨HR.out.trans HR2.out, by omega, by omega, rfl⟩⟩
      · have HR2 : Hid (takeO 9 l = none) := by show takeO 9 l = _; unfold takeO; rw [if_neg h9]
        have hd : decide ((9 : Int) ≤ l) = false := decide_eq_false h9
        clear h9
        go_wp2_with fail
        go_ret
        exact ⟨((But.of HB1.out).trans (But.of HB2.out)).trans HB3.out, l - 9, HK3.out, Or.inr ⟨HR.out.trans HR2.out, rfl⟩⟩

  · have es : (sOf t).toList.isEmpty = false := by simpa [noText] using s0
    have HR : Hid (chkT m t l = none) := by show chkT m t l = none; rw [HR0.out, if_neg (by exact fun h => s0 h.1)]
    clear s0
    go_enter Tryd.func62, Tryd.ntmps62
    go_wp2_with fail
    go_ret
    exact ⟨But.of HB1.out, l, HK1.out, Or.inr ⟨HR.out, rfl⟩⟩

set_option maxHeartbeats 1000000 in
theorem chk_other {Tb : World → Prop} (c : Nat) (hS : Stays Tb c) (w0 : World) (hN : w0.heap.size ≤ c) (m : Nat)  (f : Nat) (v : Value) (t : T) (l : Int) (w : World)
    (h : At w0 f v t) (hb0 : Below w0.heap.size w0 w) (hH : Holds c l w) (hT : Tb w) (_l0 : 0 ≤ l) (_l1 : l ≤ 1048576) (hk0 : kindOf t ≠ 1 ∧ kindOf t ≠ 2 ∧ kindOf t ≠ 3 ∧ kindOf t ≠ 4 ∧ kindOf t ≠ 5 ∧ kindOf t ≠ 6) :
    Calls Tryd.prog 62 #[.pointer (some ⟨c, 0, none⟩), v, .int .i64 (12 - (m : Int))] w fun e w' => ChkPost c w (chkT m t l) e w' := by
  obtain ⟨f, La, Ka, Lc, Kc, rfl, rfl, hf, hl, hk⟩ := h.open
  have HB1 : Hid (Below w.heap.size w (w.alloc (.cells #[.int .i64 (kindOf t), .int .i64 (nOf t), .string (sOf t), .slice La (nL t) Lc, .slice Ka (nK t) Kc] 26))) := (Below.refl _ _).alloc (Nat.le_refl _) _
  have HK1 := hid (hH.keep HB1.out)
  have HT1 := hid (hS _ _ hT (HB1.out.mono (Nat.le_of_lt hH.lt)))
  have Hb1 := hid (hb0.trans (HB1.out.mono (Nat.le_trans hN (Nat.le_of_lt hH.lt))))
  have HA := hid (h.keep Hb1.out)
  clear h hb0 hH hT hf hl hk
  obtain ⟨h1, h2, h3, h4, h5, h6⟩ := hk0
  have HR : Hid (chkT m t l = none) := by
    show chkT m t l = _
    cases m <;> simp [chkT, leafO, h1, h2, h3, h4, h5, h6]
  have g1 : (kindOf t == 1) = false := by simp; omega
  have g2 : (kindOf t == 2) = false := by simp; omega
  have g3 : (kindOf t == 3) = false := by simp; omega
  have g4 : (kindOf t == 4) = false := by simp; omega
  have g5 : (kindOf t == 5) = false := by simp; omega
  have g6 : (kindOf t == 6) = false := by simp; omega
  clear h1 h2 h3 h4 h5 h6
  go_enter Tryd.func62, Tryd.ntmps62
  go_wp2_with fail
  go_ret
  exact ⟨But.of HB1.out, l, HK1.out, Or.inr ⟨HR.out, rfl⟩⟩
end Go.Proofs.YtknakfpciccoaaaDoor
