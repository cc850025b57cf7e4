import Derived.Test.YtknakfpciccoaaaGreatDoorZP4
import Derived.Test.YtknakfpciccoaaaGreatDoorZP10
import Derived.Test.YtknakfpciccoaaaGreatDoorZP11
/- Texts as values: how much a value holds, and how deep its lists go. -/
namespace Go.Proofs.YtknakfpciccoaaaGreatDoor
open Go.RowKit

/-- Lists stand in lists and objects alone; no more names than values. -/
def Tame : Nat → T → Prop
  | 0, _ => True
  | f + 1, t => (isBox t = false → nL t = 0) ∧ nK t ≤ nL t ∧ ∀ i, i < nL t → Tame f (elt t i)
def cntT : Nat → T → Nat
  | 0, _ => 1
  | f + 1, t => 1 + sumL (cntT f) t (nL t)
theorem cnt_pos (f : Nat) (t : T) : 1 ≤ cntT f t := by cases f <;> simp only [cntT] <;> omega
theorem sumL_all (g : T → Nat) (t : T) : sumL g t (nL t) = ((lOf t).map g).sum := by
  rw [sumL_list _ _ _ (Nat.le_refl _)]
  have : (lOf t).take (nL t) = lOf t := List.take_length
  rw [this]
theorem cnt_mk (f : Nat) (k n : Int) (s : ByteArray) (l : List T) (ks : List ByteArray) : cntT (f + 1) (mkT k n s l ks) = 1 + (l.map (cntT f)).sum := by rw [cntT, sumL_all, lOf_mk]
theorem tame_mk {f : Nat} {k n : Int} {s : ByteArray} {l : List T} {ks : List ByteArray} (hk : k = 5 ∨ k = 6) (hn : ks.length ≤ l.length) (hl : ∀ x ∈ l, Tame f x) : Tame (f + 1) (mkT k n s l ks) := by
  refine ⟨fun h => ?_, by rw [nK_mk, nL_mk]; exact hn, fun i hi => ?_⟩
  · unfold isBox at h
    rw [kindOf_mk] at h
    rcases hk with rfl | rfl <;> simp at h
  · rw [nL_mk] at hi
    have : elt (mkT k n s l ks) i = l[i] := by
      unfold elt
      rw [lOf_mk, List.getD_eq_getElem?_getD, List.getElem?_eq_getElem hi]
      rfl
    rw [this]
    exact hl _ (List.getElem_mem hi)
theorem tame_leaf (f : Nat) (k n : Int) (s : ByteArray) : Tame f (leafT k n s) := by
  cases f with
  | zero => trivial
  | succ f =>
    unfold leafT
    refine ⟨fun _ => by rw [nL_mk]; rfl, by rw [nK_mk, nL_mk]; exact Nat.le_refl _, fun i hi => ?_⟩
    rw [nL_mk] at hi
    simp at hi
theorem cnt_leaf (f : Nat) (k n : Int) (s : ByteArray) : cntT f (leafT k n s) = 1 := by
  cases f with
  | zero => rfl
  | succ f => unfold leafT; rw [cnt_mk]; rfl
theorem itm_cnt {f : Nat → Option (T × Nat)} {s : ByteArray} {g : T → Nat} {P : T → Prop} (hf : ∀ i t e, i ≤ s.size → f i = some (t, e) → i < e ∧ e ≤ s.size) (hg : ∀ i t e, i ≤ s.size → f i = some (t, e) → g t ≤ e - i ∧ P t) (o : Bool) : ∀ (m i : Nat) (r : (List ByteArray × List T) × Nat), i ≤ s.size → itm f s o m i = some r → (r.1.2.map g).sum ≤ r.2 - i ∧ (∀ x ∈ r.1.2, P x) ∧ r.1.1.length ≤ r.1.2.length ∧ i < r.2 ∧ r.2 ≤ s.size
  | 0, i, r, _, h => by cases h
  | m + 1, i, r, hi, h => by
    have hadv := itm_adv hf o (m + 1) i r hi h
    rw [itm] at h
    cases hk : keyS s o i with
    | none => rw [hk] at h; cases h
    | some p =>
      rw [hk] at h
      simp only [Option.bind_some] at h
      have h1 := keyS_adv hi hk
      cases hq : f p.2 with
      | none => rw [hq] at h; cases h
      | some q =>
        rw [hq] at h
        simp only [Option.bind_some] at h
        have h2 := hf p.2 q.1 q.2 h1.2.1 hq
        have h2g := hg p.2 q.1 q.2 h1.2.1 hq
        have h3 := sk_ge s q.2
        split at h
        · rename_i hc
          have h4 := cB_in (s := s) (i := sk s q.2) (by omega)
          cases hr : itm f s o m (sk s q.2 + 1) with
          | none => rw [hr] at h; cases h
          | some r' =>
            rw [hr] at h
            simp only [Option.map_some, Option.some.injEq] at h
            have h5 := itm_cnt hf hg o m _ r' (by omega) hr
            subst h
            refine ⟨?_, ?_, ?_, hadv⟩
            · simp only [app, List.map_cons, List.sum_cons]
              omega
            · intro x hx
              simp only [app, List.mem_cons] at hx
              rcases hx with rfl | hx
              · exact h2g.2
              · exact h5.2.1 x hx
            · simp only [app]
              cases o <;> simp <;> omega
        · split at h
          · simp only [Option.some.injEq] at h
            subst h
            refine ⟨?_, ?_, ?_, hadv⟩
            · simp only [app, List.map_cons, List.map_nil, List.sum_cons, List.sum_nil] at hadv ⊢
              omega
            · intro x hx
              simp only [app, List.mem_singleton] at hx
              subst hx
              exact h2g.2
            · simp only [app]
              cases o <;> simp
          · cases h
theorem bareV_cnt {f : Nat → Option (T × Nat)} {s : ByteArray} {n : Nat} (hf : ∀ i t e, i ≤ s.size → f i = some (t, e) → i < e ∧ e ≤ s.size) (hg : ∀ i t e, i ≤ s.size → f i = some (t, e) → cntT n t ≤ e - i ∧ Tame n t) {j : Nat} {t : T} {e : Nat} (hj : j ≤ s.size) (h : bareV f s j = some (t, e)) : cntT (n + 1) t ≤ e - j ∧ Tame (n + 1) t := by
  have hadv := bareV_adv hf hj h
  have hleaf : ∀ k m x, t = leafT k m x → cntT (n + 1) t ≤ e - j ∧ Tame (n + 1) t := by
    intro k m x hx
    subst hx
    rw [cnt_leaf]
    exact ⟨by omega, tame_leaf _ _ _ _⟩
  have hbox : ∀ (o : Bool) (k : Int), (k = 5 ∨ k = 6) → cB s j < 256 → (boxS f s o (j + 1)).map (fun r => (mkT k 0 ByteArray.empty r.1.2 r.1.1, r.2)) = some (t, e) → cntT (n + 1) t ≤ e - j ∧ Tame (n + 1) t := by
    intro o k hk hc hh
    have hj1 := cB_in hc
    have h3 := sk_ge s (j + 1)
    have h5 := sk_le (s := s) (i := j + 1) (by omega)
    cases hb : boxS f s o (j + 1) with
    | none => rw [hb] at hh; cases hh
    | some r =>
      rw [hb] at hh
      simp only [Option.map_some, Option.some.injEq, Prod.mk.injEq] at hh
      obtain ⟨rfl, rfl⟩ := hh
      unfold boxS at hb
      split at hb
      · simp only [Option.some.injEq] at hb
        subst hb
        rw [cnt_mk]
        refine ⟨?_, tame_mk hk (by simp) (by simp)⟩
        simp only [List.map_nil, List.sum_nil]
        omega
      · have := itm_cnt hf hg o _ _ r h5 hb
        rw [cnt_mk]
        refine ⟨?_, tame_mk hk this.2.2.1 this.2.1⟩
        have h6 := this.1
        have h7 := this.2.2.2.1
        omega
  unfold bareV at h
  split at h
  · cases ht : txtS s j with
    | none => rw [ht] at h; cases h
    | some q =>
      rw [ht] at h
      simp only [Option.map_some, Option.some.injEq, Prod.mk.injEq] at h
      exact hleaf _ _ _ h.1.symm
  · split at h
    · exact hbox _ _ (by omega) (by omega) h
    · split at h
      · exact hbox _ _ (by omega) (by omega) h
      · split at h
        · cases ht : numS s j with
          | none => rw [ht] at h; cases h
          | some q =>
            rw [ht] at h
            simp only [Option.map_some, Option.some.injEq, Prod.mk.injEq] at h
            exact hleaf _ _ _ h.1.symm
        · split at h
          · simp only [Option.some.injEq, Prod.mk.injEq] at h
            exact hleaf _ _ _ h.1.symm
          · split at h
            · simp only [Option.some.injEq, Prod.mk.injEq] at h
              exact hleaf _ _ _ h.1.symm
            · split at h
              · simp only [Option.some.injEq, Prod.mk.injEq] at h
                exact hleaf _ _ _ h.1.symm
              · cases h
theorem valN_cnt {s : ByteArray} : ∀ (n i : Nat) (t : T) (e : Nat), i ≤ s.size → valN s n i = some (t, e) → cntT n t ≤ e - i ∧ Tame n t
  | 0, _, _, _, _, h => by cases h
  | n + 1, i, t, e, hi, h => by
    rw [valN] at h
    have := bareV_cnt (fun i t e => valN_adv n i t e) (fun i t e => valN_cnt n i t e) (sk_le hi) h
    have h2 := sk_ge s i
    exact ⟨by omega, this.2⟩
theorem flat_cnt {w : World} : ∀ {f : Nat} {v : Value} {t : T} {es : List Ent}, Flat w f v t es → Tame f t → es.length ≤ cntT f t ∧ ∀ e ∈ es, e.n ≤ cntT f t ∧ e.m ≤ cntT f t := by
  intro f
  induction f with
  | zero => intro v t es h; exact h.elim
  | succ f ih =>
    rintro v t es ⟨Lv, Kv, xs, sub, rfl, hf, hl, hk, hc, hn, rfl⟩ ⟨_, hkl, hg⟩
    have hge := sumL_ge1 (g := cntT f) (t := t) (fun t => cnt_pos f t) (nL t)
    rw [cntT]
    refine ⟨?_, fun e he => ?_⟩
    · have := cat_len (s := sub) (g := fun i => cntT f (elt t i)) (nL t) (fun i hi => (ih (hc i hi) (hg i hi)).1)
      rw [← sumL_range] at this
      rw [List.length_append, List.length_singleton]
      omega
    · rw [List.mem_append] at he
      rcases he with he | he
      · obtain ⟨i, hi, hh⟩ := mem_cat he
        have h1 := (ih (hc i hi) (hg i hi)).2 e hh
        have h2 := sumL_one (g := cntT f) (t := t) hi
        omega
      · simp only [List.mem_singleton] at he
        subst he
        simp only
        omega
theorem deepL_one {g : T → Nat} {t : T} {i : Nat} : ∀ {k : Nat}, i < k → g (elt t i) ≤ deepL g t k
  | k + 1, h => by
    rw [deepL]
    by_cases e : i = k
    · subst e; omega
    · have := deepL_one (g := g) (t := t) (i := i) (k := k) (by omega); omega
theorem flat_cut {w : World} : ∀ {f n : Nat} {v : Value} {t : T} {es : List Ent}, Flat w f v t es → Tame f t → deepT f t ≤ n → Flat w (n + 1) v t es := by
  intro f
  induction f with
  | zero => intro n v t es h; exact h.elim
  | succ f ih =>
    rintro n v t es ⟨Lv, Kv, xs, sub, rfl, hf, hl, hk, hc, hn, rfl⟩ ⟨hb, _, hg⟩ hd
    refine ⟨Lv, Kv, xs, sub, rfl, hf, hl, hk, fun i hi => ?_, hn, rfl⟩
    cases hbx : isBox t with
    | false =>
      have := hb hbx
      omega
    | true =>
      rw [deepT, if_pos hbx] at hd
      have h1 := deepL_one (g := deepT f) (t := t) hi
      obtain ⟨m, rfl⟩ : ∃ m, n = m + 1 := ⟨n - 1, by omega⟩
      exact ih (hc i hi) (hg i hi) (by omega)
end Go.Proofs.YtknakfpciccoaaaGreatDoor
/- The walks of the program's reader: value, parseBytes, Decode. -/
namespace Go.Proofs.YtknakfpciccoaaaGreatDoor
open Go.RowKit

set_option maxHeartbeats 1000000 in
set_option maxRecDepth 100000 in
theorem entries_deep (c : Nat) (k : Int) (w : World) :
    Calls Tryz.prog 147 #[.pointer (some ⟨c, 0, none⟩), .int .i64 k, .int .i64 13] w fun e w' => e = refused 6 ∧ Below w.heap.size w w' := by
  go_enter Tryz.func147, Tryz.ntmps147
  go_wp2_with fail
  exact ⟨rfl, rfl, (Below.refl _ _).alloc (Nat.le_refl _) _⟩
def boxP : Nat → Option (ByteArray → Option (T × ByteArray))
  | 0 => none
  | d + 1 => some (decP d)
theorem decP_eq (d : Nat) : decP d = stepD false (boxP d) := by cases d <;> rfl
section
variable {b : Option (ByteArray → Option (T × ByteArray))} {s : ByteArray}
theorem stepD_0 {c : Bool} (h : s.size < 1) : stepD c b s = none := by unfold stepD; rw [if_pos h]
theorem stepD_1 {c : Bool} (h : 1 ≤ s.size) (hn : numB (pre s 1) = 1) : stepD c b s = some (leafT 1 0 ByteArray.empty, suf s 1) := by unfold stepD; rw [if_neg (by omega), if_pos hn]
theorem stepD_2 {c : Bool} (h : 1 ≤ s.size) (hn : numB (pre s 1) = 2) : stepD c b s = if (suf s 1).size < 1 then none else if c = true ∧ 2 ≤ numB (pre (suf s 1) 1) then none else some (leafT 2 (numB (pre (suf s 1) 1)) ByteArray.empty, suf (suf s 1) 1) := by unfold stepD; rw [if_neg (by omega), if_neg (by omega), if_pos hn]
theorem stepD_3 {c : Bool} (h : 1 ≤ s.size) (hn : numB (pre s 1) = 3) : stepD c b s = if (suf s 1).size < 8 then none else some (leafT 3 (IntKind.i64.wrap (numB (pre (suf s 1) 8))) ByteArray.empty, suf (suf s 1) 8) := by unfold stepD; rw [if_neg (by omega), if_neg (by omega), if_neg (by omega), if_pos hn]
theorem stepD_4 {c : Bool} (h : 1 ≤ s.size) (hn : numB (pre s 1) = 4) : stepD c b s = (szB (suf s 1) 4).bind fun p => some (leafT 4 0 p.1, p.2) := by unfold stepD; rw [if_neg (by omega), if_neg (by omega), if_neg (by omega), if_neg (by omega), if_pos hn]
theorem stepD_56 {c : Bool} (h : 1 ≤ s.size) (hn : numB (pre s 1) = 5 ∨ numB (pre s 1) = 6) : stepD c b s = b.bind fun f => (szB (suf s 1) 4).bind fun p => (ents f (numB (pre s 1) == 6) p.1.size p.1).bind fun q => some (mkT (numB (pre s 1)) 0 ByteArray.empty q.2 q.1, p.2) := by unfold stepD; rw [if_neg (by omega), if_neg (by omega), if_neg (by omega), if_neg (by omega), if_neg (by omega), if_pos hn]
theorem stepD_7 {c : Bool} (h : 1 ≤ s.size) (h1 : numB (pre s 1) ≠ 1) (h2 : numB (pre s 1) ≠ 2) (h3 : numB (pre s 1) ≠ 3) (h4 : numB (pre s 1) ≠ 4) (h5 : numB (pre s 1) ≠ 5) (h6 : numB (pre s 1) ≠ 6) : stepD c b s = none := by unfold stepD; rw [if_neg (by omega), if_neg h1, if_neg h2, if_neg h3, if_neg h4, if_neg (by omega)]
end
theorem stepD_ent (d : Nat) {s : ByteArray} (k : Int) (h : 1 ≤ s.size) (hk : k = 5 ∨ k = 6) (hn : (numB (pre s 1) : Int) = k) : decP (d + 1) s = entO d k (suf s 1) := by
  rw [decP_eq, stepD_56 h (by omega)]
  unfold entO
  simp only [boxP, Option.bind_some]
  rw [hn]
  have : (numB (pre s 1) == 6) = (k == 6) := by
    rcases hk with rfl | rfl
    · have : numB (pre s 1) = 5 := by omega
      rw [this]; rfl
    · have : numB (pre s 1) = 6 := by omega
      rw [this]; rfl
  rw [this]
theorem stepD_none (s : ByteArray) (h : 1 ≤ s.size) (hk : numB (pre s 1) = 5 ∨ numB (pre s 1) = 6) : decP 0 s = none := by
  rw [decP_eq, stepD_56 h hk]
  rfl
/-- The result's five cells are written last. -/
theorem put_res {c : Nat} {w wr : World} {f lo : Nat} {v : Value} {t : T} {es : List Ent} {r : ByteArray} (hB : But c w wr) (hc : c < w.heap.size) (hF : Flat wr f v t es) (hS : Sep lo wr es) (hlo : w.heap.size < lo) (hL : Left c r wr) (u0 u1 u2 u3 u4 : Value) :
    But c w (((((wr.setCell ⟨w.heap.size, 0, none⟩ u0).setCell ⟨w.heap.size, 1, none⟩ u1).setCell ⟨w.heap.size, 2, none⟩ u2).setCell ⟨w.heap.size, 3, none⟩ u3).setCell ⟨w.heap.size, 4, none⟩ u4) ∧
    Flat (((((wr.setCell ⟨w.heap.size, 0, none⟩ u0).setCell ⟨w.heap.size, 1, none⟩ u1).setCell ⟨w.heap.size, 2, none⟩ u2).setCell ⟨w.heap.size, 3, none⟩ u3).setCell ⟨w.heap.size, 4, none⟩ u4) f v t es ∧
    Sep w.heap.size (((((wr.setCell ⟨w.heap.size, 0, none⟩ u0).setCell ⟨w.heap.size, 1, none⟩ u1).setCell ⟨w.heap.size, 2, none⟩ u2).setCell ⟨w.heap.size, 3, none⟩ u3).setCell ⟨w.heap.size, 4, none⟩ u4) es ∧
    Left c r (((((wr.setCell ⟨w.heap.size, 0, none⟩ u0).setCell ⟨w.heap.size, 1, none⟩ u1).setCell ⟨w.heap.size, 2, none⟩ u2).setCell ⟨w.heap.size, 3, none⟩ u3).setCell ⟨w.heap.size, 4, none⟩ u4) := by
  have hset : ∀ (w1 : World) (o : Nat) (u : Value) (b : Nat), b ≠ w.heap.size → (w1.setCell ⟨w.heap.size, o, none⟩ u).heap[b]? = w1.heap[b]? := fun w1 o u b hb => Below.heap_setCell _ _ _ _ (by simpa using hb)
  refine ⟨((((hB.setNew (Nat.le_refl _) _ _).setNew (Nat.le_refl _) _ _).setNew (Nat.le_refl _) _ _).setNew (Nat.le_refl _) _ _).setNew (Nat.le_refl _) _ _, hF.move fun b hb => ?_, ?_, ((((hL.setOther (by omega) _ _).setOther (by omega) _ _).setOther (by omega) _ _).setOther (by omega) _ _).setOther (by omega) _ _⟩
  · have h1 := hS.lies b hb
    rw [hset _ _ _ _ (by omega), hset _ _ _ _ (by omega), hset _ _ _ _ (by omega), hset _ _ _ _ (by omega), hset _ _ _ _ (by omega)]
  · exact (hS.lower (by omega)).keep (by simp [World.setCell])
theorem wrap64_e (n : Int) : IntKind.i64.wrap n = wrap64 n := by rw [IntKind.wrap_i64, wrap64]
theorem wrap64_b2 (n : Int) : -9223372036854775808 ≤ wrap64 n ∧ wrap64 n ≤ 9223372036854775807 := by rw [← wrap64_e, IntKind.wrap_i64]; omega
theorem wrap64_bd (n : Int) : -9223372036854775808 ≤ IntKind.i64.wrap n ∧ IntKind.i64.wrap n ≤ 9223372036854775807 := by rw [IntKind.wrap_i64]; omega
set_option maxHeartbeats 4000000 in
set_option maxRecDepth 100000 in
theorem value_1 (d : Nat) (hd : d ≤ 12) (c : Nat) (s : ByteArray) (w : World) (hnum : numB (pre s 1) = 1) (h : Left c s w) (hs : s.size ≤ 140737488355328) : Calls Tryz.prog 108 #[.pointer (some ⟨c, 0, none⟩), .int .i64 ((12 - d : Nat) : Int)] w (ValPost c d s w) := by
  have HB0 : Hid (Below w.heap.size w (w.alloc (.cells #[.int .i64 0, .int .i64 0, .string ⟨#[]⟩, .slice none 0 0, .slice none 0 0] 25))) := (Below.refl _ _).alloc (Nat.le_refl _) _
  have HR0 : Hid (BoxAt w.heap.size (.int .i64 0) (.int .i64 0) (.string ⟨#[]⟩) (.slice none 0 0) (.slice none 0 0) (w.alloc (.cells #[.int .i64 0, .int .i64 0, .string ⟨#[]⟩, .slice none 0 0, .slice none 0 0] 25))) := box_new w _ _ _ _ _
  have hlc := h.lt
  have HN := hid (number_bytes c s 1 _ (h.keep HB0.out) (by omega) hs)
  have Hnn := hid hnum
  clear hnum
  obtain ⟨a0, ha, ha1⟩ : ∃ a : Nat, 12 - d = a ∧ a ≤ 12 := ⟨_, rfl, by omega⟩
  rw [ha]
  have Ha := hid ha
  clear h ha
  go_enter Tryz.func108, Tryz.ntmps108
  go_wp2_with fail
  refine HN.out.mono ?_
  rintro e w1 ⟨B1, ⟨h1, rfl, L1⟩ | ⟨h1, rfl⟩⟩
  · have hn := numB_lt (pre s 1)
    rw [pre_size h1] at hn
    have hsz := suf_size s 1
    have HL1 := hid L1
    have HR1 := hid (HR0.out.move B1.size (B1.block _ HR0.out.lt (by omega)))
    have HW1 := hid ((But.of (c := c) HB0.out).trans B1)
    clear B1 L1 HN HR0 HB0
    have r0 := HR1.out.q0
    have r1 := HR1.out.q1
    have r2 := HR1.out.q2
    have r3 := HR1.out.q3
    have r4 := HR1.out.q4
    have s0 := HR1.out.f0
    have s1 := HR1.out.f1
    have s2 := HR1.out.f2
    have s3 := HR1.out.f3
    have s4 := HR1.out.f4
    rw [Hnn.out]
    go_wp2_with fail
    refine bodyPost_ret (v := five (leafT 1 0 ByteArray.empty) none 0 none 0) (by simp [results, Tryz.results108, go_sem, five, leafT, kindOf_mk, nOf_mk, sOf_mk, nL_mk, nK_mk, *]; rfl) rfl ?_
    obtain ⟨p1, p2, p3, p4⟩ := put_res HW1.out hlc (flat_leaf w1 d 1 0 ByteArray.empty (by omega) (by omega) (by omega) (by omega) (by simp)) (sep_leaf (w.heap.size + 1) w1) (by omega) HL1.out (.int .i64 1) (.int .i64 0) (.string ⟨#[]⟩) (.slice none 0 0) (.slice none 0 0)
    exact ⟨p1, Or.inl ⟨leafT 1 0 ByteArray.empty, suf s 1, _, none, 0, none, 0, by rw [decP_eq, stepD_1 h1 Hnn.out], rfl, p2, p3, p4⟩⟩
  · have HW1 := hid ((But.of (c := c) HB0.out).trans B1)
    clear B1
    go_wp2_with fail
    exact ⟨rfl, HW1.out, Or.inr ⟨by rw [decP_eq, stepD_0 h1], rfl⟩⟩
set_option maxHeartbeats 4000000 in
set_option maxRecDepth 100000 in
theorem value_2 (d : Nat) (hd : d ≤ 12) (c : Nat) (s : ByteArray) (w : World) (hnum : numB (pre s 1) = 2) (h : Left c s w) (hs : s.size ≤ 140737488355328) : Calls Tryz.prog 108 #[.pointer (some ⟨c, 0, none⟩), .int .i64 ((12 - d : Nat) : Int)] w (ValPost c d s w) := by
  have HB0 : Hid (Below w.heap.size w (w.alloc (.cells #[.int .i64 0, .int .i64 0, .string ⟨#[]⟩, .slice none 0 0, .slice none 0 0] 25))) := (Below.refl _ _).alloc (Nat.le_refl _) _
  have HR0 : Hid (BoxAt w.heap.size (.int .i64 0) (.int .i64 0) (.string ⟨#[]⟩) (.slice none 0 0) (.slice none 0 0) (w.alloc (.cells #[.int .i64 0, .int .i64 0, .string ⟨#[]⟩, .slice none 0 0, .slice none 0 0] 25))) := box_new w _ _ _ _ _
  have hlc := h.lt
  have HN := hid (number_bytes c s 1 _ (h.keep HB0.out) (by omega) hs)
  have Hnn := hid hnum
  clear hnum
  obtain ⟨a0, ha, ha1⟩ : ∃ a : Nat, 12 - d = a ∧ a ≤ 12 := ⟨_, rfl, by omega⟩
  rw [ha]
  have Ha := hid ha
  clear h ha
  go_enter Tryz.func108, Tryz.ntmps108
  go_wp2_with fail
  refine HN.out.mono ?_
  rintro e w1 ⟨B1, ⟨h1, rfl, L1⟩ | ⟨h1, rfl⟩⟩
  · have hn := numB_lt (pre s 1)
    rw [pre_size h1] at hn
    have hsz := suf_size s 1
    have HL1 := hid L1
    have HR1 := hid (HR0.out.move B1.size (B1.block _ HR0.out.lt (by omega)))
    have HW1 := hid ((But.of (c := c) HB0.out).trans B1)
    clear B1 L1 HN HR0 HB0
    have r0 := HR1.out.q0
    have r1 := HR1.out.q1
    have r2 := HR1.out.q2
    have r3 := HR1.out.q3
    have r4 := HR1.out.q4
    have s0 := HR1.out.f0
    have s1 := HR1.out.f1
    have s2 := HR1.out.f2
    have s3 := HR1.out.f3
    have s4 := HR1.out.f4
    rw [Hnn.out]
    have HN2 := hid (number_bytes c (suf s 1) 1 w1 HL1.out (by omega) (by omega))
    go_wp2_with fail
    refine HN2.out.mono ?_
    rintro e w2 ⟨B2, ⟨h2, rfl, L2⟩ | ⟨h2, rfl⟩⟩
    · have HL2 := hid L2
      have HR2 := hid (HR1.out.move B2.size (B2.block _ HR1.out.lt (by omega)))
      have HW2 := hid (HW1.out.trans B2)
      have hn2 := numB_lt (pre (suf s 1) 1)
      rw [pre_size h2] at hn2
      clear B2 L2 HN2 r0 r1 r2 r3 r4 s0 s1 s2 s3 s4
      have r0 := HR2.out.q0
      have r1 := HR2.out.q1
      have r2 := HR2.out.q2
      have r3 := HR2.out.q3
      have r4 := HR2.out.q4
      have s0 := HR2.out.f0
      have s1 := HR2.out.f1
      have s2 := HR2.out.f2
      have s3 := HR2.out.f3
      have s4 := HR2.out.f4
      generalize hm : numB (pre (suf s 1) 1) = m at hn2 ⊢
      have Hm := hid hm
      clear hm
      go_wp2_with fail
      refine bodyPost_ret (v := five (leafT 2 m ByteArray.empty) none 0 none 0) (by simp [results, Tryz.results108, go_sem, five, leafT, kindOf_mk, nOf_mk, sOf_mk, nL_mk, nK_mk, *]; rfl) rfl ?_
      obtain ⟨p1, p2, p3, p4⟩ := put_res HW2.out hlc (flat_leaf w2 d 2 (m) ByteArray.empty (by omega) (by omega) (by omega) (by omega) (by simp)) (sep_leaf (w.heap.size + 1) w2) (by omega) HL2.out (.int .i64 2) (.int .i64 (m)) (.string ⟨#[]⟩) (.slice none 0 0) (.slice none 0 0)
      exact ⟨p1, Or.inl ⟨leafT 2 m ByteArray.empty, suf (suf s 1) 1, _, none, 0, none, 0, by rw [decP_eq, stepD_2 h1 Hnn.out, if_neg (by omega), if_neg (by simp), Hm.out], rfl, p2, p3, p4⟩⟩
    · have HW2 := hid (HW1.out.trans B2)
      clear B2
      go_wp2_with fail
      exact ⟨rfl, HW2.out, Or.inr ⟨by rw [decP_eq, stepD_2 h1 Hnn.out, if_pos (by omega)], rfl⟩⟩
  · have HW1 := hid ((But.of (c := c) HB0.out).trans B1)
    clear B1
    go_wp2_with fail
    exact ⟨rfl, HW1.out, Or.inr ⟨by rw [decP_eq, stepD_0 h1], rfl⟩⟩
set_option maxHeartbeats 4000000 in
set_option maxRecDepth 100000 in
theorem value_4 (d : Nat) (hd : d ≤ 12) (c : Nat) (s : ByteArray) (w : World) (hnum : numB (pre s 1) = 4) (h : Left c s w) (hs : s.size ≤ 140737488355328) : Calls Tryz.prog 108 #[.pointer (some ⟨c, 0, none⟩), .int .i64 ((12 - d : Nat) : Int)] w (ValPost c d s w) := by
  have HB0 : Hid (Below w.heap.size w (w.alloc (.cells #[.int .i64 0, .int .i64 0, .string ⟨#[]⟩, .slice none 0 0, .slice none 0 0] 25))) := (Below.refl _ _).alloc (Nat.le_refl _) _
  have HR0 : Hid (BoxAt w.heap.size (.int .i64 0) (.int .i64 0) (.string ⟨#[]⟩) (.slice none 0 0) (.slice none 0 0) (w.alloc (.cells #[.int .i64 0, .int .i64 0, .string ⟨#[]⟩, .slice none 0 0, .slice none 0 0] 25))) := box_new w _ _ _ _ _
  have hlc := h.lt
  have HN := hid (number_bytes c s 1 _ (h.keep HB0.out) (by omega) hs)
  have Hnn := hid hnum
  clear hnum
  obtain ⟨a0, ha, ha1⟩ : ∃ a : Nat, 12 - d = a ∧ a ≤ 12 := ⟨_, rfl, by omega⟩
  rw [ha]
  have Ha := hid ha
  clear h ha
  go_enter Tryz.func108, Tryz.ntmps108
  go_wp2_with fail
  refine HN.out.mono ?_
  rintro e w1 ⟨B1, ⟨h1, rfl, L1⟩ | ⟨h1, rfl⟩⟩
  · have hn := numB_lt (pre s 1)
    rw [pre_size h1] at hn
    have hsz := suf_size s 1
    have HL1 := hid L1
    have HR1 := hid (HR0.out.move B1.size (B1.block _ HR0.out.lt (by omega)))
    have HW1 := hid ((But.of (c := c) HB0.out).trans B1)
    clear B1 L1 HN HR0 HB0
    have r0 := HR1.out.q0
    have r1 := HR1.out.q1
    have r2 := HR1.out.q2
    have r3 := HR1.out.q3
    have r4 := HR1.out.q4
    have s0 := HR1.out.f0
    have s1 := HR1.out.f1
    have s2 := HR1.out.f2
    have s3 := HR1.out.f3
    have s4 := HR1.out.f4
    rw [Hnn.out]
    have HN2 := hid (text_bytes c (suf s 1) 4 w1 HL1.out (by omega) (by omega))
    go_wp2_with fail
    refine HN2.out.mono ?_
    rintro e w2 ⟨B2, ⟨x, r, hz, rfl, L2⟩ | ⟨hz, rfl⟩⟩
    · have HL2 := hid L2
      have HR2 := hid (HR1.out.move B2.size (B2.block _ HR1.out.lt (by omega)))
      have HW2 := hid (HW1.out.trans B2)
      have hx := szB_size hz
      clear B2 L2 HN2 r0 r1 r2 r3 r4 s0 s1 s2 s3 s4
      have r0 := HR2.out.q0
      have r1 := HR2.out.q1
      have r2 := HR2.out.q2
      have r3 := HR2.out.q3
      have r4 := HR2.out.q4
      have s0 := HR2.out.f0
      have s1 := HR2.out.f1
      have s2 := HR2.out.f2
      have s3 := HR2.out.f3
      have s4 := HR2.out.f4
      go_wp2_with fail
      refine bodyPost_ret (v := five (leafT 4 0 x) none 0 none 0) (by simp [results, Tryz.results108, go_sem, five, leafT, kindOf_mk, nOf_mk, sOf_mk, nL_mk, nK_mk, *]) rfl ?_
      obtain ⟨p1, p2, p3, p4⟩ := put_res HW2.out hlc (flat_leaf w2 d 4 0 x (by omega) (by omega) (by omega) (by omega) (by omega)) (sep_leaf (w.heap.size + 1) w2) (by omega) HL2.out (.int .i64 4) (.int .i64 0) (.string x) (.slice none 0 0) (.slice none 0 0)
      exact ⟨p1, Or.inl ⟨leafT 4 0 x, r, _, none, 0, none, 0, by rw [decP_eq, stepD_4 h1 Hnn.out, hz]; rfl, rfl, p2, p3, p4⟩⟩
    · have HW2 := hid (HW1.out.trans B2)
      clear B2
      go_wp2_with fail
      exact ⟨rfl, HW2.out, Or.inr ⟨by rw [decP_eq, stepD_4 h1 Hnn.out, hz]; rfl, rfl⟩⟩
  · have HW1 := hid ((But.of (c := c) HB0.out).trans B1)
    clear B1
    go_wp2_with fail
    exact ⟨rfl, HW1.out, Or.inr ⟨by rw [decP_eq, stepD_0 h1], rfl⟩⟩
set_option maxHeartbeats 4000000 in
set_option maxRecDepth 100000 in
theorem value_5 (d : Nat) (hd : d ≤ 12) (ih : ∀ d', d = d' + 1 → ValSaid d') (c : Nat) (s : ByteArray) (w : World) (hnum : numB (pre s 1) = 5) (h : Left c s w) (hs : s.size ≤ 140737488355328) : Calls Tryz.prog 108 #[.pointer (some ⟨c, 0, none⟩), .int .i64 ((12 - d : Nat) : Int)] w (ValPost c d s w) := by
  have HB0 : Hid (Below w.heap.size w (w.alloc (.cells #[.int .i64 0, .int .i64 0, .string ⟨#[]⟩, .slice none 0 0, .slice none 0 0] 25))) := (Below.refl _ _).alloc (Nat.le_refl _) _
  have HR0 : Hid (BoxAt w.heap.size (.int .i64 0) (.int .i64 0) (.string ⟨#[]⟩) (.slice none 0 0) (.slice none 0 0) (w.alloc (.cells #[.int .i64 0, .int .i64 0, .string ⟨#[]⟩, .slice none 0 0, .slice none 0 0] 25))) := box_new w _ _ _ _ _
  have hlc := h.lt
  have HN := hid (number_bytes c s 1 _ (h.keep HB0.out) (by omega) hs)
  have Hnn := hid hnum
  have HI := hid ih
  clear hnum ih
  obtain ⟨a0, ha, ha1⟩ : ∃ a : Nat, 12 - d = a ∧ a ≤ 12 := ⟨_, rfl, by omega⟩
  rw [ha]
  have Ha := hid ha
  clear h ha
  go_enter Tryz.func108, Tryz.ntmps108
  go_wp2_with fail
  refine HN.out.mono ?_
  rintro e w1 ⟨B1, ⟨h1, rfl, L1⟩ | ⟨h1, rfl⟩⟩
  · have hn := numB_lt (pre s 1)
    rw [pre_size h1] at hn
    have hsz := suf_size s 1
    have HL1 := hid L1
    have HR1 := hid (HR0.out.move B1.size (B1.block _ HR0.out.lt (by omega)))
    have HW1 := hid ((But.of (c := c) HB0.out).trans B1)
    clear B1 L1 HN HR0 HB0
    have r0 := HR1.out.q0
    have r1 := HR1.out.q1
    have r2 := HR1.out.q2
    have r3 := HR1.out.q3
    have r4 := HR1.out.q4
    have s0 := HR1.out.f0
    have s1 := HR1.out.f1
    have s2 := HR1.out.f2
    have s3 := HR1.out.f3
    have s4 := HR1.out.f4
    rw [Hnn.out]
    cases d with
    | zero =>
      have ea : a0 = 12 := by have := Ha.out; omega
      subst ea
      have HZ := hid (stepD_none s h1 (by rw [Hnn.out]; omega))
      go_wp2_with fail
      refine (entries_deep c 5 w1).mono ?_
      rintro e w2 ⟨rfl, hb2⟩
      have HW2 := hid (HW1.out.trans (But.of hb2))
      clear hb2
      go_wp2_with fail
      exact ⟨rfl, HW2.out, Or.inr ⟨HZ.out, rfl⟩⟩
    | succ d =>
      have ea : (a0 : Int) + 1 = ((12 - d : Nat) : Int) := by have := Ha.out; omega
      have HE5 : Hid (Calls Tryz.prog 147 #[.pointer (some ⟨c, 0, none⟩), .int .i64 5, .int .i64 ((a0 : Int) + 1)] w1 (EntPost c d 5 (suf s 1) w1)) := by
        show Calls _ _ _ _ _
        rw [ea]
        exact entries_any d (by omega) (HI.out d rfl) c 5 (by omega) (suf s 1) w1 HL1.out (by omega)
      have HZ : Hid (decP (d + 1) s = entO d 5 (suf s 1)) := stepD_ent d 5 h1 (by omega) (by rw [Hnn.out]; rfl)
      clear ea
      go_wp2_with fail
      refine HE5.out.mono ?_
      rintro e w2 ⟨B2, ⟨t, r, es, A, B, C, D, hz, rfl, hF, hS, L2⟩ | ⟨hz, rfl⟩⟩
      · have HL2 := hid L2
        have HR2 := hid (HR1.out.move B2.size (B2.block _ HR1.out.lt (by omega)))
        have HW2 := hid (HW1.out.trans B2)
        have HF := hid hF
        have HS := hid hS
        have Hz := hid (HZ.out.trans hz)
        clear B2 L2 HE5 HZ hF hS hz r0 r1 r2 r3 r4 s0 s1 s2 s3 s4
        have r0 := HR2.out.q0
        have r1 := HR2.out.q1
        have r2 := HR2.out.q2
        have r3 := HR2.out.q3
        have r4 := HR2.out.q4
        have s0 := HR2.out.f0
        have s1 := HR2.out.f1
        have s2 := HR2.out.f2
        have s3 := HR2.out.f3
        have s4 := HR2.out.f4
        have hl1 := HR1.out.lt
        unfold five
        go_wp2_with fail
        refine bodyPost_ret (v := five t A B C D) (by simp [results, Tryz.results108, go_sem, five, *]) rfl ?_
        obtain ⟨p1, p2, p3, p4⟩ := put_res HW2.out hlc HF.out HS.out hl1 HL2.out (.int .i64 (kindOf t)) (.int .i64 (nOf t)) (.string (sOf t)) (.slice A (nL t) B) (.slice C (nK t) D)
        exact ⟨p1, Or.inl ⟨t, r, es, A, B, C, D, Hz.out, rfl, p2, p3, p4⟩⟩
      · have HW2 := hid (HW1.out.trans B2)
        clear B2
        go_wp2_with fail
        exact ⟨rfl, HW2.out, Or.inr ⟨HZ.out.trans hz, rfl⟩⟩
  · have HW1 := hid ((But.of (c := c) HB0.out).trans B1)
    clear B1
    go_wp2_with fail
    exact ⟨rfl, HW1.out, Or.inr ⟨by rw [decP_eq, stepD_0 h1], rfl⟩⟩
set_option maxHeartbeats 4000000 in
set_option maxRecDepth 100000 in
theorem value_6 (d : Nat) (hd : d ≤ 12) (ih : ∀ d', d = d' + 1 → ValSaid d') (c : Nat) (s : ByteArray) (w : World) (hnum : numB (pre s 1) = 6) (h : Left c s w) (hs : s.size ≤ 140737488355328) : Calls Tryz.prog 108 #[.pointer (some ⟨c, 0, none⟩), .int .i64 ((12 - d : Nat) : Int)] w (ValPost c d s w) := by
  have HB0 : Hid (Below w.heap.size w (w.alloc (.cells #[.int .i64 0, .int .i64 0, .string ⟨#[]⟩, .slice none 0 0, .slice none 0 0] 25))) := (Below.refl _ _).alloc (Nat.le_refl _) _
  have HR0 : Hid (BoxAt w.heap.size (.int .i64 0) (.int .i64 0) (.string ⟨#[]⟩) (.slice none 0 0) (.slice none 0 0) (w.alloc (.cells #[.int .i64 0, .int .i64 0, .string ⟨#[]⟩, .slice none 0 0, .slice none 0 0] 25))) := box_new w _ _ _ _ _
  have hlc := h.lt
  have HN := hid (number_bytes c s 1 _ (h.keep HB0.out) (by omega) hs)
  have Hnn := hid hnum
  have HI := hid ih
  clear hnum ih
  obtain ⟨a0, ha, ha1⟩ : ∃ a : Nat, 12 - d = a ∧ a ≤ 12 := ⟨_, rfl, by omega⟩
  rw [ha]
  have Ha := hid ha
  clear h ha
  go_enter Tryz.func108, Tryz.ntmps108
  go_wp2_with fail
  refine HN.out.mono ?_
  rintro e w1 ⟨B1, ⟨h1, rfl, L1⟩ | ⟨h1, rfl⟩⟩
  · have hn := numB_lt (pre s 1)
    rw [pre_size h1] at hn
    have hsz := suf_size s 1
    have HL1 := hid L1
    have HR1 := hid (HR0.out.move B1.size (B1.block _ HR0.out.lt (by omega)))
    have HW1 := hid ((But.of (c := c) HB0.out).trans B1)
    clear B1 L1 HN HR0 HB0
    have r0 := HR1.out.q0
    have r1 := HR1.out.q1
    have r2 := HR1.out.q2
    have r3 := HR1.out.q3
    have r4 := HR1.out.q4
    have s0 := HR1.out.f0
    have s1 := HR1.out.f1
    have s2 := HR1.out.f2
    have s3 := HR1.out.f3
    have s4 := HR1.out.f4
    rw [Hnn.out]
    cases d with
    | zero =>
      have ea : a0 = 12 := by have := Ha.out; omega
      subst ea
      have HZ := hid (stepD_none s h1 (by rw [Hnn.out]; omega))
      go_wp2_with fail
      refine (entries_deep c 6 w1).mono ?_
      rintro e w2 ⟨rfl, hb2⟩
      have HW2 := hid (HW1.out.trans (But.of hb2))
      clear hb2
      go_wp2_with fail
      exact ⟨rfl, HW2.out, Or.inr ⟨HZ.out, rfl⟩⟩
    | succ d =>
      have ea : (a0 : Int) + 1 = ((12 - d : Nat) : Int) := by have := Ha.out; omega
      have HE6 : Hid (Calls Tryz.prog 147 #[.pointer (some ⟨c, 0, none⟩), .int .i64 6, .int .i64 ((a0 : Int) + 1)] w1 (EntPost c d 6 (suf s 1) w1)) := by
        show Calls _ _ _ _ _
        rw [ea]
        exact entries_any d (by omega) (HI.out d rfl) c 6 (by omega) (suf s 1) w1 HL1.out (by omega)
      have HZ : Hid (decP (d + 1) s = entO d 6 (suf s 1)) := stepD_ent d 6 h1 (by omega) (by rw [Hnn.out]; rfl)
      clear ea
      go_wp2_with fail
      refine HE6.out.mono ?_
      rintro e w2 ⟨B2, ⟨t, r, es, A, B, C, D, hz, rfl, hF, hS, L2⟩ | ⟨hz, rfl⟩⟩
      · have HL2 := hid L2
        have HR2 := hid (HR1.out.move B2.size (B2.block _ HR1.out.lt (by omega)))
        have HW2 := hid (HW1.out.trans B2)
        have HF := hid hF
        have HS := hid hS
        have Hz := hid (HZ.out.trans hz)
        clear B2 L2 HE6 HZ hF hS hz r0 r1 r2 r3 r4 s0 s1 s2 s3 s4
        have r0 := HR2.out.q0
        have r1 := HR2.out.q1
        have r2 := HR2.out.q2
        have r3 := HR2.out.q3
        have r4 := HR2.out.q4
        have s0 := HR2.out.f0
        have s1 := HR2.out.f1
        have s2 := HR2.out.f2
        have s3 := HR2.out.f3
        have s4 := HR2.out.f4
        have hl1 := HR1.out.lt
        unfold five
        go_wp2_with fail
        refine bodyPost_ret (v := five t A B C D) (by simp [results, Tryz.results108, go_sem, five, *]) rfl ?_
        obtain ⟨p1, p2, p3, p4⟩ := put_res HW2.out hlc HF.out HS.out hl1 HL2.out (.int .i64 (kindOf t)) (.int .i64 (nOf t)) (.string (sOf t)) (.slice A (nL t) B) (.slice C (nK t) D)
        exact ⟨p1, Or.inl ⟨t, r, es, A, B, C, D, Hz.out, rfl, p2, p3, p4⟩⟩
      · have HW2 := hid (HW1.out.trans B2)
        clear B2
        go_wp2_with fail
        exact ⟨rfl, HW2.out, Or.inr ⟨HZ.out.trans hz, rfl⟩⟩
  · have HW1 := hid ((But.of (c := c) HB0.out).trans B1)
    clear B1
    go_wp2_with fail
    exact ⟨rfl, HW1.out, Or.inr ⟨by rw [decP_eq, stepD_0 h1], rfl⟩⟩
set_option maxHeartbeats 4000000 in
set_option maxRecDepth 100000 in
theorem value_7 (d : Nat) (hd : d ≤ 12) (c : Nat) (s : ByteArray) (w : World) (hnum : ¬ (1 ≤ numB (pre s 1) ∧ numB (pre s 1) ≤ 6)) (h : Left c s w) (hs : s.size ≤ 140737488355328) : Calls Tryz.prog 108 #[.pointer (some ⟨c, 0, none⟩), .int .i64 ((12 - d : Nat) : Int)] w (ValPost c d s w) := by
  have HB0 : Hid (Below w.heap.size w (w.alloc (.cells #[.int .i64 0, .int .i64 0, .string ⟨#[]⟩, .slice none 0 0, .slice none 0 0] 25))) := (Below.refl _ _).alloc (Nat.le_refl _) _
  have HR0 : Hid (BoxAt w.heap.size (.int .i64 0) (.int .i64 0) (.string ⟨#[]⟩) (.slice none 0 0) (.slice none 0 0) (w.alloc (.cells #[.int .i64 0, .int .i64 0, .string ⟨#[]⟩, .slice none 0 0, .slice none 0 0] 25))) := box_new w _ _ _ _ _
  have hlc := h.lt
  have HN := hid (number_bytes c s 1 _ (h.keep HB0.out) (by omega) hs)
  have Hnum := hid hnum
  clear hnum
  obtain ⟨a0, ha, ha1⟩ : ∃ a : Nat, 12 - d = a ∧ a ≤ 12 := ⟨_, rfl, by omega⟩
  rw [ha]
  have Ha := hid ha
  clear h ha
  go_enter Tryz.func108, Tryz.ntmps108
  go_wp2_with fail
  refine HN.out.mono ?_
  rintro e w1 ⟨B1, ⟨h1, rfl, L1⟩ | ⟨h1, rfl⟩⟩
  · have hn := numB_lt (pre s 1)
    rw [pre_size h1] at hn
    have hsz := suf_size s 1
    have HL1 := hid L1
    have HR1 := hid (HR0.out.move B1.size (B1.block _ HR0.out.lt (by omega)))
    have HW1 := hid ((But.of (c := c) HB0.out).trans B1)
    clear B1 L1 HN HR0 HB0
    have r0 := HR1.out.q0
    have r1 := HR1.out.q1
    have r2 := HR1.out.q2
    have r3 := HR1.out.q3
    have r4 := HR1.out.q4
    have s0 := HR1.out.f0
    have s1 := HR1.out.f1
    have s2 := HR1.out.f2
    have s3 := HR1.out.f3
    have s4 := HR1.out.f4
    obtain ⟨n, hnn⟩ : ∃ n, numB (pre s 1) = n := ⟨_, rfl⟩
    rw [hnn] at hn ⊢
    have Hnn := hid hnn
    have hno : ¬ (1 ≤ n ∧ n ≤ 6) := by have := Hnum.out; rw [hnn] at this; exact this
    clear hnn
    have g1 : ¬ ((n : Int) = 1) := by omega
    have g2 : ¬ ((n : Int) = 2) := by omega
    have g3 : ¬ ((n : Int) = 3) := by omega
    have g4 : ¬ ((n : Int) = 4) := by omega
    have g5 : ¬ ((n : Int) = 5) := by omega
    have g6 : ¬ ((n : Int) = 6) := by omega
    go_wp2_with fail
    exact ⟨rfl, HW1.out, Or.inr ⟨by rw [decP_eq, stepD_7 h1 (by rw [Hnn.out]; omega) (by rw [Hnn.out]; omega) (by rw [Hnn.out]; omega) (by rw [Hnn.out]; omega) (by rw [Hnn.out]; omega) (by rw [Hnn.out]; omega)], rfl⟩⟩
  · have HW1 := hid ((But.of (c := c) HB0.out).trans B1)
    clear B1
    go_wp2_with fail
    exact ⟨rfl, HW1.out, Or.inr ⟨by rw [decP_eq, stepD_0 h1], rfl⟩⟩
end Go.Proofs.YtknakfpciccoaaaGreatDoor
/- The walk of the program's reader: value, of numbers; and all. -/
namespace Go.Proofs.YtknakfpciccoaaaGreatDoor
open Go.RowKit

theorem fin_leaf {c d : Nat} {s r : ByteArray} {w wr : World} (k n : Int) (x : ByteArray) (hk0 : 0 ≤ k) (hk1 : k ≤ 100) (hn : -9223372036854775808 ≤ n ∧ n ≤ 9223372036854775807) (hx : x.size ≤ 140737488355328) (hd : decP d s = some (leafT k n x, r)) (hB : But c w wr) (hc : c < w.heap.size) (hL : Left c r wr) :
    ValPost c d s w (.returned (.agg #[.int .i64 k, .int .i64 n, .string x, .slice none 0 0, .slice none 0 0])) (((((wr.setCell ⟨w.heap.size, 0, none⟩ (.int .i64 k)).setCell ⟨w.heap.size, 1, none⟩ (.int .i64 n)).setCell ⟨w.heap.size, 2, none⟩ (.string x)).setCell ⟨w.heap.size, 3, none⟩ (.slice none 0 0)).setCell ⟨w.heap.size, 4, none⟩ (.slice none 0 0)) := by
  obtain ⟨p1, p2, p3, p4⟩ := put_res hB hc (flat_leaf wr d k n x hk0 hk1 hn.1 hn.2 hx) (sep_leaf (w.heap.size + 1) wr) (by omega) hL (.int .i64 k) (.int .i64 n) (.string x) (.slice none 0 0) (.slice none 0 0)
  exact ⟨p1, Or.inl ⟨leafT k n x, r, _, none, 0, none, 0, hd, rfl, p2, p3, p4⟩⟩
set_option maxHeartbeats 4000000 in
set_option maxRecDepth 100000 in
theorem value_3 (d : Nat) (hd : d ≤ 12) (c : Nat) (s : ByteArray) (w : World) (hnum : numB (pre s 1) = 3) (h : Left c s w) (hs : s.size ≤ 140737488355328) : Calls Tryz.prog 108 #[.pointer (some ⟨c, 0, none⟩), .int .i64 ((12 - d : Nat) : Int)] w (ValPost c d s w) := by
  have HB0 : Hid (Below w.heap.size w (w.alloc (.cells #[.int .i64 0, .int .i64 0, .string ⟨#[]⟩, .slice none 0 0, .slice none 0 0] 25))) := (Below.refl _ _).alloc (Nat.le_refl _) _
  have HR0 : Hid (BoxAt w.heap.size (.int .i64 0) (.int .i64 0) (.string ⟨#[]⟩) (.slice none 0 0) (.slice none 0 0) (w.alloc (.cells #[.int .i64 0, .int .i64 0, .string ⟨#[]⟩, .slice none 0 0, .slice none 0 0] 25))) := box_new w _ _ _ _ _
  have hlc := h.lt
  have HN := hid (number_bytes c s 1 _ (h.keep HB0.out) (by omega) hs)
  have Hnn := hid hnum
  clear hnum
  obtain ⟨a0, ha, ha1⟩ : ∃ a : Nat, 12 - d = a ∧ a ≤ 12 := ⟨_, rfl, by omega⟩
  rw [ha]
  have Ha := hid ha
  clear h ha
  go_enter Tryz.func108, Tryz.ntmps108
  go_wp2_with fail
  refine HN.out.mono ?_
  rintro e w1 ⟨B1, ⟨h1, rfl, L1⟩ | ⟨h1, rfl⟩⟩
  · have hn := numB_lt (pre s 1)
    rw [pre_size h1] at hn
    have hsz := suf_size s 1
    have HL1 := hid L1
    have HR1 := hid (HR0.out.move B1.size (B1.block _ HR0.out.lt (by omega)))
    have HW1 := hid ((But.of (c := c) HB0.out).trans B1)
    clear B1 L1 HN HR0 HB0
    have r0 := HR1.out.q0
    have r1 := HR1.out.q1
    have r2 := HR1.out.q2
    have r3 := HR1.out.q3
    have r4 := HR1.out.q4
    have s0 := HR1.out.f0
    have s1 := HR1.out.f1
    have s2 := HR1.out.f2
    have s3 := HR1.out.f3
    have s4 := HR1.out.f4
    rw [Hnn.out]
    have HN2 := hid (number_bytes c (suf s 1) 8 w1 HL1.out (by omega) (by omega))
    go_wp2_with fail
    refine HN2.out.mono ?_
    rintro e w2 ⟨B2, ⟨h2, rfl, L2⟩ | ⟨h2, rfl⟩⟩
    · have HL2 := hid L2
      have HR2 := hid (HR1.out.move B2.size (B2.block _ HR1.out.lt (by omega)))
      have HW2 := hid (HW1.out.trans B2)
      have hn2 := numB_pre_lt h2 (by omega)
      clear B2 L2 HN2 r0 r1 r2 r3 r4 s0 s1 s2 s3 s4
      have r0 := HR2.out.q0
      have r1 := HR2.out.q1
      have r2 := HR2.out.q2
      have r3 := HR2.out.q3
      have r4 := HR2.out.q4
      have s0 := HR2.out.f0
      have s1 := HR2.out.f1
      have s2 := HR2.out.f2
      have s3 := HR2.out.f3
      have s4 := HR2.out.f4
      generalize hm : numB (pre (suf s 1) 8) = m at hn2 ⊢
      have Hm := hid hm
      clear hm
      go_wp2_with fail
      refine bodyPost_ret (v := .agg #[.int .i64 3, .int .i64 (wrap64 m), .string ⟨#[]⟩, .slice none 0 0, .slice none 0 0]) (by simp [results, Tryz.results108, go_sem, *]) rfl ?_
      refine fin_leaf 3 (wrap64 m) ⟨#[]⟩ (by decide) (by decide) (wrap64_b2 _) (by show (0 : Nat) ≤ _; omega) ?_ HW2.out hlc HL2.out
      rw [decP_eq, stepD_3 h1 Hnn.out, if_neg (by omega), Hm.out, wrap64_e]
      rfl
    · have HW2 := hid (HW1.out.trans B2)
      clear B2
      go_wp2_with fail
      exact ⟨rfl, HW2.out, Or.inr ⟨by rw [decP_eq, stepD_3 h1 Hnn.out, if_pos (by omega)], rfl⟩⟩
  · have HW1 := hid ((But.of (c := c) HB0.out).trans B1)
    clear B1
    go_wp2_with fail
    exact ⟨rfl, HW1.out, Or.inr ⟨by rw [decP_eq, stepD_0 h1], rfl⟩⟩
theorem value_step (d : Nat) (hd : d ≤ 12) (ih : ∀ d', d = d' + 1 → ValSaid d') : ValSaid d := by
  intro c s w h hs
  by_cases n1 : numB (pre s 1) = 1
  · exact value_1 d hd c s w n1 h hs
  · by_cases n2 : numB (pre s 1) = 2
    · exact value_2 d hd c s w n2 h hs
    · by_cases n3 : numB (pre s 1) = 3
      · exact value_3 d hd c s w n3 h hs
      · by_cases n4 : numB (pre s 1) = 4
        · exact value_4 d hd c s w n4 h hs
        · by_cases n5 : numB (pre s 1) = 5
          · exact value_5 d hd ih c s w n5 h hs
          · by_cases n6 : numB (pre s 1) = 6
            · exact value_6 d hd ih c s w n6 h hs
            · exact value_7 d hd c s w (by omega) h hs
theorem value_any : ∀ (d : Nat), d ≤ 12 → ValSaid d
  | 0, h => value_step 0 h (fun d' e => by omega)
  | d + 1, h => value_step (d + 1) h (fun d' e => (Nat.succ.inj e) ▸ value_any d (by omega))
end Go.Proofs.YtknakfpciccoaaaGreatDoor
