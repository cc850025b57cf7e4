import Derived.Test.YtknakfpciccoaaaDoorZO24
/- The walks of the reference's parser: lists. -/
namespace Go.Proofs.YtknakfpciccoaaaDoor
open Go.RowKit

def RSaid (s : ByteArray) (n : Nat) : Prop := ∀ (c i : Nat) (w : World), RL c s i false w → i ≤ s.size → s.size < i + n → Calls Tryd.prog 21 #[.pointer (some ⟨c, 0, none⟩)] w (RVPost n c s (valN s n i) w)
/-- What value leaves, whether the text is one or none. -/
def RUni (n c : Nat) (s : ByteArray) (x : Option (T × Nat)) (w : World) (e : Ending) (w' : World) : Prop :=
  But c w w' ∧ ∃ t es A B C D, e = .returned (.agg #[.int .i64 (kindOf t), .int .i64 (nOf t), .string (sOf t), .slice A (nL t) B, .slice C (nK t) D]) ∧ Flat w' n (.agg #[.int .i64 (kindOf t), .int .i64 (nOf t), .string (sOf t), .slice A (nL t) B, .slice C (nK t) D]) t es ∧ Sep w.heap.size w' es ∧ ((∃ j, x = some (t, j) ∧ RL c s j false w') ∨ (x = none ∧ RB c s w'))
theorem RVPost.uni {n c : Nat} {s : ByteArray} {x : Option (T × Nat)} {w : World} {e : Ending} {w' : World} (h : RVPost n c s x w e w') : RUni n c s x w e w' := by
  obtain ⟨hB, ⟨t, j, es, A, B, C, D, hx, he, hF, hS, hL⟩ | ⟨hx, ⟨t, es, A, B, C, D, he, hF, hS⟩, hR⟩⟩ := h
  · exact ⟨hB, t, es, A, B, C, D, he, hF, hS, Or.inl ⟨j, hx, hL⟩⟩
  · exact ⟨hB, t, es, A, B, C, D, he, hF, hS, Or.inr ⟨hx, hR⟩⟩
theorem RB.same {c : Nat} {s : ByteArray} {w w' : World} (h : RB c s w) (hb : w'.heap[c]? = w.heap[c]?) (hs : w.heap.size ≤ w'.heap.size) : RB c s w' := by
  obtain ⟨j, hj, hL⟩ := h
  exact ⟨j, hj, hL.same hb hs⟩
theorem RB.keep {c : Nat} {s : ByteArray} {w w' : World} (h : RB c s w) (hb : Below w.heap.size w w') : RB c s w' := by
  obtain ⟨j, hj, hL⟩ := h
  exact ⟨j, hj, hL.keep hb⟩
theorem hasBad_any (c : Nat) (s : ByteArray) (t : ByteArray) (w : World) (h : RB c s w) (hs : s.size ≤ 4000) :
    Calls Tryd.prog 45 #[.pointer (some ⟨c, 0, none⟩), .string t] w fun e w' => e = .returned (.bool false) ∧ But c w w' ∧ RB c s w' := by
  obtain ⟨j, hj, hL⟩ := h
  refine (has_bad c s j t w hL hs hj).mono ?_
  rintro e w' ⟨rfl, hB, hL'⟩
  exact ⟨rfl, hB, sk s j, sk_le1 hj, hL'⟩
/-- One byte stands next, or not. -/
theorem one_yes (c : Nat) (s : ByteArray) (i : Nat) (b : UInt8) (w : World) (h : RL c s i false w) (hs : s.size ≤ 4000) (hi : i ≤ s.size) (hb : cB s (sk s i) = b.toNat) :
    Calls Tryd.prog 45 #[.pointer (some ⟨c, 0, none⟩), .string ⟨#[b]⟩] w (HasPost c s true (sk s i + 1) false w) :=
  has_yes c s i ⟨#[b]⟩ w h hs hi (by show (1 : Nat) ≤ 100; omega) (by rw [pfx_one]; exact decide_eq_true hb)
theorem one_no (c : Nat) (s : ByteArray) (i : Nat) (b : UInt8) (w : World) (h : RL c s i false w) (hs : s.size ≤ 4000) (hi : i ≤ s.size) (hb : cB s (sk s i) ≠ b.toNat) :
    Calls Tryd.prog 45 #[.pointer (some ⟨c, 0, none⟩), .string ⟨#[b]⟩] w (HasPost c s false (sk s i) false w) :=
  has_no c s i ⟨#[b]⟩ w h hs hi (by show (1 : Nat) ≤ 100; omega) (by rw [pfx_one]; exact decide_eq_false hb)
theorem must1_yes (c : Nat) (s : ByteArray) (i : Nat) (b : UInt8) (w : World) (h : RL c s i false w) (hs : s.size ≤ 4000) (hi : i ≤ s.size) (hb : cB s (sk s i) = b.toNat) :
    Calls Tryd.prog 47 #[.pointer (some ⟨c, 0, none⟩), .string ⟨#[b]⟩] w fun e w' => e = .returned (.tuple #[]) ∧ But c w w' ∧ RL c s (sk s i + 1) false w' :=
  must_yes c s i ⟨#[b]⟩ w h hs hi (by show (1 : Nat) ≤ 100; omega) (by rw [pfx_one]; exact decide_eq_true hb)
theorem must1_no (c : Nat) (s : ByteArray) (i : Nat) (b : UInt8) (w : World) (h : RL c s i false w) (hs : s.size ≤ 4000) (hi : i ≤ s.size) (hb : cB s (sk s i) ≠ b.toNat) :
    Calls Tryd.prog 47 #[.pointer (some ⟨c, 0, none⟩), .string ⟨#[b]⟩] w fun e w' => e = .returned (.tuple #[]) ∧ But c w w' ∧ RB c s w' :=
  must_no c s i ⟨#[b]⟩ w h hs hi (by show (1 : Nat) ≤ 100; omega) (by rw [pfx_one]; exact decide_eq_false hb)
/-- How a list or object ends. -/
theorem fin_box {n c k : Nat} {s : ByteArray} {w wr : World} {x : Option (T × Nat)} {L : List T} {K : List ByteArray} {A C : Option Addr} {B D : Nat} {xs : List Value} {sub : Nat → List Ent} (hk : k ≤ 100) (hL : L.length ≤ 10000) (hK : K.length ≤ 10000)
    (hJ : JI n (k : Int) c w w.heap.size (w.heap.size + 1) (w.heap.size + 2) L K (.slice A L.length B) (.slice C K.length D) xs sub wr)
    (hx : (∃ j, x = some (mkT (k : Int) 0 ByteArray.empty L K, j) ∧ RL c s j false wr) ∨ (x = none ∧ RB c s wr)) :
    RVPost (n + 1) c s x w (.returned (.agg #[.int .i64 (k : Int), .int .i64 0, .string ⟨#[]⟩, .slice A L.length B, .slice C K.length D])) (((((wr.setCell ⟨w.heap.size, 0, none⟩ (.int .i64 (k : Int))).setCell ⟨w.heap.size, 1, none⟩ (.int .i64 0)).setCell ⟨w.heap.size, 2, none⟩ (.string ⟨#[]⟩)).setCell ⟨w.heap.size, 3, none⟩ (.slice A L.length B)).setCell ⟨w.heap.size, 4, none⟩ (.slice C K.length D)) := by
  have hF := hJ.grow.flat (k : Int) (by omega) (by omega) (by omega) (by omega)
  have hp := put_five (rb := w.heap.size) hJ.but hJ.lc hF hJ.grow.sep (Nat.le_refl _) (by omega) (.int .i64 (k : Int)) (.int .i64 0) (.string ⟨#[]⟩) (.slice A L.length B) (.slice C K.length D)
  have hFive : (.agg #[.int .i64 (k : Int), .int .i64 0, .string ⟨#[]⟩, .slice A L.length B, .slice C K.length D] : Value) = five (mkT (k : Int) 0 ByteArray.empty L K) A B C D := by
    unfold five
    rw [kindOf_mk, nOf_mk, sOf_mk, nL_mk, nK_mk]
    rfl
  rcases hx with ⟨j, hx, hR⟩ | ⟨hx, hR⟩
  · refine ⟨hp.1, Or.inl ⟨_, j, _, A, B, C, D, hx, by rw [hFive], ?_, hp.2.2.1, hR.same hp.2.2.2.1 (by rw [hp.2.2.2.2]; exact Nat.le_refl _)⟩⟩
    rw [← hFive]
    exact hp.2.1
  · refine ⟨hp.1, Or.inr ⟨hx, ⟨_, _, A, B, C, D, by rw [hFive], ?_, hp.2.2.1⟩, hR.same hp.2.2.2.1 (by rw [hp.2.2.2.2]; exact Nat.le_refl _)⟩⟩
    rw [← hFive]
    exact hp.2.1
def RLPost (n c k : Nat) (s : ByteArray) (o : Bool) (j : Nat) (w : World) : Ending → World → Prop :=
  RVPost (n + 1) c s ((boxS (valN s n) s o j).map fun r => (mkT (k : Int) 0 ByteArray.empty r.1.2 r.1.1, r.2)) w
set_option maxHeartbeats 8000000 in
set_option maxRecDepth 100000 in
theorem rlist_any (n : Nat) (s : ByteArray) (ih : RSaid s n) (c j : Nat) (w : World) (h : RL c s j false w) (hs : s.size ≤ 4000) (hj : j ≤ s.size) (hn : s.size < j + n) :
    Calls Tryd.prog 46 #[.pointer (some ⟨c, 0, none⟩)] w (RLPost n c 5 s false j w) := by
  obtain ⟨iV, hiV, zV0, zV1, zV2⟩ := info_parts infoV
  have hsk1 := sk_ge s j
  have hsk2 := sk_le hj
  have HJ0 := hid (JI.start (f := n) (k := 5) h.lt)
  have HL0 := hid (h.keep (((Below.refl _ _).alloc (Nat.le_refl _) (.cells #[.int .i64 0, .int .i64 0, .string ⟨#[]⟩, .slice none 0 0, .slice none 0 0] 26)).alloc (by simp) (.cells #[.int .i64 5, .int .i64 0, .string ⟨#[]⟩, .slice none 0 0, .slice none 0 0] 26)))
  have HI := hid ih
  have hcl := h.lt
  obtain ⟨ed, hed⟩ : ∃ ed, decide (cB s (sk s j) = 93) = ed := ⟨_, rfl⟩
  obtain ⟨k0, hk0⟩ : ∃ k0, (if ed = true then sk s j + 1 else sk s j) = k0 := ⟨_, rfl⟩
  have HO : Hid (Calls Tryd.prog 45 #[.pointer (some ⟨c, 0, none⟩), .string ⟨#[93]⟩] ((w.alloc (.cells #[.int .i64 0, .int .i64 0, .string ⟨#[]⟩, .slice none 0 0, .slice none 0 0] 26)).alloc (.cells #[.int .i64 5, .int .i64 0, .string ⟨#[]⟩, .slice none 0 0, .slice none 0 0] 26)) (HasPost c s ed k0 false ((w.alloc (.cells #[.int .i64 0, .int .i64 0, .string ⟨#[]⟩, .slice none 0 0, .slice none 0 0] 26)).alloc (.cells #[.int .i64 5, .int .i64 0, .string ⟨#[]⟩, .slice none 0 0, .slice none 0 0] 26)))) := by
    cases ed with
    | true =>
      subst hk0
      exact one_yes c s j 93 _ HL0.out hs hj (of_decide_eq_true hed)
    | false =>
      subst hk0
      exact one_no c s j 93 _ HL0.out hs hj (of_decide_eq_false hed)
  have HA : Hid (AtItem n s false j (!ed) k0 [] []) := by
    cases ed with
    | true => subst hk0; exact atItem_shut (of_decide_eq_true hed)
    | false => subst hk0; exact atItem_open (of_decide_eq_false hed)
  have hk1 : j ≤ k0 ∧ k0 ≤ s.size := by
    cases ed with
    | true => subst hk0; have := cB_in (s := s) (i := sk s j) (by have := of_decide_eq_true hed; omega); simp; omega
    | false => subst hk0; simp; omega
  clear h ih hed hk0 hsk1 hsk2
  go_enter Tryd.func46, Tryd.ntmps46
  go_wp2_with fail
  refine HO.out.mono ?_
  rintro e w1 ⟨rfl, B1, L1⟩
  have HJ1 := hid (HJ0.out.inner B1)
  have HL1 := hid L1
  clear B1 L1 HO HJ0 HL0
  go_wp2_with fail
  go_loopg [4] (ms s (!ed) k0) (fun g b wr => ∃ (ed : Bool) (k : Nat) (L : List T) (Lv Kv : Value) (xs : List Value) (sub : Nat → List Ent), b = .bool ed ∧ L.length ≤ k ∧ k ≤ 4001 ∧ Hid (JI n 5 c w w.heap.size (w.heap.size + 1) (w.heap.size + 2) L [] Lv Kv xs sub wr) ∧ ((g = ms s (!ed) k ∧ j ≤ k ∧ k ≤ s.size ∧ Hid (RL c s k false wr) ∧ Hid (AtItem n s false j (!ed) k L [])) ∨ (g = 0 ∧ ed = false ∧ Hid (RB c s wr) ∧ Hid (boxS (valN s n) s false j = none))))
  case atStart => exact ⟨ed, k0, [], _, _, [], fun _ => [], rfl, by simp, by omega, HJ1, Or.inl ⟨rfl, hk1.1, hk1.2, HL1, HA⟩⟩
  case round =>
    clear HJ1 HL1 HA hk1
    obtain ⟨ed, k, L, Lv, Kv, xs, sub, rfl, hlL, hk4, HE, hst⟩ := hrel
    rcases hst with ⟨rfl, hk1, hk2, HLk, HA⟩ | ⟨rfl, rfl, HR, HZ⟩
    · cases ed with
      | true =>
        obtain ⟨A, B, rfl⟩ := own_shape HE.out.grow.ownL
        obtain ⟨C, D, rfl⟩ := own_shape HE.out.grow.ownK
        have HX : Hid ((boxS (valN s n) s false j).map (fun r => (mkT (5 : Int) 0 ByteArray.empty r.1.2 r.1.1, r.2)) = some (mkT (5 : Int) 0 ByteArray.empty L [], k)) := by show _ = _; rw [HA.out.2 rfl]; rfl
        have r0 := HE.out.res.q0
        have r1 := HE.out.res.q1
        have r2 := HE.out.res.q2
        have r3 := HE.out.res.q3
        have r4 := HE.out.res.q4
        have s0 := HE.out.res.f0
        have s1 := HE.out.res.f1
        have s2 := HE.out.res.f2
        have s3 := HE.out.res.f3
        have s4 := HE.out.res.f4
        have t0 := HE.out.box.q0
        have t1 := HE.out.box.q1
        have t2 := HE.out.box.q2
        have t3 := HE.out.box.q3
        have t4 := HE.out.box.q4
        go_wp2_with fail
        refine bodyPost_ret (v := .agg #[.int .i64 5, .int .i64 0, .string ⟨#[]⟩, .slice A L.length B, .slice C 0 D]) (by simp [results, Tryd.results46, go_sem, *]) rfl ?_
        exact fin_box (k := 5) (by omega) (by omega) (by simp) HE.out (Or.inl ⟨k, HX.out, HLk.out⟩)
      | false =>
        obtain ⟨m, hm, hX⟩ := HA.out.1 rfl
        have HX := hid hX
        obtain ⟨m, rfl⟩ : ∃ m', m = m' + 1 := ⟨m - 1, by omega⟩
        have hkey : keyS s false k = some (ByteArray.empty, k) := rfl
        have q2 := HLk.out.q2
        have HC := hid ((HI.out c k wr HLk.out hk2 (by omega)).mono fun _ _ h => RVPost.uni h)
        clear HA hX
        go_wp2_with fail
        refine HC.out.mono ?_
        rintro e w2 ⟨B2, t, es, A, B, C, D, rfl, hF, hS, hcase⟩
        have HE2 := hid (HE.out.inner B2)
        have HEa := hid (HE2.out.keep ((Below.refl _ _).alloc (Nat.le_refl _) (.cells #[.int .i64 (kindOf t), .int .i64 (nOf t), .string (sOf t), .slice A (nL t) B, .slice C (nK t) D] 26)))
        have HEb := hid (HEa.out.keep ((Below.refl _ _).alloc (Nat.le_refl _) (.cells #[.int .i64 (kindOf t), .int .i64 (nOf t), .string (sOf t), .slice A (nL t) B, .slice C (nK t) D] 26)))
        have hba : Below w2.heap.size w2 (w2.alloc (.cells #[.int .i64 (kindOf t), .int .i64 (nOf t), .string (sOf t), .slice A (nL t) B, .slice C (nK t) D] 26)) := (Below.refl _ _).alloc (Nat.le_refl _) _
        have HF := hid (hF.keep hS hba)
        have HS' := hid (hS.keep hba.size)
        have HS := hid ((HE.out.sepKid B2 hS).keep hba.size)
        have c3 := HEa.out.box.q3
        have HK : Hid ((∃ j', valN s n k = some (t, j') ∧ RL c s j' false (w2.alloc (.cells #[.int .i64 (kindOf t), .int .i64 (nOf t), .string (sOf t), .slice A (nL t) B, .slice C (nK t) D] 26))) ∨ (valN s n k = none ∧ RB c s (w2.alloc (.cells #[.int .i64 (kindOf t), .int .i64 (nOf t), .string (sOf t), .slice A (nL t) B, .slice C (nK t) D] 26)))) := by
          rcases hcase with ⟨j', h1, h2⟩ | ⟨h1, h2⟩
          · exact Or.inl ⟨j', h1, h2.keep hba⟩
          · exact Or.inr ⟨h1, h2.keep hba⟩
        clear B2 hF hS hcase hba q2 HE HLk HC
        go_wp2_with (at_builtin; refine wpList_append_lies _ rfl (.tmp 21) (.tmp 23) 23 rfl (w.heap.size + 2) 26 iV _ 5 80 Tryd.underlying23 hiV zV0 zV1 zV2 rfl (by omega) Lv L.length xs rfl HEb.out.grow.ownL ⟨w2.heap.size + 1, 0, none⟩ 1 1 [.int .i64 (kindOf t), .int .i64 (nOf t), .string (sOf t), .slice A (nL t) B, .slice C (nK t) D] (by rfl) rfl (by have := World.news_of_block (cs := #[.int .i64 (kindOf t), .int .i64 (nOf t), .string (sOf t), .slice A (nL t) B, .slice C (nK t) D]) (t := 26) (fr := (0, 0)) (heap_alloc_new (w2.alloc (.cells #[.int .i64 (kindOf t), .int .i64 (nOf t), .string (sOf t), .slice A (nL t) B, .slice C (nK t) D] 26)) (.cells #[.int .i64 (kindOf t), .int .i64 (nOf t), .string (sOf t), .slice A (nL t) B, .slice C (nK t) D] 26)); simpa using this) (by simp [Value.oneCell']) (by omega) (by unfold maxLen; omega) (by omega) HEb.out.grow.low (w2.heap.size + 2) (by simp) ?_; intro g6 cap6 w6 hown6 hgrow6 hat6 hlt6; have HX6 := hid (HEb.out.boxGrown hgrow6 HEb.out.grow.ownL); have hc6 := HX6.out.q3; have hf6 := HX6.out.f3)
        have H6 := hid (HEa.out.stepL _ HF.out HS'.out HS.out hown6 hgrow6 (hat6.imp id fun e => by simp; omega))
        have HE6 := hid H6.out.1
        generalize hv : w2.alloc (.cells #[.int .i64 (kindOf t), .int .i64 (nOf t), .string (sOf t), .slice A (nL t) B, .slice C (nK t) D] 26) = v2 at HK H6
        rcases HK.out with ⟨j', hz, hL2⟩ | ⟨hz, hR2⟩
        · have HL6 := hid (hL2.same H6.out.2.1 H6.out.2.2)
          have hadv := valN_adv n k t j' hk2 hz
          have hsj1 := sk_ge s j'
          have hsj2 := sk_le hadv.2
          have Hz := hid hz
          clear hown6 hgrow6 hat6 hlt6 HX6 hc6 hf6 HF HS HS' HEa HEb c3 H6 HK hL2 hz HE2 hv
          by_cases h93 : cB s (sk s j') = 93
          · have h93l := cB_in (s := s) (i := sk s j') (by omega)
            have HX7 : Hid (AtItem n s false j false (sk s j' + 1) (L ++ [t]) []) := ⟨(fun h => by cases h), fun _ => HX.out.trans (itm_done [] L hkey Hz.out h93)⟩
            have HO := hid (one_yes c s j' 93 _ HL6.out hs hadv.2 h93)
            clear h93
            go_wp2_with fail
            refine HO.out.mono ?_
            rintro e w7 ⟨rfl, B7, L7⟩
            have HE7 := hid (HE6.out.inner B7)
            have HL7 := hid L7
            clear B7 L7 HO HE6 HL6
            go_wp2_with fail
            go_roundg (ms s false (sk s j' + 1))
            case rel => exact ⟨true, sk s j' + 1, L ++ [t], _, _, _, _, rfl, by simp; omega, by omega, HE7, Or.inl ⟨rfl, by omega, by omega, HL7, HX7⟩⟩
            case measure => unfold ms; simp; omega
          · have HO := hid (one_no c s j' 93 _ HL6.out hs hadv.2 h93)
            have H93 := hid h93
            clear h93
            go_wp2_with fail
            refine HO.out.mono ?_
            rintro e w7 ⟨rfl, B7, L7⟩
            have HE7 := hid (HE6.out.inner B7)
            have HL7 := hid L7
            clear B7 L7 HO HE6 HL6
            by_cases h44 : cB s (sk s j') = 44
            · have h44l := cB_in (s := s) (i := sk s j') (by omega)
              have HX7 : Hid (AtItem n s false j true (sk s j' + 1) (L ++ [t]) []) := ⟨fun _ => ⟨m, by omega, HX.out.trans (itm_more [] L hkey Hz.out h44)⟩, fun h => by cases h⟩
              have HM := hid (must1_yes c s (sk s j') 44 _ HL7.out hs hsj2 (by rw [sk_idem]; exact h44))
              rw [sk_idem] at HM
              clear h44
              go_wp2_with fail
              refine HM.out.mono ?_
              rintro e w8 ⟨rfl, B8, L8⟩
              have HE8 := hid (HE7.out.inner B8)
              have HL8 := hid L8
              clear B8 L8 HM HE7 HL7
              go_wp2_with fail
              go_roundg (ms s true (sk s j' + 1))
              case rel => exact ⟨false, sk s j' + 1, L ++ [t], _, _, _, _, rfl, by simp; omega, by omega, HE8, Or.inl ⟨rfl, by omega, by omega, HL8, HX7⟩⟩
              case measure => unfold ms; simp; omega
            · have HZ : Hid (boxS (valN s n) s false j = none) := by
                show _ = _
                rw [HX.out, itm_torn hkey Hz.out h44 H93.out]
                rfl
              have HM := hid (must1_no c s (sk s j') 44 _ HL7.out hs hsj2 (by rw [sk_idem]; exact h44))
              clear h44
              go_wp2_with fail
              refine HM.out.mono ?_
              rintro e w8 ⟨rfl, B8, R8⟩
              have HE8 := hid (HE7.out.inner B8)
              have HR8 := hid R8
              clear B8 R8 HM HE7 HL7
              go_wp2_with fail
              go_roundg 0
              case rel => exact ⟨false, k + 1, L ++ [t], _, _, _, _, rfl, by simp; omega, by omega, HE8, Or.inr ⟨rfl, rfl, HR8, HZ⟩⟩
              case measure => unfold ms; simp; omega
        · have HR6 := hid (hR2.same H6.out.2.1 H6.out.2.2)
          have HZ : Hid (boxS (valN s n) s false j = none) := by
            show _ = _
            rw [HX.out, itm_noval hkey hz]
            rfl
          have HO := hid (hasBad_any c s ⟨#[93]⟩ _ HR6.out hs)
          clear hown6 hgrow6 hat6 hlt6 HX6 hc6 hf6 HF HS HS' HEa HEb c3 H6 HK hR2 hz HE2 hv HX
          go_wp2_with fail
          refine HO.out.mono ?_
          rintro e w7 ⟨rfl, B7, R7⟩
          have HE7 := hid (HE6.out.inner B7)
          have HM := hid (must_bad c s ⟨#[44]⟩ _ R7 hs)
          clear B7 R7 HO HE6 HR6
          go_wp2_with fail
          refine HM.out.mono ?_
          rintro e w8 ⟨rfl, B8, R8⟩
          have HE8 := hid (HE7.out.inner B8)
          have HR8 := hid R8
          clear B8 R8 HM HE7
          go_wp2_with fail
          go_roundg 0
          case rel => exact ⟨false, k + 1, L ++ [t], _, _, _, _, rfl, by simp; omega, by omega, HE8, Or.inr ⟨rfl, rfl, HR8, HZ⟩⟩
          case measure => unfold ms; simp; omega
    · obtain ⟨A, B, rfl⟩ := own_shape HE.out.grow.ownL
      obtain ⟨C, D, rfl⟩ := own_shape HE.out.grow.ownK
      have HX : Hid ((boxS (valN s n) s false j).map (fun r => (mkT (5 : Int) 0 ByteArray.empty r.1.2 r.1.1, r.2)) = none) := by show _ = _; rw [HZ.out]; rfl
      obtain ⟨jb, hjb, hLb⟩ := HR.out
      have q2 := hLb.q2
      have HR' := hid HR.out
      clear hLb HR
      have r0 := HE.out.res.q0
      have r1 := HE.out.res.q1
      have r2 := HE.out.res.q2
      have r3 := HE.out.res.q3
      have r4 := HE.out.res.q4
      have s0 := HE.out.res.f0
      have s1 := HE.out.res.f1
      have s2 := HE.out.res.f2
      have s3 := HE.out.res.f3
      have s4 := HE.out.res.f4
      have t0 := HE.out.box.q0
      have t1 := HE.out.box.q1
      have t2 := HE.out.box.q2
      have t3 := HE.out.box.q3
      have t4 := HE.out.box.q4
      go_wp2_with fail
      refine bodyPost_ret (v := .agg #[.int .i64 5, .int .i64 0, .string ⟨#[]⟩, .slice A L.length B, .slice C 0 D]) (by simp [results, Tryd.results46, go_sem, *]) rfl ?_
      exact fin_box (k := 5) (by omega) (by omega) (by simp) HE.out (Or.inr ⟨HX.out, HR'.out⟩)
end Go.Proofs.YtknakfpciccoaaaDoor
/- The walks of the reference's parser: objects, part by part. -/
namespace Go.Proofs.YtknakfpciccoaaaDoor
open Go.RowKit

/-- Where the reader stands: at a place, or nowhere any more. -/
def St (c : Nat) (s : ByteArray) (good : Nat → Prop) (bad : Prop) (w : World) : Prop := (∃ j, j ≤ s.size ∧ good j ∧ RL c s j false w) ∨ (bad ∧ RB c s w)
theorem St.same {c : Nat} {s : ByteArray} {good : Nat → Prop} {bad : Prop} {w w' : World} (h : St c s good bad w) (hb : w'.heap[c]? = w.heap[c]?) (hs : w.heap.size ≤ w'.heap.size) : St c s good bad w' := by
  rcases h with ⟨j, h1, h2, h3⟩ | ⟨h1, h2⟩
  · exact Or.inl ⟨j, h1, h2, h3.same hb hs⟩
  · exact Or.inr ⟨h1, h2.same hb hs⟩
theorem St.keep {c : Nat} {s : ByteArray} {good : Nat → Prop} {bad : Prop} {w w' : World} (h : St c s good bad w) (hb : Below w.heap.size w w') : St c s good bad w' := by
  rcases h with ⟨j, h1, h2, h3⟩ | ⟨h1, h2⟩
  · exact Or.inl ⟨j, h1, h2, h3.keep hb⟩
  · exact Or.inr ⟨h1, h2.keep hb⟩
theorem rtext_uni (c : Nat) (s : ByteArray) (i : Nat) (w : World) (h : RL c s i false w) (hs : s.size ≤ 4000) (hi : i ≤ s.size) (hsk : sk s i = i) :
    Calls Tryd.prog 42 #[.pointer (some ⟨c, 0, none⟩)] w fun e w' => But c w w' ∧ ∃ x : ByteArray, e = .returned (.string x) ∧ x.size ≤ 16000 ∧ St c s (fun j => txtS s i = some (x, j) ∧ i < j) (txtS s i = none) w' := by
  refine (rtext_any c s i w h hs hi hsk).mono ?_
  rintro e w' ⟨hB, ⟨x, j, hx, rfl, hL⟩ | ⟨hx, rfl, hR⟩⟩
  · have := txtS_adv hx
    exact ⟨hB, x, rfl, by omega, Or.inl ⟨j, by omega, ⟨hx, by omega⟩, hL⟩⟩
  · exact ⟨hB, ⟨#[]⟩, rfl, by show (0 : Nat) ≤ 16000; omega, Or.inr ⟨hx, hR⟩⟩
theorem colon_uni (c : Nat) (s : ByteArray) (k : Nat) (x : ByteArray) (w : World) (h : St c s (fun j => txtS s (sk s k) = some (x, j) ∧ sk s k < j) (txtS s (sk s k) = none) w) (hs : s.size ≤ 4000) :
    Calls Tryd.prog 47 #[.pointer (some ⟨c, 0, none⟩), .string ⟨#[58]⟩] w fun e w' => e = .returned (.tuple #[]) ∧ But c w w' ∧ St c s (fun j => keyS s true k = some (x, j) ∧ k < j) (keyS s true k = none) w' := by
  have hk := sk_ge s k
  rcases h with ⟨j, hj, ⟨hx, hlt⟩, hL⟩ | ⟨hx, hR⟩
  · have hsj := sk_ge s j
    by_cases h58 : cB s (sk s j) = 58
    · have hl := cB_in (s := s) (i := sk s j) (by omega)
      refine (must1_yes c s j 58 w hL hs hj h58).mono ?_
      rintro e w' ⟨rfl, hB, hL'⟩
      exact ⟨rfl, hB, Or.inl ⟨_, by omega, ⟨key_some hx h58, by omega⟩, hL'⟩⟩
    · refine (must1_no c s j 58 w hL hs hj h58).mono ?_
      rintro e w' ⟨rfl, hB, hR⟩
      exact ⟨rfl, hB, Or.inr ⟨key_torn hx h58, hR⟩⟩
  · refine (must_bad c s ⟨#[58]⟩ w hR hs).mono ?_
    rintro e w' ⟨rfl, hB, hR⟩
    exact ⟨rfl, hB, Or.inr ⟨key_none hx, hR⟩⟩
set_option maxHeartbeats 4000000 in
set_option maxRecDepth 100000 in
theorem rvalue_bad (n c : Nat) (s : ByteArray) (w : World) (h : RB c s w) (hs : s.size ≤ 4000) :
    Calls Tryd.prog 21 #[.pointer (some ⟨c, 0, none⟩)] w (RVPost (n + 1) c s none w) := by
  obtain ⟨i, hi, h⟩ := h
  have HB0 : Hid (Below w.heap.size w (w.alloc (.cells #[.int .i64 0, .int .i64 0, .string ⟨#[]⟩, .slice none 0 0, .slice none 0 0] 26))) := (Below.refl _ _).alloc (Nat.le_refl _) _
  have HR0 : Hid (BoxAt w.heap.size (.int .i64 0) (.int .i64 0) (.string ⟨#[]⟩) (.slice none 0 0) (.slice none 0 0) (w.alloc (.cells #[.int .i64 0, .int .i64 0, .string ⟨#[]⟩, .slice none 0 0, .slice none 0 0] 26))) := box_new w _ _ _ _ _
  have hlc := h.lt
  have HK := hid (blanks_any c s i true _ (h.keep HB0.out) hs hi)
  have hle := sk_le1 hi
  clear h
  go_enter Tryd.func21, Tryd.ntmps21
  go_wp2_with fail
  refine HK.out.mono ?_
  rintro e w1 ⟨rfl, B1, L1⟩
  have HL1 := hid L1
  have HR1 := hid (HR0.out.move B1.size (B1.block _ HR0.out.lt (by omega)))
  have HW1 := hid ((But.of (c := c) HB0.out).trans B1)
  have HP := hid (rpeek_any c s (sk s i) true w1 L1)
  clear B1 L1 HK HR0 HB0
  go_wp2_with fail
  refine HP.out.mono ?_
  rintro e w2 ⟨rfl, b2⟩
  have HL2 := hid (HL1.out.keep b2)
  have HR2 := hid (HR1.out.keepB b2)
  have HW2 := hid (HW1.out.trans (But.of b2))
  clear b2 HP HL1 HR1 HW1
  have q2 := HL2.out.q2
  have r0 := HR2.out.q0
  have r1 := HR2.out.q1
  have r2 := HR2.out.q2
  have r3 := HR2.out.q3
  have r4 := HR2.out.q4
  have s0 := HR2.out.f0
  have s1 := HR2.out.f1
  have s2 := HR2.out.f2
  have s3 := HR2.out.f3
  have s4 := HR2.out.f4
  go_wp2_with fail
  refine bodyPost_ret (v := .agg #[.int .i64 0, .int .i64 0, .string ⟨#[]⟩, .slice none 0 0, .slice none 0 0]) (by simp [results, Tryd.results21, go_sem, *]) rfl ?_
  exact fin_rb 0 0 ByteArray.empty (by omega) (by omega) (by omega) (by simp) rfl HW2.out hlc ⟨sk s i, hle, HL2.out⟩
theorem value_uni (n : Nat) (s : ByteArray) (ih : RSaid s n) (c k : Nat) (x : ByteArray) (w : World) (h : St c s (fun j => keyS s true k = some (x, j) ∧ k < j) (keyS s true k = none) w) (hs : s.size ≤ 4000) (hk : k ≤ s.size) (hn : s.size < k + n) :
    Calls Tryd.prog 21 #[.pointer (some ⟨c, 0, none⟩)] w (RUni n c s ((keyS s true k).bind fun p => valN s n p.2) w) := by
  rcases h with ⟨j, hj, ⟨hx, hlt⟩, hL⟩ | ⟨hx, hR⟩
  · rw [hx]
    exact (ih c j w hL hj (by omega)).mono fun _ _ h => RVPost.uni h
  · rw [hx]
    obtain ⟨n, rfl⟩ : ∃ m, n = m + 1 := ⟨n - 1, by omega⟩
    exact (rvalue_bad n c s w hR hs).mono fun _ _ h => RVPost.uni h
/-- Behind an entry. -/
theorem has_uni (c : Nat) (s : ByteArray) (a : UInt8) (t : T) (x : Option (T × Nat)) (w : World) (h : St c s (fun j => x = some (t, j)) (x = none) w) (hs : s.size ≤ 4000) :
    Calls Tryd.prog 45 #[.pointer (some ⟨c, 0, none⟩), .string ⟨#[a]⟩] w fun e w' => But c w w' ∧ ((e = .returned (.bool true) ∧ ∃ j, x = some (t, j) ∧ cB s (sk s j) = a.toNat ∧ sk s j < s.size ∧ RL c s (sk s j + 1) false w') ∨ (e = .returned (.bool false) ∧ St c s (fun j => ∃ j0, x = some (t, j0) ∧ j = sk s j0 ∧ cB s j ≠ a.toNat) (x = none) w')) := by
  rcases h with ⟨j, hj, hx, hL⟩ | ⟨hx, hR⟩
  · have hsj := sk_le hj
    by_cases ha : cB s (sk s j) = a.toNat
    · have hlt := cB_in (s := s) (i := sk s j) (by rw [ha]; exact a.toNat_lt)
      refine (one_yes c s j a w hL hs hj ha).mono ?_
      rintro e w' ⟨rfl, hB, hL'⟩
      exact ⟨hB, Or.inl ⟨rfl, j, hx, ha, hlt, hL'⟩⟩
    · refine (one_no c s j a w hL hs hj ha).mono ?_
      rintro e w' ⟨rfl, hB, hL'⟩
      exact ⟨hB, Or.inr ⟨rfl, Or.inl ⟨sk s j, hsj, ⟨j, hx, rfl, ha⟩, hL'⟩⟩⟩
  · refine (hasBad_any c s ⟨#[a]⟩ w hR hs).mono ?_
    rintro e w' ⟨rfl, hB, hR'⟩
    exact ⟨hB, Or.inr ⟨rfl, Or.inr ⟨hx, hR'⟩⟩⟩
theorem comma_uni (c : Nat) (s : ByteArray) (a : Nat) (t : T) (x : Option (T × Nat)) (w : World) (h : St c s (fun j => ∃ j0, x = some (t, j0) ∧ j = sk s j0 ∧ cB s j ≠ a) (x = none) w) (hs : s.size ≤ 4000) :
    Calls Tryd.prog 47 #[.pointer (some ⟨c, 0, none⟩), .string ⟨#[44]⟩] w fun e w' => e = .returned (.tuple #[]) ∧ But c w w' ∧ ((∃ j0, x = some (t, j0) ∧ cB s (sk s j0) = 44 ∧ sk s j0 < s.size ∧ RL c s (sk s j0 + 1) false w') ∨ ((x = none ∨ ∃ j0, x = some (t, j0) ∧ cB s (sk s j0) ≠ 44 ∧ cB s (sk s j0) ≠ a) ∧ RB c s w')) := by
  rcases h with ⟨j, hj, ⟨j0, hx, rfl, hne⟩, hL⟩ | ⟨hx, hR⟩
  · by_cases h44 : cB s (sk s j0) = 44
    · have hlt := cB_in (s := s) (i := sk s j0) (by omega)
      have := must1_yes c s (sk s j0) 44 w hL hs hj (by rw [sk_idem]; exact h44)
      rw [sk_idem] at this
      refine this.mono ?_
      rintro e w' ⟨rfl, hB, hL'⟩
      exact ⟨rfl, hB, Or.inl ⟨j0, hx, h44, hlt, hL'⟩⟩
    · refine (must1_no c s (sk s j0) 44 w hL hs hj (by rw [sk_idem]; exact h44)).mono ?_
      rintro e w' ⟨rfl, hB, hR'⟩
      exact ⟨rfl, hB, Or.inr ⟨Or.inr ⟨j0, hx, h44, hne⟩, hR'⟩⟩
  · refine (must_bad c s ⟨#[44]⟩ w hR hs).mono ?_
    rintro e w' ⟨rfl, hB, hR'⟩
    exact ⟨rfl, hB, Or.inr ⟨Or.inl hx, hR'⟩⟩
end Go.Proofs.YtknakfpciccoaaaDoor
