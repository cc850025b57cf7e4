import Derived.Test.YtknakfpciccoaaaDoorZO25
/- The walk of the reference's parser: objects. -/
namespace Go.Proofs.YtknakfpciccoaaaDoor
open Go.RowKit

/-- The names' row has grown while a value waits to be laid down. -/
theorem JI.wait {f : Nat} {k : Int} {c : Nat} {w : World} {rb bx lo : Nat} {L : List T} {K : List ByteArray} {Lv Kv Kv' : Value} {xs : List Value} {sub : Nat → List Ent} {wr w6 : World} {o : Obj} {x : T} {es : List Ent} {v : Value} {g cap lo' b6 : Nat} {c0 c1 c2 c3 c4 : Value}
    (h : JI f k c w rb bx lo L K Lv Kv xs sub wr) (hF : Flat wr f v x es) (hS' : Sep lo' wr es) (hl : bx < lo') (hb6 : bx ≠ b6) (hX : BoxAt b6 c0 c1 c2 c3 c4 wr) (hfar : ∀ b, Kv.ownBlock = some b → b < lo' ∧ b ≠ b6)
    (hS : Sep lo wr (catE sub L.length ++ es ++ [⟨Lv, L.length, Kv, K.length⟩])) (hK' : Kv' = .slice (some ⟨g, 0, none⟩) (K.length + 1) cap) (hG : (wr.alloc o).grownBy w6 Kv.ownBlock) (hat : Kv.ownBlock = some g ∨ g = wr.heap.size + 1) (hlt : g < w6.heap.size) :
    Flat (w6.setCell ⟨bx, 4, none⟩ Kv') f v x es ∧ Sep lo' (w6.setCell ⟨bx, 4, none⟩ Kv') es ∧ Sep lo (w6.setCell ⟨bx, 4, none⟩ Kv') (catE sub L.length ++ es ++ [⟨Lv, L.length, Kv', K.length + 1⟩]) ∧ BoxAt b6 c0 c1 c2 c3 c4 (w6.setCell ⟨bx, 4, none⟩ Kv') := by
  have hsz : wr.heap.size ≤ w6.heap.size := by have := hG.size; simp at this; omega
  have hblk : ∀ b, b < wr.heap.size → some b ≠ Kv.ownBlock → b ≠ bx → (w6.setCell ⟨bx, 4, none⟩ Kv').heap[b]? = wr.heap[b]? := by
    intro b h1 h2 h3
    rw [Below.heap_setCell _ _ _ _ (by simpa using h3), hG.block b (by simp; omega) h2]
    exact Below.heap_alloc _ _ _ h1
  refine ⟨hF.move fun b hb => ?_, hS'.keep (by simpa [World.setCell] using hsz), ?_, hX.move (by simpa [World.setCell] using hsz) (hblk b6 hX.lt ?_ (by omega))⟩
  · have hb' := hS'.lies b hb
    refine hblk b hb'.2 ?_ (by omega)
    intro e
    have := (hfar b e.symm).1
    omega
  · refine hS.newK (by simpa [World.setCell] using hsz) ?_ ?_ h.grow.low
    · rcases hat with e | e
      · left; rw [hK', e]; rfl
      · right
        intro g' hg'
        rw [hK'] at hg'
        have : g' = g := by simpa [Value.ownBlock] using hg'.symm
        omega
    · intro g' hg'
      rw [hK'] at hg'
      have : g' = g := by simpa [Value.ownBlock] using hg'.symm
      subst this
      simpa [World.setCell] using hlt
  · intro e
    exact (hfar b6 e.symm).2 rfl
theorem key_bind {s : ByteArray} {n k : Nat} {t : T} {j : Nat} {nm : ByteArray} (hnm : ∀ p, keyS s true k = some p → p.1 = nm) (h : ((keyS s true k).bind fun p => valN s n p.2) = some (t, j)) : ∃ k', keyS s true k = some (nm, k') ∧ valN s n k' = some (t, j) := by
  cases hk : keyS s true k with
  | none => rw [hk] at h; cases h
  | some p =>
    rw [hk] at h
    exact ⟨p.2, by rw [← hnm p hk], h⟩
theorem key_none_itm {s : ByteArray} {n m k : Nat} (h : ((keyS s true k).bind fun p => valN s n p.2) = none) : itm (valN s n) s true (m + 1) k = none := by
  cases hk : keyS s true k with
  | none => exact itm_nokey hk
  | some p =>
    rw [hk] at h
    exact itm_noval hk h
set_option maxHeartbeats 8000000 in
set_option maxRecDepth 100000 in
theorem robject_any (n : Nat) (s : ByteArray) (ih : RSaid s n) (c j : Nat) (w : World) (h : RL c s j false w) (hs : s.size ≤ 4000) (hj : j ≤ s.size) (hn : s.size < j + n) :
    Calls Tryd.prog 48 #[.pointer (some ⟨c, 0, none⟩)] w (RLPost n c 6 s true j w) := by
  obtain ⟨iS, hiS, zS0, zS1, zS2⟩ := info_parts infoS
  obtain ⟨iV, hiV, zV0, zV1, zV2⟩ := info_parts infoV
  have hsk1 := sk_ge s j
  have hsk2 := sk_le hj
  have HJ0 := hid (JI.start (f := n) (k := 6) h.lt)
  have HL0 := hid (h.keep (((Below.refl _ _).alloc (Nat.le_refl _) (.cells #[.int .i64 0, .int .i64 0, .string ⟨#[]⟩, .slice none 0 0, .slice none 0 0] 26)).alloc (by simp) (.cells #[.int .i64 6, .int .i64 0, .string ⟨#[]⟩, .slice none 0 0, .slice none 0 0] 26)))
  have HI := hid ih
  have hcl := h.lt
  obtain ⟨ed, hed⟩ : ∃ ed, decide (cB s (sk s j) = 125) = ed := ⟨_, rfl⟩
  obtain ⟨k0, hk0⟩ : ∃ k0, (if ed = true then sk s j + 1 else sk s j) = k0 := ⟨_, rfl⟩
  have HO : Hid (Calls Tryd.prog 45 #[.pointer (some ⟨c, 0, none⟩), .string ⟨#[125]⟩] ((w.alloc (.cells #[.int .i64 0, .int .i64 0, .string ⟨#[]⟩, .slice none 0 0, .slice none 0 0] 26)).alloc (.cells #[.int .i64 6, .int .i64 0, .string ⟨#[]⟩, .slice none 0 0, .slice none 0 0] 26)) (HasPost c s ed k0 false ((w.alloc (.cells #[.int .i64 0, .int .i64 0, .string ⟨#[]⟩, .slice none 0 0, .slice none 0 0] 26)).alloc (.cells #[.int .i64 6, .int .i64 0, .string ⟨#[]⟩, .slice none 0 0, .slice none 0 0] 26)))) := by
    cases ed with
    | true =>
      subst hk0
      exact one_yes c s j 125 _ HL0.out hs hj (of_decide_eq_true hed)
    | false =>
      subst hk0
      exact one_no c s j 125 _ HL0.out hs hj (of_decide_eq_false hed)
  have HA : Hid (AtItem n s true j (!ed) k0 [] []) := by
    cases ed with
    | true => subst hk0; exact atItem_shut (of_decide_eq_true hed)
    | false => subst hk0; exact atItem_open (of_decide_eq_false hed)
  have hk1 : j ≤ k0 ∧ k0 ≤ s.size := by
    cases ed with
    | true => subst hk0; have := cB_in (s := s) (i := sk s j) (by have := of_decide_eq_true hed; omega); simp; omega
    | false => subst hk0; simp; omega
  clear h ih hed hk0 hsk1 hsk2
  go_enter Tryd.func48, Tryd.ntmps48
  go_wp2_with fail
  refine HO.out.mono ?_
  rintro e w1 ⟨rfl, B1, L1⟩
  have HJ1 := hid (HJ0.out.inner B1)
  have HL1 := hid L1
  clear B1 L1 HO HJ0 HL0
  go_wp2_with fail
  go_loopg [4] (ms s (!ed) k0) (fun g b wr => ∃ (ed : Bool) (k : Nat) (L : List T) (K : List ByteArray) (Lv Kv : Value) (xs : List Value) (sub : Nat → List Ent), b = .bool ed ∧ L.length ≤ k ∧ K.length ≤ k ∧ k ≤ 4001 ∧ Hid (JI n 6 c w w.heap.size (w.heap.size + 1) (w.heap.size + 2) L K Lv Kv xs sub wr) ∧ ((g = ms s (!ed) k ∧ j ≤ k ∧ k ≤ s.size ∧ Hid (RL c s k false wr) ∧ Hid (AtItem n s true j (!ed) k L K)) ∨ (g = 0 ∧ ed = false ∧ Hid (RB c s wr) ∧ Hid (boxS (valN s n) s true j = none))))
  case atStart => exact ⟨ed, k0, [], [], _, _, [], fun _ => [], rfl, by simp, by simp, by omega, HJ1, Or.inl ⟨rfl, hk1.1, hk1.2, HL1, HA⟩⟩
  case round =>
    clear HJ1 HL1 HA hk1
    obtain ⟨ed, k, L, K, Lv, Kv, xs, sub, rfl, hlL, hlK, hk4, HE, hst⟩ := hrel
    rcases hst with ⟨rfl, hk1, hk2, HLk, HA⟩ | ⟨rfl, rfl, HR, HZ⟩
    · cases ed with
      | true =>
        obtain ⟨A, B, rfl⟩ := own_shape HE.out.grow.ownL
        obtain ⟨C, D, rfl⟩ := own_shape HE.out.grow.ownK
        have HX : Hid ((boxS (valN s n) s true j).map (fun r => (mkT (6 : Int) 0 ByteArray.empty r.1.2 r.1.1, r.2)) = some (mkT (6 : Int) 0 ByteArray.empty L K, k)) := by show _ = _; rw [HA.out.2 rfl]; rfl
        have r0 := HE.out.res.q0
        have r1 := HE.out.res.q1
        have r2 := HE.out.res.q2
        have r3 := HE.out.res.q3
        have r4 := HE.out.res.q4
        have s0 := HE.out.res.f0
        have s1 := HE.out.res.f1
        have s2 := HE.out.res.f2
        have s3 := HE.out.res.f3
        have s4 := HE.out.res.f4
        have t0 := HE.out.box.q0
        have t1 := HE.out.box.q1
        have t2 := HE.out.box.q2
        have t3 := HE.out.box.q3
        have t4 := HE.out.box.q4
        go_wp2_with fail
        refine bodyPost_ret (v := .agg #[.int .i64 6, .int .i64 0, .string ⟨#[]⟩, .slice A L.length B, .slice C K.length D]) (by simp [results, Tryd.results48, go_sem, *]) rfl ?_
        exact fin_box (k := 6) (by omega) (by omega) (by omega) HE.out (Or.inl ⟨k, HX.out, HLk.out⟩)
      | false =>
        obtain ⟨m, hm, hX⟩ := HA.out.1 rfl
        have HX := hid hX
        obtain ⟨m, rfl⟩ : ∃ m', m = m' + 1 := ⟨m - 1, by omega⟩
        have q2 := HLk.out.q2
        have HK := hid (blanks_any c s k false wr HLk.out hs (by omega))
        have hsk := sk_le hk2
        have hfar : Hid (∀ b, Kv.ownBlock = some b → b < wr.heap.size) := by
          intro b hb
          exact (HE.out.grow.sep.lies b (by rw [blks_append, blks_one]; simp [blk, hb])).2
        clear HA hX
        go_wp2_with fail
        refine HK.out.mono ?_
        rintro e w2 ⟨rfl, B2, L2⟩
        have HT := hid (rtext_uni c s (sk s k) w2 L2 hs hsk (sk_idem s k))
        clear L2 HK q2 HLk
        go_wp2_with fail
        refine HT.out.mono ?_
        rintro e w3 ⟨B3, nm, rfl, hnm, S3⟩
        have HM := hid (colon_uni c s k nm w3 S3 hs)
        clear S3 HT
        go_wp2_with fail
        refine HM.out.mono ?_
        rintro e w4 ⟨rfl, B4, S4⟩
        have HN : Hid (∀ p, keyS s true k = some p → p.1 = nm) := by
          intro p hp
          rcases S4 with ⟨j', _, ⟨h1, _⟩, _⟩ | ⟨h1, _⟩
          · rw [h1] at hp; cases hp; rfl
          · rw [h1] at hp; cases hp
        have HC := hid (value_uni n s HI.out c k nm w4 S4 hs hk2 (by omega))
        clear S4 HM
        generalize hx : ((keyS s true k).bind fun p => valN s n p.2) = x at HC
        go_wp2_with fail
        refine HC.out.mono ?_
        rintro e w5 ⟨B5, t, es, A, B, C, D, rfl, hF, hS, hcase⟩
        have B25 := ((B2.trans B3).trans B4).trans B5
        have hsz : wr.heap.size ≤ w4.heap.size := ((B2.trans B3).trans B4).size
        have HE5 := hid (HE.out.inner B25)
        have HEa := hid (HE5.out.keep ((Below.refl _ _).alloc (Nat.le_refl _) (.cells #[.int .i64 (kindOf t), .int .i64 (nOf t), .string (sOf t), .slice A (nL t) B, .slice C (nK t) D] 26)))
        have HE0a := hid (HEa.out.keep ((Below.refl _ _).alloc (Nat.le_refl _) (.cells #[.string nm] 9)))
        have hba : Below w5.heap.size w5 (w5.alloc (.cells #[.int .i64 (kindOf t), .int .i64 (nOf t), .string (sOf t), .slice A (nL t) B, .slice C (nK t) D] 26)) := (Below.refl _ _).alloc (Nat.le_refl _) _
        have HF := hid (hF.keep hS hba)
        have HS' := hid ((hS.lower hsz).keep hba.size)
        have HS := hid ((HE.out.sepKid B25 (hS.lower hsz)).keep hba.size)
        have HBx := hid (box_new w5 (.int .i64 (kindOf t)) (.int .i64 (nOf t)) (.string (sOf t)) (.slice A (nL t) B) (.slice C (nK t) D))
        have hw5 : wr.heap.size ≤ w5.heap.size := B25.size
        have HK5 : Hid (St c s (fun j' => x = some (t, j')) (x = none) (w5.alloc (.cells #[.int .i64 (kindOf t), .int .i64 (nOf t), .string (sOf t), .slice A (nL t) B, .slice C (nK t) D] 26))) := by
          rcases hcase with ⟨j', h1, h2⟩ | ⟨h1, h2⟩
          · refine Or.inl ⟨j', ?_, h1, h2.keep hba⟩
            rw [← hx] at h1
            obtain ⟨k', hk', hv⟩ := key_bind HN.out h1
            exact (valN_adv n k' t j' (keyS_adv hk2 hk').2.1 hv).2
          · exact Or.inr ⟨h1, h2.keep hba⟩
        have Hx := hid hx
        have c4 := HEa.out.box.q4
        have hbx := HE.out.box.lt
        clear B2 B3 B4 B5 B25 hF hS hcase hba HE HC HE5 hx
        go_wp2_with (at_builtin; first | (refine wpList_append_lies _ rfl (.tmp 28) (.tmp 30) 24 rfl (w.heap.size + 2) 9 iS _ 1 16 Tryd.underlying24 hiS zS0 zS1 zS2 rfl (by omega) Kv K.length (namesV K) rfl HE0a.out.grow.ownK ⟨w5.heap.size + 1, 0, none⟩ 1 1 [.string nm] (by rfl) rfl (by have := World.news_of_block (cs := #[.string nm]) (t := 9) (fr := (0, 0)) (heap_alloc_new (w5.alloc (.cells #[.int .i64 (kindOf t), .int .i64 (nOf t), .string (sOf t), .slice A (nL t) B, .slice C (nK t) D] 26)) (.cells #[.string nm] 9)); simpa using this) (by simp [Value.oneCell']) (by omega) (by unfold maxLen; omega) (by omega) HE0a.out.grow.low (w5.heap.size + 2) (by simp) ?_; intro g4 cap4 w7 hown7 hgrow7 hat7 hlt7; have HX7 := hid (HE0a.out.boxGrown hgrow7 HE0a.out.grow.ownK); have hc7 := HX7.out.q4; have hf7 := HX7.out.f4; have HQ := hid (JI.wait (k := 6) (g := g4) (cap := cap4) (o := .cells #[.string nm] 9) HEa.out HF.out HS'.out hbx (by omega) HBx.out (fun b hb => ⟨hfar.out b hb, by have := hfar.out b hb; omega⟩) HS.out rfl hgrow7 (hat7.imp id fun e => by simp; omega) hlt7); have x0 := HQ.out.2.2.2.q0; have x1 := HQ.out.2.2.2.q1; have x2 := HQ.out.2.2.2.q2; have x3 := HQ.out.2.2.2.q3; have x4 := HQ.out.2.2.2.q4; have H8 := hid (HEa.out.stepK (.cells #[.string nm] 9) (by omega) hown7 hgrow7 (hat7.imp id fun e => by simp; omega)); have c83 := H8.out.1.box.q3; have HE8 := hid H8.out.1; have HE8b := hid (HE8.out.keep ((Below.refl _ _).alloc (Nat.le_refl _) (.cells #[.int .i64 (kindOf t), .int .i64 (nOf t), .string (sOf t), .slice A (nL t) B, .slice C (nK t) D] 26))); have hnw := World.news_of_block (cs := #[.int .i64 (kindOf t), .int .i64 (nOf t), .string (sOf t), .slice A (nL t) B, .slice C (nK t) D]) (t := 26) (fr := (0, 0)) (heap_alloc_new (w7.setCell ⟨w.heap.size + 1, 4, none⟩ (.slice (some ⟨g4, 0, none⟩) (K.length + 1) cap4)) (.cells #[.int .i64 (kindOf t), .int .i64 (nOf t), .string (sOf t), .slice A (nL t) B, .slice C (nK t) D] 26)); have Hnw := hid hnw; clear hnw) | (refine wpList_append_lies _ rfl (.tmp 34) (.tmp 36) 23 rfl (w.heap.size + 2) 26 iV _ 5 80 Tryd.underlying23 hiV zV0 zV1 zV2 rfl (by omega) Lv L.length xs rfl HE8b.out.grow.ownL ⟨w7.heap.size, 0, none⟩ 1 1 [.int .i64 (kindOf t), .int .i64 (nOf t), .string (sOf t), .slice A (nL t) B, .slice C (nK t) D] (by rfl) rfl (by have := Hnw.out; simpa [World.setCell] using this) (by simp [Value.oneCell']) (by omega) (by unfold maxLen; omega) (by omega) HE8b.out.grow.low (w7.heap.size + 1) (by simp [World.setCell]) ?_; intro g9 cap9 w9 hown9 hgrow9 hat9 hlt9; have HX9 := hid (HE8b.out.boxGrown hgrow9 HE8b.out.grow.ownL); have hc9 := HX9.out.q3; have hf9 := HX9.out.f3))
        have hKl : (K ++ [nm]).length = K.length + 1 := by simp
        have HS8 : Hid (Sep (w.heap.size + 2) (w7.setCell ⟨w.heap.size + 1, 4, none⟩ (.slice (some ⟨g4, 0, none⟩) (K.length + 1) cap4)) (catE sub L.length ++ es ++ [⟨Lv, L.length, .slice (some ⟨g4, 0, none⟩) (K.length + 1) cap4, (K ++ [nm]).length⟩])) := by rw [hKl]; exact HQ.out.2.2.1
        have H9 := hid (HE8.out.stepL (.cells #[.int .i64 (kindOf t), .int .i64 (nOf t), .string (sOf t), .slice A (nL t) B, .slice C (nK t) D] 26) HQ.out.1 HQ.out.2.1 HS8.out hown9 hgrow9 (hat9.imp id fun e => by simp [World.setCell]; omega))
        have HE9 := hid H9.out.1
        have HK9 := hid ((HK5.out.same H8.out.2.1 H8.out.2.2).same H9.out.2.1 H9.out.2.2)
        have HO := hid (has_uni c s 125 t x _ HK9.out hs)
        clear hown7 hgrow7 hat7 hlt7 HX7 hc7 hf7 HQ x0 x1 x2 x3 x4 H8 c83 HE8 HE8b Hnw hown9 hgrow9 hat9 hlt9 HX9 hc9 hf9 HS8 H9 HF HS HS' HBx HEa HE0a c4 HK5 HK9
        go_wp2_with fail
        refine HO.out.mono ?_
        rintro e w10 ⟨B10, ⟨rfl, j', hx', h125, hlt', L10⟩ | ⟨rfl, S10⟩⟩
        · have HE10 := hid (HE9.out.inner B10)
          have HL10 := hid L10
          obtain ⟨k', hk', hv⟩ := key_bind HN.out (Hx.out.trans hx')
          have hadv := valN_adv n k' t j' (keyS_adv hk2 hk').2.1 hv
          have hkadv := (keyS_adv hk2 hk').1
          have hsj1 := sk_ge s j'
          have HX10 : Hid (AtItem n s true j false (sk s j' + 1) (L ++ [t]) (K ++ [nm])) := ⟨(fun h => by cases h), fun _ => HX.out.trans (itm_done K L hk' hv h125)⟩
          clear B10 L10 HO HE9 hx' hk' hv
          go_wp2_with fail
          go_roundg (ms s false (sk s j' + 1))
          case rel => exact ⟨true, sk s j' + 1, L ++ [t], K ++ [nm], _, _, _, _, rfl, by simp; omega, by simp; omega, by omega, HE10, Or.inl ⟨rfl, by omega, by omega, HL10, HX10⟩⟩
          case measure => unfold ms; simp; omega
        · have HE10 := hid (HE9.out.inner B10)
          have HM10 := hid (comma_uni c s 125 t x w10 S10 hs)
          clear B10 S10 HO HE9
          go_wp2_with fail
          refine HM10.out.mono ?_
          rintro e w11 ⟨rfl, B11, ⟨j', hx', h44, hlt', L11⟩ | ⟨hbad, R11⟩⟩
          · have HE11 := hid (HE10.out.inner B11)
            have HL11 := hid L11
            obtain ⟨k', hk', hv⟩ := key_bind HN.out (Hx.out.trans hx')
            have hadv := valN_adv n k' t j' (keyS_adv hk2 hk').2.1 hv
            have hkadv := (keyS_adv hk2 hk').1
            have hsj1 := sk_ge s j'
            have HX11 : Hid (AtItem n s true j true (sk s j' + 1) (L ++ [t]) (K ++ [nm])) := ⟨fun _ => ⟨m, by omega, HX.out.trans (itm_more K L hk' hv h44)⟩, fun h => by cases h⟩
            clear B11 L11 HM10 HE10 hx' hk' hv
            go_wp2_with fail
            go_roundg (ms s true (sk s j' + 1))
            case rel => exact ⟨false, sk s j' + 1, L ++ [t], K ++ [nm], _, _, _, _, rfl, by simp; omega, by simp; omega, by omega, HE11, Or.inl ⟨rfl, by omega, by omega, HL11, HX11⟩⟩
            case measure => unfold ms; simp; omega
          · have HE11 := hid (HE10.out.inner B11)
            have HR11 := hid R11
            have HZ : Hid (boxS (valN s n) s true j = none) := by
              show _ = _
              rw [HX.out]
              rcases hbad with hn' | ⟨j', hx', h44, h125⟩
              · rw [key_none_itm (Hx.out.trans hn')]; rfl
              · obtain ⟨k', hk', hv⟩ := key_bind HN.out (Hx.out.trans hx')
                rw [itm_torn hk' hv h44 h125]; rfl
            clear B11 R11 HM10 HE10 hbad
            go_wp2_with fail
            go_roundg 0
            case rel => exact ⟨false, k + 1, L ++ [t], K ++ [nm], _, _, _, _, rfl, by simp; omega, by simp; omega, by omega, HE11, Or.inr ⟨rfl, rfl, HR11, HZ⟩⟩
            case measure => unfold ms; simp; omega
    · obtain ⟨A, B, rfl⟩ := own_shape HE.out.grow.ownL
      obtain ⟨C, D, rfl⟩ := own_shape HE.out.grow.ownK
      have HX : Hid ((boxS (valN s n) s true j).map (fun r => (mkT (6 : Int) 0 ByteArray.empty r.1.2 r.1.1, r.2)) = none) := by show _ = _; rw [HZ.out]; rfl
      obtain ⟨jb, hjb, hLb⟩ := HR.out
      have q2 := hLb.q2
      have HR' := hid HR.out
      clear hLb HR
      have r0 := HE.out.res.q0
      have r1 := HE.out.res.q1
      have r2 := HE.out.res.q2
      have r3 := HE.out.res.q3
      have r4 := HE.out.res.q4
      have s0 := HE.out.res.f0
      have s1 := HE.out.res.f1
      have s2 := HE.out.res.f2
      have s3 := HE.out.res.f3
      have s4 := HE.out.res.f4
      have t0 := HE.out.box.q0
      have t1 := HE.out.box.q1
      have t2 := HE.out.box.q2
      have t3 := HE.out.box.q3
      have t4 := HE.out.box.q4
      go_wp2_with fail
      refine bodyPost_ret (v := .agg #[.int .i64 6, .int .i64 0, .string ⟨#[]⟩, .slice A L.length B, .slice C K.length D]) (by simp [results, Tryd.results48, go_sem, *]) rfl ?_
      exact fin_box (k := 6) (by omega) (by omega) (by omega) HE.out (Or.inr ⟨HX.out, HR'.out⟩)
end Go.Proofs.YtknakfpciccoaaaDoor
/- The walk of the reference's parser: a value. -/
namespace Go.Proofs.YtknakfpciccoaaaDoor
open Go.RowKit

set_option maxHeartbeats 4000000 in
set_option maxRecDepth 100000 in
theorem robject_bad (n c : Nat) (s : ByteArray) (w : World) (h : RB c s w) (hs : s.size ≤ 4000) :
    Calls Tryd.prog 48 #[.pointer (some ⟨c, 0, none⟩)] w (RVPost (n + 1) c s none w) := by
  have hcl : c < w.heap.size := by obtain ⟨_, _, hL⟩ := h; exact hL.lt
  have HJ0 := hid (JI.start (f := n) (k := 6) hcl)
  have HR0 := hid (h.keep (((Below.refl _ _).alloc (Nat.le_refl _) (.cells #[.int .i64 0, .int .i64 0, .string ⟨#[]⟩, .slice none 0 0, .slice none 0 0] 26)).alloc (by simp) (.cells #[.int .i64 6, .int .i64 0, .string ⟨#[]⟩, .slice none 0 0, .slice none 0 0] 26)))
  have HO := hid (hasBad_any c s ⟨#[125]⟩ _ HR0.out hs)
  clear h
  go_enter Tryd.func48, Tryd.ntmps48
  go_wp2_with fail
  refine HO.out.mono ?_
  rintro e w1 ⟨rfl, B1, R1⟩
  have HE := hid (HJ0.out.inner B1)
  have HR1 := hid R1
  clear B1 R1 HO HJ0 HR0
  go_wp2_with fail
  go_loopg [4] 0 (fun g b wr => g = 0 ∧ b = .bool false ∧ Hid (RB c s wr) ∧ Hid (JI n 6 c w w.heap.size (w.heap.size + 1) (w.heap.size + 2) [] [] (.slice none 0 0) (.slice none 0 0) [] (fun _ => []) wr))
  case atStart => exact ⟨rfl, rfl, HR1, HE⟩
  case round =>
    clear HR1 HE
    obtain ⟨rfl, rfl, HR, HE⟩ := hrel
    obtain ⟨jb, hjb, hLb⟩ := HR.out
    have q2 := hLb.q2
    have HR' := hid HR.out
    clear hLb HR
    have r0 := HE.out.res.q0
    have r1 := HE.out.res.q1
    have r2 := HE.out.res.q2
    have r3 := HE.out.res.q3
    have r4 := HE.out.res.q4
    have s0 := HE.out.res.f0
    have s1 := HE.out.res.f1
    have s2 := HE.out.res.f2
    have s3 := HE.out.res.f3
    have s4 := HE.out.res.f4
    have t0 := HE.out.box.q0
    have t1 := HE.out.box.q1
    have t2 := HE.out.box.q2
    have t3 := HE.out.box.q3
    have t4 := HE.out.box.q4
    go_wp2_with fail
    refine bodyPost_ret (v := .agg #[.int .i64 6, .int .i64 0, .string ⟨#[]⟩, .slice none 0 0, .slice none 0 0]) (by simp [results, Tryd.results48, go_sem, *]) rfl ?_
    exact fin_box (k := 6) (L := []) (K := []) (by omega) (by simp) (by simp) HE.out (Or.inr ⟨rfl, HR'.out⟩)
/-- The result's cells, as a value that another call has made. -/
theorem fin_rv {n m c : Nat} {s : ByteArray} {w w1 w2 : World} {x : Option (T × Nat)} {e : Ending} (hB : But c w w1) (hc : c < w.heap.size) (hlo : w.heap.size < w1.heap.size) (h : RVPost n c s x w1 e w2) (hnm : n = m) :
    ∃ t A B C D, e = .returned (.agg #[.int .i64 (kindOf t), .int .i64 (nOf t), .string (sOf t), .slice A (nL t) B, .slice C (nK t) D]) ∧ (BoxAt w.heap.size (.int .i64 0) (.int .i64 0) (.string ⟨#[]⟩) (.slice none 0 0) (.slice none 0 0) w1 → BoxAt w.heap.size (.int .i64 0) (.int .i64 0) (.string ⟨#[]⟩) (.slice none 0 0) (.slice none 0 0) w2) ∧
      RVPost m c s x w (.returned (.agg #[.int .i64 (kindOf t), .int .i64 (nOf t), .string (sOf t), .slice A (nL t) B, .slice C (nK t) D])) (((((w2.setCell ⟨w.heap.size, 0, none⟩ (.int .i64 (kindOf t))).setCell ⟨w.heap.size, 1, none⟩ (.int .i64 (nOf t))).setCell ⟨w.heap.size, 2, none⟩ (.string (sOf t))).setCell ⟨w.heap.size, 3, none⟩ (.slice A (nL t) B)).setCell ⟨w.heap.size, 4, none⟩ (.slice C (nK t) D)) := by
  subst hnm
  obtain ⟨hB2, h⟩ := h
  have hbox : BoxAt w.heap.size (.int .i64 0) (.int .i64 0) (.string ⟨#[]⟩) (.slice none 0 0) (.slice none 0 0) w1 → BoxAt w.heap.size (.int .i64 0) (.int .i64 0) (.string ⟨#[]⟩) (.slice none 0 0) (.slice none 0 0) w2 := fun R => R.move hB2.size (hB2.block _ R.lt (by omega))
  rcases h with ⟨t, j, es, A, B, C, D, hx, he, hF, hS, hL⟩ | ⟨hx, ⟨t, es, A, B, C, D, he, hF, hS⟩, hR⟩
  · have hp := put_five (rb := w.heap.size) (hB.trans hB2) hc hF hS (Nat.le_refl _) hlo (.int .i64 (kindOf t)) (.int .i64 (nOf t)) (.string (sOf t)) (.slice A (nL t) B) (.slice C (nK t) D)
    exact ⟨t, A, B, C, D, he, hbox, hp.1, Or.inl ⟨t, j, es, A, B, C, D, hx, rfl, hp.2.1, hp.2.2.1, hL.same hp.2.2.2.1 (by rw [hp.2.2.2.2]; exact Nat.le_refl _)⟩⟩
  · have hp := put_five (rb := w.heap.size) (hB.trans hB2) hc hF hS (Nat.le_refl _) hlo (.int .i64 (kindOf t)) (.int .i64 (nOf t)) (.string (sOf t)) (.slice A (nL t) B) (.slice C (nK t) D)
    exact ⟨t, A, B, C, D, he, hbox, hp.1, Or.inr ⟨hx, ⟨t, es, A, B, C, D, rfl, hp.2.1, hp.2.2.1⟩, hR.same hp.2.2.2.1 (by rw [hp.2.2.2.2]; exact Nat.le_refl _)⟩⟩
set_option maxHeartbeats 4000000 in
set_option maxRecDepth 100000 in
theorem rval_text (n c : Nat) (s : ByteArray) (i : Nat) (w : World) (h : RL c s i false w) (hs : s.size ≤ 4000) (hi : i ≤ s.size) (hq : cB s (sk s i) = 34) :
    Calls Tryd.prog 21 #[.pointer (some ⟨c, 0, none⟩)] w (RVPost (n + 1) c s (valN s (n + 1) i) w) := by
  have HB0 : Hid (Below w.heap.size w (w.alloc (.cells #[.int .i64 0, .int .i64 0, .string ⟨#[]⟩, .slice none 0 0, .slice none 0 0] 26))) := (Below.refl _ _).alloc (Nat.le_refl _) _
  have HR0 : Hid (BoxAt w.heap.size (.int .i64 0) (.int .i64 0) (.string ⟨#[]⟩) (.slice none 0 0) (.slice none 0 0) (w.alloc (.cells #[.int .i64 0, .int .i64 0, .string ⟨#[]⟩, .slice none 0 0, .slice none 0 0] 26))) := box_new w _ _ _ _ _
  have hlc := h.lt
  have HK := hid (blanks_any c s i false _ (h.keep HB0.out) hs (by omega))
  have hle := sk_le hi
  have hid2 := sk_idem s i
  have HX : Hid (valN s (n + 1) i = (txtS s (sk s i)).map fun p => (leafT 4 0 p.1, p.2)) := by show _ = _; rw [valN]; unfold bareV; rw [if_pos hq]
  have hpk := pk_of hq (by omega)
  clear h hq
  generalize sk s i = j at *
  go_enter Tryd.func21, Tryd.ntmps21
  go_wp2_with fail
  refine HK.out.mono ?_
  rintro e w1 ⟨rfl, B1, L1⟩
  have HL1 := hid L1
  have HR1 := hid (HR0.out.move B1.size (B1.block _ HR0.out.lt (by omega)))
  have HW1 := hid ((But.of (c := c) HB0.out).trans B1)
  have HP := hid (rpeek_any c s j false w1 L1)
  rw [hpk] at HP
  clear B1 L1 HK HR0 HB0 hpk
  go_wp2_with fail
  refine HP.out.mono ?_
  rintro e w2 ⟨rfl, b2⟩
  have HL2 := hid (HL1.out.keep b2)
  have HR2 := hid (HR1.out.keepB b2)
  have HW2 := hid (HW1.out.trans (But.of b2))
  have HT := hid (rtext_any c s j w2 HL2.out hs hle hid2)
  clear b2 HP HL1 HR1 HW1 hid2
  have q2 := HL2.out.q2
  go_wp2_with fail
  refine HT.out.mono ?_
  clear q2 HL2
  rintro e w3 ⟨B3, ⟨x, k, hx, rfl, L3⟩ | ⟨hx, rfl, R3⟩⟩
  · have hadv := txtS_adv hx
    have HL3 := hid L3
    have HR3 := hid (HR2.out.move B3.size (B3.block _ HR2.out.lt (by omega)))
    have HW3 := hid (HW2.out.trans B3)
    have HZ : Hid (valN s (n + 1) i = some (leafT 4 0 x, k)) := by show _ = _; rw [HX.out, hx]; rfl
    clear B3 L3 HT HR2 HW2 hx
    have r0 := HR3.out.q0
    have r1 := HR3.out.q1
    have r2 := HR3.out.q2
    have r3 := HR3.out.q3
    have r4 := HR3.out.q4
    have s0 := HR3.out.f0
    have s1 := HR3.out.f1
    have s2 := HR3.out.f2
    have s3 := HR3.out.f3
    have s4 := HR3.out.f4
    go_wp2_with fail
    refine bodyPost_ret (v := .agg #[.int .i64 4, .int .i64 0, .string x, .slice none 0 0, .slice none 0 0]) (by simp [results, Tryd.results21, go_sem, *]) rfl ?_
    exact fin_r 4 0 x (by omega) (by omega) (by omega) (by omega) HZ.out HW3.out hlc HL3.out
  · have HL3 := hid R3
    have HR3 := hid (HR2.out.move B3.size (B3.block _ HR2.out.lt (by omega)))
    have HW3 := hid (HW2.out.trans B3)
    have HZ : Hid (valN s (n + 1) i = none) := by show _ = _; rw [HX.out, hx]; rfl
    clear B3 R3 HT HR2 HW2 hx
    have r0 := HR3.out.q0
    have r1 := HR3.out.q1
    have r2 := HR3.out.q2
    have r3 := HR3.out.q3
    have r4 := HR3.out.q4
    have s0 := HR3.out.f0
    have s1 := HR3.out.f1
    have s2 := HR3.out.f2
    have s3 := HR3.out.f3
    have s4 := HR3.out.f4
    go_wp2_with fail
    refine bodyPost_ret (v := .agg #[.int .i64 4, .int .i64 0, .string ⟨#[]⟩, .slice none 0 0, .slice none 0 0]) (by simp [results, Tryd.results21, go_sem, *]) rfl ?_
    exact fin_rb 4 0 ByteArray.empty (by omega) (by omega) (by omega) (by simp) HZ.out HW3.out hlc HL3.out
set_option maxHeartbeats 4000000 in
set_option maxRecDepth 100000 in
theorem rval_num (n c : Nat) (s : ByteArray) (i : Nat) (w : World) (h : RL c s i false w) (hs : s.size ≤ 4000) (hi : i ≤ s.size) (hq : cB s (sk s i) = 45 ∨ isD (cB s (sk s i)) = true) :
    Calls Tryd.prog 21 #[.pointer (some ⟨c, 0, none⟩)] w (RVPost (n + 1) c s (valN s (n + 1) i) w) := by
  have HB0 : Hid (Below w.heap.size w (w.alloc (.cells #[.int .i64 0, .int .i64 0, .string ⟨#[]⟩, .slice none 0 0, .slice none 0 0] 26))) := (Below.refl _ _).alloc (Nat.le_refl _) _
  have HR0 : Hid (BoxAt w.heap.size (.int .i64 0) (.int .i64 0) (.string ⟨#[]⟩) (.slice none 0 0) (.slice none 0 0) (w.alloc (.cells #[.int .i64 0, .int .i64 0, .string ⟨#[]⟩, .slice none 0 0, .slice none 0 0] 26))) := box_new w _ _ _ _ _
  have hlc := h.lt
  have HK := hid (blanks_any c s i false _ (h.keep HB0.out) hs (by omega))
  have hle := sk_le hi
  have hrg : 45 ≤ cB s (sk s i) ∧ cB s (sk s i) ≤ 57 := by
    rcases hq with hq | hq
    · omega
    · unfold isD at hq; simp at hq; omega
  have HX : Hid (valN s (n + 1) i = (numS s (sk s i)).map fun p => (leafT 3 p.1 ByteArray.empty, p.2)) := by show _ = _; rw [valN]; unfold bareV; rw [if_neg (by omega), if_neg (by omega), if_neg (by omega), if_pos hq]
  have hpk : pk s (sk s i) = cB s (sk s i) := pk_eq (by omega)
  have Hq := hid hq
  clear h hq
  generalize sk s i = j at *
  have HPk := hid hpk
  obtain ⟨a, ha⟩ : ∃ a, cB s j = a := ⟨_, rfl⟩
  have Ha := hid ha
  rw [ha] at hrg hpk
  have y1 : ((a : Int) == 34) = false := by rw [beq_eq_false_iff_ne]; omega
  have HNum : Hid (∀ w', RL c s j false w' → Calls Tryd.prog 44 #[.pointer (some ⟨c, 0, none⟩)] w' (RVPost (n + 1) c s (valN s (n + 1) i) w')) := by
    intro w' h'
    rw [HX.out]
    rcases Hq.out with h1 | h1
    · exact rnum_neg n c s j w' h' hs h1
    · exact rnum_pos n c s j w' h' hs h1
  have HG : Hid (a = 45 ∨ isD a = true) := by rw [← ha]; exact Hq.out
  clear hrg ha
  go_enter Tryd.func21, Tryd.ntmps21
  go_wp2_with fail
  refine HK.out.mono ?_
  rintro e w1 ⟨rfl, B1, L1⟩
  have HL1 := hid L1
  have HR1 := hid (HR0.out.move B1.size (B1.block _ HR0.out.lt (by omega)))
  have HW1 := hid ((But.of (c := c) HB0.out).trans B1)
  have HP := hid (rpeek_any c s j false w1 L1)
  rw [hpk] at HP
  clear B1 L1 HK HR0 HB0 hpk
  go_wp2_with fail
  refine HP.out.mono ?_
  rintro e w2 ⟨rfl, b2⟩
  have HL2 := hid (HL1.out.keep b2)
  have HR2 := hid (HR1.out.keepB b2)
  have HW2 := hid (HW1.out.trans (But.of b2))
  have HC := hid (HNum.out w2 HL2.out)
  have hlo := HR2.out.lt
  clear b2 HP HL1 HR1 HW1
  have q2 := HL2.out.q2
  by_cases h45 : a = 45
  · have y4 : ((a : Int) == 45) = true := by rw [beq_iff_eq]; omega
    clear h45
    go_wp2_with fail
    refine HC.out.mono ?_
    intro e w3 hpost
    obtain ⟨t, A, B, C, D, rfl, hbox, hfin⟩ := fin_rv (m := n + 1) HW2.out hlc hlo hpost rfl
    have HR3 := hid (hbox HR2.out)
    have HFin := hid hfin
    clear hpost hbox hfin HC q2 HR2
    have r0 := HR3.out.q0
    have r1 := HR3.out.q1
    have r2 := HR3.out.q2
    have r3 := HR3.out.q3
    have r4 := HR3.out.q4
    have s0 := HR3.out.f0
    have s1 := HR3.out.f1
    have s2 := HR3.out.f2
    have s3 := HR3.out.f3
    have s4 := HR3.out.f4
    go_wp2_with fail
    refine bodyPost_ret (v := .agg #[.int .i64 (kindOf t), .int .i64 (nOf t), .string (sOf t), .slice A (nL t) B, .slice C (nK t) D]) (by simp [results, Tryd.results21, go_sem, *]) rfl ?_
    exact HFin.out
  · have y4 : ((a : Int) == 45) = false := by rw [beq_eq_false_iff_ne]; omega
    have hd : isD a = true := HG.out.resolve_left h45
    have HDg := hid (rdigit_any a w2)
    rw [hd] at HDg
    clear h45 hd
    go_wp2_with fail
    refine HDg.out.mono ?_
    rintro e w2' ⟨rfl, rfl⟩
    go_wp2_with fail
    refine HC.out.mono ?_
    intro e w3 hpost
    obtain ⟨t, A, B, C, D, rfl, hbox, hfin⟩ := fin_rv (m := n + 1) HW2.out hlc hlo hpost rfl
    have HR3 := hid (hbox HR2.out)
    have HFin := hid hfin
    clear hpost hbox hfin HC q2 HR2
    have r0 := HR3.out.q0
    have r1 := HR3.out.q1
    have r2 := HR3.out.q2
    have r3 := HR3.out.q3
    have r4 := HR3.out.q4
    have s0 := HR3.out.f0
    have s1 := HR3.out.f1
    have s2 := HR3.out.f2
    have s3 := HR3.out.f3
    have s4 := HR3.out.f4
    go_wp2_with fail
    refine bodyPost_ret (v := .agg #[.int .i64 (kindOf t), .int .i64 (nOf t), .string (sOf t), .slice A (nL t) B, .slice C (nK t) D]) (by simp [results, Tryd.results21, go_sem, *]) rfl ?_
    exact HFin.out
end Go.Proofs.YtknakfpciccoaaaDoor
