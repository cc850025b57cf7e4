import Derived.Test.YtknakfpciccoaaaGreatDoorZO11
/- The walks of the program's reader: value, parseBytes, Decode. -/
namespace Go.Proofs.YtknakfpciccoaaaGreatDoor
open Go.RowKit

set_option maxHeartbeats 1000000 in
set_option maxRecDepth 100000 in
theorem entries_deep (c : Nat) (k : Int) (w : World) :
    Calls Tryz.prog 147 #[.pointer (some ⟨c, 0, none⟩), .int .i64 k, .int .i64 13] w fun e w' => e = refused 6 ∧ Below w.heap.size w w' := by
  go_enter Tryz.func147, Tryz.ntmps147
  go_wp2_with fail
  exact ⟨rfl, rfl, (Below.refl _ _).alloc (Nat.le_refl _) _⟩
def boxP : Nat → Option (ByteArray → Option (T × ByteArray))
  | 0 => none
  | d + 1 => some (decP d)
theorem decP_eq (d : Nat) : decP d = stepD false (boxP d) := by cases d <;> rfl
section
variable {b : Option (ByteArray → Option (T × ByteArray))} {s : ByteArray}
theorem stepD_0 {c : Bool} (h : s.size < 1) : stepD c b s = none := by unfold stepD; rw [if_pos h]
theorem stepD_1 {c : Bool} (h : 1 ≤ s.size) (hn : numB (pre s 1) = 1) : stepD c b s = some (leafT 1 0 ByteArray.empty, suf s 1) := by unfold stepD; rw [if_neg (by omega), if_pos hn]
theorem stepD_2 {c : Bool} (h : 1 ≤ s.size) (hn : numB (pre s 1) = 2) : stepD c b s = if (suf s 1).size < 1 then none else if c = true ∧ 2 ≤ numB (pre (suf s 1) 1) then none else some (leafT 2 (numB (pre (suf s 1) 1)) ByteArray.empty, suf (suf s 1) 1) := by unfold stepD; rw [if_neg (by omega), if_neg (by omega), if_pos hn]
theorem stepD_3 {c : Bool} (h : 1 ≤ s.size) (hn : numB (pre s 1) = 3) : stepD c b s = if (suf s 1).size < 8 then none else some (leafT 3 (IntKind.i64.wrap (numB (pre (suf s 1) 8))) ByteArray.empty, suf (suf s 1) 8) := by unfold stepD; rw [if_neg (by omega), if_neg (by omega), if_neg (by omega), if_pos hn]
theorem stepD_4 {c : Bool} (h : 1 ≤ s.size) (hn : numB (pre s 1) = 4) : stepD c b s = (szB (suf s 1) 4).bind fun p => some (leafT 4 0 p.1, p.2) := by unfold stepD; rw [if_neg (by omega), if_neg (by omega), if_neg (by omega), if_neg (by omega), if_pos hn]
theorem stepD_56 {c : Bool} (h : 1 ≤ s.size) (hn : numB (pre s 1) = 5 ∨ numB (pre s 1) = 6) : stepD c b s = b.bind fun f => (szB (suf s 1) 4).bind fun p => (ents f (numB (pre s 1) == 6) p.1.size p.1).bind fun q => some (mkT (numB (pre s 1)) 0 ByteArray.empty q.2 q.1, p.2) := by unfold stepD; rw [if_neg (by omega), if_neg (by omega), if_neg (by omega), if_neg (by omega), if_neg (by omega), if_pos hn]
theorem stepD_7 {c : Bool} (h : 1 ≤ s.size) (h1 : numB (pre s 1) ≠ 1) (h2 : numB (pre s 1) ≠ 2) (h3 : numB (pre s 1) ≠ 3) (h4 : numB (pre s 1) ≠ 4) (h5 : numB (pre s 1) ≠ 5) (h6 : numB (pre s 1) ≠ 6) : stepD c b s = none := by unfold stepD; rw [if_neg (by omega), if_neg h1, if_neg h2, if_neg h3, if_neg h4, if_neg (by omega)]
end
theorem stepD_ent (d : Nat) {s : ByteArray} (k : Int) (h : 1 ≤ s.size) (hk : k = 5 ∨ k = 6) (hn : (numB (pre s 1) : Int) = k) : decP (d + 1) s = entO d k (suf s 1) := by
  rw [decP_eq, stepD_56 h (by omega)]
  unfold entO
  simp only [boxP, Option.bind_some]
  rw [hn]
  have : (numB (pre s 1) == 6) = (k == 6) := by
    rcases hk with rfl | rfl
    · have : numB (pre s 1) = 5 := by omega
      rw [this]; rfl
    · have : numB (pre s 1) = 6 := by omega
      rw [this]; rfl
  rw [this]
theorem stepD_none (s : ByteArray) (h : 1 ≤ s.size) (hk : numB (pre s 1) = 5 ∨ numB (pre s 1) = 6) : decP 0 s = none := by
  rw [decP_eq, stepD_56 h hk]
  rfl
/-- The result's five cells are written last. -/
theorem put_res {c : Nat} {w wr : World} {f lo : Nat} {v : Value} {t : T} {es : List Ent} {r : ByteArray} (hB : But c w wr) (hc : c < w.heap.size) (hF : Flat wr f v t es) (hS : Sep lo wr es) (hlo : w.heap.size < lo) (hL : Left c r wr) (u0 u1 u2 u3 u4 : Value) :
    But c w (((((wr.setCell ⟨w.heap.size, 0, none⟩ u0).setCell ⟨w.heap.size, 1, none⟩ u1).setCell ⟨w.heap.size, 2, none⟩ u2).setCell ⟨w.heap.size, 3, none⟩ u3).setCell ⟨w.heap.size, 4, none⟩ u4) ∧
    Flat (((((wr.setCell ⟨w.heap.size, 0, none⟩ u0).setCell ⟨w.heap.size, 1, none⟩ u1).setCell ⟨w.heap.size, 2, none⟩ u2).setCell ⟨w.heap.size, 3, none⟩ u3).setCell ⟨w.heap.size, 4, none⟩ u4) f v t es ∧
    Sep w.heap.size (((((wr.setCell ⟨w.heap.size, 0, none⟩ u0).setCell ⟨w.heap.size, 1, none⟩ u1).setCell ⟨w.heap.size, 2, none⟩ u2).setCell ⟨w.heap.size, 3, none⟩ u3).setCell ⟨w.heap.size, 4, none⟩ u4) es ∧
    Left c r (((((wr.setCell ⟨w.heap.size, 0, none⟩ u0).setCell ⟨w.heap.size, 1, none⟩ u1).setCell ⟨w.heap.size, 2, none⟩ u2).setCell ⟨w.heap.size, 3, none⟩ u3).setCell ⟨w.heap.size, 4, none⟩ u4) := by
  have hset : ∀ (w1 : World) (o : Nat) (u : Value) (b : Nat), b ≠ w.heap.size → (w1.setCell ⟨w.heap.size, o, none⟩ u).heap[b]? = w1.heap[b]? := fun w1 o u b hb => Below.heap_setCell _ _ _ _ (by simpa using hb)
  refine ⟨((((hB.setNew (Nat.le_refl _) _ _).setNew (Nat.le_refl _) _ _).setNew (Nat.le_refl _) _ _).setNew (Nat.le_refl _) _ _).setNew (Nat.le_refl _) _ _, hF.move fun b hb => ?_, ?_, ((((hL.setOther (by omega) _ _).setOther (by omega) _ _).setOther (by omega) _ _).setOther (by omega) _ _).setOther (by omega) _ _⟩
  · have h1 := hS.lies b hb
    rw [hset _ _ _ _ (by omega), hset _ _ _ _ (by omega), hset _ _ _ _ (by omega), hset _ _ _ _ (by omega), hset _ _ _ _ (by omega)]
  · exact (hS.lower (by omega)).keep (by simp [World.setCell])
theorem wrap64_e (n : Int) : IntKind.i64.wrap n = wrap64 n := by rw [IntKind.wrap_i64, wrap64]
theorem wrap64_b2 (n : Int) : -9223372036854775808 ≤ wrap64 n ∧ wrap64 n ≤ 9223372036854775807 := by rw [← wrap64_e, IntKind.wrap_i64]; omega
theorem wrap64_bd (n : Int) : -9223372036854775808 ≤ IntKind.i64.wrap n ∧ IntKind.i64.wrap n ≤ 9223372036854775807 := by rw [IntKind.wrap_i64]; omega
set_option maxHeartbeats 4000000 in
set_option maxRecDepth 100000 in
theorem value_1 (d : Nat) (hd : d ≤ 12) (c : Nat) (s : ByteArray) (w : World) (hnum : numB (pre s 1) = 1) (h : Left c s w) (hs : s.size ≤ 140737488355328) : Calls Tryz.prog 108 #[.pointer (some ⟨c, 0, none⟩), .int .i64 ((12 - d : Nat) : Int)] w (ValPost c d s w) := by
  have HB0 : Hid (Below w.heap.size w (w.alloc (.cells #[.int .i64 0, .int .i64 0, .string ⟨#[]⟩, .slice none 0 0, .slice none 0 0] 25))) := (Below.refl _ _).alloc (Nat.le_refl _) _
  have HR0 : Hid (BoxAt w.heap.size (.int .i64 0) (.int .i64 0) (.string ⟨#[]⟩) (.slice none 0 0) (.slice none 0 0) (w.alloc (.cells #[.int .i64 0, .int .i64 0, .string ⟨#[]⟩, .slice none 0 0, .slice none 0 0] 25))) := box_new w _ _ _ _ _
  have hlc := h.lt
  have HN := hid (number_bytes c s 1 _ (h.keep HB0.out) (by omega) hs)
  have Hnn := hid hnum
  clear hnum
  obtain ⟨a0, ha, ha1⟩ : ∃ a : Nat, 12 - d = a ∧ a ≤ 12 := ⟨_, rfl, by omega⟩
  rw [ha]
  have Ha := hid ha
  clear h ha
  go_enter Tryz.func108, Tryz.ntmps108
  go_wp2_with fail
  refine HN.out.mono ?_
  rintro e w1 ⟨B1, ⟨h1, rfl, L1⟩ | ⟨h1, rfl⟩⟩
  · have hn := numB_lt (pre s 1)
    rw [pre_size h1] at hn
    have hsz := suf_size s 1
    have HL1 := hid L1
    have HR1 := hid (HR0.out.move B1.size (B1.block _ HR0.out.lt (by omega)))
    have HW1 := hid ((But.of (c := c) HB0.out).trans B1)
    clear B1 L1 HN HR0 HB0
    have r0 := HR1.out.q0
    have r1 := HR1.out.q1
    have r2 := HR1.out.q2
    have r3 := HR1.out.q3
    have r4 := HR1.out.q4
    have s0 := HR1.out.f0
    have s1 := HR1.out.f1
    have s2 := HR1.out.f2
    have s3 := HR1.out.f3
    have s4 := HR1.out.f4
    rw [Hnn.out]
    go_wp2_with fail
    refine bodyPost_ret (v := five (leafT 1 0 ByteArray.empty) none 0 none 0) (by simp [results, Tryz.results108, go_sem, five, leafT, kindOf_mk, nOf_mk, sOf_mk, nL_mk, nK_mk, *]; rfl) rfl ?_
    obtain ⟨p1, p2, p3, p4⟩ := put_res HW1.out hlc (flat_leaf w1 d 1 0 ByteArray.empty (by omega) (by omega) (by omega) (by omega) (by simp)) (sep_leaf (w.heap.size + 1) w1) (by omega) HL1.out (.int .i64 1) (.int .i64 0) (.string ⟨#[]⟩) (.slice none 0 0) (.slice none 0 0)
    exact ⟨p1, Or.inl ⟨leafT 1 0 ByteArray.empty, suf s 1, _, none, 0, none, 0, by rw [decP_eq, stepD_1 h1 Hnn.out], rfl, p2, p3, p4⟩⟩
  · have HW1 := hid ((But.of (c := c) HB0.out).trans B1)
    clear B1
    go_wp2_with fail
    exact ⟨rfl, HW1.out, Or.inr ⟨by rw [decP_eq, stepD_0 h1], rfl⟩⟩
set_option maxHeartbeats 4000000 in
set_option maxRecDepth 100000 in
theorem value_2 (d : Nat) (hd : d ≤ 12) (c : Nat) (s : ByteArray) (w : World) (hnum : numB (pre s 1) = 2) (h : Left c s w) (hs : s.size ≤ 140737488355328) : Calls Tryz.prog 108 #[.pointer (some ⟨c, 0, none⟩), .int .i64 ((12 - d : Nat) : Int)] w (ValPost c d s w) := by
  have HB0 : Hid (Below w.heap.size w (w.alloc (.cells #[.int .i64 0, .int .i64 0, .string ⟨#[]⟩, .slice none 0 0, .slice none 0 0] 25))) := (Below.refl _ _).alloc (Nat.le_refl _) _
  have HR0 : Hid (BoxAt w.heap.size (.int .i64 0) (.int .i64 0) (.string ⟨#[]⟩) (.slice none 0 0) (.slice none 0 0) (w.alloc (.cells #[.int .i64 0, .int .i64 0, .string ⟨#[]⟩, .slice none 0 0, .slice none 0 0] 25))) := box_new w _ _ _ _ _
  have hlc := h.lt
  have HN := hid (number_bytes c s 1 _ (h.keep HB0.out) (by omega) hs)
  have Hnn := hid hnum
  clear hnum
  obtain ⟨a0, ha, ha1⟩ : ∃ a : Nat, 12 - d = a ∧ a ≤ 12 := ⟨_, rfl, by omega⟩
  rw [ha]
  have Ha := hid ha
  clear h ha
  go_enter Tryz.func108, Tryz.ntmps108
  go_wp2_with fail
  refine HN.out.mono ?_
  rintro e w1 ⟨B1, ⟨h1, rfl, L1⟩ | ⟨h1, rfl⟩⟩
  · have hn := numB_lt (pre s 1)
    rw [pre_size h1] at hn
    have hsz := suf_size s 1
    have HL1 := hid L1
    have HR1 := hid (HR0.out.move B1.size (B1.block _ HR0.out.lt (by omega)))
    have HW1 := hid ((But.of (c := c) HB0.out).trans B1)
    clear B1 L1 HN HR0 HB0
    have r0 := HR1.out.q0
    have r1 := HR1.out.q1
    have r2 := HR1.out.q2
    have r3 := HR1.out.q3
    have r4 := HR1.out.q4
    have s0 := HR1.out.f0
    have s1 := HR1.out.f1
    have s2 := HR1.out.f2
    have s3 := HR1.out.f3
    have s4 := HR1.out.f4
    rw [Hnn.out]
    have HN2 := hid (number_bytes c (suf s 1) 1 w1 HL1.out (by omega) (by omega))
    go_wp2_with fail
    refine HN2.out.mono ?_
    rintro e w2 ⟨B2, ⟨h2, rfl, L2⟩ | ⟨h2, rfl⟩⟩
    · have HL2 := hid L2
      have HR2 := hid (HR1.out.move B2.size (B2.block _ HR1.out.lt (by omega)))
      have HW2 := hid (HW1.out.trans B2)
      have hn2 := numB_lt (pre (suf s 1) 1)
      rw [pre_size h2] at hn2
      clear B2 L2 HN2 r0 r1 r2 r3 r4 s0 s1 s2 s3 s4
      have r0 := HR2.out.q0
      have r1 := HR2.out.q1
      have r2 := HR2.out.q2
      have r3 := HR2.out.q3
      have r4 := HR2.out.q4
      have s0 := HR2.out.f0
      have s1 := HR2.out.f1
      have s2 := HR2.out.f2
      have s3 := HR2.out.f3
      have s4 := HR2.out.f4
      generalize hm : numB (pre (suf s 1) 1) = m at hn2 ⊢
      have Hm := hid hm
      clear hm
      go_wp2_with fail
      refine bodyPost_ret (v := five (leafT 2 m ByteArray.empty) none 0 none 0) (by simp [results, Tryz.results108, go_sem, five, leafT, kindOf_mk, nOf_mk, sOf_mk, nL_mk, nK_mk, *]; rfl) rfl ?_
      obtain ⟨p1, p2, p3, p4⟩ := put_res HW2.out hlc (flat_leaf w2 d 2 (m) ByteArray.empty (by omega) (by omega) (by omega) (by omega) (by simp)) (sep_leaf (w.heap.size + 1) w2) (by omega) HL2.out (.int .i64 2) (.int .i64 (m)) (.string ⟨#[]⟩) (.slice none 0 0) (.slice none 0 0)
      exact ⟨p1, Or.inl ⟨leafT 2 m ByteArray.empty, suf (suf s 1) 1, _, none, 0, none, 0, by rw [decP_eq, stepD_2 h1 Hnn.out, if_neg (by omega), if_neg (by simp), Hm.out], rfl, p2, p3, p4⟩⟩
    · have HW2 := hid (HW1.out.trans B2)
      clear B2
      go_wp2_with fail
      exact ⟨rfl, HW2.out, Or.inr ⟨by rw [decP_eq, stepD_2 h1 Hnn.out, if_pos (by omega)], rfl⟩⟩
  · have HW1 := hid ((But.of (c := c) HB0.out).trans B1)
    clear B1
    go_wp2_with fail
    exact ⟨rfl, HW1.out, Or.inr ⟨by rw [decP_eq, stepD_0 h1], rfl⟩⟩
set_option maxHeartbeats 4000000 in
set_option maxRecDepth 100000 in
theorem value_4 (d : Nat) (hd : d ≤ 12) (c : Nat) (s : ByteArray) (w : World) (hnum : numB (pre s 1) = 4) (h : Left c s w) (hs : s.size ≤ 140737488355328) : Calls Tryz.prog 108 #[.pointer (some ⟨c, 0, none⟩), .int .i64 ((12 - d : Nat) : Int)] w (ValPost c d s w) := by
  have HB0 : Hid (Below w.heap.size w (w.alloc (.cells #[.int .i64 0, .int .i64 0, .string ⟨#[]⟩, .slice none 0 0, .slice none 0 0] 25))) := (Below.refl _ _).alloc (Nat.le_refl _) _
  have HR0 : Hid (BoxAt w.heap.size (.int .i64 0) (.int .i64 0) (.string ⟨#[]⟩) (.slice none 0 0) (.slice none 0 0) (w.alloc (.cells #[.int .i64 0, .int .i64 0, .string ⟨#[]⟩, .slice none 0 0, .slice none 0 0] 25))) := box_new w _ _ _ _ _
  have hlc := h.lt
  have HN := hid (number_bytes c s 1 _ (h.keep HB0.out) (by omega) hs)
  have Hnn := hid hnum
  clear hnum
  obtain ⟨a0, ha, ha1⟩ : ∃ a : Nat, 12 - d = a ∧ a ≤ 12 := ⟨_, rfl, by omega⟩
  rw [ha]
  have Ha := hid ha
  clear h ha
  go_enter Tryz.func108, Tryz.ntmps108
  go_wp2_with fail
  refine HN.out.mono ?_
  rintro e w1 ⟨B1, ⟨h1, rfl, L1⟩ | ⟨h1, rfl⟩⟩
  · have hn := numB_lt (pre s 1)
    rw [pre_size h1] at hn
    have hsz := suf_size s 1
    have HL1 := hid L1
    have HR1 := hid (HR0.out.move B1.size (B1.block _ HR0.out.lt (by omega)))
    have HW1 := hid ((But.of (c := c) HB0.out).trans B1)
    clear B1 L1 HN HR0 HB0
    have r0 := HR1.out.q0
    have r1 := HR1.out.q1
    have r2 := HR1.out.q2
    have r3 := HR1.out.q3
    have r4 := HR1.out.q4
    have s0 := HR1.out.f0
    have s1 := HR1.out.f1
    have s2 := HR1.out.f2
    have s3 := HR1.out.f3
    have s4 := HR1.out.f4
    rw [Hnn.out]
    have HN2 := hid (text_bytes c (suf s 1) 4 w1 HL1.out (by omega) (by omega))
    go_wp2_with fail
    refine HN2.out.mono ?_
    rintro e w2 ⟨B2, ⟨x, r, hz, rfl, L2⟩ | ⟨hz, rfl⟩⟩
    · have HL2 := hid L2
      have HR2 := hid (HR1.out.move B2.size (B2.block _ HR1.out.lt (by omega)))
      have HW2 := hid (HW1.out.trans B2)
      have hx := szB_size hz
      clear B2 L2 HN2 r0 r1 r2 r3 r4 s0 s1 s2 s3 s4
      have r0 := HR2.out.q0
      have r1 := HR2.out.q1
      have r2 := HR2.out.q2
      have r3 := HR2.out.q3
      have r4 := HR2.out.q4
      have s0 := HR2.out.f0
      have s1 := HR2.out.f1
      have s2 := HR2.out.f2
      have s3 := HR2.out.f3
      have s4 := HR2.out.f4
      go_wp2_with fail
      refine bodyPost_ret (v := five (leafT 4 0 x) none 0 none 0) (by simp [results, Tryz.results108, go_sem, five, leafT, kindOf_mk, nOf_mk, sOf_mk, nL_mk, nK_mk, *]) rfl ?_
      obtain ⟨p1, p2, p3, p4⟩ := put_res HW2.out hlc (flat_leaf w2 d 4 0 x (by omega) (by omega) (by omega) (by omega) (by omega)) (sep_leaf (w.heap.size + 1) w2) (by omega) HL2.out (.int .i64 4) (.int .i64 0) (.string x) (.slice none 0 0) (.slice none 0 0)
      exact ⟨p1, Or.inl ⟨leafT 4 0 x, r, _, none, 0, none, 0, by rw [decP_eq, stepD_4 h1 Hnn.out, hz]; rfl, rfl, p2, p3, p4⟩⟩
    · have HW2 := hid (HW1.out.trans B2)
      clear B2
      go_wp2_with fail
      exact ⟨rfl, HW2.out, Or.inr ⟨by rw [decP_eq, stepD_4 h1 Hnn.out, hz]; rfl, rfl⟩⟩
  · have HW1 := hid ((But.of (c := c) HB0.out).trans B1)
    clear B1
    go_wp2_with fail
    exact ⟨rfl, HW1.out, Or.inr ⟨by rw [decP_eq, stepD_0 h1], rfl⟩⟩
set_option maxHeartbeats 4000000 in
set_option maxRecDepth 100000 in
theorem value_5 (d : Nat) (hd : d ≤ 12) (ih : ∀ d', d = d' + 1 → ValSaid d') (c : Nat) (s : ByteArray) (w : World) (hnum : numB (pre s 1) = 5) (h : Left c s w) (hs : s.size ≤ 140737488355328) : Calls Tryz.prog 108 #[.pointer (some ⟨c, 0, none⟩), .int .i64 ((12 - d : Nat) : Int)] w (ValPost c d s w) := by
  have HB0 : Hid (Below w.heap.size w (w.alloc (.cells #[.int .i64 0, .int .i64 0, .string ⟨#[]⟩, .slice none 0 0, .slice none 0 0] 25))) := (Below.refl _ _).alloc (Nat.le_refl _) _
  have HR0 : Hid (BoxAt w.heap.size (.int .i64 0) (.int .i64 0) (.string ⟨#[]⟩) (.slice none 0 0) (.slice none 0 0) (w.alloc (.cells #[.int .i64 0, .int .i64 0, .string ⟨#[]⟩, .slice none 0 0, .slice none 0 0] 25))) := box_new w _ _ _ _ _
  have hlc := h.lt
  have HN := hid (number_bytes c s 1 _ (h.keep HB0.out) (by omega) hs)
  have Hnn := hid hnum
  have HI := hid ih
  clear hnum ih
  obtain ⟨a0, ha, ha1⟩ : ∃ a : Nat, 12 - d = a ∧ a ≤ 12 := ⟨_, rfl, by omega⟩
  rw [ha]
  have Ha := hid ha
  clear h ha
  go_enter Tryz.func108, Tryz.ntmps108
  go_wp2_with fail
  refine HN.out.mono ?_
  rintro e w1 ⟨B1, ⟨h1, rfl, L1⟩ | ⟨h1, rfl⟩⟩
  · have hn := numB_lt (pre s 1)
    rw [pre_size h1] at hn
    have hsz := suf_size s 1
    have HL1 := hid L1
    have HR1 := hid (HR0.out.move B1.size (B1.block _ HR0.out.lt (by omega)))
    have HW1 := hid ((But.of (c := c) HB0.out).trans B1)
    clear B1 L1 HN HR0 HB0
    have r0 := HR1.out.q0
    have r1 := HR1.out.q1
    have r2 := HR1.out.q2
    have r3 := HR1.out.q3
    have r4 := HR1.out.q4
    have s0 := HR1.out.f0
    have s1 := HR1.out.f1
    have s2 := HR1.out.f2
    have s3 := HR1.out.f3
    have s4 := HR1.out.f4
    rw [Hnn.out]
    cases d with
    | zero =>
      have ea : a0 = 12 := by have := Ha.out; omega
      subst ea
      have HZ := hid (stepD_none s h1 (by rw [Hnn.out]; omega))
      go_wp2_with fail
      refine (entries_deep c 5 w1).mono ?_
      rintro e w2 ⟨rfl, hb2⟩
      have HW2 := hid (HW1.out.trans (But.of hb2))
      clear hb2
      go_wp2_with fail
      exact ⟨rfl, HW2.out, Or.inr ⟨HZ.out, rfl⟩⟩
    | succ d =>
      have ea : (a0 : Int) + 1 = ((12 - d : Nat) : Int) := by have := Ha.out; omega
      have HE5 : Hid (Calls Tryz.prog 147 #[.pointer (some ⟨c, 0, none⟩), .int .i64 5, .int .i64 ((a0 : Int) + 1)] w1 (EntPost c d 5 (suf s 1) w1)) := by
        show Calls _ _ _ _ _
        rw [ea]
        exact entries_any d (by omega) (HI.out d rfl) c 5 (by omega) (suf s 1) w1 HL1.out (by omega)
      have HZ : Hid (decP (d + 1) s = entO d 5 (suf s 1)) := stepD_ent d 5 h1 (by omega) (by rw [Hnn.out]; rfl)
      clear ea
      go_wp2_with fail
      refine HE5.out.mono ?_
      rintro e w2 ⟨B2, ⟨t, r, es, A, B, C, D, hz, rfl, hF, hS, L2⟩ | ⟨hz, rfl⟩⟩
      · have HL2 := hid L2
        have HR2 := hid (HR1.out.move B2.size (B2.block _ HR1.out.lt (by omega)))
        have HW2 := hid (HW1.out.trans B2)
        have HF := hid hF
        have HS := hid hS
        have Hz := hid (HZ.out.trans hz)
        clear B2 L2 HE5 HZ hF hS hz r0 r1 r2 r3 r4 s0 s1 s2 s3 s4
        have r0 := HR2.out.q0
        have r1 := HR2.out.q1
        have r2 := HR2.out.q2
        have r3 := HR2.out.q3
        have r4 := HR2.out.q4
        have s0 := HR2.out.f0
        have s1 := HR2.out.f1
        have s2 := HR2.out.f2
        have s3 := HR2.out.f3
        have s4 := HR2.out.f4
        have hl1 := HR1.out.lt
        unfold five
        go_wp2_with fail
        refine bodyPost_ret (v := five t A B C D) (by simp [results, Tryz.results108, go_sem, five, *]) rfl ?_
        obtain ⟨p1, p2, p3, p4⟩ := put_res HW2.out hlc HF.out HS.out hl1 HL2.out (.int .i64 (kindOf t)) (.int .i64 (nOf t)) (.string (sOf t)) (.slice A (nL t) B) (.slice C (nK t) D)
        exact ⟨p1, Or.inl ⟨t, r, es, A, B, C, D, Hz.out, rfl, p2, p3, p4⟩⟩
      · have HW2 := hid (HW1.out.trans B2)
        clear B2
        go_wp2_with fail
        exact ⟨rfl, HW2.out, Or.inr ⟨HZ.out.trans hz, rfl⟩⟩
  · have HW1 := hid ((But.of (c := c) HB0.out).trans B1)
    clear B1
    go_wp2_with fail
    exact ⟨rfl, HW1.out, Or.inr ⟨by rw [decP_eq, stepD_0 h1], rfl⟩⟩
set_option maxHeartbeats 4000000 in
set_option maxRecDepth 100000 in
theorem value_6 (d : Nat) (hd : d ≤ 12) (ih : ∀ d', d = d' + 1 → ValSaid d') (c : Nat) (s : ByteArray) (w : World) (hnum : numB (pre s 1) = 6) (h : Left c s w) (hs : s.size ≤ 140737488355328) : Calls Tryz.prog 108 #[.pointer (some ⟨c, 0, none⟩), .int .i64 ((12 - d : Nat) : Int)] w (ValPost c d s w) := by
  have HB0 : Hid (Below w.heap.size w (w.alloc (.cells #[.int .i64 0, .int .i64 0, .string ⟨#[]⟩, .slice none 0 0, .slice none 0 0] 25))) := (Below.refl _ _).alloc (Nat.le_refl _) _
  have HR0 : Hid (BoxAt w.heap.size (.int .i64 0) (.int .i64 0) (.string ⟨#[]⟩) (.slice none 0 0) (.slice none 0 0) (w.alloc (.cells #[.int .i64 0, .int .i64 0, .string ⟨#[]⟩, .slice none 0 0, .slice none 0 0] 25))) := box_new w _ _ _ _ _
  have hlc := h.lt
  have HN := hid (number_bytes c s 1 _ (h.keep HB0.out) (by omega) hs)
  have Hnn := hid hnum
  have HI := hid ih
  clear hnum ih
  obtain ⟨a0, ha, ha1⟩ : ∃ a : Nat, 12 - d = a ∧ a ≤ 12 := ⟨_, rfl, by omega⟩
  rw [ha]
  have Ha := hid ha
  clear h ha
  go_enter Tryz.func108, Tryz.ntmps108
  go_wp2_with fail
  refine HN.out.mono ?_
  rintro e w1 ⟨B1, ⟨h1, rfl, L1⟩ | ⟨h1, rfl⟩⟩
  · have hn := numB_lt (pre s 1)
    rw [pre_size h1] at hn
    have hsz := suf_size s 1
    have HL1 := hid L1
    have HR1 := hid (HR0.out.move B1.size (B1.block _ HR0.out.lt (by omega)))
    have HW1 := hid ((But.of (c := c) HB0.out).trans B1)
    clear B1 L1 HN HR0 HB0
    have r0 := HR1.out.q0
    have r1 := HR1.out.q1
    have r2 := HR1.out.q2
    have r3 := HR1.out.q3
    have r4 := HR1.out.q4
    have s0 := HR1.out.f0
    have s1 := HR1.out.f1
    have s2 := HR1.out.f2
    have s3 := HR1.out.f3
    have s4 := HR1.out.f4
    rw [Hnn.out]
    cases d with
    | zero =>
      have ea : a0 = 12 := by have := Ha.out; omega
      subst ea
      have HZ := hid (stepD_none s h1 (by rw [Hnn.out]; omega))
      go_wp2_with fail
      refine (entries_deep c 6 w1).mono ?_
      rintro e w2 ⟨rfl, hb2⟩
      have HW2 := hid (HW1.out.trans (But.of hb2))
      clear hb2
      go_wp2_with fail
      exact ⟨rfl, HW2.out, Or.inr ⟨HZ.out, rfl⟩⟩
    | succ d =>
      have ea : (a0 : Int) + 1 = ((12 - d : Nat) : Int) := by have := Ha.out; omega
      have HE6 : Hid (Calls Tryz.prog 147 #[.pointer (some ⟨c, 0, none⟩), .int .i64 6, .int .i64 ((a0 : Int) + 1)] w1 (EntPost c d 6 (suf s 1) w1)) := by
        show Calls _ _ _ _ _
        rw [ea]
        exact entries_any d (by omega) (HI.out d rfl) c 6 (by omega) (suf s 1) w1 HL1.out (by omega)
      have HZ : Hid (decP (d + 1) s = entO d 6 (suf s 1)) := stepD_ent d 6 h1 (by omega) (by rw [Hnn.out]; rfl)
      clear ea
      go_wp2_with fail
      refine HE6.out.mono ?_
      rintro e w2 ⟨B2, ⟨t, r, es, A, B, C, D, hz, rfl, hF, hS, L2⟩ | ⟨hz, rfl⟩⟩
      · have HL2 := hid L2
        have HR2 := hid (HR1.out.move B2.size (B2.block _ HR1.out.lt (by omega)))
        have HW2 := hid (HW1.out.trans B2)
        have HF := hid hF
        have HS := hid hS
        have Hz := hid (HZ.out.trans hz)
        clear B2 L2 HE6 HZ hF hS hz r0 r1 r2 r3 r4 s0 s1 s2 s3 s4
        have r0 := HR2.out.q0
        have r1 := HR2.out.q1
        have r2 := HR2.out.q2
        have r3 := HR2.out.q3
        have r4 := HR2.out.q4
        have s0 := HR2.out.f0
        have s1 := HR2.out.f1
        have s2 := HR2.out.f2
        have s3 := HR2.out.f3
        have s4 := HR2.out.f4
        have hl1 := HR1.out.lt
        unfold five
        go_wp2_with fail
        refine bodyPost_ret (v := five t A B C D) (by simp [results, Tryz.results108, go_sem, five, *]) rfl ?_
        obtain ⟨p1, p2, p3, p4⟩ := put_res HW2.out hlc HF.out HS.out hl1 HL2.out (.int .i64 (kindOf t)) (.int .i64 (nOf t)) (.string (sOf t)) (.slice A (nL t) B) (.slice C (nK t) D)
        exact ⟨p1, Or.inl ⟨t, r, es, A, B, C, D, Hz.out, rfl, p2, p3, p4⟩⟩
      · have HW2 := hid (HW1.out.trans B2)
        clear B2
        go_wp2_with fail
        exact ⟨rfl, HW2.out, Or.inr ⟨HZ.out.trans hz, rfl⟩⟩
  · have HW1 := hid ((But.of (c := c) HB0.out).trans B1)
    clear B1
    go_wp2_with fail
    exact ⟨rfl, HW1.out, Or.inr ⟨by rw [decP_eq, stepD_0 h1], rfl⟩⟩
set_option maxHeartbeats 4000000 in
set_option maxRecDepth 100000 in
theorem value_7 (d : Nat) (hd : d ≤ 12) (c : Nat) (s : ByteArray) (w : World) (hnum : ¬ (1 ≤ numB (pre s 1) ∧ numB (pre s 1) ≤ 6)) (h : Left c s w) (hs : s.size ≤ 140737488355328) : Calls Tryz.prog 108 #[.pointer (some ⟨c, 0, none⟩), .int .i64 ((12 - d : Nat) : Int)] w (ValPost c d s w) := by
  have HB0 : Hid (Below w.heap.size w (w.alloc (.cells #[.int .i64 0, .int .i64 0, .string ⟨#[]⟩, .slice none 0 0, .slice none 0 0] 25))) := (Below.refl _ _).alloc (Nat.le_refl _) _
  have HR0 : Hid (BoxAt w.heap.size (.int .i64 0) (.int .i64 0) (.string ⟨#[]⟩) (.slice none 0 0) (.slice none 0 0) (w.alloc (.cells #[.int .i64 0, .int .i64 0, .string ⟨#[]⟩, .slice none 0 0, .slice none 0 0] 25))) := box_new w _ _ _ _ _
  have hlc := h.lt
  have HN := hid (number_bytes c s 1 _ (h.keep HB0.out) (by omega) hs)
  have Hnum := hid hnum
  clear hnum
  obtain ⟨a0, ha, ha1⟩ : ∃ a : Nat, 12 - d = a ∧ a ≤ 12 := ⟨_, rfl, by omega⟩
  rw [ha]
  have Ha := hid ha
  clear h ha
  go_enter Tryz.func108, Tryz.ntmps108
  go_wp2_with fail
  refine HN.out.mono ?_
  rintro e w1 ⟨B1, ⟨h1, rfl, L1⟩ | ⟨h1, rfl⟩⟩
  · have hn := numB_lt (pre s 1)
    rw [pre_size h1] at hn
    have hsz := suf_size s 1
    have HL1 := hid L1
    have HR1 := hid (HR0.out.move B1.size (B1.block _ HR0.out.lt (by omega)))
    have HW1 := hid ((But.of (c := c) HB0.out).trans B1)
    clear B1 L1 HN HR0 HB0
    have r0 := HR1.out.q0
    have r1 := HR1.out.q1
    have r2 := HR1.out.q2
    have r3 := HR1.out.q3
    have r4 := HR1.out.q4
    have s0 := HR1.out.f0
    have s1 := HR1.out.f1
    have s2 := HR1.out.f2
    have s3 := HR1.out.f3
    have s4 := HR1.out.f4
    obtain ⟨n, hnn⟩ : ∃ n, numB (pre s 1) = n := ⟨_, rfl⟩
    rw [hnn] at hn ⊢
    have Hnn := hid hnn
    have hno : ¬ (1 ≤ n ∧ n ≤ 6) := by have := Hnum.out; rw [hnn] at this; exact this
    clear hnn
    have g1 : ¬ ((n : Int) = 1) := by omega
    have g2 : ¬ ((n : Int) = 2) := by omega
    have g3 : ¬ ((n : Int) = 3) := by omega
    have g4 : ¬ ((n : Int) = 4) := by omega
    have g5 : ¬ ((n : Int) = 5) := by omega
    have g6 : ¬ ((n : Int) = 6) := by omega
    go_wp2_with fail
    exact ⟨rfl, HW1.out, Or.inr ⟨by rw [decP_eq, stepD_7 h1 (by rw [Hnn.out]; omega) (by rw [Hnn.out]; omega) (by rw [Hnn.out]; omega) (by rw [Hnn.out]; omega) (by rw [Hnn.out]; omega) (by rw [Hnn.out]; omega)], rfl⟩⟩
  · have HW1 := hid ((But.of (c := c) HB0.out).trans B1)
    clear B1
    go_wp2_with fail
    exact ⟨rfl, HW1.out, Or.inr ⟨by rw [decP_eq, stepD_0 h1], rfl⟩⟩
end Go.Proofs.YtknakfpciccoaaaGreatDoor
/- The walk of the program's reader: value, of numbers; and all. -/
namespace Go.Proofs.YtknakfpciccoaaaGreatDoor
open Go.RowKit

theorem fin_leaf {c d : Nat} {s r : ByteArray} {w wr : World} (k n : Int) (x : ByteArray) (hk0 : 0 ≤ k) (hk1 : k ≤ 100) (hn : -9223372036854775808 ≤ n ∧ n ≤ 9223372036854775807) (hx : x.size ≤ 140737488355328) (hd : decP d s = some (leafT k n x, r)) (hB : But c w wr) (hc : c < w.heap.size) (hL : Left c r wr) :
    ValPost c d s w (.returned (.agg #[.int .i64 k, .int .i64 n, .string x, .slice none 0 0, .slice none 0 0])) (((((wr.setCell ⟨w.heap.size, 0, none⟩ (.int .i64 k)).setCell ⟨w.heap.size, 1, none⟩ (.int .i64 n)).setCell ⟨w.heap.size, 2, none⟩ (.string x)).setCell ⟨w.heap.size, 3, none⟩ (.slice none 0 0)).setCell ⟨w.heap.size, 4, none⟩ (.slice none 0 0)) := by
  obtain ⟨p1, p2, p3, p4⟩ := put_res hB hc (flat_leaf wr d k n x hk0 hk1 hn.1 hn.2 hx) (sep_leaf (w.heap.size + 1) wr) (by omega) hL (.int .i64 k) (.int .i64 n) (.string x) (.slice none 0 0) (.slice none 0 0)
  exact ⟨p1, Or.inl ⟨leafT k n x, r, _, none, 0, none, 0, hd, rfl, p2, p3, p4⟩⟩
set_option maxHeartbeats 4000000 in
set_option maxRecDepth 100000 in
theorem value_3 (d : Nat) (hd : d ≤ 12) (c : Nat) (s : ByteArray) (w : World) (hnum : numB (pre s 1) = 3) (h : Left c s w) (hs : s.size ≤ 140737488355328) : Calls Tryz.prog 108 #[.pointer (some ⟨c, 0, none⟩), .int .i64 ((12 - d : Nat) : Int)] w (ValPost c d s w) := by
  have HB0 : Hid (Below w.heap.size w (w.alloc (.cells #[.int .i64 0, .int .i64 0, .string ⟨#[]⟩, .slice none 0 0, .slice none 0 0] 25))) := (Below.refl _ _).alloc (Nat.le_refl _) _
  have HR0 : Hid (BoxAt w.heap.size (.int .i64 0) (.int .i64 0) (.string ⟨#[]⟩) (.slice none 0 0) (.slice none 0 0) (w.alloc (.cells #[.int .i64 0, .int .i64 0, .string ⟨#[]⟩, .slice none 0 0, .slice none 0 0] 25))) := box_new w _ _ _ _ _
  have hlc := h.lt
  have HN := hid (number_bytes c s 1 _ (h.keep HB0.out) (by omega) hs)
  have Hnn := hid hnum
  clear hnum
  obtain ⟨a0, ha, ha1⟩ : ∃ a : Nat, 12 - d = a ∧ a ≤ 12 := ⟨_, rfl, by omega⟩
  rw [ha]
  have Ha := hid ha
  clear h ha
  go_enter Tryz.func108, Tryz.ntmps108
  go_wp2_with fail
  refine HN.out.mono ?_
  rintro e w1 ⟨B1, ⟨h1, rfl, L1⟩ | ⟨h1, rfl⟩⟩
  · have hn := numB_lt (pre s 1)
    rw [pre_size h1] at hn
    have hsz := suf_size s 1
    have HL1 := hid L1
    have HR1 := hid (HR0.out.move B1.size (B1.block _ HR0.out.lt (by omega)))
    have HW1 := hid ((But.of (c := c) HB0.out).trans B1)
    clear B1 L1 HN HR0 HB0
    have r0 := HR1.out.q0
    have r1 := HR1.out.q1
    have r2 := HR1.out.q2
    have r3 := HR1.out.q3
    have r4 := HR1.out.q4
    have s0 := HR1.out.f0
    have s1 := HR1.out.f1
    have s2 := HR1.out.f2
    have s3 := HR1.out.f3
    have s4 := HR1.out.f4
    rw [Hnn.out]
    have HN2 := hid (number_bytes c (suf s 1) 8 w1 HL1.out (by omega) (by omega))
    go_wp2_with fail
    refine HN2.out.mono ?_
    rintro e w2 ⟨B2, ⟨h2, rfl, L2⟩ | ⟨h2, rfl⟩⟩
    · have HL2 := hid L2
      have HR2 := hid (HR1.out.move B2.size (B2.block _ HR1.out.lt (by omega)))
      have HW2 := hid (HW1.out.trans B2)
      have hn2 := numB_pre_lt h2 (by omega)
      clear B2 L2 HN2 r0 r1 r2 r3 r4 s0 s1 s2 s3 s4
      have r0 := HR2.out.q0
      have r1 := HR2.out.q1
      have r2 := HR2.out.q2
      have r3 := HR2.out.q3
      have r4 := HR2.out.q4
      have s0 := HR2.out.f0
      have s1 := HR2.out.f1
      have s2 := HR2.out.f2
      have s3 := HR2.out.f3
      have s4 := HR2.out.f4
      generalize hm : numB (pre (suf s 1) 8) = m at hn2 ⊢
      have Hm := hid hm
      clear hm
      go_wp2_with fail
      refine bodyPost_ret (v := .agg #[.int .i64 3, .int .i64 (wrap64 m), .string ⟨#[]⟩, .slice none 0 0, .slice none 0 0]) (by simp [results, Tryz.results108, go_sem, *]) rfl ?_
      refine fin_leaf 3 (wrap64 m) ⟨#[]⟩ (by decide) (by decide) (wrap64_b2 _) (by show (0 : Nat) ≤ _; omega) ?_ HW2.out hlc HL2.out
      rw [decP_eq, stepD_3 h1 Hnn.out, if_neg (by omega), Hm.out, wrap64_e]
      rfl
    · have HW2 := hid (HW1.out.trans B2)
      clear B2
      go_wp2_with fail
      exact ⟨rfl, HW2.out, Or.inr ⟨by rw [decP_eq, stepD_3 h1 Hnn.out, if_pos (by omega)], rfl⟩⟩
  · have HW1 := hid ((But.of (c := c) HB0.out).trans B1)
    clear B1
    go_wp2_with fail
    exact ⟨rfl, HW1.out, Or.inr ⟨by rw [decP_eq, stepD_0 h1], rfl⟩⟩
theorem value_step (d : Nat) (hd : d ≤ 12) (ih : ∀ d', d = d' + 1 → ValSaid d') : ValSaid d := by
  intro c s w h hs
  by_cases n1 : numB (pre s 1) = 1
  · exact value_1 d hd c s w n1 h hs
  · by_cases n2 : numB (pre s 1) = 2
    · exact value_2 d hd c s w n2 h hs
    · by_cases n3 : numB (pre s 1) = 3
      · exact value_3 d hd c s w n3 h hs
      · by_cases n4 : numB (pre s 1) = 4
        · exact value_4 d hd c s w n4 h hs
        · by_cases n5 : numB (pre s 1) = 5
          · exact value_5 d hd ih c s w n5 h hs
          · by_cases n6 : numB (pre s 1) = 6
            · exact value_6 d hd ih c s w n6 h hs
            · exact value_7 d hd c s w (by omega) h hs
theorem value_any : ∀ (d : Nat), d ≤ 12 → ValSaid d
  | 0, h => value_step 0 h (fun d' e => by omega)
  | d + 1, h => value_step (d + 1) h (fun d' e => (Nat.succ.inj e) ▸ value_any d (by omega))
end Go.Proofs.YtknakfpciccoaaaGreatDoor
