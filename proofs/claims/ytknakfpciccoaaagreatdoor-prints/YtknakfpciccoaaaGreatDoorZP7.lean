import Derived.Test.YtknakfpciccoaaaGreatDoorZP6
import Derived.Shelf.LaysM
import Derived.Shelf.Strings.BuilderK
import Derived.Shelf.Strconv.Itoa4
import Derived.Test.YtknakfpciccoaaaGreatDoorProg
import Derived.Test.YtknakfpciccoaaaGreatDoorZP2
/- The walks of the program's parser: escapes, letters, texts. -/
namespace Go.Proofs.YtknakfpciccoaaaGreatDoor
open Go.RowKit

set_option maxHeartbeats 2000000 in
set_option maxRecDepth 100000 in
theorem escape_any (c : Nat) (s : ByteArray) (i : Nat) (w : World) (h : PL c s i w) (hs : s.size ≤ 4000) (hi : i ≤ s.size) :
    Calls Tryz.prog 251 #[.pointer (some ⟨c, 0, none⟩)] w (RunePost c s (escR s i) w) := by
  have HN := hid (next_any c s i w h hs hi)
  clear h
  go_enter Tryz.func251, Tryz.ntmps251
  go_wp2_with fail
  refine HN.out.mono ?_
  rintro e w1 ⟨hB1, ⟨hlt, rfl, hL1⟩ | ⟨he, rfl⟩⟩
  · have HB1 := hid hB1
    have HL1 := hid hL1
    have HE : Hid (escR s i = if cB s i = 34 ∨ cB s i = 92 ∨ cB s i = 47 then some (cB s i, i + 1) else if cB s i = 98 then some (8, i + 1) else if cB s i = 102 then some (12, i + 1) else if cB s i = 110 then some (10, i + 1) else if cB s i = 114 then some (13, i + 1) else if cB s i = 116 then some (9, i + 1) else if cB s i = 117 then (hex4 s (i + 1)).bind fun a => low s (i + 5) a else none) := by show _ = _; rfl
    have hx := cB_lt hlt
    clear hB1 hL1 HN
    generalize cB s i = x at HE hx ⊢
    by_cases h34 : x = 34
    · subst h34
      have HZ : Hid (escR s i = some (34, i + 1)) := by show _ = _; rw [HE.out]; rfl
      go_wp2_with fail
      go_ret
      exact ⟨HB1.out, Or.inl ⟨_, _, HZ.out, rfl, HL1.out⟩⟩
    have d34 : ((x : Int) == 34) = false := by rw [beq_eq_false_iff_ne]; omega
    by_cases h92 : x = 92
    · subst h92
      have HZ : Hid (escR s i = some (92, i + 1)) := by show _ = _; rw [HE.out]; rfl
      go_wp2_with fail
      go_ret
      exact ⟨HB1.out, Or.inl ⟨_, _, HZ.out, rfl, HL1.out⟩⟩
    have d92 : ((x : Int) == 92) = false := by rw [beq_eq_false_iff_ne]; omega
    by_cases h47 : x = 47
    · subst h47
      have HZ : Hid (escR s i = some (47, i + 1)) := by show _ = _; rw [HE.out]; rfl
      go_wp2_with fail
      go_ret
      exact ⟨HB1.out, Or.inl ⟨_, _, HZ.out, rfl, HL1.out⟩⟩
    have d47 : ((x : Int) == 47) = false := by rw [beq_eq_false_iff_ne]; omega
    by_cases h98 : x = 98
    · subst h98
      have HZ : Hid (escR s i = some (8, i + 1)) := by show _ = _; rw [HE.out]; rfl
      go_wp2_with fail
      go_ret
      exact ⟨HB1.out, Or.inl ⟨_, _, HZ.out, rfl, HL1.out⟩⟩
    by_cases h102 : x = 102
    · subst h102
      have HZ : Hid (escR s i = some (12, i + 1)) := by show _ = _; rw [HE.out]; rfl
      go_wp2_with fail
      go_ret
      exact ⟨HB1.out, Or.inl ⟨_, _, HZ.out, rfl, HL1.out⟩⟩
    by_cases h110 : x = 110
    · subst h110
      have HZ : Hid (escR s i = some (10, i + 1)) := by show _ = _; rw [HE.out]; rfl
      go_wp2_with fail
      go_ret
      exact ⟨HB1.out, Or.inl ⟨_, _, HZ.out, rfl, HL1.out⟩⟩
    by_cases h114 : x = 114
    · subst h114
      have HZ : Hid (escR s i = some (13, i + 1)) := by show _ = _; rw [HE.out]; rfl
      go_wp2_with fail
      go_ret
      exact ⟨HB1.out, Or.inl ⟨_, _, HZ.out, rfl, HL1.out⟩⟩
    by_cases h116 : x = 116
    · subst h116
      have HZ : Hid (escR s i = some (9, i + 1)) := by show _ = _; rw [HE.out]; rfl
      go_wp2_with fail
      go_ret
      exact ⟨HB1.out, Or.inl ⟨_, _, HZ.out, rfl, HL1.out⟩⟩
    by_cases h117 : x = 117
    · subst h117
      have HZ : Hid (escR s i = (hex4 s (i + 1)).bind fun a => low s (i + 1 + 4) a) := by show _ = _; rw [HE.out]; rfl
      go_wp2_with fail
      refine (code_any c s (i + 1) w1 HL1.out hs (by omega)).mono ?_
      rintro e w2 ⟨hB2, ⟨r, j, hr, rfl, hL2⟩ | ⟨hr, rfl⟩⟩
      · have HB2 := hid (HB1.out.trans hB2)
        have HL2 := hid hL2
        have HR := hid hr
        clear hB2 hL2 hr
        go_wp2_with fail
        go_ret
        exact ⟨HB2.out, Or.inl ⟨_, _, HZ.out.trans HR.out, rfl, HL2.out⟩⟩
      · have HB2 := hid (HB1.out.trans hB2)
        have HR := hid hr
        clear hB2 hr
        go_wp2_with fail
        exact ⟨rfl, HB2.out, Or.inr ⟨HZ.out.trans HR.out, rfl⟩⟩
    have HZ : Hid (escR s i = none) := by show _ = _; rw [HE.out, if_neg (by omega), if_neg h98, if_neg h102, if_neg h110, if_neg h114, if_neg h116, if_neg h117]
    go_wp2_with fail
    exact ⟨rfl, HB1.out, Or.inr ⟨HZ.out, rfl⟩⟩
  · have HB1 := hid hB1
    have HZ : Hid (escR s i = none) := by
      show _ = _
      have : cB s i = 256 := cB_end (by omega)
      unfold escR
      rw [this]
      rfl
    clear hB1 HN he
    go_wp2_with fail
    exact ⟨rfl, HB1.out, Or.inr ⟨HZ.out, rfl⟩⟩

/-- What Go's decoder and its reader of numbers answer, in worlds whose tables are as they were laid. -/
def DecSaid (Tb : World → Prop) : Prop := ∀ (s : ByteArray) (w : World), Tb w → Calls Tryz.prog 252 #[.string s] w fun e w' => e = .returned (.tuple #[.int .i32 ((decG s).1 : Int), .int .i64 ((decG s).2 : Int)]) ∧ Below w.heap.size w w'
def IntSaid (Tb : World → Prop) : Prop := ∀ (s : ByteArray) (w : World), s.size ≤ 4000 → Tb w → Calls Tryz.prog 226 #[.string s, .int .i64 10, .int .i64 64] w fun e w' => Below w.heap.size w w' ∧
  ((∃ v : Int, Lib.parseIntB 64 s.data.toList = .ok v ∧ e = .returned (.tuple #[.int .i64 v, .nilIface])) ∨ ((Lib.parseIntB 64 s.data.toList = .«syntax» ∨ Lib.parseIntB 64 s.data.toList = .range) ∧ ∃ (v : Int) (t : TypeId) (p : Value), e = .returned (.tuple #[.int .i64 v, .iface t p])))
theorem But.stays {Tb : World → Prop} {c : Nat} (hS : Stays Tb c) {w w' : World} (hT : Tb w) (hB : But c w w') (hc : c ≤ w.heap.size) : Tb w' := hS w w' hT (hB.below hc)
set_option maxHeartbeats 2000000 in
set_option maxRecDepth 100000 in
theorem letter_any {Tb : World → Prop} (hD : DecSaid Tb) (c : Nat) (hS : Stays Tb c) (s : ByteArray) (i : Nat) (w : World) (h : PL c s i w) (hT : Tb w) (hs : s.size ≤ 4000) (hi : i ≤ s.size) :
    Calls Tryz.prog 223 #[.pointer (some ⟨c, 0, none⟩)] w (RunePost c s (letS s i) w) := by
  have HL := hid h
  have HT := hid hT
  have HS := hid hS
  have HD := hid hD
  clear h hT hS hD
  by_cases h92 : cB s i = 92
  · have hlt : i < s.size := cB_in (by omega)
    have HA := hid (accept_yes c s i 92 w HL.out hs (by omega) (by omega))
    have HX : Hid (letS s i = escR s (i + 1)) := by show _ = _; unfold letS; rw [if_pos h92]
    clear h92
    go_enter Tryz.func223, Tryz.ntmps223
    go_wp2_with fail
    refine HA.out.mono ?_
    rintro e w1 ⟨rfl, hB1, hL1⟩
    have HB1 := hid hB1
    have HL1 := hid hL1
    clear hB1 hL1 HA
    go_wp2_with fail
    refine (escape_any c s (i + 1) w1 HL1.out hs (by omega)).mono ?_
    rintro e w2 ⟨hB2, ⟨r, j, hr, rfl, hL2⟩ | ⟨hr, rfl⟩⟩
    · have HB2 := hid (HB1.out.trans hB2)
      have HL2 := hid hL2
      have HR := hid (HX.out.trans hr)
      clear hB2 hL2 hr
      go_wp2_with fail
      go_ret
      exact ⟨HB2.out, Or.inl ⟨_, _, HR.out, rfl, HL2.out⟩⟩
    · have HB2 := hid (HB1.out.trans hB2)
      have HR := hid (HX.out.trans hr)
      clear hB2 hr
      go_wp2_with fail
      exact ⟨rfl, HB2.out, Or.inr ⟨HR.out, rfl⟩⟩
  · have HA := hid (accept_no c s i 92 w HL.out hi (by omega))
    have HX : Hid (letS s i = if (decG (suf s i)).1 < 32 ∨ ((decG (suf s i)).1 = 65533 ∧ (decG (suf s i)).2 ≤ 1) then none else some ((decG (suf s i)).1, i + (decG (suf s i)).2)) := by show _ = _; unfold letS; rw [if_neg h92]
    have hdr : (decG (suf s i)).2 ≤ 4000 ∧ (decG (suf s i)).1 ≤ 1114111 := by
      have hz := suf_size s i
      by_cases h0 : (suf s i).size = 0
      · rw [decG_nil h0]; omega
      · have := decode_range (suf s i) (by omega)
        rw [decG_eq (by omega)]
        omega
    clear h92
    go_enter Tryz.func223, Tryz.ntmps223
    go_wp2_with fail
    refine HA.out.mono ?_
    rintro e w1 ⟨rfl, hB1, hL1⟩
    have HB1 := hid hB1
    have HL1 := hid hL1
    have HT1 := hid (But.stays HS.out HT.out hB1 (Nat.le_of_lt HL.out.lt))
    have HT1d := hid (HS.out _ _ HT1.out (below_drew w1 |>.mono (Nat.le_of_lt HL1.out.lt)))
    have HL1d := hid (HL1.out.keep (below_drew w1))
    have q0 := HL1.out.q0
    have q1 := HL1.out.q1
    have x1 : (i : Int) ≤ (s.size : Int) := by omega
    clear hB1 hL1 HA
    have HDD : Hid (Calls Tryz.prog 252 #[.string (s.extract i s.size)] w1.drew fun e w' => e = .returned (.tuple #[.int .i32 ((decG (suf s i)).1 : Int), .int .i64 ((decG (suf s i)).2 : Int)]) ∧ Below w1.drew.heap.size w1.drew w') := HD.out _ _ HT1d.out
    have HSS : Hid (∀ wx : World, Below w1.drew.heap.size w1.drew wx → wx.cell? ⟨c, 0, none⟩ = some (.string s) ∧ wx.cell? ⟨c, 1, none⟩ = some (.int .i64 i)) := by
      intro wx hx
      have := HL1d.out.keep hx
      exact ⟨this.q0, this.q1⟩
    generalize (decG (suf s i)).1 = r at HX hdr HDD
    generalize (decG (suf s i)).2 = n at HX hdr HDD
    obtain ⟨hd1, hd2⟩ := hdr
    go_wp2_with fail
    go_region_held (fun wx => wx.cell? ⟨c, 0, none⟩ = some (.string s) ∧ wx.cell? ⟨c, 1, none⟩ = some (.int .i64 i)) (go_keep) ((go_at_call 252; refine HDD.out.mono ?_; rintro e w2 ⟨rfl, hb2⟩; have hc2 := HSS.out _ hb2))
    have HL2 := hid (HL1d.out.keep hb2)
    have HB2 := hid (HB1.out.trans ((But.of (below_drew w1)).trans (But.of hb2)))
    have r1 := HL2.out.q1
    have r2 := HL2.out.f1
    clear hb2 hc2 q0 q1 HDD HSS HL1d HT1d
    by_cases h1 : r < 32
    · have HZ : Hid (letS s i = none) := by show _ = _; rw [HX.out, if_pos (Or.inl h1)]
      have y1 : decide ((r : Int) < 32) = true := decide_eq_true (by omega)
      clear h1
      go_wp2_with fail
      exact ⟨rfl, HB2.out, Or.inr ⟨HZ.out, rfl⟩⟩
    · have y1 : decide ((r : Int) < 32) = false := decide_eq_false (by omega)
      by_cases h2 : r = 65533
      · have y2 : ((r : Int) == 65533) = true := by rw [beq_iff_eq]; omega
        by_cases h3 : n ≤ 1
        · have HZ : Hid (letS s i = none) := by show _ = _; rw [HX.out, if_pos (Or.inr ⟨h2, h3⟩)]
          have y3 : decide ((n : Int) ≤ 1) = true := decide_eq_true (by omega)
          clear h1 h2 h3
          go_wp2_with fail
          exact ⟨rfl, HB2.out, Or.inr ⟨HZ.out, rfl⟩⟩
        · have HZ : Hid (letS s i = some (r, i + n)) := by show _ = _; rw [HX.out, if_neg (by omega)]
          have y3 : decide ((n : Int) ≤ 1) = false := decide_eq_false (by omega)
          clear h1 h2 h3
          go_wp2_with fail
          go_ret
          exact ⟨HB2.out.trans (But.set w2 c 1 _), Or.inl ⟨_, _, HZ.out, rfl, HL2.out.set (i + n)⟩⟩
      · have HZ : Hid (letS s i = some (r, i + n)) := by show _ = _; rw [HX.out, if_neg (by omega)]
        have y2 : ((r : Int) == 65533) = false := by rw [beq_eq_false_iff_ne]; omega
        clear h1 h2
        go_wp2_with fail
        go_ret
        exact ⟨HB2.out.trans (But.set w2 c 1 _), Or.inl ⟨_, _, HZ.out, rfl, HL2.out.set (i + n)⟩⟩
end Go.Proofs.YtknakfpciccoaaaGreatDoor
/- The walks of the program's parser: texts, numbers, words. -/
namespace Go.Proofs.YtknakfpciccoaaaGreatDoor
open Go.RowKit

theorem rowF_move {w w' : World} {lo : Nat} {e : TypeId} {size n : Nat} {v : Value} {xs : List Value} (h : w.ownsRowF lo e size v n xs) (hb : ∀ b, lo ≤ b → b < w.heap.size → w'.heap[b]? = w.heap[b]?) : w'.ownsRowF lo e size v n xs := by
  refine ⟨h.1, ?_⟩
  rcases h.2 with hn | ⟨g, cap, cur, fz, rfl, hb0, hg, rest⟩
  · exact .inl hn
  · exact .inr ⟨g, cap, cur, fz, rfl, hb0, (hb g hb0 (Array.getElem?_eq_some_iff.1 hg).1).trans hg, rest⟩
theorem builderAt_but {T e : TypeId} {B b c : Nat} {p : Value} {bs : List Value} {w w' : World} (h : Lib.BuilderAtF T e B b p bs w) (hB : But c w w') (hc : c < B) : Lib.BuilderAtF T e B b p bs w' := by
  have hlt := h.lt
  obtain ⟨h0, v, hb, hown, hne⟩ := h
  exact ⟨h0, v, (hB.block b hlt (by omega)).trans hb, rowF_move hown (fun k h1 h2 => hB.block k h2 (by omega)), hne⟩
theorem builder_but {T e : TypeId} {B b c : Nat} {bs : List Value} {w w' : World} (h : Lib.IsBuilderF T e B b bs w) (hB : But c w w') (hc : c < B) : Lib.IsBuilderF T e B b bs w' :=
  h.elim (fun x => .inl (builderAt_but x hB hc)) (fun x => .inr (builderAt_but x hB hc))
theorem But.over {c : Nat} {w1 wr w' : World} (h : But c w1 wr) (hb : Below w1.heap.size wr w') : But c w1 w' :=
  ⟨hb.os.trans h.os, hb.tape.trans h.tape, hb.output.trans h.output, Nat.le_trans h.size hb.size, fun i hi hc => (hb.block i hi).trans (h.block i hi hc)⟩
theorem writeRune_any (B b : Nat) (acc : List UInt8) (r : Nat) (w : World) (hr : r ≤ 1114111) (h : Lib.IsBuilderF 65 5 B b (Lib.byteCells acc) w) (hl : acc.length ≤ 1000000) (hB : B ≤ w.heap.size) :
    Calls Tryz.prog 222 #[.pointer (some ⟨b, 0, none⟩), .int .i32 (r : Int)] w fun e w' => e = .returned (.tuple #[.int .i64 (Lib.runeCells (r : Int)).length, .nilIface]) ∧ Lib.IsBuilderF 65 5 B b (Lib.byteCells (acc ++ Lib.encodeRune (r : Int))) w' ∧ Below B w w' := by
  refine (Any.Builder_WriteRune_k Tryz.laysWriteRune Tryz.extraWriteRune B b (Lib.byteCells acc) (r : Int) (by omega) (by omega) w h (by rw [Lib.byteCells_length]; omega) hB).mono ?_
  rintro e w' ⟨rfl, h1, b1, _⟩
  refine ⟨rfl, Or.inr ?_, b1⟩
  rw [Lib.byteCells_append, Lib.byteCells_encodeRune]
  exact h1
theorem string_any (B b : Nat) (acc : List UInt8) (w : World) (h : Lib.IsBuilderF 65 5 B b (Lib.byteCells acc) w) (hB : B ≤ w.heap.size) :
    Calls Tryz.prog 42 #[.pointer (some ⟨b, 0, none⟩)] w fun e w' => e = .returned (.string (baL acc)) ∧ Below B w w' := by
  refine (Any.Builder_String_any_k Tryz.laysString Tryz.extraString B b acc w h hB).mono ?_
  rintro e w' ⟨rfl, _, b1, _⟩
  exact ⟨rfl, b1⟩
def StrPost (c : Nat) (s : ByteArray) (i : Nat) (w : World) (e : Ending) (w' : World) : Prop :=
  But c w w' ∧ ((∃ x j, txtS s i = some (x, j) ∧ e = .returned (.string x) ∧ PL c s j w') ∨ (txtS s i = none ∧ e = refusedT 2))
theorem txtS_of {s : ByteArray} {i : Nat} (h : cB s i = 34) : txtS s i = (txtN s (s.size + 1) (i + 1)).map fun p => (baL p.1, p.2) := by unfold txtS; rw [if_pos h]
theorem txtS_not {s : ByteArray} {i : Nat} (h : cB s i ≠ 34) : txtS s i = none := by unfold txtS; rw [if_neg h]
set_option maxHeartbeats 2000000 in
set_option maxRecDepth 100000 in
theorem str_any {Tb : World → Prop} (hD : DecSaid Tb) (c : Nat) (hS : Stays Tb c) (s : ByteArray) (i : Nat) (w : World) (h : PL c s i w) (hT : Tb w) (hs : s.size ≤ 4000) (hi : i ≤ s.size) :
    Calls Tryz.prog 181 #[.pointer (some ⟨c, 0, none⟩)] w (StrPost c s i w) := by
  have HL := hid h
  have HT := hid hT
  have HS := hid hS
  have HD := hid hD
  clear h hT hS hD
  by_cases h34 : cB s i = 34
  · have hlt : i < s.size := cB_in (by omega)
    have HA := hid (expect_yes c s i 34 w HL.out hs (by omega) (by omega))
    have HX := hid (txtS_of h34)
    clear h34
    go_enter Tryz.func181, Tryz.ntmps181
    go_wp2_with fail
    refine HA.out.mono ?_
    rintro e w1 ⟨rfl, hB1, hL1⟩
    have HB1 := hid hB1
    have HL1 := hid hL1
    have hc1 := hL1.lt
    have HT1 := hid (But.stays HS.out HT.out hB1 (Nat.le_of_lt HL.out.lt))
    clear hB1 hL1 HA
    have HF : Hid (Lib.IsBuilderF 65 5 w1.heap.size w1.heap.size (Lib.byteCells []) (w1.alloc (.cells #[.pointer none, .slice none 0 0] 65))) := Lib.IsBuilderF.of (Lib.fresh_isBuilder 65 5 w1)
    have HBa : Hid (But c w1 (w1.alloc (.cells #[.pointer none, .slice none 0 0] 65))) := But.of ((Below.refl _ _).alloc (Nat.le_refl _) _)
    have HLa := hid (HL1.out.keep ((Below.refl _ _).alloc (Nat.le_refl _) (.cells #[.pointer none, .slice none 0 0] 65)))
    go_wp2_with fail
    go_loopg [] (s.size - (i + 1)) (fun g wr => ∃ (k n : Nat) (acc : List UInt8), g = s.size - k ∧ k ≤ s.size ∧ s.size + 1 ≤ n + k ∧ acc.length ≤ 4 * k ∧ Hid (PL c s k wr) ∧ Hid (Lib.IsBuilderF 65 5 w1.heap.size w1.heap.size (Lib.byteCells acc) wr) ∧ Hid (But c w1 wr) ∧ Hid (txtN s (s.size + 1) (i + 1) = (txtN s n k).map fun p => (acc ++ p.1, p.2)))
    case atStart => exact ⟨i + 1, s.size + 1, [], rfl, by omega, by omega, by simp, HLa, HF, HBa, by show _ = _; cases txtN s (s.size + 1) (i + 1) <;> rfl⟩
    case round =>
      clear HF HBa HLa
      obtain ⟨k, n, acc, rfl, hk, hn, hacc, HLk, HF, HBk, HN⟩ := hrel
      obtain ⟨n, rfl⟩ : ∃ m, n = m + 1 := ⟨n - 1, by omega⟩
      by_cases hq : cB s k = 34
      · have HZ : Hid (txtS s i = some (baL acc, k + 1)) := by
          show _ = _
          rw [HX.out, HN.out, txtN_quote hq]
          simp
        go_wp2_with fail
        refine (accept_yes c s k 34 wr HLk.out hs (by omega) (by omega)).mono ?_
        rintro e w2 ⟨rfl, hB2, hL2⟩
        have HL2 := hid hL2
        have HF2 := hid (builder_but HF.out hB2 hc1)
        have HB2 := hid (HBk.out.trans hB2)
        clear hB2 hL2 HLk HF HBk
        go_wp2_with fail
        refine (string_any w1.heap.size w1.heap.size acc w2 HF2.out HB2.out.size).mono ?_
        rintro e w3 ⟨rfl, hb3⟩
        have HB3 := hid (HB2.out.over hb3)
        have HL3 := hid (HL2.out.move hb3.size (hb3.block _ hc1))
        clear hb3
        go_wp2_with fail
        go_ret
        exact ⟨HB1.out.trans HB3.out, Or.inl ⟨_, _, HZ.out, rfl, HL3.out⟩⟩
      · go_wp2_with fail
        refine (accept_no c s k 34 wr HLk.out hk (by omega)).mono ?_
        rintro e w2 ⟨rfl, hB2, hL2⟩
        have HL2 := hid hL2
        have HF2 := hid (builder_but HF.out hB2 hc1)
        have HB2 := hid (HBk.out.trans hB2)
        have HT2 := hid (But.stays HS.out HT1.out HB2.out (Nat.le_of_lt hc1))
        clear hB2 hL2 HLk HF HBk
        go_wp2_with fail
        refine (letter_any HD.out c HS.out s k w2 HL2.out HT2.out hs hk).mono ?_
        rintro e w3 ⟨hB3, ⟨r, j, hr, rfl, hL3⟩ | ⟨hr, rfl⟩⟩
        · have HL3 := hid hL3
          have HF3 := hid (builder_but HF2.out hB3 hc1)
          have HB3 := hid (HB2.out.trans hB3)
          have hadv := letS_adv hr
          have HN3 := hid (HN.out.trans (txtN_let (n := n) acc hq hr))
          have hl4 := Lib.runeCells_le (r : Int)
          rw [Lib.runeCells_length] at hl4
          clear hB3 hL3 hr HL2 HF2 HB2 HT2 HN
          go_wp2_with fail
          refine (writeRune_any w1.heap.size w1.heap.size acc r w3 hadv.2.2 HF3.out (by omega) HB3.out.size).mono ?_
          rintro e w4 ⟨rfl, hF4, hb4⟩
          have HL4 := hid (HL3.out.move hb4.size (hb4.block _ hc1))
          have HB4 := hid (HB3.out.over hb4)
          have HF4 := hid hF4
          clear hb4 hF4 HL3 HB3 HF3
          go_wp2_with fail
          go_roundg (s.size - j)
          case rel => exact ⟨j, n, acc ++ Lib.encodeRune (r : Int), rfl, by omega, by omega, by rw [List.length_append]; omega, HL4, HF4, HB4, HN3⟩
          case measure => omega
        · have HB3 := hid (HB1.out.trans (HB2.out.trans hB3))
          have HZ : Hid (txtS s i = none) := by
            show _ = _
            rw [HX.out, HN.out, txtN_none hq hr]
            rfl
          clear hB3 hr
          go_wp2_with fail
          exact ⟨rfl, HB3.out, Or.inr ⟨HZ.out, rfl⟩⟩
  · have HA := hid (expect_no c s i 34 w HL.out hs hi (by omega))
    have HX := hid (txtS_not h34)
    clear h34
    go_enter Tryz.func181, Tryz.ntmps181
    go_wp2_with fail
    refine HA.out.mono ?_
    rintro e w1 ⟨rfl, hB1⟩
    have HB1 := hid hB1
    clear hB1 HA
    go_wp2_with fail
    exact ⟨rfl, HB1.out, Or.inr ⟨HX.out, rfl⟩⟩
end Go.Proofs.YtknakfpciccoaaaGreatDoor
/- Contracts of the library's shelf, laid at this dump: strings.Builder's WriteByte and WriteString, strconv.FormatInt. -/
namespace Go.Proofs
open Go.Shelf
def Tryz.laysWriteByte_ren : Go.Shelf.Ren := ⟨fun | 167 => 128 | 240 => 125 | 276 => 161 | n => n, fun | 0 => 0 | 4 => 4 | 5 => 5 | 9 => 9 | 20 => 20 | 37 => 63 | 70 => 62 | 72 => 65 | 75 => 116 | 164 => 185 | 80 => 67 | n => n, fun | n => n⟩
theorem Tryz.laysWriteByte : Go.Proofs.Lays.n167 Tryz.prog Tryz.laysWriteByte_ren := {
  mixed := by kernel_rfl
  f167 := Tryz.func128.trans (congrArg some (by kernel_rfl))
  f240 := Tryz.func125.trans (congrArg some (by kernel_rfl))
  f276 := Tryz.func161.trans (congrArg some (by kernel_rfl))
  t0 := Tryz.underlying0
  a0 := Tryz.isAgg0
  z0 := Tryz.sizeOf0
  v0 := Tryz.zeroValue0
  t4 := Tryz.underlying4
  a4 := Tryz.isAgg4
  z4 := Tryz.sizeOf4
  v4 := Tryz.zeroValue4
  t5 := Tryz.underlying5
  a5 := Tryz.isAgg5
  z5 := Tryz.sizeOf5
  v5 := Tryz.zeroValue5
  t9 := Tryz.underlying9
  a9 := Tryz.isAgg9
  z9 := Tryz.sizeOf9
  v9 := Tryz.zeroValue9
  t20 := Tryz.underlying20
  a20 := Tryz.isAgg20
  z20 := Tryz.sizeOf20
  v20 := Tryz.zeroValue20
  t37 := Tryz.underlying63
  a37 := Tryz.isAgg63
  z37 := Tryz.sizeOf63
  v37 := Tryz.zeroValue63
  t70 := Tryz.underlying62
  a70 := Tryz.isAgg62
  z70 := Tryz.sizeOf62
  v70 := Tryz.zeroValue62
  t72 := Tryz.underlying65
  a72 := Tryz.isAgg65
  z72 := Tryz.sizeOf65
  v72 := Tryz.zeroValue65
  t75 := Tryz.underlying116
  a75 := Tryz.isAgg116
  z75 := Tryz.sizeOf116
  v75 := Tryz.zeroValue116
  t164 := Tryz.underlying185
  a164 := Tryz.isAgg185
  z164 := Tryz.sizeOf185
  v164 := Tryz.zeroValue185 }
theorem Tryz.extraWriteByte : Go.Proofs.Builder.Extra Tryz.prog Tryz.laysWriteByte_ren := {
  sizeBuilder := by kernel_rfl
  liesBuilder := by kernel_rfl
  t5 := Tryz.underlying5
  a5 := Tryz.isAgg5
  z5 := Tryz.sizeOf5
  v5 := Tryz.zeroValue5
  infoByte := by kernel_rfl
  cellsByte := by kernel_rfl
  sizeByte := by kernel_rfl
  neB5 := by decide }
def Tryz.laysWriteString_ren : Go.Shelf.Ren := ⟨fun | 166 => 74 | 240 => 125 | 276 => 161 | n => n, fun | 0 => 0 | 3 => 3 | 4 => 4 | 9 => 9 | 20 => 20 | 37 => 63 | 70 => 62 | 72 => 65 | 75 => 116 | 164 => 185 | 80 => 67 | n => n, fun | n => n⟩
theorem Tryz.laysWriteString : Go.Proofs.Lays.n166 Tryz.prog Tryz.laysWriteString_ren := {
  mixed := by kernel_rfl
  f166 := Tryz.func74.trans (congrArg some (by kernel_rfl))
  f240 := Tryz.func125.trans (congrArg some (by kernel_rfl))
  f276 := Tryz.func161.trans (congrArg some (by kernel_rfl))
  t0 := Tryz.underlying0
  a0 := Tryz.isAgg0
  z0 := Tryz.sizeOf0
  v0 := Tryz.zeroValue0
  t3 := Tryz.underlying3
  a3 := Tryz.isAgg3
  z3 := Tryz.sizeOf3
  v3 := Tryz.zeroValue3
  t4 := Tryz.underlying4
  a4 := Tryz.isAgg4
  z4 := Tryz.sizeOf4
  v4 := Tryz.zeroValue4
  t9 := Tryz.underlying9
  a9 := Tryz.isAgg9
  z9 := Tryz.sizeOf9
  v9 := Tryz.zeroValue9
  t20 := Tryz.underlying20
  a20 := Tryz.isAgg20
  z20 := Tryz.sizeOf20
  v20 := Tryz.zeroValue20
  t37 := Tryz.underlying63
  a37 := Tryz.isAgg63
  z37 := Tryz.sizeOf63
  v37 := Tryz.zeroValue63
  t70 := Tryz.underlying62
  a70 := Tryz.isAgg62
  z70 := Tryz.sizeOf62
  v70 := Tryz.zeroValue62
  t72 := Tryz.underlying65
  a72 := Tryz.isAgg65
  z72 := Tryz.sizeOf65
  v72 := Tryz.zeroValue65
  t75 := Tryz.underlying116
  a75 := Tryz.isAgg116
  z75 := Tryz.sizeOf116
  v75 := Tryz.zeroValue116
  t164 := Tryz.underlying185
  a164 := Tryz.isAgg185
  z164 := Tryz.sizeOf185
  v164 := Tryz.zeroValue185 }
theorem Tryz.extraWriteString : Go.Proofs.Builder.Extra Tryz.prog Tryz.laysWriteString_ren := {
  sizeBuilder := by kernel_rfl
  liesBuilder := by kernel_rfl
  t5 := Tryz.underlying5
  a5 := Tryz.isAgg5
  z5 := Tryz.sizeOf5
  v5 := Tryz.zeroValue5
  infoByte := by kernel_rfl
  cellsByte := by kernel_rfl
  sizeByte := by kernel_rfl
  neB5 := by decide }
def Tryz.laysFormat_ren : Go.Shelf.Ren := ⟨fun | 173 => 76 | 246 => 127 | 283 => 162 | 284 => 163 | 285 => 164 | 286 => 165 | 129 => 196 | 317 => 195 | 318 => 197 | 319 => 198 | 320 => 199 | 337 => 240 | 338 => 241 | n => n, fun | 2 => 2 | 3 => 3 | 9 => 9 | 4 => 4 | 171 => 187 | 0 => 0 | 53 => 127 | 37 => 63 | 5 => 5 | 173 => 190 | 212 => 215 | 51 => 216 | 20 => 20 | 213 => 217 | 46 => 155 | 232 => 301 | 233 => 302 | n => n, fun | 17 => 2 | 18 => 3 | 19 => 4 | n => n⟩
theorem Tryz.laysFormat : Go.Proofs.LaysM.n173 Tryz.prog Tryz.laysFormat_ren := {
  mixed := by kernel_rfl
  f129 := Tryz.func196.trans (congrArg some (by kernel_rfl))
  f173 := Tryz.func76.trans (congrArg some (by kernel_rfl))
  f246 := Tryz.func127.trans (congrArg some (by kernel_rfl))
  f283 := Tryz.func162.trans (congrArg some (by kernel_rfl))
  f284 := Tryz.func163.trans (congrArg some (by kernel_rfl))
  f285 := Tryz.func164.trans (congrArg some (by kernel_rfl))
  f286 := Tryz.func165.trans (congrArg some (by kernel_rfl))
  f317 := Tryz.func195.trans (congrArg some (by kernel_rfl))
  f318 := Tryz.func197.trans (congrArg some (by kernel_rfl))
  f319 := Tryz.func198.trans (congrArg some (by kernel_rfl))
  f320 := Tryz.func199.trans (congrArg some (by kernel_rfl))
  f337 := Tryz.func240.trans (congrArg some (by kernel_rfl))
  f338 := Tryz.func241.trans (congrArg some (by kernel_rfl))
  t0 := Tryz.underlying0
  a0 := Tryz.isAgg0
  z0 := Tryz.sizeOf0
  v0 := Tryz.zeroValue0
  t2 := Tryz.underlying2
  a2 := Tryz.isAgg2
  z2 := Tryz.sizeOf2
  v2 := Tryz.zeroValue2
  t3 := Tryz.underlying3
  a3 := Tryz.isAgg3
  z3 := Tryz.sizeOf3
  v3 := Tryz.zeroValue3
  t4 := Tryz.underlying4
  a4 := Tryz.isAgg4
  z4 := Tryz.sizeOf4
  v4 := Tryz.zeroValue4
  t5 := Tryz.underlying5
  a5 := Tryz.isAgg5
  z5 := Tryz.sizeOf5
  v5 := Tryz.zeroValue5
  t9 := Tryz.underlying9
  a9 := Tryz.isAgg9
  z9 := Tryz.sizeOf9
  v9 := Tryz.zeroValue9
  t20 := Tryz.underlying20
  a20 := Tryz.isAgg20
  z20 := Tryz.sizeOf20
  v20 := Tryz.zeroValue20
  t37 := Tryz.underlying63
  a37 := Tryz.isAgg63
  z37 := Tryz.sizeOf63
  v37 := Tryz.zeroValue63
  t46 := Tryz.underlying155
  a46 := Tryz.isAgg155
  z46 := Tryz.sizeOf155
  v46 := Tryz.zeroValue155
  t51 := Tryz.underlying216
  a51 := Tryz.isAgg216
  z51 := Tryz.sizeOf216
  v51 := Tryz.zeroValue216
  t53 := Tryz.underlying127
  a53 := Tryz.isAgg127
  z53 := Tryz.sizeOf127
  v53 := Tryz.zeroValue127
  t171 := Tryz.underlying187
  a171 := Tryz.isAgg187
  z171 := Tryz.sizeOf187
  v171 := Tryz.zeroValue187
  t173 := Tryz.underlying190
  a173 := Tryz.isAgg190
  z173 := Tryz.sizeOf190
  v173 := Tryz.zeroValue190
  t212 := Tryz.underlying215
  a212 := Tryz.isAgg215
  z212 := Tryz.sizeOf215
  v212 := Tryz.zeroValue215
  t213 := Tryz.underlying217
  a213 := Tryz.isAgg217
  z213 := Tryz.sizeOf217
  t232 := Tryz.underlying301
  a232 := Tryz.isAgg301
  z232 := Tryz.sizeOf301
  v232 := Tryz.zeroValue301
  t233 := Tryz.underlying302
  a233 := Tryz.isAgg302
  z233 := Tryz.sizeOf302
  v233 := Tryz.zeroValue302
  g17 := by kernel_rfl
  g18 := by kernel_rfl
  g19 := by kernel_rfl
  i0 := by kernel_rfl
  i2 := by kernel_rfl
  i3 := by kernel_rfl
  i4 := by kernel_rfl
  i5 := by kernel_rfl
  i9 := by kernel_rfl
  i20 := by kernel_rfl
  i37 := by kernel_rfl
  i46 := by kernel_rfl
  i51 := by kernel_rfl
  i53 := by kernel_rfl
  i171 := by kernel_rfl
  i173 := by kernel_rfl
  i212 := by kernel_rfl
  i232 := by kernel_rfl
  i233 := by kernel_rfl
  m17 := by kernel_rfl
  m18 := by kernel_rfl
  m19 := by kernel_rfl }
end Go.Proofs
/- Values as texts, pure: what is written; the builder's writers. -/
namespace Go.Proofs.YtknakfpciccoaaaGreatDoor
open Go.RowKit

def hexC (n : Nat) : UInt8 := if n < 10 then UInt8.ofNat (48 + n) else UInt8.ofNat (87 + n)
def escC (c : UInt8) : List UInt8 := if c.toNat = 34 ∨ c.toNat = 92 then [92, c] else if c.toNat < 32 then [92, 117, 48, 48, hexC (c.toNat / 16), hexC (c.toNat % 16)] else [c]
def escTo (s : ByteArray) (k : Nat) : List UInt8 := (s.data.toList.take k).flatMap escC
def quoL (s : ByteArray) : List UInt8 := 34 :: (escTo s s.size ++ [34])
theorem escTo_zero (s : ByteArray) : escTo s 0 = [] := by simp [escTo]
theorem escTo_succ {s : ByteArray} {k : Nat} {z : UInt8} (h : s.data[k]? = some z) : escTo s (k + 1) = escTo s k ++ escC z := by
  have h' : s.data.toList[k]? = some z := by rw [Array.getElem?_toList]; exact h
  unfold escTo
  rw [List.take_add_one, h']
  simp
theorem get_some {s : ByteArray} {k : Nat} {z : UInt8} (h : k < s.size) (e : s[k]'h = z) : s.data[k]? = some z := by
  rw [← e]
  exact Array.getElem?_eq_getElem h
theorem escC_len (c : UInt8) : (escC c).length ≤ 6 := by unfold escC; split; · simp
                                                         · split <;> simp
theorem escTo_len (s : ByteArray) : ∀ k, (escTo s k).length ≤ 6 * k
  | 0 => by simp [escTo]
  | k + 1 => by
    have ih := escTo_len s k
    cases h : s.data[k]? with
    | none =>
      have h' : s.data.toList.length ≤ k := by simpa using h
      have : escTo s (k + 1) = escTo s k := by unfold escTo; rw [List.take_of_length_le (by omega), List.take_of_length_le h']
      rw [this]
      omega
    | some z =>
      rw [escTo_succ h, List.length_append]
      have := escC_len z
      omega
theorem quoL_len (s : ByteArray) : (quoL s).length ≤ 6 * s.size + 2 := by
  have := escTo_len s s.size
  simp [quoL]
  omega
def leafW (t : T) : List UInt8 :=
  if kindOf t = 1 then [110, 117, 108, 108] else if kindOf t = 2 then (if nOf t = 1 then [116, 114, 117, 101] else [102, 97, 108, 115, 101]) else if kindOf t = 3 then Lib.itoa (nOf t) else if kindOf t = 4 then quoL (sOf t) else []
def joinL (g : T → List UInt8) (t : T) : Nat → List UInt8
  | 0 => []
  | k + 1 => joinL g t k ++ ((if k = 0 then [] else [44]) ++ g (elt t k))
def joinO (g : T → List UInt8) (t : T) : Nat → List UInt8
  | 0 => []
  | k + 1 => joinO g t k ++ ((if k = 0 then [] else [44]) ++ (quoL (nam t k) ++ (58 :: g (elt t k))))
def wrT : Nat → T → List UInt8
  | 0, t => leafW t
  | m + 1, t => if kindOf t = 5 then 91 :: (joinL (wrT m) t (nL t) ++ [93]) else if kindOf t = 6 then 123 :: (joinO (wrT m) t (nK t) ++ [125]) else leafW t
theorem joinL_mono (g : T → List UInt8) (t : T) {k n : Nat} (h : k ≤ n) : (joinL g t k).length ≤ (joinL g t n).length := by
  induction n with
  | zero => have : k = 0 := by omega
            subst this; exact Nat.le_refl _
  | succ n ih =>
    by_cases e : k = n + 1
    · subst e; exact Nat.le_refl _
    · have := ih (by omega)
      simp only [joinL, List.length_append]
      omega
theorem joinO_mono (g : T → List UInt8) (t : T) {k n : Nat} (h : k ≤ n) : (joinO g t k).length ≤ (joinO g t n).length := by
  induction n with
  | zero => have : k = 0 := by omega
            subst this; exact Nat.le_refl _
  | succ n ih =>
    by_cases e : k = n + 1
    · subst e; exact Nat.le_refl _
    · have := ih (by omega)
      simp only [joinO, List.length_append]
      omega

/-- The builder's state behind a writer. -/
structure WrP (B b : Nat) (acc : List UInt8) (w w' : World) : Prop where
  isb : Lib.IsBuilderF 65 5 B b (Lib.byteCells acc) w'
  below : Below B w w'
  oth : Lib.OthersKept 5 (some b) w w'
  lo : B ≤ w.heap.size
theorem WrP.trans {B b : Nat} {acc acc' : List UInt8} {w w1 w2 : World} (h : WrP B b acc w w1) (k : WrP B b acc' w1 w2) : WrP B b acc' w w2 :=
  ⟨k.isb, h.below.trans k.below, h.oth.trans k.oth, h.lo⟩
theorem WrP.lo' {B b : Nat} {acc : List UInt8} {w w1 : World} (h : WrP B b acc w w1) : B ≤ w1.heap.size := Nat.le_trans h.lo h.below.size
theorem WrP.acc {B b : Nat} {acc acc' : List UInt8} {w w1 : World} (h : WrP B b acc w w1) (e : acc = acc') : WrP B b acc' w w1 := e ▸ h
/-- A world that grows alone. -/
theorem WrP.keep {B b : Nat} {acc : List UInt8} {w w1 w2 : World} (h : WrP B b acc w w1) (k : Below w1.heap.size w1 w2) : WrP B b acc w w2 :=
  ⟨h.isb.elim (fun x => .inl ⟨x.1, by
      obtain ⟨v, hb, hown, hne⟩ := x.2
      exact ⟨v, (k.block b (Array.getElem?_eq_some_iff.1 hb).1).trans hb, rowF_move hown (fun i _ h2 => k.block i h2), hne⟩⟩) (fun x => .inr ⟨x.1, by
      obtain ⟨v, hb, hown, hne⟩ := x.2
      exact ⟨v, (k.block b (Array.getElem?_eq_some_iff.1 hb).1).trans hb, rowF_move hown (fun i _ h2 => k.block i h2), hne⟩⟩),
    h.below.trans (k.mono (Nat.le_trans h.lo h.below.size)),
    fun i o hi hb ho => by
      have h1 := h.oth i o hi hb ho
      exact (k.block i (Array.getElem?_eq_some_iff.1 h1).1).trans h1, h.lo⟩
theorem WrP.start {B b : Nat} {acc : List UInt8} {w : World} (h : Lib.IsBuilderF 65 5 B b (Lib.byteCells acc) w) (hB : B ≤ w.heap.size) : WrP B b acc w w :=
  ⟨h, Below.refl _ _, Lib.OthersKept.refl _ _ _, hB⟩
def Wrote (B b : Nat) (acc : List UInt8) (w : World) (e : Ending) (w' : World) : Prop := e = .returned (.tuple #[]) ∧ WrP B b acc w w'
theorem wbyte_any (B b : Nat) (acc : List UInt8) (c : UInt8) (w0 w : World) (h : WrP B b acc w0 w) (hl : acc.length ≤ 1000000000) :
    Calls Tryz.prog 128 #[.pointer (some ⟨b, 0, none⟩), .int .u8 (c.toNat : Int)] w fun e w' => e = .returned .nilIface ∧ WrP B b (acc ++ [c]) w w' := by
  refine (Any.Builder_WriteByte_k Tryz.laysWriteByte Tryz.extraWriteByte B b (Lib.byteCells acc) (c.toNat : Int) w h.isb (by rw [Lib.byteCells_length]; omega) h.lo').mono ?_
  rintro e w' ⟨rfl, h1, b1, o1⟩
  refine ⟨rfl, ⟨Or.inr ?_, b1, o1, h.lo'⟩⟩
  rw [Lib.byteCells_append]
  exact h1
theorem wstr_any (B b : Nat) (acc : List UInt8) (s : ByteArray) (w0 w : World) (h : WrP B b acc w0 w) (hl : acc.length + s.size ≤ 1000000000) :
    Calls Tryz.prog 74 #[.pointer (some ⟨b, 0, none⟩), .string s] w fun e w' => e = .returned (.tuple #[.int .i64 s.size, .nilIface]) ∧ WrP B b (acc ++ s.data.toList) w w' := by
  refine (Any.Builder_WriteString_k Tryz.laysWriteString Tryz.extraWriteString B b (Lib.byteCells acc) s w h.isb (by rw [Lib.byteCells_length]; omega) h.lo').mono ?_
  rintro e w' ⟨rfl, h1, b1, o1⟩
  refine ⟨rfl, ⟨Or.inr ?_, b1, o1, h.lo'⟩⟩
  rw [Lib.byteCells_append]
  exact h1
/-- What is one index behind another one. -/
theorem escC_q {c : UInt8} (h : c.toNat = 34 ∨ c.toNat = 92) : escC c = [92, c] := by unfold escC; rw [if_pos h]
theorem escC_u {c : UInt8} (h : ¬ (c.toNat = 34 ∨ c.toNat = 92)) (h' : c.toNat < 32) : escC c = [92, 117, 48, 48, hexC (c.toNat / 16), hexC (c.toNat % 16)] := by unfold escC; rw [if_neg h, if_pos h']
theorem escC_p {c : UInt8} (h : ¬ (c.toNat = 34 ∨ c.toNat = 92)) (h' : ¬ c.toNat < 32) : escC c = [c] := by unfold escC; rw [if_neg h, if_neg h']
def hexS : ByteArray := ⟨#[48, 49, 50, 51, 52, 53, 54, 55, 56, 57, 97, 98, 99, 100, 101, 102]⟩
theorem hexS_get : ∀ n : Fin 16, hexS[n.1]'n.2 = hexC n.1 := by decide
theorem hexS_at {n : Nat} (h : n < 16) : hexS[n]'h = hexC n := hexS_get ⟨n, h⟩
theorem escTo_mono (s : ByteArray) (k : Nat) : (escTo s k).length ≤ (escTo s s.size).length := by
  have e : escTo s s.size = escTo s k ++ (s.data.toList.drop k).flatMap escC := by
    unfold escTo
    have e2 : s.data.toList.take s.size = s.data.toList := List.take_of_length_le (by show s.data.toList.length ≤ s.data.size; rw [Array.length_toList]; exact Nat.le_refl _)
    rw [e2, ← List.flatMap_append, List.take_append_drop]
  rw [e]
  simp
end Go.Proofs.YtknakfpciccoaaaGreatDoor
/- The walk of printText. -/
namespace Go.Proofs.YtknakfpciccoaaaGreatDoor
open Go.RowKit

set_option maxHeartbeats 4000000 in
set_option maxRecDepth 100000 in
theorem printText_any (B b : Nat) (acc : List UInt8) (s : ByteArray) (w : World) (h : Lib.IsBuilderF 65 5 B b (Lib.byteCells acc) w) (hB : B ≤ w.heap.size) (hl : acc.length + (quoL s).length ≤ 100000000) (hs : s.size ≤ 140737488355328) :
    Calls Tryz.prog 77 #[.pointer (some ⟨b, 0, none⟩), .string s] w (Wrote B b (acc ++ quoL s) w) := by
  have HQ : Hid (∀ k, k ≤ s.size → (escTo s k).length + acc.length + 1 ≤ 100000000) := hid (fun k hk => by
    have := escTo_mono s k
    simp [quoL] at hl
    omega)
  have HE : Hid (acc ++ quoL s = acc ++ [34] ++ escTo s s.size ++ [34]) := by show _ = _; simp [quoL]
  have hl0 : acc.length ≤ 100000000 := by omega
  have HS := hid (WrP.start h hB)
  clear h hl
  go_enter Tryz.func77, Tryz.ntmps77
  go_wp2_with fail
  refine (wbyte_any B b acc 34 w w HS.out (by omega)).mono ?_
  rintro e w1 ⟨rfl, hw1⟩
  have H1 := hid hw1
  clear hw1
  go_wp2_with fail
  go_loopg [10] (s.size) (fun g i wr => ∃ k : Nat, g = s.size - k ∧ k ≤ s.size ∧ i = .int .i64 k ∧ Hid (WrP B b (acc ++ [34] ++ escTo s k) w wr))
  case atStart => exact ⟨0, rfl, Nat.zero_le _, rfl, H1.out.acc (by simp [escTo_zero])⟩
  case round =>
    obtain ⟨k, rfl, hk, rfl, HW⟩ := hrel
    have hq := HQ.out k hk
    have hlk : (acc ++ [34] ++ escTo s k).length ≤ 100000000 := by simp; omega
    by_cases hlt : k < s.size
    · obtain ⟨z, hz⟩ : ∃ z : UInt8, s[k]'hlt = z := ⟨_, rfl⟩
      have HZ := hid (escTo_succ (get_some hlt hz))
      have x1 : (k : Int) < (s.size : Int) := by omega
      have lz : z.toNat < 256 := z.toNat_lt
      have hne : ∀ (a : List UInt8), (acc ++ [34] ++ escTo s k ++ a).length ≤ 100000000 + a.length := fun a => by rw [List.length_append]; omega
      have HN := hid hne
      clear hne
      by_cases hq2 : z.toNat = 34 ∨ z.toNat = 92
      · have HC := hid (escC_q hq2)
        rcases hq2 with hq2 | hq2
        · have y1 : ((z.toNat : Int) == 34) = true := by rw [beq_iff_eq]; omega
          clear hq2
          go_wp2_with fail
          refine (wbyte_any B b _ 92 w wr HW.out (by omega)).mono ?_
          rintro e w2 ⟨rfl, hw2⟩
          have H2 := hid (HW.out.trans hw2)
          clear hw2
          go_wp2_with fail
          refine (wbyte_any B b _ z w w2 H2.out (by have := HN.out [92]; simp only [List.length_singleton] at this; omega)).mono ?_
          rintro e w3 ⟨rfl, hw3⟩
          have H3 := hid (H2.out.trans hw3)
          clear hw3
          go_wp2_with fail
          go_roundg (s.size - (k + 1))
          case rel => exact ⟨k + 1, rfl, by omega, by go_num, H3.out.acc (by rw [HZ.out, HC.out]; simp)⟩
          case measure => omega
        · have y0 : ((z.toNat : Int) == 34) = false := by rw [beq_eq_false_iff_ne]; omega
          have y1 : ((z.toNat : Int) == 92) = true := by rw [beq_iff_eq]; omega
          clear hq2
          go_wp2_with fail
          refine (wbyte_any B b _ 92 w wr HW.out (by omega)).mono ?_
          rintro e w2 ⟨rfl, hw2⟩
          have H2 := hid (HW.out.trans hw2)
          clear hw2
          go_wp2_with fail
          refine (wbyte_any B b _ z w w2 H2.out (by have := HN.out [92]; simp only [List.length_singleton] at this; omega)).mono ?_
          rintro e w3 ⟨rfl, hw3⟩
          have H3 := hid (H2.out.trans hw3)
          clear hw3
          go_wp2_with fail
          go_roundg (s.size - (k + 1))
          case rel => exact ⟨k + 1, rfl, by omega, by go_num, H3.out.acc (by rw [HZ.out, HC.out]; simp)⟩
          case measure => omega
      · have y34 : ((z.toNat : Int) == 34) = false := by rw [beq_eq_false_iff_ne]; omega
        have y92 : ((z.toNat : Int) == 92) = false := by rw [beq_eq_false_iff_ne]; omega
        by_cases hu : z.toNat < 32
        · have HC := hid (escC_u hq2 hu)
          have y1 : decide ((z.toNat : Int) < 32) = true := decide_eq_true (by omega)
          clear hq2
          go_wp2_with fail
          refine (wstr_any B b _ ⟨#[92, 117, 48, 48]⟩ w wr HW.out (by show _ + 4 ≤ _; omega)).mono ?_
          rintro e w2 ⟨rfl, hw2⟩
          have H2 := hid (HW.out.trans hw2)
          clear hw2
          have n1 : z.toNat / 16 < 16 := by omega
          have n2 : z.toNat % 16 < 16 := by omega
          go_wp2_with fail
          refine (wbyte_any B b _ (hexS[z.toNat / 16]'n1) w w2 H2.out (by have := HN.out [92, 117, 48, 48]; simp only [List.length_cons, List.length_nil] at this; simp only [List.length_append, List.length_cons, List.length_nil] at this ⊢; omega)).mono ?_
          rintro e w3 ⟨rfl, hw3⟩
          have H3 := hid (H2.out.trans hw3)
          clear hw3
          go_wp2_with fail
          refine (wbyte_any B b _ (hexS[z.toNat % 16]'n2) w w3 H3.out (by have := HN.out [92, 117, 48, 48]; simp only [List.length_append, List.length_cons, List.length_nil] at this ⊢; omega)).mono ?_
          rintro e w4 ⟨rfl, hw4⟩
          have H4 := hid (H3.out.trans hw4)
          clear hw4
          go_wp2_with fail
          go_roundg (s.size - (k + 1))
          case rel => exact ⟨k + 1, rfl, by omega, by go_num, H4.out.acc (by rw [HZ.out, HC.out, hexS_at, hexS_at]; simp)⟩
          case measure => omega
        · have HC := hid (escC_p hq2 hu)
          have y1 : decide ((z.toNat : Int) < 32) = false := decide_eq_false (by omega)
          clear hq2
          go_wp2_with fail
          refine (wbyte_any B b _ z w wr HW.out (by omega)).mono ?_
          rintro e w2 ⟨rfl, hw2⟩
          have H2 := hid (HW.out.trans hw2)
          clear hw2
          go_wp2_with fail
          go_roundg (s.size - (k + 1))
          case rel => exact ⟨k + 1, rfl, by omega, by go_num, H2.out.acc (by rw [HZ.out, HC.out]; simp)⟩
          case measure => omega
    · obtain rfl : k = s.size := by omega
      go_wp2_with fail
      refine (wbyte_any B b _ 34 w wr HW.out (by omega)).mono ?_
      rintro e w2 ⟨rfl, hw2⟩
      have H2 := hid hw2
      clear hw2
      go_wp2_with fail
      refine bodyPost_end (v := .tuple #[]) (by simp [results, Tryz.results77, go_sem]) rfl ?_
      exact ⟨rfl, (HW.out.trans H2.out).acc HE.out.symm⟩
end Go.Proofs.YtknakfpciccoaaaGreatDoor
