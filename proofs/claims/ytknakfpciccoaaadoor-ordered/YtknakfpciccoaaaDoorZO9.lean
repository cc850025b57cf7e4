import Derived.Test.YtknakfpciccoaaaDoorZO8
import Derived.Test.YtknakfpciccoaaaDoorZO6
import Derived.Deep.RegionHeld
import Derived.Laws.IdiomStrings
import Derived.Shelf.Strconv.Clone
import Derived.Test.YtknakfpciccoaaaDoorProg
import Derived.Test.YtknakfpciccoaaaDoorZO5
import Derived.Test.YtknakfpciccoaaaDoorZO7
/- The walks of the program's parser: words, escapes, letters. -/
namespace Go.Proofs.YtknakfpciccoaaaDoor
open Go.RowKit

theorem prefix_any (s p : ByteArray) (w : World) : Calls Tryd.prog 128 #[.string s, .string p] w fun e w' => e = .returned (.bool (Lib.hasPrefix s.data.toList p.data.toList)) ∧ w' = w := Any.strings_HasPrefix Tryd.laysPrefix s p w
theorem prefix_is {s p : ByteArray} {b : Bool} (h : Hid (Lib.hasPrefix s.data.toList p.data.toList = b)) (w : World) : Calls Tryd.prog 128 #[.string s, .string p] w fun e w' => e = .returned (.bool b) ∧ w' = w := by
  refine (prefix_any s p w).mono ?_
  rintro e w' ⟨rfl, rfl⟩
  exact ⟨ret_bool h.out, rfl⟩
set_option maxHeartbeats 1000000 in
set_option maxRecDepth 100000 in
theorem word_yes (c : Nat) (s : ByteArray) (i : Nat) (t : ByteArray) (w : World) (h : PL c s i w) (hs : s.size ≤ 4000) (hp : pfx s i t = true) :
    Calls Tryd.prog 113 #[.pointer (some ⟨c, 0, none⟩), .string t] w (AccPost c s true (i + t.size) w) := by
  have hle := pfx_le hp
  have HL := hid h
  have q0 := h.q0
  have q1 := h.q1
  have x1 : (i : Int) ≤ (s.size : Int) := by omega
  have HQ : Hid (Lib.hasPrefix (s.extract i s.size).data.toList t.data.toList = true) := (pfx_list s i t (by omega)).trans hp
  clear h hp
  go_enter Tryd.func113, Tryd.ntmps113
  go_wp2_with fail
  go_quiet ((go_at_call 128; exact Calls.quiet_of_same (prefix_is HQ _)))
  have HB := hid (below_drewN (Below.refl w.heap.size w) nq)
  generalize w.drewN nq = w1 at HB ⊢
  have HL1 := hid (HL.out.keep HB.out)
  have r1 := HL1.out.q1
  have r2 := HL1.out.f1
  clear q0 q1
  go_wp2_with fail
  go_ret
  exact ⟨rfl, (But.of HB.out).trans (But.set w1 c 1 _), HL1.out.set (i + t.size)⟩
set_option maxHeartbeats 1000000 in
set_option maxRecDepth 100000 in
theorem word_no (c : Nat) (s : ByteArray) (i : Nat) (t : ByteArray) (w : World) (h : PL c s i w) (hi : i ≤ s.size) (hp : pfx s i t = false) :
    Calls Tryd.prog 113 #[.pointer (some ⟨c, 0, none⟩), .string t] w (AccPost c s false i w) := by
  have HL := hid h
  have q0 := h.q0
  have q1 := h.q1
  have x1 : (i : Int) ≤ (s.size : Int) := by omega
  have HQ : Hid (Lib.hasPrefix (s.extract i s.size).data.toList t.data.toList = false) := (pfx_list s i t (by omega)).trans hp
  clear h hp
  go_enter Tryd.func113, Tryd.ntmps113
  go_wp2_with fail
  go_quiet ((go_at_call 128; exact Calls.quiet_of_same (prefix_is HQ _)))
  have HB := hid (below_drewN (Below.refl w.heap.size w) nq)
  generalize w.drewN nq = w1 at HB ⊢
  go_wp2_with fail
  go_ret
  exact ⟨rfl, But.of HB.out, HL.out.keep HB.out⟩
def RunePost (c : Nat) (s : ByteArray) (x : Option (Nat × Nat)) (w : World) (e : Ending) (w' : World) : Prop :=
  But c w w' ∧ ((∃ r j, x = some (r, j) ∧ e = .returned (.int .i32 (r : Int)) ∧ PL c s j w') ∨ (x = none ∧ e = refusedT 2))
set_option maxHeartbeats 1000000 in
set_option maxRecDepth 100000 in
theorem code_any (c : Nat) (s : ByteArray) (i : Nat) (w : World) (h : PL c s i w) (hs : s.size ≤ 4000) (hi : i ≤ s.size) :
    Calls Tryd.prog 133 #[.pointer (some ⟨c, 0, none⟩)] w (RunePost c s ((hex4 s i).bind fun a => low s (i + 4) a) w) := by
  have HF := hid (four_any c s i w h hs hi)
  clear h
  go_enter Tryd.func133, Tryd.ntmps133
  go_wp2_with fail
  refine HF.out.mono ?_
  rintro e w1 ⟨hB1, ⟨a, ha, rfl, hL1⟩ | ⟨ha, rfl⟩⟩
  · have HB1 := hid hB1
    have HL1 := hid hL1
    have ha2 := (hexN_lt ha).1
    have ha3 : i + 4 ≤ s.size := (hexN_lt ha).2 (by omega)
    have HX : Hid (((hex4 s i).bind fun a => low s (i + 4) a) = low s (i + 4) a) := by show _ = _; rw [ha]; rfl
    clear hB1 hL1 HF ha
    have ha4 : a < 65536 := ha2
    clear ha2
    by_cases h1 : a < 55296 ∨ 57343 < a
    · have HW : Hid (low s (i + 4) a = some (a, i + 4)) := by show _ = _; unfold low; rw [if_pos h1]
      by_cases h2 : a < 55296
      · have y1 : decide ((a : Int) < 55296) = true := decide_eq_true (by omega)
        go_wp2_with fail
        go_ret
        exact ⟨HB1.out, Or.inl ⟨a, i + 4, HX.out.trans HW.out, rfl, HL1.out⟩⟩
      · have y1 : decide ((a : Int) < 55296) = false := decide_eq_false (by omega)
        have y2 : (57343 : Int) < (a : Int) := by omega
        go_wp2_with fail
        go_ret
        exact ⟨HB1.out, Or.inl ⟨a, i + 4, HX.out.trans HW.out, rfl, HL1.out⟩⟩
    · have y1 : decide ((a : Int) < 55296) = false := decide_eq_false (by omega)
      have y2 : decide ((57343 : Int) < (a : Int)) = false := decide_eq_false (by omega)
      by_cases h2 : 56319 < a
      · have HW : Hid (low s (i + 4) a = none) := by show _ = _; unfold low; rw [if_neg h1, if_pos h2]
        have y3 : decide ((56319 : Int) < (a : Int)) = true := decide_eq_true (by omega)
        clear h1 h2
        go_wp2_with fail
        exact ⟨rfl, HB1.out, Or.inr ⟨HX.out.trans HW.out, rfl⟩⟩
      · have y3 : decide ((56319 : Int) < (a : Int)) = false := decide_eq_false (by omega)
        have HW : Hid (low s (i + 4) a = if cB s (i + 4) = 92 ∧ cB s (i + 4 + 1) = 117 then (hex4 s (i + 4 + 2)).bind fun b => if b < 56320 ∨ 57343 < b then none else some (65536 + 1024 * (a - 55296) + (b - 56320), i + 4 + 6) else none) := by show _ = _; unfold low; rw [if_neg h1, if_neg h2]
        have H12 : Hid (55296 ≤ a ∧ a ≤ 56319) := by show _ ∧ _; omega
        clear h1 h2
        by_cases h3 : cB s (i + 4) = 92
        · have h3l : i + 4 < s.size := cB_in (by omega)
          go_wp2_with fail
          refine (expect_yes c s (i + 4) 92 w1 HL1.out hs (by omega) (by omega)).mono ?_
          rintro e w2 ⟨rfl, hB2, hL2⟩
          have HB2 := hid (HB1.out.trans hB2)
          have HL2 := hid hL2
          clear hB2 hL2 HB1 HL1
          by_cases h4 : cB s (i + 4 + 1) = 117
          · have h4l : i + 4 + 1 < s.size := cB_in (by omega)
            go_wp2_with fail
            refine (expect_yes c s (i + 4 + 1) 117 w2 HL2.out hs (by omega) (by omega)).mono ?_
            rintro e w3 ⟨rfl, hB3, hL3⟩
            have HB3 := hid (HB2.out.trans hB3)
            have HL3 := hid hL3
            clear hB3 hL3 HB2 HL2
            go_wp2_with fail
            refine (four_any c s (i + 4 + 1 + 1) w3 HL3.out hs (by omega)).mono ?_
            rintro e w4 ⟨hB4, ⟨b, hb, rfl, hL4⟩ | ⟨hb, rfl⟩⟩
            · have HB4 := hid (HB3.out.trans hB4)
              have HL4 := hid hL4
              have hb2 : b < 65536 := (hexN_lt hb).1
              have HY : Hid (low s (i + 4) a = if b < 56320 ∨ 57343 < b then none else some (65536 + 1024 * (a - 55296) + (b - 56320), i + 4 + 6)) := by show _ = _; rw [HW.out, if_pos ⟨h3, h4⟩, hb]; rfl
              clear hB4 hL4 HB3 HL3 hb HW
              by_cases h5 : b < 56320 ∨ 57343 < b
              · have HZ : Hid (low s (i + 4) a = none) := by show _ = _; rw [HY.out, if_pos h5]
                by_cases h6 : b < 56320
                · have z1 : decide ((b : Int) < 56320) = true := decide_eq_true (by omega)
                  go_wp2_with fail
                  exact ⟨rfl, HB4.out, Or.inr ⟨HX.out.trans HZ.out, rfl⟩⟩
                · have z1 : decide ((b : Int) < 56320) = false := decide_eq_false (by omega)
                  have z2 : (57343 : Int) < (b : Int) := by omega
                  go_wp2_with fail
                  exact ⟨rfl, HB4.out, Or.inr ⟨HX.out.trans HZ.out, rfl⟩⟩
              · have HZ : Hid (low s (i + 4) a = some (65536 + 1024 * (a - 55296) + (b - 56320), i + 4 + 6)) := by show _ = _; rw [HY.out, if_neg h5]
                have z1 : decide ((b : Int) < 56320) = false := decide_eq_false (by omega)
                have z2 : decide ((57343 : Int) < (b : Int)) = false := decide_eq_false (by omega)
                go_wp2_with fail
                go_ret
                refine ⟨HB4.out, Or.inl ⟨_, _, HX.out.trans HZ.out, ret_int ?_, HL4.out⟩⟩
                have h12 := H12.out
                have hb12 : 56320 ≤ b ∧ b ≤ 57343 := by omega
                go_num
            · have HB4 := hid (HB3.out.trans hB4)
              have HZ : Hid (low s (i + 4) a = none) := by show _ = _; rw [HW.out, if_pos ⟨h3, h4⟩, hb]; rfl
              clear hB4 HB3 HL3 hb HW
              go_wp2_with fail
              exact ⟨rfl, HB4.out, Or.inr ⟨HX.out.trans HZ.out, rfl⟩⟩
          · have HZ : Hid (low s (i + 4) a = none) := by show _ = _; rw [HW.out, if_neg (fun h => h4 h.2)]
            go_wp2_with fail
            refine (expect_no c s (i + 4 + 1) 117 w2 HL2.out hs (by omega) (by omega)).mono ?_
            rintro e w3 ⟨rfl, hB3⟩
            have HB3 := hid (HB2.out.trans hB3)
            clear hB3
            go_wp2_with fail
            exact ⟨rfl, HB3.out, Or.inr ⟨HX.out.trans HZ.out, rfl⟩⟩
        · have HZ : Hid (low s (i + 4) a = none) := by show _ = _; rw [HW.out, if_neg (fun h => h3 h.1)]
          go_wp2_with fail
          refine (expect_no c s (i + 4) 92 w1 HL1.out hs (by omega) (by omega)).mono ?_
          rintro e w3 ⟨rfl, hB3⟩
          have HB3 := hid (HB1.out.trans hB3)
          clear hB3
          go_wp2_with fail
          exact ⟨rfl, HB3.out, Or.inr ⟨HX.out.trans HZ.out, rfl⟩⟩
  · have HB1 := hid hB1
    have HX : Hid (((hex4 s i).bind fun a => low s (i + 4) a) = none) := by show _ = _; rw [ha]; rfl
    clear hB1 HF ha
    go_wp2_with fail
    exact ⟨rfl, HB1.out, Or.inr ⟨HX.out, rfl⟩⟩
end Go.Proofs.YtknakfpciccoaaaDoor
/- The walks of the program's parser: escapes, letters, texts. -/
namespace Go.Proofs.YtknakfpciccoaaaDoor
open Go.RowKit

set_option maxHeartbeats 2000000 in
set_option maxRecDepth 100000 in
theorem escape_any (c : Nat) (s : ByteArray) (i : Nat) (w : World) (h : PL c s i w) (hs : s.size ≤ 4000) (hi : i ≤ s.size) :
    Calls Tryd.prog 124 #[.pointer (some ⟨c, 0, none⟩)] w (RunePost c s (escR s i) w) := by
  have HN := hid (next_any c s i w h hs hi)
  clear h
  go_enter Tryd.func124, Tryd.ntmps124
  go_wp2_with fail
  refine HN.out.mono ?_
  rintro e w1 ⟨hB1, ⟨hlt, rfl, hL1⟩ | ⟨he, rfl⟩⟩
  · have HB1 := hid hB1
    have HL1 := hid hL1
    have HE : Hid (escR s i = if cB s i = 34 ∨ cB s i = 92 ∨ cB s i = 47 then some (cB s i, i + 1) else if cB s i = 98 then some (8, i + 1) else if cB s i = 102 then some (12, i + 1) else if cB s i = 110 then some (10, i + 1) else if cB s i = 114 then some (13, i + 1) else if cB s i = 116 then some (9, i + 1) else if cB s i = 117 then (hex4 s (i + 1)).bind fun a => low s (i + 5) a else none) := by show _ = _; rfl
    have hx := cB_lt hlt
    clear hB1 hL1 HN
    generalize cB s i = x at HE hx ⊢
    by_cases h34 : x = 34
    · subst h34
      have HZ : Hid (escR s i = some (34, i + 1)) := by show _ = _; rw [HE.out]; rfl
      go_wp2_with fail
      go_ret
      exact ⟨HB1.out, Or.inl ⟨_, _, HZ.out, rfl, HL1.out⟩⟩
    have d34 : ((x : Int) == 34) = false := by rw [beq_eq_false_iff_ne]; omega
    by_cases h92 : x = 92
    · subst h92
      have HZ : Hid (escR s i = some (92, i + 1)) := by show _ = _; rw [HE.out]; rfl
      go_wp2_with fail
      go_ret
      exact ⟨HB1.out, Or.inl ⟨_, _, HZ.out, rfl, HL1.out⟩⟩
    have d92 : ((x : Int) == 92) = false := by rw [beq_eq_false_iff_ne]; omega
    by_cases h47 : x = 47
    · subst h47
      have HZ : Hid (escR s i = some (47, i + 1)) := by show _ = _; rw [HE.out]; rfl
      go_wp2_with fail
      go_ret
      exact ⟨HB1.out, Or.inl ⟨_, _, HZ.out, rfl, HL1.out⟩⟩
    have d47 : ((x : Int) == 47) = false := by rw [beq_eq_false_iff_ne]; omega
    by_cases h98 : x = 98
    · subst h98
      have HZ : Hid (escR s i = some (8, i + 1)) := by show _ = _; rw [HE.out]; rfl
      go_wp2_with fail
      go_ret
      exact ⟨HB1.out, Or.inl ⟨_, _, HZ.out, rfl, HL1.out⟩⟩
    by_cases h102 : x = 102
    · subst h102
      have HZ : Hid (escR s i = some (12, i + 1)) := by show _ = _; rw [HE.out]; rfl
      go_wp2_with fail
      go_ret
      exact ⟨HB1.out, Or.inl ⟨_, _, HZ.out, rfl, HL1.out⟩⟩
    by_cases h110 : x = 110
    · subst h110
      have HZ : Hid (escR s i = some (10, i + 1)) := by show _ = _; rw [HE.out]; rfl
      go_wp2_with fail
      go_ret
      exact ⟨HB1.out, Or.inl ⟨_, _, HZ.out, rfl, HL1.out⟩⟩
    by_cases h114 : x = 114
    · subst h114
      have HZ : Hid (escR s i = some (13, i + 1)) := by show _ = _; rw [HE.out]; rfl
      go_wp2_with fail
      go_ret
      exact ⟨HB1.out, Or.inl ⟨_, _, HZ.out, rfl, HL1.out⟩⟩
    by_cases h116 : x = 116
    · subst h116
      have HZ : Hid (escR s i = some (9, i + 1)) := by show _ = _; rw [HE.out]; rfl
      go_wp2_with fail
      go_ret
      exact ⟨HB1.out, Or.inl ⟨_, _, HZ.out, rfl, HL1.out⟩⟩
    by_cases h117 : x = 117
    · subst h117
      have HZ : Hid (escR s i = (hex4 s (i + 1)).bind fun a => low s (i + 1 + 4) a) := by show _ = _; rw [HE.out]; rfl
      go_wp2_with fail
      refine (code_any c s (i + 1) w1 HL1.out hs (by omega)).mono ?_
      rintro e w2 ⟨hB2, ⟨r, j, hr, rfl, hL2⟩ | ⟨hr, rfl⟩⟩
      · have HB2 := hid (HB1.out.trans hB2)
        have HL2 := hid hL2
        have HR := hid hr
        clear hB2 hL2 hr
        go_wp2_with fail
        go_ret
        exact ⟨HB2.out, Or.inl ⟨_, _, HZ.out.trans HR.out, rfl, HL2.out⟩⟩
      · have HB2 := hid (HB1.out.trans hB2)
        have HR := hid hr
        clear hB2 hr
        go_wp2_with fail
        exact ⟨rfl, HB2.out, Or.inr ⟨HZ.out.trans HR.out, rfl⟩⟩
    have HZ : Hid (escR s i = none) := by show _ = _; rw [HE.out, if_neg (by omega), if_neg h98, if_neg h102, if_neg h110, if_neg h114, if_neg h116, if_neg h117]
    go_wp2_with fail
    exact ⟨rfl, HB1.out, Or.inr ⟨HZ.out, rfl⟩⟩
  · have HB1 := hid hB1
    have HZ : Hid (escR s i = none) := by
      show _ = _
      have : cB s i = 256 := cB_end (by omega)
      unfold escR
      rw [this]
      rfl
    clear hB1 HN he
    go_wp2_with fail
    exact ⟨rfl, HB1.out, Or.inr ⟨HZ.out, rfl⟩⟩

/-- What Go's decoder and its reader of numbers answer, in worlds whose tables are as they were laid. -/
def DecSaid (Tb : World → Prop) : Prop := ∀ (s : ByteArray) (w : World), Tb w → Calls Tryd.prog 125 #[.string s] w fun e w' => e = .returned (.tuple #[.int .i32 ((decG s).1 : Int), .int .i64 ((decG s).2 : Int)]) ∧ Below w.heap.size w w'
def IntSaid (Tb : World → Prop) : Prop := ∀ (s : ByteArray) (w : World), s.size ≤ 4000 → Tb w → Calls Tryd.prog 112 #[.string s, .int .i64 10, .int .i64 64] w fun e w' => Below w.heap.size w w' ∧
  ((∃ v : Int, Lib.parseIntB 64 s.data.toList = .ok v ∧ e = .returned (.tuple #[.int .i64 v, .nilIface])) ∨ ((Lib.parseIntB 64 s.data.toList = .«syntax» ∨ Lib.parseIntB 64 s.data.toList = .range) ∧ ∃ (v : Int) (t : TypeId) (p : Value), e = .returned (.tuple #[.int .i64 v, .iface t p])))
theorem But.stays {Tb : World → Prop} {c : Nat} (hS : Stays Tb c) {w w' : World} (hT : Tb w) (hB : But c w w') (hc : c ≤ w.heap.size) : Tb w' := hS w w' hT (hB.below hc)
set_option maxHeartbeats 2000000 in
set_option maxRecDepth 100000 in
theorem letter_any {Tb : World → Prop} (hD : DecSaid Tb) (c : Nat) (hS : Stays Tb c) (s : ByteArray) (i : Nat) (w : World) (h : PL c s i w) (hT : Tb w) (hs : s.size ≤ 4000) (hi : i ≤ s.size) :
    Calls Tryd.prog 108 #[.pointer (some ⟨c, 0, none⟩)] w (RunePost c s (letS s i) w) := by
  have HL := hid h
  have HT := hid hT
  have HS := hid hS
  have HD := hid hD
  clear h hT hS hD
  by_cases h92 : cB s i = 92
  · have hlt : i < s.size := cB_in (by omega)
    have HA := hid (accept_yes c s i 92 w HL.out hs (by omega) (by omega))
    have HX : Hid (letS s i = escR s (i + 1)) := by show _ = _; unfold letS; rw [if_pos h92]
    clear h92
    go_enter Tryd.func108, Tryd.ntmps108
    go_wp2_with fail
    refine HA.out.mono ?_
    rintro e w1 ⟨rfl, hB1, hL1⟩
    have HB1 := hid hB1
    have HL1 := hid hL1
    clear hB1 hL1 HA
    go_wp2_with fail
    refine (escape_any c s (i + 1) w1 HL1.out hs (by omega)).mono ?_
    rintro e w2 ⟨hB2, ⟨r, j, hr, rfl, hL2⟩ | ⟨hr, rfl⟩⟩
    · have HB2 := hid (HB1.out.trans hB2)
      have HL2 := hid hL2
      have HR := hid (HX.out.trans hr)
      clear hB2 hL2 hr
      go_wp2_with fail
      go_ret
      exact ⟨HB2.out, Or.inl ⟨_, _, HR.out, rfl, HL2.out⟩⟩
    · have HB2 := hid (HB1.out.trans hB2)
      have HR := hid (HX.out.trans hr)
      clear hB2 hr
      go_wp2_with fail
      exact ⟨rfl, HB2.out, Or.inr ⟨HR.out, rfl⟩⟩
  · have HA := hid (accept_no c s i 92 w HL.out hi (by omega))
    have HX : Hid (letS s i = if (decG (suf s i)).1 < 32 ∨ ((decG (suf s i)).1 = 65533 ∧ (decG (suf s i)).2 ≤ 1) then none else some ((decG (suf s i)).1, i + (decG (suf s i)).2)) := by show _ = _; unfold letS; rw [if_neg h92]
    have hdr : (decG (suf s i)).2 ≤ 4000 ∧ (decG (suf s i)).1 ≤ 1114111 := by
      have hz := suf_size s i
      by_cases h0 : (suf s i).size = 0
      · rw [decG_nil h0]; omega
      · have := decode_range (suf s i) (by omega)
        rw [decG_eq (by omega)]
        omega
    clear h92
    go_enter Tryd.func108, Tryd.ntmps108
    go_wp2_with fail
    refine HA.out.mono ?_
    rintro e w1 ⟨rfl, hB1, hL1⟩
    have HB1 := hid hB1
    have HL1 := hid hL1
    have HT1 := hid (But.stays HS.out HT.out hB1 (Nat.le_of_lt HL.out.lt))
    have HT1d := hid (HS.out _ _ HT1.out (below_drew w1 |>.mono (Nat.le_of_lt HL1.out.lt)))
    have HL1d := hid (HL1.out.keep (below_drew w1))
    have q0 := HL1.out.q0
    have q1 := HL1.out.q1
    have x1 : (i : Int) ≤ (s.size : Int) := by omega
    clear hB1 hL1 HA
    have HDD : Hid (Calls Tryd.prog 125 #[.string (s.extract i s.size)] w1.drew fun e w' => e = .returned (.tuple #[.int .i32 ((decG (suf s i)).1 : Int), .int .i64 ((decG (suf s i)).2 : Int)]) ∧ Below w1.drew.heap.size w1.drew w') := HD.out _ _ HT1d.out
    have HSS : Hid (∀ wx : World, Below w1.drew.heap.size w1.drew wx → wx.cell? ⟨c, 0, none⟩ = some (.string s) ∧ wx.cell? ⟨c, 1, none⟩ = some (.int .i64 i)) := by
      intro wx hx
      have := HL1d.out.keep hx
      exact ⟨this.q0, this.q1⟩
    generalize (decG (suf s i)).1 = r at HX hdr HDD
    generalize (decG (suf s i)).2 = n at HX hdr HDD
    obtain ⟨hd1, hd2⟩ := hdr
    go_wp2_with fail
    go_region_held (fun wx => wx.cell? ⟨c, 0, none⟩ = some (.string s) ∧ wx.cell? ⟨c, 1, none⟩ = some (.int .i64 i)) (go_keep) ((go_at_call 125; refine HDD.out.mono ?_; rintro e w2 ⟨rfl, hb2⟩; have hc2 := HSS.out _ hb2))
    have HL2 := hid (HL1d.out.keep hb2)
    have HB2 := hid (HB1.out.trans ((But.of (below_drew w1)).trans (But.of hb2)))
    have r1 := HL2.out.q1
    have r2 := HL2.out.f1
    clear hb2 hc2 q0 q1 HDD HSS HL1d HT1d
    by_cases h1 : r < 32
    · have HZ : Hid (letS s i = none) := by show _ = _; rw [HX.out, if_pos (Or.inl h1)]
      have y1 : decide ((r : Int) < 32) = true := decide_eq_true (by omega)
      clear h1
      go_wp2_with fail
      exact ⟨rfl, HB2.out, Or.inr ⟨HZ.out, rfl⟩⟩
    · have y1 : decide ((r : Int) < 32) = false := decide_eq_false (by omega)
      by_cases h2 : r = 65533
      · have y2 : ((r : Int) == 65533) = true := by rw [beq_iff_eq]; omega
        by_cases h3 : n ≤ 1
        · have HZ : Hid (letS s i = none) := by show _ = _; rw [HX.out, if_pos (Or.inr ⟨h2, h3⟩)]
          have y3 : decide ((n : Int) ≤ 1) = true := decide_eq_true (by omega)
          clear h1 h2 h3
          go_wp2_with fail
          exact ⟨rfl, HB2.out, Or.inr ⟨HZ.out, rfl⟩⟩
        · have HZ : Hid (letS s i = some (r, i + n)) := by show _ = _; rw [HX.out, if_neg (by omega)]
          have y3 : decide ((n : Int) ≤ 1) = false := decide_eq_false (by omega)
          clear h1 h2 h3
          go_wp2_with fail
          go_ret
          exact ⟨HB2.out.trans (But.set w2 c 1 _), Or.inl ⟨_, _, HZ.out, rfl, HL2.out.set (i + n)⟩⟩
      · have HZ : Hid (letS s i = some (r, i + n)) := by show _ = _; rw [HX.out, if_neg (by omega)]
        have y2 : ((r : Int) == 65533) = false := by rw [beq_eq_false_iff_ne]; omega
        clear h1 h2
        go_wp2_with fail
        go_ret
        exact ⟨HB2.out.trans (But.set w2 c 1 _), Or.inl ⟨_, _, HZ.out, rfl, HL2.out.set (i + n)⟩⟩
end Go.Proofs.YtknakfpciccoaaaDoor
/- The walks of the program's parser: texts, numbers, words. -/
namespace Go.Proofs.YtknakfpciccoaaaDoor
open Go.RowKit

theorem rowF_move {w w' : World} {lo : Nat} {e : TypeId} {size n : Nat} {v : Value} {xs : List Value} (h : w.ownsRowF lo e size v n xs) (hb : ∀ b, lo ≤ b → b < w.heap.size → w'.heap[b]? = w.heap[b]?) : w'.ownsRowF lo e size v n xs := by
  refine ⟨h.1, ?_⟩
  rcases h.2 with hn | ⟨g, cap, cur, fz, rfl, hb0, hg, rest⟩
  · exact .inl hn
  · exact .inr ⟨g, cap, cur, fz, rfl, hb0, (hb g hb0 (Array.getElem?_eq_some_iff.1 hg).1).trans hg, rest⟩
theorem builderAt_but {T e : TypeId} {B b c : Nat} {p : Value} {bs : List Value} {w w' : World} (h : Lib.BuilderAtF T e B b p bs w) (hB : But c w w') (hc : c < B) : Lib.BuilderAtF T e B b p bs w' := by
  have hlt := h.lt
  obtain ⟨h0, v, hb, hown, hne⟩ := h
  exact ⟨h0, v, (hB.block b hlt (by omega)).trans hb, rowF_move hown (fun k h1 h2 => hB.block k h2 (by omega)), hne⟩
theorem builder_but {T e : TypeId} {B b c : Nat} {bs : List Value} {w w' : World} (h : Lib.IsBuilderF T e B b bs w) (hB : But c w w') (hc : c < B) : Lib.IsBuilderF T e B b bs w' :=
  h.elim (fun x => .inl (builderAt_but x hB hc)) (fun x => .inr (builderAt_but x hB hc))
theorem But.over {c : Nat} {w1 wr w' : World} (h : But c w1 wr) (hb : Below w1.heap.size wr w') : But c w1 w' :=
  ⟨hb.os.trans h.os, hb.tape.trans h.tape, hb.output.trans h.output, Nat.le_trans h.size hb.size, fun i hi hc => (hb.block i hi).trans (h.block i hi hc)⟩
theorem writeRune_any (B b : Nat) (acc : List UInt8) (r : Nat) (w : World) (hr : r ≤ 1114111) (h : Lib.IsBuilderF 110 5 B b (Lib.byteCells acc) w) (hl : acc.length ≤ 1000000) (hB : B ≤ w.heap.size) :
    Calls Tryd.prog 107 #[.pointer (some ⟨b, 0, none⟩), .int .i32 (r : Int)] w fun e w' => e = .returned (.tuple #[.int .i64 (Lib.runeCells (r : Int)).length, .nilIface]) ∧ Lib.IsBuilderF 110 5 B b (Lib.byteCells (acc ++ Lib.encodeRune (r : Int))) w' ∧ Below B w w' := by
  refine (Any.Builder_WriteRune_k Tryd.laysWriteRune Tryd.extraWriteRune B b (Lib.byteCells acc) (r : Int) (by omega) (by omega) w h (by rw [Lib.byteCells_length]; omega) hB).mono ?_
  rintro e w' ⟨rfl, h1, b1, _⟩
  refine ⟨rfl, Or.inr ?_, b1⟩
  rw [Lib.byteCells_append, Lib.byteCells_encodeRune]
  exact h1
theorem string_any (B b : Nat) (acc : List UInt8) (w : World) (h : Lib.IsBuilderF 110 5 B b (Lib.byteCells acc) w) (hB : B ≤ w.heap.size) :
    Calls Tryd.prog 109 #[.pointer (some ⟨b, 0, none⟩)] w fun e w' => e = .returned (.string (baL acc)) ∧ Below B w w' := by
  refine (Any.Builder_String_any_k Tryd.laysString Tryd.extraString B b acc w h hB).mono ?_
  rintro e w' ⟨rfl, _, b1, _⟩
  exact ⟨rfl, b1⟩
def StrPost (c : Nat) (s : ByteArray) (i : Nat) (w : World) (e : Ending) (w' : World) : Prop :=
  But c w w' ∧ ((∃ x j, txtS s i = some (x, j) ∧ e = .returned (.string x) ∧ PL c s j w') ∨ (txtS s i = none ∧ e = refusedT 2))
theorem txtS_of {s : ByteArray} {i : Nat} (h : cB s i = 34) : txtS s i = (txtN s (s.size + 1) (i + 1)).map fun p => (baL p.1, p.2) := by unfold txtS; rw [if_pos h]
theorem txtS_not {s : ByteArray} {i : Nat} (h : cB s i ≠ 34) : txtS s i = none := by unfold txtS; rw [if_neg h]
set_option maxHeartbeats 2000000 in
set_option maxRecDepth 100000 in
theorem str_any {Tb : World → Prop} (hD : DecSaid Tb) (c : Nat) (hS : Stays Tb c) (s : ByteArray) (i : Nat) (w : World) (h : PL c s i w) (hT : Tb w) (hs : s.size ≤ 4000) (hi : i ≤ s.size) :
    Calls Tryd.prog 93 #[.pointer (some ⟨c, 0, none⟩)] w (StrPost c s i w) := by
  have HL := hid h
  have HT := hid hT
  have HS := hid hS
  have HD := hid hD
  clear h hT hS hD
  by_cases h34 : cB s i = 34
  · have hlt : i < s.size := cB_in (by omega)
    have HA := hid (expect_yes c s i 34 w HL.out hs (by omega) (by omega))
    have HX := hid (txtS_of h34)
    clear h34
    go_enter Tryd.func93, Tryd.ntmps93
    go_wp2_with fail
    refine HA.out.mono ?_
    rintro e w1 ⟨rfl, hB1, hL1⟩
    have HB1 := hid hB1
    have HL1 := hid hL1
    have hc1 := hL1.lt
    have HT1 := hid (But.stays HS.out HT.out hB1 (Nat.le_of_lt HL.out.lt))
    clear hB1 hL1 HA
    have HF : Hid (Lib.IsBuilderF 110 5 w1.heap.size w1.heap.size (Lib.byteCells []) (w1.alloc (.cells #[.pointer none, .slice none 0 0] 110))) := Lib.IsBuilderF.of (Lib.fresh_isBuilder 110 5 w1)
    have HBa : Hid (But c w1 (w1.alloc (.cells #[.pointer none, .slice none 0 0] 110))) := But.of ((Below.refl _ _).alloc (Nat.le_refl _) _)
    have HLa := hid (HL1.out.keep ((Below.refl _ _).alloc (Nat.le_refl _) (.cells #[.pointer none, .slice none 0 0] 110)))
    go_wp2_with fail
    go_loopg [] (s.size - (i + 1)) (fun g wr => ∃ (k n : Nat) (acc : List UInt8), g = s.size - k ∧ k ≤ s.size ∧ s.size + 1 ≤ n + k ∧ acc.length ≤ 4 * k ∧ Hid (PL c s k wr) ∧ Hid (Lib.IsBuilderF 110 5 w1.heap.size w1.heap.size (Lib.byteCells acc) wr) ∧ Hid (But c w1 wr) ∧ Hid (txtN s (s.size + 1) (i + 1) = (txtN s n k).map fun p => (acc ++ p.1, p.2)))
    case atStart => exact ⟨i + 1, s.size + 1, [], rfl, by omega, by omega, by simp, HLa, HF, HBa, by show _ = _; cases txtN s (s.size + 1) (i + 1) <;> rfl⟩
    case round =>
      clear HF HBa HLa
      obtain ⟨k, n, acc, rfl, hk, hn, hacc, HLk, HF, HBk, HN⟩ := hrel
      obtain ⟨n, rfl⟩ : ∃ m, n = m + 1 := ⟨n - 1, by omega⟩
      by_cases hq : cB s k = 34
      · have HZ : Hid (txtS s i = some (baL acc, k + 1)) := by
          show _ = _
          rw [HX.out, HN.out, txtN_quote hq]
          simp
        go_wp2_with fail
        refine (accept_yes c s k 34 wr HLk.out hs (by omega) (by omega)).mono ?_
        rintro e w2 ⟨rfl, hB2, hL2⟩
        have HL2 := hid hL2
        have HF2 := hid (builder_but HF.out hB2 hc1)
        have HB2 := hid (HBk.out.trans hB2)
        clear hB2 hL2 HLk HF HBk
        go_wp2_with fail
        refine (string_any w1.heap.size w1.heap.size acc w2 HF2.out HB2.out.size).mono ?_
        rintro e w3 ⟨rfl, hb3⟩
        have HB3 := hid (HB2.out.over hb3)
        have HL3 := hid (HL2.out.move hb3.size (hb3.block _ hc1))
        clear hb3
        go_wp2_with fail
        go_ret
        exact ⟨HB1.out.trans HB3.out, Or.inl ⟨_, _, HZ.out, rfl, HL3.out⟩⟩
      · go_wp2_with fail
        refine (accept_no c s k 34 wr HLk.out hk (by omega)).mono ?_
        rintro e w2 ⟨rfl, hB2, hL2⟩
        have HL2 := hid hL2
        have HF2 := hid (builder_but HF.out hB2 hc1)
        have HB2 := hid (HBk.out.trans hB2)
        have HT2 := hid (But.stays HS.out HT1.out HB2.out (Nat.le_of_lt hc1))
        clear hB2 hL2 HLk HF HBk
        go_wp2_with fail
        refine (letter_any HD.out c HS.out s k w2 HL2.out HT2.out hs hk).mono ?_
        rintro e w3 ⟨hB3, ⟨r, j, hr, rfl, hL3⟩ | ⟨hr, rfl⟩⟩
        · have HL3 := hid hL3
          have HF3 := hid (builder_but HF2.out hB3 hc1)
          have HB3 := hid (HB2.out.trans hB3)
          have hadv := letS_adv hr
          have HN3 := hid (HN.out.trans (txtN_let (n := n) acc hq hr))
          have hl4 := Lib.runeCells_le (r : Int)
          rw [Lib.runeCells_length] at hl4
          clear hB3 hL3 hr HL2 HF2 HB2 HT2 HN
          go_wp2_with fail
          refine (writeRune_any w1.heap.size w1.heap.size acc r w3 hadv.2.2 HF3.out (by omega) HB3.out.size).mono ?_
          rintro e w4 ⟨rfl, hF4, hb4⟩
          have HL4 := hid (HL3.out.move hb4.size (hb4.block _ hc1))
          have HB4 := hid (HB3.out.over hb4)
          have HF4 := hid hF4
          clear hb4 hF4 HL3 HB3 HF3
          go_wp2_with fail
          go_roundg (s.size - j)
          case rel => exact ⟨j, n, acc ++ Lib.encodeRune (r : Int), rfl, by omega, by omega, by rw [List.length_append]; omega, HL4, HF4, HB4, HN3⟩
          case measure => omega
        · have HB3 := hid (HB1.out.trans (HB2.out.trans hB3))
          have HZ : Hid (txtS s i = none) := by
            show _ = _
            rw [HX.out, HN.out, txtN_none hq hr]
            rfl
          clear hB3 hr
          go_wp2_with fail
          exact ⟨rfl, HB3.out, Or.inr ⟨HZ.out, rfl⟩⟩
  · have HA := hid (expect_no c s i 34 w HL.out hs hi (by omega))
    have HX := hid (txtS_not h34)
    clear h34
    go_enter Tryd.func93, Tryd.ntmps93
    go_wp2_with fail
    refine HA.out.mono ?_
    rintro e w1 ⟨rfl, hB1⟩
    have HB1 := hid hB1
    clear hB1 HA
    go_wp2_with fail
    exact ⟨rfl, HB1.out, Or.inr ⟨HX.out, rfl⟩⟩
end Go.Proofs.YtknakfpciccoaaaDoor
/- The contract of strings.Clone, of the library's shelf, laid at this dump. -/
namespace Go.Proofs
open Go.Shelf Go.RowKit
def Tryd.laysClone_ren : Go.Shelf.Ren := ⟨fun | 316 => 114 | n => n, fun | 37 => 60 | 127 => 133 | n => n, fun n => n⟩
theorem Tryd.laysClone : Go.Proofs.LaysM.n316 Tryd.prog Tryd.laysClone_ren := {
  mixed := by kernel_rfl
  f316 := Tryd.func114.trans (congrArg some (by kernel_rfl))
  t0 := Tryd.underlying0
  a0 := Tryd.isAgg0
  z0 := Tryd.sizeOf0
  v0 := Tryd.zeroValue0
  t3 := Tryd.underlying3
  a3 := Tryd.isAgg3
  z3 := Tryd.sizeOf3
  v3 := Tryd.zeroValue3
  t4 := Tryd.underlying4
  a4 := Tryd.isAgg4
  z4 := Tryd.sizeOf4
  v4 := Tryd.zeroValue4
  t9 := Tryd.underlying9
  a9 := Tryd.isAgg9
  z9 := Tryd.sizeOf9
  v9 := Tryd.zeroValue9
  t37 := Tryd.underlying60
  a37 := Tryd.isAgg60
  z37 := Tryd.sizeOf60
  v37 := Tryd.zeroValue60
  t127 := Tryd.underlying133
  a127 := Tryd.isAgg133
  z127 := Tryd.sizeOf133
  v127 := Tryd.zeroValue133
  t5 := Tryd.underlying5
  a5 := Tryd.isAgg5
  z5 := Tryd.sizeOf5
  v5 := Tryd.zeroValue5
  i0 := by kernel_rfl
  i3 := by kernel_rfl
  i4 := by kernel_rfl
  i5 := by kernel_rfl
  i9 := by kernel_rfl
  i37 := by kernel_rfl
  i127 := by kernel_rfl }
end Go.Proofs
namespace Go.Proofs.YtknakfpciccoaaaDoor
open Go.RowKit
set_option maxHeartbeats 1000000 in
set_option maxRecDepth 100000 in
theorem clone_any (s : ByteArray) (w : World) (hs : s.size ≤ 140737488355328) :
    Calls Tryd.prog 100 #[.string s] w fun e w' => e = .returned (.string s) ∧ Below w.heap.size w w' := by
  have HC : Hid (Calls Tryd.prog 114 #[.string s] w fun e w' => e = .returned (.string s) ∧ Below w.heap.size w w') := Any.stringslite_Clone Tryd.laysClone s w (by omega)
  go_enter Tryd.func100, Tryd.ntmps100
  go_wp2_with (go_at_call 114; refine HC.out.mono ?_; rintro e w2 ⟨rfl, hb⟩)
  go_ret
  exact ⟨rfl, hb⟩
end Go.Proofs.YtknakfpciccoaaaDoor
/- The walks of the program's reader: take, number, text. -/
namespace Go.Proofs.YtknakfpciccoaaaDoor
open Go.RowKit

abbrev refused (n : Int) : Ending := .panicked [{ v := .iface 66 (.int .i64 n), recovered := false }]
/-- The reader's cell holds what is left. -/
structure Left (c : Nat) (s : ByteArray) (w : World) : Prop where
  cell : w.cell? ⟨c, 0, none⟩ = some (.string s)
  free : w.frozen? ⟨c, 0, none⟩ = false
  lt : c < w.heap.size
theorem Left.set {c : Nat} {s : ByteArray} {w : World} (h : Left c s w) (x : ByteArray) : Left c x (w.setCell ⟨c, 0, none⟩ (.string x)) := by
  refine ⟨?_, ?_, by simp [World.setCell]; exact h.lt⟩
  · have := h.cell
    simp [go_sem, this]
  · have := h.free
    simp [go_sem, this]
theorem Left.keep {c : Nat} {s : ByteArray} {w w' : World} (h : Left c s w) (hb : Below w.heap.size w w') : Left c s w' :=
  ⟨by rw [hb.cell (p := ⟨c, 0, none⟩) h.lt]; exact h.cell, by rw [hb.frozen (p := ⟨c, 0, none⟩) h.lt]; exact h.free, Nat.lt_of_lt_of_le h.lt hb.size⟩

set_option maxHeartbeats 1000000 in
set_option maxRecDepth 100000 in
theorem take_bytes (c : Nat) (s : ByteArray) (n : Nat) (w : World) (h : Left c s w) (hs : s.size ≤ 140737488355328) :
    Calls Tryd.prog 99 #[.pointer (some ⟨c, 0, none⟩), .int .u64 n] w fun e w' => (n ≤ s.size ∧ e = .returned (.string (pre s n)) ∧ w' = w.setCell ⟨c, 0, none⟩ (.string (suf s n))) ∨ (s.size < n ∧ e = refused 6 ∧ w' = w) := by
  have q0 := h.cell
  have q1 := h.free
  clear h
  by_cases hlt : n ≤ s.size
  · go_enter Tryd.func99, Tryd.ntmps99
    go_wp2_with fail
    go_ret
    exact Or.inl ⟨hlt, rfl, rfl⟩
  · go_enter Tryd.func99, Tryd.ntmps99
    go_wp2_with fail
    exact ⟨rfl, Or.inr ⟨by omega, rfl, rfl⟩⟩

/-- The bytes of a text, as a list of their own. -/
theorem bytes_of (w : World) (s : ByteArray) : ∃ cap W, (convert 9 60 (.string s)).run Tryd.prog w = .ok (.slice (some ⟨w.heap.size, 0, none⟩) s.size cap) W ∧ Below w.heap.size w W ∧ w.heap.size < W.heap.size ∧ ∀ j (h : j < s.size), W.cell? ⟨w.heap.size, j, none⟩ = some (.int .u8 ((s[j]'h).toNat : Nat)) := by
  refine ⟨_, _, run_bytes_of_string (P := Tryd.prog) w 9 60 5 s Tryd.underlying9 Tryd.underlying60 Tryd.underlying5, (Below.refl _ _).drew.alloc (Nat.le_refl _) _, by simp, fun j h => ?_⟩
  have hh : j < s.data.size := h
  have e : (w.drew.alloc (.cells (bytesRow s (grownCap w s.size 0 5)) 5 ((bytesRow s (grownCap w s.size 0 5)).size, (bytesRow s (grownCap w s.size 0 5)).size + 1))).heap[w.heap.size]? = some (.cells (bytesRow s (grownCap w s.size 0 5)) 5 ((bytesRow s (grownCap w s.size 0 5)).size, (bytesRow s (grownCap w s.size 0 5)).size + 1)) := heap_alloc_new w.drew _
  rw [cell_of_row _ _ j _ 5 _ e]
  simp [bytesRow, Array.getElem?_append]
  rw [if_pos h, Array.getElem?_eq_getElem hh]
  rfl
def NumPost (c : Nat) (s : ByteArray) (b : Nat) (w : World) (e : Ending) (w' : World) : Prop :=
  But c w w' ∧ ((b ≤ s.size ∧ e = .returned (.int .u64 (numB (pre s b))) ∧ Left c (suf s b) w') ∨ (s.size < b ∧ e = refused 6))
set_option maxHeartbeats 1000000 in
set_option maxRecDepth 100000 in
theorem number_bytes (c : Nat) (s : ByteArray) (b : Nat) (w : World) (h : Left c s w) (hb : b ≤ 8) (hs : s.size ≤ 140737488355328) :
    Calls Tryd.prog 76 #[.pointer (some ⟨c, 0, none⟩), .int .u64 b] w (NumPost c s b w) := by
  have HL := hid h
  have HT := hid (take_bytes c s b w h hs)
  clear h
  go_enter Tryd.func76, Tryd.ntmps76
  go_wp2_with fail
  refine HT.out.mono ?_
  rintro e w1 (⟨h1, rfl, rfl⟩ | ⟨h1, rfl, rfl⟩)
  · obtain ⟨cap, W, hcv, hbW, hsW, hcl⟩ := bytes_of (w.setCell ⟨c, 0, none⟩ (.string (suf s b))) (pre s b)
    have hps := pre_size h1
    have HL1 := hid (HL.out.set (suf s b))
    have hhs : (w.setCell ⟨c, 0, none⟩ (.string (suf s b))).heap.size = w.heap.size := by simp [World.setCell]
    rw [hhs] at hcv hbW hsW hcl
    have HB0 := hid (But.set w c 0 (.string (suf s b)))
    have HL2 := hid (HL1.out.keep (hhs ▸ hbW))
    have HB1 := hid (HB0.out.trans (But.of (hhs ▸ hbW)))
    have Hps := hid hps
    have Hcl := hid hcl
    have l8 : (pre s b).size ≤ 8 := by omega
    clear hbW hhs hps hcl HL1 HB0
    go_wp2_with fail
    go_loopg [5, 7, 13] (pre s b).size (fun g n z i wr => ∃ k : Nat, g = (pre s b).size - k ∧ k ≤ (pre s b).size ∧ i = .int .i64 k ∧ n = .int .u64 (numTo (pre s b) k) ∧ wr = W)
    case atStart => exact ⟨0, rfl, Nat.zero_le _, rfl, rfl, rfl⟩
    case round =>
      obtain ⟨k, rfl, hk, rfl, rfl, rfl⟩ := hrel
      by_cases hlt : k < (pre s b).size
      · have hc0 := Hcl.out k hlt
        have hn1 := numTo_succ (pre s b) k hlt
        have hn2 : numTo (pre s b) k < 72057594037927936 := Nat.lt_of_lt_of_le (numTo_lt (pre s b) k) (Nat.pow_le_pow_right (show 0 < 256 by decide) (show k ≤ 7 by omega))
        have hx := ((pre s b)[k]'hlt).toNat_lt
        generalize ((pre s b)[k]'hlt).toNat = x at hc0 hn1 hx
        have Hn1 := hid hn1
        clear hn1
        go_wp2_with fail
        go_roundg ((pre s b).size - (k + 1))
        case rel => exact ⟨k + 1, rfl, by omega, by go_num, by rw [Hn1.out]; go_num, rfl⟩
        case measure => omega
      · have Hk : Hid (k = (pre s b).size) := by show k = _; omega
        go_wp2_with fail
        go_ret
        refine ⟨HB1.out, Or.inl ⟨h1, ?_, HL2.out⟩⟩
        rw [Hk.out, numTo_all]
        rfl
  · go_wp2_with fail
    exact ⟨rfl, But.refl _ _, Or.inr ⟨h1, rfl⟩⟩
def TextPost (c : Nat) (s : ByteArray) (b : Nat) (w : World) (e : Ending) (w' : World) : Prop :=
  But c w w' ∧ ((∃ x r, szB s b = some (x, r) ∧ e = .returned (.string x) ∧ Left c r w') ∨ (szB s b = none ∧ e = refused 6))
theorem szB_short {s : ByteArray} {b : Nat} (h : s.size < b) : szB s b = none := by unfold szB; rw [if_pos h]
theorem szB_none {s : ByteArray} {b : Nat} (h : b ≤ s.size) (h2 : (suf s b).size < numB (pre s b)) : szB s b = none := by unfold szB; rw [if_neg (by omega), if_pos h2]
theorem szB_some {s : ByteArray} {b : Nat} (h : b ≤ s.size) (h2 : numB (pre s b) ≤ (suf s b).size) : szB s b = some (pre (suf s b) (numB (pre s b)), suf (suf s b) (numB (pre s b))) := by unfold szB; rw [if_neg (by omega), if_neg (by omega)]
theorem numB_pre_lt {s : ByteArray} {b : Nat} (h : b ≤ s.size) (hb : b ≤ 8) : numB (pre s b) < 18446744073709551616 := by
  have h1 := numB_lt (pre s b)
  rw [pre_size h] at h1
  exact Nat.lt_of_lt_of_le h1 (Nat.pow_le_pow_right (show 0 < 256 by decide) hb)
set_option maxHeartbeats 1000000 in
set_option maxRecDepth 100000 in
theorem text_bytes (c : Nat) (s : ByteArray) (b : Nat) (w : World) (h : Left c s w) (hb : b ≤ 8) (hs : s.size ≤ 140737488355328) :
    Calls Tryd.prog 77 #[.pointer (some ⟨c, 0, none⟩), .int .u64 b] w (TextPost c s b w) := by
  have HN := hid (number_bytes c s b w h hb hs)
  clear h
  go_enter Tryd.func77, Tryd.ntmps77
  go_wp2_with fail
  refine HN.out.mono ?_
  rintro e w1 ⟨B1, ⟨h1, rfl, L1⟩ | ⟨h1, rfl⟩⟩
  · have HB1 := hid B1
    have hsz := suf_size s b
    have hnn := numB_pre_lt h1 hb
    have HT := hid (take_bytes c (suf s b) (numB (pre s b)) w1 L1 (by omega))
    have HL1 := hid L1
    clear B1 L1
    go_wp2_with fail
    refine HT.out.mono ?_
    rintro e w2 (⟨h2, rfl, rfl⟩ | ⟨h2, rfl, rfl⟩)
    · have Hsz := hid (szB_some h1 h2)
      have hps := pre_size h2
      have HC := hid (clone_any (pre (suf s b) (numB (pre s b))) (w1.setCell ⟨c, 0, none⟩ (.string (suf (suf s b) (numB (pre s b))))) (by omega))
      have HL2 := hid (HL1.out.set (suf (suf s b) (numB (pre s b))))
      have HB2 := hid (HB1.out.trans (But.set w1 c 0 (.string (suf (suf s b) (numB (pre s b))))))
      clear hps
      go_wp2_with fail
      refine HC.out.mono ?_
      rintro e w3 ⟨rfl, hb3⟩
      have HL3 := hid (HL2.out.keep hb3)
      have HB3 := hid (HB2.out.trans (But.of hb3))
      clear hb3
      go_wp2_with fail
      go_ret
      exact ⟨HB3.out, Or.inl ⟨_, _, Hsz.out, rfl, HL3.out⟩⟩
    · go_wp2_with fail
      exact ⟨rfl, HB1.out, Or.inr ⟨szB_none h1 h2, rfl⟩⟩
  · have HB1 := hid B1
    clear B1
    go_wp2_with fail
    exact ⟨rfl, HB1.out, Or.inr ⟨szB_short h1, rfl⟩⟩
theorem text_some {c : Nat} {s : ByteArray} {b : Nat} {w : World} {x r : ByteArray} (hz : szB s b = some (x, r)) (h : Left c s w) (hb : b ≤ 8) (hs : s.size ≤ 140737488355328) :
    Calls Tryd.prog 77 #[.pointer (some ⟨c, 0, none⟩), .int .u64 b] w fun e w' => e = .returned (.string x) ∧ But c w w' ∧ Left c r w' := by
  refine (text_bytes c s b w h hb hs).mono ?_
  rintro e w' ⟨hB, ⟨x', r', hz', rfl, hL⟩ | ⟨hz', _⟩⟩
  · rw [hz] at hz'
    cases hz'
    exact ⟨rfl, hB, hL⟩
  · rw [hz] at hz'
    cases hz'
theorem text_none {c : Nat} {s : ByteArray} {b : Nat} {w : World} (hz : szB s b = none) (h : Left c s w) (hb : b ≤ 8) (hs : s.size ≤ 140737488355328) :
    Calls Tryd.prog 77 #[.pointer (some ⟨c, 0, none⟩), .int .u64 b] w fun e w' => e = refused 6 ∧ But c w w' := by
  refine (text_bytes c s b w h hb hs).mono ?_
  rintro e w' ⟨hB, ⟨x', r', hz', rfl, hL⟩ | ⟨hz', rfl⟩⟩
  · rw [hz] at hz'
    cases hz'
  · exact ⟨rfl, hB⟩
end Go.Proofs.YtknakfpciccoaaaDoor
